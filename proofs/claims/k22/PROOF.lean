import PyProof.Rows.All
import Wide.All
import OpenK.AllK
import Wide.FinOn
import Lean
import PyProof.EqAt
import PyProof.EqKinds
import PyProof.TupleCall
import PySem.Challenge.RW_handflow_k22_waits_of_deeds
set_option Elab.async false
set_option linter.all false
set_option maxRecDepth 100000
section
open PySem PySem.Spec PyProof.Rows PySem.W
theorem Qd {p:Prop}(h:p:=by decide +kernel):p:=h
theorem Qk {p:Prop}(h:p:=by decide):p:=h
theorem Qo {p:Prop}(h:p:=by omega):p:=h
abbrev Qq:=Value->Shared->Prop
def q9:=@wpAny_bind
def qa:=@List.length_map
def qb:=@Heap.get?_push_of_some
def qc:=@List.length_append
def qd:=@List.getElem?_eq_getElem
def qe:=@wpAny_pure
def qf:=@Nat.le_refl
def qg:=@List.getElem?_eq_some_iff
def qh:=@PySem.F.plainAttrs_list
def qi:=@List.mem_append
def qj:=@Bool.false_ne_true
def qk:=@List.getD_eq_getElem?_getD
def ql:=@List.mem_cons_of_mem
def qo:=@List.mem_cons_self
def qp:=@Heap.get?_push_size
def qq:=@Heap.lt_size
def qr:=@List.take_add_one
def qt:=@Nat.zero_le
def qu:=@List.mem_cons
def qv:=@PySem.F.slot_list_append
def qw:=@PySem.F.type_list_append
def qx:=@List.append_nil
def qy:=@Nat.le_trans
def qz:=@List.mem_of_getElem?
def qA:=@List.length_cons
def qC:=@List.size_toArray
def qD:=@Nat.lt_of_lt_of_le
def qE:=@List.getElem?_map
def qF:=@List.flatMap_cons
def qG:=@Nat.ne_of_lt
def qH:=@List.take_length
def qI:=@List.mem_append_right
def qJ:=@Option.some.inj
def qK:=@List.length_take
def qL:=@List.getElem?_append_right
def qM:=@Array.length_toList
def qN:=@List.append_assoc
def qO:=@List.map_append
def qP:=@Option.map_eq_some_iff
def qQ:=@List.not_mem_nil
def qR:=@List.map_cons
def qS:=@List.mem_singleton
def qT:=@Array.getElem?_toList
def qU:=@List.flatMap_append
def qV:=@List.mem_append_left
def qW:=@wpAny_setState_of
def qX:=@Int.toNat_natCast
def qY:=@List.length_drop
def qZ:=@if_neg
def Q0:=@if_pos
end
namespace L2
open PySem PySem.Spec PyProof.Rows PySem.W
def inClass (s:Stmt) (j:Nat):Stmt:=match s with
 |.ClassDef _ _ _ body _ _ _ _ _ _ _=>body.getD j (.Pass ⟨0,0,0,0⟩)
 |_=>.Pass ⟨0,0,0,0⟩
def gf (s:Stmt):Arguments:=match s with
 |.FunctionDef _ a _ _ _ _ _ _ _ _=>a
 |_=>{ posonlyargs:=[],args:=[],vararg:=none,kwonlyargs:=[],kw_defaults:=[],kwarg:=none,defaults:=[] }
def fi (s:Stmt):List Stmt:=match s with
 |.FunctionDef _ _ b _ _ _ _ _ _ _=>b
 |_=>[]
def aI (s:Stmt):Scope:=match s with
 |.FunctionDef _ _ _ _ _ _ sc _ _ _=>sc
 |_=>{ kind:=.function,names:=[],isGenerator:=false,isCoroutine:=false }
end L2
namespace K22
open PySem L2
def top (i:Nat):Stmt:=PySem.Challenge.pw_handflow_k22_waits_of_deeds.main.body.getD i (.Pass ⟨0,0,0,0⟩)
noncomputable def defPos (s:Stmt):Pos:=match s with
 |.FunctionDef _ _ _ _ _ _ _ _ _ p=>p
 |_=>⟨0,0,0,0⟩
abbrev vs (x:String) (t:Nat):Value:=.str (Str.ofString x) t
abbrev de (P:Params) (x:String) (t:Nat) (v:Value):DictEntry:=⟨PyData.keyHash P (Str.ofString x),vs x t,v⟩
abbrev co (a b:String) (t l n r:Nat) (x y z u:Value) (m:Nat):Obj:=Obj.mk (.type "code") none (Data.fields #[vs a t,vs b (t+1),vs "/claim/cut.py" (t+2),.int l 0,.int n 0,.int 0 0,.int 0 0,.int 3 0,.ref r,.bool true,.int 181 0,.ref (r+1),x,y,z,u,.int m 0,.int l 0,vs "/claim/cut.py" (m+1)]) #[]
abbrev fo (a b:String) (s:Stmt) (m:String) (t c:Nat):Obj:=Obj.mk (.type "function") none (.func (PySem.W.fnOf a b (gf s) (fi s) (aI s) .none .none .none (vs m t) none (.ref c) .none)) #[]
noncomputable def hk:Params->PySem.W.Frag:=fun P=>
 (nat_lit 2,Obj.mk .none none (Data.dict #[]) #[]) ::
 (nat_lit 3,Obj.mk (.type "dict") none (Data.dict #[de P "__name__" 165 (vs "law_handflow_k22_waits_of_deeds" 450),de P "__doc__" 166 .none,de P "__package__" 167 .none,de P "__loader__" 168 (.builtin "__main__.__loader__#opaque"),de P "__spec__" 169 .none,de P "__annotations__" 170 (.ref 6),de P "__builtins__" 171 (.ref 4),de P "__file__" 173 (vs "/claim/cut.py" 172),de P "__cached__" 174 .none,de P "INTO" 190 (.int 3 189),de P "OUT_OF" 192 (.int 4 191),de P "waits_of" 200 (.ref 21),de P "waits_behind" 206 (.ref 26),de P "waits_for_cards" 218 (.ref 33),de P "waits_by" 224 (.ref 38),de P "numbers_by_store" 235 (.ref 45),de P "LOOPS" 240 (.ref 46),de P "LOOKERS" 243 (.ref 47),de P "all_deeds" 253 (.ref 54),de P "blocks_within" 260 (.ref 61),de P "names_in" 266 (.ref 66),de P "read_by_set" 273 (.ref 73),de P "OUTLET" 277 (vs ">" 276),de P "OUTLET_KEEPERS" 280 (.ref 74),de P "touched" 289 (.ref 81),de P "other_cards_in" 296 (.ref 88),de P "put_card" 303 (.ref 95),de P "get_card" 310 (.ref 102),de P "cards_of" 320 (.ref 109),de P "FlowError" 350 (.ref 126),de P "Starved" 366 (.ref 139),de P "TooMuch" 382 (.ref 151),de P "MOST_DEEDS" 386 (.int 2000 385),de P "deeds_of" 394 (.ref 160),de P "counted" 403 (.ref 167),de P "written" 412 (.ref 174),de P "written_rounds" 421 (.ref 181),de P "written_once" 429 (.ref 188),de P "owner_of" 437 (.ref 195),de P "check_gets" 449 (.ref 202),de P "_law_cell_at" 459 (.ref 209),de P "_law_mixed" 468 (.ref 216),de P "_law_whole" 475 (.ref 223),de P "_law_letters" 486 (.ref 230),de P "_law_spelt" 494 (.ref 237),de P "_law_pool" 511 (.ref 244),de P "_law_simple" 526 (.ref 251),de P "_law_opened" 544 (.ref 258),de P "_law_block" 561 (.ref 265),de P "_law_moves" 572 (.ref 272),de P "_law_reach" 585 (.ref 279),de P "_law_length" 593 (.ref 286),de P "_law_program" 599 (.ref 291),de P "_law_ahead" 605 (.ref 296),de P "_law_number" 616 (.ref 303),de P "_law_owned" 626 (.ref 310),de P "_law_meets" 632 (.ref 315),de P "_law_paper" 640 (.ref 322),de P "_law_words" 646 (.ref 327),de P "law" 665 (.ref 334)] 60) #[]) ::
 (nat_lit 20,co "waits_of" "waits_of" 193 4 2 15 .none (.ref 17) (.ref 18) (.ref 19) 198) ::
 (nat_lit 21,fo "waits_of" "waits_of" (top 3) "handflow.waits" 187 20) ::
 (nat_lit 25,co "waits_behind" "waits_behind" 201 6 3 22 .none .none .none (.ref 24) 204) ::
 (nat_lit 26,fo "waits_behind" "waits_behind" (top 4) "handflow.waits" 187 25) ::
 (nat_lit 32,co "waits_for_cards" "waits_for_cards" 207 19 1 27 .none (.ref 29) (.ref 30) (.ref 31) 216) ::
 (nat_lit 33,fo "waits_for_cards" "waits_for_cards" (top 5) "handflow.waits" 187 32) ::
 (nat_lit 37,co "waits_by" "waits_by" 219 27 3 34 .none .none .none (.ref 36) 222) ::
 (nat_lit 38,fo "waits_by" "waits_by" (top 6) "handflow.waits" 187 37) ::
 (nat_lit 44,co "numbers_by_store" "numbers_by_store" 225 29 2 39 .none (.ref 41) (.ref 42) (.ref 43) 233) ::
 (nat_lit 45,fo "numbers_by_store" "numbers_by_store" (top 7) "handflow.waits" 187 44) ::
 (nat_lit 46,Obj.mk (.type "tuple") none (Data.seq #[vs "while" 238,vs "repeat" 239]) #[]) ::
 (nat_lit 47,Obj.mk (.type "tuple") none (Data.seq #[vs "if" 241,vs "while" 242]) #[]) ::
 (nat_lit 53,co "all_deeds" "all_deeds" 244 38 1 48 .none (.ref 50) (.ref 51) (.ref 52) 251) ::
 (nat_lit 54,fo "all_deeds" "all_deeds" (top 11) "handflow.tree" 236 53) ::
 (nat_lit 60,co "blocks_within" "blocks_within" 254 45 1 55 .none (.ref 57) (.ref 58) (.ref 59) 258) ::
 (nat_lit 61,fo "blocks_within" "blocks_within" (top 12) "handflow.tree" 236 60) ::
 (nat_lit 65,co "names_in" "names_in" 261 51 1 62 .none .none .none (.ref 64) 264) ::
 (nat_lit 66,fo "names_in" "names_in" (top 13) "handflow.tree" 236 65) ::
 (nat_lit 72,co "read_by_set" "read_by_set" 267 58 1 67 .none (.ref 69) (.ref 70) (.ref 71) 271) ::
 (nat_lit 73,fo "read_by_set" "read_by_set" (top 14) "handflow.tree" 236 72) ::
 (nat_lit 74,Obj.mk (.type "tuple") none (Data.seq #[vs "give" 278,vs "while" 279]) #[]) ::
 (nat_lit 80,co "touched" "touched" 281 63 1 75 .none (.ref 77) (.ref 78) (.ref 79) 287) ::
 (nat_lit 81,fo "touched" "touched" (top 18) "handflow.cards" 274 80) ::
 (nat_lit 87,co "other_cards_in" "other_cards_in" 290 69 1 82 .none (.ref 84) (.ref 85) (.ref 86) 294) ::
 (nat_lit 88,fo "other_cards_in" "other_cards_in" (top 19) "handflow.cards" 274 87) ::
 (nat_lit 94,co "put_card" "put_card" 297 75 1 89 .none (.ref 91) (.ref 92) (.ref 93) 301) ::
 (nat_lit 95,fo "put_card" "put_card" (top 20) "handflow.cards" 274 94) ::
 (nat_lit 101,co "get_card" "get_card" 304 77 1 96 .none (.ref 98) (.ref 99) (.ref 100) 308) ::
 (nat_lit 102,fo "get_card" "get_card" (top 21) "handflow.cards" 274 101) ::
 (nat_lit 108,co "cards_of" "cards_of" 311 79 1 103 .none (.ref 105) (.ref 106) (.ref 107) 318) ::
 (nat_lit 109,fo "cards_of" "cards_of" (top 22) "handflow.cards" 274 108) ::
 (nat_lit 110,Obj.mk (.type "tuple") none (Data.seq #[.type "ValueError"]) #[]) ::
 (nat_lit 122,co "__init__" "FlowError.__init__" 335 87 3 117 .none (.ref 119) (.ref 120) (.ref 121) 341) ::
 (nat_lit 123,fo "__init__" "FlowError.__init__" (inClass (top 24) 0) "handflow.errors" 321 122) ::
 (nat_lit 124,Obj.mk (.type "tuple") none (Data.seq #[vs "place" 344]) #[]) ::
 (nat_lit 125,Obj.mk (.type "dict") none (Data.dict #[de P "__module__" 330 (vs "handflow.errors" 321),de P "__firstlineno__" 334 (.int 85 333),de P "__init__" 343 (.ref 123),de P "__static_attributes__" 345 (.ref 124),de P "__weakref__" 347 (.ref 127),de P "__doc__" 348 .none] 3) #[]) ::
 (nat_lit 126,Obj.mk (.type "type") none (Data.cls (ClassData.mk (Str.ofString "FlowError") [.type "ValueError"] [.ref 126,.type "ValueError",.type "Exception",.type "BaseException",.type "object"] 125 (Str.ofString "FlowError") true [] [.ref 139,.ref 151] false none false)) #[some (.ref 110),none,some (vs "FlowError" 323),some (vs "FlowError" 331),some (.builtin "ValueError.__new__"),some (.bool true)]) ::
 (nat_lit 127,Obj.mk (.type "getset_descriptor") none (Data.fields #[vs "__weakref__" 346,.ref 126,.builtin "ExceptionGroup.__weakref__",.none]) #[]) ::
 (nat_lit 130,Obj.mk (.type "tuple") none (Data.seq #[.ref 126]) #[]) ::
 (nat_lit 137,Obj.mk (.type "tuple") none (Data.seq #[]) #[]) ::
 (nat_lit 138,Obj.mk (.type "dict") none (Data.dict #[de P "__module__" 358 (vs "handflow.errors" 321),de P "__firstlineno__" 362 (.int 90 361),de P "__static_attributes__" 363 (.ref 137),de P "__doc__" 364 .none] 2) #[]) ::
 (nat_lit 139,Obj.mk (.type "type") none (Data.cls (ClassData.mk (Str.ofString "Starved") [.ref 126] [.ref 139,.ref 126,.type "ValueError",.type "Exception",.type "BaseException",.type "object"] 138 (Str.ofString "Starved") true [] [] false none false)) #[some (.ref 130),none,some (vs "Starved" 351),some (vs "Starved" 359),some (.builtin "ValueError.__new__"),some (.bool true)]) ::
 (nat_lit 142,Obj.mk (.type "tuple") none (Data.seq #[.ref 126]) #[]) ::
 (nat_lit 149,Obj.mk (.type "tuple") none (Data.seq #[]) #[]) ::
 (nat_lit 150,Obj.mk (.type "dict") none (Data.dict #[de P "__module__" 374 (vs "handflow.errors" 321),de P "__firstlineno__" 378 (.int 92 377),de P "__static_attributes__" 379 (.ref 149),de P "__doc__" 380 .none] 2) #[]) ::
 (nat_lit 151,Obj.mk (.type "type") none (Data.cls (ClassData.mk (Str.ofString "TooMuch") [.ref 126] [.ref 151,.ref 126,.type "ValueError",.type "Exception",.type "BaseException",.type "object"] 150 (Str.ofString "TooMuch") true [] [] false none false)) #[some (.ref 142),none,some (vs "TooMuch" 367),some (vs "TooMuch" 375),some (.builtin "ValueError.__new__"),some (.bool true)]) ::
 (nat_lit 159,co "deeds_of" "deeds_of" 387 96 1 154 .none (.ref 156) (.ref 157) (.ref 158) 392) ::
 (nat_lit 160,fo "deeds_of" "deeds_of" (top 29) "handflow.deeds" 383 159) ::
 (nat_lit 166,co "counted" "counted" 395 103 1 161 .none (.ref 163) (.ref 164) (.ref 165) 401) ::
 (nat_lit 167,fo "counted" "counted" (top 30) "handflow.deeds" 383 166) ::
 (nat_lit 173,co "written" "written" 404 109 1 168 .none (.ref 170) (.ref 171) (.ref 172) 410) ::
 (nat_lit 174,fo "written" "written" (top 31) "handflow.deeds" 383 173) ::
 (nat_lit 180,co "written_rounds" "written_rounds" 413 117 2 175 .none (.ref 177) (.ref 178) (.ref 179) 419) ::
 (nat_lit 181,fo "written_rounds" "written_rounds" (top 32) "handflow.deeds" 383 180) ::
 (nat_lit 187,co "written_once" "written_once" 422 122 1 182 .none (.ref 184) (.ref 185) (.ref 186) 427) ::
 (nat_lit 188,fo "written_once" "written_once" (top 33) "handflow.deeds" 383 187) ::
 (nat_lit 194,co "owner_of" "owner_of" 430 133 2 189 .none (.ref 191) (.ref 192) (.ref 193) 435) ::
 (nat_lit 195,fo "owner_of" "owner_of" (top 34) "handflow.deeds" 383 194) ::
 (nat_lit 201,co "check_gets" "check_gets" 438 135 1 196 .none (.ref 198) (.ref 199) (.ref 200) 447) ::
 (nat_lit 202,fo "check_gets" "check_gets" (top 35) "handflow.deeds" 383 201) ::
 (nat_lit 208,co "_law_cell_at" "_law_cell_at" 452 147 2 203 .none (.ref 205) (.ref 206) (.ref 207) 457) ::
 (nat_lit 209,fo "_law_cell_at" "_law_cell_at" (top 37) "law_handflow_k22_waits_of_deeds" 450 208) ::
 (nat_lit 215,co "_law_mixed" "_law_mixed" 460 151 2 210 .none (.ref 212) (.ref 213) (.ref 214) 466) ::
 (nat_lit 216,fo "_law_mixed" "_law_mixed" (top 38) "law_handflow_k22_waits_of_deeds" 450 215) ::
 (nat_lit 222,co "_law_whole" "_law_whole" 469 154 1 217 .none (.ref 219) (.ref 220) (.ref 221) 473) ::
 (nat_lit 223,fo "_law_whole" "_law_whole" (top 39) "law_handflow_k22_waits_of_deeds" 450 222) ::
 (nat_lit 229,co "_law_letters" "_law_letters" 476 156 2 224 .none (.ref 226) (.ref 227) (.ref 228) 484) ::
 (nat_lit 230,fo "_law_letters" "_law_letters" (top 40) "law_handflow_k22_waits_of_deeds" 450 229) ::
 (nat_lit 236,co "_law_spelt" "_law_spelt" 487 163 1 231 .none (.ref 233) (.ref 234) (.ref 235) 492) ::
 (nat_lit 237,fo "_law_spelt" "_law_spelt" (top 41) "law_handflow_k22_waits_of_deeds" 450 236) ::
 (nat_lit 243,co "_law_pool" "_law_pool" 495 168 2 238 .none (.ref 240) (.ref 241) (.ref 242) 509) ::
 (nat_lit 244,fo "_law_pool" "_law_pool" (top 42) "law_handflow_k22_waits_of_deeds" 450 243) ::
 (nat_lit 250,co "_law_simple" "_law_simple" 512 187 4 245 .none (.ref 247) (.ref 248) (.ref 249) 524) ::
 (nat_lit 251,fo "_law_simple" "_law_simple" (top 43) "law_handflow_k22_waits_of_deeds" 450 250) ::
 (nat_lit 257,co "_law_opened" "_law_opened" 527 202 4 252 .none (.ref 254) (.ref 255) (.ref 256) 542) ::
 (nat_lit 258,fo "_law_opened" "_law_opened" (top 44) "law_handflow_k22_waits_of_deeds" 450 257) ::
 (nat_lit 264,co "_law_block" "_law_block" 545 226 5 259 .none (.ref 261) (.ref 262) (.ref 263) 559) ::
 (nat_lit 265,fo "_law_block" "_law_block" (top 45) "law_handflow_k22_waits_of_deeds" 450 264) ::
 (nat_lit 271,co "_law_moves" "_law_moves" 562 243 1 266 .none (.ref 268) (.ref 269) (.ref 270) 570) ::
 (nat_lit 272,fo "_law_moves" "_law_moves" (top 46) "law_handflow_k22_waits_of_deeds" 450 271) ::
 (nat_lit 278,co "_law_reach" "_law_reach" 573 253 2 273 .none (.ref 275) (.ref 276) (.ref 277) 583) ::
 (nat_lit 279,fo "_law_reach" "_law_reach" (top 47) "law_handflow_k22_waits_of_deeds" 450 278) ::
 (nat_lit 285,co "_law_length" "_law_length" 586 263 2 280 .none (.ref 282) (.ref 283) (.ref 284) 591) ::
 (nat_lit 286,fo "_law_length" "_law_length" (top 48) "law_handflow_k22_waits_of_deeds" 450 285) ::
 (nat_lit 290,co "_law_program" "_law_program" 594 269 2 287 .none .none .none (.ref 289) 597) ::
 (nat_lit 291,fo "_law_program" "_law_program" (top 49) "law_handflow_k22_waits_of_deeds" 450 290) ::
 (nat_lit 295,co "_law_ahead" "_law_ahead" 600 286 1 292 .none .none .none (.ref 294) 603) ::
 (nat_lit 296,fo "_law_ahead" "_law_ahead" (top 50) "law_handflow_k22_waits_of_deeds" 450 295) ::
 (nat_lit 302,co "_law_number" "_law_number" 606 295 1 297 .none (.ref 299) (.ref 300) (.ref 301) 614) ::
 (nat_lit 303,fo "_law_number" "_law_number" (top 51) "law_handflow_k22_waits_of_deeds" 450 302) ::
 (nat_lit 309,co "_law_owned" "_law_owned" 617 303 2 304 .none (.ref 306) (.ref 307) (.ref 308) 624) ::
 (nat_lit 310,fo "_law_owned" "_law_owned" (top 52) "law_handflow_k22_waits_of_deeds" 450 309) ::
 (nat_lit 314,co "_law_meets" "_law_meets" 627 308 6 311 .none .none .none (.ref 313) 630) ::
 (nat_lit 315,fo "_law_meets" "_law_meets" (top 53) "law_handflow_k22_waits_of_deeds" 450 314) ::
 (nat_lit 321,co "_law_paper" "_law_paper" 633 322 2 316 .none (.ref 318) (.ref 319) (.ref 320) 638) ::
 (nat_lit 322,fo "_law_paper" "_law_paper" (top 54) "law_handflow_k22_waits_of_deeds" 450 321) ::
 (nat_lit 326,co "_law_words" "_law_words" 641 326 5 323 .none .none .none (.ref 325) 644) ::
 (nat_lit 327,fo "_law_words" "_law_words" (top 55) "law_handflow_k22_waits_of_deeds" 450 326) ::
 (nat_lit 333,co "law" "law" 647 334 1 328 .none (.ref 330) (.ref 331) (.ref 332) 663) ::
 (nat_lit 334,fo "law" "law" (top 56) "law_handflow_k22_waits_of_deeds" 450 333) ::
 []
noncomputable def hks:List Addr:=[2,3,20,21,25,26,32,33,37,38,44,45,46,47,53,54,60,61,65,66,72,73,74,80,81,87,88,94,95,101,102,108,109,110,122,123,124,125,126,127,130,137,138,139,142,149,150,151,159,160,166,167,173,174,180,181,187,188,194,195,201,202,208,209,215,216,222,223,229,230,236,237,243,244,250,251,257,258,264,265,271,272,278,279,285,286,290,291,295,296,302,303,309,310,314,315,321,322,326,327,333,334]
theorem hk_as:∀P,hks=(hk P).map (·.1):=fun _=>by kernel_rfl
noncomputable def vw:Program:=PySem.W.view PySem.Challenge.pw_handflow_k22_waits_of_deeds [1,2,3,4,5,6,7,9,10,11,12,13,14,16,17,18,19,20,21,22,24,25,26,28,29,30,31,32,33,34,35,37,38,39,40,41,42,43,44,45,46,47,48,49,50,51,52,53,54,55,56]
noncomputable def hkH:PySem.W.Hook:=PySem.W.kHook hk hks hk_as
noncomputable def xt (s:Shared):Bool:=PySem.W.xlAt vw [] s && PySem.W.recOk (PySem.W.RowW.records (PySem.W.OpenRow.toRowW (PySem.W.OpenLaw.row PySem.Challenge.rw_handflow_k22_waits_of_deeds))) s
noncomputable def bt (P:Params):PySem.W.BT:=(.node (PySem.W.boot_o_0 P) (.node (PySem.W.boot_o_1 P) (.node (PySem.W.boot_o_3 P) (.node (PySem.W.boot_o_7 P) .nil .nil) .nil) (.node (PySem.W.boot_o_5 P) (.node (PySem.W.boot_o_9 P) .nil .nil) .nil)) (.node (PySem.W.boot_o_2 P) (.node (PySem.W.boot_o_4 P) (.node (PySem.W.boot_o_8 P) .nil .nil) .nil) (.node (PySem.W.boot_o_6 P) (.node (PySem.W.boot_o_10 P) .nil .nil) .nil)))
theorem bt_is (P:Params):PySem.W.absHeap (bt P) 11 {}=PySem.W.boot_heap P:=by kernel_rfl
noncomputable def bs (P:Params) (os:OsState):PySem.W.SharedT:=⟨bt P,11,{},#[],PySem.W.boot_drawn,PySem.W.boot_toks,os⟩
theorem bs_is (P:Params) (os:OsState):(bs P os).abs=⟨PySem.W.boot_heap P,#[],PySem.W.boot_drawn,PySem.W.boot_toks,os⟩:=by
 unfold bs PySem.W.SharedT.abs;rw[bt_is]
def goT (p:Program) (w:World) (A:Option Value):Nat->PySem.W.SharedT->Thread->Option PySem.W.SharedT
 |0,_,_=>none
 |m+1,x,y=>match PySem.W.through y with
  |true=>some x
  |false=>match PySem.W.stepOk 11 A y with
   |false=>none
   |true=>match PySem.W.stepT (denote PySem.treeTable) p w x y with
    |none=>none
    |some (x',y')=>goT p w A m x' y'
noncomputable abbrev annB (w:World):Option Value:=(PySem.W.boot_heap w.params).nsMap mainGlobals "__annotations__"
def EndsT (p q:Program) (loose:List Str) (Xt:Shared->Bool) {α:Type}(Yf:Shared->α) (Ya:World->α) (N:Nat) (w:World):Prop:=
 ∀os:OsState,(goT p w (annB w) N (bs w.params os) (PySem.W.topStub p)).map (fun s=>(PySem.W.staticsOk (PySem.importedModules p.main.body) (PySem.W.boot_heap w.params) s.abs.heap && PySem.W.namesBound p s.abs.heap && PySem.W.gensDone s.abs && PySem.W.laidKept (PySem.W.boot_heap w.params) s.abs.heap,PySem.W.openSeen q loose (PySem.importedModules p.main.body) Xt true s.abs,Yf s.abs))=some (true,PySem.W.openGood q loose,Ya w)
set_option maxHeartbeats 0 in
theorem leftF:∀w:World,EndsT PySem.Challenge.pw_handflow_k22_waits_of_deeds vw [] xt hkH.obs hkH.val 4224 w:=fun w os=>by kernel_rfl
end K22
namespace L2
open PySem PySem.Spec PyProof.Rows
abbrev Key:=Sum Int Str
def i6:Key->Value->Bool
 |.inl k,v=>Value.isInt k v
 |.inr x,v=>Value.isStrOf x v
def B7 (w:World):Key->Int
 |.inl k=>hashInt k
 |.inr x=>hashStr w x
theorem f9:∀{k:Key}{v:Value},i6 k v=true->(∃i t,k=Sum.inl i/\v=Value.int i t)\/(∃x t,k=Sum.inr x/\v=Value.str x t)
 |.inl i,v,h=>by
  obtain⟨t,e⟩:=Value.isInt_shape (k:=i) (v:=v) h
  exact .inl ⟨i,t,rfl,e⟩
 |.inr x,v,h=>by
  obtain⟨t,e⟩:=Value.isStrOf_shape (x:=x) (v:=v) h
  exact .inr ⟨x,t,rfl,e⟩
theorem B6 (i:Int) (t:Tok):i6 (.inl i) (.int i t)=true:=by simp[i6,Value.isInt]
theorem B5 (x:Str) (t:Tok):i6 (.inr x) (.str x t)=true:=by simp[i6,Value.isStrOf]
theorem B4 (a b:Int):decide ((Sum.inl a:Key)=Sum.inl b)=(a == b):=by
 by_cases e:a=b
 ·subst e;simp
 ·have h:¬ (Sum.inl a:Key)=Sum.inl b:=fun q=>e (Sum.inl.inj q)
  rw[decide_eq_false h]
  exact(beq_eq_false_iff_ne.mpr e).symm
theorem B1 (a b:Str):decide ((Sum.inr a:Key)=Sum.inr b)=decide (a=b):=by
 by_cases e:a=b
 ·subst e;simp
 ·have h:¬ (Sum.inr a:Key)=Sum.inr b:=fun q=>e (Sum.inr.inj q)
  rw[decide_eq_false h,decide_eq_false e]
theorem B3 (a:Int) (b:Str):decide ((Sum.inl a:Key)=Sum.inr b)=false:=decide_eq_false (fun q=>nomatch q)
theorem B2 (a:Str) (b:Int):decide ((Sum.inr a:Key)=Sum.inl b)=false:=decide_eq_false (fun q=>nomatch q)
def cV (prog:Program) (w:World):PySem.KeyKind prog w Key where
 is:=i6
 hash:=B7 w
 inj:=fun v a b ha hb=>by
  rcases f9 ha with⟨i,t,rfl,rfl⟩|⟨x,t,rfl,rfl⟩
  ·rcases f9 hb with⟨j,u,rfl,e⟩|⟨y,u,rfl,e⟩
   ·injection e with e1 _;rw[e1]
   ·exact nomatch e
  ·rcases f9 hb with⟨j,u,rfl,e⟩|⟨y,u,rfl,e⟩
   ·exact nomatch e
   ·injection e with e1 _;rw[e1]
 byValue:=fun k v h=>by
  rcases f9 h with⟨i,t,rfl,rfl⟩|⟨x,t,rfl,rfl⟩<;>rfl
 pyHash:=fun hv h=>by
  rcases f9 hv with⟨i,t,rfl,rfl⟩|⟨x,t,rfl,rfl⟩
  ·exact wpAny_pyHash_int h
  ·exact wpAny_pyHash_str h
 eqBool:=fun hu hv h=>by
  rcases f9 hu with⟨i,t,rfl,rfl⟩|⟨x,t,rfl,rfl⟩
  ·rcases f9 hv with⟨j,u,rfl,rfl⟩|⟨y,u,rfl,rfl⟩
   ·rw[B4]at h;exact wpAny_eqBool_int h
   ·rw[B3]at h;exact SeqAt.EqAt.int_str i t y u _ _ _ _ h
  ·rcases f9 hv with⟨j,u,rfl,rfl⟩|⟨y,u,rfl,rfl⟩
   ·rw[B2]at h;exact SeqAt.EqAt.str_int x t j u _ _ _ _ h
   ·rw[B1]at h;exact wpAny_eqBool_str h
 «strs»:=fun k x t v h=>by
  rcases f9 h with⟨i,u,rfl,e⟩|⟨y,u,rfl,e⟩
  ·exact nomatch e
  ·injection e with e1 _
   subst e1
   cases v<;>rfl
theorem AJ (prog:Program) (w:World) (i:Int) (t:Tok):(cV prog w).is (.inl i) (.int i t)=true:=B6 i t
theorem AI (prog:Program) (w:World) (x:Str) (t:Tok):(cV prog w).is (.inr x) (.str x t)=true:=B5 x t
inductive V where
 |non|bl (b:Bool)|int (i:Int)|str (x:Str)|byt (b:Array UInt8)|flt (b:UInt64)|ref (a:Addr)|ty (n:String)
 deriving DecidableEq
def ax:V->Value->Prop
 |.non,u=>u=Value.none
 |.bl b,u=>u=Value.bool b
 |.int i,u=>∃t,u=Value.int i t
 |.str x,u=>∃t,u=Value.str x t
 |.byt b,u=>∃t,u=Value.bytes b t
 |.flt b,u=>∃t,u=Value.float b t
 |.ref a,u=>u=Value.ref a
 |.ty n,u=>u=Value.type n
abbrev av:List V->List Value->Prop:=Paired ax
theorem av.length {xs:List V}{us:List Value}(r:av xs us):xs.length=us.length:=Paired.length r
theorem av.get:∀{xs:List V}{us:List Value}{i:Nat}{x:V},av xs us->xs[i]?=some x->∃u,us[i]?=some u/\ax x u
 |_,_,_,_,.nil,e=>by simp at e
 |_,_,0,_,.cons r _,e=>by simp at e;subst e;exact⟨_,rfl,r⟩
 |_,_,i+1,x,.cons _ t,e=>by
  obtain⟨u,h1,h2⟩:=av.get (i:=i) (x:=x) t (by simpa using e)
  exact⟨u,by simpa using h1,h2⟩
theorem av.set {x:V}{u:Value}(r:ax x u):∀{xs:List V}{us:List Value}(i:Nat),av xs us->av (xs.set i x) (us.set i u)
 |_,_,_,.nil=>.nil
 |_,_,0,.cons _ t=>.cons r t
 |_,_,i+1,.cons q t=>.cons q (av.set r i t)
theorem av.append:∀{xs ys:List V}{us ws:List Value},av xs us->av ys ws->av (xs++ys) (us++ws)
 |_,_,_,_,.nil,s=>s
 |_,_,_,_,.cons r t,s=>.cons r (av.append t s)
theorem av.take:∀{xs:List V}{us:List Value}(n:Nat),av xs us->av (xs.take n) (us.take n)
 |_,_,0,_=>.nil
 |_,_,_+1,.nil=>.nil
 |_,_,n+1,.cons r t=>.cons r (av.take n t)
theorem av.drop:∀{xs:List V}{us:List Value}(n:Nat),av xs us->av (xs.drop n) (us.drop n)
 |_,_,0,r=>r
 |_,_,_+1,.nil=>.nil
 |_,_,n+1,.cons _ t=>av.drop n t
def cB:Option V->Option Value->Prop
 |some v,some u=>ax v u
 |none,none=>True
 |_,_=>False
def KV {κ:Type}:List (κ×V)->List (κ×Value)->Prop:=Paired fun(p:κ×V) (q:κ×Value)=>p.1=q.1/\ax p.2 q.2
def kV:Key->V
 |.inl i=>.int i
 |.inr x=>.str x
inductive HO where
 |lst (xs:List V)
 |tup (xs:List V)
 |dK (kvs:List (Key×V))|dT (kvs:List (List Key×V))
 |set (S:Int->Bool) (n:Nat)
 |ins (C dx:Addr) (fs:List (Str×V))
 |own (x:Addr)
 |xd (fs:List (Str×V))
 |met (f x:Addr)
 |rng (lo hi:Int)
 |frz (o:Obj) (u:HO)
 |tbl (ps:Array Value)
 |ext (φ:Heap->Prop)
abbrev Hp:=Addr->Option HO
def upd (H:Hp) (a:Addr) (o:HO):Hp:=fun b=>if b=a then some o else H b
theorem ag {H:Hp}{a:Addr}{o:HO}:upd H a o a=some o:=by unfold upd;rw[Q0 rfl]
theorem af {H:Hp}{a b:Addr}{o:HO}(h:b≠a):upd H a o b=H b:=by unfold upd;rw[qZ h]
theorem tR {H:Hp}{a b:Addr}{o u:HO}(h:H a=some o) (h':H b=some u) (d:o≠u):a≠b:=by
 intro e;subst e;rw[h]at h';exact d (qJ h')
theorem ce {H:Hp}{a b:Addr}{o:HO}(h:H a=some o) (h':H b=none):a≠b:=by
 intro e;subst e;rw[h]at h';cases h'
section
variable (P:Program) (w:World)
def bB (H:Hp) (h:Heap) (a:Addr):HO->Prop
 |.lst xs=>xs.length<=sizeLine/\∃(its:List Value) (n:Nat),av xs its/\h.get? a=some { cls:=.type "list",data:=.seq its.toArray n }
 |.tup xs=>xs.length<=sizeLine/\∃its:List Value,av xs its/\IsTup h a its.toArray
 |.dK kvs=>kvs.length<=sizeLine/\(a == sysModules)=false/\∃vs,KV kvs vs/\h.DictOf (cV P w) a vs
 |.dT kvs=>kvs.length<=sizeLine/\(a == sysModules)=false/\∃xs:List (List Key×Addr×Value),
  Paired (fun(p:List Key×V) (q:List Key×Addr×Value)=>p.1=q.1/\H q.2.1=some (.tup (p.1.map kV))/\ax p.2 q.2.2) kvs xs /\
  ∃o es ep,h.get? a=some o/\o.ExactDict/\o.data=.dict es ep/\es.toList=xs.map (entryOfKey (tupleKind (cV P w)))/\(xs.map (·.1)).Nodup
 |.set S n=>h.SetOf (intKind P w) a S n
 |.ins C dx fs=>H dx=some (.own a)/\fs.length<=1000/\dx≠a/\h.get? a=some (PySem.W.instObj C dx) /\
  ∃mA,h.Ns1 dx mA/\(∀f,cB (fs.lookup f) (mA f))/\PySem.Within mA (fs.map (·.1))
 |.own _=>∃o,h.get? a=some o
 |.xd fs=>∃mA,h.Ns1 a mA/\∀f,cB (fs.lookup f) (mA f)
 |.rng lo hi=>∃t u v,h.get? a=some { cls:=.type "range",data:=.fields #[.int lo t,.int hi u,.int 1 v] }
 |.frz o u=>h.get? a=some o/\bB H h a u
 |.tbl ps=>h.get? a=some { cls:=.none,data:=.fields ps }
 |.met f x=>h.get? a=some (PySem.W.methodObj (.ref f) (.ref x))
 |.ext φ=>φ h/\(∃o,h.get? a=some o)/\∀h1 h2:Heap,φ h1->(∀o,h1.get? a=some o->h2.get? a=some o)->φ h2
def HOk (H:Hp) (h:Heap):Prop:=∀a o,H a=some o->bB P w H h a o
end
section
variable {P:Program}{w:World}{H H':Hp}{h h':Heap}{a:Addr}{o:HO}
theorem bB.lt (x:bB P w H h a o):a<h.objs.size:=by
 cases o with
 |lst xs=>obtain⟨_,_,_,_,e⟩:=x;exact qq e
 |tup xs=>obtain⟨_,_,_,p⟩:=x;exact p.lt
 |dK kvs=>obtain⟨_,_,_,_,o,_,_,e,_⟩:=x;exact qq e
 |dT kvs=>obtain⟨_,_,_,_,o,_,_,e,_⟩:=x;exact qq e
 |set S n=>obtain⟨o,_,_,_,e,_⟩:=x;exact qq e
 |ins C dx fs=>obtain⟨_,_,_,e,_⟩:=x;exact qq e
 |own y=>obtain⟨_,e⟩:=x;exact qq e
 |xd fs=>obtain⟨_,⟨_,_,_,e,_⟩,_⟩:=x;exact qq e
 |rng lo hi=>obtain⟨_,_,_,e⟩:=x;exact qq e
 |frz ob u=>obtain⟨e,_⟩:=x;exact qq e
 |tbl ps=>exact qq (show h.get? a=some _ from x)
 |met f y=>exact qq (show h.get? a=some _ from x)
 |ext φ=>obtain⟨_,⟨_,e⟩,_⟩:=x;exact qq e
theorem Paired.mapP {α β:Type}{F G:α->β->Prop}:∀{l₁:List α}{l₂:List β},Paired F l₁ l₂->(∀a b,F a b->G a b)->Paired G l₁ l₂
 |_,_,.nil,_=>.nil
 |_,_,.cons r t,f=>.cons (f _ _ r) (Paired.mapP t f)
theorem bB.stay (x:bB P w H h a o) (k:∀b u,(b=a\/H b=some (.own a))->h.get? b=some u->h'.get? b=some u)
 (ho:∀b,H b=some (.own a)->H' b=some (.own a)) (ht:∀b xs,H b=some (.tup xs)->H' b=some (.tup xs)):bB P w H' h' a o:=by
 induction o with
 |lst xs=>obtain⟨z,its,n,r,e⟩:=x;exact⟨z,its,n,r,k _ _ (.inl rfl) e⟩
 |tup xs=>obtain⟨z,its,r,ob,e,c⟩:=x;exact⟨z,its,r,ob,k _ _ (.inl rfl) e,c⟩
 |dK kvs=>obtain⟨z,y,vs,r,ob,es,ep,e,c⟩:=x;exact⟨z,y,vs,r,ob,es,ep,k _ _ (.inl rfl) e,c⟩
 |dT kvs=>
  obtain⟨z,y,xs,r,ob,es,ep,e,c⟩:=x
  exact⟨z,y,xs,Paired.mapP r fun p q z=>⟨z.1,ht _ _ z.2.1,z.2.2⟩,ob,es,ep,k _ _ (.inl rfl) e,c⟩
 |set S n=>obtain⟨ob,es,ep,t,e,c⟩:=x;exact⟨ob,es,ep,t,k _ _ (.inl rfl) e,c⟩
 |ins C dx fs=>
  obtain⟨d,z,ne,e,mA,⟨od,es,ep,e2,c⟩,r⟩:=x
  exact⟨ho _ d,z,ne,k _ _ (.inl rfl) e,mA,⟨od,es,ep,k _ _ (.inr d) e2,c⟩,r⟩
 |own y=>obtain⟨ob,e⟩:=x;exact⟨ob,k _ _ (.inl rfl) e⟩
 |xd fs=>obtain⟨mA,⟨od,es,ep,e,c⟩,r⟩:=x;exact⟨mA,⟨od,es,ep,k _ _ (.inl rfl) e,c⟩,r⟩
 |rng lo hi=>obtain⟨t,u,v,e⟩:=x;exact⟨t,u,v,k _ _ (.inl rfl) e⟩
 |frz ob u ih=>obtain⟨e,q⟩:=x;exact⟨k _ _ (.inl rfl) e,ih q⟩
 |tbl ps=>
  have e:h.get? a=some { cls:=.none,data:=.fields ps }:=x
  show h'.get? a=some { cls:=.none,data:=.fields ps }
  exact k a _ (.inl rfl) e
 |met f y=>
  have e:h.get? a=some (PySem.W.methodObj (.ref f) (.ref y)):=x
  show h'.get? a=some (PySem.W.methodObj (.ref f) (.ref y))
  exact k a _ (.inl rfl) e
 |ext φ=>obtain⟨p,⟨o,e⟩,st⟩:=x;exact⟨st _ _ p fun o q=>k _ _ (.inl rfl) q,⟨o,k _ _ (.inl rfl) e⟩,st⟩
theorem HOk.lt (x:HOk P w H h) (e:H a=some o):a<h.objs.size:=(x a o e).lt
theorem HOk.fresh (x:HOk P w H h) (e:h.objs.size<=a):H a=none:=by
 cases q:H a with
 |none=>rfl
 |some u=>exact absurd (qD (x.lt q) e) (Nat.lt_irrefl _)
theorem HOk.kept (x:HOk P w H h) (k:∀b u,h.get? b=some u->h'.get? b=some u):HOk P w H h':=fun a o e=>
 (x a o e).stay (fun b u _ q=>k b u q) (fun _ q=>q) fun _ _ q=>q
theorem HOk.laid (x:HOk P w H h) (k:∀b u,h.get? b=some u->h'.get? b=some u) (hp:h.objs.size<=a) (new:bB P w (upd H a o) h' a o):HOk P w (upd H a o) h':=fun b u e=>by
 have hn:=x.fresh hp
 by_cases hb:b=a
 ·subst hb;rw[ag]at e;cases e;exact new
 ·rw[af hb]at e
  exact(x b u e).stay (fun c v _ q=>k c v q) (fun c q=>by rw[af (ce q hn)];exact q) fun c xs q=>by rw[af (ce q hn)];exact q
end
def Rd (H:Hp) (a:Addr) (u:HO):Prop:=H a=some u\/∃o,H a=some (.frz o u)
theorem Rd.ok {P:Program}{w:World}{H:Hp}{h:Heap}{a:Addr}{u:HO}(r:Rd H a u) (x:HOk P w H h):bB P w H h a u:=by
 rcases r with r|⟨o,r⟩
 ·exact x a u r
 ·obtain⟨_,q⟩:=x a _ r
  exact q
def Mut:Option HO->Prop
 |some (.lst _)=>True
 |some (.dK _)=>True
 |some (.dT _)=>True
 |some (.set _ _)=>True
 |some (.ins _ _ _)=>True
 |some (.ext _)=>True
 |_=>False
section
variable {P:Program}{w:World}{H:Hp}{h h':Heap}{x e:Addr}{o':HO}
theorem HOk.write (ok:HOk P w H h) (mu:Mut (H x)) (he:e=x\/H e=some (.own x)) (k:∀b u,b≠e->h.get? b=some u->h'.get? b=some u) (heo:∃u,h'.get? e=some u)
 (new:bB P w (upd H x o') h' x o'):HOk P w (upd H x o') h':=fun b u q=>by
 have nown:∀c y,H c=some (.own y)->c≠x:=fun c y r z=>by subst z;rw[r]at mu;exact mu
 have ntup:∀c xs,H c=some (.tup xs)->c≠x:=fun c xs r z=>by subst z;rw[r]at mu;exact mu
 by_cases hb:b=x
 ·subst hb;rw[ag]at q;cases q;exact new
 ·rw[af hb]at q
  by_cases hbe:b=e
  ·have q':H b=some (.own x):=by
    rcases he with z|z
    ·exact absurd (hbe.trans z) hb
    ·rw[hbe];exact z
   rw[q]at q';cases q'
   obtain⟨v,hv⟩:=heo
   exact⟨v,by rw[hbe];exact hv⟩
  ·refine(ok b u q).stay (fun c v hc r=>k c v ?_ r) (fun c r=>by rw[af (nown c b r)];exact r) fun c xs r=>by rw[af (ntup c xs r)];exact r
   rcases hc with rfl|hc
   ·exact hbe
   ·rintro rfl
    rcases he with z|z
    ·exact nown c b hc z
    ·rw[hc]at z;cases z;exact hb rfl
end
structure Un (fs ex:List Addr) (H H':Hp) (h h':Heap):Prop where
 keep:∀b o,h.get? b=some o->H b=none->b∉fs->b∉ex->h'.get? b=some o
 slot:∀b o,h.get? b=some o->H b=none->b∈fs->b∉ex->∃sl,h'.get? b=some { o with slots:=sl }
 free:∀b o,h.get? b=some o->H b=none->b∉ex->H' b=none
 there:∀b o,h.get? b=some o->b∉ex->∃o',h'.get? b=some o'
 tups:∀b xs,H b=some (.tup xs)->H' b=some (.tup xs)
 frzs:∀b o u,H b=some (.frz o u)->H' b=some (.frz o u)
 tbls:∀b ps,H b=some (.tbl ps)->∃more,H' b=some (.tbl (ps++more))
section
variable {fs fs' ex ex':List Addr}{H H1 H2:Hp}{h h1 h2 h':Heap}{a x e:Addr}{o:HO}
theorem Un.any (u:Un fs ex H H1 h h1) {b:Addr}{ob:Obj}(q:h.get? b=some ob) (n:H b=none) (hx:b∉ex):∃sl,h1.get? b=some { ob with slots:=sl }:=by
 by_cases hb:b∈fs
 ·exact u.slot b ob q n hb hx
 ·exact⟨ob.slots,u.keep b ob q n hb hx⟩
theorem Un.kept (k:∀b u,h.get? b=some u->h'.get? b=some u):Un fs ex H H h h':=
 ⟨fun b ob q _ _ _=>k b ob q,fun b ob q _ _ _=>⟨ob.slots,k b ob q⟩,fun _ _ _ n _=>n,fun b ob q _=>⟨ob,k b ob q⟩,fun _ _ q=>q,fun _ _ _ q=>q,fun _ ps q=>⟨#[],by rw[q];simp⟩⟩
theorem Un.refl:Un fs ex H H h h:=Un.kept fun _ _ q=>q
theorem Un.laid (k:∀b u,h.get? b=some u->h'.get? b=some u) (hp:h.objs.size<=a) (hn:H a=none):Un fs ex H (upd H a o) h h' where
 keep:=fun b u q _ _ _=>k b u q
 slot:=fun b u q _ _ _=>⟨u.slots,k b u q⟩
 free:=fun b u q n _=>by rw[af (qG (qD (qq q) hp))];exact n
 there:=fun b u q _=>⟨u,k b u q⟩
 tups:=fun b xs q=>by rw[af (ce q hn)];exact q
 frzs:=fun b u xs q=>by rw[af (ce q hn)];exact q
 tbls:=fun b ps q=>⟨#[],by rw[af (ce q hn),q];simp⟩
theorem Un.write (mu:Mut (H x)) (he:e=x\/H e=some (.own x)) (k:∀b u,b≠e->h.get? b=some u->h'.get? b=some u) (heo:∃u,h'.get? e=some u):Un fs ex H (upd H x o) h h':=by
 have hx:∀b,H b=none->b≠x:=fun b n z=>by subst z;rw[n]at mu;exact mu
 have hb:∀b,H b=none->b≠e:=fun b n z=>by
  subst z
  rcases he with r|r
  ·exact hx b n r
  ·rw[n]at r;cases r
 have hm:∀b u,H b=some u->¬ Mut (some u)->b≠x:=fun b u q nm z=>by subst z;rw[q]at mu;exact nm mu
 refine⟨fun b u q n _ _=>k b u (hb b n) q,fun b u q n _ _=>⟨u.slots,k b u (hb b n) q⟩,fun b u q n _=>by rw[af (hx b n)];exact n,fun b u q _=>?_,
  fun b xs q=>by rw[af (hm b _ q fun z=>z)];exact q,fun b u xs q=>by rw[af (hm b _ q fun z=>z)];exact q,fun b ps q=>⟨#[],by rw[af (hm b _ q fun z=>z),q];simp⟩⟩
 by_cases hbe:b=e
 ·subst hbe;exact heo
 ·exact⟨u,k b u hbe q⟩
end
def trk (h:Heap) (H:Hp):List Addr:=(List.range h.objs.size).filter fun a=>(H a).isSome
def fg (h:Heap) (H:Hp):Heap:=PySem.W.hideAll h (trk h H)
theorem Bo (h:Heap) (H:Hp):(fg h H).objs.size=h.objs.size:=PySem.W.hideAll_size _ _
theorem Bp {h:Heap}{H:Hp}{b:Addr}{o:Obj}(e:h.get? b=some o) (n:H b=none):(fg h H).get? b=some o:=
 PySem.W.hideAll_get _ e fun hm=>by
  have q:(H b).isSome=true:=(List.mem_filter.mp hm).2
  rw[n]at q;simp at q
theorem Ax {h:Heap}{H:Hp}{b:Addr}{o:Obj}(e:(fg h H).get? b=some o):h.get? b=some o/\H b=none:=by
 have e':h.get? b=some o:=PySem.W.of_hideAll (trk h H) e
 refine⟨e',?_⟩
 cases q:H b with
 |none=>rfl
 |some x=>
  have hm:b∈trk h H:=List.mem_filter.mpr ⟨List.mem_range.mpr (qq e'),by simp[q]⟩
  have z:(fg h H).get? b=none:=PySem.W.hideAll_none (trk h H) hm
  rw[z]at e;cases e
def CC (g h:Heap) (L:Addr):List (Addr×Obj):=(List.range h.objs.size).filterMap fun a=>if a=L\/(g.get? a).isSome=true then none else(h.get? a).map fun o=>(a,o)
def rest (g h:Heap) (L d:Addr):List (Addr×Obj):=(CC g h L).filter fun p=>decide (p.1≠d)
structure Mod (K:PySem.W.Frag) (mg:Str->Option Value) (base:Heap):Prop where
 kin:K.In base
 glob:base.Ns mainGlobals mg
 blt:∃mb,base.Ns builtinsNs mb/\∀x:Str,x≠"__name__"->mb x=bootBuiltins x
 nolimit:base.NoLimit
structure Cx where
 prog:Program
 w:World
 K:PySem.W.Frag
 mg:Str->Option Value
 base:Heap
 A:Around
 N:List Str
 s₀:Shared
 H₀:Hp
 env:Env
 outer:List Env
 stack:List Env
 ex:List Addr
 fn:Str->Bool
 calm:Bool
 pn:List (Addr×Obj)
 xe:Value->Shared->Prop
def frs (l:List Env):List Addr:=l.filterMap (·.frame)
abbrev Cx.fs (X:Cx):List Addr:=frs X.outer
def Vis (sc:Scope) (x:Str):Prop:=sc.names.lookup x=some .local\/sc.names.lookup x=some .cell\/sc.names.lookup x=some .free
def Loc (sc:Scope) (x:Str):Prop:=sc.names.lookup x=some .local\/sc.names.lookup x=some .cell
def CN (env:Env) (h:Heap) (m:Str->Option Value) (x:Str) (u:Value):Prop:=
 (env.kindOf x=some .local/\m x=some u)\/((env.kindOf x=some .cell\/env.kindOf x=some .free)/\∃c,env.cells.lookup x=some c/\h.IsCell c (some u))
structure Cx.Ok (X:Cx):Prop where
 mod:Mod X.K X.mg X.base
 kind:X.env.scope.kind=.function
 glob:X.env.globals=mainGlobals
 blt:X.env.builtins=builtinsNs
 above:X.s₀.heap.objs.size<=X.env.locals
 inj:∀x y c,X.env.cells.lookup x=some c->X.env.cells.lookup y=some c->x=y
 has:∀x,(X.env.kindOf x=some .cell\/X.env.kindOf x=some .free)->∃c,X.env.cells.lookup x=some c
 cab:∀x c,X.fn x=true->X.env.cells.lookup x=some c->X.s₀.heap.objs.size<=c
 hd:X.calm=true->X.A.handled=none
 frames:X.A.frames=some X.stack
 stk:X.stack=X.outer\/(X.stack=X.env::X.outer/\X.env.frame=some X.env.locals)
 exf:∀b∈X.ex,b≠X.env.locals/\∀x c,X.env.cells.lookup x=some c->c≠b
 bs:∀b o,X.base.get? b=some o->X.s₀.heap.get? b=some o/\X.H₀ b=none
 bsz:X.base.objs.size<=X.s₀.heap.objs.size
 noex:∀b o,X.base.get? b=some o->b∉X.ex
 exfs:∀b∈X.ex,b∉X.fs
 funs:X.s₀.heap.FunFrames X.base X.outer
 frf:∀b∈X.fs,X.H₀ b=none
structure Inv (X:Cx) (pins:List (Addr×Obj)) (σ:List (Option V)) (H:Hp) (s:Shared):Prop where
 ok:X.Ok
 os:s.os=X.s₀.os
 bare:AllBare s.gens
 base:Un X.fs X.ex X.H₀ H X.s₀.heap s.heap
 loc:∃m,s.heap.Ns X.env.locals m/\∀(i:Nat) (x:Str) (v:V),X.N[i]?=some x->σ[i]?=some (some v)->Vis X.env.scope x->∃u,ax v u/\CN X.env s.heap m x u
 cell:∀x c,X.env.cells.lookup x=some c->∃v,s.heap.IsCell c v
 free:H X.env.locals=none
 freeC:∀x c,X.env.cells.lookup x=some c->H c=none
 pin:∀p∈X.pn++pins,s.heap.get? p.1=some p.2/\H p.1=none/\p.1≠X.env.locals/\p.1∉X.fs/\∀v,p.2.data≠.cell v
 hok:HOk X.prog X.w H s.heap
 len:σ.length=X.N.length
section
variable {X:Cx}{pins:List (Addr×Obj)}{σ:List (Option V)}{H H':Hp}{s:Shared}{h':Heap}
theorem Cx.Ok.nofr (ok:X.Ok) {b:Addr}{o:Obj}(e:X.base.get? b=some o):b∉X.fs:=fun hb=>by
 have:=(ok.funs.mem hb).1
 rw[e]at this;cases this
theorem Inv.bs (I:Inv X pins σ H s):∀b o,X.base.get? b=some o->s.heap.get? b=some o/\H b=none:=fun b o e=>
 ⟨I.base.keep b o (I.ok.bs b o e).1 (I.ok.bs b o e).2 (I.ok.nofr e) (I.ok.noex b o e),I.base.free b o (I.ok.bs b o e).1 (I.ok.bs b o e).2 (I.ok.noex b o e)⟩
theorem Inv.bk (I:Inv X pins σ H s):∀b o,X.base.get? b=some o->s.heap.get? b=some o:=fun b o e=>(I.bs b o e).1
theorem Inv.mod (I:Inv X pins σ H s):Mod X.K X.mg X.base:=I.ok.mod
theorem Inv.kIn (I:Inv X pins σ H s):X.K.In s.heap:=I.ok.mod.kin.keeps I.bk
theorem Inv.lt (I:Inv X pins σ H s):X.env.locals<s.heap.objs.size:=let ⟨_,hn,_⟩:=I.loc;hn.lt
theorem Inv.sz (I:Inv X pins σ H s):X.s₀.heap.objs.size<=s.heap.objs.size:=qy I.ok.above (Nat.le_of_lt I.lt)
theorem Inv.nofs (I:Inv X pins σ H s) {a:Addr}(h:s.heap.objs.size<=a):a∉X.fs:=fun hb=>by
 obtain⟨_,o,ho,_⟩:=I.ok.funs.mem hb
 exact absurd (qD (qq ho) (qy I.sz h)) (Nat.lt_irrefl _)
theorem Inv.cne (I:Inv X pins σ H s):∀x c,X.env.cells.lookup x=some c->c≠X.env.locals:=fun x c e z=>by
 obtain⟨v,o,ho,hd⟩:=I.cell x c e
 obtain⟨m,⟨o',es,ep,ho',hd',_⟩,_⟩:=I.loc
 rw[z,ho']at ho;cases ho;rw[hd']at hd;cases hd
theorem Inv.funs (I:Inv X pins σ H s):s.heap.FunFrames X.base X.outer:=by
 have all:∀(l:List Env),(∀b∈frs l,b∈X.fs)->X.s₀.heap.FunFrames X.base l->s.heap.FunFrames X.base l:=by
  intro l
  induction l with
  |nil=>intro _ _;trivial
  |cons env r ih=>
   intro hs hl
   obtain⟨hk,⟨L,o,hf,hn,ho,hd⟩,hr⟩:=hl
   have hL:L∈X.fs:=hs L (by unfold frs;rw[List.filterMap_cons,hf];exact qo)
   obtain⟨sl,e⟩:=I.base.slot L o ho (I.ok.frf L hL) hL fun z=>I.ok.exfs L z hL
   exact⟨hk,⟨L,_,hf,hn,e,hd⟩,ih (fun b hb=>hs b (by unfold frs;rw[List.filterMap_cons,hf];exact ql _ hb)) hr⟩
 exact all X.outer (fun _ hb=>hb) I.ok.funs
theorem Inv.stack (I:Inv X pins σ H s):s.heap.FunFrames X.base X.stack:=by
 rcases I.ok.stk with e|⟨e,hf⟩
 ·rw[e];exact I.funs
 ·rw[e]
  obtain⟨m,hn,_⟩:=I.loc
  refine .cons (by rw[I.ok.kind];decide) hf hn ?_ I.funs
  exact Heap.get?_none_of_le (qy I.ok.bsz I.ok.above)
theorem Inv.stkSub (I:Inv X pins σ H s):∀b∈frs X.stack,b∈X.env.locals::X.fs:=fun b hb=>by
 rcases I.ok.stk with e|⟨e,hf⟩
 ·rw[e]at hb;exact ql _ hb
 ·rw[e]at hb
  unfold frs at hb
  rw[List.filterMap_cons,hf]at hb
  exact hb
theorem Inv.stkFree (I:Inv X pins σ H s):∀b∈frs X.stack,H b=none:=fun b hb=>by
 rcases qu.mp (I.stkSub b hb)with e|hb
 ·rw[e];exact I.free
 ·obtain⟨_,o,ho,_⟩:=I.ok.funs.mem hb
  exact I.base.free b o ho (I.ok.frf b hb) fun z=>I.ok.exfs b z hb
theorem Inv.step {g':Array GenState}{t':Nat}{d':Drawn}{ch:List Addr}(I:Inv X pins σ H s)
 (hch:∀b∈ch,(b∈X.ex\/X.s₀.heap.objs.size<=b)/\b≠X.env.locals/\(∀x c,X.env.cells.lookup x=some c->c≠b)/\∀p∈X.pn++pins,p.1≠b)
 (keep:∀b o,b≠X.env.locals->b∉X.fs->b∉ch->s.heap.get? b=some o->H b=none->h'.get? b=some o)
 (slot:∀b o,b≠X.env.locals->b∈X.fs->b∉ch->s.heap.get? b=some o->H b=none->∃sl,h'.get? b=some { o with slots:=sl }) (free:∀b o,b∉ch->s.heap.get? b=some o->H b=none->H' b=none)
 (there:∀b o,b∉ch->s.heap.get? b=some o->∃o',h'.get? b=some o')
 (tups:∀b xs,H b=some (.tup xs)->H' b=some (.tup xs)) (frzs:∀b o u,H b=some (.frz o u)->H' b=some (.frz o u)) (tbls:∀b ps,H b=some (.tbl ps)->∃more,H' b=some (.tbl (ps++more)))
 (ns:∀m,s.heap.Ns X.env.locals m->h'.Ns X.env.locals m) (hok:HOk X.prog X.w H' h') (hg:AllBare g'):
 Inv X pins σ H' { s with heap:=h',gens:=g',drawn:=d',toks:=t' }:=by
 have neL:∀b o,X.s₀.heap.get? b=some o->b≠X.env.locals:=fun b o e=>qG (qD (qq e) I.ok.above)
 have neC:∀b o,X.s₀.heap.get? b=some o->b∉X.ex->b∉ch:=fun b o e hx hb=>by
  rcases(hch b hb).1 with z|z
  ·exact hx z
  ·exact absurd (qD (qq e) z) (Nat.lt_irrefl _)
 have cellK:∀x c,X.env.cells.lookup x=some c->∀v,s.heap.IsCell c v->h'.IsCell c v:=fun x c e v ⟨o,ho,hd⟩=>by
  have nch:c∉ch:=fun z=>(hch c z).2.2.1 x c e rfl
  by_cases hc:c∈X.fs
  ·obtain⟨sl,q⟩:=slot c o (I.cne x c e) hc nch ho (I.freeC x c e)
   exact⟨_,q,hd⟩
  ·exact⟨o,keep c o (I.cne x c e) hc nch ho (I.freeC x c e),hd⟩
 refine⟨I.ok,I.os,hg,⟨fun b o e n hb hx=>?_,fun b o e n hb hx=>?_,fun b o e n hx=>?_,fun b o e hx=>?_,fun b xs e=>tups b xs (I.base.tups b xs e),fun b o xs e=>frzs b o xs (I.base.frzs b o xs e),fun b ps e=>?_⟩,?_,fun x c e=>?_,?_,fun x c e=>?_,fun p hp=>?_,hok,I.len⟩
 ·exact keep b o (neL b o e) hb (neC b o e hx) (I.base.keep b o e n hb hx) (I.base.free b o e n hx)
 ·obtain⟨sl,e1⟩:=I.base.slot b o e n hb hx
  obtain⟨sl',e2⟩:=slot b _ (neL b o e) hb (neC b o e hx) e1 (I.base.free b o e n hx)
  exact⟨sl',e2⟩
 ·obtain⟨o',e1⟩:=I.base.there b o e hx
  exact free b o' (neC b o e hx) e1 (I.base.free b o e n hx)
 ·obtain⟨o',e1⟩:=I.base.there b o e hx
  exact there b o' (neC b o e hx) e1
 ·obtain⟨m1,e1⟩:=I.base.tbls b ps e
  obtain⟨m2,e2⟩:=tbls b _ e1
  exact⟨m1++m2,by rw[e2,Array.append_assoc]⟩
 ·obtain⟨m,hn,hl⟩:=I.loc
  refine⟨m,ns m hn,fun i x v e1 e2 e3=>?_⟩
  obtain⟨u,r,l⟩:=hl i x v e1 e2 e3
  refine⟨u,r,?_⟩
  rcases l with l|⟨k,c,e,z⟩
  ·exact .inl l
  ·exact .inr ⟨k,c,e,cellK x c e _ z⟩
 ·obtain⟨v,z⟩:=I.cell x c e
  exact⟨v,cellK x c e v z⟩
 ·obtain⟨m,⟨o,_,_,ho,_⟩,_⟩:=I.loc
  exact free _ o (fun z=>(hch _ z).2.1 rfl) ho I.free
 ·obtain⟨v,o,ho,hd⟩:=I.cell x c e
  exact free c o (fun z=>(hch c z).2.2.1 x c e rfl) ho (I.freeC x c e)
 ·obtain⟨e,n,ne,nf,d⟩:=I.pin p hp
  have nch:p.1∉ch:=fun z=>(hch p.1 z).2.2.2 p hp rfl
  exact⟨keep p.1 p.2 ne nf nch e n,free p.1 p.2 nch e n,ne,nf,d⟩
theorem Inv.un {t':Nat}(I:Inv X pins σ H s) (u:Un X.fs [] H H' s.heap h') (hok:HOk X.prog X.w H' h'):Inv X pins σ H' { s with heap:=h',toks:=t' }:=by
 obtain⟨m,⟨o,es,ep,ho,r⟩,_⟩:=id I.loc
 obtain⟨sl,hL⟩:=u.any ho I.free (by simp)
 exact I.step (g':=s.gens) (d':=s.drawn) (ch:=[]) (fun _ z=>nomatch z) (fun b o _ hb _ e n=>u.keep b o e n hb (by simp)) (fun b o _ hb _ e n=>u.slot b o e n hb (by simp)) (fun b o _ e n=>u.free b o e n (by simp)) (fun b o _ e=>u.there b o e (by simp)) u.tups u.frzs u.tbls (fun m' hm=>by
  obtain⟨o',es',ep',ho',r'⟩:=hm
  rw[ho]at ho';cases ho'
  exact⟨_,es',ep',hL,r'⟩) hok I.bare
theorem Inv.call {g':Array GenState}{t':Nat}{d':Drawn}{ch:List Addr}(I:Inv X pins σ H s) (u:Un (frs X.stack) ch H H' s.heap h') (hok:HOk X.prog X.w H' h') (hg:AllBare g')
 (hch:∀b∈ch,(b∈X.ex\/X.s₀.heap.objs.size<=b)/\b≠X.env.locals/\(∀x c,X.env.cells.lookup x=some c->c≠b)/\∀p∈X.pn++pins,p.1≠b):
 Inv X pins σ H' { s with heap:=h',gens:=g',drawn:=d',toks:=t' }:=by
 obtain⟨m,⟨o,es,ep,ho,r⟩,_⟩:=id I.loc
 obtain⟨sl,hL⟩:=u.any ho I.free fun z=>(hch _ z).2.1 rfl
 exact I.step (ch:=ch) hch (fun b o hL hb hc e n=>u.keep b o e n (fun z=>(qu.mp (I.stkSub b z)).elim hL hb) hc) (fun b o _ _ hc e n=>u.any e n hc) (fun b o hc e n=>u.free b o e n hc) (fun b o hc e=>u.there b o e hc) u.tups u.frzs u.tbls (fun m' hm=>by
  obtain⟨o',es',ep',ho',r'⟩:=hm
  rw[ho]at ho';cases ho'
  exact⟨_,es',ep',hL,r'⟩) hok hg
theorem Inv.turned {t':Nat}{it:Addr}(I:Inv X pins σ H s) (k:∀b o,b≠it->s.heap.get? b=some o->h'.get? b=some o) (hn:H it=none) (hL:it≠X.env.locals)
 (h1:it∈X.ex\/X.s₀.heap.objs.size<=it) (h2:∀x c,X.env.cells.lookup x=some c->c≠it) (h3:∀p∈X.pn++pins,p.1≠it):Inv X pins σ H { s with heap:=h',toks:=t' }:=by
 have nit:∀b u,H b=some u->b≠it:=fun b u e z=>by rw[z,hn]at e;cases e
 refine I.step (g':=s.gens) (d':=s.drawn) (ch:=[it]) (fun b hb=>?_) (fun b o _ _ hc e _=>k b o (fun z=>hc (by simp[z])) e) (fun b o _ _ hc e _=>⟨o.slots,k b o (fun z=>hc (by simp[z])) e⟩) (fun _ _ _ _ n=>n)
  (fun b o hc e=>⟨o,k b o (fun z=>hc (by simp[z])) e⟩) (fun _ _ e=>e) (fun _ _ _ e=>e) (fun b ps e=>⟨#[],by rw[e];simp⟩) (fun m hm=>?_) (fun b u e=>?_) I.bare
 ·have e:b=it:=by simpa using hb
  subst e
  exact⟨h1,hL,h2,h3⟩
 ·obtain⟨o,es,ep,ho,r⟩:=hm
  exact⟨o,es,ep,k _ o (Ne.symm hL) ho,r⟩
 ·refine(I.hok b u e).stay (fun c v hc q=>k c v ?_ q) (fun _ q=>q) fun _ _ q=>q
  rcases hc with z|z
  ·rw[z];exact nit b u e
  ·exact nit c _ z
theorem Inv.tok (I:Inv X pins σ H s) (t:Nat):Inv X pins σ H { s with toks:=t }:=I.un (h':=s.heap) (t':=t) Un.refl I.hok
theorem Inv.kept {t':Nat}(I:Inv X pins σ H s) (k:∀b u,s.heap.get? b=some u->h'.get? b=some u):Inv X pins σ H { s with heap:=h',toks:=t' }:=I.un (Un.kept k) (I.hok.kept k)
theorem Inv.laid {a:Addr}{o:HO}{t':Nat}(I:Inv X pins σ H s) (k:∀b u,s.heap.get? b=some u->h'.get? b=some u) (hp:s.heap.objs.size<=a) (new:bB X.prog X.w (upd H a o) h' a o):
 Inv X pins σ (upd H a o) { s with heap:=h',toks:=t' }:=I.un (Un.laid k hp (I.hok.fresh hp)) (I.hok.laid k hp new)
theorem Inv.write {x e:Addr}{o:HO}{t':Nat}(I:Inv X pins σ H s) (mu:Mut (H x)) (he:e=x\/H e=some (.own x)) (k:∀b u,b≠e->s.heap.get? b=some u->h'.get? b=some u) (heo:∃u,h'.get? e=some u)
 (new:bB X.prog X.w (upd H x o) h' x o):Inv X pins σ (upd H x o) { s with heap:=h',toks:=t' }:=I.un (Un.write mu he k heo) (I.hok.write mu he k heo new)
theorem Inv.pins_of {pins':List (Addr×Obj)}(I:Inv X pins σ H s) (h:∀p∈pins',s.heap.get? p.1=some p.2/\H p.1=none/\p.1≠X.env.locals/\p.1∉X.fs/\∀v,p.2.data≠.cell v):Inv X pins' σ H s:=
 ⟨I.ok,I.os,I.bare,I.base,I.loc,I.cell,I.free,I.freeC,fun p hp=>(qi.mp hp).elim (fun z=>I.pin p (qV _ z)) (h p),I.hok,I.len⟩
theorem tO {N:List Str}(hN:N.Nodup) {i j:Nat}{x:Str}(a:N[i]?=some x) (b:N[j]?=some x):i=j:=by
 obtain⟨h1,e1⟩:=qg.mp a
 obtain⟨h2,e2⟩:=qg.mp b
 exact(List.getElem_inj hN).mp (e1.trans e2.symm)
theorem oX {M:Model}{A:Around}{E:Qq}{i:Nat}{x:Str}{v:V}{u:Value}{Q:Unit->Shared->Prop}(I:Inv X pins σ H s) (hN:X.N.Nodup) (hi:X.N[i]?=some x) (hx:Loc X.env.scope x) (r:ax v u)
 (h:∀s',Inv X pins (σ.set i (some v)) H s'->(∃a,Heap.SameBut a s.heap s'.heap/\(a=X.env.locals\/X.env.cells.lookup x=some a))->Q () s') (hf:X.fn x=true\/X.env.scope.names.lookup x=some .local:=by first|exact .inl rfl|exact .inr rfl|assumption):wpAny M A (storeName X.env x u) Q E s:=by
 obtain⟨m,hn,hl⟩:=id I.loc
 have hcls:(X.env.scope.kind == .class || (X.env.scope.kind == .module && X.env.locals != X.env.globals))=false:=by rw[I.ok.kind];rfl
 have hiσ:i<σ.length:=by rw[I.len];exact(qg.mp hi).1
 have cne:=I.cne
 have tracked:∀{a:Addr}{h':Heap},(∃o,s.heap.get? a=some o/\H a=none)->Heap.SameBut a s.heap h'->HOk X.prog X.w H h':=fun{a h'} ha hs b ob e=>by
  obtain⟨_,_,hfree⟩:=ha
  refine(I.hok b ob e).stay (fun c w' hc q=>(hs.2 c ?_).trans q) (fun _ q=>q) fun _ _ q=>q
  rintro rfl
  rcases hc with rfl|hc
  ·rw[hfree]at e;cases e
  ·rw[hfree]at hc;cases hc
 rcases hx with hk|hk
 ·refine wpAny_storeName_local hk hn (fun h' hn' hs=>?_) hcls
  obtain⟨oL,_,_,hoL,_⟩:=id hn
  refine h _ ⟨I.ok,I.os,I.bare,⟨fun b o e n hb hx=>?_,fun b o e n hb hx=>?_,I.base.free,fun b o e hx=>?_,I.base.tups,I.base.frzs,I.base.tbls⟩,⟨_,hn',fun j y v' e1 e2 e3=>?_⟩,fun y c e=>?_,I.free,I.freeC,fun p hp=>?_,tracked ⟨oL,hoL,I.free⟩ hs,by simpa using I.len⟩ ⟨_,hs,.inl rfl⟩
  ·exact(hs.2 b (qG (qD (qq e) I.ok.above))).trans (I.base.keep b o e n hb hx)
  ·obtain⟨sl,e1⟩:=I.base.slot b o e n hb hx
   exact⟨sl,(hs.2 b (qG (qD (qq e) I.ok.above))).trans e1⟩
  ·obtain⟨o',e1⟩:=I.base.there b o e hx
   exact⟨o',(hs.2 b (qG (qD (qq e) I.ok.above))).trans e1⟩
  ·by_cases hj:j=i
   ·subst hj
    rw[hi]at e1;cases e1
    rw[List.getElem?_set_self hiσ]at e2
    cases e2
    exact⟨u,r,.inl ⟨hk,by simp⟩⟩
   ·rw[List.getElem?_set_ne (Ne.symm hj)]at e2
    obtain⟨u',r',q⟩:=hl j y v' e1 e2 e3
    refine⟨u',r',?_⟩
    rcases q with⟨k,e⟩|⟨k,c,e,z⟩
    ·refine .inl ⟨k,?_⟩
     have:y≠x:=fun e=>hj (tO hN e1 (e▸hi))
     simp[this,e]
    ·exact .inr ⟨k,c,e,z.sameBut hs (cne y c e)⟩
  ·obtain⟨w',z⟩:=I.cell y c e
   exact⟨w',z.sameBut hs (cne y c e)⟩
  ·obtain⟨e,n,ne,nf,d⟩:=I.pin p hp
   exact⟨(hs.2 p.1 ne).trans e,n,ne,nf,d⟩
 ·have hfn:X.fn x=true:=by
   rcases hf with z|z
   ·exact z
   ·rw[z]at hk;cases hk
  obtain⟨c,hc⟩:=I.ok.has x (.inl hk)
  obtain⟨w',z⟩:=I.cell x c hc
  refine wpAny_storeName_cell I.ok.kind hk hc z (fun h' hc' hs=>?_)
  obtain⟨oc,hoc,hocd⟩:=id z
  refine h { s with heap:=h' } ⟨I.ok,I.os,I.bare,⟨fun b o e n hb hx=>?_,fun b o e n hb hx=>?_,I.base.free,fun b o e hx=>?_,I.base.tups,I.base.frzs,I.base.tbls⟩,⟨m,hn.sameBut hs (Ne.symm (cne x c hc)),fun j y v' e1 e2 e3=>?_⟩,fun y c' e=>?_,I.free,I.freeC,fun p hp=>?_,tracked ⟨oc,hoc,I.freeC x c hc⟩ hs,by simpa using I.len⟩ ⟨c,hs,.inr hc⟩
  ·exact(hs.2 b (qG (qD (qq e) (I.ok.cab x c hfn hc)))).trans (I.base.keep b o e n hb hx)
  ·obtain⟨sl,e1⟩:=I.base.slot b o e n hb hx
   exact⟨sl,(hs.2 b (qG (qD (qq e) (I.ok.cab x c hfn hc)))).trans e1⟩
  ·obtain⟨o',e1⟩:=I.base.there b o e hx
   exact⟨o',(hs.2 b (qG (qD (qq e) (I.ok.cab x c hfn hc)))).trans e1⟩
  ·by_cases hj:j=i
   ·subst hj
    rw[hi]at e1;cases e1
    rw[List.getElem?_set_self hiσ]at e2
    cases e2
    exact⟨u,r,.inr ⟨.inl hk,c,hc,hc'⟩⟩
   ·rw[List.getElem?_set_ne (Ne.symm hj)]at e2
    obtain⟨u',r',q⟩:=hl j y v' e1 e2 e3
    refine⟨u',r',?_⟩
    rcases q with q|⟨k,c',e,z'⟩
    ·exact .inl q
    ·refine .inr ⟨k,c',e,z'.sameBut hs ?_⟩
     rintro rfl
     exact hj (tO hN e1 (I.ok.inj _ _ _ e hc▸hi))
  ·by_cases hcc:c'=c
   ·subst hcc;exact⟨_,hc'⟩
   ·obtain⟨w2,z2⟩:=I.cell y c' e
    exact⟨w2,z2.sameBut hs hcc⟩
  ·obtain⟨e,n,ne,nf,d⟩:=I.pin p hp
   refine⟨(hs.2 p.1 ?_).trans e,n,ne,nf,d⟩
   intro q
   rw[q,hoc]at e
   have q':oc=p.2:=qJ e
   exact d w' (by rw[<- q'];exact hocd)
theorem oY {M:Model}{A:Around}{E:Qq}{i:Nat}{x:Str}{v:V}{u:Value}{Q:Unit->Shared->Prop}(I:Inv X pins σ H s) (hN:X.N.Nodup) (hi:X.N[i]?=some x) (hx:Loc X.env.scope x) (r:ax v u)
 (h:∀s',Inv X pins (σ.set i (some v)) H s'->Q () s') (hf:X.fn x=true\/X.env.scope.names.lookup x=some .local:=by first|exact .inl rfl|exact .inr rfl|assumption):wpAny M A (storeName X.env x u) Q E s:=
 oX I hN hi hx r (fun s' I' _=>h s' I') hf
theorem Inv.call' {s':Shared}{ch:List Addr}(I:Inv X pins σ H s) (ho:s'.os=s.os) (u:Un (frs X.stack) ch H H' s.heap s'.heap) (hok:HOk X.prog X.w H' s'.heap) (hg:AllBare s'.gens)
 (hch:∀b∈ch,(b∈X.ex\/X.s₀.heap.objs.size<=b)/\b≠X.env.locals/\(∀x c,X.env.cells.lookup x=some c->c≠b)/\∀p∈X.pn++pins,p.1≠b):Inv X pins σ H' s':=by
 obtain⟨h',g',d',t',o'⟩:=s'
 have e:o'=s.os:=ho
 subst e
 exact I.call (g':=g') (t':=t') (d':=d') u hok hg hch
end
abbrev XK:=Value->Option Addr->Hp->Prop
abbrev St:=List (Option V)
abbrev VK:=V->Hp->Prop
abbrev TE:=St->Hp->VK->Prop
abbrev TT:=St->Hp->(Bool->Hp->Prop)->Prop
abbrev TA:=St->Hp->(List V->Hp->Prop)->Prop
structure eF where
 nx:St->Hp->Prop
 rt:VK
 bk:St->Hp->Prop:=fun _ _=>False
 ct:St->Hp->Prop:=fun _ _=>False
abbrev TS:=eF->St->Hp->Prop
def EP (X:Cx) (pins:List (Addr×Obj)) (σ:St) (Q:VK) (u:Value) (s':Shared):Prop:=∃v H',Inv X pins σ H' s'/\ax v u/\Q v H'
def TP (X:Cx) (pins:List (Addr×Obj)) (σ:St) (Q:Bool->Hp->Prop) (b:Bool) (s':Shared):Prop:=∃H',Inv X pins σ H' s'/\Q b H'
def AP (X:Cx) (pins:List (Addr×Obj)) (σ:St) (Q:List V->Hp->Prop) (us:List Value) (s':Shared):Prop:=∃vs H',Inv X pins σ H' s'/\av vs us/\Q vs H'
def SP (X:Cx) (pins:List (Addr×Obj)) (D:eF) (f:Flow) (s':Shared):Prop:=
 match f with
 |.next=>∃σ' H',Inv X pins σ' H' s'/\D.nx σ' H'
 |.brk=>∃σ' H',Inv X pins σ' H' s'/\D.bk σ' H'
 |.cont=>∃σ' H',Inv X pins σ' H' s'/\D.ct σ' H'
 |.ret u=>∃v σ' H',Inv X pins σ' H' s'/\ax v u/\D.rt v H'
def PE (X:Cx) (e:Expr) (t:TE):Prop:=
 ∀(pins:List (Addr×Obj)) (s:Shared) (σ:St) (H:Hp) (Q:VK),Inv X pins σ H s->t σ H Q->wpAny (model X.prog X.w) X.A (eval e X.env) (EP X pins σ Q) X.xe s
def PT (X:Cx) (e:Expr) (t:TT):Prop:=
 ∀(pins:List (Addr×Obj)) (s:Shared) (σ:St) (H:Hp) (Q:Bool->Hp->Prop),Inv X pins σ H s->t σ H Q->wpAny (model X.prog X.w) X.A (isTrue e X.env (eval e X.env)) (TP X pins σ Q) X.xe s
def PW (X:Cx) (e:Expr) (t:TT):Prop:=
 ∀(whole:Sem Value) (pins:List (Addr×Obj)) (s:Shared) (σ:St) (H:Hp) (Q:Bool->Hp->Prop),Inv X pins σ H s->t σ H Q->wpAny (model X.prog X.w) X.A (isTrue e X.env whole) (TP X pins σ Q) X.xe s
theorem PW.pt {X:Cx}{e:Expr}{t:TT}(h:PW X e t):PT X e t:=h _
def PA (X:Cx) (es:List Expr) (t:TA):Prop:=
 ∀(pos:Pos) (pins:List (Addr×Obj)) (s:Shared) (σ:St) (H:Hp) (Q:List V->Hp->Prop),Inv X pins σ H s->t σ H Q->wpAny (model X.prog X.w) X.A (spliced (backTo pos (starEach es X.env))) (AP X pins σ Q) X.xe s
def PS (X:Cx) (st:Stmt) (t:TS):Prop:=
 ∀(pins:List (Addr×Obj)) (s:Shared) (σ:St) (H:Hp) (D:eF),Inv X pins σ H s->t D σ H->wpAny (model X.prog X.w) X.A (exec st X.env) (SP X pins D) X.xe s
def PSs (X:Cx) (st:List Stmt) (t:TS):Prop:=
 ∀(pins:List (Addr×Obj)) (s:Shared) (σ:St) (H:Hp) (D:eF),Inv X pins σ H s->t D σ H->wpAny (model X.prog X.w) X.A (execs st X.env) (SP X pins D) X.xe s
theorem thn {α:Type}{t:Sem α}{Q Q':α->Shared->Prop}{M:Model}{A:Around}{E:Qq}{s:Shared}(h:wpAny M A t Q E s) (hQ:∀a s,Q a s->Q' a s):wpAny M A t Q' E s:=wpAny_mono h hQ fun _ _ x=>x
section
variable {X:Cx}
theorem bin {a b:Expr}{ta tb:TE}(ha:PE X a ta) (hb:PE X b tb) {pins:List (Addr×Obj)}{s:Shared}{σ:St}{H:Hp}{R:V->V->Hp->Prop}(I:Inv X pins σ H s) (h:ta σ H fun x H1=>tb σ H1 fun y H2=>R x y H2)
 {α:Type}{Q:α->Shared->Prop}{f:Value->Value->Sem α}
 (hf:∀v u s2 x y H2,Inv X pins σ H2 s2->ax x v->ax y u->R x y H2->wpAny (model X.prog X.w) X.A (f v u) Q X.xe s2):
 wpAny (model X.prog X.w) X.A (eval a X.env) (fun v s₁=>wpAny (model X.prog X.w) X.A (eval b X.env) (fun u s₂=>wpAny (model X.prog X.w) X.A (f v u) Q X.xe s₂) X.xe s₁) X.xe s:=by
 refine thn (ha pins s σ H _ I h) fun v s1 ⟨x,H1,I1,r1,q1⟩=>?_
 refine thn (hb pins s1 σ H1 _ I1 q1) fun u s2 ⟨y,H2,I2,r2,q2⟩=>?_
 exact hf v u s2 x y H2 I2 r1 r2 q2
def oP (i:Nat):TE:=fun σ H Q=>∃v,σ[i]?=some (some v)/\Q v H
def tC (v:V):TE:=fun _ H Q=>Q v H
theorem zm {i:Nat}{x:Str}{pos:Pos}(hN:X.N[i]?=some x) (hv:Vis X.env.scope x) (hd:(x == ("__debug__":Str))=false:=by decide) (hcd:(x == ("__classdict__":Str))=false:=by decide):PE X (.Name x pos) (oP i):=by
 intro pins s σ H Q I h
 obtain⟨v,e,h⟩:=h
 obtain⟨m,hn,hl⟩:=I.loc
 obtain⟨u,r,l⟩:=hl i x v hN e hv
 have fin:EP X pins σ Q u s:=⟨v,H,I,r,h⟩
 rcases l with⟨hk,hm⟩|⟨hk,c,hc,hcell⟩
 ·exact wpAny_Name (wpAny_loadName_local I.ok.kind hk hn hm fin) hd
 ·rcases hk with hk|hk
  ·exact wpAny_Name (wpAny_loadName_cell I.ok.kind hk hc hcell fin) hd
  ·exact wpAny_Name (wpAny_loadName_free I.ok.kind hk hc hcell fin hcd) hd
theorem ac {i j pos}:PE X (.Constant (.int i) j pos) (tC (.int i)):=fun _ _ _ H _ I h=>wpAny_Constant_int ⟨.int i,H,I.tok _,⟨_,rfl⟩,h⟩
theorem eK {b j pos}:PE X (.Constant (.bool b) j pos) (tC (.bl b)):=fun _ _ _ H _ I h=>Constant_bool ⟨.bl b,H,I,rfl,h⟩
theorem cw {j pos}:PE X (.Constant .none j pos) (tC .non):=fun _ _ _ H _ I h=>Constant_none ⟨.non,H,I,rfl,h⟩
theorem aQ {x j pos}:PE X (.Constant (.str x) j pos) (tC (.str x)):=fun _ _ _ H _ I h=>Calls.Constant_str ⟨.str x,H,I.tok _,⟨_,rfl⟩,h⟩
def Gl (X:Cx) (x:Str):Prop:=X.env.kindOf x=some .globalImplicit
theorem u5 {E:Qq}{pins:List (Addr×Obj)}{s:Shared}{σ:St}{H:Hp}{x:Str}{u:Value}{pos:Pos}{Q:Qq}(I:Inv X pins σ H s) (hg:Gl X x) (hm:X.mg x=some u) (h:Q u s)
 (hd:(x == ("__debug__":Str))=false:=by decide):wpAny (model X.prog X.w) X.A (eval (.Name x pos) X.env) Q E s:=
 Calls.Name_function_global I.ok.kind hg (Calls.loadGlobal_global (by rw[I.ok.glob];exact I.mod.glob.keeps I.bk) hm h) hd
theorem g6 {E:Qq}{pins:List (Addr×Obj)}{s:Shared}{σ:St}{H:Hp}{x:Str}{u:Value}{pos:Pos}{Q:Qq}(I:Inv X pins σ H s) (hg:Gl X x) (hm:X.mg x=none) (hv:bootBuiltins x=some u) (h:Q u s)
 (hn:x≠"__name__":=by decide) (hd:(x == ("__debug__":Str))=false:=by decide):wpAny (model X.prog X.w) X.A (eval (.Name x pos) X.env) Q E s:=by
 obtain⟨mb,h1,h2⟩:=I.mod.blt
 exact Calls.Name_function_global I.ok.kind hg (Calls.loadGlobal_builtin (by rw[I.ok.glob];exact I.mod.glob.keeps I.bk) hm (by rw[I.ok.blt];exact h1.keeps I.bk) ((h2 x hn).trans hv) h) hd
theorem eV {x:Str}{v:V}{u:Value}{pos:Pos}(hg:Gl X x) (hm:X.mg x=some u) (r:ax v u) (hd:(x == ("__debug__":Str))=false:=by decide):PE X (.Name x pos) (tC v):=
 fun _ _ _ H _ I h=>u5 I hg hm ⟨v,H,I,r,h⟩ hd
theorem fV {x:Str}{v:V}{u:Value}{pos:Pos}(hg:Gl X x) (hm:X.mg x=none) (hv:bootBuiltins x=some u) (r:ax v u) (hn:x≠"__name__":=by decide) (hd:(x == ("__debug__":Str))=false:=by decide):PE X (.Name x pos) (tC v):=
 fun _ _ _ H _ I h=>g6 I hg hm hv ⟨v,H,I,r,h⟩ hn hd
variable {a b:Expr}{ta tb:TE}{pos:Pos}
def PC (X:Cx) (op:CmpOp) (a b:Expr) (t:TE):Prop:=
 ∀(pins:List (Addr×Obj)) (s:Shared) (σ:St) (H:Hp) (Q:VK),Inv X pins σ H s->t σ H Q->
  wpAny (model X.prog X.w) X.A (eval a X.env) (fun v s₁=>wpAny (model X.prog X.w) X.A (eval b X.env) (fun u s₂=>wpAny (model X.prog X.w) X.A (compareOp op v u) (EP X pins σ Q) X.xe s₂) X.xe s₁) X.xe s
def tB (t:TE):TT:=fun σ H Q=>t σ H fun x H1=>∃c,x=.bl c/\Q c H1
theorem CS {op:CmpOp}{t:TE}(h:PC X op a b t) (h1:behindInMarks op b=false:=by first|exact nobehind _ Qk Qk|rfl):PT X (.Compare a [op] [b] pos) (tB t):=by
 intro pins s σ H Q I hw
 refine wpAny_isTrue_Compare1 (thn (h pins s σ H _ I hw) fun v s1 h1=>thn h1 fun u s2 h2=>thn h2 fun c s3 ⟨x,H1,I1,r1,q1⟩=>?_) h1
 obtain⟨d,rfl,q⟩:=q1
 cases r1
 exact wpAny_truthy_bool ⟨H1,I1,q⟩
theorem yY {e:Expr}{t:TE}(h:PE X e t) (he:∀whole,isTrue e X.env whole=(do let v <- whole;standAt e.pos;holding [v] (truthy v)):=by intro _;rfl):PT X e (tB t):=by
 intro pins s σ H Q I hw
 refine isTrue_plain (thn (h pins s σ H _ I hw) fun v s1 ⟨x,H1,I1,r1,q1⟩=>?_) (he _)
 obtain⟨d,rfl,q⟩:=q1
 cases r1
 exact wpAny_truthy_bool ⟨H1,I1,q⟩
variable {tA tB':TT}{rest:List Expr}
def wL (t u:TT):TT:=fun σ H Q=>t σ H fun c H1=>if c=true then u σ H1 Q else Q false H1
def tOr (t u:TT):TT:=fun σ H Q=>t σ H fun c H1=>if c=true then Q true H1 else u σ H1 Q
def wn (t:TT):TT:=fun σ H Q=>t σ H fun c H1=>Q (!c) H1
theorem hU (ha:PT X a tA):PW X (.BoolOp .And [a] pos) tA:=by
 intro wh pins s σ H Q I h
 refine isTrue_and (thn (ha pins s σ H Q I h) fun c s1 e=>?_)
 cases c with
 |true=>exact isTrue_and_nil e
 |false=>exact e
theorem fP (ha:PT X a tA):PW X (.BoolOp .Or [a] pos) tA:=by
 intro wh pins s σ H Q I h
 refine isTrue_or (thn (ha pins s σ H Q I h) fun c s1 e=>?_)
 cases c with
 |false=>exact isTrue_or_nil e
 |true=>exact e
theorem fQ (ha:PT X a tA) (hb:PW X (.BoolOp .And (b::rest) pos) tB'):PW X (.BoolOp .And (a::b::rest) pos) (wL tA tB'):=by
 intro wh pins s σ H Q I h
 refine isTrue_and (thn (ha pins s σ H _ I h) fun c s1 ⟨H1,I1,q1⟩=>?_)
 cases c with
 |true=>exact hb wh pins s1 σ H1 Q I1 q1
 |false=>exact⟨H1,I1,q1⟩
theorem dn (ha:PT X a tA) (hb:PW X (.BoolOp .Or (b::rest) pos) tB'):PW X (.BoolOp .Or (a::b::rest) pos) (tOr tA tB'):=by
 intro wh pins s σ H Q I h
 refine isTrue_or (thn (ha pins s σ H _ I h) fun c s1 ⟨H1,I1,q1⟩=>?_)
 cases c with
 |true=>exact⟨H1,I1,q1⟩
 |false=>exact hb wh pins s1 σ H1 Q I1 q1
theorem fS (ha:PT X a tA):PT X (.UnaryOp .Not a pos) (wn tA):=by
 intro pins s σ H Q I h
 exact isTrue_not (ha pins s σ H (fun c H1=>Q (!c) H1) I h)
def wK (ta tb:TE):TE:=fun σ H Q=>ta σ H fun x H1=>∃c,x=.bl c/\if c=true then tb σ H1 Q else Q (.bl false) H1
def wm (ta:TE):TE:=fun σ H Q=>ta σ H fun x H1=>∃c,x=.bl c/\Q (.bl (!c)) H1
theorem iT {op}{t:TE}(h:PE X a t):PE X (.BoolOp op [a] pos) t:=fun pins s σ H Q I hw=>BoolOp_one (h pins s σ H Q I hw)
theorem gB (ha:PE X a ta) (hb:PE X (.BoolOp .And (b::rest) pos) tb):PE X (.BoolOp .And (a::b::rest) pos) (wK ta tb):=by
 intro pins s σ H Q I h
 refine BoolOp_and (thn (ha pins s σ H _ I h) fun v s1 ⟨x,H1,I1,r1,q1⟩=>?_)
 obtain⟨c,rfl,q1⟩:=q1
 cases r1
 refine wpAny_truthy_bool ?_
 cases c with
 |true=>exact hb pins s1 σ H1 Q I1 q1
 |false=>exact⟨.bl false,H1,I1,rfl,q1⟩
theorem zo (ha:PE X a ta):PE X (.UnaryOp .Not a pos) (wm ta):=by
 intro pins s σ H Q I h
 refine UnaryOp_ (thn (ha pins s σ H _ I h) fun v s1 ⟨x,H1,I1,r1,q1⟩=>?_)
 obtain⟨c,rfl,q1⟩:=q1
 cases r1
 exact not_of (wpAny_truthy_bool ⟨.bl (!c),H1,I1,rfl,q1⟩)
def tIf (t:TT) (ta tb:TE):TE:=fun σ H Q=>t σ H fun c H1=>if c=true then ta σ H1 Q else tb σ H1 Q
theorem gz {c:Expr}(hc:PT X c tA) (ha:PE X a ta) (hb:PE X b tb):PE X (.IfExp c a b pos) (tIf tA ta tb):=by
 intro pins s σ H Q I h
 refine wpAny_IfExp (thn (hc pins s σ H _ I h) fun d s1 ⟨H1,I1,q1⟩=>?_)
 cases d with
 |true=>exact ha pins s1 σ H1 Q I1 q1
 |false=>exact hb pins s1 σ H1 Q I1 q1
end
def SqL (K:PySem.W.Frag) (H:Hp) (a:Addr) (xs:List V):Prop:=
 Rd H a (.lst xs) \/
  ∃(o:Obj) (its:Array Value) (n:Nat),K.lookup a=some o/\o.cls=.type "list"/\o.dict=none/\o.data=.seq its n/\its.size<=sizeLine/\av xs its.toList
def SqT (K:PySem.W.Frag) (H:Hp) (a:Addr) (xs:List V):Prop:=
 Rd H a (.tup xs) \/
  ∃(o:Obj) (its:Array Value) (n:Nat),K.lookup a=some o/\o.cls=.type "tuple"/\o.data=.seq its n/\its.size<=sizeLine/\av xs its.toList
def CI:Value->Option V
 |.none=>some .non
 |.bool b=>some (.bl b)
 |.int i _=>some (.int i)
 |.str x _=>some (.str x)
 |.bytes b _=>some (.byt b)
 |.float b _=>some (.flt b)
 |.ref a=>some (.ref a)
 |.type n=>some (.ty n)
 |_=>none
theorem ax.abs {x:V}{u:Value}(r:ax x u):CI u=some x:=by
 cases x with
 |non=>cases r;rfl
 |bl _=>cases r;rfl
 |int _=>obtain⟨t,rfl⟩:=r;rfl
 |str _=>obtain⟨t,rfl⟩:=r;rfl
 |byt _=>obtain⟨t,rfl⟩:=r;rfl
 |flt _=>obtain⟨t,rfl⟩:=r;rfl
 |ref _=>cases r;rfl
 |ty _=>cases r;rfl
theorem ax.inj {x y:V}{u:Value}(r:ax x u) (q:ax y u):x=y:=qJ (r.abs.symm.trans q.abs)
theorem av.inj:∀{xs ys:List V}{us:List Value},av xs us->av ys us->xs=ys
 |_,_,_,.nil,.nil=>rfl
 |_,_,_,.cons r t,.cons r' t'=>by rw[r.inj r',av.inj t t']
section
variable {X:Cx}{pins:List (Addr×Obj)}{σ:St}{H:Hp}{s:Shared}{a:Addr}{xs ys:List V}
theorem SqL.of {K:PySem.W.Frag}(h:H a=some (.lst xs)):SqL K H a xs:=.inl (.inl h)
theorem SqT.of {K:PySem.W.Frag}(h:H a=some (.tup xs)):SqT K H a xs:=.inl (.inl h)
theorem Inv.list (I:Inv X pins σ H s) (h:SqL X.K H a xs):∃its:List Value,av xs its/\PlainL s.heap a its.toArray/\xs.length<=sizeLine:=by
 rcases h with h|⟨o,its,n,hk,hc,hd,hs,hz,r⟩
 ·obtain⟨z,its,n,r,e⟩:=h.ok I.hok
  exact⟨its,r,⟨_,n,e,rfl,rfl,rfl⟩,z⟩
 ·refine⟨its.toList,r,⟨o,n,I.kIn a o hk,hc,hd,by simpa using hs⟩,?_⟩
  have e:=r.length
  simp only[qM]at e
  omega
theorem Inv.tuple (I:Inv X pins σ H s) (h:SqT X.K H a xs):∃its:List Value,av xs its/\IsTup s.heap a its.toArray/\xs.length<=sizeLine:=by
 rcases h with h|⟨o,its,n,hk,hc,hs,hz,r⟩
 ·obtain⟨z,its,r,p⟩:=h.ok I.hok
  exact⟨its,r,p,z⟩
 ·refine⟨its.toList,r,⟨o,I.kIn a o hk,hc,n,by simpa using hs⟩,?_⟩
  have e:=r.length
  simp only[qM]at e
  omega
theorem Inv.list_inj (I:Inv X pins σ H s) (h:SqL X.K H a xs) (h':SqL X.K H a ys):xs=ys:=by
 obtain⟨its,r,⟨o,n,e,_,_,d⟩,_⟩:=I.list h
 obtain⟨its',r',⟨o',n',e',_,_,d'⟩,_⟩:=I.list h'
 rw[e]at e';cases e'
 rw[d]at d'
 injection d' with d1 _
 have:its=its':=by simpa using congrArg Array.toList d1
 subst this
 exact r.inj r'
theorem Inv.tuple_inj (I:Inv X pins σ H s) (h:SqT X.K H a xs) (h':SqT X.K H a ys):xs=ys:=by
 obtain⟨its,r,⟨o,e,_,n,d⟩,_⟩:=I.tuple h
 obtain⟨its',r',⟨o',e',_,n',d'⟩,_⟩:=I.tuple h'
 rw[e]at e';cases e'
 rw[d]at d'
 injection d' with d1 _
 have:its=its':=by simpa using congrArg Array.toList d1
 subst this
 exact r.inj r'
end
abbrev Cx.wish (X:Cx) (E:Qq):Cx:={ X with xe:=E }
abbrev Cx.nox (X:Cx):Cx:=X.wish fun _ _=>False
theorem Cx.Ok.wish {X:Cx}(ok:X.Ok) (E:Qq):(X.wish E).Ok:=
 ⟨ok.mod,ok.kind,ok.glob,ok.blt,ok.above,ok.inj,ok.has,ok.cab,ok.hd,ok.frames,ok.stk,ok.exf,ok.bs,ok.bsz,ok.noex,ok.exfs,ok.funs,ok.frf⟩
theorem Cx.Ok.unwish {X:Cx}{E:Qq}(ok:(X.wish E).Ok):X.Ok:=
 ⟨ok.mod,ok.kind,ok.glob,ok.blt,ok.above,ok.inj,ok.has,ok.cab,ok.hd,ok.frames,ok.stk,ok.exf,ok.bs,ok.bsz,ok.noex,ok.exfs,ok.funs,ok.frf⟩
section
variable {X:Cx}{pins:List (Addr×Obj)}{σ:St}{H:Hp}{s:Shared}{E:Qq}
theorem Inv.wish (I:Inv X pins σ H s) (E:Qq):Inv (X.wish E) pins σ H s:=⟨I.ok.wish E,I.os,I.bare,I.base,I.loc,I.cell,I.free,I.freeC,I.pin,I.hok,I.len⟩
theorem Inv.unwish (I:Inv (X.wish E) pins σ H s):Inv X pins σ H s:=⟨I.ok.unwish,I.os,I.bare,I.base,I.loc,I.cell,I.free,I.freeC,I.pin,I.hok,I.len⟩
theorem SP.unwish {D:eF}{f:Flow}{s':Shared}(h:SP (X.wish E) pins D f s'):SP X pins D f s':=by
 cases f with
 |next=>obtain⟨σ',H',I,q⟩:=h;exact⟨σ',H',I.unwish,q⟩
 |brk=>obtain⟨σ',H',I,q⟩:=h;exact⟨σ',H',I.unwish,q⟩
 |cont=>obtain⟨σ',H',I,q⟩:=h;exact⟨σ',H',I.unwish,q⟩
 |ret u=>obtain⟨v,σ',H',I,r,q⟩:=h;exact⟨v,σ',H',I.unwish,r,q⟩
theorem PSs.nox {st:List Stmt}{t:TS}(h:PSs X.nox st t):PSs X st t:=fun pins s σ H D I hw=>
 wpAny_mono (h pins s σ H D (I.wish _) hw) (fun _ _ q=>q.unwish) fun _ _ z=>False.elim z
end
section
variable {X:Cx}{st:Stmt}{rest:List Stmt}{t u:TS}{e:Expr}{te:TE}{pos:Pos}
def wt:TS:=fun D σ H=>D.nx σ H
def oQ (t u:TS):TS:=fun D σ H=>t { D with nx:=u D } σ H
theorem aZ:PSs X [] wt:=fun _ _ σ H _ I h=>wpAny_execs_nil ⟨σ,H,I,h⟩
theorem ai (h1:PS X st t) (h2:PSs X rest u):PSs X (st::rest) (oQ t u):=by
 intro pins s σ H D I h
 refine wpAny_execs_cons (thn (h1 pins s σ H { D with nx:=u D } I h) fun f s1 q=>?_)
 cases f with
 |next=>
  obtain⟨σ',H',I',q⟩:=q
  exact h2 pins s1 σ' H' D I' q
 |ret v=>exact q
 |brk=>exact q
 |cont=>exact q
theorem ak (h1:PS X st t):PSs X [st] t:=by
 intro pins s σ H D I h
 refine wpAny_execs_cons (thn (h1 pins s σ H D I h) fun f s1 q=>?_)
 cases f with
 |next=>exact wpAny_execs_nil q
 |ret v=>exact q
 |brk=>exact q
 |cont=>exact q
theorem Inv.quiet {pins:List (Addr×Obj)}{σ:St}{H:Hp}{s:Shared}(I:Inv X pins σ H s):interactive X.env=false:=by simp[interactive,I.ok.kind]
def wz (te:TE):TS:=fun D σ H=>te σ H fun _ H1=>D.nx σ H1
theorem bC (he:PE X e te) (hs:swapsWith e none pos.line X.env=pure false:=by rfl):PS X (.Expr e pos) (wz te):=by
 intro pins s σ H D I h
 exact wpAny_Expr_any (thn (he pins s σ H _ I h) fun v s1 ⟨x,H1,I1,r1,q1⟩=>⟨σ,H1,I1,q1⟩) I.quiet hs
def wg (te:TE):TS:=fun D σ H=>te σ H D.rt
theorem aE (he:PE X e te):PS X (.Return (some e) pos) (wg te):=by
 intro pins s σ H D I h
 exact wpAny_Return_some (thn (he pins s σ H _ I h) fun v s1 ⟨x,H1,I1,r1,q1⟩=>⟨x,σ,H1,I1,r1,q1⟩)
def wx (c:TT) (t u:TS):TS:=fun D σ H=>c σ H fun b H1=>if b=true then t D σ H1 else u D σ H1
theorem aP {c:Expr}{a b:List Stmt}{tc:TT}(hc:PT X c tc) (ha:PSs X a t) (hb:PSs X b u):PS X (.If c a b pos) (wx tc t u):=by
 intro pins s σ H D I h
 refine wpAny_If (thn (hc pins s σ H _ I h) fun d s1 ⟨H1,I1,q1⟩=>?_)
 cases d with
 |true=>exact ha pins s1 σ H1 D I1 q1
 |false=>exact hb pins s1 σ H1 D I1 q1
def wu:TS:=fun _ _ _=>False
theorem sR:PS X st wu:=fun _ _ _ _ _ _ h=>h.elim
end
abbrev TG:=V->St->Hp->(St->Hp->Prop)->Prop
abbrev TGs:=List V->St->Hp->(St->Hp->Prop)->Prop
def PG (X:Cx) (target:Expr) (t:TG):Prop:=
 ∀(pins:List (Addr×Obj)) (s:Shared) (σ:St) (H:Hp) (v:V) (u:Value) (Q:St->Hp->Prop),Inv X pins σ H s->ax v u->t v σ H Q->
  wpAny (model X.prog X.w) X.A (assign target X.env u) (fun _ s'=>∃σ' H',Inv X pins σ' H' s'/\Q σ' H') X.xe s
def PGs (X:Cx) (ts:List Expr) (t:TGs):Prop:=
 ∀(pins:List (Addr×Obj)) (s:Shared) (σ:St) (H:Hp) (vs:List V) (us:List Value) (Q:St->Hp->Prop),Inv X pins σ H s->av vs us->t vs σ H Q->
  wpAny (model X.prog X.w) X.A (assignInOrder ((assignEach ts X.env).map (·.2)) us) (fun _ s'=>∃σ' H',Inv X pins σ' H' s'/\Q σ' H') X.xe s
abbrev oq:=V->V->V->Hp->(Hp->Prop)->Prop
def vD (X:Cx) (t:oq):Prop:=
 ∀(pins:List (Addr×Obj)) (s:Shared) (σ:St) (H:Hp) (o i v:V) (ov iv u:Value) (Q:Hp->Prop),Inv X pins σ H s->ax o ov->ax i iv->ax v u->t o i v H Q->
  wpAny (model X.prog X.w) X.A (setItem ov iv u) (fun _ s'=>∃H',Inv X pins σ H' s'/\Q H') X.xe s
section
variable {X:Cx}{pos:Pos}
def nG (i:Nat):TG:=fun v σ H Q=>Q (σ.set i (some v)) H
theorem aM {i:Nat}{x:Str}(hN:X.N.Nodup) (hi:X.N[i]?=some x) (hx:Loc X.env.scope x) (hf:X.fn x=true\/X.env.scope.names.lookup x=some .local:=by first|exact .inl rfl|exact .inr rfl|assumption):PG X (.Name x pos) (nG i):=by
 intro pins s σ H v u Q I r h
 exact wpAny_assign_Name (oY I hN hi hx r (fun s' I'=>⟨_,H,I',h⟩) hf)
def Br:TGs:=fun vs σ H Q=>vs=[]/\Q σ H
def Bs (t:TG) (u:TGs):TGs:=fun vs σ H Q=>∃v r,vs=v::r/\t v σ H fun σ' H'=>u r σ' H' Q
theorem dH:PGs X [] Br:=by
 intro pins s σ H vs us Q I r h
 obtain⟨e,h⟩:=h
 subst e
 cases r
 exact assignInOrder_nil ⟨σ,H,I,h⟩
theorem bW {e:Expr}{es:List Expr}{t:TG}{u:TGs}(h1:PG X e t) (h2:PGs X es u)
 (hs:(assignEach (e::es) X.env).map (·.2)=assign e X.env::(assignEach es X.env).map (·.2):=by rfl):PGs X (e::es) (Bs t u):=by
 intro pins s σ H vs us Q I r h
 obtain⟨v,vr,e1,h⟩:=h
 subst e1
 cases r with
 |cons r rr=>
  rw[hs]
  refine assignInOrder_cons (thn (h1 pins s σ H _ _ _ I r h) fun _ s1 ⟨σ1,H1,I1,q1⟩=>?_)
  exact h2 pins s1 σ1 H1 _ _ Q I1 rr q1
def uk (K:PySem.W.Frag) (n:Nat) (t:TGs):TG:=fun v σ H Q=>∃a xs,v=.ref a/\SqT K H a xs/\xs.length=n/\t xs σ H Q
theorem dR {es:List Expr}{k:Nat}{t:TGs}{n:Nat}(hc:X.calm=true) (h:PGs X es t)
 (hn:(assignEach es X.env).length=n:=by rfl) (hst:(assignEach es X.env).findIdx? (·.1)=none:=by rfl):PG X (.Tuple es k pos) (uk X.K n t):=by
 intro pins s σ H v u Q I r hw
 obtain⟨a,xs,e1,hq,hl,hw⟩:=hw
 subst e1
 cases r
 obtain⟨its,rv,ht,hz⟩:=I.tuple hq
 refine assign_Tuple_tuple (I.ok.hd hc) ht (by simp[hn,<- hl,rv.length]) hst fun h' hx=>?_
 have I1:Inv X pins σ H { s with heap:=h' }:=I.kept (t':=s.toks) fun b o e=>hx b o (qG (qq e)) e
 exact h pins _ σ H xs _ Q I1 (by simpa using rv) hw
def Bq (to ti:TE) (t:oq):TG:=fun v σ H Q=>to σ H fun o H1=>ti σ H1 fun i H2=>t o i v H2 fun H3=>Q σ H3
theorem sW {o i:Expr}{to ti:TE}{t:oq}(ho:PE X o to) (hi:PE X i ti) (hs:vD X t)
 (ha:∀v,assign (.Subscript o i pos) X.env v=(do
  let ov <- holding [v] (eval o X.env)
  let iv <- holding [v,ov] (eval i X.env)
  standAt pos
  holding [v,ov,iv] (setItem ov iv v)
  release [v,ov,iv] []):=by intro _;rfl):PG X (.Subscript o i pos) (Bq to ti t):=by
 intro pins s σ H v u Q I r h
 rw[ha]
 refine q9 (wpAny_holding (thn (ho pins s σ H _ I h) fun ov s1 ⟨x,H1,I1,r1,q1⟩=>?_))
 refine q9 (wpAny_holding (thn (hi pins s1 σ H1 _ I1 q1) fun iv s2 ⟨y,H2,I2,r2,q2⟩=>?_))
 refine q9 (wpAny_standAt (q9 (wpAny_holding (thn (hs pins s2 σ H2 x y v ov iv u _ I2 r1 r2 r q2) fun _ s3 ⟨H3,I3,q3⟩=>?_))))
 exact wpAny_release ⟨σ,H3,I3,q3⟩
def kA (te:TE) (g:TG):TS:=fun D σ H=>te σ H fun x H1=>g x σ H1 D.nx
theorem jE {tg e:Expr}{te:TE}{g:TG}(he:PE X e te) (hg:PG X tg g) (hs:swapsWithSole [tg] e pos.line X.env=pure false:=by rfl) (hw:swappedStores [tg] e X.env=pure none:=by rfl)
 (h1:(assignEach [tg] X.env).map (·.2)=[assign tg X.env]:=by rfl):PS X (.Assign [tg] e pos) (kA te g):=by
 intro pins s σ H D I h
 refine wpAny_Assign_stores (thn (he pins s σ H _ I h) fun v s1 ⟨x,H1,I1,r1,q1⟩=>?_) hs hw
 rw[h1]
 exact thn (hg pins s1 σ H1 x v _ I1 r1 q1) fun _ s2 q=>q
theorem aq {i:Nat}{x:Str}{e:Expr}{te:TE}{pos':Pos}(hN:X.N.Nodup) (hi:X.N[i]?=some x) (hx:Loc X.env.scope x) (he:PE X e te) (hs:swapsWith e (some (.Name x pos')) pos.line X.env=pure false:=by rfl) (hf:X.fn x=true\/X.env.scope.names.lookup x=some .local:=by first|exact .inl rfl|exact .inr rfl|assumption):
 PS X (.Assign [.Name x pos'] e pos) (kA te (nG i)):=by
 intro pins s σ H D I h
 refine wpAny_Assign_Name (thn (he pins s σ H _ I h) fun v s1 ⟨y,H1,I1,r1,q1⟩=>?_) hs
 exact oY I1 hN hi hx r1 (fun s2 I2=>⟨_,H1,I2,q1⟩) hf
end
section
variable {X:Cx}{pos:Pos}
end
structure It where
 go:Nat->Hp->Prop
 yld:Nat->Hp->V->Hp->Prop
 stop:Nat->Hp->Prop
def cY (X:Cx) (pins:List (Addr×Obj)) (H:Hp) (b:Addr):Prop:=
 H b=none/\b≠X.env.locals/\b∉X.fs/\(b∈X.ex\/X.s₀.heap.objs.size<=b)/\(∀x c,X.env.cells.lookup x=some c->c≠b)/\∀p∈X.pn++pins,p.1≠b
theorem Inv.fpOk {X:Cx}{pins:List (Addr×Obj)}{σ:St}{H H':Hp}{s:Shared}{b:Addr}(I:Inv X pins σ H s) (hb:s.heap.objs.size<=b) (hn:H' b=none):cY X pins H' b:=by
 refine⟨hn,Nat.ne_of_gt (qD I.lt hb),I.nofs hb,.inr (qy I.sz hb),fun x c e z=>?_,fun p hp z=>?_⟩
 ·obtain⟨v,q⟩:=I.cell x c e
  exact absurd (qD q.lt (by rw[z];exact hb)) (Nat.lt_irrefl _)
 ·exact absurd (qD (qq (I.pin p hp).1) (by rw[z];exact hb)) (Nat.lt_irrefl _)
structure gQ (P:Program) (w:World) (K:PySem.W.Frag) (tg:Expr) (J:It) (fp:List Addr) (it:Addr) (tn:Nat->Heap->Prop):Prop where
 mem:it∈fp
 obj:∀i h,tn i h->∀b∈fp,∃o,h.get? b=some o/\∀v,o.data≠.cell v
 keep:∀i h h',tn i h->(∀b∈fp,∀o,h.get? b=some o->h'.get? b=some o)->tn i h'
 item:∀(X:Cx),X.prog=P->X.w=w->X.K=K->X.calm=true->∀(i:Nat) (pins:List (Addr×Obj)) (s:Shared) (σ:St) (H:Hp) (E:Qq),Inv X pins σ H s->(∀b∈fp,cY X pins H b)->tn i s.heap->J.go i H->
  wpAny (model P w) X.A (pyNext (.ref it)) (fun r s1=>∃u,r=some u /\
   wpAny (model P w) X.A (letOwnedTupleGo tg (.ref it) u) (fun _ s2=>∃x H',Inv X pins σ H' s2/\ax x u/\J.yld i H x H'/\tn (i+1) s2.heap/\∀b∈fp,H' b=none) E s1) E s
 done:∀(X:Cx),X.prog=P->X.w=w->X.K=K->X.calm=true->∀(i:Nat) (pins:List (Addr×Obj)) (s:Shared) (σ:St) (H:Hp) (E:Qq),Inv X pins σ H s->(∀b∈fp,cY X pins H b)->tn i s.heap->J.stop i H->
  wpAny (model P w) X.A (pyNext (.ref it)) (fun r s1=>r=none/\Inv X pins σ H s1) E s
 self:∀(A:Around) (i:Nat) (s:Shared) (Q:Qq) (E:Qq),tn i s.heap->Q (.ref it) s->wpAny (model P w) A (pyIter (.ref it)) Q E s
abbrev TI:=St->Hp->(It->Hp->Prop)->Prop
def PIE (X:Cx) (pins:List (Addr×Obj)) (σ:St) (tg:Expr) (R:It->Hp->Prop) (itv:Value) (s2:Shared):Prop:=
 ∃(it:Addr) (fp:List Addr) (tn:Nat->Heap->Prop) (J:It) (H':Hp),itv=.ref it/\Inv X pins σ H' s2/\gQ X.prog X.w X.K tg J fp it tn/\tn 0 s2.heap/\(∀b∈fp,cY X pins H' b)/\R J H'
def PI (X:Cx) (tg iter:Expr) (wi:TI):Prop:=
 ∀(pins:List (Addr×Obj)) (s:Shared) (σ:St) (H:Hp) (R:It->Hp->Prop),Inv X pins σ H s->wi σ H R->
  wpAny (model X.prog X.w) X.A (eval iter X.env) (fun v s1=>wpAny (model X.prog X.w) X.A (pyIter v) (PIE X pins σ tg R) X.xe s1) X.xe s
theorem nF {M:Model}{A:Around}{E:Qq}{s:Shared}{tg:Expr}{it:Addr}{u:Value}{o:Obj}{n:String}{vs:Array Value}{Q:Unit->Shared->Prop}(ho:s.heap.get? it=some o) (hc:o.cls=.type n) (hd:o.data=.fields vs)
 (hn:["enumerate","zip","dict_itemiterator","dict_reverseitemiterator","odict_iterator","itertools.zip_longest","itertools.pairwise"].contains n=false) (hQ:Q () s):wpAny M A (letOwnedTupleGo tg (.ref it) u) Q E s:=by
 unfold letOwnedTupleGo
 cases tg<;>first
  |exact qe hQ
  |(cases u<;>first
   |exact qe hQ
   |(refine q9 (wpAny_load ho ?_)
     rw[hc,hd]
     show wpAny M A (if(["enumerate","zip","dict_itemiterator","dict_reverseitemiterator","odict_iterator","itertools.zip_longest","itertools.pairwise"].contains n && vs[0]? == some (rawInt _))=true then _ else _) Q E s
     rw[qZ (by intro h;rw[hn,Bool.false_and]at h;cases h)]
     exact qe hQ))
def Itl (K:PySem.W.Frag) (a:Addr):It:=
 ⟨fun i H=>∃xs x,SqL K H a xs/\xs[i]?=some x,fun i H x H'=>H'=H/\∀xs,SqL K H a xs->xs[i]?=some x,fun i H=>∃xs,SqL K H a xs/\xs.length<=i⟩
def Itt (K:PySem.W.Frag) (a:Addr):It:=
 ⟨fun i H=>∃xs x,SqT K H a xs/\xs[i]?=some x,fun i H x H'=>H'=H/\∀xs,SqT K H a xs->xs[i]?=some x,fun i H=>∃xs,SqT K H a xs/\xs.length<=i⟩
def Itr (lo:Int) (n:Nat):It:=⟨fun i _=>i<n,fun i H x H'=>H'=H/\x=.int (lo+i),fun i _=>n<=i⟩
theorem w8 {P:Program}{w:World}{K:PySem.W.Frag}{tg:Expr}(a it:Addr):gQ P w K tg (Itl K a) [it] it (fun i h=>h.IsListIter it a i) where
 mem:=by simp
 obj:=fun i h st b hb=>by
  have e:b=it:=by simpa using hb
  subst e
  obtain⟨o,e,c,d⟩:=st
  exact⟨o,e,fun v z=>by rw[d]at z;cases z⟩
 keep:=fun i h h' st k=>st.at fun o e=>k it (by simp) o e
 item:=by
  intro X hP hw hK hc i pins s σ H E I hf st hg
  subst hP hw hK
  obtain⟨xs,x,hq,hx⟩:=hg
  obtain⟨its,rv,p,hz⟩:=I.list hq
  obtain⟨u,hu,ru⟩:=rv.get hx
  obtain⟨f0,f1,f2,f3,f4,f5⟩:=hf it (by simp)
  refine wpAny_pyNext_list_item st p.isList (x:=u) (by simpa using hu) fun h' st' sb=>?_
  have I1:Inv X pins σ H { s with heap:=h' }:=I.turned (t':=s.toks) (fun b o hb e=>(sb.2 b hb).trans e) f0 f1 f3 f4 f5
  obtain⟨o,e,c,d⟩:=id st'
  exact⟨u,rfl,nF (s:={ s with heap:=h' }) e c d Qk ⟨x,H,I1,ru,⟨rfl,fun ys hy=>by rw[I.list_inj hy hq];exact hx⟩,st',fun b hb=>(hf b hb).1⟩⟩
 done:=by
  intro X hP hw hK hc i pins s σ H E I hf st hg
  subst hP hw hK
  obtain⟨xs,hq,hx⟩:=hg
  obtain⟨its,rv,p,hz⟩:=I.list hq
  obtain⟨f0,f1,f2,f3,f4,f5⟩:=hf it (by simp)
  have hl:=rv.length
  exact wpAny_pyNext_list_end (I.ok.hd hc) st p.isList (by simp;omega) fun h' eb=>⟨rfl,I.turned (t':=s.toks) (fun b o hb e=>eb b o hb e) f0 f1 f3 f4 f5⟩
 self:=fun _ _ _ _ _ st h=>wpAny_pyIter_listiter st h
theorem w5 {P:Program}{w:World}{K:PySem.W.Frag}{tg:Expr}(a it:Addr):gQ P w K tg (Itt K a) [it] it (fun i h=>h.IsTupleIter it a i) where
 mem:=by simp
 obj:=fun i h st b hb=>by
  have e:b=it:=by simpa using hb
  subst e
  obtain⟨o,e,c,d⟩:=st
  exact⟨o,e,fun v z=>by rw[d]at z;cases z⟩
 keep:=fun i h h' st k=>st.at fun o e=>k it (by simp) o e
 item:=by
  intro X hP hw hK hc i pins s σ H E I hf st hg
  subst hP hw hK
  obtain⟨xs,x,hq,hx⟩:=hg
  obtain⟨its,rv,p,hz⟩:=I.tuple hq
  obtain⟨u,hu,ru⟩:=rv.get hx
  obtain⟨f0,f1,f2,f3,f4,f5⟩:=hf it (by simp)
  refine wpAny_pyNext_tuple_item st (show s.heap.IsTuple a its.toArray from p) (x:=u) (by simpa using hu) fun h' st' sb=>?_
  have I1:Inv X pins σ H { s with heap:=h' }:=I.turned (t':=s.toks) (fun b o hb e=>(sb.2 b hb).trans e) f0 f1 f3 f4 f5
  obtain⟨o,e,c,d⟩:=id st'
  exact⟨u,rfl,nF (s:={ s with heap:=h' }) e c d Qk ⟨x,H,I1,ru,⟨rfl,fun ys hy=>by rw[I.tuple_inj hy hq];exact hx⟩,st',fun b hb=>(hf b hb).1⟩⟩
 done:=by
  intro X hP hw hK hc i pins s σ H E I hf st hg
  subst hP hw hK
  obtain⟨xs,hq,hx⟩:=hg
  obtain⟨its,rv,p,hz⟩:=I.tuple hq
  obtain⟨f0,f1,f2,f3,f4,f5⟩:=hf it (by simp)
  have hl:=rv.length
  exact wpAny_pyNext_tuple_end (I.ok.hd hc) st (show s.heap.IsTuple a its.toArray from p) (by simp;omega) fun h' eb=>⟨rfl,I.turned (t':=s.toks) (fun b o hb e=>eb b o hb e) f0 f1 f3 f4 f5⟩
 self:=fun _ _ _ _ _ st h=>wpAny_pyIter_tupleiter st h
theorem w6 {P:Program}{w:World}{K:PySem.W.Frag}{tg:Expr}(it:Addr) (lo:Int) (n:Nat):gQ P w K tg (Itr lo n) [it] it (fun i h=>IsRangeIter h it (lo+(i:Nat) * 1) ((n:Int)-(i:Nat)) 1) where
 mem:=by simp
 obj:=fun i h st b hb=>by
  have e:b=it:=by simpa using hb
  subst e
  exact⟨_,st,fun v z=>by
   have z':Data.fields _=Data.cell v:=z
   cases z'⟩
 keep:=fun i h h' st k=>k it (by simp) _ st
 item:=by
  intro X hP hw hK hc i pins s σ H E I hf st hg
  subst hP hw hK
  obtain⟨f0,f1,f2,f3,f4,f5⟩:=hf it (by simp)
  have W:=Walks.range (prog:=X.prog) (w:=X.w) (I.ok.hd hc) it lo 1 n
  refine W.item i s _ _ hg st fun v h' tk hv st' kk=>?_
  obtain⟨t,rfl⟩:=hv
  have I1:Inv X pins σ H { s with heap:=h',toks:=tk }:=I.turned (fun b o hb e=>kk b o (by simpa using hb) e) f0 f1 f3 f4 f5
  refine⟨_,rfl,nF (s:={ s with heap:=h',toks:=tk }) (n:="range_iterator") st' rfl rfl Qk ⟨.int (lo+i),H,I1,⟨t,?_⟩,⟨rfl,rfl⟩,st',fun b hb=>(hf b hb).1⟩⟩
  rw[Int.mul_one]
 done:=by
  intro X hP hw hK hc i pins s σ H E I hf st hg
  subst hP hw hK
  obtain⟨f0,f1,f2,f3,f4,f5⟩:=hf it (by simp)
  exact wpAny_pyNext_range_end (I.ok.hd hc) st (by have:n<=i:=hg;omega) fun h' eb=>⟨rfl,I.turned (t':=s.toks) (fun b o hb e=>eb b o hb e) f0 f1 f3 f4 f5⟩
 self:=fun _ _ _ _ _ st h=>wpAny_pyIter_rangeiter st h
section
variable {X:Cx}{tg:Expr}
def Bm (K:PySem.W.Frag) (tl:TE):TI:=fun σ H R=>tl σ H fun x H1=>∃a,x=.ref a/\(∃xs,SqL K H1 a xs)/\R (Itl K a) H1
def Bl (K:PySem.W.Frag) (tl:TE):TI:=fun σ H R=>tl σ H fun x H1=>∃a,x=.ref a/\(∃xs,SqT K H1 a xs)/\R (Itt K a) H1
theorem cT {l:Expr}{tl:TE}(hl:PE X l tl):PI X tg l (Bm X.K tl):=by
 intro pins s σ H R I h
 refine thn (hl pins s σ H _ I h) fun v s1 ⟨x,H1,I1,r1,q1⟩=>?_
 obtain⟨a,e,⟨xs,hq⟩,q⟩:=q1
 subst e
 cases r1
 obtain⟨its,rv,p,hz⟩:=I1.list hq
 refine wpAny_pyIter_list p.isList ?_
 refine⟨s1.heap.objs.size,[s1.heap.objs.size],_,_,H1,rfl,I1.kept (t':=s1.toks) fun b o e=>qb _ e,w8 a _,⟨_,qp _ rfl,rfl,rfl⟩,fun b hb=>?_,q⟩
 have e:b=s1.heap.objs.size:=by simpa using hb
 subst e
 exact I1.fpOk (qf _) (I1.hok.fresh (qf _))
theorem hZ {l:Expr}{tl:TE}(hl:PE X l tl):PI X tg l (Bl X.K tl):=by
 intro pins s σ H R I h
 refine thn (hl pins s σ H _ I h) fun v s1 ⟨x,H1,I1,r1,q1⟩=>?_
 obtain⟨a,e,⟨xs,hq⟩,q⟩:=q1
 subst e
 cases r1
 obtain⟨its,rv,p,hz⟩:=I1.tuple hq
 refine wpAny_pyIter_tuple (show s1.heap.IsTuple a its.toArray from p) ?_
 refine⟨s1.heap.objs.size,[s1.heap.objs.size],_,_,H1,rfl,I1.kept (t':=s1.toks) fun b o e=>qb _ e,w5 a _,⟨_,qp _ rfl,rfl,rfl⟩,fun b hb=>?_,q⟩
 have e:b=s1.heap.objs.size:=by simpa using hb
 subst e
 exact I1.fpOk (qf _) (I1.hok.fresh (qf _))
theorem yu {pins:List (Addr×Obj)}{σ:St}{H:Hp}{s:Shared}{R:It->Hp->Prop}{E:Qq}{lo hi:Int}{t u v:Tok}{tk:Nat}(I:Inv X pins σ H s) (h1:-(2 ^ 62)<=lo) (h2:lo<2 ^ 62) (h3:-(2 ^ 62)<=hi) (h4:hi<2 ^ 62)
 (q:R (Itr lo (hi-lo).toNat) H):wpAny (model X.prog X.w) X.A (pyIter (.ref s.heap.objs.size)) (PIE X pins σ tg R) E { s with heap:=s.heap.push { cls:=.type "range",data:=.fields #[.int lo t,.int hi u,.int 1 v] },toks:=tk }:=by
 refine wpAny_pyIter_range (IsRange.new ..) (small_one h1 h2 h3 h4) ?_
 have I1:Inv X pins σ H { s with heap:=s.heap.push { cls:=.type "range",data:=.fields #[.int lo t,.int hi u,.int 1 v] },toks:=tk }:=I.kept fun b o e=>qb _ e
 refine⟨(s.heap.push { cls:=.type "range",data:=.fields #[.int lo t,.int hi u,.int 1 v] }).objs.size,[(s.heap.push { cls:=.type "range",data:=.fields #[.int lo t,.int hi u,.int 1 v] }).objs.size],_,_,H,rfl,
  I1.kept (t':=tk) fun b o e=>qb _ e,w6 _ lo (hi-lo).toNat,?_,fun b hb=>?_,q⟩
 ·have e1:lo+((0:Nat):Int) * 1=lo:=by simp
  have e2:(((hi-lo).toNat:Nat):Int)-((0:Nat):Int)=Builtin.Range.rangeSize lo hi 1:=by rw[rangeSize_one];split<;>omega
  show IsRangeIter _ _ (lo+((0:Nat):Int) * 1) ((((hi-lo).toNat:Nat):Int)-((0:Nat):Int)) 1
  rw[e1,e2]
  exact qp _ rfl
 ·have e:b=(s.heap.push { cls:=.type "range",data:=.fields #[.int lo t,.int hi u,.int 1 v] }).objs.size:=by simpa using hb
  subst e
  exact I1.fpOk (qf _) (I1.hok.fresh (qf _))
def nE (ta:TA):TI:=fun σ H R=>ta σ H fun vs H1=>∃j:Int,vs=[.int j]/\-(2 ^ 62)<=j/\j<2 ^ 62/\R (Itr 0 j.toNat) H1
theorem zj {a:Expr}{ta:TA}{p pos:Pos}(hg:Gl X "range") (hm:X.mg "range"=none) (ha:PA X [a] ta) (hs:starEach [a] X.env=[(false,eval a X.env)]:=by rfl):PI X tg (.Call (.Name "range" p) [a] [] pos) (nE ta):=by
 intro pins s σ H R I h
 refine Call_ (g6 I hg hm boot_range (PyProof.Rows.callWith_type1 (thn (ha pos pins s σ H _ I h) fun us s1 ⟨vs,H1,I1,r1,q1⟩=>?_) hs rfl))
 obtain⟨j,e,q1,q2,q⟩:=q1
 subst e
 cases r1 with
 |cons r rr=>
  cases rr
  obtain⟨t,rfl⟩:=r
  exact call_range_1 (yu I1 Qo Qo q1 q2 (by simpa using q))
def wy (wi:TI) (g:TG) (tb:TS):TS:=fun D σ H=>wi σ H fun J H1=>∃W:Nat->Nat->St->Hp->Prop,(∃m,W 0 m σ H1)/\∀i m σ H,W i m σ H->
 (J.stop i H/\D.nx σ H)\/(J.go i H/\∃N:St->Hp->Prop,(∀σ' H',N σ' H'->∃m',m'<m/\W (i+1) m' σ' H')/\∀x H',J.yld i H x H'->g x σ H' fun σ2 H2=>tb { D with nx:=N,ct:=N,bk:=D.nx } σ2 H2)
def iS (fp:List Addr) (h:Heap):List (Addr×Obj):=fp.filterMap fun b=>(h.get? b).map fun o=>(b,o)
theorem jS {fp:List Addr}{h:Heap}{b:Addr}{o:Obj}(hb:b∈fp) (e:h.get? b=some o):(b,o)∈iS fp h:=List.mem_filterMap.mpr ⟨b,hb,by rw[e];rfl⟩
theorem Aw {fp:List Addr}{h:Heap}{p:Addr×Obj}(hp:p∈iS fp h):p.1∈fp/\h.get? p.1=some p.2:=by
 obtain⟨b,hb,e⟩:=List.mem_filterMap.mp hp
 cases q:h.get? b with
 |none=>rw[q]at e;cases e
 |some o=>
  rw[q]at e
  have e':(b,o)=p:=qJ e
  subst e'
  exact⟨hb,q⟩
theorem Inv.pinned {pins:List (Addr×Obj)}{σ:St}{H:Hp}{s:Shared}{fp:List Addr}(I:Inv X pins σ H s) (hf:∀b∈fp,cY X pins H b) (ho:∀b∈fp,∃o,s.heap.get? b=some o/\∀v,o.data≠.cell v):Inv X (pins++iS fp s.heap) σ H s:=
 I.pins_of fun p hp=>(qi.mp hp).elim (fun z=>I.pin p (qI _ z)) fun z=>by
  obtain⟨hb,e⟩:=Aw z
  obtain⟨f0,f1,f2,_⟩:=hf p.1 hb
  obtain⟨o,e',d⟩:=ho p.1 hb
  rw[e]at e';cases e'
  exact⟨e,f0,f1,f2,d⟩
theorem Inv.unpinned {pins pl:List (Addr×Obj)}{σ:St}{H:Hp}{s:Shared}(I:Inv X (pins++pl) σ H s):Inv X pins σ H s:=I.pins_of fun p hp=>I.pin p (qI _ (qV _ hp))
theorem bU {iter:Expr}{body:List Stmt}{wi:TI}{g:TG}{tb:TS}{pos:Pos}(hp:PassesOwn (model X.prog X.w) X.A X.env X.xe) (hc:X.calm=true) (hi:PI X tg iter wi) (hg:PG X tg g) (hb:PSs X body tb)
 (hs:∀x,foldedSetIterable iter X.env x=pure x:=by intro _;rfl):PS X (.For tg iter body [] pos) (wy wi g tb):=by
 intro pins s σ H D I h
 refine wpAny_For (thn (hi pins s σ H _ I h) fun v s1 h1=>thn h1 fun itv s2 h2=>?_) hs
 obtain⟨it,fp,tn,J,H2,e,I2,T,st2,f2,W,⟨m0,w0⟩,turn⟩:=h2
 subst e
 have stat:∀{H':Hp},(∀b∈fp,H' b=none)->∀b∈fp,cY X pins H' b:=fun hn b hb=>⟨hn b hb,(f2 b hb).2⟩
 refine codeAny_forLoop_any (fun n s'=>∃i σ' H',Inv X pins σ' H' s'/\tn i s'.heap/\(∀b∈fp,H' b=none)/\W i n σ' H') ?_ m0 ⟨0,σ,H2,I2,st2,fun b hb=>(f2 b hb).1,w0⟩
 rintro n s3 ⟨i,σ3,H3,I3,st3,fr3,w3⟩
 rcases turn i n σ3 H3 w3 with⟨stop,qn⟩|⟨go,N,hN,step⟩
 ·refine wpAny_passesOwn hp (thn (T.done X rfl rfl rfl hc i pins s3 σ3 H3 X.xe I3 (stat fr3) st3 stop) fun r s4 ⟨hr,I4⟩=>?_)
  subst hr
  exact wpAny_execs_nil ⟨σ3,H3,I4,qn⟩
 ·refine wpAny_passesOwn hp (thn (T.item X rfl rfl rfl hc i pins s3 σ3 H3 X.xe I3 (stat fr3) st3 go) fun r s4 ⟨u,hr,h4⟩=>?_)
  subst hr
  refine wpAny_passesOwn hp (thn h4 fun _ s5 ⟨x,H5,I5,r5,y5,st5,fr5⟩=>?_)
  have I5':=I5.pinned (stat fr5) (T.obj _ _ st5)
  refine wpAny_passesOwn hp (thn (hg _ s5 σ3 H5 x u _ I5' r5 (step x H5 y5)) fun _ s6 ⟨σ6,H6,I6,q6⟩=>?_)
  refine wpAny_passesOwn hp (thn (hb _ s6 σ6 H6 _ I6 q6) fun f s7 q7=>?_)
  have again:∀{σ7:St}{H7:Hp},Inv X (pins++iS fp s5.heap) σ7 H7 s7->N σ7 H7->∃m,m<n/\∃i σ' H',Inv X pins σ' H' s7/\tn i s7.heap/\(∀b∈fp,H' b=none)/\W i m σ' H':=fun{σ7 H7} I7 n7=>by
   obtain⟨m',hm,w7⟩:=hN σ7 H7 n7
   refine⟨m',hm,i+1,σ7,H7,I7.unpinned,T.keep _ _ _ st5 fun b hb o e=>(I7.pin (b,o) (qI _ (qI _ (jS hb e)))).1,fun b hb=>?_,w7⟩
   obtain⟨o,e,d⟩:=T.obj _ _ st5 b hb
   exact(I7.pin (b,o) (qI _ (qI _ (jS hb e)))).2.1
  cases f with
  |next=>obtain⟨σ7,H7,I7,n7⟩:=q7;exact again I7 n7
  |cont=>obtain⟨σ7,H7,I7,n7⟩:=q7;exact again I7 n7
  |brk=>obtain⟨σ7,H7,I7,q7⟩:=q7;exact⟨σ7,H7,I7.unpinned,q7⟩
  |ret v=>obtain⟨x7,σ7,H7,I7,r7,q7⟩:=q7;exact⟨x7,σ7,H7,I7.unpinned,r7,q7⟩
end
theorem dw {K:PySem.W.Frag}{a:Addr}{xs:List V}{g:TG}{tb:TS}{D:eF}{σ:St}{H:Hp}(Pv:Nat->St->Hp->Prop) (h0:Pv 0 σ H) (hl:∀i σ H,i<=xs.length->Pv i σ H->SqL K H a xs)
 (hs:∀i x σ H,xs[i]?=some x->Pv i σ H->g x σ H fun σ2 H2=>tb { D with nx:=Pv (i+1),ct:=Pv (i+1),bk:=D.nx } σ2 H2) (hd:∀σ H,Pv xs.length σ H->D.nx σ H):
 ∃W:Nat->Nat->St->Hp->Prop,(∃m,W 0 m σ H)/\∀i m σ H,W i m σ H->
  ((Itl K a).stop i H/\D.nx σ H)\/((Itl K a).go i H/\∃N:St->Hp->Prop,(∀σ' H',N σ' H'->∃m',m'<m/\W (i+1) m' σ' H')/\∀x H',(Itl K a).yld i H x H'->g x σ H' fun σ2 H2=>tb { D with nx:=N,ct:=N,bk:=D.nx } σ2 H2):=by
 refine⟨fun i m σ H=>m=xs.length-i/\i<=xs.length/\Pv i σ H,⟨xs.length,by simp,qt _,h0⟩,?_⟩
 rintro i m σ H ⟨rfl,hi,p⟩
 have q:=hl i σ H hi p
 by_cases hlt:i<xs.length
 ·refine .inr ⟨⟨xs,xs[i],q,by simp[hlt]⟩,Pv (i+1),fun σ' H' p'=>⟨xs.length-(i+1),Qo,rfl,hlt,p'⟩,fun x H' y=>?_⟩
  obtain⟨e,y⟩:=y
  subst e
  exact hs i x σ _ (y xs q) p
 ·have e:i=xs.length:=by omega
  subst e
  exact .inl ⟨⟨xs,q,qf _⟩,hd σ H p⟩
theorem ux {K:PySem.W.Frag}{a:Addr}{xs:List V}{g:TG}{tb:TS}{D:eF}{σ:St}{H:Hp}(Pv:Nat->St->Hp->Prop) (h0:Pv 0 σ H) (hl:∀i σ H,i<=xs.length->Pv i σ H->SqT K H a xs)
 (hs:∀i x σ H,xs[i]?=some x->Pv i σ H->g x σ H fun σ2 H2=>tb { D with nx:=Pv (i+1),ct:=Pv (i+1),bk:=D.nx } σ2 H2) (hd:∀σ H,Pv xs.length σ H->D.nx σ H):
 ∃W:Nat->Nat->St->Hp->Prop,(∃m,W 0 m σ H)/\∀i m σ H,W i m σ H->
  ((Itt K a).stop i H/\D.nx σ H)\/((Itt K a).go i H/\∃N:St->Hp->Prop,(∀σ' H',N σ' H'->∃m',m'<m/\W (i+1) m' σ' H')/\∀x H',(Itt K a).yld i H x H'->g x σ H' fun σ2 H2=>tb { D with nx:=N,ct:=N,bk:=D.nx } σ2 H2):=by
 refine⟨fun i m σ H=>m=xs.length-i/\i<=xs.length/\Pv i σ H,⟨xs.length,by simp,qt _,h0⟩,?_⟩
 rintro i m σ H ⟨rfl,hi,p⟩
 have q:=hl i σ H hi p
 by_cases hlt:i<xs.length
 ·refine .inr ⟨⟨xs,xs[i],q,by simp[hlt]⟩,Pv (i+1),fun σ' H' p'=>⟨xs.length-(i+1),Qo,rfl,hlt,p'⟩,fun x H' y=>?_⟩
  obtain⟨e,y⟩:=y
  subst e
  exact hs i x σ _ (y xs q) p
 ·have e:i=xs.length:=by omega
  subst e
  exact .inl ⟨⟨xs,q,qf _⟩,hd σ H p⟩
theorem i8 {lo:Int}{n:Nat}{g:TG}{tb:TS}{D:eF}{σ:St}{H:Hp}(Pv:Nat->St->Hp->Prop) (h0:Pv 0 σ H)
 (hs:∀i σ H,i<n->Pv i σ H->g (.int (lo+i)) σ H fun σ2 H2=>tb { D with nx:=Pv (i+1),ct:=Pv (i+1),bk:=D.nx } σ2 H2) (hd:∀σ H,Pv n σ H->D.nx σ H):
 ∃W:Nat->Nat->St->Hp->Prop,(∃m,W 0 m σ H)/\∀i m σ H,W i m σ H->
  ((Itr lo n).stop i H/\D.nx σ H)\/((Itr lo n).go i H/\∃N:St->Hp->Prop,(∀σ' H',N σ' H'->∃m',m'<m/\W (i+1) m' σ' H')/\∀x H',(Itr lo n).yld i H x H'->g x σ H' fun σ2 H2=>tb { D with nx:=N,ct:=N,bk:=D.nx } σ2 H2):=by
 refine⟨fun i m σ H=>m=n-i/\i<=n/\Pv i σ H,⟨n,by simp,qt _,h0⟩,?_⟩
 rintro i m σ H ⟨rfl,hi,p⟩
 by_cases hlt:i<n
 ·refine .inr ⟨hlt,Pv (i+1),fun σ' H' p'=>⟨n-(i+1),Qo,rfl,hlt,p'⟩,fun x H' y=>?_⟩
  obtain⟨e,y⟩:=y
  subst e y
  exact hs i σ _ hlt p
 ·have e:i=n:=by omega
  subst e
  exact .inl ⟨qf _,hd σ H p⟩
abbrev R2:=V->V->Hp->VK->Prop
def OpR (X:Cx) (f:Value->Value->Sem Value) (r:R2):Prop:=
 ∀(pins:List (Addr×Obj)) (s:Shared) (σ:St) (H:Hp) (x y:V) (v u:Value) (Q:VK),Inv X pins σ H s->ax x v->ax y u->r x y H Q->
  wpAny (model X.prog X.w) X.A (f v u) (EP X pins σ Q) X.xe s
def UnR (X:Cx) (f:Value->Sem Value) (r:V->Hp->VK->Prop):Prop:=
 ∀(pins:List (Addr×Obj)) (s:Shared) (σ:St) (H:Hp) (x:V) (v:Value) (Q:VK),Inv X pins σ H s->ax x v->r x H Q->
  wpAny (model X.prog X.w) X.A (f v) (EP X pins σ Q) X.xe s
def cC (X:Cx) (f:Value) (r:List V->Hp->VK->Prop):Prop:=
 ∀(pins:List (Addr×Obj)) (s:Shared) (σ:St) (H:Hp) (xs:List V) (us:List Value) (Q:VK),Inv X pins σ H s->av xs us->r xs H Q->
  wpAny (model X.prog X.w) X.A (call f us) (EP X pins σ Q) X.xe s
def CJ (X:Cx) (r:V->Hp->(Bool->Hp->Prop)->Prop):Prop:=
 ∀(pins:List (Addr×Obj)) (s:Shared) (σ:St) (H:Hp) (x:V) (v:Value) (Q:Bool->Hp->Prop),Inv X pins σ H s->ax x v->r x H Q->
  wpAny (model X.prog X.w) X.A (truthy v) (TP X pins σ Q) X.xe s
def tOp (r:R2) (ta tb:TE):TE:=fun σ H Q=>ta σ H fun x H1=>tb σ H1 fun y H2=>r x y H2 Q
def tUn (r:V->Hp->VK->Prop) (ta:TE):TE:=fun σ H Q=>ta σ H fun x H1=>r x H1 Q
def rI (C:Int->Int->Prop) (g:Int->Int->V):R2:=fun x y H Q=>∃i j,x=.int i/\y=.int j/\C i j/\Q (g i j) H
def rI0 (g:Int->Int->V):R2:=fun x y H Q=>∃i j,x=.int i/\y=.int j/\Q (g i j) H
def rU (g:Int->V):V->Hp->VK->Prop:=fun x H Q=>∃i,x=.int i/\Q (g i) H
section
variable {X:Cx}{a b c:Expr}{ta tb tc:TE}{pos:Pos}
theorem o6 (ha:PE X a ta) (hb:PE X b tb) {pins:List (Addr×Obj)}{s:Shared}{σ:St}{H:Hp}{R:V->V->Hp->Prop}(I:Inv X pins σ H s)
 (h:ta σ H fun x H1=>tb σ H1 fun y H2=>R x y H2) {Q:Qq}{f:Value->Value->Sem Value}
 (hf:∀v u s2 x y H2,Inv X pins σ H2 s2->ax x v->ax y u->R x y H2->wpAny (model X.prog X.w) X.A (f v u) Q X.xe s2):
 wpAny (model X.prog X.w) X.A (eval a X.env) (fun v s₁=>wpAny (model X.prog X.w) X.A (eval b X.env) (fun u s₂=>wpAny (model X.prog X.w) X.A (f v u) Q X.xe s₂) X.xe s₁) X.xe s:=by
 refine thn (ha pins s σ H _ I h) fun v s1 ⟨x,H1,I1,r1,q1⟩=>?_
 refine thn (hb pins s1 σ H1 _ I1 q1) fun u s2 ⟨y,H2,I2,r2,q2⟩=>?_
 exact hf v u s2 x y H2 I2 r1 r2 q2
theorem ao {op:Operator}{r:R2}(ho:OpR X (binaryOp op) r) (ha:PE X a ta) (hb:PE X b tb):PE X (.BinOp a op b pos) (tOp r ta tb):=by
 intro pins s σ H Q I h
 exact wpAny_BinOp (o6 ha hb I h fun v u s2 x y H2 I2 rx ry q=>ho pins s2 σ H2 x y v u Q I2 rx ry q)
theorem cU {op:UnaryOp}{r:V->Hp->VK->Prop}(ho:UnR X (unaryOp op) r) (ha:PE X a ta):PE X (.UnaryOp op a pos) (tUn r ta):=by
 intro pins s σ H Q I h
 exact UnaryOp_ (thn (ha pins s σ H _ I h) fun v s1 ⟨x,H1,I1,r1,q1⟩=>ho pins s1 σ H1 x v Q I1 r1 q1)
theorem opI {f:Value->Value->Sem Value}{C:Int->Int->Prop}{g:Int->Int->Int}
 (rule:∀(i j:Int) (t u:Tok) (s:Shared) (Q:Qq) (E:Qq),C i j->Q (.int (g i j) s.toks) { s with toks:=s.toks+1 }->wpAny (model X.prog X.w) X.A (f (.int i t) (.int j u)) Q E s):
 OpR X f (rI C fun i j=>.int (g i j)):=by
 intro pins s σ H x y v u Q I rx ry h
 obtain⟨i,j,rfl,rfl,hc,q⟩:=h
 obtain⟨t,rfl⟩:=rx
 obtain⟨t',rfl⟩:=ry
 exact rule i j t t' s _ _ hc ⟨.int (g i j),H,I.tok _,⟨_,rfl⟩,q⟩
theorem tf {f:Value->Value->Sem Value}{g:Int->Int->Int}
 (rule:∀(i j:Int) (t u:Tok) (s:Shared) (Q:Qq) (E:Qq),Q (.int (g i j) s.toks) { s with toks:=s.toks+1 }->wpAny (model X.prog X.w) X.A (f (.int i t) (.int j u)) Q E s):
 OpR X f (rI0 fun i j=>.int (g i j)):=by
 intro pins s σ H x y v u Q I rx ry h
 obtain⟨i,j,rfl,rfl,q⟩:=h
 obtain⟨t,rfl⟩:=rx
 obtain⟨t',rfl⟩:=ry
 exact rule i j t t' s _ _ ⟨.int (g i j),H,I.tok _,⟨_,rfl⟩,q⟩
theorem jM {f:Value->Value->Sem Value}{g:Int->Int->Bool}
 (rule:∀(i j:Int) (t u:Tok) (s:Shared) (Q:Qq) (E:Qq),Q (.bool (g i j)) s->wpAny (model X.prog X.w) X.A (f (.int i t) (.int j u)) Q E s):
 OpR X f (rI0 fun i j=>.bl (g i j)):=by
 intro pins s σ H x y v u Q I rx ry h
 obtain⟨i,j,rfl,rfl,q⟩:=h
 obtain⟨t,rfl⟩:=rx
 obtain⟨t',rfl⟩:=ry
 exact rule i j t t' s _ _ ⟨.bl (g i j),H,I,rfl,q⟩
def CQ (i j:Int):Prop:=0<j/\j<1073741824
def CP (i j:Int):Prop:=0<=j/\j<=1000000/\i.natAbs<2 ^ 64
def oz (i j:Int):Prop:=(-(2 ^ 64)<i/\i<2 ^ 64)\/(-(2 ^ 64)<j/\j<2 ^ 64)
theorem oz.ok {i j:Int}(h:oz i j):IntMulOk i j:=by
 rcases h with⟨h1,h2⟩|⟨h1,h2⟩
 ·exact .of_left (intBits_le_64 h1 h2)
 ·exact .of_right (intBits_le_64 h1 h2)
theorem zP:OpR X (binaryOp .Add) (rI0 fun i j=>.int (i+j)):=tf fun _ _ _ _ _ _ _ q=>add_int q
theorem zA:OpR X (binaryOp .Sub) (rI0 fun i j=>.int (i-j)):=tf fun _ _ _ _ _ _ _ q=>sub_int q
theorem zL:OpR X (binaryOp .FloorDiv) (rI CQ fun i j=>.int (i / j)):=opI fun i j _ _ _ _ _ hc q=>by
 have h1:(0:Int)<j:=hc.1
 have h2:j<1073741824:=hc.2
 exact floordiv_int Qo (by rw[Int.fdiv_eq_ediv_of_nonneg i Qo];exact q) (.inl (PyProof.noPylong_small Qo))
theorem zF:OpR X (binaryOp .Mod) (rI (fun _ j=>0<j) fun i j=>.int (i % j)):=opI fun i j _ _ _ _ _ hc q=>by
 have h1:(0:Int)<j:=hc
 exact mod_int' Qo (by rw[Int.fmod_eq_emod_of_nonneg i Qo];exact q)
theorem zB:OpR X (binaryOp .Pow) (rI CP fun i j=>.int (i ^ j.toNat)):=opI fun _ _ _ _ _ _ _ hc q=>pow_int_small hc.1 hc.2.1 hc.2.2 q
theorem unI {f:Value->Sem Value}{g:Int->Int}
 (rule:∀(i:Int) (t:Tok) (s:Shared) (Q:Qq) (E:Qq),Q (.int (g i) s.toks) { s with toks:=s.toks+1 }->wpAny (model X.prog X.w) X.A (f (.int i t)) Q E s):
 UnR X f (rU fun i=>.int (g i)):=by
 intro pins s σ H x v Q I rx h
 obtain⟨i,rfl,q⟩:=h
 obtain⟨t,rfl⟩:=rx
 exact rule i t s _ _ ⟨.int (g i),H,I.tok _,⟨_,rfl⟩,q⟩
theorem cO:UnR X (unaryOp .USub) (rU fun i=>.int (-i)):=unI fun _ _ _ _ _ q=>neg_int q
end
def iC:V->V->Bool
 |.non,.non=>true|.non,.int _=>true|.int _,.non=>true|.non,.bl _=>true|.bl _,.non=>true|.non,.str _=>true|.str _,.non=>true
 |.int _,.int _=>true|.bl _,.bl _=>true|.str _,.str _=>true|.byt _,.byt _=>true
 |.int _,.str _=>true|.str _,.int _=>true|.bl _,.str _=>true|.str _,.bl _=>true
 |_,_=>false
def rEq:R2:=fun x y H Q=>iC x y=true/\Q (.bl (decide (x=y))) H
def rNe:R2:=fun x y H Q=>iC x y=true/\Q (.bl (!decide (x=y))) H
theorem uJ {i j:Int}:decide (V.int i=V.int j)=(i == j):=by
 rw[Bool.eq_iff_iff]
 simp
theorem uL {i j:Bool}:decide (V.bl i=V.bl j)=(i == j):=by
 rw[Bool.eq_iff_iff]
 simp
theorem uI {i j:Str}:decide (V.str i=V.str j)=(i == j):=by
 rw[Bool.eq_iff_iff]
 simp
theorem uK {i j:Array UInt8}:decide (V.byt i=V.byt j)=(i.toList == j.toList):=by
 rw[Bool.eq_iff_iff]
 cases i
 cases j
 simp
section
variable {X:Cx}{a b c:Expr}{ta tb tc:TE}{pos:Pos}
theorem bG {pins:List (Addr×Obj)}{σ:St}{H:Hp}{s:Shared}{Q:VK}{k k':Bool}(I:Inv X pins σ H s) (q:Q (.bl k) H) (e:k=k'):EP X pins σ Q (.bool k') s:=by
 subst e
 exact⟨.bl k,H,I,rfl,q⟩
theorem zM:OpR X (compareOp .Eq) rEq:=by
 intro pins s σ H x y v u Q I rx ry h
 obtain⟨hs,q⟩:=h
 cases x with
 |non=>
  cases rx
  cases y with
  |non=>cases ry;exact PySem.EqNone.eq_none_none (bG I q (by simp))
  |bl j=>cases ry;exact PySem.EqNone.eq_none_bool (bG I q (by simp))
  |int j=>obtain⟨t',rfl⟩:=ry;exact PySem.EqNone.eq_none_int (bG I q (by simp))
  |str j=>obtain⟨t',rfl⟩:=ry;exact PySem.EqNone.eq_none_str (bG I q (by simp))
  |_=>exact absurd (show false=true from hs) qj
 |bl i=>
  cases rx
  cases y with
  |non=>cases ry;exact PySem.EqNone.eq_bool_none (bG I q (by simp))
  |bl j=>cases ry;exact eq_bool (bG I q uL)
  |str j=>obtain⟨t',rfl⟩:=ry;exact PySem.EqMixed.eq_bool_str (bG I q (by simp))
  |_=>exact absurd (show false=true from hs) qj
 |int i=>
  obtain⟨t,rfl⟩:=rx
  cases y with
  |non=>cases ry;exact PySem.EqNone.eq_int_none (bG I q (by simp))
  |int j=>obtain⟨t',rfl⟩:=ry;exact eq_int (bG I q uJ)
  |str j=>obtain⟨t',rfl⟩:=ry;exact PySem.EqMixed.eq_int_str (bG I q (by simp))
  |_=>exact absurd (show false=true from hs) qj
 |str i=>
  obtain⟨t,rfl⟩:=rx
  cases y with
  |non=>cases ry;exact PySem.EqNone.eq_str_none (bG I q (by simp))
  |bl j=>cases ry;exact PySem.EqMixed.eq_str_bool (bG I q (by simp))
  |int j=>obtain⟨t',rfl⟩:=ry;exact PySem.EqMixed.eq_str_int (bG I q (by simp))
  |str j=>obtain⟨t',rfl⟩:=ry;exact eq_str (bG I q uI)
  |_=>exact absurd (show false=true from hs) qj
 |byt i=>
  obtain⟨t,rfl⟩:=rx
  cases y with
  |byt j=>obtain⟨t',rfl⟩:=ry;exact PySem.W.eq_bytes (bG I q uK)
  |_=>exact absurd (show false=true from hs) qj
 |_=>cases y<;>exact absurd (show false=true from hs) qj
theorem zD:OpR X (compareOp .NotEq) rNe:=by
 intro pins s σ H x y v u Q I rx ry h
 obtain⟨hs,q⟩:=h
 cases x with
 |non=>
  cases rx
  cases y with
  |non=>cases ry;exact PySem.EqNone.ne_none_none (bG I q (by simp))
  |bl j=>cases ry;exact PySem.EqNone.ne_none_bool (bG I q (by simp))
  |int j=>obtain⟨t',rfl⟩:=ry;exact PySem.EqNone.ne_none_int (bG I q (by simp))
  |str j=>obtain⟨t',rfl⟩:=ry;exact PySem.EqNone.ne_none_str (bG I q (by simp))
  |_=>exact absurd (show false=true from hs) qj
 |bl i=>
  cases rx
  cases y with
  |non=>cases ry;exact PySem.EqNone.ne_bool_none (bG I q (by simp))
  |bl j=>cases ry;exact ne_bool (bG I q (congrArg not uL))
  |str j=>obtain⟨t',rfl⟩:=ry;exact PySem.EqMixed.ne_bool_str (bG I q (by simp))
  |_=>exact absurd (show false=true from hs) qj
 |int i=>
  obtain⟨t,rfl⟩:=rx
  cases y with
  |non=>cases ry;exact PySem.EqNone.ne_int_none (bG I q (by simp))
  |int j=>obtain⟨t',rfl⟩:=ry;exact ne_int (bG I q (congrArg not uJ))
  |str j=>obtain⟨t',rfl⟩:=ry;exact PySem.EqMixed.ne_int_str (bG I q (by simp))
  |_=>exact absurd (show false=true from hs) qj
 |str i=>
  obtain⟨t,rfl⟩:=rx
  cases y with
  |non=>cases ry;exact PySem.EqNone.ne_str_none (bG I q (by simp))
  |bl j=>cases ry;exact PySem.EqMixed.ne_str_bool (bG I q (by simp))
  |int j=>obtain⟨t',rfl⟩:=ry;exact PySem.EqMixed.ne_str_int (bG I q (by simp))
  |str j=>obtain⟨t',rfl⟩:=ry;exact ne_str (bG I q (congrArg not uI))
  |_=>exact absurd (show false=true from hs) qj
 |byt i=>
  obtain⟨t,rfl⟩:=rx
  cases y with
  |byt j=>obtain⟨t',rfl⟩:=ry;exact PySem.W.ne_bytes (bG I q (congrArg not uK))
  |_=>exact absurd (show false=true from hs) qj
 |_=>cases y<;>exact absurd (show false=true from hs) qj
theorem zG:OpR X (compareOp .Lt) (rI0 fun i j=>.bl (decide (i<j))):=jM fun _ _ _ _ _ _ _ q=>lt_int q
theorem zH:OpR X (compareOp .LtE) (rI0 fun i j=>.bl (decide (i<=j))):=jM fun _ _ _ _ _ _ _ q=>le_int q
theorem zJ:OpR X (compareOp .Gt) (rI0 fun i j=>.bl (decide (j<i))):=jM fun _ _ _ _ _ _ _ q=>gt_int q
theorem zK:OpR X (compareOp .GtE) (rI0 fun i j=>.bl (decide (j<=i))):=jM fun _ _ _ _ _ _ _ q=>ge_int q
theorem zC:OpR X (compareOp .IsNot) (fun x y H Q=>y=.non/\Q (.bl (!decide (x=.non))) H):=by
 intro pins s σ H x y v u Q I rx ry h
 obtain⟨rfl,q⟩:=h
 cases ry
 refine isnot_none_gen (bG I q ?_)
 cases x<;>first
  |(cases rx;rfl)
  |(obtain⟨t,rfl⟩:=rx;rfl)
theorem az (b:Expr) {op:CmpOp}(h:op≠.In:=by decide) (h2:op≠.NotIn:=by decide):behindInMarks op b=false:=by
 have e1:(op == CmpOp.In)=false:=by cases op<;>first|rfl|exact absurd rfl h
 have e2:(op == CmpOp.NotIn)=false:=by cases op<;>first|rfl|exact absurd rfl h2
 cases b<;>simp[behindInMarks,e1,e2]
theorem eW {op:CmpOp}{r:R2}(ho:OpR X (compareOp op) r) (ha:PE X a ta) (hb:PE X b tb) (hm:behindInMarks op b=false):PE X (.Compare a [op] [b] pos) (tOp r ta tb):=by
 intro pins s σ H Q I h
 exact wpAny_Compare1 (o6 ha hb I h fun v u s2 x y H2 I2 rx ry q=>ho pins s2 σ H2 x y v u Q I2 rx ry q) hm
def jc (t:TE):TT:=fun σ H Q=>t σ H fun x H'=>∃k,x=.bl k/\Q k H'
theorem yZ {op:CmpOp}{r:R2}(ho:OpR X (compareOp op) r) (ha:PE X a ta) (hb:PE X b tb) (hm:behindInMarks op b=false):PT X (.Compare a [op] [b] pos) (jc (tOp r ta tb)):=by
 intro pins s σ H Q I h
 refine wpAny_isTrue_Compare1 (thn (ha pins s σ H _ I h) fun v s1 ⟨x,H1,I1,r1,q1⟩=>thn (hb pins s1 σ H1 _ I1 q1) fun u s2 ⟨y,H2,I2,r2,q2⟩=>
  thn (ho pins s2 σ H2 x y v u _ I2 r1 r2 q2) fun c s3 ⟨z,H3,I3,r3,k,e,q3⟩=>?_) hm
 subst e
 cases r3
 exact wpAny_truthy_bool ⟨H3,I3,q3⟩
def wH (r r':R2) (ta tb tc:TE):TE:=fun σ H Q=>ta σ H fun x H1=>tb σ H1 fun y H2=>r x y H2 fun z H3=>∃k,z=.bl k /\
 (if k=true then tc σ H3 fun w' H4=>r' y w' H4 Q else Q (.bl false) H3)
theorem sQ {op op':CmpOp}{r r':R2}(ho:OpR X (compareOp op) r) (ho':OpR X (compareOp op') r') (ha:PE X a ta) (hb:PE X b tb) (hc:PE X c tc)
 (hm:lastMarks [op,op'] [b,c]=false:=by with_unfolding_all rfl):PT X (.Compare a [op,op'] [b,c] pos) (jc (wH r r' ta tb tc)):=by
 intro pins s σ H Q I h
 refine isTrue_chain (thn (ha pins s σ H _ I h) fun v s1 ⟨x,H1,I1,r1,q1⟩=>test_link (thn (hb pins s1 σ H1 _ I1 q1) fun u s2 ⟨y,H2,I2,r2,q2⟩=>
  thn (ho pins s2 σ H2 x y v u _ I2 r1 r2 q2) fun d s3 ⟨z,H3,I3,r3,k,e,q3⟩=>?_)) hm
 subst e
 cases r3
 refine wpAny_truthy_bool ?_
 cases k with
 |false=>
  obtain⟨k',e',q'⟩:=q3
  cases e'
  exact ite_ff ⟨H3,I3,q'⟩
 |true=>
  refine ite_tt (test_last (thn (hc pins s3 σ H3 _ I3 q3) fun w' s4 ⟨z',H4,I4,r4,q4⟩=>thn (ho' pins s4 σ H4 y z' u w' _ I4 r2 r4 q4) fun d' s5 ⟨z2,H5,I5,r5,k2,e2,q5⟩=>?_))
  subst e2
  cases r5
  exact wpAny_truthy_bool ⟨H5,I5,q5⟩
theorem iX:(sizeLine:Nat)<2 ^ 63:=by rw[sizeLine_eq];decide
theorem zO:OpR X (binaryOp .Add) (fun x y H Q=>∃i j,x=.str i/\y=.str j/\i.length+j.length<=sizeLine/\Q (.str (i++j)) H):=by
 intro pins s σ H x y v u Q I rx ry h
 obtain⟨i,j,rfl,rfl,hz,q⟩:=h
 obtain⟨t,rfl⟩:=rx
 obtain⟨t',rfl⟩:=ry
 exact add_str (fun t' tk=>⟨.str (i++j),H,I.tok _,⟨_,rfl⟩,q⟩) hz
theorem eR {x:V}{us:List Value}(r:av [x] us):∃u,us=[u]/\ax x u:=by
 cases r with
 |cons r1 r2=>cases r2;exact⟨_,rfl,r1⟩
theorem iu {x y:V}{us:List Value}(r:av [x,y] us):∃u w',us=[u,w']/\ax x u/\ax y w':=by
 cases r with
 |cons r1 r2=>
  cases r2 with
  |cons r3 r4=>cases r4;exact⟨_,_,rfl,r1,r3⟩
theorem uZ (hc:X.calm=true):cC X (.builtin "max") (fun xs H Q=>∃i j,xs=[.int i,.int j]/\Q (.int (if j > i then j else i)) H):=by
 intro pins s σ H xs us Q I r h
 obtain⟨i,j,rfl,q⟩:=h
 obtain⟨u,w',rfl,⟨t,rfl⟩,⟨t',rfl⟩⟩:=iu r
 refine max_two_ints (I.ok.hd hc) fun h' tk k=>⟨_,H,I.kept k,?_,q⟩
 by_cases hj:j > i
 ·rw[Q0 hj,Q0 hj];exact⟨_,rfl⟩
 ·rw[qZ hj,qZ hj];exact⟨_,rfl⟩
theorem uY (hc:X.calm=true):cC X (.builtin "min") (fun xs H Q=>∃i j,xs=[.int i,.int j]/\Q (.int (if j<i then j else i)) H):=by
 intro pins s σ H xs us Q I r h
 obtain⟨i,j,rfl,q⟩:=h
 obtain⟨u,w',rfl,⟨t,rfl⟩,⟨t',rfl⟩⟩:=iu r
 refine min_two_ints (I.ok.hd hc) fun h' tk k=>⟨_,H,I.kept k,?_,q⟩
 by_cases hj:j<i
 ·rw[Q0 hj,Q0 hj];exact⟨_,rfl⟩
 ·rw[qZ hj,qZ hj];exact⟨_,rfl⟩
end
structure oy (h:Heap) (x dx C:Addr) (mA:Str->Option Value):Prop where
 obj:h.get? x=some (PySem.W.instObj C dx)
 ns:h.Ns1 dx mA
 ne:dx≠x
theorem AO {h:Heap}{dx:Addr}{mA:Str->Option Value}(n:h.Ns1 dx mA):∃od,h.get? dx=some od/\∀name,PySem.W.lookIn name od=some (mA name):=by
 obtain⟨o,es,ep,ho,hd,hk,_,hm⟩:=n
 refine⟨o,ho,fun name=>?_⟩
 have e:=hm name
 unfold nsFind findBy at e
 rw[<- Array.find?_toList]at e
 unfold PySem.W.lookIn
 rw[hd]
 dsimp only
 split
 ·rename_i y q
  rw[q]at e
  exact congrArg some e
 ·rename_i q
  rw[q]at e
  have a:es.toList.any (·.refKey)=false:=by
   rw[List.any_eq_false]
   intro y hy
   obtain⟨z,t,hkey⟩:=hk y (Array.mem_toList_iff.mp hy)
   simp[DictEntry.refKey,hkey]
  have a':¬ es.toList.any (·.refKey)=true:=by rw[a];exact qj
  rw[qZ a']
  exact congrArg some e
theorem oy.look {h:Heap}{x dx C:Addr}{mA:Str->Option Value}(I:oy h x dx C mA):∃od,PySem.W.InstAt h x (PySem.W.instObj C dx) C (some od)/\∀name,PySem.W.lookIn name od=some (mA name):=
 let ⟨od,ho,hl⟩:=AO I.ns
 ⟨od,⟨I.obj,rfl,rfl,ho⟩,hl⟩
section
variable {prog:Program}{w:World}{A:Around}{E:Qq}{s:Shared}{K:PySem.W.Frag}{x dx C f:Addr}{mA:Str->Option Value}{name:Str}{v:Value}
end
theorem cB.some_of {v:V}{o:Option Value}(r:cB (some v) o):∃u,o=some u/\ax v u:=by
 cases o with
 |none=>exact(show False from r).elim
 |some u=>exact⟨u,rfl,r⟩
section
variable {P:Program}{w:World}{H H':Hp}{h h':Heap}{a C dx:Addr}{fs fs':List (Str×V)}
theorem Bi (hok:HOk P w H h) (e:H a=some (.ins C dx fs)):∃mA,oy h a dx C mA/\(∀f,cB (fs.lookup f) (mA f))/\PySem.Within mA (fs.map (·.1))/\fs.length<=1000/\H dx=some (.own a):=by
 obtain⟨d,z,ne,ob,mA,n,r,q⟩:=(show bB P w H h a (.ins C dx fs)from hok a _ e)
 exact⟨mA,⟨ob,n,ne⟩,r,q,z,d⟩
end
structure Cls (K:PySem.W.Frag) (C:Addr):Prop where
 pg:PySem.W.plainGet K C Str.empty=true
 hd:PySem.W.hasDictIn K C=true
 po:PySem.W.plainOver K C=true
 sa:PySem.W.findIn K (.ref C) "__setattr__"=some (some (.builtin "object.__setattr__"))
theorem Cls.get {K:PySem.W.Frag}{C:Addr}(c:Cls K C) (f:Str):PySem.W.plainGet K C f=true:=c.pg
section
variable {X:Cx}{pins:List (Addr×Obj)}{σ:St}{H:Hp}{s:Shared}{a C dx:Addr}{fs:List (Str×V)}{f:Str}{v:V}{A:Around}{E:Qq}
end
section
variable {X:Cx}{o e value:Expr}{f:Str}{pos pos' tpos:Pos}{ta tv:TE}
end
section
variable {X:Cx}{pins:List (Addr×Obj)}{σ:St}{H:Hp}{s:Shared}{A:Around}{E:Qq}{Q:Qq}{c:Value}{b:Bool}
inductive dy (K:PySem.W.Frag) (H:Hp):V->Value->Prop where
 |non:dy K H .non (.type "NoneType")
 |bl (x:Bool):dy K H (.bl x) (.type "bool")
 |int (i:Int):dy K H (.int i) (.type "int")
 |str (x:Str):dy K H (.str x) (.type "str")
 |flt (x:UInt64):dy K H (.flt x) (.type "float")
 |lst {a:Addr}{xs:List V}(e:H a=some (.lst xs)):dy K H (.ref a) (.type "list")
 |frz {a:Addr}{o:Obj}{xs:List V}(e:H a=some (.frz o (.lst xs))):dy K H (.ref a) (.type "list")
 |tup {a:Addr}{xs:List V}(e:H a=some (.tup xs)):dy K H (.ref a) (.type "tuple")
 |dK {a:Addr}{kvs:List (Key×V)}(e:H a=some (.dK kvs)):dy K H (.ref a) (.type "dict")
 |dT {a:Addr}{kvs:List (List Key×V)}(e:H a=some (.dT kvs)):dy K H (.ref a) (.type "dict")
 |ins {a C dx:Addr}{fs:List (Str×V)}(e:H a=some (.ins C dx fs)) (cl:Cls K C) (ha:PySem.W.findIn K (.ref C) "__class__"=some (some (.builtin "object.__class__")))
  (hn:PySem.W.specialIn K (.builtin "object.__class__") "__get__"=some (some (.builtin "getset_descriptor.__get__"))) (htk:PySem.W.takesIn K (.builtin "object.__class__")=some true)
  (hm:PySem.W.mroIn K C (.type "object")=some true):dy K H (.ref a) (.ref C)
theorem Bf {x:V}{u t:Value}(I:Inv X pins σ H s) (rx:ax x u) (ty:dy X.K H x t) (e:PySem.W.kitOne X.K t c=some b) (h:∀tk,Q (.bool b) { s with toks:=tk }):
 wpAny (model X.prog X.w) A (call (.builtin "isinstance") [u,c]) Q E s:=by
 cases ty with
 |non=>cases(show u=Value.none from rx);exact PySem.W.kia_one PySem.W.kitx_none I.kIn True.intro e (fun z=>nomatch z) h
 |bl y=>cases(show u=Value.bool y from rx);exact PySem.W.kia_one PySem.W.kitx_bool I.kIn True.intro e (fun z=>nomatch z) h
 |int i=>obtain⟨t,q⟩:=(show ∃t,u=Value.int i t from rx);cases q;exact PySem.W.kia_one PySem.W.kitx_int I.kIn True.intro e (fun z=>nomatch z) h
 |str y=>obtain⟨t,q⟩:=(show ∃t,u=Value.str y t from rx);cases q;exact PySem.W.kia_one PySem.W.kitx_str I.kIn True.intro e (fun z=>nomatch z) h
 |flt y=>obtain⟨t,q⟩:=(show ∃t,u=Value.float y t from rx);cases q;exact PySem.W.kia_one PySem.W.kitx_float I.kIn True.intro e (fun z=>nomatch z) h
 |@lst a xs ea=>
  cases(show u=Value.ref a from rx)
  obtain⟨_,_,n,_,h1⟩:=(show bB X.prog X.w H s.heap a (.lst xs)from I.hok a _ ea)
  exact PySem.W.kia_one PySem.W.kitx_list I.kIn ⟨_,h1,rfl⟩ e (fun z=>nomatch z) h
 |@frz a ob xs ea=>
  cases(show u=Value.ref a from rx)
  obtain⟨_,_,_,n,_,h1⟩:=(show bB X.prog X.w H s.heap a (.frz ob (.lst xs))from I.hok a _ ea)
  exact PySem.W.kia_one PySem.W.kitx_list I.kIn ⟨_,h1,rfl⟩ e (fun z=>nomatch z) h
 |@tup a xs ea=>
  cases(show u=Value.ref a from rx)
  obtain⟨_,_,_,p⟩:=(show bB X.prog X.w H s.heap a (.tup xs)from I.hok a _ ea)
  obtain⟨o,h1,h2,_⟩:=p
  exact PySem.W.kia_one PySem.W.kitx_tuple I.kIn ⟨o,h1,h2⟩ e (fun z=>nomatch z) h
 |@dK a kvs ea=>
  cases(show u=Value.ref a from rx)
  obtain⟨_,_,vs,_,p⟩:=(show bB X.prog X.w H s.heap a (.dK kvs)from I.hok a _ ea)
  obtain⟨o,es,ep,h1,h2,_⟩:=p
  exact PySem.W.kia_one PySem.W.kitx_dict I.kIn ⟨o,h1,h2.1⟩ e (fun z=>nomatch z) h
 |@dT a kvs ea=>
  cases(show u=Value.ref a from rx)
  obtain⟨_,_,xs,_,o,es,ep,h1,h2,_⟩:=(show bB X.prog X.w H s.heap a (.dT kvs)from I.hok a _ ea)
  exact PySem.W.kia_one PySem.W.kitx_dict I.kIn ⟨o,h1,h2.1⟩ e (fun z=>nomatch z) h
 |@ins a C dx fs ea cl ha hn htk hm=>
  cases(show u=Value.ref a from rx)
  obtain⟨mA,O,_⟩:=Bi I.hok ea
  obtain⟨od,J,_⟩:=O.look
  exact PySem.W.kia_one (PySem.W.kitx_own (cl.get _) cl.hd ha hn htk hm) I.kIn J e (fun z=>nomatch z) h
end
structure cN (k:Nat) (A:Around):Prop where
 hd:A.handled=none
 dp:A.depth+3 * k+5<recursionLimit
 un:A.units+16 * k+200<cLine
 gd:A.guards=some []
theorem cN.mono {j k:Nat}{A:Around}(r:cN k A) (h:j<=k):cN j A:=⟨r.hd,by have:=r.dp;omega,by have:=r.un;omega,r.gd⟩
theorem cN.deeper {k:Nat}{A:Around}(r:cN (k+1) A) (env:Env):cN k (A.deeper env):=
 ⟨r.hd,by have:=r.dp;show A.depth+1+3 * k+5<_;omega,by have:=r.un;show A.units+3+16 * k+200<_;omega,r.gd⟩
theorem cN.depth {k:Nat}{A:Around}(r:cN k A):A.depth<recursionLimit:=by have:=r.dp;omega
theorem cN.units {k:Nat}{A:Around}(r:cN k A):A.units+64<cLine:=by have:=r.un;omega
def wq:TA:=fun _ H Q=>Q [] H
def wG (ta:TE) (tr:TA):TA:=fun σ H Q=>ta σ H fun x H1=>tr σ H1 fun xs H2=>Q (x::xs) H2
section
variable {X:Cx}{e:Expr}{es:List Expr}{te:TE}{t:TA}{pos:Pos}
theorem ae:PA X [] wq:=fun _ _ _ _ H Q I h=>Calls.spliced_nil ⟨[],H,I,.nil,h⟩
theorem aa (ha:PE X e te) (hr:PA X es t) (hs:starEach (e::es) X.env=(false,eval e X.env)::starEach es X.env:=by rfl):PA X (e::es) (wG te t):=by
 intro pos pins s σ H Q I h
 rw[hs]
 show wpAny _ _ (spliced ((false,eval e X.env)::backTo pos (starEach es X.env))) _ _ s
 refine Calls.spliced_cons (thn (ha pins s σ H _ I h) fun u s1 ⟨x,H1,I1,r1,q1⟩=>?_)
 exact thn (hr pos pins s1 σ H1 _ I1 q1) fun us s2 ⟨xs,H2,I2,r2,q2⟩=>⟨x::xs,H2,I2,.cons r1 r2,q2⟩
def kx (t:TA):TE:=fun σ H Q=>t σ H fun xs H1=>xs.length<=sizeLine/\∀p,H1 p=none->Q (.ref p) (upd H1 p (.tup xs))
def kz (t:TA):TE:=fun σ H Q=>t σ H fun xs H1=>xs.length<=sizeLine/\∀p,H1 p=none->Q (.ref p) (upd H1 p (.lst xs))
theorem zn {x1}(h:PA X es t):PE X (.Tuple es x1 pos) (kx t):=by
 intro pins s σ H Q I hq
 refine wpAny_Tuple_spliced (thn (h pos pins s σ H _ I hq) fun us s1 ⟨xs,H1,I1,r,z,q⟩=>⟨by rw[<- r.length];exact z,?_⟩)
 have hf:H1 s1.heap.objs.size=none:=I1.hok.fresh (qf _)
 refine⟨.ref s1.heap.objs.size,upd H1 s1.heap.objs.size (.tup xs),I1.laid (t':=s1.toks) (fun b u e=>qb _ e) (qf _) ?_,rfl,q _ hf⟩
 exact⟨z,us,r,⟨_,qp _ rfl,rfl,_,rfl⟩⟩
theorem zp (h:PA X es t):PE X (.List es pos) (kz t):=by
 intro pins s σ H Q I hq
 refine wpAny_List_spliced (thn (h pos pins s σ H _ I hq) fun us s1 ⟨xs,H1,I1,r,z,q⟩=>⟨by rw[<- r.length];exact z,?_⟩)
 have hf:H1 s1.heap.objs.size=none:=I1.hok.fresh (qf _)
 refine⟨.ref s1.heap.objs.size,upd H1 s1.heap.objs.size (.lst xs),I1.laid (t':=s1.toks) (fun b u e=>qb _ e) (qf _) ?_,rfl,q _ hf⟩
 exact⟨z,us,0,r,qp _ rfl⟩
end
abbrev Sp:=List V->Hp->VK->XK->Prop
abbrev CXT:=List Env->Hp->Shared->XK->Value->Shared->Prop
structure ko (P:Program) (w:World) (K:PySem.W.Frag) (mg:Str->Option Value) (base:Heap) (A:Around) (outer:List Env) (s:Shared) (H:Hp):Prop where
 frames:A.frames=some outer
 mod:Mod K mg base
 bs:∀b o,base.get? b=some o->s.heap.get? b=some o/\H b=none
 bsz:base.objs.size<=s.heap.objs.size
 funs:s.heap.FunFrames base outer
 frf:∀b∈frs outer,H b=none
 hok:HOk P w H s.heap
 bare:AllBare s.gens
def CE (outer:List Env) (P:Program) (w:World) (H:Hp) (s:Shared) (Q:VK) (u:Value) (s':Shared):Prop:=
 ∃v H',s'.os=s.os/\AllBare s'.gens/\Un (frs outer) [] H H' s.heap s'.heap/\HOk P w H' s'.heap/\ax v u/\Q v H'
def CR (CX:CXT) (outer:List Env) (P:Program) (w:World) (H:Hp) (s:Shared) (Q:VK) (E:XK) (r:Result) (s':Shared):Prop:=
 match r with
 |.ok (.ret u)=>CE outer P w H s Q u s'
 |.ok _=>False
 |.error e=>CX outer H s E e s'
structure aR (P:Program) (w:World) (K:PySem.W.Frag) (mg:Str->Option Value) (base:Heap) (CX:CXT) (k:Nat) (f:Addr) (fd:FuncData) (ps:List Str) (sp:Sp):Prop where
 len:∀vs H Q E,sp vs H Q E->vs.length=ps.length
 run:∀(A:Around) (outer:List Env) (s:Shared) (H:Hp) (args:Args) (us:List Value) (vs:List V) (Q:VK) (E:XK),cN k A->ko P w K mg base A outer s H->BindsTo s fd args (ps.zip us)->av vs us->sp vs H Q E->
  codeAny (model P w) A (.call (.ref f) args) (CR CX outer P w H s Q E) s
section
variable {X:Cx}{pins:List (Addr×Obj)}{σ:St}{H:Hp}{s s':Shared}
theorem Inv.env0 (I:Inv X pins σ H s):ko X.prog X.w X.K X.mg X.base X.A X.stack s H:=
 ⟨I.ok.frames,I.ok.mod,I.bs,qy I.ok.bsz I.sz,I.stack,I.stkFree,I.hok,I.bare⟩
theorem Inv.after {Q:VK}{u:Value}(I:Inv X pins σ H s) (h:CE X.stack X.prog X.w H s Q u s'):EP X pins σ Q u s':=by
 obtain⟨v,H',os,bare,un,hok,r,q⟩:=h
 obtain⟨hh,g,d,t,os'⟩:=s'
 obtain rfl:os'=s.os:=os
 exact⟨v,H',I.call (h':=hh) (g':=g) (d':=d) (t':=t) (ch:=[]) un hok bare (fun b z=>absurd z (by simp)),r,q⟩
end
def wI (sp:Sp) (dvs:List V) (E:XK) (t:TA):TE:=fun σ H Q=>t σ H fun vs H1=>sp (vs++dvs) H1 Q E
def aU (K:PySem.W.Frag) (fd:FuncData) (ps:List Str) (ds:List Value):Prop:=
 ∀(s:Shared) (us:List Value),K.In s.heap->(us++ds).length=ps.length->BindsTo s fd ⟨us,[]⟩ (ps.zip (us++ds))
theorem aU.all {K:PySem.W.Frag}{fd:FuncData}{ps:List Str}(h:∀us:List Value,us.length=ps.length->bindArgs fd ⟨us,[]⟩=pure (ps.zip us)):aU K fd ps []:=fun s us _ hl=>by
 rw[qx]at hl ⊢
 exact .of_eq (h us hl)
def ox (CX:CXT) (X:Cx) (E:XK):Prop:=∀(pins:List (Addr×Obj)) (σ:St) (H:Hp) (s:Shared) (e:Value) (s':Shared),Inv X pins σ H s->CX X.stack H s E e s'->X.xe e s'
section
variable {X:Cx}{CX:CXT}{k:Nat}{f C:Addr}{fd:FuncData}{ps:List Str}{sp:Sp}{dvs:List V}{ds:List Value}{E:XK}{x m:Str}{p pos apos:Pos}{e o:Expr}{es:List Expr}{ta:TE}{t:TA}
theorem yc {pins:List (Addr×Obj)}{σ:St}{H:Hp}{s:Shared}{Q:VK}{us:List Value}{vs:List V}(F:aR X.prog X.w X.K X.mg X.base CX k f fd ps sp) (hr:cN k X.A) (hb:aU X.K fd ps ds) (hd:av dvs ds) (hx:ox CX X E)
 (I:Inv X pins σ H s) (r:av vs us) (h:sp (vs++dvs) H Q E):wpAny (model X.prog X.w) X.A (call (.ref f) us) (EP X pins σ Q) X.xe s:=by
 have r2:av (vs++dvs) (us++ds):=r.append hd
 have hl:(us++ds).length=ps.length:=by rw[<- r2.length];exact F.len _ _ _ _ h
 refine wpAny_call (codeAny_mono (F.run X.A X.stack s H ⟨us,[]⟩ (us++ds) (vs++dvs) Q E hr I.env0 (hb s us I.kIn hl) r2 h) fun r s' hq=>?_)
 cases r with
 |error e=>exact hx pins σ H s e s' I hq
 |ok fl=>
  cases fl with
  |ret u=>exact I.after hq
  |next=>exact False.elim hq
  |brk=>exact False.elim hq
  |cont=>exact False.elim hq
theorem aC (F:aR X.prog X.w X.K X.mg X.base CX k f fd ps sp) (hr:cN k X.A) (hg:Gl X x) (hm:X.mg x=some (.ref f)) (hk:PySem.W.keepIn X.K (.ref f)=true) (hb:aU X.K fd ps ds) (hd:av dvs ds) (hx:ox CX X E)
 (ha:PA X (e::es) t) (hdb:(x == ("__debug__":Str))=false:=by decide) (he:starEach (e::es) X.env=(false,eval e X.env)::starEach es X.env:=by rfl) (hpl:(backTo pos (starEach es X.env)).any (·.1)=false:=by rfl):
 PE X (.Call (.Name x p) (e::es) [] pos) (wI sp dvs E t):=by
 intro pins s σ H Q I h
 refine wpAny_Call_Name_kw (u5 I hg hm ?_ hdb)
 refine PySem.W.callWith_K (h₀:=X.base) I.ok.mod.kin hk (thn (ha pos pins s σ H _ I h) fun us s1 ⟨vs,H1,I1,r,q⟩=>⟨I1.kIn,?_⟩) he hpl
 exact yc F hr hb hd hx I1 r q
end
section
variable {X:Cx}{CX:CXT}{k:Nat}{f C:Addr}{fd:FuncData}{ps ks:List Str}{sp:Sp}{E:XK}{x m:Str}{p pos apos kpos:Pos}{e o:Expr}{es:List Expr}{kws:List Keyword}{te ta:TE}{t tk:TA}{nm:Option Str}
variable {g:List Value->List Value->List Value}{gV:List V->List V->List V}
end
structure aY (N P:List Str) (sc:Scope):Prop where
 kind:sc.kind=.function
 co:sc.isCoroutine=false
 gen:sc.isGenerator=false
 nd:N.Nodup
 pre:N.take P.length=P
 par:∀x∈P,sc.names.lookup x=some .local\/sc.names.lookup x=some .cell
 nofree:∀y∈sc.names,y.2≠.free
theorem vf {kindOf:Str->Option NameKind}{x:Str}:∀{binds:List (Str×Value)}{m:Str->Option Value},(∀v,(x,v)∉binds)->bindL kindOf binds m x=m x
 |[],_,_=>rfl
 |(n,v)::r,m,h=>by
  unfold bindL
  rw[vf fun w hw=>h w (ql _ hw)]
  split
  ·have:x≠n:=by rintro rfl;exact h v qo
   simp[this]
  ·rfl
theorem vh {kindOf:Str->Option NameKind}{x:Str}:∀{binds:List (Str×Value)}{m:Str->Option Value},(∀v,(x,v)∉binds)->bindC kindOf binds m x=m x
 |[],_,_=>rfl
 |(n,v)::r,m,h=>by
  unfold bindC
  rw[vh fun w hw=>h w (ql _ hw)]
  split
  ·rfl
  ·have:x≠n:=by rintro rfl;exact h v qo
   simp[this]
theorem vg {kindOf:Str->Option NameKind}{x:Str}{v:Value}:∀{P:List Str}{vs:List Value}{i:Nat}{m:Str->Option Value},P.Nodup->P[i]?=some x->vs[i]?=some v->kindOf x=some .local->
 bindL kindOf (P.zip vs) m x=some v
 |[],_,_,_,_,h,_,_=>by simp at h
 |_::_,[],_,_,_,_,h,_=>by simp at h
 |p::P,w::vs,0,m,nd,h1,h2,hk=>by
  simp at h1 h2;subst h1;subst h2
  show bindL kindOf ((p,w)::P.zip vs) m p=_
  unfold bindL
  rw[vf fun v hv=>(List.nodup_cons.mp nd).1 (List.of_mem_zip hv).1,Q0 hk]
  simp
 |p::P,w::vs,i+1,m,nd,h1,h2,hk=>by
  show bindL kindOf ((p,w)::P.zip vs) m x=_
  unfold bindL
  exact vg (i:=i) (List.nodup_cons.mp nd).2 (by simpa using h1) (by simpa using h2) hk
theorem vi {kindOf:Str->Option NameKind}{x:Str}{v:Value}:∀{P:List Str}{vs:List Value}{i:Nat}{m:Str->Option Value},P.Nodup->P[i]?=some x->vs[i]?=some v->kindOf x≠some .local->
 bindC kindOf (P.zip vs) m x=some v
 |[],_,_,_,_,h,_,_=>by simp at h
 |_::_,[],_,_,_,_,h,_=>by simp at h
 |p::P,w::vs,0,m,nd,h1,h2,hk=>by
  simp at h1 h2;subst h1;subst h2
  show bindC kindOf ((p,w)::P.zip vs) m p=_
  unfold bindC
  rw[vh fun v hv=>(List.nodup_cons.mp nd).1 (List.of_mem_zip hv).1,qZ hk]
  simp
 |p::P,w::vs,i+1,m,nd,h1,h2,hk=>by
  show bindC kindOf ((p,w)::P.zip vs) m x=_
  unfold bindC
  exact vi (i:=i) (List.nodup_cons.mp nd).2 (by simpa using h1) (by simpa using h2) hk
def fD (N:List Str) (vs:List V):St:=vs.map some++List.replicate (N.length-vs.length) none
def ie (CX:CXT) (P:Program) (w:World) (K:PySem.W.Frag) (mg:Str->Option Value) (base:Heap) (N:List Str) (qual:Str) (scope:Scope) (f:Addr) (cd:Value) (A:Around) (outer:List Env) (s:Shared) (H:Hp) (E:XK):Cx where
 prog:=P
 w:=w
 K:=K
 mg:=mg
 base:=base
 A:=A.deeper (envOfC qual scope s.heap.objs.size f cd)
 N:=N
 s₀:=s
 H₀:=H
 env:=envOfC qual scope s.heap.objs.size f cd
 outer:=outer
 stack:=envOfC qual scope s.heap.objs.size f cd::outer
 ex:=[]
 calm:=true
 fn:=fun _=>true
 pn:=[]
 xe:=fun e s'=>wpAny (model P w) (A.deeper (envOfC qual scope s.heap.objs.size f cd)) (leaving (envOfC qual scope s.heap.objs.size f cd) e) (fun _ s''=>CX outer H s E e s'') (fun e' s''=>CX outer H s E e' s'') s'
theorem uU {sc:Scope}{n:Nat}{x:Str}(h:sc.names.lookup x=some .cell):∃c,(cellsFrom n sc.names []).lookup x=some c:=by
 have q:=PySem.W.cellsFrom_some sc.names n [] (.inl h)
 exact Option.isSome_iff_exists.mp q
theorem Bg {CX:CXT}{P:Program}{w:World}{K:PySem.W.Frag}{mg:Str->Option Value}{base:Heap}{N ps:List Str}{qual:Str}{scope:Scope}{f:Addr}{cd:Value}{A:Around}{outer:List Env}{s s1:Shared}{H:Hp}{E:XK}{us:List Value}{vs:List V}
 (S:aY N ps scope) (hd:A.handled=none) (e0:ko P w K mg base A outer s H) (hl:vs.length=ps.length) (r:av vs us)
 (x:InCallC s s.heap.objs.size (bindL (envOfC qual scope s.heap.objs.size f cd).kindOf (ps.zip us) fun _=>none) (cellsFrom (s.heap.objs.size+1) scope.names []) (bindC (envOfC qual scope s.heap.objs.size f cd).kindOf (ps.zip us) fun _=>none) s1):
 Inv (ie CX P w K mg base N qual scope f cd A outer s H E) [] (fD N vs) H s1:=by
 have hpl:ps.length<=N.length:=by have:=congrArg List.length S.pre;rw[qK]at this;omega
 obtain⟨h1,tk,rfl,hk⟩:=x.done
 have noA:∀b:Addr,b∉(ie CX P w K mg base N qual scope f cd A outer s H E).ex:=fun b z=>absurd (show b∈([]:List Addr)from z) (by simp)
 refine⟨⟨e0.mod,S.kind,rfl,rfl,qf _,fun y z c h1 h2=>?_,fun y hy=>?_,fun y c _ h=>?_,fun _=>hd,Around.frames_deeper e0.frames,.inr ⟨rfl,rfl⟩,fun b z=>absurd z (noA b),e0.bs,e0.bsz,fun b _ _=>noA b,fun b z=>absurd z (noA b),e0.funs,e0.frf⟩,
  rfl,e0.bare,Un.kept hk,⟨_,x.toInCall.ns,fun i y v h1 h2 h3=>?_⟩,fun y c h=>⟨_,x.cell y c h⟩,e0.hok.fresh (qf _),fun y c h=>?_,fun p hp=>absurd (show p∈([]:List (Addr×Obj))from hp) (by simp),e0.hok.kept hk,?_⟩
 ·exact name_of_addr x.apart (PySem.mem_of_lookup h1) (PySem.mem_of_lookup h2)
 ·have hy:scope.names.lookup y=some .cell\/scope.names.lookup y=some .free:=hy
  rcases hy with hy|hy
  ·exact uU hy
  ·exact absurd rfl (S.nofree _ (PySem.mem_of_lookup hy))
 ·exact Nat.le_of_lt (x.above y c (PySem.mem_of_lookup h))
 ·have hi:i<vs.length:=by
   unfold fD at h2
   by_cases hi:i<vs.length
   ·exact hi
   ·rw[qL (by simpa using hi)]at h2
    rw[List.getElem?_replicate]at h2
    split at h2<;>cases h2
  have ha:vs[i]?=some v:=by
   unfold fD at h2
   rw[List.getElem?_append_left (by simpa using hi),qE]at h2
   cases e:vs[i]? with
   |none=>rw[e]at h2;cases h2
   |some a=>rw[e]at h2;cases h2;rfl
  obtain⟨u,hu,rv⟩:=r.get ha
  have hp:ps[i]?=some y:=by
   rw[<- S.pre,List.getElem?_take_of_lt Qo];exact h1
  have ndP:ps.Nodup:=by rw[<- S.pre];exact S.nd.sublist (List.take_sublist _ _)
  refine⟨u,rv,?_⟩
  rcases S.par y (qz hp)with k|k
  ·exact .inl ⟨k,vg ndP hp hu k⟩
  ·obtain⟨c,e⟩:=uU (n:=s.heap.objs.size+1) k
   refine .inr ⟨.inl k,c,e,?_⟩
   have q:=x.cell y c e
   rw[vi ndP hp hu (by show scope.names.lookup y≠_;rw[k];decide)]at q
   exact q
 ·exact e0.hok.fresh (Nat.le_of_lt (x.above y c (PySem.mem_of_lookup h)))
 ·unfold fD
  show _=N.length
  rw[qc,qa,List.length_replicate]
  omega
theorem Bw {CX:CXT}{P:Program}{w:World}{K:PySem.W.Frag}{mg:Str->Option Value}{base:Heap}{k:Nat}{f:Addr}{name qual:Str}{params:Arguments}{body:List Stmt}{scope:Scope}{dV kV doc pm cdv ct oc:Value}{an od:Option Addr}
 {osl:Array (Option Value)}{N ps:List Str}{sp:Sp}(lk:K.lookup f=some ⟨oc,od,.func (PySem.W.fnOf name qual params body scope dV kV doc pm an cdv ct),osl⟩) (hcd:PySem.W.codeIn K cdv qual=true) (S:aY N ps scope)
 (len:∀vs H Q E,sp vs H Q E->vs.length=ps.length)
 (hbody:∀(A:Around) (outer:List Env) (s:Shared) (H:Hp) (vs:List V) (Q:VK) (E:XK),cN k (A.deeper (envOfC qual scope s.heap.objs.size f cdv))->sp vs H Q E->
  ∃t,PSs (ie CX P w K mg base N qual scope f cdv A outer s H E) body t/\t { nx:=fun _ H'=>Q .non H',rt:=Q } (fD N vs) H):
 aR P w K mg base CX (k+1) f (PySem.W.fnOf name qual params body scope dV kV doc pm an cdv ct) ps sp:=by
 refine⟨len,fun A outer s H args us vs Q E hr e0 hb r hsp=>?_⟩
 have hl:=len _ _ _ _ hsp
 have KX:K.In s.heap:=e0.mod.kin.keeps fun b o e=>(e0.bs b o e).1
 have lim:s.heap.NoLimit:=e0.mod.nolimit.keeps fun b o e=>(e0.bs b o e).1
 have hkind:∀y∈ps.zip us,scope.names.lookup y.1=some .local\/(scope.names.lookup y.1=some .cell/\((cellsFrom (s.heap.objs.size+1) scope.names []).lookup y.1).isSome=true):=fun⟨n,v⟩ hy=>by
  rcases S.par n (List.of_mem_zip hy).1 with q|q
  ·exact .inl q
  ·exact .inr ⟨q,PySem.W.cellsFrom_some _ _ _ (.inl q)⟩
 refine codeAny_call_function hr.depth (KX _ _ lk) rfl S.co S.gen rfl (PySem.W.codeRec_of KX hcd) (hb _ _ _ _ ?_)
 refine wpAny_newFunctionEnv_cells S.kind hkind fun env he s1 x=>?_
 subst he
 refine⟨lim.keeps x.toInCall.keep,codeAny_func ?_⟩
 obtain⟨t,ht,hq⟩:=hbody A outer s H vs Q E (hr.deeper _) hsp
 have I:Inv (ie CX P w K mg base N qual scope f cdv A outer s H E) [] (fD N vs) H s1:=Bg S hr.hd e0 hl r x
 refine wpAny_mono (ht [] s1 (fD N vs) H _ I hq) (fun fl s' hs=>?_) fun e s' hs=>hs
 have fin:∀{σ':St}{H':Hp}{v:V}{u:Value},Inv (ie CX P w K mg base N qual scope f cdv A outer s H E) [] σ' H' s'->ax v u->Q v H'->CE outer P w H s Q u s':=
  fun{σ' H' v u} J rv q=>⟨v,H',J.os,J.bare,J.base,J.hok,rv,q⟩
 cases fl with
 |ret u=>
  obtain⟨v,σ',H',J,rv,q⟩:=hs
  exact fin J rv q
 |next=>
  obtain⟨σ',H',J,q⟩:=hs
  exact fin (v:=V.non) (u:=Value.none) J rfl q
 |brk=>
  obtain⟨_,_,_,q⟩:=hs
  exact False.elim q
 |cont=>
  obtain⟨_,_,_,q⟩:=hs
  exact False.elim q
section
variable {X:Cx}{x:Str}{p pos:Pos}{e:Expr}{es:List Expr}{t:TA}{id T:String}{r:List V->Hp->VK->Prop}
def tCB (r:List V->Hp->VK->Prop) (t:TA):TE:=fun σ H Q=>t σ H fun vs H1=>r vs H1 Q
theorem ba (hc:cC X (.builtin id) r) (hg:Gl X x) (hm:X.mg x=none) (hv:bootBuiltins x=some (.builtin id)) (ha:PA X (e::es) t) (hn:x≠"__name__":=by decide) (hdb:(x == ("__debug__":Str))=false:=by decide)
 (he:starEach (e::es) X.env=(false,eval e X.env)::starEach es X.env:=by rfl) (hpl:(backTo pos (starEach es X.env)).any (·.1)=false:=by rfl):PE X (.Call (.Name x p) (e::es) [] pos) (tCB r t):=by
 intro pins s σ H Q I h
 refine wpAny_Call_Name_kw (g6 I hg hm hv ?_ hn hdb)
 exact PyProof.Rows.callWith_builtin1 (thn (ha pos pins s σ H _ I h) fun us s1 ⟨vs,H1,I1,r1,q1⟩=>hc pins s1 σ H1 vs us Q I1 r1 q1) he hpl
theorem eE (hc:cC X (.type T) r) (hg:Gl X x) (hm:X.mg x=none) (hv:bootBuiltins x=some (.type T)) (ha:PA X (e::es) t) (hn:x≠"__name__":=by decide) (hdb:(x == ("__debug__":Str))=false:=by decide)
 (he:starEach (e::es) X.env=(false,eval e X.env)::starEach es X.env:=by rfl) (hpl:(backTo pos (starEach es X.env)).any (·.1)=false:=by rfl):PE X (.Call (.Name x p) (e::es) [] pos) (tCB r t):=by
 intro pins s σ H Q I h
 refine wpAny_Call_Name_kw (g6 I hg hm hv ?_ hn hdb)
 exact PyProof.Rows.callWith_type1 (thn (ha pos pins s σ H _ I h) fun us s1 ⟨vs,H1,I1,r1,q1⟩=>hc pins s1 σ H1 vs us Q I1 r1 q1) he hpl
end
end L2
namespace HT
open PySem PyProof.Rows
section
open PySem.SeqAt
open PySem.AutoSeq1 (wpAny_loadPart')
open PySem.MeetsSeq PySem.MeetsSeq2 PySem.MeetsSeq3
end
section
variable {prog:Program}{w:World}{A:Around}{E:Qq}{s:Shared}
def sIx (n d:Nat):Option Int->Nat
 |none=>d
 |some v=>if v<0 then(v+(n:Int)).toNat else min v.toNat n
theorem sIx_none (n d:Nat):sIx n d none=d:=rfl
theorem sIx_nat (n d k:Nat):sIx n d (some (k:Int))=min k n:=by
 show(if(k:Int)<0 then((k:Int)+(n:Int)).toNat else min (k:Int).toNat n)=min k n
 rw[qZ Qo,qX]
theorem sIx_le (n d:Nat) (hd:d<=n) (o:Option Int):sIx n d o<=n:=by
 cases o with
 |none=>exact hd
 |some v=>
  show(if v<0 then(v+(n:Int)).toNat else min v.toNat n)<=n
  by_cases hv:v<0
  ·rw[Q0 hv];omega
  ·rw[qZ hv];exact Nat.min_le_right _ _
end
end HT
namespace L2
open PySem PySem.Spec PyProof.Rows
abbrev TO:=St->Hp->(Option Int->Hp->Prop)->Prop
def PO (X:Cx) (e:Option Expr) (t:TO):Prop:=
 ∀(pins:List (Addr×Obj)) (s:Shared) (σ:St) (H:Hp) (Q:Option Int->Hp->Prop),Inv X pins σ H s->t σ H Q->
  wpAny (model X.prog X.w) X.A (evalPart e X.env) (fun u s'=>∃o H',Inv X pins σ H' s'/\IsPart u o/\Q o H') X.xe s
def wo:TO:=fun _ H Q=>Q none H
def wj (t:TE):TO:=fun σ H Q=>t σ H fun x H1=>∃i,x=.int i/\Q (some i) H1
section
variable {X:Cx}{e:Expr}{te:TE}{lo hi:Option Expr}{tl th:TO}{pos p2:Pos}
theorem hX:PO X none wo:=by
 intro pins s σ H Q I h
 rw[evalPart_none]
 exact qe ⟨none,H,I,.none,h⟩
theorem eJ (h:PE X e te):PO X (some e) (wj te):=by
 intro pins s σ H Q I hw
 rw[evalPart_some]
 refine thn (h pins s σ H _ I hw) fun u s1 ⟨x,H1,I1,r1,q1⟩=>?_
 obtain⟨i,rfl,q⟩:=q1
 obtain⟨t,rfl⟩:=r1
 exact⟨some i,H1,I1,.int i t,q⟩
def SlR (X:Cx) (r:V->Option Int->Option Int->Hp->VK->Prop):Prop:=
 ∀(pins:List (Addr×Obj)) (s:Shared) (σ:St) (H:Hp) (x:V) (v vl vu:Value) (lo hi:Option Int) (sl:Addr) (Q:VK),Inv X pins σ H s->ax x v->s.heap.IsSliceOf sl vl vu .none->IsPart vl lo->IsPart vu hi->r x lo hi H Q->
  ∃T id,typeLookup (.type T) "__getitem__"=pure (some (.builtin id))/\s.TypeIs v T/\wpAny (model X.prog X.w) X.A (getItem v (.ref sl)) (EP X pins σ Q) X.xe s
def tSl (r:V->Option Int->Option Int->Hp->VK->Prop) (te:TE) (tl th:TO):TE:=fun σ H Q=>te σ H fun x H1=>tl σ H1 fun l H2=>th σ H2 fun u H3=>r x l u H3 Q
theorem fU {r:V->Option Int->Option Int->Hp->VK->Prop}(hr:SlR X r) (he:PE X e te) (hl:PO X lo tl) (hu:PO X hi th):PE X (.Subscript e (.Slice lo hi none p2) pos) (tSl r te tl th):=by
 intro pins s σ H Q I h
 refine Subscript_ (thn (he pins s σ H _ I h) fun v s1 ⟨x,H1,I1,r1,q1⟩=>?_)
 refine wpAny_Slice (thn (hl pins s1 σ H1 _ I1 q1) fun vl s2 ⟨l,H2,I2,pl,q2⟩=>thn (hu pins s2 σ H2 _ I2 q2) fun vu s3 ⟨u,H3,I3,pu,q3⟩=>?_)
 rw[evalPart_none]
 refine qe ?_
 have I4:Inv X pins σ H3 { s3 with heap:=s3.heap.push { cls:=.type "slice",data:=.fields #[vl,vu,.none] } }:=I3.kept (t':=s3.toks) fun b ob q=>qb _ q
 obtain⟨T,id,hT,ht,hg⟩:=hr pins { s3 with heap:=s3.heap.push { cls:=.type "slice",data:=.fields #[vl,vu,.none] } } σ H3 x v vl vu l u s3.heap.objs.size Q I4 r1 (Heap.IsSliceOf.new ..) pl pu q3
 show wpAny (model X.prog X.w) X.A (subscriptTail e (.Slice lo hi none p2) v (.ref s3.heap.objs.size)) (EP X pins σ Q) X.xe { s3 with heap:=s3.heap.push { cls:=.type "slice",data:=.fields #[vl,vu,.none] } }
 exact tail_any (ops:=[.ref s3.heap.objs.size,v]) ht hT hg (by with_unfolding_all rfl)
def eO (xs:List V) (lo hi:Option Int):List V:=(xs.drop (HT.sIx xs.length 0 lo)).take (HT.sIx xs.length xs.length hi-HT.sIx xs.length 0 lo)
theorem C2 (xs:List V) (lo hi:Option Int):(eO xs lo hi).length<=xs.length:=by
 unfold eO
 rw[qK,qY]
 omega
end
def ixN (n:Nat) (i:Int):Option Nat:=if 0<=i then(if i<n then some i.toNat else none)else if -(n:Int)<=i then some (i+n).toNat else none
def atI {α:Type}(xs:List α) (i:Int):Option α:=(ixN xs.length i).bind fun j=>xs[j]?
theorem ud {n:Nat}{i:Int}{j:Nat}(h:ixN n i=some j):seqIndex? i n=some j/\j<n/\-(n:Int)<=i/\i<n:=by
 unfold ixN at h
 by_cases h0:0<=i
 ·rw[Q0 h0]at h
  by_cases h1:i<n
  ·rw[Q0 h1]at h
   have e:i.toNat=j:=qJ h
   exact⟨by rw[seqIndex_of h0 h1,e],Qo,Qo,h1⟩
  ·rw[qZ h1]at h;cases h
 ·rw[qZ h0]at h
  by_cases h1:-(n:Int)<=i
  ·rw[Q0 h1]at h
   have e:(i+n).toNat=j:=qJ h
   exact⟨by rw[seqIndex_neg Qo h1,e],Qo,h1,Qo⟩
  ·rw[qZ h1]at h;cases h
theorem o7 {α:Type}{xs:List α}{i:Int}{v:α}(h:atI xs i=some v):∃j,seqIndex? i xs.length=some j/\xs[j]?=some v/\j<xs.length/\-(xs.length:Int)<=i/\i<xs.length:=by
 unfold atI at h
 cases e:ixN xs.length i with
 |none=>rw[e]at h;cases h
 |some j=>
  rw[e]at h
  obtain⟨h1,h2,h3,h4⟩:=ud e
  exact⟨j,h1,h,h2,h3,h4⟩
theorem bp {α:Type}{xs:List α}{j:Nat}{v:α}(h:xs[j]?=some v):atI xs (j:Int)=some v:=by
 have hj:j<xs.length:=(qg.mp h).1
 have e:ixN xs.length (j:Int)=some j:=by
  unfold ixN
  rw[Q0 Qo,Q0 Qo];simp
 unfold atI;rw[e];exact h
def CL (b:Expr):Prop:=∀o i,subscripted b false o i=operate [o,i] (getItem o i)
def IxR (X:Cx) (r:R2):Prop:=
 ∀(value slice:Expr) (pins:List (Addr×Obj)) (s:Shared) (σ:St) (H:Hp) (x y:V) (v u:Value) (Q:VK),Inv X pins σ H s->ax x v->ax y u->r x y H Q->
  subscripted slice false v u=operate [v,u] (getItem v u)->wpAny (model X.prog X.w) X.A (subscriptTail value slice v u) (EP X pins σ Q) X.xe s
def MtR (X:Cx) (id:String) (r:V->List V->Hp->VK->Prop):Prop:=
 ∀(pins:List (Addr×Obj)) (s:Shared) (σ:St) (H:Hp) (x:V) (xs:List V) (v:Value) (us:List Value) (Q:VK),Inv X pins σ H s->ax x v->av xs us->r x xs H Q->
  wpAny (model X.prog X.w) X.A (call (.builtin id) (v::us)) (EP X pins σ Q) X.xe s
section
variable {X:Cx}{a b:Expr}{ta tb:TE}{pos:Pos}
theorem aj {r:R2}(hr:IxR X r) (ha:PE X a ta) (hb:PE X b tb) (hs:CL b):PE X (.Subscript a b pos) (tOp r ta tb):=by
 intro pins s σ H Q I h
 exact Subscript_ (o6 ha hb I h fun v u s2 x y H2 I2 rx ry q=>hr a b pins s2 σ H2 x y v u Q I2 rx ry q (hs _ _))
def yF (K:PySem.W.Frag):R2:=fun x y H Q=>∃p xs i v,x=.ref p/\y=.int i/\SqL K H p xs/\atI xs i=some v/\Q v H
def yD (K:PySem.W.Frag):R2:=fun x y H Q=>∃p xs i v,x=.ref p/\y=.int i/\SqT K H p xs/\atI xs i=some v/\Q v H
def yE:R2:=fun x y H Q=>∃z i c,x=.str z/\y=.int i/\z.length<=sizeLine/\atI z.cps.toList i=some c/\Q (.str ⟨#[c]⟩) H
theorem Bb:IxR X (yF X.K):=by
 intro value slice pins s σ H x y v u Q I rx ry h hs
 obtain⟨p,xs,i,z,rfl,rfl,hq,he,q⟩:=h
 cases rx
 obtain⟨t,rfl⟩:=ry
 obtain⟨its,r,pl,hz⟩:=I.list hq
 obtain⟨j,h1,h2,h3,h4,h5⟩:=o7 he
 obtain⟨w,ew,rw'⟩:=r.get h2
 have hl:=r.length
 have hn:=iX
 have fin:EP X pins σ Q w s:=⟨z,H,I,rw',q⟩
 by_cases h0:0<=i
 ·have hj:i.toNat=j:=by
   rw[seqIndex_of h0 h5]at h1
   exact qJ h1
  exact item_listR pl.isList h0 Qo (by rw[hj];simpa using ew) fin hs
 ·have hj:(i+(its.toArray.size:Int)).toNat=j:=by
   rw[seqIndex_neg Qo h4]at h1
   rw[qC,<- hl]
   exact qJ h1
  exact subscriptTail_builtinR (x:=w) pl.isList.typeIs slot_list_getitem.lookup
   (wpAny_getItem_list_neg (Q:=fun r s'=>r=w/\EP X pins σ Q r s') pl.isList Qo (by rw[qC]<;>omega) Qo (by rw[hj];simpa using ew) ⟨rfl,fin⟩) hs
theorem Ba:IxR X (yD X.K):=by
 intro value slice pins s σ H x y v u Q I rx ry h hs
 obtain⟨p,xs,i,z,rfl,rfl,hq,he,q⟩:=h
 cases rx
 obtain⟨t,rfl⟩:=ry
 obtain⟨its,r,pl,hz⟩:=I.tuple hq
 obtain⟨j,h1,h2,h3,h4,h5⟩:=o7 he
 obtain⟨w,ew,rw'⟩:=r.get h2
 have hl:=r.length
 have hn:=iX
 have fin:EP X pins σ Q w s:=⟨z,H,I,rw',q⟩
 exact subscriptTail_builtinR (x:=w) pl.typeIs slot_tuple_getitem.lookup
  (getItem_tuple (j:=j) (Q:=fun r s'=>r=w/\EP X pins σ Q r s') pl Qo Qo (by rw[qC,<- hl];exact h1) (by simpa using ew) ⟨rfl,fin⟩) hs
theorem j0:IxR X yE:=by
 intro value slice pins s σ H x y v u Q I rx ry h hs
 obtain⟨z,i,c,rfl,rfl,hz,he,q⟩:=h
 obtain⟨t,rfl⟩:=rx
 obtain⟨t',rfl⟩:=ry
 obtain⟨j,h1,h2,h3,h4,h5⟩:=o7 he
 have hl:z.cps.toList.length=z.length:=by simp[Str.length]
 rw[hl]at h1 h4 h5
 have hn:=iX
 exact tail_any (typeIs_str s z t) slot_str_getitem.lookup (getItem_str (c:=c) (by
  have e1:decide (i < -(2 ^ 63:Int))=false:=decide_eq_false Qo
  have e2:decide (i >= 2 ^ 63)=false:=decide_eq_false Qo
  rw[e1,e2,Bool.or_false]) (by rw[h1];simpa using h2) ⟨.str ⟨#[c]⟩,H,I.tok _,⟨_,rfl⟩,q⟩) hs
theorem AK (its:List Value) (n j:Nat) (u:Value):Obj.mapSeq (·.setIfInBounds j u) { cls:=.type "list",data:=.seq its.toArray n }={ cls:=.type "list",data:=.seq (its.set j u).toArray n }:=by
 simp[Obj.mapSeq]
theorem Inv.lst {pins:List (Addr×Obj)}{σ:St}{H:Hp}{s:Shared}{p:Addr}{xs:List V}(I:Inv X pins σ H s) (h:H p=some (.lst xs)):
 ∃(its:List Value) (n:Nat),av xs its/\s.heap.get? p=some { cls:=.type "list",data:=.seq its.toArray n }/\xs.length<=sizeLine:=by
 obtain⟨z,its,n,r,e⟩:=I.hok p _ h
 exact⟨its,n,r,e,z⟩
theorem Inv.lstUpd {pins:List (Addr×Obj)}{σ:St}{H:Hp}{s:Shared}{p:Addr}{xs ys:List V}{its its':List Value}{n n':Nat}{f:Obj->Obj}(I:Inv X pins σ H s) (h:H p=some (.lst xs))
 (ho:s.heap.get? p=some { cls:=.type "list",data:=.seq its.toArray n }) (hf:f { cls:=.type "list",data:=.seq its.toArray n }={ cls:=.type "list",data:=.seq its'.toArray n' }) (r:av ys its') (hz:ys.length<=sizeLine) (t:Nat):
 Inv X pins σ (upd H p (.lst ys)) { s with heap:=s.heap.update p f,toks:=t }:=by
 have e:(s.heap.update p f).get? p=some { cls:=.type "list",data:=.seq its'.toArray n' }:=by
  rw[Heap.get?_update_self f ho (by rw[hf]<;>rfl),hf]
 refine I.write (x:=p) (e:=p) (by rw[h];trivial) (.inl rfl) (fun b u hb q=>(Heap.get?_update_other _ _ (Ne.symm hb)).trans q) ⟨_,e⟩ ?_
 exact⟨hz,its',n',r,e⟩
def yy:V->V->V->Hp->(Hp->Prop)->Prop:=fun o i v H Q=>∃p xs k j,o=.ref p/\i=.int k/\H p=some (.lst xs)/\ixN xs.length k=some j/\Q (upd H p (.lst (xs.set j v)))
theorem rT:vD X yy:=by
 intro pins s σ H o i v ov iv u Q I ro ri rv h
 obtain⟨p,xs,k,j,rfl,rfl,hp,hj,q⟩:=h
 cases ro
 obtain⟨t,rfl⟩:=ri
 obtain⟨its,n,r,ho,hz⟩:=I.lst hp
 obtain⟨h1,h2,h3,h4⟩:=ud hj
 have hl:=r.length
 have hn:=iX
 have I':Inv X pins σ (upd H p (.lst (xs.set j v))) { s with heap:=s.heap.update p (Obj.mapSeq (·.setIfInBounds j u)) }:=
  I.lstUpd hp ho (AK its n j u) (r.set rv j) (by rw[List.length_set];exact hz) s.toks
 by_cases h0:0<=k
 ·have hk:k.toNat=j:=by
   rw[seqIndex_of h0 h4]at h1
   exact qJ h1
  exact PySem.W.ki_setAt ho h0 Qo (by rw[qC,<- hl];exact h4) (by rw[hk];exact⟨_,I',q⟩)
 ·have hk:(k+(its.toArray.size:Int)).toNat=j:=by
   rw[seqIndex_neg Qo h3]at h1
   rw[qC,<- hl]
   exact qJ h1
  exact PySem.W.ki_setBack ho Qo (by rw[qC,<- hl];exact h3) Qo (by rw[hk];exact⟨_,I',q⟩)
theorem xi (lo hi:Option Int) (n:Nat):(sliceBounds lo hi none n).1=((HT.sIx n 0 lo:Nat):Int)/\(sliceBounds lo hi none n).2.1=((HT.sIx n n hi:Nat):Int)/\(sliceBounds lo hi none n).2.2=1:=by
 refine⟨?_,?_,rfl⟩
 ·cases lo with
  |none=>simp[sliceBounds,HT.sIx]
  |some i=>
   simp only[sliceBounds,HT.sIx,Option.getD_none,show(1:Int) > 0 by decide,if_true]
   by_cases h:i<0
   ·simp only[h,if_true]<;>omega
   ·simp only[h,if_false]<;>omega
 ·cases hi with
  |none=>simp[sliceBounds,HT.sIx]
  |some i=>
   simp only[sliceBounds,HT.sIx,Option.getD_none,show(1:Int) > 0 by decide,if_true]
   by_cases h:i<0
   ·simp only[h,if_true]<;>omega
   ·simp only[h,if_false]<;>omega
theorem xj (its:List Value) (lo hi:Option Int):slicePick its.toArray lo hi none=((its.drop (HT.sIx its.length 0 lo)).take (HT.sIx its.length its.length hi-HT.sIx its.length 0 lo)).toArray:=by
 obtain⟨h1,h2,h3⟩:=xi lo hi its.toArray.size
 unfold slicePick
 rw[h1,h2,h3]
 simp only[sliceRange_one,pick_run,qC]<;>rfl
def yx (K:PySem.W.Frag):V->Option Int->Option Int->Hp->VK->Prop:=fun x lo hi H Q=>∃a xs,x=.ref a/\SqL K H a xs/\∀p,H p=none->Q (.ref p) (upd H p (.lst (eO xs lo hi)))
theorem kN:SlR X (yx X.K):=by
 intro pins s σ H x v vl vu lo hi sl Q I rx hs pl pu h
 obtain⟨a,xs,rfl,hx,q⟩:=h
 cases rx
 obtain⟨its,r,ht,hz⟩:=I.list hx
 have hlen:=r.length
 refine⟨"list",_,slot_list_getitem.lookup,ht.isList.typeIs,?_⟩
 refine wpAny_getItem_list_slice ht.isList hs pl pu .none (by simp) ?_ (by rw[qC]<;>omega)
 rw[xj,<- hlen]
 refine⟨.ref s.heap.objs.size,_,I.laid (t':=s.toks) (o:=.lst (eO xs lo hi)) (fun b ob q=>qb _ q) (qf _) ?_,rfl,q _ (I.hok.fresh (qf _))⟩
 exact⟨qy (C2 xs lo hi) hz,_,0,(r.drop (HT.sIx xs.length 0 lo)).take (HT.sIx xs.length xs.length hi-HT.sIx xs.length 0 lo),qp _ rfl⟩
def gc:V->Bool
 |.non=>true
 |.bl _=>true
 |.int _=>true
 |.str _=>true
 |_=>false
def eqV:V->V->Bool
 |.non,.non=>true
 |.bl a,.bl b=>a == b
 |.bl a,.int b=>(if a then 1 else 0) == b
 |.int a,.bl b=>a == (if b then 1 else 0)
 |.int a,.int b=>a == b
 |.str a,.str b=>a == b
 |_,_=>false
theorem BF {A:Around}{s:Shared}{y x:V}{u v:Value}(ry:ax y u) (rx:ax x v) (fy:gc y=true) (fx:gc x=true):SeqAt.EqAt A s u v (eqV y x):=by
 cases y with
 |non=>
  cases ry
  cases x with
  |non=>cases rx;exact SeqAt.EqAt.same _
  |bl b=>cases rx;exact SeqAt.EqAt.none_bool b
  |int b=>obtain⟨t,rfl⟩:=rx;exact SeqAt.EqAt.none_int b t
  |str b=>obtain⟨t,rfl⟩:=rx;exact SeqAt.EqAt.none_str b t
  |_=>exact absurd (show false=true from fx) qj
 |bl a=>
  cases ry
  cases x with
  |non=>cases rx;exact SeqAt.EqAt.bool_none a
  |bl b=>cases rx;exact SeqAt.EqAt.bool_bool a b
  |int b=>obtain⟨t,rfl⟩:=rx;exact SeqAt.EqAt.bool_int a b t
  |str b=>obtain⟨t,rfl⟩:=rx;exact SeqAt.EqAt.bool_str a b t
  |_=>exact absurd (show false=true from fx) qj
 |int a=>
  obtain⟨t',rfl⟩:=ry
  cases x with
  |non=>cases rx;exact SeqAt.EqAt.int_none a t'
  |bl b=>cases rx;exact SeqAt.EqAt.int_bool a t' b
  |int b=>obtain⟨t,rfl⟩:=rx;exact SeqAt.EqAt.int_int a t' b t
  |str b=>obtain⟨t,rfl⟩:=rx;exact SeqAt.EqAt.int_str a t' b t
  |_=>exact absurd (show false=true from fx) qj
 |str a=>
  obtain⟨t',rfl⟩:=ry
  cases x with
  |non=>cases rx;exact SeqAt.EqAt.str_none a t'
  |bl b=>cases rx;exact SeqAt.EqAt.str_bool a t' b
  |int b=>obtain⟨t,rfl⟩:=rx;exact SeqAt.EqAt.str_int a t' b t
  |str b=>obtain⟨t,rfl⟩:=rx;exact SeqAt.EqAt.str_str a t' b t
  |_=>exact absurd (show false=true from fx) qj
 |_=>exact absurd (show false=true from fy) qj
def eqU (x:V) (u:Value):Bool:=match u with
 |.none=>eqV .non x
 |.bool b=>eqV (.bl b) x
 |.int i _=>eqV (.int i) x
 |.str z _=>eqV (.str z) x
 |_=>false
theorem uB {x y:V}{u:Value}(r:ax y u) (f:gc y=true):eqU x u=eqV y x:=by
 cases y with
 |non=>cases r;rfl
 |bl b=>cases r;rfl
 |int i=>obtain⟨t,rfl⟩:=r;rfl
 |str z=>obtain⟨t,rfl⟩:=r;rfl
 |_=>exact absurd (show false=true from f) qj
theorem oa {x:V}:∀{xs:List V}{us:List Value},av xs us->xs.all gc=true->us.any (eqU x)=xs.any fun y=>eqV y x
 |_,_,.nil,_=>rfl
 |y::xs,u::us,.cons r t,f=>by
  rw[List.all_cons,Bool.and_eq_true]at f
  rw[List.any_cons,List.any_cons,uB r f.1,oa t f.2]
theorem mY {A:Around}{s:Shared}{x:V}{v:Value}(rx:ax x v) (fx:gc x=true):∀{xs:List V}{us:List Value},av xs us->xs.all gc=true->∀u∈us,SeqAt.EqAt A s u v (eqU x u)
 |_,_,.nil,_=>fun u hu=>by cases hu
 |y::xs,u::us,.cons r t,f=>fun u' hu=>by
  rw[List.all_cons,Bool.and_eq_true]at f
  rcases qu.mp hu with rfl|hu
  ·rw[uB r f.1];exact BF r rx f.1 fx
  ·exact mY rx fx t f.2 u' hu
def inV (x:V) (xs:List V):Bool:=xs.any fun y=>eqV y x
def rIn (K:PySem.W.Frag) (neg:Bool):R2:=fun x y H Q=>∃p xs,y=.ref p/\(SqL K H p xs\/SqT K H p xs)/\gc x=true/\xs.all gc=true/\Q (.bl (if neg then !inV x xs else inV x xs)) H
theorem i0:OpR X (compareOp .In) (rIn X.K false):=by
 intro pins s σ H x y v u Q I rx ry h
 obtain⟨p,xs,rfl,hq,fx,fs,q⟩:=h
 cases ry
 rcases hq with hq|hq
 ·obtain⟨its,r,pl,hz⟩:=I.list hq
  refine SeqAt.in_listAt (eqU x) pl.isList (fun w hw=>mY rx fx r fs w (by simpa using hw)) ⟨.bl _,H,I,rfl,?_⟩
  rw[show its.toArray.any (eqU x)=its.any (eqU x)by simp,oa r fs]
  exact q
 ·obtain⟨its,r,pl,hz⟩:=I.tuple hq
  refine SeqAt.in_tupleAt (eqU x) pl (fun w hw=>mY rx fx r fs w (by simpa using hw)) ⟨.bl _,H,I,rfl,?_⟩
  rw[show its.toArray.any (eqU x)=its.any (eqU x)by simp,oa r fs]
  exact q
theorem Ci:cC X (.builtin "len") (fun xs H Q=>∃p ys,xs=[.ref p]/\(SqL X.K H p ys\/SqT X.K H p ys)/\Q (.int ys.length) H):=by
 intro pins s σ H xs us Q I r h
 obtain⟨p,ys,rfl,hq,q⟩:=h
 obtain⟨u,rfl,rx⟩:=eR r
 cases rx
 have hn:=iX
 rcases hq with hq|hq
 ·obtain⟨its,r',pl,hz⟩:=I.list hq
  have hlen:=r'.length
  exact Calls.call_len_list pl.isList (by simp only[qC]<;>omega) ⟨.int ys.length,H,I.tok _,⟨s.toks+1,by rw[qC,hlen]⟩,q⟩
 ·obtain⟨its,r',pl,hz⟩:=I.tuple hq
  have hlen:=r'.length
  exact len_tuple pl (by simp only[qC]<;>omega) ⟨.int ys.length,H,I.tok _,⟨s.toks+1,by rw[qC,hlen]⟩,q⟩
theorem Cg:cC X (.type "list") (fun xs H Q=>∃p ys,xs=[.ref p]/\(SqL X.K H p ys\/SqT X.K H p ys)/\∀l,H l=none->Q (.ref l) (upd H l (.lst ys))):=by
 intro pins s σ H xs us Q I r h
 obtain⟨p,ys,rfl,hq,q⟩:=h
 obtain⟨u,rfl,rx⟩:=eR r
 cases rx
 have fin:∀(its:List Value),av ys its->ys.length<=sizeLine->∀(h':Heap) (c':Nat),(∀b o',s.heap.get? b=some o'->h'.get? b=some o')->
  h'.get? s.heap.objs.size=some { cls:=.type "list",dict:=none,data:=.seq its.toArray c',slots:=#[] }->EP X pins σ Q (.ref s.heap.objs.size) { s with heap:=h' }:=fun its r' hz h' c' kp e=>
  ⟨.ref s.heap.objs.size,_,I.laid (t':=s.toks) kp (qf _) (show bB X.prog X.w _ h' _ (.lst ys)from⟨hz,its,c',r',e⟩),rfl,q _ (I.hok.fresh (qf _))⟩
 rcases hq with hq|hq
 ·obtain⟨its,r',pl,hz⟩:=I.list hq
  have hlen:=r'.length
  obtain⟨o,ho,hc,n,hd⟩:=pl.isList
  exact call_list_seq p (.inl rfl) ho hc hd (fun h' c' kp e=>fin its r' hz h' c' kp e) (by simp only[qC]<;>omega)
 ·obtain⟨its,r',pl,hz⟩:=I.tuple hq
  have hlen:=r'.length
  obtain⟨o,ho,hc,n,hd⟩:=pl
  exact call_list_seq p (.inr rfl) ho hc hd (fun h' c' kp e=>fin its r' hz h' c' kp e) (by simp only[qC]<;>omega)
theorem nV:cC X (.type "tuple") (fun xs H Q=>∃p ys,xs=[.ref p]/\((SqL X.K H p ys/\∀l,H l=none->Q (.ref l) (upd H l (.tup ys)))\/(SqT X.K H p ys/\Q (.ref p) H))):=by
 intro pins s σ H xs us Q I r h
 obtain⟨p,ys,rfl,h⟩:=h
 obtain⟨u,rfl,rx⟩:=eR r
 cases rx
 rcases h with⟨hq,q⟩|⟨hq,q⟩
 ·obtain⟨its,r',pl,hz⟩:=I.list hq
  have hlen:=r'.length
  refine call_tuple_list pl.isList (fun h' kp=>?_) (by simp only[qC]<;>omega)
  have I1:Inv X pins σ H { s with heap:=h' }:=I.kept (t':=s.toks) kp
  have I2:Inv X pins σ (upd H h'.objs.size (.tup ys)) { s with heap:=h'.push { cls:=.type "tuple",data:=.seq its.toArray } }:=
   I1.laid (t':=s.toks) (fun b o e=>qb _ e) (qf _) (show bB X.prog X.w _ _ _ (.tup ys)from⟨hz,its,r',IsTup.new _ _⟩)
  exact⟨.ref h'.objs.size,_,I2,rfl,q _ (I1.hok.fresh (qf _))⟩
 ·obtain⟨its,r',pl,hz⟩:=I.tuple hq
  exact call_tuple_same pl ⟨.ref p,H,I,rfl,q⟩
def tyV (K:PySem.W.Frag) (T:String) (x:V) (H:Hp):Prop:=match x with
 |.str _=>T="str"
 |.int _=>T="int"
 |.ref p=>(T="list"/\∃xs,SqL K H p xs)\/(T="tuple"/\∃o,K.lookup p=some o/\o.cls=.type "tuple"/\o.dict=none) \/
  (T="dict"/\((∃kvs,H p=some (.dK kvs))\/∃kvs,H p=some (.dT kvs)))\/(T="set"/\∃S n,H p=some (.set S n))
 |_=>False
theorem oM {pins:List (Addr×Obj)}{σ:St}{H:Hp}{s:Shared}{T:String}{x:V}{v:Value}(I:Inv X pins σ H s) (r:ax x v) (ty:tyV X.K T x H):
 s.TypeIs v T/\∀a,v=.ref a->∃ob,s.heap.get? a=some ob/\ob.dict=none:=by
 cases x with
 |str z=>
  obtain⟨t,rfl⟩:=r
  cases(show T="str" from ty)
  exact⟨typeIs_str s z t,fun _ e=>nomatch e⟩
 |int i=>
  obtain⟨t,rfl⟩:=r
  cases(show T="int" from ty)
  exact⟨typeIs_int s i t,fun _ e=>nomatch e⟩
 |ref p=>
  cases r
  rcases ty with⟨rfl,xs,hq⟩|⟨rfl,o,hk,hc,hd⟩|⟨rfl,hk⟩|⟨rfl,S,n,hk⟩
  ·obtain⟨its,_,pl,_⟩:=I.list hq
   refine⟨pl.isList.typeIs,fun a e=>?_⟩
   cases e
   obtain⟨o,n,e,c,hd,_⟩:=pl
   exact⟨o,e,hd⟩
  ·refine⟨⟨o,I.kIn p o hk,hc⟩,fun a e=>?_⟩
   cases e
   exact⟨o,I.kIn _ o hk,hd⟩
  ·have z:∃o,s.heap.get? p=some o/\o.ExactDict:=by
    rcases hk with⟨kvs,hk⟩|⟨kvs,hk⟩
    ·obtain⟨_,_,_,_,o,_,_,e,ex,_⟩:=I.hok p _ hk
     exact⟨o,e,ex⟩
    ·obtain⟨_,_,_,_,o,_,_,e,ex,_⟩:=I.hok p _ hk
     exact⟨o,e,ex⟩
   obtain⟨o,e,ex⟩:=z
   refine⟨⟨o,e,ex.1⟩,fun a e2=>?_⟩
   cases e2
   exact⟨o,e,ex.2.1⟩
  ·obtain⟨o,_,_,_,e,ex,_⟩:=I.hok p _ hk
   refine⟨⟨o,e,ex.1⟩,fun a e2=>?_⟩
   cases e2
   exact⟨o,e,ex.2.1⟩
 |_=>exact False.elim ty
def wJ (K:PySem.W.Frag) (T:String) (r:V->List V->Hp->VK->Prop) (to:TE):TE:=fun σ H Q=>to σ H fun x H1=>tyV K T x H1/\r x [] H1 Q
def tBM (K:PySem.W.Frag) (T:String) (r:V->List V->Hp->VK->Prop) (to:TE) (t:TA):TE:=fun σ H Q=>to σ H fun x H1=>tyV K T x H1/\t σ H1 fun xs H2=>r x xs H2 Q
variable {o e:Expr}{es:List Expr}{to:TE}{t:TA}{name:Str}{apos cpos:Pos}{T id:String}{r:V->List V->Hp->VK->Prop}
theorem zw (pa:PlainAttrs T) (slot:Slot T name id) (hty:typeOf (.builtin id)=pure (.type "method_descriptor")) (hm:MtR X id r) (ho:PE X o to)
 (hbase:attributeBase o name X.env (eval o X.env)=eval o X.env:=by rfl) (hline:(apos.endLine == cpos.line)=true:=by rfl):PE X (.Call (.Attribute o name apos) [] [] cpos) (wJ X.K T r to):=by
 intro pins s σ H Q I h
 refine wpAny_Call_method0_late hbase hline (thn (ho pins s σ H _ I h) fun v s1 ⟨x,H1,I1,r1,ty,q1⟩=>?_)
 obtain⟨h1,h2⟩:=oM I1 r1 ty
 exact⟨T,id,pa,slot,hty,h1,h2,Calls.callWith_builtin rfl (PySem.evalArgs_none (hm pins s1 σ H1 x [] v [] Q I1 r1 .nil q1))⟩
theorem zx (pa:PlainAttrs T) (slot:Slot T name id) (hty:typeOf (.builtin id)=pure (.type "method_descriptor")) (hm:MtR X id r) (ho:PE X o to) (ha:PA X (e::es) t)
 (hbase:attributeBase o name X.env (eval o X.env)=eval o X.env:=by rfl)
 (hfew:((backTo cpos (starEach (e::es) X.env)).all (fun x=>!x.1) && (backToKw cpos (keywordEach [] X.env)).all (fun x=>x.1.isSome)
  && decide ((e::es).length+([]:List Keyword).length+(if([]:List Keyword).isEmpty then 0 else 1)<30))=true:=by rfl)
 (hline:(apos.endLine == cpos.line)=true:=by rfl) (hs:starEach (e::es) X.env=(false,eval e X.env)::starEach es X.env:=by rfl) (hplain:(backTo cpos (starEach es X.env)).any (·.1)=false:=by rfl):
 PE X (.Call (.Attribute o name apos) (e::es) [] cpos) (tBM X.K T r to t):=by
 intro pins s σ H Q I h
 refine wpAny_Call_method_late hbase hfew hline rfl (thn (ho pins s σ H _ I h) fun v s1 ⟨x,H1,I1,r1,ty,q1⟩=>?_)
 obtain⟨h1,h2⟩:=oM I1 r1 ty
 refine⟨T,id,pa,slot,hty,h1,h2,?_⟩
 have hA:=ha cpos pins s1 σ H1 _ I1 q1
 rw[hs]at hA ⊢
 refine Calls.callWith_builtin (by show(false || (backTo cpos (starEach es X.env)).any (·.1))=false;rw[hplain]<;>rfl) (Calls.evalArgs_plain ?_)
 exact thn hA fun us s2 ⟨vs,H2,I2,r2,q2⟩=>hm pins s2 σ H2 x vs v us Q I2 r1 r2 q2
end
def MtM (X:Cx) (id:String) (r:V->List V->Hp->VK->Prop):Prop:=
 ∀(pins:List (Addr×Obj)) (s:Shared) (σ:St) (H:Hp) (x:V) (xs:List V) (v:Value) (us:List Value) (Q:VK),Inv X pins σ H s->ax x v->av xs us->r x xs H Q->
  wpAny (model X.prog X.w) X.A (call (.builtin id) (v::us)) (EP X pins σ Q) X.xe s
theorem av.one:∀{x:V}{us:List Value},av [x] us->∃u,us=[u]/\ax x u
 |_,_,.cons r .nil=>⟨_,rfl,r⟩
theorem av.zero:∀{us:List Value},av [] us->us=[]
 |_,.nil=>rfl
theorem av.dropLast {xs:List V}{us:List Value}(h:av xs us):av xs.dropLast us.dropLast:=by
 induction h with
 |nil=>exact .nil
 |cons r t ih=>
  cases t with
  |nil=>exact .nil
  |cons q t'=>exact .cons r ih
theorem av.rep {xs:List V}{us:List Value}(h:av xs us):∀k:Nat,av (List.replicate k xs).flatten (List.replicate k us).flatten
 |0=>.nil
 |k+1=>by
  rw[List.replicate_succ,List.replicate_succ,List.flatten_cons,List.flatten_cons]
  exact av.append h (av.rep h k)
theorem BE {α:Type}(l:List α):l.eraseIdx (l.length-1)=l.dropLast:=by
 induction l with
 |nil=>rfl
 |cons a r ih=>
  cases r with
  |nil=>rfl
  |cons b r=>
   have e:(a::b::r).length-1=((b::r).length-1)+1:=by
    have h1:(a::b::r).length=r.length+2:=rfl
    have h2:(b::r).length=r.length+1:=rfl
    omega
   rw[e,List.eraseIdx_cons_succ,ih]
   all_goals rfl
theorem uy (its:List Value):∀(k:Nat) (acc:List Value),
 List.foldl (fun x1 x2=>x1++x2) acc.toArray (List.replicate k its.toArray)=(acc++(List.replicate k its).flatten).toArray
 |0,acc=>by simp
 |k+1,acc=>by
  have e:acc.toArray++its.toArray=(acc++its).toArray:=by simp
  have e2:(acc++its)++(List.replicate k its).flatten=acc++(List.replicate (k+1) its).flatten:=by
   rw[List.replicate_succ,List.flatten_cons,qN]
  rw[<- e2,<- uy its k (acc++its),<- e,List.replicate_succ,List.foldl_cons]
section
variable {X:Cx}{pins:List (Addr×Obj)}{σ:St}{H:Hp}{s:Shared}{l b:Addr}{xs ys zs:List V}
theorem Inv.lset {its its':List Value}{n:Nat}{f:Array Value->Array Value}{t':Nat}(I:Inv X pins σ H s) (hH:H l=some (.lst xs))
 (e:s.heap.get? l=some { cls:=.type "list",data:=.seq its.toArray n }) (hf:f its.toArray=its'.toArray) (hv:av ys its') (hz:ys.length<=sizeLine):
 Inv X pins σ (upd H l (.lst ys)) { s with heap:=s.heap.update l (Obj.mapSeq f),toks:=t' }:=by
 have q:=PySem.IsL.update e f
 rw[hf]at q
 refine I.write (x:=l) (e:=l) (by rw[hH];exact trivial) (.inl rfl) (fun b' u hb hu=>(Heap.get?_update_other s.heap (Obj.mapSeq f) (Ne.symm hb)).trans hu) ⟨_,q⟩ ?_
 exact⟨hz,its',_,hv,q⟩
theorem Inv.lnew {its:List Value}{t':Nat}(I:Inv X pins σ H s) (hv:av ys its) (hz:ys.length<=sizeLine):
 Inv X pins σ (upd H s.heap.objs.size (.lst ys)) { s with heap:=s.heap.push { cls:=.type "list",data:=.seq its.toArray },toks:=t' }:=
 I.laid (fun _ _ q=>qb _ q) (qf _) ⟨hz,its,0,hv,qp _ rfl⟩
theorem Inv.fresh (I:Inv X pins σ H s):H s.heap.objs.size=none:=I.hok.fresh (qf _)
theorem Inv.lstM (I:Inv X pins σ H s) (hH:H l=some (.lst xs)):xs.length<=sizeLine/\∃(its:List Value) (n:Nat),av xs its/\xs.length=its.length/\s.heap.get? l=some { cls:=.type "list",data:=.seq its.toArray n }:=by
 obtain⟨z,its,n,r,e⟩:=I.hok l _ hH
 exact⟨z,its,n,r,r.length,e⟩
theorem tN {n:Nat}(h:n<=sizeLine):Builtin.List.listTooLong n=false:=by
 unfold Builtin.List.listTooLong
 exact decide_eq_false Qo
end
section
variable {X:Cx}
def yJ:V->List V->Hp->VK->Prop:=fun x vs H Q=>∃l xs y,x=.ref l/\vs=[y]/\H l=some (.lst xs)/\xs.length<sizeLine/\Q .non (upd H l (.lst (xs++[y])))
theorem AF:MtM X "list.append" yJ:=by
 intro pins s σ H x vs v us Q I rx rv h
 obtain⟨l,xs,y,rfl,rfl,hH,hz,q⟩:=h
 cases rx
 obtain⟨u,rfl,ru⟩:=rv.one
 obtain⟨z,its,n,r,hl,e⟩:=I.lstM hH
 refine call_meets F.slot_list_append ⟨_,e,rfl⟩ F.entry_list_append (F.args_list_append_2 _ _) (PySem.list_append l its.toArray n u (by rw[qC];omega)) ⟨e,?_⟩
 refine⟨.non,_,I.lset (its':=its++[u]) hH e (by simp) (r.append (.cons ru .nil)) ?_,rfl,q⟩
 rw[qc,List.length_singleton]
 omega
def yG:V->List V->Hp->VK->Prop:=fun x vs H Q=>∃l b xs zs,x=.ref l/\vs=[.ref b]/\H l=some (.lst xs)/\H b=some (.lst zs)/\xs.length+zs.length<=sizeLine/\Q .non (upd H l (.lst (xs++zs)))
theorem fZ:MtM X "list.extend" yG:=by
 intro pins s σ H x vs v us Q I rx rv h
 obtain⟨l,b,xs,zs,rfl,rfl,hH,hB,hz,q⟩:=h
 cases rx
 obtain⟨u,rfl,ru⟩:=rv.one
 cases ru
 obtain⟨z,its,n,r,hl,e⟩:=I.lstM hH
 obtain⟨z2,its2,n2,r2,hl2,e2⟩:=I.lstM hB
 have hsz:its.toArray.size+its2.toArray.size<=sizeLine:=by rw[qC,qC];omega
 have hlong:¬ (!its.toArray.isEmpty && Builtin.List.listTooLong (its.toArray.size+its2.toArray.size))=true:=by
  rw[tN hsz,Bool.and_false]
  exact qj
 refine call_meets F.slot_list_extend ⟨_,e,rfl⟩ F.entry_list_extend (F.args_list_extend_2 _ _)
  (AutoSeq1.list_extend_list_list_0 l its.toArray n b its2.toArray n2 hlong (by rw[qC];omega) Qo) ⟨e,e2,?_⟩
 refine⟨.non,_,I.lset (its':=its++its2) hH e (by simp) (r.append r2) ?_,rfl,q⟩
 rw[qc]
 omega
def yC:V->List V->Hp->VK->Prop:=fun x vs H Q=>∃l xs y,x=.ref l/\vs=[]/\H l=some (.lst xs)/\xs[xs.length-1]?=some y/\Q y (upd H l (.lst xs.dropLast))
theorem AD:MtM X "list.pop" yC:=by
 intro pins s σ H x vs v us Q I rx rv h
 obtain⟨l,xs,y,rfl,rfl,hH,hy,q⟩:=h
 cases rx
 have hus:=rv.zero
 subst hus
 obtain⟨z,its,n,r,hl,e⟩:=I.lstM hH
 obtain⟨u,hu,ru⟩:=r.get hy
 have hy':its.toArray[its.toArray.size-1]?=some u:=by
  show its.toArray[its.length-1]?=some u
  rw[<- qT,<- hl]
  exact hu
 refine call_meets F.slot_list_pop ⟨_,e,rfl⟩ F.entry_list_pop (F.args_list_pop_1 _) (MeetsSeq.list_pop_last l its.toArray n u hy' (by rw[qC];omega)) ⟨e,?_⟩
 refine⟨y,_,I.lset (its':=its.dropLast) hH e ?_ r.dropLast ?_,ru,q⟩
 ·show its.toArray.eraseIdxIfInBounds (its.toArray.size-1)=its.dropLast.toArray
  rw[qC,List.eraseIdxIfInBounds_toArray,BE]
 ·rw[List.length_dropLast]
  omega
def yz:R2:=fun x y H Q=>∃l k xs,x=.ref l/\y=.int k/\H l=some (.lst xs)/\-(2 ^ 63)<=k/\k<2 ^ 63/\xs.length * k.toNat<=sizeLine /\
 ∀p,H p=none->Q (.ref p) (upd H p (.lst (List.replicate k.toNat xs).flatten))
theorem AT {α:Type}(xs:List α) (k:Nat):(List.replicate k xs).flatten.length=k * xs.length:=by
 induction k with
 |zero=>simp
 |succ k ih=>rw[List.replicate_succ,List.flatten_cons,qc,ih,Nat.succ_mul,Nat.add_comm]
theorem t9:OpR X (binaryOp .Mult) yz:=by
 intro pins s σ H x y v u Q I rx ry h
 obtain⟨l,k,xs,rfl,rfl,hH,h1,h2,hz,q⟩:=h
 cases rx
 obtain⟨t,rfl⟩:=ry
 obtain⟨z,its,n,r,hl,e⟩:=I.lstM hH
 have hlen:its.toArray.size * k.toNat<=sizeLine:=by rw[qC,<- hl];exact hz
 have hcap:¬ its.toArray.size * k.toNat > (2 ^ 63-1) / 8:=by
  have:(sizeLine:Nat)<=(2 ^ 63-1) / 8:=Qk
  omega
 have hfit:¬ (!Builtin.List.listFitsIndex k)=true:=by
  rw[fitsIndex_both h1 h2]
  exact qj
 have hlong:¬ Builtin.List.listTooLong (its.toArray.size * k.toNat)=true:=by
  rw[tN hlen]
  exact qj
 have hnew:List.foldl (fun x1 x2=>x1++x2) #[] (List.replicate (if its.toArray.isEmpty=true then 0 else k.toNat) its.toArray)=(List.replicate k.toNat its).flatten.toArray:=by
  have f0:∀m:Nat,List.foldl (fun x1 x2=>x1++x2) #[] (List.replicate m its.toArray)=(List.replicate m its).flatten.toArray:=fun m=>by
   have:=uy its m []
   rw[List.nil_append]at this
   exact this
  rw[f0]
  cases its with
  |nil=>simp
  |cons a r'=>rw[qZ (by simp)]
 refine wpAny_binaryOp_repeat_ref (T:="list") (U:="int") Qk ⟨_,e,rfl⟩ (fun s'=>typeIs_int s' k t) noFill_list_mul F.fills_int_mul F.slot_int_rmul repeat_list F.slot_int_index.lookup
  (call_meets F.slot_int_rmul (typeIs_int s k t) F.entry_int_rmul (F.args_int_rmul_2 _ _) (int___rmul___int_list k t l its.toArray n)
   ⟨e,rfl,⟨_,e,rfl⟩,call_meets F.slot_list_mul ⟨_,e,rfl⟩ F.entry_list_mul (F.args_list_mul_2 _ _) (AutoListH.list___mul___list_int_3 l its.toArray n k t hfit hcap hlong) ⟨e,?_⟩⟩)
 rw[hnew]
 exact⟨.ref _,_,I.lnew (t':=s.toks) (r.rep k.toNat) (by rw[AT,Nat.mul_comm];exact hz),rfl,q _ I.fresh⟩
end
section
variable {prog:Program}{w:World}{A:Around}{E:Qq}{s:Shared}
set_option maxRecDepth 100000 in
end
section
variable {X:Cx}
end
section
variable {κ:Type} [DecidableEq κ]
def aK (kvs:List (κ×V)) (k:κ):Option V:=(kvs.find? fun kv=>decide (kv.1=k)).map (·.2)
def bT (kvs:List (κ×V)) (k:κ) (v:V):List (κ×V):=
 if(kvs.any fun kv=>decide (kv.1=k))=true then kvs.map (fun kv=>if kv.1=k then(kv.1,v)else kv)else kvs++[(k,v)]
theorem ee {p:κ×V}{r:List (κ×V)}{k:κ}(e:p.1=k):aK (p::r) k=some p.2:=by simp[aK,List.find?_cons,e]
theorem eh {p:κ×V}{r:List (κ×V)}{k:κ}(e:¬ p.1=k):aK (p::r) k=aK r k:=by simp[aK,List.find?_cons,e]
theorem jb (k:κ):∀kvs:List (κ×V),(kvs.any fun kv=>decide (kv.1=k))=(aK kvs k).isSome
 |[]=>rfl
 |p::r=>by
  rw[List.any_cons]
  by_cases e:p.1=k
  ·simp only[ee e,decide_eq_true e,Bool.true_or,Option.isSome_some]
  ·rw[eh e,decide_eq_false e,Bool.false_or];exact jb k r
theorem oH (k j:κ) (y:V):∀kvs:List (κ×V),aK (kvs.map fun kv=>if kv.1=k then(kv.1,y)else kv) j=(aK kvs j).map fun x=>if j=k then y else x
 |[]=>rfl
 |p::r=>by
  have ih:=oH k j y r
  rw[qR]
  by_cases h:p.1=k
  ·rw[Q0 h]
   by_cases e:p.1=j
   ·rw[ee (p:=(p.1,y)) e,ee e,Option.map_some,Q0 (e.symm.trans h)]
   ·rw[eh (p:=(p.1,y)) e,eh e,ih]
  ·rw[qZ h]
   by_cases e:p.1=j
   ·rw[ee (p:=p) e,ee e,Option.map_some,qZ (fun z=>h (e.trans z))]
   ·rw[eh (p:=p) e,eh e,ih]
theorem oG (k j:κ) (y:V):∀kvs:List (κ×V),aK kvs k=none->aK (kvs++[(k,y)]) j=if j=k then some y else aK kvs j
 |[],_=>by
  by_cases e:k=j
  ·rw[Q0 e.symm];exact ee (p:=(k,y)) e
  ·rw[qZ (fun z=>e z.symm)];exact eh (p:=(k,y)) e
 |p::r,hn=>by
  rw[List.cons_append]
  have hk:¬ p.1=k:=fun z=>by rw[ee z]at hn;cases hn
  rw[eh hk]at hn
  have ih:=oG k j y r hn
  by_cases e:p.1=j
  ·rw[ee e,ee e,qZ (fun z=>hk (e.trans z))]
  ·rw[eh e,eh e,ih]
theorem fq (kvs:List (κ×V)) (k j:κ) (y:V):aK (bT kvs k y) j=if j=k then some y else aK kvs j:=by
 unfold bT
 by_cases a:(kvs.any fun kv=>decide (kv.1=k))=true
 ·rw[Q0 a,oH]
  rw[jb]at a
  by_cases e:j=k
  ·obtain⟨x,hx⟩:=Option.isSome_iff_exists.mp a
   rw[Q0 e,e,hx,Option.map_some,Q0 rfl]
  ·rw[qZ e]
   cases aK kvs j with
   |none=>rfl
   |some x=>rw[Option.map_some,qZ e]
 ·rw[qZ a]
  refine oG k j y kvs ?_
  rw[jb]at a
  cases q:aK kvs k with
  |none=>rfl
  |some x=>rw[q]at a;exact(a rfl).elim
theorem eZ (kvs:List (κ×V)) (k:κ) (v:V):(bT kvs k v).length<=kvs.length+1:=by
 unfold bT
 split
 ·rw[qa];omega
 ·rw[qc,qA,List.length_nil];omega
theorem cB.isSome_eq {o:Option V}{u:Option Value}(r:cB o u):o.isSome=u.isSome:=by
 cases o with
 |none=>cases u with
  |none=>rfl
  |some _=>exact(show False from r).elim
 |some _=>cases u with
  |none=>exact(show False from r).elim
  |some _=>rfl
theorem cB.getD {o:Option V}{u:Option Value}{d:V}{d':Value}(r:cB o u) (rd:ax d d'):ax (o.getD d) (u.getD d'):=by
 cases o with
 |none=>cases u with
  |none=>exact rd
  |some _=>exact(show False from r).elim
 |some _=>cases u with
  |none=>exact(show False from r).elim
  |some _=>exact r
theorem KV.val {kvs:List (κ×V)}{vs:List (κ×Value)}(r:KV kvs vs) (k:κ):cB (aK kvs k) (valueAt vs k):=by
 unfold KV at r
 induction r with
 |nil=>exact True.intro
 |@cons p q ps qs h t ih=>
  obtain⟨h1,h2⟩:=h
  by_cases e:p.1=k
  ·have e':q.1=k:=h1.symm.trans e
   have b:valueAt (q::qs) k=some q.2:=by simp[valueAt,List.find?_cons,e']
   rw[ee e,b];exact h2
  ·have e':¬ q.1=k:=fun z=>e (h1.trans z)
   have b:valueAt (q::qs) k=valueAt qs k:=by simp[valueAt,List.find?_cons,e']
   rw[eh e,b];exact ih
theorem KV.any {kvs:List (κ×V)}{vs:List (κ×Value)}(r:KV kvs vs) (k:κ):(kvs.any fun kv=>decide (kv.1=k))=vs.any fun kv=>decide (kv.1=k):=by
 unfold KV at r
 induction r with
 |nil=>rfl
 |cons h t ih=>rw[List.any_cons,List.any_cons,ih,h.1]
theorem KV.repl {kvs:List (κ×V)}{vs:List (κ×Value)}(r:KV kvs vs) (k:κ) {y:V}{u:Value}(ry:ax y u):
 KV (kvs.map fun kv=>if kv.1=k then(kv.1,y)else kv) (vs.map fun kv=>if kv.1=k then(kv.1,u)else kv):=by
 unfold KV at r ⊢
 induction r with
 |nil=>exact .nil
 |@cons p q ps qs h t ih=>
  rw[qR,qR]
  refine .cons ?_ ih
  obtain⟨h1,h2⟩:=h
  by_cases e:p.1=k
  ·rw[Q0 e,Q0 (h1.symm.trans e)];exact⟨h1,ry⟩
  ·rw[qZ e,qZ (fun z=>e (h1.trans z))];exact⟨h1,h2⟩
theorem KV.put {kvs:List (κ×V)}{vs:List (κ×Value)}(r:KV kvs vs) (k:κ) {y:V}{u:Value}(ry:ax y u):KV (bT kvs k y) (stored vs k u):=by
 unfold bT stored
 rw[r.any k]
 by_cases e:(vs.any fun kv=>decide (kv.1=k))=true
 ·rw[Q0 e,Q0 e];exact r.repl k ry
 ·rw[qZ e,qZ e];exact Paired.snoc r ⟨rfl,ry⟩
theorem KV.length {kvs:List (κ×V)}{vs:List (κ×Value)}(r:KV kvs vs):kvs.length=vs.length:=Paired.length r
end
theorem g9 {P:Program}{w:World}{k:Key}{u:Value}(r:ax (kV k) u):(cV P w).is k u=true:=by
 cases k with
 |inl i=>obtain⟨t,e⟩:=(show ∃t,u=Value.int i t from r);subst e;exact AJ P w i t
 |inr x=>obtain⟨t,e⟩:=(show ∃t,u=Value.str x t from r);subst e;exact AI P w x t
theorem ug {P:Program}{w:World}:∀{ks:List Key}{us:List Value},av (ks.map kV) us->ItemsAre (cV P w) ks us
 |[],_,r=>by rw[List.map_nil]at r;cases r;exact .nil
 |k::ks,_,r=>by
  rw[qR]at r
  cases r with
  |cons h t=>exact .cons (g9 h) (ug t)
abbrev KT (H:Hp):List (List Key×V)->List (List Key×Addr×Value)->Prop:=Paired fun p q=>p.1=q.1/\H q.2.1=some (.tup (p.1.map kV))/\ax p.2 q.2.2
theorem KT.val {H:Hp}{kvs:List (List Key×V)}{xs:List (List Key×Addr×Value)}(r:KT H kvs xs) (k:List Key):cB (aK kvs k) ((atKey xs k).map (·.2)):=by
 induction r with
 |nil=>exact True.intro
 |@cons p q ps qs h t ih=>
  obtain⟨h1,_,h2⟩:=h
  by_cases e:p.1=k
  ·have e':q.1=k:=h1.symm.trans e
   have b:atKey (q::qs) k=some q.2:=by simp[atKey,List.find?_cons,e']
   rw[ee e,b];exact h2
  ·have e':¬ q.1=k:=fun z=>e (h1.trans z)
   have b:atKey (q::qs) k=atKey qs k:=by simp[atKey,List.find?_cons,e']
   rw[eh e,b];exact ih
theorem KT.repl {H:Hp}{kvs:List (List Key×V)}{xs:List (List Key×Addr×Value)}(r:KT H kvs xs) (k:List Key) {y:V}{u:Value}(ry:ax y u):
 KT H (kvs.map fun kv=>if kv.1=k then(kv.1,y)else kv) (xs.map (putAt k u)):=by
 induction r with
 |nil=>exact .nil
 |@cons p q ps qs h t ih=>
  rw[qR,qR]
  refine .cons ?_ ih
  obtain⟨h1,h2,h3⟩:=h
  unfold putAt
  by_cases e:p.1=k
  ·rw[Q0 e,Q0 (h1.symm.trans e)];exact⟨h1,h2,ry⟩
  ·rw[qZ e,qZ (fun z=>e (h1.trans z))];exact⟨h1,h2,h3⟩
theorem KT.put {H:Hp}{kvs:List (List Key×V)}{xs:List (List Key×Addr×Value)}(r:KT H kvs xs) (k:List Key) {b:Addr}{y:V}{u:Value}(hb:H b=some (.tup (k.map kV))) (ry:ax y u):
 KT H (bT kvs k y) (storedH xs k b u):=by
 have e:(kvs.any fun kv=>decide (kv.1=k))=(atKey xs k).isSome:=by
  rw[jb,(r.val k).isSome_eq,Option.isSome_map]
 unfold bT storedH
 rw[e]
 by_cases q:(atKey xs k).isSome=true
 ·rw[Q0 q,Q0 q];exact r.repl k ry
 ·rw[qZ q,qZ q];exact Paired.snoc r ⟨rfl,hb,ry⟩
theorem KT.keeps {H H':Hp}{kvs:List (List Key×V)}{xs:List (List Key×Addr×Value)}(r:KT H kvs xs) (ht:∀b ys,H b=some (.tup ys)->H' b=some (.tup ys)):KT H' kvs xs:=
 Paired.mapP r fun _ _ z=>⟨z.1,ht _ _ z.2.1,z.2.2⟩
section
variable {P:Program}{w:World}{H:Hp}{h:Heap}{a:Addr}
theorem sB {u:HO}(ok:HOk P w H h) (e:Rd H a u):bB P w H h a u:=e.ok ok
theorem j2 {kvs:List (Key×V)}(ok:HOk P w H h) (e:Rd H a (.dK kvs)):kvs.length<=sizeLine/\(a == sysModules)=false/\∃vs,KV kvs vs/\h.DictOf (cV P w) a vs:=
 show bB P w H h a (.dK kvs)from sB ok e
theorem ka {kvs:List (Key×V)}(ok:HOk P w H h) (e:H a=some (.dK kvs)):kvs.length<=sizeLine/\(a == sysModules)=false/\∃vs,KV kvs vs/\h.DictOf (cV P w) a vs:=j2 ok (.inl e)
theorem jV {ks:List Key}(ok:HOk P w H h) (e:H a=some (.tup (ks.map kV))):(tupleKind (cV P w)).is h ks a:=by
 obtain⟨_,its,r,o,h1,h2,n,h3⟩:=(show bB P w H h a (.tup (ks.map kV))from ok a _ e)
 exact⟨o,its.toArray,n,h1,h2,h3,by simpa using ug r⟩
theorem j1 {kvs:List (List Key×V)}(ok:HOk P w H h) (e:Rd H a (.dT kvs)):kvs.length<=sizeLine/\(a == sysModules)=false /\
 ∃xs,KT H kvs xs/\h.DictOfH (tupleKind (cV P w)) a xs:=by
 obtain⟨z,y,xs,r,o,es,ep,h1,h2,h3,h4,h5⟩:=(show bB P w H h a (.dT kvs)from sB ok e)
 refine⟨z,y,xs,r,o,es,ep,h1,h2,h3,h4,fun x hx=>?_,h5⟩
 have all:∀{l:List (List Key×V)}{m:List (List Key×Addr×Value)},KT H l m->∀x∈m,(tupleKind (cV P w)).is h x.1 x.2.1:=by
  intro l m q
  induction q with
  |nil=>intro x hx;exact nomatch hx
  |@cons p q ps qs hq t ih=>
   intro x hx
   rcases qu.mp hx with e|hx
   ·subst e
    exact jV ok (by rw[<- hq.1];exact hq.2.1)
   ·exact ih x hx
 exact all r x hx
theorem BJ {kvs:List (List Key×V)}(ok:HOk P w H h) (e:H a=some (.dT kvs)):kvs.length<=sizeLine/\(a == sysModules)=false /\
 ∃xs,KT H kvs xs/\h.DictOfH (tupleKind (cV P w)) a xs:=j1 ok (.inl e)
end
def df (H:Hp) (a:Addr) (y:V) (r:Option V):Prop:=
 (∃kvs k,Rd H a (.dK kvs)/\y=kV k/\r=aK kvs k)\/∃kvs k b,Rd H a (.dT kvs)/\y=.ref b/\H b=some (.tup (k.map kV))/\r=aK kvs k
def gj (H:Hp) (a:Addr) (y v:V) (H':Hp):Prop:=
 (∃kvs k,H a=some (.dK kvs)/\y=kV k/\kvs.length<sizeLine/\H'=upd H a (.dK (bT kvs k v))) \/
 ∃kvs k b,H a=some (.dT kvs)/\y=.ref b/\H b=some (.tup (k.map kV))/\kvs.length<sizeLine/\H'=upd H a (.dT (bT kvs k v))
theorem df.k {H:Hp}{a:Addr}{kvs:List (Key×V)}{k:Key}(e:H a=some (.dK kvs)):df H a (kV k) (aK kvs k):=.inl ⟨kvs,k,.inl e,rfl,rfl⟩
theorem gj.k {H:Hp}{a:Addr}{kvs:List (Key×V)}{k:Key}{v:V}(e:H a=some (.dK kvs)) (hl:kvs.length<sizeLine):gj H a (kV k) v (upd H a (.dK (bT kvs k v))):=.inl ⟨kvs,k,e,rfl,hl,rfl⟩
section
variable {X:Cx}{pins:List (Addr×Obj)}{σ:St}{H:Hp}{s:Shared}{a:Addr}{y v:V}{u r:Value}{o:Option V}{A:Around}{E:Qq}
theorem Inv.big (I:Inv X pins σ H s):sysModules<s.heap.objs.size:=by
 have h:mainGlobals<s.heap.objs.size:=(I.mod.glob.keeps I.bk).lt
 exact Nat.lt_trans Qk h
theorem BW {Q:Qq}(hu:A.units+1<cLine) (I:Inv X pins σ H s) (g:df H a y (some v)) (ry:ax y u) (h:∀w' s',Inv X pins σ H s'->ax v w'->Q w' s'):
 wpAny (model X.prog X.w) A (getItem (.ref a) u) Q E s:=by
 rcases g with⟨kvs,k,e,ey,l⟩|⟨kvs,k,b,e,ey,eb,l⟩
 ·subst ey
  obtain⟨z,hd,vs,rel,dd⟩:=j2 I.hok e
  obtain⟨w',hw,rw'⟩:=cB.some_of (v:=v) (o:=valueAt vs k) (by rw[l];exact rel.val k)
  exact wpAny_getItem_of (g9 ry) dd.mapOf hw (h w' _ (I.tok _) rw')
 ·subst ey
  cases(show u=Value.ref b from ry)
  obtain⟨z,hd,xs,rel,dd⟩:=j1 I.hok e
  obtain⟨w',hw,rw'⟩:=cB.some_of (v:=v) (o:=(atKey xs k).map (·.2)) (by rw[l];exact rel.val k)
  obtain⟨p,hp,hp2⟩:=qP.mp hw
  refine wpAny_getItem_heap (tupleKind_room_in1 hu) (jV I.hok eb) dd hp ?_
  rw[hp2]
  exact h w' _ (I.tok _) rw'
theorem kf {h':Heap}{t':Nat}{ob:HO}(I:Inv X pins σ H s) (mu:Mut (H a)) (hs:Heap.SameBut a s.heap h') (he:∃q,h'.get? a=some q) (new:bB X.prog X.w (upd H a ob) h' a ob):
 Inv X pins σ (upd H a ob) { s with heap:=h',toks:=t' }:=
 I.write (x:=a) (e:=a) mu (.inl rfl) (fun b q hb z=>(hs.2 b hb).trans z) he new
theorem nN {P:Program}{w:World}{H':Hp}{h':Heap}{kvs:List (Key×V)}{vs:List (Key×Value)}(z:kvs.length<=sizeLine) (hd:(a == sysModules)=false) (rel:KV kvs vs) (dd:h'.DictOf (cV P w) a vs):
 bB P w H' h' a (.dK kvs):=⟨z,hd,vs,rel,dd⟩
theorem BV {H':Hp}{Q:Unit->Shared->Prop}(hu:A.units+1<cLine) (I:Inv X pins σ H s) (g:gj H a y v H') (ry:ax y u) (rv:ax v r) (h:∀s',Inv X pins σ H' s'->Q () s'):
 wpAny (model X.prog X.w) A (setItem (.ref a) u r) Q E s:=by
 rcases g with⟨kvs,k,e,ey,l,eH⟩|⟨kvs,k,b,e,ey,eb,l,eH⟩
 ·subst ey eH
  obtain⟨z,hd,vs,rel,dd⟩:=ka I.hok e
  have hz:vs.length<=sizeLine:=by rw[<- rel.length];exact z
  have hl:(bT kvs k v).length<=sizeLine:=by have:=eZ kvs k v;omega
  refine wpAny_setItem_pairs (hsz:=hz) (g9 ry) dd fun h' dd' hs=>h _ ?_
  have he:∃q,h'.get? a=some q:=let ⟨q,_,_,hq,_⟩:=dd';⟨q,hq⟩
  exact kf I (by rw[e];exact True.intro) hs he (nN hl hd (rel.put k rv) dd')
 ·subst ey eH
  cases(show u=Value.ref b from ry)
  obtain⟨z,hd,xs,rel,dd⟩:=BJ I.hok e
  have hz:xs.length<=sizeLine:=by rw[<- Paired.length rel];exact z
  have hl:(bT kvs k v).length<=sizeLine:=by have:=eZ kvs k v;omega
  refine wpAny_setItem_heap (hsz:=hz) (tupleKind_room_in1 hu) (jV I.hok eb) dd fun h' dd' hs=>h _ ?_
  obtain⟨q,es,ep,hq,h2,h3,h4,_,h5⟩:=dd'
  refine kf I (by rw[e];exact True.intro) hs ⟨q,hq⟩ ⟨hl,hd,_,(rel.put k eb rv).keeps fun c ys ec=>?_,q,es,ep,hq,h2,h3,h4,h5⟩
  rw[af (tR ec e (fun z=>nomatch z))]
  exact ec
end
section
variable {X:Cx}{pins:List (Addr×Obj)}{σ:St}{H:Hp}{s:Shared}{a:Addr}{kvs:List (Key×V)}{k:Key}{u:Value}{A:Around}{E:Qq}
end
def vE (i:Expr):Prop:=∀ov iv,subscripted i false ov iv=operate [ov,iv] (getItem ov iv)
theorem wN {prog:Program}{w:World}{A:Around}{E:Qq}{s:Shared}{env:Env}{value slice:Expr}{pos:Pos}{T id:String}{Q:Qq}
 (hl:typeLookup (.type T) "__getitem__"=pure (some (.builtin id))) (hs:vE slice)
 (h:wpAny (model prog w) A (eval value env) (fun o s₁=>wpAny (model prog w) A (eval slice env) (fun i s₂=>s₂.TypeIs o T/\wpAny (model prog w) A (getItem o i) Q E s₂) E s₁) E s):
 wpAny (model prog w) A (eval (.Subscript value slice pos) env) Q E s:=by
 refine Subscript_ (wpAny_mono h (fun o s₁ h₁=>wpAny_mono h₁ (fun i s₂ h₂=>?_) fun _ _ x=>x) fun _ _ x=>x)
 obtain⟨hT,h₂⟩:=h₂
 unfold subscriptTail
 refine q9 ?_
 rw[getitemInPython_of_ne hT.not_modules]
 refine q9 (wpAny_specialOf hT hl ?_)
 have fin:wpAny (model prog w) A (subscripted slice false o i) (fun r s₃=>wpAny (model prog w) A (letTemporaryGo value o r >>= fun _=>pure r) Q E s₃) E s₂:=by
  rw[hs o i]
  exact wpAny_operating (wpAny_mono h₂ (fun r s₃ h₃=>q9 (wpAny_letTemporaryGo (qe h₃))) fun _ _ x=>x)
 first
  |exact qe (q9 fin)
  |exact q9 (qe (q9 fin))
  |exact q9 fin
theorem BL {X:Cx}{pins:List (Addr×Obj)}{σ:St}{H:Hp}{s:Shared}{a:Addr}{y:V}{o:Option V}(I:Inv X pins σ H s) (g:df H a y o):s.TypeIs (.ref a) "dict":=by
 rcases g with⟨kvs,k,e,_,_⟩|⟨kvs,k,b,e,_,_,_⟩
 ·obtain⟨_,_,vs,_,dd⟩:=j2 I.hok e
  exact dd.typeIs
 ·obtain⟨_,_,xs,_,dd⟩:=j1 I.hok e
  exact dd.typeIs
def wF (td ty:TE):TE:=fun σ H Q=>td σ H fun x H1=>ty σ H1 fun y H2=>∃a v,x=.ref a/\df H2 a y (some v)/\Q v H2
def yb (td ty tv:TE):TS:=fun D σ H=>tv σ H fun v H1=>td σ H1 fun x H2=>ty σ H2 fun y H3=>∃a H4,x=.ref a/\gj H3 a y v H4/\D.nx σ H4
section
variable {X:Cx}{o i e value:Expr}{pos pos' tpos:Pos}{td ty tv:TE}
theorem jK (hu:X.A.units+1<cLine) (ho:PE X o td) (hi:PE X i ty) (hs:vE i):PE X (.Subscript o i pos) (wF td ty):=by
 intro pins s σ H Q I h
 refine wN PySem.F.slot_dict_getitem.lookup hs (thn (ho pins s σ H _ I h) fun u s1 ⟨x,H1,I1,rx,q1⟩=>thn (hi pins s1 σ H1 _ I1 q1) fun iv s2 ⟨y,H2,I2,ry,a,v,ex,g,q2⟩=>?_)
 subst ex
 obtain rfl:u=Value.ref a:=rx
 exact⟨BL I2 g,BW hu I2 g ry fun w' s3 I3 rw'=>⟨v,H2,I3,rw',q2⟩⟩
theorem jD (hu:X.A.units+1<cLine) (ho:PE X o td) (hi:PE X i ty) (hv:PE X value tv) (hs:swapsWith value (some (.Subscript o i pos')) pos.line X.env=pure false):
 PS X (.Assign [.Subscript o i pos'] value pos) (yb td ty tv):=by
 intro pins s σ H D I h
 refine wpAny_Assign_Subscript (thn (hv pins s σ H _ I h) fun r s1 ⟨v,H1,I1,rv,q1⟩=>thn (ho pins s1 σ H1 _ I1 q1) fun u s2 ⟨x,H2,I2,rx,q2⟩=>thn (hi pins s2 σ H2 _ I2 q2) fun iv s3 ⟨y,H3,I3,ry,a,H4,ex,g,q3⟩=>?_) hs
 subst ex
 obtain rfl:u=Value.ref a:=rx
 exact BV hu I3 g ry rv fun s4 I4=>⟨σ,H4,I4,q3⟩
end
theorem uF {P:Program}{w:World}{H:Hp}(h:Heap) (hb:sysModules<h.objs.size):bB P w H (h.push { cls:=.type "dict",data:=.dict #[] }) h.objs.size (.dK []):=
 ⟨qt _,beq_eq_false_iff_ne.mpr (Ne.symm (qG hb)),[],.nil,Heap.DictOf.new h⟩
def wC:TE:=fun _ H Q=>∀p,H p=none->Q (.ref p) (upd H p (.dK []))
section
variable {X:Cx}{pos:Pos}
theorem jJ:PE X (.Dict [] [] pos) wC:=fun pins s σ H Q I h=>
 wpAny_Dict_empty ⟨.ref s.heap.objs.size,_,I.laid (a:=s.heap.objs.size) (o:=.dK []) (t':=s.toks) (fun _ _ q=>qb _ q) (qf _) (uF s.heap I.big),rfl,h _ (I.hok.fresh (qf _))⟩
end
structure M2 (X:Cx) (o:Expr) (m:Str) (apos:Pos) (e f:Expr) (cpos:Pos):Prop where
 base:attributeBase o m X.env (eval o X.env)=eval o X.env
 few:((backTo cpos (starEach [e,f] X.env)).all (fun x=>!x.1) && (backToKw cpos (keywordEach [] X.env)).all (fun x=>x.1.isSome)
  && decide (([e,f]:List Expr).length+([]:List Keyword).length+(if([]:List Keyword).isEmpty then 0 else 1)<30))=true
 line:(apos.endLine == cpos.line)=true
 trees:backTo cpos (starEach [e,f] X.env)=[(false,eval e X.env),(false,eval f X.env)]
def IsD (H:Hp) (a:Addr):Prop:=(∃kvs,Rd H a (.dK kvs))\/∃kvs,Rd H a (.dT kvs)
theorem uh {X:Cx}{pins:List (Addr×Obj)}{σ:St}{H:Hp}{s:Shared}{a:Addr}(I:Inv X pins σ H s) (d:IsD H a):
 s.TypeIs (.ref a) "dict"/\(∀b,Value.ref a=.ref b->∃ob,s.heap.get? b=some ob/\ob.dict=none)/\(a == sysModules)=false:=by
 rcases d with⟨kvs,e⟩|⟨kvs,e⟩
 ·obtain⟨_,hd,vs,_,dd⟩:=j2 I.hok e
  refine⟨dd.typeIs,fun b q=>?_,hd⟩
  cases q
  obtain⟨ob,_,_,h1,h2,_⟩:=dd
  exact⟨ob,h1,h2.2.1⟩
 ·obtain⟨_,hd,xs,_,dd⟩:=j1 I.hok e
  refine⟨dd.typeIs,fun b q=>?_,hd⟩
  cases q
  obtain⟨ob,_,_,h1,h2,_⟩:=dd
  exact⟨ob,h1,h2.2.1⟩
section
variable {X:Cx}{pins:List (Addr×Obj)}{σ:St}{H:Hp}{s:Shared}{a:Addr}{y d:V}{u r:Value}{o:Option V}{A:Around}{E:Qq}
theorem BX {Q:Qq}(hu:A.units+1<cLine) (I:Inv X pins σ H s) (g:df H a y o) (ry:ax y u) (rd:ax d r) (h:∀w' s',Inv X pins σ H s'->ax (o.getD d) w'->Q w' s'):
 wpAny (model X.prog X.w) A (call (.builtin "dict.get") [.ref a,u,r]) Q E s:=by
 rcases g with⟨kvs,k,e,ey,l⟩|⟨kvs,k,b,e,ey,eb,l⟩
 ·subst ey
  obtain⟨z,hd,vs,rel,dd⟩:=j2 I.hok e
  refine call_meetsIn PySem.F.slot_dict_get dd.typeIs PySem.F.entry_dict_get (PySem.F.args_dict_get_3 _ _ _) (meets_dict_get_default (cV X.prog X.w) a (g9 ry) hd r) ⟨_,dd.mapOf,h _ _ (I.tok _) ?_⟩
  rw[l]
  exact(rel.val k).getD rd
 ·subst ey
  cases(show u=Value.ref b from ry)
  obtain⟨z,hd,xs,rel,dd⟩:=j1 I.hok e
  refine call_meetsIn PySem.F.slot_dict_get dd.typeIs PySem.F.entry_dict_get (PySem.F.args_dict_get_3 _ _ _) (meetsH_dict_get_default (tupleKind (cV X.prog X.w)) a b hd r) ⟨tupleKind_room_in1 hu,k,xs,jV I.hok eb,dd,h _ _ (I.tok _) ?_⟩
  rw[l]
  exact(rel.val k).getD rd
end
def wD (td ty tx:TE):TE:=fun σ H Q=>td σ H fun x H1=>∃a,x=.ref a/\IsD H1 a/\ty σ H1 fun y H2=>tx σ H2 fun z H3=>∃o,df H3 a y o/\Q (o.getD z) H3
section
variable {X:Cx}{o e f:Expr}{apos cpos:Pos}{td ty tx:TE}
theorem gA (hu:X.A.units+1<cLine) (ho:PE X o td) (he:PE X e ty) (hf:PE X f tx) (m:M2 X o "get" apos e f cpos):PE X (.Call (.Attribute o "get" apos) [e,f] [] cpos) (wD td ty tx):=by
 intro pins s σ H Q I h
 refine wpAny_Call_method m.base m.few m.line PySem.F.plainAttrs_dict PySem.F.slot_dict_get PySem.F.type_dict_get (thn (ho pins s σ H _ I h) fun u s1 ⟨x,H1,I1,rx,a,ex,d,q1⟩=>?_)
 subst ex
 obtain rfl:u=Value.ref a:=rx
 obtain⟨t1,t2,_⟩:=uh I1 d
 refine⟨t1,t2,?_⟩
 rw[m.trees]
 refine Calls.callWith_builtin rfl (Calls.evalArgs_plain (Calls.spliced_cons (thn (he pins s1 σ H1 _ I1 q1) fun iv s2 ⟨y,H2,I2,ry,q2⟩=>
  Calls.spliced_cons (thn (hf pins s2 σ H2 _ I2 q2) fun fv s3 ⟨z,H3,I3,rz,ov,g,q3⟩=>Calls.spliced_nil ?_))))
 exact BX hu I3 g ry rz fun w' s4 I4 rw'=>⟨_,H3,I4,rw',q3⟩
end
section
variable {X:Cx}{pins:List (Addr×Obj)}{σ:St}{H:Hp}{s:Shared}{a:Addr}{kvs:List (Key×V)}{A:Around}{E:Qq}
end
section
variable {X:Cx}{pins:List (Addr×Obj)}{σ:St}{H:Hp}{s:Shared}{a:Addr}{y:V}{u:Value}{A:Around}{E:Qq}
end
end L2
namespace Att
open PySem PySem.W PySem.Calls PyProof.Rows
theorem Bh {P:Params}{h:Heap}:∀(ns:List Int) (vs:List Value),WellAll P h vs (ns.map WData.int)->IntsAre vs ns:=by
 intro ns
 induction ns with
 |nil=>
  intro vs w
  rw[List.map_nil]at w
  cases w
  exact .nil
 |cons n ns ih=>
  intro vs w
  rw[qR]at w
  cases w with
  |cons a b=>
   cases a
   exact .cons _ _ (ih _ b)
theorem xV {l:OpenLaw}{n:Nat}(hn:l.most=some n) {P:Params}{h:Heap}{args:List WData}{vals:List Value}
 (hpre:l.row.toRowW.claim.pre args=true) (hwl:WellAll P h vals args):
 ∃a vs ns,vals=[Value.ref a]/\args=[WData.list (ns.map WData.int)]/\h.get? a=some { cls:=.type "list",data:=.seq vs.toArray }/\IntsAre vs ns/\ns.length<=n:=by
 have hsh:WShape.hasAll [] args [.list .int]=true:=(pre_splitW hpre).1
 have hc:l.pre.holds [] { args:=args }=true:=(pre_splitW hpre).2
 obtain⟨d,r,rfl,h1,h2⟩:=hasAllW_cons hsh
 obtain rfl:=hasAllW_nil h2
 obtain⟨xs,rfl,h3⟩:=hasW_list h1
 obtain⟨ns,rfl⟩:=items_int h3
 have hlen:ns.length<=n:=by
  unfold OpenLaw.pre at hc
  have h4:(WTm.not (.lt (.lit (.int (n:Int))) (.len (.arg 0)))).holds [] { args:=[.list (ns.map .int)] }=true:=by
   have h4:=(holds_andW hc).1
   rw[hn]at h4
   exact h4
  have h5:=condW_of h4 (w_not (w_lt w_lit (w_len_list (w_arg rfl))))
  rw[qa]at h5
  refine Nat.le_of_not_lt fun q=>?_
  have q':(n:Int)<((ns.length:Nat):Int):=Qo
  first
   |(rw[decide_eq_true q']at h5;exact absurd h5 Qk)
   |(simp at h5;omega)
 cases hwl with
 |cons w1 w2=>
  cases w2
  cases w1 with
  |list ho hall=>exact⟨_,_,ns,rfl,rfl,ho,Bh ns _ hall,hlen⟩
theorem zb (l:OpenLaw) (args:List WData):l.row.toRowW.claim.post args (.bool true) args=true:=
 postW_of (r:=l.row.toRowW) (X:=(true == true))
  (show WShape.has [] (.bool true) .bool=true by first|rfl|decide|simp[WShape.has,WShape.arms,WShape.armsAll])
  (show(WTm.eq .res (.lit (.bool true))).value [] { args:=args,res:=some (.bool true),after:=args }=some (.bool (true == true))from w_eq_bool (w_res rfl) w_lit) rfl
section
variable {prog:Program}{w:World}{A:Around}{E:Qq}{s:Shared}{K:Frag}
end
end Att
namespace L2
open PySem PySem.Spec PyProof.Rows
theorem oF:∀{vs:List Value}{ns:List Int},IntsAre vs ns->av (ns.map V.int) vs
 |_,_,.nil=>.nil
 |_,_,.cons n t h=>.cons ⟨t,rfl⟩ (oF h)
def kn (H:Hp):Prop:=∀b,H b=none\/∃o xs,H b=some (.frz o (.lst xs))
theorem AY {P:Program}{w:World}{K:PySem.W.Frag}{mg mb:Str->Option Value}{CX:CXT}{k:Nat}{fa a:Addr}{fd:FuncData}{x:Str}{sp:Sp}{s₁:Shared}{vs:List Value}{ns:List Int}
 (KX:K.In s₁.heap) (hns:s₁.heap.Ns mainGlobals mg) (hb:s₁.heap.Ns builtinsNs mb) (hbb:∀x:Str,x≠"__name__"->mb x=bootBuiltins x) (hlim:s₁.heap.NoLimit) (hg:s₁.gens=#[])
 (ha:s₁.heap.get? a=some { cls:=.type "list",data:=.seq vs.toArray }) (hi:IntsAre vs ns) (hl:ns.length<=sizeLine) (hr:cN k callerA)
 (F:∀base:Heap,K.In base->base.Ns mainGlobals mg->aR P w K mg base CX k fa fd [x] sp) (hbind:∀(s:Shared) (u:Value),BindsTo s fd ⟨[u],[]⟩ [(x,u)])
 (hsp:∀H:Hp,kn H->SqL K H a (ns.map V.int)->sp [.ref a] H (fun v _=>v=.bl true) fun _ _ _=>False)
 (hCX:∀H e s',CX [] H s₁ (fun _ _ _=>False) e s'->False):
 codeAny (model P w) callerA (.call (.ref fa) ⟨[.ref a],[]⟩) (fun r s'=>r=.ok (.ret (.bool true))/\OldK s₁.heap s'.heap/\s'.os=s₁.os/\AllBare s'.gens) s₁:=by
 have rv:=oF hi
 have lenV:=hi.length
 have core:∀H:Hp,kn H->SqL K H a (ns.map V.int)->HOk P w H s₁.heap->(∀b,H b≠none->b=a)->(H a≠none->K.lookup a=none)->
  codeAny (model P w) callerA (.call (.ref fa) ⟨[.ref a],[]⟩) (fun r s'=>r=.ok (.ret (.bool true))/\OldK s₁.heap s'.heap/\s'.os=s₁.os/\AllBare s'.gens) s₁:=by
  intro H hO hS hok hA hK
  have base_of:∀{b:Addr}{o:Obj},s₁.heap.get? b=some o->H b=none->(fg s₁.heap H).get? b=some o:=fun e n=>Bp e n
  have noA:∀{b:Addr}{o:Obj}{es:Array DictEntry}{ep:Nat},s₁.heap.get? b=some o->o.data=.dict es ep->H b=none:=fun{b o es ep} e d=>by
   cases q:H b with
   |none=>rfl
   |some u=>
    have e':b=a:=hA b (by rw[q];simp)
    subst e'
    rw[ha]at e;cases e
    have d':Data.seq vs.toArray _=Data.dict es ep:=d
    cases d'
  have nsK:∀{b:Addr}{m:Str->Option Value},s₁.heap.Ns b m->(fg s₁.heap H).Ns b m:=fun{b m} ⟨o,es,ep,e,d,r⟩=>⟨o,es,ep,base_of e (noA e d),d,r⟩
  have hKb:K.In (fg s₁.heap H):=fun b o e=>base_of (KX b o e) (by
   cases q:H b with
   |none=>rfl
   |some u=>
    have e':b=a:=hA b (by rw[q];simp)
    subst e'
    rw[hK (by rw[q];simp)]at e;cases e)
  have hM:Mod K mg (fg s₁.heap H):=⟨hKb,nsK hns,⟨mb,nsK hb,hbb⟩,let ⟨mc,h1,h2⟩:=hlim;⟨mc,nsK h1,h2⟩⟩
  have e0:ko P w K mg (fg s₁.heap H) callerA [] s₁ H:=⟨rfl,hM,fun b o e=>Ax e,Nat.le_of_eq (Bo _ _),trivial,fun b hb=>absurd (show b∈([]:List Addr)from hb) (by simp),hok,.of_eq hg⟩
  refine codeAny_mono ((F _ hKb (nsK hns)).run callerA [] s₁ H ⟨[.ref a],[]⟩ [.ref a] [.ref a] _ _ hr e0 (hbind s₁ (.ref a)) (.cons rfl .nil) (hsp H hO hS)) fun r s' h=>?_
  cases r with
  |error e=>exact(hCX H e s' h).elim
  |ok fl=>
   cases fl with
   |next=>exact False.elim h
   |brk=>exact False.elim h
   |cont=>exact False.elim h
   |ret u=>
    obtain⟨v,H',os,bare,un,hok',r',q⟩:=h
    have q':v=.bl true:=q
    subst q'
    obtain rfl:u=Value.bool true:=r'
    refine⟨rfl,OldK.of_keep fun b o e=>?_,os,bare⟩
    cases q:H b with
    |none=>exact un.keep b o e q (by intro z;exact absurd (show b∈([]:List Addr)from z) (by simp)) (by simp)
    |some u=>
     rcases hO b with z|⟨ob,xs,z⟩
     ·rw[q]at z;cases z
     ·have z2:=un.frzs b ob _ z
      obtain⟨e1,_⟩:=hok b _ z
      obtain⟨e2,_⟩:=hok' b _ z2
      rw[e]at e1;cases e1
      exact e2
 cases hk:K.lookup a with
 |some o=>
  have e:=KX a o hk
  rw[ha]at e
  cases e
  refine core (fun _=>none) (fun _=>.inl rfl) (.inr ⟨_,vs.toArray,_,hk,rfl,rfl,rfl,by rw[qC,lenV];exact hl,by simpa using rv⟩) (fun b u z=>by have z':(none:Option HO)=some u:=z;cases z') (fun b z=>absurd rfl z) fun z=>absurd rfl z
 |none=>
  refine core (fun b=>if b=a then some (.frz { cls:=.type "list",data:=.seq vs.toArray } (.lst (ns.map V.int)))else none) (fun b=>?_) (.inl (.inr ⟨{ cls:=.type "list",data:=.seq vs.toArray },Q0 rfl⟩)) (fun b u z=>?_) (fun b z=>?_) fun _=>hk
  ·by_cases hb:b=a
   ·exact .inr ⟨_,_,Q0 hb⟩
   ·exact .inl (qZ hb)
  ·by_cases hb:b=a
   ·have z':=(Q0 hb).symm.trans z
    cases z'
    subst hb
    exact⟨ha,by rw[qa];exact hl,vs,_,rv,ha⟩
   ·have z':=(qZ hb).symm.trans z
    cases z'
  ·by_cases hb:b=a
   ·exact hb
   ·exact absurd (qZ hb) z
abbrev CX0:CXT:=fun _ _ _ _ _ _=>False
abbrev E0:XK:=fun _ _ _=>False
theorem aD {X:Cx}:ox CX0 X E0:=fun _ _ _ _ _ _ _ h=>h.elim
structure Fun (K:PySem.W.Frag) (x qual:Str) (st:Stmt) (f:Addr) (fd:FuncData):Prop where
 ex:∃(oc:Value) (od:Option Addr) (kV doc pm:Value) (an:Option Addr) (cdv ct:Value) (osl:Array (Option Value)),
  fd=PySem.W.fnOf x qual (gf st) (fi st) (aI st) .none kV doc pm an cdv ct/\K.lookup f=some ⟨oc,od,.func fd,osl⟩/\PySem.W.codeIn K cdv qual=true
 kp:PySem.W.keepIn K (.ref f)=true
section
variable {P:Program}{w:World}{K:PySem.W.Frag}{mg:Str->Option Value}{base:Heap}
theorem Fun.ok {x qual:Str}{st:Stmt}{f:Addr}{fd:FuncData}{N ps:List Str}{k:Nat}{sp:Sp}(F:Fun K x qual st f fd) (S:aY N ps (aI st)) (len:∀vs H Q E,sp vs H Q E->vs.length=ps.length)
 (hbody:∀(cdv:Value) (A:Around) (outer:List Env) (s:Shared) (H:Hp) (vs:List V) (Q:VK) (E:XK),cN k (A.deeper (envOfC qual (aI st) s.heap.objs.size f cdv))->sp vs H Q E->
  ∃t,PSs (ie CX0 P w K mg base N qual (aI st) f cdv A outer s H E).nox (fi st) t/\t { nx:=fun _ H'=>Q .non H',rt:=Q } (fD N vs) H):aR P w K mg base CX0 (k+1) f fd ps sp:=by
 obtain⟨oc,od,kV,doc,pm,an,cdv,ct,osl,rfl,lk,hcd⟩:=F.ex
 refine Bw lk hcd S len fun A outer s H vs Q E hr hsp=>?_
 obtain⟨t,h,q⟩:=hbody cdv A outer s H vs Q E hr hsp
 exact⟨t,h.nox,q⟩
theorem Fun.binds {x qual:Str}{st:Stmt}{f:Addr}{fd:FuncData}{ps:List Str}(F:Fun K x qual st f fd)
 (h:∀(kV doc pm:Value) (an:Option Addr) (cdv ct:Value) (us:List Value),us.length=ps.length->bindArgs (PySem.W.fnOf x qual (gf st) (fi st) (aI st) .none kV doc pm an cdv ct) ⟨us,[]⟩=pure (ps.zip us)):aU K fd ps []:=by
 obtain⟨oc,od,kV,doc,pm,an,cdv,ct,osl,rfl,lk,hcd⟩:=F.ex
 exact .all (h kV doc pm an cdv ct)
theorem Bt {x qual:Str}{st:Stmt}{f:Addr}{oc:Value}{od an:Option Addr}{osl:Array (Option Value)}{kV doc pm cdv ct:Value}(l:K.lookup f=some ⟨oc,od,.func (PySem.W.fnOf x qual (gf st) (fi st) (aI st) .none kV doc pm an cdv ct),osl⟩)
 (c:PySem.W.codeIn K cdv qual=true) (k:PySem.W.keepIn K (.ref f)=true):Fun K x qual st f (PySem.W.fnOf x qual (gf st) (fi st) (aI st) .none kV doc pm an cdv ct):=⟨⟨oc,od,kV,doc,pm,an,cdv,ct,osl,rfl,l,c⟩,k⟩
end
section
variable {X:Cx}
end
theorem i7 {A B:Prop}(h:B):if false=true then A else B:=by
 rw[qZ qj]
 exact h
theorem nB {A B:Prop}(h:A):if true=true then A else B:=by
 rw[Q0 rfl]
 exact h
theorem cL {c A B:Prop} [Decidable c] (h1:c->A) (h2:¬ c->B):if c then A else B:=by
 by_cases h:c
 ·rw[Q0 h]
  exact h1 h
 ·rw[qZ h]
  exact h2 h
def a9 (H H':Hp):Prop:=∀b o,H b=some o->H' b=some o
theorem a9.refl (H:Hp):a9 H H:=fun _ _ h=>h
theorem a9.trans {H H1 H2:Hp}(a:a9 H H1) (b:a9 H1 H2):a9 H H2:=fun c o h=>b c o (a c o h)
theorem a9.free {H H':Hp}(e:a9 H H') {l:Addr}(h:H' l=Option.none):H l=Option.none:=by
 cases q:H l with
 |none=>rfl
 |some o=>
  rw[e l o q]at h
  cases h
theorem a9.seq {K:PySem.W.Frag}{H H':Hp}{a:Addr}{xs:List V}(e:a9 H H') (h:SqL K H a xs):SqL K H' a xs:=by
 rcases h with(h|⟨o,h⟩)|h
 ·exact .inl (.inl (e _ _ h))
 ·exact .inl (.inr ⟨o,e _ _ h⟩)
 ·exact .inr h
section
variable {X:Cx}
end
section
variable {κ:Type} [DecidableEq κ]
end
def dv (cells:List (Str×Addr)):List (Str×NameKind)->List (Str×Addr)->List (Str×Addr)
 |[],acc=>acc
 |(n,k)::r,acc=>dv cells r (if k == .free then(match cells.lookup n with|some c=>(n,c)::acc|none=>acc)else acc)
theorem Cb {scope:Scope}{env:Env}(h:∀y∈scope.names,y.2=.free->∃c,env.cells.lookup y.1=some c):closureFor scope env=pure (dv env.cells scope.names []):=by
 simp only[closureFor]
 generalize ([]:List (Str×Addr))=acc
 revert h
 generalize scope.names=l
 intro h
 induction l generalizing acc with
 |nil=>simp[dv]
 |cons x r ih=>
  obtain⟨n,k⟩:=x
  rw[List.forIn_cons]
  have hr:∀y∈r,y.2=NameKind.free->∃c,env.cells.lookup y.1=some c:=fun y hy=>h y (ql _ hy)
  by_cases hk:k=.free
  ·subst hk
   obtain⟨c,e⟩:=h (n,.free) qo rfl
   have e':List.lookup n env.cells=some c:=e
   have e2:cellOf env n=pure c:=by unfold cellOf;rw[e']
   simp only[beq_self_eq_true,if_true,e2,pure_bind,dv,e']
   exact ih _ hr
  ·have hb:(k == NameKind.free)=false:=by simpa using hk
   simp only[hb,Bool.false_eq_true,if_false,pure_bind,dv]
   exact ih _ hr
theorem ur (cells:List (Str×Addr)):∀(l:List (Str×NameKind)) (acc:List (Str×Addr)) (p:Str×Addr),p∈dv cells l acc->p∈acc\/(p.1,NameKind.free)∈l/\cells.lookup p.1=some p.2
 |[],_,_,h=>.inl h
 |(n,k)::r,acc,p,h=>by
  have h':p∈dv cells r (if k == .free then(match cells.lookup n with|some c=>(n,c)::acc|none=>acc)else acc):=h
  rcases ur cells r _ p h' with q|⟨q1,q2⟩
  ·by_cases hk:k=.free
   ·subst hk
    simp only[beq_self_eq_true,if_true]at q
    cases e:cells.lookup n with
    |none=>rw[e]at q;exact .inl q
    |some c=>
     rw[e]at q
     rcases qu.mp q with rfl|q
     ·exact .inr ⟨qo,e⟩
     ·exact .inl q
   ·have hb:(k == NameKind.free)=false:=by simpa using hk
    simp only[hb,Bool.false_eq_true,if_false]at q
    exact .inl q
  ·exact .inr ⟨ql _ q1,q2⟩
theorem tW {α β:Type} [BEq α] [LawfulBEq α] {x:α}:∀{l:List (α×β)}{c:β},(x,c)∈l->∃d,l.lookup x=some d
 |(a,b)::r,c,h=>by
  by_cases e:x=a
  ·subst e;exact⟨b,by simp⟩
  ·rcases qu.mp h with q|q
   ·cases q;exact absurd rfl e
   ·obtain⟨d,hd⟩:=tW q
    refine⟨d,?_⟩
    have e':(x == a)=false:=by simpa using e
    simp only[List.lookup_cons,e']
    exact hd
theorem uu (cells:List (Str×Addr)) (x:Str) (c:Addr) (e:cells.lookup x=some c):∀(l:List (Str×NameKind)) (acc:List (Str×Addr)),((x,NameKind.free)∈l\/(x,c)∈acc)->(x,c)∈dv cells l acc
 |[],_,h=>h.elim (fun q=>nomatch q) id
 |(n,k)::r,acc,h=>by
  refine uu cells x c e r _ ?_
  rcases h with h|h
  ·rcases qu.mp h with q|q
   ·cases q
    refine .inr ?_
    rw[e]
    exact qo
   ·exact .inl q
  ·refine .inr ?_
   by_cases hk:(k == NameKind.free)=true
   ·rw[Q0 hk]
    cases cells.lookup n with
    |none=>exact h
    |some _=>exact ql _ h
   ·rw[qZ hk];exact h
theorem gb {cells:List (Str×Addr)}{names:List (Str×NameKind)}{x:Str}{c:Addr}(h:(dv cells names []).lookup x=some c):cells.lookup x=some c:=by
 have hm:=PySem.mem_of_lookup h
 rcases ur cells names [] _ hm with q|⟨_,q⟩
 ·exact nomatch q
 ·exact q
theorem uv {cells:List (Str×Addr)}{names:List (Str×NameKind)}{x:Str}{c:Addr}(hm:(x,NameKind.free)∈names) (e:cells.lookup x=some c):(dv cells names []).lookup x=some c:=by
 obtain⟨d,hd⟩:=tW (uu cells x c e names [] (.inl hm))
 have:=gb hd
 rw[e]at this
 rw[hd,this]
theorem sA {scope:Scope}{env:Env}{x:Str}{k:NameKind}(h:(relabel scope env).names.lookup x=some k):∃k',scope.names.lookup x=some k'/\(k'=k\/(k'=.free/\k=.cell)):=by
 have go:∀(l:List (Str×NameKind)),(l.map fun(n,k)=>if(k == NameKind.free && env.scope.kind == .function && env.kindOf n == some .cell)then(n,NameKind.cell)else(n,k)).lookup x=some k->∃k',l.lookup x=some k'/\(k'=k\/(k'=.free/\k=.cell)):=by
  intro l
  induction l with
  |nil=>intro h;simp at h
  |cons p r ih=>
   obtain⟨n,kk⟩:=p
   intro h
   simp only[qR]at h
   by_cases hx:x=n
   ·subst hx
    by_cases hc:(kk == NameKind.free && env.scope.kind == .function && env.kindOf x == some .cell)=true
    ·rw[Q0 hc]at h
     simp at h
     have:kk=.free:=by
      simp only[Bool.and_eq_true,beq_iff_eq]at hc
      exact hc.1.1
     exact⟨kk,by simp,.inr ⟨this,h.symm⟩⟩
    ·rw[qZ hc]at h
     simp at h
     exact⟨kk,by simp,.inl h⟩
   ·have e':(x == n)=false:=by simpa using hx
    have:∀b:Bool,(if b=true then(n,NameKind.cell)else(n,kk)).1=n:=fun b=>by cases b<;>rfl
    rw[List.lookup_cons,this,e']at h
    obtain⟨k',h1,h2⟩:=ih h
    exact⟨k',by rw[List.lookup_cons,e'];exact h1,h2⟩
 exact go scope.names h
theorem yr {scope:Scope}{env:Env}{x:Str}(h:scope.names.lookup x=some .free):(relabel scope env).names.lookup x=some .cell\/(relabel scope env).names.lookup x=some .free:=by
 have go:∀(l:List (Str×NameKind)),l.lookup x=some .free->(l.map fun(n,k)=>if(k == NameKind.free && env.scope.kind == .function && env.kindOf n == some .cell)then(n,NameKind.cell)else(n,k)).lookup x=some .cell\/(l.map fun(n,k)=>if(k == NameKind.free && env.scope.kind == .function && env.kindOf n == some .cell)then(n,NameKind.cell)else(n,k)).lookup x=some .free:=by
  intro l
  induction l with
  |nil=>intro h;simp at h
  |cons p r ih=>
   obtain⟨n,kk⟩:=p
   intro h
   simp only[qR]
   by_cases hx:x=n
   ·subst hx
    simp at h
    by_cases hc:(kk == NameKind.free && env.scope.kind == .function && env.kindOf x == some .cell)=true
    ·rw[Q0 hc];simp
    ·rw[qZ hc];simp[h]
   ·have e':(x == n)=false:=by simpa using hx
    have t:∀b:Bool,(if b=true then(n,NameKind.cell)else(n,kk)).1=n:=fun b=>by cases b<;>rfl
    rw[List.lookup_cons,e']at h
    rw[List.lookup_cons,t,e']
    exact ih h
 exact go scope.names h
section
variable {prog:Program}{w:World}{A:Around}{R:Result->Shared->Prop}{s:Shared}
theorem C8 {elt target iter:Expr}{ifs:List Expr}{scope:Scope}{pos:Pos}{it acc:Value}{env:Env}(I:Nat->Shared->Prop)
 (turn:∀n s,I n s->wpAny (model prog w) A (pyNext it) (fun r s₁=>match r with
  |none=>R (.ok .next) s₁
  |some v=>wpAny (model prog w) A (letOwnedTupleGo target it v) (fun _ s₁'=>wpAny (model prog w) A (assign target env v) (fun _ s₂=>
   wpAny (model prog w) A (forIn ifs true fun c r=>if r=true then do let ok <- isTrue c env (eval c env);pure (ForInStep.yield ok)else pure (ForInStep.yield r)) (fun ok s₃=>
    if ok=true then wpAny (model prog w) A (eval elt env) (fun x s₄=>
     wpAny (model prog w) A (call (.builtin "list.append") [acc,x]) (fun _ s₅=>∃m,m<n/\I m s₅) (fun _ _=>False) s₄) (fun _ _=>False) s₃
    else ∃m,m<n/\I m s₃) (fun _ _=>False) s₂) (fun _ _=>False) s₁') (fun _ _=>False) s₁) (fun _ _=>False) s)
 (n:Nat) (h:I n s):
 codeAny (model prog w) A (.compLoop (.ListComp elt [⟨target,iter,ifs,0⟩] scope pos) 0 it acc env) R s:=by
 refine codeAny_loop rfl I (fun n s hI=>?_) n h
 show wpAny _ A ((compTurn (.ListComp elt [⟨target,iter,ifs,0⟩] scope pos) 0 it acc env).onRaise (fun x=>do noteFrame x env;theTreesLotGoes x)) _ _ s
 refine wpAny_noted ?_
 rw[compTurn_list]
 refine q9 (wpAny_standAt (q9 (wpAny_mono (turn n s hI) (fun r s₁ h₁=>?_) fun _ _ h'=>h'.elim)))
 cases r with
 |none=>exact qe h₁
 |some v=>
  refine q9 (wpAny_mono h₁ (fun _ s₁' h₁'=>?_) fun _ _ h'=>h'.elim)
  refine q9 (wpAny_mono h₁' (fun _ s₂ h₂=>q9 (wpAny_mono h₂ (fun ok s₃ h₃=>?_) fun _ _ h'=>h'.elim)) fun _ _ h'=>h'.elim)
  cases ok with
  |false=>exact qe ⟨rfl,h₃⟩
  |true=>
   exact q9 (q9 (wpAny_mono h₃ (fun x s₄ h₄=>q9 (wpAny_mono h₄ (fun _ s₅ h₅=>qe (qe ⟨rfl,h₅⟩)) fun _ _ h'=>h'.elim)) fun _ _ h'=>h'.elim))
end
structure bZ (esc:Scope) (N:List Str) (scope:Scope) (k:Nat) (Nc:List Str) (js:List Nat):Prop where
 kind:scope.kind=.function
 cell:∀y∈scope.names,y.2≠.cell
 names:∀y∈scope.names,y.2=.local->scope.names.lookup y.1=some .local
 free:∀y∈scope.names,y.2=.free->esc.names.lookup y.1=some .cell\/esc.names.lookup y.1=some .free
 len:Nc.length=k+js.length
 out:∀p∈(Nc.drop k).zip js,N[p.2]?=some p.1/\scope.names.lookup p.1=some .free
def gK (k:Nat) (js:List Nat) (σ:St):St:=List.replicate k none++js.map fun j=>(σ[j]?).join
def Cx.comp (X:Cx) (pins:List (Addr×Obj)) (Nc:List Str) (scope:Scope) (fp:List Addr) (s:Shared) (H:Hp) (C:Addr):Cx:=
 { X with N:=Nc,s₀:=s,H₀:=H,env:=compEnvC scope (dv X.env.cells scope.names []) C X.env,outer:=X.stack,stack:=X.stack,ex:=fp,fn:=fun _=>false,pn:=X.pn++pins,xe:=fun _ _=>False }
section
variable {X:Cx}{pins:List (Addr×Obj)}{σ:St}{H:Hp}{s:Shared}{scope:Scope}{Nc:List Str}{js:List Nat}{k:Nat}
theorem bZ.some (S:bZ X.env.scope X.N scope k Nc js) (I:Inv X pins σ H s):∀y∈scope.names,y.2=.free->∃c,X.env.cells.lookup y.1=some c:=fun y hy hk=>I.ok.has y.1 (S.free y hy hk)
theorem bZ.clos (S:bZ X.env.scope X.N scope k Nc js) (I:Inv X pins σ H s):closureFor scope X.env=pure (dv X.env.cells scope.names []):=Cb (S.some I)
theorem C4 (S:bZ X.env.scope X.N scope k Nc js) (I:Inv X pins σ H s) {fp:List Addr}(hf:∀b∈fp,cY X pins H b) (hlt:∀b∈fp,b<s.heap.objs.size) {C:Addr}(hC:s.heap.objs.size<=C):(X.comp pins Nc scope fp s H C).Ok:=by
 have ltC:∀b,b<s.heap.objs.size->b≠C:=fun b hb=>qG (qD hb hC)
 have notstk:∀b∈fp,b∉frs X.stack:=fun b hb z=>by
  rcases qu.mp (I.stkSub b z)with e|e
  ·exact(hf b hb).2.1 e
  ·exact(hf b hb).2.2.1 e
 refine⟨I.ok.mod,S.kind,I.ok.glob,I.ok.blt,hC,fun x y c h1 h2=>I.ok.inj x y c (gb h1) (gb h2),fun x hx=>?_,fun x c h=>?_,I.ok.hd,I.ok.frames,.inl rfl,fun b hb=>⟨?_,fun x c e=>(hf b hb).2.2.2.2.1 x c (gb e)⟩,
  fun b o e=>⟨(I.bs b o e).1,(I.bs b o e).2⟩,qy I.ok.bsz I.sz,fun b o e hb=>?_,notstk,I.stack,I.stkFree⟩
 ·have hx':(relabel scope X.env).names.lookup x=some .cell\/(relabel scope X.env).names.lookup x=some .free:=hx
  have hfree:(x,NameKind.free)∈scope.names:=by
   rcases hx' with h|h
   ·obtain⟨k',h1,h2⟩:=sA h
    rcases h2 with rfl|⟨rfl,_⟩
    ·exact absurd rfl (S.cell _ (PySem.mem_of_lookup h1))
    ·exact PySem.mem_of_lookup h1
   ·obtain⟨k',h1,h2⟩:=sA h
    rcases h2 with rfl|⟨rfl,_⟩
    ·exact PySem.mem_of_lookup h1
    ·exact PySem.mem_of_lookup h1
  obtain⟨c,hc⟩:=S.some I (x,.free) hfree rfl
  exact⟨c,uv hfree hc⟩
 ·exact absurd (show false=true from h) qj
 ·exact ltC b (hlt b hb)
 ·rcases(hf b hb).2.2.2.1 with q|q
  ·exact I.ok.noex b o e q
  ·exact absurd (qD (qq e) (qy I.ok.bsz q)) (Nat.lt_irrefl _)
theorem C6 (S:bZ X.env.scope X.N scope k Nc js) (I:Inv X pins σ H s) {fp:List Addr}(hf:∀b∈fp,cY X pins H b) (hlt:∀b∈fp,b<s.heap.objs.size) {C:Addr}(hC:s.heap.objs.size<=C) {s1:Shared}
 (os:s1.os=s.os) (bare:AllBare s1.gens) (kept:∀b o,s.heap.get? b=some o->s1.heap.get? b=some o) (ns:∃m,s1.heap.Ns C m):Inv (X.comp pins Nc scope fp s H C) [] (gK k js σ) H s1:=by
 have ltC:∀b,b<s.heap.objs.size->b≠C:=fun b hb=>qG (qD hb hC)
 refine⟨C4 S I hf hlt hC,os,bare,Un.kept kept,?_,fun x c e=>?_,I.hok.fresh hC,fun x c e=>I.freeC x c (gb e),fun p hp=>?_,I.hok.kept kept,?_⟩
 ·obtain⟨mc,hns⟩:=ns
  refine⟨mc,hns,fun i x v e1 e2 e3=>?_⟩
  have e1':Nc[i]?=some x:=e1
  by_cases hi:i<k
  ·unfold gK at e2
   rw[List.getElem?_append_left (by simpa using hi),List.getElem?_replicate,Q0 hi]at e2
   cases e2
  ·obtain⟨i',rfl⟩:∃i',i=k+i':=⟨i-k,Qo⟩
   unfold gK at e2
   rw[qL (by simp),List.length_replicate,Nat.add_sub_cancel_left,qE]at e2
   cases ej:js[i']? with
   |none=>rw[ej]at e2;cases e2
   |some j=>
    rw[ej]at e2
    have e2':(σ[j]?).join=some v:=qJ e2
    have e4:σ[j]?=some (some v):=by
     cases q:σ[j]? with
     |none=>rw[q]at e2';cases e2'
     |some z=>rw[q]at e2';cases z with
      |none=>cases e2'
      |some z=>cases e2';rfl
    have hm:(x,j)∈(Nc.drop k).zip js:=qz (i:=i') (List.getElem?_zip_eq_some.mpr ⟨by rw[List.getElem?_drop];exact e1',ej⟩)
    obtain⟨hN,hfr⟩:=S.out _ hm
    have hfm:(x,NameKind.free)∈scope.names:=PySem.mem_of_lookup hfr
    have hk:=S.free _ hfm rfl
    obtain⟨m,hn,hl⟩:=I.loc
    obtain⟨u,r,l⟩:=hl j x v hN e4 (.inr hk)
    refine⟨u,r,?_⟩
    rcases l with⟨hk',_⟩|⟨_,c,hc,o,ho,hd⟩
    ·have hk'':X.env.scope.names.lookup x=some .local:=hk'
     rcases hk with hk|hk
     ·rw[hk]at hk'';cases hk''
     ·rw[hk]at hk'';cases hk''
    ·exact .inr ⟨yr hfr,c,uv hfm hc,o,kept _ _ ho,hd⟩
 ·obtain⟨v,o,ho,hd⟩:=I.cell x c (gb e)
  exact⟨v,o,kept _ _ ho,hd⟩
 ·have hp':p∈X.pn++pins:=by
   rcases qi.mp hp with z|z
   ·exact z
   ·exact nomatch z
  obtain⟨e,n,ne,nf,d⟩:=I.pin p hp'
  refine⟨kept _ _ e,n,ltC _ (qq e),fun z=>?_,d⟩
  rcases qu.mp (I.stkSub _ z)with q|q
  ·exact ne q
  ·exact nf q
 ·show(gK k js σ).length=Nc.length
  unfold gK
  rw[qc,List.length_replicate,qa,S.len]
theorem C7 (I:Inv X pins σ H s) {fp:List Addr}(hf:∀b∈fp,cY X pins H b) {C D:Addr}(hDs:s.heap.objs.size<=D) {pins':List (Addr×Obj)}{σ':St}{H':Hp}{s':Shared}{ys:List V}{its:List Value}{n:Nat}
 (J:Inv (X.comp pins Nc scope fp s H C) pins' σ' H' s') (hD:H' D=none) (hz:ys.length<=sizeLine) (hv:av ys its) (ho:s'.heap.get? D=some { cls:=.type "list",data:=.seq its.toArray n }):
 Inv X pins σ (upd H' D (.lst ys)) s':=by
 have B:Un (frs X.stack) fp H H' s.heap s'.heap:=J.base
 have neD:∀b o,s.heap.get? b=some o->b≠D:=fun b o e=>qG (qD (qq e) hDs)
 refine I.call' (ch:=fp) J.os ⟨B.keep,B.slot,fun b o e n hx=>?_,B.there,fun b xs e=>?_,fun b o u e=>?_,fun b ps e=>?_⟩ (fun b o e=>?_) J.bare fun b hb=>⟨(hf b hb).2.2.2.1,(hf b hb).2.1,(hf b hb).2.2.2.2.1,(hf b hb).2.2.2.2.2⟩
 ·rw[af (neD b o e)];exact B.free b o e n hx
 ·rw[af (ce (B.tups b xs e) hD)];exact B.tups b xs e
 ·rw[af (ce (B.frzs b o u e) hD)];exact B.frzs b o u e
 ·obtain⟨more,q⟩:=B.tbls b ps e
  exact⟨more,by rw[af (ce q hD)];exact q⟩
 ·by_cases hb:b=D
  ·subst hb
   rw[ag]at e
   cases e
   exact⟨hz,its,n,hv,ho⟩
  ·rw[af hb]at e
   exact(J.hok b o e).stay (fun c v _ q=>q) (fun c q=>by rw[af (ce q hD)];exact q) fun c xs q=>by rw[af (ce q hD)];exact q
end
def PTs (Y:Cx) (ifs:List Expr) (t:TT):Prop:=
 ∀(pins:List (Addr×Obj)) (s:Shared) (σ:St) (H:Hp) (Q:Bool->Hp->Prop),Inv Y pins σ H s->t σ H Q->
  wpAny (model Y.prog Y.w) Y.A (forIn ifs true fun c r=>if r=true then do let ok <- isTrue c Y.env (eval c Y.env);pure (ForInStep.yield ok)else pure (ForInStep.yield r)) (TP Y pins σ Q) Y.xe s
def iw:TT:=fun _ H Q=>Q true H
theorem mH {Y:Cx}:PTs Y [] iw:=fun _ _ _ H _ I h=>wpAny_tests_nil ⟨H,I,h⟩
theorem hV {Y:Cx}{c:Expr}{t:TT}(h:PT Y c t):PTs Y [c] t:=fun pins s σ H Q I hq=>wpAny_tests_one (h pins s σ H Q I hq)
def gT (J:It) (g:TG) (tt:TT) (te:TE) (Fin:List V->Hp->Prop) (W:Nat->Nat->List V->St->Hp->Prop):Prop:=
 ∀i m ys σ H,W i m ys σ H->(J.stop i H/\ys.length<=sizeLine/\Fin ys H)\/(J.go i H/\ys.length<sizeLine/\∃N:List V->St->Hp->Prop,(∀ys' σ' H',N ys' σ' H'->∃m',m'<m/\W (i+1) m' ys' σ' H') /\
  ∀x H',J.yld i H x H'->g x σ H' fun σ2 H2=>tt σ2 H2 fun b H3=>if b=true then te σ2 H3 fun y H4=>N (ys++[y]) σ2 H4 else N ys σ2 H3)
section
variable {X:Cx}{pins:List (Addr×Obj)}{σ:St}{H:Hp}{s:Shared}{scope:Scope}{Nc:List Str}{js:List Nat}{k:Nat}{tg iter elt:Expr}{ifs:List Expr}{pos:Pos}{g:TG}{tt:TT}{te:TE}
theorem uQ {J:It}{fp:List Addr}{it:Addr}{tn:Nat->Heap->Prop}{Fin:List V->Hp->Prop}{W:Nat->Nat->List V->St->Hp->Prop}{RR:Value->Addr->Result->Shared->Prop}{E:Qq}{m0:Nat}
 (S:bZ X.env.scope X.N scope k Nc js) (hc:X.calm=true) (I:Inv X pins σ H s) (T:gQ X.prog X.w X.K tg J fp it tn) (st:tn 0 s.heap) (hf:∀b∈fp,cY X pins H b)
 (hg:∀pins fp s H C,PG (X.comp pins Nc scope fp s H C) tg g) (ht:∀pins fp s H C,PTs (X.comp pins Nc scope fp s H C) ifs tt) (he:∀pins fp s H C,PE (X.comp pins Nc scope fp s H C) elt te)
 (w0:W 0 m0 [] (gK k js σ) H) (turn:gT J g tt te Fin W)
 (hRR:∀D C s' ys H',Inv X pins σ (upd H' D (.lst ys)) s'->cY X pins (upd H' D (.lst ys)) C->(∃m,s'.heap.Ns C m)->H' D=none->Fin ys H'->RR (.ref D) C (.ok .next) s'):
 wpAny (model X.prog X.w) X.A (newList []) (fun acc s₃=>wpAny (model X.prog X.w) X.A (newFunctionEnv scope X.env.globals (dv X.env.cells scope.names []) [] X.env.qual none .none (some X.env)) (fun cenv s₄=>
  codeAny (model X.prog X.w) X.A (.compStart (.ListComp elt [⟨tg,iter,ifs,0⟩] scope pos) 0 (.ref it) acc { cenv with scope:=relabel scope X.env }) (RR acc cenv.locals) s₄) E s₃) E s:=by
 refine wpAny_newObj_type (wpAny_newFunctionEnv S.cell (by intro y hy;simp at hy) (fun h₁ hns₁ hsb₁=>?_) S.kind)
 dsimp only at hns₁ hsb₁ ⊢
 generalize hH2:s.heap.push { cls:=.type "list",dict:=none,data:=.seq ([]:List Value).toArray }=H2 at hns₁ hsb₁ ⊢
 have hC:H2.objs.size=s.heap.objs.size+1:=by rw[<- hH2,Heap.size_push]
 have hCle:s.heap.objs.size<=H2.objs.size:=by rw[hC];exact Nat.le_succ _
 have hDC:s.heap.objs.size≠H2.objs.size:=by rw[hC];exact qG (Nat.lt_succ_self _)
 have old:∀b o,s.heap.get? b=some o->h₁.get? b=some o:=fun b o e=>
  hsb₁.extBut b o (qG (qD (qq e) hCle)) (qb _ (hH2▸qb _ e))
 have hacc:h₁.get? s.heap.objs.size=some { cls:=.type "list",data:=.seq ([]:List Value).toArray 0 }:=hsb₁.extBut _ _ hDC (qb _ (hH2▸qp _ rfl))
 have hob:∀b∈fp,∃o,s.heap.get? b=some o:=fun b hb=>let ⟨o,e,_⟩:=T.obj 0 _ st b hb;⟨o,e⟩
 have hlt:∀b∈fp,b<s.heap.objs.size:=fun b hb=>let ⟨_,e⟩:=hob b hb;qq e
 have notstk:∀b∈fp,b∉frs X.stack:=fun b hb z=>by
  rcases qu.mp (I.stkSub b z)with e|e
  ·exact(hf b hb).2.1 e
  ·exact(hf b hb).2.2.1 e
 have hDstk:s.heap.objs.size∉frs X.stack:=fun z=>by
  rcases qu.mp (I.stkSub _ z)with e|e
  ·have:=I.lt
   rw[<- e]at this
   exact Nat.lt_irrefl _ this
  ·exact I.nofs (qf _) e
 let dpin:List Value->Nat->List (Addr×Obj):=fun its n=>[(s.heap.objs.size,{ cls:=.type "list",data:=.seq its.toArray n })]
 have fpok:∀{H':Hp}{its:List Value}{n:Nat},(∀b∈fp,H' b=none)->∀b∈fp,cY (X.comp pins Nc scope fp s H H2.objs.size) (dpin its n) H' b:=fun{H' its n} hn b hb=>
  ⟨hn b hb,qG (qD (hlt b hb) hCle),notstk b hb,.inl hb,fun x c e=>(hf b hb).2.2.2.2.1 x c (gb e),fun p hp z=>by
   rcases qi.mp hp with q|q
   ·exact(hf b hb).2.2.2.2.2 p q z
   ·have e:p=(s.heap.objs.size,_):=qS.mp q
    rw[e]at z
    exact absurd (hlt b hb) (by rw[<- z];exact Nat.lt_irrefl _)⟩
 have loop:∀s₃:Shared,s₃={ s with heap:=h₁,toks:=s.toks+([]:List (Str×Value)).length }->
  codeAny (model X.prog X.w) X.A (.compLoop (.ListComp elt [⟨tg,iter,ifs,0⟩] scope pos) 0 (.ref it) (.ref s.heap.objs.size) (compEnvC scope (dv X.env.cells scope.names []) H2.objs.size X.env)) (RR (.ref s.heap.objs.size) H2.objs.size) s₃:=by
  rintro s₃ rfl
  refine C8 (fun n s'=>∃i ys its nn σc H',Inv (X.comp pins Nc scope fp s H H2.objs.size) [] σc H' s'/\tn i s'.heap/\(∀b∈fp,H' b=none)/\H' s.heap.objs.size=none/\av ys its /\
   s'.heap.get? s.heap.objs.size=some { cls:=.type "list",data:=.seq its.toArray nn }/\W i n ys σc H') ?_ m0 ?_
  ·rintro n s3 ⟨i,ys,its,nn,σ3,H3,I3,st3,fr3,hD3,hv3,ho3,w3⟩
   have I3':Inv (X.comp pins Nc scope fp s H H2.objs.size) (dpin its nn) σ3 H3 s3:=I3.pins_of fun p hp=>by
    have e:p=(s.heap.objs.size,_):=qS.mp hp
    subst e
    exact⟨ho3,hD3,hDC,hDstk,fun v z=>by cases z⟩
   rcases turn i n ys σ3 H3 w3 with⟨stop,hz,fin⟩|⟨go,hz,N,hN,step⟩
   ·refine thn (T.done (X.comp pins Nc scope fp s H H2.objs.size) rfl rfl rfl hc i (dpin its nn) s3 σ3 H3 (fun _ _=>False) I3' (fpok fr3) st3 stop) fun r s4 ⟨hr,I4⟩=>?_
    subst hr
    have ho4:=(I4.pin _ (qI _ (qS.mpr rfl))).1
    obtain⟨m4,hn4,_⟩:=I4.loc
    refine hRR _ _ s4 ys H3 (C7 I hf (qf _) I4 hD3 hz hv3 ho4) (I.fpOk hCle ?_) ⟨m4,hn4⟩ hD3 fin
    rw[af (Ne.symm hDC)]
    exact I4.free
   ·refine thn (T.item (X.comp pins Nc scope fp s H H2.objs.size) rfl rfl rfl hc i (dpin its nn) s3 σ3 H3 (fun _ _=>False) I3' (fpok fr3) st3 go) fun r s4 ⟨u,hr,h4⟩=>?_
    subst hr
    refine thn h4 fun _ s5 ⟨x,H5,I5,r5,y5,st5,fr5⟩=>?_
    have I5':=I5.pinned (fpok fr5) (T.obj _ _ st5)
    refine thn (hg pins fp s H H2.objs.size _ s5 σ3 H5 x u _ I5' r5 (step x H5 y5)) fun _ s6 ⟨σ6,H6,I6,q6⟩=>?_
    refine thn (ht pins fp s H H2.objs.size _ s6 σ6 H6 _ I6 q6) fun ok s7 ⟨H7,I7,q7⟩=>?_
    have keepIt:∀{σ':St}{H':Hp}{s':Shared},Inv (X.comp pins Nc scope fp s H H2.objs.size) (dpin its nn++iS fp s5.heap) σ' H' s'->
     s'.heap.get? s.heap.objs.size=some { cls:=.type "list",data:=.seq its.toArray nn }/\H' s.heap.objs.size=none/\(∀b∈fp,H' b=none)/\(∀b∈fp,∀o,s5.heap.get? b=some o->s'.heap.get? b=some o):=fun{σ' H' s'} J=>by
     have p1:=J.pin (s.heap.objs.size,_) (qI _ (qV _ (qS.mpr rfl)))
     refine⟨p1.1,p1.2.1,fun b hb=>?_,fun b hb o e=>(J.pin (b,o) (qI _ (qI _ (jS hb e)))).1⟩
     obtain⟨o,e,_⟩:=T.obj _ _ st5 b hb
     exact(J.pin (b,o) (qI _ (qI _ (jS hb e)))).2.1
    cases ok with
    |true=>
     rw[Q0 rfl]at q7 ⊢
     refine thn (he pins fp s H H2.objs.size _ s7 σ6 H7 _ I7 q7) fun y s8 ⟨v,H8,I8,r8,q8⟩=>?_
     obtain⟨ho8,hD8,fr8,k8⟩:=keepIt I8
     refine append_at (hsz:=by have:=hv3.length;show its.toArray.size<=sizeLine;rw[qC,<- this];exact Nat.le_of_lt hz) ho8 fun h9 hs9 ho9=>?_
     obtain⟨m',hm',w9⟩:=hN _ _ _ q8
     have I8u:Inv (X.comp pins Nc scope fp s H H2.objs.size) [] σ6 H8 s8:=I8.pins_of fun p hp=>nomatch hp
     have I9:Inv (X.comp pins Nc scope fp s H H2.objs.size) [] σ6 H8 { s8 with heap:=h9 }:=I8u.turned (t':=s8.toks) (it:=s.heap.objs.size) (fun b o hb e=>(hs9.2 b hb).trans e) hD8 hDC (.inr (qf _)) (fun x c e z=>by
      obtain⟨v,q⟩:=I.cell x c (gb e)
      exact absurd q.lt (by rw[z];exact Nat.lt_irrefl _)) fun p hp z=>by
       have hp':p∈X.pn++pins:=by
        rcases qi.mp hp with q|q
        ·exact q
        ·exact nomatch q
       exact absurd (qq (I.pin p hp').1) (by rw[z];exact Nat.lt_irrefl _)
     refine⟨m',hm',i+1,ys++[v],its++[y],nn+1,σ6,H8,I9,T.keep _ _ _ st5 fun b hb o e=>(hs9.2 b (qG (hlt b hb))).trans (k8 b hb o e),fr8,hD8,hv3.append (.cons r8 .nil),?_,w9⟩
     show h9.get? s.heap.objs.size=_
     rw[ho9]
     simp
    |false=>
     rw[qZ qj]at q7 ⊢
     obtain⟨ho8,hD8,fr8,k8⟩:=keepIt I7
     obtain⟨m',hm',w9⟩:=hN _ _ _ q7
     exact⟨m',hm',i+1,ys,its,nn,σ6,H7,I7.pins_of fun p hp=>(nomatch hp),T.keep _ _ _ st5 k8,fr8,hD8,hv3,ho8,w9⟩
  ·exact⟨0,[],[],0,_,H,C6 S I hf hlt hCle rfl I.bare old ⟨_,hns₁⟩,T.keep _ _ _ st fun b _ o e=>old b o e,fun b hb=>(hf b hb).1,I.hok.fresh (qf _),.nil,hacc,w0⟩
 exact codeAny_compStart_list (loop _ rfl) (T.self X.A 0 _ _ _ (T.keep _ _ _ st fun b _ o e=>old b o e) (loop _ rfl))
def oR (wi:TI) (k:Nat) (js:List Nat) (g:TG) (tt:TT) (te:TE):TE:=fun σ H Q=>wi σ H fun J H1=>∃W:Nat->Nat->List V->St->Hp->Prop,(∃m,W 0 m [] (gK k js σ) H1) /\
 gT J g tt te (fun ys H=>∀D,H D=none->Q (.ref D) (upd H D (.lst ys))) W
theorem iU {wi:TI}(S:bZ X.env.scope X.N scope k Nc js) (hc:X.calm=true) (hi:PI X tg iter wi)
 (hg:∀pins fp s H C,PG (X.comp pins Nc scope fp s H C) tg g) (ht:∀pins fp s H C,PTs (X.comp pins Nc scope fp s H C) ifs tt) (he:∀pins fp s H C,PE (X.comp pins Nc scope fp s H C) elt te)
 (hs:∀x,foldedSetIterable iter X.env x=pure x:=by intro _;rfl):PE X (.ListComp elt [⟨tg,iter,ifs,0⟩] scope pos) (oR wi k js g tt te):=by
 intro pins s σ H Q I h
 rw[eval_ListComp]
 refine wpAny_comprehension_free (use:=none) rfl hs (S.clos I) S.kind S.names (thn (hi pins s σ H _ I h) fun xv s1 h1=>thn h1 fun itv s2 h2=>?_)
 obtain⟨it,fp,tn,J,H2,e,I2,T,st2,f2,W,⟨m0,w0⟩,turn⟩:=h2
 subst e
 refine uQ (RR:=fun acc C=>compPost (model X.prog X.w) X.A X.xe none (EP X pins σ Q) acc C) S hc I2 T st2 f2 hg ht he w0 turn fun D C s' ys H' I' fC ns hD fin=>?_
 obtain⟨m,hn⟩:=ns
 exact⟨m,hn,fun h' hs'=>⟨.ref D,_,I'.turned (t':=s'.toks) (fun b o hb e=>(hs'.2 b hb).trans e) fC.1 fC.2.1 fC.2.2.2.1 fC.2.2.2.2.1 fC.2.2.2.2.2,rfl,fin D hD⟩⟩
theorem jC {wi:TI}{i:Nat}{x:Str}{px spos:Pos}(hN:X.N.Nodup) (hi':X.N[i]?=some x) (hx:Loc X.env.scope x) (S:bZ X.env.scope X.N scope k Nc js) (hc:X.calm=true) (hi:PI X tg iter wi)
 (hg:∀pins fp s H C,PG (X.comp pins Nc scope fp s H C) tg g) (ht:∀pins fp s H C,PTs (X.comp pins Nc scope fp s H C) ifs tt) (he:∀pins fp s H C,PE (X.comp pins Nc scope fp s H C) elt te)
 (hsw:swapsWith (.ListComp elt [⟨tg,iter,ifs,0⟩] scope pos) (some (.Name x px)) spos.line X.env=pure true:=by rfl)
 (hs:∀x,foldedSetIterable iter X.env x=pure x:=by intro _;rfl) (hf:X.fn x=true\/X.env.scope.names.lookup x=some .local:=by first|exact .inl rfl|exact .inr rfl|assumption):
 PS X (.Assign [.Name x px] (.ListComp elt [⟨tg,iter,ifs,0⟩] scope pos) spos) (kA (oR wi k js g tt te) (nG i)):=by
 intro pins s σ H D I h
 rw[exec_Assign_Name_used _ _ _ _ hsw]
 refine q9 (wpAny_standAt (q9 ?_))
 show wpAny _ X.A (do let _ <- comprehension (.ListComp elt [⟨tg,iter,ifs,0⟩] scope pos) scope X.env _ (newList []) false (eval iter X.env) (some (assign (.Name x px) X.env))) _ _ s
 refine q9 (wpAny_mono (wpAny_comprehension_free (use:=some (assign (.Name x px) X.env)) (Q:=fun _ s'=>SP X pins D .next s') rfl hs (S.clos I) S.kind S.names
  (thn (hi pins s σ H _ I h) fun xv s1 h1=>thn h1 fun itv s2 h2=>?_)) (fun _ s' hq=>qe (qe hq)) fun _ _ e=>e)
 obtain⟨it,fp,tn,J,H2,e,I2,T,st2,f2,W,⟨m0,w0⟩,turn⟩:=h2
 subst e
 refine uQ (RR:=fun acc C=>compPost (model X.prog X.w) X.A X.xe (some (assign (.Name x px) X.env)) (fun _ s'=>SP X pins D .next s') acc C) S hc I2 T st2 f2 hg ht he w0 turn fun A C s' ys H' I' fC ns hD fin=>?_
 obtain⟨m,hn⟩:=ns
 show wpAny _ X.A (assign (.Name x px) X.env (.ref A)) _ _ _
 refine wpAny_assign_Name (oX I' hN hi' hx (v:=.ref A) rfl (fun s'' I'' ⟨a,sb,ha⟩=>?_) hf)
 have hCa:C≠a:=by
  rcases ha with ha|ha
  ·rw[ha];exact fC.2.1
  ·exact fun z=>fC.2.2.2.2.1 x a ha z.symm
 exact⟨m,hn.sameBut sb hCa,fun h' hs'=>⟨_,_,I''.turned (t':=s''.toks) (fun b o hb e=>(hs'.2 b hb).trans e) fC.1 fC.2.1 fC.2.2.2.1 fC.2.2.2.2.1 fC.2.2.2.2.2,fin A hD⟩⟩
end
section
variable {X:Cx}{tg:Expr}
def yw:V->Option Int->Option Int->Hp->VK->Prop:=fun x lo hi H Q=>∃z,x=.str z/\z.length<=sizeLine/\Q (.str (Txt.slice z lo hi)) H
theorem iA:SlR X yw:=by
 intro pins s σ H x v vl vu lo hi sl Q I rx hs pl pu h
 obtain⟨z,rfl,hz,q⟩:=h
 obtain⟨t,rfl⟩:=rx
 refine⟨"str",_,PySem.F.slot_str_getitem.lookup,typeIs_str _ _ _,?_⟩
 have fin:∀t' k,EP X pins σ Q (.str (Txt.slice z lo hi) t') { s with toks:=k }:=fun t' k=>⟨.str _,H,I.tok k,⟨t',rfl⟩,q⟩
 cases pl with
 |none=>
  cases pu with
  |none=>exact wpAny_getItem_str_slice (l:=none) (u:=none) (st:=none) hs rfl (post_val_or_str ⟨qy (Txt.slice_le z _ _) hz,fin⟩)
  |int j tj=>exact wpAny_getItem_str_slice (l:=none) (u:=some (j,tj)) (st:=none) hs rfl (post_val_or_str ⟨qy (Txt.slice_le z _ _) hz,fin⟩)
 |int i ti=>
  cases pu with
  |none=>exact wpAny_getItem_str_slice (l:=some (i,ti)) (u:=none) (st:=none) hs rfl (post_val_or_str ⟨qy (Txt.slice_le z _ _) hz,fin⟩)
  |int j tj=>exact wpAny_getItem_str_slice (l:=some (i,ti)) (u:=some (j,tj)) (st:=none) hs rfl (post_val_or_str ⟨qy (Txt.slice_le z _ _) hz,fin⟩)
theorem zE:OpR X (binaryOp .Mult) (rI IntMulOk fun i j=>.int (i * j)):=opI fun _ _ _ _ _ _ _ hc q=>mul_int q hc
theorem Cj:cC X (.builtin "isinstance") (fun xs H Q=>∃x t T b,xs=[x,.ty T]/\dy X.K H x t/\PySem.W.kitOne X.K t (.type T)=some b/\Q (.bl b) H):=by
 intro pins s σ H xs us Q I r h
 obtain⟨x,t,T,b,rfl,ty,e,q⟩:=h
 obtain⟨u,c,rfl,ru,rc⟩:=iu r
 have ec:c=.type T:=rc
 subst ec
 exact Bf I ru ty e fun tk=>⟨.bl b,H,I.tok tk,rfl,q⟩
def yI (K:PySem.W.Frag):R2:=fun x y H Q=>∃l b xs zs,x=.ref l/\y=.ref b/\SqL K H l xs/\SqL K H b zs/\xs.length+zs.length<=sizeLine/\∀p,H p=none->Q (.ref p) (upd H p (.lst (xs++zs)))
theorem zN:OpR X (binaryOp .Add) (yI X.K):=by
 intro pins s σ H x y v u Q I rx ry h
 obtain⟨l,b,xs,zs,rfl,rfl,hH,hB,hz,q⟩:=h
 cases rx
 cases ry
 obtain⟨its,r,pl,z1⟩:=I.list hH
 obtain⟨its2,r2,pl2,z2⟩:=I.list hB
 have hl1:=r.length
 have hl2:=r2.length
 obtain⟨⟨cls,dd,data,sl⟩,n,ho,hc,_,hd⟩:=pl
 obtain⟨⟨cls2,dd2,data2,sl2⟩,n2,ho2,hc2,_,hd2⟩:=pl2
 simp only at hc hd hc2 hd2
 subst hc hd hc2 hd2
 refine concat_meets ⟨_,ho,rfl⟩ ⟨_,ho2,rfl⟩ noFill_list_add seq_list_add PySem.F.slot_list_add PySem.F.entry_list_add (PySem.F.args_list_add_2 _ _) (list_addW l b its.toArray its2.toArray n n2 dd dd2 sl sl2 (by rw[qC,qC];omega)) ⟨ho,ho2,?_⟩
 have ea:its.toArray++its2.toArray=(its++its2).toArray:=by simp
 rw[ea]
 exact⟨.ref _,_,I.lnew (t':=s.toks) (r.append r2) (by rw[qc];omega),rfl,q _ I.fresh⟩
end
section
variable {X:Cx}
end
theorem oA {te:TE}{N N':V->St->Hp->Prop}{M:St->Hp->Prop}:(fun(σ2:St) (H2:Hp)=>iw σ2 H2 fun b H3=>if b=true then te σ2 H3 fun y H4=>N y σ2 H4 else M σ2 H3)=fun σ2 H2=>te σ2 H2 fun y H4=>N y σ2 H4:=by
 funext σ2 H2
 unfold iw
 dsimp only
 rw[Q0 rfl]
def nQ (e:Expr):Option V:=match e with
 |.Constant (.str x) _ _=>some (.str x)
 |.Constant (.int i) _ _=>some (.int i)
 |.Constant (.bool b) _ _=>some (.bl b)
 |.Constant .none _ _=>some .non
 |_=>none
def nP:List Expr->Option (List V)
 |[]=>some []
 |e::es=>match nQ e,nP es with
  |some v,some vs=>some (v::vs)
  |_,_=>none
def wf (vs:List V):TA:=fun _ H Q=>Q vs H
theorem zv {X:Cx}{e:Expr}{v:V}(h:nQ e=some v):PE X e (tC v)/\∀es,starEach (e::es) X.env=(false,eval e X.env)::starEach es X.env:=by
 unfold nQ at h
 split at h
 ·cases h;exact⟨aQ,fun _=>rfl⟩
 ·cases h;exact⟨ac,fun _=>rfl⟩
 ·cases h;exact⟨eK,fun _=>rfl⟩
 ·cases h;exact⟨cw,fun _=>rfl⟩
 ·cases h
theorem jL {X:Cx}:∀{es:List Expr}{vs:List V},nP es=some vs->PA X es (wf vs)
 |[],vs,h=>by cases h;exact ae
 |e::es,vs,h=>by
  unfold nP at h
  split at h
  ·rename_i v ws h1 h2
   cases h
   obtain⟨p,s⟩:=zv (X:=X) h1
   exact aa p (jL h2) (s es)
  ·cases h
section
variable {X:Cx}
theorem Av:OpR X (binaryOp .Add) (fun x y H Q=>∃i j,x=.int i/\y=.int j/\Q (.int (i+j)) H):=zP
theorem An:OpR X (binaryOp .Sub) (fun x y H Q=>∃i j,x=.int i/\y=.int j/\Q (.int (i-j)) H):=zA
theorem dJ:OpR X (binaryOp .Mult) (fun x y H Q=>∃i j,x=.int i/\y=.int j/\IntMulOk i j/\Q (.int (i * j)) H):=zE
theorem Au:OpR X (binaryOp .FloorDiv) (fun x y H Q=>∃i j,x=.int i/\y=.int j/\(0<j/\j<1073741824)/\Q (.int (i / j)) H):=zL
theorem Ao:OpR X (binaryOp .Mod) (fun x y H Q=>∃i j,x=.int i/\y=.int j/\0<j/\Q (.int (i % j)) H):=zF
theorem tE:OpR X (binaryOp .Pow) (fun x y H Q=>∃i j,x=.int i/\y=.int j/\(0<=j/\j<=1000000/\i.natAbs<2 ^ 64)/\Q (.int (i ^ j.toNat)) H):=zB
theorem Ap:OpR X (compareOp .Lt) (fun x y H Q=>∃i j,x=.int i/\y=.int j/\Q (.bl (decide (i<j))) H):=zG
theorem Aq:OpR X (compareOp .LtE) (fun x y H Q=>∃i j,x=.int i/\y=.int j/\Q (.bl (decide (i<=j))) H):=zH
theorem Ar:OpR X (compareOp .Gt) (fun x y H Q=>∃i j,x=.int i/\y=.int j/\Q (.bl (decide (j<i))) H):=zJ
theorem As:OpR X (compareOp .GtE) (fun x y H Q=>∃i j,x=.int i/\y=.int j/\Q (.bl (decide (j<=i))) H):=zK
end
end L2
namespace Att
open PySem PySem.W PySem.Calls PyProof.Rows
theorem xW {ns:List Int}(h:WData.layableAll [WData.list (ns.map WData.int)]=true):∀n∈ns,Builtin.Int.intBits n<=2 ^ 20:=fun n hn=>by
 have h1:=layableW_arg h _ (qS.mpr rfl)
 have h2:=layableW_item h1 (WData.int n) (List.mem_map.mpr ⟨n,hn,rfl⟩)
 exact PyData.bits_of_layable (layable0_of_all (lay0_int h2))
theorem attach_callB {l:OpenLaw}{n:Nat}{q:Program}{loose:List Str}{XP:(Str->Option Value)->Heap->Prop}{YP:World->Heap->Prop}{d:DefRec}
 (hn:l.most=some n) (hdf:d.params.defaults=[])
 (call:∀(w:World) (s₀ s₁:Shared) (mg mb:Str->Option Value) (fa:Addr) (o:Obj) (pm cd doc:Value) (a:Addr) (vs:List Value) (ns:List Int),
  Ground q loose [] XP w s₀ mg mb s₁.heap->YP w s₁.heap->
  s₁.heap.get? fa=some o->o.data=.func (docDef d.name d.params d.body d.scope pm cd doc)->s₁.heap.CodeRec cd d.name->mg d.name=some (.ref fa)->
  s₁.heap.get? a=some { cls:=.type "list",data:=.seq vs.toArray }->IntsAre vs ns->ns.length<=n->(∀k∈ns,Builtin.Int.intBits k<=2 ^ 20)->s₁.gens=#[]->
  codeAny (model l.prog w) callerA (.call (.ref fa) ⟨[.ref a],[]⟩) (fun r s'=>r=.ok (.ret (.bool true))/\OldK s₁.heap s'.heap/\s'.os=s₁.os/\AllBare s'.gens) s₁):
 WalkO q loose XP YP l.row.toRowW d [] (fun f vs=>PySem.call f vs):=by
 intro w s₀ s₁ mg mb G Y fa o pm cd doc dV kV ho hd hcd hD hmg hg args vals as hpre hlay hrd hwl hlo
 obtain rfl:dV=.none:=Dflts.none hD hdf
 obtain rfl:kV=.none:=Dflts.noKw hD
 obtain⟨a,vs,ns,rfl,rfl,hobj,hints,hlen⟩:=xV hn hpre hwl
 refine enter_call (codeAny_mono (call w s₀ s₁ mg mb fa o pm cd doc a vs ns G Y ho (fd_plain hd) hcd hmg hobj hints hlen (xW hlay) hg) fun r s' hq=>?_)
 obtain⟨rfl,h2,h3,h4⟩:=hq
 exact⟨.inl ⟨.bool true,.bool true,[],rfl,fun _=>rfl,.bool true,zb l _,fun _=>⟨List.Pairwise.nil,fun _ hm=>(nomatch hm)⟩⟩,h2,h3,h4⟩
end Att
namespace L2
open PySem PySem.Spec PyProof.Rows
theorem vW {l:PySem.W.OpenLaw}{n k:Nat}{q:Program}{loose:List Str}{XP:(Str->Option Value)->Heap->Prop}{YP:World->Heap->Prop}{d:DefRec}{K:Params->PySem.W.Frag}{CX:World->CXT}{sp:World->Sp}{x:Str}
 (hn:l.most=some n) (hn2:n<=sizeLine) (hdf:d.params.defaults=[]) (hr:cN k callerA)
 (hY:∀(w:World) (h:Heap),YP w h->(K w.params).In h)
 (F:∀(w:World) (mg:Str->Option Value) (fa:Addr) (h:Heap),(K w.params).In h->h.Ns mainGlobals mg->mg d.name=some (.ref fa)->
  ∃fd:FuncData,(∀(s:Shared) (u:Value),BindsTo s fd ⟨[u],[]⟩ [(x,u)]) /\
   ∀base:Heap,(K w.params).In base->base.Ns mainGlobals mg->aR l.prog w (K w.params) mg base (CX w) k fa fd [x] (sp w))
 (hsp:∀(w:World) (H:Hp) (a:Addr) (ns:List Int),ns.length<=n->(∀k∈ns,Builtin.Int.intBits k<=2 ^ 20)->kn H->SqL (K w.params) H a (ns.map V.int)->sp w [.ref a] H (fun v _=>v=.bl true) fun _ _ _=>False)
 (hCX:∀(w:World) (H:Hp) (s:Shared) (e:Value) (s':Shared),CX w [] H s (fun _ _ _=>False) e s'->False):
 PySem.W.WalkO q loose XP YP l.row.toRowW d [] (fun f vs=>PySem.call f vs):=by
 refine Att.attach_callB hn hdf fun w s₀ s₁ mg mb fa o pm cd doc a vs ns G Y ho hd hcd hmg hobj hints hlen hbits hg=>?_
 have KX:=hY w _ Y
 obtain⟨fd,hb,hF⟩:=F w mg fa _ KX G.T.g hmg
 exact AY KX G.T.g G.T.b G.T.builtins G.T.nolimit hg hobj hints (qy hlen hn2) hr hF hb (fun H hO hS=>hsp w H a ns hlen hbits hO hS) fun H e s'=>hCX w H s₁ e s'
theorem a9.new {H:Hp}{p:Addr}(h:H p=none) (o:HO):a9 H (upd H p o):=fun b u q=>by rw[af (ce q h)];exact q
theorem bu {n m:Nat}(h:n<=m) (hm:m<=1000000:=by decide):n<=sizeLine:=qy h (qy hm (by rw[sizeLine_eq];decide))
theorem d8 (x y:Str):(x++y).length=x.length+y.length:=strLen_append x y
theorem jW {L Pc c A B:Prop}{inst:Decidable c}(hw:¬ c->Pc) (rest:Pc->L) (h:c->(Pc->L)->A) (e:B=L:=by rfl):@ite Prop c inst A B:=by
 subst e
 by_cases hc:c
 ·rw[Q0 hc];exact h hc rest
 ·rw[qZ hc];exact rest (hw hc)
def SIt (h:Heap):Bool->Addr->Addr->Nat->Prop
 |false,it,l,k=>h.IsListIter it l k
 |true,it,l,k=>h.IsTupleIter it l k
def SSq (h:Heap):Bool->Addr->Array Value->Prop
 |false,l,xs=>h.IsList l xs
 |true,l,xs=>h.IsTuple l xs
theorem SIt.obj {h:Heap}:∀{b:Bool}{it l:Addr}{k:Nat},SIt h b it l k->∃o,h.get? it=some o/\∃vs,o.data=.fields vs
 |false,_,_,_,⟨o,e,_,d⟩=>⟨o,e,_,d⟩
 |true,_,_,_,⟨o,e,_,d⟩=>⟨o,e,_,d⟩
theorem SIt.keep {h h':Heap}:∀{b:Bool}{it l:Addr}{k:Nat},SIt h b it l k->(∀o,h.get? it=some o->h'.get? it=some o)->SIt h' b it l k
 |false,_,_,_,⟨o,e,r⟩,f=>⟨o,f o e,r⟩
 |true,_,_,_,⟨o,e,r⟩,f=>⟨o,f o e,r⟩
theorem SSq.keep {h h':Heap}:∀{b:Bool}{l:Addr}{xs:Array Value},SSq h b l xs->(∀o,h.get? l=some o->h'.get? l=some o)->SSq h' b l xs
 |false,_,_,⟨o,e,r⟩,f=>⟨o,f o e,r⟩
 |true,_,_,⟨o,e,r⟩,f=>⟨o,f o e,r⟩
theorem SSq.obj {h:Heap}:∀{b:Bool}{l:Addr}{xs:Array Value},SSq h b l xs->∃o,h.get? l=some o/\∃n,o.data=.seq xs n
 |false,_,_,⟨o,e,_,n,d⟩=>⟨o,e,n,d⟩
 |true,_,_,⟨o,e,_,n,d⟩=>⟨o,e,n,d⟩
section
variable {prog:Program}{w:World}{A:Around}{E:Qq}{s:Shared}
theorem Ay {it t:Addr}{k:Nat}{xs:Array Value}{x:Value}{Q:Qq}(hi:s.heap.IsTupleIter it t k) (ht:s.heap.IsTuple t xs) (hx:xs[k]?=some x)
 (q:∀g,g.IsTupleIter it t (k+1)->Heap.SameBut it s.heap g->Q x { s with heap:=g }):wpAny (model prog w) A (Builtin.SmallTypes.nextOf (.ref it)) Q E s:=by
 obtain⟨o,e,c,d⟩:=id hi
 obtain⟨ot,et,_,nt,dt⟩:=ht
 unfold Builtin.SmallTypes.nextOf
 refine q9 (wpAny_callSpecial?_slot (name:=Str.ofString "__next__") hi.typeIs PySem.F.slot_tuple_iterator_next (wpAny_call_entry PySem.F.slot_tuple_iterator_next hi.typeIs PySem.F.entry_tuple_iterator_next ?_ (PySem.F.args_tuple_iterator_next_1 _)))
 show wpAny _ _ (field (.ref it) 0 >>= _) _ _ _;refine q9 (wpAny_field e d (x:=.ref t) rfl ?_)
 show wpAny _ _ (if(Value.ref t == Value.none)=true then _ else _) _ _ _;rw[qZ (show ¬ (Value.ref t == Value.none)=true from qj)]
 show wpAny _ _ (field (.ref it) 1 >>= _) _ _ _;refine q9 (wpAny_field e d (x:=.int k 0) rfl ?_)
 show wpAny _ _ (seqItems? (.ref t) >>= _) _ _ _;refine q9 (wpAny_seqItems et dt ?_)
 simp only[qX,hx];refine q9 (wpAny_setField e d (by simp) (qe ⟨x,rfl,qe (q _ ?_ (Heap.SameBut.update ..))⟩))
 exact⟨_,Heap.get?_update_self _ e (Obj.isFreed_of_fields (Obj.data_mapFields d _)),(Obj.cls_mapFields ..).trans c,by rw[Obj.data_mapFields d];simp[rawInt]⟩
theorem Az {it t:Addr}{k:Nat}{xs:Array Value}{Q:Qq}(hh:A.handled=none) (hi:s.heap.IsTupleIter it t k) (ht:s.heap.IsTuple t xs) (hx:xs[k]?=none)
 (q:∀g x,Heap.ExtBut it s.heap g->(∃o,g.get? x=some o/\o.cls=.type "StopIteration")->E (.ref x) { s with heap:=g }):wpAny (model prog w) A (Builtin.SmallTypes.nextOf (.ref it)) Q E s:=by
 obtain⟨o,e,c,d⟩:=id hi
 obtain⟨ot,et,_,nt,dt⟩:=ht
 unfold Builtin.SmallTypes.nextOf
 refine q9 (wpAny_callSpecial?_slot (name:=Str.ofString "__next__") hi.typeIs PySem.F.slot_tuple_iterator_next (wpAny_call_entry PySem.F.slot_tuple_iterator_next hi.typeIs PySem.F.entry_tuple_iterator_next ?_ (PySem.F.args_tuple_iterator_next_1 _)))
 show wpAny _ _ (field (.ref it) 0 >>= _) _ _ _;refine q9 (wpAny_field e d (x:=.ref t) rfl ?_)
 show wpAny _ _ (if(Value.ref t == Value.none)=true then _ else _) _ _ _;rw[qZ (show ¬ (Value.ref t == Value.none)=true from qj)]
 show wpAny _ _ (field (.ref it) 1 >>= _) _ _ _;refine q9 (wpAny_field e d (x:=.int k 0) rfl ?_)
 show wpAny _ _ (seqItems? (.ref t) >>= _) _ _ _;refine q9 (wpAny_seqItems et dt ?_)
 simp only[qX,hx];refine q9 (wpAny_rule (q9 (wpAny_setField e d (by simp) ?_)))
 show wpAny _ _ (newExc (.type "StopIteration") [] >>= _) _ _ _;refine q9 ?_;simp only[newExc,newTuple];refine q9 (wpAny_newObj_type ?_ (by size_fits))
 refine q9 (m:=firstArgMember _ _) (wpAny_of_eq (a:=Value.none) (by first|rfl|(simp only[firstArgMember];rfl)) (wpAny_newObj_type ?_ (by size_fits)))
 simp only[raiseNew];refine q9 (wpAny_handled ?_);first|rw[show A.in1.handled=none from hh]|rw[hh]
 refine q9 (qe (wpAny_throw (q _ _ (((Heap.SameBut.update ..).extBut.push _).push _) ⟨_,qp _ rfl,rfl⟩)))
theorem mS {it l:Addr}{k:Nat}{xs:Array Value}{x:Value}{Q:Qq}:∀{b:Bool},SIt s.heap b it l k->SSq s.heap b l xs->xs[k]?=some x->
 (∀g,SIt g b it l (k+1)->Heap.SameBut it s.heap g->Q x { s with heap:=g })->wpAny (model prog w) A (Builtin.SmallTypes.nextOf (.ref it)) Q E s
 |false,a,c,d,q=>wpAny_nextOf_list_item a c d q
 |true,a,c,d,q=>Ay a c d q
theorem tF {it l:Addr}{k:Nat}{xs:Array Value}{Q:Qq}(hh:A.handled=none):∀{b:Bool},SIt s.heap b it l k->SSq s.heap b l xs->xs[k]?=none->
 (∀g x,Heap.ExtBut it s.heap g->(∃o,g.get? x=some o/\o.cls=.type "StopIteration")->E (.ref x) { s with heap:=g })->wpAny (model prog w) A (Builtin.SmallTypes.nextOf (.ref it)) Q E s
 |false,a,c,d,q=>wpAny_nextOf_list_end hh a c d q
 |true,a,c,d,q=>Az hh a c d q
structure ZAp (z TI TO i1 i2 l1 l2:Addr):Prop where
 a:TI≠z/\TO≠z/\i1≠z/\i2≠z/\TI≠TO/\TI≠i1/\TI≠i2/\TO≠i1/\TO≠i2/\i1≠i2
 l:∀c,c=l1\/c=l2->c≠z/\c≠TO/\c≠i1/\c≠i2/\c≠TI
theorem vM {z TI TO i1 i2 l1 l2:Addr}{b1 b2:Bool}{k1 k2:Nat}{xs ys:Array Value}{x y a b:Value}{Q:Qq}(D:ZAp z TI TO i1 i2 l1 l2)
 (hz:IsZip s.heap z TI TO .none) (hI:IsPair s.heap TI (.ref i1) (.ref i2)) (hO:IsPair s.heap TO a b) (t1:SIt s.heap b1 i1 l1 k1) (t2:SIt s.heap b2 i2 l2 k2) (q1:SSq s.heap b1 l1 xs) (q2:SSq s.heap b2 l2 ys) (ex:xs[k1]?=some x) (ey:ys[k2]?=some y)
 (q:∀g,IsZip g z TI TO (rawInt s.heap.objs.size)->IsPair g TO x y->SIt g b1 i1 l1 (k1+1)->SIt g b2 i2 l2 (k2+1)->IsPair g s.heap.objs.size x y->(∀c o,c≠z->c≠TO->c≠i1->c≠i2->s.heap.get? c=some o->g.get? c=some o)->Q (.ref s.heap.objs.size) { s with heap:=g }):
 wpAny (model prog w) A (Builtin.«zip.__next__» ⟨[.ref z],[]⟩) (fun fin s'=>∃v,fin=.done (.ret v)/\Q v s') E s:=by
 obtain⟨⟨nIz,nOz,n1z,n2z,nIO,nI1,nI2,nO1,nO2,n12⟩,lne⟩:=D
 obtain⟨m1z,m1O,m11,m12,m1I⟩:=lne l1 (.inl rfl)
 obtain⟨m2z,m2O,m21,m22,m2I⟩:=lne l2 (.inr rfl)
 show wpAny _ _ (field (.ref z) 2 >>= _) _ _ _;refine q9 (wpAny_field hz rfl (x:=.bool false) rfl ?_)
 show wpAny _ _ (field (.ref z) 3 >>= _) _ _ _;refine q9 (wpAny_field hz rfl (x:=.ref TI) rfl (q9 (wpAny_seqItems hI rfl ?_)))
 show wpAny _ _ (Builtin.SmallTypes.ownedTupleIsFree (.ref z) >>= _) _ _ _;refine q9 ?_;unfold Builtin.SmallTypes.ownedTupleIsFree
 refine q9 (wpAny_field hz rfl (x:=.none) rfl (qe ?_));simp only[if_true]
 refine q9 (wpAny_rule (q9 (wpAny_field hz rfl (x:=.ref TO) rfl (q9 (wpAny_setField_rec hz (by simp) fun g1 z1 s1=>?_)))))
 replace z1:IsZip g1 z TI TO .ellipsis:=z1
 refine q9 ?_;simp only[List.zipIdx_cons,List.zipIdx_nil,List.forIn_cons,List.forIn_nil];refine q9 (q9 (wpAny_onRaise ?_))
 show wpAny _ _ (Builtin.SmallTypes.nextOf (.ref i1) >>= _) _ _ _
 refine q9 (mS (b:=b1) (t1.keep fun o e=>s1.extBut _ _ n1z e) (q1.keep fun o e=>s1.extBut _ _ m1z e) ex fun g2 u1 s2=>qe ?_)
 have o2:IsPair g2 TO a b:=s2.extBut _ _ nO1 (s1.extBut _ _ nOz hO)
 refine q9 (wpAny_seqItems o2 rfl (q9 (wpAny_updateSeq_pair o2 fun g3 o3 s3=>q9 (wpAny_letGo (qe ?_)))))
 replace o3:IsPair g3 TO x b:=o3
 refine q9 (q9 (wpAny_onRaise ?_));show wpAny _ _ (Builtin.SmallTypes.nextOf (.ref i2) >>= _) _ _ _
 refine q9 (mS (b:=b2) (t2.keep fun o e=>s3.extBut _ _ nO2.symm (s2.extBut _ _ n12.symm (s1.extBut _ _ n2z e))) (q2.keep fun o e=>s3.extBut _ _ m2O (s2.extBut _ _ m21 (s1.extBut _ _ m2z e))) ey fun g4 u2 s4=>qe ?_)
 have o4:IsPair g4 TO x b:=s4.extBut _ _ nO2 o3
 refine q9 (wpAny_seqItems o4 rfl (q9 (wpAny_updateSeq_pair o4 fun g5 o5 s5=>q9 (wpAny_letGo (qe (qe ?_))))))
 replace o5:IsPair g5 TO x y:=o5
 refine q9 (wpAny_seqItems o5 rfl (q9 (wpAny_newTuple ?_)))
 have sz:g5.objs.size=s.heap.objs.size:=by rw[s5.1,s4.1,s3.1,s2.1,s1.1]
 have z5:IsZip g5 z TI TO .ellipsis:=s5.extBut _ _ nOz.symm (s4.extBut _ _ n2z.symm (s3.extBut _ _ nOz.symm (s2.extBut _ _ n1z.symm z1)))
 have k5:∀c o,c≠z->c≠TO->c≠i1->c≠i2->s.heap.get? c=some o->g5.get? c=some o:=fun c o h1 h2 h3 h4 e=>s5.extBut _ _ h2 (s4.extBut _ _ h4 (s3.extBut _ _ h2 (s2.extBut _ _ h3 (s1.extBut _ _ h1 e))))
 have v1:SIt g5 b1 i1 l1 (k1+1):=u1.keep fun o e=>s5.extBut _ _ nO1.symm (s4.extBut _ _ n12 (s3.extBut _ _ nO1.symm e))
 have v2:SIt g5 b2 i2 l2 (k2+1):=u2.keep fun o e=>s5.extBut _ _ nO2.symm e
 have zlt:z<g5.objs.size:=qq z5
 show wpAny _ _ (Builtin.SmallTypes.ownedTupleHandOut (.ref z) (.ref g5.objs.size) >>= _) _ _ _;refine q9 ?_;unfold Builtin.SmallTypes.ownedTupleHandOut
 have z6:IsZip (g5.push { cls:=.type "tuple",data:=.seq #[x,y] }) z TI TO .ellipsis:=qb _ z5
 refine q9 (wpAny_setField_rec z6 (by simp) fun g7 z7 s7=>?_)
 replace z7:IsZip g7 z TI TO (rawInt g5.objs.size):=z7
 refine wpAny_setField_rec z7 (by simp) fun g8 z8 s8=>?_
 replace z8:IsZip g8 z TI TO (rawInt g5.objs.size):=z8
 have up:∀c o,c≠z->g5.get? c=some o->g8.get? c=some o:=fun c o h1 e=>s8.extBut _ _ h1 (s7.extBut _ _ h1 (qb _ e))
 have t8:IsPair g8 g5.objs.size x y:=s8.extBut _ _ (Nat.ne_of_gt zlt) (s7.extBut _ _ (Nat.ne_of_gt zlt) (qp _ rfl))
 rw[sz]at z8 t8
 refine qe ⟨_,rfl,?_⟩
 show Q (.ref g5.objs.size) _
 rw[sz]
 exact q g8 z8 (up _ _ nOz o5) (v1.keep fun o e=>up _ o n1z e) (v2.keep fun o e=>up _ o n2z e) t8 fun c o h1 h2 h3 h4 e=>up c o h1 (k5 c o h1 h2 h3 h4 e)
theorem vN {z TI TO i1 i2 l1 l2:Addr}{b1 b2:Bool}{k1 k2:Nat}{xs ys:Array Value}{a b:Value}{Q:Fin->Shared->Prop}(hh:A.handled=none) (D:ZAp z TI TO i1 i2 l1 l2)
 (hz:IsZip s.heap z TI TO .none) (hI:IsPair s.heap TI (.ref i1) (.ref i2)) (hO:IsPair s.heap TO a b) (t1:SIt s.heap b1 i1 l1 k1) (t2:SIt s.heap b2 i2 l2 k2) (q1:SSq s.heap b1 l1 xs) (q2:SSq s.heap b2 l2 ys) (hend:xs[k1]?=none\/ys[k2]?=none)
 (q:∀g e,(∀c o,c≠z->c≠TO->c≠i1->c≠i2->s.heap.get? c=some o->g.get? c=some o)->(∃o,g.get? e=some o/\o.cls=.type "StopIteration")->E (.ref e) { s with heap:=g }):
 wpAny (model prog w) A (Builtin.«zip.__next__» ⟨[.ref z],[]⟩) Q E s:=by
 obtain⟨⟨nIz,nOz,n1z,n2z,nIO,nI1,nI2,nO1,nO2,n12⟩,lne⟩:=D
 obtain⟨m1z,m1O,m11,m12,m1I⟩:=lne l1 (.inl rfl)
 obtain⟨m2z,m2O,m21,m22,m2I⟩:=lne l2 (.inr rfl)
 show wpAny _ _ (field (.ref z) 2 >>= _) _ _ _;refine q9 (wpAny_field hz rfl (x:=.bool false) rfl ?_)
 show wpAny _ _ (field (.ref z) 3 >>= _) _ _ _;refine q9 (wpAny_field hz rfl (x:=.ref TI) rfl (q9 (wpAny_seqItems hI rfl ?_)))
 show wpAny _ _ (Builtin.SmallTypes.ownedTupleIsFree (.ref z) >>= _) _ _ _;refine q9 ?_;unfold Builtin.SmallTypes.ownedTupleIsFree
 refine q9 (wpAny_field hz rfl (x:=.none) rfl (qe ?_));simp only[if_true]
 refine q9 (wpAny_rule (q9 (wpAny_field hz rfl (x:=.ref TO) rfl (q9 (wpAny_setField_rec hz (by simp) fun g1 z1 s1=>?_)))))
 replace z1:IsZip g1 z TI TO .ellipsis:=z1
 refine q9 ?_;simp only[List.zipIdx_cons,List.zipIdx_nil,List.forIn_cons,List.forIn_nil];refine q9 (q9 (wpAny_onRaise ?_))
 show wpAny _ _ (Builtin.SmallTypes.nextOf (.ref i1) >>= _) _ _ _
 cases ex:xs[k1]? with
 |none=>
  refine q9 (tF (b:=b1) hh (t1.keep fun o e=>s1.extBut _ _ n1z e) (q1.keep fun o e=>s1.extBut _ _ m1z e) ex fun g2 v s2 hv=>?_)
  obtain⟨ov,ev,cv⟩:=hv
  have z2:IsZip g2 z TI TO .ellipsis:=s2 _ _ n1z.symm z1
  have nv:v≠z:=fun h=>by subst h;rw[z2]at ev;cases ev;simp at cv
  exact wpAny_setField_rec z2 (by simp) fun g3 _ s3=>q g3 v (fun c o h1 _ h3 _ e=>s3.extBut _ _ h1 (s2 _ _ h3 (s1.extBut _ _ h1 e))) ⟨ov,s3.extBut _ _ nv ev,cv⟩
 |some x=>
  have ey:ys[k2]?=none:=by rcases hend with h|h;rw[ex]at h;cases h;exact h
  refine q9 (mS (b:=b1) (t1.keep fun o e=>s1.extBut _ _ n1z e) (q1.keep fun o e=>s1.extBut _ _ m1z e) ex fun g2 u1 s2=>qe ?_)
  have o2:IsPair g2 TO a b:=s2.extBut _ _ nO1 (s1.extBut _ _ nOz hO)
  refine q9 (wpAny_seqItems o2 rfl (q9 (wpAny_updateSeq_pair o2 fun g3 o3 s3=>q9 (wpAny_letGo (qe ?_)))))
  refine q9 (q9 (wpAny_onRaise ?_));show wpAny _ _ (Builtin.SmallTypes.nextOf (.ref i2) >>= _) _ _ _
  refine q9 (tF (b:=b2) hh (t2.keep fun o e=>s3.extBut _ _ nO2.symm (s2.extBut _ _ n12.symm (s1.extBut _ _ n2z e))) (q2.keep fun o e=>s3.extBut _ _ m2O (s2.extBut _ _ m21 (s1.extBut _ _ m2z e))) ey fun g4 v s4 hv=>?_)
  obtain⟨ov,ev,cv⟩:=hv
  have z4:IsZip g4 z TI TO .ellipsis:=s4 _ _ n2z.symm (s3.extBut _ _ nOz.symm (s2.extBut _ _ n1z.symm z1))
  have nv:v≠z:=fun h=>by subst h;rw[z4]at ev;cases ev;simp at cv
  exact wpAny_setField_rec z4 (by simp) fun g5 _ s5=>q g5 v (fun c o h1 h2 h3 h4 e=>s5.extBut _ _ h1 (s4 _ _ h4 (s3.extBut _ _ h2 (s2.extBut _ _ h3 (s1.extBut _ _ h1 e))))) ⟨ov,s5.extBut _ _ nv ev,cv⟩
end
section
variable {X:Cx}{pins:List (Addr×Obj)}{σ:St}{H:Hp}{s:Shared}{h':Heap}
theorem Inv.turnedL {t':Nat}{ch:List Addr}(I:Inv X pins σ H s) (k:∀b o,b∉ch->s.heap.get? b=some o->h'.get? b=some o) (hf:∀b∈ch,cY X pins H b):Inv X pins σ H { s with heap:=h',toks:=t' }:=by
 have nit:∀b u,H b=some u->b∉ch:=fun b u e z=>by rw[(hf b z).1]at e;cases e
 have hL:X.env.locals∉ch:=fun z=>(hf _ z).2.1 rfl
 refine I.step (g':=s.gens) (d':=s.drawn) (ch:=ch) (fun b hb=>⟨(hf b hb).2.2.2.1,(hf b hb).2.1,(hf b hb).2.2.2.2.1,(hf b hb).2.2.2.2.2⟩) (fun b o _ _ hc e _=>k b o hc e) (fun b o _ _ hc e _=>⟨o.slots,k b o hc e⟩) (fun _ _ _ _ n=>n)
  (fun b o hc e=>⟨o,k b o hc e⟩) (fun _ _ e=>e) (fun _ _ _ e=>e) (fun b ps e=>⟨#[],by rw[e];simp⟩) (fun m hm=>?_) (fun b u e=>?_) I.bare
 ·obtain⟨o,es,ep,ho,r⟩:=hm
  exact⟨o,es,ep,k _ o hL ho,r⟩
 ·refine(I.hok b u e).stay (fun c v hc q=>k c v ?_ q) (fun _ q=>q) fun _ _ q=>q
  rcases hc with z|z
  ·rw[z];exact nit b u e
  ·exact nit c _ z
theorem Inv.track {T:Addr}{o:HO}(I:Inv X pins σ H s) (f:cY X pins H T) (hs:X.s₀.heap.objs.size<=T) (new:bB X.prog X.w (upd H T o) s.heap T o):Inv X pins σ (upd H T o) s:=by
 obtain⟨f0,f1,f2,_,f4,f5⟩:=f
 have old:∀b u,X.s₀.heap.get? b=some u->b≠T:=fun b u e=>qG (qD (qq e) hs)
 refine⟨I.ok,I.os,I.bare,⟨I.base.keep,I.base.slot,fun b u e n hx=>?_,I.base.there,fun b xs e=>?_,fun b u v e=>?_,fun b ps e=>?_⟩,I.loc,I.cell,?_,fun x c e=>?_,fun p hp=>?_,fun b u e=>?_,I.len⟩
 ·rw[af (old b u e)];exact I.base.free b u e n hx
 ·rw[af (ce (I.base.tups b xs e) f0)];exact I.base.tups b xs e
 ·rw[af (ce (I.base.frzs b u v e) f0)];exact I.base.frzs b u v e
 ·obtain⟨more,q⟩:=I.base.tbls b ps e
  exact⟨more,by rw[af (ce q f0)];exact q⟩
 ·rw[af (Ne.symm f1)];exact I.free
 ·rw[af (f4 x c e)];exact I.freeC x c e
 ·obtain⟨e,n,ne,nf,d⟩:=I.pin p hp
  exact⟨e,by rw[af (f5 p hp)];exact n,ne,nf,d⟩
 ·by_cases hb:b=T
  ·subst hb
   rw[ag]at e
   cases e
   exact new
  ·rw[af hb]at e
   exact(I.hok b u e).stay (fun c v _ q=>q) (fun c q=>by rw[af (ce q f0)];exact q) fun c xs q=>by rw[af (ce q f0)];exact q
end
def SqB (K:PySem.W.Frag) (H:Hp):Bool->Addr->List V->Prop
 |false,a,xs=>SqL K H a xs
 |true,a,xs=>SqT K H a xs
theorem SqB.at {X:Cx}{pins:List (Addr×Obj)}{σ:St}{H:Hp}{s:Shared}(I:Inv X pins σ H s):∀{b:Bool}{a:Addr}{xs:List V},SqB X.K H b a xs->∃its:List Value,av xs its/\SSq s.heap b a its.toArray/\xs.length<=sizeLine
 |false,_,_,h=>let ⟨its,r,p,z⟩:=I.list h;⟨its,r,p.isList,z⟩
 |true,_,_,h=>let ⟨its,r,p,z⟩:=I.tuple h;⟨its,r,p,z⟩
theorem SqB.inj {X:Cx}{pins:List (Addr×Obj)}{σ:St}{H:Hp}{s:Shared}(I:Inv X pins σ H s):∀{b:Bool}{a:Addr}{xs ys:List V},SqB X.K H b a xs->SqB X.K H b a ys->xs=ys
 |false,_,_,_,h,h'=>I.list_inj h h'
 |true,_,_,_,h,h'=>I.tuple_inj h h'
def Itz (K:PySem.W.Frag) (b1 b2:Bool) (l1 l2:Addr):It:=
 ⟨fun i H=>∃xs ys x y,SqB K H b1 l1 xs/\SqB K H b2 l2 ys/\xs[i]?=some x/\ys[i]?=some y,
  fun i H v H'=>∃p x y,H p=none/\v=.ref p/\H'=upd H p (.tup [x,y])/\(∀xs,SqB K H b1 l1 xs->xs[i]?=some x)/\∀ys,SqB K H b2 l2 ys->ys[i]?=some y,
  fun i H=>∃xs ys,SqB K H b1 l1 xs/\SqB K H b2 l2 ys/\(xs.length<=i\/ys.length<=i)⟩
section
variable {prog:Program}{w:World}{A:Around}{E:Qq}{s:Shared}
theorem vK {z TI TO i1 i2 l1 l2:Addr}{b1 b2:Bool}{k1 k2:Nat}{xs ys:Array Value}{x y a b:Value}{Q:Option Value->Shared->Prop}(D:ZAp z TI TO i1 i2 l1 l2)
 (hz:IsZip s.heap z TI TO .none) (hI:IsPair s.heap TI (.ref i1) (.ref i2)) (hO:IsPair s.heap TO a b) (t1:SIt s.heap b1 i1 l1 k1) (t2:SIt s.heap b2 i2 l2 k2) (q1:SSq s.heap b1 l1 xs) (q2:SSq s.heap b2 l2 ys) (ex:xs[k1]?=some x) (ey:ys[k2]?=some y)
 (q:∀g,IsZip g z TI TO (rawInt s.heap.objs.size)->IsPair g TO x y->SIt g b1 i1 l1 (k1+1)->SIt g b2 i2 l2 (k2+1)->IsPair g s.heap.objs.size x y->(∀c o,c≠z->c≠TO->c≠i1->c≠i2->s.heap.get? c=some o->g.get? c=some o)->Q (some (.ref s.heap.objs.size)) { s with heap:=g }):
 wpAny (model prog w) A (pyNext (.ref z)) Q E s:=by
 have ty:s.TypeIs (.ref z) "zip":=⟨_,hz,rfl⟩
 unfold pyNext
 exact q9 (wpAny_attempt (wpAny_callSpecial?_slot (name:=Str.ofString "__next__") ty PySem.F.slot_zip_next (wpAny_call_entry PySem.F.slot_zip_next ty PySem.F.entry_zip_next (vM D hz hI hO t1 t2 q1 q2 ex ey fun g a1 a2 a3 a4 a5 a6=>qe (q g a1 a2 a3 a4 a5 a6)) (PySem.F.args_zip_next_1 _))))
theorem vL {z TI TO i1 i2 l1 l2:Addr}{b1 b2:Bool}{k1 k2:Nat}{xs ys:Array Value}{a b:Value}{Q:Option Value->Shared->Prop}(hh:A.handled=none) (D:ZAp z TI TO i1 i2 l1 l2)
 (hz:IsZip s.heap z TI TO .none) (hI:IsPair s.heap TI (.ref i1) (.ref i2)) (hO:IsPair s.heap TO a b) (t1:SIt s.heap b1 i1 l1 k1) (t2:SIt s.heap b2 i2 l2 k2) (q1:SSq s.heap b1 l1 xs) (q2:SSq s.heap b2 l2 ys) (hend:xs[k1]?=none\/ys[k2]?=none)
 (q:∀g,(∀c o,c≠z->c≠TO->c≠i1->c≠i2->s.heap.get? c=some o->g.get? c=some o)->Q none { s with heap:=g }):wpAny (model prog w) A (pyNext (.ref z)) Q E s:=by
 have ty:s.TypeIs (.ref z) "zip":=⟨_,hz,rfl⟩
 unfold pyNext
 refine q9 (wpAny_attempt (wpAny_callSpecial?_slot (name:=Str.ofString "__next__") ty PySem.F.slot_zip_next (wpAny_call_entry PySem.F.slot_zip_next ty PySem.F.entry_zip_next (vN hh D hz hI hO t1 t2 q1 q2 hend fun g e hk he=>?_) (PySem.F.args_zip_next_1 _))))
 obtain⟨o,ho,hc⟩:=he
 exact q9 (wpAny_isInstance (T:="StopIteration") (b:=true) ⟨o,ho,hc⟩ isSubtype_stop (qe (q _ hk)))
end
theorem vZ {P:Program}{w:World}{K:PySem.W.Frag}{elts:List Expr}{kk:Nat}{tp:Pos}{b1 b2:Bool}(z TI TO i1 i2 l1 l2:Addr) (D:ZAp z TI TO i1 i2 l1 l2):
 gQ P w K (.Tuple elts kk tp) (Itz K b1 b2 l1 l2) [z,TI,TO,i1,i2] z (fun i h=>IsZip h z TI TO .none/\IsPair h TI (.ref i1) (.ref i2)/\(∃a b,IsPair h TO a b)/\SIt h b1 i1 l1 i/\SIt h b2 i2 l2 i) where
 mem:=by simp
 obj:=fun i h st b hb=>by
  obtain⟨hz,hI,⟨a,c,hO⟩,t1,t2⟩:=st
  simp only[qu,qQ,or_false]at hb
  rcases hb with rfl|rfl|rfl|rfl|rfl
  ·exact⟨_,hz,fun v q=>by cases q⟩
  ·exact⟨_,hI,fun v q=>by cases q⟩
  ·exact⟨_,hO,fun v q=>by cases q⟩
  ·obtain⟨o,e,vs,d⟩:=t1.obj
   exact⟨o,e,fun v q=>by rw[d]at q;cases q⟩
  ·obtain⟨o,e,vs,d⟩:=t2.obj
   exact⟨o,e,fun v q=>by rw[d]at q;cases q⟩
 keep:=fun i h h' st k=>by
  obtain⟨hz,hI,⟨a,c,hO⟩,t1,t2⟩:=st
  exact⟨k z (by simp) _ hz,k TI (by simp) _ hI,⟨a,c,k TO (by simp) _ hO⟩,t1.keep fun o e=>k i1 (by simp) o e,t2.keep fun o e=>k i2 (by simp) o e⟩
 item:=by
  intro X hP hw hK hc i pins s σ H E I hf st hg
  subst hP hw hK
  obtain⟨hz,hI,⟨a,c,hO⟩,t1,t2⟩:=st
  obtain⟨xs,ys,x,y,hx,hy,ex,ey⟩:=hg
  obtain⟨its,rv,q1,z1⟩:=SqB.at I hx
  obtain⟨jts,rw',q2,z2⟩:=SqB.at I hy
  obtain⟨u,hu,ru⟩:=rv.get ex
  obtain⟨v,hv,rv'⟩:=rw'.get ey
  refine vK D hz hI hO t1 t2 q1 q2 (x:=u) (y:=v) (by simpa using hu) (by simpa using hv) fun g a1 a2 a3 a4 a5 a6=>⟨_,rfl,?_⟩
  refine wpAny_letOwnedTupleGo_zip a1 fun g' a1' sb=>?_
  obtain⟨⟨nIz,nOz,n1z,n2z,nIO,nI1,nI2,nO1,nO2,n12⟩,lne⟩:=id D
  have hT:∀b∈[z,TI,TO,i1,i2],s.heap.objs.size≠b:=fun b hb=>by
   have:∃o,s.heap.get? b=some o:=by
    simp only[qu,qQ,or_false]at hb
    rcases hb with rfl|rfl|rfl|rfl|rfl
    ·exact⟨_,hz⟩
    ·exact⟨_,hI⟩
    ·exact⟨_,hO⟩
    ·obtain⟨o,e,_⟩:=t1.obj;exact⟨o,e⟩
    ·obtain⟨o,e,_⟩:=t2.obj;exact⟨o,e⟩
   obtain⟨o,e⟩:=this
   exact Nat.ne_of_gt (qq e)
  have kk:∀b o,b∉[z,TI,TO,i1,i2]->s.heap.get? b=some o->g'.get? b=some o:=fun b o hb e=>by
   simp only[qu,qQ,or_false,not_or]at hb
   exact sb.extBut _ _ hb.1 (a6 b o hb.1 hb.2.2.1 hb.2.2.2.1 hb.2.2.2.2 e)
  have I1:Inv X pins σ H { s with heap:=g' }:=I.turnedL (t':=s.toks) kk hf
  have pT:IsPair g' s.heap.objs.size u v:=sb.extBut _ _ (hT z (by simp)) a5
  have fT:cY X pins H s.heap.objs.size:=I.fpOk (qf _) (I.hok.fresh (qf _))
  have I2:Inv X pins σ (upd H s.heap.objs.size (.tup [x,y])) { s with heap:=g' }:=I1.track fT I.sz ⟨by show 2<=sizeLine;decide,[u,v],.cons ru (.cons rv' .nil),⟨_,pT,rfl,_,rfl⟩⟩
  refine⟨.ref s.heap.objs.size,_,I2,rfl,⟨_,x,y,I.hok.fresh (qf _),rfl,rfl,fun xs' h=>by rw[SqB.inj I h hx];exact ex,fun ys' h=>by rw[SqB.inj I h hy];exact ey⟩,?_,fun b hb=>?_⟩
  ·exact⟨a1',sb.extBut _ _ nIz (a6 TI _ nIz nIO nI1 nI2 hI),⟨u,v,sb.extBut _ _ nOz a2⟩,a3.keep fun o e=>sb.extBut _ _ n1z e,a4.keep fun o e=>sb.extBut _ _ n2z e⟩
  ·rw[af (Ne.symm (hT b hb))]
   exact(hf b hb).1
 done:=by
  intro X hP hw hK hc i pins s σ H E I hf st hg
  subst hP hw hK
  obtain⟨hz,hI,⟨a,c,hO⟩,t1,t2⟩:=st
  obtain⟨xs,ys,hx,hy,hend⟩:=hg
  obtain⟨its,rv,q1,z1⟩:=SqB.at I hx
  obtain⟨jts,rw',q2,z2⟩:=SqB.at I hy
  have e1:=rv.length
  have e2:=rw'.length
  refine vL (I.ok.hd hc) D hz hI hO t1 t2 q1 q2 (by
   rcases hend with h|h
   ·exact .inl (by simp;omega)
   ·exact .inr (by simp;omega)) fun g k=>⟨rfl,I.turnedL (t':=s.toks) (ch:=[z,TI,TO,i1,i2]) (fun b o hb e=>?_) hf⟩
  simp only[qu,qQ,or_false,not_or]at hb
  exact k b o hb.1 hb.2.2.1 hb.2.2.2.1 hb.2.2.2.2 e
 self:=fun _ _ _ _ _ st h=>wpAny_pyIter_zip st.1 h
def fb (b:Bool) (l:Addr):Obj:={ cls:=.type (if b=true then "tuple_iterator" else "list_iterator"),data:=.fields #[.ref l,.int 0 0] }
theorem SIt.new {h:Heap}:∀{b:Bool}{it l:Addr},h.get? it=some (fb b l)->SIt h b it l 0
 |false,_,_,e=>⟨_,e,rfl,rfl⟩
 |true,_,_,e=>⟨_,e,rfl,rfl⟩
def zg2 (h:Heap) (b1 b2:Bool) (l1 l2:Addr):Heap:=(h.push (fb b1 l1)).push (fb b2 l2)
def zg3 (h:Heap) (b1 b2:Bool) (l1 l2:Addr):Heap:=(zg2 h b1 b2 l1 l2).push { cls:=.type "tuple",data:=.seq #[.ref h.objs.size,.ref (h.push (fb b1 l1)).objs.size] }
def zg4 (h:Heap) (b1 b2:Bool) (l1 l2:Addr):Heap:=(zg3 h b1 b2 l1 l2).push { cls:=.type "tuple",data:=.seq #[.none,.none] }
def zg5 (h:Heap) (b1 b2:Bool) (l1 l2:Addr):Heap:=(zg4 h b1 b2 l1 l2).push { cls:=.type "zip",data:=.fields #[.none,.bool false,.bool false,.ref (zg2 h b1 b2 l1 l2).objs.size,.ref (zg3 h b1 b2 l1 l2).objs.size] }
theorem uf {prog:Program}{w:World}{A:Around}{E:Qq}{s:Shared}{l:Addr}{xs:Array Value}{Q:Qq}:∀{b:Bool},SSq s.heap b l xs->Q (.ref s.heap.objs.size) { s with heap:=s.heap.push (fb b l) }->wpAny (model prog w) A (pyIter (.ref l)) Q E s
 |false,h,q=>wpAny_pyIter_list h q
 |true,h,q=>wpAny_pyIter_tuple h q
theorem SSq.push {h:Heap}{b:Bool}{l:Addr}{xs:Array Value}(x:SSq h b l xs) (o:Obj):SSq (h.push o) b l xs:=x.keep fun _ e=>qb _ e
set_option maxHeartbeats 8000000 in
theorem vJ (b1 b2:Bool) (l1 l2:Addr) (xs ys:Array Value):
 Meets (Builtin.«zip.__new__» ⟨[.type "zip",.ref l1,.ref l2],[]⟩) (fun _ R s=>SSq s.heap b1 l1 xs/\SSq s.heap b2 l2 ys/\R (.ok (.ret (.ref (zg4 s.heap b1 b2 l1 l2).objs.size))) { s with heap:=zg5 s.heap b1 b2 l1 l2 }):=
 .of_wp fun prog w A R s h=>by
  obtain⟨hp,g,d,tk,os⟩:=s
  obtain⟨h1,h2,h⟩:=h
  have hsub:=PySem.sub_zip
  have e1:SSq (Shared.heap ⟨hp,g,d,tk,os⟩) b1 l1 xs:=h1
  have e2:SSq (Shared.heap ⟨hp.push (fb b1 l1),g,d,tk,os⟩) b2 l2 ys:=SSq.push h2 _
  wp_walk using uf e1,uf e2
  exact⟨_,rfl,h⟩
section
variable {prog:Program}{w:World}{A:Around}{E:Qq}{s:Shared}
theorem Cd {b1 b2:Bool}{l1 l2:Addr}{xs ys:Array Value}{Q:Qq}(h1:SSq s.heap b1 l1 xs) (h2:SSq s.heap b2 l2 ys)
 (h:∀g n,n=s.heap.objs.size->IsZip g (n+4) (n+2) (n+3) .none->IsPair g (n+2) (.ref n) (.ref (n+1))->IsPair g (n+3) .none .none->SIt g b1 n l1 0->SIt g b2 (n+1) l2 0->
  (∀c o,s.heap.get? c=some o->g.get? c=some o)->Q (.ref (n+4)) { s with heap:=g }):wpAny (model prog w) A (call (.type "zip") [.ref l1,.ref l2]) Q E s:=by
 refine callType_new PySem.F.called_zip Qk (PySem.F.typeCall_zip_2 _ _) (PySem.F.newCall_zip_2 _ _) (fun obj=>PySem.F.args_object_init_3 obj _ _) PySem.F.entry_zip_new (vJ b1 b2 l1 l2 xs ys) ⟨h1,h2,?_⟩
 have e1:(s.heap.push (fb b1 l1)).objs.size=s.heap.objs.size+1:=Heap.size_push ..
 have e2:(zg2 s.heap b1 b2 l1 l2).objs.size=s.heap.objs.size+2:=by unfold zg2;rw[Heap.size_push,e1]
 have e3:(zg3 s.heap b1 b2 l1 l2).objs.size=s.heap.objs.size+3:=by unfold zg3;rw[Heap.size_push,e2]
 have e4:(zg4 s.heap b1 b2 l1 l2).objs.size=s.heap.objs.size+4:=by unfold zg4;rw[Heap.size_push,e3]
 have p:∀{c:Addr}{o:Obj},(zg4 s.heap b1 b2 l1 l2).get? c=some o->(zg5 s.heap b1 b2 l1 l2).get? c=some o:=fun q=>qb _ q
 have p4:∀{c:Addr}{o:Obj},(zg3 s.heap b1 b2 l1 l2).get? c=some o->(zg4 s.heap b1 b2 l1 l2).get? c=some o:=fun q=>qb _ q
 have p3:∀{c:Addr}{o:Obj},(zg2 s.heap b1 b2 l1 l2).get? c=some o->(zg3 s.heap b1 b2 l1 l2).get? c=some o:=fun q=>qb _ q
 have p2:∀{c:Addr}{o:Obj},(s.heap.push (fb b1 l1)).get? c=some o->(zg2 s.heap b1 b2 l1 l2).get? c=some o:=fun q=>qb _ q
 have g5:(zg5 s.heap b1 b2 l1 l2).get? (zg4 s.heap b1 b2 l1 l2).objs.size=some _:=qp _ rfl
 have g4:(zg5 s.heap b1 b2 l1 l2).get? (zg3 s.heap b1 b2 l1 l2).objs.size=some _:=p (qp _ rfl)
 have g3:(zg5 s.heap b1 b2 l1 l2).get? (zg2 s.heap b1 b2 l1 l2).objs.size=some _:=p (p4 (qp _ rfl))
 have g2:(zg5 s.heap b1 b2 l1 l2).get? (s.heap.push (fb b1 l1)).objs.size=some _:=p (p4 (p3 (qp _ rfl)))
 have g1:(zg5 s.heap b1 b2 l1 l2).get? s.heap.objs.size=some _:=p (p4 (p3 (p2 (qp _ rfl))))
 show _/\_
 rw[e2,e3,e4]at g5
 rw[e1,e2]at g3
 rw[e3]at g4
 rw[e1]at g2
 rw[e4]
 exact⟨⟨_,g5,rfl⟩,h _ _ rfl g5 g3 g4 (SIt.new g1) (SIt.new g2) fun c o x=>p (p4 (p3 (p2 (qb _ x))))⟩
end
section
variable {X:Cx}
def Bk (K:PySem.W.Frag) (ta:TA):TI:=fun σ H R=>ta σ H fun vs H1=>∃b1 b2 l1 l2 xs ys,vs=[.ref l1,.ref l2]/\SqB K H1 b1 l1 xs/\SqB K H1 b2 l2 ys/\R (Itz K b1 b2 l1 l2) H1
theorem zi {a b:Expr}{ta:TA}{p pos tp:Pos}{elts:List Expr}{kk:Nat}(hg:Gl X "zip") (hm:X.mg "zip"=none) (ha:PA X [a,b] ta) (hs:starEach [a,b] X.env=[(false,eval a X.env),(false,eval b X.env)]:=by rfl) (hs2:starEach [b] X.env=[(false,eval b X.env)]:=by rfl):
 PI X (.Tuple elts kk tp) (.Call (.Name "zip" p) [a,b] [] pos) (Bk X.K ta):=by
 intro pins s σ H R I h
 refine Call_ (g6 I hg hm PyProof.Rows.Boot.«zip» (PyProof.Rows.callWith_type1 (thn (ha pos pins s σ H _ I h) fun us s1 ⟨vs,H1,I1,r1,q1⟩=>?_) (by rw[hs,hs2]) (by rw[hs2];rfl)))
 obtain⟨b1,b2,l1,l2,xs,ys,rfl,hx,hy,q⟩:=q1
 obtain⟨u,u',rfl,ru,ru'⟩:=iu r1
 cases ru
 cases ru'
 obtain⟨its,rv,s1',z1⟩:=SqB.at I1 hx
 obtain⟨jts,rw',s2',z2⟩:=SqB.at I1 hy
 refine Cd s1' s2' fun g n hn a1 a2 a3 a4 a5 k=>?_
 have lt:∀c,c=l1\/c=l2->c<n:=fun c hc=>by
  rw[hn]
  rcases hc with rfl|rfl
  ·obtain⟨o,e,_⟩:=s1'.obj;exact qq e
  ·obtain⟨o,e,_⟩:=s2'.obj;exact qq e
 refine wpAny_pyIter_zip a1 ⟨n+4,[n+4,n+2,n+3,n,n+1],_,_,H1,rfl,I1.kept (t':=s1.toks) k,vZ (n+4) (n+2) (n+3) n (n+1) l1 l2 ⟨?_,fun c hc=>?_⟩,⟨a1,a2,⟨_,_,a3⟩,a4,a5⟩,fun b hb=>?_,q⟩
 ·have e:∀i j:Nat,i≠j->n+i≠n+j:=fun i j h z=>h (Nat.add_left_cancel z)
  exact⟨e 2 4 Qk,e 3 4 Qk,e 0 4 Qk,e 1 4 Qk,e 2 3 Qk,e 2 0 Qk,e 2 1 Qk,e 3 0 Qk,e 3 1 Qk,e 0 1 Qk⟩
 ·have q:=lt c hc
  have e:∀i:Nat,c≠n+i:=fun i=>qG (qD q (Nat.le_add_right _ _))
  exact⟨e 4,e 3,e 0,e 1,e 2⟩
 ·have e:∀i:Nat,cY X pins H1 (n+i):=fun i=>I1.fpOk (by rw[hn];exact Nat.le_add_right _ _) (I1.hok.fresh (by rw[hn];exact Nat.le_add_right _ _))
  simp only[qu,qQ,or_false]at hb
  rcases hb with rfl|rfl|rfl|rfl|rfl
  ·exact e 4
  ·exact e 2
  ·exact e 3
  ·exact e 0
  ·exact e 1
end
open PySem.Builtin.Str in
section
variable {X:Cx}
end
@[irreducible] def rStrAny:List V->Hp->VK->Prop:=fun xs H Q=>(∃z:Str,xs=[.str z]/\Q (.str z) H)\/∃i:Int,xs=[.int i]/\i.natAbs.log2<1920/\Q (.str (toString i)) H
section
variable {X:Cx}
end
mutual
inductive Dt (K:PySem.W.Frag) (H:Hp):V->PyData->Prop
 |non:Dt K H .non .none
 |bl (b:Bool):Dt K H (.bl b) (.bool b)
 |int (i:Int):Dt K H (.int i) (.int i)
 |str (x:Str):Dt K H (.str x) (.str x)
 |lst {a:Addr}{xs:List V}{ds:List PyData}:SqL K H a xs->dN K H xs ds->Dt K H (.ref a) (.list ds)
 |tup {a:Addr}{xs:List V}{ds:List PyData}:SqT K H a xs->dN K H xs ds->Dt K H (.ref a) (.tuple ds)
inductive dN (K:PySem.W.Frag) (H:Hp):List V->List PyData->Prop
 |nil:dN K H [] []
 |cons {v:V}{vs:List V}{d:PyData}{ds:List PyData}:Dt K H v d->dN K H vs ds->dN K H (v::vs) (d::ds)
end
section
variable {X:Cx}{pins:List (Addr×Obj)}{σ:St}{H:Hp}{s:Shared}
mutual
theorem Dt.reads (I:Inv X pins σ H s):∀{v:V}{d:PyData},Dt X.K H v d->∀{u:Value},ax v u->∃as,Reads s.heap u d as
 |_,_,.non,_,r=>by cases r;exact⟨_,.none⟩
 |_,_,.bl b,_,r=>by cases r;exact⟨_,.bool b⟩
 |_,_,.int i,_,r=>by obtain⟨t,rfl⟩:=r;exact⟨_,.int i t⟩
 |_,_,.str x,_,r=>by obtain⟨t,rfl⟩:=r;exact⟨_,.str x t⟩
 |_,_,.lst hq ha,_,r=>by
  cases r
  obtain⟨its,rv,⟨o,n,e,c,_,d⟩,_⟩:=I.list hq
  obtain⟨as,z⟩:=dN.reads I ha rv
  exact⟨_,.list e c d (by simpa using z)⟩
 |_,_,.tup hq ha,_,r=>by
  cases r
  obtain⟨its,rv,⟨o,e,c,n,d⟩,_⟩:=I.tuple hq
  obtain⟨as,z⟩:=dN.reads I ha rv
  exact⟨_,.tuple e c d (by simpa using z)⟩
theorem dN.reads (I:Inv X pins σ H s):∀{vs:List V}{ds:List PyData},dN X.K H vs ds->∀{us:List Value},av vs us->∃as,ReadsAll s.heap us ds as
 |_,_,.nil,_,r=>by cases r;exact⟨_,.nil⟩
 |_,_,.cons h t,_,r=>by
  cases r with
  |cons r1 r2=>
   obtain⟨as,z⟩:=Dt.reads I h r1
   obtain⟨bs,z'⟩:=dN.reads I t r2
   exact⟨_,.cons z z'⟩
end
end
section
variable {X:Cx}
theorem mK (hu:X.A.units+64<cLine):OpR X (compareOp .NotEq) (fun x y H Q=>∃d e,Dt X.K H x d/\Dt X.K H y e/\SeqAt.shaped d=true/\SeqAt.shaped e=true/\Q (.bl (!PyData.eqv d e)) H):=by
 intro pins s σ H x y v u Q I rx ry h
 obtain⟨d,e,h1,h2,s1,s2,q⟩:=h
 obtain⟨as,r1⟩:=h1.reads I rx
 obtain⟨bs,r2⟩:=h2.reads I ry
 exact ne_dataH r1 r2 s1 s2 hu ⟨.bl _,H,I,rfl,q⟩
end
theorem Bv {K:PySem.W.Frag}{b1 b2:Bool}{l1 l2:Addr}{xs ys:List V}{g:TG}{tb:TS}{D:eF}{σ:St}{H:Hp}(Pv:Nat->St->Hp->Prop) (h0:Pv 0 σ H) (hl:∀i σ H,Pv i σ H->SqB K H b1 l1 xs/\SqB K H b2 l2 ys)
 (hs:∀i x y σ H p,xs[i]?=some x->ys[i]?=some y->Pv i σ H->H p=none->g (.ref p) σ (upd H p (.tup [x,y])) fun σ2 H2=>tb { D with nx:=Pv (i+1),ct:=Pv (i+1),bk:=D.nx } σ2 H2) (hd:∀σ H,Pv (min xs.length ys.length) σ H->D.nx σ H):
 ∃W:Nat->Nat->St->Hp->Prop,(∃m,W 0 m σ H)/\∀i m σ H,W i m σ H->
  ((Itz K b1 b2 l1 l2).stop i H/\D.nx σ H)\/((Itz K b1 b2 l1 l2).go i H/\∃N:St->Hp->Prop,(∀σ' H',N σ' H'->∃m',m'<m/\W (i+1) m' σ' H')/\∀x H',(Itz K b1 b2 l1 l2).yld i H x H'->g x σ H' fun σ2 H2=>tb { D with nx:=N,ct:=N,bk:=D.nx } σ2 H2):=by
 refine⟨fun i m σ H=>m=min xs.length ys.length-i/\i<=min xs.length ys.length/\Pv i σ H,⟨_,rfl,qt _,h0⟩,?_⟩
 rintro i m σ H ⟨rfl,hi,p⟩
 obtain⟨q1,q2⟩:=hl i σ H p
 by_cases hlt:i<min xs.length ys.length
 ·have h1:i<xs.length:=by omega
  have h2:i<ys.length:=Qo
  refine .inr ⟨⟨xs,ys,xs[i],ys[i],q1,q2,by simp[h1],by simp[h2]⟩,Pv (i+1),fun σ' H' p'=>⟨_,Qo,rfl,hlt,p'⟩,fun v H' y=>?_⟩
  obtain⟨a,x,y,hn,rfl,rfl,e1,e2⟩:=y
  exact hs i x y σ H a (e1 xs q1) (e2 ys q2) p hn
 ·have e:i=min xs.length ys.length:=by omega
  subst e
  exact .inl ⟨⟨xs,ys,q1,q2,Qo⟩,hd σ H p⟩
theorem kg {K:PySem.W.Frag}{a:Addr}{xs:List V}{g:TG}{tt:TT}{te:TE}{Fin:List V->Hp->Prop}{σ:St}{H:Hp}(Pv:Nat->List V->St->Hp->Prop) (h0:Pv 0 [] σ H) (hz:∀i ys σ H,i<=xs.length->Pv i ys σ H->ys.length<=i) (hx:xs.length<=sizeLine) (hl:∀i ys σ H,Pv i ys σ H->SqL K H a xs)
 (hs:∀i x ys σ H,xs[i]?=some x->Pv i ys σ H->g x σ H fun σ2 H2=>tt σ2 H2 fun b H3=>if b=true then te σ2 H3 fun y H4=>Pv (i+1) (ys++[y]) σ2 H4 else Pv (i+1) ys σ2 H3)
 (hd:∀ys σ H,Pv xs.length ys σ H->Fin ys H):∃W:Nat->Nat->List V->St->Hp->Prop,(∃m,W 0 m [] σ H)/\gT (Itl K a) g tt te Fin W:=by
 refine⟨fun i m ys σ H=>m=xs.length-i/\i<=xs.length/\Pv i ys σ H,⟨_,rfl,qt _,h0⟩,?_⟩
 rintro i m ys σ H ⟨rfl,hi,p⟩
 have hl':=hz i ys σ H hi p
 have q:=hl i ys σ H p
 by_cases hlt:i<xs.length
 ·refine .inr ⟨⟨xs,xs[i],q,by simp[hlt]⟩,Qo,Pv (i+1),fun ys' σ' H' p'=>⟨_,Qo,rfl,hlt,p'⟩,fun v H' y=>?_⟩
  obtain⟨e,y⟩:=y
  subst e
  exact hs i v ys σ _ (y xs q) p
 ·have e:i=xs.length:=by omega
  subst e
  exact .inl ⟨⟨xs,q,qf _⟩,Qo,hd ys σ H p⟩
end L2
namespace L2
open PySem PySem.Spec PyProof.Rows
section
variable {X:Cx}{tg:Expr}
end
section
variable {X:Cx}
end
end L2
namespace L2
open PySem PySem.Spec PyProof.Rows PySem.NumText
def wl:List Nat->List Nat->List (List Nat)
 |[],cur=>if cur=[]then[]else[cur]
 |c::r,cur=>if c=32 then(if cur=[]then wl r []else cur::wl r [])else wl r (cur++[c])
theorem sV {X:Cx}{pins:List (Addr×Obj)}{Nc:List Str}{scope:Scope}{fp:List Addr}{s:Shared}{H:Hp}{C:Addr}{es:List Expr}{k:Nat}{t:TGs}{pos:Pos}(n:Nat) (hc:X.calm=true) (h:PGs (X.comp pins Nc scope fp s H C) es t)
 (hn:(assignEach es (X.comp pins Nc scope fp s H C).env).length=n:=by rfl) (hst:(assignEach es (X.comp pins Nc scope fp s H C).env).findIdx? (·.1)=none:=by rfl):PG (X.comp pins Nc scope fp s H C) (.Tuple es k pos) (uk X.K n t):=
 dR (X:=X.comp pins Nc scope fp s H C) hc h hn hst
theorem nu {α:Type}{P R:α->Prop}{c A B:Prop}{inst:Decidable c}{w:α}(hw:¬ c->P w) (rest:∀w,P w->R w) (h:c->(∀w,P w->R w)->A) (e:B=R w:=by rfl):@ite Prop c inst A B:=by
 subst e
 by_cases hc:c
 ·rw[Q0 hc];exact h hc rest
 ·rw[qZ hc];exact rest w (hw hc)
end L2
namespace L2
open PySem PySem.Spec PyProof.Rows PySem.W
section
variable {prog:Program}{w:World}{A:Around}{R:Result->Shared->Prop}{E:Qq}{h:Heap}{g:Array GenState}{d:Drawn}{t:Nat}{os:OsState}
variable {nm q:Str}{C N f:Addr}{bs bm:List Value}{hdct:Bool}{sn:List Str}{sub:List Value}{ab:Bool}{col:Option Bool}{dd:Option Addr}{k0 k1 k2 k3 k5:Option Value}
end
section
variable {prog:Program}{w:World}{A:Around}{R:Result->Shared->Prop}{E:Qq}{h:Heap}{g:Array GenState}{d:Drawn}{t:Nat}{os:OsState}
variable {nm q:Str}{C N x:Addr}{bs bm:List Value}{sn:List Str}{sub:List Value}{ab:Bool}{col:Option Bool}{dd:Option Addr}{k0 k1 k2 k3 k5:Option Value}{newId:String}{name:Str}{v:Value}{o:Obj}{fs:Array Value}
end
section
variable {prog:Program}{w:World}{A:Around}{R:Result->Shared->Prop}{E:Qq}{h:Heap}{g:Array GenState}{d:Drawn}{t:Nat}{os:OsState}
variable {nm q:Str}{C N e:Addr}{bs bm:List Value}{hdct:Bool}{sn:List Str}{sub:List Value}{ab:Bool}{col:Option Bool}{dd:Option Addr}{k0 k1 k2 k3 k5:Option Value}{newId:String}{oe:Obj}
end
section
variable {X:Cx}{pins:List (Addr×Obj)}{σ:St}{H:Hp}{s:Shared}{a C f dx:Addr}
end
section
variable {X:Cx}{pins:List (Addr×Obj)}{σ:St}{H:Hp}{s:Shared}{a C f dx:Addr}{h':Heap}
end
section
variable {M:Model}{A:Around}{E:Qq}{s:Shared}{base:Heap}{env:Env}{outer:List Env}{L e:Addr}{oe:Obj}{vs:Array Value}
end
section
variable {P:Program}{w:World}{K:PySem.W.Frag}{mg:Str->Option Value}{base:Heap}{N:List Str}{qual:Str}{scope:Scope}{f:Addr}{cdv:Value}{A:Around}{outer:List Env}{s0:Shared}{H0:Hp}{E:XK}
end
section
variable {M:Model}{A:Around}{E:Qq}{env:Env}
variable {nm q:Str}{C N:Addr}{bs bm:List Value}{hdct:Bool}{sn:List Str}{sub:List Value}{ab:Bool}{col:Option Bool}{dd:Option Addr}{k0 k1 k2 k3 k5:Option Value}{newId:String}
end
section
variable {X:Cx}{CX:CXT}{k:Nat}{f C:Addr}{fd:FuncData}{ps:List Str}{sp:Sp}{x:Str}{p pos cpos:Pos}{e:Expr}{es:List Expr}{t:TA}
end
section
variable {M:Model}{A:Around}{E:Qq}{h:Heap}{g:Array GenState}{d:Drawn}{t:Nat}{os:OsState}{e:Addr}{oe:Obj}
variable {nm q:Str}{C N:Addr}{bs bm:List Value}{hdct:Bool}{sn:List Str}{sub:List Value}{ab:Bool}{col:Option Bool}{dd:Option Addr}{k0 k1 k2 k3 k5:Option Value}{newId:String}
variable {nm' q':Str}{C' N':Addr}{bs' bm':List Value}{hdct':Bool}{sn':List Str}{sub':List Value}{ab':Bool}{col':Option Bool}{dd':Option Addr}{k0' k1' k2' k3' k5':Option Value}{newId':String}
end
section
variable {X:Cx}{pins:List (Addr×Obj)}{σ:St}{H:Hp}{s:Shared}{a:Addr}{oe:Obj}{vs:Array Value}{ex:List Addr}{fl:Value}{h':Heap}
end
section
variable {X:Cx}{k:Nat}{f C0:Addr}{fd:FuncData}{ps:List Str}{sp:Sp}{dvs:List V}{ds:List Value}{fx cx y m n:Str}{iy im inn:Nat}{p pos apos py cp pm pn pa hpos tpos:Pos}{e:Expr}{es:List Expr}{t:TA}
end
section
variable {prog:Program}{w:World}{A:Around}{E:Qq}{h:Heap}{g:Array GenState}{d:Drawn}{t:Nat}{os:OsState}{a dx:Addr}{o:Obj}{vs:Array Value}
 {nm q:Str}{C N:Addr}{bs bm:List Value}{sn:List Str}{sub:List Value}{ab:Bool}{col:Option Bool}{dd:Option Addr}{k0 k1 k2 k3 k5:Option Value}{newId:String}{mA:Str->Option Value}{name:Str}{v:Value}
end
section
variable {X:Cx}{e:Expr}{te:TE}{pos:Pos}
end
section
variable {P:Program}{w:World}{K:PySem.W.Frag}{mg:Str->Option Value}{base:Heap}
end
section
variable {prog:Program}{w:World}{A:Around}{E:Qq}{h:Heap}{g:Array GenState}{d:Drawn}{t:Nat}{os:OsState}{a:Addr}{o:Obj}{vs:Array Value}
 {nm q:Str}{C N:Addr}{bs bm:List Value}{sn:List Str}{sub:List Value}{ab:Bool}{col:Option Bool}{dd:Option Addr}{k0 k1 k2 k3 k5:Option Value}{newId:String}
end
section
variable {X:Cx}
end
end L2
namespace L2
open PySem PySem.Spec PyProof.Rows
section
variable {X:Cx}
end
theorem du {x y:Int}(c:decide (V.int x=V.int y)=true):x=y:=by injection (of_decide_eq_true c)
theorem dL {x y:Int}(c:¬ decide (V.int x=V.int y)=true):¬ x=y:=fun e=>c (decide_eq_true (by rw[e]))
end L2
namespace L2
open PySem
def txt (v:Value):Str:=match v with|.str x _=>x|_=>""
structure bN (P:Program) (w:World) (es:Array (Int×Value)) (t:SetTable) (ys:List Str):Prop where
 el:ElemsOf (strKind P w) es.toList
 nd:(es.toList.map fun e=>txt e.2).Nodup
 mem:∀k,k∈(es.toList.map fun e=>txt e.2)↔k∈ys
 few:es.size<scanBound
 fit:t.fits es.size=true
 led:t.led=!w.params.followText "set-order"
 pl:0<es.size->t.plain=false
theorem jX {P:Program}{w:World}{k:Str}{v:Value}(h:(strKind P w).is k v=true):txt v=k:=by
 obtain⟨t,rfl⟩:=Value.isStrOf_shape h
 rfl
theorem x6 (t:SetTable) (n:Nat):(t.orStandIn n).led=t.led/\(t.plain=false->(t.orStandIn n).plain=false):=by
 unfold SetTable.orStandIn
 split
 ·exact⟨rfl,fun z=>z⟩
 ·exact⟨rfl,fun _=>rfl⟩
theorem AX (t:SetTable) (es:Array (Int×Value)) (h:Int) (x:Value):(layNew t es h x).2.1.led=t.led/\(t.plain=false->(layNew t es h x).2.1.plain=false):=by
 unfold layNew
 split
 ·exact x6 (t.put _).1 _
 ·exact⟨rfl,fun _=>rfl⟩
theorem yq (t:SetTable) (es:Array (Int×Value)) (n:Nat):(relayAll t es n).2.1.led=t.led/\(t.plain=false->(relayAll t es n).2.1.plain=false):=by
 unfold relayAll SetTable.standIn
 split
 ·rename_i t' order he
  unfold SetTable.relaid SetTable.laid at he
  have:t'.led=t.led/\t'.plain=t.plain:=by
   simp only[Option.bind_eq_bind,Option.bind_eq_some_iff]at he
   obtain⟨ow,_,he⟩:=he
   injection he with he
   injection he with h1 h2
   rw[<- h1]
   exact⟨rfl,rfl⟩
  dsimp only
  split
  ·exact⟨this.1,fun z=>this.2.trans z⟩
  ·exact⟨rfl,fun _=>rfl⟩
 ·exact⟨rfl,fun _=>rfl⟩
def aW (es:Array (Int×Value)) (ep:Nat) (t:SetTable):Obj:={ cls:=.type "set",dict:=none,data:=.set es ep t }
section
variable {P:Program}{w:World}{A:Around}{E:Qq}{s:Shared}
theorem kG {a:Addr}{es es':Array (Int×Value)}{ep:Nat}{t t':SetTable}(ho:s.heap.get? a=some (aW es ep t)):
 (s.heap.update a (Obj.putSet es' t')).get? a=some (aW es' (ep+1) t'):=by
 have hd:(aW es ep t).data=.set es ep t:=rfl
 have:=Heap.get?_update_self (Obj.putSet es' t') ho (by rw[putSet_of es' t' hd];rfl)
 rw[putSet_of es' t' hd]at this
 exact this
theorem vy {a:Addr}{es:Array (Int×Value)}{ep:Nat}{t:SetTable}{ys:List Str}{k:Str}{tk:Tok}{Q:Bool->Shared->Prop}
 (ho:s.heap.get? a=some (aW es ep t)) (T:bN P w es t ys) (room:es.size+1<scanBound)
 (h:∀(b:Bool) h' es' ep' t',Heap.SameBut a s.heap h'->h'.get? a=some (aW es' ep' t')->bN P w es' t' (ys++[k])->es'.size<=es.size+1->Q b { s with heap:=h' }):
 wpAny (model P w) A (setAddHashed a (.str k tk) (hashStr w k)) Q E s:=by
 have hkey:(strKind P w).is k (.str k tk)=true:=by
  show Value.isStrOf k (.str k tk)=true
  simp[Value.isStrOf]
 have hsc:(Value.str k tk).scannable=true:=rfl
 have hd:(aW es ep t).data=.set es ep t:=rfl
 unfold setAddHashed setAddHashedIn
 refine wpAny_holding (q9 (qW ho hd T.fit ?_))
 dsimp only
 rw[byScan_of hsc T.few T.el]
 simp only[↓reduceIte]
 unfold setAddByScan
 refine q9 ?_
 refine q9 (wpAny_rule ?_)
 refine q9 (wpAny_setScan_of (knd:=strKind P w) (k:=k) hkey ho hd T.fit T.el ?_)
 cases hr:List.findIdx? (fun e=>(strKind P w).is k e.2) es.toList with
 |some j=>
  dsimp only
  obtain⟨hj,hpj,_⟩:=List.findIdx?_eq_some_iff_getElem.mp hr
  refine qe (qe ?_)
  have:=h false s.heap es ep t (Heap.SameBut.refl a s.heap) ho ⟨T.el,T.nd,fun k'=>?_,T.few,T.fit,T.led,T.pl⟩ Qo
  ·exact this
  ·rw[T.mem k',qi,qS]
   refine⟨.inl,fun z=>z.elim id fun e=>?_⟩
   rw[<- T.mem,e,<- jX hpj]
   exact List.mem_map.mpr ⟨_,List.getElem_mem hj,rfl⟩
 |none=>
  dsimp only
  have hnew:k∉es.toList.map fun e=>txt e.2:=by
   intro hm
   obtain⟨e,he,hk⟩:=List.mem_map.mp hm
   have hn:=List.findIdx?_eq_none_iff.mp hr e he
   obtain⟨⟨k',hk',_⟩,_⟩:=T.el e he
   rw[jX hk']at hk
   subst hk
   rw[hk']at hn
   cases hn
  have hgw:∀(b:Bool) {s₁:Shared}{Q':Unit->Shared->Prop},Q' () s₁->wpAny (model P w) A (match b with|true=>rule "set.scan.the-table-gave-way"|false=>pure ()) Q' E s₁:=by
   intro b s₁ Q' hq
   cases b
   ·exact qe hq
   ·exact wpAny_rule hq
  have hperm:=layNew_perm t es (hashStr w k) (.str k tk)
  have hfits:=layNew_fits t es (hashStr w k) (.str k tk)
  have hled:=AX t es (hashStr w k) (.str k tk)
  show wpAny _ _ (match layNew t es (hashStr w k) (.str k tk)with|(es,t,wasDummy,gave)=>_) _ _ _
  generalize layNew t es (hashStr w k) (.str k tk)=Ln at hperm hfits hled ⊢
  obtain⟨es1,t1,wd,gv⟩:=Ln
  dsimp only at hperm hfits hled ⊢
  rw[Array.toList_push]at hperm
  have hsz1:es1.size=es.size+1:=by rw[<- qM,hperm.length_eq,qc,qM];rfl
  have tab:∀(es2:Array (Int×Value)) (t2:SetTable),es2.toList.Perm es1.toList->t2.fits es2.size=true->t2.led=t.led->t2.plain=false->bN P w es2 t2 (ys++[k]):=fun es2 t2 hp hf hl hpl=>by
   have hp':=hp.trans hperm
   refine⟨(T.el.push hkey hsc).perm hp',?_,fun k'=>?_,?_,hf,hl.trans T.led,fun _=>hpl⟩
   ·refine(hp'.map _).nodup_iff.mpr ?_
    rw[qO,List.nodup_append]
    refine⟨T.nd,by simp,fun x hx y hy=>?_⟩
    simp only[qR,List.map_nil,qS]at hy
    rintro rfl
    rw[hy]at hx
    exact hnew hx
   ·rw[(hp'.map _).mem_iff,qO,qi,T.mem k',qi]
    rfl
   ·rw[<- qM,hp'.length_eq,qc,qM]
    exact room
  refine q9 (hgw _ ?_)
  have tail:∀t2:SetTable,t2.fits es1.size=true->t2.led=t.led->t2.plain=false->∀R:Option Bool->Shared->Prop,(∀h' es' ep' t',Heap.SameBut a s.heap h'->h'.get? a=some (aW es' ep' t')->bN P w es' t' (ys++[k])->es'.size<=es.size+1->R (some true) { s with heap:=h' })->
   wpAny (model P w) A (do
    storeSet a es1 t2
    if(!wd && t2.tooFull)=true then do
     (match(relayAll t2 es1 (SetTable.grown es1.size)).2.2 with|true=>rule "set.scan.the-table-gave-way"|false=>pure ())
     storeSet a (relayAll t2 es1 (SetTable.grown es1.size)).1 (relayAll t2 es1 (SetTable.grown es1.size)).2.1
     pure (some true)
    else pure (some true)) R E s:=fun t2 hf hl hpl R hR=>by
   have room1:es1.size<=sizeLine:=fits_of_scanBound (by rw[hsz1];exact room)
   refine q9 (wpAny_storeSet_of ho hd ?_ room1)
   have ho1:=kG (s:=s) (es':=es1) (t':=t2) ho
   have sb1:=Heap.SameBut.update s.heap a (Obj.putSet es1 t2)
   split
   ·have hp:=relayAll_perm t2 es1 (SetTable.grown es1.size)
    have hfr:=relayAll_fits t2 es1 (SetTable.grown es1.size)
    have hlr:=yq t2 es1 (SetTable.grown es1.size)
    generalize relayAll t2 es1 (SetTable.grown es1.size)=Rl at hp hfr hlr ⊢
    obtain⟨es2,t3,g2⟩:=Rl
    dsimp only at hp hfr hlr ⊢
    have hsz2:es2.size=es1.size:=by rw[<- qM,hp.length_eq,qM]
    refine q9 (hgw _ ?_)
    refine q9 (wpAny_storeSet_of (s:={ s with heap:=s.heap.update a (Obj.putSet es1 t2) }) ho1 rfl ?_ (by rw[hsz2];exact room1))
    exact qe (hR _ es2 _ t3 (sb1.trans (Heap.SameBut.update _ a _)) (kG (s:={ s with heap:=s.heap.update a (Obj.putSet es1 t2) }) ho1) (tab es2 t3 hp hfr (hlr.1.trans hl) (hlr.2 hpl)) Qo)
   ·exact qe (hR _ es1 _ t2 sb1 ho1 (tab es1 t2 (.refl _) hf hl hpl) Qo)
  split
  ·refine q9 ?_
   rw[hashByValue_scannable 8 hsc]
   refine qe ?_
   refine tail _ (SetTable.fits_plain_off hfits) hled.1 rfl _ fun h' es' ep' t' a1 a2 a3 a4=>?_
   exact qe (h true h' es' ep' t' a1 a2 a3 a4)
  ·rename_i hpl
   refine q9 (qe ?_)
   simp only[↓reduceIte]
   refine tail _ hfits hled.1 (by simpa using hpl) _ fun h' es' ep' t' a1 a2 a3 a4=>?_
   exact qe (h true h' es' ep' t' a1 a2 a3 a4)
end
section
variable {P:Program}{w:World}{A:Around}{E:Qq}{s:Shared}
theorem BC {R:Result->Shared->Prop}{I:Addr}{fp wr:List Addr}{G:Array GenState->Array GenState->Prop}{n:Nat}{PI:Nat->Value->Prop}{St:Nat->Shared->Prop}
 (W:WalksS P w A.in1 I fp wr G n PI St) (S:Addr) (hSf:S∉fp) (zs:List Str) (hz:∀i v,PI i v->∃k t,zs[i]?=some k/\v=.str k t) (hb:n+1<scanBound):
 ∀(k i:Nat) (s:Shared),n-i=k->i<=n->St i s->
  (∃es ep t,s.heap.get? S=some (aW es ep t)/\bN P w es t (zs.take i)/\es.size<=i)->
  (∀s',Moved (S::wr) G s s'->(∃es ep t,s'.heap.get? S=some (aW es ep t)/\bN P w es t (zs.take n)/\es.size<=n)->R (.ok (.ret .none)) s')->
  codeAny (model P w) A (.builtin "set.update.loop" ⟨[.ref S,.ref I],[]⟩) R s:=by
 have hSw:S∉wr:=fun z=>hSf (W.sub _ z)
 have up:∀b∈wr,b∈S::wr:=fun b z=>ql _ z
 intro k
 induction k with
 |zero=>
  intro i s hk hi hst hS hR
  obtain rfl:i=n:=Qo
  refine codeAny_builtin PyProof.Rows.F.entry_set_update_loop ?_
  rw[Around.under_plainId PyProof.Rows.F.plain_set_update_loop _]
  show wpAny _ A.in1 (pyNext (.ref I) >>= _) _ _ s
  refine q9 (W.done s _ _ hst fun s' hm=>?_)
  show wpAny _ A.in1 (ret Value.none) _ _ s'
  obtain⟨es,ep,t,h1,h2,h3⟩:=hS
  exact qe (hR s' (hm.mono up) ⟨es,ep,t,hm.heap S _ hSw h1,h2,h3⟩)
 |succ k ih=>
  intro i s hk hi hst hS hR
  have lt:i<n:=Qo
  refine codeAny_builtin PyProof.Rows.F.entry_set_update_loop ?_
  rw[Around.under_plainId PyProof.Rows.F.plain_set_update_loop _]
  show wpAny _ A.in1 (pyNext (.ref I) >>= _) _ _ s
  refine q9 (W.item i s _ _ lt hst fun v s' hP hst' hm=>?_)
  obtain⟨z,t,hzi,rfl⟩:=hz i v hP
  obtain⟨es,ep,tb,h1,h2,h3⟩:=hS
  have h1':=hm.heap S _ hSw h1
  show wpAny _ A.in1 (holding [Value.str z t] (setAdd S (.str z t)) >>= _) _ _ s'
  refine q9 (wpAny_holding ?_)
  unfold setAdd
  refine wpAny_holding ?_
  refine q9 (wpAny_pyHash_str ?_)
  refine vy (s:={ s' with toks:=s'.toks+1 }) h1' h2 Qo fun b h' es' ep' t' sb g1 g2 g3=>?_
  have e:zs.take (i+1)=zs.take i++[z]:=by rw[qr,hzi];rfl
  refine qe ⟨plainId_quiet PyProof.Rows.F.plain_set_update_loop _,ih (i+1) _ Qo lt (W.frame _ s' _ _ hst' (Nat.le_succ _) fun b hb o q=>?_) ⟨es',ep',t',g1,by rw[e];exact g2,Qo⟩ fun s2 m2 S2=>?_⟩
  ·rw[sb.2 b fun z:b=S=>hSf (by rw[<- z];exact hb)]
   exact q
  ·refine hR s2 (Moved.trans W.gtrans ((hm.mono up).then_heap (Nat.le_succ _) fun b o hb q=>?_) m2) S2
   rw[sb.2 b fun z:b=S=>hb (by rw[z];exact qo)]
   exact q
end
theorem eG:Slot "set_iterator" "__next__" "set_iterator.__next__":=
 .of (owner:="set_iterator") (n:="__next__") (by rw[typeLookup_type,builtinLookup_eq_fast];kernel_rfl) Qd Qd Qd (.inl Qd) (by rw[isSubtype_type];kernel_rfl)
theorem ji:entryFor table "set_iterator.__next__"=some Builtin.«set_iterator.__next__»:=entryFor_of_tree (by kernel_rfl)
theorem jj (a:Value):argsOk "set_iterator.__next__" ⟨[a],[]⟩:=by unfold argsOk;kernel_rfl
theorem rS:Slot "set_iterator" "__iter__" "set_iterator.__iter__":=
 .of (owner:="set_iterator") (n:="__iter__") (by rw[typeLookup_type,builtinLookup_eq_fast];kernel_rfl) Qd Qd Qd (by first|exact .inl Qd|exact .inr Qd) (by rw[isSubtype_type];kernel_rfl)
theorem xn:entryFor table "set_iterator.__iter__"=some Builtin.«dict_keyiterator.__iter__»:=entryFor_alias (id':="dict_keyiterator.__iter__") (by kernel_rfl) rfl Qd (by kernel_rfl)
theorem xp (a:Value):argsOk "set_iterator.__iter__" ⟨[a],[]⟩:=by unfold argsOk;kernel_rfl
theorem xS:entryFor table "set.__iter__"=some Builtin.«frozenset.__iter__»:=entryFor_alias (id':="frozenset.__iter__") (by kernel_rfl) rfl Qd (by kernel_rfl)
def dh (fst:Value) (i:Nat) (a:Addr) (n ep:Nat):Obj:={ cls:=.type "set_iterator",data:=.fields #[fst,.int i 0,.ref a,.int n 0,.int ep 0] }
section
variable {P:Program}{w:World}{A:Around}{E:Qq}{s:Shared}
theorem fF {a:Addr}{es:Array (Int×Value)}{ep:Nat}{t:SetTable}{Q:Array (Int×Value)->Shared->Prop}(ho:s.heap.get? a=some (aW es ep t)) (hf:t.fits es.size=true) (h:Q es s):
 wpAny (model P w) A (setEntries a) Q E s:=by
 unfold setEntries
 exact q9 (qW ho rfl hf (qe h))
theorem xr {I a tp:Addr}{i p n ep:Nat}{es:Array (Int×Value)}{t:SetTable}{its:Array Value}{x:Int×Value}{nn:Nat}{ot:Obj}{tk:Tok}{Q:Option Value->Shared->Prop}
 (hi:s.heap.get? I=some (dh (.ref tp) i a n ep)) (hs:s.heap.get? a=some (aW es ep t)) (hf:t.fits es.size=true) (hn:es.size=n)
 (ht:s.heap.get? tp=some ot) (htd:ot.data=.seq its nn) (hp:its[i]?=some (.int (p:Int) tk)) (hx:es[p]?=some x)
 (h:∀h',h'.get? I=some (dh (.ref tp) (i+1) a n ep)->Heap.SameBut I s.heap h'->Q (some x.2) { s with heap:=h' }):
 wpAny (model P w) A (pyNext (.ref I)) Q E s:=by
 have ty:s.TypeIs (.ref I) "set_iterator":=⟨_,hi,rfl⟩
 unfold pyNext
 refine q9 (wpAny_attempt (wpAny_callSpecial?_slot (name:=Str.ofString "__next__") ty eG (wpAny_call_entry eG ty ji ?_ (jj _))))
 unfold Builtin.«set_iterator.__next__»
 refine q9 (qe ?_)
 refine q9 (wpAny_fieldsOf hi rfl ?_)
 dsimp only
 refine q9 (fF hs hf ?_)
 have ne:((es.size:Int) != (n:Int))=false:=by rw[hn];simp
 rw[ne,qZ qj]
 refine q9 (wpAny_seqItems ht htd ?_)
 dsimp only
 rw[qX,hp]
 dsimp only
 refine q9 ?_
 unfold setNextDrawn
 refine q9 (qW hs rfl hf ?_)
 dsimp only
 have ne2:(ep != (ep:Int).toNat)=false:=by rw[qX];simp
 rw[ne2,qZ qj,qX,hx]
 dsimp only
 refine qe ?_
 refine q9 (wpAny_setField hi rfl (by simp) (qe ⟨_,rfl,qe (h _ ?_ (Heap.SameBut.update ..))⟩))
 have:=Heap.get?_update_self (Obj.mapFields (·.setIfInBounds 1 (rawInt ((i:Int)+1)))) hi rfl
 exact this
theorem oZ {Q:Option Value->Shared->Prop}(hh:A.handled=none) (h:∀h',(∀b o,s.heap.get? b=some o->h'.get? b=some o)->Q none { s with heap:=h' }):
 wpAny (model P w) A.in1 (newExc (.type "StopIteration") [] >>= fun x=>(raiseNew x:Sem Fin)) (fun fin s'=>∃v,fin=Fin.done (Flow.ret v)/\wpAny (model P w) A (pure (some v)) Q E s')
  (fun e s'=>wpAny (model P w) A (do if <- isInstance e (Value.type "StopIteration")then pure none else throw e) Q E s') s:=by
 refine q9 ?_
 simp only[newExc,newTuple]
 refine q9 (wpAny_newObj_type ?_ (by size_fits))
 refine q9 (m:=firstArgMember _ _) (wpAny_of_eq (a:=Value.none) (by first|rfl|(simp only[firstArgMember];rfl)) ?_)
 refine wpAny_newObj_type ?_ (by size_fits)
 simp only[raiseNew]
 refine q9 (wpAny_handled ?_)
 have hh':A.in1.handled=none:=hh
 rw[hh']
 refine q9 (qe (wpAny_throw ?_))
 refine q9 (wpAny_isInstance (T:="StopIteration") (b:=true) ⟨_,qp _ rfl,rfl⟩ isSubtype_stop ?_)
 exact qe (h _ fun b o e=>qb _ (qb _ e))
theorem xq {I a tp:Addr}{i n ep:Nat}{es:Array (Int×Value)}{t:SetTable}{its:Array Value}{nn:Nat}{ot:Obj}{Q:Option Value->Shared->Prop}(hh:A.handled=none)
 (hi:s.heap.get? I=some (dh (.ref tp) i a n ep)) (hs:s.heap.get? a=some (aW es ep t)) (hf:t.fits es.size=true) (hn:es.size=n)
 (ht:s.heap.get? tp=some ot) (htd:ot.data=.seq its nn) (hp:its[i]?=none)
 (h:∀h',(∀b o,b≠I->s.heap.get? b=some o->h'.get? b=some o)->Q none { s with heap:=h' }):
 wpAny (model P w) A (pyNext (.ref I)) Q E s:=by
 have ty:s.TypeIs (.ref I) "set_iterator":=⟨_,hi,rfl⟩
 unfold pyNext
 refine q9 (wpAny_attempt (wpAny_callSpecial?_slot (name:=Str.ofString "__next__") ty eG (wpAny_call_entry eG ty ji ?_ (jj _))))
 unfold Builtin.«set_iterator.__next__»
 refine q9 (qe ?_)
 refine q9 (wpAny_fieldsOf hi rfl ?_)
 dsimp only
 refine q9 (fF hs hf ?_)
 have ne:((es.size:Int) != (n:Int))=false:=by rw[hn];simp
 rw[ne,qZ qj]
 refine q9 (wpAny_seqItems ht htd ?_)
 dsimp only
 rw[qX,hp]
 dsimp only
 refine q9 (wpAny_setField hi rfl (by simp) ?_)
 have g1:=Heap.get?_update_self (Obj.mapFields (·.setIfInBounds 0 (rawInt 0))) hi rfl
 refine q9 (wpAny_setField g1 rfl (by simp) ?_)
 refine oZ hh fun h' k=>h h' fun b o hb e=>k b o ?_
 exact(Heap.get?_update_other _ _ (Ne.symm hb)).trans ((Heap.get?_update_other _ _ (Ne.symm hb)).trans e)
theorem rR {I a:Addr}{i n ep sl sl':Nat}{es:Array (Int×Value)}{t:SetTable}{x:Value}{Q:Option Value->Shared->Prop}
 (hi:s.heap.get? I=some (dh (.int (sl:Int) 0) i a n ep)) (hs:s.heap.get? a=some (aW es ep t)) (hf:t.fits es.size=true) (hn:es.size=n)
 (hx:∀Q':Option (Value×Nat)->Shared->Prop,∀E',Q' (some (x,sl')) s->wpAny (model P w) A.in1 (setNext a sl i ep) Q' E' s)
 (h:∀h',h'.get? I=some (dh (.int (sl':Int) 0) (i+1) a n ep)->Heap.SameBut I s.heap h'->Q (some x) { s with heap:=h' }):
 wpAny (model P w) A (pyNext (.ref I)) Q E s:=by
 have ty:s.TypeIs (.ref I) "set_iterator":=⟨_,hi,rfl⟩
 unfold pyNext
 refine q9 (wpAny_attempt (wpAny_callSpecial?_slot (name:=Str.ofString "__next__") ty eG (wpAny_call_entry eG ty ji ?_ (jj _))))
 unfold Builtin.«set_iterator.__next__»
 refine q9 (qe ?_)
 refine q9 (wpAny_fieldsOf hi rfl ?_)
 dsimp only
 refine q9 (fF hs hf ?_)
 have ne:((es.size:Int) != (n:Int))=false:=by rw[hn];simp
 rw[ne,qZ qj,qX,qX,qX]
 refine q9 (hx _ _ ?_)
 dsimp only
 refine q9 (wpAny_setField hi rfl (by simp) ?_)
 have g1:=Heap.get?_update_self (Obj.mapFields (·.setIfInBounds 0 (rawInt (sl':Int)))) hi rfl
 refine q9 (wpAny_setField g1 rfl (by simp) (qe ⟨_,rfl,qe (h _ ?_ ((Heap.SameBut.update ..).trans (Heap.SameBut.update ..)))⟩))
 exact Heap.get?_update_self (Obj.mapFields (·.setIfInBounds 1 (rawInt ((i:Int)+1)))) g1 rfl
theorem kO {I a:Addr}{i n ep sl:Nat}{es:Array (Int×Value)}{t:SetTable}{Q:Option Value->Shared->Prop}(hh:A.handled=none)
 (hi:s.heap.get? I=some (dh (.int (sl:Int) 0) i a n ep)) (hs:s.heap.get? a=some (aW es ep t)) (hf:t.fits es.size=true) (hn:es.size=n)
 (hx:∀Q':Option (Value×Nat)->Shared->Prop,∀E',Q' none s->wpAny (model P w) A.in1 (setNext a sl i ep) Q' E' s)
 (h:∀h',(∀b o,b≠I->s.heap.get? b=some o->h'.get? b=some o)->Q none { s with heap:=h' }):
 wpAny (model P w) A (pyNext (.ref I)) Q E s:=by
 have ty:s.TypeIs (.ref I) "set_iterator":=⟨_,hi,rfl⟩
 unfold pyNext
 refine q9 (wpAny_attempt (wpAny_callSpecial?_slot (name:=Str.ofString "__next__") ty eG (wpAny_call_entry eG ty ji ?_ (jj _))))
 unfold Builtin.«set_iterator.__next__»
 refine q9 (qe ?_)
 refine q9 (wpAny_fieldsOf hi rfl ?_)
 dsimp only
 refine q9 (fF hs hf ?_)
 have ne:((es.size:Int) != (n:Int))=false:=by rw[hn];simp
 rw[ne,qZ qj,qX,qX,qX]
 refine q9 (hx _ _ ?_)
 dsimp only
 refine q9 (wpAny_setField hi rfl (by simp) ?_)
 refine oZ hh fun h' k=>h h' fun b o hb e=>k b o ?_
 exact(Heap.get?_update_other _ _ (Ne.symm hb)).trans e
theorem jh {I a:Addr}{fst:Value}{i n ep:Nat}{Q:Qq}(hi:s.heap.get? I=some (dh fst i a n ep)) (h:Q (.ref I) s):wpAny (model P w) A (pyIter (.ref I)) Q E s:=by
 have ty:s.TypeIs (.ref I) "set_iterator":=⟨_,hi,rfl⟩
 refine wpAny_pyIter_slot ty rS (wpAny_call_entry rS ty xn ?_ (xp _))
 show wpAny _ _ (ret (.ref I)) _ _ s
 exact qe ⟨_,rfl,"set_iterator",_,ty,eG.lookup,h⟩
end
section
variable {P:Program}{w:World}{A:Around}{E:Qq}{s:Shared}
theorem vQ {src:Source}{n:Nat}{Q:Nat->Shared->Prop}(hn:n≠0) (h:∀i d,i<n->Q i { s with drawn:=d }):wpAny (model P w) A (choose src n) Q E s:=fun Γ p _=>by
 show Sem.wp _ _ (.choose src n .pure) _ _ _ _
 rw[Sem.wp_choose]
 refine⟨hn,?_⟩
 have:=h ((model P w).w.draws src (s.drawn.get src) % n) (s.drawn.bump src) (Nat.mod_lt _ (Nat.pos_of_ne_zero hn))
 simpa using this
theorem sX {α:Type}{xs:List α}{i:Nat}{x:α}(h:xs[i]?=some x):(x::xs.eraseIdx i).Perm xs:=by
 induction xs generalizing i with
 |nil=>simp at h
 |cons y r ih=>
  cases i with
  |zero=>simp at h;subst h;exact .refl _
  |succ j=>
   simp only[List.getElem?_cons_succ]at h
   exact(List.Perm.swap y x _).trans ((ih h).cons y)
theorem nK {α:Type}:∀(n:Nat) (xs:List α) (s:Shared) (Q:List α->Shared->Prop),xs.length=n->(∀ys d,ys.Perm xs->Q ys { s with drawn:=d })->wpAny (model P w) A (drawOrder n xs) Q E s
 |0,xs,s,Q,hn,h=>by
  obtain rfl:=List.length_eq_zero_iff.mp hn
  exact qe (h [] s.drawn (.refl _))
 |n+1,[],s,Q,hn,h=>by cases hn
 |n+1,x::r,s,Q,hn,h=>by
  unfold drawOrder
  refine q9 (vQ (by simp) fun i d hi=>?_)
  have e:(x::r)[i]?=some (x::r)[i]:=qd hi
  rw[e]
  dsimp only
  refine q9 (nK n _ _ _ (by rw[List.length_eraseIdx_of_lt hi];omega) fun ys d' hp=>qe ?_)
  exact h _ d' ((hp.cons _).trans (sX e))
theorem sU {α:Type}(next:Nat->Nat):∀(fuel k:Nat) (left:List α) (out:Array α),left.length=fuel->(pickOrder.go next fuel k left out).toList.Perm (out.toList++left)
 |0,k,left,out,h=>by
  obtain rfl:=List.length_eq_zero_iff.mp h
  unfold pickOrder.go
  rw[qx]
 |fuel+1,k,left,out,h=>by
  unfold pickOrder.go
  have hi:next k % left.length<left.length:=Nat.mod_lt _ Qo
  have e:=qd hi
  rw[e]
  dsimp only
  refine(sU next fuel (k+1) _ _ (by rw[List.length_eraseIdx_of_lt hi];omega)).trans ?_
  rw[Array.toList_push,qN]
  exact(List.Perm.refl _).append (sX e)
theorem sT {α:Type}(next:Nat->Nat) (xs:Array α):(pickOrder next xs).toList.Perm xs.toList:=by
 have:=sU next xs.size 0 xs.toList #[] qM
 simpa[pickOrder]using this
theorem gN {Q:Bool->Shared->Prop}(h:Q (w.params.followText "set-order") s):wpAny (model P w) A setsByText Q E s:=by
 unfold setsByText
 exact q9 (wpAny_askSetting (qe h))
structure CK (P:Program) (w:World) (es:Array (Int×Value)) (a:Addr) (s s':Shared) (I:Addr):Prop where
 ex:∃(fp:List Addr) (vs:List Value) (St:Nat->Heap->Prop),vs.Perm (es.toList.map (·.2))/\(∀A:Around,A.handled=none->Walks P w A I fp [I] vs.length (fun i v=>vs[i]?=some v) St)/\St 0 s'.heap/\(∀b∈fp,b<s'.heap.objs.size/\(b=a\/s.heap.get? b=none))/\I∈fp
 old:∀b o,s.heap.get? b=some o->s'.heap.get? b=some o
 new:s.heap.get? I=none
 gens:s'.gens=s.gens
 os:s'.os=s.os
 toks:s'.toks=s.toks
theorem BA {t:SetTable}{n:Nat}(h:t.fits n=true):t.place.size=n:=by
 simp only[SetTable.fits,Bool.and_eq_true,beq_iff_eq]at h
 exact h.1
theorem fW {h:Heap}{b:Addr}(k:h.objs.size<=b):h.get? b=none:=by
 cases q:h.get? b with
 |none=>rfl
 |some o=>exact absurd (qD (qq q) k) (Nat.lt_irrefl _)
theorem Bd {a:Addr}{es:Array (Int×Value)}{ep:Nat}{t:SetTable}{ys:List Str}{Q:Qq}(hs:s.heap.get? a=some (aW es ep t)) (T:bN P w es t ys)
 (h:∀s' I,CK P w es a s s' I->Q (.ref I) s'):wpAny (model P w) A (pyIter (.ref a)) Q E s:=by
 have ty:s.TypeIs (.ref a) "set":=⟨_,hs,rfl⟩
 have alt:a<s.heap.objs.size:=qq hs
 refine wpAny_pyIter_slot ty F.slot_set_iter (wpAny_call_entry F.slot_set_iter ty xS ?_ (F.args_set_iter_1 _))
 unfold Builtin.«frozenset.__iter__»
 refine q9 (qe ?_)
 refine q9 ?_
 unfold Builtin.Frozenset.sizeOf
 refine q9 (fF hs T.fit (qe ?_))
 refine q9 ?_
 unfold setDrawn
 refine q9 (qW hs rfl T.fit ?_)
 dsimp only
 refine q9 (gN (qe ?_))
 have two:∀(fst:Value) (s1:Shared),s1.heap.get? a=some (aW es ep t)->(∀it s',it=.ref s1.heap.objs.size->s'={ s1 with heap:=s1.heap.push (dh fst 0 a es.size ep) }->Q it s')->
  wpAny (model P w) A.in1 (do
   let e <- setEpoch a
   let x <- newFields "set_iterator" [fst,rawInt 0,.ref a,rawInt (es.size:Int),rawInt (e:Int)]
   ret x) (fun fin s'=>∃v,fin=Fin.done (Flow.ret v)/\∃T' r,s'.TypeIs v T'/\typeLookup (Value.type T') (Str.ofString "__next__")=pure (some r)/\Q v s') E s1:=fun fst s1 h1 hq=>by
  refine q9 (wpAny_setEpoch_of h1 rfl T.fit ?_)
  unfold newFields
  refine q9 (wpAny_newObj_type ?_)
  refine qe ⟨_,rfl,"set_iterator",_,⟨_,qp _ rfl,rfl⟩,eG.lookup,hq _ _ rfl rfl⟩
 show wpAny _ _ (if(!w.params.followText "set-order" && (!t.plain && decide (es.size > 1)))=true then _ else _) _ _ _
 have hpl:=BA T.fit
 by_cases hb:w.params.followText "set-order"=true
 ·rw[hb]
  simp only[Bool.not_true,Bool.false_and,Bool.false_eq_true,if_false]
  refine q9 (qe ?_)
  refine two _ s hs fun it s' e1 e2=>?_
  subst e1 e2
  have pp:=sT (w.params.setOrder a ep) es
  have pl:((pickOrder (w.params.setOrder a ep) es).toList.map (·.2)).length=es.size:=by rw[qa,pp.length_eq,qM]
  have nx:∀(A':Around) (i:Nat) (s1:Shared) (Q':Option (Value×Nat)->Shared->Prop) E',s1.heap.get? a=some (aW es ep t)->Q' (((pickOrder (w.params.setOrder a ep) es)[i]?).map fun e=>(e.2,0)) s1->wpAny (model P w) A' (setNext a 0 i ep) Q' E' s1:=fun A' i s1 Q' E' h1 q=>by
   unfold setNext
   refine q9 (qW h1 rfl T.fit ?_)
   dsimp only
   refine q9 (gN ?_)
   rw[hb,Q0 rfl]
   have ne:(ep != ep)=false:=by simp
   rw[ne,qZ qj]
   refine q9 ?_
   unfold setWalk
   refine q9 (qW h1 rfl T.fit ?_)
   dsimp only
   refine q9 (gN ?_)
   rw[hb,Q0 rfl]
   refine q9 (wpAny_askSetting (qe ?_))
   exact qe q
  have nI:a≠s.heap.objs.size:=qG alt
  refine h _ _ ⟨⟨[s.heap.objs.size,a],(pickOrder (w.params.setOrder a ep) es).toList.map (·.2),fun i h'=>h'.get? s.heap.objs.size=some (dh (.int 0 0) i a es.size ep)/\h'.get? a=some (aW es ep t),pp.map _,fun A' hh=>?_,⟨qp _ rfl,qb _ hs⟩,?_,by simp⟩,fun b o e=>qb _ e,?_,rfl,rfl,rfl⟩
  ·refine⟨fun b hb=>by simp at hb;simp[hb],fun i h1 h2 st k=>⟨k _ (by simp) _ st.1,k _ (by simp) _ st.2⟩,fun i s1 Q' E' hi st q=>?_,fun s1 Q' E' st q=>?_,fun i s1 Q' E' st q=>jh st.1 q⟩
   ·have hi':i<(pickOrder (w.params.setOrder a ep) es).size:=by rw[qa,qM]at hi;exact hi
    refine rR (sl:=0) (sl':=0) (x:=(pickOrder (w.params.setOrder a ep) es)[i].2) st.1 st.2 T.fit rfl (fun Q2 E2 q2=>nx _ _ _ _ _ st.2 (by rw[Array.getElem?_eq_getElem hi'];exact q2)) fun h' g1 g2=>q _ h' s1.toks ?_ ⟨g1,?_⟩ fun b o hb e=>?_
    ·simp[hi']
    ·rw[g2.2 _ nI];exact st.2
    ·rw[g2.2 _ (by simpa using hb)];exact e
   ·have hi':(pickOrder (w.params.setOrder a ep) es)[((pickOrder (w.params.setOrder a ep) es).toList.map (·.2)).length]?=none:=by simp
    exact kO (sl:=0) hh st.1 st.2 T.fit rfl (fun Q2 E2 q2=>nx _ _ _ _ _ st.2 (by rw[hi'];exact q2)) fun h' g=>q h' s1.toks fun b o hb e=>g b o (by simpa using hb) e
  ·intro b hb
   simp only[qu,qQ,or_false]at hb
   rw[Heap.size_push]
   rcases hb with rfl|rfl
   ·exact⟨Nat.lt_succ_self _,.inr (fW (qf _))⟩
   ·exact⟨Nat.lt_succ_of_lt alt,.inl rfl⟩
  ·exact fW (qf _)
 ·have hb':w.params.followText "set-order"=false:=by simpa using hb
  rw[hb']
  have led:t.led=true:=by rw[T.led,hb'];rfl
  by_cases hz:es.size > 1
  ·have hp:=T.pl Qo
   rw[hp]
   simp only[Bool.not_false,Bool.true_and,hz,decide_true,if_true]
   refine q9 (nK _ _ _ _ (by simp) fun ps d hps=>?_)
   refine q9 (wpAny_newTuple ?_ (by rw[qa,hps.length_eq,List.length_range];exact fits_of_scanBound T.few))
   refine two _ _ (qb _ hs) fun it s' e1 e2=>?_
   subst e1 e2
   dsimp only
   have lt:∀p∈ps,p<es.size:=fun p hm=>List.mem_range.mp (hps.mem_iff.mp hm)
   have sz:(s.heap.push { cls:=.type "tuple",data:=.seq (ps.map fun i:Nat=>rawInt i).toArray }).objs.size=s.heap.objs.size+1:=Heap.size_push ..
   have vp:(ps.map fun p=>(es.toList.map (·.2)).getD p .none).Perm (es.toList.map (·.2)):=by
    refine(hps.map _).trans ?_
    have e:(List.range es.size).map (fun p=>(es.toList.map (·.2)).getD p .none)=es.toList.map (·.2):=by
     refine List.ext_getElem (by simp) fun i h1 h2=>?_
     simp only[List.getElem_map,List.getElem_range]
     rw[qk,qd h2]
     simp
    rw[e]
   have nI:a≠(s.heap.push { cls:=.type "tuple",data:=.seq (ps.map fun i:Nat=>rawInt i).toArray }).objs.size:=by rw[sz];exact qG (Nat.lt_succ_of_lt alt)
   have nT:s.heap.objs.size≠(s.heap.push { cls:=.type "tuple",data:=.seq (ps.map fun i:Nat=>rawInt i).toArray }).objs.size:=by rw[sz];exact qG (Nat.lt_succ_self _)
   refine h _ _ ⟨⟨[(s.heap.push { cls:=.type "tuple",data:=.seq (ps.map fun i:Nat=>rawInt i).toArray }).objs.size,a,s.heap.objs.size],ps.map fun p=>(es.toList.map (·.2)).getD p .none,
    fun i h'=>h'.get? (s.heap.push { cls:=.type "tuple",data:=.seq (ps.map fun i:Nat=>rawInt i).toArray }).objs.size=some (dh (.ref s.heap.objs.size) i a es.size ep)/\h'.get? a=some (aW es ep t)/\h'.get? s.heap.objs.size=some { cls:=.type "tuple",data:=.seq (ps.map fun i:Nat=>rawInt i).toArray },
    vp,fun A' hh=>?_,⟨qp _ rfl,qb _ (qb _ hs),qb _ (qp _ rfl)⟩,?_,by simp⟩,fun b o e=>qb _ (qb _ e),?_,rfl,rfl,rfl⟩
   ·refine⟨fun b hb=>by simp at hb;simp[hb],fun i h1 h2 st k=>⟨k _ (by simp) _ st.1,k _ (by simp) _ st.2.1,k _ (by simp) _ st.2.2⟩,fun i s1 Q' E' hi st q=>?_,fun s1 Q' E' st q=>?_,fun i s1 Q' E' st q=>jh st.1 q⟩
    ·have hi':i<ps.length:=by rw[qa]at hi;exact hi
     have pl:=lt _ (List.getElem_mem hi')
     refine xr (p:=ps[i]) (tk:=0) (x:=es[ps[i]]) st.1 st.2.1 T.fit rfl st.2.2 rfl (by simp[hi',rawInt]) (Array.getElem?_eq_getElem pl) fun h' g1 g2=>q _ h' s1.toks ?_ ⟨g1,?_,?_⟩ fun b o hb e=>?_
     ·simp[hi',pl]
     ·rw[g2.2 _ nI];exact st.2.1
     ·rw[g2.2 _ nT];exact st.2.2
     ·rw[g2.2 _ (by simpa using hb)];exact e
    ·exact xq hh st.1 st.2.1 T.fit rfl st.2.2 rfl (by simp) fun h' g=>q h' s1.toks fun b o hb e=>g b o (by simpa using hb) e
   ·intro b hb
    simp only[qu,qQ,or_false]at hb
    rw[Heap.size_push,sz]
    rcases hb with rfl|rfl|rfl
    ·rw[sz];exact⟨Nat.lt_succ_self _,.inr (fW (Nat.le_succ _))⟩
    ·exact⟨Nat.lt_succ_of_lt (Nat.lt_succ_of_lt alt),.inl rfl⟩
    ·exact⟨Nat.lt_succ_of_lt (Nat.lt_succ_self _),.inr (fW (qf _))⟩
   ·rw[sz];exact fW (Nat.le_succ _)
  ·have hz':decide (es.size > 1)=false:=decide_eq_false hz
   rw[hz',Bool.and_false,Bool.and_false,qZ qj]
   refine q9 (qe ?_)
   refine two _ s hs fun it s' e1 e2=>?_
   subst e1 e2
   have nI:a≠s.heap.objs.size:=qG alt
   have nx:∀(A':Around) (i sl:Nat) (s1:Shared) (Q':Option (Value×Nat)->Shared->Prop) E',s1.heap.get? a=some (aW es ep t)->Q' (match es[SetTable.below t.place sl]?,t.place[SetTable.below t.place sl]? with|some (_,x),some j=>some (x,j+1)|_,_=>none) s1->wpAny (model P w) A' (setNext a sl i ep) Q' E' s1:=fun A' i sl s1 Q' E' h1 q=>by
    unfold setNext
    refine q9 (qW h1 rfl T.fit ?_)
    dsimp only
    refine q9 (gN ?_)
    rw[hb',qZ qj]
    show wpAny _ _ (if(!t.plain && decide (es.size > 1))=true then _ else _) _ _ _
    rw[hz',Bool.and_false,qZ qj]
    refine q9 ?_
    show wpAny _ _ (if(!t.led && !es.isEmpty)=true then _ else _) _ _ _
    rw[led,Bool.not_true,Bool.false_and,qZ qj]
    exact qe (qe q)
   have gofar:∀sl:Nat,es.size=0->SetTable.below t.place sl=0:=fun sl h0=>by
    unfold SetTable.below
    rw[hpl,h0]
    rfl
   have gone:∀j sl:Nat,t.place=#[j]->SetTable.below t.place sl=if j<sl then 1 else 0:=fun j sl e=>by
    rw[e]
    simp[SetTable.below,SetTable.below.go]
   have old:∀b o,s.heap.get? b=some o->(s.heap.push (dh (rawInt 0) 0 a es.size ep)).get? b=some o:=fun b o e=>qb _ e
   have inn:∀b∈[s.heap.objs.size,a],b<(s.heap.push (dh (rawInt 0) 0 a es.size ep)).objs.size/\(b=a\/s.heap.get? b=none):=by
    intro b hb
    simp only[qu,qQ,or_false]at hb
    rw[Heap.size_push]
    rcases hb with rfl|rfl
    ·exact⟨Nat.lt_succ_self _,.inr (fW (qf _))⟩
    ·exact⟨Nat.lt_succ_of_lt alt,.inl rfl⟩
   by_cases h0:es.size=0
   ·have e0:es=#[]:=Array.eq_empty_of_size_eq_zero h0
    refine h _ _ ⟨⟨[s.heap.objs.size,a],[],fun i h'=>h'.get? s.heap.objs.size=some (dh (.int ((0:Nat):Int) 0) i a es.size ep)/\h'.get? a=some (aW es ep t),by rw[e0];exact .refl _,fun A' hh=>?_,⟨qp _ rfl,old _ _ hs⟩,inn,by simp⟩,old,fW (qf _),rfl,rfl,rfl⟩
    refine⟨fun b hb=>by simp at hb;simp[hb],fun i h1 h2 st k=>⟨k _ (by simp) _ st.1,k _ (by simp) _ st.2⟩,fun i s1 Q' E' hi st q=>absurd hi (Nat.not_lt_zero _),fun s1 Q' E' st q=>?_,fun i s1 Q' E' st q=>jh st.1 q⟩
    exact kO (sl:=0) hh st.1 st.2 T.fit rfl (fun Q2 E2 q2=>nx _ _ _ _ _ _ st.2 (by rw[gofar 0 h0,e0];exact q2)) fun h' g=>q h' s1.toks fun b o hb e=>g b o (by simpa using hb) e
   ·have h1:es.size=1:=by omega
    obtain⟨x,ex⟩:∃x,es=#[x]:=⟨es[0],by
     refine Array.ext (by simpa using h1) fun i hi hj=>?_
     have:i=0:=by simp at hj;exact hj
     subst this
     rfl⟩
    obtain⟨j,ej⟩:∃j,t.place=#[j]:=⟨t.place[0]'(by rw[hpl,h1];decide),by
     refine Array.ext (by simp[hpl,h1]) fun i hi hj=>?_
     have:i=0:=by simp at hj;exact hj
     subst this
     rfl⟩
    refine h _ _ ⟨⟨[s.heap.objs.size,a],[x.2],fun i h'=>h'.get? s.heap.objs.size=some (dh (.int ((if i=0 then 0 else j+1:Nat):Int) 0) i a es.size ep)/\h'.get? a=some (aW es ep t),by rw[ex];exact .refl _,fun A' hh=>?_,⟨qp _ rfl,old _ _ hs⟩,inn,by simp⟩,old,fW (qf _),rfl,rfl,rfl⟩
    refine⟨fun b hb=>by simp at hb;simp[hb],fun i h1 h2 st k=>⟨k _ (by simp) _ st.1,k _ (by simp) _ st.2⟩,fun i s1 Q' E' hi st q=>?_,fun s1 Q' E' st q=>?_,fun i s1 Q' E' st q=>jh st.1 q⟩
    ·obtain rfl:i=0:=by simp at hi;exact hi
     refine rR (sl:=0) (sl':=j+1) (x:=x.2) st.1 st.2 T.fit rfl (fun Q2 E2 q2=>nx _ _ _ _ _ _ st.2 ?_) fun h' g1 g2=>q _ h' s1.toks rfl ⟨g1,?_⟩ fun b o hb e=>?_
     ·rw[gone j 0 ej,ej,ex]
      exact q2
     ·rw[g2.2 _ nI];exact st.2
     ·rw[g2.2 _ (by simpa using hb)];exact e
    ·refine kO (sl:=j+1) hh st.1 st.2 T.fit rfl (fun Q2 E2 q2=>nx _ _ _ _ _ _ st.2 ?_) fun h' g=>q h' s1.toks fun b o hb e=>g b o (by simpa using hb) e
     rw[gone j (j+1) ej,Q0 (Nat.lt_succ_self j),ej,ex]
     exact q2
end
section
variable {P:Program}{w:World}{A:Around}{E:Qq}{s:Shared}
theorem xR:typeLookup (.type "set") "__len__"=pure (some (.builtin "set.__len__")):=by rw[typeLookup_type,builtinLookup_eq_fast];kernel_rfl
theorem jn:isSubtype (.type "set") (.type "set")=pure true:=by rw[isSubtype_type];kernel_rfl
theorem C9 {a:Addr}{es:Array (Int×Value)}{ep:Nat}{t:SetTable}{ys:List Str}{Q:List Value->Shared->Prop}(hh:A.handled=none) (hs:s.heap.get? a=some (aW es ep t)) (T:bN P w es t ys)
 (h:∀s' vs,vs.Perm (es.toList.map (·.2))->(∀b o,s.heap.get? b=some o->s'.heap.get? b=some o)->s'.gens=s.gens->s'.os=s.os->s.heap.objs.size<s'.heap.objs.size->Q vs s'):wpAny (model P w) A (collect (.ref a)) Q E s:=by
 unfold collect
 refine q9 (wpAny_runValue (codeAny_builtin F.entry_proto_collect ?_))
 rw[Around.under_plainId F.plain_proto_collect _]
 show wpAny _ A.in1 (newList [] >>= fun l=>again (.builtin "list.__iadd__" ⟨[l,.ref a],[]⟩)) _ _ s
 refine q9 (wpAny_newObj_type ?_)
 refine qe ⟨plainId_quiet F.plain_list_iadd _,codeAny_builtin F.entry_list_iadd ?_⟩
 rw[Around.under_plainId F.plain_list_iadd _]
 have alt:a<s.heap.objs.size:=qq hs
 have hs1:(s.heap.push { cls:=.type "list",data:=.seq ([]:List Value).toArray }).get? a=some (aW es ep t):=qb _ hs
 show wpAny _ A.in1 (Builtin.List.listExtendWith (.ref s.heap.objs.size) (.ref a) (.ref s.heap.objs.size)) _ _ _
 unfold Builtin.List.listExtendWith
 refine q9 (wpAny_typeOf (T:="set") ⟨_,hs1,rfl⟩ ?_)
 have h1:Builtin.List.listSameRef (.ref s.heap.objs.size) (.ref a)=false:=by
  simp only[Builtin.List.listSameRef,beq_eq_false_iff_ne]
  exact Nat.ne_of_gt alt
 rw[qZ (by rw[h1];decide)]
 refine q9 (Bd (A:=A.in1) (s:={ s with heap:=s.heap.push { cls:=.type "list",data:=.seq ([]:List Value).toArray } }) hs1 T fun s2 I W=>?_)
 obtain⟨⟨fp,vs,St,hp,wk,st0,hfp,hI⟩,old,new,eg,eo,et⟩:=W
 have hs2:=old _ _ hs1
 have l2:=old _ _ (show(s.heap.push { cls:=.type "list",data:=.seq ([]:List Value).toArray }).get? s.heap.objs.size=some { cls:=.type "list",data:=.seq ([]:List Value).toArray }from qp _ rfl)
 refine q9 (wpAny_holding ?_)
 unfold Builtin.List.listLengthHint
 refine q9 (wpAny_specialOf (T:="set") ⟨_,hs2,rfl⟩ xR ?_)
 have ty2:s2.TypeIs (.ref a) "set":=⟨_,hs2,rfl⟩
 (generalize hid:("set.__len__":String)=id0;(fail_if_success (clear hid id0));wp_delta;rw[show splitId id0=some ("set","__len__")from by subst hid;decide +kernel];subst hid)
 refine q9 (wpAny_isInstance (b:=true) ty2 jn ?_)
 rw[qZ Qk]
 show wpAny _ _ (if _=true then _ else _) _ _ _
 rw[Q0 Qk]
 refine q9 (wpAny_typeOf ty2 ?_)
 refine qe ?_
 rw[Q0 Qk]
 refine q9 (wpAny_rule ?_)
 refine q9 ?_
 show wpAny _ A.in1 (updateSeq s.heap.objs.size (·.push .none) >>= fun _=>updateSeq s.heap.objs.size (·.pop)) _ _ _
 refine q9 (wpAny_updateSeq l2 rfl ?_)
 have l3:=Heap.get?_update_self (Obj.mapSeq (·.push Value.none)) l2 rfl
 refine wpAny_updateSeq l3 rfl ?_
 have l4:=Heap.get?_update_self (Obj.mapSeq (·.pop)) l3 rfl
 have oth:∀b o,b≠s.heap.objs.size->s2.heap.get? b=some o->((s2.heap.update s.heap.objs.size (Obj.mapSeq (·.push Value.none))).update s.heap.objs.size (Obj.mapSeq (·.pop))).get? b=some o:=fun b o hb e=>
  (Heap.get?_update_other _ _ (Ne.symm hb)).trans ((Heap.get?_update_other _ _ (Ne.symm hb)).trans e)
 have notin:s.heap.objs.size∉fp:=fun hm=>by
  rcases(hfp _ hm).2 with z|z
  ·exact Nat.lt_irrefl _ (z▸alt)
  ·rw[show({ s with heap:=s.heap.push { cls:=.type "list",data:=.seq ([]:List Value).toArray } }:Shared).heap.get? s.heap.objs.size=some { cls:=.type "list",data:=.seq ([]:List Value).toArray }from qp _ rfl]at z
   cases z
 have hn:vs.length<=sizeLine:=by rw[hp.length_eq,qa,qM];exact fits_of_scanBound T.few
 have W:=(wk A.in1 (by simp[hh])).toS
 refine qe ⟨plainId_quiet F.plain_extend_loop _,codeAny_extend_loopS W hn _ notin _ vs.length 0 _ _ _ rfl (qt _)
  (W.frame 0 s2 _ s2.toks st0 (qf _) fun b hb o e=>oth b o (fun z=>notin (z▸hb)) e) l4 (ItemsOf.nil _) fun s' acc c' hm hS' hacc=>?_⟩
 show wpAny _ A (load s.heap.objs.size >>= _) _ _ s'
 refine q9 (wpAny_load hS' (qe ?_))
 have ea:acc.toList=vs:=by
  refine List.ext_getElem? fun i=>?_
  rw[qT]
  by_cases hi:i<acc.size
  ·rw[Array.getElem?_eq_getElem hi]
   exact(hacc.2 i _ (Array.getElem?_eq_getElem hi)).symm
  ·rw[Array.getElem?_eq_none (Nat.not_lt.mp hi),List.getElem?_eq_none (by have:=hacc.1;omega)]
 rw[ea]
 refine h s' vs hp (fun b o e=>?_) (hm.gens.trans eg) (hm.os.trans eo) (qq hS')
 have lb:b≠s.heap.objs.size:=fun z=>by rw[z]at e;exact Nat.lt_irrefl _ (qq e)
 have bI:b≠I:=fun z=>by
  rw[z]at e
  have e2:(s.heap.push { cls:=.type "list",data:=.seq ([]:List Value).toArray }).get? I=some o:=qb _ e
  exact absurd (e2.symm.trans new) (by simp)
 exact hm.heap b o (by simp[lb,bI]) (oth b o lb (old b o (qb _ e)))
theorem xg {a:Addr}{es:Array (Int×Value)}{ep:Nat}{t:SetTable}{ys:List Str}{Q:Qq}(hh:A.handled=none) (hs:s.heap.get? a=some (aW es ep t)) (T:bN P w es t ys) (few:es.size<64)
 (h:∀s' l n (zs:List Str) (out:List Value),s.heap.objs.size<=l->s'.heap.get? l=some { cls:=.type "list",data:=.seq out.toArray n }->PyProof.Rows.StrsAre out zs->zs.Nodup->(∀k,k∈zs↔k∈ys)->PyProof.Rows.sortedS zs=true->zs.length=es.size->
  (∀b o,s.heap.get? b=some o->s'.heap.get? b=some o)->s'.gens=s.gens->s'.os=s.os->Q (.ref l) s'):wpAny (model P w) A (call (.builtin "sorted") [.ref a]) Q E s:=by
 refine Calls.call_function_entry PyProof.Rows.kind_sorted PyProof.Rows.plain_sorted PyProof.Rows.entry_sorted (PyProof.Rows.args_sorted1 _) ?_
 unfold Builtin.«sorted»
 refine q9 (m:=checkCount "sorted" 1 1 _) (qe ?_)
 refine q9 (C9 (A:=A.in1) (by simpa using hh) hs T fun s1 vs hp old eg eo lt1=>?_)
 have str:∀us:List Value,(∀v∈us,∃k tk,v=Value.str k tk)->PyProof.Rows.StrsAre us (us.map txt):=by
  intro us
  induction us with
  |nil=>intro _;exact .nil
  |cons v r ih=>
   intro hv
   obtain⟨k,tk,rfl⟩:=hv _ qo
   exact .cons k tk (ih fun u hu=>hv u (ql _ hu))
 have all:∀v∈vs,∃k tk,v=Value.str k tk:=fun v hv=>by
  obtain⟨e,he,rfl⟩:=List.mem_map.mp (hp.mem_iff.mp hv)
  obtain⟨⟨k,hk,_⟩,_⟩:=T.el e he
  obtain⟨tk,e2⟩:=Value.isStrOf_shape hk
  exact⟨k,tk,e2⟩
 have hS:=str vs all
 have len:vs.length=es.size:=by rw[hp.length_eq,qa,qM]
 refine q9 (wpAny_newList ?_ (by rw[len];exact fits_of_scanBound T.few))
 have ho:(s1.heap.push { cls:=.type "list",data:=.seq vs.toArray }).get? s1.heap.objs.size=some (PyProof.Rows.seqObj "list" vs.toArray 0):=qp _ rfl
 refine q9 (wpAny_holding (wpAny_call_entry PyProof.Rows.slot_list_sort ⟨_,ho,rfl⟩ PyProof.Rows.entry_list_sort (PyProof.Rows.list_sort_treeK PyProof.Rows.strKind_oneLt ho hS.keysOf (fun v1 v2 rest e=>PyProof.Rows.keyKind_strs (by rw[<- e];exact hS)) Qo fun st' a1 a2=>⟨_,rfl,?_⟩) (PyProof.Rows.args_list_sort _)))
 obtain⟨zs,h1,h2,h3⟩:=PyProof.Rows.sorted_out_str hS a1 a2
 obtain⟨n,at1⟩:=PyProof.Rows.sortedHeap_at (out:=(PyProof.Rows.arrOf st').map (·.2)) ho
 have pz:zs.Perm (es.toList.map fun e=>txt e.2):=by
  refine h2.trans ((hp.map txt).trans ?_)
  rw[List.map_map]
  exact .refl _
 refine qe ⟨_,rfl,h _ s1.heap.objs.size n zs ((PyProof.Rows.arrOf st').map (·.2)).toList (Nat.le_of_lt lt1) ?_ h1 (pz.nodup_iff.mpr T.nd) (fun k=>(pz.mem_iff).trans (T.mem k)) h3 (by rw[pz.length_eq,qa,qM]) (fun b o e=>?_) eg eo⟩
 ·exact at1
 ·have e1:=old b o e
  have lt:=qq e1
  have e2:=(PyProof.Rows.sortedHeap_old (h:=s1.heap.push { cls:=.type "list",data:=.seq vs.toArray }) (a:=s1.heap.objs.size) (vs:=vs) (out:=(PyProof.Rows.arrOf st').map (·.2)) (qG lt) (by rw[Heap.size_push];exact Nat.lt_succ_of_lt lt))
  exact e2.trans (qb _ e1)
end
section
variable {P:Program}{w:World}{A:Around}{E:Qq}{s:Shared}
def cP (w:World):Obj:=aW #[] 0 (.fresh 0 0 (!w.params.followText "set-order"))
theorem AC (v:Value) {Q1:Qq}(h:Q1 (.ref s.heap.objs.size) { s with heap:=s.heap.push (cP w) }):
 codeAny (model P w) A (.call (.builtin "set.__new__") ⟨[.type "set",v],[]⟩) (wants Q1 E) s:=by
 refine codeAny_of_tree ?_
 show wpAny _ A.in1 (do checkBuiltinCall "set.__new__" ⟨[.type "set",v],[]⟩;again (.builtin "set.__new__" ⟨[.type "set",v],[]⟩)) _ _ s
 have en:=F.entry_set_new
 have pl:=F.plain_set_new
 refine q9 (wpAny_of_eq (F.newCall_set_1 v) (qe ⟨plainId_quiet pl _,codeAny_builtin en ?_⟩))
 rw[Around.under_plainId pl _]
 unfold Builtin.«set.__new__» Builtin.Frozenset.newClass
 have sub:=sub_set_self
 obtain⟨hp,g,d,tk,os⟩:=s
 dsimp only
 wp_walk
 refine wpAny_askSetting (qe ?_)
 dsimp only
 simp only[newObj]
 refine q9 (wpAny_alloc (qe ?_))
 exact qe h
theorem oS:∀{vs:List Value}{zs:List Str},PyProof.Rows.StrsAre vs zs->zs.length=vs.length
 |_,_,.nil=>rfl
 |_,_,.cons _ _ r=>by rw[qA,qA,oS r]
theorem oT:∀{vs:List Value}{zs:List Str},PyProof.Rows.StrsAre vs zs->∀(i:Nat) (v:Value),vs[i]?=some v->∃k t,zs[i]?=some k/\v=.str k t
 |_,_,.nil,i,v,h=>by simp at h
 |_,_,.cons x t r,0,v,h=>by simp at h;exact⟨x,t,rfl,h.symm⟩
 |_,_,.cons x t r,i+1,v,h=>by
  simp only[List.getElem?_cons_succ]at h ⊢
  exact oT r i v h
theorem oO:bN P w #[] (.fresh 0 0 (!w.params.followText "set-order")) []:=
 { el:=(fun e he=>by cases he),nd:=List.nodup_nil,mem:=fun _=>Iff.rfl,few:=(by unfold scanBound;decide),fit:=rfl,led:=rfl,pl:=fun z=>absurd z (Nat.lt_irrefl 0) }
set_option maxHeartbeats 3200000 in
theorem Cf {l:Addr}{items:Array Value}{zs:List Str}{Q:Qq}(hh:A.handled=none) (hl:s.heap.IsList l items) (hi:PyProof.Rows.StrsAre items.toList zs) (hb:items.size+1<scanBound)
 (h:∀(h':Heap) (tk:Nat) es ep t,h'.get? s.heap.objs.size=some (aW es ep t)->bN P w es t zs->
  (∀b o,b<s.heap.objs.size->s.heap.get? b=some o->h'.get? b=some o)->Q (.ref s.heap.objs.size) { s with heap:=h',toks:=tk }):
 wpAny (model P w) A (call (.type "set") [.ref l]) Q E s:=by
 obtain⟨c,tl,hmro⟩:=F.called_set.mro
 have hmade:=F.called_set.made
 have hsub:=F.called_set.sub
 refine wpAny_call (codeAny_of_tree ?_)
 show wpAny _ _ (callAny (.type "set") _) _ _ _
 refine qe ⟨Code.quiet_builtin _ Qd,codeAny_builtin F.entry_type_call ?_⟩
 rw[Around.under_plain (weight_type_call_type "set" [.ref l] []) rfl]
 have h1:=F.called_set.notType
 have h2:=F.called_set.canCreate
 have hct:=F.typeCall_set_1 (.ref l)
 repeat (any_goals (first|assumption|wp_step))
 refine codeAny_mono (AC (P:=P) (w:=w) (E:=E) (s:=s) (.ref l) (Q1:=fun ob s1=>ob=.ref s.heap.objs.size/\s1={ s with heap:=s.heap.push (cP w) }) ⟨rfl,rfl⟩) fun r s1 hr=>?_
 cases r with
 |error e=>exact hr
 |ok fl=>
  cases fl with
  |ret ob=>
   obtain⟨rfl,rfl⟩:=hr
   have hS:(s.heap.push (cP w)).get? s.heap.objs.size=some (cP w):=qp _ rfl
   have hT:Shared.TypeIs { s with heap:=s.heap.push (cP w) } (.ref s.heap.objs.size) "set":=⟨_,hS,rfl⟩
   have hli:=F.called_set.init.lookup
   have hbi:=F.called_set.init.bind (.ref s.heap.objs.size)
   repeat (any_goals (first|assumption|wp_step))
   refine codeAny_mono (codeAny_call_builtin (R:=wants (fun r s2=>r=.none/\∃h' tk,s2={ s with heap:=h',toks:=tk }/\(∃es ep t,h'.get? s.heap.objs.size=some (aW es ep t)/\bN P w es t zs) /\
    (∀b o,b<s.heap.objs.size->s.heap.get? b=some o->h'.get? b=some o)) E) F.called_set.init.plain F.entry_set_init (check_set_init_1 hT ?_)) fun r2 s2 hr2=>?_
   ·obtain⟨ol,hol,hcl,nl,hdl⟩:=hl
    obtain⟨ocls,odict,odata,oslots⟩:=ol
    simp only at hcl hdl
    subst hcl hdl
    have hol':(s.heap.push (cP w)).get? l=some { cls:=.type "list",dict:=odict,data:=.seq items nl,slots:=oslots }:=qb _ hol
    have k1:=F.sub_list_set
    have k2:=F.sub_list_frozenset
    have k3:(Value.type "list" == Value.type "dict")=false:=Qk
    have hl1:(s.heap.push (cP w)).IsList l items:=⟨_,hol',rfl,nl,rfl⟩
    unfold Builtin.«set.__init__» noKeywords Builtin.Frozenset.updateFrom
    generalize hPI:pyIter=PI
    wp_walk
    subst hPI
    refine wpAny_pyIter_list hl1 ?_
    refine q9 (wpAny_runValue ?_)
    have lS:l<s.heap.objs.size:=qq hol
    have hh3:A.in1.in1.in1.handled=none:=by simp[hh]
    have neI:l≠(s.heap.push (cP w)).objs.size:=by rw[Heap.size_push];exact qG (Nat.lt_succ_of_lt lS)
    have nin:s.heap.objs.size∉[(s.heap.push (cP w)).objs.size,l]:=by
     rw[Heap.size_push]
     simp only[qu,qQ,or_false,not_or]
     exact⟨qG (Nat.lt_succ_self _),Nat.ne_of_gt lS⟩
    have hz:∀(i:Nat) (v:Value),items[i]?=some v->∃k t,zs[i]?=some k/\v=.str k t:=fun i v hv=>oT hi i v (by rw[qT];exact hv)
    have lz:zs.length=items.size:=by rw[<- qM];exact oS hi
    refine BC ((Walks.list hh3 _ l neI items).toS) s.heap.objs.size nin zs hz hb (items.size-0) 0 _ Qo (qt _) ⟨⟨_,qp _ rfl,rfl,rfl⟩,(hl1.push _)⟩ ⟨#[],0,_,qb _ hS,oO,qf _⟩ fun s' hm hS'=>?_
    obtain⟨es,ep,t,g1,g2,_⟩:=hS'
    obtain⟨h',g',d',tk',os'⟩:=s'
    have eg:g'=s.gens:=hm.gens
    have ed:d'=s.drawn:=hm.drawn
    have eo:os'=s.os:=hm.os
    subst eg ed eo
    refine qe ?_
    rw[<- lz,qH]at g2
    refine qe ⟨rfl,h',tk',rfl,⟨es,ep,t,g1,g2⟩,fun b o hb e=>?_⟩
    have n1:b≠s.heap.objs.size:=qG hb
    have n2:b≠(s.heap.push (cP w)).objs.size:=by rw[Heap.size_push];exact qG (Nat.lt_succ_of_lt hb)
    exact hm.heap b o (by simp only[qu,qQ,or_false,not_or];exact⟨n1,n2⟩) (qb _ (qb _ e))
   ·cases r2 with
    |error e=>exact hr2
    |ok fl2=>
     cases fl2 with
     |ret r=>
      obtain⟨rfl,h',tk,rfl,⟨es,ep,t,g1,g2⟩,hk⟩:=hr2
      repeat (any_goals (first|assumption|wp_step))
      exact h _ _ _ _ _ g1 g2 hk
     |_=>exact hr2.elim
  |_=>exact hr.elim
end
end L2
namespace L2
open PySem PySem.Spec PyProof.Rows
def dz (P:Program) (w:World) (a:Addr) (ys:List Str):HO:=.ext fun h=>∃es ep t,h.get? a=some (aW es ep t)/\bN P w es t ys
theorem dz.ok {P:Program}{w:World}{H:Hp}{h:Heap}{a:Addr}{ys:List Str}{es:Array (Int×Value)}{ep:Nat}{t:SetTable}(e:h.get? a=some (aW es ep t)) (T:bN P w es t ys):bB P w H h a (dz P w a ys):=
 ⟨⟨es,ep,t,e,T⟩,⟨_,e⟩,fun h1 h2 ⟨es,ep,t,q,T⟩ k=>⟨es,ep,t,k _ q,T⟩⟩
theorem kB:∀{ys:List Str}{its:List Value},av (ys.map V.str) its->StrsAre its ys
 |[],_,.nil=>.nil
 |y::ys,_,.cons r t=>by
  obtain⟨k,rfl⟩:=r
  exact .cons y k (kB t)
theorem mR:∀{ys:List Str}{its:List Value},StrsAre its ys->av (ys.map V.str) its
 |_,_,.nil=>.nil
 |_,_,.cons x t r=>.cons ⟨t,rfl⟩ (mR r)
theorem i9 {zs ds:List Str}(h:zs.Nodup) (k:∀x∈zs,x∈ds):zs.length<=ds.length:=by
 induction zs generalizing ds with
 |nil=>exact qt _
 |cons x r ih=>
  have hx:=k x qo
  have h':=List.nodup_cons.mp h
  have:=ih (ds:=ds.erase x) h'.2 fun y hy=>(List.mem_erase_of_ne (by rintro rfl;exact h'.1 hy)).mpr (k y (ql _ hy))
  rw[List.length_erase_of_mem hx]at this
  have:0<ds.length:=List.length_pos_of_mem hx
  simp only[qA]
  omega
section
variable {X:Cx}
theorem Inv.redrawn {pins:List (Addr×Obj)}{σ:St}{H:Hp}{s s':Shared}(I:Inv X pins σ H { s with heap:=s'.heap }) (hg:s'.gens=s.gens) (ho:s'.os=s.os):Inv X pins σ H s':=
 ⟨I.ok,ho.trans I.os,by rw[hg];exact I.bare,I.base,I.loc,I.cell,I.free,I.freeC,I.pin,I.hok,I.len⟩
theorem kh (hc:X.calm=true):cC X (.type "set") (fun xs H Q=>∃p ys,xs=[.ref p]/\SqL X.K H p (ys.map V.str)/\ys.length<4000/\∀l,H l=none->Q (.ref l) (upd H l (dz X.prog X.w l ys))):=by
 intro pins s σ H xs us Q I r h
 obtain⟨p,ys,rfl,hq,hz,q⟩:=h
 obtain⟨u,rfl,rx⟩:=eR r
 cases rx
 obtain⟨its,r',pl,_⟩:=I.list hq
 have hlen:=r'.length
 rw[qa]at hlen
 refine Cf (I.ok.hd hc) pl.isList (zs:=ys) (by simpa using kB r') (by simp only[qC];unfold scanBound;omega) fun h' tk es ep t e T k=>?_
 have kp:∀b o,s.heap.get? b=some o->h'.get? b=some o:=fun b o q=>k b o (qq q) q
 exact⟨.ref s.heap.objs.size,_,I.laid (t':=tk) kp (qf _) (dz.ok e T),rfl,q _ (I.hok.fresh (qf _))⟩
theorem nW (hc:X.calm=true):cC X (.builtin "sorted") (fun xs H Q=>∃(p:Addr) (ys ds:List Str),xs=[.ref p]/\H p=some (dz X.prog X.w p ys)/\(∀k∈ys,k∈ds)/\ds.length<64 /\
 ∀l zs,H l=none->zs.Nodup->(∀k,k∈zs↔k∈ys)->sortedS zs=true->Q (.ref l) (upd H l (.lst (zs.map V.str)))):=by
 intro pins s σ H xs us Q I r h
 obtain⟨p,ys,ds,rfl,hq,hd,h64,q⟩:=h
 obtain⟨u,rfl,rx⟩:=eR r
 cases rx
 obtain⟨⟨es,ep,t,e,T⟩,_,_⟩:=I.hok p _ hq
 have few:es.size<64:=by
  have:=i9 T.nd fun x hx=>hd x ((T.mem x).mp hx)
  rw[qa,qM]at this
  omega
 refine xg (I.ok.hd hc) e T few fun s' l n zs out hl ho hS nd hm so hzl kp hg hos=>?_
 have lz:zs.length<=sizeLine:=by rw[hzl];exact fits_of_scanBound T.few
 have J:=I.laid (t':=s.toks) (h':=s'.heap) (a:=l) (o:=.lst (zs.map V.str)) kp hl ⟨by rw[qa];exact lz,out,n,mR hS,ho⟩
 exact⟨.ref l,_,Inv.redrawn (s:=s) J hg hos,rfl,q l zs (I.hok.fresh hl) nd hm so⟩
end
end L2
namespace L2
open PySem
theorem AM:typeLookup (.type "list_reverseiterator") "__len__"=pure none:=by rw[typeLookup_type,builtinLookup_eq_fast];kernel_rfl
theorem AN:typeLookup (.type "list_reverseiterator") "__length_hint__"=pure (some (.builtin "list_reverseiterator.__length_hint__")):=by rw[typeLookup_type,builtinLookup_eq_fast];kernel_rfl
section
variable {P:Program}{w:World}{A:Around}{E:Qq}{s:Shared}
theorem AQ {I l:Addr}{items:Array Value}{Q:Qq}(hh:A.handled=none) (hne:l≠I) (hI:s.heap.IsRevIter I l ((items.size:Int)-1)) (hl:s.heap.IsList l items) (hz:items.size<=sizeLine)
 (h:∀h' tk c',(∀b o,b≠I->s.heap.get? b=some o->h'.get? b=some o)->h'.get? s.heap.objs.size=some { cls:=.type "list",data:=.seq items.toList.reverse.toArray c' }->Q (.ref s.heap.objs.size) { s with heap:=h',toks:=tk }):
 wpAny (model P w) A (call (.type "list") [.ref I]) Q E s:=by
 obtain⟨oI,gI,cI,dI⟩:=id hI
 obtain⟨oL,gL,_⟩:=id hl
 have lI:=qq gI
 have lL:=qq gL
 refine callType_codes (Q₁:=fun ob s1=>ob=.ref s.heap.objs.size/\s1={ s with heap:=s.heap.push { cls:=.type "list",data:=.seq #[] } }) F.called_list (F.typeCall_list_1 _) F.entry_list_init (code_list_new _ ⟨rfl,rfl⟩) fun ob s1 h1=>?_
 obtain⟨rfl,rfl⟩:=h1
 have hS:(s.heap.push { cls:=.type "list",data:=.seq #[] }).get? s.heap.objs.size=some { cls:=.type "list",data:=.seq #[] }:=qp _ rfl
 refine⟨⟨_,hS,rfl⟩,F.args_list_init_2 _ _,?_⟩
 show wpAny _ _ (do let old <- Builtin.List.listItems (.ref s.heap.objs.size);Builtin.List.listUpdate (.ref s.heap.objs.size) (fun _=>#[]);letGo old.toList.reverse;Builtin.List.listExtendWith (.ref s.heap.objs.size) (.ref I) .none) _ _ _
 refine q9 ?_
 unfold Builtin.List.listItems
 refine q9 (wpAny_seqItems hS rfl (qe ?_))
 refine q9 ?_
 show wpAny _ _ (updateSeq s.heap.objs.size (fun _=>#[])) _ _ _
 refine wpAny_updateSeq hS rfl ?_
 have hS2:=Heap.get?_update_self (Obj.mapSeq (fun _=>(#[]:Array Value))) hS rfl
 have oth:∀b o,b≠s.heap.objs.size->s.heap.get? b=some o->((s.heap.push { cls:=.type "list",data:=.seq #[] }).update s.heap.objs.size (Obj.mapSeq (fun _=>(#[]:Array Value)))).get? b=some o:=
  fun b o hb e=>(Heap.get?_update_other _ _ (Ne.symm hb)).trans (qb _ e)
 refine q9 (wpAny_letGo ?_)
 have nI:I≠s.heap.objs.size:=qG lI
 have nL:l≠s.heap.objs.size:=qG lL
 have hI2:=hI.at fun o e=>oth I o nI e
 have hl2:=hl.at fun o e=>oth l o nL e
 have ty:=hI2.typeIs (s:={ s with heap:=(s.heap.push { cls:=.type "list",data:=.seq #[] }).update s.heap.objs.size (Obj.mapSeq (fun _=>(#[]:Array Value))) })
 unfold Builtin.List.listExtendWith
 refine q9 (wpAny_typeOf ty ?_)
 have h1:Builtin.List.listSameRef (.ref s.heap.objs.size) (.ref I)=false:=by simp[Builtin.List.listSameRef,Ne.symm nI]
 rw[qZ (by rw[h1];decide)]
 refine q9 (wpAny_pyIter_revIter hI2 ?_)
 refine q9 (wpAny_holding ?_)
 unfold Builtin.List.listLengthHint
 refine q9 (wpAny_specialOf ty AM ?_)
 show wpAny _ _ (specialOf (Value.ref I) (Str.ofString "__length_hint__") >>= _) _ _ _
 refine q9 (wpAny_specialOf ty AN ?_)
 (generalize hid:("list_reverseiterator.__length_hint__":String)=id0;(fail_if_success (clear hid id0));wp_delta;rw[show splitId id0=some ("list_reverseiterator","__length_hint__")from by subst hid;decide +kernel];subst hid)
 refine q9 (wpAny_isInstance (b:=true) ty (by rw[isSubtype_type];kernel_rfl) ?_)
 refine qe ?_
 rw[qZ Qk]
 have W:=(Walks.listRev (prog:=P) (w:=w) (A:=A.in1.in1) (by simp[hh]) I l hne items).toS
 have notin:s.heap.objs.size∉[I,l]:=by simp[Ne.symm nI,Ne.symm nL]
 refine qe ⟨plainId_quiet F.plain_extend_loop _,codeAny_extend_loopS W hz _ notin _ items.size 0 _ _ _ rfl (qt _) ⟨qt _,by simpa using hI2,hl2⟩ hS2 (ItemsOf.nil _) fun s' acc c' hm hS' hacc=>?_⟩
 refine⟨rfl,?_⟩
 obtain⟨h',g',d',tk',os'⟩:=s'
 have eg:g'=s.gens:=hm.gens
 have ed:d'=s.drawn:=hm.drawn
 have eo:os'=s.os:=hm.os
 subst eg ed eo
 have ea:acc=items.toList.reverse.toArray:=by
  refine Array.ext (by simp[hacc.1]) fun i h1 h2=>?_
  have q:=hacc.2 i _ (Array.getElem?_eq_getElem h1)
  change items[items.size-1-i]?=some acc[i]at q
  have lt:items.size-1-i<items.size:=by have:=hacc.1;omega
  rw[Array.getElem?_eq_getElem lt]at q
  simp only[List.getElem_toArray,List.getElem_reverse,Array.getElem_toList,qM]
  exact(qJ q).symm
 subst ea
 refine h h' tk' c' (fun b o hb e=>?_) hS'
 ·have nb:b≠s.heap.objs.size:=qG (qq e)
  exact hm.heap b o (by simp[nb,hb]) (oth b o nb e)
end
end L2
namespace L2
open PySem PySem.Spec PyProof.Rows
section
variable {X:Cx}
theorem AE:MtR X "str.index" (fun v xs H Q=>∃(z y:Str) (i:Nat) (r:List Nat),v=.str z/\xs=[.str y]/\Builtin.Str.occurrences z y 0 z.length 1=i::r/\Q (.int (i:Int)) H):=by
 intro pins s σ H x xs v us Q I rx r h
 obtain⟨z,y,i,l,rfl,rfl,ho,q⟩:=h
 obtain⟨t,rfl⟩:=rx
 obtain⟨u,rfl,t',rfl⟩:=eR r
 exact call_gives PySem.F.slot_str_index (typeIs_str _ _ _) PySem.F.entry_str_index (PySem.F.args_str_index_2 _ _) (gives_str_index z y t t' i l ho) ⟨.int i,H,I.tok _,⟨_,rfl⟩,q⟩
theorem av.rev:∀{xs:List V}{us:List Value},av xs us->av xs.reverse us.reverse
 |_,_,.nil=>.nil
 |_,_,.cons r t=>by
  rw[List.reverse_cons,List.reverse_cons]
  exact av.append (av.rev t) (.cons r .nil)
def ww (K:PySem.W.Frag) (te:TE):TE:=fun σ H Q=>te σ H fun x H1=>∃p ys,x=.ref p/\SqL K H1 p ys/\∀l,H1 l=none->Q (.ref l) (upd H1 l (.lst ys.reverse))
theorem zq {e:Expr}{te:TE}{p1 p2 pos1 pos2:Pos}(hc:X.calm=true) (hg:Gl X "list") (hm:X.mg "list"=none) (hg2:Gl X "reversed") (hm2:X.mg "reversed"=none) (he:PE X e te)
 (hs:starEach [e] X.env=[(false,eval e X.env)]:=by rfl) (hs2:starEach [.Call (.Name "reversed" p2) [e] [] pos2] X.env=[(false,eval (.Call (.Name "reversed" p2) [e] [] pos2) X.env)]:=by rfl):
 PE X (.Call (.Name "list" p1) [.Call (.Name "reversed" p2) [e] [] pos2] [] pos1) (ww X.K te):=by
 intro pins s σ H Q I h
 refine wpAny_Call_Name_kw (g6 I hg hm PyProof.Rows.Boot.«list» ?_)
 refine PyProof.Rows.callWith_type1 ?_ (by rw[hs2];rfl) rfl
 rw[hs2]
 show wpAny _ _ (spliced ((false,eval (.Call (.Name "reversed" p2) [e] [] pos2) X.env)::backTo pos1 [])) _ _ s
 refine Calls.spliced_cons ?_
 refine wpAny_Call_Name_kw (g6 I hg2 hm2 PyProof.Rows.Boot.«reversed» ?_)
 refine PyProof.Rows.callWith_type1 ?_ (by rw[hs];rfl) rfl
 rw[hs]
 show wpAny _ _ (spliced ((false,eval e X.env)::backTo pos2 [])) _ _ s
 refine Calls.spliced_cons (thn (he pins s σ H _ I h) fun u s1 ⟨x,H1,I1,r1,q1⟩=>?_)
 refine Calls.spliced_nil ?_
 obtain⟨p,ys,rfl,hq,q⟩:=q1
 cases r1
 obtain⟨its,rv,pl,hz⟩:=I1.list hq
 have hlen:=rv.length
 have hl:=pl.isList
 obtain⟨oL,gL,_⟩:=id hl
 have lp:=qq gL
 refine call_reversed_list hl ?_
 refine Calls.spliced_nil ?_
 have I2:Inv X pins σ H1 { s1 with heap:=s1.heap.push (revObj p ((its.toArray.size:Int)-1)) }:=I1.kept (t':=s1.toks) fun b o e=>qb _ e
 have hI:(s1.heap.push (revObj p ((its.toArray.size:Int)-1))).IsRevIter s1.heap.objs.size p ((its.toArray.size:Int)-1):=⟨_,qp _ rfl,rfl,rfl⟩
 refine AQ (s:={ s1 with heap:=s1.heap.push (revObj p ((its.toArray.size:Int)-1)) }) (I1.ok.hd hc) (qG lp) hI (hl.at fun o e=>qb _ e) (by simp only[qC];omega) fun h' tk c' kp gl=>?_
 have kp1:∀b o,s1.heap.get? b=some o->h'.get? b=some o:=fun b o e=>kp b o (qG (qq e)) (qb _ e)
 have sz:(s1.heap.push (revObj p ((its.toArray.size:Int)-1))).objs.size=s1.heap.objs.size+1:=Heap.size_push ..
 have J:=I1.laid (t':=tk) (h':=h') (a:=(s1.heap.push (revObj p ((its.toArray.size:Int)-1))).objs.size) (o:=.lst ys.reverse) kp1 (by rw[sz];exact Nat.le_succ _) ⟨by rw[List.length_reverse];exact hz,its.reverse,c',rv.rev,by simpa using gl⟩
 exact⟨.ref (s1.heap.push (revObj p ((its.toArray.size:Int)-1))).objs.size,_,J,rfl,q _ (I1.hok.fresh (by rw[sz];exact Nat.le_succ _))⟩
end
theorem nR {K:PySem.W.Frag}{a:Addr}{xs:List V}{g:TG}{tt:TT}{te:TE}{Fin:List V->Hp->Prop}{σ:St}{H:Hp}(Pv:Nat->List V->St->Hp->Prop) (h0:Pv 0 [] σ H) (hz:∀i ys σ H,i<=xs.length->Pv i ys σ H->ys.length<=i) (hx:xs.length<=sizeLine) (hl:∀i ys σ H,Pv i ys σ H->SqT K H a xs)
 (hs:∀i x ys σ H,xs[i]?=some x->Pv i ys σ H->g x σ H fun σ2 H2=>tt σ2 H2 fun b H3=>if b=true then te σ2 H3 fun y H4=>Pv (i+1) (ys++[y]) σ2 H4 else Pv (i+1) ys σ2 H3)
 (hd:∀ys σ H,Pv xs.length ys σ H->Fin ys H):∃W:Nat->Nat->List V->St->Hp->Prop,(∃m,W 0 m [] σ H)/\gT (Itt K a) g tt te Fin W:=by
 refine⟨fun i m ys σ H=>m=xs.length-i/\i<=xs.length/\Pv i ys σ H,⟨_,rfl,qt _,h0⟩,?_⟩
 rintro i m ys σ H ⟨rfl,hi,p⟩
 have few:=hz i ys σ H hi p
 have q:=hl i ys σ H p
 by_cases lt:i<xs.length
 ·refine .inr ⟨⟨xs,xs[i],q,by simp[lt]⟩,Qo,Pv (i+1),fun ys' σ' H' p'=>⟨_,Qo,rfl,lt,p'⟩,fun v H' y=>?_⟩
  obtain⟨e,y⟩:=y
  subst e
  exact hs i v ys σ _ (y xs q) p
 ·obtain rfl:i=xs.length:=by omega
  exact .inl ⟨⟨xs,q,qf _⟩,Qo,hd ys σ H p⟩
theorem bx {b:Bool}{A B:Prop}(h:b=true) (x:A):if b=true then A else B:=by rw[Q0 h];exact x
theorem aB {b:Bool}{A B:Prop}(h:b=false) (x:B):if b=true then A else B:=by rw[qZ (by rw[h];decide)];exact x
theorem ifE {x y:V}{A B:Prop}(h:x=y) (a:A):if decide (x=y)=true then A else B:=by rw[Q0 (decide_eq_true h)];exact a
theorem ifN {x y:V}{A B:Prop}(h:x≠y) (b:B):if decide (x=y)=true then A else B:=by rw[qZ (by rw[decide_eq_true_iff];exact h)];exact b
end L2
namespace Tr
open PySem PySem.Spec PyProof.Rows L2
set_option linter.all false
inductive Val
 |num (n:Int)
 |nm (x:Str)
inductive a8
 |set (x:Str) (a:Val) (sg:Str) (b:Val)
 |put (q x:Str)
 |get (q x:Str)
 |give (x:Str)
 |cond (x:Str) (t o:List a8)
 |whl (x:Str) (b:List a8)
 |rep (n:Int) (b:List a8)
def Val.names:Val->List Str
 |.num _=>[]
 |.nm x=>[x]
def a8.names:a8->List Str
 |.set x a _ b=>x::(a.names++b.names)
 |.put _ x|.get _ x|.give x|.cond x _ _|.whl x _=>[x]
 |.rep _ _=>[]
def a8.inner:a8->List (List a8)
 |.cond _ t o=>[t,o]
 |.whl _ b|.rep _ b=>[b]
 |_=>[]
def a8.others:a8->List Str
 |.put q _=>[q++(">":Str)]
 |.get q _=>[q++("<":Str)]
 |.give _|.whl _ _=>[(">":Str)]
 |_=>[]
mutual
def a8.flat:a8->List a8
 |.cond x t o=>.cond x t o::(ah t++ah o)
 |.whl x b=>.whl x b::ah b
 |.rep n b=>.rep n b::ah b
 |.set x a sg b=>[.set x a sg b]
 |.put q x=>[.put q x]
 |.get q x=>[.get q x]
 |.give x=>[.give x]
def ah:List a8->List a8
 |[]=>[]
 |d::r=>d.flat++ah r
end
mutual
def a8.depth:a8->Nat
 |.cond _ t o=>max (aH t) (aH o)+1
 |.whl _ b=>aH b+1
 |.rep _ b=>aH b+1
 |_=>0
def aH:List a8->Nat
 |[]=>0
 |d::r=>max d.depth (aH r)
end
def a8.cards (d:a8):List Str:=d.names++d.others
def cards (b:List a8):List Str:=(ah b).flatMap a8.cards
theorem dS:∀(a b:List a8),ah (a++b)=ah a++ah b
 |[],b=>rfl
 |d::a,b=>by rw[List.cons_append,ah,ah,dS a b,qN]
theorem uX (a b:List a8):cards (a++b)=cards a++cards b:=by unfold cards;rw[dS,qU]
theorem nO:∀(a b:List a8),aH (a++b)=max (aH a) (aH b)
 |[],b=>by rw[List.nil_append,aH,Nat.zero_max]
 |d::a,b=>by rw[List.cons_append,aH,aH,nO a b,Nat.max_assoc]
theorem gH (d:a8):d.flat=d::d.inner.flatMap ah:=by
 cases d<;>simp[a8.flat,a8.inner]
theorem uV (d:a8):cards [d]=d.cards++d.inner.flatMap cards:=by
 unfold cards
 rw[ah,ah,qx,gH,qF]
 congr 1
 rw[List.flatMap_assoc]
inductive Op
 |root
 |ifT (x:Str)
 |ifO (x:Str) (t:List a8)
 |whl (x:Str)
 |rep (n:Int)
structure Fr where
 op:Op
 ds:List a8
 shut:Bool
 times:Int
def Fr.deed (f:Fr):a8:=match f.op with
 |.root=>.rep 0 f.ds
 |.ifT x=>.cond x f.ds []
 |.ifO x t=>.cond x t f.ds
 |.whl x=>.whl x f.ds
 |.rep n=>.rep n f.ds
def Fr.add (g:Fr) (d:a8):Fr:={ g with ds:=g.ds++[d] }
def gM:List Fr->List Fr
 |f::g::r=>g.add f.deed::r
 |st=>st
def e8:Nat->List Fr->List a8
 |0,st=>(st.head?.map Fr.ds).getD []
 |n+1,st=>e8 n (gM st)
def ip (st:List Fr):List a8:=e8 (st.length-1) st
def Op.extra:Op->List a8
 |.ifO _ t=>t
 |_=>[]
def Op.nms:Op->List Str
 |.ifT x|.ifO x _|.whl x=>[x]
 |_=>[]
def Op.one:Op->Nat
 |.root=>0
 |_=>1
def dZ (C:List Str):List Fr->Prop
 |[]=>False
 |[f]=>f.op=.root/\(∀k∈cards f.ds,k∈C)/\aH f.ds<=12
 |f::g::r=>f.op≠.root/\(∀k∈f.op.nms,k∈C)/\(∀k∈cards f.ds,k∈C)/\(∀k∈cards f.op.extra,k∈C)/\aH f.ds+(r.length+1)<=12/\aH f.op.extra+(r.length+1)<=12/\dZ C (g::r)
def cnt:List Fr->Nat
 |[]=>0
 |f::r=>(ah f.ds).length+(ah f.op.extra).length+f.op.one+cnt r
theorem BS {f:Fr}{C:List Str}(h0:f.op≠.root) (hg:(">":Str)∈C) (h1:∀k∈f.op.nms,k∈C) (h2:∀k∈cards f.ds,k∈C) (h3:∀k∈cards f.op.extra,k∈C):∀k∈cards [f.deed],k∈C:=by
 intro k hk
 rw[uV]at hk
 unfold Fr.deed at hk
 cases e:f.op with
 |root=>exact absurd e h0
 |ifT x=>
  rw[e]at hk h1 h3
  simp only[a8.cards,a8.names,a8.others,a8.inner,qF,List.flatMap_nil,qx,qi,qS]at hk
  rcases hk with rfl|hk|hk
  ·exact h1 _ (by simp[Op.nms])
  ·exact h2 _ hk
  ·exact absurd hk (by simp[cards,ah])
 |ifO x t=>
  rw[e]at hk h1 h3
  simp only[a8.cards,a8.names,a8.others,a8.inner,qF,List.flatMap_nil,qx,qi,qS]at hk
  rcases hk with rfl|hk|hk
  ·exact h1 _ (by simp[Op.nms])
  ·exact h3 _ hk
  ·exact h2 _ hk
 |whl x=>
  rw[e]at hk h1 h3
  simp only[a8.cards,a8.names,a8.others,a8.inner,qF,List.flatMap_nil,qx,qi,qS]at hk
  rcases hk with(rfl|rfl)|hk
  ·exact h1 _ (by simp[Op.nms])
  ·exact hg
  ·exact h2 _ hk
 |rep n=>
  rw[e]at hk
  simp only[a8.cards,a8.names,a8.others,a8.inner,qF,List.flatMap_nil,qx,List.nil_append,qi]at hk
  exact h2 _ hk
theorem BQ (f:Fr):aH [f.deed]<=max (aH f.ds) (aH f.op.extra)+1:=by
 unfold Fr.deed
 cases e:f.op<;>simp only[aH,a8.depth,Op.extra]<;>omega
theorem BR {f:Fr}(h0:f.op≠.root):(ah [f.deed]).length<=(ah f.ds).length+(ah f.op.extra).length+f.op.one:=by
 unfold Fr.deed
 cases e:f.op with
 |root=>exact absurd e h0
 |_=>simp[ah,a8.flat,Op.extra,Op.one]<;>omega
theorem dZ.add {C:List Str}{g:Fr}{r:List Fr}{d:a8}(h:dZ C (g::r)) (h1:∀k∈cards [d],k∈C) (h2:aH [d]+r.length<=12):dZ C (g.add d::r):=by
 have hc:(∀k∈cards g.ds,k∈C)->∀k∈cards (g.add d).ds,k∈C:=fun z k hk=>by
  unfold Fr.add at hk
  rw[uX,qi]at hk
  exact hk.elim (z k) (h1 k)
 have hd:aH (g.add d).ds=max (aH g.ds) (aH [d]):=by unfold Fr.add;rw[nO]
 cases r with
 |nil=>exact⟨h.1,hc h.2.1,by rw[hd];have:=h.2.2;simp at h2;omega⟩
 |cons g' r'=>
  obtain⟨a1,a2,a3,a4,a5,a6,a7⟩:=h
  simp only[qA]at h2
  exact⟨a1,a2,hc a3,a4,by rw[hd];omega,a6,a7⟩
theorem dZ.close {C:List Str}(hg:(">":Str)∈C) {f g:Fr}{r:List Fr}(h:dZ C (f::g::r)):dZ C (gM (f::g::r)):=by
 obtain⟨a1,a2,a3,a4,a5,a6,a7⟩:=h
 refine a7.add (BS a1 hg a2 a3 a4) ?_
 have:=BQ f
 omega
theorem uS (g:Fr) (r:List Fr) (d:a8):cnt (g.add d::r)=cnt (g::r)+(ah [d]).length:=by
 simp only[cnt,Fr.add,dS,qc]
 omega
theorem uR {f g:Fr}{r:List Fr}(h0:f.op≠.root):cnt (gM (f::g::r))<=cnt (f::g::r):=by
 show cnt (g.add f.deed::r)<=_
 rw[uS]
 have:=BR h0
 simp only[cnt]
 omega
theorem oC {C:List Str}(hg:(">":Str)∈C):∀(n:Nat) (st:List Fr),st.length=n+1->dZ C st->(∀k∈cards (e8 n st),k∈C)/\aH (e8 n st)<=12/\(ah (e8 n st)).length<=cnt st
 |0,[f],_,h=>⟨h.2.1,h.2.2,by simp[e8,cnt];omega⟩
 |n+1,f::g::r,hl,h=>by
  have:=oC hg n (gM (f::g::r)) (by simp[gM]at hl ⊢;omega) (h.close hg)
  exact⟨this.1,this.2.1,qy this.2.2 (uR h.1)⟩
def ar (c k:Int):Int:=(c % 2147483647 * (48271+1103 * k * k) % 2147483629+k) * (c % 2147483647 * (48271+1103 * k * k) % 2147483629+3 * k) % 2147483587
def cK:Str:="abcdefghijklmnopqrstuvwxyz"
def j3 (n:Int):Nat->Int
 |0=>n
 |i+1=>j3 n i / 26
def bX (j:Int):Nat:=cK.cps.toList.getD j.toNat 0
def sgn (c:Nat):Str:=⟨#[c]⟩
def ci (n:Int):Nat->Str
 |0=>""
 |i+1=>ci n i++sgn (bX (j3 n i % 26))
def kws:List Str:=["ask","store","put","get","give","if","else","while","repeat","end"]
def gE (w:Str):Int:=((w.cps.toList.getLastD 97:Nat):Int)-97
def cE (w:Str):Str:=if w∈kws then Txt.slice w none (some (-1))++sgn (bX ((gE w+13) % 26))else w
def bO (c:Int):Str:=ci (ar c 1 * ar c 1+ar c 1) 8
def dQ (c k:Int):Str:=sgn (bX ((ar c 1 / 192+k) % 26))
def d6 (c:Int):Int:=1+ar c 1 / 3 % 8
def cR (c:Int):Int:=ar c 1 / 24 % d6 c
def bR (c k:Int):Str:=
 if ar c 1 % 3=0 then Txt.slice (bO c) none (some (cR c))++dQ c k++Txt.slice (bO c) (some (cR c+1)) (some (d6 c))
 else if ar c 1 % 3=1 then Txt.slice (bO c) none (some (1+(ar c 1 / 24+k) % 8))
 else Txt.slice (dQ c k++ci (ar c (k+2)) 7) none (some (1+ar c (k+40) % 8))
def d5 (c:Int) (n:Nat):List Str:=(List.range n).map fun(k:Nat)=>cE (bR c k)
def cq (c:Int) (n:Nat):List Str:=if ar c 1 / 5000 % 2=1 then(d5 c n).reverse else d5 c n
def nth (l:List Str) (i:Int):Str:=l.getD (i % l.length).toNat ""
def iB (i:Int):Str:=sgn (("+-*/<=&|^":Str).cps.toList.getD (i % 9).toNat 0)
def bA (n:Int) (names rooms:List Str) (shut:Bool):a8:=
 if n % 14=6 then .give (nth names (n / 14))
 else if(n % 14=1\/n % 14=2\/n % 14=3\/n % 14=4\/n % 14=12\/n % 14=13)/\0<rooms.length/\shut=false then
  (if n % 14=3\/n % 14=4\/n % 14=13 then .get (nth rooms (n / 14 / 5)) (nth names (n / 14))else .put (nth rooms (n / 14 / 5)) (nth names (n / 14)))
 else .set (nth names (n / 14)) (if n / 14 / 125 % 4=0 then .num (n * n * n * 69621 % 1000000000000000000000000000000)else .nm (nth names (n / 14 / 5)))
  (iB (n / 14 / 1500)) (if n / 14 / 500 % 3=0 then .num (n * n * 48271 % 1000000000000000000000000000000)else .nm (nth names (n / 14 / 25)))
def cr (n most times:Int):Int:=if 0<times then n / 70 % (1+most / times)else n / 70 % 100
def eL (n:Int) (x:Str) (most:Int) (st:List Fr):List Fr:=match st with
 |[]=>[]
 |g::r=>(if n % 14=7 then⟨.ifT x,[],true,0⟩else if n % 14=8 then⟨.whl x,[],true,0⟩else⟨.rep (cr n most g.times),[],g.shut,g.times * cr n most g.times⟩)::g::r
def Op.ifT?:Op->Option Str
 |.ifT x=>some x
 |_=>none
def bK (names rooms:List Str) (most low:Int) (st:List Fr) (n:Int):List Fr:=match st with
 |[]=>[]
 |g::r=>
  if low<=n % 14/\n % 14<=9/\r.length+1<=12/\(n % 14<9\/0<most\/g.shut=true)then eL n (nth names (n / 14)) most (g::r)
  else match(if n % 14=10 then g.op.ifT? else none)with
   |some x=>{ g with op:=.ifO x g.ds,ds:=[] }::r
   |none=>if 10<=n % 14/\0<r.length then gM (g::r)else g.add (bA n names rooms g.shut)::r
def st0:List Fr:=[⟨.root,[],false,1⟩]
def cG (names rooms:List Str) (most low:Int) (cells:List Int):List Fr:=cells.foldl (fun st c=>bK names rooms most low st (ar c 1)) st0
def cW (names rooms:List Str) (most low:Int) (cells:List Int):List a8:=ip (cG names rooms most low cells)
def br (names rooms:List Str):List Str:=names++rooms.map (·++(">":Str))++rooms.map (·++("<":Str))++[(">":Str)]
theorem eM {l:List Str}(h:0<l.length) (i:Int):nth l i∈l:=by
 unfold nth
 have h1:0<=i % (l.length:Int):=Int.emod_nonneg _ Qo
 have h2:i % (l.length:Int)<l.length:=Int.emod_lt_of_pos _ Qo
 have h3:(i % (l.length:Int)).toNat<l.length:=Qo
 rw[qk,qd h3]
 exact List.getElem_mem h3
theorem xH {n:Int}{names rooms:List Str}{shut:Bool}(h:0<names.length):∀k∈cards [bA n names rooms shut],k∈br names rooms:=by
 have hn:∀i,nth names i∈br names rooms:=fun i=>by unfold br;simp[eM h i]
 have hg:(">":Str)∈br names rooms:=by unfold br;simp
 intro k hk
 unfold bA at hk
 split at hk
 ·simp[cards,ah,a8.flat,a8.cards,a8.names,a8.others]at hk
  rcases hk with rfl|rfl
  ·exact hn _
  ·exact hg
 ·split at hk
  ·rename_i hr
   have hm:=eM hr.2.1 (n / 14 / 5)
   split at hk
   ·simp[cards,ah,a8.flat,a8.cards,a8.names,a8.others]at hk
    rcases hk with rfl|rfl
    ·exact hn _
    ·unfold br;simp only[qi,List.mem_map];exact .inl (.inr ⟨_,hm,rfl⟩)
   ·simp[cards,ah,a8.flat,a8.cards,a8.names,a8.others]at hk
    rcases hk with rfl|rfl
    ·exact hn _
    ·unfold br;simp only[qi,List.mem_map];exact .inl (.inl (.inr ⟨_,hm,rfl⟩))
  ·simp only[cards,ah,a8.flat,a8.cards,a8.names,a8.others,qx,qF,List.flatMap_nil,qu,qi]at hk
   rcases hk with rfl|hk|hk
   ·exact hn _
   ·split at hk
    ·exact absurd hk (by simp[Val.names])
    ·simp[Val.names]at hk;subst hk;exact hn _
   ·split at hk
    ·exact absurd hk (by simp[Val.names])
    ·simp[Val.names]at hk;subst hk;exact hn _
theorem xG (n:Int) (names rooms:List Str) (shut:Bool):aH [bA n names rooms shut]=0/\(ah [bA n names rooms shut]).length=1:=by
 unfold bA
 split
 ·exact⟨rfl,rfl⟩
 ·split
  ·split<;>exact⟨rfl,rfl⟩
  ·exact⟨rfl,rfl⟩
theorem wX {names rooms:List Str}{most low n:Int}{st:List Fr}(h:0<names.length) (hs:dZ (br names rooms) st) (hl:st.length<=13):
 dZ (br names rooms) (bK names rooms most low st n)/\(bK names rooms most low st n).length<=13/\cnt (bK names rooms most low st n)<=cnt st+1:=by
 have hg:(">":Str)∈br names rooms:=by unfold br;simp
 have hn:∀i,nth names i∈br names rooms:=fun i=>by unfold br;simp[eM h i]
 match st,hs,hl with
 |g::r,hs,hl=>
  unfold bK
  dsimp only
  split
  ·rename_i c
   unfold eL
   dsimp only
   have em:cards []=[]:=rfl
   split
   ·exact⟨⟨by simp,by simp[Op.nms,hn],by simp[em],by simp[Op.extra,em],by simp[aH];omega,by simp[aH,Op.extra];omega,hs⟩,by simp;omega,by simp[cnt,ah,Op.extra,Op.one];omega⟩
   ·split
    ·exact⟨⟨by simp,by simp[Op.nms,hn],by simp[em],by simp[Op.extra,em],by simp[aH];omega,by simp[aH,Op.extra];omega,hs⟩,by simp;omega,by simp[cnt,ah,Op.extra,Op.one];omega⟩
    ·exact⟨⟨by simp,by simp[Op.nms],by simp[em],by simp[Op.extra,em],by simp[aH];omega,by simp[aH,Op.extra];omega,hs⟩,by simp;omega,by simp[cnt,ah,Op.extra,Op.one];omega⟩
  ·split
   ·rename_i x hx
    have e:g.op=.ifT x:=by
     split at hx
     ·cases e:g.op<;>rw[e]at hx<;>simp[Op.ifT?]at hx
      rw[hx]
     ·cases hx
    cases r with
    |nil=>have:=hs.1;rw[e]at this;cases this
    |cons g' r'=>
     obtain⟨a1,a2,a3,a4,a5,a6,a7⟩:=hs
     rw[e]at a2
     refine⟨⟨by simp,by simpa[Op.nms]using a2,by simp[cards,ah],by simpa[Op.extra]using a3,by simp[aH];omega,by simpa[Op.extra]using a5,a7⟩,hl,?_⟩
     simp[cnt,e,Op.extra,Op.one,ah]
   ·split
    ·rename_i c
     cases r with
     |nil=>exact absurd c.2 (by simp)
     |cons g' r'=>exact⟨hs.close hg,by simp[gM]at hl ⊢;omega,qy (uR hs.1) (Nat.le_succ _)⟩
    ·have sd:=xG n names rooms g.shut
     refine⟨hs.add (xH h) (by rw[sd.1];simp at hl;omega),by simpa using hl,?_⟩
     rw[uS,sd.2]
     exact qf _
theorem jd {names rooms:List Str}{most low:Int}(h:0<names.length):∀(cells:List Int) (st:List Fr),dZ (br names rooms) st->st.length<=13->
 dZ (br names rooms) (cells.foldl (fun st c=>bK names rooms most low st (ar c 1)) st)/\(cells.foldl (fun st c=>bK names rooms most low st (ar c 1)) st).length<=13/\cnt (cells.foldl (fun st c=>bK names rooms most low st (ar c 1)) st)<=cnt st+cells.length
 |[],st,hs,hl=>⟨hs,hl,qf _⟩
 |c::cs,st,hs,hl=>by
  obtain⟨b1,b2,b3⟩:=wX (most:=most) (low:=low) (n:=ar c 1) h hs hl
  obtain⟨c1,c2,c3⟩:=jd h cs _ b1 b2
  exact⟨c1,c2,by simp only[List.foldl_cons,qA];omega⟩
theorem Cr {names rooms:List Str}{most low:Int}(h:0<names.length) (cells:List Int):
 (∀k∈cards (cW names rooms most low cells),k∈br names rooms)/\aH (cW names rooms most low cells)<=12/\(ah (cW names rooms most low cells)).length<=cells.length:=by
 have hg:(">":Str)∈br names rooms:=by unfold br;simp
 obtain⟨a1,a2,a3⟩:=jd (rooms:=rooms) (most:=most) (low:=low) h cells st0 ⟨rfl,by simp[st0,cards,ah],by simp[st0,aH]⟩ (by simp[st0])
 have ne:cG names rooms most low cells≠[]:=fun z=>by unfold cG at z;rw[z]at a1;exact a1
 have hl:(cG names rooms most low cells).length=((cG names rooms most low cells).length-1)+1:=by
  have:=List.length_pos_iff.mpr ne
  omega
 obtain⟨b1,b2,b3⟩:=oC hg _ _ hl a1
 refine⟨b1,b2,qy b3 (qy a3 ?_)⟩
 simp[cnt,st0,ah,Op.extra,Op.one]
def Val.v:Val->V
 |.num n=>.int n
 |.nm x=>.str x
mutual
inductive RD (H:Hp):V->a8->Prop
 |set {p:Addr}{x:Str}{a:Val}{sg:Str}{b:Val}:H p=some (.tup [.str "set",.str x,a.v,.str sg,b.v])->RD H (.ref p) (.set x a sg b)
 |put {p:Addr}{q x:Str}:H p=some (.tup [.str "put",.str q,.str x])->RD H (.ref p) (.put q x)
 |get {p:Addr}{q x:Str}:H p=some (.tup [.str "get",.str q,.str x])->RD H (.ref p) (.get q x)
 |give {p:Addr}{x:Str}:H p=some (.tup [.str "give",.str x])->RD H (.ref p) (.give x)
 |cond {p t o:Addr}{x:Str}{ts os:List a8}:H p=some (.tup [.str "if",.str x,.ref t,.ref o])->RL H t ts->RL H o os->RD H (.ref p) (.cond x ts os)
 |whl {p b:Addr}{x:Str}{bs:List a8}:H p=some (.tup [.str "while",.str x,.ref b])->RL H b bs->RD H (.ref p) (.whl x bs)
 |rep {p b:Addr}{n:Int}{bs:List a8}:H p=some (.tup [.str "repeat",.int n,.ref b])->RL H b bs->RD H (.ref p) (.rep n bs)
inductive RL (H:Hp):Addr->List a8->Prop
 |mk {l:Addr}{vs:List V}{ds:List a8}:H l=some (.lst vs)->RDs H vs ds->RL H l ds
inductive RDs (H:Hp):List V->List a8->Prop
 |nil:RDs H [] []
 |cons {v:V}{vs:List V}{d:a8}{ds:List a8}:RD H v d->RDs H vs ds->RDs H (v::vs) (d::ds)
end
mutual
theorem RD.same {H H':Hp}(e:a9 H H'):∀{v:V}{d:a8},RD H v d->RD H' v d
 |_,_,.set h=>.set (e _ _ h)
 |_,_,.put h=>.put (e _ _ h)
 |_,_,.get h=>.get (e _ _ h)
 |_,_,.give h=>.give (e _ _ h)
 |_,_,.cond h a b=>.cond (e _ _ h) (RL.same e a) (RL.same e b)
 |_,_,.whl h a=>.whl (e _ _ h) (RL.same e a)
 |_,_,.rep h a=>.rep (e _ _ h) (RL.same e a)
theorem RL.same {H H':Hp}(e:a9 H H'):∀{l:Addr}{ds:List a8},RL H l ds->RL H' l ds
 |_,_,.mk h a=>.mk (e _ _ h) (RDs.same e a)
theorem RDs.same {H H':Hp}(e:a9 H H'):∀{vs:List V}{ds:List a8},RDs H vs ds->RDs H' vs ds
 |_,_,.nil=>.nil
 |_,_,.cons a b=>.cons (RD.same e a) (RDs.same e b)
end
theorem RDs.app {H:Hp}:∀{us vs:List V}{a b:List a8},RDs H us a->RDs H vs b->RDs H (us++vs) (a++b)
 |_,_,_,_,.nil,h=>h
 |_,_,_,_,.cons x r,h=>.cons x (RDs.app r h)
theorem RDs.len {H:Hp}:∀{vs:List V}{ds:List a8},RDs H vs ds->vs.length=ds.length
 |_,_,.nil=>rfl
 |_,_,.cons _ r=>by rw[qA,qA,RDs.len r]
theorem RDs.at {H:Hp}:∀{vs:List V}{ds:List a8},RDs H vs ds->∀(i:Nat) (v:V),vs[i]?=some v->∃d,ds[i]?=some d/\RD H v d
 |_,_,.nil,i,v,h=>by simp at h
 |_,_,.cons x r,0,v,h=>by simp at h;subst h;exact⟨_,rfl,x⟩
 |_,_,.cons x r,i+1,v,h=>by
  simp only[List.getElem?_cons_succ]at h ⊢
  exact RDs.at r i v h
mutual
def a8.data:a8->PyData
 |.set x a sg b=>.tuple [.str "set",.str x,(match a with|.num n=>.int n|.nm y=>.str y),.str sg,(match b with|.num n=>.int n|.nm y=>.str y)]
 |.put q x=>.tuple [.str "put",.str q,.str x]
 |.get q x=>.tuple [.str "get",.str q,.str x]
 |.give x=>.tuple [.str "give",.str x]
 |.cond x t o=>.tuple [.str "if",.str x,.list (dW t),.list (dW o)]
 |.whl x b=>.tuple [.str "while",.str x,.list (dW b)]
 |.rep n b=>.tuple [.str "repeat",.int n,.list (dW b)]
def dW:List a8->List PyData
 |[]=>[]
 |d::r=>d.data::dW r
end
inductive RLs (H:Hp):List Addr->List (List a8)->Prop
 |nil:RLs H [] []
 |cons {l:Addr}{ls:List Addr}{d:List a8}{ds:List (List a8)}:RL H l d->RLs H ls ds->RLs H (l::ls) (d::ds)
theorem RLs.same {H H':Hp}(e:a9 H H'):∀{ls:List Addr}{ds:List (List a8)},RLs H ls ds->RLs H' ls ds
 |_,_,.nil=>.nil
 |_,_,.cons a b=>.cons (RL.same e a) (RLs.same e b)
theorem RLs.len {H:Hp}:∀{ls:List Addr}{ds:List (List a8)},RLs H ls ds->ls.length=ds.length
 |_,_,.nil=>rfl
 |_,_,.cons _ r=>by rw[qA,qA,RLs.len r]
theorem RLs.at {H:Hp}:∀{ls:List Addr}{ds:List (List a8)},RLs H ls ds->∀(i:Nat) (l:Addr),ls[i]?=some l->∃d,ds[i]?=some d/\RL H l d
 |_,_,.nil,i,v,h=>by simp at h
 |_,_,.cons x r,0,v,h=>by simp at h;subst h;exact⟨_,rfl,x⟩
 |_,_,.cons x r,i+1,v,h=>by
  simp only[List.getElem?_cons_succ]at h ⊢
  exact RLs.at r i v h
theorem iI:∀(r:List Str) (x:Str),risingS x r=true->∀y∈r,x.cps.toList<=y.cps.toList
 |[],_,_,_,h=>nomatch h
 |z::r,x,h,y,hy=>by
  have h':(!ltCps z.cps.toList x.cps.toList && risingS z r)=true:=h
  rw[Bool.and_eq_true,Bool.not_eq_true',ltCps_eq,decide_eq_false_iff_not]at h'
  have xz:x.cps.toList<=z.cps.toList:=List.not_lt.mp h'.1
  rcases qu.mp hy with rfl|hy
  ·exact xz
  ·exact List.le_trans xz (iI r z h'.2 y hy)
theorem jz {x:Str}:∀{r:List Str},risingS x r=true->sortedS r=true
 |[],_=>rfl
 |z::r,h=>by
  have h':(!ltCps z.cps.toList x.cps.toList && risingS z r)=true:=h
  exact(Bool.and_eq_true_iff.mp h').2
theorem oU {x y:Str}(h:x.cps.toList=y.cps.toList):x=y:=PyProof.Rows.ext_toList h
theorem rP:∀{a b:List Str},a.Nodup->b.Nodup->sortedS a=true->sortedS b=true->(∀k,k∈a↔k∈b)->a=b
 |[],[],_,_,_,_,_=>rfl
 |[],y::s,_,_,_,_,h=>absurd ((h y).mpr qo) (by simp)
 |x::r,[],_,_,_,_,h=>absurd ((h x).mp qo) (by simp)
 |x::r,y::s,ha,hb,sa,sb,h=>by
  have ha':=List.nodup_cons.mp ha
  have hb':=List.nodup_cons.mp hb
  have e:x=y:=by
   rcases qu.mp ((h x).mp qo)with e|hx
   ·exact e
   rcases qu.mp ((h y).mpr qo)with e|hy
   ·exact e.symm
   exact oU (List.le_antisymm (iI r x sa y hy) (iI s y sb x hx))
  subst e
  rw[rP ha'.2 hb'.2 (jz sa) (jz sb) fun k=>?_]
  constructor
  ·intro hk
   rcases qu.mp ((h k).mp (ql _ hk))with e|z
   ·subst e;exact absurd hk ha'.1
   ·exact z
  ·intro hk
   rcases qu.mp ((h k).mpr (ql _ hk))with e|z
   ·subst e;exact absurd hk hb'.1
   ·exact z
end Tr
namespace Tr
open PySem PySem.Spec PyProof.Rows L2
set_option linter.all false
theorem a9.over {H0 H:Hp}{f:Addr}{o:HO}(h:a9 H0 H) (hf:H0 f=none):a9 H0 (upd H f o):=fun b u q=>by
 rw[af (ce q hf)]
 exact h b u q
theorem a9.none {H0 H:Hp}{f:Addr}(h:a9 H0 H) (hf:H f=none):H0 f=none:=by
 cases q:H0 f with
 |none=>rfl
 |some o=>rw[h _ _ q]at hf;cases hf
structure Fz where
 f:Fr
 c:Addr
 p:Addr
 e:Addr
def Fz.tupV (x:Fz):List V:=match x.f.op with
 |.root=>[]
 |.ifT n=>[.str "if",.str n,.ref x.c,.ref x.e]
 |.ifO n _=>[.str "if",.str n,.ref x.e,.ref x.c]
 |.whl n=>[.str "while",.str n,.ref x.c]
 |.rep n=>[.str "repeat",.int n,.ref x.c]
def Fz.o (x:Fz):V:=match x.f.op with
 |.ifT _=>.ref x.e
 |_=>.non
def Fz.muts (x:Fz):List Addr:=match x.f.op with
 |.ifT _=>[x.c,x.e]
 |_=>[x.c]
def Fz.side (x:Fz) (H0 H:Hp):Prop:=match x.f.op with
 |.ifT _=>H x.e=some (.lst [])
 |.ifO _ t=>RL H0 x.e t
 |_=>True
def ZR (H0 H:Hp):List Fz->List V->Prop
 |[],_=>False
 |x::r,tl=>(∃vs,H x.c=some (.lst (vs++tl))/\RDs H0 vs x.f.ds)/\x.side H0 H/\((x.f.op=.root/\r=[])\/(x.f.op≠.root/\H x.p=some (.tup x.tupV)/\ZR H0 H r [.ref x.p]))
theorem Fz.c_mem (x:Fz):x.c∈x.muts:=by unfold Fz.muts;split<;>simp
theorem ZR.frame {H0 H H':Hp}:∀{z:List Fz}{tl:List V},ZR H0 H z tl->(∀m∈z.flatMap Fz.muts,H' m=H m)->(∀p xs,H p=some (.tup xs)->H' p=some (.tup xs))->ZR H0 H' z tl
 |[],_,h,_,_=>h
 |x::r,tl,⟨⟨vs,h1,h2⟩,h3,h4⟩,hm,ht=>by
  have mx:∀m∈x.muts,H' m=H m:=fun m hm'=>hm m (by simp[hm'])
  have mr:∀m∈r.flatMap Fz.muts,H' m=H m:=fun m hm'=>hm m (by rw[qF];exact qI _ hm')
  refine⟨⟨vs,by rw[mx _ x.c_mem];exact h1,h2⟩,?_,?_⟩
  ·unfold Fz.side at h3 ⊢
   split
   ·rename_i e
    rw[e]at h3
    rw[mx x.e (by unfold Fz.muts;rw[e];simp)]
    exact h3
   ·rename_i e
    rw[e]at h3
    exact h3
   ·trivial
  ·rcases h4 with h4|⟨h4,h5,h6⟩
   ·exact .inl h4
   ·exact .inr ⟨h4,ht _ _ h5,ZR.frame h6 mr ht⟩
theorem ZR.grow {H0 H0' H:Hp}(e:a9 H0 H0'):∀{z:List Fz}{tl:List V},ZR H0 H z tl->ZR H0' H z tl
 |[],_,h=>h
 |x::r,tl,⟨⟨vs,h1,h2⟩,h3,h4⟩=>by
  refine⟨⟨vs,h1,h2.same e⟩,?_,?_⟩
  ·unfold Fz.side at h3 ⊢
   revert h3
   cases x.f.op<;>intro h3<;>first|exact h3|exact RL.same e h3
  ·rcases h4 with h4|⟨h4,h5,h6⟩
   ·exact .inl h4
   ·exact .inr ⟨h4,h5,ZR.grow e h6⟩
def wh:List Fr->List a8->List a8
 |[],_=>[]
 |[f],dt=>f.ds++dt
 |f::g::r,dt=>wh (g::r) [({ f with ds:=f.ds++dt }:Fr).deed]
theorem vT:∀(r:List Fr) (g:Fr) (d:a8),wh (g.add d::r) []=wh (g::r) [d]
 |[],g,d=>by simp[wh,Fr.add]
 |g'::r,g,d=>by simp[wh,Fr.add]
theorem iq:∀(n:Nat) (st:List Fr),st.length=n+1->e8 n st=wh st []
 |0,[f],_=>by simp[e8,wh]
 |n+1,f::g::r,h=>by
  have e:e8 (n+1) (f::g::r)=e8 n (g.add f.deed::r):=rfl
  rw[e,iq n (g.add f.deed::r) (by simp at h ⊢;omega),vT,wh,qx]
def j4:List Fz->Addr
 |[]=>0
 |[x]=>x.c
 |_::y::r=>j4 (y::r)
theorem ZR.whole {H0 H:Hp}(e:a9 H0 H):∀{z:List Fz}{tl:List V}{dt:List a8},ZR H0 H z tl->RDs H tl dt->RL H (j4 z) (wh (z.map (·.f)) dt)
 |[],_,_,h,_=>h.elim
 |[x],tl,dt,⟨⟨vs,h1,h2⟩,_,_⟩,ht=>.mk h1 ((h2.same e).app ht)
 |x::y::r,tl,dt,⟨⟨vs,h1,h2⟩,h3,h4⟩,ht=>by
  rcases h4 with⟨_,h4⟩|⟨h4,h5,h6⟩
  ·cases h4
  refine ZR.whole (z:=y::r) e h6 (.cons ?_ .nil)
  have hl:RL H x.c (x.f.ds++dt):=.mk h1 ((h2.same e).app ht)
  unfold Fz.tupV at h5
  unfold Fz.side at h3
  unfold Fr.deed
  cases q:x.f.op with
  |root=>exact absurd q h4
  |ifT n=>
   rw[q]at h5 h3
   exact .cond h5 hl (.mk h3 .nil)
  |ifO n t=>
   rw[q]at h5 h3
   exact .cond h5 (RL.same e h3) hl
  |whl n=>
   rw[q]at h5
   exact .whl h5 hl
  |rep n=>
   rw[q]at h5
   exact .rep h5 hl
def bq (S s0 s1 s2 s3:Addr) (z:List Fz):List Addr:=S::s0::s1::s2::s3::z.flatMap Fz.muts
structure ZI (Hb H0 H:Hp) (S s0 s1 s2 s3:Addr) (z:List Fz):Prop where
 hb:a9 Hb H0
 h0:a9 H0 H
 fz:∀m∈bq S s0 s1 s2 s3 z,H0 m=none
 nd:(bq S s0 s1 s2 s3 z).Nodup
 cS:H S=some (.lst [.ref s0,.ref s1,.ref s2,.ref s3])
 c0:H s0=some (.lst ((z.map fun x=>V.ref x.c).reverse))
 c1:H s1=some (.lst ((z.map Fz.o).reverse))
 c2:H s2=some (.lst ((z.map fun x=>V.bl x.f.shut).reverse))
 c3:H s3=some (.lst ((z.map fun x=>V.int x.f.times).reverse))
 zr:ZR H0 H z []
section
variable {Hb H0 H H1:Hp}{S s0 s1 s2 s3:Addr}{z:List Fz}
theorem ZI.hbH (Z:ZI Hb H0 H S s0 s1 s2 s3 z):a9 Hb H:=Z.hb.trans Z.h0
theorem ZI.top (Z:ZI Hb H0 H S s0 s1 s2 s3 z):∃x r vs,z=x::r/\H x.c=some (.lst vs)/\RDs H0 vs x.f.ds:=by
 have:=Z.zr
 match z,this with
 |x::r,⟨⟨vs,h1,h2⟩,_⟩=>exact⟨x,r,vs,rfl,by simpa using h1,h2⟩
theorem ZR.lsts {tl:List V}:∀{z:List Fz},ZR H0 H z tl->∀m∈z.flatMap Fz.muts,∃vs,H m=some (.lst vs):=by
 intro z
 induction z generalizing tl with
 |nil=>intro h;exact h.elim
 |cons x r ih=>
  rintro⟨⟨vs,h1,_⟩,h3,h4⟩ m hm
  rw[qF]at hm
  rcases qi.mp hm with hm|hm
  ·unfold Fz.muts at hm
   unfold Fz.side at h3
   split at hm<;>rename_i q
   ·rw[q]at h3
    simp at hm
    rcases hm with rfl|rfl
    ·exact⟨_,h1⟩
    ·exact⟨_,h3⟩
   ·simp at hm
    subst hm
    exact⟨_,h1⟩
  ·rcases h4 with⟨_,h4⟩|⟨_,_,h6⟩
   ·subst h4;simp at hm
   ·exact ih h6 m hm
theorem ZI.lsts (Z:ZI Hb H0 H S s0 s1 s2 s3 z):∀m∈bq S s0 s1 s2 s3 z,∃vs,H m=some (.lst vs):=by
 intro m hm
 unfold bq at hm
 simp only[qu]at hm
 rcases hm with rfl|rfl|rfl|rfl|rfl|hm
 ·exact⟨_,Z.cS⟩
 ·exact⟨_,Z.c0⟩
 ·exact⟨_,Z.c1⟩
 ·exact⟨_,Z.c2⟩
 ·exact⟨_,Z.c3⟩
 ·exact Z.zr.lsts m hm
theorem ZI.same (Z:ZI Hb H0 H S s0 s1 s2 s3 z) (e:a9 H H1):ZI Hb H0 H1 S s0 s1 s2 s3 z where
 hb:=Z.hb
 h0:=Z.h0.trans e
 fz:=Z.fz
 nd:=Z.nd
 cS:=e _ _ Z.cS
 c0:=e _ _ Z.c0
 c1:=e _ _ Z.c1
 c2:=e _ _ Z.c2
 c3:=e _ _ Z.c3
 zr:=Z.zr.frame (fun m hm=>by obtain⟨vs,h⟩:=Z.zr.lsts m hm;rw[h];exact e _ _ h) fun p xs h=>e _ _ h
end
end Tr
namespace Tr
open PySem PySem.Spec PyProof.Rows L2
set_option linter.all false
section
variable {Hb H0 H H1:Hp}{S s0 s1 s2 s3:Addr}{z:List Fz}
theorem ZI.ne (Z:ZI Hb H0 H S s0 s1 s2 s3 z) {m:Addr}(hm:m∈z.flatMap Fz.muts):S≠m/\s0≠m/\s1≠m/\s2≠m/\s3≠m:=by
 have nd:=Z.nd
 unfold bq at nd
 simp only[List.nodup_cons,qu,not_or]at nd
 obtain⟨⟨_,_,_,_,n0⟩,⟨_,_,_,n1⟩,⟨_,_,n2⟩,⟨_,n3⟩,n4,_⟩:=nd
 exact⟨(fun e=>n0 (e▸hm)),(fun e=>n1 (e▸hm)),(fun e=>n2 (e▸hm)),(fun e=>n3 (e▸hm)),(fun e=>n4 (e▸hm))⟩
theorem ZI.ss (Z:ZI Hb H0 H S s0 s1 s2 s3 z):S≠s0/\S≠s1/\S≠s2/\S≠s3/\s0≠s1/\s0≠s2/\s0≠s3/\s1≠s2/\s1≠s3/\s2≠s3:=by
 have nd:=Z.nd
 unfold bq at nd
 simp only[List.nodup_cons,qu,not_or]at nd
 obtain⟨⟨a1,a2,a3,a4,_⟩,⟨b1,b2,b3,_⟩,⟨c1,c2,_⟩,⟨d1,_⟩,_⟩:=nd
 exact⟨a1,a2,a3,a4,b1,b2,b3,c1,c2,d1⟩
theorem ZI.ndz (Z:ZI Hb H0 H S s0 s1 s2 s3 z):(z.flatMap Fz.muts).Nodup:=by
 have nd:=Z.nd
 unfold bq at nd
 simp only[List.nodup_cons]at nd
 exact nd.2.2.2.2.2
theorem ZI.fzz (Z:ZI Hb H0 H S s0 s1 s2 s3 z) {m:Addr}(hm:m∈z.flatMap Fz.muts):H0 m=none:=Z.fz m (by unfold bq;simp[hm])
theorem cD {p m:Addr}{xs vs:List V}(h1:H p=some (.tup xs)) (h2:H m=some (.lst vs)):p≠m:=tR h1 h2 (by intro z;cases z)
theorem fY {x:Fz}{r:List Fz}:x.c∈(x::r).flatMap Fz.muts:=by rw[qF];exact qV _ x.c_mem
theorem mW {x:Fz}{r:List Fz}{m:Addr}(h:m∈r.flatMap Fz.muts):m∈(x::r).flatMap Fz.muts:=by rw[qF];exact qI _ h
theorem nX {x:Fz}{r:List Fz}(nd:((x::r).flatMap Fz.muts).Nodup) {m:Addr}(h:m∈r.flatMap Fz.muts):m≠x.c:=by
 rw[qF]at nd
 intro e
 exact(List.nodup_append.mp nd).2.2 x.c x.c_mem m h e.symm
theorem kP {x:Fz}{r:List Fz}(nd:((x::r).flatMap Fz.muts).Nodup) {n:Str}(q:x.f.op=.ifT n):x.e≠x.c/\x.e∈x.muts/\∀m∈r.flatMap Fz.muts,m≠x.e:=by
 rw[qF]at nd
 have h:=List.nodup_append.mp nd
 have e:x.muts=[x.c,x.e]:=by unfold Fz.muts;rw[q]
 rw[e]at h
 refine⟨?_,by rw[e];simp,fun m hm z=>h.2.2 x.e (by simp) m hm z.symm⟩
 have:=h.1
 simp at this
 exact fun z=>this z.symm
theorem ZR.rest {x:Fz}{r:List Fz}{tl:List V}{o:HO}(zr:ZR H0 H (x::r) tl) (nd:((x::r).flatMap Fz.muts).Nodup) {vs:List V}(hc:H x.c=some (.lst vs)):
 x.side H0 (upd H x.c o)/\((x.f.op=.root/\r=[])\/(x.f.op≠.root/\(upd H x.c o) x.p=some (.tup x.tupV)/\ZR H0 (upd H x.c o) r [.ref x.p])):=by
 obtain⟨_,h3,h4⟩:=zr
 refine⟨?_,?_⟩
 ·unfold Fz.side at h3 ⊢
  cases q:x.f.op with
  |ifT n=>
   rw[q]at h3
   show(upd H x.c o) x.e=some (.lst [])
   rw[af (kP nd q).1]
   exact h3
  |ifO n t=>rw[q]at h3;exact h3
  |root=>trivial
  |whl n=>trivial
  |rep n=>trivial
 ·rcases h4 with h4|⟨h4,h5,h6⟩
  ·exact .inl h4
  ·refine .inr ⟨h4,by rw[af (cD h5 hc)];exact h5,h6.frame (fun m hm=>af (nX nd hm)) fun p xs h=>by rw[af (cD h hc)];exact h⟩
theorem ZI.push {x:Fz}{r:List Fz}{vs xs:List V}{p:Addr}{d:a8}(Z:ZI Hb H0 H S s0 s1 s2 s3 (x::r)) (hc:H x.c=some (.lst vs)) (hp:H p=some (.tup xs)) (hp0:H0 p=none) (hd:RD (upd H0 p (.tup xs)) (.ref p) d):
 ZI Hb (upd H0 p (.tup xs)) (upd H x.c (.lst (vs++[.ref p]))) S s0 s1 s2 s3 ({ x with f:=x.f.add d }::r):=by
 have n:=Z.ne (fY (x:=x) (r:=r))
 have pc:=cD hp hc
 have cz:H0 x.c=none:=Z.fzz fY
 have g:a9 H0 (upd H0 p (.tup xs)):=a9.new hp0 _
 have rest:=(Z.zr.rest (o:=.lst (vs++[.ref p])) Z.ndz hc)
 refine{ hb:=Z.hb.trans g,h0:=?_,fz:=?_,nd:=Z.nd,cS:=?_,c0:=?_,c1:=?_,c2:=?_,c3:=?_,zr:=?_ }
 ·intro b u q
  by_cases e:b=p
  ·subst e
   rw[ag]at q
   cases q
   rw[af pc]
   exact hp
  ·rw[af e]at q
   rw[af (ce q cz)]
   exact Z.h0 _ _ q
 ·intro m hm
  obtain⟨ws,hw⟩:=Z.lsts m hm
  rw[af (Ne.symm (cD hp hw))]
  exact Z.fz m hm
 ·rw[af n.1];exact Z.cS
 ·rw[af n.2.1];exact Z.c0
 ·rw[af n.2.2.1];exact Z.c1
 ·rw[af n.2.2.2.1];exact Z.c2
 ·rw[af n.2.2.2.2];exact Z.c3
 ·obtain⟨⟨vs',h1,h2⟩,_,_⟩:=Z.zr
  rw[qx,hc]at h1
  cases h1
  refine⟨⟨vs++[.ref p],by rw[qx];exact ag,(h2.same g).app (.cons hd .nil)⟩,?_,?_⟩
  ·have q:=rest.1
   unfold Fz.side at q ⊢
   dsimp only[Fr.add]
   revert q
   cases x.f.op<;>intro q<;>first|exact q|exact RL.same g q
  ·rcases rest.2 with h4|⟨h4,h5,h6⟩
   ·exact .inl h4
   ·exact .inr ⟨h4,h5,h6.grow g⟩
end
end Tr
namespace Tr
open PySem PySem.Spec PyProof.Rows L2
set_option linter.all false
section
variable {Hb H0 H H':Hp}{S s0 s1 s2 s3:Addr}{z:List Fz}
theorem ZI.opened {x y:Fz}{r:List Fz}{vs:List V}(Z:ZI Hb H0 H S s0 s1 s2 s3 (x::r)) (hc:H x.c=some (.lst vs))
 (k:∀b u,b≠x.c->b≠s0->b≠s1->b≠s2->b≠s3->H b=some u->H' b=some u) (nm:∀m∈y.muts,H m=none/\H' m=some (.lst [])) (ny:y.muts.Nodup) (hp:H' y.p=some (.tup y.tupV))
 (hop:y.f.op≠.root) (hno:∀n t,y.f.op≠.ifO n t) (hds:y.f.ds=[])
 (kc:H' x.c=some (.lst (vs++[.ref y.p]))) (k0:H' s0=some (.lst (((x::r).map fun x=>V.ref x.c).reverse++[.ref y.c]))) (k1:H' s1=some (.lst (((x::r).map Fz.o).reverse++[y.o])))
 (k2:H' s2=some (.lst (((x::r).map fun x=>V.bl x.f.shut).reverse++[.bl y.f.shut]))) (k3:H' s3=some (.lst (((x::r).map fun x=>V.int x.f.times).reverse++[.int y.f.times]))):ZI Hb H0 H' S s0 s1 s2 s3 (y::x::r):=by
 have sn:=Z.ss
 have cn:=Z.ne (fY (x:=x) (r:=r))
 have fresh:∀m∈y.muts,∀b∈bq S s0 s1 s2 s3 (x::r),m≠b:=fun m hm b hb e=>by
  obtain⟨ws,hw⟩:=Z.lsts b hb
  rw[<- e,(nm m hm).1]at hw
  cases hw
 have am:bq S s0 s1 s2 s3 (y::x::r)=[S,s0,s1,s2,s3]++(y.muts++(x::r).flatMap Fz.muts):=by simp[bq]
 have am':bq S s0 s1 s2 s3 (x::r)=[S,s0,s1,s2,s3]++(x::r).flatMap Fz.muts:=by simp[bq]
 have h0':a9 H0 H':=fun b u q=>by
  have nb:∀m∈bq S s0 s1 s2 s3 (x::r),b≠m:=fun m hm=>ce q (Z.fz m hm)
  exact k b u (nb _ (by rw[am'];exact qI _ fY)) (nb _ (by rw[am'];simp)) (nb _ (by rw[am'];simp)) (nb _ (by rw[am'];simp)) (nb _ (by rw[am'];simp)) (Z.h0 _ _ q)
 have oth:∀m,m∈(x::r).flatMap Fz.muts->m≠x.c->H' m=H m:=fun m hm hmc=>by
  obtain⟨ws,hw⟩:=Z.zr.lsts m hm
  have n:=Z.ne hm
  rw[hw]
  exact k m _ hmc (Ne.symm n.2.1) (Ne.symm n.2.2.1) (Ne.symm n.2.2.2.1) (Ne.symm n.2.2.2.2) hw
 have tp:∀p xs,H p=some (.tup xs)->H' p=some (.tup xs):=fun p xs h=>k p _ (cD h hc) (cD h Z.c0) (cD h Z.c1) (cD h Z.c2) (cD h Z.c3) h
 refine{ hb:=Z.hb,h0:=h0',fz:=?_,nd:=?_,cS:=k _ _ cn.1 sn.1 sn.2.1 sn.2.2.1 sn.2.2.2.1 Z.cS,c0:=?_,c1:=?_,c2:=?_,c3:=?_,zr:=?_ }
 ·intro m hm
  rw[am,qi,qi]at hm
  rcases hm with hm|hm|hm
  ·exact Z.fz m (by rw[am'];exact qV _ hm)
  ·exact a9.none Z.h0 (nm m hm).1
  ·exact Z.fzz hm
 ·have nd:=Z.nd
  rw[am']at nd
  rw[am,List.nodup_append,List.nodup_append]
  have a:=List.nodup_append.mp nd
  refine⟨a.1,⟨ny,a.2.1,fun m hm b hb=>fresh m hm b (by rw[am'];exact qI _ hb)⟩,fun m hm b hb=>?_⟩
  rcases qi.mp hb with hb|hb
  ·exact Ne.symm (fresh b hb m (by rw[am'];exact qV _ hm))
  ·exact a.2.2 m hm b hb
 ·rw[k0];simp
 ·rw[k1];simp
 ·rw[k2];simp
 ·rw[k3];simp
 ·obtain⟨⟨vs',h1,h2⟩,h3,h4⟩:=Z.zr
  rw[qx,hc]at h1
  cases h1
  refine⟨⟨[],(nm _ y.c_mem).2,by rw[hds];exact .nil⟩,?_,.inr ⟨hop,hp,⟨vs,kc,h2⟩,?_,?_⟩⟩
  ·unfold Fz.side
   cases q:y.f.op with
   |ifT n=>exact(nm y.e (by unfold Fz.muts;rw[q];simp)).2
   |ifO n t=>exact absurd q (hno n t)
   |root=>trivial
   |whl n=>trivial
   |rep n=>trivial
  ·unfold Fz.side at h3 ⊢
   cases q:x.f.op with
   |ifT n=>
    rw[q]at h3
    have se:=kP Z.ndz q
    show H' x.e=some (.lst [])
    rw[oth x.e (by rw[qF];exact qV _ se.2.1) se.1]
    exact h3
   |ifO n t=>rw[q]at h3;exact h3
   |root=>trivial
   |whl n=>trivial
   |rep n=>trivial
  ·rcases h4 with h4|⟨h4,h5,h6⟩
   ·exact .inl h4
   ·exact .inr ⟨h4,tp _ _ h5,h6.frame (fun m hm=>oth m (mW hm) (nX Z.ndz hm)) tp⟩
theorem ZI.elsed {x:Fz}{r:List Fz}{vs:List V}{n:Str}(Z:ZI Hb H0 H S s0 s1 s2 s3 (x::r)) (q:x.f.op=.ifT n) (hc:H x.c=some (.lst vs))
 (k:∀b u,b≠s0->b≠s1->H b=some u->H' b=some u) (k0:H' s0=some (.lst ((r.map fun x=>V.ref x.c).reverse++[.ref x.e]))) (k1:H' s1=some (.lst ((r.map Fz.o).reverse++[.non]))):
 ZI Hb (upd H0 x.c (.lst vs)) H' S s0 s1 s2 s3 (⟨{ x.f with op:=.ifO n x.f.ds,ds:=[] },x.e,x.p,x.c⟩::r):=by
 have sn:=Z.ss
 have cn:=Z.ne (fY (x:=x) (r:=r))
 have se:=kP Z.ndz q
 have em:x.e∈(x::r).flatMap Fz.muts:=by rw[qF];exact qV _ se.2.1
 have en:=Z.ne em
 have g:a9 H0 (upd H0 x.c (.lst vs)):=a9.new (Z.fzz fY) _
 have mx:x.muts=[x.c,x.e]:=by unfold Fz.muts;rw[q]
 have tp:∀p xs,H p=some (.tup xs)->H' p=some (.tup xs):=fun p xs h=>k p _ (cD h Z.c0) (cD h Z.c1) h
 have oth:∀m,m∈(x::r).flatMap Fz.muts->H' m=H m:=fun m hm=>by
  obtain⟨ws,hw⟩:=Z.zr.lsts m hm
  have n:=Z.ne hm
  rw[hw]
  exact k m _ (Ne.symm n.2.1) (Ne.symm n.2.2.1) hw
 have z0:H0 s0=none:=Z.fz _ (by simp[bq])
 have z1:H0 s1=none:=Z.fz _ (by simp[bq])
 obtain⟨⟨vs',h1,h2⟩,h3,h4⟩:=Z.zr
 rw[qx,hc]at h1
 cases h1
 unfold Fz.side at h3
 rw[q]at h3
 have sub:∀m,m∈bq S s0 s1 s2 s3 (⟨{ x.f with op:=.ifO n x.f.ds,ds:=[] },x.e,x.p,x.c⟩::r)->m∈bq S s0 s1 s2 s3 (x::r)/\m≠x.c:=fun m hm=>by
  simp only[bq,qF,Fz.muts,qu,List.cons_append,List.nil_append]at hm
  simp only[bq,qF,mx,qu,List.cons_append,List.nil_append]
  rcases hm with rfl|rfl|rfl|rfl|rfl|rfl|hm
  ·exact⟨by simp,cn.1⟩
  ·exact⟨by simp,cn.2.1⟩
  ·exact⟨by simp,cn.2.2.1⟩
  ·exact⟨by simp,cn.2.2.2.1⟩
  ·exact⟨by simp,cn.2.2.2.2⟩
  ·exact⟨by simp,se.1⟩
  ·have hm':m∈r.flatMap Fz.muts:=by simpa using hm
   exact⟨by simp[hm'],nX Z.ndz hm'⟩
 refine{ hb:=Z.hb.trans g,h0:=?_,fz:=?_,nd:=?_,cS:=k _ _ sn.1 sn.2.1 Z.cS,c0:=?_,c1:=?_,c2:=?_,c3:=?_,zr:=?_ }
 ·intro b u hb
  by_cases e:b=x.c
  ·subst e
   rw[ag]at hb
   cases hb
   exact k _ _ (Ne.symm cn.2.1) (Ne.symm cn.2.2.1) hc
  ·rw[af e]at hb
   exact k _ _ (ce hb z0) (ce hb z1) (Z.h0 _ _ hb)
 ·intro m hm
  rw[af (sub m hm).2]
  exact Z.fz m (sub m hm).1
 ·have nd:=Z.nd
  simp only[bq,qF,mx,List.cons_append,List.nil_append,List.nodup_cons,qu,not_or]at nd
  simp only[bq,qF,Fz.muts,List.cons_append,List.nil_append,List.nodup_cons,qu,not_or]
  obtain⟨⟨a1,a2,a3,a4,_,a6,a7⟩,⟨b1,b2,b3,_,b5,b6⟩,⟨c1,c2,_,c4,c5⟩,⟨d1,_,d3,d4⟩,⟨_,e2,e3⟩,_,f2,f3⟩:=nd
  exact⟨⟨a1,a2,a3,a4,a6,a7⟩,⟨b1,b2,b3,b5,b6⟩,⟨c1,c2,c4,c5⟩,⟨d1,d3,d4⟩,⟨e2,e3⟩,f2,f3⟩
 ·rw[k0];simp
 ·rw[k1];simp[Fz.o]
 ·refine(k _ _ (Ne.symm sn.2.2.2.2.2.1) (Ne.symm sn.2.2.2.2.2.2.2.1) Z.c2).trans ?_
  simp
 ·refine(k _ _ (Ne.symm sn.2.2.2.2.2.2.1) (Ne.symm sn.2.2.2.2.2.2.2.2.1) Z.c3).trans ?_
  simp
 ·refine⟨⟨[],?_,.nil⟩,.mk ag (h2.same g),?_⟩
  ·show H' x.e=some (.lst ([]++[]))
   rw[oth x.e em]
   exact h3
  ·rcases h4 with⟨h4,_⟩|⟨h4,h5,h6⟩
   ·rw[q]at h4;cases h4
   ·refine .inr ⟨by simp,?_,(h6.frame (fun m hm=>oth m (mW hm)) tp).grow g⟩
    have:=tp _ _ h5
    unfold Fz.tupV at this ⊢
    rw[q]at this
    exact this
theorem ZI.closed {x g:Fz}{r:List Fz}(Z:ZI Hb H0 H S s0 s1 s2 s3 (x::g::r))
 (k:∀b u,b≠s0->b≠s1->b≠s2->b≠s3->H b=some u->H' b=some u) (k0:H' s0=some (.lst (((g::r).map fun x=>V.ref x.c).reverse))) (k1:H' s1=some (.lst (((g::r).map Fz.o).reverse)))
 (k2:H' s2=some (.lst (((g::r).map fun x=>V.bl x.f.shut).reverse))) (k3:H' s3=some (.lst (((g::r).map fun x=>V.int x.f.times).reverse))):
 ∃H0',ZI Hb H0' H' S s0 s1 s2 s3 ({ g with f:=g.f.add x.f.deed }::r):=by
 have sn:=Z.ss
 obtain⟨⟨vs,h1,h2⟩,h3,h4⟩:=Z.zr
 rw[qx]at h1
 rcases h4 with⟨_,h4⟩|⟨h4,h5,h6⟩
 ·cases h4
 have tp:∀p xs,H p=some (.tup xs)->H' p=some (.tup xs):=fun p xs h=>k p _ (cD h Z.c0) (cD h Z.c1) (cD h Z.c2) (cD h Z.c3) h
 have oth:∀m,m∈(x::g::r).flatMap Fz.muts->H' m=H m:=fun m hm=>by
  obtain⟨ws,hw⟩:=Z.zr.lsts m hm
  have n:=Z.ne hm
  rw[hw]
  exact k m _ (Ne.symm n.2.1) (Ne.symm n.2.2.1) (Ne.symm n.2.2.2.1) (Ne.symm n.2.2.2.2) hw
 have mx:∀m∈x.muts,m∈(x::g::r).flatMap Fz.muts:=fun m hm=>by rw[qF];exact qV _ hm
 let H0':Hp:=fun b=>if b∈x.muts\/b=x.p then H b else H0 b
 have e1:∀b,b∈x.muts\/b=x.p->H0' b=H b:=fun b hb=>Q0 hb
 have e2:∀b,¬ (b∈x.muts\/b=x.p)->H0' b=H0 b:=fun b hb=>qZ hb
 have gr:a9 H0 H0':=fun b u hb=>by
  by_cases c:b∈x.muts\/b=x.p
  ·rw[e1 b c];exact Z.h0 _ _ hb
  ·rw[e2 b c];exact hb
 have hl:RL H0' x.c x.f.ds:=.mk ((e1 _ (.inl x.c_mem)).trans h1) (h2.same gr)
 have ht:H0' x.p=some (.tup x.tupV):=(e1 _ (.inr rfl)).trans h5
 have hd:RD H0' (.ref x.p) x.f.deed:=by
  unfold Fz.tupV at ht
  unfold Fz.side at h3
  unfold Fr.deed
  cases q:x.f.op with
  |root=>exact absurd q h4
  |ifT n=>
   rw[q]at ht h3
   exact .cond ht hl (.mk ((e1 _ (.inl (by unfold Fz.muts;rw[q];simp))).trans h3) .nil)
  |ifO n t=>
   rw[q]at ht h3
   exact .cond ht (RL.same gr h3) hl
  |whl n=>
   rw[q]at ht
   exact .whl ht hl
  |rep n=>
   rw[q]at ht
   exact .rep ht hl
 have ndx:=Z.ndz
 rw[qF]at ndx
 have nd3:=List.nodup_append.mp ndx
 have ex:∀m,m∈bq S s0 s1 s2 s3 (g::r)->H0' m=none:=fun m hm=>by
  have hm':m∈bq S s0 s1 s2 s3 (x::g::r):=by
   simp only[bq,qF,qu,qi]at hm ⊢
   rcases hm with h|h|h|h|h|h
   ·exact .inl h
   ·exact .inr (.inl h)
   ·exact .inr (.inr (.inl h))
   ·exact .inr (.inr (.inr (.inl h)))
   ·exact .inr (.inr (.inr (.inr (.inl h))))
   ·exact .inr (.inr (.inr (.inr (.inr (.inr h)))))
  rw[e2 m ?_]
  ·exact Z.fz m hm'
  ·rintro(hx|hx)
   ·have n:=Z.ne (mx m hx)
    simp only[bq,qu]at hm
    rcases hm with h|h|h|h|h|h
    ·exact n.1 h.symm
    ·exact n.2.1 h.symm
    ·exact n.2.2.1 h.symm
    ·exact n.2.2.2.1 h.symm
    ·exact n.2.2.2.2 h.symm
    ·exact nd3.2.2 m hx m h rfl
   ·obtain⟨ws,hw⟩:=Z.lsts m hm'
    exact cD h5 hw hx.symm
 refine⟨H0',{ hb:=Z.hb.trans gr,h0:=?_,fz:=ex,nd:=?_,cS:=k _ _ sn.1 sn.2.1 sn.2.2.1 sn.2.2.2.1 Z.cS,c0:=k0,c1:=k1,c2:=k2,c3:=k3,zr:=?_ }⟩
 ·intro b u hb
  by_cases c:b∈x.muts\/b=x.p
  ·rw[e1 b c]at hb
   rcases c with c|c
   ·rw[oth b (mx b c)];exact hb
   ·subst c;rw[h5]at hb;cases hb;exact tp _ _ h5
  ·rw[e2 b c]at hb
   have z:∀m,m∈bq S s0 s1 s2 s3 (x::g::r)->b≠m:=fun m hm=>ce hb (Z.fz m hm)
   exact k _ _ (z _ (by simp[bq])) (z _ (by simp[bq])) (z _ (by simp[bq])) (z _ (by simp[bq])) (Z.h0 _ _ hb)
 ·have nd:=Z.nd
  have am:bq S s0 s1 s2 s3 (x::g::r)=[S,s0,s1,s2,s3]++(x.muts++(g::r).flatMap Fz.muts):=by simp[bq]
  rw[am]at nd
  have a:=List.nodup_append.mp nd
  show(bq S s0 s1 s2 s3 (g::r)).Nodup
  have am':bq S s0 s1 s2 s3 (g::r)=[S,s0,s1,s2,s3]++(g::r).flatMap Fz.muts:=by simp[bq]
  rw[am',List.nodup_append]
  exact⟨a.1,nd3.2.1,fun m hm b hb=>a.2.2 m hm b (qI _ hb)⟩
 ·have h7:=(h6.frame (H':=H') (fun m hm=>oth m (mW hm)) tp).grow gr
  obtain⟨⟨ws,w1,w2⟩,w3,w4⟩:=h7
  exact⟨⟨ws++[.ref x.p],by rw[qx];exact w1,w2.app (.cons hd .nil)⟩,w3,w4⟩
end
end Tr
namespace Tr
open PySem PySem.Spec PyProof.Rows L2
set_option linter.all false
section
variable {Hb H0 H H4:Hp}{S s0 s1 s2 s3:Addr}
theorem mJ {x y:Fz}{r:List Fz}{vs:List V}(Z:ZI Hb H0 H S s0 s1 s2 s3 (x::r)) (hc:H x.c=some (.lst vs)) (k4:∀b u,b≠x.c->H b=some u->H4 b=some u) (nm:∀m∈y.muts,H m=none/\H4 m=some (.lst [])) (ny:y.muts.Nodup)
 (hp:H4 y.p=some (.tup y.tupV)) (hop:y.f.op≠.root) (hno:∀n t,y.f.op≠.ifO n t) (hds:y.f.ds=[]) (kc:H4 x.c=some (.lst (vs++[.ref y.p]))):
 ZI Hb H0 (upd (upd (upd (upd H4 s0 (.lst (((x::r).map fun x=>V.ref x.c).reverse++[.ref y.c]))) s1 (.lst (((x::r).map Fz.o).reverse++[y.o]))) s2 (.lst (((x::r).map fun x=>V.bl x.f.shut).reverse++[.bl y.f.shut]))) s3 (.lst (((x::r).map fun x=>V.int x.f.times).reverse++[.int y.f.times]))) S s0 s1 s2 s3 (y::x::r):=by
 obtain⟨_,_,_,_,n01,n02,n03,n12,n13,n23⟩:=Z.ss
 have cn:=Z.ne (fY (x:=x) (r:=r))
 have ms:∀m∈y.muts,m≠s0/\m≠s1/\m≠s2/\m≠s3:=fun m hm=>by
  have hn:=(nm m hm).1
  exact⟨(fun e=>by rw[e,Z.c0]at hn;cases hn),(fun e=>by rw[e,Z.c1]at hn;cases hn),(fun e=>by rw[e,Z.c2]at hn;cases hn),(fun e=>by rw[e,Z.c3]at hn;cases hn)⟩
 have c0:=k4 _ _ cn.2.1 Z.c0
 have c1:=k4 _ _ cn.2.2.1 Z.c1
 have c2:=k4 _ _ cn.2.2.2.1 Z.c2
 have c3:=k4 _ _ cn.2.2.2.2 Z.c3
 refine Z.opened (y:=y) hc (fun b u h1 h2 h3 h4 h5 hb=>?_) (fun m hm=>⟨(nm m hm).1,?_⟩) ny ?_ hop hno hds ?_ ?_ ?_ ?_ ?_
 ·rw[af h5,af h4,af h3,af h2]
  exact k4 b u h1 hb
 ·have h:=ms m hm
  rw[af h.2.2.2,af h.2.2.1,af h.2.1,af h.1]
  exact(nm m hm).2
 ·rw[af (cD hp c3),af (cD hp c2),af (cD hp c1),af (cD hp c0)]
  exact hp
 ·rw[af (Ne.symm cn.2.2.2.2),af (Ne.symm cn.2.2.2.1),af (Ne.symm cn.2.2.1),af (Ne.symm cn.2.1)]
  exact kc
 ·rw[af n03,af n02,af n01,ag]
 ·rw[af n13,af n12,ag]
 ·rw[af n23,ag]
 ·rw[ag]
theorem u9 {α:Type}{l:List α}{v:α}:atI (l++[v]) (-1)=some v:=by
 unfold atI
 have e:ixN (l++[v]).length (-1)=some l.length:=by
  unfold ixN
  simp
  omega
 rw[e]
 simp
theorem f7 {α β:Type}{f:α->β}{x:α}{r:List α}:atI (((x::r).map f).reverse) (-1)=some (f x):=by
 rw[qR,List.reverse_cons]
 exact u9
end
end Tr
namespace Tr
open PySem PySem.Spec PyProof.Rows L2
set_option linter.all false
theorem uD:∀ds:List a8,ds.length<=(ah ds).length
 |[]=>qf _
 |d::r=>by
  have:=uD r
  rw[ah,qc,qA,gH,qA]
  omega
theorem wb {f:Fr}{r:List Fr}:f.ds.length<=cnt (f::r):=by
 have:=uD f.ds
 rw[cnt]
 omega
def km (st:List Fr):Prop:=∀f∈st,0<=f.times/\f.times<=1000
theorem wV {names rooms:List Str}{most low n:Int}{st:List Fr}(h0:0<=most) (h1:most<=1000) (hn:0<=n) (ht:km st):km (bK names rooms most low st n):=by
 match st,ht with
 |[],ht=>exact ht
 |g::r,ht=>
  have hg:=ht g qo
  have hr:∀f∈r,0<=f.times/\f.times<=1000:=fun f hf=>ht f (ql _ hf)
  unfold bK
  dsimp only
  split
  ·unfold eL
   dsimp only
   intro f hf
   rcases qu.mp hf with rfl|hf
   ·split
    ·exact⟨by simp,by simp⟩
    ·split
     ·exact⟨by simp,by simp⟩
     ·dsimp only
      unfold cr
      by_cases tp:0<g.times
      ·rw[Q0 tp]
       have q0:0<=most / g.times:=Int.ediv_nonneg h0 hg.1
       have e0:0<=n / 70 % (1+most / g.times):=Int.emod_nonneg _ Qo
       have e1:n / 70 % (1+most / g.times)<1+most / g.times:=Int.emod_lt_of_pos _ Qo
       refine⟨Int.mul_nonneg hg.1 e0,?_⟩
       have m1:g.times * (n / 70 % (1+most / g.times))<=g.times * (most / g.times):=Int.mul_le_mul_of_nonneg_left Qo hg.1
       have m2:g.times * (most / g.times)<=most:=Int.mul_ediv_self_le Qo
       omega
      ·have:g.times=0:=by omega
       rw[this]
       simp
   ·exact ht f hf
  ·split
   ·intro f hf
    rcases qu.mp hf with rfl|hf
    ·exact hg
    ·exact hr f hf
   ·split
    ·cases r with
     |nil=>exact ht
     |cons g' r'=>
      intro f hf
      rcases qu.mp hf with rfl|hf
      ·exact hr g' qo
      ·exact hr f (ql _ hf)
    ·intro f hf
     rcases qu.mp hf with rfl|hf
     ·exact hg
     ·exact hr f hf
theorem wZ {names rooms:List Str}{most low:Int}{cells:List Int}{i:Nat}{c:Int}(h:cells[i]?=some c):cG names rooms most low (cells.take (i+1))=bK names rooms most low (cG names rooms most low (cells.take i)) (ar c 1):=by
 unfold cG
 rw[qr,h,List.foldl_append]
 rfl
theorem ph {names rooms:List Str}{most low:Int}(h0:0<=most) (h1:most<=1000):∀(cells:List Int) (st:List Fr),km st->km (cells.foldl (fun st c=>bK names rooms most low st (ar c 1)) st)
 |[],st,h=>h
 |c::cs,st,h=>ph h0 h1 cs _ (wV h0 h1 (by unfold ar;exact Int.emod_nonneg _ Qk) h)
theorem vc {x x':Fz}{r:List Fz}(h:x'.c=x.c):j4 (x'::r)=j4 (x::r):=by
 cases r with
 |nil=>exact h
 |cons y r=>rfl
theorem B8 {L Pc c A B:Prop}{inst:Decidable c}(hw:c->Pc) (rest:Pc->L) (h:¬ c->(Pc->L)->B) (e:A=L:=by rfl):@ite Prop c inst A B:=by
 subst e
 by_cases hc:c
 ·rw[Q0 hc];exact rest (hw hc)
 ·rw[qZ hc];exact h hc rest
theorem uc {α:Type}{l:List α}{v:α}:ixN (l++[v]).length (-1)=some l.length:=by
 unfold ixN
 simp
 omega
theorem rV {α:Type}{l:List α}{v w:α}:(l++[v]).set l.length w=l++[w]:=by
 induction l with
 |nil=>rfl
 |cons a r ih=>simp[ih]
end Tr
namespace Tr
open L2
theorem goB {Pc:Prop}{F:Bool->Prop}(go:Pc->∃k,V.bl false=V.bl k/\F k) (p:Pc):F false:=by
 obtain⟨k,e,h⟩:=go p
 cases e
 exact h
end Tr
namespace Tr
theorem k9 {α β:Type}{f:α->β}{x:α}{r:List α}:(((x::r).map f).reverse).dropLast=(r.map f).reverse:=by
 rw[qR,List.reverse_cons,List.dropLast_concat]
theorem jU {α β:Type}{f:α->β}{x:α}{r:List α}:(((x::r).map f).reverse)[(((x::r).map f).reverse).length-1]?=some (f x):=by
 rw[qR,List.reverse_cons]
 simp
end Tr
namespace Tr
open PySem PySem.Spec PyProof.Rows L2
set_option linter.all false
def a8.strs:a8->List Str
 |.set x a sg b=>x::sg::(a.names++b.names)
 |.put q x|.get q x=>[q,x]
 |.give x|.cond x _ _|.whl x _=>[x]
 |.rep _ _=>[]
def cA (D:List Str) (ds:List a8):Prop:=∀d∈ah ds,∀s∈d.strs,s∈D
def FrT (D:List Str) (f:Fr):Prop:=cA D f.ds/\cA D f.op.extra/\∀s∈f.op.nms,s∈D
theorem cA.nil {D:List Str}:cA D []:=fun d h=>by simp[ah]at h
theorem cA.app {D:List Str}{a b:List a8}(h1:cA D a) (h2:cA D b):cA D (a++b):=fun d h=>by
 rw[dS,qi]at h
 exact h.elim (h1 d) (h2 d)
theorem cA.one {D:List Str}{d:a8}(h:∀s∈d.strs,s∈D) (hi:∀b∈d.inner,cA D b):cA D [d]:=fun e he=>by
 rw[ah,ah,qx,gH,qu,List.mem_flatMap]at he
 rcases he with rfl|⟨b,hb,he⟩
 ·exact h
 ·exact hi b hb e he
theorem FrT.deed {D:List Str}{f:Fr}(h:FrT D f):cA D [f.deed]:=by
 obtain⟨h1,h2,h3⟩:=h
 unfold Fr.deed
 cases q:f.op<;>rw[q]at h2 h3
 ·exact .one (by simp[a8.strs]) (by simpa[a8.inner]using h1)
 ·exact .one (by simpa[a8.strs,Op.nms]using h3) (by simpa[a8.inner]using⟨h1,cA.nil⟩)
 ·exact .one (by simpa[a8.strs,Op.nms]using h3) (by simpa[a8.inner]using⟨h2,h1⟩)
 ·exact .one (by simpa[a8.strs,Op.nms]using h3) (by simpa[a8.inner]using h1)
 ·exact .one (by simp[a8.strs]) (by simpa[a8.inner]using h1)
theorem FrT.add {D:List Str}{g:Fr}{d:a8}(h:FrT D g) (hd:cA D [d]):FrT D (g.add d):=⟨h.1.app hd,h.2.1,h.2.2⟩
def jk:List Str:=("+-*/<=&|^":Str).cps.toList.map sgn
def bY (names rooms:List Str):List Str:=names++rooms++jk
theorem xJ (i:Int):iB i∈jk:=by
 unfold iB jk
 have h1:0<=i % 9:=Int.emod_nonneg _ Qk
 have h2:i % 9<9:=Int.emod_lt_of_pos _ Qk
 have ln:("+-*/<=&|^":Str).cps.toList.length=9:=Qd
 have lt:(i % 9).toNat<("+-*/<=&|^":Str).cps.toList.length:=Qo
 rw[qk,qd lt]
 exact List.mem_map.mpr ⟨_,List.getElem_mem lt,rfl⟩
theorem xw {n:Int}{names rooms:List Str}{shut:Bool}(h:0<names.length):cA (bY names rooms) [bA n names rooms shut]:=by
 have hn:∀i,nth names i∈bY names rooms:=fun i=>by unfold bY;simp[eM h i]
 have hs:∀i,iB i∈bY names rooms:=fun i=>by unfold bY;simp[xJ i]
 unfold bA
 split
 ·exact .one (by simpa[a8.strs]using hn _) (by simp[a8.inner])
 ·split
  ·rename_i hr
   have hm:nth rooms (n / 14 / 5)∈bY names rooms:=by unfold bY;simp[eM hr.2.1]
   split
   ·exact .one (by simp only[a8.strs,qu,qQ,or_false];rintro s (rfl|rfl);exact hm;exact hn _) (by simp[a8.inner])
   ·exact .one (by simp only[a8.strs,qu,qQ,or_false];rintro s (rfl|rfl);exact hm;exact hn _) (by simp[a8.inner])
  ·refine .one ?_ (by simp[a8.inner])
   intro s hs'
   simp only[a8.strs,qu,qi]at hs'
   rcases hs' with rfl|rfl|hs'|hs'
   ·exact hn _
   ·exact hs _
   ·split at hs'
    ·exact absurd hs' (by simp[Val.names])
    ·simp[Val.names]at hs';subst hs';exact hn _
   ·split at hs'
    ·exact absurd hs' (by simp[Val.names])
    ·simp[Val.names]at hs';subst hs';exact hn _
theorem wW {names rooms:List Str}{most low n:Int}{st:List Fr}(h:0<names.length) (ht:∀f∈st,FrT (bY names rooms) f):∀f∈bK names rooms most low st n,FrT (bY names rooms) f:=by
 have hn:∀i,nth names i∈bY names rooms:=fun i=>by unfold bY;simp[eM h i]
 match st,ht with
 |[],ht=>exact ht
 |g::r,ht=>
  have hg:=ht g qo
  have hr:∀f∈r,FrT (bY names rooms) f:=fun f hf=>ht f (ql _ hf)
  unfold bK
  dsimp only
  split
  ·unfold eL
   dsimp only
   intro f hf
   rcases qu.mp hf with rfl|hf
   ·split
    ·exact⟨.nil,.nil,by simpa[Op.nms]using hn _⟩
    ·split
     ·exact⟨.nil,.nil,by simpa[Op.nms]using hn _⟩
     ·exact⟨.nil,.nil,by simp[Op.nms]⟩
   ·exact ht f hf
  ·split
   ·rename_i x hx
    have e:g.op=.ifT x:=by
     split at hx
     ·cases e:g.op<;>rw[e]at hx<;>simp[Op.ifT?]at hx
      rw[hx]
     ·cases hx
    intro f hf
    rcases qu.mp hf with rfl|hf
    ·have:=hg.2.2
     rw[e]at this
     exact⟨.nil,hg.1,by simpa[Op.nms]using this⟩
    ·exact hr f hf
   ·split
    ·cases r with
     |nil=>exact ht
     |cons g' r'=>
      intro f hf
      rcases qu.mp hf with rfl|hf
      ·exact(hr g' qo).add hg.deed
      ·exact hr f (ql _ hf)
    ·intro f hf
     rcases qu.mp hf with rfl|hf
     ·exact hg.add (xw h)
     ·exact hr f hf
theorem pk {names rooms:List Str}{most low:Int}(h:0<names.length):∀(cells:List Int) (st:List Fr),(∀f∈st,FrT (bY names rooms) f)->∀f∈cells.foldl (fun st c=>bK names rooms most low st (ar c 1)) st,FrT (bY names rooms) f
 |[],st,ht=>ht
 |c::cs,st,ht=>pk h cs _ (wW h ht)
theorem oD {D:List Str}:∀(st:List Fr) (dt:List a8),(∀f∈st,FrT D f)->cA D dt->cA D (wh st dt)
 |[],_,_,_=>.nil
 |[f],dt,h,hd=>(h f qo).1.app hd
 |f::g::r,dt,h,hd=>by
  have hf:=h f qo
  exact oD (g::r) _ (fun f' hf'=>h f' (ql _ hf')) (FrT.deed (f:={ f with ds:=f.ds++dt }) ⟨hf.1.app hd,hf.2⟩)
theorem Co {names rooms:List Str}{most low:Int}(h:0<names.length) (cells:List Int):cA (bY names rooms) (cW names rooms most low cells):=by
 unfold cW ip
 have ok:=jd (rooms:=rooms) (most:=most) (low:=low) h cells st0 ⟨rfl,by simp[st0,cards,ah],by simp[st0,aH]⟩ (by simp[st0])
 have ne:cG names rooms most low cells≠[]:=fun z=>by
  have:=ok.1
  unfold cG at z
  rw[z]at this
  exact this
 rw[iq _ _ (by have:=List.length_pos_iff.mpr ne;omega)]
 refine oD _ _ (pk h cells st0 ?_) .nil
 intro f hf
 simp[st0]at hf
 subst hf
 exact⟨.nil,.nil,by simp[Op.nms]⟩
mutual
theorem AW {D:List Str}(hD:∀s∈D,PyData.strOk s=true):∀d:a8,(∀e∈d.flat,∀s∈e.strs,s∈D)->d.data.canLay0=true
 |.set x a sg b,h=>by
  have q:∀s∈(a8.set x a sg b).strs,PyData.strOk s=true:=fun s hs=>hD s (h _ (by simp[a8.flat]) s hs)
  cases a<;>cases b<;>simp[a8.strs,Val.names]at q<;>simp[a8.data,PyData.canLay0,PyData.canLayAll0,q]<;>decide +kernel
 |.put p x,h=>by
  have q:∀s∈(a8.put p x).strs,PyData.strOk s=true:=fun s hs=>hD s (h _ (by simp[a8.flat]) s hs)
  simp[a8.strs]at q
  simp[a8.data,PyData.canLay0,PyData.canLayAll0,q]
  decide +kernel
 |.get p x,h=>by
  have q:∀s∈(a8.get p x).strs,PyData.strOk s=true:=fun s hs=>hD s (h _ (by simp[a8.flat]) s hs)
  simp[a8.strs]at q
  simp[a8.data,PyData.canLay0,PyData.canLayAll0,q]
  decide +kernel
 |.give x,h=>by
  have q:∀s∈(a8.give x).strs,PyData.strOk s=true:=fun s hs=>hD s (h _ (by simp[a8.flat]) s hs)
  simp[a8.strs]at q
  simp[a8.data,PyData.canLay0,PyData.canLayAll0,q]
  decide +kernel
 |.cond x t o,h=>by
  have q:∀s∈(a8.cond x t o).strs,PyData.strOk s=true:=fun s hs=>hD s (h _ (by simp[a8.flat]) s hs)
  simp[a8.strs]at q
  have h1:=i5 hD t fun e he=>h e (by simp[a8.flat,he])
  have h2:=i5 hD o fun e he=>h e (by simp[a8.flat,he])
  simp[a8.data,PyData.canLay0,PyData.canLayAll0,q,h1,h2]
  decide +kernel
 |.whl x b,h=>by
  have q:∀s∈(a8.whl x b).strs,PyData.strOk s=true:=fun s hs=>hD s (h _ (by simp[a8.flat]) s hs)
  simp[a8.strs]at q
  have h1:=i5 hD b fun e he=>h e (by simp[a8.flat,he])
  simp[a8.data,PyData.canLay0,PyData.canLayAll0,q,h1]
  decide +kernel
 |.rep n b,h=>by
  have h1:=i5 hD b fun e he=>h e (by simp[a8.flat,he])
  simp[a8.data,PyData.canLay0,PyData.canLayAll0,h1]
  decide +kernel
theorem i5 {D:List Str}(hD:∀s∈D,PyData.strOk s=true):∀ds:List a8,(∀e∈ah ds,∀s∈e.strs,s∈D)->PyData.canLayAll0 (dW ds)=true
 |[],_=>by simp[dW,PyData.canLayAll0]
 |d::r,h=>by
  have h1:=AW hD d fun e he=>h e (by simp[ah,he])
  have h2:=i5 hD r fun e he=>h e (by simp[ah,he])
  simp[dW,PyData.canLayAll0,h1,h2]
end
mutual
theorem BO:∀d:a8,d.data.depth<=2 * d.depth+1
 |.set x a sg b=>by cases a<;>cases b<;>simp[a8.data,PyData.depth,PyData.depthAll]
 |.put p x=>by simp[a8.data,PyData.depth,PyData.depthAll]
 |.get p x=>by simp[a8.data,PyData.depth,PyData.depthAll]
 |.give x=>by simp[a8.data,PyData.depth,PyData.depthAll]
 |.cond x t o=>by
  have h1:=ic t
  have h2:=ic o
  simp[a8.data,PyData.depth,PyData.depthAll,a8.depth]
  omega
 |.whl x b=>by
  have h1:=ic b
  simp[a8.data,PyData.depth,PyData.depthAll,a8.depth]
  omega
 |.rep n b=>by
  have h1:=ic b
  simp[a8.data,PyData.depth,PyData.depthAll,a8.depth]
  omega
theorem ic:∀ds:List a8,PyData.depthAll (dW ds)<=2 * aH ds+1
 |[]=>by simp[dW,PyData.depthAll]
 |d::r=>by
  have h1:=BO d
  have h2:=ic r
  simp[dW,PyData.depthAll,aH]
  omega
end
end Tr
namespace Tr
open PySem PySem.Spec PyProof.Rows L2
set_option linter.all false
def Low (x:Str):Prop:=∀c∈x.cps.toList,c<128
theorem Low.app {x y:Str}(h1:Low x) (h2:Low y):Low (x++y):=fun c hc=>by
 have e:(x++y).cps.toList=x.cps.toList++y.cps.toList:=by
  show(x.cps++y.cps).toList=_
  simp
 rw[e,qi]at hc
 exact hc.elim (h1 c) (h2 c)
theorem Low.slice {x:Str}(h:Low x) (a b:Option Int):Low (Txt.slice x a b):=fun c hc=>by
 unfold Txt.slice at hc
 split at hc
 ·exact h c hc
 ·simp only[List.mem_filterMap]at hc
  obtain⟨i,_,hi⟩:=hc
  have:=Array.mem_of_getElem? hi
  exact h c (by simpa using this)
theorem oh (j:Int):bX j<128:=by
 unfold bX
 have all:∀c∈cK.cps.toList,c<128:=Qd
 rw[qk]
 cases e:cK.cps.toList[j.toNat]? with
 |none=>decide
 |some c=>exact all c (qz e)
theorem kQ {c:Nat}(h:c<128):Low (sgn c):=fun d hd=>by
 simp[sgn]at hd
 subst hd
 exact h
theorem n8 (n:Int):∀k,Low (ci n k)
 |0=>fun c hc=>by simp[ci]at hc;exact absurd hc (by decide +kernel +revert)
 |k+1=>by rw[ci];exact(n8 n k).app (kQ (oh _))
theorem xb {w:Str}(h:Low w):Low (cE w):=by
 unfold cE
 split
 ·exact(h.slice _ _).app (kQ (oh _))
 ·exact h
theorem zf (c k:Int):Low (bR c k):=by
 have b:Low (bO c):=n8 _ _
 have s:Low (dQ c k):=kQ (oh _)
 unfold bR
 split
 ·exact((b.slice _ _).app s).app (b.slice _ _)
 ·split
  ·exact b.slice _ _
  ·exact(s.app (n8 _ _)).slice _ _
theorem iQ (c:Int) (n:Nat):∀w∈cq c n,Low w:=by
 have up:∀w∈d5 c n,Low w:=fun w hw=>by
  unfold d5 at hw
  obtain⟨k,_,rfl⟩:=List.mem_map.mp hw
  exact xb (zf c k)
 unfold cq
 split
 ·intro w hw
  exact up w (List.mem_reverse.mp hw)
 ·exact up
theorem mZ {w:Str}(h:Low w):PyData.strOk w=true:=by
 unfold PyData.strOk
 rw[<- Array.all_toList,List.all_eq_true]
 intro c hc
 have:=h c hc
 simp
 omega
theorem xI:∀s∈jk,PyData.strOk s=true:=Qd
theorem wc {c1 c2:Int}{n1 n2:Nat}:∀s∈bY (cq c1 n1) (cq c2 n2),PyData.strOk s=true:=by
 intro s hs
 unfold bY at hs
 simp only[qi]at hs
 rcases hs with(hs|hs)|hs
 ·exact mZ (iQ _ _ s hs)
 ·exact mZ (iQ _ _ s hs)
 ·exact xI s hs
theorem xf {w:Str}(h:w.length<=50):(cE w).length<=51:=by
 unfold cE
 split
 ·have:=Txt.slice_le w none (some (-1))
  rw[d8]
  have:(sgn (bX ((gE w+13) % 26))).length=1:=rfl
  omega
 ·omega
theorem ng (n:Int):∀k:Nat,(ci n k).length=k
 |0=>rfl
 |k+1=>by rw[ci,d8,ng n k];rfl
theorem zg (c k:Int):(bR c k).length<=50:=by
 unfold bR
 have b:(bO c).length=8:=ng _ 8
 have s:(dQ c k).length=1:=rfl
 split
 ·have h1:=Txt.slice_le (bO c) none (some (cR c))
  have h2:=Txt.slice_le (bO c) (some (cR c+1)) (some (d6 c))
  rw[d8,d8]
  omega
 ·split
  ·have h1:=Txt.slice_le (bO c) none (some (1+(ar c 1 / 24+k) % 8))
   omega
  ·have h1:=Txt.slice_le (dQ c k++ci (ar c (k+2)) 7) none (some (1+ar c (k+40) % 8))
   rw[d8,ng]at h1
   omega
theorem jF (c:Int) (n:Nat):∀w∈cq c n,w.length<=51:=by
 have up:∀w∈d5 c n,w.length<=51:=fun w hw=>by
  unfold d5 at hw
  obtain⟨k,_,rfl⟩:=List.mem_map.mp hw
  exact xf (zg c k)
 unfold cq
 split
 ·intro w hw
  exact up w (List.mem_reverse.mp hw)
 ·exact up
theorem CF {c1 c2:Int}{n1 n2:Nat}:∀s∈br (cq c1 n1) (cq c2 n2),s.length<=1000:=by
 intro s hs
 unfold br at hs
 simp only[qi,List.mem_map,qS]at hs
 rcases hs with((hs|⟨q,hq,rfl⟩)|⟨q,hq,rfl⟩)|rfl
 ·have:=jF _ _ s hs;omega
 ·have:=jF _ _ q hq;rw[d8];have:((">":Str)).length=1:=by decide +kernel
  omega
 ·have:=jF _ _ q hq;rw[d8];have:(("<":Str)).length=1:=by decide +kernel
  omega
 ·decide +kernel
theorem CG {names rooms:List Str}:(br names rooms).length=names.length+2 * rooms.length+1:=by
 unfold br
 simp
 omega
end Tr
namespace L2
open PySem PySem.Spec PyProof.Rows
theorem C3 {n:Nat}{g:TG}{tt:TT}{te:TE}{Fin:List V->Hp->Prop}{σ:St}{H:Hp}(Pv:Nat->List V->St->Hp->Prop) (h0:Pv 0 [] σ H) (hz:∀i ys σ H,i<=n->Pv i ys σ H->ys.length<=i) (hx:n<=sizeLine)
 (hs:∀i ys σ H,i<n->Pv i ys σ H->g (.int i) σ H fun σ2 H2=>tt σ2 H2 fun b H3=>if b=true then te σ2 H3 fun y H4=>Pv (i+1) (ys++[y]) σ2 H4 else Pv (i+1) ys σ2 H3)
 (hd:∀ys σ H,Pv n ys σ H->Fin ys H):∃W:Nat->Nat->List V->St->Hp->Prop,(∃m,W 0 m [] σ H)/\gT (Itr 0 n) g tt te Fin W:=by
 refine⟨fun i m ys σ H=>m=n-i/\i<=n/\Pv i ys σ H,⟨_,rfl,qt _,h0⟩,?_⟩
 rintro i m ys σ H ⟨rfl,hi,p⟩
 have few:=hz i ys σ H hi p
 by_cases lt:i<n
 ·refine .inr ⟨lt,Qo,Pv (i+1),fun ys' σ' H' p'=>⟨_,Qo,rfl,lt,p'⟩,fun v H' y=>?_⟩
  obtain⟨e,y⟩:=y
  rw[Int.zero_add]at y
  subst e y
  exact hs i ys σ _ lt p
 ·obtain rfl:i=n:=by omega
  exact .inl ⟨qf _,Qo,hd ys σ H p⟩
theorem C5 {K:PySem.W.Frag}{a:Addr}{xs:List V}{g:TG}{te:TE}{Fin:List V->Hp->Prop}{σ:St}{H:Hp}(Pv:Nat->List V->St->Hp->Prop) (h0:Pv 0 [] σ H) (hz:∀i ys σ H,i<=xs.length->Pv i ys σ H->ys.length<=i) (hx:xs.length<=sizeLine) (hl:∀i ys σ H,Pv i ys σ H->SqL K H a xs)
 (hs:∀i x ys σ H,xs[i]?=some x->Pv i ys σ H->g x σ H fun σ2 H2=>te σ2 H2 fun y H4=>Pv (i+1) (ys++[y]) σ2 H4)
 (hd:∀ys σ H,Pv xs.length ys σ H->Fin ys H):∃W:Nat->Nat->List V->St->Hp->Prop,(∃m,W 0 m [] σ H)/\gT (Itl K a) g iw te Fin W:=
 kg Pv h0 hz hx hl (fun i x ys σ H hx p=>by
  rw[oA (N':=fun _ _ _=>True)]
  exact hs i x ys σ H hx p) hd
end L2
namespace Tr
open PySem PySem.Spec PyProof.Rows L2
inductive RSs (H:Hp):List V->List (Str×Int)->Prop
 |nil:RSs H [] []
 |cons {p:Addr}{vs:List V}{q:Str}{n:Int}{ss:List (Str×Int)}:H p=some (.tup [.str q,.int n])->RSs H vs ss->RSs H (.ref p::vs) ((q,n)::ss)
theorem RSs.same {H H':Hp}(e:a9 H H'):∀{vs:List V}{ss:List (Str×Int)},RSs H vs ss->RSs H' vs ss
 |_,_,.nil=>.nil
 |_,_,.cons h r=>.cons (e _ _ h) (RSs.same e r)
theorem RSs.snoc {H:Hp}{p:Addr}{q:Str}{n:Int}(h:H p=some (.tup [.str q,.int n])):∀{vs:List V}{ss:List (Str×Int)},RSs H vs ss->RSs H (vs++[.ref p]) (ss++[(q,n)])
 |_,_,.nil=>.cons h .nil
 |_,_,.cons h' r=>.cons h' (RSs.snoc h r)
theorem RSs.len {H:Hp}:∀{vs:List V}{ss:List (Str×Int)},RSs H vs ss->vs.length=ss.length
 |_,_,.nil=>rfl
 |_,_,.cons _ r=>congrArg (·+1) (RSs.len r)
theorem RSs.at {H:Hp}:∀{vs:List V}{ss:List (Str×Int)},RSs H vs ss->∀(i:Nat) (v:V),vs[i]?=some v->∃p q n,v=.ref p/\ss[i]?=some (q,n)/\H p=some (.tup [.str q,.int n])
 |_,_,.nil,i,v,h=>by simp at h
 |_,_,.cons (p:=p) (q:=q) (n:=n) h' r,0,v,h=>by
  simp at h
  exact⟨p,q,n,h.symm,rfl,h'⟩
 |_,_,.cons h' r,i+1,v,h=>RSs.at r i v (by simpa using h)
def eu (s:Str×Int):PyData:=.tuple [.str s.1,.int s.2]
theorem RSs.dt {K:PySem.W.Frag}{H:Hp}:∀{vs:List V}{ss:List (Str×Int)},RSs H vs ss->dN K H vs (ss.map eu)
 |_,_,.nil=>.nil
 |_,_,.cons h r=>.cons (.tup (SqT.of h) (.cons (.str _) (.cons (.int _) .nil))) (RSs.dt r)
theorem kC {K:PySem.W.Frag}{H:Hp}:∀xs:List Str,dN K H (xs.map V.str) (xs.map PyData.str)
 |[]=>.nil
 |x::r=>.cons (.str x) (kC r)
def iP (asks:List Str) (ss:List (Str×Int)) (ds:List a8):PyData:=.tuple [.list (asks.map PyData.str),.list (ss.map eu),.list (dW ds)]
theorem jT:∀xs:List Str,(∀s∈xs,PyData.strOk s=true)->PyData.canLayAll0 (xs.map PyData.str)=true/\PyData.depthAll (xs.map PyData.str)<=1
 |[],_=>by simp[PyData.canLayAll0,PyData.depthAll]
 |x::r,h=>by
  have h1:=h x qo
  have h2:=jT r fun s hs=>h s (ql _ hs)
  simp[PyData.canLayAll0,PyData.canLay0,PyData.depthAll,PyData.depth,h1,h2]
theorem nj:∀ss:List (Str×Int),(∀s∈ss,PyData.strOk s.1=true)->PyData.canLayAll0 (ss.map eu)=true/\PyData.depthAll (ss.map eu)<=2
 |[],_=>by simp[PyData.canLayAll0,PyData.depthAll]
 |x::r,h=>by
  have h1:=h x qo
  have h2:=nj r fun s hs=>h s (ql _ hs)
  simp[eu,PyData.canLayAll0,PyData.canLay0,PyData.depthAll,PyData.depth,h1]
  exact⟨h2.1,by have:=h2.2;omega⟩
theorem xO {D:List Str}{asks:List Str}{ss:List (Str×Int)}{ds:List a8}(hD:∀s∈D,PyData.strOk s=true) (ha:∀s∈asks,PyData.strOk s=true) (hs:∀s∈ss,PyData.strOk s.1=true) (h:cA D ds) (hd:aH ds<=12):SeqAt.shaped (iP asks ss ds)=true:=by
 have h1:=i5 hD ds h
 have h2:=ic ds
 obtain⟨h3,h4⟩:=jT asks ha
 obtain⟨h5,h6⟩:=nj ss hs
 unfold SeqAt.shaped iP
 simp[PyData.canLay0,PyData.canLayAll0,PyData.depth,PyData.depthAll,h1,h3,h5]
 omega
structure RP (H:Hp) (p:Addr) (asks:List Str) (ss:List (Str×Int)) (ds:List a8) (la ls lb:Addr) (us:List V):Prop where
 top:H p=some (.tup [.ref la,.ref ls,.ref lb])
 as:H la=some (.lst (asks.map V.str))
 st:H ls=some (.lst us)
 ro:RSs H us ss
 bo:RL H lb ds
theorem RP.same {H H':Hp}{p:Addr}{asks:List Str}{ss:List (Str×Int)}{ds:List a8}{la ls lb:Addr}{us:List V}(e:a9 H H') (h:RP H p asks ss ds la ls lb us):RP H' p asks ss ds la ls lb us:=
 ⟨e _ _ h.top,e _ _ h.as,e _ _ h.st,h.ro.same e,RL.same e h.bo⟩
def dP (asks:List Str) (ss:List (Str×Int)) (ds:List a8):List Str:=asks++cards ds++[(">":Str)]++ss.flatMap fun s=>[s.1++(">":Str),s.1++("<":Str)]
def dY (ws:List Str) (t:Int):Nat->List Str
 |0=>[]
 |i+1=>dY ws t i++(if ar t ((i:Int)+10) % 2=1 then[ws.getD i (">":Str)]else[])
theorem o8 (ws:List Str) (t:Int):∀i,(dY ws t i).length<=i
 |0=>qf _
 |i+1=>by
  have:=o8 ws t i
  rw[dY]
  split<;>simp<;>omega
theorem vv {ws:List Str}{t:Int}:∀{i:Nat},i<=ws.length->∀x∈dY ws t i,x∈ws
 |0,_,x,h=>by simp[dY]at h
 |i+1,hi,x,h=>by
  rw[dY,qi]at h
  rcases h with h|h
  ·exact vv Qo x h
  ·split at h
   ·rw[qS]at h
    subst h
    rw[qk,qd Qo]
    exact List.getElem_mem _
   ·simp at h
theorem CB {a b r:List Str}(h:∀x∈a,x∈b):∀x∈bY a r,x∈bY b r:=fun x hx=>by
 unfold bY at *
 simp only[qi]at *
 rcases hx with(hx|hx)|hx
 ·exact .inl (.inl (h x hx))
 ·exact .inl (.inr hx)
 ·exact .inr hx
theorem CD {a b r:List Str}(h:∀x∈a,x∈b):∀x∈br a r,x∈br b r:=fun x hx=>by
 unfold br at *
 simp only[qi]at *
 rcases hx with((hx|hx)|hx)|hx
 ·exact .inl (.inl (.inl (h x hx)))
 ·exact .inl (.inl (.inr hx))
 ·exact .inl (.inr hx)
 ·exact .inr hx
theorem za {ws rs:List Str}{asks:List Str}{ss:List (Str×Int)}{ds:List a8}(ha:∀x∈asks,x∈ws) (hs:∀s∈ss,s.1∈rs) (hd:∀x∈cards ds,x∈br ws rs):∀x∈dP asks ss ds,x∈br ws rs:=fun x hx=>by
 unfold dP at hx
 simp only[qi,List.mem_flatMap]at hx
 rcases hx with((hx|hx)|hx)|⟨s,hs',hx⟩
 ·unfold br;simp only[qi];exact .inl (.inl (.inl (ha x hx)))
 ·exact hd x hx
 ·unfold br;simp only[qi];exact .inr hx
 ·simp only[qu,qQ,or_false]at hx
  unfold br
  simp only[qi,List.mem_map]
  rcases hx with rfl|rfl
  ·exact .inl (.inl (.inr ⟨_,hs s hs',rfl⟩))
  ·exact .inl (.inr ⟨_,hs s hs',rfl⟩)
theorem vt {ws:List Str}{i:Nat}(h:i<ws.length):atI (ws.map V.str) (i:Int)=some (.str (ws.getD i (">":Str))):=
 bp (by rw[qE,qk,qd h];rfl)
theorem BZ (ws:List Str) (h:0<ws.length):eO (ws.map V.str) none (some (-1))=ws.dropLast.map V.str:=by
 unfold eO
 have e1:HT.sIx (ws.map V.str).length 0 none=0:=rfl
 have e2:HT.sIx (ws.map V.str).length (ws.map V.str).length (some (-1))=ws.length-1:=by
  rw[qa]
  show(if(-1:Int)<0 then((-1:Int)+(ws.length:Int)).toNat else min (-1:Int).toNat ws.length)=_
  rw[Q0 Qk]
  omega
 rw[e1,e2,List.drop_zero,Nat.sub_zero,<- List.map_take,List.dropLast_eq_take]
end Tr
namespace L2
open PySem
section
variable {P:Program}{w:World}{A:Around}{E:Qq}{s:Shared}
theorem ku {es:Array (Int×Value)}{t:SetTable}{ys:List Str}(T:bN P w es t ys) {e:Int×Value}(he:e∈es.toList):∃k tk,e=(hashStr w k,.str k tk)/\k∈ys:=by
 obtain⟨⟨k,hk,hh⟩,_⟩:=T.el e he
 obtain⟨tk,e2⟩:=Value.isStrOf_shape hk
 refine⟨k,tk,Prod.ext hh e2,(T.mem k).mp (List.mem_map.mpr ⟨e,he,jX hk⟩)⟩
theorem yM {sets:List Addr}{Q:Bool->Shared->Prop}(h:∀b∈sets,∃es ep t ys,s.heap.get? b=some (aW es ep t)/\bN P w es t ys) (q:Q true s):wpAny (model P w) A (setsQuiet sets) Q E s:=by
 unfold setsQuiet
 refine q9 (wpAny_forIn_list _ (fun rest b s'=>b.1=none/\s=s'/\∀x∈rest,x∈sets) _ ?_ ?_ sets _ ⟨rfl,rfl,fun _ h=>h⟩)
 ·rintro x rest b s' ⟨hb,rfl,hm⟩
  obtain⟨es,ep,t,ys,ho,T⟩:=h x (hm x qo)
  refine q9 (fF ho T.fit ?_)
  refine q9 (PySem.wpAny_forIn_array' _ (fun rest b s'=>b.1=none/\s=s'/\∀e∈rest,e∈es.toList) _ ?_ ?_ es _ ⟨rfl,rfl,fun _ h=>h⟩)
  ·rintro e rest2 b2 s2 ⟨hb2,rfl,hm2⟩
   obtain⟨k,tk,rfl,_⟩:=ku T (hm2 e qo)
   refine qe ⟨rfl,rfl,fun z hz=>hm2 z (ql _ hz)⟩
  ·rintro⟨b1,b2⟩ s2 ⟨hb2,rfl,_⟩
   dsimp only at hb2
   subst hb2
   refine qe ⟨rfl,rfl,fun z hz=>hm z (ql _ hz)⟩
 ·rintro⟨b1,b2⟩ s2 ⟨hb2,rfl,_⟩
  dsimp only at hb2
  subst hb2
  exact qe q
theorem vV {a:Addr}{es:Array (Int×Value)}{ep:Nat}{t:SetTable}{ys:List Str}{Q:Array (Int×Value)->Shared->Prop}(hs:s.heap.get? a=some (aW es ep t)) (T:bN P w es t ys)
 (h:∀arr d,arr.toList.Perm es.toList->Q arr { s with drawn:=d }):wpAny (model P w) A (setWalk a) Q E s:=by
 unfold setWalk
 refine q9 (qW hs rfl T.fit ?_)
 dsimp only
 refine q9 (gN ?_)
 by_cases hb:w.params.followText "set-order"=true
 ·rw[Q0 hb]
  exact q9 (wpAny_askSetting (qe (h _ s.drawn (sT _ es))))
 ·rw[qZ hb]
  show wpAny _ _ (if(!t.plain && decide (es.size > 1))=true then _ else _) _ _ _
  split
  ·refine q9 (nK es.size es.toList s _ (by simp) fun zs d hp=>qe ?_)
   exact h _ d (by simpa using hp)
  ·have hl:t.led=true:=by rw[T.led];simpa using hb
   show wpAny _ _ ((if(!t.led && decide (es.size > 1))=true then _ else _) >>= _) _ _ _
   rw[hl]
   refine q9 ?_
   simp only[Bool.not_true,Bool.false_and,Bool.false_eq_true,if_false]
   exact qe (qe (h es s.drawn (.refl _)))
end
section
variable {P:Program}{w:World}{A:Around}{E:Qq}{s:Shared}
theorem xQ:entryFor table "set.__sub__"=some Builtin.«frozenset.__sub__»:=entryFor_alias (id':="frozenset.__sub__") (by kernel_rfl) rfl Qd (by kernel_rfl)
theorem we {t:SetTable}{l p:Bool}(T:bN P w #[] t []) (hl:l=t.led):bN P w #[] { t with led:=l,plain:=p } []:=
 ⟨T.el,T.nd,T.mem,T.few,T.fit,hl.trans T.led,fun z=>absurd z (Nat.lt_irrefl 0)⟩
theorem vU {a o r:Addr}{es es2:Array (Int×Value)}{ep ep2 er:Nat}{t t2 tr:SetTable}{ys zs:List Str}{Q:Array (Int×Value)->Shared->Prop}(hs:s.heap.get? a=some (aW es ep t)) (T:bN P w es t ys)
 (ho:s.heap.get? o=some (aW es2 ep2 t2)) (T2:bN P w es2 t2 zs) (hr:s.heap.get? r=some (aW #[] er tr)) (Tr:bN P w #[] tr [])
 (h:∀arr h' d er' tr',arr.toList.Perm es.toList->Heap.SameBut r s.heap h'->h'.get? r=some (aW #[] er' tr')->bN P w #[] tr' []->Q arr { s with heap:=h',drawn:=d }):wpAny (model P w) A (setWalkUnseen a [o,r] (some r)) Q E s:=by
 have old:∀arr d,arr.toList.Perm es.toList->Q arr { s with drawn:=d }:=fun arr d hp=>h arr s.heap d er tr hp (Heap.SameBut.refl r s.heap) hr Tr
 unfold setWalkUnseen
 refine q9 (qW hs rfl T.fit ?_)
 dsimp only
 refine q9 (gN ?_)
 split
 ·exact vV hs T old
 ·refine q9 (yM (fun b hb=>?_) ?_)
  ·simp only[qu,qQ,or_false]at hb
   rcases hb with rfl|rfl|rfl
   ·exact⟨_,_,_,_,hs,T⟩
   ·exact⟨_,_,_,_,ho,T2⟩
   ·exact⟨_,_,_,_,hr,Tr⟩
  ·simp only[Bool.not_true,Bool.false_eq_true,if_false]
   refine q9 (wpAny_rule ?_)
   refine q9 (qW hr rfl Tr.fit ?_)
   dsimp only
   split
   ·refine q9 (wpAny_storeSet_of hr rfl ?_ Qk)
    refine qe (h es _ s.drawn _ _ (.refl _) (Heap.SameBut.update _ r _) (kG (s:=s) hr) (we Tr ?_))
    rw[Tr.led,T.led]
    simp
   ·exact qe (old es s.drawn (.refl _))
theorem BB {o:Addr}{es:Array (Int×Value)}{ep:Nat}{t:SetTable}{zs:List Str}{k:Str}{tk:Tok}{Q:Option Nat->Shared->Prop}(ho:s.heap.get? o=some (aW es ep t)) (T:bN P w es t zs)
 (h:∀r:Option Nat,r.isSome=decide (k∈zs)->Q r s):wpAny (model P w) A (setFind o (.str k tk) (hashStr w k)) Q E s:=by
 refine wpAny_setFind_of (knd:=strKind P w) (k:=k) (S:=fun k=>decide (k∈zs)) (n:=es.size) (by show Value.isStrOf k (.str k tk)=true;simp[Value.isStrOf]) rfl ⟨_,es,ep,t,ho,?_,rfl,T.el,fun k'=>?_,T.few,T.fit,rfl⟩ h
 ·exact⟨rfl,rfl,rfl⟩
 ·rw[decide_eq_true_iff,<- T.mem,List.mem_map]
  constructor
  ·rintro⟨e,he,rfl⟩
   obtain⟨k,tk,rfl,_⟩:=ku T he
   exact⟨_,he,by show Value.isStrOf k (.str k tk)=true;simp[Value.isStrOf]⟩
  ·rintro⟨e,he,hk⟩
   exact⟨e,he,jX hk⟩
theorem o9 {v:Value}{Q:Bool->Shared->Prop}(ty:s.TypeIs v "set") (h:Q true s):wpAny (model P w) A (Builtin.Frozenset.isAnySet v) Q E s:=by
 unfold Builtin.Frozenset.isAnySet
 exact q9 (wpAny_isInstance (b:=true) ty jn (qe h))
set_option maxHeartbeats 3200000 in
theorem wM {a o:Addr}{es es2:Array (Int×Value)}{ep ep2:Nat}{t t2:SetTable}{ys zs:List Str}{Q:Qq}(hs:s.heap.get? a=some (aW es ep t)) (T:bN P w es t ys)
 (ho:s.heap.get? o=some (aW es2 ep2 t2)) (T2:bN P w es2 t2 zs) (few:es.size<4)
 (h:∀h' d es' ep' t',h'.get? s.heap.objs.size=some (aW es' ep' t')->bN P w es' t' (ys.filter fun k=>!decide (k∈zs))->
  (∀b ob,s.heap.get? b=some ob->h'.get? b=some ob)->Q (.ref s.heap.objs.size) { s with heap:=h',drawn:=d }):wpAny (model P w) A (binaryOp .Sub (.ref a) (.ref o)) Q E s:=by
 have ta:s.TypeIs (.ref a) "set":=⟨_,hs,rfl⟩
 have to:s.TypeIs (.ref o) "set":=⟨_,ho,rfl⟩
 have k1:=jn
 refine wpAny_binaryOp_same (op:=.Sub) (T:="set") ta to F.fills_set_sub F.slot_set_sub (wpAny_call_entry F.slot_set_sub ta xQ ?_ (F.args_set_sub_2 _ _))
 unfold Builtin.«frozenset.__sub__»
 refine q9 (m:=Builtin.Frozenset.slot1 "__sub__" ⟨[.ref a,.ref o],[]⟩) (qe ?_)
 dsimp only
 simp only[Bool.false_eq_true,if_false]
 refine q9 (q9 (o9 ta (o9 to ?_)))
 simp only[Bool.not_true,Bool.false_eq_true,if_false]
 refine q9 (qe ?_)
 refine q9 ?_
 unfold Builtin.Frozenset.difference
 refine q9 (o9 to ?_)
 simp only[Bool.not_true,Bool.false_eq_true,if_false]
 refine q9 (qe ?_)
 simp only[Bool.false_and,Bool.false_eq_true,if_false,if_true]
 unfold Builtin.Frozenset.sizeOf
 refine q9 (q9 (fF ho T2.fit (qe ?_)))
 refine q9 (q9 (fF hs T.fit (qe ?_)))
 rw[qZ Qo]
 unfold Builtin.Frozenset.baseOf
 refine q9 (q9 (wpAny_isInstance (b:=true) ta jn (qe ?_)))
 simp only[if_true]
 refine q9 ?_
 unfold newSet
 refine q9 (gN ?_)
 dsimp only
 refine wpAny_newObj_type ?_
 refine q9 (qe ?_)
 have ga:∀b ob,s.heap.get? b=some ob->(s.heap.push (cP w)).get? b=some ob:=fun b ob q=>qb _ q
 have gr:(s.heap.push (cP w)).get? s.heap.objs.size=some (cP w):=qp _ rfl
 have na:∀b ob,s.heap.get? b=some ob->b≠s.heap.objs.size:=fun b ob q=>qG (qq q)
 refine q9 (wpAny_setEpoch_of (s:={ s with heap:=s.heap.push (cP w) }) (ga _ _ hs) rfl T.fit ?_)
 refine q9 (wpAny_holding ?_)
 refine q9 (vU (s:={ s with heap:=s.heap.push (cP w) }) (ga _ _ hs) T (ga _ _ ho) T2 gr oO fun arr h1 d er tr hp sb hr Tr=>?_)
 refine q9 (PySem.wpAny_forIn_array' _ (fun rest _ s'=>∃h2 es' ep' t' past,past++rest=arr.toList/\s'={ s with heap:=h2,drawn:=d }/\Heap.SameBut s.heap.objs.size (s.heap.push (cP w)) h2/\h2.get? s.heap.objs.size=some (aW es' ep' t')/\bN P w es' t' ((past.map fun e:Int×Value=>txt e.2).filter fun k=>!decide (k∈zs))/\es'.size<=past.length) _ ?_ ?_ arr _ ⟨h1,#[],er,tr,[],rfl,rfl,sb,hr,Tr,qf _⟩)
 ·rintro x rest b s' ⟨h2,es',ep',t',past,hpa,rfl,sb2,hr2,Tr2,hle⟩
  have xm:x∈es.toList:=hp.mem_iff.mp (by rw[<- hpa];simp)
  obtain⟨k,tk,rfl,_⟩:=ku T xm
  have pl:past.length+(rest.length+1)=es.size:=by
   have:=congrArg List.length hpa
   rw[hp.length_eq]at this
   simpa using this
  have get2:∀b ob,s.heap.get? b=some ob->h2.get? b=some ob:=fun b ob q=>by
   rw[sb2.2 _ (na b ob q)]
   exact ga b ob q
  refine q9 (wpAny_holding ?_)
  refine q9 (BB (s:={ s with heap:=h2,drawn:=d }) (get2 _ _ ho) T2 fun r hr=>?_)
  refine q9 (qe ?_)
  rw[hr]
  have fin:∀h3 es3 ep3 t3,Heap.SameBut s.heap.objs.size (s.heap.push (cP w)) h3->h3.get? s.heap.objs.size=some (aW es3 ep3 t3)->bN P w es3 t3 (((past++[(hashStr w k,Value.str k tk)]).map fun e:Int×Value=>txt e.2).filter fun k=>!decide (k∈zs))->es3.size<=past.length+1->
   wpAny (model P w) A.in1 (do
    Builtin.Frozenset.unchanged (toString "frozenset."++toString "__sub__") a ep
    pure (ForInStep.yield PUnit.unit)) (fun r s'=>match r with
     |.yield b'=>∃h2 es' ep' t' past,past++rest=arr.toList/\s'={ s with heap:=h2,drawn:=d }/\Heap.SameBut s.heap.objs.size (s.heap.push (cP w)) h2/\h2.get? s.heap.objs.size=some (aW es' ep' t')/\bN P w es' t' ((past.map fun e:Int×Value=>txt e.2).filter fun k=>!decide (k∈zs))/\es'.size<=past.length
     |.done b'=>False) E { s with heap:=h3,drawn:=d }:=fun h3 es3 ep3 t3 sb3 hr3 Tr3 hle3=>by
   unfold Builtin.Frozenset.unchanged
   have g3:h3.get? a=some (aW es ep t):=by rw[sb3.2 _ (na _ _ hs)];exact ga _ _ hs
   refine q9 (q9 (wpAny_setEpoch_of (s:={ s with heap:=h3,drawn:=d }) g3 rfl T.fit ?_))
   simp only[bne_self_eq_false,Bool.false_eq_true,if_false]
   refine qe (qe ⟨h3,es3,ep3,t3,past++[(hashStr w k,Value.str k tk)],by rw[<- hpa];simp,rfl,sb3,hr3,Tr3,by simpa using hle3⟩)
  by_cases hk:k∈zs
  ·rw[decide_eq_true hk]
   simp only[Bool.not_true,Bool.false_eq_true,if_false]
   refine qe (wpAny_mono (fin h2 es' ep' t' sb2 hr2 ?_ Qo) (fun r s' hr=>?_) fun _ _ h=>h)
   ·rw[qO,List.filter_append]
    have:([(hashStr w k,Value.str k tk)].map fun e:Int×Value=>txt e.2).filter (fun k=>!decide (k∈zs))=[]:=by simp[txt,hk]
    rw[this,qx]
    exact Tr2
   ·cases r with
    |done _=>exact hr.elim
    |yield _=>exact hr
  ·rw[decide_eq_false hk]
   simp only[Bool.not_false,if_true]
   refine q9 (vy (s:={ s with heap:=h2,drawn:=d }) hr2 Tr2 (by unfold scanBound;omega) fun b h3 es3 ep3 t3 sb3 hr3 Tr3 le3=>qe ?_)
   refine wpAny_mono (fin h3 es3 ep3 t3 (sb2.trans sb3) hr3 ?_ Qo) (fun r s' hr=>?_) fun _ _ h=>h
   ·rw[qO,List.filter_append]
    have:([(hashStr w k,Value.str k tk)].map fun e:Int×Value=>txt e.2).filter (fun k=>!decide (k∈zs))=[k]:=by simp[txt,hk]
    rw[this]
    exact Tr3
   ·cases r with
    |done _=>exact hr.elim
    |yield _=>exact hr
 ·rintro b s' ⟨h2,es',ep',t',past,hpa,rfl,sb2,hr2,Tr2,hle⟩
  rw[qx]at hpa
  subst hpa
  refine qe (qe (qe ⟨_,rfl,(fun z=>by cases z),h h2 d es' ep' t' hr2 ⟨Tr2.el,Tr2.nd,fun k=>?_,Tr2.few,Tr2.fit,Tr2.led,Tr2.pl⟩ fun b ob q=>?_⟩))
  ·rw[Tr2.mem k,List.mem_filter,List.mem_filter,<- T.mem k]
   exact and_congr_left' ((hp.map fun e:Int×Value=>txt e.2).mem_iff)
  ·rw[sb2.2 _ (na b ob q)]
   exact ga b ob q
end
end L2
namespace L2
open PySem PySem.Spec PyProof.Rows
section
variable {X:Cx}
def yv (P:Program) (w:World):R2:=fun x y H Q=>∃(a o:Addr) (ys zs:List Str),x=.ref a/\y=.ref o/\H a=some (dz P w a ys)/\H o=some (dz P w o zs)/\ys.length<4/\∀p,H p=none->Q (.ref p) (upd H p (dz P w p (ys.filter fun k=>!decide (k∈zs))))
theorem zy:OpR X (binaryOp .Sub) (yv X.prog X.w):=by
 intro pins s σ H x y v u Q I rx ry h
 obtain⟨a,o,ys,zs,rfl,rfl,hA,hO,hz,q⟩:=h
 cases rx
 cases ry
 obtain⟨⟨es,ep,t,e1,T1⟩,_,_⟩:=I.hok a _ hA
 obtain⟨⟨es2,ep2,t2,e2,T2⟩,_,_⟩:=I.hok o _ hO
 have few:es.size<4:=by
  have:=i9 T1.nd fun x hx=>(T1.mem x).mp hx
  rw[qa,qM]at this
  omega
 refine wM e1 T1 e2 T2 few fun h' d es' ep' t' g T' old=>?_
 have J:=I.laid (t':=s.toks) (h':=h') (a:=s.heap.objs.size) (o:=dz X.prog X.w s.heap.objs.size (ys.filter fun k=>!decide (k∈zs))) old (qf _) (dz.ok g T')
 exact⟨.ref s.heap.objs.size,_,Inv.redrawn (s:=s) J rfl rfl,rfl,q _ (I.hok.fresh (qf _))⟩
end
section
variable {X:Cx}
theorem Ce (hc:X.calm=true):cC X (.builtin "sorted") (fun xs H Q=>∃(p:Addr) (ys:List Str),xs=[.ref p]/\SqL X.K H p (ys.map V.str)/\ys.length<64 /\
 ∀l zs,H l=none->zs.Perm ys->sortedS zs=true->Q (.ref l) (upd H l (.lst (zs.map V.str)))):=by
 intro pins s σ H xs us Q I r h
 obtain⟨p,ys,rfl,hq,hz,q⟩:=h
 obtain⟨u,rfl,rx⟩:=eR r
 cases rx
 obtain⟨its,r',pl,_⟩:=I.list hq
 have hlen:=r'.length
 rw[qa]at hlen
 refine sorted_strs (vs:=its) pl.isList (kB r') Qo fun out zs hS hp so=>?_
 obtain⟨n,at1⟩:=sortedAll_at s.heap its out
 have lz:zs.length<=sizeLine:=by rw[hp.length_eq];exact qy (Nat.le_of_lt hz) Qk
 have J:=I.laid (t':=s.toks) (h':=sortedAll s.heap its out) (a:=s.heap.objs.size+1) (o:=.lst (zs.map V.str)) (fun b o q=>sortedAll_old q) (Nat.le_succ _) ⟨by rw[qa];exact lz,out.toList,n,mR hS,at1⟩
 exact⟨.ref (s.heap.objs.size+1),_,J,rfl,q _ zs (I.hok.fresh (Nat.le_succ _)) hp so⟩
end
def Ite (K:PySem.W.Frag) (l:Addr):It:=
 ⟨fun i H=>∃xs x,SqL K H l xs/\xs[i]?=some x,
  fun i H v H'=>∃p x,H p=none/\v=.ref p/\H'=upd H p (.tup [.int i,x])/\∀xs,SqL K H l xs->xs[i]?=some x,
  fun i H=>∃xs,SqL K H l xs/\xs.length<=i⟩
theorem wa {P:Program}{w:World}{K:PySem.W.Frag}{elts:List Expr}{kk:Nat}{tp:Pos}(e it l:Addr) (ne:e≠it):
 gQ P w K (.Tuple elts kk tp) (Ite K l) [e,it] e (fun i h=>(∃old,IsEnum h e it i old)/\h.IsListIter it l i) where
 mem:=by simp
 obj:=fun i h st b hb=>by
  obtain⟨⟨old,he⟩,o,eo,c,d⟩:=st
  simp only[qu,qQ,or_false]at hb
  rcases hb with rfl|rfl
  ·exact⟨_,he,fun v q=>by cases q⟩
  ·exact⟨o,eo,fun v q=>by rw[d]at q;cases q⟩
 keep:=fun i h h' st k=>by
  obtain⟨⟨old,he⟩,o,eo,r⟩:=st
  exact⟨⟨old,k e (by simp) _ he⟩,o,k it (by simp) o eo,r⟩
 item:=by
  intro X hP hw hK hc i pins s σ H E I hf st hg
  subst hP hw hK
  obtain⟨⟨old,he⟩,hit⟩:=st
  obtain⟨xs,x,hx,ex⟩:=hg
  obtain⟨its,rv,pl,z1⟩:=I.list hx
  obtain⟨u,hu,ru⟩:=rv.get ex
  refine wpAny_pyNext_enum_item he hit pl.isList (x:=u) (by simpa using hu) ne fun g a1 a2 a3 a4 a5=>⟨_,rfl,?_⟩
  refine wpAny_letOwnedTupleGo_enum a1 fun g' a1' sb=>?_
  have hT:∀b∈[e,it],s.heap.objs.size≠b:=fun b hb=>by
   simp only[qu,qQ,or_false]at hb
   rcases hb with rfl|rfl
   ·exact Nat.ne_of_gt (qq he)
   ·obtain⟨o,eo,_⟩:=hit
    exact Nat.ne_of_gt (qq eo)
  have ky:∀b o,b∉[e,it]->s.heap.get? b=some o->g'.get? b=some o:=fun b o hb q=>by
   simp only[qu,qQ,or_false,not_or]at hb
   exact sb.extBut _ _ hb.1 (a5 b o hb.1 hb.2 q)
  have I1:Inv X pins σ H { s with heap:=g',toks:=s.toks+1 }:=I.turnedL (t':=s.toks+1) ky hf
  have pT:=sb.extBut _ _ (hT e (by simp)) a3
  have fT:cY X pins H s.heap.objs.size:=I.fpOk (qf _) (I.hok.fresh (qf _))
  have I2:Inv X pins σ (upd H s.heap.objs.size (.tup [.int i,x])) { s with heap:=g',toks:=s.toks+1 }:=I1.track fT I.sz ⟨by show 2<=sizeLine;decide,[.int i s.toks,u],.cons ⟨_,rfl⟩ (.cons ru .nil),⟨_,pT,rfl,_,rfl⟩⟩
  refine⟨.ref s.heap.objs.size,_,I2,rfl,⟨_,x,I.hok.fresh (qf _),rfl,rfl,fun xs' h=>by rw[I.list_inj h hx];exact ex⟩,⟨⟨u,a1'⟩,?_⟩,fun b hb=>?_⟩
  ·obtain⟨o,eo,r⟩:=a2
   exact⟨o,sb.extBut _ _ (Ne.symm ne) eo,r⟩
  ·rw[af (Ne.symm (hT b hb))]
   exact(hf b hb).1
 done:=by
  intro X hP hw hK hc i pins s σ H E I hf st hg
  subst hP hw hK
  obtain⟨⟨old,he⟩,hit⟩:=st
  obtain⟨xs,hx,hend⟩:=hg
  obtain⟨its,rv,pl,z1⟩:=I.list hx
  have e1:=rv.length
  refine wpAny_pyNext_enum_end (I.ok.hd hc) he hit pl.isList (by simp;omega) fun g k=>⟨rfl,I.turnedL (t':=s.toks) (ch:=[e,it]) (fun b o hb q=>?_) hf⟩
  simp only[qu,qQ,or_false,not_or]at hb
  exact k b o hb.2 q
 self:=fun _ _ _ _ _ st h=>by
  obtain⟨⟨old,he⟩,_⟩:=st
  exact wpAny_pyIter_enum he h
section
variable {X:Cx}
def Bn (K:PySem.W.Frag) (ta:TA):TI:=fun σ H R=>ta σ H fun vs H1=>∃l xs,vs=[.ref l]/\SqL K H1 l xs/\R (Ite K l) H1
theorem jI {a:Expr}{ta:TA}{p pos tp:Pos}{elts:List Expr}{kk:Nat}(hg:Gl X "enumerate") (hm:X.mg "enumerate"=none) (ha:PA X [a] ta) (hs:starEach [a] X.env=[(false,eval a X.env)]:=by rfl):
 PI X (.Tuple elts kk tp) (.Call (.Name "enumerate" p) [a] [] pos) (Bn X.K ta):=by
 intro pins s σ H R I h
 refine Call_ (g6 I hg hm PyProof.Rows.Boot.«enumerate» (PyProof.Rows.callWith_type1 (thn (ha pos pins s σ H _ I h) fun us s1 ⟨vs,H1,I1,r1,q1⟩=>?_) (by rw[hs];rfl) (by rfl)))
 obtain⟨l,xs,rfl,hx,q⟩:=q1
 obtain⟨u,rfl,ru⟩:=eR r1
 cases ru
 obtain⟨its,rv,pl,z1⟩:=I1.list hx
 refine call_enumerate_list pl.isList fun g a1 a2 a3 k=>?_
 refine wpAny_pyIter_enum a1 ⟨s1.heap.objs.size+1,[s1.heap.objs.size+1,s1.heap.objs.size],_,_,H1,rfl,I1.kept (t':=s1.toks) k,wa _ _ l (Nat.succ_ne_self _),⟨⟨_,a1⟩,a2⟩,fun b hb=>?_,q⟩
 simp only[qu,qQ,or_false]at hb
 rcases hb with rfl|rfl
 ·exact I1.fpOk (Nat.le_succ _) (I1.hok.fresh (Nat.le_succ _))
 ·exact I1.fpOk (qf _) (I1.hok.fresh (qf _))
end
theorem k7 {K:PySem.W.Frag}{l:Addr}{xs:List V}{g:TG}{tb:TS}{D:eF}{σ:St}{H:Hp}(Pv:Nat->St->Hp->Prop) (h0:Pv 0 σ H) (hl:∀i σ H,Pv i σ H->SqL K H l xs)
 (hs:∀i x σ H p,xs[i]?=some x->Pv i σ H->H p=none->g (.ref p) σ (upd H p (.tup [.int i,x])) fun σ2 H2=>tb { D with nx:=Pv (i+1),ct:=Pv (i+1),bk:=D.nx } σ2 H2)
 (hd:∀σ H,Pv xs.length σ H->D.nx σ H):
 ∃W:Nat->Nat->St->Hp->Prop,(∃m,W 0 m σ H)/\∀i m σ H,W i m σ H->
  ((Ite K l).stop i H/\D.nx σ H)\/((Ite K l).go i H/\∃N:St->Hp->Prop,(∀σ' H',N σ' H'->∃m',m'<m/\W (i+1) m' σ' H')/\∀x H',(Ite K l).yld i H x H'->g x σ H' fun σ2 H2=>tb { D with nx:=N,ct:=N,bk:=D.nx } σ2 H2):=by
 refine⟨fun i m σ H=>m=xs.length-i/\i<=xs.length/\Pv i σ H,⟨_,rfl,qt _,h0⟩,?_⟩
 rintro i m σ H ⟨rfl,hi,p⟩
 have q:=hl i σ H p
 by_cases lt:i<xs.length
 ·refine .inr ⟨⟨xs,xs[i],q,by simp[lt]⟩,Pv (i+1),fun σ' H' p'=>⟨_,Qo,rfl,lt,p'⟩,fun v H' y=>?_⟩
  obtain⟨a,x,hn,rfl,rfl,e1⟩:=y
  exact hs i x σ H a (e1 xs q) p hn
 ·obtain rfl:i=xs.length:=by omega
  exact .inl ⟨⟨xs,q,qf _⟩,hd σ H p⟩
end L2
namespace L2
theorem cN.one {n:Nat}{A:PySem.Around}(h:cN n A):A.units+1<PySem.cLine:=by
 have:=h.units
 omega
end L2
namespace Tr
open PySem PySem.Spec PyProof.Rows L2
theorem rO:∀{a b:List Str},a.Perm b->sortedS a=true->sortedS b=true->a=b
 |[],b,h,_,_=>(List.nil_perm.mp h).symm
 |x::r,[],h,_,_=>absurd h.length_eq (by simp)
 |x::r,y::s,h,sa,sb=>by
  have e:x=y:=by
   rcases qu.mp (h.mem_iff.mp (qo (a:=x)))with e|hx
   ·exact e
   rcases qu.mp (h.mem_iff.mpr (qo (a:=y)))with e|hy
   ·exact e.symm
   exact oU (List.le_antisymm (iI r x sa y hy) (iI s y sb x hx))
  subst e
  rw[rO ((List.perm_cons x).mp h) (jz sa) (jz sb)]
noncomputable def srt (l:List Str):List Str:=by
 classical
 exact if h:∃zs:List Str,zs.Nodup/\(∀k,k∈zs↔k∈l)/\sortedS zs=true then Classical.choose h else[]
theorem jf {l zs:List Str}(nd:zs.Nodup) (hm:∀k,k∈zs↔k∈l) (so:sortedS zs=true):zs=srt l:=by
 have h:∃zs:List Str,zs.Nodup/\(∀k,k∈zs↔k∈l)/\sortedS zs=true:=⟨zs,nd,hm,so⟩
 unfold srt
 rw[dif_pos h]
 obtain⟨a,b,c⟩:=Classical.choose_spec h
 exact rP nd a so c fun k=>(hm k).trans (b k).symm
noncomputable def eC (l:List Str):List Str:=by
 classical
 exact if h:∃zs:List Str,zs.Perm l/\sortedS zs=true then Classical.choose h else[]
theorem xa {l zs:List Str}(hp:zs.Perm l) (so:sortedS zs=true):zs=eC l:=by
 have h:∃zs:List Str,zs.Perm l/\sortedS zs=true:=⟨zs,hp,so⟩
 unfold eC
 rw[dif_pos h]
 obtain⟨a,b⟩:=Classical.choose_spec h
 exact rO (hp.trans a.symm) so b
structure Row where
 kind:Str
 owns:List Str
 reads:List Str
 into:Option Str
 outof:Option Str
def cJ:Option Str->V
 |none=>.non
 |some q=>.str q
def cu (H:Hp) (v:V) (r:Row):Prop:=∃p po pr,v=.ref p/\H p=some (.tup [.str r.kind,.ref po,.ref pr,cJ r.into,cJ r.outof])/\H po=some (.tup (r.owns.map V.str))/\H pr=some (.tup (r.reads.map V.str))
theorem cu.same {H H':Hp}{v:V}{r:Row}(e:a9 H H') (h:cu H v r):cu H' v r:=by
 obtain⟨p,po,pr,rfl,h1,h2,h3⟩:=h
 exact⟨p,po,pr,rfl,e _ _ h1,e _ _ h2,e _ _ h3⟩
inductive aT (H:Hp):List V->List Row->Prop
 |nil:aT H [] []
 |cons {v:V}{vs:List V}{r:Row}{rs:List Row}:cu H v r->aT H vs rs->aT H (v::vs) (r::rs)
theorem aT.same {H H':Hp}(e:a9 H H'):∀{vs:List V}{rs:List Row},aT H vs rs->aT H' vs rs
 |_,_,.nil=>.nil
 |_,_,.cons h r=>.cons (h.same e) (aT.same e r)
theorem aT.snoc {H:Hp}{v:V}{r:Row}(h:cu H v r):∀{vs:List V}{rs:List Row},aT H vs rs->aT H (vs++[v]) (rs++[r])
 |_,_,.nil=>.cons h .nil
 |_,_,.cons h' t=>.cons h' (aT.snoc h t)
theorem aT.len {H:Hp}:∀{vs:List V}{rs:List Row},aT H vs rs->vs.length=rs.length
 |_,_,.nil=>rfl
 |_,_,.cons _ t=>congrArg (·+1) (aT.len t)
theorem aT.at {H:Hp}:∀{vs:List V}{rs:List Row},aT H vs rs->∀(i:Nat) (v:V),vs[i]?=some v->∃r,rs[i]?=some r/\cu H v r
 |_,_,.nil,i,v,h=>by simp at h
 |_,_,.cons (r:=r) h' t,0,v,h=>by
  simp at h
  subst h
  exact⟨r,rfl,h'⟩
 |_,_,.cons h' t,i+1,v,h=>aT.at t i v (by simpa using h)
noncomputable def aL:a8->Row
 |.set x a sg b=>⟨"set",[x],srt ((a.names++b.names).filter fun y=>!decide (y=x)),none,none⟩
 |.put q x=>⟨"put",[q++(">":Str)],[x],some q,none⟩
 |.get q x=>⟨"get",eC [x,q++("<":Str)],[],none,some q⟩
 |.give x=>⟨"give",[(">":Str)],[x],none,none⟩
 |.cond x t o=>⟨"if",srt (cards [.cond x t o]),[],none,none⟩
 |.whl x b=>⟨"while",srt (cards [.whl x b]),[],none,none⟩
 |.rep n b=>⟨"repeat",srt (cards [.rep n b]),[],none,none⟩
theorem cu.new {H:Hp}{p po pr:Addr}{r:Row}(h1:H po=some (.tup (r.owns.map V.str))) (h2:H pr=some (.tup (r.reads.map V.str))) (hp:H p=none):cu (upd H p (.tup [.str r.kind,.ref po,.ref pr,cJ r.into,cJ r.outof])) (.ref p) r:=
 ⟨p,po,pr,rfl,ag,a9.new hp _ _ _ h1,a9.new hp _ _ _ h2⟩
def bal (rs:List Row) (q:Str):Int:=((rs.filter fun r=>decide (r.into=some q)).length:Int)-((rs.filter fun r=>decide (r.outof=some q)).length:Int)
theorem j5 (rs:List Row) (r:Row) (q:Str):bal (rs++[r]) q=bal rs q+(if r.into=some q then 1 else 0)-(if r.outof=some q then 1 else 0):=by
 unfold bal
 rw[List.filter_append,List.filter_append,qc,qc]
 by_cases h1:r.into=some q<;>by_cases h2:r.outof=some q<;>simp[h1,h2]<;>omega
def Fed (rs:List Row):Prop:=∀i r q,rs[i]?=some r->r.outof=some q->0<bal (rs.take i) q
def dA (r:Row):Prop:=r.into=none\/r.outof=none
def vz (kvs:List (Key×V)) (rs:List Row):Prop:=∀q:Str,(aK kvs (.inr q)).getD (.int 0)=.int (bal rs q)
def vF (ds:List a8):Prop:=∀d∈ds,∀n b,d≠.rep n b
noncomputable def db (asks:List Str) (ss:List (Str×Int)) (ds:List a8):Row:=⟨"end",srt (dP asks ss ds),[],none,none⟩
theorem yi (d:a8):dA (aL d):=by
 cases d<;>simp[dA,aL]
theorem Fed.snoc {rs:List Row}{r:Row}(h:Fed rs) (hr:r.outof=none):Fed (rs++[r]):=fun i r' q hi ho=>by
 by_cases lt:i<rs.length
 ·rw[List.getElem?_append_left lt]at hi
  rw[List.take_append_of_le_length (Nat.le_of_lt lt)]
  exact h i r' q hi ho
 ·rw[qL (Nat.not_lt.mp lt)]at hi
  have:r'=r:=by
   cases e:i-rs.length with
   |zero=>rw[e]at hi;exact(qJ hi).symm
   |succ n=>rw[e]at hi;simp at hi
  rw[this,hr]at ho
  cases ho
def a8.word:a8->Str
 |.set ..=>"set"
 |.put ..=>"put"
 |.get ..=>"get"
 |.give ..=>"give"
 |.cond ..=>"if"
 |.whl ..=>"while"
 |.rep ..=>"repeat"
theorem RD.tuple {H:Hp}{v:V}{d:a8}(h:RD H v d):∃p r,v=.ref p/\H p=some (.tup (.str d.word::r)):=by
 cases h with
 |set h=>exact⟨_,_,rfl,h⟩
 |put h=>exact⟨_,_,rfl,h⟩
 |get h=>exact⟨_,_,rfl,h⟩
 |give h=>exact⟨_,_,rfl,h⟩
 |cond h _ _=>exact⟨_,_,rfl,h⟩
 |whl h _=>exact⟨_,_,rfl,h⟩
 |rep h _=>exact⟨_,_,rfl,h⟩
theorem cu.off {H:Hp}{c:Addr}{xs:List V}{o:HO}{v:V}{r:Row}(hc:H c=some (.lst xs)) (h:cu H v r):cu (upd H c o) v r:=by
 obtain⟨p,po,pr,rfl,h1,h2,h3⟩:=h
 have ne:∀b ys,H b=some (.tup ys)->b≠c:=fun b ys q z=>by rw[z,hc]at q;cases q
 exact⟨p,po,pr,rfl,by rw[af (ne _ _ h1)];exact h1,by rw[af (ne _ _ h2)];exact h2,by rw[af (ne _ _ h3)];exact h3⟩
theorem aT.off {H:Hp}{c:Addr}{xs:List V}{o:HO}(hc:H c=some (.lst xs)):∀{vs:List V}{rs:List Row},aT H vs rs->aT (upd H c o) vs rs
 |_,_,.nil=>.nil
 |_,_,.cons h r=>.cons (h.off hc) (aT.off hc r)
theorem at0 {α:Type}{v:α}{r:List α}:atI (v::r) (0:Int)=some v:=bp (j:=0) rfl
theorem oB {d:a8}(h:∀n b,d≠.rep n b):V.str d.word≠V.str "repeat":=by
 cases d with
 |rep n b=>exact absurd rfl (h n b)
 |_=>exact fun z=>absurd (V.str.inj z) (by simp only[a8.word];decide +kernel)
theorem uH:∀{ds:List a8}{i:Nat}{d:a8},ds[i]?=some d->d.depth<=aH ds
 |[],_,_,h=>by simp at h
 |e::r,0,d,h=>by
  simp at h
  subst h
  rw[aH]
  exact Nat.le_max_left _ _
 |e::r,i+1,d,h=>by
  have:=uH (ds:=r) (i:=i) (by simpa using h)
  rw[aH]
  omega
theorem nJ {ds:List a8}{i:Nat}{d:a8}(h:ds[i]?=some d):d.flat.length<=(ah ds).length/\∀e∈d.flat,e∈ah ds:=by
 have sp:ds=ds.take i++([d]++ds.drop (i+1)):=by
  rw[<- qN,show ds.take i++[d]=ds.take (i+1)by rw[qr,h];rfl,List.take_append_drop]
 have e:ah ds=ah (ds.take i)++(d.flat++ah (ds.drop (i+1))):=by
  conv=>lhs;rw[sp]
  rw[dS,dS,ah,ah,qx]
 rw[e]
 refine⟨by simp only[qc];omega,fun x hx=>by simp[hx]⟩
theorem uW {ds:List a8}{i:Nat}{d:a8}(h:ds[i]?=some d):∀q∈cards [d],q∈cards ds:=fun q hq=>by
 unfold cards at *
 rw[ah,ah,qx]at hq
 obtain⟨e,he,hq⟩:=List.mem_flatMap.mp hq
 exact List.mem_flatMap.mpr ⟨e,(nJ h).2 e he,hq⟩
end Tr
namespace L2
open PySem PySem.Spec PyProof.Rows
end L2
namespace Tr
open PySem PySem.Spec PyProof.Rows L2
inductive RMs (H:Hp):List V->List (Str×Str)->Prop
 |nil:RMs H [] []
 |cons {p:Addr}{vs:List V}{m:Str×Str}{ms:List (Str×Str)}:H p=some (.tup [.str m.1,.str m.2])->RMs H vs ms->RMs H (.ref p::vs) (m::ms)
theorem RMs.same {H H':Hp}(e:a9 H H'):∀{vs:List V}{ms:List (Str×Str)},RMs H vs ms->RMs H' vs ms
 |_,_,.nil=>.nil
 |_,_,.cons h r=>.cons (e _ _ h) (RMs.same e r)
theorem RMs.off {H:Hp}{c:Addr}{xs:List V}{o:HO}(hc:H c=some (.lst xs)):∀{vs:List V}{ms:List (Str×Str)},RMs H vs ms->RMs (upd H c o) vs ms
 |_,_,.nil=>.nil
 |_,_,.cons (p:=p) h r=>.cons (by rw[af (fun z=>by rw[z,hc]at h;cases h)];exact h) (RMs.off hc r)
theorem RMs.snoc {H:Hp}{p:Addr}{m:Str×Str}(h:H p=some (.tup [.str m.1,.str m.2])):∀{vs:List V}{ms:List (Str×Str)},RMs H vs ms->RMs H (vs++[.ref p]) (ms++[m])
 |_,_,.nil=>.cons h .nil
 |_,_,.cons h' r=>.cons h' (RMs.snoc h r)
theorem RMs.len {H:Hp}:∀{vs:List V}{ms:List (Str×Str)},RMs H vs ms->vs.length=ms.length
 |_,_,.nil=>rfl
 |_,_,.cons _ r=>congrArg (·+1) (RMs.len r)
theorem RMs.at {H:Hp}:∀{vs:List V}{ms:List (Str×Str)},RMs H vs ms->∀(i:Nat) (v:V),vs[i]?=some v->∃p m,v=.ref p/\ms[i]?=some m/\H p=some (.tup [.str m.1,.str m.2])
 |_,_,.nil,i,v,h=>by simp at h
 |_,_,.cons (p:=p) (m:=m) h' r,0,v,h=>by
  simp at h
  exact⟨p,m,h.symm,rfl,h'⟩
 |_,_,.cons h' r,i+1,v,h=>RMs.at r i v (by simpa using h)
def a8.moves:a8->List (Str×Str)
 |.put q _=>[("put",q)]
 |.get q _=>[("get",q)]
 |_=>[]
def eT (s:Int×Int×Int) (m:Str×Str):Int:=s.1+(if m.1="put" then 1 else -1)
def cQ (q:Str) (s:Int×Int×Int) (m:Str×Str):Int×Int×Int:=
 if m.2=q then(eT s m,if eT s m<s.2.1 then eT s m else s.2.1,if eT s m > s.2.2 then eT s m else s.2.2)else s
def aS (q:Str) (ms:List (Str×Str)):Int×Int×Int:=ms.foldl (cQ q) (0,0,0)
theorem mj (q:Str) (ms:List (Str×Str)) (m:Str×Str):aS q (ms++[m])=cQ q (aS q ms) m:=by
 unfold aS
 rw[List.foldl_append]
 rfl
def iZ (pick peak:Int):Int:=if pick % 4=0 then 1+pick / 4 % 2000 else if pick % 4=1 then 1+pick / 4 % 3 else 1+pick / 4 % (if peak > 1 then peak else 1)
theorem jB (q:Str):∀ms:List (Str×Str),-(ms.length:Int)<=(aS q ms).2.1/\(aS q ms).2.1<=0/\(aS q ms).2.1<=(aS q ms).1/\(aS q ms).1<=(aS q ms).2.2/\(aS q ms).2.2<=ms.length:=fun ms=>by
 have key:∀(l:List (Str×Str)) (s:Int×Int×Int) (n:Nat),-(n:Int)<=s.2.1->s.2.1<=0->s.2.1<=s.1->s.1<=s.2.2->s.2.2<=n->
  -((n+l.length:Nat):Int)<=(l.foldl (cQ q) s).2.1/\(l.foldl (cQ q) s).2.1<=0/\(l.foldl (cQ q) s).2.1<=(l.foldl (cQ q) s).1/\(l.foldl (cQ q) s).1<=(l.foldl (cQ q) s).2.2/\(l.foldl (cQ q) s).2.2<=((n+l.length:Nat):Int):=by
  intro l
  induction l with
  |nil=>
   intro s n a b c d e
   exact⟨a,b,c,d,e⟩
  |cons m r ih=>
   intro s n a b c d e
   rw[List.foldl_cons,qA]
   have h:∀t:Int×Int×Int,t=cQ q s m->-((n+1:Nat):Int)<=t.2.1/\t.2.1<=0/\t.2.1<=t.1/\t.1<=t.2.2/\t.2.2<=((n+1:Nat):Int):=by
    intro t ht
    subst ht
    unfold cQ eT
    split
    ·dsimp only
     split<;>split<;>split<;>omega
    ·omega
   obtain⟨h1,h2,h3,h4,h5⟩:=h _ rfl
   have:=ih (cQ q s m) (n+1) h1 h2 h3 h4 h5
   rw[show n+1+r.length=n+(r.length+1)by omega]at this
   exact this
 have:=key ms (0,0,0) 0 (by simp) (by simp) (by simp) (by simp) (by simp)
 rw[Nat.zero_add]at this
 exact this
def eN (q:Str) (ms:List (Str×Str)):Nat:=(-(aS q ms).2.1).toNat
def bS (rs names:List Str) (ms:List (Str×Str)):Nat->List a8
 |0=>[]
 |i+1=>bS rs names ms i++List.replicate (eN (rs.getD i (">":Str)) ms) (.put (rs.getD i (">":Str)) (nth names (i:Int)))
def dC (rs:List Str) (t:Int) (ms:List (Str×Str)):Nat->List (Str×Int)
 |0=>[]
 |i+1=>dC rs t ms i++[(rs.getD i (">":Str),iZ (ar t ((i:Int)+1)) ((aS (rs.getD i (">":Str)) ms).2.2-(aS (rs.getD i (">":Str)) ms).2.1))]
theorem ub (q:Str) (ms:List (Str×Str)):eN q ms<=ms.length:=by
 have:=jB q ms
 unfold eN
 omega
theorem jZ (rs names:List Str) (ms:List (Str×Str)):∀i,(bS rs names ms i).length<=i * ms.length
 |0=>by simp[bS]
 |i+1=>by
  have h1:=jZ rs names ms i
  have h2:=ub (rs.getD i (">":Str)) ms
  rw[bS,qc,List.length_replicate,Nat.succ_mul]
  omega
theorem kF (rs:List Str) (t:Int) (ms:List (Str×Str)):∀i,(dC rs t ms i).length=i
 |0=>rfl
 |i+1=>by rw[dC,qc,kF rs t ms i];rfl
theorem oW {rs:List Str}{t:Int}{ms:List (Str×Str)}:∀{i:Nat},i<=rs.length->∀x∈dC rs t ms i,x.1∈rs
 |0,_,x,h=>by simp[dC]at h
 |i+1,hi,x,h=>by
  rw[dC,qi]at h
  rcases h with h|h
  ·exact oW Qo x h
  ·rw[qS]at h
   subst h
   show rs.getD i _∈rs
   rw[qk,qd Qo]
   exact List.getElem_mem _
theorem uo (rs names:List Str) (ms:List (Str×Str)):∀i,vF (bS rs names ms i)
 |0=>fun d h=>by simp[bS]at h
 |i+1=>fun d h=>by
  rw[bS,qi]at h
  rcases h with h|h
  ·exact uo rs names ms i d h
  ·rw[(List.mem_replicate.mp h).2]
   intro n b z
   cases z
inductive RPs (H:Hp):List V->List (Str×Str)->Prop
 |nil:RPs H [] []
 |cons {p:Addr}{vs:List V}{m:Str×Str}{ms:List (Str×Str)}:H p=some (.tup [.str "put",.str m.1,.str m.2])->RPs H vs ms->RPs H (.ref p::vs) (m::ms)
theorem RPs.same {H H':Hp}(e:a9 H H'):∀{vs:List V}{ms:List (Str×Str)},RPs H vs ms->RPs H' vs ms
 |_,_,.nil=>.nil
 |_,_,.cons h r=>.cons (e _ _ h) (RPs.same e r)
theorem RPs.off {H:Hp}{c:Addr}{xs:List V}{o:HO}(hc:H c=some (.lst xs)):∀{vs:List V}{ms:List (Str×Str)},RPs H vs ms->RPs (upd H c o) vs ms
 |_,_,.nil=>.nil
 |_,_,.cons h r=>.cons (by rw[af (fun z=>by rw[z,hc]at h;cases h)];exact h) (RPs.off hc r)
theorem RPs.app {H:Hp}:∀{us vs:List V}{a b:List (Str×Str)},RPs H us a->RPs H vs b->RPs H (us++vs) (a++b)
 |_,_,_,_,.nil,h=>h
 |_,_,_,_,.cons x r,h=>.cons x (RPs.app r h)
theorem RPs.rep {H:Hp}{p:Addr}{m:Str×Str}(h:H p=some (.tup [.str "put",.str m.1,.str m.2])):∀n:Nat,RPs H (List.replicate n (.ref p)) (List.replicate n m)
 |0=>.nil
 |n+1=>.cons h (RPs.rep h n)
theorem RPs.len {H:Hp}:∀{vs:List V}{ms:List (Str×Str)},RPs H vs ms->vs.length=ms.length
 |_,_,.nil=>rfl
 |_,_,.cons _ r=>congrArg (·+1) (RPs.len r)
theorem RPs.rds {H:Hp}:∀{vs:List V}{ms:List (Str×Str)},RPs H vs ms->RDs H vs (ms.map fun m=>.put m.1 m.2)
 |_,_,.nil=>.nil
 |_,_,.cons h r=>.cons (.put h) (RPs.rds r)
def gF (rs names:List Str) (ms:List (Str×Str)):Nat->List (Str×Str)
 |0=>[]
 |i+1=>gF rs names ms i++List.replicate (eN (rs.getD i (">":Str)) ms) (rs.getD i (">":Str),nth names (i:Int))
theorem k6 (rs names:List Str) (ms:List (Str×Str)):∀i,(gF rs names ms i).map (fun m=>a8.put m.1 m.2)=bS rs names ms i
 |0=>rfl
 |i+1=>by rw[gF,bS,qO,k6 rs names ms i,List.map_replicate]
theorem RSs.off {H:Hp}{c:Addr}{xs:List V}{o:HO}(hc:H c=some (.lst xs)):∀{vs:List V}{ss:List (Str×Int)},RSs H vs ss->RSs (upd H c o) vs ss
 |_,_,.nil=>.nil
 |_,_,.cons h r=>.cons (by rw[af (fun z=>by rw[z,hc]at h;cases h)];exact h) (RSs.off hc r)
theorem By (n:Nat) (v:V):(List.replicate n [v]).flatten=List.replicate n v:=by
 induction n with
 |zero=>rfl
 |succ n ih=>rw[List.replicate_succ,List.flatten_cons,ih];rfl
theorem xA (n:Int) (names rooms:List Str) (shut:Bool):∀k b,bA n names rooms shut≠.rep k b:=fun k b z=>by
 unfold bA at z
 split at z
 ·cases z
 ·split at z
  ·split at z<;>cases z
  ·cases z
theorem vq (a b:List Row) (q:Str):bal (a++b) q=bal a q+bal b q:=by
 unfold bal
 rw[List.filter_append,List.filter_append,qc,qc]
 omega
theorem yW:¬ ("get":Str)="put":=Qd
theorem yt (q:Str) (a:List (Str×Str)):∀n,∀b:List (Str×Str),b.length=n->(aS q (a++b)).2.1<=(aS q a).1:=by
 have mono:∀(b:List (Str×Str)) (s:Int×Int×Int),(b.foldl (cQ q) s).2.1<=s.2.1:=by
  intro b
  induction b with
  |nil=>intro s;exact Int.le_refl _
  |cons m r ih=>
   intro s
   rw[List.foldl_cons]
   refine Int.le_trans (ih _) ?_
   unfold cQ
   split
   ·dsimp only
    split<;>omega
   ·exact Int.le_refl _
 intro n b _
 have h1:=mono b (aS q a)
 have h2:=(jB q a).2.2.1
 have e:aS q (a++b)=b.foldl (cQ q) (aS q a):=by unfold aS;rw[List.foldl_append]
 rw[e]
 omega
theorem Cy {q p x:Str}(n:Nat):bal ((List.replicate n (a8.put p x)).map aL) q=if p=q then(n:Int)else 0:=by
 rw[List.map_replicate]
 unfold bal
 by_cases h:p=q
 ·simp[aL,h]
 ·simp[aL,h]
theorem vo (rs names:List Str) (ms:List (Str×Str)) (q:Str):∀i,0<=bal ((bS rs names ms i).map aL) q/\∀k,k<i->rs.getD k (">":Str)=q->(eN q ms:Int)<=bal ((bS rs names ms i).map aL) q
 |0=>⟨by simp[bS,bal],fun k hk=>absurd hk (Nat.not_lt_zero _)⟩
 |i+1=>by
  obtain⟨h1,h2⟩:=vo rs names ms q i
  have e:bal ((bS rs names ms (i+1)).map aL) q=bal ((bS rs names ms i).map aL) q+(if rs.getD i (">":Str)=q then((eN (rs.getD i (">":Str)) ms:Nat):Int)else 0):=by
   rw[bS,qO,vq,Cy]
  rw[e]
  refine⟨by split<;>omega,fun k hk hq=>?_⟩
  by_cases lt:k<i
  ·have:=h2 k lt hq
   split<;>omega
  ·obtain rfl:k=i:=by omega
   rw[Q0 hq,hq]
   omega
theorem um (rs names:List Str) (ms:List (Str×Str)):∀i,∀d∈bS rs names ms i,(aL d).outof=none
 |0,d,h=>by simp[bS]at h
 |i+1,d,h=>by
  rw[bS,qi]at h
  rcases h with h|h
  ·exact um rs names ms i d h
  ·rw[(List.mem_replicate.mp h).2]
   rfl
theorem ym {d:a8}{q:Str}(h:(aL d).outof=some q):∃x,d=.get q x:=by
 cases d with
 |get p x=>
  have:p=q:=qJ h
  exact⟨x,by rw[this]⟩
 |_=>simp[aL]at h
def vH (rooms:List Str) (d:a8):Prop:=∀q x,d=.get q x->q∈rooms
theorem xF (n:Int) (names rooms:List Str) (shut:Bool):vH rooms (bA n names rooms shut):=fun q x z=>by
 unfold bA at z
 split at z
 ·cases z
 ·split at z
  ·rename_i c
   split at z
   ·injection z with z1 z2
    rw[<- z1]
    exact eM c.2.1 _
   ·cases z
  ·cases z
theorem nh:∀ds:List a8,ds.length<=(ah ds).length
 |[]=>qf _
 |d::r=>by
  have:=nh r
  rw[ah,qc,gH,qA,qA]
  omega
theorem uq (rs names:List Str) (ms:List (Str×Str)) (hn:0<names.length):∀i,i<=rs.length->∀d∈bS rs names ms i,∃q x,d=.put q x/\q∈rs/\x∈names
 |0,_,d,h=>by simp[bS]at h
 |i+1,hi,d,h=>by
  rw[bS,qi]at h
  rcases h with h|h
  ·exact uq rs names ms hn i Qo d h
  ·refine⟨_,_,(List.mem_replicate.mp h).2,?_,eM hn _⟩
   rw[qk,qd Qo]
   exact List.getElem_mem _
theorem yV {ds:List a8}(h:∀d∈ds,∃q x,d=.put q x):ah ds=ds/\aH ds=aH ds/\∀d∈ds,d.depth=0:=by
 refine⟨?_,rfl,fun d hd=>?_⟩
 ·induction ds with
  |nil=>rfl
  |cons d r ih=>
   obtain⟨q,x,rfl⟩:=h d qo
   rw[ah,ih fun e he=>h e (ql _ he)]
   rfl
 ·obtain⟨q,x,rfl⟩:=h d hd
  rfl
theorem uG:∀{ds:List a8},(∀d∈ds,d.depth=0)->aH ds=0
 |[],_=>rfl
 |d::r,h=>by
  rw[aH,h d qo,uG fun e he=>h e (ql _ he)]
  rfl
theorem je (l:List Str):(srt l).length<=l.length:=by
 unfold srt
 split
 ·rename_i h
  obtain⟨a,b,_⟩:=Classical.choose_spec h
  exact i9 a fun x hx=>(b x).mp hx
 ·exact qt _
theorem x9 (l:List Str):(eC l).length<=l.length:=by
 unfold eC
 split
 ·rename_i h
  exact Nat.le_of_eq (Classical.choose_spec h).1.length_eq
 ·exact qt _
end Tr
namespace Tr
open PySem
noncomputable def fh (b:List a8):Row:=⟨"gate",srt (cards b),[],none,none⟩
def reps {α:Type}(n:Nat) (l:List α):List α:=(List.replicate n l).flatten
theorem sw {α:Type}(l:List α):reps 0 l=[]:=rfl
theorem fJ {α:Type}(n:Nat) (l:List α):reps (n+1) l=l++reps n l:=by unfold reps;rw[List.replicate_succ,List.flatten_cons]
theorem fK {α:Type}(n:Nat) (l:List α):(reps n l).length=n * l.length:=by
 induction n with
 |zero=>simp[reps]
 |succ n ih=>rw[fJ,qc,ih,Nat.succ_mul];omega
theorem yp {α β:Type}(f:α->List β) (n:Nat) (l:List α):(reps n l).flatMap f=reps n (l.flatMap f):=by
 induction n with
 |zero=>rfl
 |succ n ih=>rw[fJ,fJ,qU,ih]
theorem yo {α:Type}{n:Nat}{l:List α}{x:α}(h:x∈reps n l):x∈l:=by
 induction n with
 |zero=>simp[reps]at h
 |succ n ih=>rw[fJ,qi]at h;exact h.elim id ih
theorem yn {α:Type}(n:Nat) (l:List α):reps (n+1) l=reps n l++l:=by
 induction n with
 |zero=>simp[reps]
 |succ n ih=>
  have e:reps (n+1+1) l=l++(reps n l++l):=by rw[fJ,ih]
  rw[e,<- qN,<- fJ]
mutual
noncomputable def bD:a8->List Row
 |.rep n b=>fh b::reps n.toNat (aG b++[fh b])
 |.set x a sg b=>[aL (.set x a sg b)]
 |.put q x=>[aL (.put q x)]
 |.get q x=>[aL (.get q x)]
 |.give x=>[aL (.give x)]
 |.cond x t o=>[aL (.cond x t o)]
 |.whl x b=>[aL (.whl x b)]
noncomputable def aG:List a8->List Row
 |[]=>[]
 |d::r=>bD d++aG r
end
theorem mh {d:a8}(h:∀n b,d≠.rep n b):bD d=[aL d]:=by
 cases d with
 |rep n b=>exact absurd rfl (h n b)
 |_=>simp[bD]
theorem jx:∀(a b:List a8),aG (a++b)=aG a++aG b
 |[],b=>by simp[aG]
 |d::a,b=>by rw[List.cons_append,aG,aG,jx a b,qN]
theorem yh {ds:List a8}(h:∀d∈ds,∀n b,d≠.rep n b):aG ds=ds.map aL:=by
 induction ds with
 |nil=>simp[aG]
 |cons d r ih=>rw[aG,mh (h d qo),ih fun e he=>h e (ql _ he)];rfl
theorem mf {ds:List a8}{i:Nat}{d:a8}(h:ds[i]?=some d):aG (ds.take (i+1))=aG (ds.take i)++bD d:=by
 rw[qr,h,jx]
 simp[aG]
theorem yd {n:Int}{b:List a8}(h:0<n):(aG b).length+2<=(bD (.rep n b)).length:=by
 rw[bD,qA,fK,qc,List.length_singleton]
 have h1:1<=n.toNat:=Qo
 have:=Nat.mul_le_mul_right ((aG b).length+1) h1
 omega
theorem yg {ds:List a8}{i:Nat}{d:a8}(h:ds[i]?=some d):(bD d).length+(aG (ds.take i)).length<=(aG ds).length:=by
 have e:ds=ds.take (i+1)++ds.drop (i+1):=(List.take_append_drop _ _).symm
 conv=>rhs;rw[e]
 rw[jx,mf h,qc,qc]
 omega
def bE (r:Row):List (Str×Str):=match r.into,r.outof with
 |some q,_=>[("put",q)]
 |none,some q=>[("get",q)]
 |none,none=>[]
mutual
def cg:a8->List (Str×Str)
 |.rep n b=>reps n.toNat (bn b)
 |.put q _=>[("put",q)]
 |.get q _=>[("get",q)]
 |.set _ _ _ _=>[]
 |.give _=>[]
 |.cond _ _ _=>[]
 |.whl _ _=>[]
def bn:List a8->List (Str×Str)
 |[]=>[]
 |d::r=>cg d++bn r
end
theorem mX:∀(a b:List a8),bn (a++b)=bn a++bn b
 |[],b=>by simp[bn]
 |d::a,b=>by rw[List.cons_append,bn,bn,mX a b,qN]
theorem tT {ds:List a8}{i:Nat}{d:a8}(h:ds[i]?=some d):bn (ds.take (i+1))=bn (ds.take i)++cg d:=by
 rw[qr,h,mX]
 simp[bn]
theorem AH {ds:List a8}{i:Nat}{d:a8}(h:ds[i]?=some d):(cg d).length+(bn (ds.take i)).length<=(bn ds).length:=by
 have e:ds=ds.take (i+1)++ds.drop (i+1):=(List.take_append_drop _ _).symm
 conv=>rhs;rw[e]
 rw[mX,tT h,qc,qc]
 omega
mutual
theorem AG:∀d:a8,(bD d).flatMap bE=cg d
 |.rep n b=>by
  rw[bD,cg,qF,yp,qU,iW b]
  simp[bE,fh]
 |.set x a sg b=>by simp[bD,cg,bE,aL]
 |.put q x=>by simp[bD,cg,bE,aL]
 |.get q x=>by simp[bD,cg,bE,aL]
 |.give x=>by simp[bD,cg,bE,aL]
 |.cond x t o=>by simp[bD,cg,bE,aL]
 |.whl x b=>by simp[bD,cg,bE,aL]
theorem iW:∀ds:List a8,(aG ds).flatMap bE=bn ds
 |[]=>by simp[aG,bn]
 |d::r=>by rw[aG,bn,qU,AG d,iW r]
end
mutual
theorem yf:∀(d:a8) (r:Row),r∈bD d->(∃b,r=fh b/\∀e∈ah b,e∈d.flat)\/∃e∈d.flat,r=aL e/\∀n b,e≠.rep n b
 |.rep n b,r,h=>by
  rw[bD,qu]at h
  have g:(∃b',r=fh b'/\∀e∈ah b',e∈(a8.rep n b).flat)\/r∈aG b:=by
   rcases h with h|h
   ·exact .inl ⟨b,h,fun e he=>by simp[a8.flat,he]⟩
   ·rcases qi.mp (yo h)with h|h
    ·exact .inr h
    ·exact .inl ⟨b,by simpa using h,fun e he=>by simp[a8.flat,he]⟩
  rcases g with g|g
  ·exact .inl g
  ·rcases fH b r g with⟨b',e,h'⟩|⟨e,he,h'⟩
   ·exact .inl ⟨b',e,fun x hx=>by simp[a8.flat,h' x hx]⟩
   ·exact .inr ⟨e,by simp[a8.flat,he],h'⟩
 |.set x a sg b,r,h=>by
  rw[bD,qS]at h
  exact .inr ⟨_,by simp[a8.flat],h,fun n b z=>by cases z⟩
 |.put q x,r,h=>by
  rw[bD,qS]at h
  exact .inr ⟨_,by simp[a8.flat],h,fun n b z=>by cases z⟩
 |.get q x,r,h=>by
  rw[bD,qS]at h
  exact .inr ⟨_,by simp[a8.flat],h,fun n b z=>by cases z⟩
 |.give x,r,h=>by
  rw[bD,qS]at h
  exact .inr ⟨_,by simp[a8.flat],h,fun n b z=>by cases z⟩
 |.cond x t o,r,h=>by
  rw[bD,qS]at h
  exact .inr ⟨_,by simp[a8.flat],h,fun n b z=>by cases z⟩
 |.whl x b,r,h=>by
  rw[bD,qS]at h
  exact .inr ⟨_,by simp[a8.flat],h,fun n b z=>by cases z⟩
theorem fH:∀(ds:List a8) (r:Row),r∈aG ds->(∃b,r=fh b/\∀e∈ah b,e∈ah ds)\/∃e∈ah ds,r=aL e/\∀n b,e≠.rep n b
 |[],r,h=>by simp[aG]at h
 |d::ds,r,h=>by
  rw[aG,qi]at h
  rcases h with h|h
  ·rcases yf d r h with⟨b,e,h'⟩|⟨e,he,h'⟩
   ·exact .inl ⟨b,e,fun x hx=>by simp[ah,h' x hx]⟩
   ·exact .inr ⟨e,by simp[ah,he],h'⟩
  ·rcases fH ds r h with⟨b,e,h'⟩|⟨e,he,h'⟩
   ·exact .inl ⟨b,e,fun x hx=>by simp[ah,h' x hx]⟩
   ·exact .inr ⟨e,by simp[ah,he],h'⟩
end
theorem md (ds:List a8):∀r∈aG ds,dA r:=fun r h=>by
 rcases fH ds r h with⟨b,rfl,_⟩|⟨e,_,rfl,_⟩
 ·exact .inl rfl
 ·exact yi e
theorem ye {ds:List a8}{r:Row}{q:Str}(h:r∈aG ds) (ho:r.outof=some q):∃x,.get q x∈ah ds:=by
 rcases fH ds r h with⟨b,rfl,_⟩|⟨e,he,rfl,_⟩
 ·simp[fh]at ho
 ·obtain⟨x,rfl⟩:=ym ho
  exact⟨x,he⟩
theorem Cw (q:Str):∀(rs:List Row),(∀r∈rs,dA r)->bal rs q=(aS q (rs.flatMap bE)).1:=fun rs h=>by
 have key:∀n,∀rs:List Row,rs.length=n->(∀r∈rs,dA r)->bal rs q=(aS q (rs.flatMap bE)).1:=by
  intro n
  induction n with
  |zero=>
   intro rs h _
   rw[List.length_eq_zero_iff]at h
   subst h
   rfl
  |succ n ih=>
   intro rs h ow
   have ne:rs≠[]:=fun z=>by rw[z]at h;cases h
   have e:rs=rs.dropLast++[rs.getLast ne]:=(List.dropLast_concat_getLast ne).symm
   have hi:=ih rs.dropLast (by rw[List.length_dropLast];omega) fun r hr=>ow r ((List.dropLast_sublist _).subset hr)
   have hl:=ow _ (List.getLast_mem ne)
   generalize rs.getLast ne=d at e hl
   rw[e,qU,j5,hi]
   obtain⟨kd,ow,re,into,outof⟩:=d
   cases into with
   |some p=>
    have on:outof=none:=by
     rcases hl with h|h
     ·cases h
     ·exact h
    subst on
    show _=(aS q (List.flatMap bE rs.dropLast++[(("put":Str),p)])).1
    rw[mj]
    unfold cQ eT
    by_cases h:p=q<;>simp[h]
   |none=>
    cases outof with
    |none=>simp[bE]
    |some p=>
     show _=(aS q (List.flatMap bE rs.dropLast++[(("get":Str),p)])).1
     rw[mj]
     unfold cQ eT
     by_cases h:p=q<;>simp[h,yW]<;>omega
 exact key _ rs rfl h
theorem BD {rs names:List Str}{rows:List Row}(ow:∀r∈rows,dA r) (hin:∀r∈rows,∀q,r.outof=some q->q∈rs):
 Fed ((bS rs names (rows.flatMap bE) rs.length).map aL++rows):=fun i r q hi ho=>by
 have ge:((bS rs names (rows.flatMap bE) rs.length).map aL).length<=i:=by
  rcases Nat.lt_or_ge i ((bS rs names (rows.flatMap bE) rs.length).map aL).length with lt|ge
  ·rw[List.getElem?_append_left lt]at hi
   obtain⟨d,hd,e⟩:=List.mem_map.mp (qz hi)
   have:=um rs names (rows.flatMap bE) rs.length d hd
   rw[e,ho]at this
   cases this
  ·exact ge
 rw[qL ge]at hi
 generalize hj:i-((bS rs names (rows.flatMap bE) rs.length).map aL).length=j at hi
 have rm:=qz hi
 have qm:=hin r rm q ho
 obtain⟨k,hk,hkq⟩:=List.mem_iff_getElem.mp qm
 have b1:=(vo rs names (rows.flatMap bE) q rs.length).2 k hk (by rw[qk,qd hk];exact hkq)
 have tk:((bS rs names (rows.flatMap bE) rs.length).map aL++rows).take i=(bS rs names (rows.flatMap bE) rs.length).map aL++rows.take j:=by
  rw[List.take_append,List.take_of_length_le ge,hj]
 rw[tk,vq]
 have e2:rows.take (j+1)=rows.take j++[r]:=by rw[qr,hi];rfl
 have inn:r.into=none:=by
  rcases ow r rm with h|h
  ·exact h
  ·rw[h]at ho;cases ho
 have b2:bal (rows.take (j+1)) q=bal (rows.take j) q-1:=by
  rw[e2,j5,inn,ho]
  simp
 have b3:=yt q ((rows.take (j+1)).flatMap bE) _ ((rows.drop (j+1)).flatMap bE) rfl
 rw[<- qU,List.take_append_drop,<- Cw q _ (fun r hr=>ow r (List.mem_of_mem_take hr))]at b3
 have b4:=jB q (rows.flatMap bE)
 unfold eN at b1
 omega
def e7 (d:a8):Prop:=∀n b,d=.rep n b->0<=n/\n<=99
def bH (Pd:a8->Prop) (ds:List a8):Prop:=∀d∈ah ds,Pd d
theorem bH.app {Pd:a8->Prop}{a b:List a8}(h1:bH Pd a) (h2:bH Pd b):bH Pd (a++b):=fun d h=>by
 rw[dS,qi]at h
 exact h.elim (h1 d) (h2 d)
theorem bH.nil {Pd:a8->Prop}:bH Pd []:=fun d h=>by simp[ah]at h
theorem bH.one {Pd:a8->Prop}{d:a8}(h:Pd d) (hi:∀b∈d.inner,bH Pd b):bH Pd [d]:=fun e he=>by
 rw[ah,ah,qx,gH,qu,List.mem_flatMap]at he
 rcases he with rfl|⟨b,hb,he⟩
 ·exact h
 ·exact hi b hb e he
def CM (o:Op):Prop:=∀n,o=.rep n->0<=n/\n<=99
def FrA (Pd:a8->Prop) (f:Fr):Prop:=bH Pd f.ds/\bH Pd f.op.extra/\CM f.op
structure j9 (Pd:a8->Prop):Prop where
 cond:∀x t o,Pd (.cond x t o)
 whl:∀x b,Pd (.whl x b)
 rep:∀n b,0<=n->n<=99->Pd (.rep n b)
theorem FrA.deed {Pd:a8->Prop}(hp:j9 Pd) {f:Fr}(h:FrA Pd f):bH Pd [f.deed]:=by
 obtain⟨h1,h2,h3⟩:=h
 unfold Fr.deed
 cases q:f.op<;>rw[q]at h2 h3
 ·exact .one (hp.rep _ _ Qk Qk) (by simpa[a8.inner]using h1)
 ·exact .one (hp.cond _ _ _) (by simpa[a8.inner]using⟨h1,bH.nil⟩)
 ·exact .one (hp.cond _ _ _) (by simpa[a8.inner]using⟨h2,h1⟩)
 ·exact .one (hp.whl _ _) (by simpa[a8.inner]using h1)
 ·exact .one (hp.rep _ _ (h3 _ rfl).1 (h3 _ rfl).2) (by simpa[a8.inner]using h1)
theorem xC (n:Int) (names rooms:List Str) (shut:Bool):(bA n names rooms shut).inner=[]:=by
 unfold bA
 split
 ·rfl
 ·split
  ·split<;>rfl
  ·rfl
def j8 (f g:Fr):Prop:=match f.op with
 |.root=>False
 |.rep n=>f.times=g.times * n
 |_=>f.times=0
def TR (most:Int):List Fr->Prop
 |[]=>False
 |[f]=>f.op=.root/\f.times=1
 |f::g::r=>j8 f g/\0<=f.times/\f.times<=most/\TR most (g::r)
theorem TR.head {most:Int}(h1:1<=most) {f:Fr}{r:List Fr}(h:TR most (f::r)):0<=f.times/\f.times<=most:=by
 cases r with
 |nil=>rw[h.2];omega
 |cons g r=>exact⟨h.2.1,h.2.2.1⟩
theorem TR.same {most:Int}{f f':Fr}{r:List Fr}(e1:f'.op=f.op) (e2:f'.times=f.times) (h:TR most (f::r)):TR most (f'::r):=by
 cases r with
 |nil=>exact⟨e1.trans h.1,e2.trans h.2⟩
 |cons g r=>
  obtain⟨a,b,c,d⟩:=h
  refine⟨?_,by rw[e2];exact b,by rw[e2];exact c,d⟩
  unfold j8 at a ⊢
  rw[e1,e2]
  exact a
theorem tV {n most t:Int}(h0:0<=most) (h1:most<=98) (ht:0<=t):0<=cr n most t/\cr n most t<=99/\0<=t * cr n most t/\t * cr n most t<=most:=by
 unfold cr
 by_cases tp:0<t
 ·rw[Q0 tp]
  have q0:0<=most / t:=Int.ediv_nonneg h0 ht
  have q1:most / t<=most:=Int.ediv_le_self _ h0
  have e0:0<=n / 70 % (1+most / t):=Int.emod_nonneg _ Qo
  have e1:n / 70 % (1+most / t)<1+most / t:=Int.emod_lt_of_pos _ Qo
  have m1:t * (n / 70 % (1+most / t))<=t * (most / t):=Int.mul_le_mul_of_nonneg_left Qo ht
  have m2:t * (most / t)<=most:=Int.mul_ediv_self_le Qo
  exact⟨e0,Qo,Int.mul_nonneg ht e0,Qo⟩
 ·rw[qZ tp]
  obtain rfl:t=0:=Qo
  exact⟨Int.emod_nonneg _ Qk,Qo,by simp,by simpa using h0⟩
structure Wt where
 g:Int
 e:a8->Int
mutual
def Wt.d (w:Wt):a8->Int
 |.rep n b=>w.g+n * (Wt.l w b+w.g)
 |.cond _ _ _=>w.g
 |.whl _ _=>w.g
 |.set x a sg b=>w.e (.set x a sg b)
 |.put q x=>w.e (.put q x)
 |.get q x=>w.e (.get q x)
 |.give x=>w.e (.give x)
def Wt.l (w:Wt):List a8->Int
 |[]=>0
 |d::r=>Wt.d w d+Wt.l w r
end
theorem Wt.l_append (w:Wt):∀(a b:List a8),w.l (a++b)=w.l a+w.l b
 |[],b=>by simp[Wt.l]
 |d::a,b=>by rw[List.cons_append,Wt.l,Wt.l,Wt.l_append w a b];omega
def Wt.m (w:Wt):List Fr->Int
 |[]=>0
 |[f]=>f.times * w.l f.ds
 |f::g::r=>f.times * w.l f.ds+(g.times * w.g+match f.op with|.rep _=>f.times * w.g|_=>0)+Wt.m w (g::r)
theorem Wt.m_add (w:Wt) (f:Fr) (d:a8) (r:List Fr):w.m (f.add d::r)=w.m (f::r)+f.times * w.d d:=by
 have e:w.l (f.ds++[d])=w.l f.ds+w.d d:=by rw[Wt.l_append];simp[Wt.l]
 cases r with
 |nil=>simp only[Wt.m,Fr.add,e,Int.mul_add]
 |cons g r=>simp only[Wt.m,Fr.add,e,Int.mul_add];omega
theorem Wt.deed (w:Wt) {f g:Fr}(h:j8 f g):g.times * w.d f.deed=f.times * w.l f.ds+(g.times * w.g+match f.op with|.rep _=>f.times * w.g|_=>0):=by
 unfold j8 at h
 unfold Fr.deed
 cases q:f.op<;>rw[q]at h<;>simp only[Wt.d]at h ⊢
 ·rw[h];simp
 ·rw[h];simp
 ·rw[h];simp
 ·rw[h,Int.mul_add,Int.mul_add,Int.mul_add,<- Int.mul_assoc,<- Int.mul_assoc];omega
theorem Wt.wh (w:Wt) {most:Int}:∀(f:Fr) (r:List Fr) (dt:List a8),TR most (f::r)->w.l (wh (f::r) dt)=w.m (f::r)+f.times * w.l dt
 |f,[],dt,h=>by
  rw[Tr.wh,Wt.l_append,Wt.m,h.2]
  omega
 |f,g::r,dt,h=>by
  rw[Tr.wh,Wt.wh w g r _ h.2.2.2]
  have:=Wt.deed w (f:={ f with ds:=f.ds++dt }) (g:=g) h.1
  simp only[Wt.l,Int.add_zero]
  rw[this,Wt.l_append,Int.mul_add,Wt.m]
  dsimp only
  omega
theorem xu (w:Wt) (n:Int) (names rooms:List Str) (shut:Bool):w.d (bA n names rooms shut)=w.e (bA n names rooms shut):=by
 unfold bA
 split
 ·rfl
 ·split
  ·split<;>rfl
  ·rfl
theorem pf {names rooms:List Str}{most low n:Int}{st:List Fr}(w:Wt) (c:Int) (hg:0<=w.g) (hg1:w.g<=1) (he:∀d,0<=w.e d/\w.e d<=1) (hn:0<=n) (h1:1<=most) (h98:most<=98) (ht:TR most st):
 TR most (bK names rooms most low st n)/\w.m (bK names rooms most low st n)<=w.m st+most+most * w.g:=by
 match st,ht with
 |g::r,ht=>
  obtain⟨t0,t1⟩:=ht.head h1
  have mw:0<=most * w.g:=Int.mul_nonneg Qo hg
  have gw:g.times * w.g<=most * w.g:=Int.mul_le_mul_of_nonneg_right t1 hg
  have mw1:most * w.g<=most:=by have:=Int.mul_le_mul_of_nonneg_left hg1 (show 0<=most by omega);omega
  unfold bK
  dsimp only
  split
  ·unfold eL
   dsimp only
   split
   ·refine⟨⟨rfl,Int.le_refl _,by show(0:Int)<=most;omega,ht⟩,?_⟩
    simp only[Wt.m,Wt.l]
    omega
   ·split
    ·refine⟨⟨rfl,Int.le_refl _,by show(0:Int)<=most;omega,ht⟩,?_⟩
     simp only[Wt.m,Wt.l]
     omega
    ·obtain⟨m1,m2,m3,m4⟩:=tV (by omega:0<=most) h98 t0
     refine⟨⟨rfl,m3,m4,ht⟩,?_⟩
     have:=Int.mul_le_mul_of_nonneg_right m4 hg
     simp only[Wt.m,Wt.l]
     omega
  ·split
   ·rename_i x hx
    have e:g.op=.ifT x:=by
     split at hx
     ·cases e:g.op<;>rw[e]at hx<;>simp[Op.ifT?]at hx
      rw[hx]
     ·cases hx
    cases r with
    |nil=>have:=ht.1;rw[e]at this;cases this
    |cons g' r'=>
     have z:g.times=0:=by
      have:=ht.1
      unfold j8 at this
      rw[e]at this
      exact this
     refine⟨⟨z,t0,t1,ht.2.2.2⟩,?_⟩
     simp only[Wt.m,e,z]
     omega
   ·split
    ·rename_i c
     cases r with
     |nil=>exact absurd c.2 (by simp)
     |cons g' r'=>
      show TR most (g'.add g.deed::r')/\w.m (g'.add g.deed::r')<=_
      refine⟨TR.same (f:=g') (f':=g'.add g.deed) rfl rfl ht.2.2.2,?_⟩
      rw[Wt.m_add,Wt.deed w ht.1,Wt.m]
      omega
    ·refine⟨TR.same (f:=g) (f':=g.add (bA n names rooms g.shut)) rfl rfl ht,?_⟩
     rw[Wt.m_add]
     obtain⟨e0,e1⟩:=he (bA n names rooms g.shut)
     rw[xu]
     have:=Int.mul_le_mul_of_nonneg_left e1 t0
     omega
theorem kH {names rooms:List Str}{most low:Int}(w:Wt) (hg:0<=w.g) (hg1:w.g<=1) (he:∀d,0<=w.e d/\w.e d<=1) (h1:1<=most) (h98:most<=98):∀(cells:List Int) (st:List Fr),TR most st->
 TR most (cells.foldl (fun st c=>bK names rooms most low st (ar c 1)) st)/\w.m (cells.foldl (fun st c=>bK names rooms most low st (ar c 1)) st)<=w.m st+cells.length * (most+most * w.g)
 |[],st,h=>⟨h,by simp⟩
 |c::cs,st,h=>by
  obtain⟨a,b⟩:=pf (low:=low) (n:=ar c 1) w 0 hg hg1 he (by unfold ar;exact Int.emod_nonneg _ Qk) h1 h98 h
  obtain⟨a',b'⟩:=kH (low:=low) w hg hg1 he h1 h98 cs _ a
  refine⟨a',?_⟩
  rw[List.foldl_cons,qA,Int.natCast_add,Int.add_mul]
  simp only[Int.natCast_one,Int.one_mul]
  omega
theorem vd {names rooms:List Str}{most low:Int}(w:Wt) (hg:0<=w.g) (hg1:w.g<=1) (he:∀d,0<=w.e d/\w.e d<=1) (h1:1<=most) (h98:most<=98) (cells:List Int):w.l (cW names rooms most low cells)<=cells.length * (most+most * w.g):=by
 obtain⟨a,b⟩:=kH (low:=low) w hg hg1 he h1 h98 cells st0 ⟨rfl,rfl⟩
 have e:w.m st0=0:=by simp[st0,Wt.m,Wt.l]
 rw[e,Int.zero_add]at b
 unfold cW ip
 show w.l (e8 ((cG names rooms most low cells).length-1) (cG names rooms most low cells))<=_
 have hs:cG names rooms most low cells=cells.foldl (fun st c=>bK names rooms most low st (ar c 1)) st0:=rfl
 rw[<- hs]at a b
 cases q:cG names rooms most low cells with
 |nil=>rw[q]at a;exact a.elim
 |cons f r=>
  rw[q]at a b
  rw[iq _ _ (by simp),Wt.wh w f r [] a,Wt.l]
  omega
theorem wY {Pd:a8->Prop}(hp:j9 Pd) {names rooms:List Str}{most low n:Int}{st:List Fr}(hs:∀k s,Pd (bA k names rooms s)) (hn:0<=n) (h1:1<=most) (h98:most<=98) (ht:TR most st) (ha:∀f∈st,FrA Pd f):∀f∈bK names rooms most low st n,FrA Pd f:=by
 match st,ht,ha with
 |g::r,ht,ha=>
  have hg:=ha g qo
  have hr:∀f∈r,FrA Pd f:=fun f hf=>ha f (ql _ hf)
  obtain⟨t0,t1⟩:=ht.head h1
  unfold bK
  dsimp only
  split
  ·unfold eL
   dsimp only
   intro f hf
   rcases qu.mp hf with rfl|hf
   ·split
    ·exact⟨.nil,.nil,fun n z=>by cases z⟩
    ·split
     ·exact⟨.nil,.nil,fun n z=>by cases z⟩
     ·obtain⟨m1,m2,_⟩:=tV (by omega:0<=most) h98 t0
      exact⟨.nil,.nil,fun n z=>by cases z;exact⟨m1,m2⟩⟩
   ·exact ha f hf
  ·split
   ·rename_i x hx
    intro f hf
    rcases qu.mp hf with rfl|hf
    ·exact⟨.nil,hg.1,fun n z=>by cases z⟩
    ·exact hr f hf
   ·split
    ·cases r with
     |nil=>exact ha
     |cons g' r'=>
      intro f hf
      rcases qu.mp hf with rfl|hf
      ·have h':=hr g' qo
       exact⟨h'.1.app (hg.deed hp),h'.2⟩
      ·exact hr f (ql _ hf)
    ·intro f hf
     rcases qu.mp hf with rfl|hf
     ·exact⟨hg.1.app (.one (hs _ _) (by rw[xC];simp)),hg.2⟩
     ·exact hr f hf
theorem pA {Pd:a8->Prop}(hp:j9 Pd) {names rooms:List Str}{most low:Int}(hs:∀k s,Pd (bA k names rooms s)) (h1:1<=most) (h98:most<=98):∀(cells:List Int) (st:List Fr),TR most st->(∀f∈st,FrA Pd f)->
 ∀f∈cells.foldl (fun st c=>bK names rooms most low st (ar c 1)) st,FrA Pd f
 |[],st,_,h=>h
 |c::cs,st,ht,h=>by
  have hn:0<=ar c 1:=by unfold ar;exact Int.emod_nonneg _ Qk
  exact pA hp hs h1 h98 cs _ (pf (low:=low) (n:=ar c 1) ⟨0,fun _=>0⟩ 0 Qk Qk (fun _=>⟨by simp,by simp⟩) hn h1 h98 ht).1 (wY hp hs hn h1 h98 ht h)
theorem oE {Pd:a8->Prop}(hp:j9 Pd):∀(st:List Fr) (dt:List a8),(∀f∈st,FrA Pd f)->bH Pd dt->bH Pd (wh st dt)
 |[],_,_,_=>.nil
 |[f],dt,h,hd=>(h f qo).1.app hd
 |f::g::r,dt,h,hd=>by
  have hf:=h f qo
  exact oE hp (g::r) _ (fun f' hf'=>h f' (ql _ hf')) (FrA.deed hp (f:={ f with ds:=f.ds++dt }) ⟨hf.1.app hd,hf.2⟩)
theorem ki {Pd:a8->Prop}(hp:j9 Pd) {names rooms:List Str}{most low:Int}(hs:∀k s,Pd (bA k names rooms s)) (h1:1<=most) (h98:most<=98) (cells:List Int):bH Pd (cW names rooms most low cells):=by
 have a:=(kH (names:=names) (rooms:=rooms) (low:=low) ⟨0,fun _=>0⟩ Qk Qk (fun _=>⟨by simp,by simp⟩) h1 h98 cells st0 ⟨rfl,rfl⟩).1
 have b:=pA hp (low:=low) hs h1 h98 cells st0 ⟨rfl,rfl⟩ fun f hf=>by
  simp[st0]at hf
  subst hf
  exact⟨.nil,.nil,fun n z=>by cases z⟩
 have ne:(cG names rooms most low cells).length≠0:=fun z=>by
  rw[List.length_eq_zero_iff]at z
  unfold cG at z
  rw[z]at a
  exact a
 unfold cW ip
 rw[iq _ _ Qo]
 exact oE hp _ _ b .nil
def gU:Wt:=⟨1,fun _=>1⟩
def ir:Wt:=⟨0,fun d=>d.moves.length⟩
mutual
theorem vO:∀d:a8,(∀e∈d.flat,e7 e)->((bD d).length:Int)=gU.d d
 |.rep n b,h=>by
  have h1:=kq b fun e he=>h e (by simp[a8.flat,he])
  have h2:=(h (.rep n b) (by simp[a8.flat]) n b rfl).1
  rw[bD,Wt.d,qA,fK,qc,List.length_singleton,<- h1]
  have e:(n.toNat:Int)=n:=Int.toNat_of_nonneg h2
  simp only[Int.natCast_add,Int.natCast_mul,e]
  show n * (((aG b).length:Int)+1)+1=1+n * (((aG b).length:Int)+1)
  omega
 |.set x a sg b,_=>rfl
 |.put q x,_=>rfl
 |.get q x,_=>rfl
 |.give x,_=>rfl
 |.cond x t o,_=>rfl
 |.whl x b,_=>rfl
theorem kq:∀ds:List a8,(∀e∈ah ds,e7 e)->((aG ds).length:Int)=gU.l ds
 |[],_=>by simp[aG,Wt.l]
 |d::r,h=>by
  rw[aG,Wt.l,qc,Int.natCast_add,vO d fun e he=>h e (by simp[ah,he]),kq r fun e he=>h e (by simp[ah,he])]
end
mutual
theorem vP:∀d:a8,(∀e∈d.flat,e7 e)->((cg d).length:Int)=ir.d d
 |.rep n b,h=>by
  have h1:=kr b fun e he=>h e (by simp[a8.flat,he])
  have h2:=(h (.rep n b) (by simp[a8.flat]) n b rfl).1
  rw[cg,Wt.d,fK,<- h1]
  have e:(n.toNat:Int)=n:=Int.toNat_of_nonneg h2
  simp only[Int.natCast_mul,e]
  show n * ((bn b).length:Int)=0+n * (((bn b).length:Int)+0)
  rw[Int.add_zero,Int.zero_add]
 |.set x a sg b,_=>rfl
 |.put q x,_=>rfl
 |.get q x,_=>rfl
 |.give x,_=>rfl
 |.cond x t o,_=>rfl
 |.whl x b,_=>rfl
theorem kr:∀ds:List a8,(∀e∈ah ds,e7 e)->((bn ds).length:Int)=ir.l ds
 |[],_=>by simp[bn,Wt.l]
 |d::r,h=>by
  rw[bn,Wt.l,qc,Int.natCast_add,vP d fun e he=>h e (by simp[ah,he]),kr r fun e he=>h e (by simp[ah,he])]
end
theorem nZ {names rooms:List Str}{most low:Int}(h1:1<=most) (h98:most<=98) (cells:List Int):bH e7 (cW names rooms most low cells):=
 ki ⟨fun _ _ _ n b z=>(by cases z),fun _ _ n b z=>(by cases z),fun n b h0 h9 n' b' z=>(by cases z;exact⟨h0,h9⟩)⟩ (fun k s n b z=>absurd z (xA _ _ _ _ n b)) h1 h98 cells
theorem Cp {names rooms:List Str}{most low:Int}(h1:1<=most) (h98:most<=98) (cells:List Int):((aG (cW names rooms most low cells)).length:Int)<=cells.length * (most+most):=by
 rw[kq _ (nZ h1 h98 cells)]
 have:=vd (names:=names) (rooms:=rooms) (low:=low) gU Qk Qk (fun _=>⟨by simp[gU],by simp[gU]⟩) h1 h98 cells
 simpa[gU]using this
theorem Cs {names rooms:List Str}{most low:Int}(h1:1<=most) (h98:most<=98) (cells:List Int):((bn (cW names rooms most low cells)).length:Int)<=cells.length * most:=by
 rw[kr _ (nZ h1 h98 cells)]
 have:=vd (names:=names) (rooms:=rooms) (low:=low) ir Qk Qk (fun d=>by cases d<;>simp[ir,a8.moves]) h1 h98 cells
 simpa[ir]using this
theorem ve {names rooms:List Str}{most low:Int}(h1:1<=most) (h98:most<=98) (cells:List Int):∀q x,.get q x∈ah (cW names rooms most low cells)->q∈rooms:=fun q x h=>
 ki (Pd:=vH rooms) ⟨fun _ _ _ q x z=>(by cases z),fun _ _ q x z=>(by cases z),fun n b _ _ q x z=>(by cases z)⟩ (fun k s=>xF _ _ _ _) h1 h98 cells _ h q x rfl
end Tr
namespace Tr
open PySem PySem.Spec PyProof.Rows L2
theorem aT.app {H:Hp}:∀{us vs:List V}{a b:List Row},aT H us a->aT H vs b->aT H (us++vs) (a++b)
 |_,_,_,_,.nil,h=>h
 |_,_,_,_,.cons x r,h=>.cons x (aT.app r h)
theorem aT.reps {H:Hp}{us:List V}{rs:List Row}(h:aT H us rs):∀n:Nat,aT H (reps n us) (reps n rs)
 |0=>.nil
 |n+1=>by rw[fJ,fJ];exact h.app (aT.reps h n)
theorem RMs.app {H:Hp}:∀{us vs:List V}{a b:List (Str×Str)},RMs H us a->RMs H vs b->RMs H (us++vs) (a++b)
 |_,_,_,_,.nil,h=>h
 |_,_,_,_,.cons x r,h=>.cons x (RMs.app r h)
theorem bH.at {Pd:a8->Prop}{ds:List a8}{i:Nat}{d:a8}(h:bH Pd ds) (hi:ds[i]?=some d):bH Pd [d]:=fun e he=>h e (by
 rw[ah,ah,qx]at he
 exact(nJ hi).2 e he)
theorem bH.rep {Pd:a8->Prop}{n:Int}{b:List a8}(h:bH Pd [.rep n b]):Pd (.rep n b)/\bH Pd b:=
 ⟨h _ (by simp[ah,a8.flat]),fun e he=>h e (by simp[ah,a8.flat,he])⟩
theorem xh {i j:Int}(h0:0<=i) (h1:i<=99):IntMulOk i j:=oz.ok (.inl ⟨Qo,Qo⟩)
end Tr
namespace L2
open PySem PySem.Spec PyProof.Rows
section
variable {X:Cx}{CX:CXT}{k:Nat}{f C:Addr}{fd:FuncData}{ps:List Str}{sp:Sp}{E:XK}{x m:Str}{p pos apos:Pos}{e o:Expr}{es:List Expr}{t:TA}{te ta:TE}{ds:List Value}{dvs:List V}
end
theorem Cz {α:Type}{xs:List α}{i:Int}{v:α}(h:0<=i) (e:xs[i.toNat]?=some v):atI xs i=some v:=by
 have:=bp (xs:=xs) (j:=i.toNat) (v:=v) e
 rwa [Int.toNat_of_nonneg h]at this
def grow (H0 H H':Hp):Hp:=fun b=>match H b with
 |none=>H' b
 |some _=>H0 b
inductive iN (i:Nat) (σ:St) (H:Hp) (Q:VK):Prop
 |mk (v:V) (h:σ[i]?=some (some v)) (q:Q v H):iN i σ H Q
theorem yP (i:Nat):iN i=oP i:=by
 funext σ H Q
 exact propext ⟨fun⟨v,h,q⟩=>⟨v,h,q⟩,fun⟨v,h,q⟩=>⟨v,h,q⟩⟩
inductive qB (x:V) (H:Hp) (Q:Bool->Hp->Prop):Prop
 |mk (k:Bool) (h:x=.bl k) (q:Q k H):qB x H Q
theorem sL (Q:Bool->Hp->Prop):(fun x H=>qB x H Q)=fun x H=>∃k,x=V.bl k/\Q k H:=by
 funext x H
 exact propext ⟨fun⟨v,h,q⟩=>⟨v,h,q⟩,fun⟨v,h,q⟩=>⟨v,h,q⟩⟩
def hJ (t:TE):TT:=fun σ H Q=>t σ H fun x H'=>qB x H' Q
theorem yS (t:TE):hJ t=jc t:=by
 funext σ H Q
 unfold hJ jc
 rw[sL]
theorem yR (t:TE):hJ t=tB t:=by
 funext σ H Q
 unfold hJ tB
 rw[sL]
inductive sO (x y:V) (H:Hp) (Q:VK):Prop
 |mk (i j:Int) (h1:x=.int i) (h2:y=.int j) (q:Q (.int (i+j)) H):sO x y H Q
inductive sE (x y:V) (H:Hp) (Q:VK):Prop
 |mk (i j:Int) (h1:x=.int i) (h2:y=.int j) (q:Q (.int (i-j)) H):sE x y H Q
inductive sJ (x y:V) (H:Hp) (Q:VK):Prop
 |mk (i j:Int) (h1:x=.int i) (h2:y=.int j) (c:0<j/\j<1073741824) (q:Q (.int (i / j)) H):sJ x y H Q
inductive sH (x y:V) (H:Hp) (Q:VK):Prop
 |mk (i j:Int) (h1:x=.int i) (h2:y=.int j) (c:0<j) (q:Q (.int (i % j)) H):sH x y H Q
inductive qLt (x y:V) (H:Hp) (Q:VK):Prop
 |mk (i j:Int) (h1:x=.int i) (h2:y=.int j) (q:Q (.bl (decide (i<j))) H):qLt x y H Q
inductive qLe (x y:V) (H:Hp) (Q:VK):Prop
 |mk (i j:Int) (h1:x=.int i) (h2:y=.int j) (q:Q (.bl (decide (i<=j))) H):qLe x y H Q
inductive qGt (x y:V) (H:Hp) (Q:VK):Prop
 |mk (i j:Int) (h1:x=.int i) (h2:y=.int j) (q:Q (.bl (decide (j<i))) H):qGt x y H Q
inductive qGe (x y:V) (H:Hp) (Q:VK):Prop
 |mk (i j:Int) (h1:x=.int i) (h2:y=.int j) (q:Q (.bl (decide (j<=i))) H):qGe x y H Q
inductive qEq (x y:V) (H:Hp) (Q:VK):Prop
 |mk (c:iC x y=true) (q:Q (.bl (decide (x=y))) H):qEq x y H Q
inductive qNe (x y:V) (H:Hp) (Q:VK):Prop
 |mk (c:iC x y=true) (q:Q (.bl (!decide (x=y))) H):qNe x y H Q
inductive sF (x y:V) (H:Hp) (Q:VK):Prop
 |mk (c:y=.non) (q:Q (.bl (!decide (x=.non))) H):sF x y H Q
inductive mE (K:PySem.W.Frag) (x y:V) (H:Hp) (Q:VK):Prop
 |mk (p:Addr) (xs:List V) (i:Int) (v:V) (h1:x=.ref p) (h2:y=.int i) (h3:SqL K H p xs) (h4:atI xs i=some v) (q:Q v H):mE K x y H Q
inductive mD (K:PySem.W.Frag) (x y:V) (H:Hp) (Q:VK):Prop
 |mk (p:Addr) (xs:List V) (i:Int) (v:V) (h1:x=.ref p) (h2:y=.int i) (h3:SqT K H p xs) (h4:atI xs i=some v) (q:Q v H):mD K x y H Q
inductive sN (x y:V) (H:Hp) (Q:VK):Prop
 |mk (i j:Str) (h1:x=.str i) (h2:y=.str j) (c:i.length+j.length<=sizeLine) (q:Q (.str (i++j)) H):sN x y H Q
inductive sI (K:PySem.W.Frag) (xs:List V) (H:Hp) (Q:VK):Prop
 |mk (p:Addr) (ys:List V) (h1:xs=[.ref p]) (h2:SqL K H p ys\/SqT K H p ys) (q:Q (.int ys.length) H):sI K xs H Q
inductive mF (K:PySem.W.Frag) (xs:List V) (H:Hp) (Q:VK):Prop
 |mk (x:V) (t:Value) (T:String) (b:Bool) (h1:xs=[x,.ty T]) (h2:dy K H x t) (h3:PySem.W.kitOne K t (.type T)=some b) (q:Q (.bl b) H):mF K xs H Q
inductive mC (K:PySem.W.Frag) (xs:List V) (H:Hp) (Q:VK):Prop
 |mk (p:Addr) (ys:List V) (h1:xs=[.ref p]) (h2:SqL K H p ys\/SqT K H p ys) (q:∀l,H l=none->Q (.ref l) (upd H l (.lst ys))):mC K xs H Q
inductive sM (x:V) (vs:List V) (H:Hp) (Q:VK):Prop
 |mk (l:Addr) (xs:List V) (y:V) (h1:x=.ref l) (h2:vs=[y]) (h3:H l=some (.lst xs)) (h4:xs.length<sizeLine) (q:Q .non (upd H l (.lst (xs++[y])))):sM x vs H Q
inductive sK (K:PySem.W.Frag) (x y:V) (H:Hp) (Q:VK):Prop
 |mk (l b:Addr) (xs zs:List V) (h1:x=.ref l) (h2:y=.ref b) (h3:SqL K H l xs) (h4:SqL K H b zs) (h5:xs.length+zs.length<=sizeLine) (q:∀p,H p=none->Q (.ref p) (upd H p (.lst (xs++zs)))):sK K x y H Q
inductive iO (A B:Prop):Prop
 |mk (h:A) (q:B):iO A B
theorem mG (A B:Prop):iO A B=(A/\B):=propext ⟨fun⟨a,b⟩=>⟨a,b⟩,fun⟨a,b⟩=>⟨a,b⟩⟩
section
variable {X:Cx}
theorem pq (i:Nat) {x:Str}{pos:Pos}(hN:X.N[i]?=some x:=by rfl) (hv:Vis X.env.scope x:=by first|exact Or.inl rfl|exact Or.inr (Or.inl rfl)|exact Or.inr (Or.inr rfl)) (hd:(x == ("__debug__":Str))=false:=by decide)
 (hcd:(x == ("__classdict__":Str))=false:=by decide):PE X (.Name x pos) (iN i):=by
 rw[yP]
 exact zm hN hv hd hcd
theorem aA {op:CmpOp}{r:R2}{a b:Expr}{ta tb:TE}{pos:Pos}(ho:OpR X (compareOp op) r) (ha:PE X a ta) (hb:PE X b tb) (hm:behindInMarks op b=false):PT X (.Compare a [op] [b] pos) (hJ (tOp r ta tb)):=by
 rw[yS]
 exact yZ ho ha hb hm
theorem eU {e:Expr}{t:TE}(h:PE X e t) (he:∀whole,isTrue e X.env whole=(do let v <- whole;standAt e.pos;holding [v] (truthy v)):=by intro _;rfl):PT X e (hJ t):=by
 rw[yR]
 exact yY h he
theorem OpR.as {f:Value->Value->Sem Value}{r r':R2}(h:OpR X f r) (e:∀x y H Q,r' x y H Q->r x y H Q):OpR X f r':=fun pins s σ H x y v u Q I rx ry q=>h pins s σ H x y v u Q I rx ry (e _ _ _ _ q)
theorem cC.as {f:Value}{r r':List V->Hp->VK->Prop}(h:cC X f r) (e:∀x H Q,r' x H Q->r x H Q):cC X f r':=fun pins s σ H x u Q I rx q=>h pins s σ H x u Q I rx (e _ _ _ q)
theorem IxR.as {r r':R2}(h:IxR X r) (e:∀x y H Q,r' x y H Q->r x y H Q):IxR X r':=fun a b pins s σ H x y v u Q I rx ry q=>h a b pins s σ H x y v u Q I rx ry (e _ _ _ _ q)
theorem bQ:OpR X (binaryOp .Add) sO:=Av.as fun _ _ _ _ ⟨i,j,a,b,q⟩=>⟨i,j,a,b,q⟩
theorem iK:OpR X (binaryOp .Sub) sE:=An.as fun _ _ _ _ ⟨i,j,a,b,q⟩=>⟨i,j,a,b,q⟩
theorem cH:OpR X (binaryOp .FloorDiv) sJ:=Au.as fun _ _ _ _ ⟨i,j,a,b,c,q⟩=>⟨i,j,a,b,c,q⟩
theorem bg:OpR X (binaryOp .Mod) sH:=Ao.as fun _ _ _ _ ⟨i,j,a,b,c,q⟩=>⟨i,j,a,b,c,q⟩
theorem iL:OpR X (compareOp .Lt) qLt:=Ap.as fun _ _ _ _ ⟨i,j,a,b,q⟩=>⟨i,j,a,b,q⟩
theorem iM:OpR X (compareOp .LtE) qLe:=Aq.as fun _ _ _ _ ⟨i,j,a,b,q⟩=>⟨i,j,a,b,q⟩
theorem fN:OpR X (compareOp .Gt) qGt:=Ar.as fun _ _ _ _ ⟨i,j,a,b,q⟩=>⟨i,j,a,b,q⟩
theorem sD:OpR X (compareOp .GtE) qGe:=As.as fun _ _ _ _ ⟨i,j,a,b,q⟩=>⟨i,j,a,b,q⟩
theorem aX:OpR X (compareOp .Eq) qEq:=zM.as fun _ _ _ _ ⟨c,q⟩=>⟨c,q⟩
theorem iJ:OpR X (compareOp .NotEq) qNe:=zD.as fun _ _ _ _ ⟨c,q⟩=>⟨c,q⟩
theorem fL:OpR X (compareOp .IsNot) sF:=zC.as fun _ _ _ _ ⟨c,q⟩=>⟨c,q⟩
theorem gx:OpR X (binaryOp .Add) sN:=zO.as fun _ _ _ _ ⟨i,j,a,b,c,q⟩=>⟨i,j,a,b,c,q⟩
theorem hG:OpR X (binaryOp .Add) (sK X.K):=zN.as fun _ _ _ _ ⟨l,b,xs,zs,h1,h2,h3,h4,h5,q⟩=>⟨l,b,xs,zs,h1,h2,h3,h4,h5,q⟩
theorem aF:IxR X (mE X.K):=Bb.as fun _ _ _ _ ⟨p,xs,i,v,a,b,c,d,q⟩=>⟨p,xs,i,v,a,b,c,d,q⟩
theorem au:IxR X (mD X.K):=Ba.as fun _ _ _ _ ⟨p,xs,i,v,a,b,c,d,q⟩=>⟨p,xs,i,v,a,b,c,d,q⟩
theorem yL {K:PySem.W.Frag}(e:X.K=K):IxR X (mE K):=by
 subst e
 exact aF
theorem yK {K:PySem.W.Frag}(e:X.K=K):IxR X (mD K):=by
 subst e
 exact au
theorem c9:cC X (.builtin "len") (sI X.K):=Ci.as fun _ _ _ ⟨p,ys,a,b,q⟩=>⟨p,ys,a,b,q⟩
theorem fO:cC X (.builtin "isinstance") (mF X.K):=Cj.as fun _ _ _ ⟨x,t,T,b,h1,h2,h3,q⟩=>⟨x,t,T,b,h1,h2,h3,q⟩
theorem yO {K:PySem.W.Frag}(e:X.K=K):cC X (.builtin "isinstance") (mF K):=by
 subst e
 exact fO
theorem mn:cC X (.type "list") (mC X.K):=Cg.as fun _ _ _ ⟨p,ys,a,b,q⟩=>⟨p,ys,a,b,q⟩
theorem yN {K:PySem.W.Frag}(e:X.K=K):cC X (.type "list") (mC K):=by
 subst e
 exact mn
theorem ck:MtM X "list.append" sM:=fun pins s σ H x xs v us Q I rx rv ⟨l,ys,y,h1,h2,h3,h4,q⟩=>AF pins s σ H x xs v us Q I rx rv ⟨l,ys,y,h1,h2,h3,h4,q⟩
def mq (t:TA):TE:=fun σ H Q=>t σ H fun xs H1=>iO (xs.length<=sizeLine) (∀p,H1 p=none->Q (.ref p) (upd H1 p (.tup xs)))
def mB (t:TA):TE:=fun σ H Q=>t σ H fun xs H1=>iO (xs.length<=sizeLine) (∀p,H1 p=none->Q (.ref p) (upd H1 p (.lst xs)))
theorem yQ (t:TA):mq t=kx t:=by
 funext σ H Q
 unfold mq kx
 simp only[mG]
theorem yT (t:TA):mB t=kz t:=by
 funext σ H Q
 unfold mB kz
 simp only[mG]
theorem be {x1}{es:List Expr}{t:TA}{pos:Pos}(h:PA X es t):PE X (.Tuple es x1 pos) (mq t):=by
 rw[yQ]
 exact zn h
theorem bc {es:List Expr}{t:TA}{pos:Pos}(h:PA X es t):PE X (.List es pos) (mB t):=by
 rw[yT]
 exact zp h
inductive my (vs:List V) (H:Hp) (R:It->Hp->Prop):Prop
 |mk (j:Int) (h:vs=[.int j]) (h1:-(2 ^ 62)<=j) (h2:j<2 ^ 62) (q:R (Itr 0 j.toNat) H):my vs H R
def nw (ta:TA):TI:=fun σ H R=>ta σ H fun vs H1=>my vs H1 R
theorem B9 (ta:TA):nw ta=nE ta:=by
 funext σ H R
 unfold nw nE
 have:(fun vs H1=>my vs H1 R)=fun vs H1=>∃j:Int,vs=[V.int j]/\-(2 ^ 62)<=j/\j<2 ^ 62/\R (Itr 0 j.toNat) H1:=by
  funext vs H1
  exact propext ⟨fun⟨j,h,h1,h2,q⟩=>⟨j,h,h1,h2,q⟩,fun⟨j,h,h1,h2,q⟩=>⟨j,h,h1,h2,q⟩⟩
 rw[this]
theorem gy {tg a:Expr}{ta:TA}{p pos:Pos}(hg:Gl X "range") (hm:X.mg "range"=none) (ha:PA X [a] ta) (hs:starEach [a] X.env=[(false,eval a X.env)]:=by rfl):PI X tg (.Call (.Name "range" p) [a] [] pos) (nw ta):=by
 rw[B9]
 exact zj hg hm ha hs
def qBM (K:PySem.W.Frag) (T:String) (r:V->List V->Hp->VK->Prop) (to:TE) (t:TA):TE:=fun σ H Q=>to σ H fun x H1=>iO (tyV K T x H1) (t σ H1 fun xs H2=>r x xs H2 Q)
theorem yU (K:PySem.W.Frag) (T:String) (r:V->List V->Hp->VK->Prop) (to:TE) (t:TA):qBM K T r to t=tBM K T r to t:=by
 funext σ H Q
 unfold qBM tBM
 simp only[mG]
theorem bF {o e:Expr}{es:List Expr}{to:TE}{t:TA}{name:Str}{apos cpos:Pos}{T id:String}{r:V->List V->Hp->VK->Prop}(pa:PlainAttrs T) (slot:Slot T name id) (hty:typeOf (.builtin id)=pure (.type "method_descriptor")) (hm:MtR X id r) (ho:PE X o to) (ha:PA X (e::es) t)
 (hbase:attributeBase o name X.env (eval o X.env)=eval o X.env:=by rfl)
 (hfew:((backTo cpos (starEach (e::es) X.env)).all (fun x=>!x.1) && (backToKw cpos (keywordEach [] X.env)).all (fun x=>x.1.isSome)
  && decide ((e::es).length+([]:List Keyword).length+(if([]:List Keyword).isEmpty then 0 else 1)<30))=true:=by rfl)
 (hline:(apos.endLine == cpos.line)=true:=by rfl) (hs:starEach (e::es) X.env=(false,eval e X.env)::starEach es X.env:=by rfl) (hplain:(backTo cpos (starEach es X.env)).any (·.1)=false:=by rfl):
 PE X (.Call (.Attribute o name apos) (e::es) [] cpos) (qBM X.K T r to t):=by
 rw[yU]
 exact zx pa slot hty hm ho ha hbase hfew hline hs hplain
end
theorem Be {b:Bool}{σ:St}{i j:Nat}{H:Hp}{Q:VK}{x y:Int}(hx:σ[i]?=some (some (.int x))) (hy:σ[j]?=some (some (.int y))) (h:Q (.int (if b=true then x else y)) H):if b=true then iN i σ H Q else iN j σ H Q:=by
 cases b
 ·exact⟨_,hy,h⟩
 ·exact⟨_,hx,h⟩
section
variable {prog:Program}{w:World}{A:Around}{E:Qq}{s:Shared}
end
section
variable {X:Cx}{pins:List (Addr×Obj)}{σ:St}
end
section
variable {X:Cx}{pins:List (Addr×Obj)}{σ:St}{H:Hp}{s:Shared}{a:Addr}{kvs:List (Key×V)}{k:Key}{z:V}{u r:Value}{A:Around}{E:Qq}
theorem cB.not_got {o:Option V}(h:cB o none):o=none:=by
 cases o with
 |none=>rfl
 |some v=>exact h.elim
theorem cB.got {o:Option V}{u:Value}(h:cB o (some u)):∃v,o=some v/\ax v u:=by
 cases o with
 |none=>exact h.elim
 |some v=>exact⟨v,rfl,h⟩
theorem BU {Q:Qq}(I:Inv X pins σ H s) (e:H a=some (.dK kvs)) (ry:ax (kV k) u) (rz:ax z r) (few:kvs.length<sizeLine)
 (h1:∀v w' s',aK kvs k=some v->Inv X pins σ H s'->ax v w'->Q w' s') (h2:∀s',aK kvs k=none->Inv X pins σ (upd H a (.dK (bT kvs k z))) s'->Q r s'):
 wpAny (model X.prog X.w) A (call (.builtin "dict.setdefault") [.ref a,u,r]) Q E s:=by
 obtain⟨zz,hd,vs,rel,dd⟩:=ka I.hok e
 have hz:vs.length<=sizeLine:=by rw[<- rel.length];exact zz
 have hl:(bT kvs k z).length<=sizeLine:=by have:=eZ kvs k z;omega
 have rv:=rel.val k
 refine call_meetsIn PySem.F.slot_dict_setdefault dd.typeIs PySem.F.entry_dict_setdefault (PySem.F.args_dict_setdefault_3 _ _ _) (kt_meets_setdefault (cV X.prog X.w) a (g9 ry) hd r) ⟨vs,dd,hz,fun v' hv'=>?_,fun hn h' dd' hs=>?_⟩
 ·rw[hv']at rv
  obtain⟨v,e1,e2⟩:=cB.got rv
  exact h1 v v' _ e1 (I.tok _) e2
 ·rw[hn]at rv
  have he:∃q,h'.get? a=some q:=let ⟨q,_,_,hq,_⟩:=dd';⟨q,hq⟩
  exact h2 _ (cB.not_got rv) (kf I (by rw[e];exact True.intro) hs he (nN hl hd (rel.put k rz) dd'))
end
def wA (td ty tx:TE):TE:=fun σ H Q=>td σ H fun x H1=>∃a,x=.ref a/\IsD H1 a/\ty σ H1 fun y H2=>tx σ H2 fun z H3=>∃kvs k,H3 a=some (.dK kvs)/\y=kV k/\kvs.length<sizeLine /\
 (∀v,aK kvs k=some v->Q v H3)/\(aK kvs k=none->Q z (upd H3 a (.dK (bT kvs k z))))
section
variable {X:Cx}{o e f:Expr}{apos cpos:Pos}{td ty tx:TE}
theorem zt (ho:PE X o td) (he:PE X e ty) (hf:PE X f tx) (m:M2 X o "setdefault" apos e f cpos):PE X (.Call (.Attribute o "setdefault" apos) [e,f] [] cpos) (wA td ty tx):=by
 intro pins s σ H Q I h
 refine wpAny_Call_method m.base m.few m.line PySem.F.plainAttrs_dict PySem.F.slot_dict_setdefault PySem.F.type_dict_setdefault (thn (ho pins s σ H _ I h) fun u s1 ⟨x,H1,I1,rx,a,ex,d,q1⟩=>?_)
 subst ex
 obtain rfl:u=Value.ref a:=rx
 obtain⟨t1,t2,_⟩:=uh I1 d
 refine⟨t1,t2,?_⟩
 rw[m.trees]
 refine Calls.callWith_builtin rfl (Calls.evalArgs_plain (Calls.spliced_cons (thn (he pins s1 σ H1 _ I1 q1) fun iv s2 ⟨y,H2,I2,ry,q2⟩=>
  Calls.spliced_cons (thn (hf pins s2 σ H2 _ I2 q2) fun fv s3 ⟨z,H3,I3,rz,kvs,k,eH,ey,few,g1,g2⟩=>Calls.spliced_nil ?_))))
 subst ey
 exact BU I3 eH ry rz few (fun v w' s' ev I4 rw'=>⟨v,H3,I4,rw',g1 v ev⟩) fun s' en I4=>⟨z,_,I4,rz,g2 en⟩
end
theorem AL:typeLookup (.type "list") "keys"=pure none:=by rw[typeLookup_type,builtinLookup_eq_fast];kernel_rfl
section
variable {prog:Program}{w:World}{A:Around}{E:Qq}{s:Shared}
theorem AR {a:Addr}{xs:Array Value}{k:Nat}{sl:Array (Option Value)}{Q:Option Value->Shared->Prop}(hA:A.handled=none) (hx:s.heap.get? a=some { cls:=.type "list",dict:=none,data:=.seq xs k,slots:=sl })
 (h:∀h' tk,(∀b o,s.heap.get? b=some o->h'.get? b=some o)->Q none { s with heap:=h',toks:=tk }):wpAny (model prog w) A (getAttr? (.ref a) "keys") Q E s:=by
 obtain⟨hp,g,d,tk,os⟩:=s
 have hT:∀tk',(⟨hp,g,d,tk',os⟩:Shared).TypeIs (.ref a) "list":=fun _=>⟨_,hx,rfl⟩
 have f1:=sub_AttributeError
 have f3:=F.slot_list_getattribute.lookup
 have f4:=F.slot_list_getattribute.bind (.ref a)
 have f5:=am_list_getattr_none
 unfold getAttr? getAttrBy? getAttrBy
 repeat (any_goals (first|assumption|exact hT _|((with_reducible show wpAny _ _ (call (Value.builtin "list.__getattribute__") _ _) _ _ _);refine call_meets F.slot_list_getattribute (hT _) am_entry_list_getattribute (F.args_list_getattribute_2 _ _) (meets_getattribute_miss_list a xs k sl "keys" _ AL Qd) ⟨hx,hA,fun h' tk' e hx'=>?_⟩)|wp_step))
 obtain⟨t',u',he⟩:=hx'.there
 show wpAny _ _ (getattributeRaised _ _ _ _ _ _ _) _ _ _
 unfold getattributeRaised
 repeat (any_goals (first|assumption|wp_step))
 exact h _ _ hx'.keeps
end
theorem jH:plainId "dict.update.loop"=true:=Qd
theorem uC:entryFor table "dict.update.loop"=some Builtin.«dict.update.loop»:=entryFor_of_fast (by kernel_rfl)
def dD {K:Type} [DecidableEq K] (ps:List (K×Value)):List (K×Value):=ps.foldl (fun kvs p=>stored kvs p.1 p.2) []
theorem wR {K:Type} [DecidableEq K] (ps:List (K×Value)) (p:K×Value):dD (ps++[p])=stored (dD ps) p.1 p.2:=by
 unfold dD
 rw[List.foldl_append]
 rfl
section
variable {prog:Program}{w:World}{A:Around}{R:Result->Shared->Prop}{K:Type} [DecidableEq K] {knd:KeyKind prog w K}
def ja (knd:KeyKind prog w K) (h:Heap) (items:Array Value) (ps:List (K×Value)):Prop:=
 items.size=ps.length/\∀(i:Nat) (p:K×Value),ps[i]?=some p->∃t key,items[i]?=some (.ref t)/\h.IsTuple t #[key,p.2]/\knd.is p.1 key=true
theorem ja.keep {h h':Heap}{items:Array Value}{ps:List (K×Value)}(x:ja knd h items ps) (e:∀t o,h.get? t=some o->o.cls=.type "tuple"->h'.get? t=some o):ja knd h' items ps:=
 ⟨x.1,fun i p hp=>let ⟨t,key,a,b,c⟩:=x.2 i p hp;⟨t,key,a,(let ⟨o,e1,e2,r⟩:=b;⟨o,e t o e1 e2,e2,r⟩),c⟩⟩
theorem BN {it l d:Addr}{items:Array Value}{ps:List (K×Value)}{res:Value}(hh:A.handled=none) (nil':it≠l) (nid:it≠d) (nld:l≠d) (few:ps.length<=sizeLine)
 (small:∀qs,qs.length<=ps.length->(dD (qs:List (K×Value))).length<=qs.length):
 ∀(m i:Nat) (s:Shared) (tk:Tok),ps.length-i=m->i<=ps.length->s.heap.IsListIter it l i->s.heap.IsList l items->s.heap.DictOf knd d (dD (ps.take i))->ja knd s.heap items ps->
 (∀h' tk',(∀b o,b≠it->b≠d->s.heap.get? b=some o->h'.get? b=some o)->h'.DictOf knd d (dD ps)->R (.ok (.ret res)) { s with heap:=h',toks:=tk' })->
 codeAny (model prog w) A (.builtin "dict.update.loop" ⟨[.ref d,.ref it,.int i tk,res],[]⟩) R s:=by
 intro m
 induction m with
 |zero=>
  intro i s tk hm hi hit hl hd hp hR
  have e:i=ps.length:=Qo
  subst e
  rw[qH]at hd
  refine codeAny_builtin uC ?_
  rw[Around.under_plainId jH _]
  show wpAny _ A.in1 (pyNext (.ref it) >>= _) _ _ s
  refine q9 (wpAny_pyNext_list_end (by simpa using hh) hit hl (Array.getElem?_eq_none (by rw[hp.1];exact qf _)) fun h' ex=>?_)
  show wpAny _ _ (Builtin.Dict.addKeywords d [] >>= _) _ _ _
  refine q9 (qe (qe (hR h' s.toks (fun b o nb _ q=>ex b o nb q) ?_)))
  obtain⟨o,es,ep,ho,r⟩:=hd
  exact⟨o,es,ep,ex d o (Ne.symm nid) ho,r⟩
 |succ m ih=>
  intro i s tk hm hi hit hl hd hp hR
  have lt:i<ps.length:=Qo
  obtain⟨t,key,e1,e2,e3⟩:=hp.2 i ps[i] (qd lt)
  refine codeAny_builtin uC ?_
  rw[Around.under_plainId jH _]
  show wpAny _ A.in1 (pyNext (.ref it) >>= _) _ _ s
  refine q9 (wpAny_pyNext_list_item hit hl e1 fun h1 hit1 sb1=>?_)
  obtain⟨ot,et1,et2,nt,et3⟩:=e2
  have ntit:t≠it:=fun z=>by
   obtain⟨oi,q1,q2,_⟩:=hit
   rw[z,q1]at et1
   cases et1
   rw[q2]at et2
   exact absurd (Value.type.inj et2) Qk
  have ntd:t≠d:=fun z=>by
   obtain⟨od,q1,q2⟩:=(show s.TypeIs (.ref d) "dict" from hd.typeIs)
   rw[z,q1]at et1
   cases et1
   rw[q2]at et2
   exact absurd (Value.type.inj et2) Qk
  have et1':h1.get? t=some ot:=(sb1.2 t ntit).trans et1
  have hd1:h1.DictOf knd d (dD (ps.take i)):=hd.sameBut sb1 (Ne.symm nid)
  refine q9 (wpAny_holding (q9 (wpAny_tryCatch ?_)))
  unfold Builtin.Dict.pairItems
  refine q9 (wpAny_typeOf_ref et1' ?_)
  rw[et2]
  refine q9 (wpAny_seqItems et1' et3 (qe ?_))
  refine wpAny_holding (wpAny_dictSet_pairs e3 hd1 (fun h2 hd2 sb2=>?_) ?_)
  ·refine qe ⟨plainId_quiet jH _,ih (i+1) { s with heap:=h2,toks:=s.toks+1 } 0 Qo Qo ?_ ?_ ?_ ?_ fun h' tk' kp dd=>hR h' tk' (fun b o n1 n2 q=>kp b o n1 n2 ((sb2.2 b n2).trans ((sb1.2 b n1).trans q))) dd⟩
   ·obtain⟨o,q1,r⟩:=hit1
    exact⟨o,(sb2.2 it nid).trans q1,r⟩
   ·obtain⟨o,q1,r⟩:=hl
    exact⟨o,(sb2.2 l nld).trans ((sb1.2 l (Ne.symm nil')).trans q1),r⟩
   ·rw[qr,qd lt]
    show h2.DictOf knd d (dD (ps.take i++[ps[i]]))
    rw[wR]
    exact hd2
   ·refine hp.keep fun b o q1 q2=>?_
    have nb1:b≠it:=fun z=>by
     obtain⟨oi,r1,r2,_⟩:=hit
     rw[z,r1]at q1
     cases q1
     rw[r2]at q2
     exact absurd (Value.type.inj q2) Qk
    have nb2:b≠d:=fun z=>by
     obtain⟨od,r1,r2⟩:=(show s.TypeIs (.ref d) "dict" from hd.typeIs)
     rw[z,r1]at q1
     cases q1
     rw[r2]at q2
     exact absurd (Value.type.inj q2) Qk
    exact(sb2.2 b nb2).trans ((sb1.2 b nb1).trans q1)
  ·have h1:=small (ps.take i) (by rw[qK];omega)
   have h2:(ps.take i).length<=ps.length:=by rw[qK];omega
   omega
end
section
variable {prog:Program}{w:World}{A:Around}{E:Qq}{K:Type} [DecidableEq K] {knd:KeyKind prog w K}{s:Shared}
theorem BM {l:Addr}{xs:Array Value}{k:Nat}{sl:Array (Option Value)}{ps:List (K×Value)}{Q:Qq}(hh:A.handled=none) (hl:s.heap.get? l=some { cls:=.type "list",dict:=none,data:=.seq xs k,slots:=sl }) (hp:ja knd s.heap xs ps) (few:ps.length<=sizeLine)
 (small:∀qs,qs.length<=ps.length->(dD (qs:List (K×Value))).length<=qs.length)
 (h:∀h' tk,(∀b o,s.heap.get? b=some o->h'.get? b=some o)->h'.DictOf knd s.heap.objs.size (dD ps)->Q (.ref s.heap.objs.size) { s with heap:=h',toks:=tk }):
 wpAny (model prog w) A (call (.type "dict") [.ref l]) Q E s:=by
 refine callType_codes (Q₁:=fun obj s₁=>obj=.ref s.heap.objs.size/\s₁={ s with heap:=s.heap.push { cls:=.type "dict",data:=.dict #[] } }) PySem.F.kt_called_dict (PySem.F.kt_typeCall_dict_1 _) PySem.F.entry_dict_init (kt_code_dict_new _ ⟨rfl,rfl⟩) ?_
 rintro obj s₁ ⟨rfl,rfl⟩
 have hnew:(s.heap.push { cls:=.type "dict",data:=.dict #[] }).DictOf knd s.heap.objs.size []:=Heap.DictOf.new s.heap
 refine⟨hnew.typeIs,PySem.F.args_dict_init_2 _ _,?_⟩
 unfold Builtin.«dict.__init__»
 refine q9 ?_
 unfold Builtin.Dict.selfAndRest
 refine q9 (wpAny_notOrdered_dict hnew.typeIs ?_)
 show wpAny _ _ (pure (s.heap.objs.size,[Value.ref l])) _ _ _
 refine qe ?_
 show wpAny _ _ (Builtin.Dict.updateFrom "dict.__init__" s.heap.objs.size (.ref l) [] .none) _ _ _
 unfold Builtin.Dict.updateFrom
 have hl':(s.heap.push { cls:=.type "dict",data:=.dict #[] }).get? l=some { cls:=.type "list",dict:=none,data:=.seq xs k,slots:=sl }:=qb _ hl
 refine q9 (wpAny_typeOf_ref hl' ?_)
 rw[Q0 (show((Value.type "list":Value) != Value.type "dict")=true by decide)]
 refine q9 (AR (by simpa using hh) hl' fun h1 tk1 kp1=>?_)
 rw[Q0 (show(none:Option Value).isNone=true from rfl)]
 refine q9 (wpAny_rule ?_)
 have hl1:=kp1 _ _ hl'
 have hd1:h1.DictOf knd s.heap.objs.size []:=by
  obtain⟨o,es,ep,ho,r⟩:=hnew
  exact⟨o,es,ep,kp1 _ _ ho,r⟩
 refine q9 (wpAny_pyIter_list (items:=xs) ⟨_,hl1,rfl,_,rfl⟩ ?_)
 have nl:l≠s.heap.objs.size:=fun z=>absurd (qq hl) (by rw[z];exact Nat.lt_irrefl _)
 have sz:s.heap.objs.size<h1.objs.size:=by
  obtain⟨o,_,_,ho,_⟩:=hd1
  exact qq ho
 have nit:h1.objs.size≠l:=fun z=>absurd (qq hl1) (by rw[<- z];exact Nat.lt_irrefl _)
 refine qe ⟨plainId_quiet jH _,BN (knd:=knd) (items:=xs) (ps:=ps) (by simpa using hh) nit (Nat.ne_of_gt sz) nl few small ps.length 0 _ 0 (Nat.sub_zero _) (qt _) ?_ ?_ ?_ ?_ fun h' tk' kp dd=>?_⟩
 ·exact⟨_,qp _ rfl,rfl,rfl⟩
 ·exact⟨_,qb _ hl1,rfl,_,rfl⟩
 ·exact hd1.push _
 ·exact(hp.keep fun t o q _=>kp1 _ _ (qb _ q)).keep fun t o q _=>qb _ q
 ·refine⟨rfl,h h' tk' (fun b o q=>?_) dd⟩
  have lt:=qq q
  exact kp b o (qG (Nat.lt_trans lt sz)) (qG lt) (qb _ (kp1 _ _ (qb _ q)))
end
def da (ps:List (Key×V)):List (Key×V):=ps.foldl (fun kvs p=>bT kvs p.1 p.2) []
theorem yX (ps:List (Key×V)):(da ps).length<=ps.length:=by
 have:∀(ps kvs:List (Key×V)),(ps.foldl (fun kvs p=>bT kvs p.1 p.2) kvs).length<=kvs.length+ps.length:=by
  intro ps
  induction ps with
  |nil=>intro kvs;simp
  |cons p r ih=>
   intro kvs
   have h1:=ih (bT kvs p.1 p.2)
   have h2:=eZ kvs p.1 p.2
   rw[List.foldl_cons,qA]
   omega
 have:=this ps []
 simpa[da]using this
theorem wO {K:Type} [DecidableEq K] (kvs:List (K×Value)) (k:K) (v:Value):(stored kvs k v).length<=kvs.length+1:=by
 unfold stored
 split<;>simp
theorem wU {K:Type} [DecidableEq K] (qs:List (K×Value)):(dD qs).length<=qs.length:=by
 have:∀(ps kvs:List (K×Value)),(ps.foldl (fun kvs p=>stored kvs p.1 p.2) kvs).length<=kvs.length+ps.length:=by
  intro ps
  induction ps with
  |nil=>intro kvs;simp
  |cons p r ih=>
   intro kvs
   have h1:=ih (stored kvs p.1 p.2)
   have h2:=wO kvs p.1 p.2
   rw[List.foldl_cons,qA]
   omega
 have:=this qs []
 simpa[dD]using this
section
variable {X:Cx}{pins:List (Addr×Obj)}{σ:St}{H:Hp}{s:Shared}
def yH (K:PySem.W.Frag):List V->Hp->VK->Prop:=fun vs H Q=>∃l us ps,vs=[.ref l]/\H l=some (.lst us)/\us.length=ps.length/\ps.length<=sizeLine/\(∀(i:Nat) (p:Key×V),ps[i]?=some p->∃t,us[i]?=some (.ref t)/\H t=some (.tup [kV p.1,p.2]))/\∀d,H d=none->Q (.ref d) (upd H d (.dK (da ps)))
theorem sZ {h:Heap}(ok:HOk X.prog X.w H h):∀(us:List V) (its:List Value) (ps:List (Key×V)),av us its->us.length=ps.length->(∀(i:Nat) (p:Key×V),ps[i]?=some p->∃t,us[i]?=some (.ref t)/\H t=some (.tup [kV p.1,p.2]))->
 ∃qs:List (Key×Value),KV ps qs/\its.length=qs.length/\∀(i:Nat) (q:Key×Value),qs[i]?=some q->∃t key,its[i]?=some (.ref t)/\h.IsTuple t #[key,q.2]/\(cV X.prog X.w).is q.1 key=true
 |[],_,[],.nil,_,_=>⟨[],.nil,rfl,fun i q hq=>by simp at hq⟩
 |u::us,_,[],_,hl,_=>by simp at hl
 |[],_,p::ps,_,hl,_=>by simp at hl
 |u::us,_,p::ps,@Paired.cons _ _ _ _ y _ ys rx r,hl,hp=>by
  obtain⟨t,e1,e2⟩:=hp 0 p rfl
  obtain rfl:u=.ref t:=by simpa using e1
  obtain⟨qs,kv,ln,hq⟩:=sZ ok us ys ps r (by simpa using hl) fun i p' h'=>by
   obtain⟨t',a,b⟩:=hp (i+1) p' (by simpa using h')
   exact⟨t',by simpa using a,b⟩
  obtain⟨_,jts,rj,o,h1,h2,n,h3⟩:=(show bB X.prog X.w H h t (.tup [kV p.1,p.2])from ok t _ e2)
  obtain⟨k1,v1,rfl,r1,r2⟩:=iu rj
  cases rx
  refine⟨(p.1,v1)::qs,.cons ⟨rfl,r2⟩ kv,by simp[ln],fun i q h'=>?_⟩
  cases i with
  |zero=>
   have e:(p.1,v1)=q:=by simpa using h'
   subst e
   exact⟨t,k1,rfl,⟨o,h1,h2,n,h3⟩,g9 r1⟩
  |succ i=>exact hq i q (by simpa using h')
theorem KV.all:∀{ps:List (Key×V)}{qs:List (Key×Value)},KV ps qs->KV (da ps) (dD qs):=by
 have:∀{ps:List (Key×V)}{qs:List (Key×Value)},KV ps qs->∀{a:List (Key×V)}{b:List (Key×Value)},KV a b->KV (ps.foldl (fun kvs p=>bT kvs p.1 p.2) a) (qs.foldl (fun kvs p=>stored kvs p.1 p.2) b):=by
  intro ps qs h
  induction h with
  |nil=>intro a b h;exact h
  |cons hx _ ih=>
   intro a b h
   obtain⟨e1,e2⟩:=hx
   rw[List.foldl_cons,List.foldl_cons,<- e1]
   exact ih (h.put _ e2)
 intro ps qs h
 exact this h .nil
theorem Ck (hc:X.calm=true):cC X (.type "dict") (yH X.K):=by
 intro pins s σ H xs us Q I r h
 obtain⟨l,ys,ps,rfl,hl,ln,few,hp,q⟩:=h
 obtain⟨u,rfl,rx⟩:=eR r
 cases rx
 obtain⟨hz,its,c',r',e⟩:=(show bB X.prog X.w H s.heap l (.lst ys)from I.hok l _ hl)
 obtain⟨qs,kv,ln',hq⟩:=sZ I.hok ys its ps r' ln hp
 have kl:=kv.length
 refine BM (knd:=cV X.prog X.w) (ps:=qs) (I.ok.hd hc) e ⟨by simpa using ln',fun i p hp=>?_⟩ Qo (fun qs _=>wU qs) fun h' tk kp dd=>?_
 ·obtain⟨t,key,a,b,c⟩:=hq i p hp
  exact⟨t,key,by simpa using a,b,c⟩
 ·have len:=yX ps
  refine⟨.ref s.heap.objs.size,_,I.laid (t':=tk) kp (qf _) (nN Qo ?_ kv.all dd),rfl,q _ (I.hok.fresh (qf _))⟩
  exact(uF s.heap I.big:bB X.prog X.w H _ s.heap.objs.size (.dK [])).2.1
end
end L2
namespace Tr
open PySem PySem.Spec PyProof.Rows L2
abbrev sl (x:Str):List Nat:=x.cps.toList
theorem gn (x y:Str):sl (x++y)=sl x++sl y:=by
 show(x.cps++y.cps).toList=_
 simp
theorem xk (x:Str):x.length=(sl x).length:=rfl
theorem kM (x:Str) (l u:Option Int):sl (Txt.slice x l u)=((sl x).drop (HT.sIx x.length 0 l)).take (HT.sIx x.length x.length u-HT.sIx x.length 0 l):=by
 have e:Builtin.Str.strSliceIndices l u 1 x.length=(List.range (HT.sIx x.length x.length u-HT.sIx x.length 0 l)).map (HT.sIx x.length 0 l+·):=by
  rw[<- sliceRange_one]
  unfold Builtin.Str.strSliceIndices
  simp only[show(1:Int) > 0 by decide,if_true]
  congr 1
  ·cases l with
   |none=>rfl
   |some i=>
    simp only[HT.sIx]
    split<;>omega
  ·cases u with
   |none=>rfl
   |some i=>
    simp only[HT.sIx]
    split<;>omega
 unfold Txt.slice
 rw[e]
 split
 ·rename_i h
  simp only[qa,List.length_range,Bool.and_eq_true,beq_iff_eq]at h
  have h1:=HT.sIx_le x.length 0 (qt _) l
  have h2:=HT.sIx_le x.length x.length (qf _) u
  by_cases z:x.length=0
  ·have:sl x=[]:=List.length_eq_zero_iff.mp z
   rw[this]
   simp
  ·have a0:HT.sIx x.length 0 l=0:=by omega
   have b0:HT.sIx x.length x.length u=x.length:=Qo
   rw[a0,b0]
   simp only[List.drop_zero,Nat.sub_zero]
   exact(qH).symm
 ·show(((List.range _).map _).filterMap (x.cps[·]?)).toArray.toList=_
  rw[pick_run]
theorem kL {x:Str}{k:Int}(h:0<=k):sl (Txt.slice x none (some k))=(sl x).take k.toNat:=by
 obtain⟨n,rfl⟩:=Int.eq_ofNat_of_zero_le h
 rw[kM]
 simp only[HT.sIx_none,List.drop_zero,Nat.sub_zero]
 rw[show(some (n:Int))=some ((n:Nat):Int)from rfl,HT.sIx_nat]
 show _=(sl x).take n
 rw[List.take_eq_take_iff]
 show min (min n (sl x).length) _=_
 omega
theorem j6 {j:Int}(h1:0<=j) (h2:j<26):bX j=97+j.toNat:=by
 obtain⟨n,rfl⟩:=Int.eq_ofNat_of_zero_le h1
 have all:∀n:_root_.Fin 26,cK.cps.toList.getD n.1 0=97+n.1:=Qd
 exact all ⟨n,Qo⟩
theorem AZ:∀w∈kws,sl w=(sl w).dropLast++[(sl w).getLastD 97]/\2<=(sl w).length:=Qd
theorem rQ (w:Str):sl (cE w)=sl w\/(2<=(sl w).length/\sl (cE w)=(sl w).dropLast++[bX ((gE w+13) % 26)]):=by
 unfold cE
 split
 ·rename_i h
  obtain⟨e,h2⟩:=AZ w h
  refine .inr ⟨h2,?_⟩
  rw[gn,kM]
  simp only[HT.sIx_none,List.drop_zero,Nat.sub_zero]
  have:HT.sIx w.length w.length (some (-1))=(sl w).length-1:=by
   simp only[HT.sIx,show((-1:Int)<0)by decide,if_true]
   rw[xk]
   omega
  rw[this,List.dropLast_eq_take]
  rfl
 ·exact .inl rfl
theorem xc (w:Str):(sl (cE w)).length=(sl w).length:=by
 rcases rQ w with h|⟨h2,h⟩
 ·rw[h]
 ·rw[h,qc,List.length_dropLast,List.length_singleton]
  omega
theorem jg {w:Str}{p:Nat}{m:Int}(h1:0<=m) (h2:m<26) (e:(sl w)[p]?=some (bX m)):(sl (cE w))[p]?=some (bX m)\/(sl (cE w))[p]?=some (bX ((m+13) % 26)):=by
 rcases rQ w with h|⟨hl,h⟩
 ·rw[h];exact .inl e
 ·obtain⟨hp,ep⟩:=qg.mp e
  rw[h]
  by_cases q:p=(sl w).length-1
  ·refine .inr ?_
   have hlast:(sl w).getLastD 97=bX m:=by
    rw[<- ep,List.getLastD_eq_getLast?,List.getLast?_eq_getElem?,<- q,e,<- ep]
    rfl
   have:gE w=m:=by
    unfold gE
    show(((sl w).getLastD 97:Nat):Int)-97=m
    rw[hlast,j6 h1 h2]
    omega
   rw[this,qL (by rw[List.length_dropLast];omega),List.length_dropLast,show p-((sl w).length-1)=0 by omega]
   rfl
  ·refine .inl ?_
   rw[List.getElem?_append_left (by rw[List.length_dropLast];omega),List.getElem?_dropLast,Q0 Qo]
   exact e
theorem apart {q i j:Int}(hi:0<=i/\i<13) (hj:0<=j/\j<13) (ne:i≠j) {a b:Nat}(ha:a=bX ((q+i) % 26)\/a=bX (((q+i) % 26+13) % 26)) (hb:b=bX ((q+j) % 26)\/b=bX (((q+j) % 26+13) % 26)):a≠b:=by
 intro e
 have z1:=j6 (j:=(q+i) % 26) Qo Qo
 have z2:=j6 (j:=((q+i) % 26+13) % 26) Qo Qo
 have z3:=j6 (j:=(q+j) % 26) Qo Qo
 have z4:=j6 (j:=((q+j) % 26+13) % 26) Qo Qo
 rcases ha with rfl|rfl<;>rcases hb with rfl|rfl<;>omega
theorem tY (n:Int):∀k,(sl (ci n k)).length=k
 |0=>rfl
 |k+1=>by rw[ci,gn,qc,tY n k];rfl
theorem ze (c:Int) {i j:Nat}(hi:i<8) (hj:j<8) (ne:i≠j):cE (bR c i)≠cE (bR c j):=by
 intro e
 have e':=congrArg sl e
 have sg:∀k:Nat,sl (dQ c k)=[bX ((ar c 1 / 192+k) % 26)]:=fun _=>rfl
 have bl:(sl (bO c)).length=8:=tY _ 8
 by_cases h0:ar c 1 % 3=0
 ·have s1:1<=d6 c/\d6 c<=8:=by unfold d6;omega
  have a1:0<=cR c/\cR c<d6 c:=by
   unfold cR
   exact⟨Int.emod_nonneg _ Qo,Int.emod_lt_of_pos _ Qo⟩
  have at_:∀k:Nat,(sl (bR c k))[(cR c).toNat]?=some (bX ((ar c 1 / 192+k) % 26)):=fun k=>by
   unfold bR
   rw[Q0 h0,gn,gn,kL a1.1,sg,qN,qL (by rw[qK];omega),qK,bl,show(cR c).toNat-min (cR c).toNat 8=0 by omega]
   rfl
  have x:=jg Qo Qo (at_ i)
  have y:=jg Qo Qo (at_ j)
  rw[<- e']at y
  rcases x with x|x<;>rcases y with y|y<;>rw[x]at y<;>refine apart (q:=ar c 1 / 192) (i:=i) (j:=j) Qo Qo Qo ?_ ?_ (qJ y)<;>simp
 ·by_cases h1:ar c 1 % 3=1
  ·have ln:∀k:Nat,((sl (cE (bR c k))).length:Int)=1+(ar c 1 / 24+k) % 8:=fun k=>by
    rw[xc]
    unfold bR
    rw[qZ h0,Q0 h1,kL Qo,qK,bl]
    omega
   have x:=ln i
   have y:=ln j
   rw[e']at x
   omega
  ·have at_:∀k:Nat,(sl (bR c k))[0]?=some (bX ((ar c 1 / 192+k) % 26)):=fun k=>by
    unfold bR
    rw[qZ h0,qZ h1,kL Qo,gn,sg,List.getElem?_take,Q0 Qo]
    rfl
   have x:=jg Qo Qo (at_ i)
   have y:=jg Qo Qo (at_ j)
   rw[<- e']at y
   rcases x with x|x<;>rcases y with y|y<;>rw[x]at y<;>refine apart (q:=ar c 1 / 192) (i:=i) (j:=j) Qo Qo Qo ?_ ?_ (qJ y)<;>simp
theorem zd (c:Int) {n:Nat}(h:n<=8):(cq c n).Nodup:=by
 have up:(d5 c n).Nodup:=by
  unfold d5
  refine List.pairwise_map.mpr (List.Pairwise.imp_of_mem (fun{a b} ha hb lt=>?_) (List.pairwise_lt_range (n:=n)))
  have h1:=List.mem_range.mp ha
  have h2:=List.mem_range.mp hb
  exact ze c Qo Qo Qo
 unfold cq
 split
 ·exact List.pairwise_reverse.mpr (List.Pairwise.imp (fun h=>Ne.symm h) up)
 ·exact up
end Tr
namespace L2
open PySem PySem.Spec PyProof.Rows
section
variable {X:Cx}
theorem zI:OpR X (compareOp .In) (fun x y H Q=>∃a kvs k,y=.ref a/\H a=some (.dK kvs)/\x=kV k/\Q (.bl (aK kvs k).isSome) H):=by
 intro pins s σ H x y v u Q I rx ry h
 obtain⟨a,kvs,k,rfl,hd,rfl,q⟩:=h
 cases ry
 obtain⟨_,ne,vs,rel,dd⟩:=ka I.hok hd
 refine wpAny_in_of (g9 rx) ne dd.mapOf ⟨.bl _,H,I.tok _,?_,q⟩
 rw[<- (rel.val k).isSome_eq]
 rfl
theorem Bc:IxR X (fun x y H Q=>∃a kvs k v,x=.ref a/\H a=some (.dK kvs)/\y=kV k/\aK kvs k=some v/\Q v H):=by
 intro value slice pins s σ H x y v u Q I rx ry h hs
 obtain⟨a,kvs,k,z,rfl,hd,rfl,e,q⟩:=h
 cases rx
 obtain⟨_,ne,vs,rel,dd⟩:=ka I.hok hd
 obtain⟨w',hw,rw'⟩:=cB.some_of (v:=z) (o:=valueAt vs k) (by rw[<- e];exact rel.val k)
 exact tail_any dd.typeIs PySem.F.slot_dict_getitem.lookup (wpAny_getItem_of (g9 ry) dd.mapOf hw ⟨z,H,I.tok _,rw',q⟩) hs
end
end L2
namespace Tr
open PySem PySem.Spec PyProof.Rows L2
abbrev Wat:=Int×Str×Str
abbrev eQ (e:Wat):HO:=.tup [.int e.1,.str e.2.1,.str e.2.2]
inductive RWs (H:Hp):List V->List Wat->Prop
 |nil:RWs H [] []
 |cons {p:Addr}{vs:List V}{e:Wat}{es:List Wat}:H p=some (eQ e)->RWs H vs es->RWs H (.ref p::vs) (e::es)
theorem RWs.same {H H':Hp}(s:a9 H H'):∀{vs:List V}{es:List Wat},RWs H vs es->RWs H' vs es
 |_,_,.nil=>.nil
 |_,_,.cons h r=>.cons (s _ _ h) (RWs.same s r)
theorem RWs.snoc {H:Hp}{p:Addr}{e:Wat}(h:H p=some (eQ e)):∀{vs:List V}{es:List Wat},RWs H vs es->RWs H (vs++[.ref p]) (es++[e])
 |_,_,.nil=>.cons h .nil
 |_,_,.cons h' r=>.cons h' (RWs.snoc h r)
theorem RWs.app {H:Hp}{us:List V}{fs:List Wat}(h:RWs H us fs):∀{vs:List V}{es:List Wat},RWs H vs es->RWs H (vs++us) (es++fs)
 |_,_,.nil=>h
 |_,_,.cons h' r=>.cons h' (RWs.app h r)
theorem RWs.len {H:Hp}:∀{vs:List V}{es:List Wat},RWs H vs es->vs.length=es.length
 |_,_,.nil=>rfl
 |_,_,.cons _ t=>congrArg (·+1) (RWs.len t)
theorem RWs.off {H:Hp}{c:Addr}{xs:List V}{o:HO}(hc:H c=some (.lst xs)):∀{vs:List V}{es:List Wat},RWs H vs es->RWs (upd H c o) vs es
 |_,_,.nil=>.nil
 |_,_,.cons (p:=p) h r=>.cons (by rw[af (fun z=>by rw[z,hc]at h;cases h)];exact h) (RWs.off hc r)
def dX (ow:Str->Option Int) (kd:Str) (cs:List Str):List Wat:=cs.filterMap fun c=>(ow c).map fun n=>(n,kd,c)
theorem Cm (ow:Str->Option Int) (kd c:Str) (cs:List Str):dX ow kd (cs++[c])=dX ow kd cs++((ow c).map fun n=>(n,kd,c)).toList:=by
 unfold dX
 rw[List.filterMap_append,List.filterMap_cons,List.filterMap_nil]
 cases ow c<;>rfl
theorem gO (ow:Str->Option Int) (kd:Str) (cs:List Str):(dX ow kd cs).length<=cs.length:=List.length_filterMap_le _ _
def ii (kvs:List (Key×V)) (ow:Str->Option Int):Prop:=∀c:Str,aK kvs (.inr c)=(ow c).map V.int
inductive RWL (H:Hp):List V->List (List Wat)->Prop
 |nil:RWL H [] []
 |cons {p:Addr}{us vs:List V}{es:List Wat}{ws:List (List Wat)}:H p=some (.lst us)->RWs H us es->RWL H vs ws->RWL H (.ref p::vs) (es::ws)
theorem RWL.same {H H':Hp}(s:a9 H H'):∀{vs:List V}{ws:List (List Wat)},RWL H vs ws->RWL H' vs ws
 |_,_,.nil=>.nil
 |_,_,.cons h h' r=>.cons (s _ _ h) (h'.same s) (RWL.same s r)
theorem RWL.snoc {H:Hp}{p:Addr}{us:List V}{es:List Wat}(h:H p=some (.lst us)) (h':RWs H us es):∀{vs:List V}{ws:List (List Wat)},RWL H vs ws->RWL H (vs++[.ref p]) (ws++[es])
 |_,_,.nil=>.cons h h' .nil
 |_,_,.cons a b r=>.cons a b (RWL.snoc h h' r)
theorem RWL.len {H:Hp}:∀{vs:List V}{ws:List (List Wat)},RWL H vs ws->vs.length=ws.length
 |_,_,.nil=>rfl
 |_,_,.cons _ _ t=>congrArg (·+1) (RWL.len t)
def cj (rs:List Row) (c:Str):Option Int:=rs.zipIdx.foldl (fun o p=>if c∈p.1.owns then some (p.2:Int)else o) none
theorem ua (rs:List Row) (r:Row) (c:Str):cj (rs++[r]) c=if c∈r.owns then some (rs.length:Int)else cj rs c:=by
 unfold cj
 rw[List.zipIdx_append,List.foldl_append]
 simp
def fj (rs:List Row) (r:Row):List Wat:=dX (cj rs) "card" r.owns++dX (cj rs) "copy" r.reads
def cF (rs:List Row):Nat->List (List Wat)
 |0=>[]
 |i+1=>cF rs i++((rs[i]?).map fun r=>fj (rs.take i) r).toList
theorem RWL.off {H:Hp}{c:Addr}{xs:List V}{o:HO}(hc:H c=some (.lst xs)):∀{vs:List V}{ws:List (List Wat)},RWL H vs ws->(∀v∈vs,v≠.ref c)->RWL (upd H c o) vs ws
 |_,_,.nil,_=>.nil
 |_,_,.cons (p:=p) h h' r,ne=>.cons (by rw[af (fun z=>ne (.ref p) qo (by rw[z]))];exact h) (h'.off hc) (RWL.off hc r fun v hv=>ne v (ql _ hv))
theorem RWs.offD {H:Hp}{c:Addr}{kvs:List (Key×V)}{o:HO}(hc:H c=some (.dK kvs)):∀{vs:List V}{es:List Wat},RWs H vs es->RWs (upd H c o) vs es
 |_,_,.nil=>.nil
 |_,_,.cons (p:=p) h r=>.cons (by rw[af (fun z=>by rw[z,hc]at h;cases h)];exact h) (RWs.offD hc r)
theorem RWL.offD {H:Hp}{c:Addr}{kvs:List (Key×V)}{o:HO}(hc:H c=some (.dK kvs)):∀{vs:List V}{ws:List (List Wat)},RWL H vs ws->RWL (upd H c o) vs ws
 |_,_,.nil=>.nil
 |_,_,.cons (p:=p) h h' r=>.cons (by rw[af (fun z=>by rw[z,hc]at h;cases h)];exact h) (h'.offD hc) (RWL.offD hc r)
theorem j7 (rs:List Row):∀i,i<=rs.length->(cF rs i).length=i
 |0,_=>rfl
 |i+1,h=>by rw[cF,qc,j7 rs i Qo,qd Qo];rfl
def iV (ow:Str->Option Int) (n:Int) (cs:List Str):Str->Option Int:=fun c=>if c∈cs then some n else ow c
theorem ii.put {kvs:List (Key×V)}{ow:Str->Option Int}{n:Int}{cs:List Str}{c:Str}(h:ii kvs (iV ow n cs)):ii (bT kvs (.inr c) (.int n)) (iV ow n (cs++[c])):=fun q=>by
 rw[fq]
 unfold iV
 by_cases e:q=c
 ·subst e
  rw[Q0 rfl,Q0 (by simp)]
  rfl
 ·rw[qZ (fun z=>e (Sum.inr.inj z)),h q]
  unfold iV
  by_cases m:q∈cs
  ·rw[Q0 m,Q0 (by simp[m])]
  ·rw[qZ m,qZ (by simp[m,e])]
def ap (f:Row->Option Str) (rs:List Row) (q:Str):List Int:=rs.zipIdx.filterMap fun p=>if f p.1=some q then some (p.2:Int)else none
theorem jN (f:Row->Option Str) (rs:List Row) (r:Row) (q:Str):ap f (rs++[r]) q=ap f rs q++(if f r=some q then[(rs.length:Int)]else[]):=by
 unfold ap
 rw[List.zipIdx_append,List.filterMap_append]
 congr 1
 by_cases h:f r=some q<;>simp[h]
theorem tI (f:Row->Option Str) (rs:List Row) (q:Str):(ap f rs q).length<=rs.length:=by
 unfold ap
 refine qy (List.length_filterMap_le _ _) ?_
 rw[List.length_zipIdx]
 exact qf _
structure RN (H:Hp) (kvs:List (Key×V)) (m:Str->List Int):Prop where
 at_:∀q:Str,(aK kvs (.inr q)=none/\m q=[])\/∃p,aK kvs (.inr q)=some (.ref p)/\H p=some (.lst ((m q).map V.int))
 one:∀(q q':Str) (p:Addr),aK kvs (.inr q)=some (.ref p)->aK kvs (.inr q')=some (.ref p)->q=q'
theorem RN.same {H H':Hp}{kvs:List (Key×V)}{m:Str->List Int}(s:a9 H H') (h:RN H kvs m):RN H' kvs m:=
 ⟨fun q=>(h.at_ q).imp id fun⟨p,a,b⟩=>⟨p,a,s _ _ b⟩,h.one⟩
theorem RN.eq {H:Hp}{kvs:List (Key×V)}{m m':Str->List Int}(h:RN H kvs m) (e:∀q,m' q=m q):RN H kvs m':=
 ⟨fun q=>by rw[e q];exact h.at_ q,h.one⟩
theorem RN.old {H:Hp}{kvs:List (Key×V)}{m m':Str->List Int}{q:Str}{p:Addr}{n:Int}(h:RN H kvs m) (hv:aK kvs (.inr q)=some (.ref p)) (e:m' q=m q++[n]) (e':∀q',q'≠q->m' q'=m q'):RN (upd H p (.lst ((m q).map V.int++[.int n]))) kvs m':=by
 refine⟨fun q'=>?_,h.one⟩
 by_cases z:q'=q
 ·subst z
  refine .inr ⟨p,hv,?_⟩
  rw[ag,e,qO]
  rfl
 ·rw[e' q' z]
  rcases h.at_ q' with a|⟨p',a,b⟩
  ·exact .inl a
  ·refine .inr ⟨p',a,?_⟩
   rw[af (fun y=>z (h.one q' q p (by rw[a,y]) hv))]
   exact b
theorem RN.new {H:Hp}{kvs:List (Key×V)}{m m':Str->List Int}{q:Str}{d l:Addr}{n:Int}{o:HO}(h:RN H kvs m) (hd:H d=some (.dK kvs)) (hl:H l=none) (hv:aK kvs (.inr q)=none) (e:m' q=[n]) (e':∀q',q'≠q->m' q'=m q'):RN (upd (upd (upd H l o) d (.dK (bT kvs (.inr q) (.ref l)))) l (.lst [.int n])) (bT kvs (.inr q) (.ref l)) m':=by
 have val:∀q':Str,aK (bT kvs (.inr q) (.ref l)) (.inr q')=if q'=q then some (.ref l)else aK kvs (.inr q'):=fun q'=>by
  rw[fq]
  by_cases z:q'=q
  ·rw[Q0 z,Q0 (by rw[z])]
  ·rw[qZ z,qZ (fun y=>z (Sum.inr.inj y))]
 have old:∀(q':Str) (p:Addr),aK kvs (.inr q')=some (.ref p)->p≠l:=fun q' p hp z=>by
  rcases h.at_ q' with⟨a,_⟩|⟨p',a,b⟩
  ·rw[a]at hp;cases hp
  ·rw[a]at hp
   cases hp
   rw[z,hl]at b
   cases b
 refine⟨fun q'=>?_,fun q1 q2 p h1 h2=>?_⟩
 ·rw[val]
  by_cases z:q'=q
  ·rw[Q0 z,z,e]
   exact .inr ⟨l,rfl,ag⟩
  ·rw[qZ z,e' q' z]
   rcases h.at_ q' with a|⟨p',a,b⟩
   ·exact .inl a
   ·refine .inr ⟨p',a,?_⟩
    have nl:=old q' p' a
    have nd:p'≠d:=fun y=>by rw[y,hd]at b;cases b
    rw[af nl,af nd,af nl]
    exact b
 ·rw[val]at h1 h2
  by_cases z1:q1=q<;>by_cases z2:q2=q
  ·rw[z1,z2]
  ·rw[Q0 z1]at h1
   rw[qZ z2]at h2
   cases h1
   exact absurd rfl (old _ _ h2)
  ·rw[qZ z1]at h1
   rw[Q0 z2]at h2
   cases h2
   exact absurd rfl (old _ _ h1)
  ·rw[qZ z1]at h1
   rw[qZ z2]at h2
   exact h.one _ _ _ h1 h2
def eP (W:List (List Wat)) (i:Nat) (e:Wat):List (List Wat):=W.modify i (·++[e])
theorem oo (W:List (List Wat)) (i:Nat) (e:Wat):(eP W i e).length=W.length:=List.length_modify ..
theorem kj (W:List (List Wat)) (i j:Nat) (e:Wat):(eP W i e)[j]?=(W[j]?).map fun es=>if i=j then es++[e]else es:=by
 unfold eP
 rw[List.getElem?_modify]
 by_cases h:i=j
 ·simp[h]
 ·simp[h]
structure RWM (H:Hp) (as:List Addr) (W:List (List Wat)):Prop where
 nd:as.Nodup
 len:as.length=W.length
 at_:∀(i:Nat) (p:Addr) (es:List Wat),as[i]?=some p->W[i]?=some es->∃us,H p=some (.lst us)/\RWs H us es
theorem RWM.same {H H':Hp}{as:List Addr}{W:List (List Wat)}(s:a9 H H') (h:RWM H as W):RWM H' as W:=
 ⟨h.nd,h.len,fun i p es a b=>let ⟨us,c,d⟩:=h.at_ i p es a b;⟨us,s _ _ c,d.same s⟩⟩
theorem RWM.lists {H:Hp}:∀{as:List Addr}{W:List (List Wat)},as.length=W.length->(∀(i:Nat) (p:Addr) (es:List Wat),as[i]?=some p->W[i]?=some es->∃us,H p=some (.lst us)/\RWs H us es)->RWL H (as.map V.ref) W
 |[],[],_,_=>.nil
 |[],_::_,h,_=>by simp at h
 |_::_,[],h,_=>by simp at h
 |p::as,es::W,h,g=>by
  obtain⟨us,a,b⟩:=g 0 p es rfl rfl
  exact .cons a b (RWM.lists (by simpa using h) fun i p' es' x y=>g (i+1) p' es' (by simpa using x) (by simpa using y))
theorem RWM.rwl {H:Hp}{as:List Addr}{W:List (List Wat)}(h:RWM H as W):RWL H (as.map V.ref) W:=RWM.lists h.len h.at_
theorem RWM.add {H:Hp}{as:List Addr}{W:List (List Wat)}{n:Nat}{p t:Addr}{us:List V}{e:Wat}(h:RWM H as W) (hp:as[n]?=some p) (hu:H p=some (.lst us)) (ht:H t=some (eQ e)):RWM (upd H p (.lst (us++[.ref t]))) as (eP W n e):=by
 refine⟨h.nd,by rw[oo];exact h.len,fun i p' es hi hw=>?_⟩
 rw[kj]at hw
 cases ew:W[i]? with
 |none=>rw[ew]at hw;cases hw
 |some es0=>
  rw[ew]at hw
  obtain⟨us',a,b⟩:=h.at_ i p' es0 hi ew
  by_cases z:n=i
  ·subst z
   rw[hp]at hi
   cases hi
   rw[hu]at a
   cases a
   have:es0++[e]=es:=by simpa using hw
   subst this
   exact⟨_,ag,(b.off hu).snoc (by rw[af (fun y=>by rw[y,hu]at ht;cases ht)];exact ht)⟩
  ·have:es0=es:=by simpa[z]using hw
   subst this
   have np:p'≠p:=fun y=>z (by
    obtain⟨l1,e1⟩:=qg.mp hp
    obtain⟨l2,e2⟩:=qg.mp hi
    exact(List.getElem_inj h.nd).mp (by rw[e1,e2,y]))
   exact⟨us',by rw[af np];exact a,b.off hu⟩
def Sm (W:List (List Wat)) (n:Nat):Prop:=∀(i:Nat) (es:List Wat),W[i]?=some es->es.length<=n
theorem Sm.add {W:List (List Wat)}{n i:Nat}{e:Wat}(h:Sm W n):Sm (eP W i e) (n+1):=fun j es hj=>by
 rw[kj]at hj
 cases ew:W[j]? with
 |none=>rw[ew]at hj;cases hj
 |some es0=>
  rw[ew]at hj
  have:=h j es0 ew
  have e2:(if i=j then es0++[e]else es0)=es:=by simpa using hj
  rw[<- e2]
  split
  ·rw[qc,List.length_singleton];omega
  ·omega
theorem Sm.mono {W:List (List Wat)}{n m:Nat}(h:Sm W n) (l:n<=m):Sm W m:=fun i es a=>qy (h i es a) l
def dB (q:Str) (ps gs:List Int) (W:List (List Wat)):Nat->List (List Wat)
 |0=>W
 |k+1=>eP (dB q ps gs W k) (gs.getD k 0).toNat (ps.getD k 0,"thing",q)
def awaited (n:Nat) (gs:List Int) (k:Nat):Int:=if k<gs.length then gs.getD k 0 else(n:Int)-1
def dk (q:Str) (n:Nat) (cs gs:List Int) (W:List (List Wat)):Nat->List (List Wat)
 |0=>W
 |k+1=>eP (dk q n cs gs W k) (cs.getD k 0).toNat (awaited n gs k,"room",q)
def gP (rs:List Row) (s:Str×Int) (W:List (List Wat)):List (List Wat):=
 dk s.1 rs.length ((ap Row.into rs s.1).drop s.2.toNat) (ap Row.outof rs s.1) (dB s.1 (ap Row.into rs s.1) (ap Row.outof rs s.1) W (min (ap Row.into rs s.1).length (ap Row.outof rs s.1).length)) ((ap Row.into rs s.1).drop s.2.toNat).length
def cX (rs:List Row) (ss:List (Str×Int)) (W:List (List Wat)):Nat->List (List Wat)
 |0=>W
 |j+1=>gP rs (ss.getD j ("",0)) (cX rs ss W j)
theorem jO {f:Row->Option Str}{rs:List Row}{q:Str}{k:Nat}{n:Int}(h:(ap f rs q)[k]?=some n):0<=n/\n.toNat<rs.length/\∃r,rs[n.toNat]?=some r/\f r=some q:=by
 have m:=qz h
 unfold ap at m
 obtain⟨⟨r,i⟩,hi,e⟩:=List.mem_filterMap.mp m
 by_cases z:f r=some q
 ·have e':(i:Int)=n:=by simpa[z]using e
  subst e'
  have:=List.mem_zipIdx_iff_getElem?.mp hi
  exact⟨Qo,(qg.mp this).1,r,this,z⟩
 ·simp[z]at e
theorem RWL.at {H:Hp}:∀{vs:List V}{ws:List (List Wat)},RWL H vs ws->∀(i:Nat) (v:V),vs[i]?=some v->∃p us es,v=.ref p/\H p=some (.lst us)/\RWs H us es/\ws[i]?=some es
 |_,_,.nil,i,v,h=>by simp at h
 |_,_,.cons (p:=p) (us:=us) (es:=es) a b r,0,v,h=>⟨p,us,es,by simpa using h.symm,a,b,rfl⟩
 |_,_,.cons _ _ r,i+1,v,h=>RWL.at r i v (by simpa using h)
theorem RWM.push {H:Hp}{as:List Addr}{W:List (List Wat)}{l:Addr}{us:List V}{es:List Wat}(h:RWM H as W) (hl:H l=none) (w:RWs H us es):RWM (upd H l (.lst us)) (as++[l]) (W++[es]):=by
 have s:a9 H (upd H l (.lst us)):=a9.new hl _
 have old:l∉as:=fun m=>by
  obtain⟨i,hi,e⟩:=List.mem_iff_getElem.mp m
  have hiw:i<W.length:=by rw[<- h.len];exact hi
  obtain⟨us',c,_⟩:=h.at_ i l W[i] (by rw[qd hi,e]) (qd hiw)
  rw[hl]at c
  cases c
 refine⟨List.nodup_append.mpr ⟨h.nd,by simp,fun a ha b hb z=>?_⟩,by simp[h.len],fun i p es' hi hw=>?_⟩
 ·rw[qS.mp hb]at z
  exact old (z▸ha)
 ·by_cases lt:i<as.length
  ·rw[List.getElem?_append_left lt]at hi
   rw[List.getElem?_append_left (by rw[<- h.len];exact lt)]at hw
   exact(h.same s).at_ i p es' hi hw
  ·have:i=as.length:=by
    have:=(qg.mp hi).1
    simp at this
    omega
   subst this
   rw[qL (qf _),Nat.sub_self]at hi
   rw[h.len,qL (qf _),Nat.sub_self]at hw
   cases hi
   cases hw
   exact⟨us,ag,w.same s⟩
theorem RWM.there {H:Hp}{as:List Addr}{W:List (List Wat)}{p:Addr}(h:RWM H as W) (m:p∈as):∃us,H p=some (.lst us):=by
 obtain⟨i,hi,e⟩:=List.mem_iff_getElem.mp m
 have hiw:i<W.length:=by rw[<- h.len];exact hi
 obtain⟨us',c,_⟩:=h.at_ i p W[i] (by rw[qd hi,e]) (qd hiw)
 exact⟨us',c⟩
def cy (as:List Addr) (H:Hp):Hp:=fun a=>if a∈as then none else H a
theorem uM (as:List Addr) (H:Hp):a9 (cy as H) H:=fun a o h=>by
 unfold cy at h
 split at h
 ·cases h
 ·exact h
theorem gJ {as:List Addr}{H:Hp}{a:Addr}{o:HO}(h:H a=some o) (n:a∉as):cy as H a=some o:=by
 unfold cy
 rw[qZ n]
 exact h
theorem uO {as:List Addr}{H:Hp}{a:Addr}(m:a∈as):cy as H a=none:=Q0 m
theorem uN {as:List Addr}{H0 H:Hp}(s:a9 H0 H) (f:∀p∈as,H0 p=none):a9 H0 (cy as H):=fun a o h=>gJ (s _ _ h) fun m=>by rw[f a m]at h;cases h
theorem RN.cut {as:List Addr}{H:Hp}{kvs:List (Key×V)}{m:Str->List Int}(h:RN H kvs m) (f:∀(q:Str) (p:Addr),aK kvs (.inr q)=some (.ref p)->p∉as):RN (cy as H) kvs m:=
 ⟨fun q=>(h.at_ q).imp id fun⟨p,a,b⟩=>⟨p,a,gJ b (f q p a)⟩,h.one⟩
theorem C1 (xs:List Int) {n:Int}(h:0<=n):eO (xs.map V.int) (some n) none=(xs.drop n.toNat).map V.int:=by
 obtain⟨k,rfl⟩:=Int.eq_ofNat_of_zero_le h
 unfold eO
 rw[HT.sIx_none,show(some ((k:Nat):Int))=some ((k:Nat):Int)from rfl,HT.sIx_nat,qa,qX,<- List.map_drop,<- List.map_take]
 congr 1
 by_cases z:k<=xs.length
 ·rw[Nat.min_eq_left z,List.take_of_length_le (by rw[qY];omega)]
 ·rw[Nat.min_eq_right Qo,List.drop_of_length_le (qf _),List.drop_of_length_le Qo]
  simp
theorem om {rs:List Row}(small:∀r∈rs,r.owns.length<=4000/\r.reads.length<=4000):∀n,Sm (cF rs n) 8000
 |0=>fun i es h=>by simp[cF]at h
 |n+1=>fun i es h=>by
  rw[cF]at h
  cases e:rs[n]? with
  |none=>rw[e]at h;exact om small n i es (by simpa using h)
  |some r=>
   rw[e]at h
   by_cases lt:i<(cF rs n).length
   ·rw[List.getElem?_append_left lt]at h
    exact om small n i es h
   ·rw[qL Qo]at h
    have:es=fj (rs.take n) r:=by
     cases ei:i-(cF rs n).length with
     |zero=>rw[ei]at h;simpa using h.symm
     |succ m=>rw[ei]at h;simp at h
    subst this
    obtain⟨a,b⟩:=small r (qz e)
    have h1:=gO (cj (rs.take n)) "card" r.owns
    have h2:=gO (cj (rs.take n)) "copy" r.reads
    unfold fj
    rw[qc]
    omega
theorem tG (f:Row->Option Str) (a:List Row) (r:Row) (b:List Row) (q:Str):∃hi:List Int,(∀x∈hi,(a.length:Int)<x)/\(∀x∈ap f a q,0<=x/\x<(a.length:Int))/\ap f (a++r::b) q=ap f a q++((if f r=some q then[(a.length:Int)]else[])++hi):=by
 refine⟨(b.zipIdx (a.length+1)).filterMap fun p=>if f p.1=some q then some (p.2:Int)else none,fun x hx=>?_,fun x hx=>?_,?_⟩
 ·obtain⟨⟨r',i⟩,hi,e⟩:=List.mem_filterMap.mp hx
  have:=(List.mem_zipIdx hi).1
  by_cases z:f r'=some q
  ·have e':(i:Int)=x:=by simpa[z]using e
   omega
  ·simp[z]at e
 ·obtain⟨k,hk⟩:=List.getElem?_of_mem hx
  obtain⟨h1,h2,_⟩:=jO hk
  omega
 ·unfold ap
  rw[List.zipIdx_append,List.filterMap_append,List.zipIdx_cons,List.filterMap_cons]
  congr 1
  by_cases z:f r=some q
  ·simp[z]
  ·simp[z]
theorem tH {f:Row->Option Str}{rs:List Row}{i:Nat}{r:Row}(q:Str) (h:rs[i]?=some r) (k:Nat):(ap f rs q)[k]?=some (i:Int)↔f r=some q/\k=(ap f (rs.take i) q).length:=by
 have lt:=(qg.mp h).1
 have sp:rs=rs.take i++r::rs.drop (i+1):=by
  rw[<- List.singleton_append,<- qN,show rs.take i++[r]=rs.take (i+1)by rw[qr,h];rfl,List.take_append_drop]
 obtain⟨hi,h1,h2,e⟩:=tG f (rs.take i) r (rs.drop (i+1)) q
 rw[<- sp]at e
 have il:(rs.take i).length=i:=by rw[qK];omega
 rw[il]at h1 h2 e
 rw[e]
 constructor
 ·intro g
  by_cases kl:k<(ap f (rs.take i) q).length
  ·rw[List.getElem?_append_left kl]at g
   have:=(h2 _ (qz g)).2
   omega
  ·rw[qL Qo]at g
   by_cases z:f r=some q
   ·rw[Q0 z,List.singleton_append]at g
    cases ek:k-(ap f (rs.take i) q).length with
    |zero=>exact⟨z,Qo⟩
    |succ m=>
     rw[ek,List.getElem?_cons_succ]at g
     have:=h1 _ (qz g)
     omega
   ·rw[qZ z,List.nil_append]at g
    have:=h1 _ (qz g)
    omega
 ·rintro⟨z,rfl⟩
  rw[qL (qf _),Nat.sub_self,Q0 z]
  rfl
theorem tJ {f:Row->Option Str}{rs:List Row}{i:Nat}{r:Row}(q:Str) (h:rs[i]?=some r) {k:Nat}(lt:k<(ap f rs q).length):((ap f rs q).getD k 0).toNat=i↔f r=some q/\k=(ap f (rs.take i) q).length:=by
 rw[<- tH q h k,qk,qd lt]
 obtain⟨h1,_⟩:=jO (qd lt)
 show(ap f rs q)[k].toNat=i↔some (ap f rs q)[k]=some (i:Int)
 constructor
 ·intro e
  congr 1
  omega
 ·intro e
  have:=qJ e
  omega
theorem oN (q:Str) (ps gs:List Int) (W:List (List Wat)) (i:Nat) (c:Nat) (on:Prop) [Decidable on]:∀K,(∀k,k<K->((gs.getD k 0).toNat=i↔on/\k=c))->(dB q ps gs W K)[i]?=(W[i]?).map fun es=>es++(if on/\c<K then([(ps.getD c 0,"thing",q)]:List Wat)else[])
 |0,_=>by simp[dB]
 |K+1,h=>by
  rw[dB,kj,oN q ps gs W i c on K fun k hk=>h k Qo,Option.map_map]
  have hK:=h K Qo
  congr 1
  funext es
  show(if(gs.getD K 0).toNat=i then _++_ else _)=_
  by_cases o:on
  ·by_cases z:K=c
   ·subst z
    rw[Q0 (hK.mpr ⟨o,rfl⟩),qZ Qo,Q0 ⟨o,Qo⟩]
    show(es++[])++_=_
    rw[qx]
   ·rw[qZ (fun y=>z (hK.mp y).2)]
    by_cases l:c<K
    ·rw[Q0 ⟨o,l⟩,Q0 ⟨o,Qo⟩]
    ·rw[qZ (fun y=>l y.2),qZ (fun y=>by have:=y.2;omega)]
  ·rw[qZ (fun y=>o (hK.mp y).1),qZ (fun y=>o y.1),qZ (fun y=>o y.1)]
theorem su (q:Str) (n:Nat) (cs gs:List Int) (W:List (List Wat)) (i:Nat) (c:Nat) (on:Prop) [Decidable on]:∀K,(∀k,k<K->((cs.getD k 0).toNat=i↔on/\k=c))->(dk q n cs gs W K)[i]?=(W[i]?).map fun es=>es++(if on/\c<K then([(awaited n gs c,"room",q)]:List Wat)else[])
 |0,_=>by simp[dk]
 |K+1,h=>by
  rw[dk,kj,su q n cs gs W i c on K fun k hk=>h k Qo,Option.map_map]
  have hK:=h K Qo
  congr 1
  funext es
  show(if(cs.getD K 0).toNat=i then _++_ else _)=_
  by_cases o:on
  ·by_cases z:K=c
   ·subst z
    rw[Q0 (hK.mpr ⟨o,rfl⟩),qZ Qo,Q0 ⟨o,Qo⟩]
    show(es++[])++_=_
    rw[qx]
   ·rw[qZ (fun y=>z (hK.mp y).2)]
    by_cases l:c<K
    ·rw[Q0 ⟨o,l⟩,Q0 ⟨o,Qo⟩]
    ·rw[qZ (fun y=>l y.2),qZ (fun y=>by have:=y.2;omega)]
  ·rw[qZ (fun y=>o (hK.mp y).1),qZ (fun y=>o y.1),qZ (fun y=>o y.1)]
def fw (rs:List Row) (i:Nat) (r:Row) (q:Str):List Wat:=if r.outof=some q then[((ap Row.into rs q).getD (ap Row.outof (rs.take i) q).length 0,"thing",q)]else[]
def fI (rs:List Row) (i:Nat) (r:Row) (s:Str×Int):List Wat:=if r.into=some s.1/\s.2.toNat<=(ap Row.into (rs.take i) s.1).length then[(awaited rs.length (ap Row.outof rs s.1) ((ap Row.into (rs.take i) s.1).length-s.2.toNat),"room",s.1)]else[]
theorem Cv {rs:List Row}{i:Nat}{r:Row}(h:rs[i]?=some r) (s:Str×Int) (W:List (List Wat)) (fed:∀q,r.outof=some q->(ap Row.outof (rs.take i) q).length<(ap Row.into rs q).length):(gP rs s W)[i]?=(W[i]?).map fun es=>es++(fw rs i r s.1++fI rs i r s):=by
 unfold gP
 have pl:∀f:Row->Option Str,f r=some s.1->(ap f (rs.take i) s.1).length<(ap f rs s.1).length:=fun f hf=>by
  have:=(tH s.1 h (ap f (rs.take i) s.1).length).mpr ⟨hf,rfl⟩
  exact(qg.mp this).1
 rw[su s.1 rs.length _ _ _ i ((ap Row.into (rs.take i) s.1).length-s.2.toNat) (r.into=some s.1/\s.2.toNat<=(ap Row.into (rs.take i) s.1).length) _ ?hr,oN s.1 _ _ W i (ap Row.outof (rs.take i) s.1).length (r.outof=some s.1) _ ?ht,Option.map_map]
 case ht=>
  intro k hk
  exact tJ s.1 h Qo
 case hr=>
  intro k hk
  rw[qY]at hk
  have e:((ap Row.into rs s.1).drop s.2.toNat).getD k 0=(ap Row.into rs s.1).getD (s.2.toNat+k) 0:=by rw[qk,List.getElem?_drop,qk]
  rw[e,tJ s.1 h Qo]
  constructor
  ·rintro⟨a,b⟩
   exact⟨⟨a,Qo⟩,Qo⟩
  ·rintro⟨⟨a,b⟩,c⟩
   exact⟨a,Qo⟩
 congr 1
 funext es
 show(es++_)++_=es++(_++_)
 rw[qN]
 congr 1
 congr 1
 ·unfold fw
  by_cases z:r.outof=some s.1
  ·have h1:=pl Row.outof z
   have h2:=fed _ z
   rw[Q0 ⟨z,Qo⟩,Q0 z]
  ·rw[qZ (fun y=>z y.1),qZ z]
 ·unfold fI
  by_cases z:r.into=some s.1/\s.2.toNat<=(ap Row.into (rs.take i) s.1).length
  ·have h1:=pl Row.into z.1
   have h2:=z.2
   rw[Q0 ⟨z,by rw[qY];omega⟩,Q0 z]
  ·rw[qZ (fun y=>z y.1),qZ z]
theorem vm {rs:List Row}{ss:List (Str×Int)}{i:Nat}{r:Row}(h:rs[i]?=some r) (W:List (List Wat)) (fed:∀q,r.outof=some q->(ap Row.outof (rs.take i) q).length<(ap Row.into rs q).length):∀j,j<=ss.length->(cX rs ss W j)[i]?=(W[i]?).map fun es=>es++(ss.take j).flatMap fun s=>fw rs i r s.1++fI rs i r s
 |0,_=>by simp[cX]
 |j+1,hj=>by
  have lt:j<ss.length:=Qo
  rw[cX,Cv h _ _ fed,vm h W fed j Qo,Option.map_map]
  have e:ss.getD j ("",0)=ss[j]:=by rw[qk,qd lt];rfl
  congr 1
  funext es
  show(es++_)++_=es++_
  rw[e,qN,qr,qd lt,qU]
  simp
theorem nH {α:Type}{g:Str×Int->List α}:∀{ss:List (Str×Int)}{q:Str}{n:Int},(ss.map (·.1)).Nodup->(q,n)∈ss->(∀s∈ss,s.1≠q->g s=[])->ss.flatMap g=g (q,n)
 |[],_,_,_,m,_=>by simp at m
 |s::ss,q,n,nd,m,hg=>by
  rw[qR,List.nodup_cons]at nd
  rw[qF]
  rcases qu.mp m with e|m
  ·subst e
   have:ss.flatMap g=[]:=by
    rw[List.flatMap_eq_nil_iff]
    intro s' hs'
    exact hg s' (ql _ hs') fun y=>nd.1 (by rw[<- y];exact List.mem_map_of_mem (f:=(·.1)) hs')
   rw[this,qx]
  ·have ne:s.1≠q:=fun y=>nd.1 (by rw[y];exact List.mem_map_of_mem (f:=(·.1)) m)
   rw[hg s qo ne,List.nil_append]
   exact nH nd.2 m fun s' hs'=>hg s' (ql _ hs')
theorem vx {rs:List Row}{i:Nat}{r:Row}(h:rs[i]?=some r):∀n,i<n->n<=rs.length->(cF rs n)[i]?=some (fj (rs.take i) r)
 |0,l,_=>Qo
 |n+1,l,hn=>by
  have ln:=j7 rs n Qo
  rw[cF]
  by_cases z:i<n
  ·rw[List.getElem?_append_left Qo]
   exact vx h n z Qo
  ·have:i=n:=by omega
   subst this
   rw[qL Qo,ln,Nat.sub_self,h]
   rfl
theorem Cu (rs:List Row) (s:Str×Int) (W:List (List Wat)):(gP rs s W).length=W.length:=by
 have h1:∀K,(dB s.1 (ap Row.into rs s.1) (ap Row.outof rs s.1) W K).length=W.length:=fun K=>by
  induction K with
  |zero=>rfl
  |succ K ih=>rw[dB,oo,ih]
 have h2:∀(W':List (List Wat)) (cs:List Int) K,(dk s.1 rs.length cs (ap Row.outof rs s.1) W' K).length=W'.length:=fun W' cs K=>by
  induction K with
  |zero=>rfl
  |succ K ih=>rw[dk,oo,ih]
 unfold gP
 rw[h2,h1]
theorem vj (rs:List Row) (ss:List (Str×Int)) (W:List (List Wat)):∀j,(cX rs ss W j).length=W.length
 |0=>rfl
 |j+1=>by rw[cX,Cu,vj rs ss W j]
def ou (rooms:List Str) (d:a8):Prop:=∀q x,d=.put q x->q∈rooms
theorem kE (rs:List Str) (t:Int) (ms:List (Str×Str)):∀i,i<=rs.length->(dC rs t ms i).map (·.1)=rs.take i
 |0,_=>rfl
 |i+1,h=>by
  rw[dC,qO,kE rs t ms i Qo,qr,qd Qo]
  show _++[rs.getD i _]=_
  rw[qk,qd Qo]
  rfl
theorem AS (i j:Int):0<=iZ i j:=by
 unfold iZ
 split
 ·omega
 ·split
  ·omega
  ·have:=Int.emod_nonneg (i / 4) (b:=if j > 1 then j else 1) (by split<;>omega)
   omega
theorem oV (rs:List Str) (t:Int) (ms:List (Str×Str)):∀i,∀s∈dC rs t ms i,0<=s.2
 |0,s,h=>by simp[dC]at h
 |i+1,s,h=>by
  rw[dC,qi]at h
  rcases h with h|h
  ·exact oV rs t ms i s h
  ·rw[qS.mp h]
   exact AS _ _
theorem oJ {k:Key}:∀(ps kvs:List (Key×V)),k∉ps.map (·.1)->aK (ps.foldl (fun kvs p=>bT kvs p.1 p.2) kvs) k=aK kvs k
 |[],_,_=>rfl
 |p::r,kvs,h=>by
  rw[qR,qu,not_or]at h
  rw[List.foldl_cons,oJ r _ h.2,fq,qZ h.1]
theorem oK {k:Key}{v:V}:∀(ps kvs:List (Key×V)),(ps.map (·.1)).Nodup->(k,v)∈ps->aK (ps.foldl (fun kvs p=>bT kvs p.1 p.2) kvs) k=some v
 |[],_,_,h=>by simp at h
 |p::r,kvs,nd,h=>by
  rw[qR,List.nodup_cons]at nd
  rw[List.foldl_cons]
  rcases qu.mp h with e|h
  ·subst e
   rw[oJ r _ nd.1,fq,Q0 rfl]
  ·exact oK r _ nd.2 h
def cZ (ss:List (Str×Int)):List (Key×V):=ss.map fun s=>(.inr s.1,.int s.2)
theorem wQ {ss:List (Str×Int)}{q:Str}{n:Int}(nd:(ss.map (·.1)).Nodup) (h:(q,n)∈ss):aK (da (cZ ss)) (.inr q)=some (.int n):=by
 refine oK _ _ ?_ (List.mem_map.mpr ⟨(q,n),h,rfl⟩)
 unfold cZ
 rw[List.map_map]
 have:((fun x:Key×V=>x.1) ∘ fun s:Str×Int=>((Sum.inr s.1:Key),V.int s.2))=(fun q:Str=>(Sum.inr q:Key)) ∘ (·.1):=rfl
 rw[this,<- List.map_map]
 exact List.pairwise_map.mpr (List.Pairwise.imp (fun h e=>h (Sum.inr.inj e)) nd)
def gC:Option Str->PyData
 |none=>.none
 |some q=>.str q
def eD (r:Row):PyData:=.tuple [.str r.kind,.tuple (r.owns.map PyData.str),.tuple (r.reads.map PyData.str),gC r.into,gC r.outof]
theorem t6 {K:PySem.W.Frag}{H:Hp}(o:Option Str):Dt K H (cJ o) (gC o):=by cases o<;>constructor
theorem cu.dt {K:PySem.W.Frag}{H:Hp}{v:V}{r:Row}(h:cu H v r):Dt K H v (eD r):=by
 obtain⟨p,po,pr,rfl,h1,h2,h3⟩:=h
 exact .tup (SqT.of h1) (.cons (.str _) (.cons (.tup (SqT.of h2) (kC _)) (.cons (.tup (SqT.of h3) (kC _)) (.cons (t6 _) (.cons (t6 _) .nil)))))
theorem aT.dt {K:PySem.W.Frag}{H:Hp}:∀{vs:List V}{rs:List Row},aT H vs rs->dN K H vs (rs.map eD)
 |_,_,.nil=>.nil
 |_,_,.cons h r=>.cons h.dt (aT.dt r)
def gR (r:Row):Prop:=PyData.strOk r.kind=true/\(∀s∈r.owns,PyData.strOk s=true)/\(∀s∈r.reads,PyData.strOk s=true)/\(∀q,r.into=some q->PyData.strOk q=true)/\∀q,r.outof=some q->PyData.strOk q=true
theorem u7 (o:Option Str) (h:∀q,o=some q->PyData.strOk q=true):PyData.canLay0 (gC o)=true/\PyData.depth (gC o)<=1:=by
 cases o with
 |none=>simp[gC,PyData.canLay0,PyData.depth]
 |some q=>simp[gC,PyData.canLay0,PyData.depth,h q rfl]
theorem u6:∀rs:List Row,(∀r∈rs,gR r)->PyData.canLayAll0 (rs.map eD)=true/\PyData.depthAll (rs.map eD)<=4
 |[],_=>by simp[PyData.canLayAll0,PyData.depthAll]
 |r::rs,h=>by
  obtain⟨a,b,c,d,e⟩:=h r qo
  obtain⟨h1,h2⟩:=u6 rs fun x hx=>h x (ql _ hx)
  obtain⟨b1,b2⟩:=jT _ b
  obtain⟨c1,c2⟩:=jT _ c
  obtain⟨d1,d2⟩:=u7 _ d
  obtain⟨e1,e2⟩:=u7 _ e
  simp[eD,PyData.canLayAll0,PyData.canLay0,PyData.depthAll,PyData.depth,a,b1,c1,d1,e1,h1]
  omega
theorem xN {rs:List Row}(h:∀r∈rs,gR r):SeqAt.shaped (.list (rs.map eD))=true:=by
 obtain⟨h1,h2⟩:=u6 rs h
 unfold SeqAt.shaped
 simp[PyData.canLay0,PyData.depth,h1]
 omega
theorem xM {ss:List (Str×Int)}(h:∀s∈ss,PyData.strOk s.1=true):SeqAt.shaped (.list (ss.map eu))=true:=by
 obtain⟨h1,h2⟩:=nj ss h
 unfold SeqAt.shaped
 simp[PyData.canLay0,PyData.depth,h1]
 omega
theorem fE (l:List Str):∀x∈srt l,x∈l:=by
 unfold srt
 split
 ·rename_i h
  obtain⟨a,b,_⟩:=Classical.choose_spec h
  exact fun x hx=>(b x).mp hx
 ·exact fun x hx=>by simp at hx
theorem x8 (l:List Str):∀x∈eC l,x∈l:=by
 unfold eC
 split
 ·rename_i h
  exact fun x hx=>(Classical.choose_spec h).1.mem_iff.mp hx
 ·exact fun x hx=>by simp at hx
theorem yj {d:a8}(hc:∀c∈cards [d],PyData.strOk c=true) (hq:∀q x,d=.put q x\/d=.get q x->PyData.strOk q=true):gR (aL d):=by
 cases d with
 |set x a sg b=>
  refine⟨show PyData.strOk ("set":Str)=true by decide +kernel,fun s hs=>?_,fun s hs=>?_,fun q h=>(nomatch h),fun q h=>(nomatch h)⟩
  ·rw[qS.mp hs]
   exact hc _ (by simp[cards,ah,a8.flat,a8.cards,a8.names])
  ·have:=(List.mem_filter.mp (fE _ s hs)).1
   refine hc _ ?_
   rcases qi.mp this with h|h<;>simp[cards,ah,a8.flat,a8.cards,a8.names,h]
 |put q x=>
  refine⟨show PyData.strOk ("put":Str)=true by decide +kernel,fun s hs=>?_,fun s hs=>?_,fun q' h=>?_,fun q h=>(nomatch h)⟩
  ·rw[qS.mp hs]
   exact hc _ (by simp[cards,ah,a8.flat,a8.cards,a8.names,a8.others])
  ·rw[qS.mp hs]
   exact hc _ (by simp[cards,ah,a8.flat,a8.cards,a8.names,a8.others])
  ·cases h
   exact hq _ x (.inl rfl)
 |get q x=>
  refine⟨show PyData.strOk ("get":Str)=true by decide +kernel,fun s hs=>?_,fun s hs=>(nomatch hs),fun q' h=>(nomatch h),fun q' h=>?_⟩
  ·have:=x8 _ s hs
   simp only[qu,qQ,or_false]at this
   rcases this with rfl|rfl
   ·exact hc _ (by simp[cards,ah,a8.flat,a8.cards,a8.names,a8.others])
   ·exact hc _ (by simp[cards,ah,a8.flat,a8.cards,a8.names,a8.others])
  ·cases h
   exact hq _ x (.inr rfl)
 |give x=>
  refine⟨show PyData.strOk ("give":Str)=true by decide +kernel,fun s hs=>?_,fun s hs=>?_,fun q h=>(nomatch h),fun q h=>(nomatch h)⟩
  ·rw[qS.mp hs]
   exact hc _ (by simp[cards,ah,a8.flat,a8.cards,a8.names,a8.others])
  ·rw[qS.mp hs]
   exact hc _ (by simp[cards,ah,a8.flat,a8.cards,a8.names,a8.others])
 |cond x t o=>exact⟨show PyData.strOk ("if":Str)=true by decide +kernel,fun s hs=>hc _ (fE _ s hs),fun s hs=>(nomatch hs),fun q h=>(nomatch h),fun q h=>(nomatch h)⟩
 |whl x b=>exact⟨show PyData.strOk ("while":Str)=true by decide +kernel,fun s hs=>hc _ (fE _ s hs),fun s hs=>(nomatch hs),fun q h=>(nomatch h),fun q h=>(nomatch h)⟩
 |rep n b=>exact⟨show PyData.strOk ("repeat":Str)=true by decide +kernel,fun s hs=>hc _ (fE _ s hs),fun s hs=>(nomatch hs),fun q h=>(nomatch h),fun q h=>(nomatch h)⟩
theorem nU {c1 c2:Int}{n1 n2:Nat}:∀s∈br (cq c1 n1) (cq c2 n2),PyData.strOk s=true:=fun s hs=>by
 unfold br at hs
 simp only[qi,List.mem_map,qS]at hs
 refine mZ ?_
 have l1:Low (">":Str):=by unfold Low;decide +kernel
 have l2:Low ("<":Str):=by unfold Low;decide +kernel
 rcases hs with((hs|⟨q,hq,rfl⟩)|⟨q,hq,rfl⟩)|rfl
 ·exact iQ _ _ s hs
 ·exact(iQ _ _ q hq).app l1
 ·exact(iQ _ _ q hq).app l2
 ·exact l1
theorem jy {d:a8}(h:(cards [d]).length<=4000):(aL d).owns.length<=4000/\(aL d).reads.length<=4000:=by
 have nm:∀v:Val,v.names.length<=1:=fun v=>by cases v<;>simp[Val.names]
 cases d with
 |set x a sg b=>
  refine⟨by simp[aL],?_⟩
  have h1:=je ((a.names++b.names).filter fun y=>!decide (y=x))
  have h2:=List.length_filter_le (fun y=>!decide (y=x)) (a.names++b.names)
  rw[qc]at h2
  have h3:=nm a
  have h4:=nm b
  show(srt _).length<=4000
  omega
 |put q x=>simp[aL]
 |get q x=>
  have h1:=x9 [x,q++("<":Str)]
  refine⟨?_,by simp[aL]⟩
  show(eC _).length<=4000
  simp at h1
  omega
 |give x=>simp[aL]
 |cond x t o=>exact⟨qy (je _) h,by simp[aL]⟩
 |whl x b=>exact⟨qy (je _) h,by simp[aL]⟩
 |rep n b=>exact⟨qy (je _) h,by simp[aL]⟩
theorem tL (f:Row->Option Str) (q:Str) (rs:List Row):(ap f rs q).length=(rs.filter fun r=>decide (f r=some q)).length:=by
 have:∀n,((rs.zipIdx n).filterMap fun p=>if f p.1=some q then some (p.2:Int)else none).length=(rs.filter fun r=>decide (f r=some q)).length:=by
  induction rs with
  |nil=>intro n;rfl
  |cons r t ih=>
   intro n
   rw[List.zipIdx_cons,List.filterMap_cons,List.filter_cons]
   by_cases z:f r=some q
   ·simp[z,ih]
   ·simp[z,ih]
 exact this 0
theorem uA {rs:List Row}{i:Nat}{r:Row}{q:Str}(h:Fed rs) (hr:rs[i]?=some r) (ho:r.outof=some q):(ap Row.outof (rs.take i) q).length<(ap Row.into rs q).length:=by
 have b:=h i r q hr ho
 unfold bal at b
 have h1:=tL Row.outof q (rs.take i)
 have h2:=tL Row.into q (rs.take i)
 have sp:rs=rs.take i++r::rs.drop (i+1):=by
  rw[<- List.singleton_append,<- qN,show rs.take i++[r]=rs.take (i+1)by rw[qr,hr];rfl,List.take_append_drop]
 obtain⟨hi,_,_,e⟩:=tG Row.into (rs.take i) r (rs.drop (i+1)) q
 rw[<- sp]at e
 rw[e,qc]
 omega
def dr (kvs:List (Key×V)) (q:Str):Int:=match aK kvs (.inr q)with
 |some (.int n)=>n
 |_=>0
theorem tX {kvs:List (Key×V)}{q:Str}{n:Int}(h:aK kvs (.inr q)=some (.int n)):dr kvs q=n:=by
 unfold dr
 rw[h]
end Tr
namespace L2
open PySem
section
variable {P:Program}{w:World}{A:Around}{E:Qq}{s:Shared}
end
end L2
namespace L2
open PySem PySem.Spec PyProof.Rows
section
variable {X:Cx}
end
section
variable {P:Program}{w:World}{A:Around}{E:Qq}{s:Shared}
end
section
variable {X:Cx}
end
section
variable {P:Program}{w:World}{K:PySem.W.Frag}{mg:Str->Option Value}{base:Heap}
end
end L2
namespace Tr
open PySem PySem.Spec PyProof.Rows L2
set_option linter.all false
structure OnW (x:Int):Prop where
 lo:0<=x
 hi:x<1000000000000000000000000000000
abbrev gi:=Str->Int
def xT (f:gi) (x:Str) (v:Int):gi:=fun z=>if z=x then v else f z
def tab (ks:List Str) (f:gi):List (Key×V):=ks.map fun z=>(.inr z,.int (f z))
def CH (ks:List Str) (x:Str):List Str:=if x∈ks then ks else ks++[x]
end Tr
namespace L2
open PySem PySem.Spec PyProof.Rows
section
variable {X:Cx}
end
section
variable {X:Cx}
end
end L2
namespace L2
open PySem PySem.Spec PyProof.Rows PySem.W
section
variable {X:Cx}{k:Nat}{f C0:Addr}{fd:FuncData}{ps:List Str}{sp:Sp}{dvs:List V}{ds:List Value}{fx cx y m n:Str}{iy im inn:Nat}{p pos apos py cp pm pn pa hpos:Pos}{e:Expr}{es:List Expr}{t:TA}
end
section
variable {X:Cx}
end
end L2
namespace Tr
open PySem PySem.Spec PyProof.Rows L2
set_option linter.all false
end Tr
namespace L2
open PySem PySem.Spec PyProof.Rows PySem.W
section
variable {P:Program}{w:World}{K:PySem.W.Frag}{mg:Str->Option Value}{base:Heap}
end
end L2
namespace L2
open PySem PySem.F PySem.Spec PyProof.Rows PySem.W
set_option maxRecDepth 100000
section
variable {prog:Program}{w:World}{A:Around}{E:Qq}{s:Shared}
end
section
variable {X:Cx}
end
section
variable {X:Cx}
end
section
variable {X:Cx}
end
end L2
namespace L2
open PySem PySem.Spec PyProof.Rows PySem.W
section
variable {X:Cx}
end
section
variable {X:Cx}{pins:List (Addr×Obj)}{σ:St}{H:Hp}{s:Shared}
end
section
variable {X:Cx}{k:Nat}{f C:Addr}{fd:FuncData}{ps:List Str}{sp:Sp}{x:Str}{p pos cpos:Pos}{e:Expr}{es:List Expr}{t:TA}
end
section
variable {X:Cx}
end
section
variable {X:Cx}
end
section
variable {X:Cx}{e:Expr}{te:TE}{pos:Pos}
end
section
variable {X:Cx}{K:PySem.W.Frag}{o e:Expr}{es:List Expr}{to:TE}{t:TA}{name:Str}{apos cpos:Pos}{T id:String}{r:V->List V->Hp->VK->Prop}
end
end L2
namespace L2
open PySem PySem.Spec PyProof.Rows
section
variable {X:Cx}
end
section
variable {prog:Program}{w:World}{A:Around}{E:Qq}{s:Shared}{κ:KeyKind}
def ky (κ:KeyKind) (p:Keyed):κ.α:=KK κ #[p] 0
section
variable {left:Bool}{key:Keyed}{arr:Array Keyed}{base n hint:Nat}{st:SortSt}{Q:Option Nat->SortSt->Prop}
end
end
section
variable {prog:Program}{w:World}{A:Around}{E:Qq}{s:Shared}{κ:KeyKind}
structure MS (r:Keyed->Keyed->Prop) (T o X Y:List Keyed):Prop where
 pm:(o++X++Y).Perm T
 sx:(o++X).Pairwise r
 sy:(o++Y).Pairwise r
section
variable {r:Keyed->Keyed->Prop}{T o X Y Z:List Keyed}
theorem MS.left (h:MS r T o (Z++X) Y) (k:∀x∈Z,∀y∈Y,r x y):MS r T (o++Z) X Y:=by
 refine⟨?_,?_,?_⟩
 ·have:=h.pm
  simpa[qN]using this
 ·rw[qN]
  exact h.sx
 ·have s1:=h.sx
  have s2:=h.sy
  rw[<- qN]at s1
  rw[List.pairwise_append]at s1 s2 ⊢
  refine⟨s1.1,s2.2.1,fun x hx y hy=>?_⟩
  rcases qi.mp hx with q|q
  ·exact s2.2.2 x q y hy
  ·exact k x q y hy
end
def pb (κ:KeyKind) (left:Bool) (key p:Keyed):Bool:=if left=true then κ.blt (ky κ p) (ky κ key)else !κ.blt (ky κ key) (ky κ p)
section
variable {a b out:Array Keyed}{ia ib n:Nat}
end
end
section
variable {prog:Program}{w:World}{A:Around}{E:Qq}{s:Shared}{κ:KeyKind}
section
variable {a b out:Array Keyed}{ia ib n:Nat}
end
end
section
variable {prog:Program}{w:World}{A:Around}{E:Qq}{s:Shared}{κ:KeyKind}
abbrev H6:Type:=Option (Array Keyed)×Nat×Nat×Array Keyed×Nat×Nat
abbrev H7:Type:=Option (Array Keyed)×Nat×Nat×Array Keyed×Nat×Nat×Nat
section
variable {a b out:Array Keyed}{na nb n:Nat}
end
end
section
variable {prog:Program}{w:World}{A:Around}{E:Qq}{s:Shared}{κ:KeyKind}
section
variable {arr:Array Keyed}{P X Y R:List Keyed}
end
end
section
variable {prog:Program}{w:World}{A:Around}{E:Qq}{s:Shared}{κ:KeyKind}
section
variable {st0 st:SortSt}{lo:Nat}
end
end
section
variable {prog:Program}{w:World}{A:Around}{E:Qq}{s:Shared}{κ:KeyKind}
section
variable {a₀:Array Keyed}{st:SortSt}{Xs:List (List Keyed)}{R:List Keyed}
end
section
variable {a₀:Array Keyed}{st:SortSt}{Xs:List (List Keyed)}{R:List Keyed}{lo n:Nat}
end
end
section
variable {prog:Program}{w:World}{A:Around}{E:Qq}{s:Shared}
end
section
variable {P:Program}{w:World}{A:Around}{E:Qq}{s:Shared}
end
section
variable {X:Cx}
end
end L2
namespace L2
open PySem
section
variable {P:Program}{w:World}{A:Around}{E:Qq}{s:Shared}
end
section
variable {P:Program}{w:World}{A:Around}{E:Qq}{s:Shared}
end
end L2
namespace L2
open PySem PySem.Spec PyProof.Rows
section
variable {X:Cx}
end
section
variable {P:Program}{w:World}{A:Around}{E:Qq}{s:Shared}
end
section
variable {X:Cx}
end
end L2
namespace Tr
open PySem PySem.Spec PyProof.Rows L2
set_option linter.all false
end Tr
namespace Tr
open PySem PySem.Spec PyProof.Rows L2
set_option linter.all false
end Tr
namespace Tr
open PySem PySem.Spec PyProof.Rows L2
set_option linter.all false
section
variable {Hb H0 H0' H H' H1:Hp}{own:List Addr}{z:List Fz}
end
end Tr
namespace Tr
open PySem PySem.Spec PyProof.Rows L2
set_option linter.all false
def bw (c w:Int):Int:=
 if w % 5=0 then c % 1000000000000000000000000000000000000000000000000000000000000 % 3
 else if w % 5=1 then 1000000000000000000000000000000-1-c % 1000000000000000000000000000000000000000000000000000000000000 % 3
 else if w % 5=2 then c % 1000000000000000000000000000000000000000000000000000000000000 % 1000000000000000000000000000000
 else(c % 1000000000000000000000000000000000000000000000000000000000000+1) * (w * w+11) * 618970019642690137449562111 % 1000000000000000000000000000000
end Tr
namespace Tr
open PySem PySem.Spec PyProof.Rows L2
set_option linter.all false
section
variable {Hb H0 H0' H H' H1:Hp}{s0 s1 s2:Addr}{z:List Fz}
end
end Tr
namespace L2
open PySem PySem.Spec PyProof.Rows PySem.W
section
variable {X:Cx}{k:Nat}{f C0:Addr}{fd:FuncData}{ps:List Str}{sp:Sp}{dvs:List V}{ds:List Value}{fx cx y m n:Str}{iy im inn:Nat}{p pos apos py cp pm pn pl pa hpos tpos:Pos}{e:Expr}{es:List Expr}{t:TA}
end
end L2
namespace Tr
open PySem PySem.Spec PyProof.Rows L2
set_option linter.all false
end Tr
namespace Tr
open PySem PySem.Spec PyProof.Rows L2
set_option linter.all false
end Tr
namespace L2
open PySem PySem.Spec PyProof.Rows
section
variable {X:Cx}
end
section
variable {P:Program}{w:World}{A:Around}{E:Qq}{s:Shared}
end
section
variable {X:Cx}
end
section
variable {P:Program}{w:World}{A:Around}{E:Qq}{s:Shared}
end
section
variable {X:Cx}
end
set_option linter.all false
section
variable {X:Cx}
end
end L2
namespace Tr
open PySem PySem.Spec PyProof.Rows L2
set_option linter.all false
noncomputable def jA (x:Str) (va vb:Val):List Str:=srt ((va.names++vb.names).filter fun y=>!decide (y=x))
structure LnD where
 lg:V
 on:List Int
inductive Sd
 |at(i:Int)
 |is (n:Int)
inductive PtD
 |pas (is os rt:List Int)
 |wrk (is:List Int) (o:Int) (sg:Str) (l r:Sd)
inductive R2s {α β:Type}(R:α->β->Prop):List α->List β->Prop
 |nil:R2s R [] []
 |cons {x:α}{y:β}{xs:List α}{ys:List β}:R x y->R2s R xs ys->R2s R (x::xs) (y::ys)
def vS:LnD:=⟨.int 1,[]⟩
def rW (zs:List Str):Val->Sd
 |.num n=>.is n
 |.nm x=>.at (zs.idxOf x:Nat)
def Bu (n:Nat) (k:Nat):List Int:=(List.range k).map fun i=>((n+2 * i:Nat):Int)
theorem R2s.len {α β:Type}{R:α->β->Prop}:∀{xs:List α}{ys:List β},R2s R xs ys->xs.length=ys.length
 |_,_,.nil=>rfl
 |_,_,.cons _ r=>congrArg (·+1) r.len
theorem R2s.app {α β:Type}{R:α->β->Prop}{us:List α}{ws:List β}(k:R2s R us ws):∀{xs:List α}{ys:List β},R2s R xs ys->R2s R (xs++us) (ys++ws)
 |_,_,.nil=>k
 |_,_,.cons h r=>.cons h (R2s.app k r)
theorem R2s.imp {α β:Type}{R S:α->β->Prop}(k:∀x y,R x y->S x y):∀{xs:List α}{ys:List β},R2s R xs ys->R2s S xs ys
 |_,_,.nil=>.nil
 |_,_,.cons h r=>.cons (k _ _ h) (R2s.imp k r)
end Tr
namespace Tr
open PySem PySem.Spec PyProof.Rows L2
set_option linter.all false
def PtD.ins:PtD->List Int
 |.pas is _ _=>is
 |.wrk is _ _ _ _=>is
def vA (ts:List Int):Sd->Prop
 |.at i=>∃j:Nat,i=j/\j<ts.length
 |.is n=>OnW n
end Tr
namespace Tr
open PySem PySem.Spec PyProof.Rows L2
set_option linter.all false
theorem R2s.get {α β:Type}{R:α->β->Prop}:∀{xs:List α}{ys:List β},R2s R xs ys->∀{i:Nat}{y:β},ys[i]?=some y->∃x,xs[i]?=some x/\R x y
 |_,_,.nil,i,y,h=>by simp at h
 |_,_,.cons k r,0,y,h=>by
  cases(by simpa using h:_=y)
  exact⟨_,rfl,k⟩
 |_,_,.cons k r,i+1,y,h=>by
  obtain⟨x,hx,hr⟩:=r.get (i:=i) (by simpa using h)
  exact⟨x,by simpa using hx,hr⟩
end Tr
namespace Tr
open PySem PySem.Spec PyProof.Rows L2
set_option linter.all false
end Tr
namespace Tr
open PySem PySem.Spec PyProof.Rows L2
set_option linter.all false
inductive PtG
 |pas (is os rt:List Int)
 |wrk (is:List Int) (o:Int) (sg:Str) (l r:Sd)
 |cho (is:List Int) (w:Int) (ons ofs:List Int) (t:Int)
 |mrg (t:Int) (ons ofs outs:List Int)
structure ca where
 ls:List LnD
 ps:List PtG
 cs:List Str
 fc:gi
def wid (n k:Nat):List Int:=(List.range k).map fun i=>((n+i:Nat):Int)
def ca.n (N:ca):Nat:=N.ls.length
def ca.wires (N:ca) (k:Nat):ca:={ N with ls:=N.ls++List.replicate k vS }
def ca.line (N:ca) (d:LnD):ca:={ N with ls:=N.ls++[d] }
def ca.part (N:ca) (p:PtG):ca:={ N with ps:=N.ps++[p] }
def ca.lead (N:ca) (zs:List Str) (ws:List Int):ca:={ N with cs:=zs.foldl CH N.cs,fc:=(zs.zip ws).foldl (fun f z=>xT f z.1 z.2) N.fc }
def ca.fork (N:ca) (x:Str):ca:=((N.wires 2).part (.pas [N.fc x] (wid N.n 2) [0,0])).lead [x] [((N.n+1:Nat):Int)]
def ca.set (N:ca) (x:Str) (va:Val) (sg:Str) (vb:Val) (rs:List Str):ca:=
 let M:=rs.foldl ca.fork N
 ((M.wires 1).part (.wrk (N.fc x::Bu N.n rs.length) M.n sg (rW (x::rs) va) (rW (x::rs) vb))).lead [x] [(M.n:Int)]
def ca.get (N:ca) (card x:Str) (e:Int):ca:=((N.wires 2).part (.pas [N.fc card,N.fc x,e] (wid N.n 2) [0,2])).lead [card,x] (wid N.n 2)
end Tr
namespace Tr
open PySem PySem.Spec PyProof.Rows L2
set_option linter.all false
end Tr
namespace Tr
open PySem PySem.Spec PyProof.Rows L2
set_option linter.all false
end Tr
namespace Tr
open PySem PySem.Spec PyProof.Rows L2
set_option linter.all false
section
variable {Hb H0 H0' H H' H1:Hp}{s0 s1 s2:Addr}{z:List Fz}{os:List V}
end
end Tr
namespace L2
open PySem PySem.Spec PyProof.Rows
@[reducible] def intKey:KeyKind where
  α:=Int
  blt a b:=decide (a<b)
  irrefl a:=by simp
  trans a b c h1 h2:=by simp only[decide_eq_true_eq]at *;omega
  negTrans a b c h:=by simp only[decide_eq_true_eq]at *;omega
  total a b h1 h2:=by simp only[decide_eq_false_iff_not]at *;omega
  keyOf v:=match v with|.int n _=>some n|_=>none
  dflt:=0
section
variable {prog:Program}{w:World}{A:Around}{E:Qq}{s:Shared}
end
section
variable {X:Cx}
end
end L2
namespace Tr
open PySem PySem.Spec PyProof.Rows L2
set_option linter.all false
mutual
def a8.bare:a8->Bool
 |.rep _ b=>vn b
 |.set _ _ _ _=>false
 |.put _ _=>false
 |.get _ _=>false
 |.give _=>false
 |.cond _ _ _=>false
 |.whl _ _=>false
def vn:List a8->Bool
 |[]=>true
 |d::r=>d.bare && vn r
end
end Tr
namespace L2
open PySem PySem.Spec PyProof.Rows
section
variable {P:Program}{w:World}{A:Around}{E:Qq}{s:Shared}{κ:Type} [DecidableEq κ] {knd:PySem.KeyKind P w κ}
end
section
variable {X:Cx}
end
end L2
namespace Tr
open PySem PySem.Spec PyProof.Rows L2
set_option linter.all false
def PtG.key:PtG->Str
 |.pas _ _ rt=>(PyData.list (rt.map PyData.int)).shown
 |.wrk _ _ _ _ _=>"work"
 |.cho _ _ _ _ _=>"choose"
 |.mrg _ _ _ _=>"merge"
def PtG.gd:PtG->Prop
 |.pas _ _ rt=>rt=[]\/rt=[0,0]\/rt=[0,1]\/rt=[0,2]
 |.wrk is _ _ l r=>vA is l/\vA is r
 |_=>True
end Tr
namespace L2
open PySem PySem.Spec PyProof.Rows
section
variable {n m:Nat}{p:Array Nat}
end
section
variable {prog:Program}{w:World}{A:Around}{E:Qq}{s:Shared}
end
section
variable {X:Cx}
end
theorem uP {K:PySem.W.Frag}{a:Addr}{xs:List V}{g:TG}{te:TE}{Fin:List V->Hp->Prop}{σ:St}{H:Hp}(Pv:Nat->List V->St->Hp->Prop) (h0:Pv 0 [] σ H) (hz:∀i ys σ H,i<=xs.length->Pv i ys σ H->ys.length<=i) (hx:xs.length<=sizeLine) (hl:∀i ys σ H,Pv i ys σ H->SqT K H a xs)
 (hs:∀i x ys σ H,xs[i]?=some x->Pv i ys σ H->g x σ H fun σ2 H2=>te σ2 H2 fun y H4=>Pv (i+1) (ys++[y]) σ2 H4)
 (hd:∀ys σ H,Pv xs.length ys σ H->Fin ys H):∃W:Nat->Nat->List V->St->Hp->Prop,(∃m,W 0 m [] σ H)/\gT (Itt K a) g iw te Fin W:=
 nR Pv h0 hz hx hl (fun i x ys σ H hx p=>by
  rw[oA (N':=fun _ _ _=>True)]
  exact hs i x ys σ H hx p) hd
end L2
namespace Tr
open PySem PySem.Spec PyProof.Rows L2
set_option linter.all false
def PtG.mt:PtG->Option Int
 |.mrg t _ _ _=>some t
 |_=>.none
end Tr
namespace Tr
open PySem PySem.Spec PyProof.Rows L2
set_option linter.all false
def PtG.tks:PtG->List Int
 |.mrg t ons ofs _=>[t]++ons++ofs
 |.pas is _ _=>is
 |.wrk is _ _ _ _=>is
 |.cho is _ _ _ _=>is
def tc (l:Int) (ps:List PtG):Nat:=(ps.flatMap PtG.tks).count l
def egD (fe:gi) (l:Int):a8->Nat
 |.put q _=>[fe q].count l
 |.give _=>[fe (">":Str)].count l
 |_=>0
def etD (fe:gi) (l:Int):a8->Nat
 |.get q _=>[fe q].count l
 |_=>0
def eg (fe:gi) (l:Int) (ds:List a8):Nat:=((ah ds).map (egD fe l)).sum
def et (fe:gi) (l:Int) (ds:List a8):Nat:=((ah ds).map (etD fe l)).sum
end Tr
namespace L2
open PySem
section
variable {P:Program}{w:World}{A:Around}{E:Qq}{s:Shared}
set_option maxHeartbeats 3200000 in
end
open PySem.Spec PyProof.Rows
section
variable {X:Cx}
end
end L2
namespace Tr
open PySem PySem.Spec PyProof.Rows L2
set_option linter.all false
end Tr
namespace L2
open PySem PySem.Spec PyProof.Rows
end L2
namespace Tr
open PySem PySem.Spec PyProof.Rows L2 PySem.NumText
end Tr
namespace HT
open PySem PyProof.Rows
section
variable {prog:Program}{w:World}{A:Around}{E:Qq}{s:Shared}
end
end HT
namespace L2
open PySem PySem.Spec PyProof.Rows
section
variable {X:Cx}
end
end L2
namespace Tr
open PySem PySem.Spec PyProof.Rows L2
def knd:a8->Str
 |.set _ _ _ _=>"set"
 |.put _ _=>"put"
 |.get _ _=>"get"
 |.give _=>"give"
 |.cond _ _ _=>"if"
 |.whl _ _=>"while"
 |.rep _ _=>"repeat"
end Tr
namespace L2
open PySem PySem.Spec PyProof.Rows
abbrev NK:=Option Str
def jQ:NK->Value->Bool
 |none,.none=>true
 |some x,.str y _=>decide (y=x)
 |_,_=>false
def nkV:NK->V
 |none=>.non
 |some x=>.str x
theorem eY {k:NK}{v:Value}(h:jQ k v=true):(k=none/\v=.none)\/∃x t,k=some x/\v=.str x t:=by
 cases k with
 |none=>cases v<;>simp[jQ]at h ⊢
 |some x=>
  cases v<;>simp[jQ]at h
  subst h
  exact .inr ⟨_,_,rfl,rfl⟩
def nkH (w:World):NK->Int
 |none=>0xFCA86420
 |some x=>hashStr w x
section
variable {prog:Program}{w:World}{A:Around}{E:Qq}{s:Shared}
theorem vR {Q:Int->Shared->Prop}(h:Q 0xFCA86420 { s with toks:=s.toks+1 }):wpAny (model prog w) A (pyHash .none) Q E s:=by
 unfold pyHash
 first|unfold pyHashByItsType|skip
 have hv:[Value.none].any Value.onHeap=false:=rfl
 refine q9 ?_
 rw[cRoomFor,qZ (by rw[hv];exact qj)];refine qe ?_
 refine q9 (wpAny_specialOf (typeIs_none s) PySem.F.slot_NoneType_hash.lookup ?_)
 show wpAny _ _ (if(some (Value.builtin "NoneType.__hash__") == some Value.none)=true then _ else _) Q E s
 rw[qZ (by rw[beq_builtin_none];exact qj)]
 refine q9 (wpAny_specialOf (typeIs_none s) PySem.F.slot_NoneType_hash.lookup ?_)
 show wpAny _ _ (callSpecialIfBoundUnlessNone? .none "__hash__" _ >>= _) Q E s
 refine q9 (wpAny_callSpecialIfBoundUnlessNone?_slot (typeIs_none s) PySem.F.slot_NoneType_hash
  (wpAny_call_entry PySem.F.slot_NoneType_hash (typeIs_none s) PySem.F.entry_NoneType_hash
   (show wpAny _ _ (do ret (<- mkInt 0xFCA86420)) _ _ s from wpAny_ret_mkInt ?_) (PySem.F.args_NoneType_hash_1 _)))
 show wpAny _ _ (if(decide (-(2:Int) ^ 63<=0xFCA86420) && decide ((0xFCA86420:Int)<2 ^ 63))=true then _ else _) Q E _
 rw[Q0 Qk]
 exact qe h
end
def fX (prog:Program) (w:World):PySem.KeyKind prog w NK where
 is:=jQ
 hash:=nkH w
 inj:=fun v a b ha hb=>by
  rcases eY ha with⟨rfl,rfl⟩|⟨x,t,rfl,rfl⟩
  ·rcases eY hb with⟨rfl,e⟩|⟨y,u,rfl,e⟩
   ·rfl
   ·exact nomatch e
  ·rcases eY hb with⟨rfl,e⟩|⟨y,u,rfl,e⟩
   ·exact nomatch e
   ·injection e with e1 _;rw[e1]
 byValue:=fun k v h=>by
  rcases eY h with⟨rfl,rfl⟩|⟨x,t,rfl,rfl⟩<;>rfl
 pyHash:=fun hv h=>by
  rcases eY hv with⟨rfl,rfl⟩|⟨x,t,rfl,rfl⟩
  ·exact vR h
  ·exact wpAny_pyHash_str h
 eqBool:=fun hu hv h=>by
  rcases eY hu with⟨rfl,rfl⟩|⟨x,t,rfl,rfl⟩
  ·rcases eY hv with⟨rfl,rfl⟩|⟨y,u,rfl,rfl⟩
   ·rw[decide_eq_true rfl]at h;exact SeqAt.EqAt.same Value.none _ _ _ _ h
   ·rw[decide_eq_false (by simp)]at h;exact SeqAt.EqAt.none_str y u _ _ _ _ h
  ·rcases eY hv with⟨rfl,rfl⟩|⟨y,u,rfl,rfl⟩
   ·rw[decide_eq_false (by simp)]at h;exact SeqAt.EqAt.str_none x t _ _ _ _ h
   ·refine wpAny_eqBool_str ?_
    have:decide (x=y)=decide (some x=some y):=by
     by_cases e:x=y
     ·subst e;simp
     ·simp[e]
    rw[this]
    exact h
 «strs»:=fun k x t v h=>by
  rcases eY h with⟨rfl,e⟩|⟨y,u,rfl,e⟩
  ·exact nomatch e
  ·injection e with e1 _
   subst e1
   cases v<;>first|rfl|skip
theorem AB {P:Program}{w:World}{k:NK}{u:Value}(r:ax (nkV k) u):(fX P w).is k u=true:=by
 cases k with
 |none=>
  cases(show u=Value.none from r)
  rfl
 |some x=>
  obtain⟨t,rfl⟩:=(show ∃t,u=Value.str x t from r)
  show decide (x=x)=true
  simp
theorem tQ {P:Program}{w:World}:∀{ks:List NK}{us:List Value},av (ks.map nkV) us->ItemsAre (fX P w) ks us
 |[],_,r=>by rw[List.map_nil]at r;cases r;exact .nil
 |k::ks,_,r=>by
  rw[qR]at r
  cases r with
  |cons h t=>exact .cons (AB h) (tQ t)
abbrev NEs:=List (List NK×Addr×V)
abbrev NT:NEs->List (List NK×Addr×Value)->Prop:=Paired fun p q=>p.1=q.1/\p.2.1=q.2.1/\ax p.2.2 q.2.2
def DNo (P:Program) (w:World) (a:Addr) (xs:NEs):HO:=.ext fun h=>xs.length<=sizeLine/\(a == sysModules)=false/\∃ys,NT xs ys/\∃o es ep,h.get? a=some o/\o.ExactDict/\o.data=.dict es ep/\es.toList=ys.map (entryOfKey (tupleKind (fX P w)))/\(ys.map (·.1)).Nodup
def ij (H:Hp) (xs:NEs):Prop:=∀x∈xs,H x.2.1=some (.tup (x.1.map nkV))
def bf (xs:NEs) (k:List NK):Option V:=(xs.find? fun x=>decide (x.1=k)).map (·.2.2)
def fR (xs:NEs) (k:List NK) (b:Addr) (v:V):NEs:=if(bf xs k).isSome then xs.map (fun x=>if x.1=k then(x.1,x.2.1,v)else x)else xs++[(k,b,v)]
theorem NT.val {xs:NEs}{ys:List (List NK×Addr×Value)}(r:NT xs ys) (k:List NK):cB (bf xs k) ((atKey ys k).map (·.2)):=by
 induction r with
 |nil=>exact True.intro
 |@cons p q ps qs h t ih=>
  obtain⟨h1,_,h2⟩:=h
  by_cases e:p.1=k
  ·have e':q.1=k:=h1.symm.trans e
   have b:atKey (q::qs) k=some q.2:=by simp[atKey,List.find?_cons,e']
   have c:bf (p::ps) k=some p.2.2:=by simp[bf,List.find?_cons,e]
   rw[c,b];exact h2
  ·have e':¬ q.1=k:=fun z=>e (h1.trans z)
   have b:atKey (q::qs) k=atKey qs k:=by simp[atKey,List.find?_cons,e']
   have c:bf (p::ps) k=bf ps k:=by simp[bf,List.find?_cons,e]
   rw[c,b];exact ih
theorem NT.repl {xs:NEs}{ys:List (List NK×Addr×Value)}(r:NT xs ys) (k:List NK) {y:V}{u:Value}(ry:ax y u):NT (xs.map fun x=>if x.1=k then(x.1,x.2.1,y)else x) (ys.map (putAt k u)):=by
 induction r with
 |nil=>exact .nil
 |@cons p q ps qs h t ih=>
  rw[qR,qR]
  refine .cons ?_ ih
  obtain⟨h1,h2,h3⟩:=h
  unfold putAt
  by_cases e:p.1=k
  ·rw[Q0 e,Q0 (h1.symm.trans e)];exact⟨h1,h2,ry⟩
  ·rw[qZ e,qZ (fun z=>e (h1.trans z))];exact⟨h1,h2,h3⟩
theorem NT.put {xs:NEs}{ys:List (List NK×Addr×Value)}(r:NT xs ys) (k:List NK) {b:Addr}{y:V}{u:Value}(ry:ax y u):NT (fR xs k b y) (storedH ys k b u):=by
 have e:(bf xs k).isSome=(atKey ys k).isSome:=by rw[(r.val k).isSome_eq,Option.isSome_map]
 unfold fR storedH
 rw[e]
 by_cases q:(atKey ys k).isSome=true
 ·rw[Q0 q,Q0 q];exact r.repl k ry
 ·rw[qZ q,qZ q];exact Paired.snoc r ⟨rfl,rfl,ry⟩
theorem sP (xs:NEs) (k:List NK) (b:Addr) (v:V):(fR xs k b v).length<=xs.length+1:=by
 unfold fR
 split
 ·rw[qa];omega
 ·rw[qc];exact qf _
theorem DNo.ok {P:Program}{w:World}{H:Hp}{h:Heap}{a:Addr}{xs:NEs}{ys:List (List NK×Addr×Value)}(z:xs.length<=sizeLine) (hd:(a == sysModules)=false) (r:NT xs ys) {o:Obj}{es:Array DictEntry}{ep:Nat}(h1:h.get? a=some o) (h2:o.ExactDict) (h3:o.data=.dict es ep) (h4:es.toList=ys.map (entryOfKey (tupleKind (fX P w)))) (h5:(ys.map (·.1)).Nodup):bB P w H h a (DNo P w a xs):=
 ⟨⟨z,hd,ys,r,o,es,ep,h1,h2,h3,h4,h5⟩,⟨_,h1⟩,fun g1 g2 ⟨z,hd,ys,r,o,es,ep,q1,q2,q3,q4,q5⟩ k=>⟨z,hd,ys,r,o,es,ep,k _ q1,q2,q3,q4,q5⟩⟩
section
variable {X:Cx}{pins:List (Addr×Obj)}{σ:St}{H:Hp}{s:Shared}{a:Addr}{A:Around}{E:Qq}
theorem mV {ks:List NK}{b:Addr}{h:Heap}{P:Program}{w:World}(ok:HOk P w H h) (e:H b=some (.tup (ks.map nkV))):(tupleKind (fX P w)).is h ks b:=by
 obtain⟨_,its,r,o,h1,h2,n,h3⟩:=(show bB P w H h b (.tup (ks.map nkV))from ok b _ e)
 exact⟨o,its.toArray,n,h1,h2,h3,by simpa using tQ r⟩
theorem uE {xs:NEs}(I:Inv X pins σ H s) (e:H a=some (DNo X.prog X.w a xs)) (nk:ij H xs):xs.length<=sizeLine/\(a == sysModules)=false/\∃ys,NT xs ys/\s.heap.DictOfH (tupleKind (fX X.prog X.w)) a ys:=by
 obtain⟨⟨z,y,ys,r,o,es,ep,h1,h2,h3,h4,h5⟩,_,_⟩:=I.hok a _ e
 refine⟨z,y,ys,r,o,es,ep,h1,h2,h3,h4,fun x hx=>?_,h5⟩
 have all:∀{l:NEs}{m:List (List NK×Addr×Value)},NT l m->(∀x∈l,H x.2.1=some (.tup (x.1.map nkV)))->∀x∈m,(tupleKind (fX X.prog X.w)).is s.heap x.1 x.2.1:=by
  intro l m q
  induction q with
  |nil=>intro _ x hx;exact nomatch hx
  |@cons p q ps qs hq t ih=>
   intro hk x hx
   rcases qu.mp hx with e|hx
   ·subst e
    rw[<- hq.1,<- hq.2.1]
    exact mV I.hok (hk p qo)
   ·exact ih (fun z hz=>hk z (ql _ hz)) x hx
 exact all r nk x hx
end
def wB (P:Program) (w:World):TE:=fun _ H Q=>∀p,H p=none->Q (.ref p) (upd H p (DNo P w p []))
def wv (P:Program) (w:World) (td ty tx:TE):TE:=fun σ H Q=>td σ H fun x H1=>∃a xs,x=.ref a/\H1 a=some (DNo P w a xs)/\ty σ H1 fun y H2=>tx σ H2 fun z H3=>∃xs k b,H3 a=some (DNo P w a xs)/\ij H3 xs/\y=.ref b/\H3 b=some (.tup (k.map nkV))/\Q ((bf xs k).getD z) H3
def ya (P:Program) (w:World) (td ty tv:TE):TS:=fun D σ H=>tv σ H fun v H1=>td σ H1 fun x H2=>ty σ H2 fun y H3=>∃a xs k b,x=.ref a/\H3 a=some (DNo P w a xs)/\ij H3 xs/\y=.ref b/\H3 b=some (.tup (k.map nkV))/\xs.length<sizeLine/\D.nx σ (upd H3 a (DNo P w a (fR xs k b v)))
section
variable {X:Cx}{o e f i value:Expr}{apos cpos pos pos':Pos}{td ty tx tv:TE}
theorem zu:PE X (.Dict [] [] pos) (wB X.prog X.w):=fun pins s σ H Q I h=>
 wpAny_Dict_empty ⟨.ref s.heap.objs.size,_,I.laid (a:=s.heap.objs.size) (o:=DNo X.prog X.w s.heap.objs.size []) (t':=s.toks) (fun _ _ q=>qb _ q) (qf _)
  (DNo.ok (ys:=[]) (qt _) (beq_eq_false_iff_ne.mpr (Ne.symm (qG I.big))) .nil (qp _ rfl) ⟨rfl,rfl,rfl⟩ rfl rfl List.nodup_nil),rfl,h _ (I.hok.fresh (qf _))⟩
theorem sY (hu:X.A.units+1<cLine) (ho:PE X o td) (he:PE X e ty) (hf:PE X f tx) (m:M2 X o "get" apos e f cpos):PE X (.Call (.Attribute o "get" apos) [e,f] [] cpos) (wv X.prog X.w td ty tx):=by
 intro pins s σ H Q I h
 refine wpAny_Call_method m.base m.few m.line PySem.F.plainAttrs_dict PySem.F.slot_dict_get PySem.F.type_dict_get (thn (ho pins s σ H _ I h) fun u s1 ⟨x,H1,I1,rx,a,xs0,ex,d,q1⟩=>?_)
 subst ex
 obtain rfl:u=Value.ref a:=rx
 obtain⟨⟨_,_,_,_,ob,_,_,g1,g2,_⟩,_,_⟩:=I1.hok a _ d
 refine⟨⟨ob,g1,g2.1⟩,fun b q=>?_,?_⟩
 ·cases q
  exact⟨ob,g1,g2.2.1⟩
 rw[m.trees]
 refine Calls.callWith_builtin rfl (Calls.evalArgs_plain (Calls.spliced_cons (thn (he pins s1 σ H1 _ I1 q1) fun iv s2 ⟨y,H2,I2,ry,q2⟩=>
  Calls.spliced_cons (thn (hf pins s2 σ H2 _ I2 q2) fun fv s3 ⟨z,H3,I3,rz,xs,k,b,e3,nk,ey,eb,q3⟩=>Calls.spliced_nil ?_))))
 subst ey
 cases(show iv=Value.ref b from ry)
 obtain⟨_,hd,ys,rel,dd⟩:=uE I3 e3 nk
 refine call_meetsIn PySem.F.slot_dict_get dd.typeIs PySem.F.entry_dict_get (PySem.F.args_dict_get_3 _ _ _) (meetsH_dict_get_default (tupleKind (fX X.prog X.w)) a b hd fv) ⟨tupleKind_room_in1 hu,k,ys,mV I3.hok eb,dd,⟨_,H3,I3.tok _,?_,q3⟩⟩
 exact(rel.val k).getD rz
theorem z9 (hu:X.A.units+1<cLine) (ho:PE X o td) (hi:PE X i ty) (hv:PE X value tv) (hs:swapsWith value (some (.Subscript o i pos')) pos.line X.env=pure false):
 PS X (.Assign [.Subscript o i pos'] value pos) (ya X.prog X.w td ty tv):=by
 intro pins s σ H D I h
 refine wpAny_Assign_Subscript (thn (hv pins s σ H _ I h) fun r s1 ⟨v,H1,I1,rv,q1⟩=>thn (ho pins s1 σ H1 _ I1 q1) fun u s2 ⟨x,H2,I2,rx,q2⟩=>thn (hi pins s2 σ H2 _ I2 q2) fun iv s3 ⟨y,H3,I3,ry,a,xs,k,b,ex,e3,nk,ey,eb,lt,q3⟩=>?_) hs
 subst ex
 obtain rfl:u=Value.ref a:=rx
 subst ey
 cases(show iv=Value.ref b from ry)
 obtain⟨z,hd,ys,rel,dd⟩:=uE I3 e3 nk
 have hz:ys.length<=sizeLine:=by rw[<- Paired.length rel];exact z
 refine wpAny_setItem_heap (hsz:=hz) (tupleKind_room_in1 hu) (mV I3.hok eb) dd fun h' dd' hs=>⟨σ,_,?_,q3⟩
 obtain⟨q,es,ep,hq,h2,h3,h4,_,h5⟩:=dd'
 exact kf I3 (by rw[e3];exact True.intro) hs ⟨q,hq⟩ (DNo.ok (qy (sP xs k b v) lt) hd (rel.put k rv) hq h2 h3 h4 h5)
end
end L2
set_option Elab.async false
set_option maxRecDepth 100000
set_option maxHeartbeats 4000000
namespace K22
open PySem L2 Tr
seal PE PT PW PA PS PSs PG PGs PI PTs PO OpR UnR cC CJ IxR SlR
local macro_rules|`(tactic| walk_at "rds")=>`(tactic| first|assumption|decide|omega)
local macro_rules|`(tactic| walk_at "rd")=>`(tactic| repeat (first|refine⟨_,rfl,?_⟩|refine⟨_,_,rfl,rfl,?_⟩|refine⟨rfl,_,rfl,?_⟩|refine⟨_,_,rfl,rfl,by walk_at "rds",?_⟩|refine And.intro (by walk_at "rds") ?_))
local macro_rules|`(tactic| walk_at "yes")=>`(tactic| refine bx (by decide +kernel) ?_)
local macro_rules|`(tactic| walk_at "no")=>`(tactic| refine aB (by decide +kernel) ?_)
abbrev kX:Stmt:=top 3
abbrev jt:Stmt:=top 4
abbrev kY:Stmt:=top 5
abbrev jr:Stmt:=top 6
abbrev lF:Stmt:=top 7
abbrev lP:Stmt:=top 11
abbrev lO:Stmt:=top 12
abbrev ju:Stmt:=top 13
abbrev l9:Stmt:=top 14
abbrev kZ:Stmt:=top 18
abbrev lE:Stmt:=top 19
abbrev ly:Stmt:=top 20
abbrev lH:Stmt:=top 21
abbrev lN:Stmt:=top 22
abbrev lJ:Stmt:=top 29
abbrev lK:Stmt:=top 30
abbrev kW:Stmt:=top 31
abbrev kT:Stmt:=top 32
abbrev kU:Stmt:=top 33
abbrev lD:Stmt:=top 34
abbrev lM:Stmt:=top 35
abbrev m9:Stmt:=top 37
abbrev m6:Stmt:=top 38
abbrev lQ:Stmt:=top 39
abbrev m7:Stmt:=top 40
abbrev lR:Stmt:=top 41
abbrev lV:Stmt:=top 42
abbrev lT:Stmt:=top 43
abbrev lY:Stmt:=top 44
abbrev ma:Stmt:=top 45
abbrev m5:Stmt:=top 46
abbrev lU:Stmt:=top 47
abbrev m8:Stmt:=top 48
abbrev jv:Stmt:=top 49
abbrev iH:Stmt:=top 50
abbrev lZ:Stmt:=top 51
abbrev lX:Stmt:=top 52
abbrev jw:Stmt:=top 53
abbrev lW:Stmt:=top 54
abbrev iG:Stmt:=top 55
abbrev gu:Stmt:=top 56
theorem xX:aY ["deeds","stores"] ["deeds","stores"] (aI kX):=⟨rfl,rfl,rfl,Qd,rfl,Qd,Qd⟩
theorem dE:aY ["waits_by_cards","deeds","stores","waits","puts_by_store","gets_by_store","store","length","puts","gets","put","get","count","awaited"] ["waits_by_cards","deeds","stores"] (aI jt):=⟨rfl,rfl,rfl,Qd,rfl,Qd,Qd⟩
theorem gX:aY ["deeds","owners","waits","number","deed","card"] ["deeds"] (aI kY):=⟨rfl,rfl,rfl,Qd,rfl,Qd,Qd⟩
theorem xY:aY ["cards","kind","owners"] ["cards","kind","owners"] (aI jr):=⟨rfl,rfl,rfl,Qd,rfl,Qd,Qd⟩
theorem jp:aY ["deeds","place","numbers","number","deed"] ["deeds","place"] (aI lF):=⟨rfl,rfl,rfl,Qd,rfl,Qd,Qd⟩
theorem iE:aY ["block","found","deed","inner"] ["block"] (aI lP):=⟨rfl,rfl,rfl,Qd,rfl,Qd,Qd⟩
theorem y4:aY ["deed"] ["deed"] (aI lO):=⟨rfl,rfl,rfl,Qd,rfl,Qd,Qd⟩
theorem rZ:aY ["deed","kind"] ["deed"] (aI ju):=⟨rfl,rfl,rfl,Qd,rfl,Qd,Qd⟩
theorem xZ:aY ["deed"] ["deed"] (aI l9):=⟨rfl,rfl,rfl,Qd,rfl,Qd,Qd⟩
theorem kR:aY ["block","cards","deed"] ["block"] (aI kZ):=⟨rfl,rfl,rfl,Qd,rfl,Qd,Qd⟩
theorem y2:aY ["deed"] ["deed"] (aI lE):=⟨rfl,rfl,rfl,Qd,rfl,Qd,Qd⟩
theorem y0:aY ["store"] ["store"] (aI ly):=⟨rfl,rfl,rfl,Qd,rfl,Qd,Qd⟩
theorem y3:aY ["store"] ["store"] (aI lH):=⟨rfl,rfl,rfl,Qd,rfl,Qd,Qd⟩
theorem jq:aY ["program","cards","store","length"] ["program"] (aI lN):=⟨rfl,rfl,rfl,Qd,rfl,Qd,Qd⟩
theorem sh:aY ["program","deeds"] ["program"] (aI lJ):=⟨rfl,rfl,rfl,Qd,rfl,Qd,Qd⟩
theorem iD:aY ["block","count","deed"] ["block"] (aI lK):=⟨rfl,rfl,rfl,Qd,rfl,Qd,Qd⟩
theorem jo:aY ["block","deeds","deed"] ["block"] (aI kW):=⟨rfl,rfl,rfl,Qd,rfl,Qd,Qd⟩
theorem rX:aY ["rounds","body","gate"] ["rounds","body"] (aI kT):=⟨rfl,rfl,rfl,Qd,rfl,Qd,Qd⟩
theorem rY:aY ["deed","kind"] ["deed"] (aI kU):=⟨rfl,rfl,rfl,Qd,rfl,Qd,Qd⟩
theorem y1:aY ["kind","cards"] ["kind","cards"] (aI lD):=⟨rfl,rfl,rfl,Qd,rfl,Qd,Qd⟩
theorem gY:aY ["deeds","standing","number","deed","into","outof"] ["deeds"] (aI lM):=⟨rfl,rfl,rfl,Qd,rfl,Qd,Qd⟩
theorem y9:aY ["_law_script","_law_k"] ["_law_script","_law_k"] (aI m9):=⟨rfl,rfl,rfl,Qd,rfl,Qd,Qd⟩
theorem sk:aY ["_law_cell","_law_k","_law_number_here"] ["_law_cell","_law_k"] (aI m6):=⟨rfl,rfl,rfl,Qd,rfl,Qd,Qd⟩
theorem y6:aY ["_law_found"] ["_law_found"] (aI lQ):=⟨rfl,rfl,rfl,Qd,rfl,Qd,Qd⟩
theorem h8:aY ["_law_number_here","_law_size","_law_some","_law_word","_law_k"] ["_law_number_here","_law_size"] (aI m7):=⟨rfl,rfl,rfl,Qd,rfl,Qd,Qd⟩
theorem sj:aY ["_law_word","_law_some"] ["_law_word"] (aI lR):=⟨rfl,rfl,rfl,Qd,rfl,Qd,Qd⟩
theorem dO:aY ["_law_cell","_law_many","_law_some","_law_number_here","_law_base","_law_size","_law_at","_law_words_here","_law_k","_law_sign","_law_word"] ["_law_cell","_law_many"] (aI lV):=⟨rfl,rfl,rfl,Qd,rfl,Qd,Qd⟩
theorem fG:aY ["_law_number_here","_law_names","_law_rooms","_law_shut","_law_kind","_law_rest","_law_x","_law_a","_law_b"] ["_law_number_here","_law_names","_law_rooms","_law_shut"] (aI lT):=⟨rfl,rfl,rfl,Qd,rfl,Qd,Qd⟩
theorem dG:aY ["_law_state","_law_number_here","_law_x","_law_most","_law_kind","_law_rest","_law_inner","_law_other","_law_shut","_law_times","_law_now","_law_many"] ["_law_state","_law_number_here","_law_x","_law_most"] (aI lY):=⟨rfl,rfl,rfl,Qd,rfl,Qd,Qd⟩
theorem gq:aY ["_law_cells","_law_names","_law_rooms","_law_most","_law_low","_law_body","_law_state","_law_cell","_law_number_here","_law_kind","_law_part"] ["_law_cells","_law_names","_law_rooms","_law_most","_law_low"] (aI ma):=⟨rfl,rfl,rfl,Qd,rfl,Qd,Qd⟩
theorem gZ:aY ["_law_block_here","_law_moves_here","_law_one","_law_inner","_law_k"] ["_law_block_here"] (aI m5):=⟨rfl,rfl,rfl,Qd,rfl,Qd,Qd⟩
theorem eS:aY ["_law_moves_here","_law_q","_law_now","_law_low","_law_high","_law_kind","_law_store"] ["_law_moves_here","_law_q"] (aI lU):=⟨rfl,rfl,rfl,Qd,rfl,Qd,Qd⟩
theorem y8:aY ["_law_pick","_law_peak"] ["_law_pick","_law_peak"] (aI m8):=⟨rfl,rfl,rfl,Qd,rfl,Qd,Qd⟩
theorem d9:aY ["_law_script","_law_most","_law_first","_law_second","_law_third","_law_words_here","_law_names","_law_rooms","_law_body","_law_moves_here","_law_front","_law_stores","_law_k","_law_lacking","_law_peak","_law_asks"] ["_law_script","_law_most"] (aI jv):=⟨rfl,rfl,rfl,Qd,rfl,Qd,Qd⟩
theorem hE:aY ["_law_deeds","_law_many","_law_rows","_law_row","_law_owned_here","_law_card"] ["_law_deeds"] (aI iH):=⟨rfl,rfl,rfl,Qd,rfl,Qd,Qd⟩
theorem iF:aY ["_law_deeds","_law_many","_law_numbers","_law_row","_law_key"] ["_law_deeds"] (aI lZ):=⟨rfl,rfl,rfl,Qd,rfl,Qd,Qd⟩
theorem kS:aY ["_law_pairs","_law_card","_law_one","_law_many"] ["_law_pairs","_law_card"] (aI lX):=⟨rfl,rfl,rfl,Qd,rfl,Qd,Qd⟩
theorem gp:aY ["_law_deeds","_law_ahead_here","_law_numbers","_law_lengths","_law_k","_law_wait","_law_j","_law_kind","_law_name","_law_many","_law_below","_law_freed"] ["_law_deeds","_law_ahead_here","_law_numbers","_law_lengths","_law_k","_law_wait"] (aI jw):=⟨rfl,rfl,rfl,Qd,rfl,Qd,Qd⟩
theorem y7:aY ["_law_one","_law_many"] ["_law_one","_law_many"] (aI lW):=⟨rfl,rfl,rfl,Qd,rfl,Qd,Qd⟩
theorem si:aY ["_law_deeds","_law_ahead_here","_law_numbers","_law_lengths","_law_k","_law_words_here"] ["_law_deeds","_law_ahead_here","_law_numbers","_law_lengths","_law_k"] (aI iG):=⟨rfl,rfl,rfl,Qd,rfl,Qd,Qd⟩
theorem dF:aY ["_law_script","_law_program_here","_law_rows","_law_handed","_law_stores","_law_found","_law_lengths","_law_ahead_here","_law_numbers","_law_k","_law_words_here","_law_place","_law_wait"] ["_law_script"] (aI gu):=⟨rfl,rfl,rfl,Qd,rfl,Qd,Qd⟩
set_option genInjectivity false in
structure Adr where
 waits_of:Addr
 fd_waits_of:FuncData
 waits_behind:Addr
 fd_waits_behind:FuncData
 waits_for_cards:Addr
 fd_waits_for_cards:FuncData
 waits_by:Addr
 fd_waits_by:FuncData
 numbers_by_store:Addr
 fd_numbers_by_store:FuncData
 all_deeds:Addr
 fd_all_deeds:FuncData
 blocks_within:Addr
 fd_blocks_within:FuncData
 names_in:Addr
 fd_names_in:FuncData
 read_by_set:Addr
 fd_read_by_set:FuncData
 touched:Addr
 fd_touched:FuncData
 other_cards_in:Addr
 fd_other_cards_in:FuncData
 put_card:Addr
 fd_put_card:FuncData
 get_card:Addr
 fd_get_card:FuncData
 cards_of:Addr
 fd_cards_of:FuncData
 deeds_of:Addr
 fd_deeds_of:FuncData
 counted:Addr
 fd_counted:FuncData
 written:Addr
 fd_written:FuncData
 written_rounds:Addr
 fd_written_rounds:FuncData
 written_once:Addr
 fd_written_once:FuncData
 owner_of:Addr
 fd_owner_of:FuncData
 check_gets:Addr
 fd_check_gets:FuncData
 _law_cell_at:Addr
 fd__law_cell_at:FuncData
 _law_mixed:Addr
 fd__law_mixed:FuncData
 _law_whole:Addr
 fd__law_whole:FuncData
 _law_letters:Addr
 fd__law_letters:FuncData
 _law_spelt:Addr
 fd__law_spelt:FuncData
 _law_pool:Addr
 fd__law_pool:FuncData
 _law_simple:Addr
 fd__law_simple:FuncData
 _law_opened:Addr
 fd__law_opened:FuncData
 _law_block:Addr
 fd__law_block:FuncData
 _law_moves:Addr
 fd__law_moves:FuncData
 _law_reach:Addr
 fd__law_reach:FuncData
 _law_length:Addr
 fd__law_length:FuncData
 _law_program:Addr
 fd__law_program:FuncData
 _law_ahead:Addr
 fd__law_ahead:FuncData
 _law_number:Addr
 fd__law_number:FuncData
 _law_owned:Addr
 fd__law_owned:FuncData
 _law_meets:Addr
 fd__law_meets:FuncData
 _law_paper:Addr
 fd__law_paper:FuncData
 _law_words:Addr
 fd__law_words:FuncData
 law:Addr
 fd_law:FuncData
 tk_INTO:Tok
 tk_OUT_OF:Tok
 LOOPS:Addr
 LOOKERS:Addr
 tk_OUTLET:Tok
 OUTLET_KEEPERS:Addr
 tk_MOST_DEEDS:Tok
structure Tx (P:Program) (w:World) (K:W.Frag) (mg:Str->Option Value) (a:Adr):Prop where
 F_waits_of:Fun K "waits_of" "waits_of" kX a.waits_of a.fd_waits_of
 b_waits_of:aU K a.fd_waits_of ["deeds","stores"] []
 m_waits_of:mg "waits_of"=some (.ref a.waits_of)
 F_waits_behind:Fun K "waits_behind" "waits_behind" jt a.waits_behind a.fd_waits_behind
 b_waits_behind:aU K a.fd_waits_behind ["waits_by_cards","deeds","stores"] []
 m_waits_behind:mg "waits_behind"=some (.ref a.waits_behind)
 F_waits_for_cards:Fun K "waits_for_cards" "waits_for_cards" kY a.waits_for_cards a.fd_waits_for_cards
 b_waits_for_cards:aU K a.fd_waits_for_cards ["deeds"] []
 m_waits_for_cards:mg "waits_for_cards"=some (.ref a.waits_for_cards)
 F_waits_by:Fun K "waits_by" "waits_by" jr a.waits_by a.fd_waits_by
 b_waits_by:aU K a.fd_waits_by ["cards","kind","owners"] []
 m_waits_by:mg "waits_by"=some (.ref a.waits_by)
 F_numbers_by_store:Fun K "numbers_by_store" "numbers_by_store" lF a.numbers_by_store a.fd_numbers_by_store
 b_numbers_by_store:aU K a.fd_numbers_by_store ["deeds","place"] []
 m_numbers_by_store:mg "numbers_by_store"=some (.ref a.numbers_by_store)
 F_all_deeds:Fun K "all_deeds" "all_deeds" lP a.all_deeds a.fd_all_deeds
 b_all_deeds:aU K a.fd_all_deeds ["block"] []
 m_all_deeds:mg "all_deeds"=some (.ref a.all_deeds)
 F_blocks_within:Fun K "blocks_within" "blocks_within" lO a.blocks_within a.fd_blocks_within
 b_blocks_within:aU K a.fd_blocks_within ["deed"] []
 m_blocks_within:mg "blocks_within"=some (.ref a.blocks_within)
 F_names_in:Fun K "names_in" "names_in" ju a.names_in a.fd_names_in
 b_names_in:aU K a.fd_names_in ["deed"] []
 m_names_in:mg "names_in"=some (.ref a.names_in)
 F_read_by_set:Fun K "read_by_set" "read_by_set" l9 a.read_by_set a.fd_read_by_set
 b_read_by_set:aU K a.fd_read_by_set ["deed"] []
 m_read_by_set:mg "read_by_set"=some (.ref a.read_by_set)
 F_touched:Fun K "touched" "touched" kZ a.touched a.fd_touched
 b_touched:aU K a.fd_touched ["block"] []
 m_touched:mg "touched"=some (.ref a.touched)
 F_other_cards_in:Fun K "other_cards_in" "other_cards_in" lE a.other_cards_in a.fd_other_cards_in
 b_other_cards_in:aU K a.fd_other_cards_in ["deed"] []
 m_other_cards_in:mg "other_cards_in"=some (.ref a.other_cards_in)
 F_put_card:Fun K "put_card" "put_card" ly a.put_card a.fd_put_card
 b_put_card:aU K a.fd_put_card ["store"] []
 m_put_card:mg "put_card"=some (.ref a.put_card)
 F_get_card:Fun K "get_card" "get_card" lH a.get_card a.fd_get_card
 b_get_card:aU K a.fd_get_card ["store"] []
 m_get_card:mg "get_card"=some (.ref a.get_card)
 F_cards_of:Fun K "cards_of" "cards_of" lN a.cards_of a.fd_cards_of
 b_cards_of:aU K a.fd_cards_of ["program"] []
 m_cards_of:mg "cards_of"=some (.ref a.cards_of)
 F_deeds_of:Fun K "deeds_of" "deeds_of" lJ a.deeds_of a.fd_deeds_of
 b_deeds_of:aU K a.fd_deeds_of ["program"] []
 m_deeds_of:mg "deeds_of"=some (.ref a.deeds_of)
 F_counted:Fun K "counted" "counted" lK a.counted a.fd_counted
 b_counted:aU K a.fd_counted ["block"] []
 m_counted:mg "counted"=some (.ref a.counted)
 F_written:Fun K "written" "written" kW a.written a.fd_written
 b_written:aU K a.fd_written ["block"] []
 m_written:mg "written"=some (.ref a.written)
 F_written_rounds:Fun K "written_rounds" "written_rounds" kT a.written_rounds a.fd_written_rounds
 b_written_rounds:aU K a.fd_written_rounds ["rounds","body"] []
 m_written_rounds:mg "written_rounds"=some (.ref a.written_rounds)
 F_written_once:Fun K "written_once" "written_once" kU a.written_once a.fd_written_once
 b_written_once:aU K a.fd_written_once ["deed"] []
 m_written_once:mg "written_once"=some (.ref a.written_once)
 F_owner_of:Fun K "owner_of" "owner_of" lD a.owner_of a.fd_owner_of
 b_owner_of:aU K a.fd_owner_of ["kind","cards"] []
 m_owner_of:mg "owner_of"=some (.ref a.owner_of)
 F_check_gets:Fun K "check_gets" "check_gets" lM a.check_gets a.fd_check_gets
 b_check_gets:aU K a.fd_check_gets ["deeds"] []
 m_check_gets:mg "check_gets"=some (.ref a.check_gets)
 F__law_cell_at:Fun K "_law_cell_at" "_law_cell_at" m9 a._law_cell_at a.fd__law_cell_at
 b__law_cell_at:aU K a.fd__law_cell_at ["_law_script","_law_k"] []
 m__law_cell_at:mg "_law_cell_at"=some (.ref a._law_cell_at)
 F__law_mixed:Fun K "_law_mixed" "_law_mixed" m6 a._law_mixed a.fd__law_mixed
 b__law_mixed:aU K a.fd__law_mixed ["_law_cell","_law_k"] []
 m__law_mixed:mg "_law_mixed"=some (.ref a._law_mixed)
 F__law_whole:Fun K "_law_whole" "_law_whole" lQ a._law_whole a.fd__law_whole
 b__law_whole:aU K a.fd__law_whole ["_law_found"] []
 m__law_whole:mg "_law_whole"=some (.ref a._law_whole)
 F__law_letters:Fun K "_law_letters" "_law_letters" m7 a._law_letters a.fd__law_letters
 b__law_letters:aU K a.fd__law_letters ["_law_number_here","_law_size"] []
 m__law_letters:mg "_law_letters"=some (.ref a._law_letters)
 F__law_spelt:Fun K "_law_spelt" "_law_spelt" lR a._law_spelt a.fd__law_spelt
 b__law_spelt:aU K a.fd__law_spelt ["_law_word"] []
 m__law_spelt:mg "_law_spelt"=some (.ref a._law_spelt)
 F__law_pool:Fun K "_law_pool" "_law_pool" lV a._law_pool a.fd__law_pool
 b__law_pool:aU K a.fd__law_pool ["_law_cell","_law_many"] []
 m__law_pool:mg "_law_pool"=some (.ref a._law_pool)
 F__law_simple:Fun K "_law_simple" "_law_simple" lT a._law_simple a.fd__law_simple
 b__law_simple:aU K a.fd__law_simple ["_law_number_here","_law_names","_law_rooms","_law_shut"] []
 m__law_simple:mg "_law_simple"=some (.ref a._law_simple)
 F__law_opened:Fun K "_law_opened" "_law_opened" lY a._law_opened a.fd__law_opened
 b__law_opened:aU K a.fd__law_opened ["_law_state","_law_number_here","_law_x","_law_most"] []
 m__law_opened:mg "_law_opened"=some (.ref a._law_opened)
 F__law_block:Fun K "_law_block" "_law_block" ma a._law_block a.fd__law_block
 b__law_block:aU K a.fd__law_block ["_law_cells","_law_names","_law_rooms","_law_most","_law_low"] []
 m__law_block:mg "_law_block"=some (.ref a._law_block)
 F__law_moves:Fun K "_law_moves" "_law_moves" m5 a._law_moves a.fd__law_moves
 b__law_moves:aU K a.fd__law_moves ["_law_block_here"] []
 m__law_moves:mg "_law_moves"=some (.ref a._law_moves)
 F__law_reach:Fun K "_law_reach" "_law_reach" lU a._law_reach a.fd__law_reach
 b__law_reach:aU K a.fd__law_reach ["_law_moves_here","_law_q"] []
 m__law_reach:mg "_law_reach"=some (.ref a._law_reach)
 F__law_length:Fun K "_law_length" "_law_length" m8 a._law_length a.fd__law_length
 b__law_length:aU K a.fd__law_length ["_law_pick","_law_peak"] []
 m__law_length:mg "_law_length"=some (.ref a._law_length)
 F__law_program:Fun K "_law_program" "_law_program" jv a._law_program a.fd__law_program
 b__law_program:aU K a.fd__law_program ["_law_script","_law_most"] []
 m__law_program:mg "_law_program"=some (.ref a._law_program)
 F__law_ahead:Fun K "_law_ahead" "_law_ahead" iH a._law_ahead a.fd__law_ahead
 b__law_ahead:aU K a.fd__law_ahead ["_law_deeds"] []
 m__law_ahead:mg "_law_ahead"=some (.ref a._law_ahead)
 F__law_number:Fun K "_law_number" "_law_number" lZ a._law_number a.fd__law_number
 b__law_number:aU K a.fd__law_number ["_law_deeds"] []
 m__law_number:mg "_law_number"=some (.ref a._law_number)
 F__law_owned:Fun K "_law_owned" "_law_owned" lX a._law_owned a.fd__law_owned
 b__law_owned:aU K a.fd__law_owned ["_law_pairs","_law_card"] []
 m__law_owned:mg "_law_owned"=some (.ref a._law_owned)
 F__law_meets:Fun K "_law_meets" "_law_meets" jw a._law_meets a.fd__law_meets
 b__law_meets:aU K a.fd__law_meets ["_law_deeds","_law_ahead_here","_law_numbers","_law_lengths","_law_k","_law_wait"] []
 m__law_meets:mg "_law_meets"=some (.ref a._law_meets)
 F__law_paper:Fun K "_law_paper" "_law_paper" lW a._law_paper a.fd__law_paper
 b__law_paper:aU K a.fd__law_paper ["_law_one","_law_many"] []
 m__law_paper:mg "_law_paper"=some (.ref a._law_paper)
 F__law_words:Fun K "_law_words" "_law_words" iG a._law_words a.fd__law_words
 b__law_words:aU K a.fd__law_words ["_law_deeds","_law_ahead_here","_law_numbers","_law_lengths","_law_k"] []
 m__law_words:mg "_law_words"=some (.ref a._law_words)
 F_law:Fun K "law" "law" gu a.law a.fd_law
 b_law:aU K a.fd_law ["_law_script"] []
 m_law:mg "law"=some (.ref a.law)
 z_bool:mg "bool"=none
 z_dict:mg "dict"=none
 z_enumerate:mg "enumerate"=none
 z_int:mg "int"=none
 z_isinstance:mg "isinstance"=none
 z_len:mg "len"=none
 z_list:mg "list"=none
 z_max:mg "max"=none
 z_min:mg "min"=none
 z_range:mg "range"=none
 z_reversed:mg "reversed"=none
 z_set:mg "set"=none
 z_sorted:mg "sorted"=none
 z_str:mg "str"=none
 z_tuple:mg "tuple"=none
 z_zip:mg "zip"=none
 c_INTO:mg "INTO"=some (.int 3 a.tk_INTO)
 c_OUT_OF:mg "OUT_OF"=some (.int 4 a.tk_OUT_OF)
 c_LOOPS:mg "LOOPS"=some (.ref a.LOOPS)
 t_LOOPS:∀H:Hp,SqT K H a.LOOPS [.str "while",.str "repeat"]
 c_LOOKERS:mg "LOOKERS"=some (.ref a.LOOKERS)
 t_LOOKERS:∀H:Hp,SqT K H a.LOOKERS [.str "if",.str "while"]
 c_OUTLET:mg "OUTLET"=some (.str ">" a.tk_OUTLET)
 c_OUTLET_KEEPERS:mg "OUTLET_KEEPERS"=some (.ref a.OUTLET_KEEPERS)
 t_OUTLET_KEEPERS:∀H:Hp,SqT K H a.OUTLET_KEEPERS [.str "give",.str "while"]
 c_MOST_DEEDS:mg "MOST_DEEDS"=some (.int 2000 a.tk_MOST_DEEDS)
theorem Tx.r_INTO {P:Program}{w:World}{K:W.Frag}{mg:Str->Option Value}{a:Adr}(_:Tx P w K mg a):ax (.int 3) (.int 3 a.tk_INTO):=⟨_,rfl⟩
theorem Tx.r_OUT_OF {P:Program}{w:World}{K:W.Frag}{mg:Str->Option Value}{a:Adr}(_:Tx P w K mg a):ax (.int 4) (.int 4 a.tk_OUT_OF):=⟨_,rfl⟩
theorem Tx.r_LOOPS {P:Program}{w:World}{K:W.Frag}{mg:Str->Option Value}{a:Adr}(_:Tx P w K mg a):ax (.ref a.LOOPS) (.ref a.LOOPS):=rfl
theorem Tx.r_LOOKERS {P:Program}{w:World}{K:W.Frag}{mg:Str->Option Value}{a:Adr}(_:Tx P w K mg a):ax (.ref a.LOOKERS) (.ref a.LOOKERS):=rfl
theorem Tx.r_OUTLET {P:Program}{w:World}{K:W.Frag}{mg:Str->Option Value}{a:Adr}(_:Tx P w K mg a):ax (.str ">") (.str ">" a.tk_OUTLET):=⟨_,rfl⟩
theorem Tx.r_OUTLET_KEEPERS {P:Program}{w:World}{K:W.Frag}{mg:Str->Option Value}{a:Adr}(_:Tx P w K mg a):ax (.ref a.OUTLET_KEEPERS) (.ref a.OUTLET_KEEPERS):=rfl
theorem Tx.r_MOST_DEEDS {P:Program}{w:World}{K:W.Frag}{mg:Str->Option Value}{a:Adr}(_:Tx P w K mg a):ax (.int 2000) (.int 2000 a.tk_MOST_DEEDS):=⟨_,rfl⟩
inductive pI (vs:List V) (H:Hp) (Q:VK) (E:XK):Prop
 |mk (q:Str) (h0_:vs=[.str q]) (h1_:q.length<=1000) (h2_:Q (.str (q++(">":Str))) H):pI vs H Q E
inductive pM (vs:List V) (H:Hp) (Q:VK) (E:XK):Prop
 |mk (q:Str) (h0_:vs=[.str q]) (h1_:q.length<=1000) (h2_:Q (.str (q++("<":Str))) H):pM vs H Q E
inductive pL (vs:List V) (H:Hp) (Q:VK) (E:XK):Prop
 |mk (H0:Hp) (v:V) (d:a8) (h0_:vs=[v]) (h1_:a9 H0 H) (h2_:RD H0 v d) (h3_:∀H' l,a9 H H'->H l=none->H' l=some (.lst (d.names.map V.str))->Q (.ref l) H'):pL vs H Q E
inductive pR (vs:List V) (H:Hp) (Q:VK) (E:XK):Prop
 |mk (H0:Hp) (v:V) (d:a8) (h0_:vs=[v]) (h1_:a9 H0 H) (h2_:RD H0 v d) (h3_:∀H' l bs,a9 H H'->H l=none->H' l=some (.lst (bs.map V.ref))->RLs H0 bs d.inner->Q (.ref l) H'):pR vs H Q E
inductive pJ (vs:List V) (H:Hp) (Q:VK) (E:XK):Prop
 |mk (H0:Hp) (v:V) (d:a8) (h0_:vs=[v]) (h1_:a9 H0 H) (h2_:RD H0 v d) (h3_:(∀k∈d.others,k.length<=1000)) (h4_:∀H' l,a9 H H'->H l=none->H' l=some (.lst (d.others.map V.str))->Q (.ref l) H'):pJ vs H Q E
inductive pS (n:Nat) (vs:List V) (H:Hp) (Q:VK) (E:XK):Prop
 |mk (H0:Hp) (b:Addr) (ds:List a8) (h0_:vs=[.ref b]) (h1_:a9 H0 H) (h2_:RL H0 b ds) (h3_:aH ds<n) (h4_:(ah ds).length<=1000) (h5_:∀H' l us,a9 H H'->H l=none->H' l=some (.lst us)->RDs H0 us (ah ds)->Q (.ref l) H'):pS n vs H Q E
inductive kJ (vs:List V) (H:Hp) (Q:VK) (E:XK):Prop
 |mk (H0:Hp) (b:Addr) (ds:List a8) (C:List Str) (h0_:vs=[.ref b]) (h1_:a9 H0 H) (h2_:RL H0 b ds) (h3_:aH ds<=12) (h4_:(ah ds).length<=1000) (h5_:(∀k∈cards ds,k∈C)) (h6_:C.length<64) (h7_:(∀k∈C,k.length<=1000) /\
 ∀H' l zs,a9 H H'->H l=none->H' l=some (.lst (zs.map V.str))->zs.Nodup->(∀k,k∈zs↔k∈cards ds)->PyProof.Rows.sortedS zs=true->Q (.ref l) H'):kJ vs H Q E
inductive rL (K:W.Frag) (vs:List V) (H:Hp) (Q:VK) (E:XK):Prop
 |mk (l:Addr) (ns:List Int) (k:Int) (h0_:vs=[.ref l,.int k]) (h1_:SqL K H l (ns.map V.int)) (h2_:ns.length<=1000) (h3_:0<=k) (h4_:Q (.int (ns.getD k.toNat 0)) H):rL K vs H Q E
inductive rF (vs:List V) (H:Hp) (Q:VK) (E:XK):Prop
 |mk (c k:Int) (h0_:vs=[.int c,.int k]) (h1_:0<=k) (h2_:k<=200) (h3_:Q (.int (ar c k)) H):rF vs H Q E
inductive rJ (vs:List V) (H:Hp) (Q:VK) (E:XK):Prop
 |mk (n k:Int) (h0_:vs=[.int n,.int k]) (h1_:0<=k) (h2_:k<=200) (h3_:Q (.str (ci n k.toNat)) H):rJ vs H Q E
inductive pW (vs:List V) (H:Hp) (Q:VK) (E:XK):Prop
 |mk (w:Str) (h0_:vs=[.str w]) (h1_:w.length<=200) (h2_:∀H',a9 H H'->Q (.str (cE w)) H'):pW vs H Q E
inductive rg (vs:List V) (H:Hp) (Q:VK) (E:XK):Prop
 |mk (c k:Int) (h0_:vs=[.int c,.int k]) (h1_:0<=k) (h2_:k<=50) (h3_:∀H' l,a9 H H'->H l=none->H' l=some (.lst ((cq c k.toNat).map V.str))->Q (.ref l) H'):rg vs H Q E
inductive pX (K:W.Frag) (vs:List V) (H:Hp) (Q:VK) (E:XK):Prop
 |mk (n:Int) (ln lr:Addr) (names rooms:List Str) (shut:Bool) (h0_:vs=[.int n,.ref ln,.ref lr,.bl shut]) (h1_:SqL K H ln (names.map V.str)) (h2_:SqL K H lr (rooms.map V.str)) (h3_:0<names.length) (h4_:names.length<=100) (h5_:rooms.length<=100) (h6_:0<=n) (h7_:n<2147483648 /\
 ∀H' p xs,a9 H H'->H p=none->H' p=some (.tup xs)->(∀H0:Hp,H0 p=some (.tup xs)->RD H0 (.ref p) (bA n names rooms shut))->Q (.ref p) H'):pX K vs H Q E
inductive rB (vs:List V) (H:Hp) (Q:VK) (E:XK):Prop
 |mk (Hb H0:Hp) (S s0 s1 s2 s3:Addr) (x:Fz) (r:List Fz) (n most:Int) (nm:Str) (h0_:vs=[.ref S,.int n,.str nm,.int most]) (h1_:ZI Hb H0 H S s0 s1 s2 s3 (x::r)) (h2_:(x::r).length<=1000) (h3_:x.f.ds.length<=1000) (h4_:0<=n) (h5_:n<2147483648) (h6_:0<=most) (h7_:most<=1000) (h8_:0<=x.f.times) (h9_:x.f.times<=100000 /\
 ∀H' y,ZI Hb H0 H' S s0 s1 s2 s3 (y::x::r)->y.f::x.f::r.map (·.f)=eL n nm most (x.f::r.map (·.f))->Q .non H'):rB vs H Q E
inductive rM (K:W.Frag) (vs:List V) (H:Hp) (Q:VK) (E:XK):Prop
 |mk (lc ln lr:Addr) (cells:List Int) (names rooms:List Str) (most low:Int) (h0_:vs=[.ref lc,.ref ln,.ref lr,.int most,.int low]) (h1_:SqL K H lc (cells.map V.int)) (h2_:SqL K H ln (names.map V.str)) (h3_:SqL K H lr (rooms.map V.str)) (h4_:cells.length<=100) (h5_:0<names.length) (h6_:names.length<=100) (h7_:rooms.length<=100) (h8_:0<=most) (h9_:most<=1000 /\
 ∀H' l,a9 H H'->H l=none->RL H' l (cW names rooms most low cells)->Q (.ref l) H'):rM K vs H Q E
inductive pQ (vs:List V) (H:Hp) (Q:VK) (E:XK):Prop
 |mk (p la ls lb:Addr) (asks:List Str) (ss:List (Str×Int)) (ds:List a8) (us:List V) (C:List Str) (h0_:vs=[.ref p]) (h1_:RP H p asks ss ds la ls lb us) (h2_:aH ds<=12) (h3_:(ah ds).length<=1000) (h4_:asks.length<=100) (h5_:ss.length<=100) (h6_:(∀s∈ss,s.1.length<=1000)) (h7_:(∀k∈dP asks ss ds,k∈C)) (h8_:C.length<64) (h9_:(∀k∈C,k.length<=1000) /\
 ∀H' l zs,a9 H H'->H' l=some (.lst (zs.map V.str))->zs.Nodup->(∀k,k∈zs↔k∈dP asks ss ds)->PyProof.Rows.sortedS zs=true->Q (.ref l) H'):pQ vs H Q E
noncomputable def jA (x:Str) (va vb:Val):List Str:=srt ((va.names++vb.names).filter fun y=>!decide (y=x))
inductive pH (vs:List V) (H:Hp) (Q:VK) (E:XK):Prop
 |mk (H0:Hp) (p:Addr) (x sg:Str) (va vb:Val) (C:List Str) (h0_:vs=[.ref p]) (h1_:a9 H0 H) (h2_:H0 p=some (.tup [.str "set",.str x,va.v,.str sg,vb.v])) (h3_:(∀k∈(a8.set x va sg vb).names,k∈C)) (h4_:C.length<64) (h5_:∀H' l,a9 H H'->H' l=some (.lst ((jA x va vb).map V.str))->Q (.ref l) H'):pH vs H Q E
inductive kK (vs:List V) (H:Hp) (Q:VK) (E:XK):Prop
 |mk (kd:Str) (l:Addr) (zs:List Str) (h0_:vs=[.str kd,.ref l]) (h1_:H l=some (.lst (zs.map V.str))) (h2_:∀H' v,a9 H H'->cu H' v ⟨kd,zs,[],none,none⟩->Q v H'):kK vs H Q E
inductive pC (vs:List V) (H:Hp) (Q:VK) (E:XK):Prop
 |mk (H0:Hp) (v:V) (d:a8) (C:List Str) (h0_:vs=[v]) (h1_:a9 H0 H) (h2_:RD H0 v d) (h3_:d.depth<=12) (h4_:d.flat.length<=1000) (h5_:(∀k∈cards [d],k∈C)) (h6_:C.length<64) (h7_:(∀k∈C,k.length<=1000)) (h8_:(∀n b,d≠.rep n b)) (h9_:∀H' u,a9 H H'->cu H' u (aL d)->Q u H'):pC vs H Q E
inductive pP (vs:List V) (H:Hp) (Q:VK) (E:XK):Prop
 |mk (l:Addr) (us:List V) (rs:List Row) (h0_:vs=[.ref l]) (h1_:H l=some (.lst us)) (h2_:aT H us rs) (h3_:rs.length<=2000) (h4_:Fed rs) (h5_:(∀r∈rs,dA r)) (h6_:∀H',a9 H H'->Q .non H'):pP vs H Q E
def vI (C:List Str) (ds:List a8):Prop:=aH ds<=12/\(ah ds).length<=1000/\(∀k∈cards ds,k∈C)/\C.length<64/\(∀k∈C,k.length<=1000)/\bH e7 ds
inductive kI (n:Nat) (vs:List V) (H:Hp) (Q:VK) (E:XK):Prop
 |mk (H0:Hp) (b:Addr) (ds:List a8) (C:List Str) (h0_:vs=[.ref b]) (h1_:a9 H0 H) (h2_:RL H0 b ds) (h3_:aH ds<n) (h4_:vI C ds) (h5_:(aG ds).length<=2000) (h6_:∀H' l us,a9 H H'->H l=none->H' l=some (.lst us)->aT H' us (aG ds)->Q (.ref l) H'):kI n vs H Q E
inductive pB (n:Nat) (vs:List V) (H:Hp) (Q:VK) (E:XK):Prop
 |mk (H0:Hp) (r:Int) (b:Addr) (ds:List a8) (C:List Str) (h0_:vs=[.int r,.ref b]) (h1_:0<=r) (h2_:r<=99) (h3_:a9 H0 H) (h4_:RL H0 b ds) (h5_:aH ds<n) (h6_:vI C ds) (h7_:(bD (.rep r ds)).length<=2000) (h8_:∀H' l us,a9 H H'->H l=none->H' l=some (.lst us)->aT H' us (bD (.rep r ds))->Q (.ref l) H'):pB n vs H Q E
inductive pO (n:Nat) (vs:List V) (H:Hp) (Q:VK) (E:XK):Prop
 |mk (H0:Hp) (b:Addr) (ds:List a8) (h0_:vs=[.ref b]) (h1_:a9 H0 H) (h2_:RL H0 b ds) (h3_:aH ds<n) (h4_:bH e7 ds) (h5_:Q (.int (aG ds).length) H):pO n vs H Q E
inductive pN (vs:List V) (H:Hp) (Q:VK) (E:XK):Prop
 |mk (p la ls lb:Addr) (asks:List Str) (ss:List (Str×Int)) (ds:List a8) (us:List V) (C:List Str) (h0_:vs=[.ref p]) (h1_:RP H p asks ss ds la ls lb us) (h2_:aH ds<=12) (h3_:(ah ds).length<=1000) (h4_:asks.length<=100) (h5_:ss.length<=100) (h6_:(∀s∈ss,s.1.length<=1000)) (h7_:(∀k∈dP asks ss ds,k∈C)) (h8_:C.length<64) (h9_:(∀k∈C,k.length<=1000)) (h10_:bH e7 ds) (h11_:(aG ds).length<2000) (h12_:Fed (aG ds) /\
 ∀H' l us',a9 H H'->H' l=some (.lst us')->aT H' us' (aG ds++[db asks ss ds])->Q (.ref l) H'):pN vs H Q E
inductive pV (vs:List V) (H:Hp) (Q:VK) (E:XK):Prop
 |mk (i:Int) (h0_:vs=[.int i]) (h1_:Q (.bl true) H):pV vs H Q E
inductive rK (vs:List V) (H:Hp) (Q:VK) (E:XK):Prop
 |mk (i j:Int) (h0_:vs=[.int i,.int j]) (h1_:Q (.int (iZ i j)) H):rK vs H Q E
inductive pY (vs:List V) (H:Hp) (Q:VK) (E:XK):Prop
 |mk (l:Addr) (us:List V) (ms:List (Str×Str)) (q:Str) (h0_:vs=[.ref l,.str q]) (h1_:H l=some (.lst us)) (h2_:RMs H us ms) (h3_:ms.length<=1000) (h4_:∀p,H p=none->Q (.ref p) (upd H p (.tup [.int (-(aS q ms).2.1),.int ((aS q ms).2.2-(aS q ms).2.1)]))):pY vs H Q E
inductive rE (n:Nat) (vs:List V) (H:Hp) (Q:VK) (E:XK):Prop
 |mk (H0:Hp) (b:Addr) (ds:List a8) (h0_:vs=[.ref b]) (h1_:a9 H0 H) (h2_:RL H0 b ds) (h3_:aH ds<n) (h4_:bH e7 ds) (h5_:(bn ds).length<=1000) (h6_:∀H' l us,a9 H H'->H l=none->H' l=some (.lst us)->RMs H' us (bn ds)->Q (.ref l) H'):rE n vs H Q E
def bJ (ns:List Int):List Str:=cq (ns.getD 0 0) (2+ar (ns.getD 1 0) 1 % 4).toNat
def bL (ns:List Int):List Str:=(bJ ns).dropLast
def ay (ns:List Int):List Str:=cq (if ar (ns.getD 1 0) 2 % 3=0 then ns.getD 0 0 else ns.getD 1 0) (if ar (ns.getD 1 0) 3 % 5<3 then ar (ns.getD 1 0) 3 % 5 else 3).toNat
def dM (ns:List Int) (lo hi:Nat):List Int:=(ns.drop (min lo ns.length)).take (min hi ns.length-min lo ns.length)
def aJ (ns:List Int):List a8:=cW (bL ns) (ay ns) 3 7 (dM ns 3 63)
def cM (ns:List Int):List Str:=dY (bJ ns) (ns.getD 2 0) (bJ ns).length
def bh (ns:List Int):List (Str×Str):=bn (aJ ns)
def aO (ns:List Int):List a8:=bS (ay ns) (bL ns) (bh ns) (ay ns).length
def aN (ns:List Int):List (Str×Int):=dC (ay ns) (ns.getD 2 0) (bh ns) (ay ns).length
inductive pZ (K:W.Frag) (vs:List V) (H:Hp) (Q:VK) (E:XK):Prop
 |mk (l:Addr) (ns:List Int) (h0_:vs=[.ref l,.int 3]) (h1_:SqL K H l (ns.map V.int)) (h2_:ns.length<=63) (h3_:aH (aJ ns)<=12) (h4_:bH e7 (aJ ns)) (h5_:(bh ns).length<=240) (h6_:(ah (aJ ns)).length<=60) (h7_:∀H' p la ls lb us,a9 H H'->RP H' p (cM ns) (aN ns) (aO ns++aJ ns) la ls lb us->Q (.ref p) H'):pZ K vs H Q E
inductive pF (vs:List V) (H:Hp) (Q:VK) (E:XK):Prop
 |mk (p d:Addr) (cs:List Str) (kd:Str) (kvs:List (Key×V)) (ow:Str->Option Int) (h0_:vs=[.ref p,.str kd,.ref d]) (h1_:H p=some (.tup (cs.map V.str))) (h2_:H d=some (.dK kvs)) (h3_:ii kvs ow) (h4_:cs.length<=10000) (h5_:∀H' l us,a9 H H'->H l=none->H' l=some (.lst us)->RWs H' us (dX ow kd cs)->Q (.ref l) H'):pF vs H Q E
inductive pE (vs:List V) (H:Hp) (Q:VK) (E:XK):Prop
 |mk (l:Addr) (us:List V) (rs:List Row) (h0_:vs=[.ref l]) (h1_:H l=some (.lst us)) (h2_:aT H us rs) (h3_:rs.length<=1000) (h4_:(∀r∈rs,r.owns.length<=4000/\r.reads.length<=4000)) (h5_:∀H' lw ws,a9 H H'->H lw=none->H' lw=some (.lst ws)->RWL H' ws (cF rs rs.length)->Q (.ref lw) H'):pE vs H Q E
inductive pK (vs:List V) (H:Hp) (Q:VK) (E:XK):Prop
 |mk (l:Addr) (us:List V) (rs:List Row) (pl:Int) (f:Row->Option Str) (h0_:vs=[.ref l,.int pl]) (h1_:H l=some (.lst us)) (h2_:aT H us rs) (h3_:rs.length<=1000) (h4_:((pl=3/\f=Row.into)\/(pl=4/\f=Row.outof))) (h5_:∀H' d kvs,a9 H H'->H' d=some (.dK kvs)->RN H' kvs (ap f rs)->(∀(q:Str) (p:Addr),aK kvs (.inr q)=some (.ref p)->H p=none)->Q (.ref d) H'):pK vs H Q E
inductive pG (vs:List V) (H:Hp) (Q:VK) (E:XK):Prop
 |mk (lc l ls:Addr) (ws us sv:List V) (W:List (List Wat)) (rs:List Row) (ss:List (Str×Int)) (h0_:vs=[.ref lc,.ref l,.ref ls]) (h1_:H lc=some (.lst ws)) (h2_:RWL H ws W) (h3_:W.length=rs.length) (h4_:Sm W 8000) (h5_:H l=some (.lst us)) (h6_:aT H us rs) (h7_:rs.length<=1000) (h8_:H ls=some (.lst sv)) (h9_:RSs H sv ss) (h10_:ss.length<=100) (h11_:(∀s∈ss,0<=s.2)) (h12_:∀H' lw ws',a9 H H'->H' lw=some (.lst ws')->RWL H' ws' (cX rs ss W ss.length)->Q (.ref lw) H'):pG vs H Q E
inductive pD (vs:List V) (H:Hp) (Q:VK) (E:XK):Prop
 |mk (l ls:Addr) (us sv:List V) (rs:List Row) (ss:List (Str×Int)) (h0_:vs=[.ref l,.ref ls]) (h1_:H l=some (.lst us)) (h2_:aT H us rs) (h3_:rs.length<=1000) (h4_:(∀r∈rs,r.owns.length<=4000/\r.reads.length<=4000)) (h5_:H ls=some (.lst sv)) (h6_:RSs H sv ss) (h7_:ss.length<=100) (h8_:(∀s∈ss,0<=s.2)) (h9_:∀H' lw ws',a9 H H'->H' lw=some (.lst ws')->RWL H' ws' (cX rs ss (cF rs rs.length) ss.length)->Q (.ref lw) H'):pD vs H Q E
def fu (rs:List Row) (i:Nat) (r:Row):List Wat:=match r.outof with
 |some q=>[((ap Row.into rs q).getD (ap Row.outof (rs.take i) q).length 0,"thing",q)]
 |none=>[]
def gh (rs:List Row) (n:Int) (i:Nat) (q:Str):Int:=((ap Row.into (rs.take i) q).length:Int)-n
def eI (rs:List Row) (ln:Str->Int) (i:Nat) (r:Row):List Wat:=match r.into with
 |some q=>if 0<=gh rs (ln q) i q then[(awaited rs.length (ap Row.outof rs q) (gh rs (ln q) i q).toNat,"room",q)]else[]
 |none=>[]
def dU (rs:List Row) (ln:Str->Int) (i:Nat) (r:Row):List Wat:=fj (rs.take i) r++fu rs i r++eI rs ln i r
def cnO (rs:List Row) (c:Str):Nat:=(rs.flatMap Row.owns).count c
def CO (kvs:List (Key×V)) (rs:List Row):Prop:=∀c:Str,(aK kvs (.inr c)).getD (.int 0)=.int (cnO rs c)
inductive RCs (H:Hp) (rs:List Row):List V->List Str->Prop
 |nil:RCs H rs [] []
 |cons {p:Addr}{vs:List V}{c:Str}{cs:List Str}:H p=some (.tup [.str c,.int (cnO rs c)])->RCs H rs vs cs->RCs H rs (.ref p::vs) (c::cs)
def RAt (H:Hp) (rs:List Row) (i:Nat) (r:Row) (v:V):Prop:=∃p l1 l2 u1 u2,v=.ref p/\H p=some (.tup [.ref l1,.ref l2])/\H l1=some (.lst u1)/\H l2=some (.lst u2)/\RCs H (rs.take i) u1 r.owns/\RCs H (rs.take i) u2 r.reads
def RAs (H:Hp) (us:List V) (rs:List Row) (n:Nat):Prop:=us.length=n/\∀i r,i<n->rs[i]?=some r->∃v,us[i]?=some v/\RAt H rs i r v
inductive rN (vs:List V) (H:Hp) (Q:VK) (E:XK):Prop
 |mk (l:Addr) (us:List V) (rs:List Row) (h0_:vs=[.ref l]) (h1_:H l=some (.lst us)) (h2_:aT H us rs) (h3_:rs.length<=1000) (h4_:(∀r∈rs,r.owns.length<=4000/\r.reads.length<=4000)) (h5_:∀H' l' us',a9 H H'->H' l'=some (.lst us')->RAs H' us' rs rs.length->Q (.ref l') H'):rN vs H Q E
def bM (r:Row):List NK:=[r.into,r.outof]
def nmR (rs:List Row) (k:List NK):Nat:=(rs.map bM).count k
def bw (rs:List Row) (i:Nat):Int:=match rs[i]? with
 |some r=>(nmR (rs.take i) (bM r):Nat)
 |none=>0
inductive rD (vs:List V) (H:Hp) (Q:VK) (E:XK):Prop
 |mk (l:Addr) (us:List V) (rs:List Row) (h0_:vs=[.ref l]) (h1_:H l=some (.lst us)) (h2_:aT H us rs) (h3_:rs.length<=1000) (h4_:∀H' l',a9 H H'->H l'=none->H' l'=some (.lst ((List.range rs.length).map fun i:Nat=>V.int (bw rs i)))->Q (.ref l') H'):rD vs H Q E
inductive rk (vs:List V) (H:Hp) (Q:VK) (E:XK):Prop
 |mk (l:Addr) (us:List V) (rs:List Row) (cs:List Str) (c:Str) (h0_:vs=[.ref l,.str c]) (h1_:H l=some (.lst us)) (h2_:RCs H rs us cs) (h3_:Q (if c∈cs then .int (cnO rs c)else .non) H):rk vs H Q E
def io (rs:List Row) (ln:Str->Int) (i:Nat) (r:Row):List (Str×Str):=(r.owns.filter fun c=>decide (0<cnO (rs.take i) c)).map (fun c=>(("card":Str),c))++(r.reads.filter fun c=>decide (0<cnO (rs.take i) c)).map (fun c=>(("copy":Str),c))++(match r.outof with|some q=>[(("thing":Str),q)]|none=>[])++(match r.into with|some q=>if ln q<=bw rs i then[(("room":Str),q)]else[]|none=>[])
def RPr (H:Hp) (us:List V) (ps:List (Str×Str)):Prop:=R2s (fun v (p:Str×Str)=>∃t,v=.ref t/\H t=some (.tup [.str p.1,.str p.2])) us ps
structure ik (H:Hp) (l la lnn d:Addr) (us as:List V) (rs:List Row) (kvs:List (Key×V)) (ln:Str->Int):Prop where
 hl:H l=some (.lst us)
 rr:aT H us rs
 ha:H la=some (.lst as)
 ra:RAs H as rs rs.length
 hn:H lnn=some (.lst ((List.range rs.length).map fun i:Nat=>V.int (bw rs i)))
 hd:H d=some (.dK kvs)
 few:rs.length<=1000
 sm:∀r∈rs,r.owns.length<=4000/\r.reads.length<=4000
 dl:∀r∈rs,∀q,r.into=some q->aK kvs (.inr q)=some (.int (ln q))
inductive pU (vs:List V) (H:Hp) (Q:VK) (E:XK):Prop
 |mk (l la lnn d:Addr) (us as:List V) (rs:List Row) (kvs:List (Key×V)) (ln:Str->Int) (i:Nat) (r:Row) (h0_:vs=[.ref l,.ref la,.ref lnn,.ref d,.int i]) (h1_:ik H l la lnn d us as rs kvs ln) (h2_:rs[i]?=some r) (h3_:∀H' l' ps,a9 H H'->H' l'=some (.lst ps)->RPr H' ps (io rs ln i r)->Q (.ref l') H'):pU vs H Q E
inductive rh (vs:List V) (H:Hp) (Q:VK) (E:XK):Prop
 |mk (p:Addr) (j:Nat) (k n:Str) (m:Nat) (h0_:vs=[.ref p,.int m]) (h1_:H p=some (.tup [.int j,.str k,.str n])) (h2_:j<m) (h3_:Q (.bl true) H):rh vs H Q E
inductive fk (rs:List Row) (ln:Str->Int) (i:Nat) (r:Row):Wat->Prop
 |card {j:Nat}{c:Str}{r':Row}:rs[j]?=some r'->c∈r.owns->c∈r'.owns->cnO (rs.take i) c=cnO (rs.take j) c+1->fk rs ln i r ((j:Int),"card",c)
 |copy {j:Nat}{c:Str}{r':Row}:rs[j]?=some r'->c∈r.reads->c∈r'.owns->cnO (rs.take i) c=cnO (rs.take j) c+1->fk rs ln i r ((j:Int),"copy",c)
 |thing {j:Nat}{q:Str}{r':Row}:rs[j]?=some r'->r.outof=some q->r'.into=some q->bw rs j=bw rs i->fk rs ln i r ((j:Int),"thing",q)
 |room {j:Nat}{q:Str}{r':Row}:rs[j]?=some r'->r.into=some q->ln q<=bw rs i->r'.outof=some q->bw rs j=bw rs i-ln q->fk rs ln i r ((j:Int),"room",q)
 |last {j:Nat}{q:Str}{r':Row}:rs[j]?=some r'->r.into=some q->ln q<=bw rs i->r'.outof≠some q->j+1=rs.length->((rs.filter fun x=>decide (x.outof=some q)).length:Int)<=bw rs i-ln q->fk rs ln i r ((j:Int),"room",q)
inductive rH (vs:List V) (H:Hp) (Q:VK) (E:XK):Prop
 |mk (l la lnn d p:Addr) (us as:List V) (rs:List Row) (kvs:List (Key×V)) (ln:Str->Int) (i:Nat) (r:Row) (e:Wat) (h0_:vs=[.ref l,.ref la,.ref lnn,.ref d,.int i,.ref p]) (h1_:ik H l la lnn d us as rs kvs ln) (h2_:rs[i]?=some r) (h3_:H p=some (eQ e)) (h4_:fk rs ln i r e) (h5_:∀H',a9 H H'->Q (.bl true) H'):rH vs H Q E
inductive ix (K:W.Frag) (vs:List V) (H:Hp) (Q:VK) (E:XK):Prop
 |mk (a:Addr) (ns:List Int) (h0_:vs=[.ref a]) (h1_:SqL K H a (ns.map V.int)) (h2_:ns.length<=63) (h3_:(∀n∈ns,Builtin.Int.intBits n<=2 ^ 20)) (h4_:kn H) (h5_:∀H',Q (.bl true) H'):ix K vs H Q E
theorem ln1:1<=sizeLine:=Qk
theorem ln2:2<=sizeLine:=Qk
theorem ln3:3<=sizeLine:=Qk
theorem ln5:5<=sizeLine:=Qk
section
variable {P:Program}{w:World}{K:W.Frag}{mg:Str->Option Value}{base:Heap}{a:Adr}
theorem mN (T:Tx P w K mg a):aR P w K mg base CX0 1 a.put_card a.fd_put_card ["store"] pI:=by
 refine T.F_put_card.ok y0 (fun vs H Q E h=>?_) (fun cdv A outer s H vs Q E hr h=>?_)
 ·obtain⟨_,rfl,_⟩:=h
  rfl
 obtain⟨q,rfl,hq,k⟩:=h
 refine⟨_,(ak (aE (ao gx (pq 0) aQ))),?_⟩
 exact⟨_,rfl,_,_,rfl,rfl,bu (m:=1001) (by show q.length+1<=1001;omega),k⟩
theorem mP (T:Tx P w K mg a):aR P w K mg base CX0 1 a.get_card a.fd_get_card ["store"] pM:=by
 refine T.F_get_card.ok y3 (fun vs H Q E h=>?_) (fun cdv A outer s H vs Q E hr h=>?_)
 ·obtain⟨_,rfl,_⟩:=h
  rfl
 obtain⟨q,rfl,hq,k⟩:=h
 refine⟨_,(ak (aE (ao gx (pq 0) aQ))),?_⟩
 exact⟨_,rfl,_,_,rfl,rfl,bu (m:=1001) (by show q.length+1<=1001;omega),k⟩
theorem A7 (T:Tx P w K mg a):aR P w K mg base CX0 1 a.blocks_within a.fd_blocks_within ["deed"] pR:=by
 refine T.F_blocks_within.ok y4 (fun vs H Q E h=>?_) (fun cdv A outer s H vs Q E hr h=>?_)
 ·obtain⟨_,_,_,rfl,_⟩:=h
  rfl
 obtain⟨H0,v,d,rfl,e0,hd,k⟩:=h
 refine⟨_,(ai (aP (aA aX (aj au (pq 0) ac (fun _ _=>rfl)) aQ (az _)) (ak (aE (bc (aa (aj au (pq 0) ac (fun _ _=>rfl)) (aa (aj au (pq 0) ac (fun _ _=>rfl)) ae))))) aZ)
  (ai (aP (aA i0 (aj au (pq 0) ac (fun _ _=>rfl)) (eV rfl T.c_LOOPS T.r_LOOPS) (by with_unfolding_all rfl)) (ak (aE (bc (aa (aj au (pq 0) ac (fun _ _=>rfl)) ae)))) aZ)
  (ak (aE (bc ae))))),?_⟩
 have nil:∀p,H p=none->d.inner=[]->Q (.ref p) (upd H p (.lst [])):=fun p hp z=>k _ p [] (a9.new hp _) hp ag (by rw[z];exact .nil)
 have one:∀p b bs,H p=none->d.inner=[bs]->RL H0 b bs->Q (.ref p) (upd H p (.lst [.ref b])):=fun p b bs hp z hb=>k _ p [b] (a9.new hp _) hp ag (by rw[z];exact .cons hb .nil)
 cases hd with
 |cond h h1 h2=>
  refine⟨_,rfl,_,_,_,_,rfl,rfl,SqT.of (e0 _ _ h),rfl,rfl,_,rfl,?_⟩
  walk_at "yes"
  refine⟨_,rfl,_,_,_,_,rfl,rfl,SqT.of (e0 _ _ h),rfl,_,rfl,_,_,_,_,rfl,rfl,SqT.of (e0 _ _ h),rfl,ln2,fun p hp=>?_⟩
  exact k _ p [_,_] (a9.new hp _) hp ag (.cons h1 (.cons h2 .nil))
 |whl h h1=>
  refine⟨_,rfl,_,_,_,_,rfl,rfl,SqT.of (e0 _ _ h),rfl,rfl,_,rfl,?_⟩
  walk_at "no"
  refine⟨_,rfl,_,_,_,_,rfl,rfl,SqT.of (e0 _ _ h),rfl,_,_,rfl,.inr (T.t_LOOPS _),rfl,rfl,_,rfl,?_⟩
  walk_at "yes"
  exact⟨_,rfl,_,_,_,_,rfl,rfl,SqT.of (e0 _ _ h),rfl,ln1,fun p hp=>one p _ _ hp rfl h1⟩
 |rep h h1=>
  refine⟨_,rfl,_,_,_,_,rfl,rfl,SqT.of (e0 _ _ h),rfl,rfl,_,rfl,?_⟩
  walk_at "no"
  refine⟨_,rfl,_,_,_,_,rfl,rfl,SqT.of (e0 _ _ h),rfl,_,_,rfl,.inr (T.t_LOOPS _),rfl,rfl,_,rfl,?_⟩
  walk_at "yes"
  exact⟨_,rfl,_,_,_,_,rfl,rfl,SqT.of (e0 _ _ h),rfl,ln1,fun p hp=>one p _ _ hp rfl h1⟩
 |set h=>
  refine⟨_,rfl,_,_,_,_,rfl,rfl,SqT.of (e0 _ _ h),rfl,rfl,_,rfl,?_⟩
  walk_at "no"
  refine⟨_,rfl,_,_,_,_,rfl,rfl,SqT.of (e0 _ _ h),rfl,_,_,rfl,.inr (T.t_LOOPS _),rfl,rfl,_,rfl,?_⟩
  walk_at "no"
  exact⟨qt _,fun p hp=>nil p hp rfl⟩
 |put h=>
  refine⟨_,rfl,_,_,_,_,rfl,rfl,SqT.of (e0 _ _ h),rfl,rfl,_,rfl,?_⟩
  walk_at "no"
  refine⟨_,rfl,_,_,_,_,rfl,rfl,SqT.of (e0 _ _ h),rfl,_,_,rfl,.inr (T.t_LOOPS _),rfl,rfl,_,rfl,?_⟩
  walk_at "no"
  exact⟨qt _,fun p hp=>nil p hp rfl⟩
 |get h=>
  refine⟨_,rfl,_,_,_,_,rfl,rfl,SqT.of (e0 _ _ h),rfl,rfl,_,rfl,?_⟩
  walk_at "no"
  refine⟨_,rfl,_,_,_,_,rfl,rfl,SqT.of (e0 _ _ h),rfl,_,_,rfl,.inr (T.t_LOOPS _),rfl,rfl,_,rfl,?_⟩
  walk_at "no"
  exact⟨qt _,fun p hp=>nil p hp rfl⟩
 |give h=>
  refine⟨_,rfl,_,_,_,_,rfl,rfl,SqT.of (e0 _ _ h),rfl,rfl,_,rfl,?_⟩
  walk_at "no"
  refine⟨_,rfl,_,_,_,_,rfl,rfl,SqT.of (e0 _ _ h),rfl,_,_,rfl,.inr (T.t_LOOPS _),rfl,rfl,_,rfl,?_⟩
  walk_at "no"
  exact⟨qt _,fun p hp=>nil p hp rfl⟩
theorem zX (T:Tx P w K mg a):aR P w K mg base CX0 2 a.other_cards_in a.fd_other_cards_in ["deed"] pJ:=by
 refine T.F_other_cards_in.ok y2 (fun vs H Q E h=>?_) (fun cdv A outer s H vs Q E hr h=>?_)
 ·obtain⟨_,_,_,rfl,_⟩:=h
  rfl
 obtain⟨H0,v,d,rfl,e0,hd,hk,k⟩:=h
 refine⟨_,(ai (aP (aA aX (aj au (pq 0) ac (fun _ _=>rfl)) aQ (az _)) (ak (aE (bc (aa (aC (mN T) (hr.mono Qk) rfl T.m_put_card T.F_put_card.kp T.b_put_card .nil aD (aa (aj au (pq 0) ac (fun _ _=>rfl)) ae)) ae)))) aZ)
  (ai (aP (aA aX (aj au (pq 0) ac (fun _ _=>rfl)) aQ (az _)) (ak (aE (bc (aa (aC (mP T) (hr.mono Qk) rfl T.m_get_card T.F_get_card.kp T.b_get_card .nil aD (aa (aj au (pq 0) ac (fun _ _=>rfl)) ae)) ae)))) aZ)
  (ak (aE (gz (aA i0 (aj au (pq 0) ac (fun _ _=>rfl)) (eV rfl T.c_OUTLET_KEEPERS T.r_OUTLET_KEEPERS) (by with_unfolding_all rfl)) (bc (aa (eV rfl T.c_OUTLET T.r_OUTLET) ae)) (bc ae)))))),?_⟩
 have fin:∀p xs,H p=none->d.others.map V.str=xs->Q (.ref p) (upd H p (.lst xs)):=fun p xs hp z=>by
  subst z
  exact k _ p (a9.new hp _) hp ag
 have bP:∀q z:Str,q++z∈d.others->q.length<=1000:=fun q z hq=>by
  have:=hk _ hq
  rw[d8]at this
  omega
 cases hd with
 |put h=>
  refine⟨_,rfl,_,_,_,_,rfl,rfl,SqT.of (e0 _ _ h),rfl,rfl,_,rfl,?_⟩
  walk_at "yes"
  exact⟨_,rfl,_,_,_,_,rfl,rfl,SqT.of (e0 _ _ h),rfl,_,rfl,bP _ ">" (by simp[a8.others]),ln1,fun p hp=>fin p _ hp rfl⟩
 |get h=>
  refine⟨_,rfl,_,_,_,_,rfl,rfl,SqT.of (e0 _ _ h),rfl,rfl,_,rfl,?_⟩
  walk_at "no"
  refine⟨_,rfl,_,_,_,_,rfl,rfl,SqT.of (e0 _ _ h),rfl,rfl,_,rfl,?_⟩
  walk_at "yes"
  exact⟨_,rfl,_,_,_,_,rfl,rfl,SqT.of (e0 _ _ h),rfl,_,rfl,bP _ "<" (by simp[a8.others]),ln1,fun p hp=>fin p _ hp rfl⟩
 |give h=>
  refine⟨_,rfl,_,_,_,_,rfl,rfl,SqT.of (e0 _ _ h),rfl,rfl,_,rfl,?_⟩
  walk_at "no"
  refine⟨_,rfl,_,_,_,_,rfl,rfl,SqT.of (e0 _ _ h),rfl,rfl,_,rfl,?_⟩
  walk_at "no"
  refine⟨_,rfl,_,_,_,_,rfl,rfl,SqT.of (e0 _ _ h),rfl,_,_,rfl,.inr (T.t_OUTLET_KEEPERS _),rfl,rfl,_,rfl,?_⟩
  walk_at "yes"
  exact⟨Qk,fun p hp=>fin p _ hp rfl⟩
 |whl h h1=>
  refine⟨_,rfl,_,_,_,_,rfl,rfl,SqT.of (e0 _ _ h),rfl,rfl,_,rfl,?_⟩
  walk_at "no"
  refine⟨_,rfl,_,_,_,_,rfl,rfl,SqT.of (e0 _ _ h),rfl,rfl,_,rfl,?_⟩
  walk_at "no"
  refine⟨_,rfl,_,_,_,_,rfl,rfl,SqT.of (e0 _ _ h),rfl,_,_,rfl,.inr (T.t_OUTLET_KEEPERS _),rfl,rfl,_,rfl,?_⟩
  walk_at "yes"
  exact⟨Qk,fun p hp=>fin p _ hp rfl⟩
 |set h=>
  refine⟨_,rfl,_,_,_,_,rfl,rfl,SqT.of (e0 _ _ h),rfl,rfl,_,rfl,?_⟩
  walk_at "no"
  refine⟨_,rfl,_,_,_,_,rfl,rfl,SqT.of (e0 _ _ h),rfl,rfl,_,rfl,?_⟩
  walk_at "no"
  refine⟨_,rfl,_,_,_,_,rfl,rfl,SqT.of (e0 _ _ h),rfl,_,_,rfl,.inr (T.t_OUTLET_KEEPERS _),rfl,rfl,_,rfl,?_⟩
  walk_at "no"
  exact⟨Qk,fun p hp=>fin p _ hp rfl⟩
 |cond h h1 h2=>
  refine⟨_,rfl,_,_,_,_,rfl,rfl,SqT.of (e0 _ _ h),rfl,rfl,_,rfl,?_⟩
  walk_at "no"
  refine⟨_,rfl,_,_,_,_,rfl,rfl,SqT.of (e0 _ _ h),rfl,rfl,_,rfl,?_⟩
  walk_at "no"
  refine⟨_,rfl,_,_,_,_,rfl,rfl,SqT.of (e0 _ _ h),rfl,_,_,rfl,.inr (T.t_OUTLET_KEEPERS _),rfl,rfl,_,rfl,?_⟩
  walk_at "no"
  exact⟨Qk,fun p hp=>fin p _ hp rfl⟩
 |rep h h1=>
  refine⟨_,rfl,_,_,_,_,rfl,rfl,SqT.of (e0 _ _ h),rfl,rfl,_,rfl,?_⟩
  walk_at "no"
  refine⟨_,rfl,_,_,_,_,rfl,rfl,SqT.of (e0 _ _ h),rfl,rfl,_,rfl,?_⟩
  walk_at "no"
  refine⟨_,rfl,_,_,_,_,rfl,rfl,SqT.of (e0 _ _ h),rfl,_,_,rfl,.inr (T.t_OUTLET_KEEPERS _),rfl,rfl,_,rfl,?_⟩
  walk_at "no"
  exact⟨Qk,fun p hp=>fin p _ hp rfl⟩
def kD (vs:List V):List V:=vs.filter fun v=>match v with|.str _=>true|_=>false
theorem tu (T:Tx P w K mg a):aR P w K mg base CX0 1 a.names_in a.fd_names_in ["deed"] pL:=by
 refine T.F_names_in.ok rZ (fun vs H Q E h=>?_) (fun cdv A outer s H vs Q E hr h=>?_)
 ·obtain⟨_,_,_,rfl,_⟩:=h
  rfl
 obtain⟨H0,v,d,rfl,e0,hd,k⟩:=h
 refine⟨_,(ai (aq (i:=1) rZ.nd rfl (Or.inl rfl) (aj au (pq 0) ac (fun _ _=>rfl)))
  (ai (aP (aA aX (pq 1) aQ (az _)) (ak (aE (iU (k:=1) (Nc:=["word"]) (js:=[]) (show bZ (aI ju) ["deed","kind"] _ 1 ["word"] []from bZ.mk rfl (by decide +kernel) (by decide +kernel) (by decide +kernel) rfl (by decide +kernel)) rfl (hZ (be (aa (aj au (pq 0) ac (fun _ _=>rfl)) (aa (aj au (pq 0) ac (fun _ _=>rfl)) (aa (aj au (pq 0) ac (fun _ _=>rfl)) ae))))) (fun _ _ _ _ _=>(aM (i:=0) (show List.Nodup (["word"]:List Str)from by decide +kernel) rfl (Or.inl rfl))) (fun _ _ _ _ _=>(hV (eU (ba (yO (K:=K) rfl) rfl T.z_isinstance PyProof.Rows.Boot.«isinstance» (aa (pq 0) (aa (fV (v:=.ty "str") rfl T.z_str PyProof.Rows.Boot.«str» rfl) ae)))))) (fun _ _ _ _ _=>(pq 0))))) aZ)
  (ai (aP (aA aX (pq 1) aQ (az _)) (ak (aE (bc ae))) aZ)
  (ak (aE (gz (aA i0 (pq 1) (eV rfl T.c_LOOKERS T.r_LOOKERS) (by with_unfolding_all rfl)) (bc (aa (aj au (pq 0) ac (fun _ _=>rfl)) ae)) (bc (aa (aj au (pq 0) (cU cO ac) (fun _ _=>rfl)) ae)))))))),?_⟩
 have fin:∀H1 p xs,a9 H H1->H1 p=none->d.names.map V.str=xs->Q (.ref p) (upd H1 p (.lst xs)):=fun H1 p xs h1 hp z=>by
  subst z
  refine k _ p (h1.trans (a9.new hp _)) ?_ ag
  cases q:H p with
  |none=>rfl
  |some o=>rw[h1 _ _ q]at hp;cases hp
 cases hd with
 |set h=>
  rename_i p x va sg vb
  refine⟨_,rfl,_,_,_,_,rfl,rfl,SqT.of (e0 _ _ h),rfl,?_⟩
  refine⟨_,rfl,rfl,_,rfl,?_⟩
  walk_at "yes"
  refine⟨_,rfl,_,_,_,_,rfl,rfl,SqT.of (e0 _ _ h),rfl,_,rfl,_,_,_,_,rfl,rfl,SqT.of (e0 _ _ h),rfl,_,rfl,_,_,_,_,rfl,rfl,SqT.of (e0 _ _ h),rfl,ln3,fun t ht=>⟨t,rfl,⟨_,SqT.of ag⟩,?_⟩⟩
  refine nR (K:=K) (a:=t) (xs:=[.str x,va.v,vb.v]) (fun i ys σ H2=>H2=upd H t (.tup [.str x,va.v,vb.v])/\(∃u,σ=[u])/\ys=kD (([.str x,va.v,vb.v]:List V).take i)) ⟨rfl,⟨_,rfl⟩,rfl⟩ ?_ ln3 ?_ ?_ ?_
  ·rintro i ys σ H2 hi ⟨_,_,rfl⟩
   refine qy (List.length_filter_le _ _) ?_
   rw[qK]
   omega
  ·rintro i ys σ H2 ⟨rfl,_⟩
   exact SqT.of ag
  ·rintro i z ys σ H2 hz ⟨rfl,⟨u,rfl⟩,rfl⟩
   have hz':z=.str x\/z=va.v\/z=vb.v:=by simpa using qz hz
   have kind:(∃y,z=.str y)\/∃n,z=.int n:=by
    rcases hz' with rfl|rfl|rfl
    ·exact .inl ⟨_,rfl⟩
    ·cases va<;>simp[Val.v]
    ·cases vb<;>simp[Val.v]
   rcases kind with⟨y,rfl⟩|⟨n,rfl⟩
   ·refine⟨_,rfl,_,_,_,true,rfl,.str y,rfl,_,rfl,?_⟩
    refine nB ⟨_,rfl,rfl,⟨_,rfl⟩,?_⟩
    rw[qr,hz]
    simp[kD]
   ·refine⟨_,rfl,_,_,_,false,rfl,.int n,rfl,_,rfl,?_⟩
    refine i7 ⟨rfl,⟨_,rfl⟩,?_⟩
    rw[qr,hz]
    simp[kD]
  ·rintro ys σ H2 ⟨rfl,_,rfl⟩ D hD
   refine fin _ D _ (a9.new ht _) hD ?_
   cases va<;>cases vb<;>rfl
 |rep h h1=>
  refine⟨_,rfl,_,_,_,_,rfl,rfl,SqT.of (e0 _ _ h),rfl,?_⟩
  refine⟨_,rfl,rfl,_,rfl,?_⟩
  walk_at "no"
  refine⟨_,rfl,rfl,_,rfl,?_⟩
  walk_at "yes"
  exact⟨qt _,fun p hp=>fin H p _ (a9.refl H) hp rfl⟩
 |cond h h1 h2=>
  refine⟨_,rfl,_,_,_,_,rfl,rfl,SqT.of (e0 _ _ h),rfl,?_⟩
  refine⟨_,rfl,rfl,_,rfl,?_⟩
  walk_at "no"
  refine⟨_,rfl,rfl,_,rfl,?_⟩
  walk_at "no"
  refine⟨_,rfl,_,_,rfl,.inr (T.t_LOOKERS _),rfl,rfl,_,rfl,?_⟩
  walk_at "yes"
  exact⟨_,rfl,_,_,_,_,rfl,rfl,SqT.of (e0 _ _ h),rfl,ln1,fun p hp=>fin H p _ (a9.refl H) hp rfl⟩
 |whl h h1=>
  refine⟨_,rfl,_,_,_,_,rfl,rfl,SqT.of (e0 _ _ h),rfl,?_⟩
  refine⟨_,rfl,rfl,_,rfl,?_⟩
  walk_at "no"
  refine⟨_,rfl,rfl,_,rfl,?_⟩
  walk_at "no"
  refine⟨_,rfl,_,_,rfl,.inr (T.t_LOOKERS _),rfl,rfl,_,rfl,?_⟩
  walk_at "yes"
  exact⟨_,rfl,_,_,_,_,rfl,rfl,SqT.of (e0 _ _ h),rfl,ln1,fun p hp=>fin H p _ (a9.refl H) hp rfl⟩
 |put h=>
  refine⟨_,rfl,_,_,_,_,rfl,rfl,SqT.of (e0 _ _ h),rfl,?_⟩
  refine⟨_,rfl,rfl,_,rfl,?_⟩
  walk_at "no"
  refine⟨_,rfl,rfl,_,rfl,?_⟩
  walk_at "no"
  refine⟨_,rfl,_,_,rfl,.inr (T.t_LOOKERS _),rfl,rfl,_,rfl,?_⟩
  walk_at "no"
  exact⟨_,rfl,_,rfl,_,_,_,_,rfl,rfl,SqT.of (e0 _ _ h),rfl,ln1,fun p hp=>fin H p _ (a9.refl H) hp rfl⟩
 |get h=>
  refine⟨_,rfl,_,_,_,_,rfl,rfl,SqT.of (e0 _ _ h),rfl,?_⟩
  refine⟨_,rfl,rfl,_,rfl,?_⟩
  walk_at "no"
  refine⟨_,rfl,rfl,_,rfl,?_⟩
  walk_at "no"
  refine⟨_,rfl,_,_,rfl,.inr (T.t_LOOKERS _),rfl,rfl,_,rfl,?_⟩
  walk_at "no"
  exact⟨_,rfl,_,rfl,_,_,_,_,rfl,rfl,SqT.of (e0 _ _ h),rfl,ln1,fun p hp=>fin H p _ (a9.refl H) hp rfl⟩
 |give h=>
  refine⟨_,rfl,_,_,_,_,rfl,rfl,SqT.of (e0 _ _ h),rfl,?_⟩
  refine⟨_,rfl,rfl,_,rfl,?_⟩
  walk_at "no"
  refine⟨_,rfl,rfl,_,rfl,?_⟩
  walk_at "no"
  refine⟨_,rfl,_,_,rfl,.inr (T.t_LOOKERS _),rfl,rfl,_,rfl,?_⟩
  walk_at "no"
  exact⟨_,rfl,_,rfl,_,_,_,_,rfl,rfl,SqT.of (e0 _ _ h),rfl,ln1,fun p hp=>fin H p _ (a9.refl H) hp rfl⟩
theorem Bx {ds:List a8}{i:Nat}{d:a8}(h:ds[i]?=some d):ah (ds.take (i+1))=ah (ds.take i)++(d::d.inner.flatMap ah):=by
 rw[qr,h,dS]
 show _++ah [d]=_
 rw[ah,ah,qx,gH]
theorem ke:∀{ds:List a8}{i:Nat}{d:a8},ds[i]?=some d->d.depth<=aH ds
 |[],i,d,h=>by simp at h
 |x::r,0,d,h=>by simp at h;subst h;rw[aH];omega
 |x::r,i+1,d,h=>by
  simp only[List.getElem?_cons_succ]at h
  have:=ke h
  rw[aH]
  omega
theorem Bj {d:a8}{j:Nat}{b:List a8}(h:d.inner[j]?=some b):aH b<d.depth:=by
 have hm:=qz h
 cases d<;>simp[a8.inner]at hm
 ·rcases hm with rfl|rfl<;>rw[a8.depth]<;>omega
 ·subst hm;rw[a8.depth];omega
 ·subst hm;rw[a8.depth];omega
theorem uz {ds:List a8}{i:Nat}:(ah (ds.take i)).length<=(ah ds).length:=by
 have:ah ds=ah (ds.take i)++ah (ds.drop i):=by rw[<- dS,List.take_append_drop]
 rw[this,qc]
 omega
theorem A8 (T:Tx P w K mg a):∀n:Nat,aR P w K mg base CX0 (n+2) a.all_deeds a.fd_all_deeds ["block"] (pS n):=by
 intro n
 induction n with
 |zero=>
  refine T.F_all_deeds.ok iE (fun vs H Q E h=>?_) (fun cdv A outer s H vs Q E hr h=>?_)
  ·obtain⟨_,_,_,rfl,_⟩:=h
   rfl
  ·obtain⟨_,_,_,_,_,_,h0,_⟩:=h
   exact absurd h0 (Nat.not_lt_zero _)
 |succ n ih=>
  refine T.F_all_deeds.ok iE (fun vs H Q E h=>?_) (fun cdv A outer s H vs Q E hr h=>?_)
  ·obtain⟨_,_,_,rfl,_⟩:=h
   rfl
  obtain⟨H0,b,ds,rfl,e0,hb,hdp,hfl,k⟩:=h
  refine⟨_,(ai (aq (i:=1) iE.nd rfl (Or.inl rfl) (bc ae))
   (ai (bU PassesOwn.never rfl (cT (pq 0)) (aM (i:=2) iE.nd rfl (Or.inl rfl))
   (ai (bC (bF qh qv qw ck (pq 1) (aa (pq 2) ae)))
   (ak (bU PassesOwn.never rfl (cT (aC (A7 T) (hr.mono Qo) rfl T.m_blocks_within T.F_blocks_within.kp T.b_blocks_within .nil aD (aa (pq 2) ae))) (aM (i:=3) iE.nd rfl (Or.inl rfl))
   (ak (bC (bF qh PySem.F.slot_list_extend PySem.F.type_list_extend fZ (pq 1) (aa (aC ih (hr.mono Qo) rfl T.m_all_deeds T.F_all_deeds.kp T.b_all_deeds .nil aD (aa (pq 3) ae)) ae))))))))
   (ak (aE (pq 1))))),?_⟩
  obtain⟨hb1,hds⟩:=hb
  rename_i vs
  refine⟨qt _,fun f hf=>?_⟩
  have hf0:=a9.none e0 hf
  refine⟨_,rfl,b,rfl,⟨_,SqL.of ((a9.new hf _) _ _ (e0 _ _ hb1))⟩,?_⟩
  refine dw (K:=K) (a:=b) (xs:=vs) (fun i σ H2=>∃us v2 v3,σ=[some (.ref b),some (.ref f),v2,v3]/\a9 H H2/\H2 f=some (.lst us)/\RDs H0 us (ah (ds.take i))) ⟨[],_,_,rfl,a9.new hf _,ag,.nil⟩ ?_ ?_ ?_
  ·rintro i σ H2 _ ⟨us,v2,v3,_,s2,_,_⟩
   exact SqL.of (s2 _ _ (e0 _ _ hb1))
  ·rintro i x σ H2 hx ⟨us,v2,v3,rfl,s2,hf2,hus⟩
   obtain⟨d,hd,hrd⟩:=hds.at i x hx
   have lu:us.length<=1000:=by rw[hus.len];exact qy uz hfl
   refine⟨_,rfl,.inl ⟨rfl,_,SqL.of hf2⟩,_,rfl,f,_,_,rfl,rfl,hf2,bu (m:=1001) Qo,?_⟩
   have s3:a9 H0 (upd H2 f (.lst (us++[x]))):=a9.over (e0.trans s2) hf0
   refine⟨_,rfl,H0,x,d,rfl,s3,hrd,fun H4 l bs s4 nl hl hbs=>⟨l,rfl,⟨_,SqL.of hl⟩,?_⟩⟩
   have lf:l≠f:=fun z=>by rw[z,ag]at nl;cases nl
   have all:ah (ds.take (i+1))=ah (ds.take i)++([d]++d.inner.flatMap ah):=Bx hd
   refine dw (K:=K) (a:=l) (xs:=bs.map V.ref) (fun j σ H5=>∃us' v3,σ=[some (.ref b),some (.ref f),some x,v3]/\a9 H H5/\H5 f=some (.lst us')/\H5 l=some (.lst (bs.map V.ref))/\RDs H0 us' (ah (ds.take i)++([d]++(d.inner.take j).flatMap ah)))
    ⟨us++[x],_,rfl,(a9.over s2 hf).trans s4,s4 _ _ ag,hl,hus.app (.cons hrd .nil)⟩ ?_ ?_ ?_
   ·rintro j σ H5 _ ⟨us',v3,_,_,_,hl5,_⟩
    exact SqL.of hl5
   ·rintro j z σ H5 hz ⟨us',v3,rfl,s5,hf5,hl5,hus'⟩
    rw[qE]at hz
    obtain⟨bj,hbj,rfl⟩:=qP.mp hz
    obtain⟨dj,hdj,hrj⟩:=hbs.at j bj hbj
    have dd:=ke hd
    have di:=Bj hdj
    have st:(d.inner.take (j+1)).flatMap ah=(d.inner.take j).flatMap ah++ah dj:=by
     rw[qr,hdj,qU]
     simp
    have pre:(ah (ds.take i)++([d]++(d.inner.take (j+1)).flatMap ah)).length<=1000:=by
     have e:d.inner.flatMap ah=(d.inner.take (j+1)).flatMap ah++(d.inner.drop (j+1)).flatMap ah:=by rw[<- qU,List.take_append_drop]
     have:=uz (ds:=ds) (i:=i+1)
     rw[all,e]at this
     simp only[qc]at this ⊢
     omega
    rw[st]at pre
    simp only[qc]at pre
    have lu':us'.length<=1000:=by rw[hus'.len];simp only[qc];omega
    refine⟨_,rfl,.inl ⟨rfl,_,SqL.of hf5⟩,_,rfl,H0,bj,dj,rfl,e0.trans s5,hrj,Qo,Qo,fun H6 l6 us6 s6 n6 h6 r6=>?_⟩
    have f6:l6≠f:=fun z=>by rw[z,hf5]at n6;cases n6
    refine⟨f,l6,_,_,rfl,rfl,s6 _ _ hf5,h6,bu (m:=2000) (by rw[r6.len];omega),?_⟩
    refine⟨us'++us6,_,rfl,a9.over (s5.trans s6) hf,ag,?_,?_⟩
    ·rw[af lf]
     exact s6 _ _ hl5
    ·rw[st,<- qN,<- qN]
     rw[<- qN]at hus'
     exact hus'.app r6
   ·rintro σ H5 ⟨us',v3,rfl,s5,hf5,hl5,hus'⟩
    refine⟨us',_,_,rfl,s5,hf5,?_⟩
    rw[all]
    rw[qa,hbs.len,qH]at hus'
    exact hus'
  ·rintro σ H2 ⟨us,v2,v3,rfl,s2,hf2,hus⟩
   rw[hds.len,qH]at hus
   exact⟨_,rfl,k H2 f us s2 hf hf2 hus⟩
theorem BP (d:a8):d.cards.length<=3:=by
 cases d with
 |set x a sg b=>cases a<;>cases b<;>simp[a8.cards,a8.names,a8.others,Val.names]
 |_=>simp[a8.cards,a8.names,a8.others]
theorem ig:∀(l:List a8),(l.flatMap a8.cards).length<=3 * l.length
 |[]=>by simp
 |d::r=>by
  have h1:=BP d
  have h2:=ig r
  rw[qF,qc,qA]
  omega
theorem mL (T:Tx P w K mg a):aR P w K mg base CX0 16 a.touched a.fd_touched ["block"] kJ:=by
 refine T.F_touched.ok kR (fun vs H Q E h=>?_) (fun cdv A outer s H vs Q E hr h=>?_)
 ·obtain⟨_,_,_,_,rfl,_⟩:=h
  rfl
 obtain⟨H0,b,ds,C,rfl,e0,hb,hdp,hfl,hC,h64,hlen,k⟩:=h
 refine⟨_,(ai (aq (i:=1) kR.nd rfl (Or.inl rfl) (bc ae))
  (ai (bU PassesOwn.never rfl (cT (aC (A8 T 13) (hr.mono Qk) rfl T.m_all_deeds T.F_all_deeds.kp T.b_all_deeds .nil aD (aa (pq 0) ae))) (aM (i:=2) kR.nd rfl (Or.inl rfl))
  (ai (bC (bF qh PySem.F.slot_list_extend PySem.F.type_list_extend fZ (pq 1) (aa (aC (tu T) (hr.mono Qk) rfl T.m_names_in T.F_names_in.kp T.b_names_in .nil aD (aa (pq 2) ae)) ae)))
  (ak (bC (bF qh PySem.F.slot_list_extend PySem.F.type_list_extend fZ (pq 1) (aa (aC (zX T) (hr.mono Qk) rfl T.m_other_cards_in T.F_other_cards_in.kp T.b_other_cards_in .nil aD (aa (pq 2) ae)) ae))))))
  (ak (aE (ba (nW rfl) rfl T.z_sorted PyProof.Rows.Boot.«sorted» (aa (eE (kh rfl) rfl T.z_set PyProof.Rows.Boot.«set» (aa (pq 1) ae)) ae)))))),?_⟩
 refine⟨qt _,fun c hc=>?_⟩
 have c0:=a9.none e0 hc
 refine⟨_,rfl,H0,b,ds,rfl,a9.over e0 c0,hb,Qo,hfl,fun H2 l us s2 nl hl hus=>⟨l,rfl,⟨_,SqL.of hl⟩,?_⟩⟩
 have lc:l≠c:=fun z=>by rw[z,ag]at nl;cases nl
 have few:∀i,(((ah ds).take i).flatMap a8.cards).length<=3000:=fun i=>by
  have:=ig ((ah ds).take i)
  rw[qK]at this
  omega
 refine dw (K:=K) (a:=l) (xs:=us) (fun i σ H3=>∃v,σ=[some (.ref b),some (.ref c),v]/\a9 H H3/\H3 c=some (.lst ((((ah ds).take i).flatMap a8.cards).map V.str))/\H3 l=some (.lst us)) ⟨_,rfl,(a9.new hc _).trans s2,s2 _ _ ag,hl⟩ ?_ ?_ ?_
 ·rintro i σ H3 _ ⟨v,_,_,_,h⟩
  exact SqL.of h
 ·rintro i x σ H3 hx ⟨v,rfl,s3,hc3,hl3⟩
  obtain⟨d,hd,hrd⟩:=hus.at i x hx
  have dm:d∈ah ds:=qz hd
  have f1:=few (i+1)
  rw[qr,hd]at f1
  have f1':(((ah ds).take i).flatMap a8.cards).length+(d.names.length+d.others.length)<=3000:=by
   simpa[qU,a8.cards]using f1
  refine⟨_,rfl,.inl ⟨rfl,_,SqL.of hc3⟩,_,rfl,H0,x,d,rfl,e0.trans s3,hrd,fun H4 l4 s4 n4 h4=>?_⟩
  refine⟨c,l4,_,_,rfl,rfl,s4 _ _ hc3,h4,bu (m:=3000) (by rw[qa,qa];omega),?_⟩
  have s5:a9 H (upd H4 c (.lst ((((ah ds).take i).flatMap a8.cards).map V.str++d.names.map V.str))):=a9.over (s3.trans s4) hc
  refine⟨_,rfl,.inl ⟨rfl,_,SqL.of ag⟩,_,rfl,H0,x,d,rfl,e0.trans s5,hrd,fun z hz=>hlen _ (hC _ (List.mem_flatMap.mpr ⟨d,dm,qI _ hz⟩)),fun H6 l6 s6 n6 h6=>?_⟩
  refine⟨c,l6,_,_,rfl,rfl,s6 _ _ ag,h6,bu (m:=3000) (by rw[qc,qa,qa,qa];omega),?_⟩
  refine⟨_,rfl,a9.over (s5.trans s6) hc,?_,?_⟩
  ·rw[ag,qr,hd]
   simp[qU,a8.cards]
  ·rw[af lc]
   refine s6 _ _ ?_
   rw[af lc]
   exact s4 _ _ hl3
 ·rintro σ H3 ⟨v,rfl,s3,hc3,hl3⟩
  rw[hus.len,qH]at hc3
  have f1:=few (ah ds).length
  rw[qH]at f1
  refine⟨_,rfl,c,(ah ds).flatMap a8.cards,rfl,SqL.of hc3,Qo,fun p hp=>?_⟩
  refine⟨p,(ah ds).flatMap a8.cards,C,rfl,ag,hC,h64,fun r zs hr' nd hm so=>?_⟩
  have p0:=a9.none s3 hp
  have r0:H r=none:=by
   refine a9.none s3 ?_
   cases q:H3 r with
   |none=>rfl
   |some o=>
    have:r≠p:=ce q hp
    rw[af this,q]at hr'
    cases hr'
  exact k _ r zs (a9.over (a9.over s3 p0) r0) r0 ag nd hm so
theorem mQ (T:Tx P w K mg a):aR P w K mg base CX0 1 a._law_cell_at a.fd__law_cell_at ["_law_script","_law_k"] (rL K):=by
 refine T.F__law_cell_at.ok y9 (fun vs H Q E h=>?_) (fun cdv A outer s H vs Q E hr h=>?_)
 ·obtain⟨_,_,_,rfl,_⟩:=h
  rfl
 obtain⟨l,ns,k,rfl,hl,hn,h0,q⟩:=h
 refine⟨_,(ai (aP (aA iL (pq 1) (ba c9 rfl T.z_len PySem.boot_len (aa (pq 0) ae)) (az _)) (ak (aE (aj aF (pq 0) (pq 1) (fun _ _=>rfl)))) aZ)
  (ak (aE ac))),?_⟩
 have len:(ns.map V.int).length=ns.length:=qa _
 refine⟨_,rfl,_,rfl,l,_,rfl,.inl hl,_,_,rfl,rfl,_,rfl,?_⟩
 refine cL (fun c=>?_) (fun c=>?_)
 ·have c:=of_decide_eq_true c
  rw[len]at c
  have lt:k.toNat<ns.length:=Qo
  have e:atI (ns.map V.int) k=some (.int (ns.getD k.toNat 0)):=by
   have:=bp (xs:=ns.map V.int) (j:=k.toNat) (v:=.int (ns.getD k.toNat 0)) (by rw[qE,qk,qd lt];rfl)
   rwa [Int.toNat_of_nonneg h0]at this
  exact⟨_,rfl,_,rfl,l,_,_,_,rfl,rfl,hl,e,q⟩
 ·have c:¬ k<((ns.map V.int).length:Int):=fun z=>c (decide_eq_true z)
  rw[len]at c
  have e:ns.getD k.toNat 0=0:=by rw[qk,List.getElem?_eq_none Qo];rfl
  rw[e]at q
  exact q
theorem eX (T:Tx P w K mg a):aR P w K mg base CX0 1 a._law_mixed a.fd__law_mixed ["_law_cell","_law_k"] rF:=by
 refine T.F__law_mixed.ok sk (fun vs H Q E h=>?_) (fun cdv A outer s H vs Q E hr h=>?_)
 ·obtain⟨_,_,rfl,_⟩:=h
  rfl
 obtain⟨c,k,rfl,h0,h1,q⟩:=h
 unfold ar at q
 refine⟨_,(ai (aq (i:=2) sk.nd rfl (Or.inl rfl) (ao bg (ao dJ (ao bg (pq 0) ac) (ao bQ ac (ao dJ (ao dJ ac (pq 1)) (pq 1)))) ac))
  (ak (aE (ao bg (ao dJ (ao bQ (pq 2) (pq 1)) (ao bQ (pq 2) (ao dJ ac (pq 1)))) ac)))),?_⟩
 have kb:Builtin.Int.intBits k<=64:=intBits_le_64 Qo Qo
 walk_at "rd"
 refine⟨IntMulOk.of_right kb,?_⟩
 walk_at "rd"
 refine⟨IntMulOk.of_right kb,?_⟩
 walk_at "rd"
 refine⟨IntMulOk.of_left (intBits_le_64 Qo Qo),?_⟩
 walk_at "rd"
 have n0:=Int.emod_nonneg (c % 2147483647 * (48271+1103 * k * k)) (show(2147483629:Int)≠0 by decide)
 have n1:=Int.emod_lt_of_pos (c % 2147483647 * (48271+1103 * k * k)) (show(0:Int)<2147483629 by decide)
 generalize c % 2147483647 * (48271+1103 * k * k) % 2147483629=m at n0 n1 q ⊢
 refine⟨IntMulOk.of_right kb,?_⟩
 walk_at "rd"
 refine⟨IntMulOk.of_left (intBits_le_64 Qo Qo),?_⟩
 walk_at "rd"
 exact q
theorem oj {j:Int}(h0:0<=j) (h1:j<26):atI cK.cps.toList j=some (bX j):=by
 have lt:j.toNat<cK.cps.toList.length:=by
  have:cK.cps.toList.length=26:=Qd
  omega
 have:=bp (xs:=cK.cps.toList) (j:=j.toNat) (v:=bX j) (by unfold bX;rw[qk,qd lt];rfl)
 rwa [Int.toNat_of_nonneg h0]at this
theorem n9:cK.length<=sizeLine:=Qd
theorem xP (c:Nat):(sgn c).length=1:=rfl
theorem iY (n:Int):∀k:Nat,(ci n k).length=k
 |0=>rfl
 |k+1=>by rw[ci,d8,iY n k,xP]
theorem tD (T:Tx P w K mg a):aR P w K mg base CX0 1 a._law_letters a.fd__law_letters ["_law_number_here","_law_size"] rJ:=by
 refine T.F__law_letters.ok h8 (fun vs H Q E h=>?_) (fun cdv A outer s H vs Q E hr h=>?_)
 ·obtain⟨_,_,rfl,_⟩:=h
  rfl
 obtain⟨n,k,rfl,h0,h1,q⟩:=h
 refine⟨_,(ai (aq (i:=2) h8.nd rfl (Or.inl rfl) aQ)
  (ai (aq (i:=3) h8.nd rfl (Or.inl rfl) aQ)
  (ai (bU PassesOwn.never rfl (gy rfl T.z_range (aa (pq 1) ae)) (aM (i:=4) h8.nd rfl (Or.inl rfl))
  (ai (aq (i:=3) h8.nd rfl (Or.inl rfl) (ao gx (pq 3) (aj j0 (pq 2) (ao bg (pq 0) ac) (fun _ _=>rfl))))
  (ak (aq (i:=0) h8.nd rfl (Or.inl rfl) (ao cH (pq 0) ac)))))
  (ak (aE (pq 3)))))),?_⟩
 refine⟨_,rfl,k,rfl,Qo,Qo,i8 (fun i σ H2=>H2=H/\i<=k.toNat/\∃v:Option V,σ=[some (.int (j3 n i)),some (.int k),some (.str cK),some (.str (ci n i)),v]) ⟨rfl,qt _,_,rfl⟩ ?_ ?_⟩
 ·rintro i σ H2 hi ⟨rfl,hik,v,rfl⟩
  have e:=oj (Int.emod_nonneg (j3 n i) (show(26:Int)≠0 by decide)) (Int.emod_lt_of_pos (j3 n i) Qk)
  refine⟨_,rfl,_,rfl,_,rfl,_,_,rfl,rfl,Qk,cK,_,_,rfl,rfl,n9,e,_,_,rfl,rfl,bu (m:=1000) (by rw[iY];show i+1<=1000;omega),?_⟩
  exact⟨_,rfl,_,_,rfl,rfl,⟨Qk,Qk⟩,rfl,hi,_,rfl⟩
 ·rintro σ H2 ⟨rfl,_,v,rfl⟩
  exact⟨_,rfl,q⟩
theorem nC {w:Str}:∀{ks:List Str},inV (.str w) (ks.map V.str)=decide (w∈ks)
 |[]=>rfl
 |k::ks=>by
  show(eqV (.str k) (.str w) || inV (.str w) (ks.map V.str))=decide (w∈k::ks)
  rw[nC]
  show((k == w) || decide (w∈ks))=_
  by_cases e:k=w
  ·subst e;simp
  ·have e':¬ w=k:=fun z=>e z.symm
   simp[e,e']
theorem B0:∀w∈kws,atI w.cps.toList (-1)=some (w.cps.toList.getLastD 97)/\Builtin.Str.occurrences cK ⟨#[w.cps.toList.getLastD 97]⟩ 0 cK.length 1=[w.cps.toList.getLastD 97-97]/\(97<=w.cps.toList.getLastD 97/\w.cps.toList.getLastD 97<=122)/\w.length<=8:=Qd
theorem Ab (T:Tx P w K mg a):aR P w K mg base CX0 1 a._law_spelt a.fd__law_spelt ["_law_word"] pW:=by
 refine T.F__law_spelt.ok sj (fun vs H Q E h=>?_) (fun cdv A outer s H vs Q E hr h=>?_)
 ·obtain⟨_,rfl,_⟩:=h
  rfl
 obtain⟨x,rfl,hx,q⟩:=h
 refine⟨_,(ai (aq (i:=1) sj.nd rfl (Or.inl rfl) aQ)
  (ai (aP (aA i0 (pq 0) (be (jL rfl)) (by with_unfolding_all rfl)) (ak (aE (ao gx (fU iA (pq 0) hX (eJ (cU cO ac))) (aj j0 (pq 1) (ao bg (ao bQ (bF PySem.F.plainAttrs_str PySem.F.slot_str_index PySem.F.type_str_index AE (pq 1) (aa (aj j0 (pq 0) (cU cO ac) (fun _ _=>rfl)) ae)) ac) ac) (fun _ _=>rfl))))) aZ)
  (ak (aE (pq 0))))),?_⟩
 refine⟨_,rfl,(by show 10<=sizeLine;decide),fun p hp=>?_⟩
 refine⟨p,kws.map V.str,rfl,.inr (SqT.of ag),rfl,rfl,_,rfl,?_⟩
 have sm:=a9.new hp (.tup (kws.map V.str))
 have hz:=bu (m:=200) hx
 refine cL (fun c=>?_) (fun c=>?_)
 ·have c:inV (.str x) (kws.map V.str)=true:=c
  rw[nC]at c
  have hk:=of_decide_eq_true c
  obtain⟨k1,k2,k3,k4⟩:=B0 x hk
  have li:((x.cps.toList.getLastD 97-97:Nat):Int)=gE x:=by unfold gE;omega
  have e:=oj (j:=(((x.cps.toList.getLastD 97-97:Nat):Int)+13) % 26) (Int.emod_nonneg _ Qk) (Int.emod_lt_of_pos _ Qk)
  have res:=q _ sm
  unfold cE at res
  rw[Q0 hk,<- li]at res
  refine⟨_,rfl,_,rfl,_,rfl,x,rfl,hz,?_⟩
  refine⟨_,rfl,_,rfl,rfl,?_⟩
  refine⟨_,rfl,_,rfl,x,_,_,rfl,rfl,hz,k1,cK,_,_,_,rfl,rfl,k2,?_⟩
  refine⟨_,_,rfl,rfl,_,_,rfl,rfl,Qk,cK,_,_,rfl,rfl,n9,e,?_⟩
  refine⟨_,_,rfl,rfl,bu (m:=1000) ?_,res⟩
  have:=Txt.slice_le x none (some (-1))
  show _+1<=1000
  omega
 ·have c:¬ inV (.str x) (kws.map V.str)=true:=c
  rw[nC]at c
  have res:=q _ sm
  unfold cE at res
  rw[qZ (fun z=>c (decide_eq_true z))]at res
  exact⟨_,rfl,res⟩
theorem jR (c k:Int):0<=ar c k:=by unfold ar;exact Int.emod_nonneg _ Qk
theorem tU (c k:Int):ar c k<2147483587:=by unfold ar;exact Int.emod_lt_of_pos _ Qk
theorem gW (z:Str) (a b:Option Int):(Txt.slice z a b).length<=z.length:=Txt.slice_le z a b
theorem sS (c:Int):(bO c).length=8:=by unfold bO;exact iY _ 8
theorem zh (c k:Int):(bR c k).length<=30:=by
 unfold bR
 have b:=sS c
 split
 ·have h1:=gW (bO c) none (some (cR c))
  have h2:=gW (bO c) (some (cR c+1)) (some (d6 c))
  rw[d8,d8]
  have:(dQ c k).length=1:=rfl
  omega
 ·split
  ·have h1:=gW (bO c) none (some (1+(ar c 1 / 24+k) % 8))
   omega
  ·have h1:=gW (dQ c k++ci (ar c (k+2)) 7) none (some (1+ar c (k+40) % 8))
   rw[d8,iY]at h1
   have:(dQ c k).length=1:=rfl
   omega
theorem mI (c:Int) (i:Nat):d5 c (i+1)=d5 c i++[cE (bR c i)]:=by
 unfold d5
 rw[List.range_succ,qO]
 rfl
theorem iR (c:Int) (i:Nat):(d5 c i).length=i:=by unfold d5;simp
seal ar ci bO bR cE
theorem tw (T:Tx P w K mg a):aR P w K mg base CX0 2 a._law_pool a.fd__law_pool ["_law_cell","_law_many"] rg:=by
 refine T.F__law_pool.ok dO (fun vs H Q E h=>?_) (fun cdv A outer s H vs Q E hr h=>?_)
 ·obtain⟨_,_,rfl,_⟩:=h
  rfl
 obtain⟨c,k,rfl,h0,h1,q⟩:=h
 refine⟨_,(ai (aq (i:=2) dO.nd rfl (Or.inl rfl) aQ)
  (ai (aq (i:=3) dO.nd rfl (Or.inl rfl) (aC (eX T) (hr.mono Qk) rfl T.m__law_mixed T.F__law_mixed.kp T.b__law_mixed .nil aD (aa (pq 0) (aa ac ae))))
  (ai (aq (i:=4) dO.nd rfl (Or.inl rfl) (aC (tD T) (hr.mono Qk) rfl T.m__law_letters T.F__law_letters.kp T.b__law_letters .nil aD (aa (ao bQ (ao dJ (pq 3) (pq 3)) (pq 3)) (aa ac ae))))
  (ai (aq (i:=5) dO.nd rfl (Or.inl rfl) (ao bQ ac (ao bg (ao cH (pq 3) ac) ac)))
  (ai (aq (i:=6) dO.nd rfl (Or.inl rfl) (ao bg (ao cH (pq 3) ac) (pq 5)))
  (ai (aq (i:=7) dO.nd rfl (Or.inl rfl) (bc ae))
  (ai (bU PassesOwn.never rfl (gy rfl T.z_range (aa (pq 1) ae)) (aM (i:=8) dO.nd rfl (Or.inl rfl))
  (ai (aq (i:=9) dO.nd rfl (Or.inl rfl) (aj j0 (pq 2) (ao bg (ao bQ (ao cH (pq 3) ac) (pq 8)) ac) (fun _ _=>rfl)))
  (ai (aP (aA aX (ao bg (pq 3) ac) ac (az _)) (ak (aq (i:=10) dO.nd rfl (Or.inl rfl) (ao gx (ao gx (fU iA (pq 4) hX (eJ (pq 6))) (pq 9)) (fU iA (pq 4) (eJ (ao bQ (pq 6) ac)) (eJ (pq 5)))))) (ak (aP (aA aX (ao bg (pq 3) ac) ac (az _)) (ak (aq (i:=10) dO.nd rfl (Or.inl rfl) (fU iA (pq 4) hX (eJ (ao bQ ac (ao bg (ao bQ (ao cH (pq 3) ac) (pq 8)) ac)))))) (ak (aq (i:=10) dO.nd rfl (Or.inl rfl) (fU iA (ao gx (pq 9) (aC (tD T) (hr.mono Qk) rfl T.m__law_letters T.F__law_letters.kp T.b__law_letters .nil aD (aa (aC (eX T) (hr.mono Qk) rfl T.m__law_mixed T.F__law_mixed.kp T.b__law_mixed .nil aD (aa (pq 0) (aa (ao bQ (pq 8) ac) ae))) (aa ac ae)))) hX (eJ (ao bQ ac (ao bg (aC (eX T) (hr.mono Qk) rfl T.m__law_mixed T.F__law_mixed.kp T.b__law_mixed .nil aD (aa (pq 0) (aa (ao bQ (pq 8) ac) ae))) ac)))))))))
  (ak (bC (bF qh qv qw ck (pq 7) (aa (aC (Ab T) (hr.mono Qk) rfl T.m__law_spelt T.F__law_spelt.kp T.b__law_spelt .nil aD (aa (pq 10) ae)) ae)))))))
  (ai (aP (aA aX (ao bg (ao cH (pq 3) ac) ac) ac (az _)) (ak (aE (zq rfl rfl T.z_list rfl T.z_reversed (pq 7)))) aZ)
  (ak (aE (pq 7))))))))))),?_⟩
 have n0:=jR c 1
 have n1:=tU c 1
 have nb:Builtin.Int.intBits (ar c 1)<=64:=intBits_le_64 Qo Qo
 refine⟨_,rfl,c,1,rfl,Qk,Qk,?_⟩
 refine⟨_,rfl,_,rfl,_,_,rfl,rfl,IntMulOk.of_right nb,_,rfl,_,_,rfl,rfl,_,8,rfl,Qk,Qk,?_⟩
 have base:ci (ar c 1 * ar c 1+ar c 1) (8:Int).toNat=bO c:=by unfold bO;rfl
 rw[base]
 refine⟨_,rfl,_,_,rfl,rfl,⟨Qk,Qk⟩,_,_,rfl,rfl,Qk,_,_,rfl,rfl,?_⟩
 have size:1+ar c 1 / 3 % 8=d6 c:=rfl
 rw[size]
 have sz:1<=d6 c/\d6 c<=8:=by unfold d6;omega
 refine⟨_,rfl,_,_,rfl,rfl,⟨Qk,Qk⟩,_,rfl,_,_,rfl,rfl,Qo,?_⟩
 have at':ar c 1 / 24 % d6 c=cR c:=rfl
 rw[at']
 refine⟨qt _,fun l hl=>?_⟩
 have bl:=sS c
 have bz:(bO c).length<=sizeLine:=bu (m:=100) Qo
 refine⟨_,rfl,k,rfl,Qo,Qo,i8 (fun i σ H2=>a9 H H2/\i<=k.toNat/\H2 l=some (.lst ((d5 c i).map V.str))/\∃v8 v9 v10:Option V,σ=[some (.int c),some (.int k),some (.str cK),some (.int (ar c 1)),some (.str (bO c)),some (.int (d6 c)),some (.int (cR c)),some (.ref l),v8,v9,v10])
  ⟨a9.new hl _,qt _,ag,_,_,_,rfl⟩ ?_ ?_⟩
 ·rintro i σ H2 hi ⟨s2,hik,hl2,v8,v9,v10,rfl⟩
  have e9:=oj (Int.emod_nonneg (ar c 1 / 192+(0+(i:Int))) (show(26:Int)≠0 by decide)) (Int.emod_lt_of_pos _ Qk)
  refine⟨_,rfl,_,rfl,_,_,rfl,rfl,⟨Qk,Qk⟩,_,rfl,_,_,rfl,rfl,_,_,rfl,rfl,Qk,cK,_,_,rfl,rfl,n9,e9,?_⟩
  have z0:(0:Int)+(i:Int)=(i:Int):=Qo
  rw[z0]
  have sg:(⟨#[bX ((ar c 1 / 192+(i:Int)) % 26)]⟩:Str)=dQ c i:=rfl
  have sl:(dQ c i).length=1:=rfl
  have pw:=zh c i
  refine⟨_,rfl,_,_,rfl,rfl,Qk,rfl,_,rfl,?_⟩
  refine cL (fun c1=>?_) (fun c1=>?_)
  ·have c1:=du c1
   have h1:=gW (bO c) none (some (cR c))
   have h2:=gW (bO c) (some (cR c+1)) (some (d6 c))
   refine⟨_,rfl,_,rfl,_,rfl,bO c,rfl,bz,_,rfl,_,_,rfl,rfl,bu (m:=100) (by rw[sg,sl];omega),_,rfl,_,rfl,_,_,rfl,rfl,_,rfl,_,rfl,_,rfl,bO c,rfl,bz,_,_,rfl,rfl,bu (m:=100) (by rw[d8,sg,sl];omega),?_⟩
   have pe:Txt.slice (bO c) none (some (cR c))++(⟨#[bX ((ar c 1 / 192+(i:Int)) % 26)]⟩:Str)++Txt.slice (bO c) (some (cR c+1)) (some (d6 c))=bR c i:=by
    rw[sg]
    unfold bR
    rw[Q0 c1]
   rw[pe]
   refine⟨_,rfl,.inl ⟨rfl,_,SqL.of hl2⟩,_,rfl,bR c i,rfl,Qo,fun H3 s3=>?_⟩
   refine⟨l,_,_,rfl,rfl,s3 _ _ hl2,bu (m:=1000) (by rw[qa,iR];omega),?_⟩
   refine⟨a9.over (s2.trans s3) hl,hi,?_,_,_,_,rfl⟩
   rw[ag,mI,qO]
   rfl
  have c1:=dL c1
  refine⟨_,rfl,_,_,rfl,rfl,Qk,rfl,_,rfl,?_⟩
  refine cL (fun c2=>?_) (fun c2=>?_)
  ·have c2:=du c2
   refine⟨_,rfl,_,rfl,_,_,rfl,rfl,⟨Qk,Qk⟩,_,rfl,_,_,rfl,rfl,_,_,rfl,rfl,Qk,_,_,rfl,rfl,_,rfl,bO c,rfl,bz,?_⟩
   have pe:Txt.slice (bO c) none (some (1+(ar c 1 / 24+(i:Int)) % 8))=bR c i:=by
    unfold bR
    rw[qZ c1,Q0 c2]
   rw[pe]
   refine⟨_,rfl,.inl ⟨rfl,_,SqL.of hl2⟩,_,rfl,bR c i,rfl,Qo,fun H3 s3=>?_⟩
   refine⟨l,_,_,rfl,rfl,s3 _ _ hl2,bu (m:=1000) (by rw[qa,iR];omega),?_⟩
   refine⟨a9.over (s2.trans s3) hl,hi,?_,_,_,_,rfl⟩
   rw[ag,mI,qO]
   rfl
  ·have c2:=dL c2
   refine⟨_,rfl,_,rfl,_,rfl,_,_,rfl,rfl,c,_,rfl,Qo,Qo,_,7,rfl,Qk,Qk,?_⟩
   have l7:(ci (ar c ((i:Int)+2)) (7:Int).toNat).length=7:=iY _ 7
   refine⟨_,_,rfl,rfl,bu (m:=100) (by rw[sg,sl,l7];omega),?_⟩
   refine⟨_,rfl,_,rfl,_,_,rfl,rfl,c,_,rfl,Qo,Qo,_,_,rfl,rfl,Qk,_,_,rfl,rfl,_,rfl,_,rfl,bu (m:=100) (by rw[d8,sg,sl,l7];omega),?_⟩
   have pe:Txt.slice ((⟨#[bX ((ar c 1 / 192+(i:Int)) % 26)]⟩:Str)++ci (ar c ((i:Int)+2)) (7:Int).toNat) none (some (1+ar c ((i:Int)+40) % 8))=bR c i:=by
    rw[sg]
    unfold bR
    rw[qZ c1,qZ c2]
    rfl
   rw[pe]
   refine⟨_,rfl,.inl ⟨rfl,_,SqL.of hl2⟩,_,rfl,bR c i,rfl,Qo,fun H3 s3=>?_⟩
   refine⟨l,_,_,rfl,rfl,s3 _ _ hl2,bu (m:=1000) (by rw[qa,iR];omega),?_⟩
   refine⟨a9.over (s2.trans s3) hl,hi,?_,_,_,_,rfl⟩
   rw[ag,mI,qO]
   rfl
 ·rintro σ H2 ⟨s2,_,hl2,v8,v9,v10,rfl⟩
  have hln:(0:Int)+k.toNat=k:=Qo
  refine⟨_,rfl,_,_,rfl,rfl,⟨Qk,Qk⟩,_,_,rfl,rfl,Qk,rfl,_,rfl,?_⟩
  refine cL (fun cc=>?_) (fun cc=>?_)
  ·have cc:=du cc
   refine⟨_,rfl,l,_,rfl,SqL.of hl2,fun r hr'=>?_⟩
   refine q _ r (a9.over s2 (a9.none s2 hr')) (a9.none s2 hr') ?_
   rw[ag]
   unfold cq
   rw[Q0 cc,List.map_reverse]
  ·have cc:=dL cc
   refine⟨_,rfl,q _ l s2 hl ?_⟩
   unfold cq
   rw[qZ cc]
   exact hl2
theorem gD {l:List Str}(h:0<l.length) (i:Int):atI (l.map V.str) (i % ((l.map V.str).length:Int))=some (.str (nth l i)):=by
 have e:((l.map V.str).length:Int)=(l.length:Int):=by rw[qa]
 rw[e]
 have h1:0<=i % (l.length:Int):=Int.emod_nonneg _ Qo
 have h2:i % (l.length:Int)<l.length:=Int.emod_lt_of_pos _ Qo
 have lt:(i % (l.length:Int)).toNat<l.length:=Qo
 have:=bp (xs:=l.map V.str) (j:=(i % (l.length:Int)).toNat) (v:=.str (nth l i)) (by unfold nth;rw[qE,qk,qd lt];rfl)
 rwa [Int.toNat_of_nonneg h1]at this
theorem xK (i:Int):atI ("+-*/<=&|^":Str).cps.toList (i % 9)=some (("+-*/<=&|^":Str).cps.toList.getD (i % 9).toNat 0):=by
 have h1:0<=i % 9:=Int.emod_nonneg _ Qk
 have h2:i % 9<9:=Int.emod_lt_of_pos _ Qk
 have ln:("+-*/<=&|^":Str).cps.toList.length=9:=Qd
 have lt:(i % 9).toNat<("+-*/<=&|^":Str).cps.toList.length:=Qo
 have:=bp (xs:=("+-*/<=&|^":Str).cps.toList) (j:=(i % 9).toNat) (v:=("+-*/<=&|^":Str).cps.toList.getD (i % 9).toNat 0) (by rw[qk,qd lt];rfl)
 rwa [Int.toNat_of_nonneg h1]at this
theorem nD {n:Int}:∀{ks:List Int},inV (.int n) (ks.map V.int)=decide (n∈ks)
 |[]=>rfl
 |k::ks=>by
  show(eqV (.int k) (.int n) || inV (.int n) (ks.map V.int))=decide (n∈k::ks)
  rw[nD]
  show((k == n) || decide (n∈ks))=_
  by_cases e:k=n
  ·subst e;simp
  ·have e':¬ n=k:=fun z=>e z.symm
   simp[e,e']
theorem p30:(10:Int) ^ (30:Int).toNat=1000000000000000000000000000000:=Qd
def aV (n:Int) (names:List Str):Val:=if n / 14 / 125 % 4=0 then .num (n * n * n * 69621 % 1000000000000000000000000000000)else .nm (nth names (n / 14 / 5))
def bV (n:Int) (names:List Str):Val:=if n / 14 / 500 % 3=0 then .num (n * n * 48271 % 1000000000000000000000000000000)else .nm (nth names (n / 14 / 25))
abbrev i4 (n:Int):Prop:=n % 14=1\/n % 14=2\/n % 14=3\/n % 14=4\/n % 14=12\/n % 14=13
abbrev jY (n:Int):Prop:=n % 14=3\/n % 14=4\/n % 14=13
theorem tS {n:Int}:inV (.int (n % 14)) (([1,2,3,4,12,13]:List Int).map V.int)=true↔i4 n:=by rw[nD];simp[i4]
theorem uj {n:Int}:inV (.int (n % 14)) (([3,4,13]:List Int).map V.int)=true↔jY n:=by rw[nD];simp[jY]
theorem xD {n:Int}{names rooms:List Str}{shut:Bool}(h:n % 14=6):bA n names rooms shut=.give (nth names (n / 14)):=by unfold bA;rw[Q0 h]
theorem xB {n:Int}{names rooms:List Str}{shut:Bool}(h:i4 n) (h2:0<rooms.length) (h3:shut=false):(jY n->bA n names rooms shut=.get (nth rooms (n / 14 / 5)) (nth names (n / 14)))/\(¬ jY n->bA n names rooms shut=.put (nth rooms (n / 14 / 5)) (nth names (n / 14))):=by
 have h6:¬ n % 14=6:=by unfold i4 at h;omega
 unfold bA
 rw[qZ h6,Q0 ⟨h,h2,h3⟩]
 exact⟨fun g=>by rw[Q0 g],fun g=>by rw[qZ g]⟩
theorem xx {n:Int}{names rooms:List Str}{shut:Bool}(h6:¬ n % 14=6) (h:¬ (i4 n/\0<rooms.length/\shut=false)):bA n names rooms shut=.set (nth names (n / 14)) (aV n names) (iB (n / 14 / 1500)) (bV n names):=by
 unfold bA
 rw[qZ h6,qZ h]
 rfl
theorem Ac (T:Tx P w K mg a):aR P w K mg base CX0 1 a._law_simple a.fd__law_simple ["_law_number_here","_law_names","_law_rooms","_law_shut"] (pX K):=by
 refine T.F__law_simple.ok fG (fun vs H Q E h=>?_) (fun cdv A outer s H vs Q E hr h=>?_)
 ·obtain⟨_,_,_,_,_,_,rfl,_⟩:=h
  rfl
 obtain⟨n,ln,lr,names,rooms,shut,rfl,hn,hro,n0,n1,r1,b0,b1,q⟩:=h
 refine⟨_,(ai (aq (i:=4) fG.nd rfl (Or.inl rfl) (ao bg (pq 0) ac))
  (ai (aq (i:=5) fG.nd rfl (Or.inl rfl) (ao cH (pq 0) ac))
  (ai (aq (i:=6) fG.nd rfl (Or.inl rfl) (aj aF (pq 1) (ao bg (pq 5) (ba c9 rfl T.z_len PySem.boot_len (aa (pq 1) ae))) (fun _ _=>rfl)))
  (ai (aP (aA aX (pq 4) ac (az _)) (ak (aE (be (aa aQ (aa (pq 6) ae))))) aZ)
  (ai (aP (PW.pt (fQ (aA i0 (pq 4) (be (jL rfl)) (by with_unfolding_all rfl)) (fQ (aA fN (ba c9 rfl T.z_len PySem.boot_len (aa (pq 2) ae)) ac (az _)) (hU (fS (eU (pq 3))))))) (ak (aE (be (aa (gz (aA i0 (pq 4) (be (jL rfl)) (by with_unfolding_all rfl)) aQ aQ) (aa (aj aF (pq 2) (ao bg (ao cH (pq 5) ac) (ba c9 rfl T.z_len PySem.boot_len (aa (pq 2) ae))) (fun _ _=>rfl)) (aa (pq 6) ae)))))) aZ)
  (ai (aq (i:=7) fG.nd rfl (Or.inl rfl) (aj aF (pq 1) (ao bg (ao cH (pq 5) ac) (ba c9 rfl T.z_len PySem.boot_len (aa (pq 1) ae))) (fun _ _=>rfl)))
  (ai (aq (i:=8) fG.nd rfl (Or.inl rfl) (aj aF (pq 1) (ao bg (ao cH (pq 5) ac) (ba c9 rfl T.z_len PySem.boot_len (aa (pq 1) ae))) (fun _ _=>rfl)))
  (ai (aP (aA aX (ao bg (ao cH (pq 5) ac) ac) ac (az _)) (ak (aq (i:=7) fG.nd rfl (Or.inl rfl) (ao bg (ao dJ (ao dJ (ao dJ (pq 0) (pq 0)) (pq 0)) ac) (ao tE ac ac)))) aZ)
  (ai (aP (aA aX (ao bg (ao cH (pq 5) ac) ac) ac (az _)) (ak (aq (i:=8) fG.nd rfl (Or.inl rfl) (ao bg (ao dJ (ao dJ (pq 0) (pq 0)) ac) (ao tE ac ac)))) aZ)
  (ak (aE (be (aa aQ (aa (pq 6) (aa (pq 7) (aa (aj j0 aQ (ao bg (ao cH (pq 5) ac) ac) (fun _ _=>rfl)) (aa (pq 8) ae))))))))))))))))),?_⟩
 have nl:(names.map V.str).length=names.length:=qa _
 have rl:(rooms.map V.str).length=rooms.length:=qa _
 have fin:∀(H1:Hp) (p:Addr) (xs:List V),a9 H H1->H1 p=none->(∀H0:Hp,H0 p=some (.tup xs)->RD H0 (.ref p) (bA n names rooms shut))->Q (.ref p) (upd H1 p (.tup xs)):=fun H1 p xs s1 hp hd=>
  q _ p xs (a9.over s1 (a9.none s1 hp)) (a9.none s1 hp) ag hd
 refine⟨_,rfl,_,_,rfl,rfl,Qk,?_⟩
 refine⟨_,rfl,_,_,rfl,rfl,⟨Qk,Qk⟩,?_⟩
 refine⟨_,rfl,_,rfl,_,rfl,ln,_,rfl,.inl hn,_,_,rfl,rfl,Qo,ln,_,_,_,rfl,rfl,hn,gD n0 _,?_⟩
 refine⟨_,rfl,rfl,_,rfl,?_⟩
 refine cL (fun c=>?_) (fun c=>?_)
 ·have c:=du c
  exact⟨_,rfl,ln2,fun p hp=>fin H p _ (a9.refl H) hp fun H0 h0=>by rw[xD c];exact .give h0⟩
 have c6:=dL c
 refine⟨_,rfl,(by show 6<=sizeLine;decide),fun t ht=>?_⟩
 refine⟨t,([1,2,3,4,12,13]:List Int).map V.int,rfl,.inr (SqT.of ag),rfl,rfl,_,rfl,?_⟩
 have s1:a9 H (upd H t (.tup (([1,2,3,4,12,13]:List Int).map V.int))):=a9.new ht _
 have hn1:=s1.seq hn
 have hr1:=s1.seq hro
 refine jW (Pc:=¬ (i4 n/\0<rooms.length/\shut=false)) (fun c z=>c (tS.mpr z.1)) ?_ fun c go=>?_
 ·intro nm
  refine i7 ?_
  refine⟨_,rfl,_,rfl,_,_,rfl,rfl,⟨Qk,Qk⟩,_,rfl,ln,_,rfl,.inl hn1,_,_,rfl,rfl,Qo,ln,_,_,_,rfl,rfl,hn1,gD n0 _,?_⟩
  refine⟨_,rfl,_,rfl,_,_,rfl,rfl,⟨Qk,Qk⟩,_,rfl,ln,_,rfl,.inl hn1,_,_,rfl,rfl,Qo,ln,_,_,_,rfl,rfl,hn1,gD n0 _,?_⟩
  refine⟨_,rfl,_,_,rfl,rfl,⟨Qk,Qk⟩,_,_,rfl,rfl,Qk,rfl,_,rfl,?_⟩
  have nb:Builtin.Int.intBits n<=64:=intBits_le_64 Qo Qo
  have nn0:0<=n * n:=Int.mul_nonneg b0 b0
  have nn1:n * n<=2147483648 * 2147483648:=Int.mul_le_mul Qo Qo b0 Qk
  generalize hv0:V.str (nth names (n / 14 / 5))=v0
  refine nu (P:=fun v=>v=(aV n names).v) (w:=v0) (fun c=>?_) ?_ fun c go=>?_
  ·rw[<- hv0]
   unfold aV
   rw[qZ (dL c)]
   rfl
  ·rintro va rfl
   refine⟨_,rfl,_,_,rfl,rfl,⟨Qk,Qk⟩,_,_,rfl,rfl,Qk,rfl,_,rfl,?_⟩
   generalize hv1:V.str (nth names (n / 14 / 25))=v1
   refine nu (P:=fun v=>v=(bV n names).v) (w:=v1) (fun c=>?_) ?_ fun c go=>?_
   ·rw[<- hv1]
    unfold bV
    rw[qZ (dL c)]
    rfl
   ·rintro vb rfl
    refine⟨_,rfl,_,rfl,_,rfl,_,_,rfl,rfl,⟨Qk,Qk⟩,_,_,rfl,rfl,Qk,_,_,_,rfl,rfl,Qd,xK _,_,rfl,(by show 5<=sizeLine;decide),fun p hp=>fin _ p _ s1 hp fun H0 h0=>?_⟩
    rw[xx c6 nm]
    exact .set h0
   ·refine⟨_,rfl,_,rfl,_,_,rfl,rfl,IntMulOk.of_right nb,_,_,rfl,rfl,IntMulOk.of_right (intBits_le_64 Qk Qk),_,_,rfl,rfl,⟨Qk,Qk,Qk⟩,_,_,rfl,rfl,by rw[p30];decide,?_⟩
    rw[p30]
    refine go _ ?_
    unfold bV
    rw[Q0 (du c)]
    rfl
  ·refine⟨_,rfl,_,rfl,_,_,rfl,rfl,IntMulOk.of_right nb,_,rfl,_,_,rfl,rfl,IntMulOk.of_right nb,_,_,rfl,rfl,IntMulOk.of_right (intBits_le_64 Qk Qk),_,_,rfl,rfl,⟨Qk,Qk,Qk⟩,_,_,rfl,rfl,by rw[p30];decide,?_⟩
   rw[p30]
   refine go _ ?_
   unfold aV
   rw[Q0 (du c)]
   rfl
 ·have cm:=tS.mp c
  refine⟨_,rfl,lr,_,rfl,.inl hr1,_,_,rfl,rfl,_,rfl,?_⟩
  refine cL (fun c2=>?_) (fun c2=>?_)
  ·have c2:0<rooms.length:=by
    have:=of_decide_eq_true c2
    rw[rl]at this
    omega
   cases shut with
   |true=>
    refine⟨_,rfl,_,rfl,?_⟩
    exact go fun z=>nomatch z.2.2
   |false=>
    refine⟨_,rfl,_,rfl,?_⟩
    refine nB ?_
    have mv:=xB (names:=names) cm c2 (shut:=false) rfl
    refine⟨_,rfl,(by show 3<=sizeLine;decide),fun u hu=>?_⟩
    refine⟨u,([3,4,13]:List Int).map V.int,rfl,.inr (SqT.of ag),rfl,rfl,_,rfl,?_⟩
    have s2:a9 H (upd (upd H t (.tup (([1,2,3,4,12,13]:List Int).map V.int))) u (.tup (([3,4,13]:List Int).map V.int))):=a9.over s1 (a9.none s1 hu)
    have hr2:=s2.seq hro
    refine cL (fun c3=>?_) (fun c3=>?_)
    ·refine⟨_,rfl,_,rfl,_,_,rfl,rfl,⟨Qk,Qk⟩,_,rfl,lr,_,rfl,.inl hr2,_,_,rfl,rfl,Qo,lr,_,_,_,rfl,rfl,hr2,gD c2 _,_,rfl,ln3,fun p hp=>fin _ p _ s2 hp fun H0 h0=>?_⟩
     rw[mv.1 (uj.mp c3)]
     exact .get h0
    ·refine⟨_,rfl,_,rfl,_,_,rfl,rfl,⟨Qk,Qk⟩,_,rfl,lr,_,rfl,.inl hr2,_,_,rfl,rfl,Qo,lr,_,_,_,rfl,rfl,hr2,gD c2 _,_,rfl,ln3,fun p hp=>fin _ p _ s2 hp fun H0 h0=>?_⟩
     rw[mv.2 fun g=>c3 (uj.mpr g)]
     exact .put h0
  ·exact go fun z=>c2 (decide_eq_true (by rw[rl];have:=z.2.1;omega))
theorem Ag (T:Tx P w K mg a):aR P w K mg base CX0 1 a._law_opened a.fd__law_opened ["_law_state","_law_number_here","_law_x","_law_most"] rB:=by
 refine T.F__law_opened.ok dG (fun vs H Q E h=>?_) (fun cdv A outer s H vs Q E hr h=>?_)
 ·obtain⟨_,_,_,_,_,_,_,_,_,_,_,_,rfl,_⟩:=h
  rfl
 obtain⟨Hb,H0,S,s0,s1,s2,s3,x,r,n,most,nm,rfl,Z,hlen,hdl,n0,n1,m0,m1,t0,t1,q⟩:=h
 refine⟨_,(ai (aq (i:=4) dG.nd rfl (Or.inl rfl) (ao bg (pq 1) ac))
  (ai (aq (i:=5) dG.nd rfl (Or.inl rfl) (ao cH (pq 1) ac))
  (ai (aq (i:=6) dG.nd rfl (Or.inl rfl) (bc ae))
  (ai (aq (i:=7) dG.nd rfl (Or.inl rfl) cw)
  (ai (aq (i:=8) dG.nd rfl (Or.inl rfl) eK)
  (ai (aq (i:=9) dG.nd rfl (Or.inl rfl) ac)
  (ai (aP (aA aX (pq 4) ac (az _)) (ai (aq (i:=7) dG.nd rfl (Or.inl rfl) (bc ae))
  (ak (bC (bF qh qv qw ck (aj aF (aj aF (pq 0) ac (fun _ _=>rfl)) (cU cO ac) (fun _ _=>rfl)) (aa (be (aa aQ (aa (pq 2) (aa (pq 6) (aa (pq 7) ae))))) ae))))) (ak (aP (aA aX (pq 4) ac (az _)) (ak (bC (bF qh qv qw ck (aj aF (aj aF (pq 0) ac (fun _ _=>rfl)) (cU cO ac) (fun _ _=>rfl)) (aa (be (aa aQ (aa (pq 2) (aa (pq 6) ae)))) ae)))) (ai (aq (i:=10) dG.nd rfl (Or.inl rfl) (aj aF (aj aF (pq 0) ac (fun _ _=>rfl)) (cU cO ac) (fun _ _=>rfl)))
  (ai (aq (i:=11) dG.nd rfl (Or.inl rfl) (ao bg (pq 5) ac))
  (ai (aP (aA fN (pq 10) ac (az _)) (ak (aq (i:=11) dG.nd rfl (Or.inl rfl) (ao bg (pq 5) (ao bQ ac (ao cH (pq 3) (pq 10)))))) aZ)
  (ai (bC (bF qh qv qw ck (aj aF (aj aF (pq 0) ac (fun _ _=>rfl)) (cU cO ac) (fun _ _=>rfl)) (aa (be (aa aQ (aa (pq 11) (aa (pq 6) ae)))) ae)))
  (ai (aq (i:=8) dG.nd rfl (Or.inl rfl) (aj aF (aj aF (pq 0) ac (fun _ _=>rfl)) (cU cO ac) (fun _ _=>rfl)))
  (ak (aq (i:=9) dG.nd rfl (Or.inl rfl) (ao dJ (pq 10) (pq 11))))))))))))
  (ai (bC (bF qh qv qw ck (aj aF (pq 0) ac (fun _ _=>rfl)) (aa (pq 6) ae)))
  (ai (bC (bF qh qv qw ck (aj aF (pq 0) ac (fun _ _=>rfl)) (aa (pq 7) ae)))
  (ai (bC (bF qh qv qw ck (aj aF (pq 0) ac (fun _ _=>rfl)) (aa (pq 8) ae)))
  (ak (bC (bF qh qv qw ck (aj aF (pq 0) ac (fun _ _=>rfl)) (aa (pq 9) ae)))))))))))))),?_⟩
 obtain⟨a1,a2,a3,a4,n01,n02,n03,n12,n13,n23⟩:=Z.ss
 have cn:=Z.ne (fY (x:=x) (r:=r))
 obtain⟨x',r',vs,e1,hc,hds⟩:=Z.top
 cases e1
 have lv:vs.length<=1000:=by rw[hds.len];exact hdl
 have rlen:∀{β:Type}(f:Fz->β),(((x::r).map f).reverse).length<sizeLine:=fun f=>by
  rw[List.length_reverse,qa]
  exact qD (Nat.lt_succ_of_le hlen) Qk
 have lvl:vs.length<sizeLine:=qD (Nat.lt_succ_of_le lv) Qk
 refine⟨_,rfl,_,_,rfl,rfl,Qk,?_⟩
 refine⟨_,rfl,_,_,rfl,rfl,⟨Qk,Qk⟩,?_⟩
 refine⟨qt _,fun li hli=>?_⟩
 have lic:li≠x.c:=fun e=>by rw[e,hc]at hli;cases hli
 have s1':a9 H (upd H li (.lst [])):=a9.new hli _
 refine⟨_,rfl,rfl,_,rfl,?_⟩
 refine cL (fun c7=>?_) (fun c7=>?_)
 ·have c7:=du c7
  refine⟨qt _,fun oe hoe=>?_⟩
  have oel:oe≠li:=fun e=>by rw[e,ag]at hoe;cases hoe
  have hoe':H oe=none:=a9.none s1' hoe
  have oec:oe≠x.c:=fun e=>by rw[e,hc]at hoe';cases hoe'
  have s2':a9 H (upd (upd H li (.lst [])) oe (.lst [])):=a9.over s1' hoe'
  refine⟨_,rfl,S,_,_,_,rfl,rfl,SqL.of (s2' _ _ Z.cS),rfl,_,rfl,s0,_,_,_,rfl,rfl,SqL.of (s2' _ _ Z.c0),f7,.inl ⟨rfl,_,SqL.of (s2' _ _ hc)⟩,_,rfl,_,rfl,_,rfl,(by show 4<=sizeLine;decide),fun p hp=>?_⟩
  have hp':H p=none:=a9.none s2' hp
  have s3':a9 H (upd (upd (upd H li (.lst [])) oe (.lst [])) p (.tup [.str "if",.str nm,.ref li,.ref oe])):=a9.over s2' hp'
  have pli:p≠li:=fun e=>by rw[e,af (Ne.symm oel),ag]at hp;cases hp
  have poe:p≠oe:=fun e=>by rw[e,ag]at hp;cases hp
  have pc:p≠x.c:=fun e=>by rw[e,hc]at hp';cases hp'
  refine⟨x.c,_,_,rfl,rfl,s3' _ _ hc,lvl,?_⟩
  have k4:∀b u,b≠x.c->H b=some u->(upd (upd (upd (upd H li (.lst [])) oe (.lst [])) p (.tup [.str "if",.str nm,.ref li,.ref oe])) x.c (.lst (vs++[.ref p]))) b=some u:=fun b u hb h=>by rw[af hb];exact s3' _ _ h
  have kc4:(upd (upd (upd (upd H li (.lst [])) oe (.lst [])) p (.tup [.str "if",.str nm,.ref li,.ref oe])) x.c (.lst (vs++[.ref p]))) x.c=some (.lst (vs++[.ref p])):=ag
  have kp4:(upd (upd (upd (upd H li (.lst [])) oe (.lst [])) p (.tup [.str "if",.str nm,.ref li,.ref oe])) x.c (.lst (vs++[.ref p]))) p=some (.tup [.str "if",.str nm,.ref li,.ref oe]):=by rw[af pc,ag]
  have km4:(upd (upd (upd (upd H li (.lst [])) oe (.lst [])) p (.tup [.str "if",.str nm,.ref li,.ref oe])) x.c (.lst (vs++[.ref p]))) li=some (.lst [])/\(upd (upd (upd (upd H li (.lst [])) oe (.lst [])) p (.tup [.str "if",.str nm,.ref li,.ref oe])) x.c (.lst (vs++[.ref p]))) oe=some (.lst []):=
   ⟨by rw[af lic,af (Ne.symm pli),af (Ne.symm oel),ag],by rw[af oec,af (Ne.symm poe),ag]⟩
  generalize (upd (upd (upd (upd H li (.lst [])) oe (.lst [])) p (.tup [.str "if",.str nm,.ref li,.ref oe])) x.c (.lst (vs++[.ref p])))=H4 at k4 kc4 kp4 km4 ⊢
  have cS4:=k4 _ _ cn.1 Z.cS
  have c04:=k4 _ _ cn.2.1 Z.c0
  have c14:=k4 _ _ cn.2.2.1 Z.c1
  have c24:=k4 _ _ cn.2.2.2.1 Z.c2
  have c34:=k4 _ _ cn.2.2.2.2 Z.c3
  refine⟨_,rfl,S,_,_,_,rfl,rfl,SqL.of cS4,rfl,.inl ⟨rfl,_,SqL.of c04⟩,_,rfl,s0,_,_,rfl,rfl,c04,rlen _,?_⟩
  generalize hH5:upd H4 s0 (.lst (((x::r).map fun x=>V.ref x.c).reverse++[.ref li]))=H5
  have cS5:H5 S=some (.lst [.ref s0,.ref s1,.ref s2,.ref s3]):=by rw[<- hH5,af a1];exact cS4
  have c15:H5 s1=some (.lst (((x::r).map Fz.o).reverse)):=by rw[<- hH5,af (Ne.symm n01)];exact c14
  have c25:H5 s2=some (.lst (((x::r).map fun x=>V.bl x.f.shut).reverse)):=by rw[<- hH5,af (Ne.symm n02)];exact c24
  have c35:H5 s3=some (.lst (((x::r).map fun x=>V.int x.f.times).reverse)):=by rw[<- hH5,af (Ne.symm n03)];exact c34
  refine⟨_,rfl,S,_,_,_,rfl,rfl,SqL.of cS5,rfl,.inl ⟨rfl,_,SqL.of c15⟩,_,rfl,s1,_,_,rfl,rfl,c15,rlen _,?_⟩
  generalize hH6:upd H5 s1 (.lst (((x::r).map Fz.o).reverse++[.ref oe]))=H6
  have cS6:H6 S=some (.lst [.ref s0,.ref s1,.ref s2,.ref s3]):=by rw[<- hH6,af a2];exact cS5
  have c26:H6 s2=some (.lst (((x::r).map fun x=>V.bl x.f.shut).reverse)):=by rw[<- hH6,af (Ne.symm n12)];exact c25
  have c36:H6 s3=some (.lst (((x::r).map fun x=>V.int x.f.times).reverse)):=by rw[<- hH6,af (Ne.symm n13)];exact c35
  refine⟨_,rfl,S,_,_,_,rfl,rfl,SqL.of cS6,rfl,.inl ⟨rfl,_,SqL.of c26⟩,_,rfl,s2,_,_,rfl,rfl,c26,rlen _,?_⟩
  generalize hH7:upd H6 s2 (.lst (((x::r).map fun x=>V.bl x.f.shut).reverse++[.bl true]))=H7
  have cS7:H7 S=some (.lst [.ref s0,.ref s1,.ref s2,.ref s3]):=by rw[<- hH7,af a3];exact cS6
  have c37:H7 s3=some (.lst (((x::r).map fun x=>V.int x.f.times).reverse)):=by rw[<- hH7,af (Ne.symm n23)];exact c36
  refine⟨_,rfl,S,_,_,_,rfl,rfl,SqL.of cS7,rfl,.inl ⟨rfl,_,SqL.of c37⟩,_,rfl,s3,_,_,rfl,rfl,c37,rlen _,?_⟩
  subst hH7 hH6 hH5
  refine q _ ⟨⟨.ifT nm,[],true,0⟩,li,p,oe⟩ (mJ (y:=⟨⟨.ifT nm,[],true,0⟩,li,p,oe⟩) Z hc k4 (fun m hm=>?_) ?_ kp4 (by simp) (by simp) rfl kc4) ?_
  ·simp[Fz.muts]at hm
   rcases hm with rfl|rfl
   ·exact⟨hli,km4.1⟩
   ·exact⟨hoe',km4.2⟩
  ·simp[Fz.muts]
   exact Ne.symm oel
  ·unfold eL
   dsimp only
   rw[Q0 c7]
 have c7:=dL c7
 refine⟨_,rfl,rfl,_,rfl,?_⟩
 refine cL (fun c8=>?_) (fun c8=>?_)
 ·have c8:=du c8
  refine⟨_,rfl,S,_,_,_,rfl,rfl,SqL.of (s1' _ _ Z.cS),rfl,_,rfl,s0,_,_,_,rfl,rfl,SqL.of (s1' _ _ Z.c0),f7,.inl ⟨rfl,_,SqL.of (s1' _ _ hc)⟩,_,rfl,_,rfl,(by show 3<=sizeLine;decide),fun p hp=>?_⟩
  have hp':H p=none:=a9.none s1' hp
  have s3':a9 H (upd (upd H li (.lst [])) p (.tup [.str "while",.str nm,.ref li])):=a9.over s1' hp'
  have pli:p≠li:=fun e=>by rw[e,ag]at hp;cases hp
  have pc:p≠x.c:=fun e=>by rw[e,hc]at hp';cases hp'
  refine⟨x.c,_,_,rfl,rfl,s3' _ _ hc,lvl,?_⟩
  have k4:∀b u,b≠x.c->H b=some u->(upd (upd (upd H li (.lst [])) p (.tup [.str "while",.str nm,.ref li])) x.c (.lst (vs++[.ref p]))) b=some u:=fun b u hb h=>by rw[af hb];exact s3' _ _ h
  have kc4:(upd (upd (upd H li (.lst [])) p (.tup [.str "while",.str nm,.ref li])) x.c (.lst (vs++[.ref p]))) x.c=some (.lst (vs++[.ref p])):=ag
  have kp4:(upd (upd (upd H li (.lst [])) p (.tup [.str "while",.str nm,.ref li])) x.c (.lst (vs++[.ref p]))) p=some (.tup [.str "while",.str nm,.ref li]):=by rw[af pc,ag]
  have km4:(upd (upd (upd H li (.lst [])) p (.tup [.str "while",.str nm,.ref li])) x.c (.lst (vs++[.ref p]))) li=some (.lst []):=by rw[af lic,af (Ne.symm pli),ag]
  generalize (upd (upd (upd H li (.lst [])) p (.tup [.str "while",.str nm,.ref li])) x.c (.lst (vs++[.ref p])))=H4 at k4 kc4 kp4 km4 ⊢
  have cS4:=k4 _ _ cn.1 Z.cS
  have c04:=k4 _ _ cn.2.1 Z.c0
  have c14:=k4 _ _ cn.2.2.1 Z.c1
  have c24:=k4 _ _ cn.2.2.2.1 Z.c2
  have c34:=k4 _ _ cn.2.2.2.2 Z.c3
  refine⟨_,rfl,S,_,_,_,rfl,rfl,SqL.of cS4,rfl,.inl ⟨rfl,_,SqL.of c04⟩,_,rfl,s0,_,_,rfl,rfl,c04,rlen _,?_⟩
  generalize hH5:upd H4 s0 (.lst (((x::r).map fun x=>V.ref x.c).reverse++[.ref li]))=H5
  have cS5:H5 S=some (.lst [.ref s0,.ref s1,.ref s2,.ref s3]):=by rw[<- hH5,af a1];exact cS4
  have c15:H5 s1=some (.lst (((x::r).map Fz.o).reverse)):=by rw[<- hH5,af (Ne.symm n01)];exact c14
  have c25:H5 s2=some (.lst (((x::r).map fun x=>V.bl x.f.shut).reverse)):=by rw[<- hH5,af (Ne.symm n02)];exact c24
  have c35:H5 s3=some (.lst (((x::r).map fun x=>V.int x.f.times).reverse)):=by rw[<- hH5,af (Ne.symm n03)];exact c34
  refine⟨_,rfl,S,_,_,_,rfl,rfl,SqL.of cS5,rfl,.inl ⟨rfl,_,SqL.of c15⟩,_,rfl,s1,_,_,rfl,rfl,c15,rlen _,?_⟩
  generalize hH6:upd H5 s1 (.lst (((x::r).map Fz.o).reverse++[.non]))=H6
  have cS6:H6 S=some (.lst [.ref s0,.ref s1,.ref s2,.ref s3]):=by rw[<- hH6,af a2];exact cS5
  have c26:H6 s2=some (.lst (((x::r).map fun x=>V.bl x.f.shut).reverse)):=by rw[<- hH6,af (Ne.symm n12)];exact c25
  have c36:H6 s3=some (.lst (((x::r).map fun x=>V.int x.f.times).reverse)):=by rw[<- hH6,af (Ne.symm n13)];exact c35
  refine⟨_,rfl,S,_,_,_,rfl,rfl,SqL.of cS6,rfl,.inl ⟨rfl,_,SqL.of c26⟩,_,rfl,s2,_,_,rfl,rfl,c26,rlen _,?_⟩
  generalize hH7:upd H6 s2 (.lst (((x::r).map fun x=>V.bl x.f.shut).reverse++[.bl true]))=H7
  have cS7:H7 S=some (.lst [.ref s0,.ref s1,.ref s2,.ref s3]):=by rw[<- hH7,af a3];exact cS6
  have c37:H7 s3=some (.lst (((x::r).map fun x=>V.int x.f.times).reverse)):=by rw[<- hH7,af (Ne.symm n23)];exact c36
  refine⟨_,rfl,S,_,_,_,rfl,rfl,SqL.of cS7,rfl,.inl ⟨rfl,_,SqL.of c37⟩,_,rfl,s3,_,_,rfl,rfl,c37,rlen _,?_⟩
  subst hH7 hH6 hH5
  refine q _ ⟨⟨.whl nm,[],true,0⟩,li,p,li⟩ (mJ (y:=⟨⟨.whl nm,[],true,0⟩,li,p,li⟩) Z hc k4 (fun m hm=>?_) (by simp[Fz.muts]) kp4 (by simp) (by simp) rfl kc4) ?_
  ·simp[Fz.muts]at hm
   subst hm
   exact⟨hli,km4⟩
  ·unfold eL
   dsimp only
   rw[qZ c7,Q0 c8]
 have c8:=dL c8
 refine⟨_,rfl,S,_,_,_,rfl,rfl,SqL.of (s1' _ _ Z.cS),rfl,_,rfl,s3,_,_,_,rfl,rfl,SqL.of (s1' _ _ Z.c3),f7,?_⟩
 refine⟨_,rfl,_,_,rfl,rfl,Qk,?_⟩
 refine⟨_,rfl,_,_,rfl,rfl,_,rfl,?_⟩
 generalize hm0:n / 70 % 100=mm
 refine nu (P:=fun m=>m=cr n most x.f.times) (w:=mm) (fun cc=>?_) ?_ fun cc go=>?_
 ·rw[<- hm0]
  unfold cr
  rw[qZ (fun z=>cc (decide_eq_true z))]
 ·rintro m rfl
  refine⟨_,rfl,S,_,_,_,rfl,rfl,SqL.of (s1' _ _ Z.cS),rfl,_,rfl,s0,_,_,_,rfl,rfl,SqL.of (s1' _ _ Z.c0),f7,.inl ⟨rfl,_,SqL.of (s1' _ _ hc)⟩,_,rfl,_,rfl,(by show 3<=sizeLine;decide),fun p hp=>?_⟩
  have hp':H p=none:=a9.none s1' hp
  have s3':a9 H (upd (upd H li (.lst [])) p (.tup [.str "repeat",.int (cr n most x.f.times),.ref li])):=a9.over s1' hp'
  have pli:p≠li:=fun e=>by rw[e,ag]at hp;cases hp
  have pc:p≠x.c:=fun e=>by rw[e,hc]at hp';cases hp'
  refine⟨x.c,_,_,rfl,rfl,s3' _ _ hc,lvl,?_⟩
  have k4:∀b u,b≠x.c->H b=some u->(upd (upd (upd H li (.lst [])) p (.tup [.str "repeat",.int (cr n most x.f.times),.ref li])) x.c (.lst (vs++[.ref p]))) b=some u:=fun b u hb h=>by rw[af hb];exact s3' _ _ h
  have kc4:(upd (upd (upd H li (.lst [])) p (.tup [.str "repeat",.int (cr n most x.f.times),.ref li])) x.c (.lst (vs++[.ref p]))) x.c=some (.lst (vs++[.ref p])):=ag
  have kp4:(upd (upd (upd H li (.lst [])) p (.tup [.str "repeat",.int (cr n most x.f.times),.ref li])) x.c (.lst (vs++[.ref p]))) p=some (.tup [.str "repeat",.int (cr n most x.f.times),.ref li]):=by rw[af pc,ag]
  have km4:(upd (upd (upd H li (.lst [])) p (.tup [.str "repeat",.int (cr n most x.f.times),.ref li])) x.c (.lst (vs++[.ref p]))) li=some (.lst []):=by rw[af lic,af (Ne.symm pli),ag]
  refine⟨_,rfl,S,_,_,_,rfl,rfl,SqL.of (k4 _ _ cn.1 Z.cS),rfl,_,rfl,s2,_,_,_,rfl,rfl,SqL.of (k4 _ _ cn.2.2.2.1 Z.c2),f7,?_⟩
  refine⟨_,rfl,_,rfl,_,_,rfl,rfl,IntMulOk.of_left (intBits_le_64 Qo Qo),?_⟩
  generalize (upd (upd (upd H li (.lst [])) p (.tup [.str "repeat",.int (cr n most x.f.times),.ref li])) x.c (.lst (vs++[.ref p])))=H4 at k4 kc4 kp4 km4 ⊢
  have cS4:=k4 _ _ cn.1 Z.cS
  have c04:=k4 _ _ cn.2.1 Z.c0
  have c14:=k4 _ _ cn.2.2.1 Z.c1
  have c24:=k4 _ _ cn.2.2.2.1 Z.c2
  have c34:=k4 _ _ cn.2.2.2.2 Z.c3
  refine⟨_,rfl,S,_,_,_,rfl,rfl,SqL.of cS4,rfl,.inl ⟨rfl,_,SqL.of c04⟩,_,rfl,s0,_,_,rfl,rfl,c04,rlen _,?_⟩
  generalize hH5:upd H4 s0 (.lst (((x::r).map fun x=>V.ref x.c).reverse++[.ref li]))=H5
  have cS5:H5 S=some (.lst [.ref s0,.ref s1,.ref s2,.ref s3]):=by rw[<- hH5,af a1];exact cS4
  have c15:H5 s1=some (.lst (((x::r).map Fz.o).reverse)):=by rw[<- hH5,af (Ne.symm n01)];exact c14
  have c25:H5 s2=some (.lst (((x::r).map fun x=>V.bl x.f.shut).reverse)):=by rw[<- hH5,af (Ne.symm n02)];exact c24
  have c35:H5 s3=some (.lst (((x::r).map fun x=>V.int x.f.times).reverse)):=by rw[<- hH5,af (Ne.symm n03)];exact c34
  refine⟨_,rfl,S,_,_,_,rfl,rfl,SqL.of cS5,rfl,.inl ⟨rfl,_,SqL.of c15⟩,_,rfl,s1,_,_,rfl,rfl,c15,rlen _,?_⟩
  generalize hH6:upd H5 s1 (.lst (((x::r).map Fz.o).reverse++[.non]))=H6
  have cS6:H6 S=some (.lst [.ref s0,.ref s1,.ref s2,.ref s3]):=by rw[<- hH6,af a2];exact cS5
  have c26:H6 s2=some (.lst (((x::r).map fun x=>V.bl x.f.shut).reverse)):=by rw[<- hH6,af (Ne.symm n12)];exact c25
  have c36:H6 s3=some (.lst (((x::r).map fun x=>V.int x.f.times).reverse)):=by rw[<- hH6,af (Ne.symm n13)];exact c35
  refine⟨_,rfl,S,_,_,_,rfl,rfl,SqL.of cS6,rfl,.inl ⟨rfl,_,SqL.of c26⟩,_,rfl,s2,_,_,rfl,rfl,c26,rlen _,?_⟩
  generalize hH7:upd H6 s2 (.lst (((x::r).map fun x=>V.bl x.f.shut).reverse++[.bl x.f.shut]))=H7
  have cS7:H7 S=some (.lst [.ref s0,.ref s1,.ref s2,.ref s3]):=by rw[<- hH7,af a3];exact cS6
  have c37:H7 s3=some (.lst (((x::r).map fun x=>V.int x.f.times).reverse)):=by rw[<- hH7,af (Ne.symm n23)];exact c36
  refine⟨_,rfl,S,_,_,_,rfl,rfl,SqL.of cS7,rfl,.inl ⟨rfl,_,SqL.of c37⟩,_,rfl,s3,_,_,rfl,rfl,c37,rlen _,?_⟩
  subst hH7 hH6 hH5
  refine q _ ⟨⟨.rep (cr n most x.f.times),[],x.f.shut,x.f.times * cr n most x.f.times⟩,li,p,li⟩ (mJ (y:=⟨⟨.rep (cr n most x.f.times),[],x.f.shut,x.f.times * cr n most x.f.times⟩,li,p,li⟩) Z hc k4 (fun m hm=>?_) (by simp[Fz.muts]) kp4 (by simp) (by simp) rfl kc4) ?_
  ·simp[Fz.muts]at hm
   subst hm
   exact⟨hli,km4⟩
  ·unfold eL
   dsimp only
   rw[qZ c7,qZ c8]
 ·have tp:0<x.f.times:=of_decide_eq_true cc
  refine⟨_,rfl,_,rfl,_,rfl,_,_,rfl,rfl,⟨tp,Qo⟩,_,_,rfl,rfl,_,_,rfl,rfl,?_,?_⟩
  ·have:=Int.ediv_nonneg m0 t0
   omega
  ·refine go _ ?_
   unfold cr
   rw[Q0 tp]
abbrev c1P (low n most:Int) (len:Nat) (shut:Bool):Prop:=low<=n % 14/\n % 14<=9/\len+1<=12/\(n % 14<9\/0<most\/shut=true)
theorem Al (T:Tx P w K mg a):aR P w K mg base CX0 2 a._law_block a.fd__law_block ["_law_cells","_law_names","_law_rooms","_law_most","_law_low"] (rM K):=by
 refine T.F__law_block.ok gq (fun vs H Q E h=>?_) (fun cdv A outer s H vs Q E hr h=>?_)
 ·obtain⟨_,_,_,_,_,_,_,_,rfl,_⟩:=h
  rfl
 obtain⟨lc,ln,lr,cells,names,rooms,most,low,rfl,hcl,hnm,hrm,lc1,nm0,nm1,rm1,m0,m1,q⟩:=h
 refine⟨_,(ai (aq (i:=5) gq.nd rfl (Or.inl rfl) (bc ae))
  (ai (aq (i:=6) gq.nd rfl (Or.inl rfl) (bc (aa (bc (aa (pq 5) ae)) (aa (bc (aa cw ae)) (aa (bc (aa eK ae)) (aa (bc (aa ac ae)) ae))))))
  (ai (bU PassesOwn.never rfl (cT (pq 0)) (aM (i:=7) gq.nd rfl (Or.inl rfl))
  (ai (aq (i:=8) gq.nd rfl (Or.inl rfl) (aC (eX T) (hr.mono Qk) rfl T.m__law_mixed T.F__law_mixed.kp T.b__law_mixed .nil aD (aa (pq 7) (aa ac ae))))
  (ai (aq (i:=9) gq.nd rfl (Or.inl rfl) (ao bg (pq 8) ac))
  (ak (aP (PW.pt (fQ (sQ iM iM (pq 4) (pq 9) ac) (fQ (aA iM (ba c9 rfl T.z_len PySem.boot_len (aa (aj aF (pq 6) ac (fun _ _=>rfl)) ae)) ac (az _)) (hU (PW.pt (dn (aA iL (pq 9) ac (az _)) (dn (aA fN (pq 3) ac (az _)) (fP (eU (aj aF (aj aF (pq 6) ac (fun _ _=>rfl)) (cU cO ac) (fun _ _=>rfl))))))))))) (ak (bC (aC (Ag T) (hr.mono Qk) rfl T.m__law_opened T.F__law_opened.kp T.b__law_opened .nil aD (aa (pq 6) (aa (pq 8) (aa (aj aF (pq 1) (ao bg (ao cH (pq 8) ac) (ba c9 rfl T.z_len PySem.boot_len (aa (pq 1) ae))) (fun _ _=>rfl)) (aa (pq 3) ae))))))) (ak (aP (PW.pt (fQ (aA aX (pq 9) ac (az _)) (hU (aA fL (aj aF (aj aF (pq 6) ac (fun _ _=>rfl)) (cU cO ac) (fun _ _=>rfl)) cw (az _))))) (ai (jE (aj aF (aj aF (pq 6) ac (fun _ _=>rfl)) (cU cO ac) (fun _ _=>rfl)) (sW (aj aF (pq 6) ac (fun _ _=>rfl)) (cU cO ac) rT))
  (ak (jE cw (sW (aj aF (pq 6) ac (fun _ _=>rfl)) (cU cO ac) rT)))) (ak (aP (PW.pt (fQ (aA sD (pq 9) ac (az _)) (hU (aA fN (ba c9 rfl T.z_len PySem.boot_len (aa (aj aF (pq 6) ac (fun _ _=>rfl)) ae)) ac (az _))))) (ak (bU PassesOwn.never rfl (cT (pq 6)) (aM (i:=10) gq.nd rfl (Or.inl rfl))
  (ak (bC (zw qh PySem.F.slot_list_pop PySem.F.type_list_pop AD (pq 10)))))) (ak (bC (bF qh qv qw ck (aj aF (aj aF (pq 6) ac (fun _ _=>rfl)) (cU cO ac) (fun _ _=>rfl)) (aa (aC (Ac T) (hr.mono Qk) rfl T.m__law_simple T.F__law_simple.kp T.b__law_simple .nil aD (aa (pq 8) (aa (pq 1) (aa (pq 2) (aa (aj aF (aj aF (pq 6) ac (fun _ _=>rfl)) (cU cO ac) (fun _ _=>rfl)) ae))))) ae)))))))))))))
  (ak (aE (pq 5)))))),?_⟩
 refine⟨qt _,fun b hb=>?_⟩
 refine⟨_,rfl,ln1,fun s0 h0=>⟨ln1,fun s1 h1=>⟨ln1,fun s2 h2=>⟨ln1,fun s3 h3=>⟨(by show 4<=sizeLine;decide),fun S hS=>?_⟩⟩⟩⟩⟩
 have sb:a9 H (upd H b (.lst [])):=a9.new hb _
 have g0:=a9.none sb h0
 have ss0:a9 H (upd (upd H b (.lst [])) s0 (.lst [.ref b])):=a9.over sb g0
 have g1:=a9.none ss0 h1
 have ss1:a9 H (upd (upd (upd H b (.lst [])) s0 (.lst [.ref b])) s1 (.lst [.non])):=a9.over ss0 g1
 have g2:=a9.none ss1 h2
 have ss2:a9 H (upd (upd (upd (upd H b (.lst [])) s0 (.lst [.ref b])) s1 (.lst [.non])) s2 (.lst [.bl false])):=a9.over ss1 g2
 have g3:=a9.none ss2 h3
 have ss3:a9 H (upd (upd (upd (upd (upd H b (.lst [])) s0 (.lst [.ref b])) s1 (.lst [.non])) s2 (.lst [.bl false])) s3 (.lst [.int 1])):=a9.over ss2 g3
 have gS:=a9.none ss3 hS
 have ne:∀{X:Hp}{u v:Addr}{o:HO},(upd X u o) v=none->v≠u:=fun h e=>by rw[e,ag]at h;cases h
 have e0b:=ne h0
 have e10:=ne h1
 have e1b:s1≠b:=ne (by rw[af e10]at h1;exact h1)
 have e21:=ne h2
 have h2':(upd (upd H b (.lst [])) s0 (.lst [.ref b])) s2=none:=by rw[af e21]at h2;exact h2
 have e20:=ne h2'
 have e2b:s2≠b:=ne (by rw[af e20]at h2';exact h2')
 have e32:=ne h3
 have h3':(upd (upd (upd H b (.lst [])) s0 (.lst [.ref b])) s1 (.lst [.non])) s3=none:=by rw[af e32]at h3;exact h3
 have e31:=ne h3'
 have h3'':(upd (upd H b (.lst [])) s0 (.lst [.ref b])) s3=none:=by rw[af e31]at h3';exact h3'
 have e30:=ne h3''
 have e3b:s3≠b:=ne (by rw[af e30]at h3'';exact h3'')
 have eS3:=ne hS
 have hS':(upd (upd (upd (upd H b (.lst [])) s0 (.lst [.ref b])) s1 (.lst [.non])) s2 (.lst [.bl false])) S=none:=by rw[af eS3]at hS;exact hS
 have eS2:=ne hS'
 have hS2:(upd (upd (upd H b (.lst [])) s0 (.lst [.ref b])) s1 (.lst [.non])) S=none:=by rw[af eS2]at hS';exact hS'
 have eS1:=ne hS2
 have hS1:(upd (upd H b (.lst [])) s0 (.lst [.ref b])) S=none:=by rw[af eS1]at hS2;exact hS2
 have eS0:=ne hS1
 have eSb:S≠b:=ne (by rw[af eS0]at hS1;exact hS1)
 have Z0:ZI H H (upd (upd (upd (upd (upd (upd H b (.lst [])) s0 (.lst [.ref b])) s1 (.lst [.non])) s2 (.lst [.bl false])) s3 (.lst [.int 1])) S (.lst [.ref s0,.ref s1,.ref s2,.ref s3])) S s0 s1 s2 s3 [⟨⟨.root,[],false,1⟩,b,b,b⟩]:=by
  refine{ hb:=a9.refl H,h0:=a9.over ss3 gS,fz:=?_,nd:=?_,cS:=ag,c0:=?_,c1:=?_,c2:=?_,c3:=?_,zr:=?_ }
  ·intro m hm
   simp[bq,Fz.muts]at hm
   rcases hm with rfl|rfl|rfl|rfl|rfl|rfl<;>assumption
  ·simp[bq,Fz.muts]
   exact⟨⟨eS0,eS1,eS2,eS3,eSb⟩,⟨Ne.symm e10,Ne.symm e20,Ne.symm e30,e0b⟩,⟨Ne.symm e21,Ne.symm e31,e1b⟩,⟨Ne.symm e32,e2b⟩,e3b⟩
  ·rw[af (Ne.symm eS0),af (Ne.symm e30),af (Ne.symm e20),af (Ne.symm e10),ag];rfl
  ·rw[af (Ne.symm eS1),af (Ne.symm e31),af (Ne.symm e21),ag];rfl
  ·rw[af (Ne.symm eS2),af (Ne.symm e32),ag];rfl
  ·rw[af (Ne.symm eS3),ag];rfl
  ·refine⟨⟨[],?_,.nil⟩,trivial,.inl ⟨rfl,rfl⟩⟩
   show _=some (HO.lst ([]++[]))
   rw[af (Ne.symm eSb),af (Ne.symm e3b),af (Ne.symm e2b),af (Ne.symm e1b),af (Ne.symm e0b),ag]
   rfl
 generalize upd (upd (upd (upd (upd (upd H b (.lst [])) s0 (.lst [.ref b])) s1 (.lst [.non])) s2 (.lst [.bl false])) s3 (.lst [.int 1])) S (.lst [.ref s0,.ref s1,.ref s2,.ref s3])=H1 at Z0 ⊢
 refine⟨_,rfl,lc,rfl,⟨_,Z0.hbH.seq hcl⟩,?_⟩
 have lcm:(cells.map V.int).length=cells.length:=qa _
 refine dw (K:=K) (a:=lc) (xs:=cells.map V.int) (fun i σ H2=>∃(H0:Hp) (z:List Fz) (v7 v8 v9 v10:Option V),σ=[some (.ref lc),some (.ref ln),some (.ref lr),some (.int most),some (.int low),some (.ref b),some (.ref S),v7,v8,v9,v10]/\ZI H H0 H2 S s0 s1 s2 s3 z/\z.map (·.f)=cG names rooms most low (cells.take i)/\j4 z=b)
  ⟨H,_,_,_,_,_,rfl,Z0,rfl,rfl⟩ ?_ ?_ ?_
 ·rintro i σ H2 _ ⟨H0,z,v7,v8,v9,v10,_,Z,_⟩
  exact Z.hbH.seq hcl
 ·rintro i cv σ H2 hci ⟨H0,z,v7,v8,v9,v10,rfl,Z,hz,hbt⟩
  rw[qE]at hci
  obtain⟨c,hc,rfl⟩:=qP.mp hci
  have hi:i<cells.length:=by
   rcases Nat.lt_or_ge i cells.length with h|h
   ·exact h
   ·rw[List.getElem?_eq_none h]at hc;cases hc
  obtain⟨x,r,vs,rfl,hx,hrd⟩:=Z.top
  obtain⟨ok1,ok2,ok3⟩:=jd (names:=names) (rooms:=rooms) (most:=most) (low:=low) nm0 (cells.take i) st0 ⟨rfl,by simp[st0,cards,ah],by simp[st0,aH]⟩ (by simp[st0])
  have tok:=ph (names:=names) (rooms:=rooms) (most:=most) (low:=low) m0 m1 (cells.take i) st0 (by intro f hf;simp[st0]at hf;subst hf;exact⟨Qk,Qk⟩)
  have hz':(cells.take i).foldl (fun st c=>bK names rooms most low st (ar c 1)) st0=x.f::r.map (·.f):=hz.symm
  rw[hz']at ok1 ok2 ok3 tok
  have zl:(x::r).length<=13:=by simpa using ok2
  have cn0:cnt st0=0:=rfl
  have dl:x.f.ds.length<=1000:=by
   have:=wb (f:=x.f) (r:=r.map (·.f))
   rw[qK]at ok3
   omega
  have tx:=tok x.f qo
  have n0:=jR c 1
  have n1:=tU c 1
  have nxt:cG names rooms most low (cells.take (i+1))=bK names rooms most low (x.f::r.map (·.f)) (ar c 1):=by rw[wZ hc,<- hz];rfl
  rw[nxt]
  have rml:(r.map (·.f)).length=r.length:=qa _
  have hn2:=Z.hbH.seq hnm
  have hr2:=Z.hbH.seq hrm
  refine⟨_,rfl,c,1,rfl,Qk,Qk,?_⟩
  generalize ar c 1=n at n0 n1 ⊢
  refine⟨_,rfl,_,_,rfl,rfl,Qk,?_⟩
  have k0:0<=n % 14:=Int.emod_nonneg _ Qk
  have l0:((((x::r).map fun x=>V.ref x.c).reverse).length:Int)=(r.length:Int)+1:=by simp
  refine⟨_,rfl,_,rfl,_,_,rfl,rfl,_,rfl,?_⟩
  refine jW (Pc:=¬ c1P low n most r.length x.f.shut) (fun cc z=>cc (decide_eq_true z.1)) ?_ fun cc go=>?_
  ·intro nc
   refine⟨_,rfl,i7 ?_⟩
   try refine i7 ?_
   refine⟨_,rfl,rfl,_,rfl,?_⟩
   refine jW (Pc:=(if n % 14=10 then x.f.op.ifT? else none)=none) (fun cc=>by rw[qZ (dL cc)]) ?_ fun cc go=>?_
   ·intro ne
    refine i7 ?_
    refine⟨_,rfl,_,_,rfl,rfl,_,rfl,?_⟩
    refine jW (Pc:=¬ (10<=n % 14/\0<r.length)) (fun cc z=>cc (decide_eq_true z.1)) ?_ fun cc go=>?_
    ·intro nx
     refine i7 ?_
     refine⟨_,rfl,S,_,_,_,rfl,rfl,SqL.of Z.cS,rfl,_,rfl,s0,_,_,_,rfl,rfl,SqL.of Z.c0,f7,.inl ⟨rfl,_,SqL.of hx⟩,_,rfl,_,rfl,_,rfl,_,rfl,S,_,_,_,rfl,rfl,SqL.of Z.cS,rfl,_,rfl,s2,_,_,_,rfl,rfl,SqL.of Z.c2,f7,?_⟩
     refine⟨n,ln,lr,names,rooms,x.f.shut,rfl,hn2,hr2,nm0,nm1,rm1,n0,Qo,fun H3 p xs s3' hp hp3 hrd3=>?_⟩
     have Z3:=Z.same s3'
     have p0:H0 p=none:=a9.none Z.h0 hp
     refine⟨x.c,_,_,rfl,rfl,s3' _ _ hx,qD (Nat.lt_succ_of_le (by rw[hrd.len];exact dl)) Qk,?_⟩
     refine⟨_,_,_,_,_,_,rfl,Z3.push (s3' _ _ hx) hp3 p0 (hrd3 _ ag),?_,?_⟩
     ·unfold bK
      dsimp only
      rw[rml,qZ nc,ne,qZ nx]
      rfl
     ·rw[<- hbt]
      exact vc rfl
    ·have k10:=of_decide_eq_true cc
     refine⟨_,rfl,S,_,_,_,rfl,rfl,SqL.of Z.cS,rfl,s0,_,rfl,.inl (SqL.of Z.c0),_,_,rfl,rfl,_,rfl,?_⟩
     rw[l0]
     refine cL (fun cc=>?_) (fun cc=>by have h:=go fun z=>cc (decide_eq_true Qo);exact h)
     have r0:0<r.length:=by have:=of_decide_eq_true cc;omega
     cases r with
     |nil=>cases r0
     |cons g r=>
     obtain⟨q0,q1,q2,q3,n01,n02,n03,n12,n13,n23⟩:=Z.ss
     have F:=fun(j:Nat) (H3:Hp)=>(j=0/\H3=H2)
     refine⟨_,rfl,S,rfl,⟨_,SqL.of Z.cS⟩,?_⟩
     generalize hA1:upd H2 s0 (.lst (((g::r).map fun x=>V.ref x.c).reverse))=A1
     generalize hA2:upd A1 s1 (.lst (((g::r).map Fz.o).reverse))=A2
     generalize hA3:upd A2 s2 (.lst (((g::r).map fun x=>V.bl x.f.shut).reverse))=A3
     generalize hA4:upd A3 s3 (.lst (((g::r).map fun x=>V.int x.f.times).reverse))=A4
     have cS1:A1 S=some (.lst [.ref s0,.ref s1,.ref s2,.ref s3]):=by rw[<- hA1,af q0];exact Z.cS
     have cS2:A2 S=some (.lst [.ref s0,.ref s1,.ref s2,.ref s3]):=by rw[<- hA2,af q1];exact cS1
     have cS3:A3 S=some (.lst [.ref s0,.ref s1,.ref s2,.ref s3]):=by rw[<- hA3,af q2];exact cS2
     have cS4:A4 S=some (.lst [.ref s0,.ref s1,.ref s2,.ref s3]):=by rw[<- hA4,af q3];exact cS3
     have c11:A1 s1=some (.lst (((x::g::r).map Fz.o).reverse)):=by rw[<- hA1,af (Ne.symm n01)];exact Z.c1
     have c22:A2 s2=some (.lst (((x::g::r).map fun x=>V.bl x.f.shut).reverse)):=by rw[<- hA2,af (Ne.symm n12),<- hA1,af (Ne.symm n02)];exact Z.c2
     have c33:A3 s3=some (.lst (((x::g::r).map fun x=>V.int x.f.times).reverse)):=by rw[<- hA3,af (Ne.symm n23),<- hA2,af (Ne.symm n13),<- hA1,af (Ne.symm n03)];exact Z.c3
     refine dw (K:=K) (a:=S) (xs:=[.ref s0,.ref s1,.ref s2,.ref s3]) (fun j σ H3=>(∃v10,σ=[some (.ref lc),some (.ref ln),some (.ref lr),some (.int most),some (.int low),some (.ref b),some (.ref S),some (.int c),some (.int n),some (.int (n % 14)),v10])/\((j=0/\H3=H2)\/(j=1/\H3=A1)\/(j=2/\H3=A2)\/(j=3/\H3=A3)\/(j=4/\H3=A4))) ⟨⟨_,rfl⟩,.inl ⟨rfl,rfl⟩⟩ ?_ ?_ ?_
     ·rintro j σ H3 _ ⟨_,⟨_,rfl⟩|⟨_,rfl⟩|⟨_,rfl⟩|⟨_,rfl⟩|⟨_,rfl⟩⟩
      ·exact SqL.of Z.cS
      ·exact SqL.of cS1
      ·exact SqL.of cS2
      ·exact SqL.of cS3
      ·exact SqL.of cS4
     ·rintro j y σ H3 hy ⟨⟨v,rfl⟩,⟨rfl,rfl⟩|⟨rfl,rfl⟩|⟨rfl,rfl⟩|⟨rfl,rfl⟩|⟨rfl,rfl⟩⟩
      ·simp at hy
       subst hy
       refine⟨_,rfl,.inl ⟨rfl,_,SqL.of Z.c0⟩,s0,_,_,rfl,rfl,Z.c0,jU,⟨_,rfl⟩,.inr (.inl ⟨rfl,?_⟩)⟩
       rw[k9]
       exact hA1
      ·simp at hy
       subst hy
       refine⟨_,rfl,.inl ⟨rfl,_,SqL.of c11⟩,s1,_,_,rfl,rfl,c11,jU,⟨_,rfl⟩,.inr (.inr (.inl ⟨rfl,?_⟩))⟩
       rw[k9]
       exact hA2
      ·simp at hy
       subst hy
       refine⟨_,rfl,.inl ⟨rfl,_,SqL.of c22⟩,s2,_,_,rfl,rfl,c22,jU,⟨_,rfl⟩,.inr (.inr (.inr (.inl ⟨rfl,?_⟩)))⟩
       rw[k9]
       exact hA3
      ·simp at hy
       subst hy
       refine⟨_,rfl,.inl ⟨rfl,_,SqL.of c33⟩,s3,_,_,rfl,rfl,c33,jU,⟨_,rfl⟩,.inr (.inr (.inr (.inr ⟨rfl,?_⟩)))⟩
       rw[k9]
       exact hA4
      ·simp at hy
     ·rintro σ H3 ⟨⟨v,rfl⟩,hj⟩
      have e4:H3=A4:=by
       rcases hj with⟨j,_⟩|⟨j,_⟩|⟨j,_⟩|⟨j,_⟩|⟨_,e⟩
       ·simp at j
       ·simp at j
       ·simp at j
       ·simp at j
       ·exact e
      subst e4
      obtain⟨H0',Z'⟩:=Z.closed (H':=H3) (fun m u e1 e2 e3 e4 hm=>by rw[<- hA4,af e4,<- hA3,af e3,<- hA2,af e2,<- hA1,af e1];exact hm)
       (by rw[<- hA4,af n03,<- hA3,af n02,<- hA2,af n01,<- hA1,ag]) (by rw[<- hA4,af n13,<- hA3,af n12,<- hA2,ag]) (by rw[<- hA4,af n23,<- hA3,ag]) (by rw[<- hA4,ag])
      refine⟨H0',_,_,_,_,_,rfl,Z',?_,?_⟩
      ·unfold bK
       dsimp only
       rw[rml,qZ nc,ne,Q0 ⟨k10,r0⟩]
       rfl
      ·rw[<- hbt]
       exact vc rfl
   ·have c10:=du cc
    refine⟨_,rfl,S,_,_,_,rfl,rfl,SqL.of Z.cS,rfl,_,rfl,s1,_,_,_,rfl,rfl,SqL.of Z.c1,f7,rfl,_,rfl,?_⟩
    cases hop:x.f.op.ifT? with
    |none=>
     have xo:x.o=.non:=by unfold Fz.o;cases q:x.f.op<;>rw[q]at hop<;>first|rfl|cases hop
     rw[xo]
     have h:=go (by rw[Q0 c10];exact hop)
     exact h
    |some nm'=>
     have q:x.f.op=.ifT nm':=by cases q:x.f.op<;>rw[q]at hop<;>simp[Op.ifT?]at hop;rw[hop]
     have xo:x.o=.ref x.e:=by unfold Fz.o;rw[q]
     rw[xo]
     refine bx (by simp) ?_
     have c0':H2 s0=some (.lst ((r.map fun x=>V.ref x.c).reverse++[.ref x.c])):=by rw[Z.c0];simp
     have c1':H2 s1=some (.lst ((r.map Fz.o).reverse++[.ref x.e])):=by rw[Z.c1,qR,List.reverse_cons,xo]
     have sn:=Z.ss
     refine⟨_,rfl,S,_,_,_,rfl,rfl,SqL.of Z.cS,rfl,_,rfl,s1,_,_,_,rfl,rfl,SqL.of c1',u9,_,rfl,S,_,_,_,rfl,rfl,SqL.of Z.cS,rfl,_,rfl,s0,_,_,_,rfl,rfl,c0',uc,?_⟩
     rw[rV]
     have cS3:(upd H2 s0 (.lst ((r.map fun x=>V.ref x.c).reverse++[.ref x.e]))) S=some (.lst [.ref s0,.ref s1,.ref s2,.ref s3]):=by rw[af sn.1];exact Z.cS
     have c13:(upd H2 s0 (.lst ((r.map fun x=>V.ref x.c).reverse++[.ref x.e]))) s1=some (.lst ((r.map Fz.o).reverse++[.ref x.e])):=by rw[af (Ne.symm sn.2.2.2.2.1)];exact c1'
     refine⟨_,rfl,S,_,_,_,rfl,rfl,SqL.of cS3,rfl,_,rfl,s1,_,_,_,rfl,rfl,c13,uc,?_⟩
     rw[rV]
     refine⟨_,_,_,_,_,_,rfl,Z.elsed q hx (fun m u e1 e2 hm=>by rw[af e2,af e1];exact hm) (by rw[af sn.2.2.2.2.1,ag]) ag,?_,?_⟩
     ·unfold bK
      dsimp only
      rw[rml,qZ nc,Q0 c10,hop]
      rfl
     ·cases r with
      |nil=>have:=ok1.1;rw[q]at this;cases this
      |cons y r'=>exact hbt
  ·have a1:=of_decide_eq_true cc
   refine⟨_,_,rfl,rfl,_,rfl,?_⟩
   refine cL (fun cc=>?_) (fun cc=>by have h:=goB (Pc:=¬ c1P low n most r.length x.f.shut) go fun z=>cc (decide_eq_true z.2.1);exact h)
   have a2:=of_decide_eq_true cc
   refine⟨_,rfl,S,_,_,_,rfl,rfl,SqL.of Z.cS,rfl,s0,_,rfl,.inl (SqL.of Z.c0),_,_,rfl,rfl,_,rfl,?_⟩
   rw[l0]
   refine cL (fun cc=>?_) (fun cc=>by have h:=goB (Pc:=¬ c1P low n most r.length x.f.shut) go fun z=>cc (decide_eq_true (by have:=z.2.2.1;omega));exact h)
   have a3:=of_decide_eq_true cc
   refine⟨_,rfl,_,_,rfl,rfl,_,rfl,?_⟩
   refine B8 (Pc:=n % 14<9\/0<most\/x.f.shut=true) (fun cc=>.inl (of_decide_eq_true cc)) ?_ fun cc yes=>?_
   ·intro pc
    refine nB ?_
    refine⟨_,rfl,_,rfl,_,rfl,_,rfl,_,_,rfl,rfl,⟨Qk,Qk⟩,_,rfl,ln,_,rfl,.inl hn2,_,_,rfl,rfl,(by rw[qa];omega),ln,_,_,_,rfl,rfl,hn2,gD nm0 _,_,rfl,?_⟩
    refine⟨H,H0,S,s0,s1,s2,s3,x,r,n,most,nth names (n / 14),rfl,Z,Qo,dl,n0,Qo,m0,m1,tx.1,Qo,fun H' y Z' e=>?_⟩
    refine⟨H0,y::x::r,_,_,_,_,rfl,Z',?_,hbt⟩
    unfold bK
    dsimp only
    rw[rml,Q0 ⟨a1,a2,Qo,pc⟩]
    exact e
   ·have a4:¬ n % 14<9:=fun z=>cc (decide_eq_true z)
    refine⟨_,rfl,_,_,rfl,rfl,_,rfl,?_⟩
    refine cL (fun cc=>yes (.inr (.inl (of_decide_eq_true cc)))) (fun cc=>?_)
    have a5:¬ 0<most:=fun z=>cc (decide_eq_true z)
    refine⟨_,rfl,S,_,_,_,rfl,rfl,SqL.of Z.cS,rfl,_,rfl,s2,_,_,_,rfl,rfl,SqL.of Z.c2,f7,_,rfl,?_⟩
    cases hsh:x.f.shut with
    |true=>exact yes (.inr (.inr hsh))
    |false=>
     have h:=goB (Pc:=¬ c1P low n most r.length x.f.shut) go fun z=>by
      rcases z.2.2.2 with z|z|z
      ·exact a4 z
      ·exact a5 z
      ·rw[hsh]at z;cases z
     exact h
 ·rintro σ H2 ⟨H0,z,v7,v8,v9,v10,rfl,Z,hz,hbt⟩
  rw[lcm,qH]at hz
  refine⟨_,rfl,q H2 b Z.hbH hb ?_⟩
  have w:=Z.zr.whole Z.h0 (tl:=[]) (dt:=[]) .nil
  rw[hbt,hz]at w
  have ne:cG names rooms most low cells≠[]:=by
   rw[<- hz]
   intro e
   have:=Z.zr
   rw[List.map_eq_nil_iff.mp e]at this
   exact this
  unfold cW ip
  rw[iq _ _ (by have:=List.length_pos_iff.mpr ne;omega)]
  exact w
theorem A6 (T:Tx P w K mg a):aR P w K mg base CX0 17 a.cards_of a.fd_cards_of ["program"] pQ:=by
 refine T.F_cards_of.ok jq (fun vs H Q E h=>?_) (fun cdv A outer s H vs Q E hr h=>?_)
 ·obtain⟨_,_,_,_,_,_,_,_,_,rfl,_⟩:=h
  rfl
 obtain⟨p,la,ls,lb,asks,ss,ds,us,C,rfl,rp,hdp,hfl,ha,hs,hsl,hC,h64,hlen,k⟩:=h
 refine⟨_,(ai (aq (i:=1) jq.nd rfl (Or.inl rfl) (ao hG (ao hG (aj au (pq 0) ac (fun _ _=>rfl)) (aC (mL T) (hr.mono Qk) rfl T.m_touched T.F_touched.kp T.b_touched .nil aD (aa (aj au (pq 0) ac (fun _ _=>rfl)) ae))) (bc (aa (eV rfl T.c_OUTLET T.r_OUTLET) ae))))
  (ai (bU PassesOwn.never rfl (cT (aj au (pq 0) ac (fun _ _=>rfl))) (dR rfl (bW (aM (i:=2) jq.nd rfl (Or.inl rfl)) (bW (aM (i:=3) jq.nd rfl (Or.inl rfl)) dH)))
  (ak (bC (bF qh PySem.F.slot_list_extend PySem.F.type_list_extend fZ (pq 1) (aa (bc (aa (aC (mN T) (hr.mono Qk) rfl T.m_put_card T.F_put_card.kp T.b_put_card .nil aD (aa (pq 2) ae)) (aa (aC (mP T) (hr.mono Qk) rfl T.m_get_card T.F_get_card.kp T.b_get_card .nil aD (aa (pq 2) ae)) ae))) ae)))))
  (ak (aE (ba (nW rfl) rfl T.z_sorted PyProof.Rows.Boot.«sorted» (aa (eE (kh rfl) rfl T.z_set PyProof.Rows.Boot.«set» (aa (pq 1) ae)) ae)))))),?_⟩
 have hcC:∀q∈cards ds,q∈C:=fun q hq=>hC q (by unfold dP;simp[hq])
 refine⟨_,rfl,p,_,_,_,rfl,rfl,SqT.of rp.top,rfl,?_⟩
 refine⟨_,rfl,p,_,_,_,rfl,rfl,SqT.of rp.top,rfl,H,lb,ds,C,rfl,a9.refl H,rp.bo,hdp,hfl,hcC,h64,hlen,fun H1 l1 zs1 s1 n1 h1 nd1 hm1 so1=>?_⟩
 have z64:zs1.length<64:=Nat.lt_of_le_of_lt (i9 nd1 fun q hq=>hcC q ((hm1 q).mp hq)) h64
 refine⟨la,l1,_,_,rfl,rfl,SqL.of (s1 _ _ rp.as),SqL.of h1,bu (m:=3000) (by rw[qa,qa];omega),fun p1 hp1=>?_⟩
 refine⟨ln1,fun p2 hp2=>?_⟩
 refine⟨p1,p2,_,_,rfl,rfl,SqL.of (a9.new hp2 _ _ _ ag),SqL.of ag,bu (m:=3000) (by rw[qc,qa,qa,List.length_singleton];omega),fun p3 hp3=>?_⟩
 have s2:=s1.trans (a9.new hp1 (.lst (asks.map V.str++zs1.map V.str)))
 have s3:=s2.trans (a9.new hp2 (.lst [V.str (">":Str)]))
 have n3:=a9.none s3 hp3
 have s4:a9 H (upd (upd (upd H1 p1 (.lst (asks.map V.str++zs1.map V.str))) p2 (.lst [V.str (">":Str)])) p3 (.lst (asks.map V.str++zs1.map V.str++[V.str (">":Str)]))):=a9.over s3 n3
 refine⟨_,rfl,p,_,_,_,rfl,rfl,SqT.of (s4 _ _ rp.top),rfl,ls,rfl,⟨_,SqL.of (s4 _ _ rp.st)⟩,?_⟩
 have ul:=rp.ro.len
 have fl:∀i,((ss.take i).flatMap fun s=>[s.1++(">":Str),s.1++("<":Str)]).length=2 * (ss.take i).length:=fun i=>by
  induction ss.take i with
  |nil=>rfl
  |cons x r ih=>rw[qF,qc,ih,qA];simp;omega
 refine dw (K:=K) (a:=ls) (xs:=us) (fun i σ H5=>∃v v',σ=[some (.ref p),some (.ref p3),v,v']/\a9 H H5/\H5 p3=some (.lst ((asks++zs1++[(">":Str)]++(ss.take i).flatMap fun s=>[s.1++(">":Str),s.1++("<":Str)]).map V.str))) ⟨_,_,rfl,s4,?_⟩ ?_ ?_ ?_
 ·rw[ag]
  simp
 ·rintro i σ H5 _ ⟨v,v',_,s5,h5⟩
  exact SqL.of (s5 _ _ rp.st)
 ·rintro i x σ H5 hx ⟨v,v',rfl,s5,h5⟩
  obtain⟨px,q,n,rfl,hi,hpx⟩:=rp.ro.at i x hx
  have qm:q.length<=1000:=hsl _ (qz hi)
  refine⟨px,_,rfl,SqT.of (s5 _ _ hpx),rfl,_,_,rfl,_,_,rfl,rfl,?_⟩
  refine⟨_,rfl,.inl ⟨rfl,_,SqL.of h5⟩,_,rfl,q,rfl,qm,_,rfl,q,rfl,qm,ln2,fun p4 hp4=>?_⟩
  have lt:(ss.take i).length<=100:=by rw[qK];omega
  refine⟨p3,p4,_,_,rfl,rfl,a9.new hp4 _ _ _ h5,ag,bu (m:=3000) ?_,?_⟩
  ·rw[qa,qc,fl,qc,qc]
   simp
   omega
  refine⟨_,_,rfl,a9.over (s5.trans (a9.new hp4 _)) n3,?_⟩
  rw[ag,qr,hi]
  simp
 ·rintro σ H5 ⟨v,v',rfl,s5,h5⟩
  rw[ul,qH]at h5
  have f1:=fl ss.length
  rw[qH]at f1
  have mm:∀x,x∈asks++zs1++[(">":Str)]++(ss.flatMap fun s=>[s.1++(">":Str),s.1++("<":Str)])↔x∈dP asks ss ds:=fun x=>by
   unfold dP
   simp only[qi,hm1 x]
  refine⟨_,rfl,p3,_,rfl,SqL.of h5,?_,fun p6 hp6=>?_⟩
  ·rw[qc,f1,qc,qc,List.length_singleton]
   omega
  refine⟨p6,_,C,rfl,ag,fun x hx=>hC x ((mm x).mp hx),h64,fun r zs hr' nd hm so=>?_⟩
  have s6:a9 H5 (upd H5 p6 (dz P w p6 (asks++zs1++[(">":Str)]++(ss.flatMap fun s=>[s.1++(">":Str),s.1++("<":Str)])))):=a9.new hp6 _
  exact k _ r zs ((s5.trans s6).trans (a9.new hr' _)) ag nd (fun x=>(hm x).trans (mm x)) so
theorem zW (T:Tx P w K mg a):aR P w K mg base CX0 2 a.read_by_set a.fd_read_by_set ["deed"] pH:=by
 refine T.F_read_by_set.ok xZ (fun vs H Q E h=>?_) (fun cdv A outer s H vs Q E hr h=>?_)
 ·obtain⟨_,_,_,_,_,_,_,rfl,_⟩:=h
  rfl
 obtain⟨H0,p,x,sg,va,vb,C,rfl,e0,h,c1,h64,k⟩:=h
 refine⟨_,(ak (aE (ba (nW rfl) rfl T.z_sorted PyProof.Rows.Boot.«sorted» (aa (ao zy (eE (kh rfl) rfl T.z_set PyProof.Rows.Boot.«set» (aa (aC (tu T) (hr.mono Qk) rfl T.m_names_in T.F_names_in.kp T.b_names_in .nil aD (aa (pq 0) ae)) ae)) (eE (kh rfl) rfl T.z_set PyProof.Rows.Boot.«set» (aa (bc (aa (aj au (pq 0) ac (fun _ _=>rfl)) ae)) ae))) ae)))),?_⟩
 refine⟨_,rfl,H0,_,_,rfl,e0,.set h,fun H1 l1 s1 n1 h1=>?_⟩
 have nf:(a8.set x va sg vb).names.length<4:=by cases va<;>cases vb<;>simp[a8.names,Val.names]
 refine⟨l1,_,rfl,SqL.of h1,Qo,fun p2 hp2=>?_⟩
 have s2:=s1.trans (a9.new hp2 (dz P w p2 (a8.set x va sg vb).names))
 refine⟨_,rfl,_,_,_,_,rfl,rfl,SqT.of (s2 _ _ (e0 _ _ h)),rfl,ln1,fun p3 hp3=>?_⟩
 have s3:=s2.trans (a9.new hp3 (.lst [V.str x]))
 refine⟨p3,[x],rfl,SqL.of ag,by simp,fun p4 hp4=>?_⟩
 have s34:=(a9.new hp3 (.lst [V.str x])).trans (a9.new hp4 (dz P w p4 [x]))
 have s4:=s2.trans s34
 refine⟨p2,p4,_,_,rfl,rfl,s34 _ _ ag,ag,nf,fun p5 hp5=>?_⟩
 have s5:=s4.trans (a9.new hp5 (dz P w p5 ((a8.set x va sg vb).names.filter fun k=>!decide (k∈[x]))))
 refine⟨p5,_,C,rfl,ag,fun q hq=>c1 q (List.mem_filter.mp hq).1,h64,fun p6 zs hp6 nd hm so=>?_⟩
 have ez:zs=jA x va vb:=jf nd (fun q=>(hm q).trans (by simp[a8.names])) so
 subst ez
 exact k _ _ (s5.trans (a9.new hp6 _)) ag
theorem mO (T:Tx P w K mg a):aR P w K mg base CX0 1 a.owner_of a.fd_owner_of ["kind","cards"] kK:=by
 refine T.F_owner_of.ok y1 (fun vs H Q E h=>?_) (fun cdv A outer s H vs Q E hr h=>?_)
 ·obtain⟨_,_,_,rfl,_⟩:=h
  rfl
 obtain⟨kd,l,zs,rfl,hl,k⟩:=h
 refine⟨_,(ak (aE (be (aa (pq 0) (aa (eE nV rfl T.z_tuple PyProof.Rows.Boot.«tuple» (aa (pq 1) ae)) (aa (be ae) (aa cw (aa cw ae)))))))),?_⟩
 refine⟨_,rfl,_,rfl,l,_,rfl,.inl ⟨SqL.of hl,fun po hpo=>?_⟩⟩
 refine⟨qt _,fun pr hpr=>⟨ln5,fun p hp=>?_⟩⟩
 have s1:a9 H (upd H po (.tup (zs.map V.str))):=a9.new hpo _
 have s2:=a9.new hpr (.tup [])
 exact k _ _ ((s1.trans s2).trans (a9.new hp _)) (cu.new (r:=⟨kd,zs,[],none,none⟩) (s2 _ _ ag) ag hp)
theorem zR (T:Tx P w K mg a):aR P w K mg base CX0 17 a.written_once a.fd_written_once ["deed"] pC:=by
 refine T.F_written_once.ok rY (fun vs H Q E h=>?_) (fun cdv A outer s H vs Q E hr h=>?_)
 ·obtain⟨_,_,_,_,rfl,_⟩:=h
  rfl
 obtain⟨H0,v,d,C,rfl,e0,hd,hdp,hfl,hC,h64,hlen,hnr,k⟩:=h
 refine⟨_,(ai (aq (i:=1) rY.nd rfl (Or.inl rfl) (aj au (pq 0) ac (fun _ _=>rfl)))
  (ai (aP (aA aX (pq 1) aQ (az _)) (ak (aE (be (aa aQ (aa (be (aa (aj au (pq 0) ac (fun _ _=>rfl)) ae)) (aa (eE nV rfl T.z_tuple PyProof.Rows.Boot.«tuple» (aa (aC (zW T) (hr.mono Qk) rfl T.m_read_by_set T.F_read_by_set.kp T.b_read_by_set .nil aD (aa (pq 0) ae)) ae)) (aa cw (aa cw ae)))))))) aZ)
  (ai (aP (aA aX (pq 1) aQ (az _)) (ak (aE (be (aa aQ (aa (be (aa (aC (mN T) (hr.mono Qk) rfl T.m_put_card T.F_put_card.kp T.b_put_card .nil aD (aa (aj au (pq 0) ac (fun _ _=>rfl)) ae)) ae)) (aa (be (aa (aj au (pq 0) ac (fun _ _=>rfl)) ae)) (aa (aj au (pq 0) ac (fun _ _=>rfl)) (aa cw ae)))))))) aZ)
  (ai (aP (aA aX (pq 1) aQ (az _)) (ak (aE (be (aa aQ (aa (eE nV rfl T.z_tuple PyProof.Rows.Boot.«tuple» (aa (ba (Ce rfl) rfl T.z_sorted PyProof.Rows.Boot.«sorted» (aa (bc (aa (aj au (pq 0) ac (fun _ _=>rfl)) (aa (aC (mP T) (hr.mono Qk) rfl T.m_get_card T.F_get_card.kp T.b_get_card .nil aD (aa (aj au (pq 0) ac (fun _ _=>rfl)) ae)) ae))) ae)) ae)) (aa (be ae) (aa cw (aa (aj au (pq 0) ac (fun _ _=>rfl)) ae)))))))) aZ)
  (ai (aP (aA aX (pq 1) aQ (az _)) (ak (aE (be (aa aQ (aa (be (aa (eV rfl T.c_OUTLET T.r_OUTLET) ae)) (aa (be (aa (aj au (pq 0) ac (fun _ _=>rfl)) ae)) (aa cw (aa cw ae)))))))) aZ)
  (ak (aE (aC (mO T) (hr.mono Qk) rfl T.m_owner_of T.F_owner_of.kp T.b_owner_of .nil aD (aa (pq 1) (aa (aC (mL T) (hr.mono Qk) rfl T.m_touched T.F_touched.kp T.b_touched .nil aD (aa (bc (aa (pq 0) ae)) ae)) ae)))))))))),?_⟩
 have c1:∀q∈d.cards,q∈C:=fun q hq=>hC q (by
  unfold cards
  rw[ah,ah,qx,gH]
  exact List.mem_flatMap.mpr ⟨d,qo,hq⟩)
 have bP:∀q z:Str,q++z∈d.others->q.length<=1000:=fun q z hq=>by
  have:=hlen _ (c1 _ (qI _ hq))
  rw[d8]at this
  omega
 have dp:aH [d]<=12:=by simp only[aH];omega
 have fl:(ah [d]).length<=1000:=by rw[ah,ah,qx];exact hfl
 have own:∀(H1:Hp) (kd:Str),a9 H H1->∀p,H1 p=none->aL d=⟨kd,srt (cards [d]),[],none,none⟩->RD H0 v d->kJ [.ref p] (upd H1 p (.lst [v])) (fun u H2=>kK [.str kd,u] H2 Q E0) E0:=fun H1 kd s1 p hp er hd=>by
  have s2:=a9.new hp (.lst [v])
  refine⟨_,p,[d],C,rfl,a9.refl _,.mk ag (.cons (RD.same ((e0.trans s1).trans s2) hd) .nil),dp,fl,hC,h64,hlen,fun H3 l zs s3 nl hl nd hm so=>?_⟩
  refine⟨kd,l,zs,rfl,hl,fun H4 u s4 hu=>k H4 u ((s1.trans s2).trans (s3.trans s4)) ?_⟩
  rw[er,<- jf nd hm so]
  exact hu
 have hd':=hd
 cases hd with
 |set h=>
  rename_i p x va sg vb
  refine⟨_,rfl,_,_,_,_,rfl,rfl,SqT.of (e0 _ _ h),rfl,?_⟩
  refine⟨_,rfl,rfl,_,rfl,?_⟩
  walk_at "yes"
  refine⟨_,rfl,_,_,_,_,rfl,rfl,SqT.of (e0 _ _ h),rfl,ln1,fun p7 hp7=>?_⟩
  have s7:=a9.new hp7 (.tup [V.str x])
  refine⟨_,rfl,H0,p,x,sg,va,vb,C,rfl,e0.trans s7,h,fun q hq=>c1 q (qV _ hq),h64,fun H1 l1 s1 h1=>?_⟩
  refine⟨l1,_,rfl,.inl ⟨SqL.of h1,fun p8 hp8=>⟨ln5,fun p9 hp9=>?_⟩⟩⟩
  have s8:=a9.new hp8 (.tup ((jA x va vb).map V.str))
  exact k _ _ (((s7.trans s1).trans s8).trans (a9.new hp9 _)) (cu.new (r:=aL (.set x va sg vb)) (s8 _ _ (s1 _ _ ag)) ag hp9)
 |put h=>
  rename_i p q x
  refine⟨_,rfl,_,_,_,_,rfl,rfl,SqT.of (e0 _ _ h),rfl,?_⟩
  refine⟨_,rfl,rfl,_,rfl,?_⟩
  walk_at "no"
  refine⟨_,rfl,rfl,_,rfl,?_⟩
  walk_at "yes"
  refine⟨_,rfl,_,_,_,_,rfl,rfl,SqT.of (e0 _ _ h),rfl,_,rfl,bP _ ">" (by simp[a8.others]),ln1,fun p1 hp1=>?_⟩
  have s1:=a9.new hp1 (.tup [V.str (q++(">":Str))])
  refine⟨_,rfl,_,_,_,_,rfl,rfl,SqT.of (s1 _ _ (e0 _ _ h)),rfl,ln1,fun p2 hp2=>?_⟩
  have s2:=a9.new hp2 (.tup [V.str x])
  refine⟨_,rfl,_,_,_,_,rfl,rfl,SqT.of (s2 _ _ (s1 _ _ (e0 _ _ h))),rfl,ln5,fun p9 hp9=>?_⟩
  exact k _ _ ((s1.trans s2).trans (a9.new hp9 _)) (cu.new (r:=aL (.put q x)) (s2 _ _ ag) ag hp9)
 |get h=>
  rename_i p q x
  refine⟨_,rfl,_,_,_,_,rfl,rfl,SqT.of (e0 _ _ h),rfl,?_⟩
  refine⟨_,rfl,rfl,_,rfl,?_⟩
  walk_at "no"
  refine⟨_,rfl,rfl,_,rfl,?_⟩
  walk_at "no"
  refine⟨_,rfl,rfl,_,rfl,?_⟩
  walk_at "yes"
  refine⟨_,rfl,_,_,_,_,rfl,rfl,SqT.of (e0 _ _ h),rfl,_,rfl,_,_,_,_,rfl,rfl,SqT.of (e0 _ _ h),rfl,_,rfl,bP _ "<" (by simp[a8.others]),ln2,fun p1 hp1=>?_⟩
  have s1:=a9.new hp1 (.lst [V.str x,V.str (q++("<":Str))])
  refine⟨p1,[x,q++("<":Str)],rfl,SqL.of ag,by simp,fun p2 zs hp2 pm so=>?_⟩
  have s2:=a9.new hp2 (.lst (zs.map V.str))
  refine⟨p2,_,rfl,.inl ⟨SqL.of ag,fun p3 hp3=>?_⟩⟩
  have s3:=a9.new hp3 (.tup (zs.map V.str))
  refine⟨qt _,fun p4 hp4=>?_⟩
  have s4:=a9.new hp4 (.tup [])
  refine⟨_,rfl,_,_,_,_,rfl,rfl,SqT.of (s4 _ _ (s3 _ _ (s2 _ _ (s1 _ _ (e0 _ _ h))))),rfl,ln5,fun p9 hp9=>?_⟩
  have ez:=xa pm so
  refine k _ _ ((((s1.trans s2).trans s3).trans s4).trans (a9.new hp9 _)) (cu.new (r:=aL (.get q x)) ?_ ag hp9)
  show _=some (HO.tup ((eC [x,q++("<":Str)]).map V.str))
  rw[<- ez]
  exact s4 _ _ ag
 |give h=>
  rename_i p x
  refine⟨_,rfl,_,_,_,_,rfl,rfl,SqT.of (e0 _ _ h),rfl,?_⟩
  refine⟨_,rfl,rfl,_,rfl,?_⟩
  walk_at "no"
  refine⟨_,rfl,rfl,_,rfl,?_⟩
  walk_at "no"
  refine⟨_,rfl,rfl,_,rfl,?_⟩
  walk_at "no"
  refine⟨_,rfl,rfl,_,rfl,?_⟩
  walk_at "yes"
  refine⟨ln1,fun p1 hp1=>?_⟩
  have s1:=a9.new hp1 (.tup [V.str (">":Str)])
  refine⟨_,rfl,_,_,_,_,rfl,rfl,SqT.of (s1 _ _ (e0 _ _ h)),rfl,ln1,fun p2 hp2=>⟨ln5,fun p9 hp9=>?_⟩⟩
  have s2:=a9.new hp2 (.tup [V.str x])
  exact k _ _ ((s1.trans s2).trans (a9.new hp9 _)) (cu.new (r:=aL (.give x)) (s2 _ _ ag) ag hp9)
 |cond h h1 h2=>
  refine⟨_,rfl,_,_,_,_,rfl,rfl,SqT.of (e0 _ _ h),rfl,?_⟩
  refine⟨_,rfl,rfl,_,rfl,?_⟩
  walk_at "no"
  refine⟨_,rfl,rfl,_,rfl,?_⟩
  walk_at "no"
  refine⟨_,rfl,rfl,_,rfl,?_⟩
  walk_at "no"
  refine⟨_,rfl,rfl,_,rfl,?_⟩
  walk_at "no"
  exact⟨_,rfl,_,rfl,ln1,fun p1 hp1=>own H "if" (a9.refl H) p1 hp1 rfl hd'⟩
 |whl h h1=>
  refine⟨_,rfl,_,_,_,_,rfl,rfl,SqT.of (e0 _ _ h),rfl,?_⟩
  refine⟨_,rfl,rfl,_,rfl,?_⟩
  walk_at "no"
  refine⟨_,rfl,rfl,_,rfl,?_⟩
  walk_at "no"
  refine⟨_,rfl,rfl,_,rfl,?_⟩
  walk_at "no"
  refine⟨_,rfl,rfl,_,rfl,?_⟩
  walk_at "no"
  exact⟨_,rfl,_,rfl,ln1,fun p1 hp1=>own H "while" (a9.refl H) p1 hp1 rfl hd'⟩
 |rep h h1=>exact absurd rfl (hnr _ _)
theorem A5 (T:Tx P w K mg a):aR P w K mg base CX0 1 a.check_gets a.fd_check_gets ["deeds"] pP:=by
 refine T.F_check_gets.ok gY (fun vs H Q E h=>?_) (fun cdv A outer s H vs Q E hr h=>?_)
 ·obtain⟨_,_,_,rfl,_⟩:=h
  rfl
 obtain⟨l,us,rs,rfl,hl,hrs,hlen,fed,one,k⟩:=h
 refine⟨_,(ai (aq (i:=1) gY.nd rfl (Or.inl rfl) jJ)
  (ak (bU PassesOwn.never rfl (jI rfl T.z_enumerate (aa (pq 0) ae)) (dR rfl (bW (aM (i:=2) gY.nd rfl (Or.inl rfl)) (bW (aM (i:=3) gY.nd rfl (Or.inl rfl)) dH)))
  (ai (aq (i:=4) gY.nd rfl (Or.inl rfl) (aj au (pq 3) ac (fun _ _=>rfl)))
  (ai (aq (i:=5) gY.nd rfl (Or.inl rfl) (aj au (pq 3) ac (fun _ _=>rfl)))
  (ai (aP (aA fL (pq 4) cw (az _)) (ak (jD (hr.one) (pq 1) (pq 4) (ao bQ (gA hr.one (pq 1) (pq 4) ac ⟨rfl,rfl,rfl,rfl⟩) ac) rfl)) aZ)
  (ak (aP (aA fL (pq 5) cw (az _)) (ai (aP (aA aX (gA hr.one (pq 1) (pq 5) ac ⟨rfl,rfl,rfl,rfl⟩) ac (az _)) (ak sR) aZ)
  (ak (jD (hr.one) (pq 1) (pq 5) (ao iK (jK hr.one (pq 1) (pq 5) (fun _ _=>rfl)) ac) rfl))) aZ)))))))),?_⟩
 intro p hp
 have s1:a9 H (upd H p (.dK [])):=a9.new hp _
 have ul:=hrs.len
 refine⟨_,rfl,l,us,rfl,SqL.of (s1 _ _ hl),?_⟩
 refine k7 (K:=K) (l:=l) (xs:=us) (fun i σ H2=>∃v1 v2 v3 v4 kvs,σ=[some (.ref l),some (.ref p),v1,v2,v3,v4]/\a9 H H2/\H2 p=some (.dK kvs)/\kvs.length<=2 * i/\vz kvs (rs.take i)) ⟨_,_,_,_,[],rfl,s1,ag,qf _,fun q=>rfl⟩ ?_ ?_ ?_
 ·rintro i σ H2 ⟨v1,v2,v3,v4,kvs,_,s2,_⟩
  exact SqL.of (s2 _ _ hl)
 ·rintro i x σ H2 pt hx ⟨v1,v2,v3,v4,kvs,rfl,s2,hd,kl,st⟩ hpt
  obtain⟨r,hr',px,po,pr,rfl,h1,h2,h3⟩:=hrs.at i x hx
  have lt:i<rs.length:=(qg.mp hr').1
  have s3:a9 H (upd H2 pt (.tup [.int i,.ref px])):=s2.trans (a9.new hpt _)
  have np:pt≠p:=fun z=>by rw[z,hd]at hpt;cases hpt
  have hd3:(upd H2 pt (.tup [.int i,.ref px])) p=some (.dK kvs):=a9.new hpt _ _ _ hd
  have hpt3:(upd H2 pt (.tup [.int i,.ref px])) pt=some (.tup [.int i,.ref px]):=ag
  generalize upd H2 pt (.tup [.int i,.ref px])=H3 at s3 hd3 hpt3 ⊢
  refine⟨pt,_,rfl,SqT.of hpt3,rfl,_,_,rfl,_,_,rfl,rfl,?_⟩
  refine⟨_,rfl,px,_,_,_,rfl,rfl,SqT.of (s3 _ _ h1),rfl,?_⟩
  refine⟨_,rfl,px,_,_,_,rfl,rfl,SqT.of (s3 _ _ h1),rfl,?_⟩
  have tk:rs.take (i+1)=rs.take i++[r]:=by rw[qr,hr'];rfl
  have one':=one r (qz hr')
  have fed':=fed i r
  have big:(10000:Nat)<sizeLine:=Qk
  have kl':kvs.length<sizeLine:=Qo
  have fin:∀(H4:Hp) (kvs':List (Key×V)) w3 w4,a9 H H4->H4 p=some (.dK kvs')->kvs'.length<=kvs.length+1->(∀q:Str,(aK kvs' (.inr q)).getD (.int 0)=.int (bal (rs.take i++[r]) q))->
   ∃v1 v2 v3 v4 kvs,([some (.ref l),some (.ref p),some (.int i),some (.ref px),w3,w4]:St)=[some (.ref l),some (.ref p),v1,v2,v3,v4]/\a9 H H4/\H4 p=some (.dK kvs)/\kvs.length<=2 * (i+1)/\vz kvs (rs.take (i+1)):=fun H4 kvs' w3 w4 s4 h4 l4 st4=>
   ⟨_,_,_,_,kvs',rfl,s4,h4,Qo,by rw[tk];exact st4⟩
  clear hd hpt tk
  obtain⟨kd,ow,re,into,outof⟩:=r
  cases into with
  |none=>
   refine⟨_,rfl,rfl,_,rfl,aB rfl ?_⟩
   cases outof with
   |none=>
    refine⟨_,rfl,rfl,_,rfl,aB rfl ?_⟩
    exact fin H3 kvs _ _ s3 hd3 (Nat.le_succ _) fun q=>by rw[j5,st q];simp
   |some q=>
    have pos:0<bal (rs.take i) q:=fed' q hr' rfl
    have sq:=st q
    obtain⟨v,hv⟩:∃v,aK kvs (.inr q)=some v:=by
     cases e:aK kvs (.inr q)with
     |some v=>exact⟨v,rfl⟩
     |none=>
      rw[e]at sq
      have:(0:Int)=bal (rs.take i) q:=V.int.inj sq
      omega
    rw[hv]at sq
    have ev:v=.int (bal (rs.take i) q):=sq
    subst ev
    refine⟨_,rfl,rfl,_,rfl,bx rfl ?_⟩
    refine⟨_,rfl,p,rfl,.inl ⟨kvs,.inl hd3⟩,_,rfl,_,df.k (k:=.inr q) hd3,?_⟩
    rw[hv]
    refine⟨rfl,_,rfl,?_⟩
    refine ifN (fun z=>?_) ?_
    ·have:bal (rs.take i) q=0:=V.int.inj z
     omega
    refine⟨_,rfl,_,rfl,p,_,rfl,by rw[<- hv];exact df.k (k:=.inr q) hd3,_,_,rfl,rfl,?_⟩
    refine⟨_,rfl,_,rfl,p,_,rfl,gj.k (k:=.inr q) hd3 kl',?_⟩
    refine fin _ _ _ _ (a9.over s3 hp) ag (eZ _ _ _) fun q'=>?_
    rw[fq,j5]
    by_cases e:q'=q
    ·subst e
     simp
    ·have e1:¬ (Sum.inr q':Key)=Sum.inr q:=fun z=>e (Sum.inr.inj z)
     have e2:¬ q=q':=fun z=>e z.symm
     rw[qZ e1,st q']
     simp[e2]
  |some q=>
   have on:outof=none:=by
    rcases one' with h|h
    ·cases h
    ·exact h
   subst on
   refine⟨_,rfl,rfl,_,rfl,bx rfl ?_⟩
   refine⟨_,rfl,p,rfl,.inl ⟨kvs,.inl hd3⟩,_,rfl,_,df.k (k:=.inr q) hd3,_,_,st q,rfl,?_⟩
   refine⟨_,rfl,_,rfl,p,_,rfl,gj.k (k:=.inr q) hd3 kl',?_⟩
   refine⟨_,rfl,rfl,_,rfl,aB rfl ?_⟩
   refine fin _ _ _ _ (a9.over s3 hp) ag (eZ _ _ _) fun q'=>?_
   rw[fq,j5]
   by_cases e:q'=q
   ·subst e
    simp
   ·have e1:¬ (Sum.inr q':Key)=Sum.inr q:=fun z=>e (Sum.inr.inj z)
    have e2:¬ q=q':=fun z=>e z.symm
    rw[qZ e1,st q']
    simp[e2]
 ·rintro σ H2 ⟨v1,v2,v3,v4,kvs,rfl,s2,_⟩
  exact k H2 s2
theorem A0 (T:Tx P w K mg a):∀n:Nat,aR P w K mg base CX0 (n+1) a.counted a.fd_counted ["block"] (pO n):=by
 intro n
 induction n with
 |zero=>
  refine T.F_counted.ok iD (fun vs H Q E h=>?_) (fun cdv A outer s H vs Q E hr h=>?_)
  ·obtain⟨_,_,_,rfl,_⟩:=h
   rfl
  ·obtain⟨_,_,_,_,_,_,h0,_⟩:=h
   exact absurd h0 (Nat.not_lt_zero _)
 |succ n ih=>
  refine T.F_counted.ok iD (fun vs H Q E h=>?_) (fun cdv A outer s H vs Q E hr h=>?_)
  ·obtain⟨_,_,_,rfl,_⟩:=h
   rfl
  obtain⟨H0,b,ds,rfl,e0,hb,hdp,ra,k⟩:=h
  refine⟨_,(ai (aq (i:=1) iD.nd rfl (Or.inl rfl) (ba c9 rfl T.z_len PySem.boot_len (aa (pq 0) ae)))
   (ai (bU PassesOwn.never rfl (cT (pq 0)) (aM (i:=2) iD.nd rfl (Or.inl rfl))
   (ak (aP (aA aX (aj au (pq 2) ac (fun _ _=>rfl)) aQ (az _)) (ak (aq (i:=1) iD.nd rfl (Or.inl rfl) (ao bQ (pq 1) (ao dJ (aj au (pq 2) ac (fun _ _=>rfl)) (ao bQ (aC ih (hr.mono Qo) rfl T.m_counted T.F_counted.kp T.b_counted .nil aD (aa (aj au (pq 2) ac (fun _ _=>rfl)) ae)) ac))))) aZ)))
   (ak (aE (pq 1))))),?_⟩
  obtain⟨hv,hds⟩:=hb
  rename_i vs
  have vl:=hds.len
  refine⟨_,rfl,b,_,rfl,.inl (SqL.of (e0 _ _ hv)),?_⟩
  refine⟨_,rfl,b,rfl,⟨_,SqL.of (e0 _ _ hv)⟩,?_⟩
  refine dw (K:=K) (a:=b) (xs:=vs) (fun i σ H2=>H2=H/\∃v c,σ=[some (.ref b),some (.int c),v]/\c=(vs.length:Int)-i+(aG (ds.take i)).length) ⟨rfl,_,_,rfl,by simp[aG]⟩ ?_ ?_ ?_
  ·rintro i σ H2 _ ⟨rfl,_⟩
   exact SqL.of (e0 _ _ hv)
  ·rintro i x σ H2 hx ⟨rfl,v,c,rfl,ec⟩
   obtain⟨d,hd,hrd⟩:=hds.at i x hx
   have tk:=mf hd
   by_cases nr:∀m bb,d≠.rep m bb
   ·obtain⟨px,r,rfl,hp⟩:=hrd.tuple
    refine⟨_,rfl,px,_,_,_,rfl,rfl,SqT.of (e0 _ _ hp),at0,rfl,_,rfl,?_⟩
    refine ifN (oB nr) ⟨rfl,_,_,rfl,?_⟩
    rw[tk,mh nr,qc,List.length_singleton]
    omega
   ·cases hrd with
    |rep h hb'=>
     rename_i p bb m bs
     obtain⟨r0,rb⟩:=(ra.at hd).rep
     obtain⟨r1,r2⟩:=r0 m bs rfl
     have dd:=ke hd
     rw[a8.depth]at dd
     refine⟨_,rfl,_,_,_,_,rfl,rfl,SqT.of (e0 _ _ h),rfl,rfl,_,rfl,bx Qd ?_⟩
     refine⟨_,rfl,_,rfl,_,_,_,_,rfl,rfl,SqT.of (e0 _ _ h),rfl,_,rfl,_,_,_,_,rfl,rfl,SqT.of (e0 _ _ h),rfl,H0,bb,bs,rfl,e0,hb',Qo,rb,_,_,rfl,rfl,_,_,rfl,rfl,xh r1 r2,_,_,rfl,rfl,?_⟩
     refine⟨rfl,_,_,rfl,?_⟩
     rw[tk,qc,bD,qA,fK,qc,List.length_singleton]
     have e:(m.toNat:Int)=m:=Int.toNat_of_nonneg r1
     simp only[Int.natCast_add,Int.natCast_mul,e,Int.natCast_one]
     omega
    |_=>exact absurd (fun m bb z=>by cases z) nr
  ·rintro σ H2 ⟨rfl,v,c,rfl,ec⟩
   rw[vl,qH]at ec
   have:c=((aG ds).length:Int):=Qo
   rw[this]
   exact⟨_,rfl,k⟩
theorem zQ (T:Tx P w K mg a) {n:Nat}(ih:aR P w K mg base CX0 (2 * n+18) a.written a.fd_written ["block"] (kI n)):aR P w K mg base CX0 (2 * n+19) a.written_rounds a.fd_written_rounds ["rounds","body"] (pB n):=by
 refine T.F_written_rounds.ok rX (fun vs H Q E h=>?_) (fun cdv A outer s H vs Q E hr h=>?_)
 ·obtain⟨_,_,_,_,_,rfl,_⟩:=h
  rfl
 obtain⟨H0,r,b,ds,C,rfl,r0,r9,e0,hb,hdp,bi,hlen,k⟩:=h
 refine⟨_,(ai (aq (i:=2) rX.nd rfl (Or.inl rfl) (aC (mO T) (hr.mono Qo) rfl T.m_owner_of T.F_owner_of.kp T.b_owner_of .nil aD (aa aQ (aa (aC (mL T) (hr.mono Qo) rfl T.m_touched T.F_touched.kp T.b_touched .nil aD (aa (pq 1) ae)) ae))))
  (ai (aP (aA aX (pq 0) ac (az _)) (ak (aE (bc (aa (pq 2) ae)))) aZ)
  (ak (aE (ao hG (bc (aa (pq 2) ae)) (ao t9 (ao hG (aC ih (hr.mono Qo) rfl T.m_written T.F_written.kp T.b_written .nil aD (aa (pq 1) ae)) (bc (aa (pq 2) ae))) (pq 0))))))),?_⟩
 obtain⟨b1,b2,b3,b4,b5,b6⟩:=id bi
 refine⟨_,rfl,H0,b,ds,C,rfl,e0,hb,b1,b2,b3,b4,b5,fun H1 lz zs s1 nz hz nd hm so=>?_⟩
 have ez:=jf nd hm so
 subst ez
 refine⟨_,lz,_,rfl,hz,fun H2 g s2 hg=>?_⟩
 have hg:cu H2 g (fh ds):=hg
 have s02:=s1.trans s2
 refine⟨_,rfl,rfl,_,rfl,?_⟩
 refine cL (fun c=>?_) (fun c=>?_)
 ·obtain rfl:r=0:=du c
  refine⟨_,rfl,ln1,fun p hp=>?_⟩
  refine k _ p [g] (s02.trans (a9.new hp _)) (a9.none s02 hp) ag ?_
  rw[bD]
  exact .cons (hg.same (a9.new hp _)) .nil
 ·have rp:0<r:=by
   have:=dL c
   omega
  refine⟨_,rfl,ln1,fun p hp=>?_⟩
  have s3:=a9.new hp (.lst [g])
  have ri:=yd (b:=ds) rp
  refine⟨_,rfl,H0,b,ds,C,rfl,(e0.trans s02).trans s3,hb,hdp,bi,Qo,fun H4 l4 us4 s4 n4 h4 r4=>?_⟩
  refine⟨_,rfl,ln1,fun p5 hp5=>?_⟩
  have s5:=a9.new hp5 (.lst [g])
  have u4:=r4.len
  refine⟨l4,p5,_,_,rfl,rfl,SqL.of (s5 _ _ h4),SqL.of ag,bu (m:=3000) (by rw[List.length_singleton];omega),fun p6 hp6=>?_⟩
  have s6:=a9.new hp6 (.lst (us4++[g]))
  have ln:(bD (.rep r ds)).length=r.toNat * ((aG ds).length+1)+1:=by rw[bD,qA,fK,qc,List.length_singleton]
  have lr:(us4++[g]).length * r.toNat<=2000:=by
   rw[qc,List.length_singleton,u4,Nat.mul_comm]
   omega
  refine⟨_,rfl,p6,_,_,rfl,rfl,ag,Qo,Qo,bu (m:=3000) Qo,fun p7 hp7=>?_⟩
  have s7:=a9.new hp7 (.lst (List.replicate r.toNat (us4++[g])).flatten)
  have s47:=(s5.trans s6).trans s7
  refine⟨p,p7,_,_,rfl,rfl,SqL.of (s47 _ _ (s4 _ _ ag)),SqL.of ag,bu (m:=3000) ?_,fun p8 hp8=>?_⟩
  ·have:((List.replicate r.toNat (us4++[g])).flatten).length=r.toNat * (us4++[g]).length:=fK _ _
   rw[List.length_singleton,this,Nat.mul_comm]
   omega
  ·have s8:=a9.new hp8 (.lst ([g]++(List.replicate r.toNat (us4++[g])).flatten))
   have s48:=s47.trans s8
   have gg:cu _ g (fh ds):=(hg.same s3).same (s4.trans s48)
   have sf:=(s02.trans s3).trans (s4.trans s48)
   refine k _ p8 _ sf (a9.none ((s02.trans s3).trans (s4.trans s47)) hp8) ag ?_
   rw[bD]
   exact .cons gg (((r4.same s48).app (.cons gg .nil)).reps r.toNat)
theorem zS (T:Tx P w K mg a):∀n:Nat,aR P w K mg base CX0 (2 * n+18) a.written a.fd_written ["block"] (kI n):=by
 intro n
 induction n with
 |zero=>
  refine T.F_written.ok jo (fun vs H Q E h=>?_) (fun cdv A outer s H vs Q E hr h=>?_)
  ·obtain⟨_,_,_,_,rfl,_⟩:=h
   rfl
  ·obtain⟨_,_,_,_,_,_,_,h0,_⟩:=h
   exact absurd h0 (Nat.not_lt_zero _)
 |succ n ih=>
  refine T.F_written.ok jo (fun vs H Q E h=>?_) (fun cdv A outer s H vs Q E hr h=>?_)
  ·obtain⟨_,_,_,_,rfl,_⟩:=h
   rfl
  obtain⟨H0,b,ds,C,rfl,e0,hb,hdp,bi,hlen,k⟩:=h
  refine⟨_,(ai (aq (i:=1) jo.nd rfl (Or.inl rfl) (bc ae))
   (ai (bU PassesOwn.never rfl (cT (pq 0)) (aM (i:=2) jo.nd rfl (Or.inl rfl))
   (ak (aP (aA aX (aj au (pq 2) ac (fun _ _=>rfl)) aQ (az _)) (ak (bC (bF qh PySem.F.slot_list_extend PySem.F.type_list_extend fZ (pq 1) (aa (aC (zQ T ih) (hr.mono Qo) rfl T.m_written_rounds T.F_written_rounds.kp T.b_written_rounds .nil aD (aa (aj au (pq 2) ac (fun _ _=>rfl)) (aa (aj au (pq 2) ac (fun _ _=>rfl)) ae))) ae)))) (ak (bC (bF qh qv qw ck (pq 1) (aa (aC (zR T) (hr.mono Qo) rfl T.m_written_once T.F_written_once.kp T.b_written_once .nil aD (aa (pq 2) ae)) ae)))))))
   (ak (aE (pq 1))))),?_⟩
  obtain⟨b1,b2,b3,b4,b5,b6⟩:=id bi
  obtain⟨hv,hds⟩:=hb
  rename_i vs
  have vl:=hds.len
  refine⟨qt _,fun c hc=>?_⟩
  have s1:=a9.new hc (.lst [])
  have big:(10000:Nat)<sizeLine:=Qk
  refine⟨_,rfl,b,rfl,⟨_,SqL.of (s1 _ _ (e0 _ _ hv))⟩,?_⟩
  refine dw (K:=K) (a:=b) (xs:=vs) (fun i σ H2=>∃v us,σ=[some (.ref b),some (.ref c),v]/\a9 H H2/\H2 c=some (.lst us)/\aT H2 us (aG (ds.take i))) ⟨_,[],rfl,s1,ag,by rw[List.take_zero,aG];exact .nil⟩ ?_ ?_ ?_
  ·rintro i σ H2 _ ⟨v,us,_,s2,_⟩
   exact SqL.of (s2 _ _ (e0 _ _ hv))
  ·rintro i x σ H2 hx ⟨v,us,rfl,s2,h2,hu⟩
   obtain⟨d,hd,hrd⟩:=hds.at i x hx
   have tk:=mf hd
   have at':=yg hd
   have ue:=hu.len
   have dp:=uH hd
   obtain⟨f1,_⟩:=nJ hd
   by_cases nrd:∀m bb,d≠.rep m bb
   ·obtain⟨px,r,rfl,hp⟩:=hrd.tuple
    refine⟨_,rfl,px,_,_,_,rfl,rfl,SqT.of (s2 _ _ (e0 _ _ hp)),at0,rfl,_,rfl,?_⟩
    refine ifN (oB nrd) ?_
    refine⟨_,rfl,.inl ⟨rfl,_,SqL.of h2⟩,_,rfl,H0,_,d,C,rfl,e0.trans s2,hrd,Qo,Qo,fun q hq=>b3 q (uW hd q hq),b4,b5,nrd,fun H3 u s3 hu3=>?_⟩
    refine⟨c,us,u,rfl,rfl,s3 _ _ h2,Qo,?_⟩
    refine⟨_,us++[u],rfl,a9.over (s2.trans s3) hc,ag,?_⟩
    rw[tk,mh nrd]
    exact((hu.same s3).off (s3 _ _ h2)).snoc (hu3.off (s3 _ _ h2))
   ·cases hrd with
    |rep h hb'=>
     rename_i p bb m bs _
     obtain⟨r0,rb⟩:=(b6.at hd).rep
     obtain⟨r1,r2⟩:=r0 m bs rfl
     rw[a8.depth]at dp
     have f1':(ah bs).length<=1000:=by
      simp only[a8.flat,qA]at f1
      omega
     have cb:∀q∈cards bs,q∈C:=fun q hq=>b3 q (uW hd q (by rw[uV];simp[a8.cards,a8.names,a8.others,a8.inner,hq]))
     refine⟨_,rfl,_,_,_,_,rfl,rfl,SqT.of (s2 _ _ (e0 _ _ h)),rfl,rfl,_,rfl,bx Qd ?_⟩
     refine⟨_,rfl,.inl ⟨rfl,_,SqL.of h2⟩,_,rfl,_,_,_,_,rfl,rfl,SqT.of (s2 _ _ (e0 _ _ h)),rfl,_,rfl,_,_,_,_,rfl,rfl,SqT.of (s2 _ _ (e0 _ _ h)),rfl,H0,m,bb,bs,C,rfl,r1,r2,e0.trans s2,hb',Qo,⟨Qo,f1',cb,b4,b5,rb⟩,Qo,fun H3 l3 us3 s3 n3 h3 hr3=>?_⟩
     have u3:=hr3.len
     refine⟨c,l3,_,_,rfl,rfl,s3 _ _ h2,h3,bu (m:=9000) Qo,?_⟩
     refine⟨_,us++us3,rfl,a9.over (s2.trans s3) hc,ag,?_⟩
     rw[tk]
     exact((hu.same s3).app hr3).off (s3 _ _ h2)
    |_=>exact absurd (fun m bb z=>by cases z) nrd
  ·rintro σ H2 ⟨v,us,rfl,s2,h2,hu⟩
   rw[vl,qH]at hu
   exact⟨_,rfl,k H2 c us s2 hc h2 hu⟩
theorem zZ (T:Tx P w K mg a):aR P w K mg base CX0 45 a.deeds_of a.fd_deeds_of ["program"] pN:=by
 refine T.F_deeds_of.ok sh (fun vs H Q E h=>?_) (fun cdv A outer s H vs Q E hr h=>?_)
 ·obtain⟨_,_,_,_,_,_,_,_,_,rfl,_⟩:=h
  rfl
 obtain⟨p,la,ls,lb,asks,ss,ds,us,C,rfl,rp,hdp,hfl,ha,hs,hsl,hC,h64,hlen,ra,dl,fed,k⟩:=h
 refine⟨_,(ai (aP (aA fN (ao bQ (aC (A0 T 13) (hr.mono Qk) rfl T.m_counted T.F_counted.kp T.b_counted .nil aD (aa (aj au (pq 0) ac (fun _ _=>rfl)) ae)) ac) (eV rfl T.c_MOST_DEEDS T.r_MOST_DEEDS) (az _)) (ak sR) aZ)
  (ai (aq (i:=1) sh.nd rfl (Or.inl rfl) (aC (zS T 13) (hr.mono Qk) rfl T.m_written T.F_written.kp T.b_written .nil aD (aa (aj au (pq 0) ac (fun _ _=>rfl)) ae)))
  (ai (bC (bF qh qv qw ck (pq 1) (aa (aC (mO T) (hr.mono Qk) rfl T.m_owner_of T.F_owner_of.kp T.b_owner_of .nil aD (aa aQ (aa (aC (A6 T) (hr.mono Qk) rfl T.m_cards_of T.F_cards_of.kp T.b_cards_of .nil aD (aa (pq 0) ae)) ae))) ae)))
  (ai (bC (aC (A5 T) (hr.mono Qk) rfl T.m_check_gets T.F_check_gets.kp T.b_check_gets .nil aD (aa (pq 1) ae)))
  (ak (aE (pq 1))))))),?_⟩
 have hcC:∀q∈cards ds,q∈C:=fun q hq=>hC q (by unfold dP;simp[hq])
 refine⟨_,rfl,p,_,_,_,rfl,rfl,SqT.of rp.top,rfl,H,lb,ds,rfl,a9.refl H,rp.bo,Qo,ra,_,_,rfl,rfl,?_⟩
 refine⟨_,_,rfl,rfl,_,rfl,?_⟩
 refine aB (decide_eq_false Qo) ?_
 refine⟨_,rfl,p,_,_,_,rfl,rfl,SqT.of rp.top,rfl,H,lb,ds,C,rfl,a9.refl H,rp.bo,Qo,⟨hdp,hfl,hcC,h64,hlen,ra⟩,Qo,fun H1 l us1 s1 n1 h1 hu1=>?_⟩
 have big:(10000:Nat)<sizeLine:=Qk
 have ul:=hu1.len
 refine⟨_,rfl,.inl ⟨rfl,_,SqL.of h1⟩,_,rfl,p,la,ls,lb,asks,ss,ds,us,C,rfl,rp.same s1,hdp,hfl,ha,hs,hsl,hC,h64,hlen,fun H2 l2 zs s2 h2 nd hm so=>?_⟩
 refine⟨"end",l2,zs,rfl,h2,fun H3 v s3 hv=>?_⟩
 refine⟨l,us1,v,rfl,rfl,s3 _ _ (s2 _ _ h1),Qo,?_⟩
 have s13:=s2.trans s3
 have ez:=jf nd hm so
 have hrs:aT (upd H3 l (.lst (us1++[v]))) (us1++[v]) (aG ds++[db asks ss ds]):=by
  refine((hu1.same s13).off (s13 _ _ h1)).snoc ?_
  unfold db
  rw[<- ez]
  exact hv.off (s13 _ _ h1)
 have sf:a9 H (upd H3 l (.lst (us1++[v]))):=a9.over (s1.trans s13) n1
 refine⟨_,rfl,l,_,_,rfl,ag,hrs,by rw[qc,List.length_singleton];omega,fed.snoc rfl,fun r hr'=>?_,fun H4 s4=>?_⟩
 ·rcases qi.mp hr' with h|h
  ·exact md ds r h
  ·rw[qS.mp h]
   exact .inl rfl
 ·exact⟨_,rfl,k H4 l _ (sf.trans s4) (s4 _ _ ag) (hrs.same s4)⟩
theorem Ak (T:Tx P w K mg a):aR P w K mg base CX0 1 a._law_length a.fd__law_length ["_law_pick","_law_peak"] rK:=by
 refine T.F__law_length.ok y8 (fun vs H Q E h=>?_) (fun cdv A outer s H vs Q E hr h=>?_)
 ·obtain⟨_,_,rfl,_⟩:=h
  rfl
 obtain⟨i,j,rfl,k⟩:=h
 refine⟨_,(ai (aP (aA aX (ao bg (pq 0) ac) ac (az _)) (ak (aE (ao bQ ac (ao bg (ao cH (pq 0) ac) ac)))) aZ)
  (ai (aP (aA aX (ao bg (pq 0) ac) ac (az _)) (ak (aE (ao bQ ac (ao bg (ao cH (pq 0) ac) ac)))) aZ)
  (ak (aE (ao bQ ac (ao bg (ao cH (pq 0) ac) (ba (uZ rfl) rfl T.z_max PyProof.Rows.Boot.«max» (aa ac (aa (pq 1) ae))))))))),?_⟩
 unfold iZ at k
 refine⟨_,rfl,_,_,rfl,rfl,Qk,rfl,_,rfl,?_⟩
 refine cL (fun c=>?_) (fun c=>?_)
 ·rw[Q0 (du c)]at k
  exact⟨_,rfl,_,_,rfl,rfl,⟨Qk,Qk⟩,_,_,rfl,rfl,Qk,_,_,rfl,rfl,k⟩
 rw[qZ (dL c)]at k
 refine⟨_,rfl,_,_,rfl,rfl,Qk,rfl,_,rfl,?_⟩
 refine cL (fun c=>?_) (fun c=>?_)
 ·rw[Q0 (du c)]at k
  exact⟨_,rfl,_,_,rfl,rfl,⟨Qk,Qk⟩,_,_,rfl,rfl,Qk,_,_,rfl,rfl,k⟩
 rw[qZ (dL c)]at k
 refine⟨_,rfl,_,_,rfl,rfl,⟨Qk,Qk⟩,_,rfl,1,j,rfl,_,_,rfl,rfl,?_,_,_,rfl,rfl,k⟩
 split<;>omega
theorem Ad (T:Tx P w K mg a):aR P w K mg base CX0 1 a._law_reach a.fd__law_reach ["_law_moves_here","_law_q"] pY:=by
 refine T.F__law_reach.ok eS (fun vs H Q E h=>?_) (fun cdv A outer s H vs Q E hr h=>?_)
 ·obtain⟨_,_,_,_,rfl,_⟩:=h
  rfl
 obtain⟨l,us,ms,q,rfl,hl,hm,hlen,k⟩:=h
 refine⟨_,(ai (aq (i:=2) eS.nd rfl (Or.inl rfl) ac)
  (ai (aq (i:=3) eS.nd rfl (Or.inl rfl) ac)
  (ai (aq (i:=4) eS.nd rfl (Or.inl rfl) ac)
  (ai (bU PassesOwn.never rfl (cT (pq 0)) (dR rfl (bW (aM (i:=5) eS.nd rfl (Or.inl rfl)) (bW (aM (i:=6) eS.nd rfl (Or.inl rfl)) dH)))
  (ak (aP (aA aX (pq 6) (pq 1) (az _)) (ai (aq (i:=2) eS.nd rfl (Or.inl rfl) (ao bQ (pq 2) (gz (aA aX (pq 5) aQ (az _)) ac (cU cO ac))))
  (ai (aq (i:=3) eS.nd rfl (Or.inl rfl) (ba (uY rfl) rfl T.z_min PyProof.Rows.Boot.«min» (aa (pq 3) (aa (pq 2) ae))))
  (ak (aq (i:=4) eS.nd rfl (Or.inl rfl) (ba (uZ rfl) rfl T.z_max PyProof.Rows.Boot.«max» (aa (pq 4) (aa (pq 2) ae))))))) aZ)))
  (ak (aE (be (aa (cU cO (pq 3)) (aa (ao iK (pq 4) (pq 3)) ae))))))))),?_⟩
 have ul:=hm.len
 refine⟨_,rfl,l,rfl,⟨_,SqL.of hl⟩,?_⟩
 refine dw (K:=K) (a:=l) (xs:=us) (fun i σ H2=>H2=H/\∃v v',σ=[some (.ref l),some (.str q),some (.int (aS q (ms.take i)).1),some (.int (aS q (ms.take i)).2.1),some (.int (aS q (ms.take i)).2.2),v,v']) ⟨rfl,_,_,rfl⟩ ?_ ?_ ?_
 ·rintro i σ H2 _ ⟨rfl,_⟩
  exact SqL.of hl
 ·rintro i x σ H2 hx ⟨rfl,v,v',rfl⟩
  obtain⟨p,m,rfl,hi,hp⟩:=hm.at i x hx
  have tk:ms.take (i+1)=ms.take i++[m]:=by rw[qr,hi];rfl
  refine⟨p,_,rfl,SqT.of hp,rfl,_,_,rfl,_,_,rfl,rfl,?_⟩
  refine⟨_,rfl,_,rfl,rfl,_,rfl,?_⟩
  rw[tk,mj]
  unfold cQ eT
  by_cases e:m.2=q
  ·rw[Q0 e]
   refine bx (by rw[e];simp) ?_
   refine⟨_,rfl,_,rfl,rfl,_,rfl,?_⟩
   by_cases e2:m.1="put"
   ·simp only[Q0 e2]
    refine bx (by rw[e2];simp) ?_
    exact⟨_,_,rfl,rfl,_,rfl,_,rfl,_,_,rfl,_,rfl,_,rfl,_,_,rfl,rfl,_,_,rfl⟩
   ·simp only[qZ e2]
    refine aB (by simp[e2]) ?_
    exact⟨1,rfl,_,_,rfl,rfl,_,rfl,_,rfl,_,_,rfl,_,rfl,_,rfl,_,_,rfl,rfl,_,_,rfl⟩
  ·rw[qZ e]
   exact aB (by simp[e]) ⟨rfl,_,_,rfl⟩
 ·rintro σ H2 ⟨rfl,v,v',rfl⟩
  rw[ul,qH]
  exact⟨_,rfl,_,rfl,_,rfl,_,rfl,_,_,rfl,rfl,ln2,k⟩
theorem Ai (T:Tx P w K mg a):∀n:Nat,aR P w K mg base CX0 (n+1) a._law_moves a.fd__law_moves ["_law_block_here"] (rE n):=by
 intro n
 induction n with
 |zero=>
  refine T.F__law_moves.ok gZ (fun vs H Q E h=>?_) (fun cdv A outer s H vs Q E hr h=>?_)
  ·obtain⟨_,_,_,rfl,_⟩:=h
   rfl
  ·obtain⟨_,_,_,_,_,_,h0,_⟩:=h
   exact absurd h0 (Nat.not_lt_zero _)
 |succ n ih=>
 refine T.F__law_moves.ok gZ (fun vs H Q E h=>?_) (fun cdv A outer s H vs Q E hr h=>?_)
 ·obtain⟨_,_,_,rfl,_⟩:=h
  rfl
 obtain⟨H0,b,ds,rfl,e0,hb,hdp,ra,dl,k⟩:=h
 refine⟨_,(ai (aq (i:=1) gZ.nd rfl (Or.inl rfl) (bc ae))
  (ai (bU PassesOwn.never rfl (cT (pq 0)) (aM (i:=2) gZ.nd rfl (Or.inl rfl))
  (ai (aP (PW.pt (dn (aA aX (aj au (pq 2) ac (fun _ _=>rfl)) aQ (az _)) (fP (aA aX (aj au (pq 2) ac (fun _ _=>rfl)) aQ (az _))))) (ak (bC (bF qh qv qw ck (pq 1) (aa (be (aa (aj au (pq 2) ac (fun _ _=>rfl)) (aa (aj au (pq 2) ac (fun _ _=>rfl)) ae))) ae)))) aZ)
  (ak (aP (PW.pt (fQ (aA aX (aj au (pq 2) ac (fun _ _=>rfl)) aQ (az _)) (hU (aA fN (aj au (pq 2) ac (fun _ _=>rfl)) ac (az _))))) (ai (aq (i:=3) gZ.nd rfl (Or.inl rfl) (aC ih (hr.mono Qo) rfl T.m__law_moves T.F__law_moves.kp T.b__law_moves .nil aD (aa (aj au (pq 2) ac (fun _ _=>rfl)) ae)))
  (ak (bU PassesOwn.never rfl (gy rfl T.z_range (aa (aj au (pq 2) ac (fun _ _=>rfl)) ae)) (aM (i:=4) gZ.nd rfl (Or.inl rfl))
  (ak (bC (bF qh PySem.F.slot_list_extend PySem.F.type_list_extend fZ (pq 1) (aa (pq 3) ae))))))) aZ))))
  (ak (aE (pq 1))))),?_⟩
 obtain⟨hv,hds⟩:=hb
 rename_i vs
 have vl:=hds.len
 refine⟨qt _,fun c hc=>?_⟩
 have s1:=a9.new hc (.lst [])
 refine⟨_,rfl,b,rfl,⟨_,SqL.of (s1 _ _ (e0 _ _ hv))⟩,?_⟩
 refine dw (K:=K) (a:=b) (xs:=vs) (fun i σ H2=>∃v v' v'' us,σ=[some (.ref b),some (.ref c),v,v',v'']/\a9 H H2/\H2 c=some (.lst us)/\RMs H2 us (bn (ds.take i))) ⟨_,_,_,[],rfl,s1,ag,by rw[List.take_zero,bn];exact .nil⟩ ?_ ?_ ?_
 ·rintro i σ H2 _ ⟨v,v',v'',us,_,s2,_⟩
  exact SqL.of (s2 _ _ (e0 _ _ hv))
 ·rintro i x σ H2 hx ⟨v,v',v'',us,rfl,s2,h2,hu⟩
  obtain⟨d,hd,hrd⟩:=hds.at i x hx
  have tk:=tT hd
  have at':=AH hd
  have ul:=hu.len
  rw[tk]
  have big:(10000:Nat)<sizeLine:=Qk
  cases hrd with
  |put h=>
   rename_i p q x
   refine⟨_,rfl,_,_,_,_,rfl,rfl,SqT.of (s2 _ _ (e0 _ _ h)),rfl,rfl,_,rfl,?_⟩
   refine bx Qd (bx rfl ?_)
   refine⟨_,rfl,.inl ⟨rfl,_,SqL.of h2⟩,_,rfl,_,_,_,_,rfl,rfl,SqT.of (s2 _ _ (e0 _ _ h)),rfl,_,rfl,_,_,_,_,rfl,rfl,SqT.of (s2 _ _ (e0 _ _ h)),rfl,ln2,fun p1 hp1=>?_⟩
   have s3:=a9.new hp1 (.tup [V.str "put",V.str q])
   refine⟨c,us,.ref p1,rfl,rfl,s3 _ _ h2,Qo,?_⟩
   have s4:a9 H (upd (upd H2 p1 (.tup [V.str "put",V.str q])) c (.lst (us++[.ref p1]))):=a9.over (s2.trans s3) hc
   refine⟨_,rfl,_,_,_,_,rfl,rfl,SqT.of (s4 _ _ (e0 _ _ h)),rfl,rfl,_,rfl,aB Qd (aB rfl ?_)⟩
   refine⟨_,_,_,us++[.ref p1],rfl,s4,ag,?_⟩
   rw[cg]
   refine((hu.same s3).off (s3 _ _ h2)).snoc (m:=("put",q)) ?_
   rw[af (fun z=>by rw[z,h2]at hp1;cases hp1)]
   exact ag
  |get h=>
   rename_i p q x
   refine⟨_,rfl,_,_,_,_,rfl,rfl,SqT.of (s2 _ _ (e0 _ _ h)),rfl,rfl,_,rfl,?_⟩
   refine aB Qd ?_
   refine⟨_,rfl,_,_,_,_,rfl,rfl,SqT.of (s2 _ _ (e0 _ _ h)),rfl,rfl,_,rfl,?_⟩
   refine bx Qd ?_
   refine⟨_,rfl,.inl ⟨rfl,_,SqL.of h2⟩,_,rfl,_,_,_,_,rfl,rfl,SqT.of (s2 _ _ (e0 _ _ h)),rfl,_,rfl,_,_,_,_,rfl,rfl,SqT.of (s2 _ _ (e0 _ _ h)),rfl,ln2,fun p1 hp1=>?_⟩
   have s3:=a9.new hp1 (.tup [V.str "get",V.str q])
   refine⟨c,us,.ref p1,rfl,rfl,s3 _ _ h2,Qo,?_⟩
   have s4:a9 H (upd (upd H2 p1 (.tup [V.str "get",V.str q])) c (.lst (us++[.ref p1]))):=a9.over (s2.trans s3) hc
   refine⟨_,rfl,_,_,_,_,rfl,rfl,SqT.of (s4 _ _ (e0 _ _ h)),rfl,rfl,_,rfl,aB Qd (aB rfl ?_)⟩
   refine⟨_,_,_,us++[.ref p1],rfl,s4,ag,?_⟩
   rw[cg]
   refine((hu.same s3).off (s3 _ _ h2)).snoc (m:=("get",q)) ?_
   rw[af (fun z=>by rw[z,h2]at hp1;cases hp1)]
   exact ag
  |set h=>
   refine⟨_,rfl,_,_,_,_,rfl,rfl,SqT.of (s2 _ _ (e0 _ _ h)),rfl,rfl,_,rfl,?_⟩
   refine aB Qd ?_
   refine⟨_,rfl,_,_,_,_,rfl,rfl,SqT.of (s2 _ _ (e0 _ _ h)),rfl,rfl,_,rfl,?_⟩
   refine aB Qd ?_
   refine⟨_,rfl,_,_,_,_,rfl,rfl,SqT.of (s2 _ _ (e0 _ _ h)),rfl,rfl,_,rfl,?_⟩
   refine aB Qd (aB rfl ?_)
   exact⟨_,_,_,us,rfl,s2,h2,by simpa[cg]using hu⟩
  |give h=>
   refine⟨_,rfl,_,_,_,_,rfl,rfl,SqT.of (s2 _ _ (e0 _ _ h)),rfl,rfl,_,rfl,?_⟩
   refine aB Qd ?_
   refine⟨_,rfl,_,_,_,_,rfl,rfl,SqT.of (s2 _ _ (e0 _ _ h)),rfl,rfl,_,rfl,?_⟩
   refine aB Qd ?_
   refine⟨_,rfl,_,_,_,_,rfl,rfl,SqT.of (s2 _ _ (e0 _ _ h)),rfl,rfl,_,rfl,?_⟩
   refine aB Qd (aB rfl ?_)
   exact⟨_,_,_,us,rfl,s2,h2,by simpa[cg]using hu⟩
  |cond h _ _=>
   refine⟨_,rfl,_,_,_,_,rfl,rfl,SqT.of (s2 _ _ (e0 _ _ h)),rfl,rfl,_,rfl,?_⟩
   refine aB Qd ?_
   refine⟨_,rfl,_,_,_,_,rfl,rfl,SqT.of (s2 _ _ (e0 _ _ h)),rfl,rfl,_,rfl,?_⟩
   refine aB Qd ?_
   refine⟨_,rfl,_,_,_,_,rfl,rfl,SqT.of (s2 _ _ (e0 _ _ h)),rfl,rfl,_,rfl,?_⟩
   refine aB Qd (aB rfl ?_)
   exact⟨_,_,_,us,rfl,s2,h2,by simpa[cg]using hu⟩
  |whl h _=>
   refine⟨_,rfl,_,_,_,_,rfl,rfl,SqT.of (s2 _ _ (e0 _ _ h)),rfl,rfl,_,rfl,?_⟩
   refine aB Qd ?_
   refine⟨_,rfl,_,_,_,_,rfl,rfl,SqT.of (s2 _ _ (e0 _ _ h)),rfl,rfl,_,rfl,?_⟩
   refine aB Qd ?_
   refine⟨_,rfl,_,_,_,_,rfl,rfl,SqT.of (s2 _ _ (e0 _ _ h)),rfl,rfl,_,rfl,?_⟩
   refine aB Qd (aB rfl ?_)
   exact⟨_,_,_,us,rfl,s2,h2,by simpa[cg]using hu⟩
  |rep h hb'=>
   rename_i p bb m bs
   obtain⟨r0,rb⟩:=(ra.at hd).rep
   obtain⟨r1,r2⟩:=r0 m bs rfl
   have dd:=ke hd
   rw[a8.depth]at dd
   have ml:(cg (.rep m bs)).length=m.toNat * (bn bs).length:=by rw[cg,fK]
   refine⟨_,rfl,_,_,_,_,rfl,rfl,SqT.of (s2 _ _ (e0 _ _ h)),rfl,rfl,_,rfl,?_⟩
   refine aB Qd ?_
   refine⟨_,rfl,_,_,_,_,rfl,rfl,SqT.of (s2 _ _ (e0 _ _ h)),rfl,rfl,_,rfl,?_⟩
   refine aB Qd ?_
   refine⟨_,rfl,_,_,_,_,rfl,rfl,SqT.of (s2 _ _ (e0 _ _ h)),rfl,rfl,_,rfl,?_⟩
   refine bx Qd ?_
   refine⟨_,rfl,_,_,_,_,rfl,rfl,SqT.of (s2 _ _ (e0 _ _ h)),rfl,_,_,rfl,rfl,_,rfl,?_⟩
   refine cL (fun cc=>?_) (fun cc=>?_)
   ·have mp:0<m:=of_decide_eq_true cc
    have bl:(bn bs).length<=1000:=by
     have:1 * (bn bs).length<=m.toNat * (bn bs).length:=Nat.mul_le_mul_right _ Qo
     omega
    refine⟨_,rfl,_,_,_,_,rfl,rfl,SqT.of (s2 _ _ (e0 _ _ h)),rfl,H0,bb,bs,rfl,e0.trans s2,hb',Qo,rb,bl,fun H3 l3 us3 s3 n3 h3 r3=>?_⟩
    have nl:l3≠c:=fun z=>by rw[z,h2]at n3;cases n3
    have u3:=r3.len
    have s23:=s2.trans s3
    refine⟨_,rfl,_,_,_,_,rfl,rfl,SqT.of (s23 _ _ (e0 _ _ h)),rfl,_,rfl,Qo,Qo,?_⟩
    refine i8 (fun j σ H4=>∃v,σ=[some (.ref b),some (.ref c),some (.ref p),some (.ref l3),v]/\a9 H H4/\H4 l3=some (.lst us3)/\RMs H4 us3 (bn bs)/\∃us4,H4 c=some (.lst us4)/\RMs H4 us4 (bn (ds.take i)++reps j (bn bs))) ⟨_,rfl,s23,h3,r3,us,s3 _ _ h2,by rw[sw,qx];exact hu.same s3⟩ ?_ ?_
    ·rintro j σ H4 hj ⟨v,rfl,s4,h4,r4,us4,hc4,hu4⟩
     have u4:=hu4.len
     rw[qc,fK]at u4
     have jl:j * (bn bs).length<=m.toNat * (bn bs).length:=Nat.mul_le_mul_right _ Qo
     refine⟨_,rfl,.inl ⟨rfl,_,SqL.of hc4⟩,_,rfl,c,l3,_,_,rfl,rfl,hc4,h4,bu (m:=9000) Qo,?_⟩
     refine⟨_,rfl,a9.over s4 hc,by rw[af nl];exact h4,r4.off hc4,us4++us3,ag,?_⟩
     rw[yn,<- qN]
     exact(hu4.app r4).off hc4
    ·rintro σ H4 ⟨v,rfl,s4,h4,r4,us4,hc4,hu4⟩
     refine⟨_,_,_,us4,rfl,s4,hc4,?_⟩
     rw[cg]
     exact hu4
   ·have mz:m.toNat=0:=by
     have:=cc
     simp at this
     omega
    refine⟨_,_,_,us,rfl,s2,h2,?_⟩
    rw[cg,mz,sw,qx]
    exact hu
 ·rintro σ H2 ⟨v,v',v'',us,rfl,s2,h2,hu⟩
  rw[vl,qH]at hu
  exact⟨_,rfl,k H2 c us s2 hc h2 hu⟩
theorem jG (c:Int) (n:Nat):(cq c n).length=n:=by
 unfold cq
 split
 ·rw[List.length_reverse,iR]
 ·exact iR c n
theorem BY (ns:List Int):eO (ns.map V.int) (some 3) (some 63)=(dM ns 3 63).map V.int:=by
 unfold eO dM
 have e1:HT.sIx (ns.map V.int).length 0 (some 3)=min 3 ns.length:=by rw[qa];exact HT.sIx_nat _ _ 3
 have e2:HT.sIx (ns.map V.int).length (ns.map V.int).length (some 63)=min 63 ns.length:=by rw[qa];exact HT.sIx_nat _ _ 63
 rw[e1,e2,List.map_take,List.map_drop]
seal cq
theorem Ae (T:Tx P w K mg a):aR P w K mg base CX0 16 a._law_program a.fd__law_program ["_law_script","_law_most"] (pZ K):=by
 refine T.F__law_program.ok d9 (fun vs H Q E h=>?_) (fun cdv A outer s H vs Q E hr h=>?_)
 ·obtain⟨_,_,rfl,_⟩:=h
  rfl
 obtain⟨l,ns,rfl,hl,h63,bdp,bra,ml,bfl,q⟩:=h
 have bl:(aJ ns).length<=60:=qy (nh _) bfl
 refine⟨_,(ai (aq (i:=2) d9.nd rfl (Or.inl rfl) (aC (mQ T) (hr.mono Qk) rfl T.m__law_cell_at T.F__law_cell_at.kp T.b__law_cell_at .nil aD (aa (pq 0) (aa ac ae))))
  (ai (aq (i:=3) d9.nd rfl (Or.inl rfl) (aC (mQ T) (hr.mono Qk) rfl T.m__law_cell_at T.F__law_cell_at.kp T.b__law_cell_at .nil aD (aa (pq 0) (aa ac ae))))
  (ai (aq (i:=4) d9.nd rfl (Or.inr rfl) (aC (mQ T) (hr.mono Qk) rfl T.m__law_cell_at T.F__law_cell_at.kp T.b__law_cell_at .nil aD (aa (pq 0) (aa ac ae))))
  (ai (aq (i:=5) d9.nd rfl (Or.inr rfl) (aC (tw T) (hr.mono Qk) rfl T.m__law_pool T.F__law_pool.kp T.b__law_pool .nil aD (aa (pq 2) (aa (ao bQ ac (ao bg (aC (eX T) (hr.mono Qk) rfl T.m__law_mixed T.F__law_mixed.kp T.b__law_mixed .nil aD (aa (pq 3) (aa ac ae))) ac)) ae))))
  (ai (aq (i:=6) d9.nd rfl (Or.inl rfl) (fU kN (pq 5) hX (eJ (cU cO ac))))
  (ai (aq (i:=7) d9.nd rfl (Or.inl rfl) (aC (tw T) (hr.mono Qk) rfl T.m__law_pool T.F__law_pool.kp T.b__law_pool .nil aD (aa (gz (aA aX (ao bg (aC (eX T) (hr.mono Qk) rfl T.m__law_mixed T.F__law_mixed.kp T.b__law_mixed .nil aD (aa (pq 3) (aa ac ae))) ac) ac (az _)) (pq 2) (pq 3)) (aa (ba (uY rfl) rfl T.z_min PyProof.Rows.Boot.«min» (aa ac (aa (ao bg (aC (eX T) (hr.mono Qk) rfl T.m__law_mixed T.F__law_mixed.kp T.b__law_mixed .nil aD (aa (pq 3) (aa ac ae))) ac) ae))) ae))))
  (ai (aq (i:=8) d9.nd rfl (Or.inl rfl) (aC (Al T) (hr.mono Qk) rfl T.m__law_block T.F__law_block.kp T.b__law_block .nil aD (aa (fU kN (pq 0) (eJ ac) (eJ ac)) (aa (pq 6) (aa (pq 7) (aa (pq 1) (aa ac ae)))))))
  (ai (aq (i:=9) d9.nd rfl (Or.inl rfl) (aC (Ai T 13) (hr.mono Qk) rfl T.m__law_moves T.F__law_moves.kp T.b__law_moves .nil aD (aa (pq 8) ae)))
  (ai (aq (i:=10) d9.nd rfl (Or.inl rfl) (bc ae))
  (ai (aq (i:=11) d9.nd rfl (Or.inl rfl) (bc ae))
  (ai (bU PassesOwn.never rfl (gy rfl T.z_range (aa (ba c9 rfl T.z_len PySem.boot_len (aa (pq 7) ae)) ae)) (aM (i:=12) d9.nd rfl (Or.inl rfl))
  (ai (jE (aC (Ad T) (hr.mono Qk) rfl T.m__law_reach T.F__law_reach.kp T.b__law_reach .nil aD (aa (pq 9) (aa (aj aF (pq 7) (pq 12) (fun _ _=>rfl)) ae))) (dR rfl (bW (aM (i:=13) d9.nd rfl (Or.inl rfl)) (bW (aM (i:=14) d9.nd rfl (Or.inl rfl)) dH))))
  (ai (bC (bF qh PySem.F.slot_list_extend PySem.F.type_list_extend fZ (pq 10) (aa (ao t9 (bc (aa (be (aa aQ (aa (aj aF (pq 7) (pq 12) (fun _ _=>rfl)) (aa (aj aF (pq 6) (ao bg (pq 12) (ba c9 rfl T.z_len PySem.boot_len (aa (pq 6) ae))) (fun _ _=>rfl)) ae)))) ae)) (pq 13)) ae)))
  (ak (bC (bF qh qv qw ck (pq 11) (aa (be (aa (aj aF (pq 7) (pq 12) (fun _ _=>rfl)) (aa (aC (Ak T) (hr.mono Qk) rfl T.m__law_length T.F__law_length.kp T.b__law_length .nil aD (aa (aC (eX T) (hr.mono Qk) rfl T.m__law_mixed T.F__law_mixed.kp T.b__law_mixed .nil aD (aa (pq 4) (aa (ao bQ (pq 12) ac) ae))) (aa (pq 14) ae))) ae))) ae)))))))
  (ai (jC (i:=15) d9.nd rfl (Or.inl rfl) (k:=1) (Nc:=["_law_k","_law_words_here","_law_third"]) (js:=[5,4]) (show bZ (aI jv) ["_law_script","_law_most","_law_first","_law_second","_law_third","_law_words_here","_law_names","_law_rooms","_law_body","_law_moves_here","_law_front","_law_stores","_law_k","_law_lacking","_law_peak","_law_asks"] _ 1 ["_law_k","_law_words_here","_law_third"] [5,4]from bZ.mk rfl (by decide +kernel) (by decide +kernel) (by decide +kernel) rfl (by decide +kernel)) rfl (gy rfl T.z_range (aa (ba c9 rfl T.z_len PySem.boot_len (aa (pq 5) ae)) ae)) (fun _ _ _ _ _=>(aM (i:=0) (show List.Nodup (["_law_k","_law_words_here","_law_third"]:List Str)from by decide +kernel) rfl (Or.inl rfl))) (fun _ _ _ _ _=>(hV (aA aX (ao bg (aC (eX T) (hr.mono Qk) rfl T.m__law_mixed T.F__law_mixed.kp T.b__law_mixed .nil aD (aa (pq 2) (aa (ao bQ (pq 0) ac) ae))) ac) ac (az _)))) (fun _ _ _ _ _=>(aj (yL (K:=K) rfl) (pq 1) (pq 0) (fun _ _=>rfl))))
  (ak (aE (be (aa (pq 15) (aa (pq 11) (aa (ao hG (pq 10) (pq 8)) ae)))))))))))))))))),?_⟩
 have e0:(0:Int).toNat=0:=rfl
 have e1:(1:Int).toNat=1:=rfl
 have e2:(2:Int).toNat=2:=rfl
 refine⟨_,rfl,l,ns,0,rfl,hl,Qo,Qk,?_⟩
 refine⟨_,rfl,l,ns,1,rfl,hl,Qo,Qk,?_⟩
 refine⟨_,rfl,l,ns,2,rfl,hl,Qo,Qk,?_⟩
 rw[e0,e1,e2]
 have a0:=jR (ns.getD 1 0) 1
 have a3:=jR (ns.getD 1 0) 3
 have wl:(bJ ns).length=(2+ar (ns.getD 1 0) 1 % 4).toNat:=jG _ _
 have nl:(bL ns).length=(bJ ns).length-1:=List.length_dropLast
 have rl:(ay ns).length=(if ar (ns.getD 1 0) 3 % 5<3 then ar (ns.getD 1 0) 3 % 5 else 3).toNat:=jG _ _
 have rl3:(ay ns).length<=3:=by rw[rl];split<;>omega
 have cl:(dM ns 3 63).length<=100:=by unfold dM;rw[qK];omega
 refine⟨_,rfl,_,rfl,_,1,rfl,Qk,Qk,_,_,rfl,rfl,Qk,_,_,rfl,rfl,_,_,rfl,Qo,Qo,fun H2 ln s2 nl2 hl2=>?_⟩
 have hw2:H2 ln=some (.lst ((bJ ns).map V.str)):=hl2
 refine⟨_,rfl,_,rfl,_,rfl,ln,_,rfl,SqL.of hw2,fun c2 hc2=>?_⟩
 rw[BZ (bJ ns) Qo]
 have sc2:a9 H2 (upd H2 c2 (.lst ((bJ ns).dropLast.map V.str))):=a9.new hc2 _
 have hn2:(upd H2 c2 (.lst ((bJ ns).dropLast.map V.str))) c2=some (.lst ((bL ns).map V.str)):=ag
 have s02:=s2.trans sc2
 have hw2:=sc2 _ _ hw2
 generalize upd H2 c2 (.lst ((bJ ns).dropLast.map V.str))=H2' at hn2 s02 hw2 ⊢
 refine⟨_,rfl,_,2,rfl,Qk,Qk,_,_,rfl,rfl,Qk,rfl,_,rfl,?_⟩
 refine Be rfl rfl ?_
 refine⟨_,rfl,_,3,rfl,Qk,Qk,_,_,rfl,rfl,Qk,3,_,rfl,_,_,rfl,by split<;>omega,by split<;>omega,fun H3 lr s3 nr3 hr3=>?_⟩
 have hr3:H3 lr=some (.lst ((ay ns).map V.str)):=by
  rw[hr3]
  unfold ay
  congr 5
  exact propext ⟨du,fun z=>by rw[z];rfl⟩
 have s03:=s02.trans s3
 have hw3:=s3 _ _ hw2
 have hn3:=s3 _ _ hn2
 refine⟨_,rfl,_,rfl,_,rfl,l,_,rfl,s03.seq hl,fun c hc=>?_⟩
 rw[BY]
 have sc:a9 H3 (upd H3 c (.lst ((dM ns 3 63).map V.int))):=a9.new hc _
 refine⟨_,rfl,_,rfl,_,rfl,c,c2,lr,dM ns 3 63,bL ns,ay ns,3,7,rfl,SqL.of ag,SqL.of (sc _ _ hn3),SqL.of (sc _ _ hr3),cl,Qo,Qo,Qo,Qk,Qk,fun H4 b s4 nb hb=>?_⟩
 have s34:=sc.trans s4
 have hw4:=s34 _ _ hw3
 have hn4:=s34 _ _ hn3
 have hr4:=s34 _ _ hr3
 have s04:=s03.trans s34
 refine⟨_,rfl,H4,b,aJ ns,rfl,a9.refl _,hb,Qo,bra,qy ml Qk,fun H5 lm ums s5 nlm hlm hms=>?_⟩
 refine⟨qt _,fun cf hcf=>⟨qt _,fun cs hcs=>?_⟩⟩
 have nfs:cf≠cs:=fun z=>by rw[z,ag]at hcs;cases hcs
 have s7:a9 H5 (upd (upd H5 cf (.lst [])) cs (.lst [])):=(a9.new hcf _).trans (a9.new hcs _)
 have fs0:H5 cs=none:=a9.none (a9.new hcf _) hcs
 have lro:(((ay ns).map V.str).length:Int).toNat=(ay ns).length:=by simp
 have lw:(((bJ ns).map V.str).length:Int).toNat=(bJ ns).length:=by simp
 have lw':((bJ ns).map V.str).length=(bJ ns).length:=qa _
 have lr':((ay ns).map V.str).length=(ay ns).length:=qa _
 have big:(10000:Nat)<sizeLine:=Qk
 refine⟨_,rfl,lr,_,rfl,.inl (SqL.of (s7 _ _ (s5 _ _ hr4))),_,rfl,Qo,Qo,?_⟩
 rw[lro]
 refine i8 (fun i σ H6=>∃v v' v'' fs ss,σ=[some (.ref l),some (.int 3),some (.int (ns.getD 0 0)),some (.int (ns.getD 1 0)),some (.int (ns.getD 2 0)),some (.ref ln),some (.ref c2),some (.ref lr),some (.ref b),some (.ref lm),some (.ref cf),some (.ref cs),v,v',v'',none]/\a9 H5 H6/\H6 cf=some (.lst fs)/\RPs H6 fs (gF (ay ns) (bL ns) (bh ns) i)/\H6 cs=some (.lst ss)/\RSs H6 ss (dC (ay ns) (ns.getD 2 0) (bh ns) i)) ⟨_,_,_,[],[],rfl,s7,by rw[af nfs];exact ag,.nil,ag,.nil⟩ ?_ ?_
 ·rintro i σ H6 hi ⟨v,v',v'',fs,ss,rfl,s6,hf,rf,hs,rs⟩
  rw[Int.zero_add]
  have e:atI ((ay ns).map V.str) (i:Int)=some (.str ((ay ns).getD i (">":Str))):=vt hi
  have en:atI ((bL ns).map V.str) ((i:Int) % (((bL ns).map V.str).length:Int))=some (.str (nth (bL ns) (i:Int))):=gD Qo _
  have nl':((bL ns).map V.str).length=(bL ns).length:=qa _
  have fl:=rf.len
  have sl:=rs.len
  rw[kF]at sl
  have fm:(gF (ay ns) (bL ns) (bh ns) i).length<=720:=by
   have h1:=jZ (ay ns) (bL ns) (bh ns) i
   rw[<- k6,qa]at h1
   have:i * (bh ns).length<=3 * 240:=Nat.mul_le_mul Qo ml
   omega
  have lk:=ub ((ay ns).getD i (">":Str)) (bh ns)
  have lkb:=jB ((ay ns).getD i (">":Str)) (bh ns)
  refine⟨_,rfl,_,rfl,_,rfl,lr,_,_,_,rfl,rfl,SqL.of (s6 _ _ (s5 _ _ hr4)),e,lm,ums,bh ns,_,rfl,s6 _ _ hlm,hms.same s6,Qo,fun pr hpr=>⟨pr,_,rfl,SqT.of ag,rfl,_,_,rfl,_,_,rfl,rfl,?_⟩⟩
  have s67:=a9.new hpr (.tup [.int (-(aS ((ay ns).getD i (">":Str)) (bh ns)).2.1),.int ((aS ((ay ns).getD i (">":Str)) (bh ns)).2.2-(aS ((ay ns).getD i (">":Str)) (bh ns)).2.1)])
  have s57:=s6.trans s67
  have hr7:=s57 _ _ (s5 _ _ hr4)
  have hn7:=s57 _ _ (s5 _ _ hn4)
  have hf7:=s67 _ _ hf
  have hs7:=s67 _ _ hs
  have rf7:=rf.same s67
  have rs7:=rs.same s67
  generalize upd H6 pr (.tup [.int (-(aS ((ay ns).getD i (">":Str)) (bh ns)).2.1),.int ((aS ((ay ns).getD i (">":Str)) (bh ns)).2.2-(aS ((ay ns).getD i (">":Str)) (bh ns)).2.1)])=H7 at s57 hr7 hn7 hf7 hs7 rf7 rs7 ⊢
  clear s67 hf hs rf rs
  refine⟨_,rfl,.inl ⟨rfl,_,SqL.of hf7⟩,_,rfl,_,rfl,lr,_,_,_,rfl,rfl,SqL.of hr7,e,_,rfl,_,rfl,_,rfl,c2,_,rfl,.inl (SqL.of hn7),_,_,rfl,rfl,Qo,c2,_,_,_,rfl,rfl,SqL.of hn7,en,ln3,fun pt hpt=>⟨ln1,fun pl hpl=>?_⟩⟩
  have st:=a9.new hpt (.tup [.str "put",.str ((ay ns).getD i (">":Str)),.str (nth (bL ns) (i:Int))])
  have sl8:=a9.new hpl (.lst [.ref pt])
  refine⟨_,rfl,pl,_,_,rfl,rfl,ag,Qo,Qo,by show 1 * eN _ _<=_;omega,fun pq hpq=>?_⟩
  rw[By]
  have s9:=(st.trans sl8).trans (a9.new hpq (.lst (List.replicate (-(aS ((ay ns).getD i (">":Str)) (bh ns)).2.1).toNat (.ref pt))))
  refine⟨cf,pq,_,_,rfl,rfl,s9 _ _ hf7,ag,bu (m:=9000) (by rw[List.length_replicate];show fs.length+eN _ _<=_;omega),?_⟩
  have pt9:=(sl8.trans (a9.new hpq (.lst (List.replicate (-(aS ((ay ns).getD i (">":Str)) (bh ns)).2.1).toNat (.ref pt))))) _ _ (ag (H:=H7) (a:=pt) (o:=.tup [.str "put",.str ((ay ns).getD i (">":Str)),.str (nth (bL ns) (i:Int))]))
  have s510:=a9.over (o:=.lst (fs++List.replicate (-(aS ((ay ns).getD i (">":Str)) (bh ns)).2.1).toNat (.ref pt))) (s57.trans s9) hcf
  have rf10:RPs _ _ (gF (ay ns) (bL ns) (bh ns) (i+1)):=((rf7.same s9).app (RPs.rep (m:=((ay ns).getD i (">":Str),nth (bL ns) (i:Int))) pt9 (eN ((ay ns).getD i (">":Str)) (bh ns)))).off (o:=.lst (fs++List.replicate (-(aS ((ay ns).getD i (">":Str)) (bh ns)).2.1).toNat (.ref pt))) (s9 _ _ hf7)
  have rs10:=(rs7.same s9).off (o:=.lst (fs++List.replicate (-(aS ((ay ns).getD i (">":Str)) (bh ns)).2.1).toNat (.ref pt))) (s9 _ _ hf7)
  have hs10:=(af (H:=(upd (upd (upd H7 pt (.tup [.str "put",.str ((ay ns).getD i (">":Str)),.str (nth (bL ns) (i:Int))])) pl (.lst [.ref pt])) pq (.lst (List.replicate (-(aS ((ay ns).getD i (">":Str)) (bh ns)).2.1).toNat (.ref pt))))) (o:=.lst (fs++List.replicate (-(aS ((ay ns).getD i (">":Str)) (bh ns)).2.1).toNat (.ref pt))) (Ne.symm nfs)).trans (s9 _ _ hs7)
  have hf10:=ag (H:=(upd (upd (upd H7 pt (.tup [.str "put",.str ((ay ns).getD i (">":Str)),.str (nth (bL ns) (i:Int))])) pl (.lst [.ref pt])) pq (.lst (List.replicate (-(aS ((ay ns).getD i (">":Str)) (bh ns)).2.1).toNat (.ref pt))))) (a:=cf) (o:=.lst (fs++List.replicate (-(aS ((ay ns).getD i (">":Str)) (bh ns)).2.1).toNat (.ref pt)))
  generalize upd (upd (upd (upd H7 pt (.tup [.str "put",.str ((ay ns).getD i (">":Str)),.str (nth (bL ns) (i:Int))])) pl (.lst [.ref pt])) pq (.lst (List.replicate (-(aS ((ay ns).getD i (">":Str)) (bh ns)).2.1).toNat (.ref pt)))) cf (.lst (fs++List.replicate (-(aS ((ay ns).getD i (">":Str)) (bh ns)).2.1).toNat (.ref pt)))=H10 at s510 rf10 rs10 hs10 hf10 ⊢
  refine⟨_,rfl,.inl ⟨rfl,_,SqL.of hs10⟩,_,rfl,_,rfl,lr,_,_,_,rfl,rfl,SqL.of (s510 _ _ (s5 _ _ hr4)),e,_,rfl,_,rfl,_,_,rfl,rfl,_,_,rfl,Qo,Qo,_,rfl,_,_,rfl,ln2,fun pz hpz=>?_⟩
  refine⟨cs,ss,.ref pz,rfl,rfl,a9.new hpz _ _ _ hs10,Qo,?_⟩
  refine⟨_,_,_,_,ss++[.ref pz],rfl,a9.over (s510.trans (a9.new hpz _)) fs0,?_,(rf10.same (a9.new hpz _)).off (a9.new hpz _ _ _ hs10),ag,?_⟩
  ·rw[af nfs]
   exact a9.new hpz _ _ _ hf10
  ·exact((rs10.same (a9.new hpz _)).snoc ag).off (a9.new hpz _ _ _ hs10)
 ·rintro σ H6 ⟨v,v',v'',fs,ss,rfl,s6,hf,rf,hs,rs⟩
  refine⟨_,rfl,ln,_,rfl,.inl (SqL.of (s6 _ _ (s5 _ _ hw4))),_,rfl,Qo,Qo,?_⟩
  rw[lw]
  refine C3 (fun i ys σ H9=>(∃v,σ=[v,some (.ref ln),some (.int (ns.getD 2 0))])/\a9 H6 H9/\ys=(dY (bJ ns) (ns.getD 2 0) i).map V.str) ⟨⟨none,rfl⟩,a9.refl _,rfl⟩ ?_ (bu (m:=100) Qo) ?_ ?_
  ·rintro i ys σ H9 _ ⟨_,_,rfl⟩
   rw[qa]
   exact o8 _ _ _
  ·rintro i ys σ H9 hi ⟨⟨v,rfl⟩,s9,rfl⟩
   refine⟨_,rfl,_,rfl,_,_,rfl,rfl,_,_,rfl,Qo,Qo,_,_,rfl,rfl,Qk,rfl,_,rfl,?_⟩
   refine cL (fun cc=>?_) (fun cc=>?_)
   ·have cc:=du cc
    refine⟨_,rfl,_,rfl,ln,_,_,_,rfl,rfl,SqL.of (s9 _ _ (s6 _ _ (s5 _ _ hw4))),vt hi,⟨_,rfl⟩,s9,?_⟩
    rw[dY,Q0 cc]
    simp
   ·have cc:=dL cc
    refine⟨⟨_,rfl⟩,s9,?_⟩
    rw[dY,qZ cc]
    simp
  rintro ys σ9 H9 ⟨_,s9,rfl⟩ la hla
  have s10:=s9.trans (a9.new hla (.lst ((dY (bJ ns) (ns.getD 2 0) (bJ ns).length).map V.str)))
  obtain⟨hv,hds⟩:=hb
  rename_i bvs
  have sb:a9 H4 (upd H9 la (.lst ((dY (bJ ns) (ns.getD 2 0) (bJ ns).length).map V.str))):=s5.trans (s6.trans s10)
  have bv:bvs.length=(aJ ns).length:=hds.len
  have fl:=rf.len
  have fm:(gF (ay ns) (bL ns) (bh ns) (ay ns).length).length<=720:=by
   have h1:=jZ (ay ns) (bL ns) (bh ns) (ay ns).length
   rw[<- k6,qa]at h1
   have:(ay ns).length * (bh ns).length<=3 * 240:=Nat.mul_le_mul rl3 ml
   omega
  refine⟨_,rfl,_,rfl,_,rfl,_,rfl,cf,b,_,_,rfl,rfl,SqL.of (s10 _ _ hf),SqL.of (sb _ _ hv),bu (m:=9000) Qo,fun pb hpb=>⟨ln3,fun p hp=>?_⟩⟩
  have s11:=a9.new hpb (.lst (fs++bvs))
  have s12:=a9.new hp (.tup [.ref la,.ref cs,.ref pb])
  have s112:=s11.trans s12
  refine q _ p la cs pb ss ((s04.trans sb).trans s112) ⟨ag,s112 _ _ ag,s112 _ _ (s10 _ _ hs),rs.same (s10.trans s112),.mk (s12 _ _ ag) (RDs.app ?_ (RDs.same (sb.trans s112) hds))⟩
  have:=(rf.same (s10.trans s112)).rds
  rw[k6]at this
  exact this
theorem tm (T:Tx P w K mg a):aR P w K mg base CX0 1 a.waits_by a.fd_waits_by ["cards","kind","owners"] pF:=by
 refine T.F_waits_by.ok xY (fun vs H Q E h=>?_) (fun cdv A outer s H vs Q E hr h=>?_)
 ·obtain⟨_,_,_,_,_,_,rfl,_⟩:=h
  rfl
 obtain⟨p,d,cs,kd,kvs,ow,rfl,hp,hd,ho,hl,k⟩:=h
 refine⟨_,(ak (aE (iU (k:=1) (Nc:=["card","kind","owners"]) (js:=[1,2]) (show bZ (aI jr) ["cards","kind","owners"] _ 1 ["card","kind","owners"] [1,2]from bZ.mk rfl (by decide +kernel) (by decide +kernel) (by decide +kernel) rfl (by decide +kernel)) rfl (hZ (pq 0)) (fun _ _ _ _ _=>(aM (i:=0) (show List.Nodup (["card","kind","owners"]:List Str)from by decide +kernel) rfl (Or.inl rfl))) (fun _ _ _ _ _=>(hV (aA zI (pq 0) (pq 2) (by with_unfolding_all rfl)))) (fun _ _ _ _ _=>(be (aa (aj Bc (pq 2) (pq 0) (fun _ _=>rfl)) (aa (pq 1) (aa (pq 0) ae)))))))),?_⟩
 have big:(10000:Nat)<sizeLine:=Qk
 refine⟨_,rfl,p,rfl,⟨_,SqT.of hp⟩,?_⟩
 refine nR (K:=K) (a:=p) (xs:=cs.map V.str) (fun i ys σ H2=>a9 H H2/\(∃u,σ=[u,some (.str kd),some (.ref d)])/\RWs H2 ys (dX ow kd (cs.take i))) ⟨a9.refl _,⟨_,rfl⟩,.nil⟩ ?_ (by rw[qa];omega) ?_ ?_ ?_
 ·rintro i ys σ H2 _ ⟨_,_,h2⟩
  have:=gO ow kd (cs.take i)
  rw[h2.len]
  rw[qK]at this
  omega
 ·rintro i ys σ H2 ⟨s2,_⟩
  exact SqT.of (s2 _ _ hp)
 ·rintro i x ys σ H2 hx ⟨s2,⟨u,rfl⟩,h2⟩
  rw[qE]at hx
  cases e:cs[i]? with
  |none=>rw[e]at hx;cases hx
  |some c=>
   rw[e]at hx
   obtain rfl:V.str c=x:=qJ hx
   have tk:cs.take (i+1)=cs.take i++[c]:=by rw[qr,e];rfl
   rw[tk,Cm]
   have hv:=ho c
   refine⟨_,rfl,_,rfl,d,kvs,.inr c,rfl,s2 _ _ hd,rfl,?_⟩
   cases eo:ow c with
   |none=>
    rw[eo]at hv
    have hv':aK kvs (.inr c)=none:=hv
    rw[hv']
    refine⟨_,rfl,?_⟩
    rw[qZ (show ¬ (none:Option V).isSome=true from fun h=>nomatch h)]
    exact⟨s2,⟨_,rfl⟩,by rw[Option.map_none,Option.toList_none,qx];exact h2⟩
   |some n=>
    rw[eo]at hv
    have hv':aK kvs (.inr c)=some (.int n):=hv
    rw[hv']
    refine⟨_,rfl,?_⟩
    rw[Q0 (show(some (V.int n)).isSome=true from rfl)]
    refine⟨_,rfl,_,rfl,d,kvs,.inr c,.int n,rfl,s2 _ _ hd,rfl,hv',?_⟩
    refine⟨_,rfl,_,rfl,ln3,fun q hq=>?_⟩
    exact⟨s2.trans (a9.new hq _),⟨_,rfl⟩,(h2.same (a9.new hq _)).snoc (e:=(n,kd,c)) ag⟩
 ·rintro ys σ H2 ⟨s2,_,h2⟩ l hl2
  rw[qa,qH]at h2
  exact k _ l ys (s2.trans (a9.new hl2 _)) (s2.free hl2) ag (h2.same (a9.new hl2 _))
theorem zU (T:Tx P w K mg a):aR P w K mg base CX0 2 a.waits_for_cards a.fd_waits_for_cards ["deeds"] pE:=by
 refine T.F_waits_for_cards.ok gX (fun vs H Q E h=>?_) (fun cdv A outer s H vs Q E hr h=>?_)
 ·obtain⟨_,_,_,rfl,_⟩:=h
  rfl
 obtain⟨l,us,rs,rfl,hl,hrs,hlen,small,k⟩:=h
 refine⟨_,(ai (aq (i:=1) gX.nd rfl (Or.inl rfl) jJ)
  (ai (aq (i:=2) gX.nd rfl (Or.inl rfl) (bc ae))
  (ai (bU PassesOwn.never rfl (jI rfl T.z_enumerate (aa (pq 0) ae)) (dR rfl (bW (aM (i:=3) gX.nd rfl (Or.inl rfl)) (bW (aM (i:=4) gX.nd rfl (Or.inl rfl)) dH)))
  (ai (bC (bF qh qv qw ck (pq 2) (aa (ao hG (aC (tm T) (hr.mono Qk) rfl T.m_waits_by T.F_waits_by.kp T.b_waits_by .nil aD (aa (aj au (pq 4) ac (fun _ _=>rfl)) (aa aQ (aa (pq 1) ae)))) (aC (tm T) (hr.mono Qk) rfl T.m_waits_by T.F_waits_by.kp T.b_waits_by .nil aD (aa (aj au (pq 4) ac (fun _ _=>rfl)) (aa aQ (aa (pq 1) ae))))) ae)))
  (ak (bU PassesOwn.never rfl (hZ (aj au (pq 4) ac (fun _ _=>rfl))) (aM (i:=5) gX.nd rfl (Or.inl rfl))
  (ak (jD (hr.one) (pq 1) (pq 5) (pq 3) rfl))))))
  (ak (aE (pq 2)))))),?_⟩
 have big:(4000000:Nat)<sizeLine:=Qk
 intro d hd
 refine⟨qt _,fun lw hlw=>?_⟩
 have s1:a9 H (upd H d (.dK [])):=a9.new hd _
 have s2:=s1.trans (a9.new hlw (.lst []))
 have hd1:(upd (upd H d (.dK [])) lw (.lst [])) d=some (.dK []):=a9.new hlw _ _ _ ag
 have flw:H lw=none:=s1.free hlw
 refine⟨_,rfl,l,us,rfl,SqL.of (s2 _ _ hl),?_⟩
 refine k7 (K:=K) (l:=l) (xs:=us) (fun i σ H2=>∃v3 v4 v5 kvs ws,σ=[some (.ref l),some (.ref d),some (.ref lw),v3,v4,v5]/\a9 H H2/\H2 d=some (.dK kvs)/\H2 lw=some (.lst ws)/\RWL H2 ws (cF rs i)/\(∀v∈ws,v≠.ref lw)/\ii kvs (cj (rs.take i))/\kvs.length<=4000 * i) ⟨_,_,_,[],[],rfl,s2,hd1,ag,.nil,(fun v hv=>nomatch hv),fun c=>rfl,qt _⟩ ?_ ?_ ?_
 ·rintro i σ H2 ⟨_,_,_,_,_,_,s3,_⟩
  exact SqL.of (s3 _ _ hl)
 ·rintro i x σ H2 pt hx ⟨v3,v4,v5,kvs,ws,rfl,s3,hd2,hw2,hrw,nel,own,kl⟩ hpt
  obtain⟨r,hr',px,po,pr,rfl,h1,h2,h3⟩:=hrs.at i x hx
  have lt:i<rs.length:=(qg.mp hr').1
  have st:a9 H2 (upd H2 pt (.tup [.int i,.ref px])):=a9.new hpt _
  have hpt3:(upd H2 pt (.tup [.int i,.ref px])) pt=some (.tup [.int i,.ref px]):=ag
  have s4:=s3.trans st
  have hd3:=st _ _ hd2
  have hw3:=st _ _ hw2
  have hrw3:=hrw.same st
  generalize upd H2 pt (.tup [.int i,.ref px])=H3 at s4 hd3 hw3 hrw3 hpt3 ⊢
  obtain⟨so,sr⟩:=small r (qz hr')
  refine⟨pt,_,rfl,SqT.of hpt3,rfl,_,_,rfl,_,_,rfl,rfl,?_⟩
  have h1':=s4 _ _ h1
  refine⟨_,rfl,.inl ⟨rfl,_,SqL.of hw3⟩,?_⟩
  refine⟨_,rfl,px,_,_,_,rfl,rfl,SqT.of h1',rfl,?_⟩
  refine⟨_,rfl,po,d,r.owns,"card",kvs,cj (rs.take i),rfl,s4 _ _ h2,hd3,own,Qo,fun H4 l1 u1 s5 f1 e1 w1=>?_⟩
  refine⟨_,rfl,px,_,_,_,rfl,rfl,SqT.of (s5 _ _ h1'),rfl,?_⟩
  refine⟨_,rfl,pr,d,r.reads,"copy",kvs,cj (rs.take i),rfl,s5 _ _ (s4 _ _ h3),s5 _ _ hd3,own,Qo,fun H5 l2 u2 s6 f2 e2 w2=>?_⟩
  have n1:=gO (cj (rs.take i)) "card" r.owns
  have n2:=gO (cj (rs.take i)) "copy" r.reads
  refine⟨l1,l2,u1,u2,rfl,rfl,SqL.of (s6 _ _ e1),SqL.of e2,by rw[w1.len,w2.len];omega,fun l3 f3=>?_⟩
  have s36:=(s5.trans s6).trans (a9.new f3 (.lst (u1++u2)))
  have w3:RWs (upd H5 l3 (.lst (u1++u2))) (u1++u2) (fj (rs.take i) r):=(RWs.app w2 (w1.same s6)).same (a9.new f3 _)
  have e3:(upd H5 l3 (.lst (u1++u2))) l3=some (.lst (u1++u2)):=ag
  have n3:l3≠lw:=fun z=>by rw[z,(s5.trans s6) _ _ hw3]at f3;cases f3
  generalize upd H5 l3 (.lst (u1++u2))=H6 at s36 w3 e3 ⊢
  have hw6:=s36 _ _ hw3
  have hd6:=s36 _ _ hd3
  have nd:d≠lw:=fun z=>by rw[z,hw6]at hd6;cases hd6
  have wl:=hrw.len
  rw[j7 rs i Qo]at wl
  refine⟨lw,ws,_,rfl,rfl,hw6,Qo,?_⟩
  have s7:a9 H (upd H6 lw (.lst (ws++[.ref l3]))):=a9.over (s4.trans s36) flw
  have hw7:(upd H6 lw (.lst (ws++[.ref l3]))) lw=some (.lst (ws++[.ref l3])):=ag
  have hd7:(upd H6 lw (.lst (ws++[.ref l3]))) d=some (.dK kvs):=by rw[af nd];exact hd6
  have nel':∀v∈ws++[V.ref l3],v≠.ref lw:=fun v hv=>by
   rcases qi.mp hv with q|q
   ·exact nel v q
   ·rw[qS.mp q]
    exact fun z=>n3 (V.ref.inj z)
  have rw7:RWL (upd H6 lw (.lst (ws++[.ref l3]))) (ws++[.ref l3]) (cF rs (i+1)):=by
   rw[cF,hr']
   exact((hrw3.same s36).snoc e3 w3).off hw6 nel'
  generalize upd H6 lw (.lst (ws++[.ref l3]))=H7 at s7 hw7 hd7 rw7 ⊢
  refine⟨_,rfl,px,_,_,_,rfl,rfl,SqT.of (s7 _ _ h1),rfl,?_⟩
  refine⟨po,rfl,⟨_,SqT.of (s7 _ _ h2)⟩,?_⟩
  refine ux (K:=K) (a:=po) (xs:=r.owns.map V.str) (fun j σ H8=>∃v5 kvs',σ=[some (.ref l),some (.ref d),some (.ref lw),some (.int i),some (.ref px),v5]/\a9 H H8/\H8 d=some (.dK kvs')/\H8 lw=some (.lst (ws++[.ref l3]))/\RWL H8 (ws++[.ref l3]) (cF rs (i+1))/\ii kvs' (iV (cj (rs.take i)) i (r.owns.take j))/\kvs'.length<=kvs.length+j) ⟨_,kvs,rfl,s7,hd7,hw7,rw7,fun c=>by rw[own c];rfl,qf _⟩ ?_ ?_ ?_
  ·rintro j σ H8 _ ⟨_,_,_,s8,_⟩
   exact SqT.of (s8 _ _ h2)
  ·rintro j x σ H8 hx ⟨v5,kvs',rfl,s8,hd8,hw8,rw8,own8,kl8⟩
   rw[qE]at hx
   cases e:r.owns[j]? with
   |none=>rw[e]at hx;cases hx
   |some c=>
    rw[e]at hx
    obtain rfl:V.str c=x:=qJ hx
    have jl:=(qg.mp e).1
    refine⟨_,rfl,_,rfl,_,rfl,d,_,rfl,gj.k (k:=.inr c) hd8 Qo,?_⟩
    refine⟨_,_,rfl,a9.over s8 hd,ag,?_,rw8.offD hd8,?_,?_⟩
    ·rw[af (Ne.symm nd)]
     exact hw8
    ·rw[qr,e]
     exact own8.put
    ·have:=eZ kvs' (.inr c) (.int i)
     omega
  ·rintro σ H8 ⟨v5,kvs',rfl,s8,hd8,hw8,rw8,own8,kl8⟩
   rw[qa]at own8 kl8
   rw[qH]at own8
   refine⟨_,_,_,kvs',_,rfl,s8,hd8,hw8,rw8,nel',fun c=>?_,Qo⟩
   rw[own8 c,qr,hr']
   show _=Option.map V.int (cj (rs.take i++[r]) c)
   rw[ua,qK,Nat.min_eq_left Qo]
   rfl
 ·rintro σ H2 ⟨v3,v4,v5,kvs,ws,rfl,s3,hd2,hw2,hrw,nel,own,kl⟩
  rw[hrs.len]at hrw
  exact⟨_,rfl,k _ _ _ s3 flw hw2 hrw⟩
theorem tq (T:Tx P w K mg a):aR P w K mg base CX0 1 a.numbers_by_store a.fd_numbers_by_store ["deeds","place"] pK:=by
 refine T.F_numbers_by_store.ok jp (fun vs H Q E h=>?_) (fun cdv A outer s H vs Q E hr h=>?_)
 ·obtain⟨_,_,_,_,_,rfl,_⟩:=h
  rfl
 obtain⟨l,us,rs,pl,f,rfl,hl,hrs,hlen,hf,k⟩:=h
 refine⟨_,(ai (aq (i:=2) jp.nd rfl (Or.inl rfl) jJ)
  (ai (bU PassesOwn.never rfl (jI rfl T.z_enumerate (aa (pq 0) ae)) (dR rfl (bW (aM (i:=3) jp.nd rfl (Or.inl rfl)) (bW (aM (i:=4) jp.nd rfl (Or.inl rfl)) dH)))
  (ak (aP (aA fL (aj au (pq 4) (pq 1) (fun _ _=>rfl)) cw (az _)) (ak (bC (bF qh qv qw ck (zt (pq 2) (aj au (pq 4) (pq 1) (fun _ _=>rfl)) (bc ae) ⟨rfl,rfl,rfl,rfl⟩) (aa (pq 3) ae)))) aZ)))
  (ak (aE (pq 2))))),?_⟩
 have big:(4000000:Nat)<sizeLine:=Qk
 intro d hd
 have s1:a9 H (upd H d (.dK [])):=a9.new hd _
 refine⟨_,rfl,l,us,rfl,SqL.of (s1 _ _ hl),?_⟩
 refine k7 (K:=K) (l:=l) (xs:=us) (fun i σ H2=>∃v3 v4 kvs,σ=[some (.ref l),some (.int pl),some (.ref d),v3,v4]/\a9 H H2/\H2 d=some (.dK kvs)/\RN H2 kvs (ap f (rs.take i))/\(∀(q:Str) (p:Addr),aK kvs (.inr q)=some (.ref p)->H p=none)/\kvs.length<=i) ⟨_,_,[],rfl,s1,ag,⟨fun q=>.inl ⟨rfl,rfl⟩,fun _ _ _ h=>nomatch h⟩,(fun _ _ h=>nomatch h),qf _⟩ ?_ ?_ ?_
 ·rintro i σ H2 ⟨_,_,_,_,s3,_⟩
  exact SqL.of (s3 _ _ hl)
 ·rintro i x σ H2 pt hx ⟨v3,v4,kvs,rfl,s3,hd2,rn,fr,kl⟩ hpt
  obtain⟨r,hr',px,po,pr,rfl,h1,h2,h3⟩:=hrs.at i x hx
  have lt:i<rs.length:=(qg.mp hr').1
  have st:a9 H2 (upd H2 pt (.tup [.int i,.ref px])):=a9.new hpt _
  have hpt3:(upd H2 pt (.tup [.int i,.ref px])) pt=some (.tup [.int i,.ref px]):=ag
  have s4:=s3.trans st
  have hd3:=st _ _ hd2
  have rn3:=rn.same st
  generalize upd H2 pt (.tup [.int i,.ref px])=H3 at s4 hd3 rn3 hpt3 ⊢
  have tk:rs.take (i+1)=rs.take i++[r]:=by rw[qr,hr'];rfl
  have il:(rs.take i).length=i:=by rw[qK];omega
  have hat:atI [V.str r.kind,.ref po,.ref pr,cJ r.into,cJ r.outof] pl=some (cJ (f r)):=by
   rcases hf with⟨rfl,rfl⟩|⟨rfl,rfl⟩<;>rfl
  have ns:=jN f (rs.take i) r
  rw[il]at ns
  refine⟨pt,_,rfl,SqT.of hpt3,rfl,_,_,rfl,_,_,rfl,rfl,?_⟩
  refine⟨_,rfl,_,rfl,px,_,pl,_,rfl,rfl,SqT.of (s4 _ _ h1),hat,?_⟩
  cases ef:f r with
  |none=>
   refine⟨rfl,_,rfl,aB rfl ?_⟩
   refine⟨_,_,kvs,rfl,s4,hd3,rn3.eq fun q=>?_,fr,Qo⟩
   rw[tk,ns,ef]
   simp
  |some q=>
   refine⟨rfl,_,rfl,bx rfl ?_⟩
   have e1:ap f (rs.take (i+1)) q=ap f (rs.take i) q++[(i:Int)]:=by rw[tk,ns,ef,Q0 rfl]
   have e2:∀q',q'≠q->ap f (rs.take (i+1)) q'=ap f (rs.take i) q':=fun q' z=>by rw[tk,ns,ef,qZ (fun y=>z (qJ y).symm),qx]
   refine⟨_,rfl,d,rfl,.inl ⟨kvs,.inl hd3⟩,?_⟩
   refine⟨_,rfl,_,rfl,px,_,pl,_,rfl,rfl,SqT.of (s4 _ _ h1),hat,?_⟩
   rw[ef]
   refine⟨qt _,fun l0 f0=>?_⟩
   have s5:a9 H3 (upd H3 l0 (.lst [])):=a9.new f0 _
   refine⟨kvs,.inr q,s5 _ _ hd3,rfl,Qo,fun v hv=>?_,fun hv=>?_⟩
   ·rcases rn3.at_ q with⟨b,_⟩|⟨p,b,c⟩
    ·rw[b]at hv;cases hv
    ·rw[b]at hv
     cases hv
     have nl:=tI f (rs.take i) q
     rw[il]at nl
     refine⟨.inl ⟨rfl,_,SqL.of (s5 _ _ c)⟩,_,rfl,p,_,_,rfl,rfl,s5 _ _ c,by rw[qa];omega,?_⟩
     have np:p≠d:=fun y=>by rw[y,hd3]at c;cases c
     refine⟨_,_,kvs,rfl,a9.over (s4.trans s5) (fr q p b),?_,(rn3.same s5).old b e1 e2,fr,Qo⟩
     rw[af (Ne.symm np)]
     exact s5 _ _ hd3
   ·have nl0:l0≠d:=fun y=>by rw[y,hd3]at f0;cases f0
    have h0:(upd (upd H3 l0 (.lst [])) d (.dK (bT kvs (.inr q) (.ref l0)))) l0=some (.lst []):=by rw[af nl0];exact ag
    refine⟨.inl ⟨rfl,_,SqL.of h0⟩,_,rfl,l0,_,_,rfl,rfl,h0,by show 0<sizeLine;decide,?_⟩
    have m0:ap f (rs.take i) q=[]:=by
     rcases rn3.at_ q with⟨_,b⟩|⟨p,b,_⟩
     ·exact b
     ·rw[b]at hv;cases hv
    rw[m0]at e1
    have kp:=eZ kvs (.inr q) (.ref l0)
    refine⟨_,_,_,rfl,a9.over (a9.over (s4.trans s5) hd) (s4.free f0),?_,rn3.new hd3 f0 hv e1 e2,fun q' p hp=>?_,Qo⟩
    ·rw[af (Ne.symm nl0)]
     exact ag
    ·rw[fq]at hp
     split at hp
     ·cases hp
      exact s4.free f0
     ·exact fr q' p hp
 ·rintro σ H2 ⟨v3,v4,kvs,rfl,s3,hd2,rn,fr,kl⟩
  rw[hrs.len,qH]at rn
  exact⟨_,rfl,k _ _ _ s3 hd2 rn fr⟩
theorem zV (T:Tx P w K mg a):aR P w K mg base CX0 2 a.waits_behind a.fd_waits_behind ["waits_by_cards","deeds","stores"] pG:=by
 refine T.F_waits_behind.ok dE (fun vs H Q E h=>?_) (fun cdv A outer s H vs Q E hr h=>?_)
 ·obtain⟨_,_,_,_,_,_,_,_,_,rfl,_⟩:=h
  rfl
 obtain⟨lc,l,ls,ws,us,sv,W,rs,ss,rfl,hlc,hws,wlen,sm,hl,hrs,hlen,hls,hsv,slen,spos,k⟩:=h
 refine⟨_,(ai (jC (i:=3) dE.nd rfl (Or.inl rfl) (k:=1) (Nc:=["row"]) (js:=[]) (show bZ (aI jt) ["waits_by_cards","deeds","stores","waits","puts_by_store","gets_by_store","store","length","puts","gets","put","get","count","awaited"] _ 1 ["row"] []from bZ.mk rfl (by decide +kernel) (by decide +kernel) (by decide +kernel) rfl (by decide +kernel)) rfl (cT (pq 0)) (fun _ _ _ _ _=>(aM (i:=0) (show List.Nodup (["row"]:List Str)from by decide +kernel) rfl (Or.inl rfl))) (fun _ _ _ _ _=>mH) (fun _ _ _ _ _=>(eE (yN (K:=K) rfl) rfl T.z_list PyProof.Rows.Boot.«list» (aa (pq 0) ae))))
  (ai (aq (i:=4) dE.nd rfl (Or.inl rfl) (aC (tq T) (hr.mono Qk) rfl T.m_numbers_by_store T.F_numbers_by_store.kp T.b_numbers_by_store .nil aD (aa (pq 1) (aa (eV rfl T.c_INTO T.r_INTO) ae))))
  (ai (aq (i:=5) dE.nd rfl (Or.inl rfl) (aC (tq T) (hr.mono Qk) rfl T.m_numbers_by_store T.F_numbers_by_store.kp T.b_numbers_by_store .nil aD (aa (pq 1) (aa (eV rfl T.c_OUT_OF T.r_OUT_OF) ae))))
  (ai (bU PassesOwn.never rfl (cT (pq 2)) (dR rfl (bW (aM (i:=6) dE.nd rfl (Or.inl rfl)) (bW (aM (i:=7) dE.nd rfl (Or.inl rfl)) dH)))
  (ai (aq (i:=8) dE.nd rfl (Or.inl rfl) (gA hr.one (pq 4) (pq 6) (bc ae) ⟨rfl,rfl,rfl,rfl⟩))
  (ai (aq (i:=9) dE.nd rfl (Or.inl rfl) (gA hr.one (pq 5) (pq 6) (bc ae) ⟨rfl,rfl,rfl,rfl⟩))
  (ai (bU PassesOwn.never rfl (zi rfl T.z_zip (aa (pq 8) (aa (pq 9) ae))) (dR rfl (bW (aM (i:=10) dE.nd rfl (Or.inl rfl)) (bW (aM (i:=11) dE.nd rfl (Or.inl rfl)) dH)))
  (ak (bC (bF qh qv qw ck (aj aF (pq 3) (pq 11) (fun _ _=>rfl)) (aa (be (aa (pq 10) (aa aQ (aa (pq 6) ae)))) ae)))))
  (ak (bU PassesOwn.never rfl (jI rfl T.z_enumerate (aa (fU kN (pq 8) (eJ (pq 7)) hX) ae)) (dR rfl (bW (aM (i:=12) dE.nd rfl (Or.inl rfl)) (bW (aM (i:=10) dE.nd rfl (Or.inl rfl)) dH)))
  (ai (aq (i:=13) dE.nd rfl (Or.inl rfl) (gz (aA iL (pq 12) (ba c9 rfl T.z_len PySem.boot_len (aa (pq 9) ae)) (az _)) (aj aF (pq 9) (pq 12) (fun _ _=>rfl)) (ao iK (ba c9 rfl T.z_len PySem.boot_len (aa (pq 1) ae)) ac)))
  (ak (bC (bF qh qv qw ck (aj aF (pq 3) (pq 10) (fun _ _=>rfl)) (aa (be (aa (pq 13) (aa aQ (aa (pq 6) ae)))) ae)))))))))))
  (ak (aE (pq 3))))))),?_⟩
 have big:(4000000:Nat)<sizeLine:=Qk
 have wl:=hws.len
 refine⟨_,rfl,lc,rfl,⟨_,SqL.of hlc⟩,?_⟩
 refine C5 (xs:=ws) (fun i ys σ H2=>(∃v,σ=[v])/\a9 H H2/\∃as,ys=as.map V.ref/\RWM H2 as (W.take i)/\∀p∈as,H p=none) ⟨⟨none,rfl⟩,a9.refl _,[],rfl,⟨List.nodup_nil,rfl,fun i p es h=>by simp at h⟩,fun p hp=>nomatch hp⟩ ?_ (by omega) ?_ ?_ ?_
 ·rintro i ys σ H2 hi ⟨_,_,as,rfl,rm,_⟩
  rw[qa,rm.len,qK]
  omega
 ·rintro i ys σ H2 ⟨_,s2,_⟩
  exact SqL.of (s2 _ _ hlc)
 ·rintro i x ys σ H2 hx ⟨⟨v,rfl⟩,s2,as,rfl,rm,fr⟩
  obtain⟨p,us',es,rfl,h1,h2,h3⟩:=hws.at i x hx
  refine⟨_,rfl,p,us',rfl,.inl (SqL.of (s2 _ _ h1)),fun q hq=>?_⟩
  refine⟨⟨_,rfl⟩,s2.trans (a9.new hq _),as++[q],by simp,?_,fun p' hp'=>?_⟩
  ·rw[qr,h3]
   exact rm.push hq (h2.same s2)
  ·rcases qi.mp hp' with m|m
   ·exact fr p' m
   ·rw[qS.mp m]
    exact s2.free hq
 rintro ys σ2 H2 ⟨_,s2,as,rfl,rm,fr⟩ lw hlw
 rw[wl,qH]at rm
 have s3:a9 H2 (upd H2 lw (.lst (as.map V.ref))):=a9.new hlw _
 have hw3:(upd H2 lw (.lst (as.map V.ref))) lw=some (.lst (as.map V.ref)):=ag
 have flw:H lw=none:=s2.free hlw
 have nlw:lw∉as:=fun m=>by
  obtain⟨u,e⟩:=rm.there m
  rw[hlw]at e
  cases e
 have rm3:=rm.same s3
 have sH3:=s2.trans s3
 generalize upd H2 lw (.lst (as.map V.ref))=H3 at s3 hw3 rm3 sH3 ⊢
 refine⟨_,rfl,l,us,rs,3,Row.into,rfl,sH3 _ _ hl,hrs.same sH3,hlen,.inl ⟨rfl,rfl⟩,fun H4 dp kvs1 s4 hdp rn1 fr1=>?_⟩
 refine⟨_,rfl,l,us,rs,4,Row.outof,rfl,s4 _ _ (sH3 _ _ hl),(hrs.same sH3).same s4,hlen,.inr ⟨rfl,rfl⟩,fun H5 dg kvs2 s5 hdg rn2 fr2=>?_⟩
 have s35:=s4.trans s5
 have rm5:=rm3.same s35
 have sm5:=sm
 have SH:a9 H (cy as H5):=uN (sH3.trans s35) fr
 have kw5:cy as H5 lw=some (.lst (as.map V.ref)):=gJ (s35 _ _ hw3) nlw
 have ndk:∀(p:Addr) (kvs:List (Key×V)),H5 p=some (.dK kvs)->p∉as:=fun p kvs hp m=>by
  obtain⟨u,e⟩:=rm5.there m
  rw[hp]at e
  cases e
 have kp5:cy as H5 dp=some (.dK kvs1):=gJ (s5 _ _ hdp) (ndk _ _ (s5 _ _ hdp))
 have kg5:cy as H5 dg=some (.dK kvs2):=gJ hdg (ndk _ _ hdg)
 have nin:∀p,H3 p=none->p∉as:=fun p hp m=>by
  obtain⟨u,e⟩:=rm3.there m
  rw[hp]at e
  cases e
 have rp5:RN (cy as H5) kvs1 (ap Row.into rs):=(rn1.same s5).cut fun q p h=>nin p (fr1 q p h)
 have rg5:RN (cy as H5) kvs2 (ap Row.outof rs):=rn2.cut fun q p h=>nin p (s4.free (fr2 q p h))
 have off:∀p∈as,cy as H5 p=none:=fun p m=>uO m
 have sB5:a9 (cy as H5) H5:=uM as H5
 generalize cy as H5=Hb at SH kw5 kp5 kg5 rp5 rg5 off sB5
 refine⟨_,rfl,ls,rfl,⟨_,SqL.of (sB5 _ _ (SH _ _ hls))⟩,?_⟩
 refine dw (K:=K) (a:=ls) (xs:=sv) (fun j σ H6=>∃v6 v7 v8 v9 v10 v11 v12 v13,σ=[some (.ref lc),some (.ref l),some (.ref ls),some (.ref lw),some (.ref dp),some (.ref dg),v6,v7,v8,v9,v10,v11,v12,v13]/\a9 Hb H6/\RWM H6 as (cX rs ss W j)/\Sm (cX rs ss W j) (8000+2000 * j)) ⟨_,_,_,_,_,_,_,_,rfl,sB5,rm5,sm5⟩ ?_ ?_ ?_
 ·rintro j σ H6 _ ⟨_,_,_,_,_,_,_,_,_,s6,_⟩
  exact SqL.of (s6 _ _ (SH _ _ hls))
 ·rintro j x σ H6 hx ⟨v6,v7,v8,v9,v10,v11,v12,v13,rfl,s6,rm6,sm6⟩
  obtain⟨ps,q,n,rfl,hs,hps⟩:=hsv.at j x hx
  have n0:0<=n:=spos _ (qz hs)
  have jl:=(qg.mp hs).1
  refine⟨ps,_,rfl,SqT.of (s6 _ _ (SH _ _ hps)),rfl,_,_,rfl,_,_,rfl,rfl,?_⟩
  refine⟨_,rfl,dp,rfl,.inl ⟨kvs1,.inl (s6 _ _ kp5)⟩,_,rfl,qt _,fun l1 f1=>?_⟩
  have t7:a9 H6 (upd H6 l1 (.lst [])):=a9.new f1 _
  have g1:(upd H6 l1 (.lst [])) l1=some (.lst []):=ag
  generalize upd H6 l1 (.lst [])=H7 at t7 g1 ⊢
  refine⟨_,df.k (k:=.inr q) (t7 _ _ (s6 _ _ kp5)),?_⟩
  have gone:∀(x:Addr),H6 x=none->x∉as:=fun x hx m=>by
   obtain⟨u,e⟩:=rm6.there m
   rw[hx]at e
   cases e
  have held:∀(x:Addr) (o:HO),Hb x=some o->x∉as:=fun x o hx m=>by
   rw[off x m]at hx
   cases hx
  obtain⟨pp,e1,h1,n1⟩:∃pp,(aK kvs1 (.inr q)).getD (.ref l1)=.ref pp/\H7 pp=some (.lst ((ap Row.into rs q).map V.int))/\pp∉as:=by
   rcases rp5.at_ q with⟨b,c⟩|⟨p,b,c⟩
   ·rw[b,c]
    exact⟨l1,rfl,g1,gone _ f1⟩
   ·rw[b]
    exact⟨p,rfl,t7 _ _ (s6 _ _ c),held _ _ c⟩
  rw[e1]
  refine⟨_,rfl,dg,rfl,.inl ⟨kvs2,.inl (t7 _ _ (s6 _ _ kg5))⟩,_,rfl,qt _,fun l2 f2=>?_⟩
  have t8:a9 H7 (upd H7 l2 (.lst [])):=a9.new f2 _
  have g2:(upd H7 l2 (.lst [])) l2=some (.lst []):=ag
  generalize upd H7 l2 (.lst [])=H8 at t8 g2 ⊢
  refine⟨_,df.k (k:=.inr q) (t8 _ _ (t7 _ _ (s6 _ _ kg5))),?_⟩
  obtain⟨gg,e2,h2,n2⟩:∃gg,(aK kvs2 (.inr q)).getD (.ref l2)=.ref gg/\H8 gg=some (.lst ((ap Row.outof rs q).map V.int))/\gg∉as:=by
   rcases rg5.at_ q with⟨b,c⟩|⟨p,b,c⟩
   ·rw[b,c]
    exact⟨l2,rfl,g2,gone _ (t7.free f2)⟩
   ·rw[b]
    exact⟨p,rfl,t8 _ _ (t7 _ _ (s6 _ _ c)),held _ _ c⟩
  rw[e2]
  have s8:=(s6.trans t7).trans t8
  have rm8:=rm6.same (t7.trans t8)
  have hs':ss.getD j ("",0)=(q,n):=by rw[qk,hs];rfl
  have fin:∀W',W'=gP rs (q,n) (cX rs ss W j)->W'=cX rs ss W (j+1):=fun W' e=>by rw[e,cX,hs']
  have ml:∀(f:Row->Option Str),(ap f rs q).length<=1000:=fun f=>qy (tI f rs q) hlen
  have mi:=ml Row.into
  have mo:=ml Row.outof
  have mem1:∀(k:Nat) (x:Int),(ap Row.into rs q)[k]?=some x->0<=x/\x.toNat<as.length:=fun k x hx=>by
   obtain⟨a1,a2,_⟩:=jO hx
   exact⟨a1,by rw[rm.len,wlen];exact a2⟩
  have mem2:∀(k:Nat) (x:Int),(ap Row.outof rs q)[k]?=some x->0<=x/\x.toNat<as.length:=fun k x hx=>by
   obtain⟨a1,a2,_⟩:=jO hx
   exact⟨a1,by rw[rm.len,wlen];exact a2⟩
  unfold gP at fin
  generalize cX rs ss W j=Wj at rm8 sm6 fin
  generalize ap Row.into rs q=ips at h1 fin mi mem1
  generalize ap Row.outof rs q=igs at h2 fin mo mem2
  have sC:=uM as H8
  have SC:a9 Hb (cy as H8):=uN s8 off
  have kp8:cy as H8 pp=some (.lst (ips.map V.int)):=gJ (t8 _ _ h1) n1
  have kg8:cy as H8 gg=some (.lst (igs.map V.int)):=gJ h2 n2
  have offC:∀p∈as,cy as H8 p=none:=fun p m=>uO m
  generalize cy as H8=Hc at sC SC kp8 kg8 offC
  have step:∀(H9:Hp) (Wk:List (List Wat)) (B:Nat) (g:Int),a9 Hc H9->RWM H9 as Wk->Sm Wk B->B<=300000->0<=g->g.toNat<as.length->∃p us,atI (as.map V.ref) g=some (.ref p)/\p∈as/\H9 p=some (.lst us)/\us.length<sizeLine/\∀(t:Addr) (e:Wat) (H10:Hp),a9 H9 H10->H10 t=some (eQ e)->RWM (upd H10 p (.lst (us++[.ref t]))) as (eP Wk g.toNat e)/\a9 Hc (upd H10 p (.lst (us++[.ref t]))):=by
   intro H9 Wk B g s9 rm9 sm9 b9 g0 gl
   have hp:as[g.toNat]?=some as[g.toNat]:=qd gl
   have gw:g.toNat<Wk.length:=by rw[<- rm9.len];exact gl
   have hw:Wk[g.toNat]?=some Wk[g.toNat]:=qd gw
   obtain⟨us',c,d⟩:=rm9.at_ _ _ _ hp hw
   have ll:=sm9 _ _ hw
   refine⟨as[g.toNat],us',Cz g0 (by rw[qE,hp];rfl),List.getElem_mem gl,c,by rw[d.len];omega,fun t e H10 s10 ht=>⟨(rm9.same s10).add hp (s10 _ _ c) ht,a9.over (s9.trans s10) (offC _ (List.getElem_mem gl))⟩⟩
  have kwC:Hc lw=some (.lst (as.map V.ref)):=SC _ _ kw5
  refine⟨_,rfl,_,rfl,false,false,pp,gg,_,_,rfl,SqL.of (t8 _ _ h1),SqL.of h2,?_⟩
  refine Bv (K:=K) (b1:=false) (b2:=false) (l1:=pp) (l2:=gg) (xs:=ips.map V.int) (ys:=igs.map V.int) (fun k σ H9=>∃v10 v11 v12 v13,σ=[some (.ref lc),some (.ref l),some (.ref ls),some (.ref lw),some (.ref dp),some (.ref dg),some (.str q),some (.int n),some (.ref pp),some (.ref gg),v10,v11,v12,v13]/\a9 Hc H9/\RWM H9 as (dB q ips igs Wj k)/\Sm (dB q ips igs Wj k) (8000+2000 * j+k)/\k<=1000) ⟨_,_,_,_,rfl,sC,rm8,sm6,qt _⟩ ?_ ?_ ?_
  ·rintro k σ H9 ⟨_,_,_,_,_,s9,_⟩
   exact⟨SqL.of (s9 _ _ kp8),SqL.of (s9 _ _ kg8)⟩
  ·rintro k x y σ H9 pt hx hy ⟨v10,v11,v12,v13,rfl,s9,rm9,sm9,kb⟩ hpt
   rw[qE]at hx hy
   cases ex:ips[k]? with
   |none=>rw[ex]at hx;cases hx
   |some pv=>
   cases ey:igs[k]? with
   |none=>rw[ey]at hy;cases hy
   |some gv=>
   rw[ex]at hx
   rw[ey]at hy
   obtain rfl:V.int pv=x:=qJ hx
   obtain rfl:V.int gv=y:=qJ hy
   obtain⟨g0,gl⟩:=mem2 k gv ey
   have kl:=(qg.mp ex).1
   obtain⟨p,us',ea,_,hp,ul,add⟩:=step H9 _ _ gv s9 rm9 sm9 Qo g0 gl
   have tp:a9 H9 (upd H9 pt (.tup [.int pv,.int gv])):=a9.new hpt _
   have hpt3:(upd H9 pt (.tup [.int pv,.int gv])) pt=some (.tup [.int pv,.int gv]):=ag
   generalize upd H9 pt (.tup [.int pv,.int gv])=H10 at tp hpt3 ⊢
   refine⟨pt,_,rfl,SqT.of hpt3,rfl,_,_,rfl,_,_,rfl,rfl,?_⟩
   refine⟨_,rfl,_,rfl,lw,_,_,_,rfl,rfl,SqL.of (tp _ _ (s9 _ _ kwC)),ea,?_⟩
   refine⟨.inl ⟨rfl,_,SqL.of (tp _ _ hp)⟩,_,rfl,_,rfl,ln3,fun t ft=>?_⟩
   refine⟨p,us',_,rfl,rfl,a9.new ft _ _ _ (tp _ _ hp),ul,?_⟩
   obtain⟨r1,r2⟩:=add t (pv,"thing",q) _ (tp.trans (a9.new ft _)) ag
   have et:dB q ips igs Wj (k+1)=eP (dB q ips igs Wj k) gv.toNat (pv,"thing",q):=by rw[dB,qk,ey,qk,ex];rfl
   refine⟨_,_,_,_,rfl,r2,by rw[et];exact r1,by rw[et];exact sm9.add,Qo⟩
  ·rintro σ H9 ⟨v10,v11,v12,v13,rfl,s9,rm9,sm9,kb⟩
   rw[qa,qa]at rm9 sm9
   generalize dB q ips igs Wj (min ips.length igs.length)=W9 at rm9 sm9 fin
   refine⟨_,rfl,_,rfl,?_⟩
   refine⟨n,rfl,pp,_,rfl,SqL.of (s9 _ _ kp8),fun lx fx=>?_⟩
   rw[C1 ips n0]
   have nlx:lx∉as:=fun m=>by
    obtain⟨u,e⟩:=rm9.there m
    rw[fx]at e
    cases e
   have tx:a9 H9 (upd H9 lx (.lst ((ips.drop n.toNat).map V.int))):=a9.new fx _
   have hlx:(upd H9 lx (.lst ((ips.drop n.toNat).map V.int))) lx=some (.lst ((ips.drop n.toNat).map V.int)):=ag
   have mem3:∀(k:Nat) (x:Int),(ips.drop n.toNat)[k]?=some x->0<=x/\x.toNat<as.length:=fun k x hx=>mem1 _ x (by rw[List.getElem?_drop]at hx;exact hx)
   have mc:(ips.drop n.toNat).length<=1000:=by rw[qY];omega
   generalize ips.drop n.toNat=ics at tx hlx mem3 mc fin ⊢
   have rmx:=rm9.same tx
   have sx:=s9.trans tx
   generalize upd H9 lx (.lst (ics.map V.int))=Hx at tx hlx rmx sx ⊢
   refine⟨lx,_,rfl,SqL.of hlx,?_⟩
   refine k7 (K:=K) (l:=lx) (xs:=ics.map V.int) (fun k σ H10=>∃v10 v12 v13,σ=[some (.ref lc),some (.ref l),some (.ref ls),some (.ref lw),some (.ref dp),some (.ref dg),some (.str q),some (.int n),some (.ref pp),some (.ref gg),v10,v11,v12,v13]/\a9 Hc H10/\H10 lx=some (.lst (ics.map V.int))/\RWM H10 as (dk q rs.length ics igs W9 k)/\Sm (dk q rs.length ics igs W9 k) (8000+2000 * j+1000+k)/\k<=1000) ⟨_,_,_,rfl,sx,hlx,rmx,sm9.mono Qo,qt _⟩ ?_ ?_ ?_
   ·rintro k σ H10 ⟨_,_,_,_,_,h10,_⟩
    exact SqL.of h10
   ·rintro k x σ H10 pt hx ⟨v10,v12,v13,rfl,s10,hx10,rm10,sm10,kb⟩ hpt
    rw[qE]at hx
    cases ex:ics[k]? with
    |none=>rw[ex]at hx;cases hx
    |some pv=>
    rw[ex]at hx
    obtain rfl:V.int pv=x:=qJ hx
    obtain⟨g0,gl⟩:=mem3 k pv ex
    have kl:=(qg.mp ex).1
    obtain⟨p,us',ea,pa,hp,ul,add⟩:=step H10 _ _ pv s10 rm10 sm10 Qo g0 gl
    have tp:a9 H10 (upd H10 pt (.tup [.int k,.int pv])):=a9.new hpt _
    have hpt3:(upd H10 pt (.tup [.int k,.int pv])) pt=some (.tup [.int k,.int pv]):=ag
    generalize upd H10 pt (.tup [.int k,.int pv])=H11 at tp hpt3 ⊢
    refine⟨pt,_,rfl,SqT.of hpt3,rfl,_,_,rfl,_,_,rfl,rfl,?_⟩
    have gk:H11 gg=some (.lst (igs.map V.int)):=tp _ _ (s10 _ _ kg8)
    have lk:H11 l=some (.lst us):=tp _ _ (s10 _ _ (SC _ _ (SH _ _ hl)))
    have er:∀aw:Int,aw=awaited rs.length igs k->dk q rs.length ics igs W9 (k+1)=eP (dk q rs.length ics igs W9 k) pv.toNat (aw,"room",q):=fun aw e=>by rw[dk,qk,ex,e];rfl
    have ul2:=hrs.len
    have fin2:∀(aw:Int) (t:Addr),H11 t=none->aw=awaited rs.length igs k->a9 Hc (upd (upd H11 t (eQ (aw,"room",q))) p (.lst (us'++[.ref t])))/\(upd (upd H11 t (eQ (aw,"room",q))) p (.lst (us'++[.ref t]))) lx=some (.lst (ics.map V.int))/\RWM (upd (upd H11 t (eQ (aw,"room",q))) p (.lst (us'++[.ref t]))) as (dk q rs.length ics igs W9 (k+1))/\Sm (dk q rs.length ics igs W9 (k+1)) (8000+2000 * j+1000+(k+1)):=fun aw t ft e=>by
     obtain⟨r1,r2⟩:=add t (aw,"room",q) _ (tp.trans (a9.new ft _)) ag
     refine⟨r2,?_,by rw[er aw e];exact r1,by rw[er aw e];exact sm10.add⟩
     have npx:lx≠p:=fun y=>nlx (by rw[y];exact pa)
     rw[af npx]
     exact a9.new ft _ _ _ (tp _ _ hx10)
    refine⟨_,rfl,_,rfl,gg,_,rfl,.inl (SqL.of gk),_,_,rfl,rfl,_,rfl,?_⟩
    rw[qa]
    by_cases z:k<igs.length
    ·refine bx (decide_eq_true Qo) ?_
     refine⟨_,rfl,_,rfl,gg,_,k,.int igs[k],rfl,rfl,SqL.of gk,bp (by rw[qE,qd z];rfl),?_⟩
     refine⟨_,rfl,_,rfl,lw,_,_,_,rfl,rfl,SqL.of (tp _ _ (s10 _ _ kwC)),ea,.inl ⟨rfl,_,SqL.of (tp _ _ hp)⟩,_,rfl,_,rfl,ln3,fun t ft=>?_⟩
     refine⟨p,us',_,rfl,rfl,a9.new ft _ _ _ (tp _ _ hp),ul,?_⟩
     obtain⟨a1,a2,a3,a4⟩:=fin2 igs[k] t ft (by unfold awaited;rw[Q0 z,qk,qd z];rfl)
     exact⟨_,_,_,rfl,a1,a2,a3,a4,Qo⟩
    ·refine aB (decide_eq_false Qo) ?_
     refine⟨_,rfl,l,_,rfl,.inl (SqL.of lk),_,_,rfl,rfl,?_⟩
     refine⟨_,rfl,_,rfl,lw,_,_,_,rfl,rfl,SqL.of (tp _ _ (s10 _ _ kwC)),ea,.inl ⟨rfl,_,SqL.of (tp _ _ hp)⟩,_,rfl,_,rfl,ln3,fun t ft=>?_⟩
     refine⟨p,us',_,rfl,rfl,a9.new ft _ _ _ (tp _ _ hp),ul,?_⟩
     obtain⟨a1,a2,a3,a4⟩:=fin2 ((us.length:Int)-1) t ft (by unfold awaited;rw[qZ z,ul2])
     exact⟨_,_,_,rfl,a1,a2,a3,a4,Qo⟩
   ·rintro σ H10 ⟨v10,v12,v13,rfl,s10,hx10,rm10,sm10,kb⟩
    rw[qa]at rm10 sm10
    have fe:=fin _ rfl
    rw[fe]at rm10 sm10
    exact⟨_,_,_,_,_,_,_,_,rfl,SC.trans s10,rm10,sm10.mono Qo⟩
 ·rintro σ H6 ⟨v6,v7,v8,v9,v10,v11,v12,v13,rfl,s6,rm6,sm6⟩
  rw[hsv.len]at rm6
  exact⟨_,rfl,k _ _ _ (SH.trans s6) (s6 _ _ kw5) rm6.rwl⟩
theorem zT (T:Tx P w K mg a):aR P w K mg base CX0 3 a.waits_of a.fd_waits_of ["deeds","stores"] pD:=by
 refine T.F_waits_of.ok xX (fun vs H Q E h=>?_) (fun cdv A outer s H vs Q E hr h=>?_)
 ·obtain⟨_,_,_,_,_,_,rfl,_⟩:=h
  rfl
 obtain⟨l,ls,us,sv,rs,ss,rfl,hl,hrs,hlen,small,hls,hsv,slen,spos,k⟩:=h
 refine⟨_,(ak (aE (aC (zV T) (hr.mono Qk) rfl T.m_waits_behind T.F_waits_behind.kp T.b_waits_behind .nil aD (aa (aC (zU T) (hr.mono Qk) rfl T.m_waits_for_cards T.F_waits_for_cards.kp T.b_waits_for_cards .nil aD (aa (pq 0) ae)) (aa (pq 0) (aa (pq 1) ae)))))),?_⟩
 refine⟨_,rfl,l,us,rs,rfl,hl,hrs,hlen,small,fun H1 lw ws s1 _ hw rw1=>?_⟩
 refine⟨_,rfl,_,rfl,lw,l,ls,ws,us,sv,_,rs,ss,rfl,hw,rw1,j7 rs _ (qf _),om small _,s1 _ _ hl,hrs.same s1,hlen,s1 _ _ hls,hsv.same s1,slen,spos,fun H2 l2 w2 s2 h2 r2=>?_⟩
 exact k _ _ _ (s1.trans s2) h2 r2
theorem BI {rs:List Row}{ss:List (Str×Int)}{ln:Str->Int}{i:Nat}{r:Row}(h:rs[i]?=some r) (one:dA r) (nd:(ss.map (·.1)).Nodup) (pos:∀s∈ss,0<=s.2) (hln:∀s∈ss,ln s.1=s.2) (h1:∀q,r.into=some q->∃n,(q,n)∈ss) (h2:∀q,r.outof=some q->∃n,(q,n)∈ss) (fed:∀q,r.outof=some q->(ap Row.outof (rs.take i) q).length<(ap Row.into rs q).length):
 (cX rs ss (cF rs rs.length) ss.length)[i]?=some (dU rs ln i r):=by
 rw[vm h _ fed _ (qf _),qH,vx h _ (qg.mp h).1 (qf _)]
 show some (_++_)=_
 congr 1
 unfold dU
 rw[qN]
 congr 1
 cases eo:r.outof with
 |none=>
  have e1:fu rs i r=[]:=by unfold fu;rw[eo]
  rw[e1,List.nil_append]
  cases ei:r.into with
  |none=>
   have e2:eI rs ln i r=[]:=by unfold eI;rw[ei]
   rw[e2,List.flatMap_eq_nil_iff]
   intro s _
   unfold fw fI
   rw[eo,ei]
   simp
  |some q=>
   obtain⟨n,m⟩:=h1 q ei
   rw[nH nd m fun s _ hs=>by
    unfold fw fI
    rw[eo,ei]
    simp[Ne.symm hs]]
   have n0:=pos _ m
   have el:=hln _ m
   unfold fw fI eI gh
   rw[eo,ei]
   show([]:List Wat)++(if some q=some q/\n.toNat<=(ap Row.into (rs.take i) q).length then _ else _)=(if 0<=((ap Row.into (rs.take i) q).length:Int)-ln q then _ else _)
   have el':ln q=n:=el
   rw[List.nil_append,el']
   have n0':0<=n:=n0
   by_cases z:n.toNat<=(ap Row.into (rs.take i) q).length
   ·rw[Q0 ⟨rfl,z⟩,Q0 Qo,show(((ap Row.into (rs.take i) q).length:Int)-n).toNat=(ap Row.into (rs.take i) q).length-n.toNat by omega]
   ·rw[qZ (fun y=>z y.2),qZ Qo]
 |some q=>
  have ei:r.into=none:=by
   rcases one with h|h
   ·exact h
   ·rw[eo]at h;cases h
  have e2:eI rs ln i r=[]:=by unfold eI;rw[ei]
  rw[e2,qx]
  obtain⟨n,m⟩:=h2 q eo
  rw[nH nd m fun s _ hs=>by
   unfold fw fI
   rw[eo,ei]
   simp[Ne.symm hs]]
  unfold fw fI fu
  rw[eo,ei]
  simp
theorem Aa (T:Tx P w K mg a):aR P w K mg base CX0 1 a._law_whole a.fd__law_whole ["_law_found"] pV:=by
 refine T.F__law_whole.ok y6 (fun vs H Q E h=>?_) (fun cdv A outer s H vs Q E hr h=>?_)
 ·obtain⟨_,rfl,_⟩:=h
  rfl
 obtain⟨i,rfl,k⟩:=h
 refine⟨_,(ak (aE (gB (ba fO rfl T.z_isinstance PyProof.Rows.Boot.«isinstance» (aa (pq 0) (aa (fV (v:=.ty "int") rfl T.z_int PyProof.Rows.Boot.«int» rfl) ae))) (iT (zo (ba fO rfl T.z_isinstance PyProof.Rows.Boot.«isinstance» (aa (pq 0) (aa (fV (v:=.ty "bool") rfl T.z_bool PyProof.Rows.Boot.«bool» rfl) ae)))))))),?_⟩
 refine⟨_,rfl,_,_,_,true,rfl,.int i,rfl,_,rfl,bx rfl ?_⟩
 exact⟨_,rfl,_,_,_,false,rfl,.int i,rfl,_,rfl,k⟩
theorem AA {H:Hp}{a b:Addr}{o:HO}(h:upd H a o b=none):H b=none:=by
 by_cases z:b=a
 ·rw[z,ag]at h;cases h
 ·rw[af z]at h;exact h
theorem xU {A' B':TS}{D:eF}{σ:St}{H:Hp}(Pv:St->Hp->Prop) (hb:∀σ' H',Pv σ' H'->B' D σ' H') (ha:∀N:St->Hp->Prop,(∀σ' H',Pv σ' H'->N σ' H')->A' { D with nx:=N } σ H):oQ A' B' D σ H:=ha _ hb
theorem uT (rs:List Row) (r:Row) (c:Str):cnO (rs++[r]) c=cnO rs c+r.owns.count c:=by
 unfold cnO
 rw[qU,List.count_append,List.flatMap_singleton]
theorem RCs.keep {H H':Hp}{rs:List Row}(e:∀c xs,H c=some (.tup xs)->H' c=some (.tup xs)):∀{vs:List V}{cs:List Str},RCs H rs vs cs->RCs H' rs vs cs
 |_,_,.nil=>.nil
 |_,_,.cons h r=>.cons (e _ _ h) (RCs.keep e r)
theorem RCs.snoc {H:Hp}{rs:List Row}{p:Addr}{c:Str}(h:H p=some (.tup [.str c,.int (cnO rs c)])):∀{vs:List V}{cs:List Str},RCs H rs vs cs->RCs H rs (vs++[.ref p]) (cs++[c])
 |_,_,.nil=>.cons h .nil
 |_,_,.cons h' r=>.cons h' (RCs.snoc h r)
theorem RCs.len {H:Hp}{rs:List Row}:∀{vs:List V}{cs:List Str},RCs H rs vs cs->vs.length=cs.length
 |_,_,.nil=>rfl
 |_,_,.cons _ r=>congrArg (·+1) (RCs.len r)
theorem RCs.at {H:Hp}{rs:List Row}:∀{vs:List V}{cs:List Str},RCs H rs vs cs->∀(i:Nat) (v:V),vs[i]?=some v->∃p c,v=.ref p/\H p=some (.tup [.str c,.int (cnO rs c)])
 |_,_,.nil,i,v,h=>by simp at h
 |_,_,.cons (p:=p) (c:=c) a _,0,v,h=>⟨p,c,by simp at h;exact h.symm,a⟩
 |_,_,.cons _ r,i+1,v,h=>RCs.at r i v (by simpa using h)
def RAx (x:Addr) (H:Hp) (rs:List Row) (i:Nat) (r:Row) (v:V):Prop:=∃p l1 l2 u1 u2,l1≠x/\l2≠x/\v=.ref p/\H p=some (.tup [.ref l1,.ref l2])/\H l1=some (.lst u1)/\H l2=some (.lst u2)/\RCs H (rs.take i) u1 r.owns/\RCs H (rs.take i) u2 r.reads
theorem RAx.keep {x:Addr}{H H':Hp}{rs:List Row}{i:Nat}{r:Row}{v:V}(h:RAx x H rs i r v) (e1:∀c xs,H c=some (.tup xs)->H' c=some (.tup xs)) (e2:∀c xs,c≠x->H c=some (.lst xs)->H' c=some (.lst xs)):RAx x H' rs i r v:=by
 obtain⟨p,l1,l2,u1,u2,n1,n2,ev,h1,h2,h3,r1,r2⟩:=h
 exact⟨p,l1,l2,u1,u2,n1,n2,ev,e1 _ _ h1,e2 _ _ n1 h2,e2 _ _ n2 h3,r1.keep e1,r2.keep e1⟩
theorem Am (T:Tx P w K mg a):aR P w K mg base CX0 2 a._law_ahead a.fd__law_ahead ["_law_deeds"] rN:=by
 refine T.F__law_ahead.ok hE (fun vs H Q E h=>?_) (fun cdv A outer s H vs Q E hr h=>?_)
 ·obtain⟨_,_,_,rfl,_⟩:=h
  rfl
 obtain⟨l,us,rs,rfl,hl,hrs,hlen,small,k⟩:=h
 refine⟨_,(ai (aq (i:=1) hE.nd rfl (Or.inr rfl) jJ)
  (ai (aq (i:=2) hE.nd rfl (Or.inl rfl) (bc ae))
  (ai (bU PassesOwn.never rfl (cT (pq 0)) (aM (i:=3) hE.nd rfl (Or.inl rfl))
  (ai (jC (i:=4) hE.nd rfl (Or.inl rfl) (k:=1) (Nc:=["_law_card","_law_many"]) (js:=[1]) (show bZ (aI iH) ["_law_deeds","_law_many","_law_rows","_law_row","_law_owned_here","_law_card"] _ 1 ["_law_card","_law_many"] [1]from bZ.mk rfl (by decide +kernel) (by decide +kernel) (by decide +kernel) rfl (by decide +kernel)) rfl (hZ (aj au (pq 3) ac (fun _ _=>rfl))) (fun _ _ _ _ _=>(aM (i:=0) (show List.Nodup (["_law_card","_law_many"]:List Str)from by decide +kernel) rfl (Or.inl rfl))) (fun _ _ _ _ _=>mH) (fun _ _ _ _ _=>(be (aa (pq 0) (aa (gA hr.one (pq 1) (pq 0) ac ⟨rfl,rfl,rfl,rfl⟩) ae)))))
  (ai (bC (bF qh qv qw ck (pq 2) (aa (be (aa (pq 4) (aa (iU (k:=1) (Nc:=["_law_card","_law_many"]) (js:=[1]) (show bZ (aI iH) ["_law_deeds","_law_many","_law_rows","_law_row","_law_owned_here","_law_card"] _ 1 ["_law_card","_law_many"] [1]from bZ.mk rfl (by decide +kernel) (by decide +kernel) (by decide +kernel) rfl (by decide +kernel)) rfl (hZ (aj au (pq 3) ac (fun _ _=>rfl))) (fun _ _ _ _ _=>(aM (i:=0) (show List.Nodup (["_law_card","_law_many"]:List Str)from by decide +kernel) rfl (Or.inl rfl))) (fun _ _ _ _ _=>mH) (fun _ _ _ _ _=>(be (aa (pq 0) (aa (gA hr.one (pq 1) (pq 0) ac ⟨rfl,rfl,rfl,rfl⟩) ae))))) ae))) ae)))
  (ak (bU PassesOwn.never rfl (hZ (aj au (pq 3) ac (fun _ _=>rfl))) (aM (i:=5) hE.nd rfl (Or.inl rfl))
  (ak (jD (hr.one) (pq 1) (pq 5) (ao bQ (gA hr.one (pq 1) (pq 5) ac ⟨rfl,rfl,rfl,rfl⟩) ac) rfl)))))))
  (ak (aE (pq 2)))))),?_⟩
 have big:(5000000:Nat)<sizeLine:=Qk
 have ul:=hrs.len
 refine fun d hd=>⟨qt _,fun lr hlr=>?_⟩
 have ndr:lr≠d:=fun z=>by rw[z,ag]at hlr;cases hlr
 have hlr0:H lr=none:=AA hlr
 have s1:=(a9.new hd (.dK [])).trans (a9.new hlr (.lst []))
 refine⟨_,rfl,l,rfl,⟨_,SqL.of (s1 _ _ hl)⟩,?_⟩
 refine dw (K:=K) (a:=l) (xs:=us) (fun i σ G=>∃v3 v4 v5 kvs as,σ=[some (.ref l),some (.ref d),some (.ref lr),v3,v4,v5]/\a9 H G/\G d=some (.dK kvs)/\CO kvs (rs.take i)/\kvs.length<=4000 * i/\G lr=some (.lst as)/\as.length=i/\∀j r,j<i->rs[j]?=some r->∃v,as[j]?=some v/\RAx lr G rs j r v) ⟨_,_,_,[],[],rfl,s1,a9.new hlr _ _ _ ag,fun c=>rfl,qf _,ag,rfl,fun j r hj=>absurd hj (Nat.not_lt_zero _)⟩ ?_ ?_ ?_
 ·rintro i σ G _ ⟨_,_,_,_,_,_,s2,_⟩
  exact SqL.of (s2 _ _ hl)
 ·rintro i x σ G hx ⟨v3,v4,v5,kvs,as,rfl,s2,hd2,hc2,kl2,hr2,al2,ra2⟩
  obtain⟨r,hr',px,po,pr,rfl,h1,h2,h3⟩:=hrs.at i x hx
  have il:=(qg.mp hr').1
  obtain⟨sm1,sm2⟩:=small r (qz hr')
  refine⟨_,rfl,px,_,_,_,rfl,rfl,SqT.of (s2 _ _ h1),rfl,po,rfl,⟨_,SqT.of (s2 _ _ h2)⟩,?_⟩
  refine uP (K:=K) (a:=po) (xs:=r.owns.map V.str) (fun j ys σ G2=>(∃v,σ=[v,some (.ref d)])/\a9 G G2/\RCs G2 (rs.take i) ys (r.owns.take j)) ⟨⟨_,rfl⟩,a9.refl _,.nil⟩ ?_ (bu (m:=4000) (by rw[qa];exact sm1)) ?_ ?_ ?_
  ·rintro j ys σ G2 _ ⟨_,_,h⟩
   rw[h.len,qK]
   exact Nat.min_le_left _ _
  ·rintro j ys σ G2 ⟨_,s3,_⟩
   exact SqT.of (s3 _ _ (s2 _ _ h2))
  ·rintro j x ys σ G2 hx ⟨⟨v,rfl⟩,s3,rc⟩
   rw[qE]at hx
   obtain⟨c,hc,rfl⟩:=qP.mp hx
   refine⟨_,rfl,_,rfl,d,rfl,.inl ⟨kvs,.inl (s3 _ _ hd2)⟩,_,rfl,_,df.k (k:=.inr c) (s3 _ _ hd2),?_⟩
   rw[hc2 c]
   refine⟨ln2,fun p hp=>⟨⟨_,rfl⟩,s3.trans (a9.new hp _),?_⟩⟩
   rw[qr,hc]
   exact(rc.keep fun c xs h=>a9.new hp _ _ _ h).snoc ag
  rintro ys σ G2 ⟨_,s3,rc⟩ l1 hl1
  rw[qa,qH]at rc
  have q1:=a9.new hl1 (.lst ys)
  have s4:=s3.trans q1
  have rc1:=rc.keep fun c xs h=>q1 _ _ h
  have hl1':upd G2 l1 (.lst ys) l1=some (.lst ys):=ag
  have n1:l1≠lr:=fun z=>by rw[z,s3 _ _ hr2]at hl1;cases hl1
  generalize upd G2 l1 (.lst ys)=G3 at s4 rc1 hl1' ⊢
  have s24:=s2.trans s4
  refine⟨_,rfl,.inl ⟨rfl,_,SqL.of (s4 _ _ hr2)⟩,_,rfl,_,rfl,px,_,_,_,rfl,rfl,SqT.of (s24 _ _ h1),rfl,pr,rfl,⟨_,SqT.of (s24 _ _ h3)⟩,?_⟩
  refine uP (K:=K) (a:=pr) (xs:=r.reads.map V.str) (fun j ys σ G4=>(∃v,σ=[v,some (.ref d)])/\a9 G3 G4/\RCs G4 (rs.take i) ys (r.reads.take j)) ⟨⟨_,rfl⟩,a9.refl _,.nil⟩ ?_ (bu (m:=4000) (by rw[qa];exact sm2)) ?_ ?_ ?_
  ·rintro j ys σ G4 _ ⟨_,_,h⟩
   rw[h.len,qK]
   exact Nat.min_le_left _ _
  ·rintro j ys σ G4 ⟨_,s5,_⟩
   exact SqT.of (s5 _ _ (s24 _ _ h3))
  ·rintro j x ys σ G4 hx ⟨⟨v,rfl⟩,s5,rc⟩
   rw[qE]at hx
   obtain⟨c,hc,rfl⟩:=qP.mp hx
   have hd4:=s5 _ _ (s4 _ _ hd2)
   refine⟨_,rfl,_,rfl,d,rfl,.inl ⟨kvs,.inl hd4⟩,_,rfl,_,df.k (k:=.inr c) hd4,?_⟩
   rw[hc2 c]
   refine⟨ln2,fun p hp=>⟨⟨_,rfl⟩,s5.trans (a9.new hp _),?_⟩⟩
   rw[qr,hc]
   exact(rc.keep fun c xs h=>a9.new hp _ _ _ h).snoc ag
  rintro ys2 σ G4 ⟨_,s5,rc2⟩ l2 hl2
  rw[qa,qH]at rc2
  have q2:=a9.new hl2 (.lst ys2)
  have n2:l2≠lr:=fun z=>by rw[z,s5 _ _ (s4 _ _ hr2)]at hl2;cases hl2
  refine⟨ln2,fun p hp=>?_⟩
  have q3:=a9.new hp (.tup [.ref l1,.ref l2])
  have s6:=s4.trans (s5.trans (q2.trans q3))
  refine⟨lr,as,.ref p,rfl,rfl,s6 _ _ hr2,Qo,?_⟩
  have e5:∀c o,c≠lr->G c=some o->upd (upd (upd G4 l2 (.lst ys2)) p (.tup [.ref l1,.ref l2])) lr (.lst (as++[.ref p])) c=some o:=fun c o n h=>by rw[af n];exact s6 _ _ h
  have npr:p≠lr:=fun z=>by rw[z,(q2 _ _ (s5 _ _ (s4 _ _ hr2)))]at hp;cases hp
  have new5:RAx lr (upd (upd (upd G4 l2 (.lst ys2)) p (.tup [.ref l1,.ref l2])) lr (.lst (as++[.ref p]))) rs i r (.ref p):=by
   have kt:∀c xs,(upd (upd G4 l2 (.lst ys2)) p (.tup [.ref l1,.ref l2])) c=some (.tup xs)->upd (upd (upd G4 l2 (.lst ys2)) p (.tup [.ref l1,.ref l2])) lr (.lst (as++[.ref p])) c=some (.tup xs):=fun c xs h=>by
    rw[af (fun z=>by rw[z,s6 _ _ hr2]at h;cases h)]
    exact h
   exact⟨p,l1,l2,ys,ys2,n1,n2,rfl,kt _ _ ag,by rw[af n1];exact(s5.trans (q2.trans q3)) _ _ hl1',by rw[af n2];exact q3 _ _ ag,rc1.keep fun c xs h=>kt c xs ((s5.trans (q2.trans q3)) _ _ h),rc2.keep fun c xs h=>kt c xs ((q2.trans q3) _ _ h)⟩
  have hr5:upd (upd (upd G4 l2 (.lst ys2)) p (.tup [.ref l1,.ref l2])) lr (.lst (as++[.ref p])) lr=some (.lst (as++[.ref p])):=ag
  generalize upd (upd (upd G4 l2 (.lst ys2)) p (.tup [.ref l1,.ref l2])) lr (.lst (as++[.ref p]))=G5 at e5 new5 hr5 ⊢
  have hd5:=e5 _ _ ndr.symm hd2
  have s05:a9 H G5:=fun c o h=>e5 c o (fun z=>by rw[z,hlr0]at h;cases h) (s2 c o h)
  have tk:rs.take (i+1)=rs.take i++[r]:=by rw[qr,hr'];rfl
  refine⟨_,rfl,px,_,_,_,rfl,rfl,SqT.of (s05 _ _ h1),rfl,po,rfl,⟨_,SqT.of (s05 _ _ h2)⟩,?_⟩
  refine ux (K:=K) (a:=po) (xs:=r.owns.map V.str) (fun j σ G6=>∃v5 kvs',σ=[some (.ref l),some (.ref d),some (.ref lr),some (.ref px),some (.ref l1),v5]/\(∀c,c≠d->G6 c=G5 c)/\G6 d=some (.dK kvs')/\kvs'.length<=4000 * i+j/\∀c:Str,(aK kvs' (.inr c)).getD (.int 0)=.int ((cnO (rs.take i) c+(r.owns.take j).count c:Nat):Int)) ⟨_,kvs,rfl,fun _ _=>rfl,hd5,kl2,fun c=>hc2 c⟩ ?_ ?_ ?_
  ·rintro j σ G6 _ ⟨v,kvs',_,e6,_⟩
   have pd:po≠d:=fun z=>by rw[z,hd]at h2;cases h2
   exact SqT.of ((e6 po pd).trans (s05 _ _ h2))
  ·rintro j x σ G6 hx ⟨v,kvs',rfl,e6,hd6,kl6,hc6⟩
   rw[qE]at hx
   obtain⟨c,hc,rfl⟩:=qP.mp hx
   have jl:j<r.owns.length:=(qg.mp hc).1
   refine⟨_,rfl,d,rfl,.inl ⟨kvs',.inl hd6⟩,_,rfl,_,df.k (k:=.inr c) hd6,_,_,hc6 c,rfl,?_⟩
   refine⟨_,rfl,_,rfl,d,_,rfl,gj.k (k:=.inr c) hd6 Qo,?_⟩
   refine⟨_,_,rfl,fun c' h=>by rw[af h];exact e6 c' h,ag,qy (eZ _ _ _) Qo,fun c'=>?_⟩
   rw[fq,qr,hc,List.count_append]
   by_cases e:c'=c
   ·subst e
    simp
    omega
   ·have e1:¬ (Sum.inr c':Key)=Sum.inr c:=fun z=>e (Sum.inr.inj z)
    rw[qZ e1,hc6 c']
    have:(some c).toList.count c'=0:=by
     show[c].count c'=0
     rw[List.count_singleton]
     simp[Ne.symm e]
    rw[this]
    rfl
  ·rintro σ G6 ⟨v,kvs',rfl,e6,hd6,kl6,hc6⟩
   rw[qa]at kl6 hc6
   rw[qH]at hc6
   have kt:∀c xs,G5 c=some (.tup xs)->G6 c=some (.tup xs):=fun c xs h=>(e6 c (fun z=>by rw[z,hd5]at h;cases h)).trans h
   have kl:∀c xs,c≠lr->G5 c=some (.lst xs)->G6 c=some (.lst xs):=fun c xs _ h=>(e6 c (fun z=>by rw[z,hd5]at h;cases h)).trans h
   refine⟨_,_,_,kvs',as++[.ref p],rfl,fun c o h=>(e6 c (fun z=>by rw[z,hd]at h;cases h)).trans (s05 c o h),hd6,fun c=>?_,Qo,(e6 lr ndr).trans hr5,by rw[qc,al2];rfl,fun j r2 hj h=>?_⟩
   ·rw[tk,uT]
    exact hc6 c
   ·rcases Nat.lt_or_eq_of_le (Nat.lt_succ_iff.mp hj)with lt|rfl
    ·obtain⟨v,hv,z⟩:=ra2 j r2 lt h
     refine⟨v,by rw[List.getElem?_append_left Qo];exact hv,?_⟩
     have z5:=z.keep (H':=G5) (fun c xs h=>e5 c _ (fun y=>by rw[y,hr2]at h;cases h) h) (fun c xs n h=>e5 c _ n h)
     exact z5.keep kt kl
    ·rw[hr']at h
     cases h
     exact⟨.ref p,by rw[qL Qo,al2,Nat.sub_self];rfl,new5.keep kt kl⟩
 ·rintro σ G ⟨v3,v4,v5,kvs,as,rfl,s2,_,_,_,hr2,al2,ra2⟩
  refine⟨_,rfl,k G lr as s2 hr2 ⟨by rw[al2,ul],fun i r hi h=>?_⟩⟩
  obtain⟨v,hv,p,l1,l2,u1,u2,_,_,z⟩:=ra2 i r Qo h
  exact⟨v,hv,p,l1,l2,u1,u2,z⟩
theorem tP (o:Option Str):nkV o=cJ o:=by cases o<;>rfl
theorem vY (xs:NEs) (k:List NK) (b:Addr) (v:V) (j:List NK):bf (fR xs k b v) j=if j=k then some v else bf xs j:=by
 unfold fR
 split
 ·rename_i h
  have gen:∀ys:NEs,(bf ys k).isSome=true->bf (ys.map fun x=>if x.1=k then(x.1,x.2.1,v)else x) j=if j=k then some v else bf ys j:=by
   intro ys
   induction ys with
   |nil=>intro h;simp[bf]at h
   |cons y r ih=>
    intro h
    by_cases ey:y.1=k
    ·by_cases ej:j=k
     ·subst ej
      simp[bf,List.find?_cons,ey]
     ·have n1:¬ k=j:=fun z=>ej z.symm
      rw[qZ ej]
      have rest:∀zs:NEs,bf (zs.map fun x=>if x.1=k then(x.1,x.2.1,v)else x) j=bf zs j:=by
       intro zs
       induction zs with
       |nil=>rfl
       |cons z s iz=>
        by_cases ez:z.1=k
        ·simp[bf,List.find?_cons,ez,n1]at iz ⊢;exact iz
        ·by_cases e2:z.1=j
         ·simp[bf,List.find?_cons,ez,e2]
          rw[qZ (by rw[<- e2];exact ez)]
          simp[e2]
          exact⟨_,_,rfl⟩
         ·simp[bf,List.find?_cons,ez,e2]at iz ⊢;exact iz
      exact rest (y::r)
    ·have h':(bf r k).isSome=true:=by simpa[bf,List.find?_cons,ey]using h
     have ih:=ih h'
     by_cases e2:y.1=j
     ·have ej:¬ j=k:=fun z=>ey (e2.trans z)
      rw[qZ ej]
      simp[bf,List.find?_cons,ey,e2]
      rw[qZ ej]
      simp[e2]
      exact⟨_,_,rfl⟩
     ·simp[bf,List.find?_cons,ey,e2]at ih ⊢;exact ih
  exact gen xs h
 ·rename_i h
  have h:bf xs k=none:=by
   cases e:bf xs k with
   |none=>rfl
   |some _=>rw[e]at h;simp at h
  have gen:∀ys:NEs,bf ys k=none->bf (ys++[(k,b,v)]) j=if j=k then some v else bf ys j:=by
   intro ys
   induction ys with
   |nil=>
    intro _
    by_cases ej:j=k
    ·subst ej;simp[bf]
    ·have n1:¬ k=j:=fun z=>ej z.symm
     simp[bf,n1,ej]
   |cons y r ih=>
    intro h
    have ey:¬ y.1=k:=fun z=>by simp[bf,List.find?_cons,z]at h
    have h':bf r k=none:=by simpa[bf,List.find?_cons,ey]using h
    have ih:=ih h'
    by_cases e2:y.1=j
    ·have ej:¬ j=k:=fun z=>ey (e2.trans z)
     rw[qZ ej]
     simp[bf,List.find?_cons,e2]
    ·simp only[List.cons_append,bf,List.find?_cons,e2,decide_false]at ih ⊢
     exact ih
  exact gen xs h
theorem Ah (T:Tx P w K mg a):aR P w K mg base CX0 2 a._law_number a.fd__law_number ["_law_deeds"] rD:=by
 refine T.F__law_number.ok iF (fun vs H Q E h=>?_) (fun cdv A outer s H vs Q E hr h=>?_)
 ·obtain⟨_,_,_,rfl,_⟩:=h
  rfl
 obtain⟨l,us,rs,rfl,hl,rr,few,q⟩:=h
 refine⟨_,(ai (aq (i:=1) iF.nd rfl (Or.inl rfl) zu)
  (ai (aq (i:=2) iF.nd rfl (Or.inl rfl) (bc ae))
  (ai (bU PassesOwn.never rfl (cT (pq 0)) (aM (i:=3) iF.nd rfl (Or.inl rfl))
  (ai (aq (i:=4) iF.nd rfl (Or.inl rfl) (be (aa (aj au (pq 3) ac (fun _ _=>rfl)) (aa (aj au (pq 3) ac (fun _ _=>rfl)) ae))))
  (ai (bC (bF qh qv qw ck (pq 2) (aa (sY hr.one (pq 1) (pq 4) ac ⟨rfl,rfl,rfl,rfl⟩) ae)))
  (ak (z9 (hr.one) (pq 1) (pq 4) (ao bQ (sY hr.one (pq 1) (pq 4) ac ⟨rfl,rfl,rfl,rfl⟩) ac) rfl)))))
  (ak (aE (pq 2)))))),?_⟩
 refine fun d hd=>⟨qt _,fun n0 hn0=>?_⟩
 have e0:=(a9.new hd (DNo P w d [])).trans (a9.new hn0 (.lst []))
 have d0:=a9.new hn0 (.lst []) _ _ (ag (H:=H) (a:=d) (o:=DNo P w d []))
 have l0:upd (upd H d (DNo P w d [])) n0 (.lst []) n0=some (.lst []):=ag
 have nn0:H n0=none:=a9.none (a9.new hd (DNo P w d [])) hn0
 have nd0:n0≠d:=fun z=>by rw[z,ag]at hn0;cases hn0
 refine⟨_,rfl,l,rfl,⟨_,SqL.of (e0 _ _ hl)⟩,?_⟩
 refine dw (K:=K) (a:=l) (xs:=us) (fun i σ H2=>∃xs v3 v4,σ=[some (.ref l),some (.ref d),some (.ref n0),v3,v4]/\a9 H H2/\H2 d=some (DNo P w d xs)/\ij H2 xs/\(∀k,(bf xs k).getD (.int 0)=.int (nmR (rs.take i) k:Nat))/\xs.length<=i/\H2 n0=some (.lst ((List.range i).map fun j:Nat=>V.int (bw rs j)))) ⟨[],_,_,rfl,e0,d0,fun x hx=>by simp at hx,fun k=>rfl,qf _,l0⟩ ?_ ?_ ?_
 ·rintro i σ H2 _ ⟨_,_,_,_,s2,_⟩
  exact SqL.of (s2 _ _ hl)
 ·rintro i x σ H2 hx ⟨xs,v3,v4,rfl,s2,hd2,nk2,vk,xl,hn2⟩
  obtain⟨r,hr',px,po,pr,rfl,h1,h2,h3⟩:=rr.at i x hx
  have lt:i<rs.length:=(qg.mp hr').1
  refine⟨_,rfl,px,_,3,_,rfl,rfl,SqT.of (s2 _ _ h1),rfl,_,rfl,px,_,4,_,rfl,rfl,SqT.of (s2 _ _ h1),rfl,ln2,fun kp hkp=>?_⟩
  have e3:=a9.new hkp (.tup [cJ r.into,cJ r.outof])
  have kp3:upd H2 kp (.tup [cJ r.into,cJ r.outof]) kp=some (.tup ((bM r).map nkV)):=by
   rw[ag]
   show _=some (HO.tup [nkV r.into,nkV r.outof])
   rw[tP,tP]
  generalize upd H2 kp (.tup [cJ r.into,cJ r.outof])=H3 at e3 kp3 ⊢
  have hd3:=e3 _ _ hd2
  have hn3:=e3 _ _ hn2
  have nk3:ij H3 xs:=fun x hx=>e3 _ _ (nk2 x hx)
  have s3:=s2.trans e3
  have big:(1001:Nat)<=sizeLine:=Qk
  refine⟨_,rfl,.inl ⟨rfl,_,SqL.of hn3⟩,_,rfl,d,xs,rfl,hd3,_,rfl,xs,bM r,kp,hd3,nk3,rfl,kp3,n0,_,_,rfl,rfl,hn3,bu (m:=1001) (by rw[qa,List.length_range];omega),?_⟩
  rw[vk (bM r)]
  have ntn:∀{b:Addr}{ys:List V},H3 b=some (.tup ys)->b≠n0:=fun h z=>by rw[z,hn3]at h;cases h
  have s4:a9 H (upd H3 n0 (.lst ((List.range i).map (fun j:Nat=>V.int (bw rs j))++[.int (nmR (rs.take i) (bM r):Nat)]))):=a9.over s3 nn0
  have hd4:upd H3 n0 (.lst ((List.range i).map (fun j:Nat=>V.int (bw rs j))++[.int (nmR (rs.take i) (bM r):Nat)])) d=some (DNo P w d xs):=by rw[af nd0.symm];exact hd3
  have t4:∀{b:Addr}{ys:List V},H3 b=some (.tup ys)->upd H3 n0 (.lst ((List.range i).map (fun j:Nat=>V.int (bw rs j))++[.int (nmR (rs.take i) (bM r):Nat)])) b=some (.tup ys):=fun h=>by rw[af (ntn h)];exact h
  have hn4:upd H3 n0 (.lst ((List.range i).map (fun j:Nat=>V.int (bw rs j))++[.int (nmR (rs.take i) (bM r):Nat)])) n0=some (.lst ((List.range (i+1)).map fun j:Nat=>V.int (bw rs j))):=by
   have en:bw rs i=(nmR (rs.take i) (bM r):Nat):=by unfold bw;rw[hr']
   rw[ag,List.range_succ,qO,<- en]
   rfl
  generalize upd H3 n0 (.lst ((List.range i).map (fun j:Nat=>V.int (bw rs j))++[.int (nmR (rs.take i) (bM r):Nat)]))=H4 at s4 hd4 t4 hn4 ⊢
  have nk4:ij H4 xs:=fun x hx=>t4 (nk3 x hx)
  refine⟨_,rfl,d,xs,rfl,hd4,_,rfl,xs,bM r,kp,hd4,nk4,rfl,t4 kp3,(nmR (rs.take i) (bM r):Nat),1,vk (bM r),rfl,_,rfl,_,rfl,d,xs,bM r,kp,rfl,hd4,nk4,rfl,t4 kp3,Qo,?_⟩
  have ntd:∀{b:Addr}{ys:List V},H4 b=some (.tup ys)->b≠d:=fun h z=>by rw[z,hd4]at h;cases h
  refine⟨_,_,_,rfl,a9.over s4 hd,ag,fun x hx=>?_,fun k=>?_,qy (sP _ _ _ _) Qo,by rw[af nd0];exact hn4⟩
  ·have hx':H4 x.2.1=some (.tup (x.1.map nkV)):=by
    unfold fR at hx
    split at hx
    ·obtain⟨y,hy,rfl⟩:=List.mem_map.mp hx
     by_cases e:y.1=bM r
     ·rw[Q0 e];exact nk4 y hy
     ·rw[qZ e];exact nk4 y hy
    ·rcases qi.mp hx with h|h
     ·exact nk4 x h
     ·rw[qS.mp h];exact t4 kp3
   rw[af (ntd hx')]
   exact hx'
  ·have tk:rs.take (i+1)=rs.take i++[r]:=by rw[qr,hr'];rfl
   have en:nmR (rs.take (i+1)) k=nmR (rs.take i) k+if bM r=k then 1 else 0:=by
    unfold nmR
    rw[tk,qO,List.count_append,List.map_singleton,List.count_singleton]
    by_cases e:bM r=k
    ·rw[Q0 e,Q0 (by simpa using e)]
    ·rw[qZ e,qZ (by simpa using e)]
   rw[vY]
   by_cases e:k=bM r
   ·subst e
    rw[Q0 rfl,en,Q0 rfl]
    rfl
   ·rw[qZ e,en,qZ (fun z=>e z.symm),Nat.add_zero]
    exact vk k
 ·rintro σ H2 ⟨xs,v3,v4,rfl,s2,hd2,nk2,vk,xl,hn2⟩
  rw[rr.len]at hn2
  exact⟨_,rfl,q _ n0 s2 nn0 hn2⟩
theorem RCs.at2 {H:Hp}{rs:List Row}:∀{vs:List V}{cs:List Str},RCs H rs vs cs->∀(i:Nat) (v:V),vs[i]?=some v->∃p c,v=.ref p/\cs[i]?=some c/\H p=some (.tup [.str c,.int (cnO rs c)])
 |_,_,.nil,i,v,h=>by simp at h
 |_,_,.cons (p:=p) (c:=c) a _,0,v,h=>⟨p,c,by simp at h;exact h.symm,rfl,a⟩
 |_,_,.cons _ r,i+1,v,h=>RCs.at2 r i v (by simpa using h)
theorem tz (T:Tx P w K mg a):aR P w K mg base CX0 2 a._law_owned a.fd__law_owned ["_law_pairs","_law_card"] rk:=by
 refine T.F__law_owned.ok kS (fun vs H Q E h=>?_) (fun cdv A outer s H vs Q E hr h=>?_)
 ·obtain⟨_,_,_,_,_,rfl,_⟩:=h
  rfl
 obtain⟨l,us,rs,cs,c,rfl,hl,rc,q⟩:=h
 refine⟨_,(ai (bU PassesOwn.never rfl (cT (pq 0)) (dR rfl (bW (aM (i:=2) kS.nd rfl (Or.inl rfl)) (bW (aM (i:=3) kS.nd rfl (Or.inl rfl)) dH)))
  (ak (aP (aA aX (pq 2) (pq 1) (az _)) (ak (aE (pq 3))) aZ)))
  (ak (aE cw))),?_⟩
 refine⟨_,rfl,l,rfl,⟨_,SqL.of hl⟩,?_⟩
 refine dw (K:=K) (a:=l) (xs:=us) (fun i σ H2=>(∃v2 v3,σ=[some (.ref l),some (.str c),v2,v3])/\H2=H/\c∉cs.take i) ⟨⟨_,_,rfl⟩,rfl,by simp⟩ ?_ ?_ ?_
 ·rintro i σ H2 _ ⟨_,rfl,_⟩
  exact SqL.of hl
 ·rintro i x σ H2 hx ⟨⟨v2,v3,rfl⟩,rfl,no⟩
  obtain⟨p,c',rfl,hc',hp⟩:=RCs.at2 rc i x hx
  refine⟨p,_,rfl,SqT.of hp,rfl,_,_,rfl,_,_,rfl,rfl,?_⟩
  refine⟨_,rfl,_,rfl,rfl,_,rfl,?_⟩
  by_cases e:c'=c
  ·subst e
   refine ifE rfl ?_
   refine⟨_,rfl,?_⟩
   rw[Q0 (qz hc')]at q
   exact q
  ·refine ifN (fun z=>e (by injection z)) ⟨⟨_,_,rfl⟩,rfl,?_⟩
   rw[qr,hc']
   intro hm
   rcases qi.mp hm with h|h
   ·exact no h
   ·exact e (qS.mp h).symm
 ·rintro σ H2 ⟨⟨v2,v3,rfl⟩,rfl,no⟩
  rw[rc.len,qH]at no
  rw[qZ no]at q
  exact q
theorem RPr.same {H H':Hp}{us:List V}{ps:List (Str×Str)}(s:a9 H H') (h:RPr H us ps):RPr H' us ps:=h.imp fun v p ⟨t,e,g⟩=>⟨t,e,s _ _ g⟩
theorem RPr.keep {H H':Hp}{us:List V}{ps:List (Str×Str)}(s:∀b xs,H b=some (.tup xs)->H' b=some (.tup xs)) (h:RPr H us ps):RPr H' us ps:=h.imp fun v p ⟨t,e,g⟩=>⟨t,e,s _ _ g⟩
theorem A9 (T:Tx P w K mg a):aR P w K mg base CX0 3 a._law_words a.fd__law_words ["_law_deeds","_law_ahead_here","_law_numbers","_law_lengths","_law_k"] pU:=by
 refine T.F__law_words.ok si (fun vs H Q E h=>?_) (fun cdv A outer s H vs Q E hr h=>?_)
 ·obtain⟨_,_,_,_,_,_,_,_,_,_,_,rfl,_⟩:=h
  rfl
 obtain⟨l,la,lnn,d,us,as,rs,kvs,ln,i,r,rfl,LH,hi,q⟩:=h
 refine⟨_,(ai (jC (i:=5) si.nd rfl (Or.inl rfl) (k:=2) (Nc:=["_law_card","_law_many"]) (js:=[]) (show bZ (aI iG) ["_law_deeds","_law_ahead_here","_law_numbers","_law_lengths","_law_k","_law_words_here"] _ 2 ["_law_card","_law_many"] []from bZ.mk rfl (by decide +kernel) (by decide +kernel) (by decide +kernel) rfl (by decide +kernel)) rfl (cT (aj au (aj aF (pq 1) (pq 4) (fun _ _=>rfl)) ac (fun _ _=>rfl))) (fun _ _ _ _ _=>(sV 2 rfl (bW (aM (i:=0) (show List.Nodup (["_law_card","_law_many"]:List Str)from by decide +kernel) rfl (Or.inl rfl)) (bW (aM (i:=1) (show List.Nodup (["_law_card","_law_many"]:List Str)from by decide +kernel) rfl (Or.inl rfl)) dH)))) (fun _ _ _ _ _=>(hV (aA fN (pq 1) ac (az _)))) (fun _ _ _ _ _=>(be (aa aQ (aa (pq 0) ae)))))
  (ai (bC (bF qh PySem.F.slot_list_extend PySem.F.type_list_extend fZ (pq 5) (aa (iU (k:=2) (Nc:=["_law_card","_law_many"]) (js:=[]) (show bZ (aI iG) ["_law_deeds","_law_ahead_here","_law_numbers","_law_lengths","_law_k","_law_words_here"] _ 2 ["_law_card","_law_many"] []from bZ.mk rfl (by decide +kernel) (by decide +kernel) (by decide +kernel) rfl (by decide +kernel)) rfl (cT (aj au (aj aF (pq 1) (pq 4) (fun _ _=>rfl)) ac (fun _ _=>rfl))) (fun _ _ _ _ _=>(sV 2 rfl (bW (aM (i:=0) (show List.Nodup (["_law_card","_law_many"]:List Str)from by decide +kernel) rfl (Or.inl rfl)) (bW (aM (i:=1) (show List.Nodup (["_law_card","_law_many"]:List Str)from by decide +kernel) rfl (Or.inl rfl)) dH)))) (fun _ _ _ _ _=>(hV (aA fN (pq 1) ac (az _)))) (fun _ _ _ _ _=>(be (aa aQ (aa (pq 0) ae))))) ae)))
  (ai (aP (aA fL (aj au (aj aF (pq 0) (pq 4) (fun _ _=>rfl)) ac (fun _ _=>rfl)) cw (az _)) (ak (bC (bF qh qv qw ck (pq 5) (aa (be (aa aQ (aa (aj au (aj aF (pq 0) (pq 4) (fun _ _=>rfl)) ac (fun _ _=>rfl)) ae))) ae)))) aZ)
  (ai (aP (PW.pt (fQ (aA fL (aj au (aj aF (pq 0) (pq 4) (fun _ _=>rfl)) ac (fun _ _=>rfl)) cw (az _)) (hU (aA sD (aj aF (pq 2) (pq 4) (fun _ _=>rfl)) (jK hr.one (pq 3) (aj au (aj aF (pq 0) (pq 4) (fun _ _=>rfl)) ac (fun _ _=>rfl)) (fun _ _=>rfl)) (az _))))) (ak (bC (bF qh qv qw ck (pq 5) (aa (be (aa aQ (aa (aj au (aj aF (pq 0) (pq 4) (fun _ _=>rfl)) ac (fun _ _=>rfl)) ae))) ae)))) aZ)
  (ak (aE (pq 5))))))),?_⟩
 have lt:=(qg.mp hi).1
 obtain⟨va,hva,pa,l1,l2,u1,u2,rfl,hpa,hl1,hl2,rc1,rc2⟩:=LH.ra.2 i r lt hi
 have sm:=LH.sm r (qz hi)
 refine⟨_,rfl,_,rfl,la,_,_,_,rfl,rfl,SqL.of LH.ha,bp hva,pa,_,0,_,rfl,rfl,SqT.of hpa,rfl,l1,rfl,⟨_,SqL.of hl1⟩,?_⟩
 refine kg (K:=K) (a:=l1) (xs:=u1) (fun j ys σ G=>(∃v0 v1,σ=[v0,v1])/\a9 H G/\RPr G ys (((r.owns.take j).filter fun c=>decide (0<cnO (rs.take i) c)).map fun c=>(("card":Str),c))) ⟨⟨_,_,rfl⟩,a9.refl _,.nil⟩ ?_ (bu (m:=4000) (by rw[rc1.len];omega)) ?_ ?_ ?_
 ·rintro j ys σ G _ ⟨_,_,h⟩
  rw[h.len,qa]
  have:=List.length_filter_le (fun c=>decide (0<cnO (rs.take i) c)) (r.owns.take j)
  rw[qK]at this
  omega
 ·rintro j ys σ G ⟨_,sg,_⟩
  exact SqL.of (sg _ _ ((a9.refl H) _ _ hl1))
 ·rintro j z ys σ G hz ⟨⟨v0,v1,rfl⟩,sg,rp⟩
  obtain⟨p,c,rfl,hc,hp⟩:=RCs.at2 rc1 j z hz
  refine⟨p,_,rfl,SqT.of (sg _ _ ((a9.refl H) _ _ hp)),rfl,_,_,rfl,_,_,rfl,rfl,?_⟩
  refine⟨_,rfl,_,_,rfl,rfl,_,rfl,?_⟩
  have tk:r.owns.take (j+1)=r.owns.take j++[c]:=by rw[qr,hc];rfl
  by_cases h:0<cnO (rs.take i) c
  ·refine bx (decide_eq_true Qo) ⟨_,rfl,ln2,fun t ht=>⟨⟨_,_,rfl⟩,sg.trans (a9.new ht _),?_⟩⟩
   rw[tk,List.filter_append,qO]
   have e1:([c].filter fun c=>decide (0<cnO (rs.take i) c)).map (fun c=>(("card":Str),c))=[(("card":Str),c)]:=by rw[List.filter_cons_of_pos (by simpa using h)];rfl
   rw[e1]
   exact R2s.app (.cons ⟨t,rfl,ag⟩ .nil) (RPr.same (a9.new ht _) rp)
  ·refine aB (decide_eq_false Qo) ⟨⟨_,_,rfl⟩,sg,?_⟩
   rw[tk,List.filter_append,qO]
   have e1:([c].filter fun c=>decide (0<cnO (rs.take i) c)).map (fun c=>(("card":Str),c))=[]:=by rw[List.filter_cons_of_neg (by simpa using h)];rfl
   rw[e1,qx]
   exact rp
 rintro ysA σ GA ⟨_,sgA,rpA⟩ lA hlA
 rw[rc1.len,qH]at rpA
 have eA:=sgA.trans (a9.new hlA (.lst ysA))
 have lA':upd GA lA (.lst ysA) lA=some (.lst ysA):=ag
 have rA:=RPr.same (a9.new hlA (.lst ysA)) rpA
 have nA:H lA=none:=a9.none sgA hlA
 generalize upd GA lA (.lst ysA)=HA at eA lA' rA ⊢
 refine⟨_,rfl,.inl ⟨rfl,_,SqL.of lA'⟩,_,rfl,_,rfl,la,_,_,_,rfl,rfl,SqL.of (eA _ _ LH.ha),bp hva,pa,_,1,_,rfl,rfl,SqT.of (eA _ _ hpa),rfl,l2,rfl,⟨_,SqL.of (eA _ _ hl2)⟩,?_⟩
 refine kg (K:=K) (a:=l2) (xs:=u2) (fun j ys σ G=>(∃v0 v1,σ=[v0,v1])/\a9 HA G/\RPr G ys (((r.reads.take j).filter fun c=>decide (0<cnO (rs.take i) c)).map fun c=>(("copy":Str),c))) ⟨⟨_,_,rfl⟩,a9.refl _,.nil⟩ ?_ (bu (m:=4000) (by rw[rc2.len];omega)) ?_ ?_ ?_
 ·rintro j ys σ G _ ⟨_,_,h⟩
  rw[h.len,qa]
  have:=List.length_filter_le (fun c=>decide (0<cnO (rs.take i) c)) (r.reads.take j)
  rw[qK]at this
  omega
 ·rintro j ys σ G ⟨_,sg,_⟩
  exact SqL.of (sg _ _ (eA _ _ hl2))
 ·rintro j z ys σ G hz ⟨⟨v0,v1,rfl⟩,sg,rp⟩
  obtain⟨p,c,rfl,hc,hp⟩:=RCs.at2 rc2 j z hz
  refine⟨p,_,rfl,SqT.of (sg _ _ (eA _ _ hp)),rfl,_,_,rfl,_,_,rfl,rfl,?_⟩
  refine⟨_,rfl,_,_,rfl,rfl,_,rfl,?_⟩
  have tk:r.reads.take (j+1)=r.reads.take j++[c]:=by rw[qr,hc];rfl
  by_cases h:0<cnO (rs.take i) c
  ·refine bx (decide_eq_true Qo) ⟨_,rfl,ln2,fun t ht=>⟨⟨_,_,rfl⟩,sg.trans (a9.new ht _),?_⟩⟩
   rw[tk,List.filter_append,qO]
   have e1:([c].filter fun c=>decide (0<cnO (rs.take i) c)).map (fun c=>(("copy":Str),c))=[(("copy":Str),c)]:=by rw[List.filter_cons_of_pos (by simpa using h)];rfl
   rw[e1]
   exact R2s.app (.cons ⟨t,rfl,ag⟩ .nil) (RPr.same (a9.new ht _) rp)
  ·refine aB (decide_eq_false Qo) ⟨⟨_,_,rfl⟩,sg,?_⟩
   rw[tk,List.filter_append,qO]
   have e1:([c].filter fun c=>decide (0<cnO (rs.take i) c)).map (fun c=>(("copy":Str),c))=[]:=by rw[List.filter_cons_of_neg (by simpa using h)];rfl
   rw[e1,qx]
   exact rp
 rintro ysB σ GB ⟨_,sgB,rpB⟩ lB hlB
 rw[rc2.len,qH]at rpB
 have yA:=rpA.len
 have yB:=rpB.len
 rw[qa]at yA yB
 have fA:=List.length_filter_le (fun c=>decide (0<cnO (rs.take i) c)) r.owns
 have fB:=List.length_filter_le (fun c=>decide (0<cnO (rs.take i) c)) r.reads
 have eB:=sgB.trans (a9.new hlB (.lst ysB))
 refine⟨lA,lB,ysA,ysB,rfl,rfl,eB _ _ lA',ag,bu (m:=10000) Qo,?_⟩
 have sC:a9 H (upd (upd GB lB (.lst ysB)) lA (.lst (ysA++ysB))):=a9.over (eA.trans eB) nA
 have lC:upd (upd GB lB (.lst ysB)) lA (.lst (ysA++ysB)) lA=some (.lst (ysA++ysB)):=ag
 have tC:∀b xs,upd GB lB (.lst ysB) b=some (.tup xs)->upd (upd GB lB (.lst ysB)) lA (.lst (ysA++ysB)) b=some (.tup xs):=fun b xs h=>by rw[af (fun z=>by rw[z,eB _ _ lA']at h;cases h)];exact h
 have rC:=R2s.app (RPr.keep tC (RPr.same (a9.new hlB _) rpB)) (RPr.keep tC (RPr.same eB rA))
 generalize upd (upd GB lB (.lst ysB)) lA (.lst (ysA++ysB))=HC at sC lC rC ⊢
 have yl:(ysA++ysB).length<=8000:=by rw[qc];omega
 obtain⟨x,hx⟩:∃x,us[i]?=some x:=⟨_,qd (by rw[LH.rr.len];exact lt)⟩
 obtain⟨r',hr',px,po,pr,rfl,h1,_,_⟩:=LH.rr.at i x hx
 rw[hi]at hr'
 cases hr'
 generalize ysA++ysB=ysC at lC rC yl
 generalize hW:((r.owns.filter fun c=>decide (0<cnO (rs.take i) c)).map fun c=>(("card":Str),c))++((r.reads.filter fun c=>decide (0<cnO (rs.take i) c)).map fun c=>(("copy":Str),c))=W at rC
 dsimp only
 refine xU (fun σ' G=>σ'=[some (.ref l),some (.ref la),some (.ref lnn),some (.ref d),some (.int i),some (.ref lA)]/\a9 H G/\∃ps,G lA=some (.lst ps)/\ps.length<=8001/\RPr G ps (W++(match r.outof with|some q=>[(("thing":Str),q)]|none=>[]))) (fun σ' G h=>?_) (fun N go=>?_)
 ·obtain⟨rfl,sG,ps,lG,pl,rG⟩:=h
  generalize hW2:W++(match r.outof with|some q=>[(("thing":Str),q)]|none=>[])=W2 at rG
  have fin:∀(G':Hp) (ps':List V),a9 H G'->G' lA=some (.lst ps')->RPr G' ps' (W2++(match r.into with|some q=>if ln q<=bw rs i then[(("room":Str),q)]else[]|none=>[]))->Q (.ref lA) G':=fun G' ps' s' h' r'=>q _ _ _ s' h' (by
   have e:io rs ln i r=W2++(match r.into with|some q=>if ln q<=bw rs i then[(("room":Str),q)]else[]|none=>[]):=by
    unfold io
    rw[<- hW2,<- hW]
   rw[e]
   exact r')
  have atn:((List.range rs.length).map fun i:Nat=>V.int (bw rs i))[i]?=some (.int (bw rs i)):=by rw[qE,List.getElem?_range lt];rfl
  have dl:=LH.dl r (qz hi)
  cases ei:r.into with
  |none=>
   rw[ei]at h1 fin
   refine⟨_,rfl,_,rfl,l,_,_,_,rfl,rfl,SqL.of (sG _ _ LH.hl),bp hx,px,_,3,_,rfl,rfl,SqT.of (sG _ _ h1),rfl,rfl,_,rfl,aB rfl (aB rfl ?_)⟩
   exact⟨_,rfl,fin _ _ sG lG (by show RPr G ps (W2++[]);rw[qx];exact rG)⟩
  |some q'=>
   rw[ei]at h1 fin
   have dq:=dl q' ei
   refine⟨_,rfl,_,rfl,l,_,_,_,rfl,rfl,SqL.of (sG _ _ LH.hl),bp hx,px,_,3,_,rfl,rfl,SqT.of (sG _ _ h1),rfl,rfl,_,rfl,bx rfl ?_⟩
   refine⟨_,rfl,_,rfl,lnn,_,_,_,rfl,rfl,SqL.of (sG _ _ LH.hn),bp atn,_,rfl,_,rfl,_,rfl,l,_,_,_,rfl,rfl,SqL.of (sG _ _ LH.hl),bp hx,px,_,3,_,rfl,rfl,SqT.of (sG _ _ h1),rfl,d,_,rfl,.inl ⟨_,.inr q',.inl (sG _ _ LH.hd),rfl,dq.symm⟩,_,_,rfl,rfl,_,rfl,?_⟩
   by_cases hc:ln q'<=bw rs i
   ·refine bx (decide_eq_true hc) ?_
    refine⟨_,rfl,.inl ⟨rfl,_,SqL.of lG⟩,_,rfl,_,rfl,l,_,_,_,rfl,rfl,SqL.of (sG _ _ LH.hl),bp hx,px,_,3,_,rfl,rfl,SqT.of (sG _ _ h1),rfl,ln2,fun t ht=>?_⟩
    have e1:=a9.new ht (.tup [.str "room",.str q'])
    refine⟨lA,_,_,rfl,rfl,e1 _ _ lG,bu (m:=10000) Qo,?_⟩
    have tK:∀b xs,upd G t (.tup [.str "room",.str q']) b=some (.tup xs)->upd (upd G t (.tup [.str "room",.str q'])) lA (.lst (ps++[.ref t])) b=some (.tup xs):=fun b xs h=>by rw[af (fun z=>by rw[z,e1 _ _ lG]at h;cases h)];exact h
    refine⟨_,rfl,fin _ _ (a9.over (sG.trans e1) nA) ag ?_⟩
    show RPr _ _ (W2++(if ln q'<=bw rs i then[(("room":Str),q')]else[]))
    rw[Q0 hc]
    exact RPr.keep tK (R2s.app (.cons ⟨t,rfl,ag⟩ .nil) (RPr.same e1 rG))
   ·refine aB (decide_eq_false hc) ?_
    refine⟨_,rfl,fin _ _ sG lG ?_⟩
    show RPr _ _ (W2++(if ln q'<=bw rs i then[(("room":Str),q')]else[]))
    rw[qZ hc,qx]
    exact rG
 ·cases eo:r.outof with
  |none=>
   rw[eo]at h1 go
   refine⟨_,rfl,_,rfl,l,_,_,_,rfl,rfl,SqL.of (sC _ _ LH.hl),bp hx,px,_,4,_,rfl,rfl,SqT.of (sC _ _ h1),rfl,rfl,_,rfl,aB rfl ?_⟩
   exact go _ _ ⟨rfl,sC,ysC,lC,Qo,by show RPr HC ysC (W++[]);rw[qx];exact rC⟩
  |some q'=>
   rw[eo]at h1 go
   refine⟨_,rfl,_,rfl,l,_,_,_,rfl,rfl,SqL.of (sC _ _ LH.hl),bp hx,px,_,4,_,rfl,rfl,SqT.of (sC _ _ h1),rfl,rfl,_,rfl,bx rfl ?_⟩
   refine⟨_,rfl,.inl ⟨rfl,_,SqL.of lC⟩,_,rfl,_,rfl,l,_,_,_,rfl,rfl,SqL.of (sC _ _ LH.hl),bp hx,px,_,4,_,rfl,rfl,SqT.of (sC _ _ h1),rfl,ln2,fun t ht=>?_⟩
   have e1:=a9.new ht (.tup [.str "thing",.str q'])
   refine⟨lA,_,_,rfl,rfl,e1 _ _ lC,bu (m:=10000) Qo,go _ _ ⟨rfl,a9.over (sC.trans e1) nA,_,ag,by rw[qc];exact Nat.succ_le_succ yl,?_⟩⟩
   have tK:∀b xs,upd HC t (.tup [.str "thing",.str q']) b=some (.tup xs)->upd (upd HC t (.tup [.str "thing",.str q'])) lA (.lst (ysC++[.ref t])) b=some (.tup xs):=fun b xs h=>by rw[af (fun z=>by rw[z,e1 _ _ lC]at h;cases h)];exact h
   exact RPr.keep tK (R2s.app (.cons ⟨t,rfl,ag⟩ .nil) (RPr.same e1 rC))
theorem Af (T:Tx P w K mg a):aR P w K mg base CX0 3 a._law_paper a.fd__law_paper ["_law_one","_law_many"] rh:=by
 refine T.F__law_paper.ok y7 (fun vs H Q E h=>?_) (fun cdv A outer s H vs Q E hr h=>?_)
 ·obtain⟨_,_,_,_,_,rfl,_⟩:=h
  rfl
 obtain⟨p,j,k,n,m,rfl,hp,jm,q⟩:=h
 refine⟨_,(ai (aP (PW.pt (dn (fS (eU (ba fO rfl T.z_isinstance PyProof.Rows.Boot.«isinstance» (aa (pq 0) (aa (fV (v:=.ty "tuple") rfl T.z_tuple PyProof.Rows.Boot.«tuple» rfl) ae))))) (dn (aA iJ (ba c9 rfl T.z_len PySem.boot_len (aa (pq 0) ae)) ac (az _)) (dn (fS (eU (aC (Aa T) (hr.mono Qk) rfl T.m__law_whole T.F__law_whole.kp T.b__law_whole .nil aD (aa (aj au (pq 0) ac (fun _ _=>rfl)) ae)))) (fP (fS (sQ iM iL ac (aj au (pq 0) ac (fun _ _=>rfl)) (pq 1)))))))) (ak (aE eK)) aZ)
  (ak (aE (gB (ba fO rfl T.z_isinstance PyProof.Rows.Boot.«isinstance» (aa (aj au (pq 0) ac (fun _ _=>rfl)) (aa (fV (v:=.ty "str") rfl T.z_str PyProof.Rows.Boot.«str» rfl) ae))) (iT (ba fO rfl T.z_isinstance PyProof.Rows.Boot.«isinstance» (aa (aj au (pq 0) ac (fun _ _=>rfl)) (aa (fV (v:=.ty "str") rfl T.z_str PyProof.Rows.Boot.«str» rfl) ae)))))))),?_⟩
 refine⟨_,rfl,_,_,_,true,rfl,.tup hp,rfl,_,rfl,aB rfl ?_⟩
 refine⟨_,rfl,p,_,rfl,.inr (SqT.of hp),rfl,_,rfl,aB rfl ?_⟩
 refine⟨_,rfl,p,_,0,_,rfl,rfl,SqT.of hp,rfl,_,rfl,_,rfl,aB rfl ?_⟩
 refine⟨_,rfl,p,_,0,_,rfl,rfl,SqT.of hp,rfl,_,_,rfl,rfl,_,rfl,bx (decide_eq_true Qo) ⟨_,rfl,_,_,rfl,rfl,_,rfl,aB (by rw[decide_eq_true Qo];rfl) ?_⟩⟩
 refine⟨_,rfl,p,_,1,_,rfl,rfl,SqT.of hp,rfl,_,_,_,true,rfl,.str k,rfl,_,rfl,bx rfl ?_⟩
 exact⟨_,rfl,p,_,2,_,rfl,rfl,SqT.of hp,rfl,_,_,_,true,rfl,.str n,rfl,q⟩
theorem t5 (o:Option Str) (x:Str):iC (cJ o) (.str x)=true:=by cases o<;>rfl
theorem Aj (T:Tx P w K mg a):aR P w K mg base CX0 3 a._law_meets a.fd__law_meets ["_law_deeds","_law_ahead_here","_law_numbers","_law_lengths","_law_k","_law_wait"] rH:=by
 refine T.F__law_meets.ok gp (fun vs H Q E h=>?_) (fun cdv A outer s H vs Q E hr h=>?_)
 ·obtain⟨_,_,_,_,_,_,_,_,_,_,_,_,_,rfl,_⟩:=h
  rfl
 obtain⟨l,la,lnn,d,p,us,as,rs,kvs,ln,i,r,e,rfl,LH,hi,hp,me,q⟩:=h
 refine⟨_,(ai (jE (pq 5) (dR rfl (bW (aM (i:=6) gp.nd rfl (Or.inl rfl)) (bW (aM (i:=7) gp.nd rfl (Or.inl rfl)) (bW (aM (i:=8) gp.nd rfl (Or.inr rfl)) dH)))))
  (ai (aP (PW.pt (dn (aA aX (pq 7) aQ (az _)) (fP (aA aX (pq 7) aQ (az _))))) (ai (aq (i:=9) gp.nd rfl (Or.inl rfl) (aC (tz T) (hr.mono Qk) rfl T.m__law_owned T.F__law_owned.kp T.b__law_owned .nil aD (aa (aj au (aj aF (pq 1) (pq 4) (fun _ _=>rfl)) (gz (aA aX (pq 7) aQ (az _)) ac ac) (fun _ _=>rfl)) (aa (pq 8) ae))))
  (ai (aq (i:=10) gp.nd rfl (Or.inl rfl) (aC (tz T) (hr.mono Qk) rfl T.m__law_owned T.F__law_owned.kp T.b__law_owned .nil aD (aa (aj au (aj aF (pq 1) (pq 6) (fun _ _=>rfl)) ac (fun _ _=>rfl)) (aa (pq 8) ae))))
  (ak (aE (gB (eW fL (pq 9) cw (az _)) (gB (eW fL (pq 10) cw (az _)) (iT (eW aX (pq 9) (ao bQ (pq 10) ac) (az _))))))))) aZ)
  (ai (aP (aA aX (pq 7) aQ (az _)) (ak (aE (gB (eW aX (aj au (aj aF (pq 0) (pq 4) (fun _ _=>rfl)) ac (fun _ _=>rfl)) (pq 8) (az _)) (gB (eW aX (aj au (aj aF (pq 0) (pq 6) (fun _ _=>rfl)) ac (fun _ _=>rfl)) (pq 8) (az _)) (iT (eW aX (aj aF (pq 2) (pq 6) (fun _ _=>rfl)) (aj aF (pq 2) (pq 4) (fun _ _=>rfl)) (az _))))))) aZ)
  (ai (aP (PW.pt (dn (aA iJ (pq 7) aQ (az _)) (dn (aA iJ (aj au (aj aF (pq 0) (pq 4) (fun _ _=>rfl)) ac (fun _ _=>rfl)) (pq 8) (az _)) (fP (aA iL (aj aF (pq 2) (pq 4) (fun _ _=>rfl)) (jK hr.one (pq 3) (pq 8) (fun _ _=>rfl)) (az _)))))) (ak (aE eK)) aZ)
  (ai (aq (i:=11) gp.nd rfl (Or.inl rfl) (ao iK (aj aF (pq 2) (pq 4) (fun _ _=>rfl)) (jK hr.one (pq 3) (pq 8) (fun _ _=>rfl))))
  (ai (aP (aA aX (aj au (aj aF (pq 0) (pq 6) (fun _ _=>rfl)) ac (fun _ _=>rfl)) (pq 8) (az _)) (ak (aE (eW aX (aj aF (pq 2) (pq 6) (fun _ _=>rfl)) (pq 11) (az _)))) aZ)
  (ak (aE (gB (eW aX (pq 6) (ao iK (ba c9 rfl T.z_len PySem.boot_len (aa (pq 0) ae)) ac) (az _)) (iT (eW iM (ba c9 rfl T.z_len PySem.boot_len (aa (iU (k:=1) (Nc:=["_law_row","_law_name"]) (js:=[8]) (show bZ (aI jw) ["_law_deeds","_law_ahead_here","_law_numbers","_law_lengths","_law_k","_law_wait","_law_j","_law_kind","_law_name","_law_many","_law_below","_law_freed"] _ 1 ["_law_row","_law_name"] [8]from bZ.mk rfl (by decide +kernel) (by decide +kernel) (by decide +kernel) rfl (by decide +kernel)) rfl (cT (pq 0)) (fun _ _ _ _ _=>(aM (i:=0) (show List.Nodup (["_law_row","_law_name"]:List Str)from by decide +kernel) rfl (Or.inl rfl))) (fun _ _ _ _ _=>(hV (aA aX (aj (yK (K:=K) rfl) (pq 0) ac (fun _ _=>rfl)) (pq 1) (az _)))) (fun _ _ _ _ _=>(pq 0))) ae)) (pq 11) (az _)))))))))))),?_⟩
 have lt:=(qg.mp hi).1
 have row:∀{j:Nat}{r:Row},rs[j]?=some r->∃px po pr,us[j]?=some (.ref px)/\H px=some (.tup [.str r.kind,.ref po,.ref pr,cJ r.into,cJ r.outof]):=fun{j r} h=>by
  have lj:=(qg.mp h).1
  obtain⟨x,hx⟩:∃x,us[j]?=some x:=⟨_,qd (by rw[LH.rr.len];exact lj)⟩
  obtain⟨r',hr',px,po,pr,rfl,h1,_,_⟩:=LH.rr.at j x hx
  rw[h]at hr'
  cases hr'
  exact⟨px,po,pr,hx,h1⟩
 have atn:∀{j:Nat},j<rs.length->((List.range rs.length).map fun i:Nat=>V.int (bw rs i))[j]?=some (.int (bw rs j)):=fun{j} h=>by rw[qE,List.getElem?_range h];rfl
 obtain⟨va,hva,pa,l1,l2,u1,u2,rfl,hpa,hl1,hl2,rc1,rc2⟩:=LH.ra.2 i r lt hi
 obtain⟨pi,po,pr,hxi,h1⟩:=row hi
 cases me with
 |@card j c r' hj c1 c2 cn=>
  have lj:=(qg.mp hj).1
  obtain⟨vb,hvb,pb,m1,m2,w1,w2,rfl,hpb,hm1,hm2,rd1,rd2⟩:=LH.ra.2 j r' lj hj
  have hp:H p=some (.tup [.int j,.str "card",.str c]):=hp
  refine⟨_,rfl,p,_,rfl,SqT.of hp,rfl,_,_,rfl,_,_,rfl,_,_,rfl,rfl,?_⟩
  refine⟨_,rfl,rfl,_,rfl,bx (decide_eq_true rfl) (bx rfl ?_)⟩
  refine⟨_,rfl,_,rfl,la,_,_,_,rfl,rfl,SqL.of LH.ha,bp hva,_,rfl,rfl,_,rfl,bx (decide_eq_true rfl) ⟨pa,_,0,_,rfl,rfl,SqT.of hpa,rfl,_,rfl,l1,u1,_,r.owns,c,rfl,hl1,rc1,?_⟩⟩
  rw[Q0 c1]
  refine⟨_,rfl,_,rfl,la,_,_,_,rfl,rfl,SqL.of LH.ha,bp hvb,pb,_,0,_,rfl,rfl,SqT.of hpb,rfl,_,rfl,m1,w1,_,r'.owns,c,rfl,hm1,rd1,?_⟩
  rw[Q0 c2]
  refine⟨_,rfl,rfl,_,rfl,bx rfl ⟨_,rfl,rfl,_,rfl,bx rfl ⟨_,rfl,_,rfl,_,_,rfl,rfl,rfl,?_⟩⟩⟩
  rw[decide_eq_true (by rw[cn];rfl)]
  exact q _ (a9.refl _)
 |@copy j c r' hj c1 c2 cn=>
  have lj:=(qg.mp hj).1
  obtain⟨vb,hvb,pb,m1,m2,w1,w2,rfl,hpb,hm1,hm2,rd1,rd2⟩:=LH.ra.2 j r' lj hj
  have hp:H p=some (.tup [.int j,.str "copy",.str c]):=hp
  refine⟨_,rfl,p,_,rfl,SqT.of hp,rfl,_,_,rfl,_,_,rfl,_,_,rfl,rfl,?_⟩
  refine⟨_,rfl,rfl,_,rfl,aB Qd ⟨_,rfl,rfl,_,rfl,bx (decide_eq_true rfl) ?_⟩⟩
  refine⟨_,rfl,_,rfl,la,_,_,_,rfl,rfl,SqL.of LH.ha,bp hva,_,rfl,rfl,_,rfl,aB Qd ⟨pa,_,1,_,rfl,rfl,SqT.of hpa,rfl,_,rfl,l2,u2,_,r.reads,c,rfl,hl2,rc2,?_⟩⟩
  rw[Q0 c1]
  refine⟨_,rfl,_,rfl,la,_,_,_,rfl,rfl,SqL.of LH.ha,bp hvb,pb,_,0,_,rfl,rfl,SqT.of hpb,rfl,_,rfl,m1,w1,_,r'.owns,c,rfl,hm1,rd1,?_⟩
  rw[Q0 c2]
  refine⟨_,rfl,rfl,_,rfl,bx rfl ⟨_,rfl,rfl,_,rfl,bx rfl ⟨_,rfl,_,rfl,_,_,rfl,rfl,rfl,?_⟩⟩⟩
  rw[decide_eq_true (by rw[cn];rfl)]
  exact q _ (a9.refl _)
 |@thing j q' r' hj e1 e2 en=>
  have lj:=(qg.mp hj).1
  obtain⟨pj,_,_,hxj,h2⟩:=row hj
  rw[e1]at h1
  rw[e2]at h2
  have hp:H p=some (.tup [.int j,.str "thing",.str q']):=hp
  refine⟨_,rfl,p,_,rfl,SqT.of hp,rfl,_,_,rfl,_,_,rfl,_,_,rfl,rfl,?_⟩
  refine⟨_,rfl,rfl,_,rfl,aB Qd ⟨_,rfl,rfl,_,rfl,aB Qd ?_⟩⟩
  refine⟨_,rfl,rfl,_,rfl,bx (decide_eq_true rfl) ?_⟩
  refine⟨_,rfl,_,rfl,l,_,_,_,rfl,rfl,SqL.of LH.hl,bp hxi,pi,_,4,_,rfl,rfl,SqT.of h1,rfl,_,rfl,rfl,_,rfl,bx (decide_eq_true rfl) ?_⟩
  refine⟨_,rfl,_,rfl,l,_,_,_,rfl,rfl,SqL.of LH.hl,bp hxj,pj,_,3,_,rfl,rfl,SqT.of h2,rfl,_,rfl,rfl,_,rfl,bx (decide_eq_true rfl) ?_⟩
  refine⟨_,rfl,_,rfl,lnn,_,_,_,rfl,rfl,SqL.of LH.hn,bp (atn lj),_,rfl,_,rfl,lnn,_,_,_,rfl,rfl,SqL.of LH.hn,bp (atn lt),rfl,?_⟩
  rw[decide_eq_true (by rw[en])]
  exact q _ (a9.refl _)
 |@room j q' r' hj e1 e2 e3 en=>
  have lj:=(qg.mp hj).1
  obtain⟨pj,_,_,hxj,h2⟩:=row hj
  have dq:=LH.dl r (qz hi) q' e1
  rw[e1]at h1
  have hp:H p=some (.tup [.int j,.str "room",.str q']):=hp
  refine⟨_,rfl,p,_,rfl,SqT.of hp,rfl,_,_,rfl,_,_,rfl,_,_,rfl,rfl,?_⟩
  refine⟨_,rfl,rfl,_,rfl,aB Qd ⟨_,rfl,rfl,_,rfl,aB Qd ?_⟩⟩
  refine⟨_,rfl,rfl,_,rfl,aB Qd ?_⟩
  refine⟨_,rfl,rfl,_,rfl,aB Qd ?_⟩
  refine⟨_,rfl,_,rfl,l,_,_,_,rfl,rfl,SqL.of LH.hl,bp hxi,pi,_,3,_,rfl,rfl,SqT.of h1,rfl,_,rfl,rfl,_,rfl,aB (by show(!decide (V.str q'=V.str q'))=false;rw[decide_eq_true rfl];rfl) ?_⟩
  refine⟨_,rfl,_,rfl,lnn,_,_,_,rfl,rfl,SqL.of LH.hn,bp (atn lt),_,rfl,_,rfl,d,_,rfl,.inl ⟨_,.inr q',.inl LH.hd,rfl,dq.symm⟩,_,_,rfl,rfl,_,rfl,aB (decide_eq_false Qo) ?_⟩
  refine⟨_,rfl,_,rfl,lnn,_,_,_,rfl,rfl,SqL.of LH.hn,bp (atn lt),_,rfl,_,rfl,d,_,rfl,.inl ⟨_,.inr q',.inl LH.hd,rfl,dq.symm⟩,_,_,rfl,rfl,?_⟩
  rw[e3]at h2
  refine⟨_,rfl,_,rfl,l,_,_,_,rfl,rfl,SqL.of LH.hl,bp hxj,pj,_,4,_,rfl,rfl,SqT.of h2,rfl,_,rfl,rfl,_,rfl,bx (decide_eq_true rfl) ?_⟩
  refine⟨_,rfl,_,rfl,lnn,_,_,_,rfl,rfl,SqL.of LH.hn,bp (atn lj),_,rfl,rfl,?_⟩
  rw[decide_eq_true (by rw[en])]
  exact q _ (a9.refl _)
 |@last j q' r' hj e1 e2 e3 e4 en=>
  have lj:=(qg.mp hj).1
  obtain⟨pj,_,_,hxj,h2⟩:=row hj
  have dq:=LH.dl r (qz hi) q' e1
  rw[e1]at h1
  have hp:H p=some (.tup [.int j,.str "room",.str q']):=hp
  refine⟨_,rfl,p,_,rfl,SqT.of hp,rfl,_,_,rfl,_,_,rfl,_,_,rfl,rfl,?_⟩
  refine⟨_,rfl,rfl,_,rfl,aB Qd ⟨_,rfl,rfl,_,rfl,aB Qd ?_⟩⟩
  refine⟨_,rfl,rfl,_,rfl,aB Qd ?_⟩
  refine⟨_,rfl,rfl,_,rfl,aB Qd ?_⟩
  refine⟨_,rfl,_,rfl,l,_,_,_,rfl,rfl,SqL.of LH.hl,bp hxi,pi,_,3,_,rfl,rfl,SqT.of h1,rfl,_,rfl,rfl,_,rfl,aB (by show(!decide (V.str q'=V.str q'))=false;rw[decide_eq_true rfl];rfl) ?_⟩
  refine⟨_,rfl,_,rfl,lnn,_,_,_,rfl,rfl,SqL.of LH.hn,bp (atn lt),_,rfl,_,rfl,d,_,rfl,.inl ⟨_,.inr q',.inl LH.hd,rfl,dq.symm⟩,_,_,rfl,rfl,_,rfl,aB (decide_eq_false Qo) ?_⟩
  refine⟨_,rfl,_,rfl,lnn,_,_,_,rfl,rfl,SqL.of LH.hn,bp (atn lt),_,rfl,_,rfl,d,_,rfl,.inl ⟨_,.inr q',.inl LH.hd,rfl,dq.symm⟩,_,_,rfl,rfl,?_⟩
  have ne:cJ r'.outof≠V.str q':=fun z=>e3 (by
   cases ho:r'.outof with
   |none=>rw[ho]at z;cases z
   |some x=>rw[ho]at z;injection z with z;rw[z])
  refine⟨_,rfl,_,rfl,l,_,_,_,rfl,rfl,SqL.of LH.hl,bp hxj,pj,_,4,_,rfl,rfl,SqT.of h2,rfl,_,rfl,t5 _ _,_,rfl,aB (decide_eq_false ne) ?_⟩
  refine⟨_,rfl,_,rfl,l,_,rfl,.inl (SqL.of LH.hl),_,_,rfl,rfl,rfl,_,rfl,bx (decide_eq_true (by rw[LH.rr.len];congr 1;omega)) ?_⟩
  refine⟨_,rfl,l,rfl,⟨_,SqL.of LH.hl⟩,?_⟩
  refine kg (K:=K) (a:=l) (xs:=us) (fun m ys σ G=>(∃v,σ=[v,some (.str q')])/\G=H/\ys.length=((rs.take m).filter fun x=>decide (x.outof=some q')).length) ⟨⟨_,rfl⟩,rfl,rfl⟩ ?_ (bu (m:=1000) (by rw[LH.rr.len];exact LH.few)) ?_ ?_ ?_
  ·rintro m ys σ G _ ⟨_,_,h⟩
   have:=List.length_filter_le (fun x:Row=>decide (x.outof=some q')) (rs.take m)
   rw[qK]at this
   omega
  ·rintro m ys σ G ⟨_,rfl,_⟩
   exact SqL.of LH.hl
  ·rintro m z ys σ G hz ⟨⟨v0,rfl⟩,rfl,yl⟩
   obtain⟨x,hx,px,_,_,rfl,h3,_,_⟩:=LH.rr.at m z hz
   have tk:rs.take (m+1)=rs.take m++[x]:=by rw[qr,hx];rfl
   refine⟨_,rfl,px,_,4,_,rfl,rfl,SqT.of h3,rfl,_,rfl,t5 _ _,_,rfl,?_⟩
   by_cases ho:x.outof=some q'
   ·refine bx (decide_eq_true (by rw[ho];rfl)) ⟨_,rfl,⟨_,rfl⟩,rfl,?_⟩
    rw[qc,yl,tk,List.filter_append,qc,List.filter_cons_of_pos (by simpa using ho)]
    rfl
   ·refine aB (decide_eq_false (fun z=>ho (by
     cases h:x.outof with
     |none=>rw[h]at z;cases z
     |some y=>rw[h]at z;injection z with z;rw[z]))) ⟨⟨_,rfl⟩,rfl,?_⟩
    rw[yl,tk,List.filter_append,qc,List.filter_cons_of_neg (by simpa using ho)]
    rfl
  rintro ys σ G ⟨_,rfl,yl⟩ l5 hl5
  rw[LH.rr.len,qH]at yl
  refine⟨l5,_,rfl,.inl (SqL.of ag),_,rfl,_,_,rfl,rfl,?_⟩
  rw[yl,decide_eq_true en]
  exact q _ (a9.new hl5 _)
theorem nq {rs:List Row}(nd:∀r∈rs,r.owns.Nodup) (c:Str):∀k,k<=rs.length->((cj (rs.take k) c).isSome=decide (0<cnO (rs.take k) c))/\∀n,cj (rs.take k) c=some n->∃(j:Nat) (r':Row),n=(j:Int)/\j<k/\rs[j]?=some r'/\c∈r'.owns/\cnO (rs.take k) c=cnO (rs.take j) c+1
 |0,_=>⟨rfl,fun n h=>by simp[cj]at h⟩
 |k+1,hk=>by
  obtain⟨i1,i2⟩:=nq nd c k Qo
  have hr:rs[k]?=some (rs[k]' Qo):=qd _
  generalize rs[k]' Qo=r at hr
  have tk:rs.take (k+1)=rs.take k++[r]:=by rw[qr,hr];rfl
  have tl:(rs.take k).length=k:=by rw[qK];omega
  rw[tk,ua,uT,tl]
  by_cases hc:c∈r.owns
  ·have c1:r.owns.count c=1:=Nat.le_antisymm (List.nodup_iff_count.mp (nd r (qz hr)) c) (List.count_pos_iff.mpr hc)
   rw[Q0 hc,c1]
   refine⟨by simp,fun n h=>?_⟩
   cases h
   exact⟨k,r,rfl,Qo,hr,hc,rfl⟩
  ·have c0:r.owns.count c=0:=List.count_eq_zero.mpr hc
   rw[qZ hc,c0,Nat.add_zero]
   refine⟨i1,fun n h=>?_⟩
   obtain⟨j,r',e,lt,a,b,d⟩:=i2 n h
   exact⟨j,r',e,Qo,a,b,d⟩
theorem nY {R:List Row}(h:∀c,(cj R c).isSome=decide (0<cnO R c)) (kd:Str):∀cs:List Str,(dX (cj R) kd cs).map (fun e=>(e.2.1,e.2.2))=(cs.filter fun c=>decide (0<cnO R c)).map fun c=>(kd,c)
 |[]=>rfl
 |c::cs=>by
  have ih:=nY h kd cs
  unfold dX at ih ⊢
  have hc:=h c
  cases e:cj R c with
  |none=>
   rw[e]at hc
   rw[List.filterMap_cons_none (by rw[e];rfl),List.filter_cons_of_neg (by rw[<- hc];simp),ih]
  |some n=>
   rw[e]at hc
   rw[List.filterMap_cons_some (b:=(n,kd,c)) (by rw[e];rfl),List.filter_cons_of_pos (by rw[<- hc];rfl),qR,qR,ih]
theorem Ca (k j:List NK):[k].count j=if k=j then 1 else 0:=by
 rw[List.count_singleton]
 by_cases e:k=j
 ·rw[Q0 e,Q0 (by simpa using e)]
 ·rw[qZ e,qZ (by simpa using e)]
theorem jP {rs:List Row}(ow:∀r∈rs,dA r) (q:Str):∀k,k<=rs.length->nmR (rs.take k) [some q,none]=(ap Row.into (rs.take k) q).length/\nmR (rs.take k) [none,some q]=(ap Row.outof (rs.take k) q).length/\((rs.take k).filter fun x=>decide (x.outof=some q)).length=(ap Row.outof (rs.take k) q).length
 |0,_=>⟨rfl,rfl,rfl⟩
 |k+1,hk=>by
  obtain⟨i1,i2,i3⟩:=jP ow q k Qo
  have hr:rs[k]?=some (rs[k]' Qo):=qd _
  generalize rs[k]' Qo=r at hr
  have tk:rs.take (k+1)=rs.take k++[r]:=by rw[qr,hr];rfl
  have one:=ow r (qz hr)
  have sn:∀j,nmR (rs.take k++[r]) j=nmR (rs.take k) j+if bM r=j then 1 else 0:=fun j=>by
   unfold nmR
   rw[qO,List.count_append,List.map_singleton,Ca]
  rw[tk,sn,sn,jN,jN,qc,qc,List.filter_append,qc,i1,i2,i3]
  refine⟨?_,?_,?_⟩
  ·by_cases e:r.into=some q
   ·have eo:r.outof=none:=one.resolve_left (by rw[e];simp)
    rw[Q0 e,Q0 (by unfold bM;rw[e,eo])]
    rfl
   ·rw[qZ e,qZ (fun z=>e (by unfold bM at z;exact(List.cons.inj z).1))]
    rfl
  ·by_cases e:r.outof=some q
   ·have ei:r.into=none:=one.resolve_right (by rw[e];simp)
    rw[Q0 e,Q0 (by unfold bM;rw[e,ei])]
    rfl
   ·rw[qZ e,qZ (fun z=>e (by unfold bM at z;exact(List.cons.inj (List.cons.inj z).2).1))]
    rfl
  ·by_cases e:r.outof=some q
   ·rw[Q0 e,List.filter_cons_of_pos (by simpa using e)]
    rfl
   ·rw[qZ e,List.filter_cons_of_neg (by simpa using e)]
    rfl
theorem mU {rs:List Row}(ow:∀r∈rs,dA r) {i:Nat}{r:Row}{q:Str}(h:rs[i]?=some r) (e:r.into=some q):bw rs i=((ap Row.into (rs.take i) q).length:Int):=by
 have lt:=(qg.mp h).1
 have eo:r.outof=none:=(ow r (qz h)).resolve_left (by rw[e];simp)
 unfold bw
 rw[h]
 show((nmR (rs.take i) (bM r):Nat):Int)=_
 have:bM r=[some q,none]:=by unfold bM;rw[e,eo]
 rw[this,(jP ow q i Qo).1]
theorem tM {rs:List Row}(ow:∀r∈rs,dA r) {i:Nat}{r:Row}{q:Str}(h:rs[i]?=some r) (e:r.outof=some q):bw rs i=((ap Row.outof (rs.take i) q).length:Int):=by
 have lt:=(qg.mp h).1
 have ei:r.into=none:=(ow r (qz h)).resolve_right (by rw[e];simp)
 unfold bw
 rw[h]
 show((nmR (rs.take i) (bM r):Nat):Int)=_
 have:bM r=[none,some q]:=by unfold bM;rw[e,ei]
 rw[this,(jP ow q i Qo).2.1]
theorem mT {f:Row->Option Str}{rs:List Row}{q:Str}:∀k,k<=rs.length->∀(m:Nat) (n:Int),(ap f (rs.take k) q)[m]?=some n->∃(j:Nat) (r':Row),n=(j:Int)/\rs[j]?=some r'/\f r'=some q/\(ap f (rs.take j) q).length=m
 |0,_,m,n,h=>by simp[Tr.ap]at h
 |k+1,hk,m,n,h=>by
  have hr:rs[k]?=some (rs[k]' Qo):=qd _
  generalize rs[k]' Qo=r at hr
  have tk:rs.take (k+1)=rs.take k++[r]:=by rw[qr,hr];rfl
  have tl:(rs.take k).length=k:=by rw[qK];omega
  rw[tk,jN,tl]at h
  by_cases lt:m<(ap f (rs.take k) q).length
  ·rw[List.getElem?_append_left lt]at h
   exact mT k Qo m n h
  ·rw[qL Qo]at h
   by_cases e:f r=some q
   ·rw[Q0 e]at h
    have em:m-(ap f (rs.take k) q).length=0:=by
     have:=(qg.mp h).1
     simp at this
     omega
    rw[em]at h
    cases h
    exact⟨k,r,rfl,hr,e,Qo⟩
   ·rw[qZ e]at h
    simp at h
theorem BG {rs:List Row}{ln:Str->Int}{i:Nat}{r:Row}(h:rs[i]?=some r) (nd:∀r∈rs,r.owns.Nodup) (ow:∀r∈rs,dA r):(dU rs ln i r).map (fun e=>(e.2.1,e.2.2))=io rs ln i r:=by
 have lt:=(qg.mp h).1
 have hl:=fun c=>(nq nd c i Qo).1
 unfold dU fj io
 rw[qO,qO,qO,nY hl,nY hl]
 congr 1
 ·congr 1
  unfold fu
  cases r.outof<;>rfl
 ·unfold eI
  cases e:r.into with
  |none=>rfl
  |some q=>
   have en:=mU ow h e
   show List.map _ (if 0<=gh rs (ln q) i q then _ else _)=(if ln q<=bw rs i then _ else _)
   unfold gh
   by_cases z:ln q<=bw rs i
   ·rw[Q0 z,Q0 Qo]
    rfl
   ·rw[qZ z,qZ Qo]
    rfl
theorem BH {rs:List Row}{ln:Str->Int}{i:Nat}{r:Row}(h:rs[i]?=some r) (nd:∀r∈rs,r.owns.Nodup) (ow:∀r∈rs,dA r) (fed:∀q,r.outof=some q->(ap Row.outof (rs.take i) q).length<(ap Row.into rs q).length) (end0:∀r',rs[rs.length-1]?=some r'->r'.outof=none):∀e∈dU rs ln i r,fk rs ln i r e/\∃j:Nat,e.1=(j:Int)/\j<rs.length:=fun e he=>by
 have lt:=(qg.mp h).1
 have inl:∀{j:Nat}{r':Row},rs[j]?=some r'->j<rs.length:=fun h=>(qg.mp h).1
 unfold dU fj at he
 rw[qi,qi,qi]at he
 have card:∀{kd:Str}{cs:List Str},e∈dX (cj (rs.take i)) kd cs->∃(j:Nat) (c:Str) (r':Row),e=((j:Int),kd,c)/\c∈cs/\rs[j]?=some r'/\c∈r'.owns/\cnO (rs.take i) c=cnO (rs.take j) c+1:=fun{kd cs} he=>by
  unfold dX at he
  obtain⟨c,hc,e1⟩:=List.mem_filterMap.mp he
  obtain⟨n,hn,rfl⟩:=qP.mp e1
  obtain⟨j,r',rfl,_,a,b,d⟩:=(nq nd c i Qo).2 n hn
  exact⟨j,c,r',rfl,hc,a,b,d⟩
 rcases he with((he|he)|he)|he
 ·obtain⟨j,c,r',rfl,hc,a,b,d⟩:=card he
  exact⟨.card a hc b d,j,rfl,inl a⟩
 ·obtain⟨j,c,r',rfl,hc,a,b,d⟩:=card he
  exact⟨.copy a hc b d,j,rfl,inl a⟩
 ·unfold fu at he
  cases eo:r.outof with
  |none=>rw[eo]at he;simp at he
  |some q=>
   rw[eo]at he
   have he:=qS.mp he
   have f:=fed q eo
   have ex:(ap Row.into (rs.take rs.length) q)[(ap Row.outof (rs.take i) q).length]?=some ((ap Row.into rs q).getD (ap Row.outof (rs.take i) q).length 0):=by
    rw[qH,qk,qd f]
    rfl
   obtain⟨j,r',e1,a,b,d⟩:=mT rs.length (qf _) _ _ ex
   rw[he,e1]
   exact⟨.thing a eo b (by rw[mU ow a b,tM ow h eo,d]),j,rfl,inl a⟩
 ·unfold eI at he
  cases ei:r.into with
  |none=>rw[ei]at he;simp at he
  |some q=>
   rw[ei]at he
   have en:=mU ow h ei
   have he:e∈(if 0<=gh rs (ln q) i q then[(awaited rs.length (ap Row.outof rs q) (gh rs (ln q) i q).toNat,("room":Str),q)]else[]):=he
   unfold gh at he
   split at he
   ·rename_i z
    have he:=qS.mp he
    have zk:ln q<=bw rs i:=Qo
    unfold awaited at he
    by_cases lk:(((ap Row.into (rs.take i) q).length:Int)-ln q).toNat<(ap Row.outof rs q).length
    ·rw[Q0 lk]at he
     have ex:(ap Row.outof (rs.take rs.length) q)[(((ap Row.into (rs.take i) q).length:Int)-ln q).toNat]?=some ((ap Row.outof rs q).getD (((ap Row.into (rs.take i) q).length:Int)-ln q).toNat 0):=by
      rw[qH,qk,qd lk]
      rfl
     obtain⟨j,r',e1,a,b,d⟩:=mT rs.length (qf _) _ _ ex
     rw[he,e1]
     exact⟨.room a ei zk b (by rw[tM ow a b,d];omega),j,rfl,inl a⟩
    ·rw[qZ lk]at he
     have hl:rs[rs.length-1]?=some (rs[rs.length-1]' Qo):=qd _
     have o0:=end0 _ hl
     have nn:=(jP ow q rs.length (qf _)).2.2
     rw[qH]at nn
     have ej:(rs.length:Int)-1=((rs.length-1:Nat):Int):=Qo
     rw[he,ej]
     exact⟨.last hl ei zk (by rw[o0];simp) Qo (by rw[nn];omega),rs.length-1,rfl,Qo⟩
   ·simp at he
theorem nS {b ds:List a8}(h:∀e∈ah b,e∈ah ds):∀c∈cards b,c∈cards ds:=fun c hc=>by
 unfold cards at *
 obtain⟨d,hd,h'⟩:=List.mem_flatMap.mp hc
 exact List.mem_flatMap.mpr ⟨d,h d hd,h'⟩
mutual
theorem Bz:∀(d e:a8),e∈d.flat->∀x∈e.flat,x∈d.flat
 |.set x a sg b,e,h=>by simp[a8.flat]at h;subst h;simp[a8.flat]
 |.put q x,e,h=>by simp[a8.flat]at h;subst h;simp[a8.flat]
 |.get q x,e,h=>by simp[a8.flat]at h;subst h;simp[a8.flat]
 |.give x,e,h=>by simp[a8.flat]at h;subst h;simp[a8.flat]
 |.cond x t o,e,h=>by
  rw[a8.flat,qu,qi]at h
  rcases h with rfl|h|h
  ·exact fun x h=>h
  ·intro y hy;rw[a8.flat,qu,qi];exact .inr (.inl (gG t e h y hy))
  ·intro y hy;rw[a8.flat,qu,qi];exact .inr (.inr (gG o e h y hy))
 |.whl x b,e,h=>by
  rw[a8.flat,qu]at h
  rcases h with rfl|h
  ·exact fun x h=>h
  ·intro y hy;rw[a8.flat,qu];exact .inr (gG b e h y hy)
 |.rep n b,e,h=>by
  rw[a8.flat,qu]at h
  rcases h with rfl|h
  ·exact fun x h=>h
  ·intro y hy;rw[a8.flat,qu];exact .inr (gG b e h y hy)
theorem gG:∀(ds:List a8) (e:a8),e∈ah ds->∀x∈e.flat,x∈ah ds
 |[],e,h=>by simp[ah]at h
 |d::r,e,h=>by
  rw[ah,qi]at h
  intro y hy
  rw[ah,qi]
  rcases h with h|h
  ·exact .inl (Bz d e h y hy)
  ·exact .inr (gG r e h y hy)
end
theorem Cc {ds:List a8}{e:a8}(h:e∈ah ds):∀c∈cards [e],c∈cards ds:=nS fun x hx=>by
 rw[ah,ah,qx]at hx
 exact gG ds e h x hx
def ou (rooms:List Str) (d:a8):Prop:=∀q x,d=.put q x->q∈rooms
theorem xy (n:Int) (names rooms:List Str) (shut:Bool):ou rooms (bA n names rooms shut):=fun q x z=>by
 unfold bA at z
 split at z
 ·cases z
 ·split at z
  ·rename_i c
   split at z
   ·cases z
   ·injection z with z1 z2
    rw[<- z1]
    exact eM c.2.1 _
  ·cases z
theorem Cq {names rooms:List Str}{most low:Int}(h1:1<=most) (h98:most<=98) (cells:List Int):∀q x,.put q x∈ah (cW names rooms most low cells)->q∈rooms:=fun q x h=>
 ki (Pd:=ou rooms) ⟨fun _ _ _ q x z=>(by cases z),fun _ _ q x z=>(by cases z),fun n b _ _ q x z=>(by cases z)⟩ (fun k s=>xy _ _ _ _) h1 h98 cells _ h q x rfl
theorem gm (l:List Str):(srt l).Nodup:=by
 unfold srt
 split
 ·rename_i h
  exact(Classical.choose_spec h).1
 ·exact List.nodup_nil
def dc (x:Str):Prop:=∀c∈x.cps.toList,c≠60
theorem dc.app {x y:Str}(h1:dc x) (h2:dc y):dc (x++y):=fun c hc=>by
 rw[show(x++y).cps.toList=x.cps.toList++y.cps.toList from gn x y,qi]at hc
 exact hc.elim (h1 c) (h2 c)
theorem dc.slice {x:Str}(h:dc x) (a b:Option Int):dc (Txt.slice x a b):=fun c hc=>by
 rw[show(Txt.slice x a b).cps.toList=_ from kM x a b]at hc
 exact h c (List.mem_of_mem_drop (List.mem_of_mem_take hc))
theorem og (j:Int):dc (sgn (bX j)):=fun d hd=>by
 simp[sgn]at hd
 subst hd
 unfold bX
 have all:∀c∈cK.cps.toList,c≠60:=Qd
 rw[qk]
 cases e:cK.cps.toList[j.toNat]? with
 |none=>decide
 |some c=>exact all c (qz e)
theorem n5 (n:Int):∀k,dc (ci n k)
 |0=>fun c hc=>by simp[ci]at hc;exact absurd hc (by decide +kernel +revert)
 |k+1=>by rw[ci];exact(n5 n k).app (og _)
theorem zc (c:Int) (n:Nat):∀w∈cq c n,dc w:=by
 have up:∀w∈d5 c n,dc w:=fun w hw=>by
  unfold d5 at hw
  obtain⟨k,_,rfl⟩:=List.mem_map.mp hw
  have wd:dc (bR c k):=by
   have b:dc (bO c):=by unfold bO;exact n5 _ _
   have s:dc (dQ c k):=og _
   unfold bR
   split
   ·exact((b.slice _ _).app s).app (b.slice _ _)
   ·split
    ·exact b.slice _ _
    ·exact(s.app (n5 _ _)).slice _ _
  unfold cE
  split
  ·exact(wd.slice _ _).app (og _)
  ·exact wd
 unfold cq
 split
 ·intro w hw
  exact up w (List.mem_reverse.mp hw)
 ·exact up
def vG (names:List Str) (d:a8):Prop:=∀q x,d=.get q x->x∈names
theorem xE (n:Int) {names:List Str}(h:0<names.length) (rooms:List Str) (shut:Bool):vG names (bA n names rooms shut):=fun q x z=>by
 unfold bA at z
 split at z
 ·cases z
 ·split at z
  ·split at z
   ·injection z with z1 z2
    rw[<- z2]
    exact eM h _
   ·cases z
  ·cases z
theorem Ct {names rooms:List Str}{most low:Int}(h:0<names.length) (h1:1<=most) (h98:most<=98) (cells:List Int):∀q x,.get q x∈ah (cW names rooms most low cells)->x∈names:=fun q x hm=>
 ki (Pd:=vG names) ⟨fun _ _ _ q x z=>(by cases z),fun _ _ q x z=>(by cases z),fun n b _ _ q x z=>(by cases z)⟩ (fun k s=>xE _ h _ _) h1 h98 cells _ hm q x rfl
theorem yk (e:a8) (h:∀q x,e=.get q x->dc x):(aL e).owns.Nodup:=by
 cases e with
 |set x a sg b=>exact List.pairwise_singleton _ _
 |put q x=>exact List.pairwise_singleton _ _
 |give x=>exact List.pairwise_singleton _ _
 |get q x=>
  show(eC [x,q++("<":Str)]).Nodup
  have nx:x≠q++("<":Str):=fun z=>by
   have:=h q x rfl 60
   rw[z,show(q++("<":Str)).cps.toList=sl q++sl ("<":Str)from gn _ _]at this
   exact this (qI _ Qd) rfl
  unfold eC
  split
  ·rename_i h
   exact(Classical.choose_spec h).1.nodup_iff.mpr (by simp[nx])
  ·exact List.nodup_nil
 |cond x t o=>exact gm _
 |whl x b=>exact gm _
 |rep n b=>exact gm _
theorem vB {H:Hp}:∀{vs:List V}{es:List Wat},RWs H vs es->∀{i:Nat}{e:Wat},es[i]?=some e->∃p,vs[i]?=some (.ref p)/\H p=some (eQ e)
 |_,_,.nil,i,e,h=>by simp at h
 |_,_,.cons h1 r,0,e,h=>by cases h;exact⟨_,rfl,h1⟩
 |_,_,.cons _ r,i+1,e,h=>vB r h
theorem vC {H H':Hp}{us:List V}{rs:List Row}{n:Nat}(s:a9 H H') (h:RAs H us rs n):RAs H' us rs n:=⟨h.1,fun i r hi hr=>by
 obtain⟨v,hv,p,l1,l2,u1,u2,e,h1,h2,h3,r1,r2⟩:=h.2 i r hi hr
 exact⟨v,hv,p,l1,l2,u1,u2,e,s _ _ h1,s _ _ h2,s _ _ h3,r1.keep fun c xs h=>s _ _ h,r2.keep fun c xs h=>s _ _ h⟩⟩
theorem ik.same {H H':Hp}{l la lnn d:Addr}{us as:List V}{rs:List Row}{kvs:List (Key×V)}{ln:Str->Int}(s:a9 H H') (h:ik H l la lnn d us as rs kvs ln):ik H' l la lnn d us as rs kvs ln:=⟨s _ _ h.hl,h.rr.same s,s _ _ h.ha,vC s h.ra,s _ _ h.hn,s _ _ h.hd,h.few,h.sm,h.dl⟩
theorem xL {k n:Str}(h:PyData.strOk k=true) (h':PyData.strOk n=true):SeqAt.shaped (.tuple [.str k,.str n])=true:=by
 simp[SeqAt.shaped,PyData.canLay,PyData.canLay0,PyData.canLayAll0,PyData.depth,PyData.depthAll,h,h']
theorem fk.ok {rs:List Row}{ln:Str->Int}{i:Nat}{r:Row}{e:Wat}(h:fk rs ln i r e) (o:gR r):PyData.strOk e.2.1=true/\PyData.strOk e.2.2=true:=by
 cases h with
 |card _ h=>exact⟨show PyData.strOk ("card":Str)=true by decide +kernel,o.2.1 _ h⟩
 |copy _ h=>exact⟨show PyData.strOk ("copy":Str)=true by decide +kernel,o.2.2.1 _ h⟩
 |thing _ h=>exact⟨show PyData.strOk ("thing":Str)=true by decide +kernel,o.2.2.2.2 _ h⟩
 |room _ h=>exact⟨show PyData.strOk ("room":Str)=true by decide +kernel,o.2.2.2.1 _ h⟩
 |last _ h=>exact⟨show PyData.strOk ("room":Str)=true by decide +kernel,o.2.2.2.1 _ h⟩
theorem zY (T:Tx P w K mg a):aR P w K mg base CX0 48 a.law a.fd_law ["_law_script"] (ix K):=by
 refine T.F_law.ok dF (fun vs H Q E h=>?_) (fun cdv A outer s H vs Q E hr h=>?_)
 ·obtain⟨_,_,rfl,_⟩:=h
  rfl
 obtain⟨l,ns,rfl,hS,h63,hbits,_,k⟩:=h
 refine⟨_,(ai (aq (i:=1) dF.nd rfl (Or.inl rfl) (aC (Ae T) (hr.mono Qk) rfl T.m__law_program T.F__law_program.kp T.b__law_program .nil aD (aa (pq 0) (aa ac ae))))
  (ai (aq (i:=2) dF.nd rfl (Or.inl rfl) (aC (zZ T) (hr.mono Qk) rfl T.m_deeds_of T.F_deeds_of.kp T.b_deeds_of .nil aD (aa (pq 1) ae)))
  (ai (aq (i:=3) dF.nd rfl (Or.inl rfl) (eE mn rfl T.z_list PyProof.Rows.Boot.«list» (aa (pq 2) ae)))
  (ai (aq (i:=4) dF.nd rfl (Or.inl rfl) (eE mn rfl T.z_list PyProof.Rows.Boot.«list» (aa (aj au (pq 1) ac (fun _ _=>rfl)) ae)))
  (ai (aq (i:=5) dF.nd rfl (Or.inl rfl) (aC (zT T) (hr.mono Qk) rfl T.m_waits_of T.F_waits_of.kp T.b_waits_of .nil aD (aa (pq 3) (aa (pq 4) ae))))
  (ai (aP (PW.pt (dn (fS (eU (ba fO rfl T.z_isinstance PyProof.Rows.Boot.«isinstance» (aa (pq 5) (aa (fV (v:=.ty "list") rfl T.z_list PyProof.Rows.Boot.«list» rfl) ae))))) (dn (aA iJ (ba c9 rfl T.z_len PySem.boot_len (aa (pq 5) ae)) (ba c9 rfl T.z_len PySem.boot_len (aa (pq 2) ae)) (az _)) (dn (aA (mK hr.units) (pq 3) (pq 2) (az _)) (fP (aA (mK hr.units) (pq 4) (aj au (pq 1) ac (fun _ _=>rfl)) (az _))))))) (ak (aE eK)) aZ)
  (ai (aq (i:=6) dF.nd rfl (Or.inl rfl) (eE (Ck rfl) rfl T.z_dict PyProof.Rows.Boot.«dict» (aa (aj au (pq 1) ac (fun _ _=>rfl)) ae)))
  (ai (aq (i:=7) dF.nd rfl (Or.inl rfl) (aC (Am T) (hr.mono Qk) rfl T.m__law_ahead T.F__law_ahead.kp T.b__law_ahead .nil aD (aa (pq 2) ae)))
  (ai (aq (i:=8) dF.nd rfl (Or.inl rfl) (aC (Ah T) (hr.mono Qk) rfl T.m__law_number T.F__law_number.kp T.b__law_number .nil aD (aa (pq 2) ae)))
  (ai (bU PassesOwn.never rfl (gy rfl T.z_range (aa (ba c9 rfl T.z_len PySem.boot_len (aa (pq 2) ae)) ae)) (aM (i:=9) dF.nd rfl (Or.inl rfl))
  (ai (aq (i:=10) dF.nd rfl (Or.inl rfl) (aC (A9 T) (hr.mono Qk) rfl T.m__law_words T.F__law_words.kp T.b__law_words .nil aD (aa (pq 2) (aa (pq 7) (aa (pq 8) (aa (pq 6) (aa (pq 9) ae)))))))
  (ai (aP (PW.pt (dn (fS (eU (ba fO rfl T.z_isinstance PyProof.Rows.Boot.«isinstance» (aa (aj aF (pq 5) (pq 9) (fun _ _=>rfl)) (aa (fV (v:=.ty "list") rfl T.z_list PyProof.Rows.Boot.«list» rfl) ae))))) (fP (aA iJ (ba c9 rfl T.z_len PySem.boot_len (aa (aj aF (pq 5) (pq 9) (fun _ _=>rfl)) ae)) (ba c9 rfl T.z_len PySem.boot_len (aa (pq 10) ae)) (az _))))) (ak (aE eK)) aZ)
  (ak (bU PassesOwn.never rfl (gy rfl T.z_range (aa (ba c9 rfl T.z_len PySem.boot_len (aa (pq 10) ae)) ae)) (aM (i:=11) dF.nd rfl (Or.inl rfl))
  (ai (aq (i:=12) dF.nd rfl (Or.inl rfl) (aj aF (aj aF (pq 5) (pq 9) (fun _ _=>rfl)) (pq 11) (fun _ _=>rfl)))
  (ai (aP (PW.pt (dn (fS (eU (aC (Af T) (hr.mono Qk) rfl T.m__law_paper T.F__law_paper.kp T.b__law_paper .nil aD (aa (pq 12) (aa (ba c9 rfl T.z_len PySem.boot_len (aa (pq 2) ae)) ae))))) (fP (aA (mK hr.units) (be (aa (aj au (pq 12) ac (fun _ _=>rfl)) (aa (aj au (pq 12) ac (fun _ _=>rfl)) ae))) (aj aF (pq 10) (pq 11) (fun _ _=>rfl)) (az _))))) (ak (aE eK)) aZ)
  (ak (aP (fS (eU (aC (Aj T) (hr.mono Qk) rfl T.m__law_meets T.F__law_meets.kp T.b__law_meets .nil aD (aa (pq 2) (aa (pq 7) (aa (pq 8) (aa (pq 6) (aa (pq 9) (aa (pq 12) ae))))))))) (ak (aE eK)) aZ)))))))))
  (ak (aE eK)))))))))))),?_⟩
 have wl:(bJ ns).length=(2+ar (ns.getD 1 0) 1 % 4).toNat:=jG _ _
 have nl:(bL ns).length=(bJ ns).length-1:=List.length_dropLast
 have rl:(ay ns).length=(if ar (ns.getD 1 0) 3 % 5<3 then ar (ns.getD 1 0) 3 % 5 else 3).toNat:=jG _ _
 have rl3:(ay ns).length<=3:=by rw[rl];split<;>omega
 have nm0:0<(bL ns).length:=Qo
 obtain⟨bk0,bd,bk3⟩:=Cr (rooms:=ay ns) (most:=3) (low:=7) nm0 (dM ns 3 63)
 have tx0:=Co (rooms:=ay ns) (most:=3) (low:=7) nm0 (dM ns 3 63)
 have sub:∀x∈bL ns,x∈bJ ns:=fun x hx=>(List.dropLast_sublist _).subset hx
 have cl:(dM ns 3 63).length<=60:=by unfold dM;rw[qK];omega
 have bra:bH e7 (aJ ns):=nZ Qk Qk _
 have bfl:(ah (aJ ns)).length<=60:=qy bk3 cl
 have bl:(aJ ns).length<=60:=qy (nh _) bfl
 have brl:(aG (aJ ns)).length<=360:=by
  have h:=Cp (names:=bL ns) (rooms:=ay ns) (most:=3) (low:=7) Qk Qk (dM ns 3 63)
  change ((aG (aJ ns)).length:Int)<=_ at h
  omega
 have ml:(bh ns).length<=180:=by
  have h:=Cs (names:=bL ns) (rooms:=ay ns) (most:=3) (low:=7) Qk Qk (dM ns 3 63)
  change ((bh ns).length:Int)<=_ at h
  omega
 have fr:=uq (ay ns) (bL ns) (bh ns) nm0 _ (qf _)
 have fl:(aO ns).length<=540:=by
  have h1:=jZ (ay ns) (bL ns) (bh ns) (ay ns).length
  have:(ay ns).length * (bh ns).length<=3 * 180:=Nat.mul_le_mul rl3 ml
  unfold aO
  omega
 obtain⟨ff,_,fd⟩:=yV (ds:=aO ns) fun d hd=>by
  obtain⟨q,x,e,_⟩:=fr d hd
  exact⟨q,x,e⟩
 have hdp:aH (aO ns++aJ ns)<=12:=by rw[nO,uG fd,Nat.zero_max];exact bd
 have hfl:(ah (aO ns++aJ ns)).length<=1000:=by
  rw[dS,qc,ff]
  have:(ah (aJ ns)).length<=60:=qy bk3 cl
  omega
 have bk1:∀x∈cards (aO ns++aJ ns),x∈br (bJ ns) (ay ns):=fun x hx=>by
  rw[uX,qi]at hx
  rcases hx with hx|hx
  ·unfold cards at hx
   rw[ff]at hx
   obtain⟨d,hd,hx⟩:=List.mem_flatMap.mp hx
   obtain⟨q,y,rfl,hq,hy⟩:=fr d hd
   simp only[a8.cards,a8.names,a8.others,List.cons_append,List.nil_append,qu,qQ,or_false]at hx
   unfold br
   simp only[qi,List.mem_map]
   rcases hx with rfl|rfl
   ·exact .inl (.inl (.inl (sub _ hy)))
   ·exact .inl (.inl (.inr ⟨_,hq,rfl⟩))
  ·exact CD sub x (bk0 x hx)
 have tx:cA (bY (bJ ns) (ay ns)) (aO ns++aJ ns):=by
  refine cA.app (fun d hd s hs=>?_) fun d hd s hs=>CB sub s (tx0 d hd s hs)
  rw[ff]at hd
  obtain⟨q,y,rfl,hq,hy⟩:=fr d hd
  simp only[a8.strs,qu,qQ,or_false]at hs
  unfold bY
  simp only[qi]
  rcases hs with rfl|rfl
  ·exact .inl (.inr hq)
  ·exact .inl (.inl (sub _ hy))
 have fnr:vF (aO ns):=uo _ _ _ _
 have rA:bH e7 (aO ns++aJ ns):=by
  refine bH.app (fun d hd n b z=>?_) bra
  rw[ff]at hd
  exact absurd z (fnr d hd n b)
 have rws:aG (aO ns++aJ ns)=(aO ns).map aL++aG (aJ ns):=by rw[jx,yh fnr]
 have rwl:(aG (aO ns++aJ ns)).length<=900:=by rw[rws,qc,qa];omega
 have fed:Fed (aG (aO ns++aJ ns)):=by
  have h:=BD (rs:=ay ns) (names:=bL ns) (rows:=aG (aJ ns)) (md _) fun r hr q ho=>by
   obtain⟨x,hx⟩:=ye hr ho
   exact ve Qk Qk _ q x hx
  rw[iW]at h
  rw[rws]
  exact h
 have c64:(br (bJ ns) (ay ns)).length<64:=by rw[CG];omega
 have csh:∀q∈br (bJ ns) (ay ns),q.length<=1000:=CF
 have tok:∀s∈bY (bJ ns) (ay ns),PyData.strOk s=true:=wc
 have am:∀x∈cM ns,x∈bJ ns:=vv (qf _)
 have sm:∀s∈aN ns,s.1∈ay ns:=oW (qf _)
 have al:(cM ns).length<=5:=qy (o8 _ _ _) Qo
 have sl:(aN ns).length=(ay ns).length:=kF _ _ _ _
 have ssh:∀s∈aN ns,s.1.length<=1000:=fun s hs=>qy (jF _ _ _ (sm s hs)) Qk
 have shp:SeqAt.shaped (iP (cM ns) (aN ns) (aO ns++aJ ns))=true:=
  xO tok (fun s hs=>tok s (by unfold bY;simp[am s hs])) (fun s hs=>tok s.1 (by unfold bY;simp[sm s hs])) tx hdp
 have eqr:PyData.eqv (iP (cM ns) (aN ns) (aO ns++aJ ns)) (iP (cM ns) (aN ns) (aO ns++aJ ns))=true:=SeqAt.eqv_refl _ (SeqAt.canLay_of_shaped shp)
 have pc:∀x∈dP (cM ns) (aN ns) (aO ns++aJ ns),x∈br (bJ ns) (ay ns):=za am sm bk1
 have fewS:∀b:List a8,(∀e∈ah b,e∈ah (aO ns++aJ ns))->(srt (cards b)).length<=4000:=fun b hb=>by
  have:=i9 (gm (cards b)) fun x hx=>bk1 x (nS hb x (fE _ x hx))
  omega
 have flatOf:∀e,e∈ah (aO ns++aJ ns)->∀x∈ah [e],x∈ah (aO ns++aJ ns):=fun e he x hx=>by
  rw[ah,ah,qx]at hx
  exact gG _ e he x hx
 have smallR:∀r∈aG (aO ns++aJ ns),r.owns.length<=4000/\r.reads.length<=4000:=fun r hr=>by
  rcases fH _ r hr with⟨b,rfl,hb⟩|⟨e,he,rfl,nr⟩
  ·exact⟨fewS b hb,qt _⟩
  ·have fe:=fewS [e] (flatOf e he)
   cases e with
   |cond x t o=>exact⟨fe,qt _⟩
   |whl x b=>exact⟨fe,qt _⟩
   |rep n b=>exact⟨fe,qt _⟩
   |set x a sg b=>exact jy (qy (ig [_]) (by simp))
   |put q x=>exact jy (qy (ig [_]) (by simp))
   |get q x=>exact jy (qy (ig [_]) (by simp))
   |give x=>exact jy (qy (ig [_]) (by simp))
 have nd:((aN ns).map (·.1)).Nodup:=by
  unfold aN
  rw[kE _ _ _ _ (qf _),qH]
  exact zd _ (by split<;>omega)
 have inR:∀d∈ah (aO ns++aJ ns),∀q x,d=.put q x\/d=.get q x->q∈ay ns:=fun d hd q x e=>by
  rw[dS,ff]at hd
  rcases qi.mp hd with m|m
  ·obtain⟨q',y,e',hq,_⟩:=fr d m
   rcases e with e|e
   ·rw[e']at e;cases e;exact hq
   ·rw[e']at e;cases e
  ·rcases e with rfl|rfl
   ·exact Cq Qk Qk _ q x m
   ·exact ve Qk Qk _ q x m
 have rokR:∀r∈aG (aO ns++aJ ns),gR r:=fun r hr=>by
  rcases fH _ r hr with⟨b,rfl,hb⟩|⟨e,he,rfl,_⟩
  ·exact⟨show PyData.strOk ("gate":Str)=true by decide +kernel,fun s hs=>nU _ (bk1 s (nS hb s (fE _ s hs))),fun s hs=>(nomatch hs),fun q h=>(nomatch h),fun q h=>(nomatch h)⟩
  ·exact yj (fun c hc=>nU _ (bk1 c (Cc he c hc))) fun q x h=>tok q (by unfold bY;simp[inR e he q x h])
 have moveR:∀r∈aG (aO ns++aJ ns),∀q,(r.into=some q\/r.outof=some q)->q∈ay ns:=fun r hr q e=>by
  rcases fH _ r hr with⟨b,rfl,hb⟩|⟨d,hd,rfl,_⟩
  ·rcases e with e|e<;>cases e
  ·cases d with
   |put q' x=>
    rcases e with e|e
    ·cases e;exact inR _ hd _ x (.inl rfl)
    ·cases e
   |get q' x=>
    rcases e with e|e
    ·cases e
    ·cases e;exact inR _ hd _ x (.inr rfl)
   |_=>rcases e with e|e<;>cases e
 have one1:=md (aO ns++aJ ns)
 have mvl:(bn (aO ns++aJ ns)).length<=1000:=by
  have e1:=iW (aO ns++aJ ns)
  have hm:∀rs:List Row,(rs.flatMap bE).length<=rs.length:=fun rs=>by
   induction rs with
   |nil=>exact qf _
   |cons r t ih=>
    have h1:(bE r).length<=1:=by unfold bE;split<;>simp
    rw[qF,qc,qA]
    omega
  have:=hm (aG (aO ns++aJ ns))
  rw[e1]at this
  omega
 have mvr:=iW (aO ns++aJ ns)
 have esm:(db (cM ns) (aN ns) (aO ns++aJ ns)).owns.length<=4000:=by
  have:=i9 (gm (dP (cM ns) (aN ns) (aO ns++aJ ns))) fun x hx=>pc x (fE _ x hx)
  show(srt _).length<=4000
  omega
 have erok:gR (db (cM ns) (aN ns) (aO ns++aJ ns)):=⟨show PyData.strOk ("end":Str)=true by decide +kernel,fun s hs=>nU _ (pc s (fE _ s hs)),fun s hs=>(nomatch hs),fun q h=>(nomatch h),fun q h=>(nomatch h)⟩
 have fedA:Fed (aG (aO ns++aJ ns)++[db (cM ns) (aN ns) (aO ns++aJ ns)]):=fed.snoc rfl
 have all:∀{Pr:Row->Prop},(∀r∈aG (aO ns++aJ ns),Pr r)->Pr (db (cM ns) (aN ns) (aO ns++aJ ns))->∀r∈aG (aO ns++aJ ns)++[db (cM ns) (aN ns) (aO ns++aJ ns)],Pr r:=fun h1 h2 r hr=>by
  rcases qi.mp hr with hr|hr
  ·exact h1 r hr
  ·rw[qS.mp hr];exact h2
 have smallA:=all (Pr:=fun r=>r.owns.length<=4000/\r.reads.length<=4000) smallR ⟨esm,qt _⟩
 have rok:=all (Pr:=gR) rokR erok
 have oneA:=all (Pr:=dA) one1 (.inl rfl)
 have moveA:=all (Pr:=fun r=>∀q,(r.into=some q\/r.outof=some q)->q∈ay ns) moveR fun q e=>by rcases e with e|e<;>cases e
 have mvA:(aG (aO ns++aJ ns)++[db (cM ns) (aN ns) (aO ns++aJ ns)]).flatMap bE=bn (aO ns++aJ ns):=by
  rw[qU,mvr]
  show _++(bE (db _ _ _)++[])=_
  simp[bE,db]
 have rlA:(aG (aO ns++aJ ns)++[db (cM ns) (aN ns) (aO ns++aJ ns)]).length<=1000:=by rw[qc,List.length_singleton];omega
 have sl3:(aN ns).length<=3:=Qo
 have srm:(aN ns).map (·.1)=ay ns:=by
  unfold aN
  rw[kE _ _ _ _ (qf _),qH]
 have big:(5000000:Nat)<sizeLine:=Qk
 have spos:∀s∈aN ns,0<=s.2:=oV _ _ _ _
 have ndA:=all (Pr:=fun r=>r.owns.Nodup) (fun r hr=>by
  rcases fH _ r hr with⟨b,rfl,hb⟩|⟨e,he,rfl,nr⟩
  ·exact gm _
  ·refine yk e fun q x z=>?_
   rw[z,dS,ff]at he
   rcases qi.mp he with m|m
   ·obtain⟨q',y,e',_⟩:=fr _ m
    cases e'
   ·exact zc _ _ _ (sub x (Ct nm0 Qk Qk _ q x m))) (gm _)
 have kat:∀q n,(q,n)∈aN ns->aK (da (cZ (aN ns))) (.inr q)=some (.int n):=fun q n h=>wQ nd h
 refine⟨_,rfl,l,ns,rfl,hS,h63,bd,bra,qy ml Qk,bfl,fun H1 p la ls lb us s1 rp=>?_⟩
 refine⟨_,rfl,p,la,ls,lb,cM ns,aN ns,aO ns++aJ ns,us,br (bJ ns) (ay ns),rfl,rp,hdp,hfl,Qo,Qo,ssh,pc,c64,csh,rA,Qo,fed,fun H2 lw us2 s2 h2 hr2=>?_⟩
 have rp2:=rp.same s2
 have kin:∀q∈ay ns,∃n,(q,n)∈aN ns:=fun q hq=>by
  rw[<- srm]at hq
  obtain⟨st,hs,e⟩:=List.mem_map.mp hq
  exact⟨st.2,by rw[<- e];exact hs⟩
 have endA:∀r',(aG (aO ns++aJ ns)++[db (cM ns) (aN ns) (aO ns++aJ ns)])[(aG (aO ns++aJ ns)++[db (cM ns) (aN ns) (aO ns++aJ ns)]).length-1]?=some r'->r'.outof=none:=fun r' h=>by
  rw[qc,List.length_singleton,Nat.add_sub_cancel,qL (qf _),Nat.sub_self]at h
  cases h
  rfl
 generalize erows:aG (aO ns++aJ ns)++[db (cM ns) (aN ns) (aO ns++aJ ns)]=rows at *
 have uln:=hr2.len
 have sst:SeqAt.shaped (.list ((aN ns).map eu))=true:=xM fun st hs=>tok st.1 (by unfold bY;simp[sm st hs])
 have dat:∀(i:Nat) (r:Row),rows[i]?=some r->(cX rows (aN ns) (cF rows rows.length) (aN ns).length)[i]?=some (dU rows (dr (da (cZ (aN ns)))) i r):=fun i r h=>
  BI h (oneA r (qz h)) nd spos (fun st hs=>tX (kat st.1 st.2 hs)) (fun q e=>kin q (moveA r (qz h) q (.inl e))) (fun q e=>kin q (moveA r (qz h) q (.inr e))) fun q e=>uA fedA h e
 have wlen:(cX rows (aN ns) (cF rows rows.length) (aN ns).length).length=rows.length:=by rw[vj,j7 _ _ (qf _)]
 have dlA:∀r∈rows,∀q,r.into=some q->aK (da (cZ (aN ns))) (.inr q)=some (.int (dr (da (cZ (aN ns))) q)):=fun r hr q e=>by
  obtain⟨n,hn⟩:=kin q (moveA r hr q (.inl e))
  rw[kat q n hn,tX (kat q n hn)]
 have wrd:=fun{i r} h=>BG (rs:=rows) (ln:=dr (da (cZ (aN ns)))) (i:=i) (r:=r) h ndA oneA
 have mts:=fun{i r} h=>BH (rs:=rows) (ln:=dr (da (cZ (aN ns)))) (i:=i) (r:=r) h ndA oneA (fun q e=>uA fedA h e) endA
 refine⟨_,rfl,lw,us2,rfl,.inl (SqL.of h2),fun lh hlh=>?_⟩
 have q6:=a9.new hlh (.lst us2)
 have hlh6:upd H2 lh (.lst us2) lh=some (.lst us2):=ag
 generalize upd H2 lh (.lst us2)=H6 at q6 hlh6 ⊢
 have rp6:=rp2.same q6
 refine⟨_,rfl,p,_,_,_,rfl,rfl,SqT.of rp6.top,rfl,ls,us,rfl,.inl (SqL.of rp6.st),fun l8 hl8=>?_⟩
 have q7:=a9.new hl8 (.lst us)
 have hl87:upd H6 l8 (.lst us) l8=some (.lst us):=ag
 generalize upd H6 l8 (.lst us)=H7 at q7 hl87 ⊢
 have rp7:=rp6.same q7
 have q67:=q6.trans q7
 refine⟨_,rfl,_,rfl,lh,l8,us2,us,rows,aN ns,rfl,q7 _ _ hlh6,hr2.same q67,rlA,smallA,hl87,rp7.ro,Qo,spos,fun H8 lf ws s8 hlf rw8=>?_⟩
 have q68:=q67.trans s8
 have rp8:=rp7.same s8
 have rw8l:=rw8.len
 rw[wlen]at rw8l
 have srows:SeqAt.shaped (.list (rows.map eD))=true:=xN rok
 have erow:PyData.eqv (.list (rows.map eD)) (.list (rows.map eD))=true:=SeqAt.eqv_refl _ (SeqAt.canLay_of_shaped srows)
 have est:PyData.eqv (.list ((aN ns).map eu)) (.list ((aN ns).map eu))=true:=SeqAt.eqv_refl _ (SeqAt.canLay_of_shaped sst)
 have dr1:Dt K H8 (.ref lh) (.list (rows.map eD)):=.lst (SqL.of (s8 _ _ (q7 _ _ hlh6))) (hr2.same q68).dt
 have dr2:Dt K H8 (.ref lw) (.list (rows.map eD)):=.lst (SqL.of (q68 _ _ h2)) (hr2.same q68).dt
 have ds1:Dt K H8 (.ref l8) (.list ((aN ns).map eu)):=.lst (SqL.of (s8 _ _ hl87)) rp8.ro.dt
 have ds2:Dt K H8 (.ref ls) (.list ((aN ns).map eu)):=.lst (SqL.of rp8.st) rp8.ro.dt
 refine⟨_,rfl,_,_,_,true,rfl,.lst hlf,rfl,_,rfl,aB rfl ?_⟩
 refine⟨_,rfl,lf,ws,rfl,.inl (SqL.of hlf),_,rfl,lw,us2,rfl,.inl (SqL.of (q68 _ _ h2)),rfl,_,rfl,aB (by rw[rw8l,uln];simp) ?_⟩
 refine⟨_,rfl,_,rfl,_,_,dr1,dr2,srows,srows,_,rfl,aB (by rw[erow];rfl) ?_⟩
 refine⟨_,rfl,_,rfl,p,_,_,_,rfl,rfl,SqT.of rp8.top,rfl,_,_,ds1,ds2,sst,sst,_,rfl,aB (by rw[est];rfl) ?_⟩
 refine⟨_,rfl,p,_,_,_,rfl,rfl,SqT.of rp8.top,rfl,ls,us,cZ (aN ns),rfl,rp8.st,by rw[rp8.ro.len];simp[cZ],by simp[cZ];omega,fun i x hx=>?_,fun dl fl=>?_⟩
 ·unfold cZ at hx
  rw[qE]at hx
  obtain⟨st,hst,rfl⟩:=qP.mp hx
  have il:=(qg.mp hst).1
  have ukl:=rp8.ro.len
  obtain⟨pt,q,n,ev,es,hp⟩:=rp8.ro.at i us[i] (qd Qo)
  rw[hst]at es
  cases es
  exact⟨pt,by rw[qd Qo,ev],hp⟩
 have q10:=a9.new fl (.dK (da (cZ (aN ns))))
 have hdl:upd H8 dl (.dK (da (cZ (aN ns)))) dl=some (.dK (da (cZ (aN ns)))):=ag
 generalize da (cZ (aN ns))=kvs at *
 generalize upd H8 dl (.dK kvs)=H10 at q10 hdl ⊢
 have q2a:=q68.trans q10
 refine⟨_,rfl,lw,us2,rows,rfl,q2a _ _ h2,hr2.same q2a,rlA,smallA,fun H11 la1 as s11 hla ra=>?_⟩
 have q2b:=q2a.trans s11
 refine⟨_,rfl,lw,us2,rows,rfl,q2b _ _ h2,hr2.same q2b,rlA,fun H12 ln s12 _ hln=>?_⟩
 have q2c:=q2b.trans s12
 have LH:ik H12 lw la1 ln dl us2 as rows kvs (dr kvs):=⟨q2c _ _ h2,hr2.same q2c,s12 _ _ hla,vC s12 ra,hln,(s11.trans s12) _ _ hdl,rlA,smallA,dlA⟩
 have hlf12:=(q10.trans (s11.trans s12)) _ _ hlf
 have rw12:=rw8.same (q10.trans (s11.trans s12))
 generalize cX rows (aN ns) (cF rows rows.length) (aN ns).length=W at *
 refine⟨_,rfl,lw,us2,rfl,.inl (SqL.of LH.hl),_,rfl,Qo,Qo,?_⟩
 have ut:((us2.length:Nat):Int).toNat=rows.length:=Qo
 rw[ut]
 refine i8 (fun i σ G=>a9 H12 G/\∃v9 v10 v11 v12,σ=[some (.ref l),some (.ref p),some (.ref lw),some (.ref lh),some (.ref l8),some (.ref lf),some (.ref dl),some (.ref la1),some (.ref ln),v9,v10,v11,v12]) ⟨a9.refl _,_,_,_,_,rfl⟩ ?_ ?_
 ·rintro i σ G hi ⟨sG,v9,v10,v11,v12,rfl⟩
  rw[Int.zero_add]
  have hr':rows[i]?=some rows[i]:=qd hi
  have wi:=dat i _ hr'
  have wr:=wrd hr'
  have mt:=mts hr'
  have sm':=smallA _ (qz hr')
  generalize rows[i]=r at hr' wi wr mt sm'
  refine⟨_,rfl,_,rfl,_,rfl,_,rfl,_,rfl,lw,la1,ln,dl,us2,as,rows,kvs,dr kvs,i,r,rfl,LH.same sG,hr',fun G2 lq ps s2' hlq rq=>?_⟩
  have s3:=sG.trans s2'
  have LH3:=LH.same s3
  obtain⟨pw,uw,es,ev,hpw,rwe,hes⟩:=rw12.at i ws[i] (qd Qo)
  rw[wi]at hes
  cases hes
  have hat:atI ws (i:Int)=some (.ref pw):=bp (by rw[qd Qo,ev])
  have bP:=rwe.len
  have d7:=rq.len
  rw[<- wr,qa,<- bP]at d7
  have ni:(dU rows (dr kvs) i r).length<=9000:=by
   obtain⟨a1,a2⟩:=sm'
   have b1:=gO (cj (rows.take i)) "card" r.owns
   have b2:=gO (cj (rows.take i)) "copy" r.reads
   have b3:(fu rows i r).length<=1:=by unfold fu;split<;>simp
   have b4:(eI rows (dr kvs) i r).length<=1:=by
    unfold eI
    split
    ·split<;>simp
    ·simp
   unfold dU fj
   rw[qc,qc,qc]
   omega
  refine⟨_,rfl,_,rfl,lf,_,_,_,rfl,rfl,SqL.of (s3 _ _ hlf12),hat,_,_,_,true,rfl,.lst (s3 _ _ hpw),rfl,_,rfl,aB rfl ?_⟩
  refine⟨_,rfl,_,rfl,lf,_,_,_,rfl,rfl,SqL.of (s3 _ _ hlf12),hat,pw,uw,rfl,.inl (SqL.of (s3 _ _ hpw)),_,rfl,lq,ps,rfl,.inl (SqL.of hlq),rfl,_,rfl,aB (by rw[d7];simp) ?_⟩
  refine⟨_,rfl,lq,ps,rfl,.inl (SqL.of hlq),_,rfl,Qo,Qo,?_⟩
  have pt:((ps.length:Nat):Int).toNat=uw.length:=Qo
  rw[pt]
  refine i8 (fun j σ G3=>a9 G2 G3/\∃v11 v12,σ=[some (.ref l),some (.ref p),some (.ref lw),some (.ref lh),some (.ref l8),some (.ref lf),some (.ref dl),some (.ref la1),some (.ref ln),some (.int (i:Int)),some (.ref lq),v11,v12]) ⟨a9.refl _,_,_,rfl⟩ ?_ ?_
  ·rintro j σ G3 hj ⟨s4,v11,v12,rfl⟩
   rw[Int.zero_add]
   have s5:=s3.trans s4
   have he:(dU rows (dr kvs) i r)[j]?=some ((dU rows (dr kvs) i r)[j]' Qo):=qd _
   generalize (dU rows (dr kvs) i r)[j]' Qo=e at he
   obtain⟨me,n,en,nl⟩:=mt e (qz he)
   obtain⟨pe,he1,he2⟩:=vB rwe he
   have hatj:atI uw (j:Int)=some (.ref pe):=bp he1
   obtain⟨pq,hq1,t,rfl,ht⟩:=R2s.get rq (i:=j) (y:=(e.2.1,e.2.2)) (by rw[<- wr,qE,he];rfl)
   have hatq:atI ps (j:Int)=some (.ref t):=bp hq1
   refine⟨_,rfl,_,rfl,lf,_,_,_,rfl,rfl,SqL.of (s5 _ _ hlf12),hat,_,rfl,pw,_,_,_,rfl,rfl,SqL.of (s5 _ _ hpw),hatj,?_⟩
   obtain⟨o1,o2⟩:=me.ok (rok r (qz hr'))
   have shw:=xL o1 o2
   have eqw:PyData.eqv (.tuple [.str e.2.1,.str e.2.2]) (.tuple [.str e.2.1,.str e.2.2])=true:=SeqAt.eqv_refl _ (SeqAt.canLay_of_shaped shw)
   have hpe:=s5 _ _ he2
   refine⟨_,rfl,_,rfl,lw,us2,rfl,.inl (SqL.of (s5 _ _ LH.hl)),pe,n,e.2.1,e.2.2,us2.length,rfl,by rw[<- en];exact hpe,Qo,_,rfl,aB rfl ?_⟩
   refine⟨_,rfl,pe,_,_,_,rfl,rfl,SqT.of hpe,rfl,_,rfl,pe,_,_,_,rfl,rfl,SqT.of hpe,rfl,ln2,fun pz hpz=>?_⟩
   have s6:=a9.new hpz (.tup [.str e.2.1,.str e.2.2])
   have hz:upd G3 pz (.tup [.str e.2.1,.str e.2.2]) pz=some (.tup [.str e.2.1,.str e.2.2]):=ag
   refine⟨_,rfl,_,rfl,lq,_,_,_,rfl,rfl,SqL.of (s6 _ _ (s4 _ _ hlq)),hatq,.tuple [.str e.2.1,.str e.2.2],.tuple [.str e.2.1,.str e.2.2],.tup (SqT.of hz) (.cons (.str _) (.cons (.str _) .nil)),.tup (SqT.of (s6 _ _ (s4 _ _ ht))) (.cons (.str _) (.cons (.str _) .nil)),shw,shw,_,rfl,aB (by rw[eqw];rfl) ?_⟩
   refine⟨_,rfl,_,rfl,_,rfl,_,rfl,_,rfl,_,rfl,lw,la1,ln,dl,pe,us2,as,rows,kvs,dr kvs,i,r,e,rfl,(LH.same s5).same s6,hr',s6 _ _ hpe,me,fun G7 s7=>⟨_,rfl,aB rfl ?_⟩⟩
   exact⟨(s4.trans s6).trans s7,_,_,rfl⟩
  ·rintro σ G3 ⟨s4,v11,v12,rfl⟩
   exact⟨s3.trans s4,_,_,_,_,rfl⟩
 rintro σ G ⟨sG,v9,v10,v11,v12,rfl⟩
 exact k _
end
theorem fM (P:Params) (f:Addr) (st:Stmt) {x qual:Str}{oc:Value}{od an:Option Addr}{osl:Array (Option Value)}{kV doc pm cdv ct:Value}(l:(hk P).lookup f=some ⟨oc,od,.func (W.fnOf x qual (gf st) (fi st) (aI st) .none kV doc pm an cdv ct),osl⟩:=by k_is)
 (c:W.codeIn (hk P) cdv qual=true:=by k_is) (k:W.keepIn (hk P) (.ref f)=true:=by k_is):Fun (hk P) x qual st f (W.fnOf x qual (gf st) (fi st) (aI st) .none kV doc pm an cdv ct):=Bt l c k
theorem bP {R:List Value->Prop}(h:∀x0,R [x0]):∀us:List Value,us.length=1->R us
 |[_],_=>h _
theorem d7 {R:List Value->Prop}(h:∀x0 x1,R [x0,x1]):∀us:List Value,us.length=2->R us
 |[_,_],_=>h _ _
theorem ni {R:List Value->Prop}(h:∀x0 x1 x2,R [x0,x1,x2]):∀us:List Value,us.length=3->R us
 |[_,_,_],_=>h _ _ _
theorem u0 {R:List Value->Prop}(h:∀x0 x1 x2 x3,R [x0,x1,x2,x3]):∀us:List Value,us.length=4->R us
 |[_,_,_,_],_=>h _ _ _ _
theorem tZ {R:List Value->Prop}(h:∀x0 x1 x2 x3 x4,R [x0,x1,x2,x3,x4]):∀us:List Value,us.length=5->R us
 |[_,_,_,_,_],_=>h _ _ _ _ _
theorem AU {R:List Value->Prop}(h:∀x0 x1 x2 x3 x4 x5,R [x0,x1,x2,x3,x4,x5]):∀us:List Value,us.length=6->R us
 |[_,_,_,_,_,_],_=>h _ _ _ _ _ _
theorem mM {P:Params}{h:Heap}{mg:Str->Option Value}{x:Str}{v:Value}(X:(hk P).In h) (G:h.Ns mainGlobals mg) (e:W.nsIn (hk P) mainGlobals x=some (some v):=by k_is):mg x=some v:=W.mg_of X G e
theorem nM {P:Params}{h:Heap}{mg:Str->Option Value}{x:Str}(X:(hk P).In h) (G:h.Ns mainGlobals mg) (e:W.nsIn (hk P) mainGlobals x=some none:=by k_is):mg x=none:=W.mg_none_of X G e
set_option maxHeartbeats 0 in
theorem CA {w:World}{h:Heap}{mg:Str->Option Value}{fa:Addr}(X:(hk w.params).In h) (G:h.Ns mainGlobals mg) (hfa:mg "law"=some (.ref fa)):
 ∃fd:FuncData,(∀(s:Shared) (v:Value),BindsTo s fd ⟨[v],[]⟩ [("_law_script",v)])/\∀base:Heap,(hk w.params).In base->base.Ns mainGlobals mg->aR PySem.Challenge.rw_handflow_k22_waits_of_deeds.prog w (hk w.params) mg base CX0 48 fa fd ["_law_script"] (ix (hk w.params)):=by
 k_fill
 cases hfa.symm.trans (mM (v:=.ref 334) X G)
 have F0:=fM w.params 21 kX
 have b0:=F0.binds (ps:=["deeds","stores"]) fun _ _ _ _ _ _=>d7 fun _ _=>rfl
 have F1:=fM w.params 26 jt
 have b1:=F1.binds (ps:=["waits_by_cards","deeds","stores"]) fun _ _ _ _ _ _=>ni fun _ _ _=>rfl
 have F2:=fM w.params 33 kY
 have b2:=F2.binds (ps:=["deeds"]) fun _ _ _ _ _ _=>bP fun _=>rfl
 have F3:=fM w.params 38 jr
 have b3:=F3.binds (ps:=["cards","kind","owners"]) fun _ _ _ _ _ _=>ni fun _ _ _=>rfl
 have F4:=fM w.params 45 lF
 have b4:=F4.binds (ps:=["deeds","place"]) fun _ _ _ _ _ _=>d7 fun _ _=>rfl
 have F5:=fM w.params 54 lP
 have b5:=F5.binds (ps:=["block"]) fun _ _ _ _ _ _=>bP fun _=>rfl
 have F6:=fM w.params 61 lO
 have b6:=F6.binds (ps:=["deed"]) fun _ _ _ _ _ _=>bP fun _=>rfl
 have F7:=fM w.params 66 ju
 have b7:=F7.binds (ps:=["deed"]) fun _ _ _ _ _ _=>bP fun _=>rfl
 have F8:=fM w.params 73 l9
 have b8:=F8.binds (ps:=["deed"]) fun _ _ _ _ _ _=>bP fun _=>rfl
 have F9:=fM w.params 81 kZ
 have b9:=F9.binds (ps:=["block"]) fun _ _ _ _ _ _=>bP fun _=>rfl
 have F10:=fM w.params 88 lE
 have b10:=F10.binds (ps:=["deed"]) fun _ _ _ _ _ _=>bP fun _=>rfl
 have F11:=fM w.params 95 ly
 have b11:=F11.binds (ps:=["store"]) fun _ _ _ _ _ _=>bP fun _=>rfl
 have F12:=fM w.params 102 lH
 have b12:=F12.binds (ps:=["store"]) fun _ _ _ _ _ _=>bP fun _=>rfl
 have F13:=fM w.params 109 lN
 have b13:=F13.binds (ps:=["program"]) fun _ _ _ _ _ _=>bP fun _=>rfl
 have F14:=fM w.params 160 lJ
 have b14:=F14.binds (ps:=["program"]) fun _ _ _ _ _ _=>bP fun _=>rfl
 have F15:=fM w.params 167 lK
 have b15:=F15.binds (ps:=["block"]) fun _ _ _ _ _ _=>bP fun _=>rfl
 have F16:=fM w.params 174 kW
 have b16:=F16.binds (ps:=["block"]) fun _ _ _ _ _ _=>bP fun _=>rfl
 have F17:=fM w.params 181 kT
 have b17:=F17.binds (ps:=["rounds","body"]) fun _ _ _ _ _ _=>d7 fun _ _=>rfl
 have F18:=fM w.params 188 kU
 have b18:=F18.binds (ps:=["deed"]) fun _ _ _ _ _ _=>bP fun _=>rfl
 have F19:=fM w.params 195 lD
 have b19:=F19.binds (ps:=["kind","cards"]) fun _ _ _ _ _ _=>d7 fun _ _=>rfl
 have F20:=fM w.params 202 lM
 have b20:=F20.binds (ps:=["deeds"]) fun _ _ _ _ _ _=>bP fun _=>rfl
 have F21:=fM w.params 209 m9
 have b21:=F21.binds (ps:=["_law_script","_law_k"]) fun _ _ _ _ _ _=>d7 fun _ _=>rfl
 have F22:=fM w.params 216 m6
 have b22:=F22.binds (ps:=["_law_cell","_law_k"]) fun _ _ _ _ _ _=>d7 fun _ _=>rfl
 have F23:=fM w.params 223 lQ
 have b23:=F23.binds (ps:=["_law_found"]) fun _ _ _ _ _ _=>bP fun _=>rfl
 have F24:=fM w.params 230 m7
 have b24:=F24.binds (ps:=["_law_number_here","_law_size"]) fun _ _ _ _ _ _=>d7 fun _ _=>rfl
 have F25:=fM w.params 237 lR
 have b25:=F25.binds (ps:=["_law_word"]) fun _ _ _ _ _ _=>bP fun _=>rfl
 have F26:=fM w.params 244 lV
 have b26:=F26.binds (ps:=["_law_cell","_law_many"]) fun _ _ _ _ _ _=>d7 fun _ _=>rfl
 have F27:=fM w.params 251 lT
 have b27:=F27.binds (ps:=["_law_number_here","_law_names","_law_rooms","_law_shut"]) fun _ _ _ _ _ _=>u0 fun _ _ _ _=>rfl
 have F28:=fM w.params 258 lY
 have b28:=F28.binds (ps:=["_law_state","_law_number_here","_law_x","_law_most"]) fun _ _ _ _ _ _=>u0 fun _ _ _ _=>rfl
 have F29:=fM w.params 265 ma
 have b29:=F29.binds (ps:=["_law_cells","_law_names","_law_rooms","_law_most","_law_low"]) fun _ _ _ _ _ _=>tZ fun _ _ _ _ _=>rfl
 have F30:=fM w.params 272 m5
 have b30:=F30.binds (ps:=["_law_block_here"]) fun _ _ _ _ _ _=>bP fun _=>rfl
 have F31:=fM w.params 279 lU
 have b31:=F31.binds (ps:=["_law_moves_here","_law_q"]) fun _ _ _ _ _ _=>d7 fun _ _=>rfl
 have F32:=fM w.params 286 m8
 have b32:=F32.binds (ps:=["_law_pick","_law_peak"]) fun _ _ _ _ _ _=>d7 fun _ _=>rfl
 have F33:=fM w.params 291 jv
 have b33:=F33.binds (ps:=["_law_script","_law_most"]) fun _ _ _ _ _ _=>d7 fun _ _=>rfl
 have F34:=fM w.params 296 iH
 have b34:=F34.binds (ps:=["_law_deeds"]) fun _ _ _ _ _ _=>bP fun _=>rfl
 have F35:=fM w.params 303 lZ
 have b35:=F35.binds (ps:=["_law_deeds"]) fun _ _ _ _ _ _=>bP fun _=>rfl
 have F36:=fM w.params 310 lX
 have b36:=F36.binds (ps:=["_law_pairs","_law_card"]) fun _ _ _ _ _ _=>d7 fun _ _=>rfl
 have F37:=fM w.params 315 jw
 have b37:=F37.binds (ps:=["_law_deeds","_law_ahead_here","_law_numbers","_law_lengths","_law_k","_law_wait"]) fun _ _ _ _ _ _=>AU fun _ _ _ _ _ _=>rfl
 have F38:=fM w.params 322 lW
 have b38:=F38.binds (ps:=["_law_one","_law_many"]) fun _ _ _ _ _ _=>d7 fun _ _=>rfl
 have F39:=fM w.params 327 iG
 have b39:=F39.binds (ps:=["_law_deeds","_law_ahead_here","_law_numbers","_law_lengths","_law_k"]) fun _ _ _ _ _ _=>tZ fun _ _ _ _ _=>rfl
 have F40:=fM w.params 334 gu
 have b40:=F40.binds (ps:=["_law_script"]) fun _ _ _ _ _ _=>bP fun _=>rfl
 have t_LOOPS:(hk w.params).lookup 46=some ⟨.type "tuple",none,.seq #[vs "while" 238,vs "repeat" 239],#[]⟩:=by k_is
 have t_LOOKERS:(hk w.params).lookup 47=some ⟨.type "tuple",none,.seq #[vs "if" 241,vs "while" 242],#[]⟩:=by k_is
 have t_OUTLET_KEEPERS:(hk w.params).lookup 74=some ⟨.type "tuple",none,.seq #[vs "give" 278,vs "while" 279],#[]⟩:=by k_is
 have T:Tx PySem.Challenge.rw_handflow_k22_waits_of_deeds.prog w (hk w.params) mg (Adr.mk 21 _ 26 _ 33 _ 38 _ 45 _ 54 _ 61 _ 66 _ 73 _ 81 _ 88 _ 95 _ 102 _ 109 _ 160 _ 167 _ 174 _ 181 _ 188 _ 195 _ 202 _ 209 _ 216 _ 223 _ 230 _ 237 _ 244 _ 251 _ 258 _ 265 _ 272 _ 279 _ 286 _ 291 _ 296 _ 303 _ 310 _ 315 _ 322 _ 327 _ 334 _ 189 191 46 47 276 74 385):=Tx.mk F0 b0 (mM X G) F1 b1 (mM X G) F2 b2 (mM X G) F3 b3 (mM X G) F4 b4 (mM X G) F5 b5 (mM X G) F6 b6 (mM X G) F7 b7 (mM X G) F8 b8 (mM X G) F9 b9 (mM X G) F10 b10 (mM X G) F11 b11 (mM X G) F12 b12 (mM X G) F13 b13 (mM X G) F14 b14 (mM X G) F15 b15 (mM X G) F16 b16 (mM X G) F17 b17 (mM X G) F18 b18 (mM X G) F19 b19 (mM X G) F20 b20 (mM X G) F21 b21 (mM X G) F22 b22 (mM X G) F23 b23 (mM X G) F24 b24 (mM X G) F25 b25 (mM X G) F26 b26 (mM X G) F27 b27 (mM X G) F28 b28 (mM X G) F29 b29 (mM X G) F30 b30 (mM X G) F31 b31 (mM X G) F32 b32 (mM X G) F33 b33 (mM X G) F34 b34 (mM X G) F35 b35 (mM X G) F36 b36 (mM X G) F37 b37 (mM X G) F38 b38 (mM X G) F39 b39 (mM X G) F40 b40 (mM X G) (nM X G) (nM X G) (nM X G) (nM X G) (nM X G) (nM X G) (nM X G) (nM X G) (nM X G) (nM X G) (nM X G) (nM X G) (nM X G) (nM X G) (nM X G) (nM X G) (mM X G) (mM X G) (mM X G) (fun _=>.inr ⟨_,_,_,t_LOOPS,rfl,rfl,Qk,.cons ⟨_,rfl⟩ (.cons ⟨_,rfl⟩ (.nil))⟩) (mM X G) (fun _=>.inr ⟨_,_,_,t_LOOKERS,rfl,rfl,Qk,.cons ⟨_,rfl⟩ (.cons ⟨_,rfl⟩ (.nil))⟩) (mM X G) (mM X G) (fun _=>.inr ⟨_,_,_,t_OUTLET_KEEPERS,rfl,rfl,Qk,.cons ⟨_,rfl⟩ (.cons ⟨_,rfl⟩ (.nil))⟩) (mM X G)
 exact⟨_,fun s v=>.of_eq rfl,fun base _ _=>zY T⟩
theorem vX {l:W.OpenLaw}{q:Program}{loose:List Str}{XP:(Str->Option Value)->Heap->Prop}{YP:World->Heap->Prop}{d:DefRec}{K:Params->W.Frag}(hn:l.most=some 63) (hdf:d.params.defaults=[])
 (hY:∀(w:World) (h:Heap),YP w h->(K w.params).In h)
 (F:∀(w:World) (mg:Str->Option Value) (fa:Addr) (h:Heap),(K w.params).In h->h.Ns mainGlobals mg->mg d.name=some (.ref fa)->
  ∃fd:FuncData,(∀(s:Shared) (u:Value),BindsTo s fd ⟨[u],[]⟩ [("_law_script",u)])/\∀base:Heap,(K w.params).In base->base.Ns mainGlobals mg->aR l.prog w (K w.params) mg base CX0 48 fa fd ["_law_script"] (ix (K w.params))):
 W.WalkO q loose XP YP l.row.toRowW d [] (fun f vs=>PySem.call f vs):=
 L2.vW (n:=63) (k:=48) (x:="_law_script") (CX:=fun _=>CX0) (sp:=fun w=>ix (K w.params)) hn Qk hdf ⟨rfl,Qk,Qk,rfl⟩ hY F (fun _ _ a ns hl hb hO hS=>⟨a,ns,rfl,hS,hl,hb,hO,fun _=>rfl⟩) fun _ _ _ _ _ z=>z
noncomputable def BK:PySem.DefRec:=⟨"law",gf gu,fi gu,aI gu,defPos gu⟩
theorem ui {p:Program}{w:World}{A:Option Value}:∀{m:Nat}{x x':W.SharedT}{y:Thread},goT p w A m x y=some x'->W.topRun PySem.treeTable p w 11 A m x.abs y=some x'.abs
 |0,_,_,_,h=>nomatch h
 |m+1,x,x',y,h=>by
  unfold goT at h;unfold W.topRun
  cases a:W.through y with
  |true=>rw[a]at h;cases h;rfl
  |false=>
   rw[a]at h
   cases b:W.stepOk 11 A y with
   |false=>rw[b]at h;cases h
   |true=>
    rw[b]at h
    cases c:W.stepT (denote PySem.treeTable) p w x y with
    |none=>rw[c]at h;cases h
    |some z=>rw[c]at h;rw[W.stepT_spec c];exact ui h
theorem AV {p q:Program}{loose:List Str}{Xt:Shared->Bool}{α:Type}{Yf:Shared->α}{Ya:World->α}{N:Nat}(e:W.opening p=W.plainProg p.main.scope.names) (hN:Nat.ble 600 N=true) (f:∀s,fenceModules? p s=some s)
 (H:∀w,EndsT p q loose Xt Yf Ya N w):W.LeftO p q loose Xt Yf Ya N:=fun w=>by
 obtain⟨⟨h,gs,d,k,os⟩,u,u'⟩:=qP.mp (W.boot_open e hN f w)
 obtain⟨rfl,rfl,rfl,rfl⟩:h=W.boot_heap w.params/\gs=#[]/\d=W.boot_drawn/\k=W.boot_toks:=by simpa using u'
 obtain⟨s,r,l⟩:=qP.mp (H w os)
 have r:=ui r
 rw[bs_is]at r
 obtain⟨l1,l2,l3⟩:_/\_/\_:=by simpa only[Prod.mk.injEq]using l
 have z1:((W.boot_heap w.params).isNs mainGlobals && (#[]:Array GenState).size == 0)=true:=by kernel_rfl
 have z2:(W.boot_heap w.params).objs.size=11:=by kernel_rfl
 have t:W.topFrom PySem.treeTable p w N ⟨W.boot_heap w.params,#[],W.boot_drawn,W.boot_toks,os⟩=some s.abs:=by
  unfold W.topFrom
  dsimp only
  rw[z1,z2,r]
  show(match W.staticsOk (PySem.importedModules p.main.body) (W.boot_heap w.params) s.abs.heap && W.namesBound p s.abs.heap && W.gensDone s.abs && W.laidKept (W.boot_heap w.params) s.abs.heap with|true=>_|false=>_)=_
  rw[l1]
 unfold W.openEnds
 rw[u]
 show(W.topFrom PySem.treeTable p w N _).map _=_
 rw[t]
 exact congrArg some (Prod.ext l2 l3)
set_option maxHeartbeats 0 in
theorem left:W.LeftO PySem.Challenge.pw_handflow_k22_waits_of_deeds vw [] xt hkH.obs hkH.val 4224:=AV (by kernel_rfl) Qk (fun _=>by kernel_rfl) leftF
set_option maxHeartbeats 0 in
theorem said:W.OpenLaw.wellSaid PySem.Challenge.rw_handflow_k22_waits_of_deeds=true:=by kernel_rfl
end K22
open PySem PySem.W PyProof.Rows
set_option maxRecDepth 100000 in
set_option maxHeartbeats 0 in
theorem PySem.Challenge.cw_handflow_k22_waits_of_deeds_holds : PySem.Challenge.rw_handflow_k22_waits_of_deeds.Holds := by
 w_on;refine holds_law K22.said fun said=>?_
 refine holds_open (q:=K22.vw) (loose:=[]) (Xt:=K22.xt) (XP:=XL K22.vw []) (Yf:=Hook.obs K22.hkH) (Ya:=Hook.val K22.hkH) (YP:=Hook.says K22.hkH) (d:=K22.BK) (kwd:=[]) (N:=4224) K22.left (Hook.of K22.hkH) (Hook.keeps K22.hkH) (fun s e=>xl_of s (Bool.and_eq_true_iff.mp e).1) XL.keeps (by kernel_rfl) (by kernel_rfl) (by kernel_rfl) (fun s e=>recFacts_of (Bool.and_eq_true_iff.mp e).2) (by rfl) (by first|assumption|decide +kernel) (by decide +kernel) ⟨rfl,rfl,rfl,rfl,rfl,by decide +kernel⟩ ?hw ?hc
 (case hw=>w_witness2)
 refine K22.vX (l:=PySem.Challenge.rw_handflow_k22_waits_of_deeds) rfl (by kernel_rfl) (K:=K22.hk) (fun w h Y=>PySem.W.kIn_of (K:=K22.hk) (as:=K22.hks) (e:=K22.hk_as) Y) ?F
 case F=>exact fun w mg fa h X G e=>K22.CA X G e
