import PyProof.Rows.All
import Wide.All
import OpenK.AllK
import Wide.FinOn
import Lean
import PyProof.EqAt
import PyProof.EqKinds
import PyProof.TupleCall
import PySem.Challenge.RW_handflow_k31_one_giver_one_taker
set_option Elab.async false
set_option linter.all false
set_option maxRecDepth 100000
section
open PySem PySem.Spec PyProof.Rows PySem.W
theorem Qd {p:Prop}(h:p:=by decide +kernel):p:=h
theorem Qk {p:Prop}(h:p:=by decide):p:=h
theorem Qo {p:Prop}(h:p:=by omega):p:=h
abbrev Qq:=Value->Shared->Prop
def q4:=@wpAny_bind
def q5:=@List.length_map
def q9:=@Heap.get?_push_of_some
def qa:=@List.length_append
def qb:=@List.getElem?_eq_getElem
def qc:=@wpAny_pure
def qd:=@Nat.le_refl
def qe:=@List.getElem?_eq_some_iff
def qf:=@PySem.F.plainAttrs_list
def qg:=@List.mem_append
def qh:=@Bool.false_ne_true
def qi:=@List.getD_eq_getElem?_getD
def qj:=@List.mem_cons_of_mem
def qk:=@List.mem_cons_self
def qo:=@Heap.get?_push_size
def qp:=@Heap.lt_size
def qq:=@List.take_add_one
def qr:=@Nat.zero_le
def qt:=@List.mem_cons
def qu:=@PySem.F.slot_list_append
def qv:=@PySem.F.type_list_append
def qw:=@List.append_nil
def qx:=@Nat.le_trans
def qy:=@List.mem_of_getElem?
def qz:=@List.length_cons
def qA:=@List.size_toArray
def qC:=@Nat.lt_of_lt_of_le
def qD:=@List.getElem?_map
def qE:=@List.flatMap_cons
def qF:=@Nat.ne_of_lt
def qG:=@List.take_length
def qH:=@List.mem_append_right
def qI:=@Option.some.inj
def qJ:=@List.length_take
def qK:=@List.getElem?_append_right
def qL:=@Array.length_toList
def qM:=@List.append_assoc
def qO:=@List.map_append
def qP:=@Option.map_eq_some_iff
def qQ:=@List.not_mem_nil
def qR:=@List.map_cons
def qS:=@List.mem_singleton
def qT:=@Array.getElem?_toList
def qU:=@List.flatMap_append
def qV:=@List.mem_append_left
def qW:=@wpAny_setState_of
def qX:=@Int.toNat_natCast
def qY:=@List.length_drop
def qZ:=@if_neg
def Q0:=@if_pos
end
namespace L2
open PySem PySem.Spec PyProof.Rows PySem.W
def inClass (s:Stmt) (j:Nat):Stmt:=match s with
 |.ClassDef _ _ _ body _ _ _ _ _ _ _=>body.getD j (.Pass ⟨0,0,0,0⟩)
 |_=>.Pass ⟨0,0,0,0⟩
def ff (s:Stmt):Arguments:=match s with
 |.FunctionDef _ a _ _ _ _ _ _ _ _=>a
 |_=>{ posonlyargs:=[],args:=[],vararg:=none,kwonlyargs:=[],kw_defaults:=[],kwarg:=none,defaults:=[] }
def dU (s:Stmt):List Stmt:=match s with
 |.FunctionDef _ _ b _ _ _ _ _ _ _=>b
 |_=>[]
def aB (s:Stmt):Scope:=match s with
 |.FunctionDef _ _ _ _ _ _ sc _ _ _=>sc
 |_=>{ kind:=.function,names:=[],isGenerator:=false,isCoroutine:=false }
end L2
namespace K31
open PySem L2
def top (i:Nat):Stmt:=PySem.Challenge.pw_handflow_k31_one_giver_one_taker.main.body.getD i (.Pass ⟨0,0,0,0⟩)
noncomputable def defPos (s:Stmt):Pos:=match s with
 |.FunctionDef _ _ _ _ _ _ _ _ _ p=>p
 |_=>⟨0,0,0,0⟩
abbrev vs (x:String) (t:Nat):Value:=.str (Str.ofString x) t
abbrev de (P:Params) (x:String) (t:Nat) (v:Value):DictEntry:=⟨PyData.keyHash P (Str.ofString x),vs x t,v⟩
abbrev co (a b:String) (t l n r:Nat) (x y z u:Value) (m:Nat):Obj:=Obj.mk (.type "code") none (Data.fields #[vs a t,vs b (t+1),vs "/claim/cut.py" (t+2),.int l 0,.int n 0,.int 0 0,.int 0 0,.int 3 0,.ref r,.bool true,.int 181 0,.ref (r+1),x,y,z,u,.int m 0,.int l 0,vs "/claim/cut.py" (m+1)]) #[]
abbrev fo (a b:String) (s:Stmt) (m:String) (t c:Nat):Obj:=Obj.mk (.type "function") none (.func (PySem.W.fnOf a b (ff s) (dU s) (aB s) .none .none .none (vs m t) none (.ref c) .none)) #[]
noncomputable def hk:Params->PySem.W.Frag:=fun P=>
 (nat_lit 2,Obj.mk .none none (Data.dict #[]) #[]) ::
 (nat_lit 3,Obj.mk (.type "dict") none (Data.dict #[de P "__name__" 165 (vs "law_handflow_k31_one_giver_one_taker" 526),de P "__doc__" 166 .none,de P "__package__" 167 .none,de P "__loader__" 168 (.builtin "__main__.__loader__#opaque"),de P "__spec__" 169 .none,de P "__annotations__" 170 (.ref 6),de P "__builtins__" 171 (.ref 4),de P "__file__" 173 (vs "/claim/cut.py" 172),de P "__cached__" 174 .none,de P "LOOPS" 191 (.ref 15),de P "LOOKERS" 194 (.ref 16),de P "named" 203 (.ref 23),de P "variables_of" 210 (.ref 30),de P "all_deeds" 220 (.ref 37),de P "blocks_within" 227 (.ref 44),de P "names_in" 233 (.ref 49),de P "read_by_set" 240 (.ref 56),de P "OUTLET" 244 (vs ">" 243),de P "OUTLET_KEEPERS" 247 (.ref 57),de P "touched" 256 (.ref 64),de P "other_cards_in" 263 (.ref 71),de P "put_card" 270 (.ref 78),de P "get_card" 277 (.ref 85),de P "cards_of" 287 (.ref 92),de P "WHEEL" 291 (.int 1000000000000000000000000000000 290),de P "beginnings" 297 (.ref 97),de P "Bench" 370 (.ref 145),de P "bench_for" 383 (.ref 156),de P "lay_single" 394 (.ref 163),de P "lay_fork" 403 (.ref 170),de P "lay_set" 409 (.ref 175),de P "side_of" 417 (.ref 182),de P "lay_handing" 429 (.ref 189),de P "lay_get" 441 (.ref 196),de P "net_of" 452 (.ref 203),de P "lay_block" 461 (.ref 210),de P "lay_through" 471 (.ref 217),de P "lay_if" 487 (.ref 224),de P "lay_while" 496 (.ref 231),de P "lay_repeat" 510 (.ref 238),de P "lay_loop" 525 (.ref 245),de P "_law_names" 533 (.ref 250),de P "_law_pick" 543 (.ref 257),de P "_law_value" 552 (.ref 264),de P "_law_set" 564 (.ref 271),de P "_law_simple" 576 (.ref 278),de P "_law_body" 596 (.ref 285),de P "_law_program" 602 (.ref 290),de P "_law_numbers" 608 (.ref 295),de P "_law_taken" 615 (.ref 302),de P "_law_given" 622 (.ref 309),de P "_law_flat" 631 (.ref 316),de P "_law_whole" 638 (.ref 323),de P "_law_counted" 648 (.ref 330),de P "_law_ends" 654 (.ref 335),de P "law" 668 (.ref 342)] 56) #[]) ::
 (nat_lit 15,Obj.mk (.type "tuple") none (Data.seq #[vs "while" 189,vs "repeat" 190]) #[]) ::
 (nat_lit 16,Obj.mk (.type "tuple") none (Data.seq #[vs "if" 192,vs "while" 193]) #[]) ::
 (nat_lit 22,co "named" "named" 195 4 1 17 .none (.ref 19) (.ref 20) (.ref 21) 201) ::
 (nat_lit 23,fo "named" "named" (top 3) "handflow.tree" 187 22) ::
 (nat_lit 29,co "variables_of" "variables_of" 204 9 1 24 .none (.ref 26) (.ref 27) (.ref 28) 208) ::
 (nat_lit 30,fo "variables_of" "variables_of" (top 4) "handflow.tree" 187 29) ::
 (nat_lit 36,co "all_deeds" "all_deeds" 211 11 1 31 .none (.ref 33) (.ref 34) (.ref 35) 218) ::
 (nat_lit 37,fo "all_deeds" "all_deeds" (top 5) "handflow.tree" 187 36) ::
 (nat_lit 43,co "blocks_within" "blocks_within" 221 18 1 38 .none (.ref 40) (.ref 41) (.ref 42) 225) ::
 (nat_lit 44,fo "blocks_within" "blocks_within" (top 6) "handflow.tree" 187 43) ::
 (nat_lit 48,co "names_in" "names_in" 228 24 1 45 .none .none .none (.ref 47) 231) ::
 (nat_lit 49,fo "names_in" "names_in" (top 7) "handflow.tree" 187 48) ::
 (nat_lit 55,co "read_by_set" "read_by_set" 234 31 1 50 .none (.ref 52) (.ref 53) (.ref 54) 238) ::
 (nat_lit 56,fo "read_by_set" "read_by_set" (top 8) "handflow.tree" 187 55) ::
 (nat_lit 57,Obj.mk (.type "tuple") none (Data.seq #[vs "give" 245,vs "while" 246]) #[]) ::
 (nat_lit 63,co "touched" "touched" 248 36 1 58 .none (.ref 60) (.ref 61) (.ref 62) 254) ::
 (nat_lit 64,fo "touched" "touched" (top 12) "handflow.cards" 241 63) ::
 (nat_lit 70,co "other_cards_in" "other_cards_in" 257 42 1 65 .none (.ref 67) (.ref 68) (.ref 69) 261) ::
 (nat_lit 71,fo "other_cards_in" "other_cards_in" (top 13) "handflow.cards" 241 70) ::
 (nat_lit 77,co "put_card" "put_card" 264 48 1 72 .none (.ref 74) (.ref 75) (.ref 76) 268) ::
 (nat_lit 78,fo "put_card" "put_card" (top 14) "handflow.cards" 241 77) ::
 (nat_lit 84,co "get_card" "get_card" 271 50 1 79 .none (.ref 81) (.ref 82) (.ref 83) 275) ::
 (nat_lit 85,fo "get_card" "get_card" (top 15) "handflow.cards" 241 84) ::
 (nat_lit 91,co "cards_of" "cards_of" 278 52 1 86 .none (.ref 88) (.ref 89) (.ref 90) 285) ::
 (nat_lit 92,fo "cards_of" "cards_of" (top 16) "handflow.cards" 241 91) ::
 (nat_lit 96,co "beginnings" "beginnings" 292 59 2 93 .none .none .none (.ref 95) 295) ::
 (nat_lit 97,fo "beginnings" "beginnings" (top 19) "handflow.wheel" 288 96) ::
 (nat_lit 110,co "__init__" "Bench.__init__" 312 67 1 105 .none (.ref 107) (.ref 108) (.ref 109) 316) ::
 (nat_lit 111,fo "__init__" "Bench.__init__" (inClass (top 21) 0) "handflow.bench" 298 110) ::
 (nat_lit 117,co "add_line" "Bench.add_line" 319 73 3 112 .none (.ref 114) (.ref 115) (.ref 116) 325) ::
 (nat_lit 118,fo "add_line" "Bench.add_line" (inClass (top 21) 1) "handflow.bench" 298 117) ::
 (nat_lit 122,co "add_wires" "Bench.add_wires" 328 77 2 119 .none .none .none (.ref 121) 331) ::
 (nat_lit 123,fo "add_wires" "Bench.add_wires" (inClass (top 21) 2) "handflow.bench" 298 122) ::
 (nat_lit 129,co "add_part" "Bench.add_part" 334 80 2 124 .none (.ref 126) (.ref 127) (.ref 128) 339) ::
 (nat_lit 130,fo "add_part" "Bench.add_part" (inClass (top 21) 3) "handflow.bench" 298 129) ::
 (nat_lit 134,co "wires_of" "Bench.wires_of" 342 83 2 131 .none .none .none (.ref 133) 345) ::
 (nat_lit 135,fo "wires_of" "Bench.wires_of" (inClass (top 21) 4) "handflow.bench" 298 134) ::
 (nat_lit 141,co "lead" "Bench.lead" 348 86 3 136 .none (.ref 138) (.ref 139) (.ref 140) 356) ::
 (nat_lit 142,fo "lead" "Bench.lead" (inClass (top 21) 5) "handflow.bench" 298 141) ::
 (nat_lit 143,Obj.mk (.type "tuple") none (Data.seq #[vs "coming" 359,vs "ends" 360,vs "lines" 361,vs "parts" 362]) #[]) ::
 (nat_lit 144,Obj.mk (.type "dict") none (Data.dict #[de P "__module__" 307 (vs "handflow.bench" 298),de P "__firstlineno__" 311 (.int 65 310),de P "__init__" 318 (.ref 111),de P "add_line" 327 (.ref 118),de P "add_wires" 333 (.ref 123),de P "add_part" 341 (.ref 130),de P "wires_of" 347 (.ref 135),de P "lead" 358 (.ref 142),de P "__static_attributes__" 363 (.ref 143),de P "__dict__" 365 (.ref 146),de P "__weakref__" 367 (.ref 147),de P "__doc__" 368 .none] 4) #[]) ::
 (nat_lit 145,Obj.mk (.type "type") none (Data.cls (ClassData.mk (Str.ofString "Bench") [.type "object"] [.ref 145,.type "object"] 144 (Str.ofString "Bench") true [] [] false none false)) #[none,none,some (vs "Bench" 300),some (vs "Bench" 308),some (.builtin "object.__new__"),some (.bool true)]) ::
 (nat_lit 146,Obj.mk (.type "getset_descriptor") none (Data.fields #[vs "__dict__" 364,.ref 145,.builtin "function.__dict__",.builtin "function.__dict__#set"]) #[]) ::
 (nat_lit 147,Obj.mk (.type "getset_descriptor") none (Data.fields #[vs "__weakref__" 366,.ref 145,.builtin "ExceptionGroup.__weakref__",.none]) #[]) ::
 (nat_lit 155,co "bench_for" "bench_for" 371 89 2 150 .none (.ref 152) (.ref 153) (.ref 154) 381) ::
 (nat_lit 156,fo "bench_for" "bench_for" (top 22) "handflow.bench" 298 155) ::
 (nat_lit 162,co "lay_single" "lay_single" 386 99 2 157 .none (.ref 159) (.ref 160) (.ref 161) 392) ::
 (nat_lit 163,fo "lay_single" "lay_single" (top 24) "handflow.single" 384 162) ::
 (nat_lit 169,co "lay_fork" "lay_fork" 395 109 2 164 .none (.ref 166) (.ref 167) (.ref 168) 401) ::
 (nat_lit 170,fo "lay_fork" "lay_fork" (top 25) "handflow.single" 384 169) ::
 (nat_lit 174,co "lay_set" "lay_set" 404 114 2 171 .none .none .none (.ref 173) 407) ::
 (nat_lit 175,fo "lay_set" "lay_set" (top 26) "handflow.single" 384 174) ::
 (nat_lit 181,co "side_of" "side_of" 410 122 2 176 .none (.ref 178) (.ref 179) (.ref 180) 415) ::
 (nat_lit 182,fo "side_of" "side_of" (top 27) "handflow.single" 384 181) ::
 (nat_lit 188,co "lay_handing" "lay_handing" 418 126 4 183 .none (.ref 185) (.ref 186) (.ref 187) 427) ::
 (nat_lit 189,fo "lay_handing" "lay_handing" (top 28) "handflow.single" 384 188) ::
 (nat_lit 195,co "lay_get" "lay_get" 430 131 3 190 .none (.ref 192) (.ref 193) (.ref 194) 439) ::
 (nat_lit 196,fo "lay_get" "lay_get" (top 29) "handflow.single" 384 195) ::
 (nat_lit 202,co "net_of" "net_of" 444 138 2 197 .none (.ref 199) (.ref 200) (.ref 201) 450) ::
 (nat_lit 203,fo "net_of" "net_of" (top 31) "handflow.netmaker" 442 202) ::
 (nat_lit 209,co "lay_block" "lay_block" 453 143 2 204 .none (.ref 206) (.ref 207) (.ref 208) 459) ::
 (nat_lit 210,fo "lay_block" "lay_block" (top 32) "handflow.netmaker" 442 209) ::
 (nat_lit 216,co "lay_through" "lay_through" 462 153 4 211 .none (.ref 213) (.ref 214) (.ref 215) 469) ::
 (nat_lit 217,fo "lay_through" "lay_through" (top 33) "handflow.netmaker" 442 216) ::
 (nat_lit 223,co "lay_if" "lay_if" 472 157 2 218 .none (.ref 220) (.ref 221) (.ref 222) 485) ::
 (nat_lit 224,fo "lay_if" "lay_if" (top 34) "handflow.netmaker" 442 223) ::
 (nat_lit 230,co "lay_while" "lay_while" 488 169 2 225 .none (.ref 227) (.ref 228) (.ref 229) 494) ::
 (nat_lit 231,fo "lay_while" "lay_while" (top 35) "handflow.netmaker" 442 230) ::
 (nat_lit 237,co "lay_repeat" "lay_repeat" 497 172 3 232 .none (.ref 234) (.ref 235) (.ref 236) 508) ::
 (nat_lit 238,fo "lay_repeat" "lay_repeat" (top 36) "handflow.netmaker" 442 237) ::
 (nat_lit 244,co "lay_loop" "lay_loop" 511 183 5 239 .none (.ref 241) (.ref 242) (.ref 243) 523) ::
 (nat_lit 245,fo "lay_loop" "lay_loop" (top 37) "handflow.netmaker" 442 244) ::
 (nat_lit 249,co "_law_names" "_law_names" 528 192 1 246 .none .none .none (.ref 248) 531) ::
 (nat_lit 250,fo "_law_names" "_law_names" (top 39) "law_handflow_k31_one_giver_one_taker" 526 249) ::
 (nat_lit 256,co "_law_pick" "_law_pick" 534 198 4 251 .none (.ref 253) (.ref 254) (.ref 255) 541) ::
 (nat_lit 257,fo "_law_pick" "_law_pick" (top 40) "law_handflow_k31_one_giver_one_taker" 526 256) ::
 (nat_lit 263,co "_law_value" "_law_value" 544 200 2 258 .none (.ref 260) (.ref 261) (.ref 262) 550) ::
 (nat_lit 264,fo "_law_value" "_law_value" (top 41) "law_handflow_k31_one_giver_one_taker" 526 263) ::
 (nat_lit 270,co "_law_set" "_law_set" 553 207 3 265 .none (.ref 267) (.ref 268) (.ref 269) 562) ::
 (nat_lit 271,fo "_law_set" "_law_set" (top 42) "law_handflow_k31_one_giver_one_taker" 526 270) ::
 (nat_lit 277,co "_law_simple" "_law_simple" 565 212 5 272 .none (.ref 274) (.ref 275) (.ref 276) 574) ::
 (nat_lit 278,fo "_law_simple" "_law_simple" (top 43) "law_handflow_k31_one_giver_one_taker" 526 277) ::
 (nat_lit 284,co "_law_body" "_law_body" 577 221 3 279 .none (.ref 281) (.ref 282) (.ref 283) 594) ::
 (nat_lit 285,fo "_law_body" "_law_body" (top 44) "law_handflow_k31_one_giver_one_taker" 526 284) ::
 (nat_lit 289,co "_law_program" "_law_program" 597 253 1 286 .none .none .none (.ref 288) 600) ::
 (nat_lit 290,fo "_law_program" "_law_program" (top 45) "law_handflow_k31_one_giver_one_taker" 526 289) ::
 (nat_lit 294,co "_law_numbers" "_law_numbers" 603 260 1 291 .none .none .none (.ref 293) 606) ::
 (nat_lit 295,fo "_law_numbers" "_law_numbers" (top 46) "law_handflow_k31_one_giver_one_taker" 526 294) ::
 (nat_lit 301,co "_law_taken" "_law_taken" 609 262 1 296 .none (.ref 298) (.ref 299) (.ref 300) 613) ::
 (nat_lit 302,fo "_law_taken" "_law_taken" (top 47) "law_handflow_k31_one_giver_one_taker" 526 301) ::
 (nat_lit 308,co "_law_given" "_law_given" 616 266 1 303 .none (.ref 305) (.ref 306) (.ref 307) 620) ::
 (nat_lit 309,fo "_law_given" "_law_given" (top 48) "law_handflow_k31_one_giver_one_taker" 526 308) ::
 (nat_lit 315,co "_law_flat" "_law_flat" 623 272 1 310 .none (.ref 312) (.ref 313) (.ref 314) 629) ::
 (nat_lit 316,fo "_law_flat" "_law_flat" (top 49) "law_handflow_k31_one_giver_one_taker" 526 315) ::
 (nat_lit 322,co "_law_whole" "_law_whole" 632 281 1 317 .none (.ref 319) (.ref 320) (.ref 321) 636) ::
 (nat_lit 323,fo "_law_whole" "_law_whole" (top 50) "law_handflow_k31_one_giver_one_taker" 526 322) ::
 (nat_lit 329,co "_law_counted" "_law_counted" 639 283 2 324 .none (.ref 326) (.ref 327) (.ref 328) 646) ::
 (nat_lit 330,fo "_law_counted" "_law_counted" (top 51) "law_handflow_k31_one_giver_one_taker" 526 329) ::
 (nat_lit 334,co "_law_ends" "_law_ends" 649 290 2 331 .none .none .none (.ref 333) 652) ::
 (nat_lit 335,fo "_law_ends" "_law_ends" (top 52) "law_handflow_k31_one_giver_one_taker" 526 334) ::
 (nat_lit 341,co "law" "law" 655 301 1 336 .none (.ref 338) (.ref 339) (.ref 340) 666) ::
 (nat_lit 342,fo "law" "law" (top 53) "law_handflow_k31_one_giver_one_taker" 526 341) ::
 []
noncomputable def hks:List Addr:=[2,3,15,16,22,23,29,30,36,37,43,44,48,49,55,56,57,63,64,70,71,77,78,84,85,91,92,96,97,110,111,117,118,122,123,129,130,134,135,141,142,143,144,145,146,147,155,156,162,163,169,170,174,175,181,182,188,189,195,196,202,203,209,210,216,217,223,224,230,231,237,238,244,245,249,250,256,257,263,264,270,271,277,278,284,285,289,290,294,295,301,302,308,309,315,316,322,323,329,330,334,335,341,342]
theorem hk_as:∀P,hks=(hk P).map (·.1):=fun _=>by kernel_rfl
noncomputable def vw:Program:=PySem.W.view PySem.Challenge.pw_handflow_k31_one_giver_one_taker [1,2,3,4,5,6,7,8,10,11,12,13,14,15,16,18,19,21,22,24,25,26,27,28,29,31,32,33,34,35,36,37,39,40,41,42,43,44,45,46,47,48,49,50,51,52,53]
noncomputable def hkH:PySem.W.Hook:=PySem.W.kHook hk hks hk_as
noncomputable def xt (s:Shared):Bool:=PySem.W.xlAt vw [] s && PySem.W.recOk (PySem.W.RowW.records (PySem.W.OpenRow.toRowW (PySem.W.OpenLaw.row PySem.Challenge.rw_handflow_k31_one_giver_one_taker))) s
noncomputable def bt (P:Params):PySem.W.BT:=(.node (PySem.W.boot_o_0 P) (.node (PySem.W.boot_o_1 P) (.node (PySem.W.boot_o_3 P) (.node (PySem.W.boot_o_7 P) .nil .nil) .nil) (.node (PySem.W.boot_o_5 P) (.node (PySem.W.boot_o_9 P) .nil .nil) .nil)) (.node (PySem.W.boot_o_2 P) (.node (PySem.W.boot_o_4 P) (.node (PySem.W.boot_o_8 P) .nil .nil) .nil) (.node (PySem.W.boot_o_6 P) (.node (PySem.W.boot_o_10 P) .nil .nil) .nil)))
theorem bt_is (P:Params):PySem.W.absHeap (bt P) 11 {}=PySem.W.boot_heap P:=by kernel_rfl
noncomputable def bs (P:Params) (os:OsState):PySem.W.SharedT:=⟨bt P,11,{},#[],PySem.W.boot_drawn,PySem.W.boot_toks,os⟩
theorem bs_is (P:Params) (os:OsState):(bs P os).abs=⟨PySem.W.boot_heap P,#[],PySem.W.boot_drawn,PySem.W.boot_toks,os⟩:=by
 unfold bs PySem.W.SharedT.abs;rw[bt_is]
def goT (p:Program) (w:World) (A:Option Value):Nat->PySem.W.SharedT->Thread->Option PySem.W.SharedT
 |0,_,_=>none
 |m+1,x,y=>match PySem.W.through y with
  |true=>some x
  |false=>match PySem.W.stepOk 11 A y with
   |false=>none
   |true=>match PySem.W.stepT (denote PySem.treeTable) p w x y with
    |none=>none
    |some (x',y')=>goT p w A m x' y'
noncomputable abbrev annB (w:World):Option Value:=(PySem.W.boot_heap w.params).nsMap mainGlobals "__annotations__"
def EndsT (p q:Program) (loose:List Str) (Xt:Shared->Bool) {α:Type}(Yf:Shared->α) (Ya:World->α) (N:Nat) (w:World):Prop:=
 ∀os:OsState,(goT p w (annB w) N (bs w.params os) (PySem.W.topStub p)).map (fun s=>(PySem.W.staticsOk (PySem.importedModules p.main.body) (PySem.W.boot_heap w.params) s.abs.heap && PySem.W.namesBound p s.abs.heap && PySem.W.gensDone s.abs && PySem.W.laidKept (PySem.W.boot_heap w.params) s.abs.heap,PySem.W.openSeen q loose (PySem.importedModules p.main.body) Xt true s.abs,Yf s.abs))=some (true,PySem.W.openGood q loose,Ya w)
set_option maxHeartbeats 0 in
theorem leftF:∀w:World,EndsT PySem.Challenge.pw_handflow_k31_one_giver_one_taker vw [] xt hkH.obs hkH.val 3664 w:=fun w os=>by kernel_rfl
end K31
namespace L2
open PySem PySem.Spec PyProof.Rows
abbrev Key:=Sum Int Str
def fI:Key->Value->Bool
 |.inl k,v=>Value.isInt k v
 |.inr x,v=>Value.isStrOf x v
def BJ (w:World):Key->Int
 |.inl k=>hashInt k
 |.inr x=>hashStr w x
theorem dF:∀{k:Key}{v:Value},fI k v=true->(∃i t,k=Sum.inl i/\v=Value.int i t)\/(∃x t,k=Sum.inr x/\v=Value.str x t)
 |.inl i,v,h=>by
  obtain⟨t,e⟩:=Value.isInt_shape (k:=i) (v:=v) h
  exact .inl ⟨i,t,rfl,e⟩
 |.inr x,v,h=>by
  obtain⟨t,e⟩:=Value.isStrOf_shape (x:=x) (v:=v) h
  exact .inr ⟨x,t,rfl,e⟩
theorem BI (i:Int) (t:Tok):fI (.inl i) (.int i t)=true:=by simp[fI,Value.isInt]
theorem BH (x:Str) (t:Tok):fI (.inr x) (.str x t)=true:=by simp[fI,Value.isStrOf]
theorem BF (a b:Int):decide ((Sum.inl a:Key)=Sum.inl b)=(a == b):=by
 by_cases e:a=b
 ·subst e;simp
 ·have h:¬ (Sum.inl a:Key)=Sum.inl b:=fun q=>e (Sum.inl.inj q)
  rw[decide_eq_false h]
  exact(beq_eq_false_iff_ne.mpr e).symm
theorem BC (a b:Str):decide ((Sum.inr a:Key)=Sum.inr b)=decide (a=b):=by
 by_cases e:a=b
 ·subst e;simp
 ·have h:¬ (Sum.inr a:Key)=Sum.inr b:=fun q=>e (Sum.inr.inj q)
  rw[decide_eq_false h,decide_eq_false e]
theorem BE (a:Int) (b:Str):decide ((Sum.inl a:Key)=Sum.inr b)=false:=decide_eq_false (fun q=>nomatch q)
theorem BD (a:Str) (b:Int):decide ((Sum.inr a:Key)=Sum.inl b)=false:=decide_eq_false (fun q=>nomatch q)
def bL (prog:Program) (w:World):PySem.KeyKind prog w Key where
 is:=fI
 hash:=BJ w
 inj:=fun v a b ha hb=>by
  rcases dF ha with⟨i,t,rfl,rfl⟩|⟨x,t,rfl,rfl⟩
  ·rcases dF hb with⟨j,u,rfl,e⟩|⟨y,u,rfl,e⟩
   ·injection e with e1 _;rw[e1]
   ·exact nomatch e
  ·rcases dF hb with⟨j,u,rfl,e⟩|⟨y,u,rfl,e⟩
   ·exact nomatch e
   ·injection e with e1 _;rw[e1]
 byValue:=fun k v h=>by
  rcases dF h with⟨i,t,rfl,rfl⟩|⟨x,t,rfl,rfl⟩<;>rfl
 pyHash:=fun hv h=>by
  rcases dF hv with⟨i,t,rfl,rfl⟩|⟨x,t,rfl,rfl⟩
  ·exact wpAny_pyHash_int h
  ·exact wpAny_pyHash_str h
 eqBool:=fun hu hv h=>by
  rcases dF hu with⟨i,t,rfl,rfl⟩|⟨x,t,rfl,rfl⟩
  ·rcases dF hv with⟨j,u,rfl,rfl⟩|⟨y,u,rfl,rfl⟩
   ·rw[BF]at h;exact wpAny_eqBool_int h
   ·rw[BE]at h;exact SeqAt.EqAt.int_str i t y u _ _ _ _ h
  ·rcases dF hv with⟨j,u,rfl,rfl⟩|⟨y,u,rfl,rfl⟩
   ·rw[BD]at h;exact SeqAt.EqAt.str_int x t j u _ _ _ _ h
   ·rw[BC]at h;exact wpAny_eqBool_str h
 «strs»:=fun k x t v h=>by
  rcases dF h with⟨i,u,rfl,e⟩|⟨y,u,rfl,e⟩
  ·exact nomatch e
  ·injection e with e1 _
   subst e1
   cases v<;>rfl
theorem Bj (prog:Program) (w:World) (i:Int) (t:Tok):(bL prog w).is (.inl i) (.int i t)=true:=BI i t
theorem Bi (prog:Program) (w:World) (x:Str) (t:Tok):(bL prog w).is (.inr x) (.str x t)=true:=BH x t
inductive V where
 |non|bl (b:Bool)|int (i:Int)|str (x:Str)|byt (b:Array UInt8)|flt (b:UInt64)|ref (a:Addr)|ty (n:String)
 deriving DecidableEq
def av:V->Value->Prop
 |.non,u=>u=Value.none
 |.bl b,u=>u=Value.bool b
 |.int i,u=>∃t,u=Value.int i t
 |.str x,u=>∃t,u=Value.str x t
 |.byt b,u=>∃t,u=Value.bytes b t
 |.flt b,u=>∃t,u=Value.float b t
 |.ref a,u=>u=Value.ref a
 |.ty n,u=>u=Value.type n
abbrev au:List V->List Value->Prop:=Paired av
theorem au.length {xs:List V}{us:List Value}(r:au xs us):xs.length=us.length:=Paired.length r
theorem au.get:∀{xs:List V}{us:List Value}{i:Nat}{x:V},au xs us->xs[i]?=some x->∃u,us[i]?=some u/\av x u
 |_,_,_,_,.nil,e=>by simp at e
 |_,_,0,_,.cons r _,e=>by simp at e;subst e;exact⟨_,rfl,r⟩
 |_,_,i+1,x,.cons _ t,e=>by
  obtain⟨u,h1,h2⟩:=au.get (i:=i) (x:=x) t (by simpa using e)
  exact⟨u,by simpa using h1,h2⟩
theorem au.set {x:V}{u:Value}(r:av x u):∀{xs:List V}{us:List Value}(i:Nat),au xs us->au (xs.set i x) (us.set i u)
 |_,_,_,.nil=>.nil
 |_,_,0,.cons _ t=>.cons r t
 |_,_,i+1,.cons q t=>.cons q (au.set r i t)
theorem au.append:∀{xs ys:List V}{us ws:List Value},au xs us->au ys ws->au (xs++ys) (us++ws)
 |_,_,_,_,.nil,s=>s
 |_,_,_,_,.cons r t,s=>.cons r (au.append t s)
theorem au.take:∀{xs:List V}{us:List Value}(n:Nat),au xs us->au (xs.take n) (us.take n)
 |_,_,0,_=>.nil
 |_,_,_+1,.nil=>.nil
 |_,_,n+1,.cons r t=>.cons r (au.take n t)
theorem au.drop:∀{xs:List V}{us:List Value}(n:Nat),au xs us->au (xs.drop n) (us.drop n)
 |_,_,0,r=>r
 |_,_,_+1,.nil=>.nil
 |_,_,n+1,.cons _ t=>au.drop n t
def c4:Option V->Option Value->Prop
 |some v,some u=>av v u
 |none,none=>True
 |_,_=>False
def KV {κ:Type}:List (κ×V)->List (κ×Value)->Prop:=Paired fun(p:κ×V) (q:κ×Value)=>p.1=q.1/\av p.2 q.2
def kV:Key->V
 |.inl i=>.int i
 |.inr x=>.str x
inductive HO where
 |lst (xs:List V)
 |tup (xs:List V)
 |dK (kvs:List (Key×V))|dT (kvs:List (List Key×V))
 |set (S:Int->Bool) (n:Nat)
 |ins (C dx:Addr) (fs:List (Str×V))
 |own (x:Addr)
 |xd (fs:List (Str×V))
 |met (f x:Addr)
 |rng (lo hi:Int)
 |frz (o:Obj) (u:HO)
 |tbl (ps:Array Value)
 |ext (φ:Heap->Prop)
abbrev Hp:=Addr->Option HO
def upd (H:Hp) (a:Addr) (o:HO):Hp:=fun b=>if b=a then some o else H b
theorem ae {H:Hp}{a:Addr}{o:HO}:upd H a o a=some o:=by unfold upd;rw[Q0 rfl]
theorem aj {H:Hp}{a b:Addr}{o:HO}(h:b≠a):upd H a o b=H b:=by unfold upd;rw[qZ h]
theorem oR {H:Hp}{a:Addr}{o u:HO}:upd (upd H a o) a u=upd H a u:=by
 funext b;unfold upd;split<;>rfl
theorem tT {H:Hp}{a b:Addr}{o u:HO}(h:H a=some o) (h':H b=some u) (d:o≠u):a≠b:=by
 intro e;subst e;rw[h]at h';exact d (qI h')
theorem bN {H:Hp}{a b:Addr}{o:HO}(h:H a=some o) (h':H b=none):a≠b:=by
 intro e;subst e;rw[h]at h';cases h'
section
variable (P:Program) (w:World)
def bq (H:Hp) (h:Heap) (a:Addr):HO->Prop
 |.lst xs=>xs.length<=sizeLine/\∃(its:List Value) (n:Nat),au xs its/\h.get? a=some { cls:=.type "list",data:=.seq its.toArray n }
 |.tup xs=>xs.length<=sizeLine/\∃its:List Value,au xs its/\IsTup h a its.toArray
 |.dK kvs=>kvs.length<=sizeLine/\(a == sysModules)=false/\∃vs,KV kvs vs/\h.DictOf (bL P w) a vs
 |.dT kvs=>kvs.length<=sizeLine/\(a == sysModules)=false/\∃xs:List (List Key×Addr×Value),
  Paired (fun(p:List Key×V) (q:List Key×Addr×Value)=>p.1=q.1/\H q.2.1=some (.tup (p.1.map kV))/\av p.2 q.2.2) kvs xs /\
  ∃o es ep,h.get? a=some o/\o.ExactDict/\o.data=.dict es ep/\es.toList=xs.map (entryOfKey (tupleKind (bL P w)))/\(xs.map (·.1)).Nodup
 |.set S n=>h.SetOf (intKind P w) a S n
 |.ins C dx fs=>H dx=some (.own a)/\fs.length<=1000/\dx≠a/\h.get? a=some (PySem.W.instObj C dx) /\
  ∃mA,h.Ns1 dx mA/\(∀f,c4 (fs.lookup f) (mA f))/\PySem.Within mA (fs.map (·.1))
 |.own _=>∃o,h.get? a=some o
 |.xd fs=>∃mA,h.Ns1 a mA/\∀f,c4 (fs.lookup f) (mA f)
 |.rng lo hi=>∃t u v,h.get? a=some { cls:=.type "range",data:=.fields #[.int lo t,.int hi u,.int 1 v] }
 |.frz o u=>h.get? a=some o/\bq H h a u
 |.tbl ps=>h.get? a=some { cls:=.none,data:=.fields ps }
 |.met f x=>h.get? a=some (PySem.W.methodObj (.ref f) (.ref x))
 |.ext φ=>φ h/\(∃o,h.get? a=some o)/\∀h1 h2:Heap,φ h1->(∀o,h1.get? a=some o->h2.get? a=some o)->φ h2
def HOk (H:Hp) (h:Heap):Prop:=∀a o,H a=some o->bq P w H h a o
end
section
variable {P:Program}{w:World}{H H':Hp}{h h':Heap}{a:Addr}{o:HO}
theorem bq.lt (x:bq P w H h a o):a<h.objs.size:=by
 cases o with
 |lst xs=>obtain⟨_,_,_,_,e⟩:=x;exact qp e
 |tup xs=>obtain⟨_,_,_,p⟩:=x;exact p.lt
 |dK kvs=>obtain⟨_,_,_,_,o,_,_,e,_⟩:=x;exact qp e
 |dT kvs=>obtain⟨_,_,_,_,o,_,_,e,_⟩:=x;exact qp e
 |set S n=>obtain⟨o,_,_,_,e,_⟩:=x;exact qp e
 |ins C dx fs=>obtain⟨_,_,_,e,_⟩:=x;exact qp e
 |own y=>obtain⟨_,e⟩:=x;exact qp e
 |xd fs=>obtain⟨_,⟨_,_,_,e,_⟩,_⟩:=x;exact qp e
 |rng lo hi=>obtain⟨_,_,_,e⟩:=x;exact qp e
 |frz ob u=>obtain⟨e,_⟩:=x;exact qp e
 |tbl ps=>exact qp (show h.get? a=some _ from x)
 |met f y=>exact qp (show h.get? a=some _ from x)
 |ext φ=>obtain⟨_,⟨_,e⟩,_⟩:=x;exact qp e
theorem Paired.mapP {α β:Type}{F G:α->β->Prop}:∀{l₁:List α}{l₂:List β},Paired F l₁ l₂->(∀a b,F a b->G a b)->Paired G l₁ l₂
 |_,_,.nil,_=>.nil
 |_,_,.cons r t,f=>.cons (f _ _ r) (Paired.mapP t f)
theorem bq.stay (x:bq P w H h a o) (k:∀b u,(b=a\/H b=some (.own a))->h.get? b=some u->h'.get? b=some u)
 (ho:∀b,H b=some (.own a)->H' b=some (.own a)) (ht:∀b xs,H b=some (.tup xs)->H' b=some (.tup xs)):bq P w H' h' a o:=by
 induction o with
 |lst xs=>obtain⟨z,its,n,r,e⟩:=x;exact⟨z,its,n,r,k _ _ (.inl rfl) e⟩
 |tup xs=>obtain⟨z,its,r,ob,e,c⟩:=x;exact⟨z,its,r,ob,k _ _ (.inl rfl) e,c⟩
 |dK kvs=>obtain⟨z,y,vs,r,ob,es,ep,e,c⟩:=x;exact⟨z,y,vs,r,ob,es,ep,k _ _ (.inl rfl) e,c⟩
 |dT kvs=>
  obtain⟨z,y,xs,r,ob,es,ep,e,c⟩:=x
  exact⟨z,y,xs,Paired.mapP r fun p q z=>⟨z.1,ht _ _ z.2.1,z.2.2⟩,ob,es,ep,k _ _ (.inl rfl) e,c⟩
 |set S n=>obtain⟨ob,es,ep,t,e,c⟩:=x;exact⟨ob,es,ep,t,k _ _ (.inl rfl) e,c⟩
 |ins C dx fs=>
  obtain⟨d,z,ne,e,mA,⟨od,es,ep,e2,c⟩,r⟩:=x
  exact⟨ho _ d,z,ne,k _ _ (.inl rfl) e,mA,⟨od,es,ep,k _ _ (.inr d) e2,c⟩,r⟩
 |own y=>obtain⟨ob,e⟩:=x;exact⟨ob,k _ _ (.inl rfl) e⟩
 |xd fs=>obtain⟨mA,⟨od,es,ep,e,c⟩,r⟩:=x;exact⟨mA,⟨od,es,ep,k _ _ (.inl rfl) e,c⟩,r⟩
 |rng lo hi=>obtain⟨t,u,v,e⟩:=x;exact⟨t,u,v,k _ _ (.inl rfl) e⟩
 |frz ob u ih=>obtain⟨e,q⟩:=x;exact⟨k _ _ (.inl rfl) e,ih q⟩
 |tbl ps=>
  have e:h.get? a=some { cls:=.none,data:=.fields ps }:=x
  show h'.get? a=some { cls:=.none,data:=.fields ps }
  exact k a _ (.inl rfl) e
 |met f y=>
  have e:h.get? a=some (PySem.W.methodObj (.ref f) (.ref y)):=x
  show h'.get? a=some (PySem.W.methodObj (.ref f) (.ref y))
  exact k a _ (.inl rfl) e
 |ext φ=>obtain⟨p,⟨o,e⟩,st⟩:=x;exact⟨st _ _ p fun o q=>k _ _ (.inl rfl) q,⟨o,k _ _ (.inl rfl) e⟩,st⟩
theorem HOk.lt (x:HOk P w H h) (e:H a=some o):a<h.objs.size:=(x a o e).lt
theorem HOk.fresh (x:HOk P w H h) (e:h.objs.size<=a):H a=none:=by
 cases q:H a with
 |none=>rfl
 |some u=>exact absurd (qC (x.lt q) e) (Nat.lt_irrefl _)
theorem HOk.kept (x:HOk P w H h) (k:∀b u,h.get? b=some u->h'.get? b=some u):HOk P w H h':=fun a o e=>
 (x a o e).stay (fun b u _ q=>k b u q) (fun _ q=>q) fun _ _ q=>q
theorem HOk.laid (x:HOk P w H h) (k:∀b u,h.get? b=some u->h'.get? b=some u) (hp:h.objs.size<=a) (new:bq P w (upd H a o) h' a o):HOk P w (upd H a o) h':=fun b u e=>by
 have hn:=x.fresh hp
 by_cases hb:b=a
 ·subst hb;rw[ae]at e;cases e;exact new
 ·rw[aj hb]at e
  exact(x b u e).stay (fun c v _ q=>k c v q) (fun c q=>by rw[aj (bN q hn)];exact q) fun c xs q=>by rw[aj (bN q hn)];exact q
end
def Rd (H:Hp) (a:Addr) (u:HO):Prop:=H a=some u\/∃o,H a=some (.frz o u)
theorem Rd.ok {P:Program}{w:World}{H:Hp}{h:Heap}{a:Addr}{u:HO}(r:Rd H a u) (x:HOk P w H h):bq P w H h a u:=by
 rcases r with r|⟨o,r⟩
 ·exact x a u r
 ·obtain⟨_,q⟩:=x a _ r
  exact q
def Mut:Option HO->Prop
 |some (.lst _)=>True
 |some (.dK _)=>True
 |some (.dT _)=>True
 |some (.set _ _)=>True
 |some (.ins _ _ _)=>True
 |some (.ext _)=>True
 |_=>False
section
variable {P:Program}{w:World}{H:Hp}{h h':Heap}{x e:Addr}{o':HO}
theorem HOk.write (ok:HOk P w H h) (mu:Mut (H x)) (he:e=x\/H e=some (.own x)) (k:∀b u,b≠e->h.get? b=some u->h'.get? b=some u) (heo:∃u,h'.get? e=some u)
 (new:bq P w (upd H x o') h' x o'):HOk P w (upd H x o') h':=fun b u q=>by
 have nown:∀c y,H c=some (.own y)->c≠x:=fun c y r z=>by subst z;rw[r]at mu;exact mu
 have ntup:∀c xs,H c=some (.tup xs)->c≠x:=fun c xs r z=>by subst z;rw[r]at mu;exact mu
 by_cases hb:b=x
 ·subst hb;rw[ae]at q;cases q;exact new
 ·rw[aj hb]at q
  by_cases hbe:b=e
  ·have q':H b=some (.own x):=by
    rcases he with z|z
    ·exact absurd (hbe.trans z) hb
    ·rw[hbe];exact z
   rw[q]at q';cases q'
   obtain⟨v,hv⟩:=heo
   exact⟨v,by rw[hbe];exact hv⟩
  ·refine(ok b u q).stay (fun c v hc r=>k c v ?_ r) (fun c r=>by rw[aj (nown c b r)];exact r) fun c xs r=>by rw[aj (ntup c xs r)];exact r
   rcases hc with rfl|hc
   ·exact hbe
   ·rintro rfl
    rcases he with z|z
    ·exact nown c b hc z
    ·rw[hc]at z;cases z;exact hb rfl
end
structure Un (fs ex:List Addr) (H H':Hp) (h h':Heap):Prop where
 keep:∀b o,h.get? b=some o->H b=none->b∉fs->b∉ex->h'.get? b=some o
 slot:∀b o,h.get? b=some o->H b=none->b∈fs->b∉ex->∃sl,h'.get? b=some { o with slots:=sl }
 free:∀b o,h.get? b=some o->H b=none->b∉ex->H' b=none
 there:∀b o,h.get? b=some o->b∉ex->∃o',h'.get? b=some o'
 tups:∀b xs,H b=some (.tup xs)->H' b=some (.tup xs)
 frzs:∀b o u,H b=some (.frz o u)->H' b=some (.frz o u)
 tbls:∀b ps,H b=some (.tbl ps)->∃more,H' b=some (.tbl (ps++more))
section
variable {fs fs' ex ex':List Addr}{H H1 H2:Hp}{h h1 h2 h':Heap}{a x e:Addr}{o:HO}
theorem Un.any (u:Un fs ex H H1 h h1) {b:Addr}{ob:Obj}(q:h.get? b=some ob) (n:H b=none) (hx:b∉ex):∃sl,h1.get? b=some { ob with slots:=sl }:=by
 by_cases hb:b∈fs
 ·exact u.slot b ob q n hb hx
 ·exact⟨ob.slots,u.keep b ob q n hb hx⟩
theorem Un.kept (k:∀b u,h.get? b=some u->h'.get? b=some u):Un fs ex H H h h':=
 ⟨fun b ob q _ _ _=>k b ob q,fun b ob q _ _ _=>⟨ob.slots,k b ob q⟩,fun _ _ _ n _=>n,fun b ob q _=>⟨ob,k b ob q⟩,fun _ _ q=>q,fun _ _ _ q=>q,fun _ ps q=>⟨#[],by rw[q];simp⟩⟩
theorem Un.refl:Un fs ex H H h h:=Un.kept fun _ _ q=>q
theorem Un.laid (k:∀b u,h.get? b=some u->h'.get? b=some u) (hp:h.objs.size<=a) (hn:H a=none):Un fs ex H (upd H a o) h h' where
 keep:=fun b u q _ _ _=>k b u q
 slot:=fun b u q _ _ _=>⟨u.slots,k b u q⟩
 free:=fun b u q n _=>by rw[aj (qF (qC (qp q) hp))];exact n
 there:=fun b u q _=>⟨u,k b u q⟩
 tups:=fun b xs q=>by rw[aj (bN q hn)];exact q
 frzs:=fun b u xs q=>by rw[aj (bN q hn)];exact q
 tbls:=fun b ps q=>⟨#[],by rw[aj (bN q hn),q];simp⟩
theorem Un.write (mu:Mut (H x)) (he:e=x\/H e=some (.own x)) (k:∀b u,b≠e->h.get? b=some u->h'.get? b=some u) (heo:∃u,h'.get? e=some u):Un fs ex H (upd H x o) h h':=by
 have hx:∀b,H b=none->b≠x:=fun b n z=>by subst z;rw[n]at mu;exact mu
 have hb:∀b,H b=none->b≠e:=fun b n z=>by
  subst z
  rcases he with r|r
  ·exact hx b n r
  ·rw[n]at r;cases r
 have hm:∀b u,H b=some u->¬ Mut (some u)->b≠x:=fun b u q nm z=>by subst z;rw[q]at mu;exact nm mu
 refine⟨fun b u q n _ _=>k b u (hb b n) q,fun b u q n _ _=>⟨u.slots,k b u (hb b n) q⟩,fun b u q n _=>by rw[aj (hx b n)];exact n,fun b u q _=>?_,
  fun b xs q=>by rw[aj (hm b _ q fun z=>z)];exact q,fun b u xs q=>by rw[aj (hm b _ q fun z=>z)];exact q,fun b ps q=>⟨#[],by rw[aj (hm b _ q fun z=>z),q];simp⟩⟩
 by_cases hbe:b=e
 ·subst hbe;exact heo
 ·exact⟨u,k b u hbe q⟩
end
def trk (h:Heap) (H:Hp):List Addr:=(List.range h.objs.size).filter fun a=>(H a).isSome
def dR (h:Heap) (H:Hp):Heap:=PySem.W.hideAll h (trk h H)
theorem C5 (h:Heap) (H:Hp):(dR h H).objs.size=h.objs.size:=PySem.W.hideAll_size _ _
theorem C6 {h:Heap}{H:Hp}{b:Addr}{o:Obj}(e:h.get? b=some o) (n:H b=none):(dR h H).get? b=some o:=
 PySem.W.hideAll_get _ e fun hm=>by
  have q:(H b).isSome=true:=(List.mem_filter.mp hm).2
  rw[n]at q;simp at q
theorem AV {h:Heap}{H:Hp}{b:Addr}{o:Obj}(e:(dR h H).get? b=some o):h.get? b=some o/\H b=none:=by
 have e':h.get? b=some o:=PySem.W.of_hideAll (trk h H) e
 refine⟨e',?_⟩
 cases q:H b with
 |none=>rfl
 |some x=>
  have hm:b∈trk h H:=List.mem_filter.mpr ⟨List.mem_range.mpr (qp e'),by simp[q]⟩
  have z:(dR h H).get? b=none:=PySem.W.hideAll_none (trk h H) hm
  rw[z]at e;cases e
def Dx (g h:Heap) (L:Addr):List (Addr×Obj):=(List.range h.objs.size).filterMap fun a=>if a=L\/(g.get? a).isSome=true then none else(h.get? a).map fun o=>(a,o)
def rest (g h:Heap) (L d:Addr):List (Addr×Obj):=(Dx g h L).filter fun p=>decide (p.1≠d)
structure Mod (K:PySem.W.Frag) (mg:Str->Option Value) (base:Heap):Prop where
 kin:K.In base
 glob:base.Ns mainGlobals mg
 blt:∃mb,base.Ns builtinsNs mb/\∀x:Str,x≠"__name__"->mb x=bootBuiltins x
 nolimit:base.NoLimit
structure Cx where
 prog:Program
 w:World
 K:PySem.W.Frag
 mg:Str->Option Value
 base:Heap
 A:Around
 N:List Str
 s₀:Shared
 H₀:Hp
 env:Env
 outer:List Env
 stack:List Env
 ex:List Addr
 fn:Str->Bool
 calm:Bool
 pn:List (Addr×Obj)
 xe:Value->Shared->Prop
def frs (l:List Env):List Addr:=l.filterMap (·.frame)
abbrev Cx.fs (X:Cx):List Addr:=frs X.outer
def Vis (sc:Scope) (x:Str):Prop:=sc.names.lookup x=some .local\/sc.names.lookup x=some .cell\/sc.names.lookup x=some .free
def Loc (sc:Scope) (x:Str):Prop:=sc.names.lookup x=some .local\/sc.names.lookup x=some .cell
def DG (env:Env) (h:Heap) (m:Str->Option Value) (x:Str) (u:Value):Prop:=
 (env.kindOf x=some .local/\m x=some u)\/((env.kindOf x=some .cell\/env.kindOf x=some .free)/\∃c,env.cells.lookup x=some c/\h.IsCell c (some u))
structure Cx.Ok (X:Cx):Prop where
 mod:Mod X.K X.mg X.base
 kind:X.env.scope.kind=.function
 glob:X.env.globals=mainGlobals
 blt:X.env.builtins=builtinsNs
 above:X.s₀.heap.objs.size<=X.env.locals
 inj:∀x y c,X.env.cells.lookup x=some c->X.env.cells.lookup y=some c->x=y
 has:∀x,(X.env.kindOf x=some .cell\/X.env.kindOf x=some .free)->∃c,X.env.cells.lookup x=some c
 cab:∀x c,X.fn x=true->X.env.cells.lookup x=some c->X.s₀.heap.objs.size<=c
 hd:X.calm=true->X.A.handled=none
 frames:X.A.frames=some X.stack
 stk:X.stack=X.outer\/(X.stack=X.env::X.outer/\X.env.frame=some X.env.locals)
 exf:∀b∈X.ex,b≠X.env.locals/\∀x c,X.env.cells.lookup x=some c->c≠b
 bs:∀b o,X.base.get? b=some o->X.s₀.heap.get? b=some o/\X.H₀ b=none
 bsz:X.base.objs.size<=X.s₀.heap.objs.size
 noex:∀b o,X.base.get? b=some o->b∉X.ex
 exfs:∀b∈X.ex,b∉X.fs
 funs:X.s₀.heap.FunFrames X.base X.outer
 frf:∀b∈X.fs,X.H₀ b=none
structure Inv (X:Cx) (pins:List (Addr×Obj)) (σ:List (Option V)) (H:Hp) (s:Shared):Prop where
 ok:X.Ok
 os:s.os=X.s₀.os
 bare:AllBare s.gens
 base:Un X.fs X.ex X.H₀ H X.s₀.heap s.heap
 loc:∃m,s.heap.Ns X.env.locals m/\∀(i:Nat) (x:Str) (v:V),X.N[i]?=some x->σ[i]?=some (some v)->Vis X.env.scope x->∃u,av v u/\DG X.env s.heap m x u
 cell:∀x c,X.env.cells.lookup x=some c->∃v,s.heap.IsCell c v
 free:H X.env.locals=none
 freeC:∀x c,X.env.cells.lookup x=some c->H c=none
 pin:∀p∈X.pn++pins,s.heap.get? p.1=some p.2/\H p.1=none/\p.1≠X.env.locals/\p.1∉X.fs/\∀v,p.2.data≠.cell v
 hok:HOk X.prog X.w H s.heap
 len:σ.length=X.N.length
section
variable {X:Cx}{pins:List (Addr×Obj)}{σ:List (Option V)}{H H':Hp}{s:Shared}{h':Heap}
theorem Cx.Ok.nofr (ok:X.Ok) {b:Addr}{o:Obj}(e:X.base.get? b=some o):b∉X.fs:=fun hb=>by
 have:=(ok.funs.mem hb).1
 rw[e]at this;cases this
theorem Inv.bs (I:Inv X pins σ H s):∀b o,X.base.get? b=some o->s.heap.get? b=some o/\H b=none:=fun b o e=>
 ⟨I.base.keep b o (I.ok.bs b o e).1 (I.ok.bs b o e).2 (I.ok.nofr e) (I.ok.noex b o e),I.base.free b o (I.ok.bs b o e).1 (I.ok.bs b o e).2 (I.ok.noex b o e)⟩
theorem Inv.bk (I:Inv X pins σ H s):∀b o,X.base.get? b=some o->s.heap.get? b=some o:=fun b o e=>(I.bs b o e).1
theorem Inv.mod (I:Inv X pins σ H s):Mod X.K X.mg X.base:=I.ok.mod
theorem Inv.kIn (I:Inv X pins σ H s):X.K.In s.heap:=I.ok.mod.kin.keeps I.bk
theorem Inv.lt (I:Inv X pins σ H s):X.env.locals<s.heap.objs.size:=let ⟨_,hn,_⟩:=I.loc;hn.lt
theorem Inv.sz (I:Inv X pins σ H s):X.s₀.heap.objs.size<=s.heap.objs.size:=qx I.ok.above (Nat.le_of_lt I.lt)
theorem Inv.nofs (I:Inv X pins σ H s) {a:Addr}(h:s.heap.objs.size<=a):a∉X.fs:=fun hb=>by
 obtain⟨_,o,ho,_⟩:=I.ok.funs.mem hb
 exact absurd (qC (qp ho) (qx I.sz h)) (Nat.lt_irrefl _)
theorem Inv.cne (I:Inv X pins σ H s):∀x c,X.env.cells.lookup x=some c->c≠X.env.locals:=fun x c e z=>by
 obtain⟨v,o,ho,hd⟩:=I.cell x c e
 obtain⟨m,⟨o',es,ep,ho',hd',_⟩,_⟩:=I.loc
 rw[z,ho']at ho;cases ho;rw[hd']at hd;cases hd
theorem Inv.funs (I:Inv X pins σ H s):s.heap.FunFrames X.base X.outer:=by
 have all:∀(l:List Env),(∀b∈frs l,b∈X.fs)->X.s₀.heap.FunFrames X.base l->s.heap.FunFrames X.base l:=by
  intro l
  induction l with
  |nil=>intro _ _;trivial
  |cons env r ih=>
   intro hs hl
   obtain⟨hk,⟨L,o,hf,hn,ho,hd⟩,hr⟩:=hl
   have hL:L∈X.fs:=hs L (by unfold frs;rw[List.filterMap_cons,hf];exact qk)
   obtain⟨sl,e⟩:=I.base.slot L o ho (I.ok.frf L hL) hL fun z=>I.ok.exfs L z hL
   exact⟨hk,⟨L,_,hf,hn,e,hd⟩,ih (fun b hb=>hs b (by unfold frs;rw[List.filterMap_cons,hf];exact qj _ hb)) hr⟩
 exact all X.outer (fun _ hb=>hb) I.ok.funs
theorem Inv.stack (I:Inv X pins σ H s):s.heap.FunFrames X.base X.stack:=by
 rcases I.ok.stk with e|⟨e,hf⟩
 ·rw[e];exact I.funs
 ·rw[e]
  obtain⟨m,hn,_⟩:=I.loc
  refine .cons (by rw[I.ok.kind];decide) hf hn ?_ I.funs
  exact Heap.get?_none_of_le (qx I.ok.bsz I.ok.above)
theorem Inv.stkSub (I:Inv X pins σ H s):∀b∈frs X.stack,b∈X.env.locals::X.fs:=fun b hb=>by
 rcases I.ok.stk with e|⟨e,hf⟩
 ·rw[e]at hb;exact qj _ hb
 ·rw[e]at hb
  unfold frs at hb
  rw[List.filterMap_cons,hf]at hb
  exact hb
theorem Inv.stkFree (I:Inv X pins σ H s):∀b∈frs X.stack,H b=none:=fun b hb=>by
 rcases qt.mp (I.stkSub b hb)with e|hb
 ·rw[e];exact I.free
 ·obtain⟨_,o,ho,_⟩:=I.ok.funs.mem hb
  exact I.base.free b o ho (I.ok.frf b hb) fun z=>I.ok.exfs b z hb
theorem Inv.step {g':Array GenState}{t':Nat}{d':Drawn}{ch:List Addr}(I:Inv X pins σ H s)
 (hch:∀b∈ch,(b∈X.ex\/X.s₀.heap.objs.size<=b)/\b≠X.env.locals/\(∀x c,X.env.cells.lookup x=some c->c≠b)/\∀p∈X.pn++pins,p.1≠b)
 (keep:∀b o,b≠X.env.locals->b∉X.fs->b∉ch->s.heap.get? b=some o->H b=none->h'.get? b=some o)
 (slot:∀b o,b≠X.env.locals->b∈X.fs->b∉ch->s.heap.get? b=some o->H b=none->∃sl,h'.get? b=some { o with slots:=sl }) (free:∀b o,b∉ch->s.heap.get? b=some o->H b=none->H' b=none)
 (there:∀b o,b∉ch->s.heap.get? b=some o->∃o',h'.get? b=some o')
 (tups:∀b xs,H b=some (.tup xs)->H' b=some (.tup xs)) (frzs:∀b o u,H b=some (.frz o u)->H' b=some (.frz o u)) (tbls:∀b ps,H b=some (.tbl ps)->∃more,H' b=some (.tbl (ps++more)))
 (ns:∀m,s.heap.Ns X.env.locals m->h'.Ns X.env.locals m) (hok:HOk X.prog X.w H' h') (hg:AllBare g'):
 Inv X pins σ H' { s with heap:=h',gens:=g',drawn:=d',toks:=t' }:=by
 have neL:∀b o,X.s₀.heap.get? b=some o->b≠X.env.locals:=fun b o e=>qF (qC (qp e) I.ok.above)
 have neC:∀b o,X.s₀.heap.get? b=some o->b∉X.ex->b∉ch:=fun b o e hx hb=>by
  rcases(hch b hb).1 with z|z
  ·exact hx z
  ·exact absurd (qC (qp e) z) (Nat.lt_irrefl _)
 have cellK:∀x c,X.env.cells.lookup x=some c->∀v,s.heap.IsCell c v->h'.IsCell c v:=fun x c e v ⟨o,ho,hd⟩=>by
  have nch:c∉ch:=fun z=>(hch c z).2.2.1 x c e rfl
  by_cases hc:c∈X.fs
  ·obtain⟨sl,q⟩:=slot c o (I.cne x c e) hc nch ho (I.freeC x c e)
   exact⟨_,q,hd⟩
  ·exact⟨o,keep c o (I.cne x c e) hc nch ho (I.freeC x c e),hd⟩
 refine⟨I.ok,I.os,hg,⟨fun b o e n hb hx=>?_,fun b o e n hb hx=>?_,fun b o e n hx=>?_,fun b o e hx=>?_,fun b xs e=>tups b xs (I.base.tups b xs e),fun b o xs e=>frzs b o xs (I.base.frzs b o xs e),fun b ps e=>?_⟩,?_,fun x c e=>?_,?_,fun x c e=>?_,fun p hp=>?_,hok,I.len⟩
 ·exact keep b o (neL b o e) hb (neC b o e hx) (I.base.keep b o e n hb hx) (I.base.free b o e n hx)
 ·obtain⟨sl,e1⟩:=I.base.slot b o e n hb hx
  obtain⟨sl',e2⟩:=slot b _ (neL b o e) hb (neC b o e hx) e1 (I.base.free b o e n hx)
  exact⟨sl',e2⟩
 ·obtain⟨o',e1⟩:=I.base.there b o e hx
  exact free b o' (neC b o e hx) e1 (I.base.free b o e n hx)
 ·obtain⟨o',e1⟩:=I.base.there b o e hx
  exact there b o' (neC b o e hx) e1
 ·obtain⟨m1,e1⟩:=I.base.tbls b ps e
  obtain⟨m2,e2⟩:=tbls b _ e1
  exact⟨m1++m2,by rw[e2,Array.append_assoc]⟩
 ·obtain⟨m,hn,hl⟩:=I.loc
  refine⟨m,ns m hn,fun i x v e1 e2 e3=>?_⟩
  obtain⟨u,r,l⟩:=hl i x v e1 e2 e3
  refine⟨u,r,?_⟩
  rcases l with l|⟨k,c,e,z⟩
  ·exact .inl l
  ·exact .inr ⟨k,c,e,cellK x c e _ z⟩
 ·obtain⟨v,z⟩:=I.cell x c e
  exact⟨v,cellK x c e v z⟩
 ·obtain⟨m,⟨o,_,_,ho,_⟩,_⟩:=I.loc
  exact free _ o (fun z=>(hch _ z).2.1 rfl) ho I.free
 ·obtain⟨v,o,ho,hd⟩:=I.cell x c e
  exact free c o (fun z=>(hch c z).2.2.1 x c e rfl) ho (I.freeC x c e)
 ·obtain⟨e,n,ne,nf,d⟩:=I.pin p hp
  have nch:p.1∉ch:=fun z=>(hch p.1 z).2.2.2 p hp rfl
  exact⟨keep p.1 p.2 ne nf nch e n,free p.1 p.2 nch e n,ne,nf,d⟩
theorem Inv.un {t':Nat}(I:Inv X pins σ H s) (u:Un X.fs [] H H' s.heap h') (hok:HOk X.prog X.w H' h'):Inv X pins σ H' { s with heap:=h',toks:=t' }:=by
 obtain⟨m,⟨o,es,ep,ho,r⟩,_⟩:=id I.loc
 obtain⟨sl,hL⟩:=u.any ho I.free (by simp)
 exact I.step (g':=s.gens) (d':=s.drawn) (ch:=[]) (fun _ z=>nomatch z) (fun b o _ hb _ e n=>u.keep b o e n hb (by simp)) (fun b o _ hb _ e n=>u.slot b o e n hb (by simp)) (fun b o _ e n=>u.free b o e n (by simp)) (fun b o _ e=>u.there b o e (by simp)) u.tups u.frzs u.tbls (fun m' hm=>by
  obtain⟨o',es',ep',ho',r'⟩:=hm
  rw[ho]at ho';cases ho'
  exact⟨_,es',ep',hL,r'⟩) hok I.bare
theorem Inv.call {g':Array GenState}{t':Nat}{d':Drawn}{ch:List Addr}(I:Inv X pins σ H s) (u:Un (frs X.stack) ch H H' s.heap h') (hok:HOk X.prog X.w H' h') (hg:AllBare g')
 (hch:∀b∈ch,(b∈X.ex\/X.s₀.heap.objs.size<=b)/\b≠X.env.locals/\(∀x c,X.env.cells.lookup x=some c->c≠b)/\∀p∈X.pn++pins,p.1≠b):
 Inv X pins σ H' { s with heap:=h',gens:=g',drawn:=d',toks:=t' }:=by
 obtain⟨m,⟨o,es,ep,ho,r⟩,_⟩:=id I.loc
 obtain⟨sl,hL⟩:=u.any ho I.free fun z=>(hch _ z).2.1 rfl
 exact I.step (ch:=ch) hch (fun b o hL hb hc e n=>u.keep b o e n (fun z=>(qt.mp (I.stkSub b z)).elim hL hb) hc) (fun b o _ _ hc e n=>u.any e n hc) (fun b o hc e n=>u.free b o e n hc) (fun b o hc e=>u.there b o e hc) u.tups u.frzs u.tbls (fun m' hm=>by
  obtain⟨o',es',ep',ho',r'⟩:=hm
  rw[ho]at ho';cases ho'
  exact⟨_,es',ep',hL,r'⟩) hok hg
theorem Inv.turned {t':Nat}{it:Addr}(I:Inv X pins σ H s) (k:∀b o,b≠it->s.heap.get? b=some o->h'.get? b=some o) (hn:H it=none) (hL:it≠X.env.locals)
 (h1:it∈X.ex\/X.s₀.heap.objs.size<=it) (h2:∀x c,X.env.cells.lookup x=some c->c≠it) (h3:∀p∈X.pn++pins,p.1≠it):Inv X pins σ H { s with heap:=h',toks:=t' }:=by
 have nit:∀b u,H b=some u->b≠it:=fun b u e z=>by rw[z,hn]at e;cases e
 refine I.step (g':=s.gens) (d':=s.drawn) (ch:=[it]) (fun b hb=>?_) (fun b o _ _ hc e _=>k b o (fun z=>hc (by simp[z])) e) (fun b o _ _ hc e _=>⟨o.slots,k b o (fun z=>hc (by simp[z])) e⟩) (fun _ _ _ _ n=>n)
  (fun b o hc e=>⟨o,k b o (fun z=>hc (by simp[z])) e⟩) (fun _ _ e=>e) (fun _ _ _ e=>e) (fun b ps e=>⟨#[],by rw[e];simp⟩) (fun m hm=>?_) (fun b u e=>?_) I.bare
 ·have e:b=it:=by simpa using hb
  subst e
  exact⟨h1,hL,h2,h3⟩
 ·obtain⟨o,es,ep,ho,r⟩:=hm
  exact⟨o,es,ep,k _ o (Ne.symm hL) ho,r⟩
 ·refine(I.hok b u e).stay (fun c v hc q=>k c v ?_ q) (fun _ q=>q) fun _ _ q=>q
  rcases hc with z|z
  ·rw[z];exact nit b u e
  ·exact nit c _ z
theorem Inv.tok (I:Inv X pins σ H s) (t:Nat):Inv X pins σ H { s with toks:=t }:=I.un (h':=s.heap) (t':=t) Un.refl I.hok
theorem Inv.kept {t':Nat}(I:Inv X pins σ H s) (k:∀b u,s.heap.get? b=some u->h'.get? b=some u):Inv X pins σ H { s with heap:=h',toks:=t' }:=I.un (Un.kept k) (I.hok.kept k)
theorem Inv.laid {a:Addr}{o:HO}{t':Nat}(I:Inv X pins σ H s) (k:∀b u,s.heap.get? b=some u->h'.get? b=some u) (hp:s.heap.objs.size<=a) (new:bq X.prog X.w (upd H a o) h' a o):
 Inv X pins σ (upd H a o) { s with heap:=h',toks:=t' }:=I.un (Un.laid k hp (I.hok.fresh hp)) (I.hok.laid k hp new)
theorem Inv.write {x e:Addr}{o:HO}{t':Nat}(I:Inv X pins σ H s) (mu:Mut (H x)) (he:e=x\/H e=some (.own x)) (k:∀b u,b≠e->s.heap.get? b=some u->h'.get? b=some u) (heo:∃u,h'.get? e=some u)
 (new:bq X.prog X.w (upd H x o) h' x o):Inv X pins σ (upd H x o) { s with heap:=h',toks:=t' }:=I.un (Un.write mu he k heo) (I.hok.write mu he k heo new)
theorem Inv.pins_of {pins':List (Addr×Obj)}(I:Inv X pins σ H s) (h:∀p∈pins',s.heap.get? p.1=some p.2/\H p.1=none/\p.1≠X.env.locals/\p.1∉X.fs/\∀v,p.2.data≠.cell v):Inv X pins' σ H s:=
 ⟨I.ok,I.os,I.bare,I.base,I.loc,I.cell,I.free,I.freeC,fun p hp=>(qg.mp hp).elim (fun z=>I.pin p (qV _ z)) (h p),I.hok,I.len⟩
theorem tR {N:List Str}(hN:N.Nodup) {i j:Nat}{x:Str}(a:N[i]?=some x) (b:N[j]?=some x):i=j:=by
 obtain⟨h1,e1⟩:=qe.mp a
 obtain⟨h2,e2⟩:=qe.mp b
 exact(List.getElem_inj hN).mp (e1.trans e2.symm)
theorem pf {M:Model}{A:Around}{E:Qq}{i:Nat}{x:Str}{v:V}{u:Value}{Q:Unit->Shared->Prop}(I:Inv X pins σ H s) (hN:X.N.Nodup) (hi:X.N[i]?=some x) (hx:Loc X.env.scope x) (r:av v u)
 (h:∀s',Inv X pins (σ.set i (some v)) H s'->(∃a,Heap.SameBut a s.heap s'.heap/\(a=X.env.locals\/X.env.cells.lookup x=some a))->Q () s') (hf:X.fn x=true\/X.env.scope.names.lookup x=some .local:=by first|exact .inl rfl|exact .inr rfl|assumption):wpAny M A (storeName X.env x u) Q E s:=by
 obtain⟨m,hn,hl⟩:=id I.loc
 have hcls:(X.env.scope.kind == .class || (X.env.scope.kind == .module && X.env.locals != X.env.globals))=false:=by rw[I.ok.kind];rfl
 have hiσ:i<σ.length:=by rw[I.len];exact(qe.mp hi).1
 have cne:=I.cne
 have tracked:∀{a:Addr}{h':Heap},(∃o,s.heap.get? a=some o/\H a=none)->Heap.SameBut a s.heap h'->HOk X.prog X.w H h':=fun{a h'} ha hs b ob e=>by
  obtain⟨_,_,hfree⟩:=ha
  refine(I.hok b ob e).stay (fun c w' hc q=>(hs.2 c ?_).trans q) (fun _ q=>q) fun _ _ q=>q
  rintro rfl
  rcases hc with rfl|hc
  ·rw[hfree]at e;cases e
  ·rw[hfree]at hc;cases hc
 rcases hx with hk|hk
 ·refine wpAny_storeName_local hk hn (fun h' hn' hs=>?_) hcls
  obtain⟨oL,_,_,hoL,_⟩:=id hn
  refine h _ ⟨I.ok,I.os,I.bare,⟨fun b o e n hb hx=>?_,fun b o e n hb hx=>?_,I.base.free,fun b o e hx=>?_,I.base.tups,I.base.frzs,I.base.tbls⟩,⟨_,hn',fun j y v' e1 e2 e3=>?_⟩,fun y c e=>?_,I.free,I.freeC,fun p hp=>?_,tracked ⟨oL,hoL,I.free⟩ hs,by simpa using I.len⟩ ⟨_,hs,.inl rfl⟩
  ·exact(hs.2 b (qF (qC (qp e) I.ok.above))).trans (I.base.keep b o e n hb hx)
  ·obtain⟨sl,e1⟩:=I.base.slot b o e n hb hx
   exact⟨sl,(hs.2 b (qF (qC (qp e) I.ok.above))).trans e1⟩
  ·obtain⟨o',e1⟩:=I.base.there b o e hx
   exact⟨o',(hs.2 b (qF (qC (qp e) I.ok.above))).trans e1⟩
  ·by_cases hj:j=i
   ·subst hj
    rw[hi]at e1;cases e1
    rw[List.getElem?_set_self hiσ]at e2
    cases e2
    exact⟨u,r,.inl ⟨hk,by simp⟩⟩
   ·rw[List.getElem?_set_ne (Ne.symm hj)]at e2
    obtain⟨u',r',q⟩:=hl j y v' e1 e2 e3
    refine⟨u',r',?_⟩
    rcases q with⟨k,e⟩|⟨k,c,e,z⟩
    ·refine .inl ⟨k,?_⟩
     have:y≠x:=fun e=>hj (tR hN e1 (e▸hi))
     simp[this,e]
    ·exact .inr ⟨k,c,e,z.sameBut hs (cne y c e)⟩
  ·obtain⟨w',z⟩:=I.cell y c e
   exact⟨w',z.sameBut hs (cne y c e)⟩
  ·obtain⟨e,n,ne,nf,d⟩:=I.pin p hp
   exact⟨(hs.2 p.1 ne).trans e,n,ne,nf,d⟩
 ·have hfn:X.fn x=true:=by
   rcases hf with z|z
   ·exact z
   ·rw[z]at hk;cases hk
  obtain⟨c,hc⟩:=I.ok.has x (.inl hk)
  obtain⟨w',z⟩:=I.cell x c hc
  refine wpAny_storeName_cell I.ok.kind hk hc z (fun h' hc' hs=>?_)
  obtain⟨oc,hoc,hocd⟩:=id z
  refine h { s with heap:=h' } ⟨I.ok,I.os,I.bare,⟨fun b o e n hb hx=>?_,fun b o e n hb hx=>?_,I.base.free,fun b o e hx=>?_,I.base.tups,I.base.frzs,I.base.tbls⟩,⟨m,hn.sameBut hs (Ne.symm (cne x c hc)),fun j y v' e1 e2 e3=>?_⟩,fun y c' e=>?_,I.free,I.freeC,fun p hp=>?_,tracked ⟨oc,hoc,I.freeC x c hc⟩ hs,by simpa using I.len⟩ ⟨c,hs,.inr hc⟩
  ·exact(hs.2 b (qF (qC (qp e) (I.ok.cab x c hfn hc)))).trans (I.base.keep b o e n hb hx)
  ·obtain⟨sl,e1⟩:=I.base.slot b o e n hb hx
   exact⟨sl,(hs.2 b (qF (qC (qp e) (I.ok.cab x c hfn hc)))).trans e1⟩
  ·obtain⟨o',e1⟩:=I.base.there b o e hx
   exact⟨o',(hs.2 b (qF (qC (qp e) (I.ok.cab x c hfn hc)))).trans e1⟩
  ·by_cases hj:j=i
   ·subst hj
    rw[hi]at e1;cases e1
    rw[List.getElem?_set_self hiσ]at e2
    cases e2
    exact⟨u,r,.inr ⟨.inl hk,c,hc,hc'⟩⟩
   ·rw[List.getElem?_set_ne (Ne.symm hj)]at e2
    obtain⟨u',r',q⟩:=hl j y v' e1 e2 e3
    refine⟨u',r',?_⟩
    rcases q with q|⟨k,c',e,z'⟩
    ·exact .inl q
    ·refine .inr ⟨k,c',e,z'.sameBut hs ?_⟩
     rintro rfl
     exact hj (tR hN e1 (I.ok.inj _ _ _ e hc▸hi))
  ·by_cases hcc:c'=c
   ·subst hcc;exact⟨_,hc'⟩
   ·obtain⟨w2,z2⟩:=I.cell y c' e
    exact⟨w2,z2.sameBut hs hcc⟩
  ·obtain⟨e,n,ne,nf,d⟩:=I.pin p hp
   refine⟨(hs.2 p.1 ?_).trans e,n,ne,nf,d⟩
   intro q
   rw[q,hoc]at e
   have q':oc=p.2:=qI e
   exact d w' (by rw[<- q'];exact hocd)
theorem ph {M:Model}{A:Around}{E:Qq}{i:Nat}{x:Str}{v:V}{u:Value}{Q:Unit->Shared->Prop}(I:Inv X pins σ H s) (hN:X.N.Nodup) (hi:X.N[i]?=some x) (hx:Loc X.env.scope x) (r:av v u)
 (h:∀s',Inv X pins (σ.set i (some v)) H s'->Q () s') (hf:X.fn x=true\/X.env.scope.names.lookup x=some .local:=by first|exact .inl rfl|exact .inr rfl|assumption):wpAny M A (storeName X.env x u) Q E s:=
 pf I hN hi hx r (fun s' I' _=>h s' I') hf
theorem Inv.call' {s':Shared}{ch:List Addr}(I:Inv X pins σ H s) (ho:s'.os=s.os) (u:Un (frs X.stack) ch H H' s.heap s'.heap) (hok:HOk X.prog X.w H' s'.heap) (hg:AllBare s'.gens)
 (hch:∀b∈ch,(b∈X.ex\/X.s₀.heap.objs.size<=b)/\b≠X.env.locals/\(∀x c,X.env.cells.lookup x=some c->c≠b)/\∀p∈X.pn++pins,p.1≠b):Inv X pins σ H' s':=by
 obtain⟨h',g',d',t',o'⟩:=s'
 have e:o'=s.os:=ho
 subst e
 exact I.call (g':=g') (t':=t') (d':=d') u hok hg hch
end
abbrev XK:=Value->Option Addr->Hp->Prop
abbrev St:=List (Option V)
abbrev VK:=V->Hp->Prop
abbrev TE:=St->Hp->VK->Prop
abbrev TT:=St->Hp->(Bool->Hp->Prop)->Prop
abbrev TA:=St->Hp->(List V->Hp->Prop)->Prop
structure eh where
 nx:St->Hp->Prop
 rt:VK
 bk:St->Hp->Prop:=fun _ _=>False
 ct:St->Hp->Prop:=fun _ _=>False
abbrev TS:=eh->St->Hp->Prop
def EP (X:Cx) (pins:List (Addr×Obj)) (σ:St) (Q:VK) (u:Value) (s':Shared):Prop:=∃v H',Inv X pins σ H' s'/\av v u/\Q v H'
def TP (X:Cx) (pins:List (Addr×Obj)) (σ:St) (Q:Bool->Hp->Prop) (b:Bool) (s':Shared):Prop:=∃H',Inv X pins σ H' s'/\Q b H'
def AP (X:Cx) (pins:List (Addr×Obj)) (σ:St) (Q:List V->Hp->Prop) (us:List Value) (s':Shared):Prop:=∃vs H',Inv X pins σ H' s'/\au vs us/\Q vs H'
def SP (X:Cx) (pins:List (Addr×Obj)) (D:eh) (f:Flow) (s':Shared):Prop:=
 match f with
 |.next=>∃σ' H',Inv X pins σ' H' s'/\D.nx σ' H'
 |.brk=>∃σ' H',Inv X pins σ' H' s'/\D.bk σ' H'
 |.cont=>∃σ' H',Inv X pins σ' H' s'/\D.ct σ' H'
 |.ret u=>∃v σ' H',Inv X pins σ' H' s'/\av v u/\D.rt v H'
def PE (X:Cx) (e:Expr) (t:TE):Prop:=
 ∀(pins:List (Addr×Obj)) (s:Shared) (σ:St) (H:Hp) (Q:VK),Inv X pins σ H s->t σ H Q->wpAny (model X.prog X.w) X.A (eval e X.env) (EP X pins σ Q) X.xe s
def PT (X:Cx) (e:Expr) (t:TT):Prop:=
 ∀(pins:List (Addr×Obj)) (s:Shared) (σ:St) (H:Hp) (Q:Bool->Hp->Prop),Inv X pins σ H s->t σ H Q->wpAny (model X.prog X.w) X.A (isTrue e X.env (eval e X.env)) (TP X pins σ Q) X.xe s
def PW (X:Cx) (e:Expr) (t:TT):Prop:=
 ∀(whole:Sem Value) (pins:List (Addr×Obj)) (s:Shared) (σ:St) (H:Hp) (Q:Bool->Hp->Prop),Inv X pins σ H s->t σ H Q->wpAny (model X.prog X.w) X.A (isTrue e X.env whole) (TP X pins σ Q) X.xe s
theorem PW.pt {X:Cx}{e:Expr}{t:TT}(h:PW X e t):PT X e t:=h _
def PA (X:Cx) (es:List Expr) (t:TA):Prop:=
 ∀(pos:Pos) (pins:List (Addr×Obj)) (s:Shared) (σ:St) (H:Hp) (Q:List V->Hp->Prop),Inv X pins σ H s->t σ H Q->wpAny (model X.prog X.w) X.A (spliced (backTo pos (starEach es X.env))) (AP X pins σ Q) X.xe s
def PS (X:Cx) (st:Stmt) (t:TS):Prop:=
 ∀(pins:List (Addr×Obj)) (s:Shared) (σ:St) (H:Hp) (D:eh),Inv X pins σ H s->t D σ H->wpAny (model X.prog X.w) X.A (exec st X.env) (SP X pins D) X.xe s
def PSs (X:Cx) (st:List Stmt) (t:TS):Prop:=
 ∀(pins:List (Addr×Obj)) (s:Shared) (σ:St) (H:Hp) (D:eh),Inv X pins σ H s->t D σ H->wpAny (model X.prog X.w) X.A (execs st X.env) (SP X pins D) X.xe s
theorem thn {α:Type}{t:Sem α}{Q Q':α->Shared->Prop}{M:Model}{A:Around}{E:Qq}{s:Shared}(h:wpAny M A t Q E s) (hQ:∀a s,Q a s->Q' a s):wpAny M A t Q' E s:=wpAny_mono h hQ fun _ _ x=>x
section
variable {X:Cx}
theorem bin {a b:Expr}{ta tb:TE}(ha:PE X a ta) (hb:PE X b tb) {pins:List (Addr×Obj)}{s:Shared}{σ:St}{H:Hp}{R:V->V->Hp->Prop}(I:Inv X pins σ H s) (h:ta σ H fun x H1=>tb σ H1 fun y H2=>R x y H2)
 {α:Type}{Q:α->Shared->Prop}{f:Value->Value->Sem α}
 (hf:∀v u s2 x y H2,Inv X pins σ H2 s2->av x v->av y u->R x y H2->wpAny (model X.prog X.w) X.A (f v u) Q X.xe s2):
 wpAny (model X.prog X.w) X.A (eval a X.env) (fun v s₁=>wpAny (model X.prog X.w) X.A (eval b X.env) (fun u s₂=>wpAny (model X.prog X.w) X.A (f v u) Q X.xe s₂) X.xe s₁) X.xe s:=by
 refine thn (ha pins s σ H _ I h) fun v s1 ⟨x,H1,I1,r1,q1⟩=>?_
 refine thn (hb pins s1 σ H1 _ I1 q1) fun u s2 ⟨y,H2,I2,r2,q2⟩=>?_
 exact hf v u s2 x y H2 I2 r1 r2 q2
def oX (i:Nat):TE:=fun σ H Q=>∃v,σ[i]?=some (some v)/\Q v H
def tC (v:V):TE:=fun _ H Q=>Q v H
theorem zJ {i:Nat}{x:Str}{pos:Pos}(hN:X.N[i]?=some x) (hv:Vis X.env.scope x) (hd:(x == ("__debug__":Str))=false:=by decide) (hcd:(x == ("__classdict__":Str))=false:=by decide):PE X (.Name x pos) (oX i):=by
 intro pins s σ H Q I h
 obtain⟨v,e,h⟩:=h
 obtain⟨m,hn,hl⟩:=I.loc
 obtain⟨u,r,l⟩:=hl i x v hN e hv
 have fin:EP X pins σ Q u s:=⟨v,H,I,r,h⟩
 rcases l with⟨hk,hm⟩|⟨hk,c,hc,hcell⟩
 ·exact wpAny_Name (wpAny_loadName_local I.ok.kind hk hn hm fin) hd
 ·rcases hk with hk|hk
  ·exact wpAny_Name (wpAny_loadName_cell I.ok.kind hk hc hcell fin) hd
  ·exact wpAny_Name (wpAny_loadName_free I.ok.kind hk hc hcell fin hcd) hd
theorem ag {i j pos}:PE X (.Constant (.int i) j pos) (tC (.int i)):=fun _ _ _ H _ I h=>wpAny_Constant_int ⟨.int i,H,I.tok _,⟨_,rfl⟩,h⟩
theorem fD {b j pos}:PE X (.Constant (.bool b) j pos) (tC (.bl b)):=fun _ _ _ H _ I h=>Constant_bool ⟨.bl b,H,I,rfl,h⟩
theorem eJ {j pos}:PE X (.Constant .none j pos) (tC .non):=fun _ _ _ H _ I h=>Constant_none ⟨.non,H,I,rfl,h⟩
theorem aF {x j pos}:PE X (.Constant (.str x) j pos) (tC (.str x)):=fun _ _ _ H _ I h=>Calls.Constant_str ⟨.str x,H,I.tok _,⟨_,rfl⟩,h⟩
def Gl (X:Cx) (x:Str):Prop:=X.env.kindOf x=some .globalImplicit
theorem nD {E:Qq}{pins:List (Addr×Obj)}{s:Shared}{σ:St}{H:Hp}{x:Str}{u:Value}{pos:Pos}{Q:Qq}(I:Inv X pins σ H s) (hg:Gl X x) (hm:X.mg x=some u) (h:Q u s)
 (hd:(x == ("__debug__":Str))=false:=by decide):wpAny (model X.prog X.w) X.A (eval (.Name x pos) X.env) Q E s:=
 Calls.Name_function_global I.ok.kind hg (Calls.loadGlobal_global (by rw[I.ok.glob];exact I.mod.glob.keeps I.bk) hm h) hd
theorem fH {E:Qq}{pins:List (Addr×Obj)}{s:Shared}{σ:St}{H:Hp}{x:Str}{u:Value}{pos:Pos}{Q:Qq}(I:Inv X pins σ H s) (hg:Gl X x) (hm:X.mg x=none) (hv:bootBuiltins x=some u) (h:Q u s)
 (hn:x≠"__name__":=by decide) (hd:(x == ("__debug__":Str))=false:=by decide):wpAny (model X.prog X.w) X.A (eval (.Name x pos) X.env) Q E s:=by
 obtain⟨mb,h1,h2⟩:=I.mod.blt
 exact Calls.Name_function_global I.ok.kind hg (Calls.loadGlobal_builtin (by rw[I.ok.glob];exact I.mod.glob.keeps I.bk) hm (by rw[I.ok.blt];exact h1.keeps I.bk) ((h2 x hn).trans hv) h) hd
theorem dN {x:Str}{v:V}{u:Value}{pos:Pos}(hg:Gl X x) (hm:X.mg x=some u) (r:av v u) (hd:(x == ("__debug__":Str))=false:=by decide):PE X (.Name x pos) (tC v):=
 fun _ _ _ H _ I h=>nD I hg hm ⟨v,H,I,r,h⟩ hd
theorem ix {x:Str}{v:V}{u:Value}{pos:Pos}(hg:Gl X x) (hm:X.mg x=none) (hv:bootBuiltins x=some u) (r:av v u) (hn:x≠"__name__":=by decide) (hd:(x == ("__debug__":Str))=false:=by decide):PE X (.Name x pos) (tC v):=
 fun _ _ _ H _ I h=>fH I hg hm hv ⟨v,H,I,r,h⟩ hn hd
variable {a b:Expr}{ta tb:TE}{pos:Pos}
def PC (X:Cx) (op:CmpOp) (a b:Expr) (t:TE):Prop:=
 ∀(pins:List (Addr×Obj)) (s:Shared) (σ:St) (H:Hp) (Q:VK),Inv X pins σ H s->t σ H Q->
  wpAny (model X.prog X.w) X.A (eval a X.env) (fun v s₁=>wpAny (model X.prog X.w) X.A (eval b X.env) (fun u s₂=>wpAny (model X.prog X.w) X.A (compareOp op v u) (EP X pins σ Q) X.xe s₂) X.xe s₁) X.xe s
def tB (t:TE):TT:=fun σ H Q=>t σ H fun x H1=>∃c,x=.bl c/\Q c H1
theorem DK {op:CmpOp}{t:TE}(h:PC X op a b t) (h1:behindInMarks op b=false:=by first|exact nobehind _ Qk Qk|rfl):PT X (.Compare a [op] [b] pos) (tB t):=by
 intro pins s σ H Q I hw
 refine wpAny_isTrue_Compare1 (thn (h pins s σ H _ I hw) fun v s1 h1=>thn h1 fun u s2 h2=>thn h2 fun c s3 ⟨x,H1,I1,r1,q1⟩=>?_) h1
 obtain⟨d,rfl,q⟩:=q1
 cases r1
 exact wpAny_truthy_bool ⟨H1,I1,q⟩
theorem zw {e:Expr}{t:TE}(h:PE X e t) (he:∀whole,isTrue e X.env whole=(do let v <- whole;standAt e.pos;holding [v] (truthy v)):=by intro _;rfl):PT X e (tB t):=by
 intro pins s σ H Q I hw
 refine isTrue_plain (thn (h pins s σ H _ I hw) fun v s1 ⟨x,H1,I1,r1,q1⟩=>?_) (he _)
 obtain⟨d,rfl,q⟩:=q1
 cases r1
 exact wpAny_truthy_bool ⟨H1,I1,q⟩
variable {tA tB':TT}{rest:List Expr}
def xG (t u:TT):TT:=fun σ H Q=>t σ H fun c H1=>if c=true then u σ H1 Q else Q false H1
def tOr (t u:TT):TT:=fun σ H Q=>t σ H fun c H1=>if c=true then Q true H1 else u σ H1 Q
def xg (t:TT):TT:=fun σ H Q=>t σ H fun c H1=>Q (!c) H1
theorem ip (ha:PT X a tA):PW X (.BoolOp .And [a] pos) tA:=by
 intro wh pins s σ H Q I h
 refine isTrue_and (thn (ha pins s σ H Q I h) fun c s1 e=>?_)
 cases c with
 |true=>exact isTrue_and_nil e
 |false=>exact e
theorem io (ha:PT X a tA):PW X (.BoolOp .Or [a] pos) tA:=by
 intro wh pins s σ H Q I h
 refine isTrue_or (thn (ha pins s σ H Q I h) fun c s1 e=>?_)
 cases c with
 |false=>exact isTrue_or_nil e
 |true=>exact e
theorem fu (ha:PT X a tA) (hb:PW X (.BoolOp .And (b::rest) pos) tB'):PW X (.BoolOp .And (a::b::rest) pos) (xG tA tB'):=by
 intro wh pins s σ H Q I h
 refine isTrue_and (thn (ha pins s σ H _ I h) fun c s1 ⟨H1,I1,q1⟩=>?_)
 cases c with
 |true=>exact hb wh pins s1 σ H1 Q I1 q1
 |false=>exact⟨H1,I1,q1⟩
theorem dL (ha:PT X a tA) (hb:PW X (.BoolOp .Or (b::rest) pos) tB'):PW X (.BoolOp .Or (a::b::rest) pos) (tOr tA tB'):=by
 intro wh pins s σ H Q I h
 refine isTrue_or (thn (ha pins s σ H _ I h) fun c s1 ⟨H1,I1,q1⟩=>?_)
 cases c with
 |true=>exact⟨H1,I1,q1⟩
 |false=>exact hb wh pins s1 σ H1 Q I1 q1
theorem jy (ha:PT X a tA):PT X (.UnaryOp .Not a pos) (xg tA):=by
 intro pins s σ H Q I h
 exact isTrue_not (ha pins s σ H (fun c H1=>Q (!c) H1) I h)
def xF (ta tb:TE):TE:=fun σ H Q=>ta σ H fun x H1=>∃c,x=.bl c/\if c=true then tb σ H1 Q else Q (.bl false) H1
def xb (ta tb:TE):TE:=fun σ H Q=>ta σ H fun x H1=>∃c,x=.bl c/\if c=true then Q (.bl true) H1 else tb σ H1 Q
def xf (ta:TE):TE:=fun σ H Q=>ta σ H fun x H1=>∃c,x=.bl c/\Q (.bl (!c)) H1
theorem sW {op}{t:TE}(h:PE X a t):PE X (.BoolOp op [a] pos) t:=fun pins s σ H Q I hw=>BoolOp_one (h pins s σ H Q I hw)
theorem zU (ha:PE X a ta) (hb:PE X (.BoolOp .And (b::rest) pos) tb):PE X (.BoolOp .And (a::b::rest) pos) (xF ta tb):=by
 intro pins s σ H Q I h
 refine BoolOp_and (thn (ha pins s σ H _ I h) fun v s1 ⟨x,H1,I1,r1,q1⟩=>?_)
 obtain⟨c,rfl,q1⟩:=q1
 cases r1
 refine wpAny_truthy_bool ?_
 cases c with
 |true=>exact hb pins s1 σ H1 Q I1 q1
 |false=>exact⟨.bl false,H1,I1,rfl,q1⟩
theorem sV (ha:PE X a ta) (hb:PE X (.BoolOp .Or (b::rest) pos) tb):PE X (.BoolOp .Or (a::b::rest) pos) (xb ta tb):=by
 intro pins s σ H Q I h
 refine BoolOp_or (thn (ha pins s σ H _ I h) fun v s1 ⟨x,H1,I1,r1,q1⟩=>?_)
 obtain⟨c,rfl,q1⟩:=q1
 cases r1
 refine wpAny_truthy_bool ?_
 cases c with
 |false=>exact hb pins s1 σ H1 Q I1 q1
 |true=>exact⟨.bl true,H1,I1,rfl,q1⟩
theorem zL (ha:PE X a ta):PE X (.UnaryOp .Not a pos) (xf ta):=by
 intro pins s σ H Q I h
 refine UnaryOp_ (thn (ha pins s σ H _ I h) fun v s1 ⟨x,H1,I1,r1,q1⟩=>?_)
 obtain⟨c,rfl,q1⟩:=q1
 cases r1
 exact not_of (wpAny_truthy_bool ⟨.bl (!c),H1,I1,rfl,q1⟩)
def tIf (t:TT) (ta tb:TE):TE:=fun σ H Q=>t σ H fun c H1=>if c=true then ta σ H1 Q else tb σ H1 Q
theorem sX {c:Expr}(hc:PT X c tA) (ha:PE X a ta) (hb:PE X b tb):PE X (.IfExp c a b pos) (tIf tA ta tb):=by
 intro pins s σ H Q I h
 refine wpAny_IfExp (thn (hc pins s σ H _ I h) fun d s1 ⟨H1,I1,q1⟩=>?_)
 cases d with
 |true=>exact ha pins s1 σ H1 Q I1 q1
 |false=>exact hb pins s1 σ H1 Q I1 q1
end
def SqL (K:PySem.W.Frag) (H:Hp) (a:Addr) (xs:List V):Prop:=
 Rd H a (.lst xs) \/
  ∃(o:Obj) (its:Array Value) (n:Nat),K.lookup a=some o/\o.cls=.type "list"/\o.dict=none/\o.data=.seq its n/\its.size<=sizeLine/\au xs its.toList
def SqT (K:PySem.W.Frag) (H:Hp) (a:Addr) (xs:List V):Prop:=
 Rd H a (.tup xs) \/
  ∃(o:Obj) (its:Array Value) (n:Nat),K.lookup a=some o/\o.cls=.type "tuple"/\o.data=.seq its n/\its.size<=sizeLine/\au xs its.toList
def DB:Value->Option V
 |.none=>some .non
 |.bool b=>some (.bl b)
 |.int i _=>some (.int i)
 |.str x _=>some (.str x)
 |.bytes b _=>some (.byt b)
 |.float b _=>some (.flt b)
 |.ref a=>some (.ref a)
 |.type n=>some (.ty n)
 |_=>none
theorem av.abs {x:V}{u:Value}(r:av x u):DB u=some x:=by
 cases x with
 |non=>cases r;rfl
 |bl _=>cases r;rfl
 |int _=>obtain⟨t,rfl⟩:=r;rfl
 |str _=>obtain⟨t,rfl⟩:=r;rfl
 |byt _=>obtain⟨t,rfl⟩:=r;rfl
 |flt _=>obtain⟨t,rfl⟩:=r;rfl
 |ref _=>cases r;rfl
 |ty _=>cases r;rfl
theorem av.inj {x y:V}{u:Value}(r:av x u) (q:av y u):x=y:=qI (r.abs.symm.trans q.abs)
theorem au.inj:∀{xs ys:List V}{us:List Value},au xs us->au ys us->xs=ys
 |_,_,_,.nil,.nil=>rfl
 |_,_,_,.cons r t,.cons r' t'=>by rw[r.inj r',au.inj t t']
section
variable {X:Cx}{pins:List (Addr×Obj)}{σ:St}{H:Hp}{s:Shared}{a:Addr}{xs ys:List V}
theorem SqL.of {K:PySem.W.Frag}(h:H a=some (.lst xs)):SqL K H a xs:=.inl (.inl h)
theorem SqT.of {K:PySem.W.Frag}(h:H a=some (.tup xs)):SqT K H a xs:=.inl (.inl h)
theorem Inv.list (I:Inv X pins σ H s) (h:SqL X.K H a xs):∃its:List Value,au xs its/\PlainL s.heap a its.toArray/\xs.length<=sizeLine:=by
 rcases h with h|⟨o,its,n,hk,hc,hd,hs,hz,r⟩
 ·obtain⟨z,its,n,r,e⟩:=h.ok I.hok
  exact⟨its,r,⟨_,n,e,rfl,rfl,rfl⟩,z⟩
 ·refine⟨its.toList,r,⟨o,n,I.kIn a o hk,hc,hd,by simpa using hs⟩,?_⟩
  have e:=r.length
  simp only[qL]at e
  omega
theorem Inv.tuple (I:Inv X pins σ H s) (h:SqT X.K H a xs):∃its:List Value,au xs its/\IsTup s.heap a its.toArray/\xs.length<=sizeLine:=by
 rcases h with h|⟨o,its,n,hk,hc,hs,hz,r⟩
 ·obtain⟨z,its,r,p⟩:=h.ok I.hok
  exact⟨its,r,p,z⟩
 ·refine⟨its.toList,r,⟨o,I.kIn a o hk,hc,n,by simpa using hs⟩,?_⟩
  have e:=r.length
  simp only[qL]at e
  omega
theorem Inv.list_inj (I:Inv X pins σ H s) (h:SqL X.K H a xs) (h':SqL X.K H a ys):xs=ys:=by
 obtain⟨its,r,⟨o,n,e,_,_,d⟩,_⟩:=I.list h
 obtain⟨its',r',⟨o',n',e',_,_,d'⟩,_⟩:=I.list h'
 rw[e]at e';cases e'
 rw[d]at d'
 injection d' with d1 _
 have:its=its':=by simpa using congrArg Array.toList d1
 subst this
 exact r.inj r'
theorem Inv.tuple_inj (I:Inv X pins σ H s) (h:SqT X.K H a xs) (h':SqT X.K H a ys):xs=ys:=by
 obtain⟨its,r,⟨o,e,_,n,d⟩,_⟩:=I.tuple h
 obtain⟨its',r',⟨o',e',_,n',d'⟩,_⟩:=I.tuple h'
 rw[e]at e';cases e'
 rw[d]at d'
 injection d' with d1 _
 have:its=its':=by simpa using congrArg Array.toList d1
 subst this
 exact r.inj r'
end
abbrev Cx.wish (X:Cx) (E:Qq):Cx:={ X with xe:=E }
abbrev Cx.nox (X:Cx):Cx:=X.wish fun _ _=>False
theorem Cx.Ok.wish {X:Cx}(ok:X.Ok) (E:Qq):(X.wish E).Ok:=
 ⟨ok.mod,ok.kind,ok.glob,ok.blt,ok.above,ok.inj,ok.has,ok.cab,ok.hd,ok.frames,ok.stk,ok.exf,ok.bs,ok.bsz,ok.noex,ok.exfs,ok.funs,ok.frf⟩
theorem Cx.Ok.unwish {X:Cx}{E:Qq}(ok:(X.wish E).Ok):X.Ok:=
 ⟨ok.mod,ok.kind,ok.glob,ok.blt,ok.above,ok.inj,ok.has,ok.cab,ok.hd,ok.frames,ok.stk,ok.exf,ok.bs,ok.bsz,ok.noex,ok.exfs,ok.funs,ok.frf⟩
section
variable {X:Cx}{pins:List (Addr×Obj)}{σ:St}{H:Hp}{s:Shared}{E:Qq}
theorem Inv.wish (I:Inv X pins σ H s) (E:Qq):Inv (X.wish E) pins σ H s:=⟨I.ok.wish E,I.os,I.bare,I.base,I.loc,I.cell,I.free,I.freeC,I.pin,I.hok,I.len⟩
theorem Inv.unwish (I:Inv (X.wish E) pins σ H s):Inv X pins σ H s:=⟨I.ok.unwish,I.os,I.bare,I.base,I.loc,I.cell,I.free,I.freeC,I.pin,I.hok,I.len⟩
theorem SP.unwish {D:eh}{f:Flow}{s':Shared}(h:SP (X.wish E) pins D f s'):SP X pins D f s':=by
 cases f with
 |next=>obtain⟨σ',H',I,q⟩:=h;exact⟨σ',H',I.unwish,q⟩
 |brk=>obtain⟨σ',H',I,q⟩:=h;exact⟨σ',H',I.unwish,q⟩
 |cont=>obtain⟨σ',H',I,q⟩:=h;exact⟨σ',H',I.unwish,q⟩
 |ret u=>obtain⟨v,σ',H',I,r,q⟩:=h;exact⟨v,σ',H',I.unwish,r,q⟩
theorem PSs.nox {st:List Stmt}{t:TS}(h:PSs X.nox st t):PSs X st t:=fun pins s σ H D I hw=>
 wpAny_mono (h pins s σ H D (I.wish _) hw) (fun _ _ q=>q.unwish) fun _ _ z=>False.elim z
end
section
variable {X:Cx}{st:Stmt}{rest:List Stmt}{t u:TS}{e:Expr}{te:TE}{pos:Pos}
def xi:TS:=fun D σ H=>D.nx σ H
def oY (t u:TS):TS:=fun D σ H=>t { D with nx:=u D } σ H
theorem bD:PSs X [] xi:=fun _ _ σ H _ I h=>wpAny_execs_nil ⟨σ,H,I,h⟩
theorem ai (h1:PS X st t) (h2:PSs X rest u):PSs X (st::rest) (oY t u):=by
 intro pins s σ H D I h
 refine wpAny_execs_cons (thn (h1 pins s σ H { D with nx:=u D } I h) fun f s1 q=>?_)
 cases f with
 |next=>
  obtain⟨σ',H',I',q⟩:=q
  exact h2 pins s1 σ' H' D I' q
 |ret v=>exact q
 |brk=>exact q
 |cont=>exact q
theorem aq (h1:PS X st t):PSs X [st] t:=by
 intro pins s σ H D I h
 refine wpAny_execs_cons (thn (h1 pins s σ H D I h) fun f s1 q=>?_)
 cases f with
 |next=>exact wpAny_execs_nil q
 |ret v=>exact q
 |brk=>exact q
 |cont=>exact q
theorem Inv.quiet {pins:List (Addr×Obj)}{σ:St}{H:Hp}{s:Shared}(I:Inv X pins σ H s):interactive X.env=false:=by simp[interactive,I.ok.kind]
def xw (te:TE):TS:=fun D σ H=>te σ H fun _ H1=>D.nx σ H1
theorem aO (he:PE X e te) (hs:swapsWith e none pos.line X.env=pure false:=by rfl):PS X (.Expr e pos) (xw te):=by
 intro pins s σ H D I h
 exact wpAny_Expr_any (thn (he pins s σ H _ I h) fun v s1 ⟨x,H1,I1,r1,q1⟩=>⟨σ,H1,I1,q1⟩) I.quiet hs
def x9 (te:TE):TS:=fun D σ H=>te σ H D.rt
theorem aH (he:PE X e te):PS X (.Return (some e) pos) (x9 te):=by
 intro pins s σ H D I h
 exact wpAny_Return_some (thn (he pins s σ H _ I h) fun v s1 ⟨x,H1,I1,r1,q1⟩=>⟨x,σ,H1,I1,r1,q1⟩)
def x8:TS:=fun D _ H=>D.rt .non H
theorem zz:PS X (.Return none pos) x8:=fun _ _ σ H _ I h=>wpAny_Return_none ⟨.non,σ,H,I,rfl,h⟩
def xq (c:TT) (t u:TS):TS:=fun D σ H=>c σ H fun b H1=>if b=true then t D σ H1 else u D σ H1
theorem aY {c:Expr}{a b:List Stmt}{tc:TT}(hc:PT X c tc) (ha:PSs X a t) (hb:PSs X b u):PS X (.If c a b pos) (xq tc t u):=by
 intro pins s σ H D I h
 refine wpAny_If (thn (hc pins s σ H _ I h) fun d s1 ⟨H1,I1,q1⟩=>?_)
 cases d with
 |true=>exact ha pins s1 σ H1 D I1 q1
 |false=>exact hb pins s1 σ H1 D I1 q1
end
abbrev TG:=V->St->Hp->(St->Hp->Prop)->Prop
abbrev TGs:=List V->St->Hp->(St->Hp->Prop)->Prop
def PG (X:Cx) (target:Expr) (t:TG):Prop:=
 ∀(pins:List (Addr×Obj)) (s:Shared) (σ:St) (H:Hp) (v:V) (u:Value) (Q:St->Hp->Prop),Inv X pins σ H s->av v u->t v σ H Q->
  wpAny (model X.prog X.w) X.A (assign target X.env u) (fun _ s'=>∃σ' H',Inv X pins σ' H' s'/\Q σ' H') X.xe s
def PGs (X:Cx) (ts:List Expr) (t:TGs):Prop:=
 ∀(pins:List (Addr×Obj)) (s:Shared) (σ:St) (H:Hp) (vs:List V) (us:List Value) (Q:St->Hp->Prop),Inv X pins σ H s->au vs us->t vs σ H Q->
  wpAny (model X.prog X.w) X.A (assignInOrder ((assignEach ts X.env).map (·.2)) us) (fun _ s'=>∃σ' H',Inv X pins σ' H' s'/\Q σ' H') X.xe s
abbrev oE:=V->V->V->Hp->(Hp->Prop)->Prop
def wo (X:Cx) (t:oE):Prop:=
 ∀(pins:List (Addr×Obj)) (s:Shared) (σ:St) (H:Hp) (o i v:V) (ov iv u:Value) (Q:Hp->Prop),Inv X pins σ H s->av o ov->av i iv->av v u->t o i v H Q->
  wpAny (model X.prog X.w) X.A (setItem ov iv u) (fun _ s'=>∃H',Inv X pins σ H' s'/\Q H') X.xe s
section
variable {X:Cx}{pos:Pos}
def iI (i:Nat):TG:=fun v σ H Q=>Q (σ.set i (some v)) H
theorem bf {i:Nat}{x:Str}(hN:X.N.Nodup) (hi:X.N[i]?=some x) (hx:Loc X.env.scope x) (hf:X.fn x=true\/X.env.scope.names.lookup x=some .local:=by first|exact .inl rfl|exact .inr rfl|assumption):PG X (.Name x pos) (iI i):=by
 intro pins s σ H v u Q I r h
 exact wpAny_assign_Name (ph I hN hi hx r (fun s' I'=>⟨_,H,I',h⟩) hf)
def Cm:TGs:=fun vs σ H Q=>vs=[]/\Q σ H
def Co (t:TG) (u:TGs):TGs:=fun vs σ H Q=>∃v r,vs=v::r/\t v σ H fun σ' H'=>u r σ' H' Q
theorem gF:PGs X [] Cm:=by
 intro pins s σ H vs us Q I r h
 obtain⟨e,h⟩:=h
 subst e
 cases r
 exact assignInOrder_nil ⟨σ,H,I,h⟩
theorem cU {e:Expr}{es:List Expr}{t:TG}{u:TGs}(h1:PG X e t) (h2:PGs X es u)
 (hs:(assignEach (e::es) X.env).map (·.2)=assign e X.env::(assignEach es X.env).map (·.2):=by rfl):PGs X (e::es) (Co t u):=by
 intro pins s σ H vs us Q I r h
 obtain⟨v,vr,e1,h⟩:=h
 subst e1
 cases r with
 |cons r rr=>
  rw[hs]
  refine assignInOrder_cons (thn (h1 pins s σ H _ _ _ I r h) fun _ s1 ⟨σ1,H1,I1,q1⟩=>?_)
  exact h2 pins s1 σ1 H1 _ _ Q I1 rr q1
def Cj (K:PySem.W.Frag) (n:Nat) (t:TGs):TG:=fun v σ H Q=>∃a xs,v=.ref a/\SqT K H a xs/\xs.length=n/\t xs σ H Q
theorem gG {es:List Expr}{k:Nat}{t:TGs}{n:Nat}(hc:X.calm=true) (h:PGs X es t)
 (hn:(assignEach es X.env).length=n:=by rfl) (hst:(assignEach es X.env).findIdx? (·.1)=none:=by rfl):PG X (.Tuple es k pos) (Cj X.K n t):=by
 intro pins s σ H v u Q I r hw
 obtain⟨a,xs,e1,hq,hl,hw⟩:=hw
 subst e1
 cases r
 obtain⟨its,rv,ht,hz⟩:=I.tuple hq
 refine assign_Tuple_tuple (I.ok.hd hc) ht (by simp[hn,<- hl,rv.length]) hst fun h' hx=>?_
 have I1:Inv X pins σ H { s with heap:=h' }:=I.kept (t':=s.toks) fun b o e=>hx b o (qF (qp e)) e
 exact h pins _ σ H xs _ Q I1 (by simpa using rv) hw
def Ck (to ti:TE) (t:oE):TG:=fun v σ H Q=>to σ H fun o H1=>ti σ H1 fun i H2=>t o i v H2 fun H3=>Q σ H3
theorem mE {o i:Expr}{to ti:TE}{t:oE}(ho:PE X o to) (hi:PE X i ti) (hs:wo X t)
 (ha:∀v,assign (.Subscript o i pos) X.env v=(do
  let ov <- holding [v] (eval o X.env)
  let iv <- holding [v,ov] (eval i X.env)
  standAt pos
  holding [v,ov,iv] (setItem ov iv v)
  release [v,ov,iv] []):=by intro _;rfl):PG X (.Subscript o i pos) (Ck to ti t):=by
 intro pins s σ H v u Q I r h
 rw[ha]
 refine q4 (wpAny_holding (thn (ho pins s σ H _ I h) fun ov s1 ⟨x,H1,I1,r1,q1⟩=>?_))
 refine q4 (wpAny_holding (thn (hi pins s1 σ H1 _ I1 q1) fun iv s2 ⟨y,H2,I2,r2,q2⟩=>?_))
 refine q4 (wpAny_standAt (q4 (wpAny_holding (thn (hs pins s2 σ H2 x y v ov iv u _ I2 r1 r2 r q2) fun _ s3 ⟨H3,I3,q3⟩=>?_))))
 exact wpAny_release ⟨σ,H3,I3,q3⟩
def kz (te:TE) (g:TG):TS:=fun D σ H=>te σ H fun x H1=>g x σ H1 D.nx
theorem mC {tg e:Expr}{te:TE}{g:TG}(he:PE X e te) (hg:PG X tg g) (hs:swapsWithSole [tg] e pos.line X.env=pure false:=by rfl) (hw:swappedStores [tg] e X.env=pure none:=by rfl)
 (h1:(assignEach [tg] X.env).map (·.2)=[assign tg X.env]:=by rfl):PS X (.Assign [tg] e pos) (kz te g):=by
 intro pins s σ H D I h
 refine wpAny_Assign_stores (thn (he pins s σ H _ I h) fun v s1 ⟨x,H1,I1,r1,q1⟩=>?_) hs hw
 rw[h1]
 exact thn (hg pins s1 σ H1 x v _ I1 r1 q1) fun _ s2 q=>q
theorem ax {i:Nat}{x:Str}{e:Expr}{te:TE}{pos':Pos}(hN:X.N.Nodup) (hi:X.N[i]?=some x) (hx:Loc X.env.scope x) (he:PE X e te) (hs:swapsWith e (some (.Name x pos')) pos.line X.env=pure false:=by rfl) (hf:X.fn x=true\/X.env.scope.names.lookup x=some .local:=by first|exact .inl rfl|exact .inr rfl|assumption):
 PS X (.Assign [.Name x pos'] e pos) (kz te (iI i)):=by
 intro pins s σ H D I h
 refine wpAny_Assign_Name (thn (he pins s σ H _ I h) fun v s1 ⟨y,H1,I1,r1,q1⟩=>?_) hs
 exact ph I1 hN hi hx r1 (fun s2 I2=>⟨_,H1,I2,q1⟩) hf
end
section
variable {X:Cx}{pos:Pos}
end
structure It where
 go:Nat->Hp->Prop
 yld:Nat->Hp->V->Hp->Prop
 stop:Nat->Hp->Prop
def cf (X:Cx) (pins:List (Addr×Obj)) (H:Hp) (b:Addr):Prop:=
 H b=none/\b≠X.env.locals/\b∉X.fs/\(b∈X.ex\/X.s₀.heap.objs.size<=b)/\(∀x c,X.env.cells.lookup x=some c->c≠b)/\∀p∈X.pn++pins,p.1≠b
theorem Inv.fpOk {X:Cx}{pins:List (Addr×Obj)}{σ:St}{H H':Hp}{s:Shared}{b:Addr}(I:Inv X pins σ H s) (hb:s.heap.objs.size<=b) (hn:H' b=none):cf X pins H' b:=by
 refine⟨hn,Nat.ne_of_gt (qC I.lt hb),I.nofs hb,.inr (qx I.sz hb),fun x c e z=>?_,fun p hp z=>?_⟩
 ·obtain⟨v,q⟩:=I.cell x c e
  exact absurd (qC q.lt (by rw[z];exact hb)) (Nat.lt_irrefl _)
 ·exact absurd (qC (qp (I.pin p hp).1) (by rw[z];exact hb)) (Nat.lt_irrefl _)
structure fU (P:Program) (w:World) (K:PySem.W.Frag) (tg:Expr) (J:It) (fp:List Addr) (it:Addr) (tn:Nat->Heap->Prop):Prop where
 mem:it∈fp
 obj:∀i h,tn i h->∀b∈fp,∃o,h.get? b=some o/\∀v,o.data≠.cell v
 keep:∀i h h',tn i h->(∀b∈fp,∀o,h.get? b=some o->h'.get? b=some o)->tn i h'
 item:∀(X:Cx),X.prog=P->X.w=w->X.K=K->X.calm=true->∀(i:Nat) (pins:List (Addr×Obj)) (s:Shared) (σ:St) (H:Hp) (E:Qq),Inv X pins σ H s->(∀b∈fp,cf X pins H b)->tn i s.heap->J.go i H->
  wpAny (model P w) X.A (pyNext (.ref it)) (fun r s1=>∃u,r=some u /\
   wpAny (model P w) X.A (letOwnedTupleGo tg (.ref it) u) (fun _ s2=>∃x H',Inv X pins σ H' s2/\av x u/\J.yld i H x H'/\tn (i+1) s2.heap/\∀b∈fp,H' b=none) E s1) E s
 done:∀(X:Cx),X.prog=P->X.w=w->X.K=K->X.calm=true->∀(i:Nat) (pins:List (Addr×Obj)) (s:Shared) (σ:St) (H:Hp) (E:Qq),Inv X pins σ H s->(∀b∈fp,cf X pins H b)->tn i s.heap->J.stop i H->
  wpAny (model P w) X.A (pyNext (.ref it)) (fun r s1=>r=none/\Inv X pins σ H s1) E s
 self:∀(A:Around) (i:Nat) (s:Shared) (Q:Qq) (E:Qq),tn i s.heap->Q (.ref it) s->wpAny (model P w) A (pyIter (.ref it)) Q E s
abbrev TI:=St->Hp->(It->Hp->Prop)->Prop
def PIE (X:Cx) (pins:List (Addr×Obj)) (σ:St) (tg:Expr) (R:It->Hp->Prop) (itv:Value) (s2:Shared):Prop:=
 ∃(it:Addr) (fp:List Addr) (tn:Nat->Heap->Prop) (J:It) (H':Hp),itv=.ref it/\Inv X pins σ H' s2/\fU X.prog X.w X.K tg J fp it tn/\tn 0 s2.heap/\(∀b∈fp,cf X pins H' b)/\R J H'
def PI (X:Cx) (tg iter:Expr) (wi:TI):Prop:=
 ∀(pins:List (Addr×Obj)) (s:Shared) (σ:St) (H:Hp) (R:It->Hp->Prop),Inv X pins σ H s->wi σ H R->
  wpAny (model X.prog X.w) X.A (eval iter X.env) (fun v s1=>wpAny (model X.prog X.w) X.A (pyIter v) (PIE X pins σ tg R) X.xe s1) X.xe s
theorem nP {M:Model}{A:Around}{E:Qq}{s:Shared}{tg:Expr}{it:Addr}{u:Value}{o:Obj}{n:String}{vs:Array Value}{Q:Unit->Shared->Prop}(ho:s.heap.get? it=some o) (hc:o.cls=.type n) (hd:o.data=.fields vs)
 (hn:["enumerate","zip","dict_itemiterator","dict_reverseitemiterator","odict_iterator","itertools.zip_longest","itertools.pairwise"].contains n=false) (hQ:Q () s):wpAny M A (letOwnedTupleGo tg (.ref it) u) Q E s:=by
 unfold letOwnedTupleGo
 cases tg<;>first
  |exact qc hQ
  |(cases u<;>first
   |exact qc hQ
   |(refine q4 (wpAny_load ho ?_)
     rw[hc,hd]
     show wpAny M A (if(["enumerate","zip","dict_itemiterator","dict_reverseitemiterator","odict_iterator","itertools.zip_longest","itertools.pairwise"].contains n && vs[0]? == some (rawInt _))=true then _ else _) Q E s
     rw[qZ (by intro h;rw[hn,Bool.false_and]at h;cases h)]
     exact qc hQ))
def Itl (K:PySem.W.Frag) (a:Addr):It:=
 ⟨fun i H=>∃xs x,SqL K H a xs/\xs[i]?=some x,fun i H x H'=>H'=H/\∀xs,SqL K H a xs->xs[i]?=some x,fun i H=>∃xs,SqL K H a xs/\xs.length<=i⟩
def Itt (K:PySem.W.Frag) (a:Addr):It:=
 ⟨fun i H=>∃xs x,SqT K H a xs/\xs[i]?=some x,fun i H x H'=>H'=H/\∀xs,SqT K H a xs->xs[i]?=some x,fun i H=>∃xs,SqT K H a xs/\xs.length<=i⟩
def Itr (lo:Int) (n:Nat):It:=⟨fun i _=>i<n,fun i H x H'=>H'=H/\x=.int (lo+i),fun i _=>n<=i⟩
theorem wU {P:Program}{w:World}{K:PySem.W.Frag}{tg:Expr}(a it:Addr):fU P w K tg (Itl K a) [it] it (fun i h=>h.IsListIter it a i) where
 mem:=by simp
 obj:=fun i h st b hb=>by
  have e:b=it:=by simpa using hb
  subst e
  obtain⟨o,e,c,d⟩:=st
  exact⟨o,e,fun v z=>by rw[d]at z;cases z⟩
 keep:=fun i h h' st k=>st.at fun o e=>k it (by simp) o e
 item:=by
  intro X hP hw hK hc i pins s σ H E I hf st hg
  subst hP hw hK
  obtain⟨xs,x,hq,hx⟩:=hg
  obtain⟨its,rv,p,hz⟩:=I.list hq
  obtain⟨u,hu,ru⟩:=rv.get hx
  obtain⟨f0,f1,f2,f3,f4,f5⟩:=hf it (by simp)
  refine wpAny_pyNext_list_item st p.isList (x:=u) (by simpa using hu) fun h' st' sb=>?_
  have I1:Inv X pins σ H { s with heap:=h' }:=I.turned (t':=s.toks) (fun b o hb e=>(sb.2 b hb).trans e) f0 f1 f3 f4 f5
  obtain⟨o,e,c,d⟩:=id st'
  exact⟨u,rfl,nP (s:={ s with heap:=h' }) e c d Qk ⟨x,H,I1,ru,⟨rfl,fun ys hy=>by rw[I.list_inj hy hq];exact hx⟩,st',fun b hb=>(hf b hb).1⟩⟩
 done:=by
  intro X hP hw hK hc i pins s σ H E I hf st hg
  subst hP hw hK
  obtain⟨xs,hq,hx⟩:=hg
  obtain⟨its,rv,p,hz⟩:=I.list hq
  obtain⟨f0,f1,f2,f3,f4,f5⟩:=hf it (by simp)
  have hl:=rv.length
  exact wpAny_pyNext_list_end (I.ok.hd hc) st p.isList (by simp;omega) fun h' eb=>⟨rfl,I.turned (t':=s.toks) (fun b o hb e=>eb b o hb e) f0 f1 f3 f4 f5⟩
 self:=fun _ _ _ _ _ st h=>wpAny_pyIter_listiter st h
theorem wQ {P:Program}{w:World}{K:PySem.W.Frag}{tg:Expr}(a it:Addr):fU P w K tg (Itt K a) [it] it (fun i h=>h.IsTupleIter it a i) where
 mem:=by simp
 obj:=fun i h st b hb=>by
  have e:b=it:=by simpa using hb
  subst e
  obtain⟨o,e,c,d⟩:=st
  exact⟨o,e,fun v z=>by rw[d]at z;cases z⟩
 keep:=fun i h h' st k=>st.at fun o e=>k it (by simp) o e
 item:=by
  intro X hP hw hK hc i pins s σ H E I hf st hg
  subst hP hw hK
  obtain⟨xs,x,hq,hx⟩:=hg
  obtain⟨its,rv,p,hz⟩:=I.tuple hq
  obtain⟨u,hu,ru⟩:=rv.get hx
  obtain⟨f0,f1,f2,f3,f4,f5⟩:=hf it (by simp)
  refine wpAny_pyNext_tuple_item st (show s.heap.IsTuple a its.toArray from p) (x:=u) (by simpa using hu) fun h' st' sb=>?_
  have I1:Inv X pins σ H { s with heap:=h' }:=I.turned (t':=s.toks) (fun b o hb e=>(sb.2 b hb).trans e) f0 f1 f3 f4 f5
  obtain⟨o,e,c,d⟩:=id st'
  exact⟨u,rfl,nP (s:={ s with heap:=h' }) e c d Qk ⟨x,H,I1,ru,⟨rfl,fun ys hy=>by rw[I.tuple_inj hy hq];exact hx⟩,st',fun b hb=>(hf b hb).1⟩⟩
 done:=by
  intro X hP hw hK hc i pins s σ H E I hf st hg
  subst hP hw hK
  obtain⟨xs,hq,hx⟩:=hg
  obtain⟨its,rv,p,hz⟩:=I.tuple hq
  obtain⟨f0,f1,f2,f3,f4,f5⟩:=hf it (by simp)
  have hl:=rv.length
  exact wpAny_pyNext_tuple_end (I.ok.hd hc) st (show s.heap.IsTuple a its.toArray from p) (by simp;omega) fun h' eb=>⟨rfl,I.turned (t':=s.toks) (fun b o hb e=>eb b o hb e) f0 f1 f3 f4 f5⟩
 self:=fun _ _ _ _ _ st h=>wpAny_pyIter_tupleiter st h
theorem wR {P:Program}{w:World}{K:PySem.W.Frag}{tg:Expr}(it:Addr) (lo:Int) (n:Nat):fU P w K tg (Itr lo n) [it] it (fun i h=>IsRangeIter h it (lo+(i:Nat) * 1) ((n:Int)-(i:Nat)) 1) where
 mem:=by simp
 obj:=fun i h st b hb=>by
  have e:b=it:=by simpa using hb
  subst e
  exact⟨_,st,fun v z=>by
   have z':Data.fields _=Data.cell v:=z
   cases z'⟩
 keep:=fun i h h' st k=>k it (by simp) _ st
 item:=by
  intro X hP hw hK hc i pins s σ H E I hf st hg
  subst hP hw hK
  obtain⟨f0,f1,f2,f3,f4,f5⟩:=hf it (by simp)
  have W:=Walks.range (prog:=X.prog) (w:=X.w) (I.ok.hd hc) it lo 1 n
  refine W.item i s _ _ hg st fun v h' tk hv st' kk=>?_
  obtain⟨t,rfl⟩:=hv
  have I1:Inv X pins σ H { s with heap:=h',toks:=tk }:=I.turned (fun b o hb e=>kk b o (by simpa using hb) e) f0 f1 f3 f4 f5
  refine⟨_,rfl,nP (s:={ s with heap:=h',toks:=tk }) (n:="range_iterator") st' rfl rfl Qk ⟨.int (lo+i),H,I1,⟨t,?_⟩,⟨rfl,rfl⟩,st',fun b hb=>(hf b hb).1⟩⟩
  rw[Int.mul_one]
 done:=by
  intro X hP hw hK hc i pins s σ H E I hf st hg
  subst hP hw hK
  obtain⟨f0,f1,f2,f3,f4,f5⟩:=hf it (by simp)
  exact wpAny_pyNext_range_end (I.ok.hd hc) st (by have:n<=i:=hg;omega) fun h' eb=>⟨rfl,I.turned (t':=s.toks) (fun b o hb e=>eb b o hb e) f0 f1 f3 f4 f5⟩
 self:=fun _ _ _ _ _ st h=>wpAny_pyIter_rangeiter st h
section
variable {X:Cx}{tg:Expr}
def C2 (K:PySem.W.Frag) (tl:TE):TI:=fun σ H R=>tl σ H fun x H1=>∃a,x=.ref a/\(∃xs,SqL K H1 a xs)/\R (Itl K a) H1
def C1 (K:PySem.W.Frag) (tl:TE):TI:=fun σ H R=>tl σ H fun x H1=>∃a,x=.ref a/\(∃xs,SqT K H1 a xs)/\R (Itt K a) H1
theorem bQ {l:Expr}{tl:TE}(hl:PE X l tl):PI X tg l (C2 X.K tl):=by
 intro pins s σ H R I h
 refine thn (hl pins s σ H _ I h) fun v s1 ⟨x,H1,I1,r1,q1⟩=>?_
 obtain⟨a,e,⟨xs,hq⟩,q⟩:=q1
 subst e
 cases r1
 obtain⟨its,rv,p,hz⟩:=I1.list hq
 refine wpAny_pyIter_list p.isList ?_
 refine⟨s1.heap.objs.size,[s1.heap.objs.size],_,_,H1,rfl,I1.kept (t':=s1.toks) fun b o e=>q9 _ e,wU a _,⟨_,qo _ rfl,rfl,rfl⟩,fun b hb=>?_,q⟩
 have e:b=s1.heap.objs.size:=by simpa using hb
 subst e
 exact I1.fpOk (qd _) (I1.hok.fresh (qd _))
theorem zH {l:Expr}{tl:TE}(hl:PE X l tl):PI X tg l (C1 X.K tl):=by
 intro pins s σ H R I h
 refine thn (hl pins s σ H _ I h) fun v s1 ⟨x,H1,I1,r1,q1⟩=>?_
 obtain⟨a,e,⟨xs,hq⟩,q⟩:=q1
 subst e
 cases r1
 obtain⟨its,rv,p,hz⟩:=I1.tuple hq
 refine wpAny_pyIter_tuple (show s1.heap.IsTuple a its.toArray from p) ?_
 refine⟨s1.heap.objs.size,[s1.heap.objs.size],_,_,H1,rfl,I1.kept (t':=s1.toks) fun b o e=>q9 _ e,wQ a _,⟨_,qo _ rfl,rfl,rfl⟩,fun b hb=>?_,q⟩
 have e:b=s1.heap.objs.size:=by simpa using hb
 subst e
 exact I1.fpOk (qd _) (I1.hok.fresh (qd _))
theorem yN {pins:List (Addr×Obj)}{σ:St}{H:Hp}{s:Shared}{R:It->Hp->Prop}{E:Qq}{lo hi:Int}{t u v:Tok}{tk:Nat}(I:Inv X pins σ H s) (h1:-(2 ^ 62)<=lo) (h2:lo<2 ^ 62) (h3:-(2 ^ 62)<=hi) (h4:hi<2 ^ 62)
 (q:R (Itr lo (hi-lo).toNat) H):wpAny (model X.prog X.w) X.A (pyIter (.ref s.heap.objs.size)) (PIE X pins σ tg R) E { s with heap:=s.heap.push { cls:=.type "range",data:=.fields #[.int lo t,.int hi u,.int 1 v] },toks:=tk }:=by
 refine wpAny_pyIter_range (IsRange.new ..) (small_one h1 h2 h3 h4) ?_
 have I1:Inv X pins σ H { s with heap:=s.heap.push { cls:=.type "range",data:=.fields #[.int lo t,.int hi u,.int 1 v] },toks:=tk }:=I.kept fun b o e=>q9 _ e
 refine⟨(s.heap.push { cls:=.type "range",data:=.fields #[.int lo t,.int hi u,.int 1 v] }).objs.size,[(s.heap.push { cls:=.type "range",data:=.fields #[.int lo t,.int hi u,.int 1 v] }).objs.size],_,_,H,rfl,
  I1.kept (t':=tk) fun b o e=>q9 _ e,wR _ lo (hi-lo).toNat,?_,fun b hb=>?_,q⟩
 ·have e1:lo+((0:Nat):Int) * 1=lo:=by simp
  have e2:(((hi-lo).toNat:Nat):Int)-((0:Nat):Int)=Builtin.Range.rangeSize lo hi 1:=by rw[rangeSize_one];split<;>omega
  show IsRangeIter _ _ (lo+((0:Nat):Int) * 1) ((((hi-lo).toNat:Nat):Int)-((0:Nat):Int)) 1
  rw[e1,e2]
  exact qo _ rfl
 ·have e:b=(s.heap.push { cls:=.type "range",data:=.fields #[.int lo t,.int hi u,.int 1 v] }).objs.size:=by simpa using hb
  subst e
  exact I1.fpOk (qd _) (I1.hok.fresh (qd _))
def nN (ta:TA):TI:=fun σ H R=>ta σ H fun vs H1=>∃j:Int,vs=[.int j]/\-(2 ^ 62)<=j/\j<2 ^ 62/\R (Itr 0 j.toNat) H1
theorem zI {a:Expr}{ta:TA}{p pos:Pos}(hg:Gl X "range") (hm:X.mg "range"=none) (ha:PA X [a] ta) (hs:starEach [a] X.env=[(false,eval a X.env)]:=by rfl):PI X tg (.Call (.Name "range" p) [a] [] pos) (nN ta):=by
 intro pins s σ H R I h
 refine Call_ (fH I hg hm boot_range (PyProof.Rows.callWith_type1 (thn (ha pos pins s σ H _ I h) fun us s1 ⟨vs,H1,I1,r1,q1⟩=>?_) hs rfl))
 obtain⟨j,e,q1,q2,q⟩:=q1
 subst e
 cases r1 with
 |cons r rr=>
  cases rr
  obtain⟨t,rfl⟩:=r
  exact call_range_1 (yN I1 Qo Qo q1 q2 (by simpa using q))
def xu (wi:TI) (g:TG) (tb:TS):TS:=fun D σ H=>wi σ H fun J H1=>∃W:Nat->Nat->St->Hp->Prop,(∃m,W 0 m σ H1)/\∀i m σ H,W i m σ H->
 (J.stop i H/\D.nx σ H)\/(J.go i H/\∃N:St->Hp->Prop,(∀σ' H',N σ' H'->∃m',m'<m/\W (i+1) m' σ' H')/\∀x H',J.yld i H x H'->g x σ H' fun σ2 H2=>tb { D with nx:=N,ct:=N,bk:=D.nx } σ2 H2)
def iw (fp:List Addr) (h:Heap):List (Addr×Obj):=fp.filterMap fun b=>(h.get? b).map fun o=>(b,o)
theorem jK {fp:List Addr}{h:Heap}{b:Addr}{o:Obj}(hb:b∈fp) (e:h.get? b=some o):(b,o)∈iw fp h:=List.mem_filterMap.mpr ⟨b,hb,by rw[e];rfl⟩
theorem AU {fp:List Addr}{h:Heap}{p:Addr×Obj}(hp:p∈iw fp h):p.1∈fp/\h.get? p.1=some p.2:=by
 obtain⟨b,hb,e⟩:=List.mem_filterMap.mp hp
 cases q:h.get? b with
 |none=>rw[q]at e;cases e
 |some o=>
  rw[q]at e
  have e':(b,o)=p:=qI e
  subst e'
  exact⟨hb,q⟩
theorem Inv.pinned {pins:List (Addr×Obj)}{σ:St}{H:Hp}{s:Shared}{fp:List Addr}(I:Inv X pins σ H s) (hf:∀b∈fp,cf X pins H b) (ho:∀b∈fp,∃o,s.heap.get? b=some o/\∀v,o.data≠.cell v):Inv X (pins++iw fp s.heap) σ H s:=
 I.pins_of fun p hp=>(qg.mp hp).elim (fun z=>I.pin p (qH _ z)) fun z=>by
  obtain⟨hb,e⟩:=AU z
  obtain⟨f0,f1,f2,_⟩:=hf p.1 hb
  obtain⟨o,e',d⟩:=ho p.1 hb
  rw[e]at e';cases e'
  exact⟨e,f0,f1,f2,d⟩
theorem Inv.unpinned {pins pl:List (Addr×Obj)}{σ:St}{H:Hp}{s:Shared}(I:Inv X (pins++pl) σ H s):Inv X pins σ H s:=I.pins_of fun p hp=>I.pin p (qH _ (qV _ hp))
theorem cj {iter:Expr}{body:List Stmt}{wi:TI}{g:TG}{tb:TS}{pos:Pos}(hp:PassesOwn (model X.prog X.w) X.A X.env X.xe) (hc:X.calm=true) (hi:PI X tg iter wi) (hg:PG X tg g) (hb:PSs X body tb)
 (hs:∀x,foldedSetIterable iter X.env x=pure x:=by intro _;rfl):PS X (.For tg iter body [] pos) (xu wi g tb):=by
 intro pins s σ H D I h
 refine wpAny_For (thn (hi pins s σ H _ I h) fun v s1 h1=>thn h1 fun itv s2 h2=>?_) hs
 obtain⟨it,fp,tn,J,H2,e,I2,T,st2,f2,W,⟨m0,w0⟩,turn⟩:=h2
 subst e
 have stat:∀{H':Hp},(∀b∈fp,H' b=none)->∀b∈fp,cf X pins H' b:=fun hn b hb=>⟨hn b hb,(f2 b hb).2⟩
 refine codeAny_forLoop_any (fun n s'=>∃i σ' H',Inv X pins σ' H' s'/\tn i s'.heap/\(∀b∈fp,H' b=none)/\W i n σ' H') ?_ m0 ⟨0,σ,H2,I2,st2,fun b hb=>(f2 b hb).1,w0⟩
 rintro n s3 ⟨i,σ3,H3,I3,st3,fr3,w3⟩
 rcases turn i n σ3 H3 w3 with⟨stop,qn⟩|⟨go,N,hN,step⟩
 ·refine wpAny_passesOwn hp (thn (T.done X rfl rfl rfl hc i pins s3 σ3 H3 X.xe I3 (stat fr3) st3 stop) fun r s4 ⟨hr,I4⟩=>?_)
  subst hr
  exact wpAny_execs_nil ⟨σ3,H3,I4,qn⟩
 ·refine wpAny_passesOwn hp (thn (T.item X rfl rfl rfl hc i pins s3 σ3 H3 X.xe I3 (stat fr3) st3 go) fun r s4 ⟨u,hr,h4⟩=>?_)
  subst hr
  refine wpAny_passesOwn hp (thn h4 fun _ s5 ⟨x,H5,I5,r5,y5,st5,fr5⟩=>?_)
  have I5':=I5.pinned (stat fr5) (T.obj _ _ st5)
  refine wpAny_passesOwn hp (thn (hg _ s5 σ3 H5 x u _ I5' r5 (step x H5 y5)) fun _ s6 ⟨σ6,H6,I6,q6⟩=>?_)
  refine wpAny_passesOwn hp (thn (hb _ s6 σ6 H6 _ I6 q6) fun f s7 q7=>?_)
  have again:∀{σ7:St}{H7:Hp},Inv X (pins++iw fp s5.heap) σ7 H7 s7->N σ7 H7->∃m,m<n/\∃i σ' H',Inv X pins σ' H' s7/\tn i s7.heap/\(∀b∈fp,H' b=none)/\W i m σ' H':=fun{σ7 H7} I7 n7=>by
   obtain⟨m',hm,w7⟩:=hN σ7 H7 n7
   refine⟨m',hm,i+1,σ7,H7,I7.unpinned,T.keep _ _ _ st5 fun b hb o e=>(I7.pin (b,o) (qH _ (qH _ (jK hb e)))).1,fun b hb=>?_,w7⟩
   obtain⟨o,e,d⟩:=T.obj _ _ st5 b hb
   exact(I7.pin (b,o) (qH _ (qH _ (jK hb e)))).2.1
  cases f with
  |next=>obtain⟨σ7,H7,I7,n7⟩:=q7;exact again I7 n7
  |cont=>obtain⟨σ7,H7,I7,n7⟩:=q7;exact again I7 n7
  |brk=>obtain⟨σ7,H7,I7,q7⟩:=q7;exact⟨σ7,H7,I7.unpinned,q7⟩
  |ret v=>obtain⟨x7,σ7,H7,I7,r7,q7⟩:=q7;exact⟨x7,σ7,H7,I7.unpinned,r7,q7⟩
end
theorem db {K:PySem.W.Frag}{a:Addr}{xs:List V}{g:TG}{tb:TS}{D:eh}{σ:St}{H:Hp}(Pv:Nat->St->Hp->Prop) (h0:Pv 0 σ H) (hl:∀i σ H,i<=xs.length->Pv i σ H->SqL K H a xs)
 (hs:∀i x σ H,xs[i]?=some x->Pv i σ H->g x σ H fun σ2 H2=>tb { D with nx:=Pv (i+1),ct:=Pv (i+1),bk:=D.nx } σ2 H2) (hd:∀σ H,Pv xs.length σ H->D.nx σ H):
 ∃W:Nat->Nat->St->Hp->Prop,(∃m,W 0 m σ H)/\∀i m σ H,W i m σ H->
  ((Itl K a).stop i H/\D.nx σ H)\/((Itl K a).go i H/\∃N:St->Hp->Prop,(∀σ' H',N σ' H'->∃m',m'<m/\W (i+1) m' σ' H')/\∀x H',(Itl K a).yld i H x H'->g x σ H' fun σ2 H2=>tb { D with nx:=N,ct:=N,bk:=D.nx } σ2 H2):=by
 refine⟨fun i m σ H=>m=xs.length-i/\i<=xs.length/\Pv i σ H,⟨xs.length,by simp,qr _,h0⟩,?_⟩
 rintro i m σ H ⟨rfl,hi,p⟩
 have q:=hl i σ H hi p
 by_cases hlt:i<xs.length
 ·refine .inr ⟨⟨xs,xs[i],q,by simp[hlt]⟩,Pv (i+1),fun σ' H' p'=>⟨xs.length-(i+1),Qo,rfl,hlt,p'⟩,fun x H' y=>?_⟩
  obtain⟨e,y⟩:=y
  subst e
  exact hs i x σ _ (y xs q) p
 ·have e:i=xs.length:=by omega
  subst e
  exact .inl ⟨⟨xs,q,qd _⟩,hd σ H p⟩
abbrev R2:=V->V->Hp->VK->Prop
def OpR (X:Cx) (f:Value->Value->Sem Value) (r:R2):Prop:=
 ∀(pins:List (Addr×Obj)) (s:Shared) (σ:St) (H:Hp) (x y:V) (v u:Value) (Q:VK),Inv X pins σ H s->av x v->av y u->r x y H Q->
  wpAny (model X.prog X.w) X.A (f v u) (EP X pins σ Q) X.xe s
def UnR (X:Cx) (f:Value->Sem Value) (r:V->Hp->VK->Prop):Prop:=
 ∀(pins:List (Addr×Obj)) (s:Shared) (σ:St) (H:Hp) (x:V) (v:Value) (Q:VK),Inv X pins σ H s->av x v->r x H Q->
  wpAny (model X.prog X.w) X.A (f v) (EP X pins σ Q) X.xe s
def bT (X:Cx) (f:Value) (r:List V->Hp->VK->Prop):Prop:=
 ∀(pins:List (Addr×Obj)) (s:Shared) (σ:St) (H:Hp) (xs:List V) (us:List Value) (Q:VK),Inv X pins σ H s->au xs us->r xs H Q->
  wpAny (model X.prog X.w) X.A (call f us) (EP X pins σ Q) X.xe s
def DC (X:Cx) (r:V->Hp->(Bool->Hp->Prop)->Prop):Prop:=
 ∀(pins:List (Addr×Obj)) (s:Shared) (σ:St) (H:Hp) (x:V) (v:Value) (Q:Bool->Hp->Prop),Inv X pins σ H s->av x v->r x H Q->
  wpAny (model X.prog X.w) X.A (truthy v) (TP X pins σ Q) X.xe s
def tOp (r:R2) (ta tb:TE):TE:=fun σ H Q=>ta σ H fun x H1=>tb σ H1 fun y H2=>r x y H2 Q
def tUn (r:V->Hp->VK->Prop) (ta:TE):TE:=fun σ H Q=>ta σ H fun x H1=>r x H1 Q
def rI (C:Int->Int->Prop) (g:Int->Int->V):R2:=fun x y H Q=>∃i j,x=.int i/\y=.int j/\C i j/\Q (g i j) H
def rI0 (g:Int->Int->V):R2:=fun x y H Q=>∃i j,x=.int i/\y=.int j/\Q (g i j) H
def rU (g:Int->V):V->Hp->VK->Prop:=fun x H Q=>∃i,x=.int i/\Q (g i) H
section
variable {X:Cx}{a b c:Expr}{ta tb tc:TE}{pos:Pos}
theorem om (ha:PE X a ta) (hb:PE X b tb) {pins:List (Addr×Obj)}{s:Shared}{σ:St}{H:Hp}{R:V->V->Hp->Prop}(I:Inv X pins σ H s)
 (h:ta σ H fun x H1=>tb σ H1 fun y H2=>R x y H2) {Q:Qq}{f:Value->Value->Sem Value}
 (hf:∀v u s2 x y H2,Inv X pins σ H2 s2->av x v->av y u->R x y H2->wpAny (model X.prog X.w) X.A (f v u) Q X.xe s2):
 wpAny (model X.prog X.w) X.A (eval a X.env) (fun v s₁=>wpAny (model X.prog X.w) X.A (eval b X.env) (fun u s₂=>wpAny (model X.prog X.w) X.A (f v u) Q X.xe s₂) X.xe s₁) X.xe s:=by
 refine thn (ha pins s σ H _ I h) fun v s1 ⟨x,H1,I1,r1,q1⟩=>?_
 refine thn (hb pins s1 σ H1 _ I1 q1) fun u s2 ⟨y,H2,I2,r2,q2⟩=>?_
 exact hf v u s2 x y H2 I2 r1 r2 q2
theorem ay {op:Operator}{r:R2}(ho:OpR X (binaryOp op) r) (ha:PE X a ta) (hb:PE X b tb):PE X (.BinOp a op b pos) (tOp r ta tb):=by
 intro pins s σ H Q I h
 exact wpAny_BinOp (om ha hb I h fun v u s2 x y H2 I2 rx ry q=>ho pins s2 σ H2 x y v u Q I2 rx ry q)
theorem dB {op:UnaryOp}{r:V->Hp->VK->Prop}(ho:UnR X (unaryOp op) r) (ha:PE X a ta):PE X (.UnaryOp op a pos) (tUn r ta):=by
 intro pins s σ H Q I h
 exact UnaryOp_ (thn (ha pins s σ H _ I h) fun v s1 ⟨x,H1,I1,r1,q1⟩=>ho pins s1 σ H1 x v Q I1 r1 q1)
theorem opI {f:Value->Value->Sem Value}{C:Int->Int->Prop}{g:Int->Int->Int}
 (rule:∀(i j:Int) (t u:Tok) (s:Shared) (Q:Qq) (E:Qq),C i j->Q (.int (g i j) s.toks) { s with toks:=s.toks+1 }->wpAny (model X.prog X.w) X.A (f (.int i t) (.int j u)) Q E s):
 OpR X f (rI C fun i j=>.int (g i j)):=by
 intro pins s σ H x y v u Q I rx ry h
 obtain⟨i,j,rfl,rfl,hc,q⟩:=h
 obtain⟨t,rfl⟩:=rx
 obtain⟨t',rfl⟩:=ry
 exact rule i j t t' s _ _ hc ⟨.int (g i j),H,I.tok _,⟨_,rfl⟩,q⟩
theorem tE {f:Value->Value->Sem Value}{g:Int->Int->Int}
 (rule:∀(i j:Int) (t u:Tok) (s:Shared) (Q:Qq) (E:Qq),Q (.int (g i j) s.toks) { s with toks:=s.toks+1 }->wpAny (model X.prog X.w) X.A (f (.int i t) (.int j u)) Q E s):
 OpR X f (rI0 fun i j=>.int (g i j)):=by
 intro pins s σ H x y v u Q I rx ry h
 obtain⟨i,j,rfl,rfl,q⟩:=h
 obtain⟨t,rfl⟩:=rx
 obtain⟨t',rfl⟩:=ry
 exact rule i j t t' s _ _ ⟨.int (g i j),H,I.tok _,⟨_,rfl⟩,q⟩
theorem mK {f:Value->Value->Sem Value}{g:Int->Int->Bool}
 (rule:∀(i j:Int) (t u:Tok) (s:Shared) (Q:Qq) (E:Qq),Q (.bool (g i j)) s->wpAny (model X.prog X.w) X.A (f (.int i t) (.int j u)) Q E s):
 OpR X f (rI0 fun i j=>.bl (g i j)):=by
 intro pins s σ H x y v u Q I rx ry h
 obtain⟨i,j,rfl,rfl,q⟩:=h
 obtain⟨t,rfl⟩:=rx
 obtain⟨t',rfl⟩:=ry
 exact rule i j t t' s _ _ ⟨.bl (g i j),H,I,rfl,q⟩
def DI (i j:Int):Prop:=0<j/\j<1073741824
def DH (i j:Int):Prop:=0<=j/\j<=1000000/\i.natAbs<2 ^ 64
theorem Ai:OpR X (binaryOp .Add) (rI0 fun i j=>.int (i+j)):=tE fun _ _ _ _ _ _ _ q=>add_int q
theorem zY:OpR X (binaryOp .Sub) (rI0 fun i j=>.int (i-j)):=tE fun _ _ _ _ _ _ _ q=>sub_int q
theorem Ad:OpR X (binaryOp .FloorDiv) (rI DI fun i j=>.int (i / j)):=opI fun i j _ _ _ _ _ hc q=>by
 have h1:(0:Int)<j:=hc.1
 have h2:j<1073741824:=hc.2
 exact floordiv_int Qo (by rw[Int.fdiv_eq_ediv_of_nonneg i Qo];exact q) (.inl (PyProof.noPylong_small Qo))
theorem A8:OpR X (binaryOp .Mod) (rI (fun _ j=>0<j) fun i j=>.int (i % j)):=opI fun i j _ _ _ _ _ hc q=>by
 have h1:(0:Int)<j:=hc
 exact mod_int' Qo (by rw[Int.fmod_eq_emod_of_nonneg i Qo];exact q)
theorem A0:OpR X (binaryOp .Pow) (rI DH fun i j=>.int (i ^ j.toNat)):=opI fun _ _ _ _ _ _ _ hc q=>pow_int_small hc.1 hc.2.1 hc.2.2 q
theorem unI {f:Value->Sem Value}{g:Int->Int}
 (rule:∀(i:Int) (t:Tok) (s:Shared) (Q:Qq) (E:Qq),Q (.int (g i) s.toks) { s with toks:=s.toks+1 }->wpAny (model X.prog X.w) X.A (f (.int i t)) Q E s):
 UnR X f (rU fun i=>.int (g i)):=by
 intro pins s σ H x v Q I rx h
 obtain⟨i,rfl,q⟩:=h
 obtain⟨t,rfl⟩:=rx
 exact rule i t s _ _ ⟨.int (g i),H,I.tok _,⟨_,rfl⟩,q⟩
theorem dy:UnR X (unaryOp .USub) (rU fun i=>.int (-i)):=unI fun _ _ _ _ _ q=>neg_int q
end
def jg:V->V->Bool
 |.non,.non=>true|.non,.int _=>true|.int _,.non=>true|.non,.bl _=>true|.bl _,.non=>true|.non,.str _=>true|.str _,.non=>true
 |.int _,.int _=>true|.bl _,.bl _=>true|.str _,.str _=>true|.byt _,.byt _=>true
 |.int _,.str _=>true|.str _,.int _=>true|.bl _,.str _=>true|.str _,.bl _=>true
 |_,_=>false
def rEq:R2:=fun x y H Q=>jg x y=true/\Q (.bl (decide (x=y))) H
def rNe:R2:=fun x y H Q=>jg x y=true/\Q (.bl (!decide (x=y))) H
theorem vD {i j:Int}:decide (V.int i=V.int j)=(i == j):=by
 rw[Bool.eq_iff_iff]
 simp
theorem vF {i j:Bool}:decide (V.bl i=V.bl j)=(i == j):=by
 rw[Bool.eq_iff_iff]
 simp
theorem vC {i j:Str}:decide (V.str i=V.str j)=(i == j):=by
 rw[Bool.eq_iff_iff]
 simp
theorem vE {i j:Array UInt8}:decide (V.byt i=V.byt j)=(i.toList == j.toList):=by
 rw[Bool.eq_iff_iff]
 cases i
 cases j
 simp
section
variable {X:Cx}{a b c:Expr}{ta tb tc:TE}{pos:Pos}
theorem bu {pins:List (Addr×Obj)}{σ:St}{H:Hp}{s:Shared}{Q:VK}{k k':Bool}(I:Inv X pins σ H s) (q:Q (.bl k) H) (e:k=k'):EP X pins σ Q (.bool k') s:=by
 subst e
 exact⟨.bl k,H,I,rfl,q⟩
theorem Af:OpR X (compareOp .Eq) rEq:=by
 intro pins s σ H x y v u Q I rx ry h
 obtain⟨hs,q⟩:=h
 cases x with
 |non=>
  cases rx
  cases y with
  |non=>cases ry;exact PySem.EqNone.eq_none_none (bu I q (by simp))
  |bl j=>cases ry;exact PySem.EqNone.eq_none_bool (bu I q (by simp))
  |int j=>obtain⟨t',rfl⟩:=ry;exact PySem.EqNone.eq_none_int (bu I q (by simp))
  |str j=>obtain⟨t',rfl⟩:=ry;exact PySem.EqNone.eq_none_str (bu I q (by simp))
  |_=>exact absurd (show false=true from hs) qh
 |bl i=>
  cases rx
  cases y with
  |non=>cases ry;exact PySem.EqNone.eq_bool_none (bu I q (by simp))
  |bl j=>cases ry;exact eq_bool (bu I q vF)
  |str j=>obtain⟨t',rfl⟩:=ry;exact PySem.EqMixed.eq_bool_str (bu I q (by simp))
  |_=>exact absurd (show false=true from hs) qh
 |int i=>
  obtain⟨t,rfl⟩:=rx
  cases y with
  |non=>cases ry;exact PySem.EqNone.eq_int_none (bu I q (by simp))
  |int j=>obtain⟨t',rfl⟩:=ry;exact eq_int (bu I q vD)
  |str j=>obtain⟨t',rfl⟩:=ry;exact PySem.EqMixed.eq_int_str (bu I q (by simp))
  |_=>exact absurd (show false=true from hs) qh
 |str i=>
  obtain⟨t,rfl⟩:=rx
  cases y with
  |non=>cases ry;exact PySem.EqNone.eq_str_none (bu I q (by simp))
  |bl j=>cases ry;exact PySem.EqMixed.eq_str_bool (bu I q (by simp))
  |int j=>obtain⟨t',rfl⟩:=ry;exact PySem.EqMixed.eq_str_int (bu I q (by simp))
  |str j=>obtain⟨t',rfl⟩:=ry;exact eq_str (bu I q vC)
  |_=>exact absurd (show false=true from hs) qh
 |byt i=>
  obtain⟨t,rfl⟩:=rx
  cases y with
  |byt j=>obtain⟨t',rfl⟩:=ry;exact PySem.W.eq_bytes (bu I q vE)
  |_=>exact absurd (show false=true from hs) qh
 |_=>cases y<;>exact absurd (show false=true from hs) qh
theorem A6:OpR X (compareOp .NotEq) rNe:=by
 intro pins s σ H x y v u Q I rx ry h
 obtain⟨hs,q⟩:=h
 cases x with
 |non=>
  cases rx
  cases y with
  |non=>cases ry;exact PySem.EqNone.ne_none_none (bu I q (by simp))
  |bl j=>cases ry;exact PySem.EqNone.ne_none_bool (bu I q (by simp))
  |int j=>obtain⟨t',rfl⟩:=ry;exact PySem.EqNone.ne_none_int (bu I q (by simp))
  |str j=>obtain⟨t',rfl⟩:=ry;exact PySem.EqNone.ne_none_str (bu I q (by simp))
  |_=>exact absurd (show false=true from hs) qh
 |bl i=>
  cases rx
  cases y with
  |non=>cases ry;exact PySem.EqNone.ne_bool_none (bu I q (by simp))
  |bl j=>cases ry;exact ne_bool (bu I q (congrArg not vF))
  |str j=>obtain⟨t',rfl⟩:=ry;exact PySem.EqMixed.ne_bool_str (bu I q (by simp))
  |_=>exact absurd (show false=true from hs) qh
 |int i=>
  obtain⟨t,rfl⟩:=rx
  cases y with
  |non=>cases ry;exact PySem.EqNone.ne_int_none (bu I q (by simp))
  |int j=>obtain⟨t',rfl⟩:=ry;exact ne_int (bu I q (congrArg not vD))
  |str j=>obtain⟨t',rfl⟩:=ry;exact PySem.EqMixed.ne_int_str (bu I q (by simp))
  |_=>exact absurd (show false=true from hs) qh
 |str i=>
  obtain⟨t,rfl⟩:=rx
  cases y with
  |non=>cases ry;exact PySem.EqNone.ne_str_none (bu I q (by simp))
  |bl j=>cases ry;exact PySem.EqMixed.ne_str_bool (bu I q (by simp))
  |int j=>obtain⟨t',rfl⟩:=ry;exact PySem.EqMixed.ne_str_int (bu I q (by simp))
  |str j=>obtain⟨t',rfl⟩:=ry;exact ne_str (bu I q (congrArg not vC))
  |_=>exact absurd (show false=true from hs) qh
 |byt i=>
  obtain⟨t,rfl⟩:=rx
  cases y with
  |byt j=>obtain⟨t',rfl⟩:=ry;exact PySem.W.ne_bytes (bu I q (congrArg not vE))
  |_=>exact absurd (show false=true from hs) qh
 |_=>cases y<;>exact absurd (show false=true from hs) qh
theorem A9:OpR X (compareOp .Lt) (rI0 fun i j=>.bl (decide (i<j))):=mK fun _ _ _ _ _ _ _ q=>lt_int q
theorem Ab:OpR X (compareOp .Gt) (rI0 fun i j=>.bl (decide (j<i))):=mK fun _ _ _ _ _ _ _ q=>gt_int q
theorem Ac:OpR X (compareOp .GtE) (rI0 fun i j=>.bl (decide (j<=i))):=mK fun _ _ _ _ _ _ _ q=>ge_int q
theorem Aa:OpR X (compareOp .Is) (fun x y H Q=>y=.non/\Q (.bl (decide (x=.non))) H):=by
 intro pins s σ H x y v u Q I rx ry h
 obtain⟨rfl,q⟩:=h
 cases ry
 refine is_none_gen (bu I q ?_)
 cases x<;>first
  |(cases rx;rfl)
  |(obtain⟨t,rfl⟩:=rx;rfl)
theorem aP (b:Expr) {op:CmpOp}(h:op≠.In:=by decide) (h2:op≠.NotIn:=by decide):behindInMarks op b=false:=by
 have e1:(op == CmpOp.In)=false:=by cases op<;>first|rfl|exact absurd rfl h
 have e2:(op == CmpOp.NotIn)=false:=by cases op<;>first|rfl|exact absurd rfl h2
 cases b<;>simp[behindInMarks,e1,e2]
theorem mG {op:CmpOp}{r:R2}(ho:OpR X (compareOp op) r) (ha:PE X a ta) (hb:PE X b tb) (hm:behindInMarks op b=false):PE X (.Compare a [op] [b] pos) (tOp r ta tb):=by
 intro pins s σ H Q I h
 exact wpAny_Compare1 (om ha hb I h fun v u s2 x y H2 I2 rx ry q=>ho pins s2 σ H2 x y v u Q I2 rx ry q) hm
def kr (t:TE):TT:=fun σ H Q=>t σ H fun x H'=>∃k,x=.bl k/\Q k H'
theorem zx {op:CmpOp}{r:R2}(ho:OpR X (compareOp op) r) (ha:PE X a ta) (hb:PE X b tb) (hm:behindInMarks op b=false):PT X (.Compare a [op] [b] pos) (kr (tOp r ta tb)):=by
 intro pins s σ H Q I h
 refine wpAny_isTrue_Compare1 (thn (ha pins s σ H _ I h) fun v s1 ⟨x,H1,I1,r1,q1⟩=>thn (hb pins s1 σ H1 _ I1 q1) fun u s2 ⟨y,H2,I2,r2,q2⟩=>
  thn (ho pins s2 σ H2 x y v u _ I2 r1 r2 q2) fun c s3 ⟨z,H3,I3,r3,k,e,q3⟩=>?_) hm
 subst e
 cases r3
 exact wpAny_truthy_bool ⟨H3,I3,q3⟩
theorem gQ:(sizeLine:Nat)<2 ^ 63:=by rw[sizeLine_eq];decide
theorem Ah:OpR X (binaryOp .Add) (fun x y H Q=>∃i j,x=.str i/\y=.str j/\i.length+j.length<=sizeLine/\Q (.str (i++j)) H):=by
 intro pins s σ H x y v u Q I rx ry h
 obtain⟨i,j,rfl,rfl,hz,q⟩:=h
 obtain⟨t,rfl⟩:=rx
 obtain⟨t',rfl⟩:=ry
 exact add_str (fun t' tk=>⟨.str (i++j),H,I.tok _,⟨_,rfl⟩,q⟩) hz
theorem dw {x:V}{us:List Value}(r:au [x] us):∃u,us=[u]/\av x u:=by
 cases r with
 |cons r1 r2=>cases r2;exact⟨_,rfl,r1⟩
theorem km {x y:V}{us:List Value}(r:au [x,y] us):∃u w',us=[u,w']/\av x u/\av y w':=by
 cases r with
 |cons r1 r2=>
  cases r2 with
  |cons r3 r4=>cases r4;exact⟨_,_,rfl,r1,r3⟩
theorem Dd:bT X (.type "str") (fun xs H Q=>∃i,xs=[.int i]/\i.natAbs.log2<1920/\Q (.str (toString i)) H):=by
 intro pins s σ H xs us Q I r h
 obtain⟨i,rfl,hz,q⟩:=h
 obtain⟨u,rfl,t,rfl⟩:=dw r
 exact PySem.P.str_of_int hz ⟨.str _,H,I.tok _,⟨_,rfl⟩,q⟩
end
structure fX (h:Heap) (x dx C:Addr) (mA:Str->Option Value):Prop where
 obj:h.get? x=some (PySem.W.instObj C dx)
 ns:h.Ns1 dx mA
 ne:dx≠x
theorem Bt {h:Heap}{dx:Addr}{mA:Str->Option Value}(n:h.Ns1 dx mA):∃od,h.get? dx=some od/\∀name,PySem.W.lookIn name od=some (mA name):=by
 obtain⟨o,es,ep,ho,hd,hk,_,hm⟩:=n
 refine⟨o,ho,fun name=>?_⟩
 have e:=hm name
 unfold nsFind findBy at e
 rw[<- Array.find?_toList]at e
 unfold PySem.W.lookIn
 rw[hd]
 dsimp only
 split
 ·rename_i y q
  rw[q]at e
  exact congrArg some e
 ·rename_i q
  rw[q]at e
  have a:es.toList.any (·.refKey)=false:=by
   rw[List.any_eq_false]
   intro y hy
   obtain⟨z,t,hkey⟩:=hk y (Array.mem_toList_iff.mp hy)
   simp[DictEntry.refKey,hkey]
  have a':¬ es.toList.any (·.refKey)=true:=by rw[a];exact qh
  rw[qZ a']
  exact congrArg some e
theorem fX.look {h:Heap}{x dx C:Addr}{mA:Str->Option Value}(I:fX h x dx C mA):∃od,PySem.W.InstAt h x (PySem.W.instObj C dx) C (some od)/\∀name,PySem.W.lookIn name od=some (mA name):=
 let ⟨od,ho,hl⟩:=Bt I.ns
 ⟨od,⟨I.obj,rfl,rfl,ho⟩,hl⟩
section
variable {prog:Program}{w:World}{A:Around}{E:Qq}{s:Shared}{K:PySem.W.Frag}{x dx C f:Addr}{mA:Str->Option Value}{name:Str}{v:Value}
theorem Ci {expr:Bool}{Q:Qq}(X:K.In s.heap) (I:fX s.heap x dx C mA) (hg:PySem.W.plainGet K C name=true) (hh:PySem.W.hasDictIn K C=true)
 (ha:PySem.W.findIn K (.ref C) name=some none) (hv:mA name=some v) (hv':PySem.W.handedIn v=true) (h:Q v { s with toks:=s.toks+1 }):
 wpAny (model prog w) A (getAttr (.ref x) name expr) Q E s:=by
 obtain⟨od,J,hl⟩:=I.look
 exact PySem.W.get_value X J (PySem.W.plainGet_of hg).1 (PySem.W.findObj_own hh ha rfl (by rw[hl,hv])) hv' h
theorem Cg {pl:Sem Bool}{Q:Value×List Value->Shared->Prop}(X:K.In s.heap) (I:fX s.heap x dx C mA) (hg:PySem.W.plainGet K C name=true)
 (hf:PySem.W.findIn K (.ref C) name=some (some (.ref f))) (ht:PySem.W.isFn K (.ref f)=true) (hv:mA name=none) (h:Q (.ref f,[.ref x]) s):
 wpAny (model prog w) A (getMethod (.ref x) name pl) Q E s:=by
 obtain⟨od,J,hl⟩:=I.look
 exact PySem.W.method_fn X J (PySem.W.plainGet_of hg).1 (PySem.W.plainGet_of hg).2 hf (beq_iff_eq.mp ht) (by show(PySem.W.lookIn name od).map (·.isSome)=some false;rw[hl,hv];rfl) h
theorem ye {ns:List Str}{Q:Unit->Shared->Prop}(X:K.In s.heap) (I:fX s.heap x dx C mA)
 (hs:PySem.W.findIn K (.ref C) "__setattr__"=some (some (.builtin "object.__setattr__"))) (hp:PySem.W.plainOver K C=true) (ht:PySem.W.takerIn K C name=some none) (hh:PySem.W.hasDictIn K C=true)
 (hw:PySem.Within mA ns) (hsz:ns.length<=sizeLine)
 (h:∀h',fX h' x dx C (fun y=>if y=name then some v else mA y)->Heap.SameBut dx s.heap h'->Q () { s with heap:=h',toks:=s.toks+2 }):
 wpAny (model prog w) A (setAttr (.ref x) name v) Q E s:=by
 obtain⟨od,J,hl⟩:=I.look
 refine PySem.W.set_plain X J hs (PySem.W.osa_open (s:={ s with toks:=s.toks+1 }) (r:=none) X J hp ht fun b=>?_)
 obtain⟨cd,hc,hd'⟩:=PySem.W.any_some hh
 have hx:s.heap.get? x=some ⟨.ref C,some dx,.plain,#[]⟩:=I.obj
 refine q4 (qc (q4 (q4 (wpAny_loadPart hx (q4 (PySem.W.Looks.here (s:={ s with toks:=s.toks+1 }) (PySem.W.looks_clsIn X hc) ?_))))))
 rw[hd']
 refine qc (a:=some dx) (q4 (qc (q4 ?_)))
 refine wpAny_nsSet1 (s:={ s with toks:=s.toks+1 }) I.ns fun h' hn2 hs2=>?_
 obtain⟨oD,esD,epD,hoD,hdD,hcD⟩:=hn2.count (PySem.Within.cons name v hw)
 refine q4 (wpAny_lookBehind hoD (by rw[hdD];exact pastItsLine_dict (qx hcD (by rw[qz];omega))) ?_)
 exact qc (h _ ⟨(hs2.2 _ (Ne.symm I.ne)).trans I.obj,hn2,I.ne⟩ hs2)
theorem Bp {R:Result->Shared->Prop}{vs:List Value}{kw:List (Str×Value)}(X:K.In s.heap) (hm:PySem.W.makesIn K C=true)
 (hi:PySem.W.findIn K (.ref C) "__init__"=some (some (.ref f))) (hf:PySem.W.typeIn K (.ref f)=some (.type "function"))
 (h:codeAny (model prog w) (A.under (.builtin "type.__call__" ⟨.ref C::vs,kw⟩)) (.call (.ref f) ⟨.ref (s.heap.objs.size+1)::vs,kw⟩) (PySem.W.InitBack (s.heap.objs.size+1) R)
  { s with heap:=(s.heap.push PySem.W.emptyDict).push (PySem.W.instObj C s.heap.objs.size) }):
 codeAny (model prog w) A (.call (.ref C) ⟨vs,kw⟩) R s:=by
 obtain⟨hh,g,d,t,os⟩:=s
 exact PySem.W.make_core (PySem.W.makes_of X hm) (PySem.W.looks_findIn X hi) (fun self=>PySem.W.bind_fn X self hf) (.inl rfl) h
end
def c7 (f:Str) (v:V):List (Str×V)->List (Str×V)
 |[]=>[(f,v)]
 |(g,x)::r=>if g=f then(g,v)::r else(g,x)::c7 f v r
theorem u3 (f g:Str) (v:V):∀fs:List (Str×V),(c7 f v fs).lookup g=if g=f then some v else fs.lookup g
 |[]=>by
  show List.lookup g [(f,v)]=_
  by_cases h:g=f
  ·have hb:(g == f)=true:=beq_iff_eq.mpr h
   simp only[List.lookup,hb,Q0 h]
  ·have hb:(g == f)=false:=beq_eq_false_iff_ne.mpr h
   simp only[List.lookup,hb,qZ h]
 |(k,x)::r=>by
  have ih:=u3 f g v r
  rw[show c7 f v ((k,x)::r)=(if k=f then(k,v)::r else(k,x)::c7 f v r)from rfl]
  by_cases hk:k=f
  ·rw[Q0 hk]
   by_cases h:g=k
   ·have hb:(g == k)=true:=beq_iff_eq.mpr h
    simp only[List.lookup,hb,Q0 (h.trans hk)]
   ·have hb:(g == k)=false:=beq_eq_false_iff_ne.mpr h
    simp only[List.lookup,hb,qZ (fun e:g=f=>h (e.trans hk.symm))]
  ·rw[qZ hk]
   by_cases h:g=k
   ·have hb:(g == k)=true:=beq_iff_eq.mpr h
    simp only[List.lookup,hb,qZ (fun e:g=f=>hk (h.symm.trans e))]
   ·have hb:(g == k)=false:=beq_eq_false_iff_ne.mpr h
    simp only[List.lookup,hb]
    exact ih
theorem nE (f:Str) (v:V):∀fs:List (Str×V),f∈(c7 f v fs).map (·.1)/\∀g,g∈fs.map (·.1)->g∈(c7 f v fs).map (·.1)
 |[]=>⟨by simp[c7],fun g h=>by simp at h⟩
 |(k,x)::r=>by
  obtain⟨i1,i2⟩:=nE f v r
  rw[show c7 f v ((k,x)::r)=(if k=f then(k,v)::r else(k,x)::c7 f v r)from rfl]
  by_cases hk:k=f
  ·rw[Q0 hk]
   subst hk
   exact⟨by simp,fun g h=>by simpa using h⟩
  ·rw[qZ hk]
   refine⟨?_,fun g h=>?_⟩
   ·rw[qR]
    exact qj _ i1
   ·rw[qR]at h ⊢
    rcases qt.mp h with e|e
    ·exact qt.mpr (.inl e)
    ·exact qj _ (i2 g e)
theorem u4 (f:Str) (v:V):∀fs:List (Str×V),(c7 f v fs).length<=fs.length+1
 |[]=>by simp[c7]
 |(k,x)::r=>by
  have ih:=u4 f v r
  rw[show c7 f v ((k,x)::r)=(if k=f then(k,v)::r else(k,x)::c7 f v r)from rfl]
  by_cases hk:k=f
  ·rw[Q0 hk,qz,qz];omega
  ·rw[qZ hk,qz,qz];omega
theorem c4.some_of {v:V}{o:Option Value}(r:c4 (some v) o):∃u,o=some u/\av v u:=by
 cases o with
 |none=>exact(show False from r).elim
 |some u=>exact⟨u,rfl,r⟩
theorem c4.none_of {o:Option Value}(r:c4 none o):o=none:=by
 cases o with
 |none=>rfl
 |some u=>exact(show False from r).elim
theorem C7 {v:V}{u:Value}(r:av v u):PySem.W.handedIn u=true:=by
 cases v with
 |non=>cases(show u=Value.none from r);rfl
 |bl b=>cases(show u=Value.bool b from r);rfl
 |int i=>obtain⟨t,e⟩:=(show ∃t,u=Value.int i t from r);cases e;rfl
 |str x=>obtain⟨t,e⟩:=(show ∃t,u=Value.str x t from r);cases e;rfl
 |byt b=>obtain⟨t,e⟩:=(show ∃t,u=Value.bytes b t from r);cases e;rfl
 |flt b=>obtain⟨t,e⟩:=(show ∃t,u=Value.float b t from r);cases e;rfl
 |ref a=>cases(show u=Value.ref a from r);rfl
 |ty n=>cases(show u=Value.type n from r);rfl
section
variable {P:Program}{w:World}{H H':Hp}{h h':Heap}{a C dx:Addr}{fs fs':List (Str×V)}
theorem jR (hok:HOk P w H h) (e:H a=some (.ins C dx fs)):∃mA,fX h a dx C mA/\(∀f,c4 (fs.lookup f) (mA f))/\PySem.Within mA (fs.map (·.1))/\fs.length<=1000/\H dx=some (.own a):=by
 obtain⟨d,z,ne,ob,mA,n,r,q⟩:=(show bq P w H h a (.ins C dx fs)from hok a _ e)
 exact⟨mA,⟨ob,n,ne⟩,r,q,z,d⟩
end
structure Cls (K:PySem.W.Frag) (C:Addr):Prop where
 pg:PySem.W.plainGet K C Str.empty=true
 hd:PySem.W.hasDictIn K C=true
 po:PySem.W.plainOver K C=true
 sa:PySem.W.findIn K (.ref C) "__setattr__"=some (some (.builtin "object.__setattr__"))
theorem Cls.get {K:PySem.W.Frag}{C:Addr}(c:Cls K C) (f:Str):PySem.W.plainGet K C f=true:=c.pg
def cP (K:PySem.W.Frag) (C:Addr) (f:Str):Prop:=PySem.W.findIn K (.ref C) f=some none
theorem cP.taker {K:PySem.W.Frag}{C:Addr}{f:Str}(n:cP K C f):PySem.W.takerIn K C f=some none:=by
 unfold PySem.W.takerIn
 rw[show PySem.W.findIn K (.ref C) f=some none from n]
 rfl
structure cQ (K:PySem.W.Frag) (C:Addr) (m:Str) (f:Addr):Prop where
 at_:PySem.W.findIn K (.ref C) m=some (some (.ref f))
 fn:PySem.W.isFn K (.ref f)=true
 kp:PySem.W.keepIn K (.ref f)=true
section
variable {X:Cx}{pins:List (Addr×Obj)}{σ:St}{H:Hp}{s:Shared}{a C dx:Addr}{fs:List (Str×V)}{f:Str}{v:V}{A:Around}{E:Qq}
theorem Cf {b:Bool}{Q:Qq}(I:Inv X pins σ H s) (e:H a=some (.ins C dx fs)) (c:Cls X.K C) (n:cP X.K C f) (l:fs.lookup f=some v)
 (h:∀u s',Inv X pins σ H s'->av v u->Q u s'):wpAny (model X.prog X.w) A (getAttr (.ref a) f b) Q E s:=by
 obtain⟨mA,O,r,_,_,_⟩:=jR I.hok e
 obtain⟨u,hu,ru⟩:=c4.some_of (v:=v) (o:=mA f) (by rw[<- l];exact r f)
 exact Ci I.kIn O (c.get f) c.hd n hu (C7 ru) (h u _ (I.tok _) ru)
theorem uD {m:Str}{g:Addr}{pl:Sem Bool}{Q:Value×List Value->Shared->Prop}(I:Inv X pins σ H s) (e:H a=some (.ins C dx fs)) (c:Cls X.K C) (k:cQ X.K C m g) (l:fs.lookup m=none)
 (h:Q (.ref g,[.ref a]) s):wpAny (model X.prog X.w) A (getMethod (.ref a) m pl) Q E s:=by
 obtain⟨mA,O,r,_,_,_⟩:=jR I.hok e
 have hn:mA m=none:=c4.none_of (by rw[<- l];exact r m)
 exact Cg I.kIn O (c.get m) k.at_ k.fn hn h
theorem ya {y:V}{u:Value}{Q:Unit->Shared->Prop}(I:Inv X pins σ H s) (e:H a=some (.ins C dx fs)) (c:Cls X.K C) (n:cP X.K C f) (hl:fs.length<1000) (ry:av y u)
 (h:∀s',Inv X pins σ (upd H a (.ins C dx (c7 f y fs))) s'->Q () s'):wpAny (model X.prog X.w) A (setAttr (.ref a) f u) Q E s:=by
 obtain⟨mA,O,r,wi,_,ho⟩:=jR I.hok e
 have hz:(fs.map (·.1)).length<=sizeLine:=by rw[q5,sizeLine_eq];omega
 refine ye I.kIn O c.sa c.po n.taker c.hd wi hz fun h' O' sb=>h _ ?_
 have hd:∃o,h'.get? dx=some o:=let ⟨o,_,_,e',_⟩:=O'.ns;⟨o,e'⟩
 refine I.write (x:=a) (e:=dx) (by rw[e];exact True.intro) (.inr ho) (fun b q hb z=>(sb.2 b hb).trans z) hd ?_
 refine⟨by rw[aj O.ne];exact ho,?_,O.ne,O'.obj,_,O'.ns,fun g=>?_,fun g hg=>?_⟩
 ·have:=u4 f y fs;omega
 ·show c4 ((c7 f y fs).lookup g) (if g=f then some u else mA g)
  rw[u3]
  by_cases q:g=f
  ·rw[Q0 q,Q0 q];exact ry
  ·rw[qZ q,qZ q];exact r g
 ·by_cases q:g=f
  ·rw[q];exact(nE f y fs).1
  ·refine(nE f y fs).2 g (wi g fun z=>hg ?_)
   show(if g=f then some u else mA g)=none
   rw[qZ q];exact z
theorem Inv.made (I:Inv X pins σ H s):Inv X pins σ (upd (upd H s.heap.objs.size (.own (s.heap.objs.size+1))) (s.heap.objs.size+1) (.ins C s.heap.objs.size []))
 { s with heap:=(s.heap.push PySem.W.emptyDict).push (PySem.W.instObj C s.heap.objs.size) }:=by
 have e1:(s.heap.push PySem.W.emptyDict).get? s.heap.objs.size=some PySem.W.emptyDict:=qo s.heap rfl
 have e2:((s.heap.push PySem.W.emptyDict).push (PySem.W.instObj C s.heap.objs.size)).get? (s.heap.objs.size+1)=some (PySem.W.instObj C s.heap.objs.size):=by
  have:=qo (s.heap.push PySem.W.emptyDict) (o:=PySem.W.instObj C s.heap.objs.size) rfl
  rwa [Heap.size_push]at this
 have e3:(s.heap.push PySem.W.emptyDict).Ns s.heap.objs.size (fun _=>none):=⟨PySem.W.emptyDict,#[],_,e1,rfl,(fun e he=>absurd he (by simp)),fun _=>rfl⟩
 have I1:=I.laid (a:=s.heap.objs.size) (o:=.own (s.heap.objs.size+1)) (h':=s.heap.push PySem.W.emptyDict) (t':=s.toks) (fun b u q=>q9 _ q) (qd _) ⟨_,e1⟩
 refine I1.laid (a:=s.heap.objs.size+1) (o:=.ins C s.heap.objs.size []) (t':=s.toks) (fun b u q=>q9 _ q) (Nat.le_of_eq (Heap.size_push _ _)) ?_
 have ne:s.heap.objs.size≠s.heap.objs.size+1:=qF (Nat.lt_succ_self _)
 refine⟨by rw[aj ne,ae],qr _,ne,e2,fun _=>none,(Heap.Ns1.of_empty e3).at fun o q=>q9 _ q,fun _=>True.intro,fun y hy=>absurd rfl hy⟩
theorem Ds {prog:Program}{w:World}{env:Env}{e:Expr}{f:Str}{pos:Pos}{s:Shared}{Q:Qq}(hb:attributeBase e f env (eval e env)=eval e env)
 (h:wpAny (model prog w) A (eval e env) (fun o s₁=>wpAny (model prog w) A (getAttr o f true) Q E s₁) E s):wpAny (model prog w) A (eval (.Attribute e f pos) env) Q E s:=
 Attribute_any_ h (by rw[arm_eval_Attribute,hb])
end
def j8 (K:PySem.W.Frag) (ta:TE) (f:Str):TE:=fun σ H Q=>ta σ H fun x H1=>∃a C dx fs v,x=.ref a/\H1 a=some (.ins C dx fs)/\Cls K C/\cP K C f/\fs.lookup f=some v/\Q v H1
def yF (K:PySem.W.Frag) (ta tv:TE) (f:Str):TS:=fun D σ H=>tv σ H fun y H1=>ta σ H1 fun x H2=>∃a C dx fs,x=.ref a/\H2 a=some (.ins C dx fs)/\Cls K C/\cP K C f/\fs.length<1000 /\
 D.nx σ (upd H2 a (.ins C dx (c7 f y fs)))
section
variable {X:Cx}{o e value:Expr}{f:Str}{pos pos' tpos:Pos}{ta tv:TE}
theorem sZ (he:PE X e ta) (hb:attributeBase e f X.env (eval e X.env)=eval e X.env):PE X (.Attribute e f pos) (j8 X.K ta f):=by
 intro pins s σ H Q I h
 refine Ds hb (thn (he pins s σ H _ I h) fun u s1 ⟨x,H1,I1,rx,a,C,dx,fs,v,ex,ea,c,n,l,q⟩=>?_)
 subst ex
 obtain rfl:u=Value.ref a:=rx
 exact Cf I1 ea c n l fun u' s2 I2 ru=>⟨v,H1,I2,ru,q⟩
theorem jz (ha:PE X o ta) (hv:PE X value tv) (hs:swapsWith value (some (.Attribute o f pos')) pos.line X.env=pure false):PS X (.Assign [.Attribute o f pos'] value pos) (yF X.K ta tv f):=by
 intro pins s σ H D I h
 refine plainObj_wpAny_Assign_Attribute (thn (hv pins s σ H _ I h) fun u s1 ⟨y,H1,I1,ry,q⟩=>thn (ha pins s1 σ H1 _ I1 q) fun ov s2 ⟨x,H2,I2,rx,a,C,dx,fs,ex,ea,c,n,l,q2⟩=>?_) hs
 subst ex
 obtain rfl:ov=Value.ref a:=rx
 exact ya I2 ea c n l ry fun s3 I3=>⟨σ,_,I3,q2⟩
theorem DL {pl:Sem Bool}{m:Str}{apos:Pos}{args:List Expr}{pins:List (Addr×Obj)}{s:Shared}{σ:St}{H:Hp}{Q:Qq}{te:TE}(he:PE X e te) (I:Inv X pins σ H s)
 (h:te σ H fun x H1=>∃a C dx fs g,x=.ref a/\H1 a=some (.ins C dx fs)/\Cls X.K C/\cQ X.K C m g/\fs.lookup m=none /\
  ∀s1,Inv X pins σ H1 s1->wpAny (model X.prog X.w) X.A (callWith pos (.ref g) [.ref a] (backTo pos (starEach args X.env)) (backToKw pos (keywordEach [] X.env))) Q X.xe s1)
 (ht:eval (.Call (.Attribute e m apos) args [] pos) X.env=(do
  let ov <- eval e X.env
  standAt apos.atName
  let (f,first) <- holding [ov] (getMethod ov m pl)
  callWith pos f first (backTo pos (starEach args X.env)) (backToKw pos (keywordEach [] X.env)))):
 wpAny (model X.prog X.w) X.A (eval (.Call (.Attribute e m apos) args [] pos) X.env) Q X.xe s:=by
 refine PySem.W.methodCall_KW (pl:=pl) (thn (he pins s σ H _ I h) fun u s1 ⟨x,H1,I1,rx,a,C,dx,fs,g,ex,ea,c,k,l,q⟩=>?_) ht
 subst ex
 obtain rfl:u=Value.ref a:=rx
 exact uD I1 ea c k l (q s1 I1)
end
section
variable {X:Cx}{pins:List (Addr×Obj)}{σ:St}{H:Hp}{s:Shared}{A:Around}{E:Qq}{Q:Qq}{c:Value}{b:Bool}
inductive cH (K:PySem.W.Frag) (H:Hp):V->Value->Prop where
 |non:cH K H .non (.type "NoneType")
 |bl (x:Bool):cH K H (.bl x) (.type "bool")
 |int (i:Int):cH K H (.int i) (.type "int")
 |str (x:Str):cH K H (.str x) (.type "str")
 |flt (x:UInt64):cH K H (.flt x) (.type "float")
 |lst {a:Addr}{xs:List V}(e:H a=some (.lst xs)):cH K H (.ref a) (.type "list")
 |frz {a:Addr}{o:Obj}{xs:List V}(e:H a=some (.frz o (.lst xs))):cH K H (.ref a) (.type "list")
 |tup {a:Addr}{xs:List V}(e:H a=some (.tup xs)):cH K H (.ref a) (.type "tuple")
 |dK {a:Addr}{kvs:List (Key×V)}(e:H a=some (.dK kvs)):cH K H (.ref a) (.type "dict")
 |dT {a:Addr}{kvs:List (List Key×V)}(e:H a=some (.dT kvs)):cH K H (.ref a) (.type "dict")
 |ins {a C dx:Addr}{fs:List (Str×V)}(e:H a=some (.ins C dx fs)) (cl:Cls K C) (ha:PySem.W.findIn K (.ref C) "__class__"=some (some (.builtin "object.__class__")))
  (hn:PySem.W.specialIn K (.builtin "object.__class__") "__get__"=some (some (.builtin "getset_descriptor.__get__"))) (htk:PySem.W.takesIn K (.builtin "object.__class__")=some true)
  (hm:PySem.W.mroIn K C (.type "object")=some true):cH K H (.ref a) (.ref C)
theorem BS {x:V}{u t:Value}(I:Inv X pins σ H s) (rx:av x u) (ty:cH X.K H x t) (e:PySem.W.kitOne X.K t c=some b) (h:∀tk,Q (.bool b) { s with toks:=tk }):
 wpAny (model X.prog X.w) A (call (.builtin "isinstance") [u,c]) Q E s:=by
 cases ty with
 |non=>cases(show u=Value.none from rx);exact PySem.W.kia_one PySem.W.kitx_none I.kIn True.intro e (fun z=>nomatch z) h
 |bl y=>cases(show u=Value.bool y from rx);exact PySem.W.kia_one PySem.W.kitx_bool I.kIn True.intro e (fun z=>nomatch z) h
 |int i=>obtain⟨t,q⟩:=(show ∃t,u=Value.int i t from rx);cases q;exact PySem.W.kia_one PySem.W.kitx_int I.kIn True.intro e (fun z=>nomatch z) h
 |str y=>obtain⟨t,q⟩:=(show ∃t,u=Value.str y t from rx);cases q;exact PySem.W.kia_one PySem.W.kitx_str I.kIn True.intro e (fun z=>nomatch z) h
 |flt y=>obtain⟨t,q⟩:=(show ∃t,u=Value.float y t from rx);cases q;exact PySem.W.kia_one PySem.W.kitx_float I.kIn True.intro e (fun z=>nomatch z) h
 |@lst a xs ea=>
  cases(show u=Value.ref a from rx)
  obtain⟨_,_,n,_,h1⟩:=(show bq X.prog X.w H s.heap a (.lst xs)from I.hok a _ ea)
  exact PySem.W.kia_one PySem.W.kitx_list I.kIn ⟨_,h1,rfl⟩ e (fun z=>nomatch z) h
 |@frz a ob xs ea=>
  cases(show u=Value.ref a from rx)
  obtain⟨_,_,_,n,_,h1⟩:=(show bq X.prog X.w H s.heap a (.frz ob (.lst xs))from I.hok a _ ea)
  exact PySem.W.kia_one PySem.W.kitx_list I.kIn ⟨_,h1,rfl⟩ e (fun z=>nomatch z) h
 |@tup a xs ea=>
  cases(show u=Value.ref a from rx)
  obtain⟨_,_,_,p⟩:=(show bq X.prog X.w H s.heap a (.tup xs)from I.hok a _ ea)
  obtain⟨o,h1,h2,_⟩:=p
  exact PySem.W.kia_one PySem.W.kitx_tuple I.kIn ⟨o,h1,h2⟩ e (fun z=>nomatch z) h
 |@dK a kvs ea=>
  cases(show u=Value.ref a from rx)
  obtain⟨_,_,vs,_,p⟩:=(show bq X.prog X.w H s.heap a (.dK kvs)from I.hok a _ ea)
  obtain⟨o,es,ep,h1,h2,_⟩:=p
  exact PySem.W.kia_one PySem.W.kitx_dict I.kIn ⟨o,h1,h2.1⟩ e (fun z=>nomatch z) h
 |@dT a kvs ea=>
  cases(show u=Value.ref a from rx)
  obtain⟨_,_,xs,_,o,es,ep,h1,h2,_⟩:=(show bq X.prog X.w H s.heap a (.dT kvs)from I.hok a _ ea)
  exact PySem.W.kia_one PySem.W.kitx_dict I.kIn ⟨o,h1,h2.1⟩ e (fun z=>nomatch z) h
 |@ins a C dx fs ea cl ha hn htk hm=>
  cases(show u=Value.ref a from rx)
  obtain⟨mA,O,_⟩:=jR I.hok ea
  obtain⟨od,J,_⟩:=O.look
  exact PySem.W.kia_one (PySem.W.kitx_own (cl.get _) cl.hd ha hn htk hm) I.kIn J e (fun z=>nomatch z) h
end
structure bE (k:Nat) (A:Around):Prop where
 hd:A.handled=none
 dp:A.depth+3 * k+5<recursionLimit
 un:A.units+16 * k+200<cLine
 gd:A.guards=some []
theorem bE.mono {j k:Nat}{A:Around}(r:bE k A) (h:j<=k):bE j A:=⟨r.hd,by have:=r.dp;omega,by have:=r.un;omega,r.gd⟩
theorem bE.deeper {k:Nat}{A:Around}(r:bE (k+1) A) (env:Env):bE k (A.deeper env):=
 ⟨r.hd,by have:=r.dp;show A.depth+1+3 * k+5<_;omega,by have:=r.un;show A.units+3+16 * k+200<_;omega,r.gd⟩
theorem Br {A:Around}{C:Addr}{us:List Value}{kw:List (Str×Value)}:(A.under (.builtin "type.__call__" ⟨.ref C::us,kw⟩)).depth=A.depth+1:=by
 first|rfl|simp[Around.under,Code.weight,Code.isCreation,Code.isGuard,Code.isCaller,Code.frames,Code.isFrame,guardIds]
theorem Bo {A:Around}{C:Addr}{us:List Value}{kw:List (Str×Value)}:(A.under (.builtin "type.__call__" ⟨.ref C::us,kw⟩)).units=A.units+1:=by
 first|rfl|simp[Around.under,Code.cUnits,Code.frames,Code.isFrame]
theorem Bq {A:Around}{C:Addr}{us:List Value}{kw:List (Str×Value)}:(A.under (.builtin "type.__call__" ⟨.ref C::us,kw⟩)).guards=A.guards:=by
 first|rfl|simp[Around.under,Code.guards,Code.isGuard,guardIds,Around.pushGuards]
theorem bE.make {k:Nat}{A:Around}(r:bE (k+1) A) (C:Addr) (us:List Value) (kw:List (Str×Value)):bE k (A.under (.builtin "type.__call__" ⟨.ref C::us,kw⟩)):=
 ⟨r.hd,by have:=r.dp;rw[Br];omega,by have:=r.un;rw[Bo];omega,by rw[Bq];exact r.gd⟩
theorem bE.depth {k:Nat}{A:Around}(r:bE k A):A.depth<recursionLimit:=by have:=r.dp;omega
theorem bE.units {k:Nat}{A:Around}(r:bE k A):A.units+64<cLine:=by have:=r.un;omega
def oZ:TA:=fun _ H Q=>Q [] H
def xC (ta:TE) (tr:TA):TA:=fun σ H Q=>ta σ H fun x H1=>tr σ H1 fun xs H2=>Q (x::xs) H2
section
variable {X:Cx}{e:Expr}{es:List Expr}{te:TE}{t:TA}{pos:Pos}
theorem ac:PA X [] oZ:=fun _ _ _ _ H Q I h=>Calls.spliced_nil ⟨[],H,I,.nil,h⟩
theorem a9 (ha:PE X e te) (hr:PA X es t) (hs:starEach (e::es) X.env=(false,eval e X.env)::starEach es X.env:=by rfl):PA X (e::es) (xC te t):=by
 intro pos pins s σ H Q I h
 rw[hs]
 show wpAny _ _ (spliced ((false,eval e X.env)::backTo pos (starEach es X.env))) _ _ s
 refine Calls.spliced_cons (thn (ha pins s σ H _ I h) fun u s1 ⟨x,H1,I1,r1,q1⟩=>?_)
 exact thn (hr pos pins s1 σ H1 _ I1 q1) fun us s2 ⟨xs,H2,I2,r2,q2⟩=>⟨x::xs,H2,I2,.cons r1 r2,q2⟩
def kq (t:TA):TE:=fun σ H Q=>t σ H fun xs H1=>xs.length<=sizeLine/\∀p,H1 p=none->Q (.ref p) (upd H1 p (.tup xs))
def ku (t:TA):TE:=fun σ H Q=>t σ H fun xs H1=>xs.length<=sizeLine/\∀p,H1 p=none->Q (.ref p) (upd H1 p (.lst xs))
theorem zK {x1}(h:PA X es t):PE X (.Tuple es x1 pos) (kq t):=by
 intro pins s σ H Q I hq
 refine wpAny_Tuple_spliced (thn (h pos pins s σ H _ I hq) fun us s1 ⟨xs,H1,I1,r,z,q⟩=>⟨by rw[<- r.length];exact z,?_⟩)
 have hf:H1 s1.heap.objs.size=none:=I1.hok.fresh (qd _)
 refine⟨.ref s1.heap.objs.size,upd H1 s1.heap.objs.size (.tup xs),I1.laid (t':=s1.toks) (fun b u e=>q9 _ e) (qd _) ?_,rfl,q _ hf⟩
 exact⟨z,us,r,⟨_,qo _ rfl,rfl,_,rfl⟩⟩
theorem zN (h:PA X es t):PE X (.List es pos) (ku t):=by
 intro pins s σ H Q I hq
 refine wpAny_List_spliced (thn (h pos pins s σ H _ I hq) fun us s1 ⟨xs,H1,I1,r,z,q⟩=>⟨by rw[<- r.length];exact z,?_⟩)
 have hf:H1 s1.heap.objs.size=none:=I1.hok.fresh (qd _)
 refine⟨.ref s1.heap.objs.size,upd H1 s1.heap.objs.size (.lst xs),I1.laid (t':=s1.toks) (fun b u e=>q9 _ e) (qd _) ?_,rfl,q _ hf⟩
 exact⟨z,us,0,r,qo _ rfl⟩
end
abbrev Sp:=List V->Hp->VK->XK->Prop
abbrev CXT:=List Env->Hp->Shared->XK->Value->Shared->Prop
structure gb (P:Program) (w:World) (K:PySem.W.Frag) (mg:Str->Option Value) (base:Heap) (A:Around) (outer:List Env) (s:Shared) (H:Hp):Prop where
 frames:A.frames=some outer
 mod:Mod K mg base
 bs:∀b o,base.get? b=some o->s.heap.get? b=some o/\H b=none
 bsz:base.objs.size<=s.heap.objs.size
 funs:s.heap.FunFrames base outer
 frf:∀b∈frs outer,H b=none
 hok:HOk P w H s.heap
 bare:AllBare s.gens
def CE (outer:List Env) (P:Program) (w:World) (H:Hp) (s:Shared) (Q:VK) (u:Value) (s':Shared):Prop:=
 ∃v H',s'.os=s.os/\AllBare s'.gens/\Un (frs outer) [] H H' s.heap s'.heap/\HOk P w H' s'.heap/\av v u/\Q v H'
def CR (CX:CXT) (outer:List Env) (P:Program) (w:World) (H:Hp) (s:Shared) (Q:VK) (E:XK) (r:Result) (s':Shared):Prop:=
 match r with
 |.ok (.ret u)=>CE outer P w H s Q u s'
 |.ok _=>False
 |.error e=>CX outer H s E e s'
structure aC (P:Program) (w:World) (K:PySem.W.Frag) (mg:Str->Option Value) (base:Heap) (CX:CXT) (k:Nat) (f:Addr) (fd:FuncData) (ps:List Str) (sp:Sp):Prop where
 len:∀vs H Q E,sp vs H Q E->vs.length=ps.length
 run:∀(A:Around) (outer:List Env) (s:Shared) (H:Hp) (args:Args) (us:List Value) (vs:List V) (Q:VK) (E:XK),bE k A->gb P w K mg base A outer s H->BindsTo s fd args (ps.zip us)->au vs us->sp vs H Q E->
  codeAny (model P w) A (.call (.ref f) args) (CR CX outer P w H s Q E) s
theorem aC.mono {P:Program}{w:World}{K:PySem.W.Frag}{mg:Str->Option Value}{base:Heap}{CX:CXT}{j k:Nat}{f:Addr}{fd:FuncData}{ps:List Str}{sp:Sp}(F:aC P w K mg base CX j f fd ps sp) (h:j<=k):
 aC P w K mg base CX k f fd ps sp:=⟨F.len,fun A outer s H args us vs Q E hr=>F.run A outer s H args us vs Q E (hr.mono h)⟩
theorem gb.make {P:Program}{w:World}{K:PySem.W.Frag}{mg:Str->Option Value}{base:Heap}{A:Around}{outer:List Env}{s:Shared}{H:Hp}(e:gb P w K mg base A outer s H) (C:Addr) (us:List Value) (kw:List (Str×Value)):
 gb P w K mg base (A.under (.builtin "type.__call__" ⟨.ref C::us,kw⟩)) outer s H:=⟨by first|exact e.frames|(simpa[Around.under,Code.envs,Code.isFrame,pushEnvs]using e.frames),e.mod,e.bs,e.bsz,e.funs,e.frf,e.hok,e.bare⟩
section
variable {X:Cx}{pins:List (Addr×Obj)}{σ:St}{H:Hp}{s s':Shared}
theorem Inv.env0 (I:Inv X pins σ H s):gb X.prog X.w X.K X.mg X.base X.A X.stack s H:=
 ⟨I.ok.frames,I.ok.mod,I.bs,qx I.ok.bsz I.sz,I.stack,I.stkFree,I.hok,I.bare⟩
theorem Inv.after {Q:VK}{u:Value}(I:Inv X pins σ H s) (h:CE X.stack X.prog X.w H s Q u s'):EP X pins σ Q u s':=by
 obtain⟨v,H',os,bare,un,hok,r,q⟩:=h
 obtain⟨hh,g,d,t,os'⟩:=s'
 obtain rfl:os'=s.os:=os
 exact⟨v,H',I.call (h':=hh) (g':=g) (d':=d) (t':=t) (ch:=[]) un hok bare (fun b z=>absurd z (by simp)),r,q⟩
end
def xD (sp:Sp) (dvs:List V) (E:XK) (t:TA):TE:=fun σ H Q=>t σ H fun vs H1=>sp (vs++dvs) H1 Q E
def xj (C:Addr) (m:Str) (sp:Sp) (dvs:List V) (E:XK) (ta:TE) (t:TA):TE:=fun σ H Q=>ta σ H fun x H1=>∃a dx fs,x=.ref a/\H1 a=some (.ins C dx fs)/\fs.lookup m=none /\
 t σ H1 fun vs H2=>sp (x::(vs++dvs)) H2 Q E
def xk (C:Addr) (sp:Sp) (dvs:List V) (E:XK) (t:TA):TE:=fun σ H Q=>t σ H fun vs H1=>∀x dx,H1 x=none->H1 dx=none->dx≠x->
 sp (.ref x::(vs++dvs)) (upd (upd H1 dx (.own x)) x (.ins C dx [])) (fun v H2=>v=.non/\Q (.ref x) H2) E
def aI (K:PySem.W.Frag) (fd:FuncData) (ps:List Str) (ds:List Value):Prop:=
 ∀(s:Shared) (us:List Value),K.In s.heap->(us++ds).length=ps.length->BindsTo s fd ⟨us,[]⟩ (ps.zip (us++ds))
theorem aI.all {K:PySem.W.Frag}{fd:FuncData}{ps:List Str}(h:∀us:List Value,us.length=ps.length->bindArgs fd ⟨us,[]⟩=pure (ps.zip us)):aI K fd ps []:=fun s us _ hl=>by
 rw[qw]at hl ⊢
 exact .of_eq (h us hl)
def hZ (CX:CXT) (X:Cx) (E:XK):Prop:=∀(pins:List (Addr×Obj)) (σ:St) (H:Hp) (s:Shared) (e:Value) (s':Shared),Inv X pins σ H s->CX X.stack H s E e s'->X.xe e s'
section
variable {X:Cx}{CX:CXT}{k:Nat}{f C:Addr}{fd:FuncData}{ps:List Str}{sp:Sp}{dvs:List V}{ds:List Value}{E:XK}{x m:Str}{p pos apos:Pos}{e o:Expr}{es:List Expr}{ta:TE}{t:TA}
theorem sh {pins:List (Addr×Obj)}{σ:St}{H:Hp}{s:Shared}{Q:VK}{us:List Value}{vs:List V}(F:aC X.prog X.w X.K X.mg X.base CX k f fd ps sp) (hr:bE k X.A) (hb:aI X.K fd ps ds) (hd:au dvs ds) (hx:hZ CX X E)
 (I:Inv X pins σ H s) (r:au vs us) (h:sp (vs++dvs) H Q E):wpAny (model X.prog X.w) X.A (call (.ref f) us) (EP X pins σ Q) X.xe s:=by
 have r2:au (vs++dvs) (us++ds):=r.append hd
 have hl:(us++ds).length=ps.length:=by rw[<- r2.length];exact F.len _ _ _ _ h
 refine wpAny_call (codeAny_mono (F.run X.A X.stack s H ⟨us,[]⟩ (us++ds) (vs++dvs) Q E hr I.env0 (hb s us I.kIn hl) r2 h) fun r s' hq=>?_)
 cases r with
 |error e=>exact hx pins σ H s e s' I hq
 |ok fl=>
  cases fl with
  |ret u=>exact I.after hq
  |next=>exact False.elim hq
  |brk=>exact False.elim hq
  |cont=>exact False.elim hq
theorem az (F:aC X.prog X.w X.K X.mg X.base CX k f fd ps sp) (hr:bE k X.A) (hg:Gl X x) (hm:X.mg x=some (.ref f)) (hk:PySem.W.keepIn X.K (.ref f)=true) (hb:aI X.K fd ps ds) (hd:au dvs ds) (hx:hZ CX X E)
 (ha:PA X (e::es) t) (hdb:(x == ("__debug__":Str))=false:=by decide) (he:starEach (e::es) X.env=(false,eval e X.env)::starEach es X.env:=by rfl) (hpl:(backTo pos (starEach es X.env)).any (·.1)=false:=by rfl):
 PE X (.Call (.Name x p) (e::es) [] pos) (xD sp dvs E t):=by
 intro pins s σ H Q I h
 refine wpAny_Call_Name_kw (nD I hg hm ?_ hdb)
 refine PySem.W.callWith_K (h₀:=X.base) I.ok.mod.kin hk (thn (ha pos pins s σ H _ I h) fun us s1 ⟨vs,H1,I1,r,q⟩=>⟨I1.kIn,?_⟩) he hpl
 exact sh F hr hb hd hx I1 r q
theorem aU {pl:Sem Bool}(he:PE X o ta) (c:Cls X.K C) (hm:cQ X.K C m f) (F:aC X.prog X.w X.K X.mg X.base CX k f fd ps sp) (hr:bE k X.A) (hb:aI X.K fd ps ds) (hd:au dvs ds) (hx:hZ CX X E) (ha:PA X (e::es) t)
 (hst:starEach (e::es) X.env=(false,eval e X.env)::starEach es X.env:=by rfl) (hpl:(backTo pos (starEach es X.env)).any (·.1)=false:=by rfl)
 (ht:eval (.Call (.Attribute o m apos) (e::es) [] pos) X.env=(do
  let ov <- eval o X.env
  standAt apos.atName
  let (f,first) <- holding [ov] (getMethod ov m pl)
  callWith pos f first (backTo pos (starEach (e::es) X.env)) (backToKw pos (keywordEach [] X.env))):=by rfl):
 PE X (.Call (.Attribute o m apos) (e::es) [] pos) (xj C m sp dvs E ta t):=by
 intro pins s σ H Q I h
 refine PySem.W.methodCall_KW (pl:=pl) (thn (he pins s σ H _ I h) fun u s1 ⟨x,H1,I1,rx,a,dx,fs,ex,ea,l,q⟩=>?_) ht
 subst ex
 obtain rfl:u=Value.ref a:=rx
 refine uD I1 ea c hm l ?_
 refine PySem.W.callWith_K (first:=[.ref a]) (h₀:=X.base) I.ok.mod.kin hm.kp (thn (ha pos pins s1 σ H1 _ I1 q) fun us s2 ⟨vs,H2,I2,r,q2⟩=>⟨I2.kIn,?_⟩) hst hpl
 exact sh (us:=.ref a::us) (vs:=.ref a::vs) F hr hb hd hx I2 (.cons rfl r) q2
structure Mk (K:PySem.W.Frag) (C f:Addr):Prop where
 makes:PySem.W.makesIn K C=true
 init:PySem.W.findIn K (.ref C) "__init__"=some (some (.ref f))
 fn:PySem.W.isFn K (.ref f)=true
 kp:PySem.W.keepIn K (.ref C)=true
theorem yH {pins:List (Addr×Obj)}{σ:St}{H:Hp}{s:Shared}{Q:VK}{us:List Value}{vs:List V}(M:Mk X.K C f) (F:aC X.prog X.w X.K X.mg X.base CX k f fd ps sp) (hr:bE (k+1) X.A) (hb:aI X.K fd ps ds) (hd:au dvs ds)
 (hx:hZ CX X E) (I:Inv X pins σ H s) (r:au vs us)
 (h:∀x dx,H x=none->H dx=none->dx≠x->sp (.ref x::(vs++dvs)) (upd (upd H dx (.own x)) x (.ins C dx [])) (fun v H2=>v=.non/\Q (.ref x) H2) E):
 wpAny (model X.prog X.w) X.A (call (.ref C) us) (EP X pins σ Q) X.xe s:=by
 have hq:=h (s.heap.objs.size+1) s.heap.objs.size (I.hok.fresh (Nat.le_succ _)) (I.hok.fresh (qd _)) (qF (Nat.lt_succ_self _))
 have I2:=Inv.made (C:=C) I
 have r2:au (V.ref (s.heap.objs.size+1)::(vs++dvs)) (Value.ref (s.heap.objs.size+1)::(us++ds)):=.cons rfl (r.append hd)
 have hl:(Value.ref (s.heap.objs.size+1)::us++ds).length=ps.length:=by
  have e:=r2.length
  rw[F.len _ _ _ _ hq]at e
  exact e.symm
 refine wpAny_call (Bp (f:=f) I.kIn M.makes M.init (beq_iff_eq.mp M.fn) (codeAny_mono (F.run _ X.stack _ _ ⟨Value.ref (s.heap.objs.size+1)::us,[]⟩ (Value.ref (s.heap.objs.size+1)::(us++ds)) _ _ E (hr.make C us [])
  (I2.env0.make C us []) (hb _ (Value.ref (s.heap.objs.size+1)::us) I2.kIn hl) r2 hq) fun r s' hq'=>?_))
 cases r with
 |error e=>exact hx pins σ _ _ e s' I2 hq'
 |ok fl=>
  cases fl with
  |ret u=>
   obtain⟨v,H',I3,rv,ev,q3⟩:=I2.after hq'
   subst ev
   exact⟨rv,⟨V.ref (s.heap.objs.size+1),H',I3,rfl,q3⟩⟩
  |next=>exact False.elim hq'
  |brk=>exact False.elim hq'
  |cont=>exact False.elim hq'
theorem zM (M:Mk X.K C f) (F:aC X.prog X.w X.K X.mg X.base CX k f fd ps sp) (hr:bE (k+1) X.A) (hg:Gl X x) (hm:X.mg x=some (.ref C)) (hb:aI X.K fd ps ds) (hd:au dvs ds) (hx:hZ CX X E)
 (hdb:(x == ("__debug__":Str))=false:=by decide):PE X (.Call (.Name x p) [] [] pos) (xk C sp dvs E oZ):=by
 intro pins s σ H Q I h
 refine wpAny_Call_Name_kw (nD I hg hm ?_ hdb)
 exact PySem.W.callWith_K0 I.kIn M.kp (yH (us:=[]) M F hr hb hd hx I .nil h)
end
section
variable {X:Cx}{CX:CXT}{k:Nat}{f C:Addr}{fd:FuncData}{ps ks:List Str}{sp:Sp}{E:XK}{x m:Str}{p pos apos kpos:Pos}{e o:Expr}{es:List Expr}{kws:List Keyword}{te ta:TE}{t tk:TA}{nm:Option Str}
variable {g:List Value->List Value->List Value}{gV:List V->List V->List V}
end
structure aN (N P:List Str) (sc:Scope):Prop where
 kind:sc.kind=.function
 co:sc.isCoroutine=false
 gen:sc.isGenerator=false
 nd:N.Nodup
 pre:N.take P.length=P
 par:∀x∈P,sc.names.lookup x=some .local\/sc.names.lookup x=some .cell
 nofree:∀y∈sc.names,y.2≠.free
theorem vR {kindOf:Str->Option NameKind}{x:Str}:∀{binds:List (Str×Value)}{m:Str->Option Value},(∀v,(x,v)∉binds)->bindL kindOf binds m x=m x
 |[],_,_=>rfl
 |(n,v)::r,m,h=>by
  unfold bindL
  rw[vR fun w hw=>h w (qj _ hw)]
  split
  ·have:x≠n:=by rintro rfl;exact h v qk
   simp[this]
  ·rfl
theorem vT {kindOf:Str->Option NameKind}{x:Str}:∀{binds:List (Str×Value)}{m:Str->Option Value},(∀v,(x,v)∉binds)->bindC kindOf binds m x=m x
 |[],_,_=>rfl
 |(n,v)::r,m,h=>by
  unfold bindC
  rw[vT fun w hw=>h w (qj _ hw)]
  split
  ·rfl
  ·have:x≠n:=by rintro rfl;exact h v qk
   simp[this]
theorem vS {kindOf:Str->Option NameKind}{x:Str}{v:Value}:∀{P:List Str}{vs:List Value}{i:Nat}{m:Str->Option Value},P.Nodup->P[i]?=some x->vs[i]?=some v->kindOf x=some .local->
 bindL kindOf (P.zip vs) m x=some v
 |[],_,_,_,_,h,_,_=>by simp at h
 |_::_,[],_,_,_,_,h,_=>by simp at h
 |p::P,w::vs,0,m,nd,h1,h2,hk=>by
  simp at h1 h2;subst h1;subst h2
  show bindL kindOf ((p,w)::P.zip vs) m p=_
  unfold bindL
  rw[vR fun v hv=>(List.nodup_cons.mp nd).1 (List.of_mem_zip hv).1,Q0 hk]
  simp
 |p::P,w::vs,i+1,m,nd,h1,h2,hk=>by
  show bindL kindOf ((p,w)::P.zip vs) m x=_
  unfold bindL
  exact vS (i:=i) (List.nodup_cons.mp nd).2 (by simpa using h1) (by simpa using h2) hk
theorem vU {kindOf:Str->Option NameKind}{x:Str}{v:Value}:∀{P:List Str}{vs:List Value}{i:Nat}{m:Str->Option Value},P.Nodup->P[i]?=some x->vs[i]?=some v->kindOf x≠some .local->
 bindC kindOf (P.zip vs) m x=some v
 |[],_,_,_,_,h,_,_=>by simp at h
 |_::_,[],_,_,_,_,h,_=>by simp at h
 |p::P,w::vs,0,m,nd,h1,h2,hk=>by
  simp at h1 h2;subst h1;subst h2
  show bindC kindOf ((p,w)::P.zip vs) m p=_
  unfold bindC
  rw[vT fun v hv=>(List.nodup_cons.mp nd).1 (List.of_mem_zip hv).1,qZ hk]
  simp
 |p::P,w::vs,i+1,m,nd,h1,h2,hk=>by
  show bindC kindOf ((p,w)::P.zip vs) m x=_
  unfold bindC
  exact vU (i:=i) (List.nodup_cons.mp nd).2 (by simpa using h1) (by simpa using h2) hk
def ei (N:List Str) (vs:List V):St:=vs.map some++List.replicate (N.length-vs.length) none
def gZ (CX:CXT) (P:Program) (w:World) (K:PySem.W.Frag) (mg:Str->Option Value) (base:Heap) (N:List Str) (qual:Str) (scope:Scope) (f:Addr) (cd:Value) (A:Around) (outer:List Env) (s:Shared) (H:Hp) (E:XK):Cx where
 prog:=P
 w:=w
 K:=K
 mg:=mg
 base:=base
 A:=A.deeper (envOfC qual scope s.heap.objs.size f cd)
 N:=N
 s₀:=s
 H₀:=H
 env:=envOfC qual scope s.heap.objs.size f cd
 outer:=outer
 stack:=envOfC qual scope s.heap.objs.size f cd::outer
 ex:=[]
 calm:=true
 fn:=fun _=>true
 pn:=[]
 xe:=fun e s'=>wpAny (model P w) (A.deeper (envOfC qual scope s.heap.objs.size f cd)) (leaving (envOfC qual scope s.heap.objs.size f cd) e) (fun _ s''=>CX outer H s E e s'') (fun e' s''=>CX outer H s E e' s'') s'
theorem vK {sc:Scope}{n:Nat}{x:Str}(h:sc.names.lookup x=some .cell):∃c,(cellsFrom n sc.names []).lookup x=some c:=by
 have q:=PySem.W.cellsFrom_some sc.names n [] (.inl h)
 exact Option.isSome_iff_exists.mp q
theorem BW {CX:CXT}{P:Program}{w:World}{K:PySem.W.Frag}{mg:Str->Option Value}{base:Heap}{N ps:List Str}{qual:Str}{scope:Scope}{f:Addr}{cd:Value}{A:Around}{outer:List Env}{s s1:Shared}{H:Hp}{E:XK}{us:List Value}{vs:List V}
 (S:aN N ps scope) (hd:A.handled=none) (e0:gb P w K mg base A outer s H) (hl:vs.length=ps.length) (r:au vs us)
 (x:InCallC s s.heap.objs.size (bindL (envOfC qual scope s.heap.objs.size f cd).kindOf (ps.zip us) fun _=>none) (cellsFrom (s.heap.objs.size+1) scope.names []) (bindC (envOfC qual scope s.heap.objs.size f cd).kindOf (ps.zip us) fun _=>none) s1):
 Inv (gZ CX P w K mg base N qual scope f cd A outer s H E) [] (ei N vs) H s1:=by
 have hpl:ps.length<=N.length:=by have:=congrArg List.length S.pre;rw[qJ]at this;omega
 obtain⟨h1,tk,rfl,hk⟩:=x.done
 have noA:∀b:Addr,b∉(gZ CX P w K mg base N qual scope f cd A outer s H E).ex:=fun b z=>absurd (show b∈([]:List Addr)from z) (by simp)
 refine⟨⟨e0.mod,S.kind,rfl,rfl,qd _,fun y z c h1 h2=>?_,fun y hy=>?_,fun y c _ h=>?_,fun _=>hd,Around.frames_deeper e0.frames,.inr ⟨rfl,rfl⟩,fun b z=>absurd z (noA b),e0.bs,e0.bsz,fun b _ _=>noA b,fun b z=>absurd z (noA b),e0.funs,e0.frf⟩,
  rfl,e0.bare,Un.kept hk,⟨_,x.toInCall.ns,fun i y v h1 h2 h3=>?_⟩,fun y c h=>⟨_,x.cell y c h⟩,e0.hok.fresh (qd _),fun y c h=>?_,fun p hp=>absurd (show p∈([]:List (Addr×Obj))from hp) (by simp),e0.hok.kept hk,?_⟩
 ·exact name_of_addr x.apart (PySem.mem_of_lookup h1) (PySem.mem_of_lookup h2)
 ·have hy:scope.names.lookup y=some .cell\/scope.names.lookup y=some .free:=hy
  rcases hy with hy|hy
  ·exact vK hy
  ·exact absurd rfl (S.nofree _ (PySem.mem_of_lookup hy))
 ·exact Nat.le_of_lt (x.above y c (PySem.mem_of_lookup h))
 ·have hi:i<vs.length:=by
   unfold ei at h2
   by_cases hi:i<vs.length
   ·exact hi
   ·rw[qK (by simpa using hi)]at h2
    rw[List.getElem?_replicate]at h2
    split at h2<;>cases h2
  have ha:vs[i]?=some v:=by
   unfold ei at h2
   rw[List.getElem?_append_left (by simpa using hi),qD]at h2
   cases e:vs[i]? with
   |none=>rw[e]at h2;cases h2
   |some a=>rw[e]at h2;cases h2;rfl
  obtain⟨u,hu,rv⟩:=r.get ha
  have hp:ps[i]?=some y:=by
   rw[<- S.pre,List.getElem?_take_of_lt Qo];exact h1
  have ndP:ps.Nodup:=by rw[<- S.pre];exact S.nd.sublist (List.take_sublist _ _)
  refine⟨u,rv,?_⟩
  rcases S.par y (qy hp)with k|k
  ·exact .inl ⟨k,vS ndP hp hu k⟩
  ·obtain⟨c,e⟩:=vK (n:=s.heap.objs.size+1) k
   refine .inr ⟨.inl k,c,e,?_⟩
   have q:=x.cell y c e
   rw[vU ndP hp hu (by show scope.names.lookup y≠_;rw[k];decide)]at q
   exact q
 ·exact e0.hok.fresh (Nat.le_of_lt (x.above y c (PySem.mem_of_lookup h)))
 ·unfold ei
  show _=N.length
  rw[qa,q5,List.length_replicate]
  omega
theorem Ct {CX:CXT}{P:Program}{w:World}{K:PySem.W.Frag}{mg:Str->Option Value}{base:Heap}{k:Nat}{f:Addr}{name qual:Str}{params:Arguments}{body:List Stmt}{scope:Scope}{dV kV doc pm cdv ct oc:Value}{an od:Option Addr}
 {osl:Array (Option Value)}{N ps:List Str}{sp:Sp}(lk:K.lookup f=some ⟨oc,od,.func (PySem.W.fnOf name qual params body scope dV kV doc pm an cdv ct),osl⟩) (hcd:PySem.W.codeIn K cdv qual=true) (S:aN N ps scope)
 (len:∀vs H Q E,sp vs H Q E->vs.length=ps.length)
 (hbody:∀(A:Around) (outer:List Env) (s:Shared) (H:Hp) (vs:List V) (Q:VK) (E:XK),bE k (A.deeper (envOfC qual scope s.heap.objs.size f cdv))->sp vs H Q E->
  ∃t,PSs (gZ CX P w K mg base N qual scope f cdv A outer s H E) body t/\t { nx:=fun _ H'=>Q .non H',rt:=Q } (ei N vs) H):
 aC P w K mg base CX (k+1) f (PySem.W.fnOf name qual params body scope dV kV doc pm an cdv ct) ps sp:=by
 refine⟨len,fun A outer s H args us vs Q E hr e0 hb r hsp=>?_⟩
 have hl:=len _ _ _ _ hsp
 have KX:K.In s.heap:=e0.mod.kin.keeps fun b o e=>(e0.bs b o e).1
 have lim:s.heap.NoLimit:=e0.mod.nolimit.keeps fun b o e=>(e0.bs b o e).1
 have hkind:∀y∈ps.zip us,scope.names.lookup y.1=some .local\/(scope.names.lookup y.1=some .cell/\((cellsFrom (s.heap.objs.size+1) scope.names []).lookup y.1).isSome=true):=fun⟨n,v⟩ hy=>by
  rcases S.par n (List.of_mem_zip hy).1 with q|q
  ·exact .inl q
  ·exact .inr ⟨q,PySem.W.cellsFrom_some _ _ _ (.inl q)⟩
 refine codeAny_call_function hr.depth (KX _ _ lk) rfl S.co S.gen rfl (PySem.W.codeRec_of KX hcd) (hb _ _ _ _ ?_)
 refine wpAny_newFunctionEnv_cells S.kind hkind fun env he s1 x=>?_
 subst he
 refine⟨lim.keeps x.toInCall.keep,codeAny_func ?_⟩
 obtain⟨t,ht,hq⟩:=hbody A outer s H vs Q E (hr.deeper _) hsp
 have I:Inv (gZ CX P w K mg base N qual scope f cdv A outer s H E) [] (ei N vs) H s1:=BW S hr.hd e0 hl r x
 refine wpAny_mono (ht [] s1 (ei N vs) H _ I hq) (fun fl s' hs=>?_) fun e s' hs=>hs
 have fin:∀{σ':St}{H':Hp}{v:V}{u:Value},Inv (gZ CX P w K mg base N qual scope f cdv A outer s H E) [] σ' H' s'->av v u->Q v H'->CE outer P w H s Q u s':=
  fun{σ' H' v u} J rv q=>⟨v,H',J.os,J.bare,J.base,J.hok,rv,q⟩
 cases fl with
 |ret u=>
  obtain⟨v,σ',H',J,rv,q⟩:=hs
  exact fin J rv q
 |next=>
  obtain⟨σ',H',J,q⟩:=hs
  exact fin (v:=V.non) (u:=Value.none) J rfl q
 |brk=>
  obtain⟨_,_,_,q⟩:=hs
  exact False.elim q
 |cont=>
  obtain⟨_,_,_,q⟩:=hs
  exact False.elim q
section
variable {X:Cx}{x:Str}{p pos:Pos}{e:Expr}{es:List Expr}{t:TA}{id T:String}{r:List V->Hp->VK->Prop}
def tCB (r:List V->Hp->VK->Prop) (t:TA):TE:=fun σ H Q=>t σ H fun vs H1=>r vs H1 Q
theorem bp (hc:bT X (.builtin id) r) (hg:Gl X x) (hm:X.mg x=none) (hv:bootBuiltins x=some (.builtin id)) (ha:PA X (e::es) t) (hn:x≠"__name__":=by decide) (hdb:(x == ("__debug__":Str))=false:=by decide)
 (he:starEach (e::es) X.env=(false,eval e X.env)::starEach es X.env:=by rfl) (hpl:(backTo pos (starEach es X.env)).any (·.1)=false:=by rfl):PE X (.Call (.Name x p) (e::es) [] pos) (tCB r t):=by
 intro pins s σ H Q I h
 refine wpAny_Call_Name_kw (fH I hg hm hv ?_ hn hdb)
 exact PyProof.Rows.callWith_builtin1 (thn (ha pos pins s σ H _ I h) fun us s1 ⟨vs,H1,I1,r1,q1⟩=>hc pins s1 σ H1 vs us Q I1 r1 q1) he hpl
theorem bR (hc:bT X (.type T) r) (hg:Gl X x) (hm:X.mg x=none) (hv:bootBuiltins x=some (.type T)) (ha:PA X (e::es) t) (hn:x≠"__name__":=by decide) (hdb:(x == ("__debug__":Str))=false:=by decide)
 (he:starEach (e::es) X.env=(false,eval e X.env)::starEach es X.env:=by rfl) (hpl:(backTo pos (starEach es X.env)).any (·.1)=false:=by rfl):PE X (.Call (.Name x p) (e::es) [] pos) (tCB r t):=by
 intro pins s σ H Q I h
 refine wpAny_Call_Name_kw (fH I hg hm hv ?_ hn hdb)
 exact PyProof.Rows.callWith_type1 (thn (ha pos pins s σ H _ I h) fun us s1 ⟨vs,H1,I1,r1,q1⟩=>hc pins s1 σ H1 vs us Q I1 r1 q1) he hpl
end
end L2
namespace HT
open PySem PyProof.Rows
section
open PySem.SeqAt
open PySem.AutoSeq1 (wpAny_loadPart')
open PySem.MeetsSeq PySem.MeetsSeq2 PySem.MeetsSeq3
end
section
variable {prog:Program}{w:World}{A:Around}{E:Qq}{s:Shared}
theorem cat_tup {t b:Addr}{vs ws:List Value}{Q:Qq}(ht:IsTup s.heap t vs.toArray) (hb:IsTup s.heap b ws.toArray) (hv:vs≠[])
 (h1:ws=[]->Q (.ref t) s) (h2:ws≠[]->Q (.ref s.heap.objs.size) { s with heap:=s.heap.push { cls:=.type "tuple",data:=.seq (vs++ws).toArray } })
 (hsz:vs.length+ws.length<=sizeLine):wpAny (model prog w) A (binaryOp .Add (.ref t) (.ref b)) Q E s:=by
 obtain⟨⟨cls,dd,data,sl⟩,ho,hc,n,hd⟩:=id ht
 obtain⟨⟨cls2,dd2,data2,sl2⟩,ho2,hc2,n2,hd2⟩:=id hb
 simp only at hc hd hc2 hd2
 subst hc hd hc2 hd2
 have e:vs.toArray++ws.toArray=(vs++ws).toArray:=by simp
 by_cases hw:ws=[]
 ·exact concat_meets ⟨_,ho,rfl⟩ ⟨_,ho2,rfl⟩ noFill_tuple_add seq_tuple_add PySem.F.slot_tuple_add PySem.F.entry_tuple_add (PySem.F.args_tuple_add_2 _ _)
   (tuple_addW1 t b vs.toArray ws.toArray n n2 dd dd2 sl sl2 (by simpa using hv) (by simp[hw])) ⟨ho,ho2,h1 hw⟩
 ·refine concat_meets ⟨_,ho,rfl⟩ ⟨_,ho2,rfl⟩ noFill_tuple_add seq_tuple_add PySem.F.slot_tuple_add PySem.F.entry_tuple_add (PySem.F.args_tuple_add_2 _ _)
   (tuple_addW2 t b vs.toArray ws.toArray n n2 dd dd2 sl sl2 (by simpa using hv) (by simpa using hw) (by rw[qA,qA];exact hsz)) ⟨ho,ho2,?_⟩
  rw[e]
  exact h2 hw
def sIx (n d:Nat):Option Int->Nat
 |none=>d
 |some v=>if v<0 then(v+(n:Int)).toNat else min v.toNat n
theorem sIx_none (n d:Nat):sIx n d none=d:=rfl
theorem sIx_nat (n d k:Nat):sIx n d (some (k:Int))=min k n:=by
 show(if(k:Int)<0 then((k:Int)+(n:Int)).toNat else min (k:Int).toNat n)=min k n
 rw[qZ Qo,qX]
theorem yE (n d:Nat) (hd:d<=n) (o:Option Int):sIx n d o<=n:=by
 cases o with
 |none=>exact hd
 |some v=>
  show(if v<0 then(v+(n:Int)).toNat else min v.toNat n)<=n
  by_cases hv:v<0
  ·rw[Q0 hv];omega
  ·rw[qZ hv];exact Nat.min_le_right _ _
theorem vJ (v:Int) (n d:Nat):(if v<0 then max (v+(n:Int)) 0 else min v (n:Int))=((sIx n d (some v):Nat):Int):=by
 show(if v<0 then max (v+(n:Int)) 0 else min v (n:Int))=(((if v<0 then(v+(n:Int)).toNat else min v.toNat n):Nat):Int)
 by_cases hv:v<0
 ·simp only[Q0 hv];omega
 ·simp only[qZ hv];omega
theorem Dz (lo hi:Option Int) (n:Nat):Builtin.Slice.sliceAdjust lo hi 1 (n:Int)=(((sIx n 0 lo:Nat):Int),((sIx n n hi:Nat):Int)):=by
 have h1:¬ ((1:Int)<0):=Qo
 unfold Builtin.Slice.sliceAdjust
 simp only[h1,if_false]
 refine Prod.ext ?_ ?_
 ·cases lo with
  |none=>rfl
  |some v=>exact vJ v n 0
 ·cases hi with
  |none=>rfl
  |some v=>exact vJ v n n
theorem zF (i j:Nat):Builtin.Slice.slicePlaces (i:Int) (j:Int) 1=j-i:=by
 unfold Builtin.Slice.slicePlaces
 have h1:(1:Int) > 0:=Qo
 simp only[h1,if_true,Int.ediv_one]
 split<;>omega
theorem rJ {v:Value}{o:Option Int}{Q:Option Int->Shared->Prop}(p:IsPart v o) (h:Q o s):wpAny (model prog w) A (Builtin.Slice.slicePartIndex v) Q E s:=by
 cases p with
 |none=>exact slicePart_none h
 |int i t=>exact slicePart_int h
theorem rK {sl:Addr}{vl vu:Value}{lo hi:Option Int}{n:Nat}{Q:Int×Int×Nat->Shared->Prop}(hs:s.heap.IsSliceOf sl vl vu .none) (pl:IsPart vl lo) (pu:IsPart vu hi)
 (h:Q (((sIx n 0 lo:Nat):Int),1,sIx n n hi-sIx n 0 lo) s):wpAny (model prog w) A (Builtin.Slice.sliceApplied (.ref sl) (pure (n:Int))) Q E s:=by
 obtain⟨os,hos,hcs,hds⟩:=id hs
 unfold Builtin.Slice.sliceApplied Builtin.Slice.sliceFields
 refine q4 (q4 (wpAny_field hos hds (x:=vl) rfl (q4 (wpAny_field hos hds (x:=vu) rfl (q4 (wpAny_field hos hds (x:=.none) rfl (qc ?_)))))))
 refine q4 (slicePart_none ?_)
 show wpAny _ _ (if((1:Int) == 0)=true then _ else _) _ _ s
 rw[qZ Qk]
 refine q4 (rJ pl (q4 (rJ pu (q4 (qc ?_)))))
 show wpAny _ _ (match Builtin.Slice.sliceAdjust lo hi 1 (n:Int)with|(lo,hi)=>pure (lo,(1:Int),Builtin.Slice.slicePlaces lo hi 1)) _ _ s
 rw[Dz lo hi n]
 show wpAny _ _ (pure (((sIx n 0 lo:Nat):Int),(1:Int),Builtin.Slice.slicePlaces ((sIx n 0 lo:Nat):Int) ((sIx n n hi:Nat):Int) 1)) _ _ s
 rw[zF]
 exact qc h
theorem zG (xs:Array Value) (i k:Nat):((List.range k).filterMap fun(m:Nat)=>xs[((i:Int)+(m:Int) * 1).toNat]?).toArray=((xs.toList.drop i).take k).toArray:=by
 have e:(fun(m:Nat)=>xs[((i:Int)+(m:Int) * 1).toNat]?)=fun m=>xs[i+m]?:=by
  funext m
  have:((i:Int)+(m:Int) * 1).toNat=i+m:=Qo
  rw[this]
 rw[e]
 have:=pick_run xs i k
 rw[List.filterMap_map]at this
 have e2:((fun x=>xs[x]?) ∘ fun x=>i+x)=fun m=>xs[i+m]?:=rfl
 rw[e2]at this
 rw[this]
theorem getItem_tuple_cut {t sl:Addr}{items:Array Value}{vl vu:Value}{lo hi:Option Int}{Q:Qq}(ht:IsTup s.heap t items) (hs:s.heap.IsSliceOf sl vl vu .none) (pl:IsPart vl lo) (pu:IsPart vu hi)
 (hw:¬ (sIx items.size 0 lo=0/\sIx items.size items.size hi=items.size))
 (h:Q (.ref s.heap.objs.size) { s with heap:=s.heap.push { cls:=.type "tuple",data:=.seq ((items.toList.drop (sIx items.size 0 lo)).take (sIx items.size items.size hi-sIx items.size 0 lo)).toArray } })
 (hsz:items.size<=sizeLine):wpAny (model prog w) A (getItem (.ref t) (.ref sl)) Q E s:=by
 have htake:sizeOk (.seq ((items.toList.drop (sIx items.size 0 lo)).take (sIx items.size items.size hi-sIx items.size 0 lo)).toArray):=by
  show((items.toList.drop (sIx items.size 0 lo)).take (sIx items.size items.size hi-sIx items.size 0 lo)).toArray.size<=sizeLine
  rw[qA,qJ,qY,qL]
  omega
 have hj:sIx items.size items.size hi<=items.size:=yE _ _ (qd _) hi
 obtain⟨os,hos,hcs,hds⟩:=id hs
 have hTs:s.TypeIs (.ref sl) "slice":=⟨os,hos,hcs⟩
 unfold getItem
 try with_reducible refine wpAny_holding ?_
 first|refine q4 (qc ?_)|skip
 refine q4 (wpAny_sequenceKey ht.typeIs Qk ?_)
 refine q4 (wpAny_callSpecial?_slot (name:=Str.ofString "__getitem__") ht.typeIs PyProof.Rows.slot_tuple_getitem
  (wpAny_call_entry PyProof.Rows.slot_tuple_getitem ht.typeIs entry_tuple_getitem ?_ (args_tuple_getitem _ _)))
 show wpAny _ _ (Builtin.Tuple.tupleItemsOf (.ref t) >>= _) _ _ s
 refine q4 (tupleItemsOf_ ht ?_)
 refine q4 (wpAny_typeOf hTs ?_)
 rw[Q0 Qk]
 refine q4 (rK hs pl pu ?_)
 have hno:¬ ((((sIx items.size 0 lo:Nat):Int) == 0 && (1:Int) == 1 && (sIx items.size items.size hi-sIx items.size 0 lo) == items.size)=true):=by
  intro q
  rw[Bool.and_eq_true,Bool.and_eq_true]at q
  have q1:((sIx items.size 0 lo:Nat):Int)=0:=eq_of_beq q.1.1
  have q2:sIx items.size items.size hi-sIx items.size 0 lo=items.size:=eq_of_beq q.2
  exact hw ⟨Qo,Qo⟩
 show wpAny _ _ (if(((sIx items.size 0 lo:Nat):Int) == 0 && (1:Int) == 1 && (sIx items.size items.size hi-sIx items.size 0 lo) == items.size)=true then _ else _) _ _ s
 rw[qZ hno,zG]
 first
  |exact q4 (m:=Builtin.Tuple.tupleExact _) (wpAny_newObj_type (qc ⟨_,rfl,qc h⟩) htake)
  |exact q4 (m:=Builtin.Tuple.tupleExact _) (wpAny_newObj_type (q4 (qc (qc ⟨_,rfl,qc h⟩))) htake)
  |exact q4 (q4 (m:=Builtin.Tuple.tupleExact _) (wpAny_newObj_type (qc (qc ⟨_,rfl,qc h⟩)) htake))
  |exact q4 (q4 (m:=Builtin.Tuple.tupleExact _) (wpAny_newObj_type (qc ⟨_,rfl,qc h⟩) htake))
end
end HT
namespace L2
open PySem PySem.Spec PyProof.Rows
abbrev TO:=St->Hp->(Option Int->Hp->Prop)->Prop
def PO (X:Cx) (e:Option Expr) (t:TO):Prop:=
 ∀(pins:List (Addr×Obj)) (s:Shared) (σ:St) (H:Hp) (Q:Option Int->Hp->Prop),Inv X pins σ H s->t σ H Q->
  wpAny (model X.prog X.w) X.A (evalPart e X.env) (fun u s'=>∃o H',Inv X pins σ H' s'/\IsPart u o/\Q o H') X.xe s
def xh:TO:=fun _ H Q=>Q none H
def xa (t:TE):TO:=fun σ H Q=>t σ H fun x H1=>∃i,x=.int i/\Q (some i) H1
section
variable {X:Cx}{e:Expr}{te:TE}{lo hi:Option Expr}{tl th:TO}{pos p2:Pos}
theorem iu:PO X none xh:=by
 intro pins s σ H Q I h
 rw[evalPart_none]
 exact qc ⟨none,H,I,.none,h⟩
theorem fB (h:PE X e te):PO X (some e) (xa te):=by
 intro pins s σ H Q I hw
 rw[evalPart_some]
 refine thn (h pins s σ H _ I hw) fun u s1 ⟨x,H1,I1,r1,q1⟩=>?_
 obtain⟨i,rfl,q⟩:=q1
 obtain⟨t,rfl⟩:=r1
 exact⟨some i,H1,I1,.int i t,q⟩
def SlR (X:Cx) (r:V->Option Int->Option Int->Hp->VK->Prop):Prop:=
 ∀(pins:List (Addr×Obj)) (s:Shared) (σ:St) (H:Hp) (x:V) (v vl vu:Value) (lo hi:Option Int) (sl:Addr) (Q:VK),Inv X pins σ H s->av x v->s.heap.IsSliceOf sl vl vu .none->IsPart vl lo->IsPart vu hi->r x lo hi H Q->
  ∃T id,typeLookup (.type T) "__getitem__"=pure (some (.builtin id))/\s.TypeIs v T/\wpAny (model X.prog X.w) X.A (getItem v (.ref sl)) (EP X pins σ Q) X.xe s
def tSl (r:V->Option Int->Option Int->Hp->VK->Prop) (te:TE) (tl th:TO):TE:=fun σ H Q=>te σ H fun x H1=>tl σ H1 fun l H2=>th σ H2 fun u H3=>r x l u H3 Q
theorem gH {r:V->Option Int->Option Int->Hp->VK->Prop}(hr:SlR X r) (he:PE X e te) (hl:PO X lo tl) (hu:PO X hi th):PE X (.Subscript e (.Slice lo hi none p2) pos) (tSl r te tl th):=by
 intro pins s σ H Q I h
 refine Subscript_ (thn (he pins s σ H _ I h) fun v s1 ⟨x,H1,I1,r1,q1⟩=>?_)
 refine wpAny_Slice (thn (hl pins s1 σ H1 _ I1 q1) fun vl s2 ⟨l,H2,I2,pl,q2⟩=>thn (hu pins s2 σ H2 _ I2 q2) fun vu s3 ⟨u,H3,I3,pu,q3⟩=>?_)
 rw[evalPart_none]
 refine qc ?_
 have I4:Inv X pins σ H3 { s3 with heap:=s3.heap.push { cls:=.type "slice",data:=.fields #[vl,vu,.none] } }:=I3.kept (t':=s3.toks) fun b ob q=>q9 _ q
 obtain⟨T,id,hT,ht,hg⟩:=hr pins { s3 with heap:=s3.heap.push { cls:=.type "slice",data:=.fields #[vl,vu,.none] } } σ H3 x v vl vu l u s3.heap.objs.size Q I4 r1 (Heap.IsSliceOf.new ..) pl pu q3
 show wpAny (model X.prog X.w) X.A (subscriptTail e (.Slice lo hi none p2) v (.ref s3.heap.objs.size)) (EP X pins σ Q) X.xe { s3 with heap:=s3.heap.push { cls:=.type "slice",data:=.fields #[vl,vu,.none] } }
 exact tail_any (ops:=[.ref s3.heap.objs.size,v]) ht hT hg (by with_unfolding_all rfl)
def cA (xs:List V) (lo hi:Option Int):List V:=(xs.drop (HT.sIx xs.length 0 lo)).take (HT.sIx xs.length xs.length hi-HT.sIx xs.length 0 lo)
theorem vG (xs:List V) (lo hi:Option Int):(cA xs lo hi).length<=xs.length:=by
 unfold cA
 rw[qJ,qY]
 omega
def yQ (K:PySem.W.Frag):V->Option Int->Option Int->Hp->VK->Prop:=fun x lo hi H Q=>∃a xs,x=.ref a/\SqT K H a xs /\
 ¬ (HT.sIx xs.length 0 lo=0/\HT.sIx xs.length xs.length hi=xs.length)/\∀p,H p=none->Q (.ref p) (upd H p (.tup (cA xs lo hi)))
theorem rM:SlR X (yQ X.K):=by
 intro pins s σ H x v vl vu lo hi sl Q I rx hs pl pu h
 obtain⟨a,xs,rfl,hx,hw,q⟩:=h
 cases rx
 obtain⟨its,r,ht,hz⟩:=I.tuple hx
 have hlen:its.toArray.size=xs.length:=by rw[qA];exact r.length.symm
 refine⟨"tuple",_,PyProof.Rows.slot_tuple_getitem.lookup,ht.typeIs,?_⟩
 refine HT.getItem_tuple_cut ht hs pl pu (by rw[hlen];exact hw) ?_ (by rw[hlen];exact hz)
 rw[hlen]
 refine⟨.ref s.heap.objs.size,_,I.laid (t':=s.toks) (o:=.tup (cA xs lo hi)) (fun b ob q=>q9 _ q) (qd _) ?_,rfl,q _ (I.hok.fresh (qd _))⟩
 exact⟨qx (vG xs lo hi) hz,_,(r.drop (HT.sIx xs.length 0 lo)).take (HT.sIx xs.length xs.length hi-HT.sIx xs.length 0 lo),IsTup.new _ _⟩
def su (K:PySem.W.Frag):R2:=fun x y H Q=>∃a b xs ys,x=.ref a/\y=.ref b/\SqT K H a xs/\SqT K H b ys/\xs≠[]/\xs.length+ys.length<=sizeLine /\
 (ys=[]->Q (.ref a) H)/\(ys≠[]->∀p,H p=none->Q (.ref p) (upd H p (.tup (xs++ys))))
theorem au.nil_iff {xs:List V}{us:List Value}(r:au xs us):us=[]↔xs=[]:=by
 cases r with
 |nil=>simp
 |cons _ _=>simp
theorem iz:OpR X (binaryOp .Add) (su X.K):=by
 intro pins s σ H x y v u Q I rx ry h
 obtain⟨a,b,xs,ys,rfl,rfl,ha,hb,hx,hz,q1,q2⟩:=h
 cases rx
 cases ry
 obtain⟨its,r1,p1,_⟩:=I.tuple ha
 obtain⟨its2,r2,p2,_⟩:=I.tuple hb
 refine HT.cat_tup p1 p2 (fun z=>hx (r1.nil_iff.mp z)) (fun z=>⟨.ref a,H,I,rfl,q1 (r2.nil_iff.mp z)⟩) (fun z=>?_) (by rw[<- r1.length,<- r2.length];exact hz)
 refine⟨.ref s.heap.objs.size,_,I.laid (t':=s.toks) (o:=.tup (xs++ys)) (fun b ob q=>q9 _ q) (qd _) ?_,rfl,q2 (fun w=>z (r2.nil_iff.mpr w)) _ (I.hok.fresh (qd _))⟩
 exact⟨by rw[qa];exact hz,_,r1.append r2,IsTup.new _ _⟩
end
def ixN (n:Nat) (i:Int):Option Nat:=if 0<=i then(if i<n then some i.toNat else none)else if -(n:Int)<=i then some (i+n).toNat else none
def atI {α:Type}(xs:List α) (i:Int):Option α:=(ixN xs.length i).bind fun j=>xs[j]?
theorem um {n:Nat}{i:Int}{j:Nat}(h:ixN n i=some j):seqIndex? i n=some j/\j<n/\-(n:Int)<=i/\i<n:=by
 unfold ixN at h
 by_cases h0:0<=i
 ·rw[Q0 h0]at h
  by_cases h1:i<n
  ·rw[Q0 h1]at h
   have e:i.toNat=j:=qI h
   exact⟨by rw[seqIndex_of h0 h1,e],Qo,Qo,h1⟩
  ·rw[qZ h1]at h;cases h
 ·rw[qZ h0]at h
  by_cases h1:-(n:Int)<=i
  ·rw[Q0 h1]at h
   have e:(i+n).toNat=j:=qI h
   exact⟨by rw[seqIndex_neg Qo h1,e],Qo,h1,Qo⟩
  ·rw[qZ h1]at h;cases h
theorem oy {α:Type}{xs:List α}{i:Int}{v:α}(h:atI xs i=some v):∃j,seqIndex? i xs.length=some j/\xs[j]?=some v/\j<xs.length/\-(xs.length:Int)<=i/\i<xs.length:=by
 unfold atI at h
 cases e:ixN xs.length i with
 |none=>rw[e]at h;cases h
 |some j=>
  rw[e]at h
  obtain⟨h1,h2,h3,h4⟩:=um e
  exact⟨j,h1,h,h2,h3,h4⟩
theorem cO {α:Type}{xs:List α}{j:Nat}{v:α}(h:xs[j]?=some v):atI xs (j:Int)=some v:=by
 have hj:j<xs.length:=(qe.mp h).1
 have e:ixN xs.length (j:Int)=some j:=by
  unfold ixN
  rw[Q0 Qo,Q0 Qo];simp
 unfold atI;rw[e];exact h
def DE (b:Expr):Prop:=∀o i,subscripted b false o i=operate [o,i] (getItem o i)
def IxR (X:Cx) (r:R2):Prop:=
 ∀(value slice:Expr) (pins:List (Addr×Obj)) (s:Shared) (σ:St) (H:Hp) (x y:V) (v u:Value) (Q:VK),Inv X pins σ H s->av x v->av y u->r x y H Q->
  subscripted slice false v u=operate [v,u] (getItem v u)->wpAny (model X.prog X.w) X.A (subscriptTail value slice v u) (EP X pins σ Q) X.xe s
def MtR (X:Cx) (id:String) (r:V->List V->Hp->VK->Prop):Prop:=
 ∀(pins:List (Addr×Obj)) (s:Shared) (σ:St) (H:Hp) (x:V) (xs:List V) (v:Value) (us:List Value) (Q:VK),Inv X pins σ H s->av x v->au xs us->r x xs H Q->
  wpAny (model X.prog X.w) X.A (call (.builtin id) (v::us)) (EP X pins σ Q) X.xe s
section
variable {X:Cx}{a b:Expr}{ta tb:TE}{pos:Pos}
theorem ap {r:R2}(hr:IxR X r) (ha:PE X a ta) (hb:PE X b tb) (hs:DE b):PE X (.Subscript a b pos) (tOp r ta tb):=by
 intro pins s σ H Q I h
 exact Subscript_ (om ha hb I h fun v u s2 x y H2 I2 rx ry q=>hr a b pins s2 σ H2 x y v u Q I2 rx ry q (hs _ _))
def yZ (K:PySem.W.Frag):R2:=fun x y H Q=>∃p xs i v,x=.ref p/\y=.int i/\SqL K H p xs/\atI xs i=some v/\Q v H
def yX (K:PySem.W.Frag):R2:=fun x y H Q=>∃p xs i v,x=.ref p/\y=.int i/\SqT K H p xs/\atI xs i=some v/\Q v H
def yY:R2:=fun x y H Q=>∃z i c,x=.str z/\y=.int i/\z.length<=sizeLine/\atI z.cps.toList i=some c/\Q (.str ⟨#[c]⟩) H
theorem BM:IxR X (yZ X.K):=by
 intro value slice pins s σ H x y v u Q I rx ry h hs
 obtain⟨p,xs,i,z,rfl,rfl,hq,he,q⟩:=h
 cases rx
 obtain⟨t,rfl⟩:=ry
 obtain⟨its,r,pl,hz⟩:=I.list hq
 obtain⟨j,h1,h2,h3,h4,h5⟩:=oy he
 obtain⟨w,ew,rw'⟩:=r.get h2
 have hl:=r.length
 have hn:=gQ
 have fin:EP X pins σ Q w s:=⟨z,H,I,rw',q⟩
 by_cases h0:0<=i
 ·have hj:i.toNat=j:=by
   rw[seqIndex_of h0 h5]at h1
   exact qI h1
  exact item_listR pl.isList h0 Qo (by rw[hj];simpa using ew) fin hs
 ·have hj:(i+(its.toArray.size:Int)).toNat=j:=by
   rw[seqIndex_neg Qo h4]at h1
   rw[qA,<- hl]
   exact qI h1
  exact subscriptTail_builtinR (x:=w) pl.isList.typeIs slot_list_getitem.lookup
   (wpAny_getItem_list_neg (Q:=fun r s'=>r=w/\EP X pins σ Q r s') pl.isList Qo (by rw[qA]<;>omega) Qo (by rw[hj];simpa using ew) ⟨rfl,fin⟩) hs
theorem BL:IxR X (yX X.K):=by
 intro value slice pins s σ H x y v u Q I rx ry h hs
 obtain⟨p,xs,i,z,rfl,rfl,hq,he,q⟩:=h
 cases rx
 obtain⟨t,rfl⟩:=ry
 obtain⟨its,r,pl,hz⟩:=I.tuple hq
 obtain⟨j,h1,h2,h3,h4,h5⟩:=oy he
 obtain⟨w,ew,rw'⟩:=r.get h2
 have hl:=r.length
 have hn:=gQ
 have fin:EP X pins σ Q w s:=⟨z,H,I,rw',q⟩
 exact subscriptTail_builtinR (x:=w) pl.typeIs slot_tuple_getitem.lookup
  (getItem_tuple (j:=j) (Q:=fun r s'=>r=w/\EP X pins σ Q r s') pl Qo Qo (by rw[qA,<- hl];exact h1) (by simpa using ew) ⟨rfl,fin⟩) hs
theorem ui:IxR X yY:=by
 intro value slice pins s σ H x y v u Q I rx ry h hs
 obtain⟨z,i,c,rfl,rfl,hz,he,q⟩:=h
 obtain⟨t,rfl⟩:=rx
 obtain⟨t',rfl⟩:=ry
 obtain⟨j,h1,h2,h3,h4,h5⟩:=oy he
 have hl:z.cps.toList.length=z.length:=by simp[Str.length]
 rw[hl]at h1 h4 h5
 have hn:=gQ
 exact tail_any (typeIs_str s z t) slot_str_getitem.lookup (getItem_str (c:=c) (by
  have e1:decide (i < -(2 ^ 63:Int))=false:=decide_eq_false Qo
  have e2:decide (i >= 2 ^ 63)=false:=decide_eq_false Qo
  rw[e1,e2,Bool.or_false]) (by rw[h1];simpa using h2) ⟨.str ⟨#[c]⟩,H,I.tok _,⟨_,rfl⟩,q⟩) hs
theorem Bn (its:List Value) (n j:Nat) (u:Value):Obj.mapSeq (·.setIfInBounds j u) { cls:=.type "list",data:=.seq its.toArray n }={ cls:=.type "list",data:=.seq (its.set j u).toArray n }:=by
 simp[Obj.mapSeq]
theorem Inv.lst {pins:List (Addr×Obj)}{σ:St}{H:Hp}{s:Shared}{p:Addr}{xs:List V}(I:Inv X pins σ H s) (h:H p=some (.lst xs)):
 ∃(its:List Value) (n:Nat),au xs its/\s.heap.get? p=some { cls:=.type "list",data:=.seq its.toArray n }/\xs.length<=sizeLine:=by
 obtain⟨z,its,n,r,e⟩:=I.hok p _ h
 exact⟨its,n,r,e,z⟩
theorem Inv.lstUpd {pins:List (Addr×Obj)}{σ:St}{H:Hp}{s:Shared}{p:Addr}{xs ys:List V}{its its':List Value}{n n':Nat}{f:Obj->Obj}(I:Inv X pins σ H s) (h:H p=some (.lst xs))
 (ho:s.heap.get? p=some { cls:=.type "list",data:=.seq its.toArray n }) (hf:f { cls:=.type "list",data:=.seq its.toArray n }={ cls:=.type "list",data:=.seq its'.toArray n' }) (r:au ys its') (hz:ys.length<=sizeLine) (t:Nat):
 Inv X pins σ (upd H p (.lst ys)) { s with heap:=s.heap.update p f,toks:=t }:=by
 have e:(s.heap.update p f).get? p=some { cls:=.type "list",data:=.seq its'.toArray n' }:=by
  rw[Heap.get?_update_self f ho (by rw[hf]<;>rfl),hf]
 refine I.write (x:=p) (e:=p) (by rw[h];trivial) (.inl rfl) (fun b u hb q=>(Heap.get?_update_other _ _ (Ne.symm hb)).trans q) ⟨_,e⟩ ?_
 exact⟨hz,its',n',r,e⟩
def yT:V->V->V->Hp->(Hp->Prop)->Prop:=fun o i v H Q=>∃p xs k j,o=.ref p/\i=.int k/\H p=some (.lst xs)/\ixN xs.length k=some j/\Q (upd H p (.lst (xs.set j v)))
theorem kJ:wo X yT:=by
 intro pins s σ H o i v ov iv u Q I ro ri rv h
 obtain⟨p,xs,k,j,rfl,rfl,hp,hj,q⟩:=h
 cases ro
 obtain⟨t,rfl⟩:=ri
 obtain⟨its,n,r,ho,hz⟩:=I.lst hp
 obtain⟨h1,h2,h3,h4⟩:=um hj
 have hl:=r.length
 have hn:=gQ
 have I':Inv X pins σ (upd H p (.lst (xs.set j v))) { s with heap:=s.heap.update p (Obj.mapSeq (·.setIfInBounds j u)) }:=
  I.lstUpd hp ho (Bn its n j u) (r.set rv j) (by rw[List.length_set];exact hz) s.toks
 by_cases h0:0<=k
 ·have hk:k.toNat=j:=by
   rw[seqIndex_of h0 h4]at h1
   exact qI h1
  exact PySem.W.ki_setAt ho h0 Qo (by rw[qA,<- hl];exact h4) (by rw[hk];exact⟨_,I',q⟩)
 ·have hk:(k+(its.toArray.size:Int)).toNat=j:=by
   rw[seqIndex_neg Qo h3]at h1
   rw[qA,<- hl]
   exact qI h1
  exact PySem.W.ki_setBack ho Qo (by rw[qA,<- hl];exact h3) Qo (by rw[hk];exact⟨_,I',q⟩)
theorem xV (lo hi:Option Int) (n:Nat):(sliceBounds lo hi none n).1=((HT.sIx n 0 lo:Nat):Int)/\(sliceBounds lo hi none n).2.1=((HT.sIx n n hi:Nat):Int)/\(sliceBounds lo hi none n).2.2=1:=by
 refine⟨?_,?_,rfl⟩
 ·cases lo with
  |none=>simp[sliceBounds,HT.sIx]
  |some i=>
   simp only[sliceBounds,HT.sIx,Option.getD_none,show(1:Int) > 0 by decide,if_true]
   by_cases h:i<0
   ·simp only[h,if_true]<;>omega
   ·simp only[h,if_false]<;>omega
 ·cases hi with
  |none=>simp[sliceBounds,HT.sIx]
  |some i=>
   simp only[sliceBounds,HT.sIx,Option.getD_none,show(1:Int) > 0 by decide,if_true]
   by_cases h:i<0
   ·simp only[h,if_true]<;>omega
   ·simp only[h,if_false]<;>omega
theorem xW (its:List Value) (lo hi:Option Int):slicePick its.toArray lo hi none=((its.drop (HT.sIx its.length 0 lo)).take (HT.sIx its.length its.length hi-HT.sIx its.length 0 lo)).toArray:=by
 obtain⟨h1,h2,h3⟩:=xV lo hi its.toArray.size
 unfold slicePick
 rw[h1,h2,h3]
 simp only[sliceRange_one,pick_run,qA]<;>rfl
def yS (K:PySem.W.Frag):V->Option Int->Option Int->Hp->VK->Prop:=fun x lo hi H Q=>∃a xs,x=.ref a/\SqL K H a xs/\∀p,H p=none->Q (.ref p) (upd H p (.lst (cA xs lo hi)))
theorem rN:SlR X (yS X.K):=by
 intro pins s σ H x v vl vu lo hi sl Q I rx hs pl pu h
 obtain⟨a,xs,rfl,hx,q⟩:=h
 cases rx
 obtain⟨its,r,ht,hz⟩:=I.list hx
 have hlen:=r.length
 refine⟨"list",_,slot_list_getitem.lookup,ht.isList.typeIs,?_⟩
 refine wpAny_getItem_list_slice ht.isList hs pl pu .none (by simp) ?_ (by rw[qA]<;>omega)
 rw[xW,<- hlen]
 refine⟨.ref s.heap.objs.size,_,I.laid (t':=s.toks) (o:=.lst (cA xs lo hi)) (fun b ob q=>q9 _ q) (qd _) ?_,rfl,q _ (I.hok.fresh (qd _))⟩
 exact⟨qx (vG xs lo hi) hz,_,0,(r.drop (HT.sIx xs.length 0 lo)).take (HT.sIx xs.length xs.length hi-HT.sIx xs.length 0 lo),qo _ rfl⟩
def dS:V->Bool
 |.non=>true
 |.bl _=>true
 |.int _=>true
 |.str _=>true
 |_=>false
def eqV:V->V->Bool
 |.non,.non=>true
 |.bl a,.bl b=>a == b
 |.bl a,.int b=>(if a then 1 else 0) == b
 |.int a,.bl b=>a == (if b then 1 else 0)
 |.int a,.int b=>a == b
 |.str a,.str b=>a == b
 |_,_=>false
theorem CD {A:Around}{s:Shared}{y x:V}{u v:Value}(ry:av y u) (rx:av x v) (fy:dS y=true) (fx:dS x=true):SeqAt.EqAt A s u v (eqV y x):=by
 cases y with
 |non=>
  cases ry
  cases x with
  |non=>cases rx;exact SeqAt.EqAt.same _
  |bl b=>cases rx;exact SeqAt.EqAt.none_bool b
  |int b=>obtain⟨t,rfl⟩:=rx;exact SeqAt.EqAt.none_int b t
  |str b=>obtain⟨t,rfl⟩:=rx;exact SeqAt.EqAt.none_str b t
  |_=>exact absurd (show false=true from fx) qh
 |bl a=>
  cases ry
  cases x with
  |non=>cases rx;exact SeqAt.EqAt.bool_none a
  |bl b=>cases rx;exact SeqAt.EqAt.bool_bool a b
  |int b=>obtain⟨t,rfl⟩:=rx;exact SeqAt.EqAt.bool_int a b t
  |str b=>obtain⟨t,rfl⟩:=rx;exact SeqAt.EqAt.bool_str a b t
  |_=>exact absurd (show false=true from fx) qh
 |int a=>
  obtain⟨t',rfl⟩:=ry
  cases x with
  |non=>cases rx;exact SeqAt.EqAt.int_none a t'
  |bl b=>cases rx;exact SeqAt.EqAt.int_bool a t' b
  |int b=>obtain⟨t,rfl⟩:=rx;exact SeqAt.EqAt.int_int a t' b t
  |str b=>obtain⟨t,rfl⟩:=rx;exact SeqAt.EqAt.int_str a t' b t
  |_=>exact absurd (show false=true from fx) qh
 |str a=>
  obtain⟨t',rfl⟩:=ry
  cases x with
  |non=>cases rx;exact SeqAt.EqAt.str_none a t'
  |bl b=>cases rx;exact SeqAt.EqAt.str_bool a t' b
  |int b=>obtain⟨t,rfl⟩:=rx;exact SeqAt.EqAt.str_int a t' b t
  |str b=>obtain⟨t,rfl⟩:=rx;exact SeqAt.EqAt.str_str a t' b t
  |_=>exact absurd (show false=true from fx) qh
 |_=>exact absurd (show false=true from fy) qh
def eqU (x:V) (u:Value):Bool:=match u with
 |.none=>eqV .non x
 |.bool b=>eqV (.bl b) x
 |.int i _=>eqV (.int i) x
 |.str z _=>eqV (.str z) x
 |_=>false
theorem vj {x y:V}{u:Value}(r:av y u) (f:dS y=true):eqU x u=eqV y x:=by
 cases y with
 |non=>cases r;rfl
 |bl b=>cases r;rfl
 |int i=>obtain⟨t,rfl⟩:=r;rfl
 |str z=>obtain⟨t,rfl⟩:=r;rfl
 |_=>exact absurd (show false=true from f) qh
theorem oB {x:V}:∀{xs:List V}{us:List Value},au xs us->xs.all dS=true->us.any (eqU x)=xs.any fun y=>eqV y x
 |_,_,.nil,_=>rfl
 |y::xs,u::us,.cons r t,f=>by
  rw[List.all_cons,Bool.and_eq_true]at f
  rw[List.any_cons,List.any_cons,vj r f.1,oB t f.2]
theorem nh {A:Around}{s:Shared}{x:V}{v:Value}(rx:av x v) (fx:dS x=true):∀{xs:List V}{us:List Value},au xs us->xs.all dS=true->∀u∈us,SeqAt.EqAt A s u v (eqU x u)
 |_,_,.nil,_=>fun u hu=>by cases hu
 |y::xs,u::us,.cons r t,f=>fun u' hu=>by
  rw[List.all_cons,Bool.and_eq_true]at f
  rcases qt.mp hu with rfl|hu
  ·rw[vj r f.1];exact CD r rx f.1 fx
  ·exact nh rx fx t f.2 u' hu
def inV (x:V) (xs:List V):Bool:=xs.any fun y=>eqV y x
def rIn (K:PySem.W.Frag) (neg:Bool):R2:=fun x y H Q=>∃p xs,y=.ref p/\(SqL K H p xs\/SqT K H p xs)/\dS x=true/\xs.all dS=true/\Q (.bl (if neg then !inV x xs else inV x xs)) H
theorem fE:OpR X (compareOp .In) (rIn X.K false):=by
 intro pins s σ H x y v u Q I rx ry h
 obtain⟨p,xs,rfl,hq,fx,fs,q⟩:=h
 cases ry
 rcases hq with hq|hq
 ·obtain⟨its,r,pl,hz⟩:=I.list hq
  refine SeqAt.in_listAt (eqU x) pl.isList (fun w hw=>nh rx fx r fs w (by simpa using hw)) ⟨.bl _,H,I,rfl,?_⟩
  rw[show its.toArray.any (eqU x)=its.any (eqU x)by simp,oB r fs]
  exact q
 ·obtain⟨its,r,pl,hz⟩:=I.tuple hq
  refine SeqAt.in_tupleAt (eqU x) pl (fun w hw=>nh rx fx r fs w (by simpa using hw)) ⟨.bl _,H,I,rfl,?_⟩
  rw[show its.toArray.any (eqU x)=its.any (eqU x)by simp,oB r fs]
  exact q
theorem Dh:bT X (.builtin "len") (fun xs H Q=>∃p ys,xs=[.ref p]/\(SqL X.K H p ys\/SqT X.K H p ys)/\Q (.int ys.length) H):=by
 intro pins s σ H xs us Q I r h
 obtain⟨p,ys,rfl,hq,q⟩:=h
 obtain⟨u,rfl,rx⟩:=dw r
 cases rx
 have hn:=gQ
 rcases hq with hq|hq
 ·obtain⟨its,r',pl,hz⟩:=I.list hq
  have hlen:=r'.length
  exact Calls.call_len_list pl.isList (by simp only[qA]<;>omega) ⟨.int ys.length,H,I.tok _,⟨s.toks+1,by rw[qA,hlen]⟩,q⟩
 ·obtain⟨its,r',pl,hz⟩:=I.tuple hq
  have hlen:=r'.length
  exact len_tuple pl (by simp only[qA]<;>omega) ⟨.int ys.length,H,I.tok _,⟨s.toks+1,by rw[qA,hlen]⟩,q⟩
theorem Dg:bT X (.type "list") (fun xs H Q=>∃p ys,xs=[.ref p]/\(SqL X.K H p ys\/SqT X.K H p ys)/\∀l,H l=none->Q (.ref l) (upd H l (.lst ys))):=by
 intro pins s σ H xs us Q I r h
 obtain⟨p,ys,rfl,hq,q⟩:=h
 obtain⟨u,rfl,rx⟩:=dw r
 cases rx
 have fin:∀(its:List Value),au ys its->ys.length<=sizeLine->∀(h':Heap) (c':Nat),(∀b o',s.heap.get? b=some o'->h'.get? b=some o')->
  h'.get? s.heap.objs.size=some { cls:=.type "list",dict:=none,data:=.seq its.toArray c',slots:=#[] }->EP X pins σ Q (.ref s.heap.objs.size) { s with heap:=h' }:=fun its r' hz h' c' kp e=>
  ⟨.ref s.heap.objs.size,_,I.laid (t':=s.toks) kp (qd _) (show bq X.prog X.w _ h' _ (.lst ys)from⟨hz,its,c',r',e⟩),rfl,q _ (I.hok.fresh (qd _))⟩
 rcases hq with hq|hq
 ·obtain⟨its,r',pl,hz⟩:=I.list hq
  have hlen:=r'.length
  obtain⟨o,ho,hc,n,hd⟩:=pl.isList
  exact call_list_seq p (.inl rfl) ho hc hd (fun h' c' kp e=>fin its r' hz h' c' kp e) (by simp only[qA]<;>omega)
 ·obtain⟨its,r',pl,hz⟩:=I.tuple hq
  have hlen:=r'.length
  obtain⟨o,ho,hc,n,hd⟩:=pl
  exact call_list_seq p (.inr rfl) ho hc hd (fun h' c' kp e=>fin its r' hz h' c' kp e) (by simp only[qA]<;>omega)
theorem oh:bT X (.type "tuple") (fun xs H Q=>∃p ys,xs=[.ref p]/\((SqL X.K H p ys/\∀l,H l=none->Q (.ref l) (upd H l (.tup ys)))\/(SqT X.K H p ys/\Q (.ref p) H))):=by
 intro pins s σ H xs us Q I r h
 obtain⟨p,ys,rfl,h⟩:=h
 obtain⟨u,rfl,rx⟩:=dw r
 cases rx
 rcases h with⟨hq,q⟩|⟨hq,q⟩
 ·obtain⟨its,r',pl,hz⟩:=I.list hq
  have hlen:=r'.length
  refine call_tuple_list pl.isList (fun h' kp=>?_) (by simp only[qA]<;>omega)
  have I1:Inv X pins σ H { s with heap:=h' }:=I.kept (t':=s.toks) kp
  have I2:Inv X pins σ (upd H h'.objs.size (.tup ys)) { s with heap:=h'.push { cls:=.type "tuple",data:=.seq its.toArray } }:=
   I1.laid (t':=s.toks) (fun b o e=>q9 _ e) (qd _) (show bq X.prog X.w _ _ _ (.tup ys)from⟨hz,its,r',IsTup.new _ _⟩)
  exact⟨.ref h'.objs.size,_,I2,rfl,q _ (I1.hok.fresh (qd _))⟩
 ·obtain⟨its,r',pl,hz⟩:=I.tuple hq
  exact call_tuple_same pl ⟨.ref p,H,I,rfl,q⟩
def tyV (K:PySem.W.Frag) (T:String) (x:V) (H:Hp):Prop:=match x with
 |.str _=>T="str"
 |.int _=>T="int"
 |.ref p=>(T="list"/\∃xs,SqL K H p xs)\/(T="tuple"/\∃o,K.lookup p=some o/\o.cls=.type "tuple"/\o.dict=none) \/
  (T="dict"/\((∃kvs,H p=some (.dK kvs))\/∃kvs,H p=some (.dT kvs)))\/(T="set"/\∃S n,H p=some (.set S n))
 |_=>False
theorem oS {pins:List (Addr×Obj)}{σ:St}{H:Hp}{s:Shared}{T:String}{x:V}{v:Value}(I:Inv X pins σ H s) (r:av x v) (ty:tyV X.K T x H):
 s.TypeIs v T/\∀a,v=.ref a->∃ob,s.heap.get? a=some ob/\ob.dict=none:=by
 cases x with
 |str z=>
  obtain⟨t,rfl⟩:=r
  cases(show T="str" from ty)
  exact⟨typeIs_str s z t,fun _ e=>nomatch e⟩
 |int i=>
  obtain⟨t,rfl⟩:=r
  cases(show T="int" from ty)
  exact⟨typeIs_int s i t,fun _ e=>nomatch e⟩
 |ref p=>
  cases r
  rcases ty with⟨rfl,xs,hq⟩|⟨rfl,o,hk,hc,hd⟩|⟨rfl,hk⟩|⟨rfl,S,n,hk⟩
  ·obtain⟨its,_,pl,_⟩:=I.list hq
   refine⟨pl.isList.typeIs,fun a e=>?_⟩
   cases e
   obtain⟨o,n,e,c,hd,_⟩:=pl
   exact⟨o,e,hd⟩
  ·refine⟨⟨o,I.kIn p o hk,hc⟩,fun a e=>?_⟩
   cases e
   exact⟨o,I.kIn _ o hk,hd⟩
  ·have z:∃o,s.heap.get? p=some o/\o.ExactDict:=by
    rcases hk with⟨kvs,hk⟩|⟨kvs,hk⟩
    ·obtain⟨_,_,_,_,o,_,_,e,ex,_⟩:=I.hok p _ hk
     exact⟨o,e,ex⟩
    ·obtain⟨_,_,_,_,o,_,_,e,ex,_⟩:=I.hok p _ hk
     exact⟨o,e,ex⟩
   obtain⟨o,e,ex⟩:=z
   refine⟨⟨o,e,ex.1⟩,fun a e2=>?_⟩
   cases e2
   exact⟨o,e,ex.2.1⟩
  ·obtain⟨o,_,_,_,e,ex,_⟩:=I.hok p _ hk
   refine⟨⟨o,e,ex.1⟩,fun a e2=>?_⟩
   cases e2
   exact⟨o,e,ex.2.1⟩
 |_=>exact False.elim ty
def xE (K:PySem.W.Frag) (T:String) (r:V->List V->Hp->VK->Prop) (to:TE):TE:=fun σ H Q=>to σ H fun x H1=>tyV K T x H1/\r x [] H1 Q
def tBM (K:PySem.W.Frag) (T:String) (r:V->List V->Hp->VK->Prop) (to:TE) (t:TA):TE:=fun σ H Q=>to σ H fun x H1=>tyV K T x H1/\t σ H1 fun xs H2=>r x xs H2 Q
variable {o e:Expr}{es:List Expr}{to:TE}{t:TA}{name:Str}{apos cpos:Pos}{T id:String}{r:V->List V->Hp->VK->Prop}
theorem mI (pa:PlainAttrs T) (slot:Slot T name id) (hty:typeOf (.builtin id)=pure (.type "method_descriptor")) (hm:MtR X id r) (ho:PE X o to)
 (hbase:attributeBase o name X.env (eval o X.env)=eval o X.env:=by rfl) (hline:(apos.endLine == cpos.line)=true:=by rfl):PE X (.Call (.Attribute o name apos) [] [] cpos) (xE X.K T r to):=by
 intro pins s σ H Q I h
 refine wpAny_Call_method0_late hbase hline (thn (ho pins s σ H _ I h) fun v s1 ⟨x,H1,I1,r1,ty,q1⟩=>?_)
 obtain⟨h1,h2⟩:=oS I1 r1 ty
 exact⟨T,id,pa,slot,hty,h1,h2,Calls.callWith_builtin rfl (PySem.evalArgs_none (hm pins s1 σ H1 x [] v [] Q I1 r1 .nil q1))⟩
theorem zT (pa:PlainAttrs T) (slot:Slot T name id) (hty:typeOf (.builtin id)=pure (.type "method_descriptor")) (hm:MtR X id r) (ho:PE X o to) (ha:PA X (e::es) t)
 (hbase:attributeBase o name X.env (eval o X.env)=eval o X.env:=by rfl)
 (hfew:((backTo cpos (starEach (e::es) X.env)).all (fun x=>!x.1) && (backToKw cpos (keywordEach [] X.env)).all (fun x=>x.1.isSome)
  && decide ((e::es).length+([]:List Keyword).length+(if([]:List Keyword).isEmpty then 0 else 1)<30))=true:=by rfl)
 (hline:(apos.endLine == cpos.line)=true:=by rfl) (hs:starEach (e::es) X.env=(false,eval e X.env)::starEach es X.env:=by rfl) (hplain:(backTo cpos (starEach es X.env)).any (·.1)=false:=by rfl):
 PE X (.Call (.Attribute o name apos) (e::es) [] cpos) (tBM X.K T r to t):=by
 intro pins s σ H Q I h
 refine wpAny_Call_method_late hbase hfew hline rfl (thn (ho pins s σ H _ I h) fun v s1 ⟨x,H1,I1,r1,ty,q1⟩=>?_)
 obtain⟨h1,h2⟩:=oS I1 r1 ty
 refine⟨T,id,pa,slot,hty,h1,h2,?_⟩
 have hA:=ha cpos pins s1 σ H1 _ I1 q1
 rw[hs]at hA ⊢
 refine Calls.callWith_builtin (by show(false || (backTo cpos (starEach es X.env)).any (·.1))=false;rw[hplain]<;>rfl) (Calls.evalArgs_plain ?_)
 exact thn hA fun us s2 ⟨vs,H2,I2,r2,q2⟩=>hm pins s2 σ H2 x vs v us Q I2 r1 r2 q2
end
def MtM (X:Cx) (id:String) (r:V->List V->Hp->VK->Prop):Prop:=
 ∀(pins:List (Addr×Obj)) (s:Shared) (σ:St) (H:Hp) (x:V) (xs:List V) (v:Value) (us:List Value) (Q:VK),Inv X pins σ H s->av x v->au xs us->r x xs H Q->
  wpAny (model X.prog X.w) X.A (call (.builtin id) (v::us)) (EP X pins σ Q) X.xe s
theorem au.one:∀{x:V}{us:List Value},au [x] us->∃u,us=[u]/\av x u
 |_,_,.cons r .nil=>⟨_,rfl,r⟩
theorem au.zero:∀{us:List Value},au [] us->us=[]
 |_,.nil=>rfl
theorem au.dropLast {xs:List V}{us:List Value}(h:au xs us):au xs.dropLast us.dropLast:=by
 induction h with
 |nil=>exact .nil
 |cons r t ih=>
  cases t with
  |nil=>exact .nil
  |cons q t'=>exact .cons r ih
theorem au.rep {xs:List V}{us:List Value}(h:au xs us):∀k:Nat,au (List.replicate k xs).flatten (List.replicate k us).flatten
 |0=>.nil
 |k+1=>by
  rw[List.replicate_succ,List.replicate_succ,List.flatten_cons,List.flatten_cons]
  exact au.append h (au.rep h k)
theorem CC {α:Type}(l:List α):l.eraseIdx (l.length-1)=l.dropLast:=by
 induction l with
 |nil=>rfl
 |cons a r ih=>
  cases r with
  |nil=>rfl
  |cons b r=>
   have e:(a::b::r).length-1=((b::r).length-1)+1:=by
    have h1:(a::b::r).length=r.length+2:=rfl
    have h2:(b::r).length=r.length+1:=rfl
    omega
   rw[e,List.eraseIdx_cons_succ,ih]
   all_goals rfl
theorem uP (its:List Value):∀(k:Nat) (acc:List Value),
 List.foldl (fun x1 x2=>x1++x2) acc.toArray (List.replicate k its.toArray)=(acc++(List.replicate k its).flatten).toArray
 |0,acc=>by simp
 |k+1,acc=>by
  have e:acc.toArray++its.toArray=(acc++its).toArray:=by simp
  have e2:(acc++its)++(List.replicate k its).flatten=acc++(List.replicate (k+1) its).flatten:=by
   rw[List.replicate_succ,List.flatten_cons,qM]
  rw[<- e2,<- uP its k (acc++its),<- e,List.replicate_succ,List.foldl_cons]
section
variable {X:Cx}{pins:List (Addr×Obj)}{σ:St}{H:Hp}{s:Shared}{l b:Addr}{xs ys zs:List V}
theorem Inv.lset {its its':List Value}{n:Nat}{f:Array Value->Array Value}{t':Nat}(I:Inv X pins σ H s) (hH:H l=some (.lst xs))
 (e:s.heap.get? l=some { cls:=.type "list",data:=.seq its.toArray n }) (hf:f its.toArray=its'.toArray) (hv:au ys its') (hz:ys.length<=sizeLine):
 Inv X pins σ (upd H l (.lst ys)) { s with heap:=s.heap.update l (Obj.mapSeq f),toks:=t' }:=by
 have q:=PySem.IsL.update e f
 rw[hf]at q
 refine I.write (x:=l) (e:=l) (by rw[hH];exact trivial) (.inl rfl) (fun b' u hb hu=>(Heap.get?_update_other s.heap (Obj.mapSeq f) (Ne.symm hb)).trans hu) ⟨_,q⟩ ?_
 exact⟨hz,its',_,hv,q⟩
theorem Inv.lnew {its:List Value}{t':Nat}(I:Inv X pins σ H s) (hv:au ys its) (hz:ys.length<=sizeLine):
 Inv X pins σ (upd H s.heap.objs.size (.lst ys)) { s with heap:=s.heap.push { cls:=.type "list",data:=.seq its.toArray },toks:=t' }:=
 I.laid (fun _ _ q=>q9 _ q) (qd _) ⟨hz,its,0,hv,qo _ rfl⟩
theorem Inv.fresh (I:Inv X pins σ H s):H s.heap.objs.size=none:=I.hok.fresh (qd _)
theorem Inv.lstM (I:Inv X pins σ H s) (hH:H l=some (.lst xs)):xs.length<=sizeLine/\∃(its:List Value) (n:Nat),au xs its/\xs.length=its.length/\s.heap.get? l=some { cls:=.type "list",data:=.seq its.toArray n }:=by
 obtain⟨z,its,n,r,e⟩:=I.hok l _ hH
 exact⟨z,its,n,r,r.length,e⟩
theorem tP {n:Nat}(h:n<=sizeLine):Builtin.List.listTooLong n=false:=by
 unfold Builtin.List.listTooLong
 exact decide_eq_false Qo
end
section
variable {X:Cx}
def zd:V->List V->Hp->VK->Prop:=fun x vs H Q=>∃l xs y,x=.ref l/\vs=[y]/\H l=some (.lst xs)/\xs.length<sizeLine/\Q .non (upd H l (.lst (xs++[y])))
theorem Bh:MtM X "list.append" zd:=by
 intro pins s σ H x vs v us Q I rx rv h
 obtain⟨l,xs,y,rfl,rfl,hH,hz,q⟩:=h
 cases rx
 obtain⟨u,rfl,ru⟩:=rv.one
 obtain⟨z,its,n,r,hl,e⟩:=I.lstM hH
 refine call_meets F.slot_list_append ⟨_,e,rfl⟩ F.entry_list_append (F.args_list_append_2 _ _) (PySem.list_append l its.toArray n u (by rw[qA];omega)) ⟨e,?_⟩
 refine⟨.non,_,I.lset (its':=its++[u]) hH e (by simp) (r.append (.cons ru .nil)) ?_,rfl,q⟩
 rw[qa,List.length_singleton]
 omega
def z9:V->List V->Hp->VK->Prop:=fun x vs H Q=>∃l b xs zs,x=.ref l/\vs=[.ref b]/\H l=some (.lst xs)/\H b=some (.lst zs)/\xs.length+zs.length<=sizeLine/\Q .non (upd H l (.lst (xs++zs)))
theorem iD:MtM X "list.extend" z9:=by
 intro pins s σ H x vs v us Q I rx rv h
 obtain⟨l,b,xs,zs,rfl,rfl,hH,hB,hz,q⟩:=h
 cases rx
 obtain⟨u,rfl,ru⟩:=rv.one
 cases ru
 obtain⟨z,its,n,r,hl,e⟩:=I.lstM hH
 obtain⟨z2,its2,n2,r2,hl2,e2⟩:=I.lstM hB
 have hsz:its.toArray.size+its2.toArray.size<=sizeLine:=by rw[qA,qA];omega
 have hlong:¬ (!its.toArray.isEmpty && Builtin.List.listTooLong (its.toArray.size+its2.toArray.size))=true:=by
  rw[tP hsz,Bool.and_false]
  exact qh
 refine call_meets F.slot_list_extend ⟨_,e,rfl⟩ F.entry_list_extend (F.args_list_extend_2 _ _)
  (AutoSeq1.list_extend_list_list_0 l its.toArray n b its2.toArray n2 hlong (by rw[qA];omega) Qo) ⟨e,e2,?_⟩
 refine⟨.non,_,I.lset (its':=its++its2) hH e (by simp) (r.append r2) ?_,rfl,q⟩
 rw[qa]
 omega
def yV:V->List V->Hp->VK->Prop:=fun x vs H Q=>∃l xs y,x=.ref l/\vs=[]/\H l=some (.lst xs)/\xs[xs.length-1]?=some y/\Q y (upd H l (.lst xs.dropLast))
theorem mY:MtM X "list.pop" yV:=by
 intro pins s σ H x vs v us Q I rx rv h
 obtain⟨l,xs,y,rfl,rfl,hH,hy,q⟩:=h
 cases rx
 have hus:=rv.zero
 subst hus
 obtain⟨z,its,n,r,hl,e⟩:=I.lstM hH
 obtain⟨u,hu,ru⟩:=r.get hy
 have hy':its.toArray[its.toArray.size-1]?=some u:=by
  show its.toArray[its.length-1]?=some u
  rw[<- qT,<- hl]
  exact hu
 refine call_meets F.slot_list_pop ⟨_,e,rfl⟩ F.entry_list_pop (F.args_list_pop_1 _) (MeetsSeq.list_pop_last l its.toArray n u hy' (by rw[qA];omega)) ⟨e,?_⟩
 refine⟨y,_,I.lset (its':=its.dropLast) hH e ?_ r.dropLast ?_,ru,q⟩
 ·show its.toArray.eraseIdxIfInBounds (its.toArray.size-1)=its.dropLast.toArray
  rw[qA,List.eraseIdxIfInBounds_toArray,CC]
 ·rw[List.length_dropLast]
  omega
def yU:R2:=fun x y H Q=>∃l k xs,x=.ref l/\y=.int k/\H l=some (.lst xs)/\-(2 ^ 63)<=k/\k<2 ^ 63/\xs.length * k.toNat<=sizeLine /\
 ∀p,H p=none->Q (.ref p) (upd H p (.lst (List.replicate k.toNat xs).flatten))
theorem By {α:Type}(xs:List α) (k:Nat):(List.replicate k xs).flatten.length=k * xs.length:=by
 induction k with
 |zero=>simp
 |succ k ih=>rw[List.replicate_succ,List.flatten_cons,qa,ih,Nat.succ_mul,Nat.add_comm]
theorem zZ:OpR X (binaryOp .Mult) yU:=by
 intro pins s σ H x y v u Q I rx ry h
 obtain⟨l,k,xs,rfl,rfl,hH,h1,h2,hz,q⟩:=h
 cases rx
 obtain⟨t,rfl⟩:=ry
 obtain⟨z,its,n,r,hl,e⟩:=I.lstM hH
 have hlen:its.toArray.size * k.toNat<=sizeLine:=by rw[qA,<- hl];exact hz
 have hcap:¬ its.toArray.size * k.toNat > (2 ^ 63-1) / 8:=by
  have:(sizeLine:Nat)<=(2 ^ 63-1) / 8:=Qk
  omega
 have hfit:¬ (!Builtin.List.listFitsIndex k)=true:=by
  rw[fitsIndex_both h1 h2]
  exact qh
 have hlong:¬ Builtin.List.listTooLong (its.toArray.size * k.toNat)=true:=by
  rw[tP hlen]
  exact qh
 have hnew:List.foldl (fun x1 x2=>x1++x2) #[] (List.replicate (if its.toArray.isEmpty=true then 0 else k.toNat) its.toArray)=(List.replicate k.toNat its).flatten.toArray:=by
  have f0:∀m:Nat,List.foldl (fun x1 x2=>x1++x2) #[] (List.replicate m its.toArray)=(List.replicate m its).flatten.toArray:=fun m=>by
   have:=uP its m []
   rw[List.nil_append]at this
   exact this
  rw[f0]
  cases its with
  |nil=>simp
  |cons a r'=>rw[qZ (by simp)]
 refine wpAny_binaryOp_repeat_ref (T:="list") (U:="int") Qk ⟨_,e,rfl⟩ (fun s'=>typeIs_int s' k t) noFill_list_mul F.fills_int_mul F.slot_int_rmul repeat_list F.slot_int_index.lookup
  (call_meets F.slot_int_rmul (typeIs_int s k t) F.entry_int_rmul (F.args_int_rmul_2 _ _) (int___rmul___int_list k t l its.toArray n)
   ⟨e,rfl,⟨_,e,rfl⟩,call_meets F.slot_list_mul ⟨_,e,rfl⟩ F.entry_list_mul (F.args_list_mul_2 _ _) (AutoListH.list___mul___list_int_3 l its.toArray n k t hfit hcap hlong) ⟨e,?_⟩⟩)
 rw[hnew]
 exact⟨.ref _,_,I.lnew (t':=s.toks) (r.rep k.toNat) (by rw[By,Nat.mul_comm];exact hz),rfl,q _ I.fresh⟩
end
section
variable {prog:Program}{w:World}{A:Around}{E:Qq}{s:Shared}
set_option maxRecDepth 100000 in
end
section
variable {X:Cx}
end
section
variable {κ:Type} [DecidableEq κ]
def bA (kvs:List (κ×V)) (k:κ):Option V:=(kvs.find? fun kv=>decide (kv.1=k)).map (·.2)
def be (kvs:List (κ×V)) (k:κ) (v:V):List (κ×V):=
 if(kvs.any fun kv=>decide (kv.1=k))=true then kvs.map (fun kv=>if kv.1=k then(kv.1,v)else kv)else kvs++[(k,v)]
theorem fi {p:κ×V}{r:List (κ×V)}{k:κ}(e:p.1=k):bA (p::r) k=some p.2:=by simp[bA,List.find?_cons,e]
theorem dI {p:κ×V}{r:List (κ×V)}{k:κ}(e:¬ p.1=k):bA (p::r) k=bA r k:=by simp[bA,List.find?_cons,e]
theorem iY (k:κ):∀kvs:List (κ×V),(kvs.any fun kv=>decide (kv.1=k))=(bA kvs k).isSome
 |[]=>rfl
 |p::r=>by
  rw[List.any_cons]
  by_cases e:p.1=k
  ·simp only[fi e,decide_eq_true e,Bool.true_or,Option.isSome_some]
  ·rw[dI e,decide_eq_false e,Bool.false_or];exact iY k r
theorem jN (kvs:List (κ×V)) (k:κ) (v:V):(be kvs k v).length<=kvs.length+1:=by
 unfold be
 split
 ·rw[q5];omega
 ·rw[qa,qz,List.length_nil];omega
theorem mB {kvs:List (κ×V)}{k:κ}(v:V) (h:bA kvs k=none):be kvs k v=kvs++[(k,v)]:=by
 unfold be
 rw[iY,h]
 exact qZ Qk
theorem c4.isSome_eq {o:Option V}{u:Option Value}(r:c4 o u):o.isSome=u.isSome:=by
 cases o with
 |none=>cases u with
  |none=>rfl
  |some _=>exact(show False from r).elim
 |some _=>cases u with
  |none=>exact(show False from r).elim
  |some _=>rfl
theorem c4.getD {o:Option V}{u:Option Value}{d:V}{d':Value}(r:c4 o u) (rd:av d d'):av (o.getD d) (u.getD d'):=by
 cases o with
 |none=>cases u with
  |none=>exact rd
  |some _=>exact(show False from r).elim
 |some _=>cases u with
  |none=>exact(show False from r).elim
  |some _=>exact r
theorem KV.val {kvs:List (κ×V)}{vs:List (κ×Value)}(r:KV kvs vs) (k:κ):c4 (bA kvs k) (valueAt vs k):=by
 unfold KV at r
 induction r with
 |nil=>exact True.intro
 |@cons p q ps qs h t ih=>
  obtain⟨h1,h2⟩:=h
  by_cases e:p.1=k
  ·have e':q.1=k:=h1.symm.trans e
   have b:valueAt (q::qs) k=some q.2:=by simp[valueAt,List.find?_cons,e']
   rw[fi e,b];exact h2
  ·have e':¬ q.1=k:=fun z=>e (h1.trans z)
   have b:valueAt (q::qs) k=valueAt qs k:=by simp[valueAt,List.find?_cons,e']
   rw[dI e,b];exact ih
theorem KV.any {kvs:List (κ×V)}{vs:List (κ×Value)}(r:KV kvs vs) (k:κ):(kvs.any fun kv=>decide (kv.1=k))=vs.any fun kv=>decide (kv.1=k):=by
 unfold KV at r
 induction r with
 |nil=>rfl
 |cons h t ih=>rw[List.any_cons,List.any_cons,ih,h.1]
theorem KV.repl {kvs:List (κ×V)}{vs:List (κ×Value)}(r:KV kvs vs) (k:κ) {y:V}{u:Value}(ry:av y u):
 KV (kvs.map fun kv=>if kv.1=k then(kv.1,y)else kv) (vs.map fun kv=>if kv.1=k then(kv.1,u)else kv):=by
 unfold KV at r ⊢
 induction r with
 |nil=>exact .nil
 |@cons p q ps qs h t ih=>
  rw[qR,qR]
  refine .cons ?_ ih
  obtain⟨h1,h2⟩:=h
  by_cases e:p.1=k
  ·rw[Q0 e,Q0 (h1.symm.trans e)];exact⟨h1,ry⟩
  ·rw[qZ e,qZ (fun z=>e (h1.trans z))];exact⟨h1,h2⟩
theorem KV.put {kvs:List (κ×V)}{vs:List (κ×Value)}(r:KV kvs vs) (k:κ) {y:V}{u:Value}(ry:av y u):KV (be kvs k y) (stored vs k u):=by
 unfold be stored
 rw[r.any k]
 by_cases e:(vs.any fun kv=>decide (kv.1=k))=true
 ·rw[Q0 e,Q0 e];exact r.repl k ry
 ·rw[qZ e,qZ e];exact Paired.snoc r ⟨rfl,ry⟩
theorem KV.length {kvs:List (κ×V)}{vs:List (κ×Value)}(r:KV kvs vs):kvs.length=vs.length:=Paired.length r
end
theorem eV {P:Program}{w:World}{k:Key}{u:Value}(r:av (kV k) u):(bL P w).is k u=true:=by
 cases k with
 |inl i=>obtain⟨t,e⟩:=(show ∃t,u=Value.int i t from r);subst e;exact Bj P w i t
 |inr x=>obtain⟨t,e⟩:=(show ∃t,u=Value.str x t from r);subst e;exact Bi P w x t
theorem uu {P:Program}{w:World}:∀{ks:List Key}{us:List Value},au (ks.map kV) us->ItemsAre (bL P w) ks us
 |[],_,r=>by rw[List.map_nil]at r;cases r;exact .nil
 |k::ks,_,r=>by
  rw[qR]at r
  cases r with
  |cons h t=>exact .cons (eV h) (uu t)
abbrev KT (H:Hp):List (List Key×V)->List (List Key×Addr×Value)->Prop:=Paired fun p q=>p.1=q.1/\H q.2.1=some (.tup (p.1.map kV))/\av p.2 q.2.2
theorem KT.val {H:Hp}{kvs:List (List Key×V)}{xs:List (List Key×Addr×Value)}(r:KT H kvs xs) (k:List Key):c4 (bA kvs k) ((atKey xs k).map (·.2)):=by
 induction r with
 |nil=>exact True.intro
 |@cons p q ps qs h t ih=>
  obtain⟨h1,_,h2⟩:=h
  by_cases e:p.1=k
  ·have e':q.1=k:=h1.symm.trans e
   have b:atKey (q::qs) k=some q.2:=by simp[atKey,List.find?_cons,e']
   rw[fi e,b];exact h2
  ·have e':¬ q.1=k:=fun z=>e (h1.trans z)
   have b:atKey (q::qs) k=atKey qs k:=by simp[atKey,List.find?_cons,e']
   rw[dI e,b];exact ih
theorem KT.repl {H:Hp}{kvs:List (List Key×V)}{xs:List (List Key×Addr×Value)}(r:KT H kvs xs) (k:List Key) {y:V}{u:Value}(ry:av y u):
 KT H (kvs.map fun kv=>if kv.1=k then(kv.1,y)else kv) (xs.map (putAt k u)):=by
 induction r with
 |nil=>exact .nil
 |@cons p q ps qs h t ih=>
  rw[qR,qR]
  refine .cons ?_ ih
  obtain⟨h1,h2,h3⟩:=h
  unfold putAt
  by_cases e:p.1=k
  ·rw[Q0 e,Q0 (h1.symm.trans e)];exact⟨h1,h2,ry⟩
  ·rw[qZ e,qZ (fun z=>e (h1.trans z))];exact⟨h1,h2,h3⟩
theorem KT.put {H:Hp}{kvs:List (List Key×V)}{xs:List (List Key×Addr×Value)}(r:KT H kvs xs) (k:List Key) {b:Addr}{y:V}{u:Value}(hb:H b=some (.tup (k.map kV))) (ry:av y u):
 KT H (be kvs k y) (storedH xs k b u):=by
 have e:(kvs.any fun kv=>decide (kv.1=k))=(atKey xs k).isSome:=by
  rw[iY,(r.val k).isSome_eq,Option.isSome_map]
 unfold be storedH
 rw[e]
 by_cases q:(atKey xs k).isSome=true
 ·rw[Q0 q,Q0 q];exact r.repl k ry
 ·rw[qZ q,qZ q];exact Paired.snoc r ⟨rfl,hb,ry⟩
theorem KT.keeps {H H':Hp}{kvs:List (List Key×V)}{xs:List (List Key×Addr×Value)}(r:KT H kvs xs) (ht:∀b ys,H b=some (.tup ys)->H' b=some (.tup ys)):KT H' kvs xs:=
 Paired.mapP r fun _ _ z=>⟨z.1,ht _ _ z.2.1,z.2.2⟩
section
variable {P:Program}{w:World}{H:Hp}{h:Heap}{a:Addr}
theorem sq {u:HO}(ok:HOk P w H h) (e:Rd H a u):bq P w H h a u:=e.ok ok
theorem iL {kvs:List (Key×V)}(ok:HOk P w H h) (e:Rd H a (.dK kvs)):kvs.length<=sizeLine/\(a == sysModules)=false/\∃vs,KV kvs vs/\h.DictOf (bL P w) a vs:=
 show bq P w H h a (.dK kvs)from sq ok e
theorem iM {kvs:List (Key×V)}(ok:HOk P w H h) (e:H a=some (.dK kvs)):kvs.length<=sizeLine/\(a == sysModules)=false/\∃vs,KV kvs vs/\h.DictOf (bL P w) a vs:=iL ok (.inl e)
theorem jO {ks:List Key}(ok:HOk P w H h) (e:H a=some (.tup (ks.map kV))):(tupleKind (bL P w)).is h ks a:=by
 obtain⟨_,its,r,o,h1,h2,n,h3⟩:=(show bq P w H h a (.tup (ks.map kV))from ok a _ e)
 exact⟨o,its.toArray,n,h1,h2,h3,by simpa using uu r⟩
theorem iK {kvs:List (List Key×V)}(ok:HOk P w H h) (e:Rd H a (.dT kvs)):kvs.length<=sizeLine/\(a == sysModules)=false /\
 ∃xs,KT H kvs xs/\h.DictOfH (tupleKind (bL P w)) a xs:=by
 obtain⟨z,y,xs,r,o,es,ep,h1,h2,h3,h4,h5⟩:=(show bq P w H h a (.dT kvs)from sq ok e)
 refine⟨z,y,xs,r,o,es,ep,h1,h2,h3,h4,fun x hx=>?_,h5⟩
 have all:∀{l:List (List Key×V)}{m:List (List Key×Addr×Value)},KT H l m->∀x∈m,(tupleKind (bL P w)).is h x.1 x.2.1:=by
  intro l m q
  induction q with
  |nil=>intro x hx;exact nomatch hx
  |@cons p q ps qs hq t ih=>
   intro x hx
   rcases qt.mp hx with e|hx
   ·subst e
    exact jO ok (by rw[<- hq.1];exact hq.2.1)
   ·exact ih x hx
 exact all r x hx
theorem CK {kvs:List (List Key×V)}(ok:HOk P w H h) (e:H a=some (.dT kvs)):kvs.length<=sizeLine/\(a == sysModules)=false /\
 ∃xs,KT H kvs xs/\h.DictOfH (tupleKind (bL P w)) a xs:=iK ok (.inl e)
end
def dH (H:Hp) (a:Addr) (y:V) (r:Option V):Prop:=
 (∃kvs k,Rd H a (.dK kvs)/\y=kV k/\r=bA kvs k)\/∃kvs k b,Rd H a (.dT kvs)/\y=.ref b/\H b=some (.tup (k.map kV))/\r=bA kvs k
def wu (H:Hp) (a:Addr) (y v:V) (H':Hp):Prop:=
 (∃kvs k,H a=some (.dK kvs)/\y=kV k/\kvs.length<sizeLine/\H'=upd H a (.dK (be kvs k v))) \/
 ∃kvs k b,H a=some (.dT kvs)/\y=.ref b/\H b=some (.tup (k.map kV))/\kvs.length<sizeLine/\H'=upd H a (.dT (be kvs k v))
theorem dH.k {H:Hp}{a:Addr}{kvs:List (Key×V)}{k:Key}(e:H a=some (.dK kvs)):dH H a (kV k) (bA kvs k):=.inl ⟨kvs,k,.inl e,rfl,rfl⟩
section
variable {X:Cx}{pins:List (Addr×Obj)}{σ:St}{H:Hp}{s:Shared}{a:Addr}{y v:V}{u r:Value}{o:Option V}{A:Around}{E:Qq}
theorem Inv.big (I:Inv X pins σ H s):sysModules<s.heap.objs.size:=by
 have h:mainGlobals<s.heap.objs.size:=(I.mod.glob.keeps I.bk).lt
 exact Nat.lt_trans Qk h
theorem CS {Q:Qq}(hu:A.units+1<cLine) (I:Inv X pins σ H s) (g:dH H a y (some v)) (ry:av y u) (h:∀w' s',Inv X pins σ H s'->av v w'->Q w' s'):
 wpAny (model X.prog X.w) A (getItem (.ref a) u) Q E s:=by
 rcases g with⟨kvs,k,e,ey,l⟩|⟨kvs,k,b,e,ey,eb,l⟩
 ·subst ey
  obtain⟨z,hd,vs,rel,dd⟩:=iL I.hok e
  obtain⟨w',hw,rw'⟩:=c4.some_of (v:=v) (o:=valueAt vs k) (by rw[l];exact rel.val k)
  exact wpAny_getItem_of (eV ry) dd.mapOf hw (h w' _ (I.tok _) rw')
 ·subst ey
  cases(show u=Value.ref b from ry)
  obtain⟨z,hd,xs,rel,dd⟩:=iK I.hok e
  obtain⟨w',hw,rw'⟩:=c4.some_of (v:=v) (o:=(atKey xs k).map (·.2)) (by rw[l];exact rel.val k)
  obtain⟨p,hp,hp2⟩:=qP.mp hw
  refine wpAny_getItem_heap (tupleKind_room_in1 hu) (jO I.hok eb) dd hp ?_
  rw[hp2]
  exact h w' _ (I.tok _) rw'
theorem o7 {h':Heap}{t':Nat}{ob:HO}(I:Inv X pins σ H s) (mu:Mut (H a)) (hs:Heap.SameBut a s.heap h') (he:∃q,h'.get? a=some q) (new:bq X.prog X.w (upd H a ob) h' a ob):
 Inv X pins σ (upd H a ob) { s with heap:=h',toks:=t' }:=
 I.write (x:=a) (e:=a) mu (.inl rfl) (fun b q hb z=>(hs.2 b hb).trans z) he new
theorem nY {P:Program}{w:World}{H':Hp}{h':Heap}{kvs:List (Key×V)}{vs:List (Key×Value)}(z:kvs.length<=sizeLine) (hd:(a == sysModules)=false) (rel:KV kvs vs) (dd:h'.DictOf (bL P w) a vs):
 bq P w H' h' a (.dK kvs):=⟨z,hd,vs,rel,dd⟩
theorem CQ {H':Hp}{Q:Unit->Shared->Prop}(hu:A.units+1<cLine) (I:Inv X pins σ H s) (g:wu H a y v H') (ry:av y u) (rv:av v r) (h:∀s',Inv X pins σ H' s'->Q () s'):
 wpAny (model X.prog X.w) A (setItem (.ref a) u r) Q E s:=by
 rcases g with⟨kvs,k,e,ey,l,eH⟩|⟨kvs,k,b,e,ey,eb,l,eH⟩
 ·subst ey eH
  obtain⟨z,hd,vs,rel,dd⟩:=iM I.hok e
  have hz:vs.length<=sizeLine:=by rw[<- rel.length];exact z
  have hl:(be kvs k v).length<=sizeLine:=by have:=jN kvs k v;omega
  refine wpAny_setItem_pairs (hsz:=hz) (eV ry) dd fun h' dd' hs=>h _ ?_
  have he:∃q,h'.get? a=some q:=let ⟨q,_,_,hq,_⟩:=dd';⟨q,hq⟩
  exact o7 I (by rw[e];exact True.intro) hs he (nY hl hd (rel.put k rv) dd')
 ·subst ey eH
  cases(show u=Value.ref b from ry)
  obtain⟨z,hd,xs,rel,dd⟩:=CK I.hok e
  have hz:xs.length<=sizeLine:=by rw[<- Paired.length rel];exact z
  have hl:(be kvs k v).length<=sizeLine:=by have:=jN kvs k v;omega
  refine wpAny_setItem_heap (hsz:=hz) (tupleKind_room_in1 hu) (jO I.hok eb) dd fun h' dd' hs=>h _ ?_
  obtain⟨q,es,ep,hq,h2,h3,h4,_,h5⟩:=dd'
  refine o7 I (by rw[e];exact True.intro) hs ⟨q,hq⟩ ⟨hl,hd,_,(rel.put k eb rv).keeps fun c ys ec=>?_,q,es,ep,hq,h2,h3,h4,h5⟩
  rw[aj (tT ec e (fun z=>nomatch z))]
  exact ec
end
section
variable {X:Cx}{pins:List (Addr×Obj)}{σ:St}{H:Hp}{s:Shared}{a:Addr}{kvs:List (Key×V)}{k:Key}{u:Value}{A:Around}{E:Qq}
end
def wq (i:Expr):Prop:=∀ov iv,subscripted i false ov iv=operate [ov,iv] (getItem ov iv)
theorem xI {prog:Program}{w:World}{A:Around}{E:Qq}{s:Shared}{env:Env}{value slice:Expr}{pos:Pos}{T id:String}{Q:Qq}
 (hl:typeLookup (.type T) "__getitem__"=pure (some (.builtin id))) (hs:wq slice)
 (h:wpAny (model prog w) A (eval value env) (fun o s₁=>wpAny (model prog w) A (eval slice env) (fun i s₂=>s₂.TypeIs o T/\wpAny (model prog w) A (getItem o i) Q E s₂) E s₁) E s):
 wpAny (model prog w) A (eval (.Subscript value slice pos) env) Q E s:=by
 refine Subscript_ (wpAny_mono h (fun o s₁ h₁=>wpAny_mono h₁ (fun i s₂ h₂=>?_) fun _ _ x=>x) fun _ _ x=>x)
 obtain⟨hT,h₂⟩:=h₂
 unfold subscriptTail
 refine q4 ?_
 rw[getitemInPython_of_ne hT.not_modules]
 refine q4 (wpAny_specialOf hT hl ?_)
 have fin:wpAny (model prog w) A (subscripted slice false o i) (fun r s₃=>wpAny (model prog w) A (letTemporaryGo value o r >>= fun _=>pure r) Q E s₃) E s₂:=by
  rw[hs o i]
  exact wpAny_operating (wpAny_mono h₂ (fun r s₃ h₃=>q4 (wpAny_letTemporaryGo (qc h₃))) fun _ _ x=>x)
 first
  |exact qc (q4 fin)
  |exact q4 (qc (q4 fin))
  |exact q4 fin
theorem CM {X:Cx}{pins:List (Addr×Obj)}{σ:St}{H:Hp}{s:Shared}{a:Addr}{y:V}{o:Option V}(I:Inv X pins σ H s) (g:dH H a y o):s.TypeIs (.ref a) "dict":=by
 rcases g with⟨kvs,k,e,_,_⟩|⟨kvs,k,b,e,_,_,_⟩
 ·obtain⟨_,_,vs,_,dd⟩:=iL I.hok e
  exact dd.typeIs
 ·obtain⟨_,_,xs,_,dd⟩:=iK I.hok e
  exact dd.typeIs
def xB (td ty:TE):TE:=fun σ H Q=>td σ H fun x H1=>ty σ H1 fun y H2=>∃a v,x=.ref a/\dH H2 a y (some v)/\Q v H2
def yG (td ty tv:TE):TS:=fun D σ H=>tv σ H fun v H1=>td σ H1 fun x H2=>ty σ H2 fun y H3=>∃a H4,x=.ref a/\wu H3 a y v H4/\D.nx σ H4
section
variable {X:Cx}{o i e value:Expr}{pos pos' tpos:Pos}{td ty tv:TE}
theorem jC (hu:X.A.units+1<cLine) (ho:PE X o td) (hi:PE X i ty) (hs:wq i):PE X (.Subscript o i pos) (xB td ty):=by
 intro pins s σ H Q I h
 refine xI PySem.F.slot_dict_getitem.lookup hs (thn (ho pins s σ H _ I h) fun u s1 ⟨x,H1,I1,rx,q1⟩=>thn (hi pins s1 σ H1 _ I1 q1) fun iv s2 ⟨y,H2,I2,ry,a,v,ex,g,q2⟩=>?_)
 subst ex
 obtain rfl:u=Value.ref a:=rx
 exact⟨CM I2 g,CS hu I2 g ry fun w' s3 I3 rw'=>⟨v,H2,I3,rw',q2⟩⟩
theorem fA (hu:X.A.units+1<cLine) (ho:PE X o td) (hi:PE X i ty) (hv:PE X value tv) (hs:swapsWith value (some (.Subscript o i pos')) pos.line X.env=pure false):
 PS X (.Assign [.Subscript o i pos'] value pos) (yG td ty tv):=by
 intro pins s σ H D I h
 refine wpAny_Assign_Subscript (thn (hv pins s σ H _ I h) fun r s1 ⟨v,H1,I1,rv,q1⟩=>thn (ho pins s1 σ H1 _ I1 q1) fun u s2 ⟨x,H2,I2,rx,q2⟩=>thn (hi pins s2 σ H2 _ I2 q2) fun iv s3 ⟨y,H3,I3,ry,a,H4,ex,g,q3⟩=>?_) hs
 subst ex
 obtain rfl:u=Value.ref a:=rx
 exact CQ hu I3 g ry rv fun s4 I4=>⟨σ,H4,I4,q3⟩
end
theorem o0 {P:Program}{w:World}{H:Hp}(h:Heap) (hb:sysModules<h.objs.size):bq P w H (h.push { cls:=.type "dict",data:=.dict #[] }) h.objs.size (.dK []):=
 ⟨qr _,beq_eq_false_iff_ne.mpr (Ne.symm (qF hb)),[],.nil,Heap.DictOf.new h⟩
def xy:TE:=fun _ H Q=>∀p,H p=none->Q (.ref p) (upd H p (.dK []))
section
variable {X:Cx}{pos:Pos}
theorem mF:PE X (.Dict [] [] pos) xy:=fun pins s σ H Q I h=>
 wpAny_Dict_empty ⟨.ref s.heap.objs.size,_,I.laid (a:=s.heap.objs.size) (o:=.dK []) (t':=s.toks) (fun _ _ q=>q9 _ q) (qd _) (o0 s.heap I.big),rfl,h _ (I.hok.fresh (qd _))⟩
end
def kt:List (TE×TE)->St->Hp->(List (V×V)->Hp->Prop)->Prop
 |[],_,H,Q=>Q [] H
 |(tk,tv)::r,σ,H,Q=>tk σ H fun x H1=>tv σ H1 fun y H2=>kt r σ H2 fun ps H3=>Q ((x,y)::ps) H3
abbrev VV:List (V×V)->List (Value×Value)->Prop:=Paired fun p q=>av p.1 q.1/\av p.2 q.2
def PPs (X:Cx) (pos:Pos) (keys:List (Option Expr)) (values:List Expr) (trs:List (TE×TE)):Prop:=
 ∀(pins:List (Addr×Obj)) (s:Shared) (σ:St) (H:Hp) (Q:List (V×V)->Hp->Prop),Inv X pins σ H s->kt trs σ H Q->
  wpAny (model X.prog X.w) X.A (evalPairs (pairTrees keys values X.env pos)) (fun vs s'=>∃ps H',Inv X pins σ H' s'/\VV ps vs/\Q ps H') X.xe s
theorem zB {X:Cx}{pos:Pos}:PPs X pos [] [] []:=fun pins s σ H Q I h=>pairTrees_nil_walk ⟨[],H,I,.nil,h⟩
theorem sO {X:Cx}{pos:Pos}{k v:Expr}{ks:List (Option Expr)}{vs:List Expr}{tk tv:TE}{trs:List (TE×TE)}(hk:PE X k tk) (hv:PE X v tv) (hr:PPs X pos ks vs trs):
 PPs X pos (some k::ks) (v::vs) ((tk,tv)::trs):=fun pins s σ H Q I h=>
 pairTrees_cons_walk (thn (hk pins s σ H _ I h) fun u s1 ⟨x,H1,I1,rx,q1⟩=>thn (hv pins s1 σ H1 _ I1 q1) fun w2 s2 ⟨y,H2,I2,ry,q2⟩=>
  thn (hr pins s2 σ H2 _ I2 q2) fun ws s3 ⟨ps,H3,I3,rel,q3⟩=>⟨(x,y)::ps,H3,I3,.cons ⟨rx,ry⟩ rel,q3⟩)
def cZ (kvs more:List (Key×V)):List (Key×V):=more.foldl (fun acc kv=>be acc kv.1 kv.2) kvs
theorem KV.merge:∀{more:List (Key×V)}{rs:List (Key×Value)}{kvs:List (Key×V)}{vs:List (Key×Value)},KV more rs->KV kvs vs->KV (cZ kvs more) (merged vs rs):=by
 intro more rs kvs vs r
 unfold KV at r
 induction r generalizing kvs vs with
 |nil=>intro q;exact q
 |@cons p q ps qs h t ih=>
  intro r0
  have e:KV (be kvs p.1 p.2) (stored vs q.1 q.2):=by
   have:=r0.put p.1 h.2
   rw[<- h.1];exact this
  exact ih e
theorem u7:∀(more kvs:List (Key×V)),(cZ kvs more).length<=kvs.length+more.length
 |[],kvs=>by show kvs.length<=kvs.length+0;omega
 |p::r,kvs=>by
  have h1:=u7 r (be kvs p.1 p.2)
  have h2:=jN kvs p.1 p.2
  show(cZ (be kvs p.1 p.2) r).length<=_
  rw[qz];omega
theorem vL {P:Program}{w:World}:∀{kvs:List (Key×V)}{ws:List (Value×Value)},VV (kvs.map fun kv=>(kV kv.1,kv.2)) ws->∃rs,Carries (bL P w) ws rs/\KV kvs rs
 |[],_,r=>by rw[List.map_nil]at r;cases r;exact⟨[],True.intro,.nil⟩
 |p::kvs,_,r=>by
  rw[qR]at r
  cases r with
  |@cons a b as bs h t=>
   obtain⟨rs,c,q⟩:=vL (P:=P) (w:=w) t
   obtain⟨b1,b2⟩:=b
   exact⟨(p.1,b2)::rs,⟨eV h.1,rfl,c⟩,.cons ⟨rfl,h.2⟩ q⟩
def xx (trs:List (TE×TE)):TE:=fun σ H Q=>∀p,H p=none->kt trs σ (upd H p (.dK [])) fun ps H2=>H2 p=some (.dK [])/\∃kvs:List (Key×V),ps=kvs.map (fun kv=>(kV kv.1,kv.2))/\kvs.length<=15/\Q (.ref p) (upd H2 p (.dK (cZ [] kvs)))
theorem zQ {X:Cx}{pos:Pos}{keys:List (Option Expr)}{values:List Expr}{trs:List (TE×TE)}(h:PPs X pos keys values trs) (hall:keys.all (·.isSome)=true) (hl:keys.length=values.length) (h0:keys≠[])
 (h15:keys.length<=15):PE X (.Dict keys values pos) (xx trs):=by
 intro pins s σ H Q I q
 have hn:=I.hok.fresh (qd s.heap.objs.size)
 have I1:=I.laid (a:=s.heap.objs.size) (o:=.dK []) (h':=s.heap.push { cls:=.type "dict",data:=.dict #[] }) (t':=s.toks) (fun _ _ q=>q9 _ q) (qd _) (o0 s.heap I.big)
 refine wpAny_Dict_walk (knd:=bL X.prog X.w) hall hl h0 h15 (thn (h pins _ σ _ _ I1 (q _ hn)) fun ws s2 ⟨ps,H2,I2,rel,e,kvs,ep,lk,q2⟩=>?_)
 subst ep
 obtain⟨rs,c,rk⟩:=vL (P:=X.prog) (w:=X.w) rel
 obtain⟨z,hd,vs0,r0,dd⟩:=iM I2.hok e
 cases r0
 refine⟨rs,c,dd,fun h' dd' hs=>⟨.ref s.heap.objs.size,_,?_,rfl,q2⟩⟩
 have hz:(cZ [] kvs).length<=sizeLine:=by
  have h1:=u7 kvs []
  rw[List.length_nil]at h1
  rw[sizeLine_eq];omega
 have he:∃q,h'.get? s.heap.objs.size=some q:=let ⟨q,_,_,hq,_⟩:=dd';⟨q,hq⟩
 exact o7 I2 (by rw[e];exact True.intro) hs he (nY hz hd (rk.merge .nil) dd')
structure M2 (X:Cx) (o:Expr) (m:Str) (apos:Pos) (e f:Expr) (cpos:Pos):Prop where
 base:attributeBase o m X.env (eval o X.env)=eval o X.env
 few:((backTo cpos (starEach [e,f] X.env)).all (fun x=>!x.1) && (backToKw cpos (keywordEach [] X.env)).all (fun x=>x.1.isSome)
  && decide (([e,f]:List Expr).length+([]:List Keyword).length+(if([]:List Keyword).isEmpty then 0 else 1)<30))=true
 line:(apos.endLine == cpos.line)=true
 trees:backTo cpos (starEach [e,f] X.env)=[(false,eval e X.env),(false,eval f X.env)]
def IsD (H:Hp) (a:Addr):Prop:=(∃kvs,Rd H a (.dK kvs))\/∃kvs,Rd H a (.dT kvs)
theorem uv {X:Cx}{pins:List (Addr×Obj)}{σ:St}{H:Hp}{s:Shared}{a:Addr}(I:Inv X pins σ H s) (d:IsD H a):
 s.TypeIs (.ref a) "dict"/\(∀b,Value.ref a=.ref b->∃ob,s.heap.get? b=some ob/\ob.dict=none)/\(a == sysModules)=false:=by
 rcases d with⟨kvs,e⟩|⟨kvs,e⟩
 ·obtain⟨_,hd,vs,_,dd⟩:=iL I.hok e
  refine⟨dd.typeIs,fun b q=>?_,hd⟩
  cases q
  obtain⟨ob,_,_,h1,h2,_⟩:=dd
  exact⟨ob,h1,h2.2.1⟩
 ·obtain⟨_,hd,xs,_,dd⟩:=iK I.hok e
  refine⟨dd.typeIs,fun b q=>?_,hd⟩
  cases q
  obtain⟨ob,_,_,h1,h2,_⟩:=dd
  exact⟨ob,h1,h2.2.1⟩
section
variable {X:Cx}{pins:List (Addr×Obj)}{σ:St}{H:Hp}{s:Shared}{a:Addr}{y d:V}{u r:Value}{o:Option V}{A:Around}{E:Qq}
theorem CT {Q:Qq}(hu:A.units+1<cLine) (I:Inv X pins σ H s) (g:dH H a y o) (ry:av y u) (rd:av d r) (h:∀w' s',Inv X pins σ H s'->av (o.getD d) w'->Q w' s'):
 wpAny (model X.prog X.w) A (call (.builtin "dict.get") [.ref a,u,r]) Q E s:=by
 rcases g with⟨kvs,k,e,ey,l⟩|⟨kvs,k,b,e,ey,eb,l⟩
 ·subst ey
  obtain⟨z,hd,vs,rel,dd⟩:=iL I.hok e
  refine call_meetsIn PySem.F.slot_dict_get dd.typeIs PySem.F.entry_dict_get (PySem.F.args_dict_get_3 _ _ _) (meets_dict_get_default (bL X.prog X.w) a (eV ry) hd r) ⟨_,dd.mapOf,h _ _ (I.tok _) ?_⟩
  rw[l]
  exact(rel.val k).getD rd
 ·subst ey
  cases(show u=Value.ref b from ry)
  obtain⟨z,hd,xs,rel,dd⟩:=iK I.hok e
  refine call_meetsIn PySem.F.slot_dict_get dd.typeIs PySem.F.entry_dict_get (PySem.F.args_dict_get_3 _ _ _) (meetsH_dict_get_default (tupleKind (bL X.prog X.w)) a b hd r) ⟨tupleKind_room_in1 hu,k,xs,jO I.hok eb,dd,h _ _ (I.tok _) ?_⟩
  rw[l]
  exact(rel.val k).getD rd
end
def xA (td ty tx:TE):TE:=fun σ H Q=>td σ H fun x H1=>∃a,x=.ref a/\IsD H1 a/\ty σ H1 fun y H2=>tx σ H2 fun z H3=>∃o,dH H3 a y o/\Q (o.getD z) H3
section
variable {X:Cx}{o e f:Expr}{apos cpos:Pos}{td ty tx:TE}
theorem zR (hu:X.A.units+1<cLine) (ho:PE X o td) (he:PE X e ty) (hf:PE X f tx) (m:M2 X o "get" apos e f cpos):PE X (.Call (.Attribute o "get" apos) [e,f] [] cpos) (xA td ty tx):=by
 intro pins s σ H Q I h
 refine wpAny_Call_method m.base m.few m.line PySem.F.plainAttrs_dict PySem.F.slot_dict_get PySem.F.type_dict_get (thn (ho pins s σ H _ I h) fun u s1 ⟨x,H1,I1,rx,a,ex,d,q1⟩=>?_)
 subst ex
 obtain rfl:u=Value.ref a:=rx
 obtain⟨t1,t2,_⟩:=uv I1 d
 refine⟨t1,t2,?_⟩
 rw[m.trees]
 refine Calls.callWith_builtin rfl (Calls.evalArgs_plain (Calls.spliced_cons (thn (he pins s1 σ H1 _ I1 q1) fun iv s2 ⟨y,H2,I2,ry,q2⟩=>
  Calls.spliced_cons (thn (hf pins s2 σ H2 _ I2 q2) fun fv s3 ⟨z,H3,I3,rz,ov,g,q3⟩=>Calls.spliced_nil ?_))))
 exact CT hu I3 g ry rz fun w' s4 I4 rw'=>⟨_,H3,I4,rw',q3⟩
end
section
variable {X:Cx}{pins:List (Addr×Obj)}{σ:St}{H:Hp}{s:Shared}{a:Addr}{kvs:List (Key×V)}{A:Around}{E:Qq}
end
section
variable {X:Cx}{pins:List (Addr×Obj)}{σ:St}{H:Hp}{s:Shared}{a:Addr}{y:V}{u:Value}{A:Around}{E:Qq}
end
end L2
namespace Att
open PySem PySem.W PySem.Calls PyProof.Rows
theorem BX {P:Params}{h:Heap}:∀(ns:List Int) (vs:List Value),WellAll P h vs (ns.map WData.int)->IntsAre vs ns:=by
 intro ns
 induction ns with
 |nil=>
  intro vs w
  rw[List.map_nil]at w
  cases w
  exact .nil
 |cons n ns ih=>
  intro vs w
  rw[qR]at w
  cases w with
  |cons a b=>
   cases a
   exact .cons _ _ (ih _ b)
theorem yh {l:OpenLaw}{n:Nat}(hn:l.most=some n) {P:Params}{h:Heap}{args:List WData}{vals:List Value}
 (hpre:l.row.toRowW.claim.pre args=true) (hwl:WellAll P h vals args):
 ∃a vs ns,vals=[Value.ref a]/\args=[WData.list (ns.map WData.int)]/\h.get? a=some { cls:=.type "list",data:=.seq vs.toArray }/\IntsAre vs ns/\ns.length<=n:=by
 have hsh:WShape.hasAll [] args [.list .int]=true:=(pre_splitW hpre).1
 have hc:l.pre.holds [] { args:=args }=true:=(pre_splitW hpre).2
 obtain⟨d,r,rfl,h1,h2⟩:=hasAllW_cons hsh
 obtain rfl:=hasAllW_nil h2
 obtain⟨xs,rfl,h3⟩:=hasW_list h1
 obtain⟨ns,rfl⟩:=items_int h3
 have hlen:ns.length<=n:=by
  unfold OpenLaw.pre at hc
  have h4:(WTm.not (.lt (.lit (.int (n:Int))) (.len (.arg 0)))).holds [] { args:=[.list (ns.map .int)] }=true:=by
   have h4:=(holds_andW hc).1
   rw[hn]at h4
   exact h4
  have h5:=condW_of h4 (w_not (w_lt w_lit (w_len_list (w_arg rfl))))
  rw[q5]at h5
  refine Nat.le_of_not_lt fun q=>?_
  have q':(n:Int)<((ns.length:Nat):Int):=Qo
  first
   |(rw[decide_eq_true q']at h5;exact absurd h5 Qk)
   |(simp at h5;omega)
 cases hwl with
 |cons w1 w2=>
  cases w2
  cases w1 with
  |list ho hall=>exact⟨_,_,ns,rfl,rfl,ho,BX ns _ hall,hlen⟩
theorem zD (l:OpenLaw) (args:List WData):l.row.toRowW.claim.post args (.bool true) args=true:=
 postW_of (r:=l.row.toRowW) (X:=(true == true))
  (show WShape.has [] (.bool true) .bool=true by first|rfl|decide|simp[WShape.has,WShape.arms,WShape.armsAll])
  (show(WTm.eq .res (.lit (.bool true))).value [] { args:=args,res:=some (.bool true),after:=args }=some (.bool (true == true))from w_eq_bool (w_res rfl) w_lit) rfl
section
variable {prog:Program}{w:World}{A:Around}{E:Qq}{s:Shared}{K:Frag}
end
end Att
namespace L2
open PySem PySem.Spec PyProof.Rows
theorem oP:∀{vs:List Value}{ns:List Int},IntsAre vs ns->au (ns.map V.int) vs
 |_,_,.nil=>.nil
 |_,_,.cons n t h=>.cons ⟨t,rfl⟩ (oP h)
def kg (H:Hp):Prop:=∀b,H b=none\/∃o xs,H b=some (.frz o (.lst xs))
theorem BB {P:Program}{w:World}{K:PySem.W.Frag}{mg mb:Str->Option Value}{CX:CXT}{k:Nat}{fa a:Addr}{fd:FuncData}{x:Str}{sp:Sp}{s₁:Shared}{vs:List Value}{ns:List Int}
 (KX:K.In s₁.heap) (hns:s₁.heap.Ns mainGlobals mg) (hb:s₁.heap.Ns builtinsNs mb) (hbb:∀x:Str,x≠"__name__"->mb x=bootBuiltins x) (hlim:s₁.heap.NoLimit) (hg:s₁.gens=#[])
 (ha:s₁.heap.get? a=some { cls:=.type "list",data:=.seq vs.toArray }) (hi:IntsAre vs ns) (hl:ns.length<=sizeLine) (hr:bE k callerA)
 (F:∀base:Heap,K.In base->base.Ns mainGlobals mg->aC P w K mg base CX k fa fd [x] sp) (hbind:∀(s:Shared) (u:Value),BindsTo s fd ⟨[u],[]⟩ [(x,u)])
 (hsp:∀H:Hp,kg H->SqL K H a (ns.map V.int)->sp [.ref a] H (fun v _=>v=.bl true) fun _ _ _=>False)
 (hCX:∀H e s',CX [] H s₁ (fun _ _ _=>False) e s'->False):
 codeAny (model P w) callerA (.call (.ref fa) ⟨[.ref a],[]⟩) (fun r s'=>r=.ok (.ret (.bool true))/\OldK s₁.heap s'.heap/\s'.os=s₁.os/\AllBare s'.gens) s₁:=by
 have rv:=oP hi
 have lenV:=hi.length
 have core:∀H:Hp,kg H->SqL K H a (ns.map V.int)->HOk P w H s₁.heap->(∀b,H b≠none->b=a)->(H a≠none->K.lookup a=none)->
  codeAny (model P w) callerA (.call (.ref fa) ⟨[.ref a],[]⟩) (fun r s'=>r=.ok (.ret (.bool true))/\OldK s₁.heap s'.heap/\s'.os=s₁.os/\AllBare s'.gens) s₁:=by
  intro H hO hS hok hA hK
  have base_of:∀{b:Addr}{o:Obj},s₁.heap.get? b=some o->H b=none->(dR s₁.heap H).get? b=some o:=fun e n=>C6 e n
  have noA:∀{b:Addr}{o:Obj}{es:Array DictEntry}{ep:Nat},s₁.heap.get? b=some o->o.data=.dict es ep->H b=none:=fun{b o es ep} e d=>by
   cases q:H b with
   |none=>rfl
   |some u=>
    have e':b=a:=hA b (by rw[q];simp)
    subst e'
    rw[ha]at e;cases e
    have d':Data.seq vs.toArray _=Data.dict es ep:=d
    cases d'
  have nsK:∀{b:Addr}{m:Str->Option Value},s₁.heap.Ns b m->(dR s₁.heap H).Ns b m:=fun{b m} ⟨o,es,ep,e,d,r⟩=>⟨o,es,ep,base_of e (noA e d),d,r⟩
  have hKb:K.In (dR s₁.heap H):=fun b o e=>base_of (KX b o e) (by
   cases q:H b with
   |none=>rfl
   |some u=>
    have e':b=a:=hA b (by rw[q];simp)
    subst e'
    rw[hK (by rw[q];simp)]at e;cases e)
  have hM:Mod K mg (dR s₁.heap H):=⟨hKb,nsK hns,⟨mb,nsK hb,hbb⟩,let ⟨mc,h1,h2⟩:=hlim;⟨mc,nsK h1,h2⟩⟩
  have e0:gb P w K mg (dR s₁.heap H) callerA [] s₁ H:=⟨rfl,hM,fun b o e=>AV e,Nat.le_of_eq (C5 _ _),trivial,fun b hb=>absurd (show b∈([]:List Addr)from hb) (by simp),hok,.of_eq hg⟩
  refine codeAny_mono ((F _ hKb (nsK hns)).run callerA [] s₁ H ⟨[.ref a],[]⟩ [.ref a] [.ref a] _ _ hr e0 (hbind s₁ (.ref a)) (.cons rfl .nil) (hsp H hO hS)) fun r s' h=>?_
  cases r with
  |error e=>exact(hCX H e s' h).elim
  |ok fl=>
   cases fl with
   |next=>exact False.elim h
   |brk=>exact False.elim h
   |cont=>exact False.elim h
   |ret u=>
    obtain⟨v,H',os,bare,un,hok',r',q⟩:=h
    have q':v=.bl true:=q
    subst q'
    obtain rfl:u=Value.bool true:=r'
    refine⟨rfl,OldK.of_keep fun b o e=>?_,os,bare⟩
    cases q:H b with
    |none=>exact un.keep b o e q (by intro z;exact absurd (show b∈([]:List Addr)from z) (by simp)) (by simp)
    |some u=>
     rcases hO b with z|⟨ob,xs,z⟩
     ·rw[q]at z;cases z
     ·have z2:=un.frzs b ob _ z
      obtain⟨e1,_⟩:=hok b _ z
      obtain⟨e2,_⟩:=hok' b _ z2
      rw[e]at e1;cases e1
      exact e2
 cases hk:K.lookup a with
 |some o=>
  have e:=KX a o hk
  rw[ha]at e
  cases e
  refine core (fun _=>none) (fun _=>.inl rfl) (.inr ⟨_,vs.toArray,_,hk,rfl,rfl,rfl,by rw[qA,lenV];exact hl,by simpa using rv⟩) (fun b u z=>by have z':(none:Option HO)=some u:=z;cases z') (fun b z=>absurd rfl z) fun z=>absurd rfl z
 |none=>
  refine core (fun b=>if b=a then some (.frz { cls:=.type "list",data:=.seq vs.toArray } (.lst (ns.map V.int)))else none) (fun b=>?_) (.inl (.inr ⟨{ cls:=.type "list",data:=.seq vs.toArray },Q0 rfl⟩)) (fun b u z=>?_) (fun b z=>?_) fun _=>hk
  ·by_cases hb:b=a
   ·exact .inr ⟨_,_,Q0 hb⟩
   ·exact .inl (qZ hb)
  ·by_cases hb:b=a
   ·have z':=(Q0 hb).symm.trans z
    cases z'
    subst hb
    exact⟨ha,by rw[q5];exact hl,vs,_,rv,ha⟩
   ·have z':=(qZ hb).symm.trans z
    cases z'
  ·by_cases hb:b=a
   ·exact hb
   ·exact absurd (qZ hb) z
abbrev CX0:CXT:=fun _ _ _ _ _ _=>False
abbrev E0:XK:=fun _ _ _=>False
theorem ao {X:Cx}:hZ CX0 X E0:=fun _ _ _ _ _ _ _ h=>h.elim
structure Fun (K:PySem.W.Frag) (x qual:Str) (st:Stmt) (f:Addr) (fd:FuncData):Prop where
 ex:∃(oc:Value) (od:Option Addr) (kV doc pm:Value) (an:Option Addr) (cdv ct:Value) (osl:Array (Option Value)),
  fd=PySem.W.fnOf x qual (ff st) (dU st) (aB st) .none kV doc pm an cdv ct/\K.lookup f=some ⟨oc,od,.func fd,osl⟩/\PySem.W.codeIn K cdv qual=true
 kp:PySem.W.keepIn K (.ref f)=true
section
variable {P:Program}{w:World}{K:PySem.W.Frag}{mg:Str->Option Value}{base:Heap}
theorem Fun.ok {x qual:Str}{st:Stmt}{f:Addr}{fd:FuncData}{N ps:List Str}{k:Nat}{sp:Sp}(F:Fun K x qual st f fd) (S:aN N ps (aB st)) (len:∀vs H Q E,sp vs H Q E->vs.length=ps.length)
 (hbody:∀(cdv:Value) (A:Around) (outer:List Env) (s:Shared) (H:Hp) (vs:List V) (Q:VK) (E:XK),bE k (A.deeper (envOfC qual (aB st) s.heap.objs.size f cdv))->sp vs H Q E->
  ∃t,PSs (gZ CX0 P w K mg base N qual (aB st) f cdv A outer s H E).nox (dU st) t/\t { nx:=fun _ H'=>Q .non H',rt:=Q } (ei N vs) H):aC P w K mg base CX0 (k+1) f fd ps sp:=by
 obtain⟨oc,od,kV,doc,pm,an,cdv,ct,osl,rfl,lk,hcd⟩:=F.ex
 refine Ct lk hcd S len fun A outer s H vs Q E hr hsp=>?_
 obtain⟨t,h,q⟩:=hbody cdv A outer s H vs Q E hr hsp
 exact⟨t,h.nox,q⟩
theorem Fun.binds {x qual:Str}{st:Stmt}{f:Addr}{fd:FuncData}{ps:List Str}(F:Fun K x qual st f fd)
 (h:∀(kV doc pm:Value) (an:Option Addr) (cdv ct:Value) (us:List Value),us.length=ps.length->bindArgs (PySem.W.fnOf x qual (ff st) (dU st) (aB st) .none kV doc pm an cdv ct) ⟨us,[]⟩=pure (ps.zip us)):aI K fd ps []:=by
 obtain⟨oc,od,kV,doc,pm,an,cdv,ct,osl,rfl,lk,hcd⟩:=F.ex
 exact .all (h kV doc pm an cdv ct)
theorem Cp {x qual:Str}{st:Stmt}{f:Addr}{oc:Value}{od an:Option Addr}{osl:Array (Option Value)}{kV doc pm cdv ct:Value}(l:K.lookup f=some ⟨oc,od,.func (PySem.W.fnOf x qual (ff st) (dU st) (aB st) .none kV doc pm an cdv ct),osl⟩)
 (c:PySem.W.codeIn K cdv qual=true) (k:PySem.W.keepIn K (.ref f)=true):Fun K x qual st f (PySem.W.fnOf x qual (ff st) (dU st) (aB st) .none kV doc pm an cdv ct):=⟨⟨oc,od,kV,doc,pm,an,cdv,ct,osl,rfl,l,c⟩,k⟩
end
theorem i8 {n:Nat}(h:n<=1000):n<sizeLine:=Nat.lt_of_le_of_lt h Qk
section
variable {X:Cx}
end
theorem jP {A B:Prop}(h:B):if false=true then A else B:=by
 rw[qZ qh]
 exact h
theorem BR {A B:Prop}(h:A):if true=true then A else B:=by
 rw[Q0 rfl]
 exact h
theorem gW {c A B:Prop} [Decidable c] (h1:c->A) (h2:¬ c->B):if c then A else B:=by
 by_cases h:c
 ·rw[Q0 h]
  exact h1 h
 ·rw[qZ h]
  exact h2 h
def aa (H H':Hp):Prop:=∀b o,H b=some o->H' b=some o
theorem aa.refl (H:Hp):aa H H:=fun _ _ h=>h
theorem aa.trans {H H1 H2:Hp}(a:aa H H1) (b:aa H1 H2):aa H H2:=fun c o h=>b c o (a c o h)
theorem aa.seq {K:PySem.W.Frag}{H H':Hp}{a:Addr}{xs:List V}(e:aa H H') (h:SqL K H a xs):SqL K H' a xs:=by
 rcases h with(h|⟨o,h⟩)|h
 ·exact .inl (.inl (e _ _ h))
 ·exact .inl (.inr ⟨o,e _ _ h⟩)
 ·exact .inr h
section
variable {X:Cx}
end
section
variable {κ:Type} [DecidableEq κ]
theorem wL {kvs:List (κ×V)}{k:κ}{v:V}(h:bA kvs k=some v):k∈kvs.map (·.1):=by
 have q:(kvs.any fun kv=>decide (kv.1=k))=true:=by
  rw[iY,h]
  all_goals rfl
 obtain⟨p,hp,e⟩:=List.any_eq_true.mp q
 exact List.mem_map.mpr ⟨p,hp,of_decide_eq_true e⟩
theorem jG:∀{l:List κ}{k:κ},l.Nodup->¬ k∈l->(l++[k]).Nodup
 |[],k,_,_=>by simp
 |a::r,k,h,hk=>by
  obtain⟨h1,h2⟩:=List.nodup_cons.mp h
  show(a::(r++[k])).Nodup
  refine List.nodup_cons.mpr ⟨fun m=>?_,jG h2 fun m=>hk (qt.mpr (Or.inr m))⟩
  rcases qg.mp m with q|q
  ·exact h1 q
  ·exact hk (qt.mpr (Or.inl (qS.mp q).symm))
end
def cF (cells:List (Str×Addr)):List (Str×NameKind)->List (Str×Addr)->List (Str×Addr)
 |[],acc=>acc
 |(n,k)::r,acc=>cF cells r (if k == .free then(match cells.lookup n with|some c=>(n,c)::acc|none=>acc)else acc)
theorem D8 {scope:Scope}{env:Env}(h:∀y∈scope.names,y.2=.free->∃c,env.cells.lookup y.1=some c):closureFor scope env=pure (cF env.cells scope.names []):=by
 simp only[closureFor]
 generalize ([]:List (Str×Addr))=acc
 revert h
 generalize scope.names=l
 intro h
 induction l generalizing acc with
 |nil=>simp[cF]
 |cons x r ih=>
  obtain⟨n,k⟩:=x
  rw[List.forIn_cons]
  have hr:∀y∈r,y.2=NameKind.free->∃c,env.cells.lookup y.1=some c:=fun y hy=>h y (qj _ hy)
  by_cases hk:k=.free
  ·subst hk
   obtain⟨c,e⟩:=h (n,.free) qk rfl
   have e':List.lookup n env.cells=some c:=e
   have e2:cellOf env n=pure c:=by unfold cellOf;rw[e']
   simp only[beq_self_eq_true,if_true,e2,pure_bind,cF,e']
   exact ih _ hr
  ·have hb:(k == NameKind.free)=false:=by simpa using hk
   simp only[hb,Bool.false_eq_true,if_false,pure_bind,cF]
   exact ih _ hr
theorem uH (cells:List (Str×Addr)):∀(l:List (Str×NameKind)) (acc:List (Str×Addr)) (p:Str×Addr),p∈cF cells l acc->p∈acc\/(p.1,NameKind.free)∈l/\cells.lookup p.1=some p.2
 |[],_,_,h=>.inl h
 |(n,k)::r,acc,p,h=>by
  have h':p∈cF cells r (if k == .free then(match cells.lookup n with|some c=>(n,c)::acc|none=>acc)else acc):=h
  rcases uH cells r _ p h' with q|⟨q1,q2⟩
  ·by_cases hk:k=.free
   ·subst hk
    simp only[beq_self_eq_true,if_true]at q
    cases e:cells.lookup n with
    |none=>rw[e]at q;exact .inl q
    |some c=>
     rw[e]at q
     rcases qt.mp q with rfl|q
     ·exact .inr ⟨qk,e⟩
     ·exact .inl q
   ·have hb:(k == NameKind.free)=false:=by simpa using hk
    simp only[hb,Bool.false_eq_true,if_false]at q
    exact .inl q
  ·exact .inr ⟨qj _ q1,q2⟩
theorem tZ {α β:Type} [BEq α] [LawfulBEq α] {x:α}:∀{l:List (α×β)}{c:β},(x,c)∈l->∃d,l.lookup x=some d
 |(a,b)::r,c,h=>by
  by_cases e:x=a
  ·subst e;exact⟨b,by simp⟩
  ·rcases qt.mp h with q|q
   ·cases q;exact absurd rfl e
   ·obtain⟨d,hd⟩:=tZ q
    refine⟨d,?_⟩
    have e':(x == a)=false:=by simpa using e
    simp only[List.lookup_cons,e']
    exact hd
theorem uI (cells:List (Str×Addr)) (x:Str) (c:Addr) (e:cells.lookup x=some c):∀(l:List (Str×NameKind)) (acc:List (Str×Addr)),((x,NameKind.free)∈l\/(x,c)∈acc)->(x,c)∈cF cells l acc
 |[],_,h=>h.elim (fun q=>nomatch q) id
 |(n,k)::r,acc,h=>by
  refine uI cells x c e r _ ?_
  rcases h with h|h
  ·rcases qt.mp h with q|q
   ·cases q
    refine .inr ?_
    rw[e]
    exact qk
   ·exact .inl q
  ·refine .inr ?_
   by_cases hk:(k == NameKind.free)=true
   ·rw[Q0 hk]
    cases cells.lookup n with
    |none=>exact h
    |some _=>exact qj _ h
   ·rw[qZ hk];exact h
theorem eX {cells:List (Str×Addr)}{names:List (Str×NameKind)}{x:Str}{c:Addr}(h:(cF cells names []).lookup x=some c):cells.lookup x=some c:=by
 have hm:=PySem.mem_of_lookup h
 rcases uH cells names [] _ hm with q|⟨_,q⟩
 ·exact nomatch q
 ·exact q
theorem uJ {cells:List (Str×Addr)}{names:List (Str×NameKind)}{x:Str}{c:Addr}(hm:(x,NameKind.free)∈names) (e:cells.lookup x=some c):(cF cells names []).lookup x=some c:=by
 obtain⟨d,hd⟩:=tZ (uI cells x c e names [] (.inl hm))
 have:=eX hd
 rw[e]at this
 rw[hd,this]
theorem sk {scope:Scope}{env:Env}{x:Str}{k:NameKind}(h:(relabel scope env).names.lookup x=some k):∃k',scope.names.lookup x=some k'/\(k'=k\/(k'=.free/\k=.cell)):=by
 have go:∀(l:List (Str×NameKind)),(l.map fun(n,k)=>if(k == NameKind.free && env.scope.kind == .function && env.kindOf n == some .cell)then(n,NameKind.cell)else(n,k)).lookup x=some k->∃k',l.lookup x=some k'/\(k'=k\/(k'=.free/\k=.cell)):=by
  intro l
  induction l with
  |nil=>intro h;simp at h
  |cons p r ih=>
   obtain⟨n,kk⟩:=p
   intro h
   simp only[qR]at h
   by_cases hx:x=n
   ·subst hx
    by_cases hc:(kk == NameKind.free && env.scope.kind == .function && env.kindOf x == some .cell)=true
    ·rw[Q0 hc]at h
     simp at h
     have:kk=.free:=by
      simp only[Bool.and_eq_true,beq_iff_eq]at hc
      exact hc.1.1
     exact⟨kk,by simp,.inr ⟨this,h.symm⟩⟩
    ·rw[qZ hc]at h
     simp at h
     exact⟨kk,by simp,.inl h⟩
   ·have e':(x == n)=false:=by simpa using hx
    have:∀b:Bool,(if b=true then(n,NameKind.cell)else(n,kk)).1=n:=fun b=>by cases b<;>rfl
    rw[List.lookup_cons,this,e']at h
    obtain⟨k',h1,h2⟩:=ih h
    exact⟨k',by rw[List.lookup_cons,e'];exact h1,h2⟩
 exact go scope.names h
theorem yM {scope:Scope}{env:Env}{x:Str}(h:scope.names.lookup x=some .free):(relabel scope env).names.lookup x=some .cell\/(relabel scope env).names.lookup x=some .free:=by
 have go:∀(l:List (Str×NameKind)),l.lookup x=some .free->(l.map fun(n,k)=>if(k == NameKind.free && env.scope.kind == .function && env.kindOf n == some .cell)then(n,NameKind.cell)else(n,k)).lookup x=some .cell\/(l.map fun(n,k)=>if(k == NameKind.free && env.scope.kind == .function && env.kindOf n == some .cell)then(n,NameKind.cell)else(n,k)).lookup x=some .free:=by
  intro l
  induction l with
  |nil=>intro h;simp at h
  |cons p r ih=>
   obtain⟨n,kk⟩:=p
   intro h
   simp only[qR]
   by_cases hx:x=n
   ·subst hx
    simp at h
    by_cases hc:(kk == NameKind.free && env.scope.kind == .function && env.kindOf x == some .cell)=true
    ·rw[Q0 hc];simp
    ·rw[qZ hc];simp[h]
   ·have e':(x == n)=false:=by simpa using hx
    have t:∀b:Bool,(if b=true then(n,NameKind.cell)else(n,kk)).1=n:=fun b=>by cases b<;>rfl
    rw[List.lookup_cons,e']at h
    rw[List.lookup_cons,t,e']
    exact ih h
 exact go scope.names h
section
variable {prog:Program}{w:World}{A:Around}{R:Result->Shared->Prop}{s:Shared}
theorem D5 {elt target iter:Expr}{ifs:List Expr}{scope:Scope}{pos:Pos}{it acc:Value}{env:Env}(I:Nat->Shared->Prop)
 (turn:∀n s,I n s->wpAny (model prog w) A (pyNext it) (fun r s₁=>match r with
  |none=>R (.ok .next) s₁
  |some v=>wpAny (model prog w) A (letOwnedTupleGo target it v) (fun _ s₁'=>wpAny (model prog w) A (assign target env v) (fun _ s₂=>
   wpAny (model prog w) A (forIn ifs true fun c r=>if r=true then do let ok <- isTrue c env (eval c env);pure (ForInStep.yield ok)else pure (ForInStep.yield r)) (fun ok s₃=>
    if ok=true then wpAny (model prog w) A (eval elt env) (fun x s₄=>
     wpAny (model prog w) A (call (.builtin "list.append") [acc,x]) (fun _ s₅=>∃m,m<n/\I m s₅) (fun _ _=>False) s₄) (fun _ _=>False) s₃
    else ∃m,m<n/\I m s₃) (fun _ _=>False) s₂) (fun _ _=>False) s₁') (fun _ _=>False) s₁) (fun _ _=>False) s)
 (n:Nat) (h:I n s):
 codeAny (model prog w) A (.compLoop (.ListComp elt [⟨target,iter,ifs,0⟩] scope pos) 0 it acc env) R s:=by
 refine codeAny_loop rfl I (fun n s hI=>?_) n h
 show wpAny _ A ((compTurn (.ListComp elt [⟨target,iter,ifs,0⟩] scope pos) 0 it acc env).onRaise (fun x=>do noteFrame x env;theTreesLotGoes x)) _ _ s
 refine wpAny_noted ?_
 rw[compTurn_list]
 refine q4 (wpAny_standAt (q4 (wpAny_mono (turn n s hI) (fun r s₁ h₁=>?_) fun _ _ h'=>h'.elim)))
 cases r with
 |none=>exact qc h₁
 |some v=>
  refine q4 (wpAny_mono h₁ (fun _ s₁' h₁'=>?_) fun _ _ h'=>h'.elim)
  refine q4 (wpAny_mono h₁' (fun _ s₂ h₂=>q4 (wpAny_mono h₂ (fun ok s₃ h₃=>?_) fun _ _ h'=>h'.elim)) fun _ _ h'=>h'.elim)
  cases ok with
  |false=>exact qc ⟨rfl,h₃⟩
  |true=>
   exact q4 (q4 (wpAny_mono h₃ (fun x s₄ h₄=>q4 (wpAny_mono h₄ (fun _ s₅ h₅=>qc (qc ⟨rfl,h₅⟩)) fun _ _ h'=>h'.elim)) fun _ _ h'=>h'.elim))
end
structure bn (esc:Scope) (N:List Str) (scope:Scope) (k:Nat) (Nc:List Str) (js:List Nat):Prop where
 kind:scope.kind=.function
 cell:∀y∈scope.names,y.2≠.cell
 names:∀y∈scope.names,y.2=.local->scope.names.lookup y.1=some .local
 free:∀y∈scope.names,y.2=.free->esc.names.lookup y.1=some .cell\/esc.names.lookup y.1=some .free
 len:Nc.length=k+js.length
 out:∀p∈(Nc.drop k).zip js,N[p.2]?=some p.1/\scope.names.lookup p.1=some .free
def fK (k:Nat) (js:List Nat) (σ:St):St:=List.replicate k none++js.map fun j=>(σ[j]?).join
def Cx.comp (X:Cx) (pins:List (Addr×Obj)) (Nc:List Str) (scope:Scope) (fp:List Addr) (s:Shared) (H:Hp) (C:Addr):Cx:=
 { X with N:=Nc,s₀:=s,H₀:=H,env:=compEnvC scope (cF X.env.cells scope.names []) C X.env,outer:=X.stack,stack:=X.stack,ex:=fp,fn:=fun _=>false,pn:=X.pn++pins,xe:=fun _ _=>False }
section
variable {X:Cx}{pins:List (Addr×Obj)}{σ:St}{H:Hp}{s:Shared}{scope:Scope}{Nc:List Str}{js:List Nat}{k:Nat}
theorem bn.some (S:bn X.env.scope X.N scope k Nc js) (I:Inv X pins σ H s):∀y∈scope.names,y.2=.free->∃c,X.env.cells.lookup y.1=some c:=fun y hy hk=>I.ok.has y.1 (S.free y hy hk)
theorem bn.clos (S:bn X.env.scope X.N scope k Nc js) (I:Inv X pins σ H s):closureFor scope X.env=pure (cF X.env.cells scope.names []):=D8 (S.some I)
theorem D2 (S:bn X.env.scope X.N scope k Nc js) (I:Inv X pins σ H s) {fp:List Addr}(hf:∀b∈fp,cf X pins H b) (hlt:∀b∈fp,b<s.heap.objs.size) {C:Addr}(hC:s.heap.objs.size<=C):(X.comp pins Nc scope fp s H C).Ok:=by
 have ltC:∀b,b<s.heap.objs.size->b≠C:=fun b hb=>qF (qC hb hC)
 have notstk:∀b∈fp,b∉frs X.stack:=fun b hb z=>by
  rcases qt.mp (I.stkSub b z)with e|e
  ·exact(hf b hb).2.1 e
  ·exact(hf b hb).2.2.1 e
 refine⟨I.ok.mod,S.kind,I.ok.glob,I.ok.blt,hC,fun x y c h1 h2=>I.ok.inj x y c (eX h1) (eX h2),fun x hx=>?_,fun x c h=>?_,I.ok.hd,I.ok.frames,.inl rfl,fun b hb=>⟨?_,fun x c e=>(hf b hb).2.2.2.2.1 x c (eX e)⟩,
  fun b o e=>⟨(I.bs b o e).1,(I.bs b o e).2⟩,qx I.ok.bsz I.sz,fun b o e hb=>?_,notstk,I.stack,I.stkFree⟩
 ·have hx':(relabel scope X.env).names.lookup x=some .cell\/(relabel scope X.env).names.lookup x=some .free:=hx
  have hfree:(x,NameKind.free)∈scope.names:=by
   rcases hx' with h|h
   ·obtain⟨k',h1,h2⟩:=sk h
    rcases h2 with rfl|⟨rfl,_⟩
    ·exact absurd rfl (S.cell _ (PySem.mem_of_lookup h1))
    ·exact PySem.mem_of_lookup h1
   ·obtain⟨k',h1,h2⟩:=sk h
    rcases h2 with rfl|⟨rfl,_⟩
    ·exact PySem.mem_of_lookup h1
    ·exact PySem.mem_of_lookup h1
  obtain⟨c,hc⟩:=S.some I (x,.free) hfree rfl
  exact⟨c,uJ hfree hc⟩
 ·exact absurd (show false=true from h) qh
 ·exact ltC b (hlt b hb)
 ·rcases(hf b hb).2.2.2.1 with q|q
  ·exact I.ok.noex b o e q
  ·exact absurd (qC (qp e) (qx I.ok.bsz q)) (Nat.lt_irrefl _)
theorem D3 (S:bn X.env.scope X.N scope k Nc js) (I:Inv X pins σ H s) {fp:List Addr}(hf:∀b∈fp,cf X pins H b) (hlt:∀b∈fp,b<s.heap.objs.size) {C:Addr}(hC:s.heap.objs.size<=C) {s1:Shared}
 (os:s1.os=s.os) (bare:AllBare s1.gens) (kept:∀b o,s.heap.get? b=some o->s1.heap.get? b=some o) (ns:∃m,s1.heap.Ns C m):Inv (X.comp pins Nc scope fp s H C) [] (fK k js σ) H s1:=by
 have ltC:∀b,b<s.heap.objs.size->b≠C:=fun b hb=>qF (qC hb hC)
 refine⟨D2 S I hf hlt hC,os,bare,Un.kept kept,?_,fun x c e=>?_,I.hok.fresh hC,fun x c e=>I.freeC x c (eX e),fun p hp=>?_,I.hok.kept kept,?_⟩
 ·obtain⟨mc,hns⟩:=ns
  refine⟨mc,hns,fun i x v e1 e2 e3=>?_⟩
  have e1':Nc[i]?=some x:=e1
  by_cases hi:i<k
  ·unfold fK at e2
   rw[List.getElem?_append_left (by simpa using hi),List.getElem?_replicate,Q0 hi]at e2
   cases e2
  ·obtain⟨i',rfl⟩:∃i',i=k+i':=⟨i-k,Qo⟩
   unfold fK at e2
   rw[qK (by simp),List.length_replicate,Nat.add_sub_cancel_left,qD]at e2
   cases ej:js[i']? with
   |none=>rw[ej]at e2;cases e2
   |some j=>
    rw[ej]at e2
    have e2':(σ[j]?).join=some v:=qI e2
    have e4:σ[j]?=some (some v):=by
     cases q:σ[j]? with
     |none=>rw[q]at e2';cases e2'
     |some z=>rw[q]at e2';cases z with
      |none=>cases e2'
      |some z=>cases e2';rfl
    have hm:(x,j)∈(Nc.drop k).zip js:=qy (i:=i') (List.getElem?_zip_eq_some.mpr ⟨by rw[List.getElem?_drop];exact e1',ej⟩)
    obtain⟨hN,hfr⟩:=S.out _ hm
    have hfm:(x,NameKind.free)∈scope.names:=PySem.mem_of_lookup hfr
    have hk:=S.free _ hfm rfl
    obtain⟨m,hn,hl⟩:=I.loc
    obtain⟨u,r,l⟩:=hl j x v hN e4 (.inr hk)
    refine⟨u,r,?_⟩
    rcases l with⟨hk',_⟩|⟨_,c,hc,o,ho,hd⟩
    ·have hk'':X.env.scope.names.lookup x=some .local:=hk'
     rcases hk with hk|hk
     ·rw[hk]at hk'';cases hk''
     ·rw[hk]at hk'';cases hk''
    ·exact .inr ⟨yM hfr,c,uJ hfm hc,o,kept _ _ ho,hd⟩
 ·obtain⟨v,o,ho,hd⟩:=I.cell x c (eX e)
  exact⟨v,o,kept _ _ ho,hd⟩
 ·have hp':p∈X.pn++pins:=by
   rcases qg.mp hp with z|z
   ·exact z
   ·exact nomatch z
  obtain⟨e,n,ne,nf,d⟩:=I.pin p hp'
  refine⟨kept _ _ e,n,ltC _ (qp e),fun z=>?_,d⟩
  rcases qt.mp (I.stkSub _ z)with q|q
  ·exact ne q
  ·exact nf q
 ·show(fK k js σ).length=Nc.length
  unfold fK
  rw[qa,List.length_replicate,q5,S.len]
theorem D4 (I:Inv X pins σ H s) {fp:List Addr}(hf:∀b∈fp,cf X pins H b) {C D:Addr}(hDs:s.heap.objs.size<=D) {pins':List (Addr×Obj)}{σ':St}{H':Hp}{s':Shared}{ys:List V}{its:List Value}{n:Nat}
 (J:Inv (X.comp pins Nc scope fp s H C) pins' σ' H' s') (hD:H' D=none) (hz:ys.length<=sizeLine) (hv:au ys its) (ho:s'.heap.get? D=some { cls:=.type "list",data:=.seq its.toArray n }):
 Inv X pins σ (upd H' D (.lst ys)) s':=by
 have B:Un (frs X.stack) fp H H' s.heap s'.heap:=J.base
 have neD:∀b o,s.heap.get? b=some o->b≠D:=fun b o e=>qF (qC (qp e) hDs)
 refine I.call' (ch:=fp) J.os ⟨B.keep,B.slot,fun b o e n hx=>?_,B.there,fun b xs e=>?_,fun b o u e=>?_,fun b ps e=>?_⟩ (fun b o e=>?_) J.bare fun b hb=>⟨(hf b hb).2.2.2.1,(hf b hb).2.1,(hf b hb).2.2.2.2.1,(hf b hb).2.2.2.2.2⟩
 ·rw[aj (neD b o e)];exact B.free b o e n hx
 ·rw[aj (bN (B.tups b xs e) hD)];exact B.tups b xs e
 ·rw[aj (bN (B.frzs b o u e) hD)];exact B.frzs b o u e
 ·obtain⟨more,q⟩:=B.tbls b ps e
  exact⟨more,by rw[aj (bN q hD)];exact q⟩
 ·by_cases hb:b=D
  ·subst hb
   rw[ae]at e
   cases e
   exact⟨hz,its,n,hv,ho⟩
  ·rw[aj hb]at e
   exact(J.hok b o e).stay (fun c v _ q=>q) (fun c q=>by rw[aj (bN q hD)];exact q) fun c xs q=>by rw[aj (bN q hD)];exact q
end
def PTs (Y:Cx) (ifs:List Expr) (t:TT):Prop:=
 ∀(pins:List (Addr×Obj)) (s:Shared) (σ:St) (H:Hp) (Q:Bool->Hp->Prop),Inv Y pins σ H s->t σ H Q->
  wpAny (model Y.prog Y.w) Y.A (forIn ifs true fun c r=>if r=true then do let ok <- isTrue c Y.env (eval c Y.env);pure (ForInStep.yield ok)else pure (ForInStep.yield r)) (TP Y pins σ Q) Y.xe s
def i5:TT:=fun _ H Q=>Q true H
theorem dM {Y:Cx}:PTs Y [] i5:=fun _ _ _ H _ I h=>wpAny_tests_nil ⟨H,I,h⟩
theorem jx {Y:Cx}{c:Expr}{t:TT}(h:PT Y c t):PTs Y [c] t:=fun pins s σ H Q I hq=>wpAny_tests_one (h pins s σ H Q I hq)
def gg (J:It) (g:TG) (tt:TT) (te:TE) (Fin:List V->Hp->Prop) (W:Nat->Nat->List V->St->Hp->Prop):Prop:=
 ∀i m ys σ H,W i m ys σ H->(J.stop i H/\ys.length<=sizeLine/\Fin ys H)\/(J.go i H/\ys.length<sizeLine/\∃N:List V->St->Hp->Prop,(∀ys' σ' H',N ys' σ' H'->∃m',m'<m/\W (i+1) m' ys' σ' H') /\
  ∀x H',J.yld i H x H'->g x σ H' fun σ2 H2=>tt σ2 H2 fun b H3=>if b=true then te σ2 H3 fun y H4=>N (ys++[y]) σ2 H4 else N ys σ2 H3)
section
variable {X:Cx}{pins:List (Addr×Obj)}{σ:St}{H:Hp}{s:Shared}{scope:Scope}{Nc:List Str}{js:List Nat}{k:Nat}{tg iter elt:Expr}{ifs:List Expr}{pos:Pos}{g:TG}{tt:TT}{te:TE}
theorem vH {J:It}{fp:List Addr}{it:Addr}{tn:Nat->Heap->Prop}{Fin:List V->Hp->Prop}{W:Nat->Nat->List V->St->Hp->Prop}{RR:Value->Addr->Result->Shared->Prop}{E:Qq}{m0:Nat}
 (S:bn X.env.scope X.N scope k Nc js) (hc:X.calm=true) (I:Inv X pins σ H s) (T:fU X.prog X.w X.K tg J fp it tn) (st:tn 0 s.heap) (hf:∀b∈fp,cf X pins H b)
 (hg:∀pins fp s H C,PG (X.comp pins Nc scope fp s H C) tg g) (ht:∀pins fp s H C,PTs (X.comp pins Nc scope fp s H C) ifs tt) (he:∀pins fp s H C,PE (X.comp pins Nc scope fp s H C) elt te)
 (w0:W 0 m0 [] (fK k js σ) H) (turn:gg J g tt te Fin W)
 (hRR:∀D C s' ys H',Inv X pins σ (upd H' D (.lst ys)) s'->cf X pins (upd H' D (.lst ys)) C->(∃m,s'.heap.Ns C m)->H' D=none->Fin ys H'->RR (.ref D) C (.ok .next) s'):
 wpAny (model X.prog X.w) X.A (newList []) (fun acc s₃=>wpAny (model X.prog X.w) X.A (newFunctionEnv scope X.env.globals (cF X.env.cells scope.names []) [] X.env.qual none .none (some X.env)) (fun cenv s₄=>
  codeAny (model X.prog X.w) X.A (.compStart (.ListComp elt [⟨tg,iter,ifs,0⟩] scope pos) 0 (.ref it) acc { cenv with scope:=relabel scope X.env }) (RR acc cenv.locals) s₄) E s₃) E s:=by
 refine wpAny_newObj_type (wpAny_newFunctionEnv S.cell (by intro y hy;simp at hy) (fun h₁ hns₁ hsb₁=>?_) S.kind)
 dsimp only at hns₁ hsb₁ ⊢
 generalize hH2:s.heap.push { cls:=.type "list",dict:=none,data:=.seq ([]:List Value).toArray }=H2 at hns₁ hsb₁ ⊢
 have hC:H2.objs.size=s.heap.objs.size+1:=by rw[<- hH2,Heap.size_push]
 have hCle:s.heap.objs.size<=H2.objs.size:=by rw[hC];exact Nat.le_succ _
 have hDC:s.heap.objs.size≠H2.objs.size:=by rw[hC];exact qF (Nat.lt_succ_self _)
 have old:∀b o,s.heap.get? b=some o->h₁.get? b=some o:=fun b o e=>
  hsb₁.extBut b o (qF (qC (qp e) hCle)) (q9 _ (hH2▸q9 _ e))
 have hacc:h₁.get? s.heap.objs.size=some { cls:=.type "list",data:=.seq ([]:List Value).toArray 0 }:=hsb₁.extBut _ _ hDC (q9 _ (hH2▸qo _ rfl))
 have hob:∀b∈fp,∃o,s.heap.get? b=some o:=fun b hb=>let ⟨o,e,_⟩:=T.obj 0 _ st b hb;⟨o,e⟩
 have hlt:∀b∈fp,b<s.heap.objs.size:=fun b hb=>let ⟨_,e⟩:=hob b hb;qp e
 have notstk:∀b∈fp,b∉frs X.stack:=fun b hb z=>by
  rcases qt.mp (I.stkSub b z)with e|e
  ·exact(hf b hb).2.1 e
  ·exact(hf b hb).2.2.1 e
 have hDstk:s.heap.objs.size∉frs X.stack:=fun z=>by
  rcases qt.mp (I.stkSub _ z)with e|e
  ·have:=I.lt
   rw[<- e]at this
   exact Nat.lt_irrefl _ this
  ·exact I.nofs (qd _) e
 let dpin:List Value->Nat->List (Addr×Obj):=fun its n=>[(s.heap.objs.size,{ cls:=.type "list",data:=.seq its.toArray n })]
 have fpok:∀{H':Hp}{its:List Value}{n:Nat},(∀b∈fp,H' b=none)->∀b∈fp,cf (X.comp pins Nc scope fp s H H2.objs.size) (dpin its n) H' b:=fun{H' its n} hn b hb=>
  ⟨hn b hb,qF (qC (hlt b hb) hCle),notstk b hb,.inl hb,fun x c e=>(hf b hb).2.2.2.2.1 x c (eX e),fun p hp z=>by
   rcases qg.mp hp with q|q
   ·exact(hf b hb).2.2.2.2.2 p q z
   ·have e:p=(s.heap.objs.size,_):=qS.mp q
    rw[e]at z
    exact absurd (hlt b hb) (by rw[<- z];exact Nat.lt_irrefl _)⟩
 have loop:∀s₃:Shared,s₃={ s with heap:=h₁,toks:=s.toks+([]:List (Str×Value)).length }->
  codeAny (model X.prog X.w) X.A (.compLoop (.ListComp elt [⟨tg,iter,ifs,0⟩] scope pos) 0 (.ref it) (.ref s.heap.objs.size) (compEnvC scope (cF X.env.cells scope.names []) H2.objs.size X.env)) (RR (.ref s.heap.objs.size) H2.objs.size) s₃:=by
  rintro s₃ rfl
  refine D5 (fun n s'=>∃i ys its nn σc H',Inv (X.comp pins Nc scope fp s H H2.objs.size) [] σc H' s'/\tn i s'.heap/\(∀b∈fp,H' b=none)/\H' s.heap.objs.size=none/\au ys its /\
   s'.heap.get? s.heap.objs.size=some { cls:=.type "list",data:=.seq its.toArray nn }/\W i n ys σc H') ?_ m0 ?_
  ·rintro n s3 ⟨i,ys,its,nn,σ3,H3,I3,st3,fr3,hD3,hv3,ho3,w3⟩
   have I3':Inv (X.comp pins Nc scope fp s H H2.objs.size) (dpin its nn) σ3 H3 s3:=I3.pins_of fun p hp=>by
    have e:p=(s.heap.objs.size,_):=qS.mp hp
    subst e
    exact⟨ho3,hD3,hDC,hDstk,fun v z=>by cases z⟩
   rcases turn i n ys σ3 H3 w3 with⟨stop,hz,fin⟩|⟨go,hz,N,hN,step⟩
   ·refine thn (T.done (X.comp pins Nc scope fp s H H2.objs.size) rfl rfl rfl hc i (dpin its nn) s3 σ3 H3 (fun _ _=>False) I3' (fpok fr3) st3 stop) fun r s4 ⟨hr,I4⟩=>?_
    subst hr
    have ho4:=(I4.pin _ (qH _ (qS.mpr rfl))).1
    obtain⟨m4,hn4,_⟩:=I4.loc
    refine hRR _ _ s4 ys H3 (D4 I hf (qd _) I4 hD3 hz hv3 ho4) (I.fpOk hCle ?_) ⟨m4,hn4⟩ hD3 fin
    rw[aj (Ne.symm hDC)]
    exact I4.free
   ·refine thn (T.item (X.comp pins Nc scope fp s H H2.objs.size) rfl rfl rfl hc i (dpin its nn) s3 σ3 H3 (fun _ _=>False) I3' (fpok fr3) st3 go) fun r s4 ⟨u,hr,h4⟩=>?_
    subst hr
    refine thn h4 fun _ s5 ⟨x,H5,I5,r5,y5,st5,fr5⟩=>?_
    have I5':=I5.pinned (fpok fr5) (T.obj _ _ st5)
    refine thn (hg pins fp s H H2.objs.size _ s5 σ3 H5 x u _ I5' r5 (step x H5 y5)) fun _ s6 ⟨σ6,H6,I6,q6⟩=>?_
    refine thn (ht pins fp s H H2.objs.size _ s6 σ6 H6 _ I6 q6) fun ok s7 ⟨H7,I7,q7⟩=>?_
    have keepIt:∀{σ':St}{H':Hp}{s':Shared},Inv (X.comp pins Nc scope fp s H H2.objs.size) (dpin its nn++iw fp s5.heap) σ' H' s'->
     s'.heap.get? s.heap.objs.size=some { cls:=.type "list",data:=.seq its.toArray nn }/\H' s.heap.objs.size=none/\(∀b∈fp,H' b=none)/\(∀b∈fp,∀o,s5.heap.get? b=some o->s'.heap.get? b=some o):=fun{σ' H' s'} J=>by
     have p1:=J.pin (s.heap.objs.size,_) (qH _ (qV _ (qS.mpr rfl)))
     refine⟨p1.1,p1.2.1,fun b hb=>?_,fun b hb o e=>(J.pin (b,o) (qH _ (qH _ (jK hb e)))).1⟩
     obtain⟨o,e,_⟩:=T.obj _ _ st5 b hb
     exact(J.pin (b,o) (qH _ (qH _ (jK hb e)))).2.1
    cases ok with
    |true=>
     rw[Q0 rfl]at q7 ⊢
     refine thn (he pins fp s H H2.objs.size _ s7 σ6 H7 _ I7 q7) fun y s8 ⟨v,H8,I8,r8,q8⟩=>?_
     obtain⟨ho8,hD8,fr8,k8⟩:=keepIt I8
     refine append_at (hsz:=by have:=hv3.length;show its.toArray.size<=sizeLine;rw[qA,<- this];exact Nat.le_of_lt hz) ho8 fun h9 hs9 ho9=>?_
     obtain⟨m',hm',w9⟩:=hN _ _ _ q8
     have I8u:Inv (X.comp pins Nc scope fp s H H2.objs.size) [] σ6 H8 s8:=I8.pins_of fun p hp=>nomatch hp
     have I9:Inv (X.comp pins Nc scope fp s H H2.objs.size) [] σ6 H8 { s8 with heap:=h9 }:=I8u.turned (t':=s8.toks) (it:=s.heap.objs.size) (fun b o hb e=>(hs9.2 b hb).trans e) hD8 hDC (.inr (qd _)) (fun x c e z=>by
      obtain⟨v,q⟩:=I.cell x c (eX e)
      exact absurd q.lt (by rw[z];exact Nat.lt_irrefl _)) fun p hp z=>by
       have hp':p∈X.pn++pins:=by
        rcases qg.mp hp with q|q
        ·exact q
        ·exact nomatch q
       exact absurd (qp (I.pin p hp').1) (by rw[z];exact Nat.lt_irrefl _)
     refine⟨m',hm',i+1,ys++[v],its++[y],nn+1,σ6,H8,I9,T.keep _ _ _ st5 fun b hb o e=>(hs9.2 b (qF (hlt b hb))).trans (k8 b hb o e),fr8,hD8,hv3.append (.cons r8 .nil),?_,w9⟩
     show h9.get? s.heap.objs.size=_
     rw[ho9]
     simp
    |false=>
     rw[qZ qh]at q7 ⊢
     obtain⟨ho8,hD8,fr8,k8⟩:=keepIt I7
     obtain⟨m',hm',w9⟩:=hN _ _ _ q7
     exact⟨m',hm',i+1,ys,its,nn,σ6,H7,I7.pins_of fun p hp=>(nomatch hp),T.keep _ _ _ st5 k8,fr8,hD8,hv3,ho8,w9⟩
  ·exact⟨0,[],[],0,_,H,D3 S I hf hlt hCle rfl I.bare old ⟨_,hns₁⟩,T.keep _ _ _ st fun b _ o e=>old b o e,fun b hb=>(hf b hb).1,I.hok.fresh (qd _),.nil,hacc,w0⟩
 exact codeAny_compStart_list (loop _ rfl) (T.self X.A 0 _ _ _ (T.keep _ _ _ st fun b _ o e=>old b o e) (loop _ rfl))
def p7 (wi:TI) (k:Nat) (js:List Nat) (g:TG) (tt:TT) (te:TE):TE:=fun σ H Q=>wi σ H fun J H1=>∃W:Nat->Nat->List V->St->Hp->Prop,(∃m,W 0 m [] (fK k js σ) H1) /\
 gg J g tt te (fun ys H=>∀D,H D=none->Q (.ref D) (upd H D (.lst ys))) W
theorem cW {wi:TI}(S:bn X.env.scope X.N scope k Nc js) (hc:X.calm=true) (hi:PI X tg iter wi)
 (hg:∀pins fp s H C,PG (X.comp pins Nc scope fp s H C) tg g) (ht:∀pins fp s H C,PTs (X.comp pins Nc scope fp s H C) ifs tt) (he:∀pins fp s H C,PE (X.comp pins Nc scope fp s H C) elt te)
 (hs:∀x,foldedSetIterable iter X.env x=pure x:=by intro _;rfl):PE X (.ListComp elt [⟨tg,iter,ifs,0⟩] scope pos) (p7 wi k js g tt te):=by
 intro pins s σ H Q I h
 rw[eval_ListComp]
 refine wpAny_comprehension_free (use:=none) rfl hs (S.clos I) S.kind S.names (thn (hi pins s σ H _ I h) fun xv s1 h1=>thn h1 fun itv s2 h2=>?_)
 obtain⟨it,fp,tn,J,H2,e,I2,T,st2,f2,W,⟨m0,w0⟩,turn⟩:=h2
 subst e
 refine vH (RR:=fun acc C=>compPost (model X.prog X.w) X.A X.xe none (EP X pins σ Q) acc C) S hc I2 T st2 f2 hg ht he w0 turn fun D C s' ys H' I' fC ns hD fin=>?_
 obtain⟨m,hn⟩:=ns
 exact⟨m,hn,fun h' hs'=>⟨.ref D,_,I'.turned (t':=s'.toks) (fun b o hb e=>(hs'.2 b hb).trans e) fC.1 fC.2.1 fC.2.2.2.1 fC.2.2.2.2.1 fC.2.2.2.2.2,rfl,fin D hD⟩⟩
theorem zy {wi:TI}{i:Nat}{x:Str}{px spos:Pos}(hN:X.N.Nodup) (hi':X.N[i]?=some x) (hx:Loc X.env.scope x) (S:bn X.env.scope X.N scope k Nc js) (hc:X.calm=true) (hi:PI X tg iter wi)
 (hg:∀pins fp s H C,PG (X.comp pins Nc scope fp s H C) tg g) (ht:∀pins fp s H C,PTs (X.comp pins Nc scope fp s H C) ifs tt) (he:∀pins fp s H C,PE (X.comp pins Nc scope fp s H C) elt te)
 (hsw:swapsWith (.ListComp elt [⟨tg,iter,ifs,0⟩] scope pos) (some (.Name x px)) spos.line X.env=pure true:=by rfl)
 (hs:∀x,foldedSetIterable iter X.env x=pure x:=by intro _;rfl) (hf:X.fn x=true\/X.env.scope.names.lookup x=some .local:=by first|exact .inl rfl|exact .inr rfl|assumption):
 PS X (.Assign [.Name x px] (.ListComp elt [⟨tg,iter,ifs,0⟩] scope pos) spos) (kz (p7 wi k js g tt te) (iI i)):=by
 intro pins s σ H D I h
 rw[exec_Assign_Name_used _ _ _ _ hsw]
 refine q4 (wpAny_standAt (q4 ?_))
 show wpAny _ X.A (do let _ <- comprehension (.ListComp elt [⟨tg,iter,ifs,0⟩] scope pos) scope X.env _ (newList []) false (eval iter X.env) (some (assign (.Name x px) X.env))) _ _ s
 refine q4 (wpAny_mono (wpAny_comprehension_free (use:=some (assign (.Name x px) X.env)) (Q:=fun _ s'=>SP X pins D .next s') rfl hs (S.clos I) S.kind S.names
  (thn (hi pins s σ H _ I h) fun xv s1 h1=>thn h1 fun itv s2 h2=>?_)) (fun _ s' hq=>qc (qc hq)) fun _ _ e=>e)
 obtain⟨it,fp,tn,J,H2,e,I2,T,st2,f2,W,⟨m0,w0⟩,turn⟩:=h2
 subst e
 refine vH (RR:=fun acc C=>compPost (model X.prog X.w) X.A X.xe (some (assign (.Name x px) X.env)) (fun _ s'=>SP X pins D .next s') acc C) S hc I2 T st2 f2 hg ht he w0 turn fun A C s' ys H' I' fC ns hD fin=>?_
 obtain⟨m,hn⟩:=ns
 show wpAny _ X.A (assign (.Name x px) X.env (.ref A)) _ _ _
 refine wpAny_assign_Name (pf I' hN hi' hx (v:=.ref A) rfl (fun s'' I'' ⟨a,sb,ha⟩=>?_) hf)
 have hCa:C≠a:=by
  rcases ha with ha|ha
  ·rw[ha];exact fC.2.1
  ·exact fun z=>fC.2.2.2.2.1 x a ha z.symm
 exact⟨m,hn.sameBut sb hCa,fun h' hs'=>⟨_,_,I''.turned (t':=s''.toks) (fun b o hb e=>(hs'.2 b hb).trans e) fC.1 fC.2.1 fC.2.2.2.1 fC.2.2.2.2.1 fC.2.2.2.2.2,fin A hD⟩⟩
end
section
variable {X:Cx}{tg:Expr}
def yR:V->Option Int->Option Int->Hp->VK->Prop:=fun x lo hi H Q=>∃z,x=.str z/\z.length<=sizeLine/\Q (.str (Txt.slice z lo hi)) H
theorem xX:SlR X yR:=by
 intro pins s σ H x v vl vu lo hi sl Q I rx hs pl pu h
 obtain⟨z,rfl,hz,q⟩:=h
 obtain⟨t,rfl⟩:=rx
 refine⟨"str",_,PySem.F.slot_str_getitem.lookup,typeIs_str _ _ _,?_⟩
 have fin:∀t' k,EP X pins σ Q (.str (Txt.slice z lo hi) t') { s with toks:=k }:=fun t' k=>⟨.str _,H,I.tok k,⟨t',rfl⟩,q⟩
 cases pl with
 |none=>
  cases pu with
  |none=>exact wpAny_getItem_str_slice (l:=none) (u:=none) (st:=none) hs rfl (post_val_or_str ⟨qx (Txt.slice_le z _ _) hz,fin⟩)
  |int j tj=>exact wpAny_getItem_str_slice (l:=none) (u:=some (j,tj)) (st:=none) hs rfl (post_val_or_str ⟨qx (Txt.slice_le z _ _) hz,fin⟩)
 |int i ti=>
  cases pu with
  |none=>exact wpAny_getItem_str_slice (l:=some (i,ti)) (u:=none) (st:=none) hs rfl (post_val_or_str ⟨qx (Txt.slice_le z _ _) hz,fin⟩)
  |int j tj=>exact wpAny_getItem_str_slice (l:=some (i,ti)) (u:=some (j,tj)) (st:=none) hs rfl (post_val_or_str ⟨qx (Txt.slice_le z _ _) hz,fin⟩)
theorem tu:OpR X (binaryOp .Mult) (fun x y H Q=>∃z n,x=.str z/\y=.int n/\MulOk z n/\Q (.str (Txt.mul z n)) H):=by
 intro pins s σ H x y v u Q I rx ry h
 obtain⟨z,n,rfl,rfl,hm,q⟩:=h
 obtain⟨t,rfl⟩:=rx
 obtain⟨t',rfl⟩:=ry
 exact PySem.SB.mul hm fun t' k=>⟨.str _,H,I.tok k,⟨t',rfl⟩,q⟩
theorem A7:OpR X (binaryOp .Mult) (rI IntMulOk fun i j=>.int (i * j)):=opI fun _ _ _ _ _ _ _ hc q=>mul_int q hc
theorem Di:bT X (.builtin "isinstance") (fun xs H Q=>∃x t T b,xs=[x,.ty T]/\cH X.K H x t/\PySem.W.kitOne X.K t (.type T)=some b/\Q (.bl b) H):=by
 intro pins s σ H xs us Q I r h
 obtain⟨x,t,T,b,rfl,ty,e,q⟩:=h
 obtain⟨u,c,rfl,ru,rc⟩:=km r
 have ec:c=.type T:=rc
 subst ec
 exact BS I ru ty e fun tk=>⟨.bl b,H,I.tok tk,rfl,q⟩
def zb (K:PySem.W.Frag):R2:=fun x y H Q=>∃l b xs zs,x=.ref l/\y=.ref b/\SqL K H l xs/\SqL K H b zs/\xs.length+zs.length<=sizeLine/\∀p,H p=none->Q (.ref p) (upd H p (.lst (xs++zs)))
theorem Ag:OpR X (binaryOp .Add) (zb X.K):=by
 intro pins s σ H x y v u Q I rx ry h
 obtain⟨l,b,xs,zs,rfl,rfl,hH,hB,hz,q⟩:=h
 cases rx
 cases ry
 obtain⟨its,r,pl,z1⟩:=I.list hH
 obtain⟨its2,r2,pl2,z2⟩:=I.list hB
 have hl1:=r.length
 have hl2:=r2.length
 obtain⟨⟨cls,dd,data,sl⟩,n,ho,hc,_,hd⟩:=pl
 obtain⟨⟨cls2,dd2,data2,sl2⟩,n2,ho2,hc2,_,hd2⟩:=pl2
 simp only at hc hd hc2 hd2
 subst hc hd hc2 hd2
 refine concat_meets ⟨_,ho,rfl⟩ ⟨_,ho2,rfl⟩ noFill_list_add seq_list_add PySem.F.slot_list_add PySem.F.entry_list_add (PySem.F.args_list_add_2 _ _) (list_addW l b its.toArray its2.toArray n n2 dd dd2 sl sl2 (by rw[qA,qA];omega)) ⟨ho,ho2,?_⟩
 have ea:its.toArray++its2.toArray=(its++its2).toArray:=by simp
 rw[ea]
 exact⟨.ref _,_,I.lnew (t':=s.toks) (r.append r2) (by rw[qa];omega),rfl,q _ I.fresh⟩
end
section
variable {X:Cx}
end
theorem oH {te:TE}{N N':V->St->Hp->Prop}{M:St->Hp->Prop}:(fun(σ2:St) (H2:Hp)=>i5 σ2 H2 fun b H3=>if b=true then te σ2 H3 fun y H4=>N y σ2 H4 else M σ2 H3)=fun σ2 H2=>te σ2 H2 fun y H4=>N y σ2 H4:=by
 funext σ2 H2
 unfold i5
 dsimp only
 rw[Q0 rfl]
def og (e:Expr):Option V:=match e with
 |.Constant (.str x) _ _=>some (.str x)
 |.Constant (.int i) _ _=>some (.int i)
 |.Constant (.bool b) _ _=>some (.bl b)
 |.Constant .none _ _=>some .non
 |_=>none
def oa:List Expr->Option (List V)
 |[]=>some []
 |e::es=>match og e,oa es with
  |some v,some vs=>some (v::vs)
  |_,_=>none
def x5 (vs:List V):TA:=fun _ H Q=>Q vs H
theorem zS {X:Cx}{e:Expr}{v:V}(h:og e=some v):PE X e (tC v)/\∀es,starEach (e::es) X.env=(false,eval e X.env)::starEach es X.env:=by
 unfold og at h
 split at h
 ·cases h;exact⟨aF,fun _=>rfl⟩
 ·cases h;exact⟨ag,fun _=>rfl⟩
 ·cases h;exact⟨fD,fun _=>rfl⟩
 ·cases h;exact⟨eJ,fun _=>rfl⟩
 ·cases h
theorem tq {X:Cx}:∀{es:List Expr}{vs:List V},oa es=some vs->PA X es (x5 vs)
 |[],vs,h=>by cases h;exact ac
 |e::es,vs,h=>by
  unfold oa at h
  split at h
  ·rename_i v ws h1 h2
   cases h
   obtain⟨p,s⟩:=zS (X:=X) h1
   exact a9 p (tq h2) (s es)
  ·cases h
section
variable {X:Cx}
theorem AT:OpR X (binaryOp .Add) (fun x y H Q=>∃i j,x=.int i/\y=.int j/\Q (.int (i+j)) H):=Ai
theorem AM:OpR X (binaryOp .Sub) (fun x y H Q=>∃i j,x=.int i/\y=.int j/\Q (.int (i-j)) H):=zY
theorem iB:OpR X (binaryOp .Mult) (fun x y H Q=>∃i j,x=.int i/\y=.int j/\IntMulOk i j/\Q (.int (i * j)) H):=A7
theorem AS:OpR X (binaryOp .FloorDiv) (fun x y H Q=>∃i j,x=.int i/\y=.int j/\(0<j/\j<1073741824)/\Q (.int (i / j)) H):=Ad
theorem AN:OpR X (binaryOp .Mod) (fun x y H Q=>∃i j,x=.int i/\y=.int j/\0<j/\Q (.int (i % j)) H):=A8
theorem iA:OpR X (binaryOp .Pow) (fun x y H Q=>∃i j,x=.int i/\y=.int j/\(0<=j/\j<=1000000/\i.natAbs<2 ^ 64)/\Q (.int (i ^ j.toNat)) H):=A0
theorem AO:OpR X (compareOp .Lt) (fun x y H Q=>∃i j,x=.int i/\y=.int j/\Q (.bl (decide (i<j))) H):=A9
theorem AQ:OpR X (compareOp .Gt) (fun x y H Q=>∃i j,x=.int i/\y=.int j/\Q (.bl (decide (j<i))) H):=Ab
theorem AR:OpR X (compareOp .GtE) (fun x y H Q=>∃i j,x=.int i/\y=.int j/\Q (.bl (decide (j<=i))) H):=Ac
end
end L2
namespace Att
open PySem PySem.W PySem.Calls PyProof.Rows
theorem yi {ns:List Int}(h:WData.layableAll [WData.list (ns.map WData.int)]=true):∀n∈ns,Builtin.Int.intBits n<=2 ^ 20:=fun n hn=>by
 have h1:=layableW_arg h _ (qS.mpr rfl)
 have h2:=layableW_item h1 (WData.int n) (List.mem_map.mpr ⟨n,hn,rfl⟩)
 exact PyData.bits_of_layable (layable0_of_all (lay0_int h2))
theorem attach_callB {l:OpenLaw}{n:Nat}{q:Program}{loose:List Str}{XP:(Str->Option Value)->Heap->Prop}{YP:World->Heap->Prop}{d:DefRec}
 (hn:l.most=some n) (hdf:d.params.defaults=[])
 (call:∀(w:World) (s₀ s₁:Shared) (mg mb:Str->Option Value) (fa:Addr) (o:Obj) (pm cd doc:Value) (a:Addr) (vs:List Value) (ns:List Int),
  Ground q loose [] XP w s₀ mg mb s₁.heap->YP w s₁.heap->
  s₁.heap.get? fa=some o->o.data=.func (docDef d.name d.params d.body d.scope pm cd doc)->s₁.heap.CodeRec cd d.name->mg d.name=some (.ref fa)->
  s₁.heap.get? a=some { cls:=.type "list",data:=.seq vs.toArray }->IntsAre vs ns->ns.length<=n->(∀k∈ns,Builtin.Int.intBits k<=2 ^ 20)->s₁.gens=#[]->
  codeAny (model l.prog w) callerA (.call (.ref fa) ⟨[.ref a],[]⟩) (fun r s'=>r=.ok (.ret (.bool true))/\OldK s₁.heap s'.heap/\s'.os=s₁.os/\AllBare s'.gens) s₁):
 WalkO q loose XP YP l.row.toRowW d [] (fun f vs=>PySem.call f vs):=by
 intro w s₀ s₁ mg mb G Y fa o pm cd doc dV kV ho hd hcd hD hmg hg args vals as hpre hlay hrd hwl hlo
 obtain rfl:dV=.none:=Dflts.none hD hdf
 obtain rfl:kV=.none:=Dflts.noKw hD
 obtain⟨a,vs,ns,rfl,rfl,hobj,hints,hlen⟩:=yh hn hpre hwl
 refine enter_call (codeAny_mono (call w s₀ s₁ mg mb fa o pm cd doc a vs ns G Y ho (fd_plain hd) hcd hmg hobj hints hlen (yi hlay) hg) fun r s' hq=>?_)
 obtain⟨rfl,h2,h3,h4⟩:=hq
 exact⟨.inl ⟨.bool true,.bool true,[],rfl,fun _=>rfl,.bool true,zD l _,fun _=>⟨List.Pairwise.nil,fun _ hm=>(nomatch hm)⟩⟩,h2,h3,h4⟩
end Att
namespace L2
open PySem PySem.Spec PyProof.Rows
theorem wI {l:PySem.W.OpenLaw}{n k:Nat}{q:Program}{loose:List Str}{XP:(Str->Option Value)->Heap->Prop}{YP:World->Heap->Prop}{d:DefRec}{K:Params->PySem.W.Frag}{CX:World->CXT}{sp:World->Sp}{x:Str}
 (hn:l.most=some n) (hn2:n<=sizeLine) (hdf:d.params.defaults=[]) (hr:bE k callerA)
 (hY:∀(w:World) (h:Heap),YP w h->(K w.params).In h)
 (F:∀(w:World) (mg:Str->Option Value) (fa:Addr) (h:Heap),(K w.params).In h->h.Ns mainGlobals mg->mg d.name=some (.ref fa)->
  ∃fd:FuncData,(∀(s:Shared) (u:Value),BindsTo s fd ⟨[u],[]⟩ [(x,u)]) /\
   ∀base:Heap,(K w.params).In base->base.Ns mainGlobals mg->aC l.prog w (K w.params) mg base (CX w) k fa fd [x] (sp w))
 (hsp:∀(w:World) (H:Hp) (a:Addr) (ns:List Int),ns.length<=n->(∀k∈ns,Builtin.Int.intBits k<=2 ^ 20)->kg H->SqL (K w.params) H a (ns.map V.int)->sp w [.ref a] H (fun v _=>v=.bl true) fun _ _ _=>False)
 (hCX:∀(w:World) (H:Hp) (s:Shared) (e:Value) (s':Shared),CX w [] H s (fun _ _ _=>False) e s'->False):
 PySem.W.WalkO q loose XP YP l.row.toRowW d [] (fun f vs=>PySem.call f vs):=by
 refine Att.attach_callB hn hdf fun w s₀ s₁ mg mb fa o pm cd doc a vs ns G Y ho hd hcd hmg hobj hints hlen hbits hg=>?_
 have KX:=hY w _ Y
 obtain⟨fd,hb,hF⟩:=F w mg fa _ KX G.T.g hmg
 exact BB KX G.T.g G.T.b G.T.builtins G.T.nolimit hg hobj hints (qx hlen hn2) hr hF hb (fun H hO hS=>hsp w H a ns hlen hbits hO hS) fun H e s'=>hCX w H s₁ e s'
theorem aa.new {H:Hp}{p:Addr}(h:H p=none) (o:HO):aa H (upd H p o):=fun b u q=>by rw[aj (bN q h)];exact q
theorem aX {n m:Nat}(h:n<=m) (hm:m<=1000000:=by decide):n<=sizeLine:=qx h (qx hm (by rw[sizeLine_eq];decide))
theorem xL (x y:Str):(x++y).length=x.length+y.length:=strLen_append x y
theorem nF {L Pc c A B:Prop}{inst:Decidable c}(hw:¬ c->Pc) (rest:Pc->L) (h:c->(Pc->L)->A) (e:B=L:=by rfl):@ite Prop c inst A B:=by
 subst e
 by_cases hc:c
 ·rw[Q0 hc];exact h hc rest
 ·rw[qZ hc];exact rest (hw hc)
theorem Bu {i:Int}(h:i.natAbs<2 ^ 1000):i.natAbs.log2<1920:=by
 by_cases h0:i.natAbs=0
 ·rw[h0];decide
 ·exact Nat.lt_trans ((Nat.log2_lt h0).mpr h) Qk
theorem uQ (c:Array Nat):∀(k:Nat) (acc:Array Nat),((List.replicate k c).foldl (·++·) acc).size=acc.size+k * c.size
 |0,acc=>by simp
 |k+1,acc=>by
  rw[List.replicate_succ,List.foldl_cons,uQ c k,Array.size_append,Nat.succ_mul]
  omega
theorem Bg (z:Str) {n:Int}(h0:0<=n):(Txt.mul z n).length=z.length * n.toNat:=by
 unfold Txt.mul
 by_cases h1:n<1
 ·rw[Q0 h1]
  have e:n.toNat=0:=Qo
  rw[e,Nat.mul_zero]
  rfl
 ·rw[qZ h1]
  by_cases h2:(n == 1 || z.length == 0)=true
  ·rw[Q0 h2]
   simp only[Bool.or_eq_true,beq_iff_eq]at h2
   rcases h2 with rfl|h2
   ·simp
   ·rw[h2];simp
  ·rw[qZ h2]
   show((List.replicate n.toNat z.cps).foldl (·++·) #[]).size=z.cps.size * n.toNat
   rw[uQ]
   simp[Nat.mul_comm]
theorem tV {z:Str}{n:Int}(hz:z.length<=1000) (h0:0<=n) (h1:n<=1000):MulOk z n:=by
 refine⟨?_,fun h2 _=>?_,fun _ _=>?_⟩
 ·rw[decide_eq_false Qo,decide_eq_false Qo]
  rfl
 ·have h3:(1000:Int)<=(2 ^ 63-1) / n:=by
   rw[Int.le_ediv_iff_mul_le Qo]
   omega
  omega
 ·have h4:z.length * n.toNat<=1000 * 1000:=Nat.mul_le_mul hz Qo
  unfold Builtin.Str.tooLong
  have:=sizeLine_eq
  simp
  omega
def SIt (h:Heap):Bool->Addr->Addr->Nat->Prop
 |false,it,l,k=>h.IsListIter it l k
 |true,it,l,k=>h.IsTupleIter it l k
def SSq (h:Heap):Bool->Addr->Array Value->Prop
 |false,l,xs=>h.IsList l xs
 |true,l,xs=>h.IsTuple l xs
theorem SIt.obj {h:Heap}:∀{b:Bool}{it l:Addr}{k:Nat},SIt h b it l k->∃o,h.get? it=some o/\∃vs,o.data=.fields vs
 |false,_,_,_,⟨o,e,_,d⟩=>⟨o,e,_,d⟩
 |true,_,_,_,⟨o,e,_,d⟩=>⟨o,e,_,d⟩
theorem SIt.keep {h h':Heap}:∀{b:Bool}{it l:Addr}{k:Nat},SIt h b it l k->(∀o,h.get? it=some o->h'.get? it=some o)->SIt h' b it l k
 |false,_,_,_,⟨o,e,r⟩,f=>⟨o,f o e,r⟩
 |true,_,_,_,⟨o,e,r⟩,f=>⟨o,f o e,r⟩
theorem SSq.keep {h h':Heap}:∀{b:Bool}{l:Addr}{xs:Array Value},SSq h b l xs->(∀o,h.get? l=some o->h'.get? l=some o)->SSq h' b l xs
 |false,_,_,⟨o,e,r⟩,f=>⟨o,f o e,r⟩
 |true,_,_,⟨o,e,r⟩,f=>⟨o,f o e,r⟩
theorem SSq.obj {h:Heap}:∀{b:Bool}{l:Addr}{xs:Array Value},SSq h b l xs->∃o,h.get? l=some o/\∃n,o.data=.seq xs n
 |false,_,_,⟨o,e,_,n,d⟩=>⟨o,e,n,d⟩
 |true,_,_,⟨o,e,_,n,d⟩=>⟨o,e,n,d⟩
section
variable {prog:Program}{w:World}{A:Around}{E:Qq}{s:Shared}
theorem AW {it t:Addr}{k:Nat}{xs:Array Value}{x:Value}{Q:Qq}(hi:s.heap.IsTupleIter it t k) (ht:s.heap.IsTuple t xs) (hx:xs[k]?=some x)
 (q:∀g,g.IsTupleIter it t (k+1)->Heap.SameBut it s.heap g->Q x { s with heap:=g }):wpAny (model prog w) A (Builtin.SmallTypes.nextOf (.ref it)) Q E s:=by
 obtain⟨o,e,c,d⟩:=id hi
 obtain⟨ot,et,_,nt,dt⟩:=ht
 unfold Builtin.SmallTypes.nextOf
 refine q4 (wpAny_callSpecial?_slot (name:=Str.ofString "__next__") hi.typeIs PySem.F.slot_tuple_iterator_next (wpAny_call_entry PySem.F.slot_tuple_iterator_next hi.typeIs PySem.F.entry_tuple_iterator_next ?_ (PySem.F.args_tuple_iterator_next_1 _)))
 show wpAny _ _ (field (.ref it) 0 >>= _) _ _ _;refine q4 (wpAny_field e d (x:=.ref t) rfl ?_)
 show wpAny _ _ (if(Value.ref t == Value.none)=true then _ else _) _ _ _;rw[qZ (show ¬ (Value.ref t == Value.none)=true from qh)]
 show wpAny _ _ (field (.ref it) 1 >>= _) _ _ _;refine q4 (wpAny_field e d (x:=.int k 0) rfl ?_)
 show wpAny _ _ (seqItems? (.ref t) >>= _) _ _ _;refine q4 (wpAny_seqItems et dt ?_)
 simp only[qX,hx];refine q4 (wpAny_setField e d (by simp) (qc ⟨x,rfl,qc (q _ ?_ (Heap.SameBut.update ..))⟩))
 exact⟨_,Heap.get?_update_self _ e (Obj.isFreed_of_fields (Obj.data_mapFields d _)),(Obj.cls_mapFields ..).trans c,by rw[Obj.data_mapFields d];simp[rawInt]⟩
theorem AX {it t:Addr}{k:Nat}{xs:Array Value}{Q:Qq}(hh:A.handled=none) (hi:s.heap.IsTupleIter it t k) (ht:s.heap.IsTuple t xs) (hx:xs[k]?=none)
 (q:∀g x,Heap.ExtBut it s.heap g->(∃o,g.get? x=some o/\o.cls=.type "StopIteration")->E (.ref x) { s with heap:=g }):wpAny (model prog w) A (Builtin.SmallTypes.nextOf (.ref it)) Q E s:=by
 obtain⟨o,e,c,d⟩:=id hi
 obtain⟨ot,et,_,nt,dt⟩:=ht
 unfold Builtin.SmallTypes.nextOf
 refine q4 (wpAny_callSpecial?_slot (name:=Str.ofString "__next__") hi.typeIs PySem.F.slot_tuple_iterator_next (wpAny_call_entry PySem.F.slot_tuple_iterator_next hi.typeIs PySem.F.entry_tuple_iterator_next ?_ (PySem.F.args_tuple_iterator_next_1 _)))
 show wpAny _ _ (field (.ref it) 0 >>= _) _ _ _;refine q4 (wpAny_field e d (x:=.ref t) rfl ?_)
 show wpAny _ _ (if(Value.ref t == Value.none)=true then _ else _) _ _ _;rw[qZ (show ¬ (Value.ref t == Value.none)=true from qh)]
 show wpAny _ _ (field (.ref it) 1 >>= _) _ _ _;refine q4 (wpAny_field e d (x:=.int k 0) rfl ?_)
 show wpAny _ _ (seqItems? (.ref t) >>= _) _ _ _;refine q4 (wpAny_seqItems et dt ?_)
 simp only[qX,hx];refine q4 (wpAny_rule (q4 (wpAny_setField e d (by simp) ?_)))
 show wpAny _ _ (newExc (.type "StopIteration") [] >>= _) _ _ _;refine q4 ?_;simp only[newExc,newTuple];refine q4 (wpAny_newObj_type ?_ (by size_fits))
 refine q4 (m:=firstArgMember _ _) (wpAny_of_eq (a:=Value.none) (by first|rfl|(simp only[firstArgMember];rfl)) (wpAny_newObj_type ?_ (by size_fits)))
 simp only[raiseNew];refine q4 (wpAny_handled ?_);first|rw[show A.in1.handled=none from hh]|rw[hh]
 refine q4 (qc (wpAny_throw (q _ _ (((Heap.SameBut.update ..).extBut.push _).push _) ⟨_,qo _ rfl,rfl⟩)))
theorem mS {it l:Addr}{k:Nat}{xs:Array Value}{x:Value}{Q:Qq}:∀{b:Bool},SIt s.heap b it l k->SSq s.heap b l xs->xs[k]?=some x->
 (∀g,SIt g b it l (k+1)->Heap.SameBut it s.heap g->Q x { s with heap:=g })->wpAny (model prog w) A (Builtin.SmallTypes.nextOf (.ref it)) Q E s
 |false,a,c,d,q=>wpAny_nextOf_list_item a c d q
 |true,a,c,d,q=>AW a c d q
theorem tO {it l:Addr}{k:Nat}{xs:Array Value}{Q:Qq}(hh:A.handled=none):∀{b:Bool},SIt s.heap b it l k->SSq s.heap b l xs->xs[k]?=none->
 (∀g x,Heap.ExtBut it s.heap g->(∃o,g.get? x=some o/\o.cls=.type "StopIteration")->E (.ref x) { s with heap:=g })->wpAny (model prog w) A (Builtin.SmallTypes.nextOf (.ref it)) Q E s
 |false,a,c,d,q=>wpAny_nextOf_list_end hh a c d q
 |true,a,c,d,q=>AX hh a c d q
structure ZAp (z TI TO i1 i2 l1 l2:Addr):Prop where
 a:TI≠z/\TO≠z/\i1≠z/\i2≠z/\TI≠TO/\TI≠i1/\TI≠i2/\TO≠i1/\TO≠i2/\i1≠i2
 l:∀c,c=l1\/c=l2->c≠z/\c≠TO/\c≠i1/\c≠i2/\c≠TI
theorem wz {z TI TO i1 i2 l1 l2:Addr}{b1 b2:Bool}{k1 k2:Nat}{xs ys:Array Value}{x y a b:Value}{Q:Qq}(D:ZAp z TI TO i1 i2 l1 l2)
 (hz:IsZip s.heap z TI TO .none) (hI:IsPair s.heap TI (.ref i1) (.ref i2)) (hO:IsPair s.heap TO a b) (t1:SIt s.heap b1 i1 l1 k1) (t2:SIt s.heap b2 i2 l2 k2) (q1:SSq s.heap b1 l1 xs) (q2:SSq s.heap b2 l2 ys) (ex:xs[k1]?=some x) (ey:ys[k2]?=some y)
 (q:∀g,IsZip g z TI TO (rawInt s.heap.objs.size)->IsPair g TO x y->SIt g b1 i1 l1 (k1+1)->SIt g b2 i2 l2 (k2+1)->IsPair g s.heap.objs.size x y->(∀c o,c≠z->c≠TO->c≠i1->c≠i2->s.heap.get? c=some o->g.get? c=some o)->Q (.ref s.heap.objs.size) { s with heap:=g }):
 wpAny (model prog w) A (Builtin.«zip.__next__» ⟨[.ref z],[]⟩) (fun fin s'=>∃v,fin=.done (.ret v)/\Q v s') E s:=by
 obtain⟨⟨nIz,nOz,n1z,n2z,nIO,nI1,nI2,nO1,nO2,n12⟩,lne⟩:=D
 obtain⟨m1z,m1O,m11,m12,m1I⟩:=lne l1 (.inl rfl)
 obtain⟨m2z,m2O,m21,m22,m2I⟩:=lne l2 (.inr rfl)
 show wpAny _ _ (field (.ref z) 2 >>= _) _ _ _;refine q4 (wpAny_field hz rfl (x:=.bool false) rfl ?_)
 show wpAny _ _ (field (.ref z) 3 >>= _) _ _ _;refine q4 (wpAny_field hz rfl (x:=.ref TI) rfl (q4 (wpAny_seqItems hI rfl ?_)))
 show wpAny _ _ (Builtin.SmallTypes.ownedTupleIsFree (.ref z) >>= _) _ _ _;refine q4 ?_;unfold Builtin.SmallTypes.ownedTupleIsFree
 refine q4 (wpAny_field hz rfl (x:=.none) rfl (qc ?_));simp only[if_true]
 refine q4 (wpAny_rule (q4 (wpAny_field hz rfl (x:=.ref TO) rfl (q4 (wpAny_setField_rec hz (by simp) fun g1 z1 s1=>?_)))))
 replace z1:IsZip g1 z TI TO .ellipsis:=z1
 refine q4 ?_;simp only[List.zipIdx_cons,List.zipIdx_nil,List.forIn_cons,List.forIn_nil];refine q4 (q4 (wpAny_onRaise ?_))
 show wpAny _ _ (Builtin.SmallTypes.nextOf (.ref i1) >>= _) _ _ _
 refine q4 (mS (b:=b1) (t1.keep fun o e=>s1.extBut _ _ n1z e) (q1.keep fun o e=>s1.extBut _ _ m1z e) ex fun g2 u1 s2=>qc ?_)
 have o2:IsPair g2 TO a b:=s2.extBut _ _ nO1 (s1.extBut _ _ nOz hO)
 refine q4 (wpAny_seqItems o2 rfl (q4 (wpAny_updateSeq_pair o2 fun g3 o3 s3=>q4 (wpAny_letGo (qc ?_)))))
 replace o3:IsPair g3 TO x b:=o3
 refine q4 (q4 (wpAny_onRaise ?_));show wpAny _ _ (Builtin.SmallTypes.nextOf (.ref i2) >>= _) _ _ _
 refine q4 (mS (b:=b2) (t2.keep fun o e=>s3.extBut _ _ nO2.symm (s2.extBut _ _ n12.symm (s1.extBut _ _ n2z e))) (q2.keep fun o e=>s3.extBut _ _ m2O (s2.extBut _ _ m21 (s1.extBut _ _ m2z e))) ey fun g4 u2 s4=>qc ?_)
 have o4:IsPair g4 TO x b:=s4.extBut _ _ nO2 o3
 refine q4 (wpAny_seqItems o4 rfl (q4 (wpAny_updateSeq_pair o4 fun g5 o5 s5=>q4 (wpAny_letGo (qc (qc ?_))))))
 replace o5:IsPair g5 TO x y:=o5
 refine q4 (wpAny_seqItems o5 rfl (q4 (wpAny_newTuple ?_)))
 have sz:g5.objs.size=s.heap.objs.size:=by rw[s5.1,s4.1,s3.1,s2.1,s1.1]
 have z5:IsZip g5 z TI TO .ellipsis:=s5.extBut _ _ nOz.symm (s4.extBut _ _ n2z.symm (s3.extBut _ _ nOz.symm (s2.extBut _ _ n1z.symm z1)))
 have k5:∀c o,c≠z->c≠TO->c≠i1->c≠i2->s.heap.get? c=some o->g5.get? c=some o:=fun c o h1 h2 h3 h4 e=>s5.extBut _ _ h2 (s4.extBut _ _ h4 (s3.extBut _ _ h2 (s2.extBut _ _ h3 (s1.extBut _ _ h1 e))))
 have v1:SIt g5 b1 i1 l1 (k1+1):=u1.keep fun o e=>s5.extBut _ _ nO1.symm (s4.extBut _ _ n12 (s3.extBut _ _ nO1.symm e))
 have v2:SIt g5 b2 i2 l2 (k2+1):=u2.keep fun o e=>s5.extBut _ _ nO2.symm e
 have zlt:z<g5.objs.size:=qp z5
 show wpAny _ _ (Builtin.SmallTypes.ownedTupleHandOut (.ref z) (.ref g5.objs.size) >>= _) _ _ _;refine q4 ?_;unfold Builtin.SmallTypes.ownedTupleHandOut
 have z6:IsZip (g5.push { cls:=.type "tuple",data:=.seq #[x,y] }) z TI TO .ellipsis:=q9 _ z5
 refine q4 (wpAny_setField_rec z6 (by simp) fun g7 z7 s7=>?_)
 replace z7:IsZip g7 z TI TO (rawInt g5.objs.size):=z7
 refine wpAny_setField_rec z7 (by simp) fun g8 z8 s8=>?_
 replace z8:IsZip g8 z TI TO (rawInt g5.objs.size):=z8
 have up:∀c o,c≠z->g5.get? c=some o->g8.get? c=some o:=fun c o h1 e=>s8.extBut _ _ h1 (s7.extBut _ _ h1 (q9 _ e))
 have t8:IsPair g8 g5.objs.size x y:=s8.extBut _ _ (Nat.ne_of_gt zlt) (s7.extBut _ _ (Nat.ne_of_gt zlt) (qo _ rfl))
 rw[sz]at z8 t8
 refine qc ⟨_,rfl,?_⟩
 show Q (.ref g5.objs.size) _
 rw[sz]
 exact q g8 z8 (up _ _ nOz o5) (v1.keep fun o e=>up _ o n1z e) (v2.keep fun o e=>up _ o n2z e) t8 fun c o h1 h2 h3 h4 e=>up c o h1 (k5 c o h1 h2 h3 h4 e)
theorem wA {z TI TO i1 i2 l1 l2:Addr}{b1 b2:Bool}{k1 k2:Nat}{xs ys:Array Value}{a b:Value}{Q:Fin->Shared->Prop}(hh:A.handled=none) (D:ZAp z TI TO i1 i2 l1 l2)
 (hz:IsZip s.heap z TI TO .none) (hI:IsPair s.heap TI (.ref i1) (.ref i2)) (hO:IsPair s.heap TO a b) (t1:SIt s.heap b1 i1 l1 k1) (t2:SIt s.heap b2 i2 l2 k2) (q1:SSq s.heap b1 l1 xs) (q2:SSq s.heap b2 l2 ys) (hend:xs[k1]?=none\/ys[k2]?=none)
 (q:∀g e,(∀c o,c≠z->c≠TO->c≠i1->c≠i2->s.heap.get? c=some o->g.get? c=some o)->(∃o,g.get? e=some o/\o.cls=.type "StopIteration")->E (.ref e) { s with heap:=g }):
 wpAny (model prog w) A (Builtin.«zip.__next__» ⟨[.ref z],[]⟩) Q E s:=by
 obtain⟨⟨nIz,nOz,n1z,n2z,nIO,nI1,nI2,nO1,nO2,n12⟩,lne⟩:=D
 obtain⟨m1z,m1O,m11,m12,m1I⟩:=lne l1 (.inl rfl)
 obtain⟨m2z,m2O,m21,m22,m2I⟩:=lne l2 (.inr rfl)
 show wpAny _ _ (field (.ref z) 2 >>= _) _ _ _;refine q4 (wpAny_field hz rfl (x:=.bool false) rfl ?_)
 show wpAny _ _ (field (.ref z) 3 >>= _) _ _ _;refine q4 (wpAny_field hz rfl (x:=.ref TI) rfl (q4 (wpAny_seqItems hI rfl ?_)))
 show wpAny _ _ (Builtin.SmallTypes.ownedTupleIsFree (.ref z) >>= _) _ _ _;refine q4 ?_;unfold Builtin.SmallTypes.ownedTupleIsFree
 refine q4 (wpAny_field hz rfl (x:=.none) rfl (qc ?_));simp only[if_true]
 refine q4 (wpAny_rule (q4 (wpAny_field hz rfl (x:=.ref TO) rfl (q4 (wpAny_setField_rec hz (by simp) fun g1 z1 s1=>?_)))))
 replace z1:IsZip g1 z TI TO .ellipsis:=z1
 refine q4 ?_;simp only[List.zipIdx_cons,List.zipIdx_nil,List.forIn_cons,List.forIn_nil];refine q4 (q4 (wpAny_onRaise ?_))
 show wpAny _ _ (Builtin.SmallTypes.nextOf (.ref i1) >>= _) _ _ _
 cases ex:xs[k1]? with
 |none=>
  refine q4 (tO (b:=b1) hh (t1.keep fun o e=>s1.extBut _ _ n1z e) (q1.keep fun o e=>s1.extBut _ _ m1z e) ex fun g2 v s2 hv=>?_)
  obtain⟨ov,ev,cv⟩:=hv
  have z2:IsZip g2 z TI TO .ellipsis:=s2 _ _ n1z.symm z1
  have nv:v≠z:=fun h=>by subst h;rw[z2]at ev;cases ev;simp at cv
  exact wpAny_setField_rec z2 (by simp) fun g3 _ s3=>q g3 v (fun c o h1 _ h3 _ e=>s3.extBut _ _ h1 (s2 _ _ h3 (s1.extBut _ _ h1 e))) ⟨ov,s3.extBut _ _ nv ev,cv⟩
 |some x=>
  have ey:ys[k2]?=none:=by rcases hend with h|h;rw[ex]at h;cases h;exact h
  refine q4 (mS (b:=b1) (t1.keep fun o e=>s1.extBut _ _ n1z e) (q1.keep fun o e=>s1.extBut _ _ m1z e) ex fun g2 u1 s2=>qc ?_)
  have o2:IsPair g2 TO a b:=s2.extBut _ _ nO1 (s1.extBut _ _ nOz hO)
  refine q4 (wpAny_seqItems o2 rfl (q4 (wpAny_updateSeq_pair o2 fun g3 o3 s3=>q4 (wpAny_letGo (qc ?_)))))
  refine q4 (q4 (wpAny_onRaise ?_));show wpAny _ _ (Builtin.SmallTypes.nextOf (.ref i2) >>= _) _ _ _
  refine q4 (tO (b:=b2) hh (t2.keep fun o e=>s3.extBut _ _ nO2.symm (s2.extBut _ _ n12.symm (s1.extBut _ _ n2z e))) (q2.keep fun o e=>s3.extBut _ _ m2O (s2.extBut _ _ m21 (s1.extBut _ _ m2z e))) ey fun g4 v s4 hv=>?_)
  obtain⟨ov,ev,cv⟩:=hv
  have z4:IsZip g4 z TI TO .ellipsis:=s4 _ _ n2z.symm (s3.extBut _ _ nOz.symm (s2.extBut _ _ n1z.symm z1))
  have nv:v≠z:=fun h=>by subst h;rw[z4]at ev;cases ev;simp at cv
  exact wpAny_setField_rec z4 (by simp) fun g5 _ s5=>q g5 v (fun c o h1 h2 h3 h4 e=>s5.extBut _ _ h1 (s4 _ _ h4 (s3.extBut _ _ h2 (s2.extBut _ _ h3 (s1.extBut _ _ h1 e))))) ⟨ov,s5.extBut _ _ nv ev,cv⟩
end
section
variable {X:Cx}{pins:List (Addr×Obj)}{σ:St}{H:Hp}{s:Shared}{h':Heap}
theorem Inv.turnedL {t':Nat}{ch:List Addr}(I:Inv X pins σ H s) (k:∀b o,b∉ch->s.heap.get? b=some o->h'.get? b=some o) (hf:∀b∈ch,cf X pins H b):Inv X pins σ H { s with heap:=h',toks:=t' }:=by
 have nit:∀b u,H b=some u->b∉ch:=fun b u e z=>by rw[(hf b z).1]at e;cases e
 have hL:X.env.locals∉ch:=fun z=>(hf _ z).2.1 rfl
 refine I.step (g':=s.gens) (d':=s.drawn) (ch:=ch) (fun b hb=>⟨(hf b hb).2.2.2.1,(hf b hb).2.1,(hf b hb).2.2.2.2.1,(hf b hb).2.2.2.2.2⟩) (fun b o _ _ hc e _=>k b o hc e) (fun b o _ _ hc e _=>⟨o.slots,k b o hc e⟩) (fun _ _ _ _ n=>n)
  (fun b o hc e=>⟨o,k b o hc e⟩) (fun _ _ e=>e) (fun _ _ _ e=>e) (fun b ps e=>⟨#[],by rw[e];simp⟩) (fun m hm=>?_) (fun b u e=>?_) I.bare
 ·obtain⟨o,es,ep,ho,r⟩:=hm
  exact⟨o,es,ep,k _ o hL ho,r⟩
 ·refine(I.hok b u e).stay (fun c v hc q=>k c v ?_ q) (fun _ q=>q) fun _ _ q=>q
  rcases hc with z|z
  ·rw[z];exact nit b u e
  ·exact nit c _ z
theorem Inv.track {T:Addr}{o:HO}(I:Inv X pins σ H s) (f:cf X pins H T) (hs:X.s₀.heap.objs.size<=T) (new:bq X.prog X.w (upd H T o) s.heap T o):Inv X pins σ (upd H T o) s:=by
 obtain⟨f0,f1,f2,_,f4,f5⟩:=f
 have old:∀b u,X.s₀.heap.get? b=some u->b≠T:=fun b u e=>qF (qC (qp e) hs)
 refine⟨I.ok,I.os,I.bare,⟨I.base.keep,I.base.slot,fun b u e n hx=>?_,I.base.there,fun b xs e=>?_,fun b u v e=>?_,fun b ps e=>?_⟩,I.loc,I.cell,?_,fun x c e=>?_,fun p hp=>?_,fun b u e=>?_,I.len⟩
 ·rw[aj (old b u e)];exact I.base.free b u e n hx
 ·rw[aj (bN (I.base.tups b xs e) f0)];exact I.base.tups b xs e
 ·rw[aj (bN (I.base.frzs b u v e) f0)];exact I.base.frzs b u v e
 ·obtain⟨more,q⟩:=I.base.tbls b ps e
  exact⟨more,by rw[aj (bN q f0)];exact q⟩
 ·rw[aj (Ne.symm f1)];exact I.free
 ·rw[aj (f4 x c e)];exact I.freeC x c e
 ·obtain⟨e,n,ne,nf,d⟩:=I.pin p hp
  exact⟨e,by rw[aj (f5 p hp)];exact n,ne,nf,d⟩
 ·by_cases hb:b=T
  ·subst hb
   rw[ae]at e
   cases e
   exact new
  ·rw[aj hb]at e
   exact(I.hok b u e).stay (fun c v _ q=>q) (fun c q=>by rw[aj (bN q f0)];exact q) fun c xs q=>by rw[aj (bN q f0)];exact q
end
def SqB (K:PySem.W.Frag) (H:Hp):Bool->Addr->List V->Prop
 |false,a,xs=>SqL K H a xs
 |true,a,xs=>SqT K H a xs
theorem SqB.at {X:Cx}{pins:List (Addr×Obj)}{σ:St}{H:Hp}{s:Shared}(I:Inv X pins σ H s):∀{b:Bool}{a:Addr}{xs:List V},SqB X.K H b a xs->∃its:List Value,au xs its/\SSq s.heap b a its.toArray/\xs.length<=sizeLine
 |false,_,_,h=>let ⟨its,r,p,z⟩:=I.list h;⟨its,r,p.isList,z⟩
 |true,_,_,h=>let ⟨its,r,p,z⟩:=I.tuple h;⟨its,r,p,z⟩
theorem SqB.inj {X:Cx}{pins:List (Addr×Obj)}{σ:St}{H:Hp}{s:Shared}(I:Inv X pins σ H s):∀{b:Bool}{a:Addr}{xs ys:List V},SqB X.K H b a xs->SqB X.K H b a ys->xs=ys
 |false,_,_,_,h,h'=>I.list_inj h h'
 |true,_,_,_,h,h'=>I.tuple_inj h h'
def Itz (K:PySem.W.Frag) (b1 b2:Bool) (l1 l2:Addr):It:=
 ⟨fun i H=>∃xs ys x y,SqB K H b1 l1 xs/\SqB K H b2 l2 ys/\xs[i]?=some x/\ys[i]?=some y,
  fun i H v H'=>∃p x y,H p=none/\v=.ref p/\H'=upd H p (.tup [x,y])/\(∀xs,SqB K H b1 l1 xs->xs[i]?=some x)/\∀ys,SqB K H b2 l2 ys->ys[i]?=some y,
  fun i H=>∃xs ys,SqB K H b1 l1 xs/\SqB K H b2 l2 ys/\(xs.length<=i\/ys.length<=i)⟩
section
variable {prog:Program}{w:World}{A:Around}{E:Qq}{s:Shared}
theorem wx {z TI TO i1 i2 l1 l2:Addr}{b1 b2:Bool}{k1 k2:Nat}{xs ys:Array Value}{x y a b:Value}{Q:Option Value->Shared->Prop}(D:ZAp z TI TO i1 i2 l1 l2)
 (hz:IsZip s.heap z TI TO .none) (hI:IsPair s.heap TI (.ref i1) (.ref i2)) (hO:IsPair s.heap TO a b) (t1:SIt s.heap b1 i1 l1 k1) (t2:SIt s.heap b2 i2 l2 k2) (q1:SSq s.heap b1 l1 xs) (q2:SSq s.heap b2 l2 ys) (ex:xs[k1]?=some x) (ey:ys[k2]?=some y)
 (q:∀g,IsZip g z TI TO (rawInt s.heap.objs.size)->IsPair g TO x y->SIt g b1 i1 l1 (k1+1)->SIt g b2 i2 l2 (k2+1)->IsPair g s.heap.objs.size x y->(∀c o,c≠z->c≠TO->c≠i1->c≠i2->s.heap.get? c=some o->g.get? c=some o)->Q (some (.ref s.heap.objs.size)) { s with heap:=g }):
 wpAny (model prog w) A (pyNext (.ref z)) Q E s:=by
 have ty:s.TypeIs (.ref z) "zip":=⟨_,hz,rfl⟩
 unfold pyNext
 exact q4 (wpAny_attempt (wpAny_callSpecial?_slot (name:=Str.ofString "__next__") ty PySem.F.slot_zip_next (wpAny_call_entry PySem.F.slot_zip_next ty PySem.F.entry_zip_next (wz D hz hI hO t1 t2 q1 q2 ex ey fun g a1 a2 a3 a4 a5 a6=>qc (q g a1 a2 a3 a4 a5 a6)) (PySem.F.args_zip_next_1 _))))
theorem wy {z TI TO i1 i2 l1 l2:Addr}{b1 b2:Bool}{k1 k2:Nat}{xs ys:Array Value}{a b:Value}{Q:Option Value->Shared->Prop}(hh:A.handled=none) (D:ZAp z TI TO i1 i2 l1 l2)
 (hz:IsZip s.heap z TI TO .none) (hI:IsPair s.heap TI (.ref i1) (.ref i2)) (hO:IsPair s.heap TO a b) (t1:SIt s.heap b1 i1 l1 k1) (t2:SIt s.heap b2 i2 l2 k2) (q1:SSq s.heap b1 l1 xs) (q2:SSq s.heap b2 l2 ys) (hend:xs[k1]?=none\/ys[k2]?=none)
 (q:∀g,(∀c o,c≠z->c≠TO->c≠i1->c≠i2->s.heap.get? c=some o->g.get? c=some o)->Q none { s with heap:=g }):wpAny (model prog w) A (pyNext (.ref z)) Q E s:=by
 have ty:s.TypeIs (.ref z) "zip":=⟨_,hz,rfl⟩
 unfold pyNext
 refine q4 (wpAny_attempt (wpAny_callSpecial?_slot (name:=Str.ofString "__next__") ty PySem.F.slot_zip_next (wpAny_call_entry PySem.F.slot_zip_next ty PySem.F.entry_zip_next (wA hh D hz hI hO t1 t2 q1 q2 hend fun g e hk he=>?_) (PySem.F.args_zip_next_1 _))))
 obtain⟨o,ho,hc⟩:=he
 exact q4 (wpAny_isInstance (T:="StopIteration") (b:=true) ⟨o,ho,hc⟩ isSubtype_stop (qc (q _ hk)))
end
theorem wO {P:Program}{w:World}{K:PySem.W.Frag}{elts:List Expr}{kk:Nat}{tp:Pos}{b1 b2:Bool}(z TI TO i1 i2 l1 l2:Addr) (D:ZAp z TI TO i1 i2 l1 l2):
 fU P w K (.Tuple elts kk tp) (Itz K b1 b2 l1 l2) [z,TI,TO,i1,i2] z (fun i h=>IsZip h z TI TO .none/\IsPair h TI (.ref i1) (.ref i2)/\(∃a b,IsPair h TO a b)/\SIt h b1 i1 l1 i/\SIt h b2 i2 l2 i) where
 mem:=by simp
 obj:=fun i h st b hb=>by
  obtain⟨hz,hI,⟨a,c,hO⟩,t1,t2⟩:=st
  simp only[qt,qQ,or_false]at hb
  rcases hb with rfl|rfl|rfl|rfl|rfl
  ·exact⟨_,hz,fun v q=>by cases q⟩
  ·exact⟨_,hI,fun v q=>by cases q⟩
  ·exact⟨_,hO,fun v q=>by cases q⟩
  ·obtain⟨o,e,vs,d⟩:=t1.obj
   exact⟨o,e,fun v q=>by rw[d]at q;cases q⟩
  ·obtain⟨o,e,vs,d⟩:=t2.obj
   exact⟨o,e,fun v q=>by rw[d]at q;cases q⟩
 keep:=fun i h h' st k=>by
  obtain⟨hz,hI,⟨a,c,hO⟩,t1,t2⟩:=st
  exact⟨k z (by simp) _ hz,k TI (by simp) _ hI,⟨a,c,k TO (by simp) _ hO⟩,t1.keep fun o e=>k i1 (by simp) o e,t2.keep fun o e=>k i2 (by simp) o e⟩
 item:=by
  intro X hP hw hK hc i pins s σ H E I hf st hg
  subst hP hw hK
  obtain⟨hz,hI,⟨a,c,hO⟩,t1,t2⟩:=st
  obtain⟨xs,ys,x,y,hx,hy,ex,ey⟩:=hg
  obtain⟨its,rv,q1,z1⟩:=SqB.at I hx
  obtain⟨jts,rw',q2,z2⟩:=SqB.at I hy
  obtain⟨u,hu,ru⟩:=rv.get ex
  obtain⟨v,hv,rv'⟩:=rw'.get ey
  refine wx D hz hI hO t1 t2 q1 q2 (x:=u) (y:=v) (by simpa using hu) (by simpa using hv) fun g a1 a2 a3 a4 a5 a6=>⟨_,rfl,?_⟩
  refine wpAny_letOwnedTupleGo_zip a1 fun g' a1' sb=>?_
  obtain⟨⟨nIz,nOz,n1z,n2z,nIO,nI1,nI2,nO1,nO2,n12⟩,lne⟩:=id D
  have hT:∀b∈[z,TI,TO,i1,i2],s.heap.objs.size≠b:=fun b hb=>by
   have:∃o,s.heap.get? b=some o:=by
    simp only[qt,qQ,or_false]at hb
    rcases hb with rfl|rfl|rfl|rfl|rfl
    ·exact⟨_,hz⟩
    ·exact⟨_,hI⟩
    ·exact⟨_,hO⟩
    ·obtain⟨o,e,_⟩:=t1.obj;exact⟨o,e⟩
    ·obtain⟨o,e,_⟩:=t2.obj;exact⟨o,e⟩
   obtain⟨o,e⟩:=this
   exact Nat.ne_of_gt (qp e)
  have kk:∀b o,b∉[z,TI,TO,i1,i2]->s.heap.get? b=some o->g'.get? b=some o:=fun b o hb e=>by
   simp only[qt,qQ,or_false,not_or]at hb
   exact sb.extBut _ _ hb.1 (a6 b o hb.1 hb.2.2.1 hb.2.2.2.1 hb.2.2.2.2 e)
  have I1:Inv X pins σ H { s with heap:=g' }:=I.turnedL (t':=s.toks) kk hf
  have pT:IsPair g' s.heap.objs.size u v:=sb.extBut _ _ (hT z (by simp)) a5
  have fT:cf X pins H s.heap.objs.size:=I.fpOk (qd _) (I.hok.fresh (qd _))
  have I2:Inv X pins σ (upd H s.heap.objs.size (.tup [x,y])) { s with heap:=g' }:=I1.track fT I.sz ⟨by show 2<=sizeLine;decide,[u,v],.cons ru (.cons rv' .nil),⟨_,pT,rfl,_,rfl⟩⟩
  refine⟨.ref s.heap.objs.size,_,I2,rfl,⟨_,x,y,I.hok.fresh (qd _),rfl,rfl,fun xs' h=>by rw[SqB.inj I h hx];exact ex,fun ys' h=>by rw[SqB.inj I h hy];exact ey⟩,?_,fun b hb=>?_⟩
  ·exact⟨a1',sb.extBut _ _ nIz (a6 TI _ nIz nIO nI1 nI2 hI),⟨u,v,sb.extBut _ _ nOz a2⟩,a3.keep fun o e=>sb.extBut _ _ n1z e,a4.keep fun o e=>sb.extBut _ _ n2z e⟩
  ·rw[aj (Ne.symm (hT b hb))]
   exact(hf b hb).1
 done:=by
  intro X hP hw hK hc i pins s σ H E I hf st hg
  subst hP hw hK
  obtain⟨hz,hI,⟨a,c,hO⟩,t1,t2⟩:=st
  obtain⟨xs,ys,hx,hy,hend⟩:=hg
  obtain⟨its,rv,q1,z1⟩:=SqB.at I hx
  obtain⟨jts,rw',q2,z2⟩:=SqB.at I hy
  have e1:=rv.length
  have e2:=rw'.length
  refine wy (I.ok.hd hc) D hz hI hO t1 t2 q1 q2 (by
   rcases hend with h|h
   ·exact .inl (by simp;omega)
   ·exact .inr (by simp;omega)) fun g k=>⟨rfl,I.turnedL (t':=s.toks) (ch:=[z,TI,TO,i1,i2]) (fun b o hb e=>?_) hf⟩
  simp only[qt,qQ,or_false,not_or]at hb
  exact k b o hb.1 hb.2.2.1 hb.2.2.2.1 hb.2.2.2.2 e
 self:=fun _ _ _ _ _ st h=>wpAny_pyIter_zip st.1 h
def dQ (b:Bool) (l:Addr):Obj:={ cls:=.type (if b=true then "tuple_iterator" else "list_iterator"),data:=.fields #[.ref l,.int 0 0] }
theorem SIt.new {h:Heap}:∀{b:Bool}{it l:Addr},h.get? it=some (dQ b l)->SIt h b it l 0
 |false,_,_,e=>⟨_,e,rfl,rfl⟩
 |true,_,_,e=>⟨_,e,rfl,rfl⟩
def zg2 (h:Heap) (b1 b2:Bool) (l1 l2:Addr):Heap:=(h.push (dQ b1 l1)).push (dQ b2 l2)
def zg3 (h:Heap) (b1 b2:Bool) (l1 l2:Addr):Heap:=(zg2 h b1 b2 l1 l2).push { cls:=.type "tuple",data:=.seq #[.ref h.objs.size,.ref (h.push (dQ b1 l1)).objs.size] }
def zg4 (h:Heap) (b1 b2:Bool) (l1 l2:Addr):Heap:=(zg3 h b1 b2 l1 l2).push { cls:=.type "tuple",data:=.seq #[.none,.none] }
def zg5 (h:Heap) (b1 b2:Bool) (l1 l2:Addr):Heap:=(zg4 h b1 b2 l1 l2).push { cls:=.type "zip",data:=.fields #[.none,.bool false,.bool false,.ref (zg2 h b1 b2 l1 l2).objs.size,.ref (zg3 h b1 b2 l1 l2).objs.size] }
theorem ut {prog:Program}{w:World}{A:Around}{E:Qq}{s:Shared}{l:Addr}{xs:Array Value}{Q:Qq}:∀{b:Bool},SSq s.heap b l xs->Q (.ref s.heap.objs.size) { s with heap:=s.heap.push (dQ b l) }->wpAny (model prog w) A (pyIter (.ref l)) Q E s
 |false,h,q=>wpAny_pyIter_list h q
 |true,h,q=>wpAny_pyIter_tuple h q
theorem SSq.push {h:Heap}{b:Bool}{l:Addr}{xs:Array Value}(x:SSq h b l xs) (o:Obj):SSq (h.push o) b l xs:=x.keep fun _ e=>q9 _ e
set_option maxHeartbeats 8000000 in
theorem ww (b1 b2:Bool) (l1 l2:Addr) (xs ys:Array Value):
 Meets (Builtin.«zip.__new__» ⟨[.type "zip",.ref l1,.ref l2],[]⟩) (fun _ R s=>SSq s.heap b1 l1 xs/\SSq s.heap b2 l2 ys/\R (.ok (.ret (.ref (zg4 s.heap b1 b2 l1 l2).objs.size))) { s with heap:=zg5 s.heap b1 b2 l1 l2 }):=
 .of_wp fun prog w A R s h=>by
  obtain⟨hp,g,d,tk,os⟩:=s
  obtain⟨h1,h2,h⟩:=h
  have hsub:=PySem.sub_zip
  have e1:SSq (Shared.heap ⟨hp,g,d,tk,os⟩) b1 l1 xs:=h1
  have e2:SSq (Shared.heap ⟨hp.push (dQ b1 l1),g,d,tk,os⟩) b2 l2 ys:=SSq.push h2 _
  wp_walk using ut e1,ut e2
  exact⟨_,rfl,h⟩
section
variable {prog:Program}{w:World}{A:Around}{E:Qq}{s:Shared}
theorem Dc {b1 b2:Bool}{l1 l2:Addr}{xs ys:Array Value}{Q:Qq}(h1:SSq s.heap b1 l1 xs) (h2:SSq s.heap b2 l2 ys)
 (h:∀g n,n=s.heap.objs.size->IsZip g (n+4) (n+2) (n+3) .none->IsPair g (n+2) (.ref n) (.ref (n+1))->IsPair g (n+3) .none .none->SIt g b1 n l1 0->SIt g b2 (n+1) l2 0->
  (∀c o,s.heap.get? c=some o->g.get? c=some o)->Q (.ref (n+4)) { s with heap:=g }):wpAny (model prog w) A (call (.type "zip") [.ref l1,.ref l2]) Q E s:=by
 refine callType_new PySem.F.called_zip Qk (PySem.F.typeCall_zip_2 _ _) (PySem.F.newCall_zip_2 _ _) (fun obj=>PySem.F.args_object_init_3 obj _ _) PySem.F.entry_zip_new (ww b1 b2 l1 l2 xs ys) ⟨h1,h2,?_⟩
 have e1:(s.heap.push (dQ b1 l1)).objs.size=s.heap.objs.size+1:=Heap.size_push ..
 have e2:(zg2 s.heap b1 b2 l1 l2).objs.size=s.heap.objs.size+2:=by unfold zg2;rw[Heap.size_push,e1]
 have e3:(zg3 s.heap b1 b2 l1 l2).objs.size=s.heap.objs.size+3:=by unfold zg3;rw[Heap.size_push,e2]
 have e4:(zg4 s.heap b1 b2 l1 l2).objs.size=s.heap.objs.size+4:=by unfold zg4;rw[Heap.size_push,e3]
 have p:∀{c:Addr}{o:Obj},(zg4 s.heap b1 b2 l1 l2).get? c=some o->(zg5 s.heap b1 b2 l1 l2).get? c=some o:=fun q=>q9 _ q
 have p4:∀{c:Addr}{o:Obj},(zg3 s.heap b1 b2 l1 l2).get? c=some o->(zg4 s.heap b1 b2 l1 l2).get? c=some o:=fun q=>q9 _ q
 have p3:∀{c:Addr}{o:Obj},(zg2 s.heap b1 b2 l1 l2).get? c=some o->(zg3 s.heap b1 b2 l1 l2).get? c=some o:=fun q=>q9 _ q
 have p2:∀{c:Addr}{o:Obj},(s.heap.push (dQ b1 l1)).get? c=some o->(zg2 s.heap b1 b2 l1 l2).get? c=some o:=fun q=>q9 _ q
 have g5:(zg5 s.heap b1 b2 l1 l2).get? (zg4 s.heap b1 b2 l1 l2).objs.size=some _:=qo _ rfl
 have g4:(zg5 s.heap b1 b2 l1 l2).get? (zg3 s.heap b1 b2 l1 l2).objs.size=some _:=p (qo _ rfl)
 have g3:(zg5 s.heap b1 b2 l1 l2).get? (zg2 s.heap b1 b2 l1 l2).objs.size=some _:=p (p4 (qo _ rfl))
 have g2:(zg5 s.heap b1 b2 l1 l2).get? (s.heap.push (dQ b1 l1)).objs.size=some _:=p (p4 (p3 (qo _ rfl)))
 have g1:(zg5 s.heap b1 b2 l1 l2).get? s.heap.objs.size=some _:=p (p4 (p3 (p2 (qo _ rfl))))
 show _/\_
 rw[e2,e3,e4]at g5
 rw[e1,e2]at g3
 rw[e3]at g4
 rw[e1]at g2
 rw[e4]
 exact⟨⟨_,g5,rfl⟩,h _ _ rfl g5 g3 g4 (SIt.new g1) (SIt.new g2) fun c o x=>p (p4 (p3 (p2 (q9 _ x))))⟩
end
section
variable {X:Cx}
def BZ (K:PySem.W.Frag) (ta:TA):TI:=fun σ H R=>ta σ H fun vs H1=>∃b1 b2 l1 l2 xs ys,vs=[.ref l1,.ref l2]/\SqB K H1 b1 l1 xs/\SqB K H1 b2 l2 ys/\R (Itz K b1 b2 l1 l2) H1
theorem sS {a b:Expr}{ta:TA}{p pos tp:Pos}{elts:List Expr}{kk:Nat}(hg:Gl X "zip") (hm:X.mg "zip"=none) (ha:PA X [a,b] ta) (hs:starEach [a,b] X.env=[(false,eval a X.env),(false,eval b X.env)]:=by rfl) (hs2:starEach [b] X.env=[(false,eval b X.env)]:=by rfl):
 PI X (.Tuple elts kk tp) (.Call (.Name "zip" p) [a,b] [] pos) (BZ X.K ta):=by
 intro pins s σ H R I h
 refine Call_ (fH I hg hm PyProof.Rows.Boot.«zip» (PyProof.Rows.callWith_type1 (thn (ha pos pins s σ H _ I h) fun us s1 ⟨vs,H1,I1,r1,q1⟩=>?_) (by rw[hs,hs2]) (by rw[hs2];rfl)))
 obtain⟨b1,b2,l1,l2,xs,ys,rfl,hx,hy,q⟩:=q1
 obtain⟨u,u',rfl,ru,ru'⟩:=km r1
 cases ru
 cases ru'
 obtain⟨its,rv,s1',z1⟩:=SqB.at I1 hx
 obtain⟨jts,rw',s2',z2⟩:=SqB.at I1 hy
 refine Dc s1' s2' fun g n hn a1 a2 a3 a4 a5 k=>?_
 have lt:∀c,c=l1\/c=l2->c<n:=fun c hc=>by
  rw[hn]
  rcases hc with rfl|rfl
  ·obtain⟨o,e,_⟩:=s1'.obj;exact qp e
  ·obtain⟨o,e,_⟩:=s2'.obj;exact qp e
 refine wpAny_pyIter_zip a1 ⟨n+4,[n+4,n+2,n+3,n,n+1],_,_,H1,rfl,I1.kept (t':=s1.toks) k,wO (n+4) (n+2) (n+3) n (n+1) l1 l2 ⟨?_,fun c hc=>?_⟩,⟨a1,a2,⟨_,_,a3⟩,a4,a5⟩,fun b hb=>?_,q⟩
 ·have e:∀i j:Nat,i≠j->n+i≠n+j:=fun i j h z=>h (Nat.add_left_cancel z)
  exact⟨e 2 4 Qk,e 3 4 Qk,e 0 4 Qk,e 1 4 Qk,e 2 3 Qk,e 2 0 Qk,e 2 1 Qk,e 3 0 Qk,e 3 1 Qk,e 0 1 Qk⟩
 ·have q:=lt c hc
  have e:∀i:Nat,c≠n+i:=fun i=>qF (qC q (Nat.le_add_right _ _))
  exact⟨e 4,e 3,e 0,e 1,e 2⟩
 ·have e:∀i:Nat,cf X pins H1 (n+i):=fun i=>I1.fpOk (by rw[hn];exact Nat.le_add_right _ _) (I1.hok.fresh (by rw[hn];exact Nat.le_add_right _ _))
  simp only[qt,qQ,or_false]at hb
  rcases hb with rfl|rfl|rfl|rfl|rfl
  ·exact e 4
  ·exact e 2
  ·exact e 3
  ·exact e 0
  ·exact e 1
end
open PySem.Builtin.Str in
section
variable {X:Cx}
end
@[irreducible] def rStrAny:List V->Hp->VK->Prop:=fun xs H Q=>(∃z:Str,xs=[.str z]/\Q (.str z) H)\/∃i:Int,xs=[.int i]/\i.natAbs.log2<1920/\Q (.str (toString i)) H
section
variable {X:Cx}
end
mutual
inductive Dt (K:PySem.W.Frag) (H:Hp):V->PyData->Prop
 |non:Dt K H .non .none
 |bl (b:Bool):Dt K H (.bl b) (.bool b)
 |int (i:Int):Dt K H (.int i) (.int i)
 |str (x:Str):Dt K H (.str x) (.str x)
 |lst {a:Addr}{xs:List V}{ds:List PyData}:SqL K H a xs->dr K H xs ds->Dt K H (.ref a) (.list ds)
 |tup {a:Addr}{xs:List V}{ds:List PyData}:SqT K H a xs->dr K H xs ds->Dt K H (.ref a) (.tuple ds)
inductive dr (K:PySem.W.Frag) (H:Hp):List V->List PyData->Prop
 |nil:dr K H [] []
 |cons {v:V}{vs:List V}{d:PyData}{ds:List PyData}:Dt K H v d->dr K H vs ds->dr K H (v::vs) (d::ds)
end
section
variable {X:Cx}{pins:List (Addr×Obj)}{σ:St}{H:Hp}{s:Shared}
mutual
theorem Dt.reads (I:Inv X pins σ H s):∀{v:V}{d:PyData},Dt X.K H v d->∀{u:Value},av v u->∃as,Reads s.heap u d as
 |_,_,.non,_,r=>by cases r;exact⟨_,.none⟩
 |_,_,.bl b,_,r=>by cases r;exact⟨_,.bool b⟩
 |_,_,.int i,_,r=>by obtain⟨t,rfl⟩:=r;exact⟨_,.int i t⟩
 |_,_,.str x,_,r=>by obtain⟨t,rfl⟩:=r;exact⟨_,.str x t⟩
 |_,_,.lst hq ha,_,r=>by
  cases r
  obtain⟨its,rv,⟨o,n,e,c,_,d⟩,_⟩:=I.list hq
  obtain⟨as,z⟩:=dr.reads I ha rv
  exact⟨_,.list e c d (by simpa using z)⟩
 |_,_,.tup hq ha,_,r=>by
  cases r
  obtain⟨its,rv,⟨o,e,c,n,d⟩,_⟩:=I.tuple hq
  obtain⟨as,z⟩:=dr.reads I ha rv
  exact⟨_,.tuple e c d (by simpa using z)⟩
theorem dr.reads (I:Inv X pins σ H s):∀{vs:List V}{ds:List PyData},dr X.K H vs ds->∀{us:List Value},au vs us->∃as,ReadsAll s.heap us ds as
 |_,_,.nil,_,r=>by cases r;exact⟨_,.nil⟩
 |_,_,.cons h t,_,r=>by
  cases r with
  |cons r1 r2=>
   obtain⟨as,z⟩:=Dt.reads I h r1
   obtain⟨bs,z'⟩:=dr.reads I t r2
   exact⟨_,.cons z z'⟩
end
end
section
variable {X:Cx}
theorem Ae (hu:X.A.units+64<cLine):OpR X (compareOp .Eq) (fun x y H Q=>∃d e,Dt X.K H x d/\Dt X.K H y e/\SeqAt.shaped d=true/\SeqAt.shaped e=true/\Q (.bl (PyData.eqv d e)) H):=by
 intro pins s σ H x y v u Q I rx ry h
 obtain⟨d,e,h1,h2,s1,s2,q⟩:=h
 obtain⟨as,r1⟩:=h1.reads I rx
 obtain⟨bs,r2⟩:=h2.reads I ry
 exact eq_dataH r1 r2 s1 s2 hu ⟨.bl _,H,I,rfl,q⟩
theorem A5 (hu:X.A.units+64<cLine):OpR X (compareOp .NotEq) (fun x y H Q=>∃d e,Dt X.K H x d/\Dt X.K H y e/\SeqAt.shaped d=true/\SeqAt.shaped e=true/\Q (.bl (!PyData.eqv d e)) H):=by
 intro pins s σ H x y v u Q I rx ry h
 obtain⟨d,e,h1,h2,s1,s2,q⟩:=h
 obtain⟨as,r1⟩:=h1.reads I rx
 obtain⟨bs,r2⟩:=h2.reads I ry
 exact ne_dataH r1 r2 s1 s2 hu ⟨.bl _,H,I,rfl,q⟩
end
theorem uN {K:PySem.W.Frag}{b1 b2:Bool}{l1 l2:Addr}{xs ys:List V}{g:TG}{tb:TS}{D:eh}{σ:St}{H:Hp}(Pv:Nat->St->Hp->Prop) (h0:Pv 0 σ H) (hl:∀i σ H,Pv i σ H->SqB K H b1 l1 xs/\SqB K H b2 l2 ys)
 (hs:∀i x y σ H p,xs[i]?=some x->ys[i]?=some y->Pv i σ H->H p=none->g (.ref p) σ (upd H p (.tup [x,y])) fun σ2 H2=>tb { D with nx:=Pv (i+1),ct:=Pv (i+1),bk:=D.nx } σ2 H2) (hd:∀σ H,Pv (min xs.length ys.length) σ H->D.nx σ H):
 ∃W:Nat->Nat->St->Hp->Prop,(∃m,W 0 m σ H)/\∀i m σ H,W i m σ H->
  ((Itz K b1 b2 l1 l2).stop i H/\D.nx σ H)\/((Itz K b1 b2 l1 l2).go i H/\∃N:St->Hp->Prop,(∀σ' H',N σ' H'->∃m',m'<m/\W (i+1) m' σ' H')/\∀x H',(Itz K b1 b2 l1 l2).yld i H x H'->g x σ H' fun σ2 H2=>tb { D with nx:=N,ct:=N,bk:=D.nx } σ2 H2):=by
 refine⟨fun i m σ H=>m=min xs.length ys.length-i/\i<=min xs.length ys.length/\Pv i σ H,⟨_,rfl,qr _,h0⟩,?_⟩
 rintro i m σ H ⟨rfl,hi,p⟩
 obtain⟨q1,q2⟩:=hl i σ H p
 by_cases hlt:i<min xs.length ys.length
 ·have h1:i<xs.length:=by omega
  have h2:i<ys.length:=Qo
  refine .inr ⟨⟨xs,ys,xs[i],ys[i],q1,q2,by simp[h1],by simp[h2]⟩,Pv (i+1),fun σ' H' p'=>⟨_,Qo,rfl,hlt,p'⟩,fun v H' y=>?_⟩
  obtain⟨a,x,y,hn,rfl,rfl,e1,e2⟩:=y
  exact hs i x y σ H a (e1 xs q1) (e2 ys q2) p hn
 ·have e:i=min xs.length ys.length:=by omega
  subst e
  exact .inl ⟨⟨xs,ys,q1,q2,Qo⟩,hd σ H p⟩
theorem jY {K:PySem.W.Frag}{a:Addr}{xs:List V}{g:TG}{tt:TT}{te:TE}{Fin:List V->Hp->Prop}{σ:St}{H:Hp}(Pv:Nat->List V->St->Hp->Prop) (h0:Pv 0 [] σ H) (hz:∀i ys σ H,i<=xs.length->Pv i ys σ H->ys.length<=i) (hx:xs.length<=sizeLine) (hl:∀i ys σ H,Pv i ys σ H->SqL K H a xs)
 (hs:∀i x ys σ H,xs[i]?=some x->Pv i ys σ H->g x σ H fun σ2 H2=>tt σ2 H2 fun b H3=>if b=true then te σ2 H3 fun y H4=>Pv (i+1) (ys++[y]) σ2 H4 else Pv (i+1) ys σ2 H3)
 (hd:∀ys σ H,Pv xs.length ys σ H->Fin ys H):∃W:Nat->Nat->List V->St->Hp->Prop,(∃m,W 0 m [] σ H)/\gg (Itl K a) g tt te Fin W:=by
 refine⟨fun i m ys σ H=>m=xs.length-i/\i<=xs.length/\Pv i ys σ H,⟨_,rfl,qr _,h0⟩,?_⟩
 rintro i m ys σ H ⟨rfl,hi,p⟩
 have hl':=hz i ys σ H hi p
 have q:=hl i ys σ H p
 by_cases hlt:i<xs.length
 ·refine .inr ⟨⟨xs,xs[i],q,by simp[hlt]⟩,Qo,Pv (i+1),fun ys' σ' H' p'=>⟨_,Qo,rfl,hlt,p'⟩,fun v H' y=>?_⟩
  obtain⟨e,y⟩:=y
  subst e
  exact hs i v ys σ _ (y xs q) p
 ·have e:i=xs.length:=by omega
  subst e
  exact .inl ⟨⟨xs,q,qd _⟩,Qo,hd ys σ H p⟩
end L2
namespace L2
open PySem PySem.Spec PyProof.Rows
section
variable {X:Cx}{tg:Expr}
end
section
variable {X:Cx}
end
end L2
namespace L2
open PySem PySem.Spec PyProof.Rows PySem.NumText
def wl:List Nat->List Nat->List (List Nat)
 |[],cur=>if cur=[]then[]else[cur]
 |c::r,cur=>if c=32 then(if cur=[]then wl r []else cur::wl r [])else wl r (cur++[c])
theorem AZ:∀m:Nat,0<m->∃c r,Nat.toDigits 10 m=c::r/\c≠'0':=by
 intro m
 induction m using Nat.strongRecOn with
 |_ m ih=>
  intro hm
  by_cases h:m<10
  ·rw[Nat.toDigits_of_lt_base h]
   refine⟨_,[],rfl,?_⟩
   have:∀d:Nat,d<10->0<d->Nat.digitChar d≠'0':=Qk
   exact this m h hm
  ·have hr:m % 10<10:=Nat.mod_lt m Qk
   have t:Nat.toDigits 10 (m / 10)++Nat.toDigits 10 (m % 10)=Nat.toDigits 10 (10 * (m / 10)+m % 10):=Nat.toDigits_append_toDigits Qk Qo hr
   rw[Nat.div_add_mod]at t
   obtain⟨c,r,e,hc⟩:=ih (m / 10) Qo Qo
   rw[<- t,e]
   exact⟨c,_,rfl,hc⟩
theorem AY {n:Int}(h0:0<=n) (h1:n<10 ^ 30):let x:Str:=Str.ofString (toString n)
 1<=x.length/\x.length<=30/\AllDigits x.cps.toList/\digitsVal x.cps.toList=n.toNat/\¬ (x.cps.toList.head?=some 48/\¬ x="0"):=by
 have hl:(Str.ofString (toString n)).length<=30:=toString_length_le h0 Qk h1
 obtain⟨m,rfl⟩:=Int.eq_ofNat_of_zero_le h0
 have es:=PySem.W.KIN.signs_num m
 have ll:(Str.ofString (toString (m:Int))).cps.toList.length=(Str.ofString (toString (m:Int))).length:=qL
 refine⟨?_,hl,?_,?_,?_⟩
 ·rw[<- ll,es,q5]
  exact toDigits_len_ge 10 m
 ·intro c hc
  rw[es]at hc
  obtain⟨ch,hch,e⟩:=List.mem_map.mp hc
  rw[<- e]
  exact PyProof.Rows.digit_range (Nat.isDigit_of_mem_toDigits Qk Qk hch)
 ·rw[es,PySem.W.KIN.val_back]
  rfl
 ·rintro⟨e1,e2⟩
  by_cases hm:m=0
  ·subst hm
   exact e2 Qd
  ·obtain⟨c,r,e,hc⟩:=AZ m Qo
   rw[es,e]at e1
   have e3:c.toNat=48:=qI e1
   apply hc
   have:c=Char.ofNat c.toNat:=(Char.ofNat_toNat c).symm
   rw[this,e3]
end L2
namespace L2
open PySem PySem.Spec PyProof.Rows PySem.W
section
variable {prog:Program}{w:World}{A:Around}{R:Result->Shared->Prop}{E:Qq}{h:Heap}{g:Array GenState}{d:Drawn}{t:Nat}{os:OsState}
variable {nm q:Str}{C N f:Addr}{bs bm:List Value}{hdct:Bool}{sn:List Str}{sub:List Value}{ab:Bool}{col:Option Bool}{dd:Option Addr}{k0 k1 k2 k3 k5:Option Value}
end
section
variable {prog:Program}{w:World}{A:Around}{R:Result->Shared->Prop}{E:Qq}{h:Heap}{g:Array GenState}{d:Drawn}{t:Nat}{os:OsState}
variable {nm q:Str}{C N x:Addr}{bs bm:List Value}{sn:List Str}{sub:List Value}{ab:Bool}{col:Option Bool}{dd:Option Addr}{k0 k1 k2 k3 k5:Option Value}{newId:String}{name:Str}{v:Value}{o:Obj}{fs:Array Value}
end
section
variable {prog:Program}{w:World}{A:Around}{R:Result->Shared->Prop}{E:Qq}{h:Heap}{g:Array GenState}{d:Drawn}{t:Nat}{os:OsState}
variable {nm q:Str}{C N e:Addr}{bs bm:List Value}{hdct:Bool}{sn:List Str}{sub:List Value}{ab:Bool}{col:Option Bool}{dd:Option Addr}{k0 k1 k2 k3 k5:Option Value}{newId:String}{oe:Obj}
end
section
variable {X:Cx}{pins:List (Addr×Obj)}{σ:St}{H:Hp}{s:Shared}{a C f dx:Addr}
end
section
variable {X:Cx}{pins:List (Addr×Obj)}{σ:St}{H:Hp}{s:Shared}{a C f dx:Addr}{h':Heap}
end
section
variable {M:Model}{A:Around}{E:Qq}{s:Shared}{base:Heap}{env:Env}{outer:List Env}{L e:Addr}{oe:Obj}{vs:Array Value}
end
section
variable {P:Program}{w:World}{K:PySem.W.Frag}{mg:Str->Option Value}{base:Heap}{N:List Str}{qual:Str}{scope:Scope}{f:Addr}{cdv:Value}{A:Around}{outer:List Env}{s0:Shared}{H0:Hp}{E:XK}
end
section
variable {M:Model}{A:Around}{E:Qq}{env:Env}
variable {nm q:Str}{C N:Addr}{bs bm:List Value}{hdct:Bool}{sn:List Str}{sub:List Value}{ab:Bool}{col:Option Bool}{dd:Option Addr}{k0 k1 k2 k3 k5:Option Value}{newId:String}
end
section
variable {X:Cx}{CX:CXT}{k:Nat}{f C:Addr}{fd:FuncData}{ps:List Str}{sp:Sp}{x:Str}{p pos cpos:Pos}{e:Expr}{es:List Expr}{t:TA}
end
section
variable {M:Model}{A:Around}{E:Qq}{h:Heap}{g:Array GenState}{d:Drawn}{t:Nat}{os:OsState}{e:Addr}{oe:Obj}
variable {nm q:Str}{C N:Addr}{bs bm:List Value}{hdct:Bool}{sn:List Str}{sub:List Value}{ab:Bool}{col:Option Bool}{dd:Option Addr}{k0 k1 k2 k3 k5:Option Value}{newId:String}
variable {nm' q':Str}{C' N':Addr}{bs' bm':List Value}{hdct':Bool}{sn':List Str}{sub':List Value}{ab':Bool}{col':Option Bool}{dd':Option Addr}{k0' k1' k2' k3' k5':Option Value}{newId':String}
end
section
variable {X:Cx}{pins:List (Addr×Obj)}{σ:St}{H:Hp}{s:Shared}{a:Addr}{oe:Obj}{vs:Array Value}{ex:List Addr}{fl:Value}{h':Heap}
end
section
variable {X:Cx}{k:Nat}{f C0:Addr}{fd:FuncData}{ps:List Str}{sp:Sp}{dvs:List V}{ds:List Value}{fx cx y m n:Str}{iy im inn:Nat}{p pos apos py cp pm pn pa hpos tpos:Pos}{e:Expr}{es:List Expr}{t:TA}
end
section
variable {prog:Program}{w:World}{A:Around}{E:Qq}{h:Heap}{g:Array GenState}{d:Drawn}{t:Nat}{os:OsState}{a dx:Addr}{o:Obj}{vs:Array Value}
 {nm q:Str}{C N:Addr}{bs bm:List Value}{sn:List Str}{sub:List Value}{ab:Bool}{col:Option Bool}{dd:Option Addr}{k0 k1 k2 k3 k5:Option Value}{newId:String}{mA:Str->Option Value}{name:Str}{v:Value}
end
section
variable {X:Cx}{e:Expr}{te:TE}{pos:Pos}
end
section
variable {P:Program}{w:World}{K:PySem.W.Frag}{mg:Str->Option Value}{base:Heap}
end
section
variable {prog:Program}{w:World}{A:Around}{E:Qq}{h:Heap}{g:Array GenState}{d:Drawn}{t:Nat}{os:OsState}{a:Addr}{o:Obj}{vs:Array Value}
 {nm q:Str}{C N:Addr}{bs bm:List Value}{sn:List Str}{sub:List Value}{ab:Bool}{col:Option Bool}{dd:Option Addr}{k0 k1 k2 k3 k5:Option Value}{newId:String}
end
section
variable {X:Cx}
end
end L2
namespace L2
open PySem PySem.Spec PyProof.Rows
section
variable {X:Cx}
end
theorem xJ {x y:Str}(c:decide (V.str x=V.str y)=true):x=y:=by injection (of_decide_eq_true c)
theorem BY {x y:Int}(c:decide (V.int x=V.int y)=true):x=y:=by injection (of_decide_eq_true c)
end L2
namespace L2
open PySem
def txt (v:Value):Str:=match v with|.str x _=>x|_=>""
structure aM (P:Program) (w:World) (es:Array (Int×Value)) (t:SetTable) (ys:List Str):Prop where
 el:ElemsOf (strKind P w) es.toList
 nd:(es.toList.map fun e=>txt e.2).Nodup
 mem:∀k,k∈(es.toList.map fun e=>txt e.2)↔k∈ys
 few:es.size<scanBound
 fit:t.fits es.size=true
 led:t.led=!w.params.followText "set-order"
 pl:0<es.size->t.plain=false
theorem jQ {P:Program}{w:World}{k:Str}{v:Value}(h:(strKind P w).is k v=true):txt v=k:=by
 obtain⟨t,rfl⟩:=Value.isStrOf_shape h
 rfl
theorem xT (t:SetTable) (n:Nat):(t.orStandIn n).led=t.led/\(t.plain=false->(t.orStandIn n).plain=false):=by
 unfold SetTable.orStandIn
 split
 ·exact⟨rfl,fun z=>z⟩
 ·exact⟨rfl,fun _=>rfl⟩
theorem BA (t:SetTable) (es:Array (Int×Value)) (h:Int) (x:Value):(layNew t es h x).2.1.led=t.led/\(t.plain=false->(layNew t es h x).2.1.plain=false):=by
 unfold layNew
 split
 ·exact xT (t.put _).1 _
 ·exact⟨rfl,fun _=>rfl⟩
theorem yL (t:SetTable) (es:Array (Int×Value)) (n:Nat):(relayAll t es n).2.1.led=t.led/\(t.plain=false->(relayAll t es n).2.1.plain=false):=by
 unfold relayAll SetTable.standIn
 split
 ·rename_i t' order he
  unfold SetTable.relaid SetTable.laid at he
  have:t'.led=t.led/\t'.plain=t.plain:=by
   simp only[Option.bind_eq_bind,Option.bind_eq_some_iff]at he
   obtain⟨ow,_,he⟩:=he
   injection he with he
   injection he with h1 h2
   rw[<- h1]
   exact⟨rfl,rfl⟩
  dsimp only
  split
  ·exact⟨this.1,fun z=>this.2.trans z⟩
  ·exact⟨rfl,fun _=>rfl⟩
 ·exact⟨rfl,fun _=>rfl⟩
def aE (es:Array (Int×Value)) (ep:Nat) (t:SetTable):Obj:={ cls:=.type "set",dict:=none,data:=.set es ep t }
section
variable {P:Program}{w:World}{A:Around}{E:Qq}{s:Shared}
theorem fj {a:Addr}{es es':Array (Int×Value)}{ep:Nat}{t t':SetTable}(ho:s.heap.get? a=some (aE es ep t)):
 (s.heap.update a (Obj.putSet es' t')).get? a=some (aE es' (ep+1) t'):=by
 have hd:(aE es ep t).data=.set es ep t:=rfl
 have:=Heap.get?_update_self (Obj.putSet es' t') ho (by rw[putSet_of es' t' hd];rfl)
 rw[putSet_of es' t' hd]at this
 exact this
theorem oC {a:Addr}{es:Array (Int×Value)}{ep:Nat}{t:SetTable}{ys:List Str}{k:Str}{tk:Tok}{Q:Bool->Shared->Prop}
 (ho:s.heap.get? a=some (aE es ep t)) (T:aM P w es t ys) (room:es.size+1<scanBound)
 (h:∀(b:Bool) h' es' ep' t',Heap.SameBut a s.heap h'->h'.get? a=some (aE es' ep' t')->aM P w es' t' (ys++[k])->es'.size<=es.size+1->Q b { s with heap:=h' }):
 wpAny (model P w) A (setAddHashed a (.str k tk) (hashStr w k)) Q E s:=by
 have hkey:(strKind P w).is k (.str k tk)=true:=by
  show Value.isStrOf k (.str k tk)=true
  simp[Value.isStrOf]
 have hsc:(Value.str k tk).scannable=true:=rfl
 have hd:(aE es ep t).data=.set es ep t:=rfl
 unfold setAddHashed setAddHashedIn
 refine wpAny_holding (q4 (qW ho hd T.fit ?_))
 dsimp only
 rw[byScan_of hsc T.few T.el]
 simp only[↓reduceIte]
 unfold setAddByScan
 refine q4 ?_
 refine q4 (wpAny_rule ?_)
 refine q4 (wpAny_setScan_of (knd:=strKind P w) (k:=k) hkey ho hd T.fit T.el ?_)
 cases hr:List.findIdx? (fun e=>(strKind P w).is k e.2) es.toList with
 |some j=>
  dsimp only
  obtain⟨hj,hpj,_⟩:=List.findIdx?_eq_some_iff_getElem.mp hr
  refine qc (qc ?_)
  have:=h false s.heap es ep t (Heap.SameBut.refl a s.heap) ho ⟨T.el,T.nd,fun k'=>?_,T.few,T.fit,T.led,T.pl⟩ Qo
  ·exact this
  ·rw[T.mem k',qg,qS]
   refine⟨.inl,fun z=>z.elim id fun e=>?_⟩
   rw[<- T.mem,e,<- jQ hpj]
   exact List.mem_map.mpr ⟨_,List.getElem_mem hj,rfl⟩
 |none=>
  dsimp only
  have hnew:k∉es.toList.map fun e=>txt e.2:=by
   intro hm
   obtain⟨e,he,hk⟩:=List.mem_map.mp hm
   have hn:=List.findIdx?_eq_none_iff.mp hr e he
   obtain⟨⟨k',hk',_⟩,_⟩:=T.el e he
   rw[jQ hk']at hk
   subst hk
   rw[hk']at hn
   cases hn
  have hgw:∀(b:Bool) {s₁:Shared}{Q':Unit->Shared->Prop},Q' () s₁->wpAny (model P w) A (match b with|true=>rule "set.scan.the-table-gave-way"|false=>pure ()) Q' E s₁:=by
   intro b s₁ Q' hq
   cases b
   ·exact qc hq
   ·exact wpAny_rule hq
  have hperm:=layNew_perm t es (hashStr w k) (.str k tk)
  have hfits:=layNew_fits t es (hashStr w k) (.str k tk)
  have hled:=BA t es (hashStr w k) (.str k tk)
  show wpAny _ _ (match layNew t es (hashStr w k) (.str k tk)with|(es,t,wasDummy,gave)=>_) _ _ _
  generalize layNew t es (hashStr w k) (.str k tk)=Ln at hperm hfits hled ⊢
  obtain⟨es1,t1,wd,gv⟩:=Ln
  dsimp only at hperm hfits hled ⊢
  rw[Array.toList_push]at hperm
  have hsz1:es1.size=es.size+1:=by rw[<- qL,hperm.length_eq,qa,qL];rfl
  have tab:∀(es2:Array (Int×Value)) (t2:SetTable),es2.toList.Perm es1.toList->t2.fits es2.size=true->t2.led=t.led->t2.plain=false->aM P w es2 t2 (ys++[k]):=fun es2 t2 hp hf hl hpl=>by
   have hp':=hp.trans hperm
   refine⟨(T.el.push hkey hsc).perm hp',?_,fun k'=>?_,?_,hf,hl.trans T.led,fun _=>hpl⟩
   ·refine(hp'.map _).nodup_iff.mpr ?_
    rw[qO,List.nodup_append]
    refine⟨T.nd,by simp,fun x hx y hy=>?_⟩
    simp only[qR,List.map_nil,qS]at hy
    rintro rfl
    rw[hy]at hx
    exact hnew hx
   ·rw[(hp'.map _).mem_iff,qO,qg,T.mem k',qg]
    rfl
   ·rw[<- qL,hp'.length_eq,qa,qL]
    exact room
  refine q4 (hgw _ ?_)
  have tail:∀t2:SetTable,t2.fits es1.size=true->t2.led=t.led->t2.plain=false->∀R:Option Bool->Shared->Prop,(∀h' es' ep' t',Heap.SameBut a s.heap h'->h'.get? a=some (aE es' ep' t')->aM P w es' t' (ys++[k])->es'.size<=es.size+1->R (some true) { s with heap:=h' })->
   wpAny (model P w) A (do
    storeSet a es1 t2
    if(!wd && t2.tooFull)=true then do
     (match(relayAll t2 es1 (SetTable.grown es1.size)).2.2 with|true=>rule "set.scan.the-table-gave-way"|false=>pure ())
     storeSet a (relayAll t2 es1 (SetTable.grown es1.size)).1 (relayAll t2 es1 (SetTable.grown es1.size)).2.1
     pure (some true)
    else pure (some true)) R E s:=fun t2 hf hl hpl R hR=>by
   have room1:es1.size<=sizeLine:=fits_of_scanBound (by rw[hsz1];exact room)
   refine q4 (wpAny_storeSet_of ho hd ?_ room1)
   have ho1:=fj (s:=s) (es':=es1) (t':=t2) ho
   have sb1:=Heap.SameBut.update s.heap a (Obj.putSet es1 t2)
   split
   ·have hp:=relayAll_perm t2 es1 (SetTable.grown es1.size)
    have hfr:=relayAll_fits t2 es1 (SetTable.grown es1.size)
    have hlr:=yL t2 es1 (SetTable.grown es1.size)
    generalize relayAll t2 es1 (SetTable.grown es1.size)=Rl at hp hfr hlr ⊢
    obtain⟨es2,t3,g2⟩:=Rl
    dsimp only at hp hfr hlr ⊢
    have hsz2:es2.size=es1.size:=by rw[<- qL,hp.length_eq,qL]
    refine q4 (hgw _ ?_)
    refine q4 (wpAny_storeSet_of (s:={ s with heap:=s.heap.update a (Obj.putSet es1 t2) }) ho1 rfl ?_ (by rw[hsz2];exact room1))
    exact qc (hR _ es2 _ t3 (sb1.trans (Heap.SameBut.update _ a _)) (fj (s:={ s with heap:=s.heap.update a (Obj.putSet es1 t2) }) ho1) (tab es2 t3 hp hfr (hlr.1.trans hl) (hlr.2 hpl)) Qo)
   ·exact qc (hR _ es1 _ t2 sb1 ho1 (tab es1 t2 (.refl _) hf hl hpl) Qo)
  split
  ·refine q4 ?_
   rw[hashByValue_scannable 8 hsc]
   refine qc ?_
   refine tail _ (SetTable.fits_plain_off hfits) hled.1 rfl _ fun h' es' ep' t' a1 a2 a3 a4=>?_
   exact qc (h true h' es' ep' t' a1 a2 a3 a4)
  ·rename_i hpl
   refine q4 (qc ?_)
   simp only[↓reduceIte]
   refine tail _ hfits hled.1 (by simpa using hpl) _ fun h' es' ep' t' a1 a2 a3 a4=>?_
   exact qc (h true h' es' ep' t' a1 a2 a3 a4)
end
section
variable {P:Program}{w:World}{A:Around}{E:Qq}{s:Shared}
theorem Cz {R:Result->Shared->Prop}{I:Addr}{fp wr:List Addr}{G:Array GenState->Array GenState->Prop}{n:Nat}{PI:Nat->Value->Prop}{St:Nat->Shared->Prop}
 (W:WalksS P w A.in1 I fp wr G n PI St) (S:Addr) (hSf:S∉fp) (zs:List Str) (hz:∀i v,PI i v->∃k t,zs[i]?=some k/\v=.str k t) (hb:n+1<scanBound):
 ∀(k i:Nat) (s:Shared),n-i=k->i<=n->St i s->
  (∃es ep t,s.heap.get? S=some (aE es ep t)/\aM P w es t (zs.take i)/\es.size<=i)->
  (∀s',Moved (S::wr) G s s'->(∃es ep t,s'.heap.get? S=some (aE es ep t)/\aM P w es t (zs.take n)/\es.size<=n)->R (.ok (.ret .none)) s')->
  codeAny (model P w) A (.builtin "set.update.loop" ⟨[.ref S,.ref I],[]⟩) R s:=by
 have hSw:S∉wr:=fun z=>hSf (W.sub _ z)
 have up:∀b∈wr,b∈S::wr:=fun b z=>qj _ z
 intro k
 induction k with
 |zero=>
  intro i s hk hi hst hS hR
  obtain rfl:i=n:=Qo
  refine codeAny_builtin PyProof.Rows.F.entry_set_update_loop ?_
  rw[Around.under_plainId PyProof.Rows.F.plain_set_update_loop _]
  show wpAny _ A.in1 (pyNext (.ref I) >>= _) _ _ s
  refine q4 (W.done s _ _ hst fun s' hm=>?_)
  show wpAny _ A.in1 (ret Value.none) _ _ s'
  obtain⟨es,ep,t,h1,h2,h3⟩:=hS
  exact qc (hR s' (hm.mono up) ⟨es,ep,t,hm.heap S _ hSw h1,h2,h3⟩)
 |succ k ih=>
  intro i s hk hi hst hS hR
  have lt:i<n:=Qo
  refine codeAny_builtin PyProof.Rows.F.entry_set_update_loop ?_
  rw[Around.under_plainId PyProof.Rows.F.plain_set_update_loop _]
  show wpAny _ A.in1 (pyNext (.ref I) >>= _) _ _ s
  refine q4 (W.item i s _ _ lt hst fun v s' hP hst' hm=>?_)
  obtain⟨z,t,hzi,rfl⟩:=hz i v hP
  obtain⟨es,ep,tb,h1,h2,h3⟩:=hS
  have h1':=hm.heap S _ hSw h1
  show wpAny _ A.in1 (holding [Value.str z t] (setAdd S (.str z t)) >>= _) _ _ s'
  refine q4 (wpAny_holding ?_)
  unfold setAdd
  refine wpAny_holding ?_
  refine q4 (wpAny_pyHash_str ?_)
  refine oC (s:={ s' with toks:=s'.toks+1 }) h1' h2 Qo fun b h' es' ep' t' sb g1 g2 g3=>?_
  have e:zs.take (i+1)=zs.take i++[z]:=by rw[qq,hzi];rfl
  refine qc ⟨plainId_quiet PyProof.Rows.F.plain_set_update_loop _,ih (i+1) _ Qo lt (W.frame _ s' _ _ hst' (Nat.le_succ _) fun b hb o q=>?_) ⟨es',ep',t',g1,by rw[e];exact g2,Qo⟩ fun s2 m2 S2=>?_⟩
  ·rw[sb.2 b fun z:b=S=>hSf (by rw[<- z];exact hb)]
   exact q
  ·refine hR s2 (Moved.trans W.gtrans ((hm.mono up).then_heap (Nat.le_succ _) fun b o hb q=>?_) m2) S2
   rw[sb.2 b fun z:b=S=>hb (by rw[z];exact qk)]
   exact q
end
theorem dA:Slot "set_iterator" "__next__" "set_iterator.__next__":=
 .of (owner:="set_iterator") (n:="__next__") (by rw[typeLookup_type,builtinLookup_eq_fast];kernel_rfl) Qd Qd Qd (.inl Qd) (by rw[isSubtype_type];kernel_rfl)
theorem jd:entryFor table "set_iterator.__next__"=some Builtin.«set_iterator.__next__»:=entryFor_of_tree (by kernel_rfl)
theorem je (a:Value):argsOk "set_iterator.__next__" ⟨[a],[]⟩:=by unfold argsOk;kernel_rfl
theorem rQ:Slot "set_iterator" "__iter__" "set_iterator.__iter__":=
 .of (owner:="set_iterator") (n:="__iter__") (by rw[typeLookup_type,builtinLookup_eq_fast];kernel_rfl) Qd Qd Qd (by first|exact .inl Qd|exact .inr Qd) (by rw[isSubtype_type];kernel_rfl)
theorem xZ:entryFor table "set_iterator.__iter__"=some Builtin.«dict_keyiterator.__iter__»:=entryFor_alias (id':="dict_keyiterator.__iter__") (by kernel_rfl) rfl Qd (by kernel_rfl)
theorem y3 (a:Value):argsOk "set_iterator.__iter__" ⟨[a],[]⟩:=by unfold argsOk;kernel_rfl
theorem yg:entryFor table "set.__iter__"=some Builtin.«frozenset.__iter__»:=entryFor_alias (id':="frozenset.__iter__") (by kernel_rfl) rfl Qd (by kernel_rfl)
def cB (fst:Value) (i:Nat) (a:Addr) (n ep:Nat):Obj:={ cls:=.type "set_iterator",data:=.fields #[fst,.int i 0,.ref a,.int n 0,.int ep 0] }
section
variable {P:Program}{w:World}{A:Around}{E:Qq}{s:Shared}
theorem eB {a:Addr}{es:Array (Int×Value)}{ep:Nat}{t:SetTable}{Q:Array (Int×Value)->Shared->Prop}(ho:s.heap.get? a=some (aE es ep t)) (hf:t.fits es.size=true) (h:Q es s):
 wpAny (model P w) A (setEntries a) Q E s:=by
 unfold setEntries
 exact q4 (qW ho rfl hf (qc h))
theorem y6 {I a tp:Addr}{i p n ep:Nat}{es:Array (Int×Value)}{t:SetTable}{its:Array Value}{x:Int×Value}{nn:Nat}{ot:Obj}{tk:Tok}{Q:Option Value->Shared->Prop}
 (hi:s.heap.get? I=some (cB (.ref tp) i a n ep)) (hs:s.heap.get? a=some (aE es ep t)) (hf:t.fits es.size=true) (hn:es.size=n)
 (ht:s.heap.get? tp=some ot) (htd:ot.data=.seq its nn) (hp:its[i]?=some (.int (p:Int) tk)) (hx:es[p]?=some x)
 (h:∀h',h'.get? I=some (cB (.ref tp) (i+1) a n ep)->Heap.SameBut I s.heap h'->Q (some x.2) { s with heap:=h' }):
 wpAny (model P w) A (pyNext (.ref I)) Q E s:=by
 have ty:s.TypeIs (.ref I) "set_iterator":=⟨_,hi,rfl⟩
 unfold pyNext
 refine q4 (wpAny_attempt (wpAny_callSpecial?_slot (name:=Str.ofString "__next__") ty dA (wpAny_call_entry dA ty jd ?_ (je _))))
 unfold Builtin.«set_iterator.__next__»
 refine q4 (qc ?_)
 refine q4 (wpAny_fieldsOf hi rfl ?_)
 dsimp only
 refine q4 (eB hs hf ?_)
 have ne:((es.size:Int) != (n:Int))=false:=by rw[hn];simp
 rw[ne,qZ qh]
 refine q4 (wpAny_seqItems ht htd ?_)
 dsimp only
 rw[qX,hp]
 dsimp only
 refine q4 ?_
 unfold setNextDrawn
 refine q4 (qW hs rfl hf ?_)
 dsimp only
 have ne2:(ep != (ep:Int).toNat)=false:=by rw[qX];simp
 rw[ne2,qZ qh,qX,hx]
 dsimp only
 refine qc ?_
 refine q4 (wpAny_setField hi rfl (by simp) (qc ⟨_,rfl,qc (h _ ?_ (Heap.SameBut.update ..))⟩))
 have:=Heap.get?_update_self (Obj.mapFields (·.setIfInBounds 1 (rawInt ((i:Int)+1)))) hi rfl
 exact this
theorem pj {Q:Option Value->Shared->Prop}(hh:A.handled=none) (h:∀h',(∀b o,s.heap.get? b=some o->h'.get? b=some o)->Q none { s with heap:=h' }):
 wpAny (model P w) A.in1 (newExc (.type "StopIteration") [] >>= fun x=>(raiseNew x:Sem Fin)) (fun fin s'=>∃v,fin=Fin.done (Flow.ret v)/\wpAny (model P w) A (pure (some v)) Q E s')
  (fun e s'=>wpAny (model P w) A (do if <- isInstance e (Value.type "StopIteration")then pure none else throw e) Q E s') s:=by
 refine q4 ?_
 simp only[newExc,newTuple]
 refine q4 (wpAny_newObj_type ?_ (by size_fits))
 refine q4 (m:=firstArgMember _ _) (wpAny_of_eq (a:=Value.none) (by first|rfl|(simp only[firstArgMember];rfl)) ?_)
 refine wpAny_newObj_type ?_ (by size_fits)
 simp only[raiseNew]
 refine q4 (wpAny_handled ?_)
 have hh':A.in1.handled=none:=hh
 rw[hh']
 refine q4 (qc (wpAny_throw ?_))
 refine q4 (wpAny_isInstance (T:="StopIteration") (b:=true) ⟨_,qo _ rfl,rfl⟩ isSubtype_stop ?_)
 exact qc (h _ fun b o e=>q9 _ (q9 _ e))
theorem y4 {I a tp:Addr}{i n ep:Nat}{es:Array (Int×Value)}{t:SetTable}{its:Array Value}{nn:Nat}{ot:Obj}{Q:Option Value->Shared->Prop}(hh:A.handled=none)
 (hi:s.heap.get? I=some (cB (.ref tp) i a n ep)) (hs:s.heap.get? a=some (aE es ep t)) (hf:t.fits es.size=true) (hn:es.size=n)
 (ht:s.heap.get? tp=some ot) (htd:ot.data=.seq its nn) (hp:its[i]?=none)
 (h:∀h',(∀b o,b≠I->s.heap.get? b=some o->h'.get? b=some o)->Q none { s with heap:=h' }):
 wpAny (model P w) A (pyNext (.ref I)) Q E s:=by
 have ty:s.TypeIs (.ref I) "set_iterator":=⟨_,hi,rfl⟩
 unfold pyNext
 refine q4 (wpAny_attempt (wpAny_callSpecial?_slot (name:=Str.ofString "__next__") ty dA (wpAny_call_entry dA ty jd ?_ (je _))))
 unfold Builtin.«set_iterator.__next__»
 refine q4 (qc ?_)
 refine q4 (wpAny_fieldsOf hi rfl ?_)
 dsimp only
 refine q4 (eB hs hf ?_)
 have ne:((es.size:Int) != (n:Int))=false:=by rw[hn];simp
 rw[ne,qZ qh]
 refine q4 (wpAny_seqItems ht htd ?_)
 dsimp only
 rw[qX,hp]
 dsimp only
 refine q4 (wpAny_setField hi rfl (by simp) ?_)
 have g1:=Heap.get?_update_self (Obj.mapFields (·.setIfInBounds 0 (rawInt 0))) hi rfl
 refine q4 (wpAny_setField g1 rfl (by simp) ?_)
 refine pj hh fun h' k=>h h' fun b o hb e=>k b o ?_
 exact(Heap.get?_update_other _ _ (Ne.symm hb)).trans ((Heap.get?_update_other _ _ (Ne.symm hb)).trans e)
theorem rP {I a:Addr}{i n ep sl sl':Nat}{es:Array (Int×Value)}{t:SetTable}{x:Value}{Q:Option Value->Shared->Prop}
 (hi:s.heap.get? I=some (cB (.int (sl:Int) 0) i a n ep)) (hs:s.heap.get? a=some (aE es ep t)) (hf:t.fits es.size=true) (hn:es.size=n)
 (hx:∀Q':Option (Value×Nat)->Shared->Prop,∀E',Q' (some (x,sl')) s->wpAny (model P w) A.in1 (setNext a sl i ep) Q' E' s)
 (h:∀h',h'.get? I=some (cB (.int (sl':Int) 0) (i+1) a n ep)->Heap.SameBut I s.heap h'->Q (some x) { s with heap:=h' }):
 wpAny (model P w) A (pyNext (.ref I)) Q E s:=by
 have ty:s.TypeIs (.ref I) "set_iterator":=⟨_,hi,rfl⟩
 unfold pyNext
 refine q4 (wpAny_attempt (wpAny_callSpecial?_slot (name:=Str.ofString "__next__") ty dA (wpAny_call_entry dA ty jd ?_ (je _))))
 unfold Builtin.«set_iterator.__next__»
 refine q4 (qc ?_)
 refine q4 (wpAny_fieldsOf hi rfl ?_)
 dsimp only
 refine q4 (eB hs hf ?_)
 have ne:((es.size:Int) != (n:Int))=false:=by rw[hn];simp
 rw[ne,qZ qh,qX,qX,qX]
 refine q4 (hx _ _ ?_)
 dsimp only
 refine q4 (wpAny_setField hi rfl (by simp) ?_)
 have g1:=Heap.get?_update_self (Obj.mapFields (·.setIfInBounds 0 (rawInt (sl':Int)))) hi rfl
 refine q4 (wpAny_setField g1 rfl (by simp) (qc ⟨_,rfl,qc (h _ ?_ ((Heap.SameBut.update ..).trans (Heap.SameBut.update ..)))⟩))
 exact Heap.get?_update_self (Obj.mapFields (·.setIfInBounds 1 (rawInt ((i:Int)+1)))) g1 rfl
theorem kG {I a:Addr}{i n ep sl:Nat}{es:Array (Int×Value)}{t:SetTable}{Q:Option Value->Shared->Prop}(hh:A.handled=none)
 (hi:s.heap.get? I=some (cB (.int (sl:Int) 0) i a n ep)) (hs:s.heap.get? a=some (aE es ep t)) (hf:t.fits es.size=true) (hn:es.size=n)
 (hx:∀Q':Option (Value×Nat)->Shared->Prop,∀E',Q' none s->wpAny (model P w) A.in1 (setNext a sl i ep) Q' E' s)
 (h:∀h',(∀b o,b≠I->s.heap.get? b=some o->h'.get? b=some o)->Q none { s with heap:=h' }):
 wpAny (model P w) A (pyNext (.ref I)) Q E s:=by
 have ty:s.TypeIs (.ref I) "set_iterator":=⟨_,hi,rfl⟩
 unfold pyNext
 refine q4 (wpAny_attempt (wpAny_callSpecial?_slot (name:=Str.ofString "__next__") ty dA (wpAny_call_entry dA ty jd ?_ (je _))))
 unfold Builtin.«set_iterator.__next__»
 refine q4 (qc ?_)
 refine q4 (wpAny_fieldsOf hi rfl ?_)
 dsimp only
 refine q4 (eB hs hf ?_)
 have ne:((es.size:Int) != (n:Int))=false:=by rw[hn];simp
 rw[ne,qZ qh,qX,qX,qX]
 refine q4 (hx _ _ ?_)
 dsimp only
 refine q4 (wpAny_setField hi rfl (by simp) ?_)
 refine pj hh fun h' k=>h h' fun b o hb e=>k b o ?_
 exact(Heap.get?_update_other _ _ (Ne.symm hb)).trans e
theorem jc {I a:Addr}{fst:Value}{i n ep:Nat}{Q:Qq}(hi:s.heap.get? I=some (cB fst i a n ep)) (h:Q (.ref I) s):wpAny (model P w) A (pyIter (.ref I)) Q E s:=by
 have ty:s.TypeIs (.ref I) "set_iterator":=⟨_,hi,rfl⟩
 refine wpAny_pyIter_slot ty rQ (wpAny_call_entry rQ ty xZ ?_ (y3 _))
 show wpAny _ _ (ret (.ref I)) _ _ s
 exact qc ⟨_,rfl,"set_iterator",_,ty,dA.lookup,h⟩
end
section
variable {P:Program}{w:World}{A:Around}{E:Qq}{s:Shared}
theorem wF {src:Source}{n:Nat}{Q:Nat->Shared->Prop}(hn:n≠0) (h:∀i d,i<n->Q i { s with drawn:=d }):wpAny (model P w) A (choose src n) Q E s:=fun Γ p _=>by
 show Sem.wp _ _ (.choose src n .pure) _ _ _ _
 rw[Sem.wp_choose]
 refine⟨hn,?_⟩
 have:=h ((model P w).w.draws src (s.drawn.get src) % n) (s.drawn.bump src) (Nat.mod_lt _ (Nat.pos_of_ne_zero hn))
 simpa using this
theorem sU {α:Type}{xs:List α}{i:Nat}{x:α}(h:xs[i]?=some x):(x::xs.eraseIdx i).Perm xs:=by
 induction xs generalizing i with
 |nil=>simp at h
 |cons y r ih=>
  cases i with
  |zero=>simp at h;subst h;exact .refl _
  |succ j=>
   simp only[List.getElem?_cons_succ]at h
   exact(List.Perm.swap y x _).trans ((ih h).cons y)
theorem nX {α:Type}:∀(n:Nat) (xs:List α) (s:Shared) (Q:List α->Shared->Prop),xs.length=n->(∀ys d,ys.Perm xs->Q ys { s with drawn:=d })->wpAny (model P w) A (drawOrder n xs) Q E s
 |0,xs,s,Q,hn,h=>by
  obtain rfl:=List.length_eq_zero_iff.mp hn
  exact qc (h [] s.drawn (.refl _))
 |n+1,[],s,Q,hn,h=>by cases hn
 |n+1,x::r,s,Q,hn,h=>by
  unfold drawOrder
  refine q4 (wF (by simp) fun i d hi=>?_)
  have e:(x::r)[i]?=some (x::r)[i]:=qb hi
  rw[e]
  dsimp only
  refine q4 (nX n _ _ _ (by rw[List.length_eraseIdx_of_lt hi];omega) fun ys d' hp=>qc ?_)
  exact h _ d' ((hp.cons _).trans (sU e))
theorem sQ {α:Type}(next:Nat->Nat):∀(fuel k:Nat) (left:List α) (out:Array α),left.length=fuel->(pickOrder.go next fuel k left out).toList.Perm (out.toList++left)
 |0,k,left,out,h=>by
  obtain rfl:=List.length_eq_zero_iff.mp h
  unfold pickOrder.go
  rw[qw]
 |fuel+1,k,left,out,h=>by
  unfold pickOrder.go
  have hi:next k % left.length<left.length:=Nat.mod_lt _ Qo
  have e:=qb hi
  rw[e]
  dsimp only
  refine(sQ next fuel (k+1) _ _ (by rw[List.length_eraseIdx_of_lt hi];omega)).trans ?_
  rw[Array.toList_push,qM]
  exact(List.Perm.refl _).append (sU e)
theorem sP {α:Type}(next:Nat->Nat) (xs:Array α):(pickOrder next xs).toList.Perm xs.toList:=by
 have:=sQ next xs.size 0 xs.toList #[] qL
 simpa[pickOrder]using this
theorem dX {Q:Bool->Shared->Prop}(h:Q (w.params.followText "set-order") s):wpAny (model P w) A setsByText Q E s:=by
 unfold setsByText
 exact q4 (wpAny_askSetting (qc h))
structure DD (P:Program) (w:World) (es:Array (Int×Value)) (a:Addr) (s s':Shared) (I:Addr):Prop where
 ex:∃(fp:List Addr) (vs:List Value) (St:Nat->Heap->Prop),vs.Perm (es.toList.map (·.2))/\(∀A:Around,A.handled=none->Walks P w A I fp [I] vs.length (fun i v=>vs[i]?=some v) St)/\St 0 s'.heap/\(∀b∈fp,b<s'.heap.objs.size/\(b=a\/s.heap.get? b=none))/\I∈fp
 old:∀b o,s.heap.get? b=some o->s'.heap.get? b=some o
 new:s.heap.get? I=none
 gens:s'.gens=s.gens
 os:s'.os=s.os
 toks:s'.toks=s.toks
theorem Cw {t:SetTable}{n:Nat}(h:t.fits n=true):t.place.size=n:=by
 simp only[SetTable.fits,Bool.and_eq_true,beq_iff_eq]at h
 exact h.1
theorem eM {h:Heap}{b:Addr}(k:h.objs.size<=b):h.get? b=none:=by
 cases q:h.get? b with
 |none=>rfl
 |some o=>exact absurd (qC (qp q) k) (Nat.lt_irrefl _)
theorem BQ {a:Addr}{es:Array (Int×Value)}{ep:Nat}{t:SetTable}{ys:List Str}{Q:Qq}(hs:s.heap.get? a=some (aE es ep t)) (T:aM P w es t ys)
 (h:∀s' I,DD P w es a s s' I->Q (.ref I) s'):wpAny (model P w) A (pyIter (.ref a)) Q E s:=by
 have ty:s.TypeIs (.ref a) "set":=⟨_,hs,rfl⟩
 have alt:a<s.heap.objs.size:=qp hs
 refine wpAny_pyIter_slot ty F.slot_set_iter (wpAny_call_entry F.slot_set_iter ty yg ?_ (F.args_set_iter_1 _))
 unfold Builtin.«frozenset.__iter__»
 refine q4 (qc ?_)
 refine q4 ?_
 unfold Builtin.Frozenset.sizeOf
 refine q4 (eB hs T.fit (qc ?_))
 refine q4 ?_
 unfold setDrawn
 refine q4 (qW hs rfl T.fit ?_)
 dsimp only
 refine q4 (dX (qc ?_))
 have two:∀(fst:Value) (s1:Shared),s1.heap.get? a=some (aE es ep t)->(∀it s',it=.ref s1.heap.objs.size->s'={ s1 with heap:=s1.heap.push (cB fst 0 a es.size ep) }->Q it s')->
  wpAny (model P w) A.in1 (do
   let e <- setEpoch a
   let x <- newFields "set_iterator" [fst,rawInt 0,.ref a,rawInt (es.size:Int),rawInt (e:Int)]
   ret x) (fun fin s'=>∃v,fin=Fin.done (Flow.ret v)/\∃T' r,s'.TypeIs v T'/\typeLookup (Value.type T') (Str.ofString "__next__")=pure (some r)/\Q v s') E s1:=fun fst s1 h1 hq=>by
  refine q4 (wpAny_setEpoch_of h1 rfl T.fit ?_)
  unfold newFields
  refine q4 (wpAny_newObj_type ?_)
  refine qc ⟨_,rfl,"set_iterator",_,⟨_,qo _ rfl,rfl⟩,dA.lookup,hq _ _ rfl rfl⟩
 show wpAny _ _ (if(!w.params.followText "set-order" && (!t.plain && decide (es.size > 1)))=true then _ else _) _ _ _
 have hpl:=Cw T.fit
 by_cases hb:w.params.followText "set-order"=true
 ·rw[hb]
  simp only[Bool.not_true,Bool.false_and,Bool.false_eq_true,if_false]
  refine q4 (qc ?_)
  refine two _ s hs fun it s' e1 e2=>?_
  subst e1 e2
  have pp:=sP (w.params.setOrder a ep) es
  have pl:((pickOrder (w.params.setOrder a ep) es).toList.map (·.2)).length=es.size:=by rw[q5,pp.length_eq,qL]
  have nx:∀(A':Around) (i:Nat) (s1:Shared) (Q':Option (Value×Nat)->Shared->Prop) E',s1.heap.get? a=some (aE es ep t)->Q' (((pickOrder (w.params.setOrder a ep) es)[i]?).map fun e=>(e.2,0)) s1->wpAny (model P w) A' (setNext a 0 i ep) Q' E' s1:=fun A' i s1 Q' E' h1 q=>by
   unfold setNext
   refine q4 (qW h1 rfl T.fit ?_)
   dsimp only
   refine q4 (dX ?_)
   rw[hb,Q0 rfl]
   have ne:(ep != ep)=false:=by simp
   rw[ne,qZ qh]
   refine q4 ?_
   unfold setWalk
   refine q4 (qW h1 rfl T.fit ?_)
   dsimp only
   refine q4 (dX ?_)
   rw[hb,Q0 rfl]
   refine q4 (wpAny_askSetting (qc ?_))
   exact qc q
  have nI:a≠s.heap.objs.size:=qF alt
  refine h _ _ ⟨⟨[s.heap.objs.size,a],(pickOrder (w.params.setOrder a ep) es).toList.map (·.2),fun i h'=>h'.get? s.heap.objs.size=some (cB (.int 0 0) i a es.size ep)/\h'.get? a=some (aE es ep t),pp.map _,fun A' hh=>?_,⟨qo _ rfl,q9 _ hs⟩,?_,by simp⟩,fun b o e=>q9 _ e,?_,rfl,rfl,rfl⟩
  ·refine⟨fun b hb=>by simp at hb;simp[hb],fun i h1 h2 st k=>⟨k _ (by simp) _ st.1,k _ (by simp) _ st.2⟩,fun i s1 Q' E' hi st q=>?_,fun s1 Q' E' st q=>?_,fun i s1 Q' E' st q=>jc st.1 q⟩
   ·have hi':i<(pickOrder (w.params.setOrder a ep) es).size:=by rw[q5,qL]at hi;exact hi
    refine rP (sl:=0) (sl':=0) (x:=(pickOrder (w.params.setOrder a ep) es)[i].2) st.1 st.2 T.fit rfl (fun Q2 E2 q2=>nx _ _ _ _ _ st.2 (by rw[Array.getElem?_eq_getElem hi'];exact q2)) fun h' g1 g2=>q _ h' s1.toks ?_ ⟨g1,?_⟩ fun b o hb e=>?_
    ·simp[hi']
    ·rw[g2.2 _ nI];exact st.2
    ·rw[g2.2 _ (by simpa using hb)];exact e
   ·have hi':(pickOrder (w.params.setOrder a ep) es)[((pickOrder (w.params.setOrder a ep) es).toList.map (·.2)).length]?=none:=by simp
    exact kG (sl:=0) hh st.1 st.2 T.fit rfl (fun Q2 E2 q2=>nx _ _ _ _ _ st.2 (by rw[hi'];exact q2)) fun h' g=>q h' s1.toks fun b o hb e=>g b o (by simpa using hb) e
  ·intro b hb
   simp only[qt,qQ,or_false]at hb
   rw[Heap.size_push]
   rcases hb with rfl|rfl
   ·exact⟨Nat.lt_succ_self _,.inr (eM (qd _))⟩
   ·exact⟨Nat.lt_succ_of_lt alt,.inl rfl⟩
  ·exact eM (qd _)
 ·have hb':w.params.followText "set-order"=false:=by simpa using hb
  rw[hb']
  have led:t.led=true:=by rw[T.led,hb'];rfl
  by_cases hz:es.size > 1
  ·have hp:=T.pl Qo
   rw[hp]
   simp only[Bool.not_false,Bool.true_and,hz,decide_true,if_true]
   refine q4 (nX _ _ _ _ (by simp) fun ps d hps=>?_)
   refine q4 (wpAny_newTuple ?_ (by rw[q5,hps.length_eq,List.length_range];exact fits_of_scanBound T.few))
   refine two _ _ (q9 _ hs) fun it s' e1 e2=>?_
   subst e1 e2
   dsimp only
   have lt:∀p∈ps,p<es.size:=fun p hm=>List.mem_range.mp (hps.mem_iff.mp hm)
   have sz:(s.heap.push { cls:=.type "tuple",data:=.seq (ps.map fun i:Nat=>rawInt i).toArray }).objs.size=s.heap.objs.size+1:=Heap.size_push ..
   have vp:(ps.map fun p=>(es.toList.map (·.2)).getD p .none).Perm (es.toList.map (·.2)):=by
    refine(hps.map _).trans ?_
    have e:(List.range es.size).map (fun p=>(es.toList.map (·.2)).getD p .none)=es.toList.map (·.2):=by
     refine List.ext_getElem (by simp) fun i h1 h2=>?_
     simp only[List.getElem_map,List.getElem_range]
     rw[qi,qb h2]
     simp
    rw[e]
   have nI:a≠(s.heap.push { cls:=.type "tuple",data:=.seq (ps.map fun i:Nat=>rawInt i).toArray }).objs.size:=by rw[sz];exact qF (Nat.lt_succ_of_lt alt)
   have nT:s.heap.objs.size≠(s.heap.push { cls:=.type "tuple",data:=.seq (ps.map fun i:Nat=>rawInt i).toArray }).objs.size:=by rw[sz];exact qF (Nat.lt_succ_self _)
   refine h _ _ ⟨⟨[(s.heap.push { cls:=.type "tuple",data:=.seq (ps.map fun i:Nat=>rawInt i).toArray }).objs.size,a,s.heap.objs.size],ps.map fun p=>(es.toList.map (·.2)).getD p .none,
    fun i h'=>h'.get? (s.heap.push { cls:=.type "tuple",data:=.seq (ps.map fun i:Nat=>rawInt i).toArray }).objs.size=some (cB (.ref s.heap.objs.size) i a es.size ep)/\h'.get? a=some (aE es ep t)/\h'.get? s.heap.objs.size=some { cls:=.type "tuple",data:=.seq (ps.map fun i:Nat=>rawInt i).toArray },
    vp,fun A' hh=>?_,⟨qo _ rfl,q9 _ (q9 _ hs),q9 _ (qo _ rfl)⟩,?_,by simp⟩,fun b o e=>q9 _ (q9 _ e),?_,rfl,rfl,rfl⟩
   ·refine⟨fun b hb=>by simp at hb;simp[hb],fun i h1 h2 st k=>⟨k _ (by simp) _ st.1,k _ (by simp) _ st.2.1,k _ (by simp) _ st.2.2⟩,fun i s1 Q' E' hi st q=>?_,fun s1 Q' E' st q=>?_,fun i s1 Q' E' st q=>jc st.1 q⟩
    ·have hi':i<ps.length:=by rw[q5]at hi;exact hi
     have pl:=lt _ (List.getElem_mem hi')
     refine y6 (p:=ps[i]) (tk:=0) (x:=es[ps[i]]) st.1 st.2.1 T.fit rfl st.2.2 rfl (by simp[hi',rawInt]) (Array.getElem?_eq_getElem pl) fun h' g1 g2=>q _ h' s1.toks ?_ ⟨g1,?_,?_⟩ fun b o hb e=>?_
     ·simp[hi',pl]
     ·rw[g2.2 _ nI];exact st.2.1
     ·rw[g2.2 _ nT];exact st.2.2
     ·rw[g2.2 _ (by simpa using hb)];exact e
    ·exact y4 hh st.1 st.2.1 T.fit rfl st.2.2 rfl (by simp) fun h' g=>q h' s1.toks fun b o hb e=>g b o (by simpa using hb) e
   ·intro b hb
    simp only[qt,qQ,or_false]at hb
    rw[Heap.size_push,sz]
    rcases hb with rfl|rfl|rfl
    ·rw[sz];exact⟨Nat.lt_succ_self _,.inr (eM (Nat.le_succ _))⟩
    ·exact⟨Nat.lt_succ_of_lt (Nat.lt_succ_of_lt alt),.inl rfl⟩
    ·exact⟨Nat.lt_succ_of_lt (Nat.lt_succ_self _),.inr (eM (qd _))⟩
   ·rw[sz];exact eM (Nat.le_succ _)
  ·have hz':decide (es.size > 1)=false:=decide_eq_false hz
   rw[hz',Bool.and_false,Bool.and_false,qZ qh]
   refine q4 (qc ?_)
   refine two _ s hs fun it s' e1 e2=>?_
   subst e1 e2
   have nI:a≠s.heap.objs.size:=qF alt
   have nx:∀(A':Around) (i sl:Nat) (s1:Shared) (Q':Option (Value×Nat)->Shared->Prop) E',s1.heap.get? a=some (aE es ep t)->Q' (match es[SetTable.below t.place sl]?,t.place[SetTable.below t.place sl]? with|some (_,x),some j=>some (x,j+1)|_,_=>none) s1->wpAny (model P w) A' (setNext a sl i ep) Q' E' s1:=fun A' i sl s1 Q' E' h1 q=>by
    unfold setNext
    refine q4 (qW h1 rfl T.fit ?_)
    dsimp only
    refine q4 (dX ?_)
    rw[hb',qZ qh]
    show wpAny _ _ (if(!t.plain && decide (es.size > 1))=true then _ else _) _ _ _
    rw[hz',Bool.and_false,qZ qh]
    refine q4 ?_
    show wpAny _ _ (if(!t.led && !es.isEmpty)=true then _ else _) _ _ _
    rw[led,Bool.not_true,Bool.false_and,qZ qh]
    exact qc (qc q)
   have gofar:∀sl:Nat,es.size=0->SetTable.below t.place sl=0:=fun sl h0=>by
    unfold SetTable.below
    rw[hpl,h0]
    rfl
   have gone:∀j sl:Nat,t.place=#[j]->SetTable.below t.place sl=if j<sl then 1 else 0:=fun j sl e=>by
    rw[e]
    simp[SetTable.below,SetTable.below.go]
   have old:∀b o,s.heap.get? b=some o->(s.heap.push (cB (rawInt 0) 0 a es.size ep)).get? b=some o:=fun b o e=>q9 _ e
   have inn:∀b∈[s.heap.objs.size,a],b<(s.heap.push (cB (rawInt 0) 0 a es.size ep)).objs.size/\(b=a\/s.heap.get? b=none):=by
    intro b hb
    simp only[qt,qQ,or_false]at hb
    rw[Heap.size_push]
    rcases hb with rfl|rfl
    ·exact⟨Nat.lt_succ_self _,.inr (eM (qd _))⟩
    ·exact⟨Nat.lt_succ_of_lt alt,.inl rfl⟩
   by_cases h0:es.size=0
   ·have e0:es=#[]:=Array.eq_empty_of_size_eq_zero h0
    refine h _ _ ⟨⟨[s.heap.objs.size,a],[],fun i h'=>h'.get? s.heap.objs.size=some (cB (.int ((0:Nat):Int) 0) i a es.size ep)/\h'.get? a=some (aE es ep t),by rw[e0];exact .refl _,fun A' hh=>?_,⟨qo _ rfl,old _ _ hs⟩,inn,by simp⟩,old,eM (qd _),rfl,rfl,rfl⟩
    refine⟨fun b hb=>by simp at hb;simp[hb],fun i h1 h2 st k=>⟨k _ (by simp) _ st.1,k _ (by simp) _ st.2⟩,fun i s1 Q' E' hi st q=>absurd hi (Nat.not_lt_zero _),fun s1 Q' E' st q=>?_,fun i s1 Q' E' st q=>jc st.1 q⟩
    exact kG (sl:=0) hh st.1 st.2 T.fit rfl (fun Q2 E2 q2=>nx _ _ _ _ _ _ st.2 (by rw[gofar 0 h0,e0];exact q2)) fun h' g=>q h' s1.toks fun b o hb e=>g b o (by simpa using hb) e
   ·have h1:es.size=1:=by omega
    obtain⟨x,ex⟩:∃x,es=#[x]:=⟨es[0],by
     refine Array.ext (by simpa using h1) fun i hi hj=>?_
     have:i=0:=by simp at hj;exact hj
     subst this
     rfl⟩
    obtain⟨j,ej⟩:∃j,t.place=#[j]:=⟨t.place[0]'(by rw[hpl,h1];decide),by
     refine Array.ext (by simp[hpl,h1]) fun i hi hj=>?_
     have:i=0:=by simp at hj;exact hj
     subst this
     rfl⟩
    refine h _ _ ⟨⟨[s.heap.objs.size,a],[x.2],fun i h'=>h'.get? s.heap.objs.size=some (cB (.int ((if i=0 then 0 else j+1:Nat):Int) 0) i a es.size ep)/\h'.get? a=some (aE es ep t),by rw[ex];exact .refl _,fun A' hh=>?_,⟨qo _ rfl,old _ _ hs⟩,inn,by simp⟩,old,eM (qd _),rfl,rfl,rfl⟩
    refine⟨fun b hb=>by simp at hb;simp[hb],fun i h1 h2 st k=>⟨k _ (by simp) _ st.1,k _ (by simp) _ st.2⟩,fun i s1 Q' E' hi st q=>?_,fun s1 Q' E' st q=>?_,fun i s1 Q' E' st q=>jc st.1 q⟩
    ·obtain rfl:i=0:=by simp at hi;exact hi
     refine rP (sl:=0) (sl':=j+1) (x:=x.2) st.1 st.2 T.fit rfl (fun Q2 E2 q2=>nx _ _ _ _ _ _ st.2 ?_) fun h' g1 g2=>q _ h' s1.toks rfl ⟨g1,?_⟩ fun b o hb e=>?_
     ·rw[gone j 0 ej,ej,ex]
      exact q2
     ·rw[g2.2 _ nI];exact st.2
     ·rw[g2.2 _ (by simpa using hb)];exact e
    ·refine kG (sl:=j+1) hh st.1 st.2 T.fit rfl (fun Q2 E2 q2=>nx _ _ _ _ _ _ st.2 ?_) fun h' g=>q h' s1.toks fun b o hb e=>g b o (by simpa using hb) e
     rw[gone j (j+1) ej,Q0 (Nat.lt_succ_self j),ej,ex]
     exact q2
end
section
variable {P:Program}{w:World}{A:Around}{E:Qq}{s:Shared}
theorem yf:typeLookup (.type "set") "__len__"=pure (some (.builtin "set.__len__")):=by rw[typeLookup_type,builtinLookup_eq_fast];kernel_rfl
theorem i9:isSubtype (.type "set") (.type "set")=pure true:=by rw[isSubtype_type];kernel_rfl
theorem D6 {a:Addr}{es:Array (Int×Value)}{ep:Nat}{t:SetTable}{ys:List Str}{Q:List Value->Shared->Prop}(hh:A.handled=none) (hs:s.heap.get? a=some (aE es ep t)) (T:aM P w es t ys)
 (h:∀s' vs,vs.Perm (es.toList.map (·.2))->(∀b o,s.heap.get? b=some o->s'.heap.get? b=some o)->s'.gens=s.gens->s'.os=s.os->s.heap.objs.size<s'.heap.objs.size->Q vs s'):wpAny (model P w) A (collect (.ref a)) Q E s:=by
 unfold collect
 refine q4 (wpAny_runValue (codeAny_builtin F.entry_proto_collect ?_))
 rw[Around.under_plainId F.plain_proto_collect _]
 show wpAny _ A.in1 (newList [] >>= fun l=>again (.builtin "list.__iadd__" ⟨[l,.ref a],[]⟩)) _ _ s
 refine q4 (wpAny_newObj_type ?_)
 refine qc ⟨plainId_quiet F.plain_list_iadd _,codeAny_builtin F.entry_list_iadd ?_⟩
 rw[Around.under_plainId F.plain_list_iadd _]
 have alt:a<s.heap.objs.size:=qp hs
 have hs1:(s.heap.push { cls:=.type "list",data:=.seq ([]:List Value).toArray }).get? a=some (aE es ep t):=q9 _ hs
 show wpAny _ A.in1 (Builtin.List.listExtendWith (.ref s.heap.objs.size) (.ref a) (.ref s.heap.objs.size)) _ _ _
 unfold Builtin.List.listExtendWith
 refine q4 (wpAny_typeOf (T:="set") ⟨_,hs1,rfl⟩ ?_)
 have h1:Builtin.List.listSameRef (.ref s.heap.objs.size) (.ref a)=false:=by
  simp only[Builtin.List.listSameRef,beq_eq_false_iff_ne]
  exact Nat.ne_of_gt alt
 rw[qZ (by rw[h1];decide)]
 refine q4 (BQ (A:=A.in1) (s:={ s with heap:=s.heap.push { cls:=.type "list",data:=.seq ([]:List Value).toArray } }) hs1 T fun s2 I W=>?_)
 obtain⟨⟨fp,vs,St,hp,wk,st0,hfp,hI⟩,old,new,eg,eo,et⟩:=W
 have hs2:=old _ _ hs1
 have l2:=old _ _ (show(s.heap.push { cls:=.type "list",data:=.seq ([]:List Value).toArray }).get? s.heap.objs.size=some { cls:=.type "list",data:=.seq ([]:List Value).toArray }from qo _ rfl)
 refine q4 (wpAny_holding ?_)
 unfold Builtin.List.listLengthHint
 refine q4 (wpAny_specialOf (T:="set") ⟨_,hs2,rfl⟩ yf ?_)
 have ty2:s2.TypeIs (.ref a) "set":=⟨_,hs2,rfl⟩
 (generalize hid:("set.__len__":String)=id0;(fail_if_success (clear hid id0));wp_delta;rw[show splitId id0=some ("set","__len__")from by subst hid;decide +kernel];subst hid)
 refine q4 (wpAny_isInstance (b:=true) ty2 i9 ?_)
 rw[qZ Qk]
 show wpAny _ _ (if _=true then _ else _) _ _ _
 rw[Q0 Qk]
 refine q4 (wpAny_typeOf ty2 ?_)
 refine qc ?_
 rw[Q0 Qk]
 refine q4 (wpAny_rule ?_)
 refine q4 ?_
 show wpAny _ A.in1 (updateSeq s.heap.objs.size (·.push .none) >>= fun _=>updateSeq s.heap.objs.size (·.pop)) _ _ _
 refine q4 (wpAny_updateSeq l2 rfl ?_)
 have l3:=Heap.get?_update_self (Obj.mapSeq (·.push Value.none)) l2 rfl
 refine wpAny_updateSeq l3 rfl ?_
 have l4:=Heap.get?_update_self (Obj.mapSeq (·.pop)) l3 rfl
 have oth:∀b o,b≠s.heap.objs.size->s2.heap.get? b=some o->((s2.heap.update s.heap.objs.size (Obj.mapSeq (·.push Value.none))).update s.heap.objs.size (Obj.mapSeq (·.pop))).get? b=some o:=fun b o hb e=>
  (Heap.get?_update_other _ _ (Ne.symm hb)).trans ((Heap.get?_update_other _ _ (Ne.symm hb)).trans e)
 have notin:s.heap.objs.size∉fp:=fun hm=>by
  rcases(hfp _ hm).2 with z|z
  ·exact Nat.lt_irrefl _ (z▸alt)
  ·rw[show({ s with heap:=s.heap.push { cls:=.type "list",data:=.seq ([]:List Value).toArray } }:Shared).heap.get? s.heap.objs.size=some { cls:=.type "list",data:=.seq ([]:List Value).toArray }from qo _ rfl]at z
   cases z
 have hn:vs.length<=sizeLine:=by rw[hp.length_eq,q5,qL];exact fits_of_scanBound T.few
 have W:=(wk A.in1 (by simp[hh])).toS
 refine qc ⟨plainId_quiet F.plain_extend_loop _,codeAny_extend_loopS W hn _ notin _ vs.length 0 _ _ _ rfl (qr _)
  (W.frame 0 s2 _ s2.toks st0 (qd _) fun b hb o e=>oth b o (fun z=>notin (z▸hb)) e) l4 (ItemsOf.nil _) fun s' acc c' hm hS' hacc=>?_⟩
 show wpAny _ A (load s.heap.objs.size >>= _) _ _ s'
 refine q4 (wpAny_load hS' (qc ?_))
 have ea:acc.toList=vs:=by
  refine List.ext_getElem? fun i=>?_
  rw[qT]
  by_cases hi:i<acc.size
  ·rw[Array.getElem?_eq_getElem hi]
   exact(hacc.2 i _ (Array.getElem?_eq_getElem hi)).symm
  ·rw[Array.getElem?_eq_none (Nat.not_lt.mp hi),List.getElem?_eq_none (by have:=hacc.1;omega)]
 rw[ea]
 refine h s' vs hp (fun b o e=>?_) (hm.gens.trans eg) (hm.os.trans eo) (qp hS')
 have lb:b≠s.heap.objs.size:=fun z=>by rw[z]at e;exact Nat.lt_irrefl _ (qp e)
 have bI:b≠I:=fun z=>by
  rw[z]at e
  have e2:(s.heap.push { cls:=.type "list",data:=.seq ([]:List Value).toArray }).get? I=some o:=q9 _ e
  exact absurd (e2.symm.trans new) (by simp)
 exact hm.heap b o (by simp[lb,bI]) (oth b o lb (old b o (q9 _ e)))
theorem xU {a:Addr}{es:Array (Int×Value)}{ep:Nat}{t:SetTable}{ys:List Str}{Q:Qq}(hh:A.handled=none) (hs:s.heap.get? a=some (aE es ep t)) (T:aM P w es t ys) (few:es.size<64)
 (h:∀s' l n (zs:List Str) (out:List Value),s.heap.objs.size<=l->s'.heap.get? l=some { cls:=.type "list",data:=.seq out.toArray n }->PyProof.Rows.StrsAre out zs->zs.Nodup->(∀k,k∈zs↔k∈ys)->PyProof.Rows.sortedS zs=true->zs.length=es.size->
  (∀b o,s.heap.get? b=some o->s'.heap.get? b=some o)->s'.gens=s.gens->s'.os=s.os->Q (.ref l) s'):wpAny (model P w) A (call (.builtin "sorted") [.ref a]) Q E s:=by
 refine Calls.call_function_entry PyProof.Rows.kind_sorted PyProof.Rows.plain_sorted PyProof.Rows.entry_sorted (PyProof.Rows.args_sorted1 _) ?_
 unfold Builtin.«sorted»
 refine q4 (m:=checkCount "sorted" 1 1 _) (qc ?_)
 refine q4 (D6 (A:=A.in1) (by simpa using hh) hs T fun s1 vs hp old eg eo lt1=>?_)
 have str:∀us:List Value,(∀v∈us,∃k tk,v=Value.str k tk)->PyProof.Rows.StrsAre us (us.map txt):=by
  intro us
  induction us with
  |nil=>intro _;exact .nil
  |cons v r ih=>
   intro hv
   obtain⟨k,tk,rfl⟩:=hv _ qk
   exact .cons k tk (ih fun u hu=>hv u (qj _ hu))
 have all:∀v∈vs,∃k tk,v=Value.str k tk:=fun v hv=>by
  obtain⟨e,he,rfl⟩:=List.mem_map.mp (hp.mem_iff.mp hv)
  obtain⟨⟨k,hk,_⟩,_⟩:=T.el e he
  obtain⟨tk,e2⟩:=Value.isStrOf_shape hk
  exact⟨k,tk,e2⟩
 have hS:=str vs all
 have len:vs.length=es.size:=by rw[hp.length_eq,q5,qL]
 refine q4 (wpAny_newList ?_ (by rw[len];exact fits_of_scanBound T.few))
 have ho:(s1.heap.push { cls:=.type "list",data:=.seq vs.toArray }).get? s1.heap.objs.size=some (PyProof.Rows.seqObj "list" vs.toArray 0):=qo _ rfl
 refine q4 (wpAny_holding (wpAny_call_entry PyProof.Rows.slot_list_sort ⟨_,ho,rfl⟩ PyProof.Rows.entry_list_sort (PyProof.Rows.list_sort_treeK PyProof.Rows.strKind_oneLt ho hS.keysOf (fun v1 v2 rest e=>PyProof.Rows.keyKind_strs (by rw[<- e];exact hS)) Qo fun st' a1 a2=>⟨_,rfl,?_⟩) (PyProof.Rows.args_list_sort _)))
 obtain⟨zs,h1,h2,h3⟩:=PyProof.Rows.sorted_out_str hS a1 a2
 obtain⟨n,at1⟩:=PyProof.Rows.sortedHeap_at (out:=(PyProof.Rows.arrOf st').map (·.2)) ho
 have pz:zs.Perm (es.toList.map fun e=>txt e.2):=by
  refine h2.trans ((hp.map txt).trans ?_)
  rw[List.map_map]
  exact .refl _
 refine qc ⟨_,rfl,h _ s1.heap.objs.size n zs ((PyProof.Rows.arrOf st').map (·.2)).toList (Nat.le_of_lt lt1) ?_ h1 (pz.nodup_iff.mpr T.nd) (fun k=>(pz.mem_iff).trans (T.mem k)) h3 (by rw[pz.length_eq,q5,qL]) (fun b o e=>?_) eg eo⟩
 ·exact at1
 ·have e1:=old b o e
  have lt:=qp e1
  have e2:=(PyProof.Rows.sortedHeap_old (h:=s1.heap.push { cls:=.type "list",data:=.seq vs.toArray }) (a:=s1.heap.objs.size) (vs:=vs) (out:=(PyProof.Rows.arrOf st').map (·.2)) (qF lt) (by rw[Heap.size_push];exact Nat.lt_succ_of_lt lt))
  exact e2.trans (q9 _ e1)
end
section
variable {P:Program}{w:World}{A:Around}{E:Qq}{s:Shared}
def bb (w:World):Obj:=aE #[] 0 (.fresh 0 0 (!w.params.followText "set-order"))
theorem tS (v:Value) {Q1:Qq}(h:Q1 (.ref s.heap.objs.size) { s with heap:=s.heap.push (bb w) }):
 codeAny (model P w) A (.call (.builtin "set.__new__") ⟨[.type "set",v],[]⟩) (wants Q1 E) s:=by
 refine codeAny_of_tree ?_
 show wpAny _ A.in1 (do checkBuiltinCall "set.__new__" ⟨[.type "set",v],[]⟩;again (.builtin "set.__new__" ⟨[.type "set",v],[]⟩)) _ _ s
 have en:=F.entry_set_new
 have pl:=F.plain_set_new
 refine q4 (wpAny_of_eq (F.newCall_set_1 v) (qc ⟨plainId_quiet pl _,codeAny_builtin en ?_⟩))
 rw[Around.under_plainId pl _]
 unfold Builtin.«set.__new__» Builtin.Frozenset.newClass
 have sub:=sub_set_self
 obtain⟨hp,g,d,tk,os⟩:=s
 dsimp only
 wp_walk
 refine wpAny_askSetting (qc ?_)
 dsimp only
 simp only[newObj]
 refine q4 (wpAny_alloc (qc ?_))
 exact qc h
theorem pd:∀{vs:List Value}{zs:List Str},PyProof.Rows.StrsAre vs zs->zs.length=vs.length
 |_,_,.nil=>rfl
 |_,_,.cons _ _ r=>by rw[qz,qz,pd r]
theorem pe:∀{vs:List Value}{zs:List Str},PyProof.Rows.StrsAre vs zs->∀(i:Nat) (v:Value),vs[i]?=some v->∃k t,zs[i]?=some k/\v=.str k t
 |_,_,.nil,i,v,h=>by simp at h
 |_,_,.cons x t r,0,v,h=>by simp at h;exact⟨x,t,rfl,h.symm⟩
 |_,_,.cons x t r,i+1,v,h=>by
  simp only[List.getElem?_cons_succ]at h ⊢
  exact pe r i v h
theorem j7:aM P w #[] (.fresh 0 0 (!w.params.followText "set-order")) []:=
 { el:=(fun e he=>by cases he),nd:=List.nodup_nil,mem:=fun _=>Iff.rfl,few:=(by unfold scanBound;decide),fit:=rfl,led:=rfl,pl:=fun z=>absurd z (Nat.lt_irrefl 0) }
set_option maxHeartbeats 3200000 in
theorem De {l:Addr}{items:Array Value}{zs:List Str}{Q:Qq}(hh:A.handled=none) (hl:s.heap.IsList l items) (hi:PyProof.Rows.StrsAre items.toList zs) (hb:items.size+1<scanBound)
 (h:∀(h':Heap) (tk:Nat) es ep t,h'.get? s.heap.objs.size=some (aE es ep t)->aM P w es t zs->
  (∀b o,b<s.heap.objs.size->s.heap.get? b=some o->h'.get? b=some o)->Q (.ref s.heap.objs.size) { s with heap:=h',toks:=tk }):
 wpAny (model P w) A (call (.type "set") [.ref l]) Q E s:=by
 obtain⟨c,tl,hmro⟩:=F.called_set.mro
 have hmade:=F.called_set.made
 have hsub:=F.called_set.sub
 refine wpAny_call (codeAny_of_tree ?_)
 show wpAny _ _ (callAny (.type "set") _) _ _ _
 refine qc ⟨Code.quiet_builtin _ Qd,codeAny_builtin F.entry_type_call ?_⟩
 rw[Around.under_plain (weight_type_call_type "set" [.ref l] []) rfl]
 have h1:=F.called_set.notType
 have h2:=F.called_set.canCreate
 have hct:=F.typeCall_set_1 (.ref l)
 repeat (any_goals (first|assumption|wp_step))
 refine codeAny_mono (tS (P:=P) (w:=w) (E:=E) (s:=s) (.ref l) (Q1:=fun ob s1=>ob=.ref s.heap.objs.size/\s1={ s with heap:=s.heap.push (bb w) }) ⟨rfl,rfl⟩) fun r s1 hr=>?_
 cases r with
 |error e=>exact hr
 |ok fl=>
  cases fl with
  |ret ob=>
   obtain⟨rfl,rfl⟩:=hr
   have hS:(s.heap.push (bb w)).get? s.heap.objs.size=some (bb w):=qo _ rfl
   have hT:Shared.TypeIs { s with heap:=s.heap.push (bb w) } (.ref s.heap.objs.size) "set":=⟨_,hS,rfl⟩
   have hli:=F.called_set.init.lookup
   have hbi:=F.called_set.init.bind (.ref s.heap.objs.size)
   repeat (any_goals (first|assumption|wp_step))
   refine codeAny_mono (codeAny_call_builtin (R:=wants (fun r s2=>r=.none/\∃h' tk,s2={ s with heap:=h',toks:=tk }/\(∃es ep t,h'.get? s.heap.objs.size=some (aE es ep t)/\aM P w es t zs) /\
    (∀b o,b<s.heap.objs.size->s.heap.get? b=some o->h'.get? b=some o)) E) F.called_set.init.plain F.entry_set_init (check_set_init_1 hT ?_)) fun r2 s2 hr2=>?_
   ·obtain⟨ol,hol,hcl,nl,hdl⟩:=hl
    obtain⟨ocls,odict,odata,oslots⟩:=ol
    simp only at hcl hdl
    subst hcl hdl
    have hol':(s.heap.push (bb w)).get? l=some { cls:=.type "list",dict:=odict,data:=.seq items nl,slots:=oslots }:=q9 _ hol
    have k1:=F.sub_list_set
    have k2:=F.sub_list_frozenset
    have k3:(Value.type "list" == Value.type "dict")=false:=Qk
    have hl1:(s.heap.push (bb w)).IsList l items:=⟨_,hol',rfl,nl,rfl⟩
    unfold Builtin.«set.__init__» noKeywords Builtin.Frozenset.updateFrom
    generalize hPI:pyIter=PI
    wp_walk
    subst hPI
    refine wpAny_pyIter_list hl1 ?_
    refine q4 (wpAny_runValue ?_)
    have lS:l<s.heap.objs.size:=qp hol
    have hh3:A.in1.in1.in1.handled=none:=by simp[hh]
    have neI:l≠(s.heap.push (bb w)).objs.size:=by rw[Heap.size_push];exact qF (Nat.lt_succ_of_lt lS)
    have nin:s.heap.objs.size∉[(s.heap.push (bb w)).objs.size,l]:=by
     rw[Heap.size_push]
     simp only[qt,qQ,or_false,not_or]
     exact⟨qF (Nat.lt_succ_self _),Nat.ne_of_gt lS⟩
    have hz:∀(i:Nat) (v:Value),items[i]?=some v->∃k t,zs[i]?=some k/\v=.str k t:=fun i v hv=>pe hi i v (by rw[qT];exact hv)
    have lz:zs.length=items.size:=by rw[<- qL];exact pd hi
    refine Cz ((Walks.list hh3 _ l neI items).toS) s.heap.objs.size nin zs hz hb (items.size-0) 0 _ Qo (qr _) ⟨⟨_,qo _ rfl,rfl,rfl⟩,(hl1.push _)⟩ ⟨#[],0,_,q9 _ hS,j7,qd _⟩ fun s' hm hS'=>?_
    obtain⟨es,ep,t,g1,g2,_⟩:=hS'
    obtain⟨h',g',d',tk',os'⟩:=s'
    have eg:g'=s.gens:=hm.gens
    have ed:d'=s.drawn:=hm.drawn
    have eo:os'=s.os:=hm.os
    subst eg ed eo
    refine qc ?_
    rw[<- lz,qG]at g2
    refine qc ⟨rfl,h',tk',rfl,⟨es,ep,t,g1,g2⟩,fun b o hb e=>?_⟩
    have n1:b≠s.heap.objs.size:=qF hb
    have n2:b≠(s.heap.push (bb w)).objs.size:=by rw[Heap.size_push];exact qF (Nat.lt_succ_of_lt hb)
    exact hm.heap b o (by simp only[qt,qQ,or_false,not_or];exact⟨n1,n2⟩) (q9 _ (q9 _ e))
   ·cases r2 with
    |error e=>exact hr2
    |ok fl2=>
     cases fl2 with
     |ret r=>
      obtain⟨rfl,h',tk,rfl,⟨es,ep,t,g1,g2⟩,hk⟩:=hr2
      repeat (any_goals (first|assumption|wp_step))
      exact h _ _ _ _ _ g1 g2 hk
     |_=>exact hr2.elim
  |_=>exact hr.elim
end
end L2
namespace L2
open PySem PySem.Spec PyProof.Rows
def bv (P:Program) (w:World) (a:Addr) (ys:List Str):HO:=.ext fun h=>∃es ep t,h.get? a=some (aE es ep t)/\aM P w es t ys
theorem bv.ok {P:Program}{w:World}{H:Hp}{h:Heap}{a:Addr}{ys:List Str}{es:Array (Int×Value)}{ep:Nat}{t:SetTable}(e:h.get? a=some (aE es ep t)) (T:aM P w es t ys):bq P w H h a (bv P w a ys):=
 ⟨⟨es,ep,t,e,T⟩,⟨_,e⟩,fun h1 h2 ⟨es,ep,t,q,T⟩ k=>⟨es,ep,t,k _ q,T⟩⟩
theorem pb:∀{ys:List Str}{its:List Value},au (ys.map V.str) its->StrsAre its ys
 |[],_,.nil=>.nil
 |y::ys,_,.cons r t=>by
  obtain⟨k,rfl⟩:=r
  exact .cons y k (pb t)
theorem tN:∀{ys:List Str}{its:List Value},StrsAre its ys->au (ys.map V.str) its
 |_,_,.nil=>.nil
 |_,_,.cons x t r=>.cons ⟨t,rfl⟩ (tN r)
theorem cq {zs ds:List Str}(h:zs.Nodup) (k:∀x∈zs,x∈ds):zs.length<=ds.length:=by
 induction zs generalizing ds with
 |nil=>exact qr _
 |cons x r ih=>
  have hx:=k x qk
  have h':=List.nodup_cons.mp h
  have:=ih (ds:=ds.erase x) h'.2 fun y hy=>(List.mem_erase_of_ne (by rintro rfl;exact h'.1 hy)).mpr (k y (qj _ hy))
  rw[List.length_erase_of_mem hx]at this
  have:0<ds.length:=List.length_pos_of_mem hx
  simp only[qz]
  omega
section
variable {X:Cx}
theorem Inv.redrawn {pins:List (Addr×Obj)}{σ:St}{H:Hp}{s s':Shared}(I:Inv X pins σ H { s with heap:=s'.heap }) (hg:s'.gens=s.gens) (ho:s'.os=s.os):Inv X pins σ H s':=
 ⟨I.ok,ho.trans I.os,by rw[hg];exact I.bare,I.base,I.loc,I.cell,I.free,I.freeC,I.pin,I.hok,I.len⟩
theorem fP (hc:X.calm=true):bT X (.type "set") (fun xs H Q=>∃p ys,xs=[.ref p]/\SqL X.K H p (ys.map V.str)/\ys.length<4000/\∀l,H l=none->Q (.ref l) (upd H l (bv X.prog X.w l ys))):=by
 intro pins s σ H xs us Q I r h
 obtain⟨p,ys,rfl,hq,hz,q⟩:=h
 obtain⟨u,rfl,rx⟩:=dw r
 cases rx
 obtain⟨its,r',pl,_⟩:=I.list hq
 have hlen:=r'.length
 rw[q5]at hlen
 refine De (I.ok.hd hc) pl.isList (zs:=ys) (by simpa using pb r') (by simp only[qA];unfold scanBound;omega) fun h' tk es ep t e T k=>?_
 have kp:∀b o,s.heap.get? b=some o->h'.get? b=some o:=fun b o q=>k b o (qp q) q
 exact⟨.ref s.heap.objs.size,_,I.laid (t':=tk) kp (qd _) (bv.ok e T),rfl,q _ (I.hok.fresh (qd _))⟩
theorem iS (hc:X.calm=true):bT X (.builtin "sorted") (fun xs H Q=>∃(p:Addr) (ys ds:List Str),xs=[.ref p]/\H p=some (bv X.prog X.w p ys)/\(∀k∈ys,k∈ds)/\ds.length<64 /\
 ∀l zs,H l=none->zs.Nodup->(∀k,k∈zs↔k∈ys)->sortedS zs=true->Q (.ref l) (upd H l (.lst (zs.map V.str)))):=by
 intro pins s σ H xs us Q I r h
 obtain⟨p,ys,ds,rfl,hq,hd,h64,q⟩:=h
 obtain⟨u,rfl,rx⟩:=dw r
 cases rx
 obtain⟨⟨es,ep,t,e,T⟩,_,_⟩:=I.hok p _ hq
 have few:es.size<64:=by
  have:=cq T.nd fun x hx=>hd x ((T.mem x).mp hx)
  rw[q5,qL]at this
  omega
 refine xU (I.ok.hd hc) e T few fun s' l n zs out hl ho hS nd hm so hzl kp hg hos=>?_
 have lz:zs.length<=sizeLine:=by rw[hzl];exact fits_of_scanBound T.few
 have J:=I.laid (t':=s.toks) (h':=s'.heap) (a:=l) (o:=.lst (zs.map V.str)) kp hl ⟨by rw[q5];exact lz,out,n,tN hS,ho⟩
 exact⟨.ref l,_,Inv.redrawn (s:=s) J hg hos,rfl,q l zs (I.hok.fresh hl) nd hm so⟩
end
end L2
namespace L2
open PySem
section
variable {P:Program}{w:World}{A:Around}{E:Qq}{s:Shared}
end
end L2
namespace L2
open PySem PySem.Spec PyProof.Rows
section
variable {X:Cx}
end
theorem D0 {K:PySem.W.Frag}{a:Addr}{xs:List V}{g:TG}{tt:TT}{te:TE}{Fin:List V->Hp->Prop}{σ:St}{H:Hp}(Pv:Nat->List V->St->Hp->Prop) (h0:Pv 0 [] σ H) (hz:∀i ys σ H,i<=xs.length->Pv i ys σ H->ys.length<=i) (hx:xs.length<=sizeLine) (hl:∀i ys σ H,Pv i ys σ H->SqT K H a xs)
 (hs:∀i x ys σ H,xs[i]?=some x->Pv i ys σ H->g x σ H fun σ2 H2=>tt σ2 H2 fun b H3=>if b=true then te σ2 H3 fun y H4=>Pv (i+1) (ys++[y]) σ2 H4 else Pv (i+1) ys σ2 H3)
 (hd:∀ys σ H,Pv xs.length ys σ H->Fin ys H):∃W:Nat->Nat->List V->St->Hp->Prop,(∃m,W 0 m [] σ H)/\gg (Itt K a) g tt te Fin W:=by
 refine⟨fun i m ys σ H=>m=xs.length-i/\i<=xs.length/\Pv i ys σ H,⟨_,rfl,qr _,h0⟩,?_⟩
 rintro i m ys σ H ⟨rfl,hi,p⟩
 have few:=hz i ys σ H hi p
 have q:=hl i ys σ H p
 by_cases lt:i<xs.length
 ·refine .inr ⟨⟨xs,xs[i],q,by simp[lt]⟩,Qo,Pv (i+1),fun ys' σ' H' p'=>⟨_,Qo,rfl,lt,p'⟩,fun v H' y=>?_⟩
  obtain⟨e,y⟩:=y
  subst e
  exact hs i v ys σ _ (y xs q) p
 ·obtain rfl:i=xs.length:=by omega
  exact .inl ⟨⟨xs,q,qd _⟩,Qo,hd ys σ H p⟩
theorem bY {b:Bool}{A B:Prop}(h:b=true) (x:A):if b=true then A else B:=by rw[Q0 h];exact x
theorem bi {b:Bool}{A B:Prop}(h:b=false) (x:B):if b=true then A else B:=by rw[qZ (by rw[h];decide)];exact x
end L2
namespace Tr
open PySem PySem.Spec PyProof.Rows L2
set_option linter.all false
inductive Val
 |num (n:Int)
 |nm (x:Str)
inductive a8
 |set (x:Str) (a:Val) (sg:Str) (b:Val)
 |put (q x:Str)
 |get (q x:Str)
 |give (x:Str)
 |cond (x:Str) (t o:List a8)
 |whl (x:Str) (b:List a8)
 |rep (n:Int) (b:List a8)
def Val.names:Val->List Str
 |.num _=>[]
 |.nm x=>[x]
def a8.names:a8->List Str
 |.set x a _ b=>x::(a.names++b.names)
 |.put _ x|.get _ x|.give x|.cond x _ _|.whl x _=>[x]
 |.rep _ _=>[]
def a8.inner:a8->List (List a8)
 |.cond _ t o=>[t,o]
 |.whl _ b|.rep _ b=>[b]
 |_=>[]
def a8.others:a8->List Str
 |.put q _=>[q++(">":Str)]
 |.get q _=>[q++("<":Str)]
 |.give _|.whl _ _=>[(">":Str)]
 |_=>[]
mutual
def a8.flat:a8->List a8
 |.cond x t o=>.cond x t o::(ah t++ah o)
 |.whl x b=>.whl x b::ah b
 |.rep n b=>.rep n b::ah b
 |.set x a sg b=>[.set x a sg b]
 |.put q x=>[.put q x]
 |.get q x=>[.get q x]
 |.give x=>[.give x]
def ah:List a8->List a8
 |[]=>[]
 |d::r=>d.flat++ah r
end
mutual
def a8.depth:a8->Nat
 |.cond _ t o=>max (aw t) (aw o)+1
 |.whl _ b=>aw b+1
 |.rep _ b=>aw b+1
 |_=>0
def aw:List a8->Nat
 |[]=>0
 |d::r=>max d.depth (aw r)
end
def a8.cards (d:a8):List Str:=d.names++d.others
def cards (b:List a8):List Str:=(ah b).flatMap a8.cards
theorem cG:∀(a b:List a8),ah (a++b)=ah a++ah b
 |[],b=>rfl
 |d::a,b=>by rw[List.cons_append,ah,ah,cG a b,qM]
theorem iR (a b:List a8):cards (a++b)=cards a++cards b:=by unfold cards;rw[cG,qU]
theorem fJ:∀(a b:List a8),aw (a++b)=max (aw a) (aw b)
 |[],b=>by rw[List.nil_append,aw,Nat.zero_max]
 |d::a,b=>by rw[List.cons_append,aw,aw,fJ a b,Nat.max_assoc]
theorem df (d:a8):d.flat=d::d.inner.flatMap ah:=by
 cases d<;>simp[a8.flat,a8.inner]
theorem bG (d:a8):cards [d]=d.cards++d.inner.flatMap cards:=by
 unfold cards
 rw[ah,ah,qw,df,qE]
 congr 1
 rw[List.flatMap_assoc]
inductive Op
 |root
 |ifT (x:Str)
 |ifO (x:Str) (t:List a8)
 |whl (x:Str)
 |rep (n:Int)
structure Fr where
 op:Op
 ds:List a8
 shut:Bool
 times:Int
def Fr.deed (f:Fr):a8:=match f.op with
 |.root=>.rep 0 f.ds
 |.ifT x=>.cond x f.ds []
 |.ifO x t=>.cond x t f.ds
 |.whl x=>.whl x f.ds
 |.rep n=>.rep n f.ds
def Fr.add (g:Fr) (d:a8):Fr:={ g with ds:=g.ds++[d] }
def jZ:List Fr->List Fr
 |f::g::r=>g.add f.deed::r
 |st=>st
def Op.extra:Op->List a8
 |.ifO _ t=>t
 |_=>[]
def Op.one:Op->Nat
 |.root=>0
 |_=>1
def cnt:List Fr->Nat
 |[]=>0
 |f::r=>(ah f.ds).length+(ah f.op.extra).length+f.op.one+cnt r
theorem vx (f:Fr):aw [f.deed]<=max (aw f.ds) (aw f.op.extra)+1:=by
 unfold Fr.deed
 cases e:f.op<;>simp only[aw,a8.depth,Op.extra]<;>omega
theorem vA {f:Fr}(h0:f.op≠.root):(ah [f.deed]).length<=(ah f.ds).length+(ah f.op.extra).length+f.op.one:=by
 unfold Fr.deed
 cases e:f.op with
 |root=>exact absurd e h0
 |_=>simp[ah,a8.flat,Op.extra,Op.one]<;>omega
theorem vI (g:Fr) (r:List Fr) (d:a8):cnt (g.add d::r)=cnt (g::r)+(ah [d]).length:=by
 simp only[cnt,Fr.add,cG,qa]
 omega
theorem D7 {f g:Fr}{r:List Fr}(h0:f.op≠.root):cnt (jZ (f::g::r))<=cnt (f::g::r):=by
 show cnt (g.add f.deed::r)<=_
 rw[vI]
 have:=vA h0
 simp only[cnt]
 omega
def kws:List Str:=["ask","store","put","get","give","if","else","while","repeat","end"]
def st0:List Fr:=[⟨.root,[],false,1⟩]
def Val.v:Val->V
 |.num n=>.int n
 |.nm x=>.str x
mutual
inductive RD (H:Hp):V->a8->Prop
 |set {p:Addr}{x:Str}{a:Val}{sg:Str}{b:Val}:H p=some (.tup [.str "set",.str x,a.v,.str sg,b.v])->RD H (.ref p) (.set x a sg b)
 |put {p:Addr}{q x:Str}:H p=some (.tup [.str "put",.str q,.str x])->RD H (.ref p) (.put q x)
 |get {p:Addr}{q x:Str}:H p=some (.tup [.str "get",.str q,.str x])->RD H (.ref p) (.get q x)
 |give {p:Addr}{x:Str}:H p=some (.tup [.str "give",.str x])->RD H (.ref p) (.give x)
 |cond {p t o:Addr}{x:Str}{ts os:List a8}:H p=some (.tup [.str "if",.str x,.ref t,.ref o])->RL H t ts->RL H o os->RD H (.ref p) (.cond x ts os)
 |whl {p b:Addr}{x:Str}{bs:List a8}:H p=some (.tup [.str "while",.str x,.ref b])->RL H b bs->RD H (.ref p) (.whl x bs)
 |rep {p b:Addr}{n:Int}{bs:List a8}:H p=some (.tup [.str "repeat",.int n,.ref b])->RL H b bs->RD H (.ref p) (.rep n bs)
inductive RL (H:Hp):Addr->List a8->Prop
 |mk {l:Addr}{vs:List V}{ds:List a8}:H l=some (.lst vs)->RDs H vs ds->RL H l ds
inductive RDs (H:Hp):List V->List a8->Prop
 |nil:RDs H [] []
 |cons {v:V}{vs:List V}{d:a8}{ds:List a8}:RD H v d->RDs H vs ds->RDs H (v::vs) (d::ds)
end
mutual
theorem RD.same {H H':Hp}(e:aa H H'):∀{v:V}{d:a8},RD H v d->RD H' v d
 |_,_,.set h=>.set (e _ _ h)
 |_,_,.put h=>.put (e _ _ h)
 |_,_,.get h=>.get (e _ _ h)
 |_,_,.give h=>.give (e _ _ h)
 |_,_,.cond h a b=>.cond (e _ _ h) (RL.same e a) (RL.same e b)
 |_,_,.whl h a=>.whl (e _ _ h) (RL.same e a)
 |_,_,.rep h a=>.rep (e _ _ h) (RL.same e a)
theorem RL.same {H H':Hp}(e:aa H H'):∀{l:Addr}{ds:List a8},RL H l ds->RL H' l ds
 |_,_,.mk h a=>.mk (e _ _ h) (RDs.same e a)
theorem RDs.same {H H':Hp}(e:aa H H'):∀{vs:List V}{ds:List a8},RDs H vs ds->RDs H' vs ds
 |_,_,.nil=>.nil
 |_,_,.cons a b=>.cons (RD.same e a) (RDs.same e b)
end
theorem RDs.app {H:Hp}:∀{us vs:List V}{a b:List a8},RDs H us a->RDs H vs b->RDs H (us++vs) (a++b)
 |_,_,_,_,.nil,h=>h
 |_,_,_,_,.cons x r,h=>.cons x (RDs.app r h)
theorem RDs.len {H:Hp}:∀{vs:List V}{ds:List a8},RDs H vs ds->vs.length=ds.length
 |_,_,.nil=>rfl
 |_,_,.cons _ r=>by rw[qz,qz,RDs.len r]
theorem RDs.at {H:Hp}:∀{vs:List V}{ds:List a8},RDs H vs ds->∀(i:Nat) (v:V),vs[i]?=some v->∃d,ds[i]?=some d/\RD H v d
 |_,_,.nil,i,v,h=>by simp at h
 |_,_,.cons x r,0,v,h=>by simp at h;subst h;exact⟨_,rfl,x⟩
 |_,_,.cons x r,i+1,v,h=>by
  simp only[List.getElem?_cons_succ]at h ⊢
  exact RDs.at r i v h
mutual
def a8.data:a8->PyData
 |.set x a sg b=>.tuple [.str "set",.str x,(match a with|.num n=>.int n|.nm y=>.str y),.str sg,(match b with|.num n=>.int n|.nm y=>.str y)]
 |.put q x=>.tuple [.str "put",.str q,.str x]
 |.get q x=>.tuple [.str "get",.str q,.str x]
 |.give x=>.tuple [.str "give",.str x]
 |.cond x t o=>.tuple [.str "if",.str x,.list (iO t),.list (iO o)]
 |.whl x b=>.tuple [.str "while",.str x,.list (iO b)]
 |.rep n b=>.tuple [.str "repeat",.int n,.list (iO b)]
def iO:List a8->List PyData
 |[]=>[]
 |d::r=>d.data::iO r
end
inductive RLs (H:Hp):List Addr->List (List a8)->Prop
 |nil:RLs H [] []
 |cons {l:Addr}{ls:List Addr}{d:List a8}{ds:List (List a8)}:RL H l d->RLs H ls ds->RLs H (l::ls) (d::ds)
theorem RLs.same {H H':Hp}(e:aa H H'):∀{ls:List Addr}{ds:List (List a8)},RLs H ls ds->RLs H' ls ds
 |_,_,.nil=>.nil
 |_,_,.cons a b=>.cons (RL.same e a) (RLs.same e b)
theorem RLs.len {H:Hp}:∀{ls:List Addr}{ds:List (List a8)},RLs H ls ds->ls.length=ds.length
 |_,_,.nil=>rfl
 |_,_,.cons _ r=>by rw[qz,qz,RLs.len r]
theorem RLs.at {H:Hp}:∀{ls:List Addr}{ds:List (List a8)},RLs H ls ds->∀(i:Nat) (l:Addr),ls[i]?=some l->∃d,ds[i]?=some d/\RL H l d
 |_,_,.nil,i,v,h=>by simp at h
 |_,_,.cons x r,0,v,h=>by simp at h;subst h;exact⟨_,rfl,x⟩
 |_,_,.cons x r,i+1,v,h=>by
  simp only[List.getElem?_cons_succ]at h ⊢
  exact RLs.at r i v h
theorem m5:∀(r:List Str) (x:Str),risingS x r=true->∀y∈r,x.cps.toList<=y.cps.toList
 |[],_,_,_,h=>nomatch h
 |z::r,x,h,y,hy=>by
  have h':(!ltCps z.cps.toList x.cps.toList && risingS z r)=true:=h
  rw[Bool.and_eq_true,Bool.not_eq_true',ltCps_eq,decide_eq_false_iff_not]at h'
  have xz:x.cps.toList<=z.cps.toList:=List.not_lt.mp h'.1
  rcases qt.mp hy with rfl|hy
  ·exact xz
  ·exact List.le_trans xz (m5 r z h'.2 y hy)
theorem si {x:Str}:∀{r:List Str},risingS x r=true->sortedS r=true
 |[],_=>rfl
 |z::r,h=>by
  have h':(!ltCps z.cps.toList x.cps.toList && risingS z r)=true:=h
  exact(Bool.and_eq_true_iff.mp h').2
theorem xK {x y:Str}(h:x.cps.toList=y.cps.toList):x=y:=PyProof.Rows.ext_toList h
theorem rH:∀{a b:List Str},a.Nodup->b.Nodup->sortedS a=true->sortedS b=true->(∀k,k∈a↔k∈b)->a=b
 |[],[],_,_,_,_,_=>rfl
 |[],y::s,_,_,_,_,h=>absurd ((h y).mpr qk) (by simp)
 |x::r,[],_,_,_,_,h=>absurd ((h x).mp qk) (by simp)
 |x::r,y::s,ha,hb,sa,sb,h=>by
  have ha':=List.nodup_cons.mp ha
  have hb':=List.nodup_cons.mp hb
  have e:x=y:=by
   rcases qt.mp ((h x).mp qk)with e|hx
   ·exact e
   rcases qt.mp ((h y).mpr qk)with e|hy
   ·exact e.symm
   exact xK (List.le_antisymm (m5 r x sa y hy) (m5 s y sb x hx))
  subst e
  rw[rH ha'.2 hb'.2 (si sa) (si sb) fun k=>?_]
  constructor
  ·intro hk
   rcases qt.mp ((h k).mp (qj _ hk))with e|z
   ·subst e;exact absurd hk ha'.1
   ·exact z
  ·intro hk
   rcases qt.mp ((h k).mpr (qj _ hk))with e|z
   ·subst e;exact absurd hk hb'.1
   ·exact z
end Tr
namespace Tr
open PySem PySem.Spec PyProof.Rows L2
set_option linter.all false
theorem aa.over {H0 H:Hp}{f:Addr}{o:HO}(h:aa H0 H) (hf:H0 f=none):aa H0 (upd H f o):=fun b u q=>by
 rw[aj (bN q hf)]
 exact h b u q
theorem aa.none {H0 H:Hp}{f:Addr}(h:aa H0 H) (hf:H f=none):H0 f=none:=by
 cases q:H0 f with
 |none=>rfl
 |some o=>rw[h _ _ q]at hf;cases hf
structure Fz where
 f:Fr
 c:Addr
 p:Addr
 e:Addr
def Fz.tupV (x:Fz):List V:=match x.f.op with
 |.root=>[]
 |.ifT n=>[.str "if",.str n,.ref x.c,.ref x.e]
 |.ifO n _=>[.str "if",.str n,.ref x.e,.ref x.c]
 |.whl n=>[.str "while",.str n,.ref x.c]
 |.rep n=>[.str "repeat",.int n,.ref x.c]
def Fz.o (x:Fz):V:=match x.f.op with
 |.ifT _=>.ref x.e
 |_=>.non
def Fz.muts (x:Fz):List Addr:=match x.f.op with
 |.ifT _=>[x.c,x.e]
 |_=>[x.c]
def Fz.side (x:Fz) (H0 H:Hp):Prop:=match x.f.op with
 |.ifT _=>H x.e=some (.lst [])
 |.ifO _ t=>RL H0 x.e t
 |_=>True
def ZR (H0 H:Hp):List Fz->List V->Prop
 |[],_=>False
 |x::r,tl=>(∃vs,H x.c=some (.lst (vs++tl))/\RDs H0 vs x.f.ds)/\x.side H0 H/\((x.f.op=.root/\r=[])\/(x.f.op≠.root/\H x.p=some (.tup x.tupV)/\ZR H0 H r [.ref x.p]))
theorem Fz.c_mem (x:Fz):x.c∈x.muts:=by unfold Fz.muts;split<;>simp
theorem ZR.frame {H0 H H':Hp}:∀{z:List Fz}{tl:List V},ZR H0 H z tl->(∀m∈z.flatMap Fz.muts,H' m=H m)->(∀p xs,H p=some (.tup xs)->H' p=some (.tup xs))->ZR H0 H' z tl
 |[],_,h,_,_=>h
 |x::r,tl,⟨⟨vs,h1,h2⟩,h3,h4⟩,hm,ht=>by
  have mx:∀m∈x.muts,H' m=H m:=fun m hm'=>hm m (by simp[hm'])
  have mr:∀m∈r.flatMap Fz.muts,H' m=H m:=fun m hm'=>hm m (by rw[qE];exact qH _ hm')
  refine⟨⟨vs,by rw[mx _ x.c_mem];exact h1,h2⟩,?_,?_⟩
  ·unfold Fz.side at h3 ⊢
   split
   ·rename_i e
    rw[e]at h3
    rw[mx x.e (by unfold Fz.muts;rw[e];simp)]
    exact h3
   ·rename_i e
    rw[e]at h3
    exact h3
   ·trivial
  ·rcases h4 with h4|⟨h4,h5,h6⟩
   ·exact .inl h4
   ·exact .inr ⟨h4,ht _ _ h5,ZR.frame h6 mr ht⟩
theorem ZR.grow {H0 H0' H:Hp}(e:aa H0 H0'):∀{z:List Fz}{tl:List V},ZR H0 H z tl->ZR H0' H z tl
 |[],_,h=>h
 |x::r,tl,⟨⟨vs,h1,h2⟩,h3,h4⟩=>by
  refine⟨⟨vs,h1,h2.same e⟩,?_,?_⟩
  ·unfold Fz.side at h3 ⊢
   revert h3
   cases x.f.op<;>intro h3<;>first|exact h3|exact RL.same e h3
  ·rcases h4 with h4|⟨h4,h5,h6⟩
   ·exact .inl h4
   ·exact .inr ⟨h4,h5,ZR.grow e h6⟩
def wh:List Fr->List a8->List a8
 |[],_=>[]
 |[f],dt=>f.ds++dt
 |f::g::r,dt=>wh (g::r) [({ f with ds:=f.ds++dt }:Fr).deed]
def hE:List Fz->Addr
 |[]=>0
 |[x]=>x.c
 |_::y::r=>hE (y::r)
theorem ZR.whole {H0 H:Hp}(e:aa H0 H):∀{z:List Fz}{tl:List V}{dt:List a8},ZR H0 H z tl->RDs H tl dt->RL H (hE z) (wh (z.map (·.f)) dt)
 |[],_,_,h,_=>h.elim
 |[x],tl,dt,⟨⟨vs,h1,h2⟩,_,_⟩,ht=>.mk h1 ((h2.same e).app ht)
 |x::y::r,tl,dt,⟨⟨vs,h1,h2⟩,h3,h4⟩,ht=>by
  rcases h4 with⟨_,h4⟩|⟨h4,h5,h6⟩
  ·cases h4
  refine ZR.whole (z:=y::r) e h6 (.cons ?_ .nil)
  have hl:RL H x.c (x.f.ds++dt):=.mk h1 ((h2.same e).app ht)
  unfold Fz.tupV at h5
  unfold Fz.side at h3
  unfold Fr.deed
  cases q:x.f.op with
  |root=>exact absurd q h4
  |ifT n=>
   rw[q]at h5 h3
   exact .cond h5 hl (.mk h3 .nil)
  |ifO n t=>
   rw[q]at h5 h3
   exact .cond h5 (RL.same e h3) hl
  |whl n=>
   rw[q]at h5
   exact .whl h5 hl
  |rep n=>
   rw[q]at h5
   exact .rep h5 hl
section
variable {Hb H0 H H1:Hp}{S s0 s1 s2 s3:Addr}{z:List Fz}
theorem ZR.lsts {tl:List V}:∀{z:List Fz},ZR H0 H z tl->∀m∈z.flatMap Fz.muts,∃vs,H m=some (.lst vs):=by
 intro z
 induction z generalizing tl with
 |nil=>intro h;exact h.elim
 |cons x r ih=>
  rintro⟨⟨vs,h1,_⟩,h3,h4⟩ m hm
  rw[qE]at hm
  rcases qg.mp hm with hm|hm
  ·unfold Fz.muts at hm
   unfold Fz.side at h3
   split at hm<;>rename_i q
   ·rw[q]at h3
    simp at hm
    rcases hm with rfl|rfl
    ·exact⟨_,h1⟩
    ·exact⟨_,h3⟩
   ·simp at hm
    subst hm
    exact⟨_,h1⟩
  ·rcases h4 with⟨_,h4⟩|⟨_,_,h6⟩
   ·subst h4;simp at hm
   ·exact ih h6 m hm
end
end Tr
namespace Tr
open PySem PySem.Spec PyProof.Rows L2
set_option linter.all false
section
variable {Hb H0 H H1:Hp}{S s0 s1 s2 s3:Addr}{z:List Fz}
theorem dz {p m:Addr}{xs vs:List V}(h1:H p=some (.tup xs)) (h2:H m=some (.lst vs)):p≠m:=tT h1 h2 (by intro z;cases z)
theorem dP {x:Fz}{r:List Fz}:x.c∈(x::r).flatMap Fz.muts:=by rw[qE];exact qV _ x.c_mem
theorem mX {x:Fz}{r:List Fz}{m:Addr}(h:m∈r.flatMap Fz.muts):m∈(x::r).flatMap Fz.muts:=by rw[qE];exact qH _ h
theorem vP {x:Fz}{r:List Fz}(nd:((x::r).flatMap Fz.muts).Nodup) {m:Addr}(h:m∈r.flatMap Fz.muts):m≠x.c:=by
 rw[qE]at nd
 intro e
 exact(List.nodup_append.mp nd).2.2 x.c x.c_mem m h e.symm
theorem kH {x:Fz}{r:List Fz}(nd:((x::r).flatMap Fz.muts).Nodup) {n:Str}(q:x.f.op=.ifT n):x.e≠x.c/\x.e∈x.muts/\∀m∈r.flatMap Fz.muts,m≠x.e:=by
 rw[qE]at nd
 have h:=List.nodup_append.mp nd
 have e:x.muts=[x.c,x.e]:=by unfold Fz.muts;rw[q]
 rw[e]at h
 refine⟨?_,by rw[e];simp,fun m hm z=>h.2.2 x.e (by simp) m hm z.symm⟩
 have:=h.1
 simp at this
 exact fun z=>this z.symm
theorem ZR.rest {x:Fz}{r:List Fz}{tl:List V}{o:HO}(zr:ZR H0 H (x::r) tl) (nd:((x::r).flatMap Fz.muts).Nodup) {vs:List V}(hc:H x.c=some (.lst vs)):
 x.side H0 (upd H x.c o)/\((x.f.op=.root/\r=[])\/(x.f.op≠.root/\(upd H x.c o) x.p=some (.tup x.tupV)/\ZR H0 (upd H x.c o) r [.ref x.p])):=by
 obtain⟨_,h3,h4⟩:=zr
 refine⟨?_,?_⟩
 ·unfold Fz.side at h3 ⊢
  cases q:x.f.op with
  |ifT n=>
   rw[q]at h3
   show(upd H x.c o) x.e=some (.lst [])
   rw[aj (kH nd q).1]
   exact h3
  |ifO n t=>rw[q]at h3;exact h3
  |root=>trivial
  |whl n=>trivial
  |rep n=>trivial
 ·rcases h4 with h4|⟨h4,h5,h6⟩
  ·exact .inl h4
  ·refine .inr ⟨h4,by rw[aj (dz h5 hc)];exact h5,h6.frame (fun m hm=>aj (vP nd hm)) fun p xs h=>by rw[aj (dz h hc)];exact h⟩
end
end Tr
namespace Tr
open PySem PySem.Spec PyProof.Rows L2
set_option linter.all false
section
variable {Hb H0 H H':Hp}{S s0 s1 s2 s3:Addr}{z:List Fz}
end
end Tr
namespace Tr
open PySem PySem.Spec PyProof.Rows L2
set_option linter.all false
section
variable {Hb H0 H H4:Hp}{S s0 s1 s2 s3:Addr}
theorem ud {α:Type}{l:List α}{v:α}:atI (l++[v]) (-1)=some v:=by
 unfold atI
 have e:ixN (l++[v]).length (-1)=some l.length:=by
  unfold ixN
  simp
  omega
 rw[e]
 simp
theorem iF {α β:Type}{f:α->β}{x:α}{r:List α}:atI (((x::r).map f).reverse) (-1)=some (f x):=by
 rw[qR,List.reverse_cons]
 exact ud
end
end Tr
namespace Tr
open PySem PySem.Spec PyProof.Rows L2
set_option linter.all false
theorem nW:∀ds:List a8,ds.length<=(ah ds).length
 |[]=>qd _
 |d::r=>by
  have:=nW r
  rw[ah,qa,qz,df,qz]
  omega
theorem wW {f:Fr}{r:List Fr}:f.ds.length<=cnt (f::r):=by
 have:=nW f.ds
 rw[cnt]
 omega
theorem vQ {x x':Fz}{r:List Fz}(h:x'.c=x.c):hE (x'::r)=hE (x::r):=by
 cases r with
 |nil=>exact h
 |cons y r=>rfl
theorem uj {α:Type}{l:List α}{v:α}:ixN (l++[v]).length (-1)=some l.length:=by
 unfold ixN
 simp
 omega
end Tr
namespace Tr
open L2
end Tr
namespace Tr
theorem vt {α β:Type}{f:α->β}{x:α}{r:List α}:(((x::r).map f).reverse).dropLast=(r.map f).reverse:=by
 rw[qR,List.reverse_cons,List.dropLast_concat]
theorem uc {α β:Type}{f:α->β}{x:α}{r:List α}:(((x::r).map f).reverse)[(((x::r).map f).reverse).length-1]?=some (f x):=by
 rw[qR,List.reverse_cons]
 simp
end Tr
namespace Tr
open PySem PySem.Spec PyProof.Rows L2
set_option linter.all false
def a8.strs:a8->List Str
 |.set x a sg b=>x::sg::(a.names++b.names)
 |.put q x|.get q x=>[q,x]
 |.give x|.cond x _ _|.whl x _=>[x]
 |.rep _ _=>[]
end Tr
namespace Tr
open PySem PySem.Spec PyProof.Rows L2
set_option linter.all false
end Tr
namespace L2
open PySem PySem.Spec PyProof.Rows
theorem D1 {n:Nat}{g:TG}{tt:TT}{te:TE}{Fin:List V->Hp->Prop}{σ:St}{H:Hp}(Pv:Nat->List V->St->Hp->Prop) (h0:Pv 0 [] σ H) (hz:∀i ys σ H,i<=n->Pv i ys σ H->ys.length<=i) (hx:n<=sizeLine)
 (hs:∀i ys σ H,i<n->Pv i ys σ H->g (.int i) σ H fun σ2 H2=>tt σ2 H2 fun b H3=>if b=true then te σ2 H3 fun y H4=>Pv (i+1) (ys++[y]) σ2 H4 else Pv (i+1) ys σ2 H3)
 (hd:∀ys σ H,Pv n ys σ H->Fin ys H):∃W:Nat->Nat->List V->St->Hp->Prop,(∃m,W 0 m [] σ H)/\gg (Itr 0 n) g tt te Fin W:=by
 refine⟨fun i m ys σ H=>m=n-i/\i<=n/\Pv i ys σ H,⟨_,rfl,qr _,h0⟩,?_⟩
 rintro i m ys σ H ⟨rfl,hi,p⟩
 have few:=hz i ys σ H hi p
 by_cases lt:i<n
 ·refine .inr ⟨lt,Qo,Pv (i+1),fun ys' σ' H' p'=>⟨_,Qo,rfl,lt,p'⟩,fun v H' y=>?_⟩
  obtain⟨e,y⟩:=y
  rw[Int.zero_add]at y
  subst e y
  exact hs i ys σ _ lt p
 ·obtain rfl:i=n:=by omega
  exact .inl ⟨qd _,Qo,hd ys σ H p⟩
theorem jX {n:Nat}{g:TG}{te:TE}{Fin:List V->Hp->Prop}{σ:St}{H:Hp}(Pv:Nat->List V->St->Hp->Prop) (h0:Pv 0 [] σ H) (hz:∀i ys σ H,i<=n->Pv i ys σ H->ys.length<=i) (hx:n<=sizeLine)
 (hs:∀i ys σ H,i<n->Pv i ys σ H->g (.int i) σ H fun σ2 H2=>te σ2 H2 fun y H4=>Pv (i+1) (ys++[y]) σ2 H4)
 (hd:∀ys σ H,Pv n ys σ H->Fin ys H):∃W:Nat->Nat->List V->St->Hp->Prop,(∃m,W 0 m [] σ H)/\gg (Itr 0 n) g i5 te Fin W:=
 D1 Pv h0 hz hx (fun i ys σ H lt p=>by
  rw[oH (N':=fun _ _ _=>True)]
  exact hs i ys σ H lt p) hd
theorem iP {K:PySem.W.Frag}{a:Addr}{xs:List V}{g:TG}{te:TE}{Fin:List V->Hp->Prop}{σ:St}{H:Hp}(Pv:Nat->List V->St->Hp->Prop) (h0:Pv 0 [] σ H) (hz:∀i ys σ H,i<=xs.length->Pv i ys σ H->ys.length<=i) (hx:xs.length<=sizeLine) (hl:∀i ys σ H,Pv i ys σ H->SqL K H a xs)
 (hs:∀i x ys σ H,xs[i]?=some x->Pv i ys σ H->g x σ H fun σ2 H2=>te σ2 H2 fun y H4=>Pv (i+1) (ys++[y]) σ2 H4)
 (hd:∀ys σ H,Pv xs.length ys σ H->Fin ys H):∃W:Nat->Nat->List V->St->Hp->Prop,(∃m,W 0 m [] σ H)/\gg (Itl K a) g i5 te Fin W:=
 jY Pv h0 hz hx hl (fun i x ys σ H hx p=>by
  rw[oH (N':=fun _ _ _=>True)]
  exact hs i x ys σ H hx p) hd
end L2
namespace Tr
open PySem PySem.Spec PyProof.Rows L2
inductive RSs (H:Hp):List V->List (Str×Int)->Prop
 |nil:RSs H [] []
 |cons {p:Addr}{vs:List V}{q:Str}{n:Int}{ss:List (Str×Int)}:H p=some (.tup [.str q,.int n])->RSs H vs ss->RSs H (.ref p::vs) ((q,n)::ss)
theorem RSs.same {H H':Hp}(e:aa H H'):∀{vs:List V}{ss:List (Str×Int)},RSs H vs ss->RSs H' vs ss
 |_,_,.nil=>.nil
 |_,_,.cons h r=>.cons (e _ _ h) (RSs.same e r)
theorem RSs.len {H:Hp}:∀{vs:List V}{ss:List (Str×Int)},RSs H vs ss->vs.length=ss.length
 |_,_,.nil=>rfl
 |_,_,.cons _ r=>congrArg (·+1) (RSs.len r)
theorem RSs.at {H:Hp}:∀{vs:List V}{ss:List (Str×Int)},RSs H vs ss->∀(i:Nat) (v:V),vs[i]?=some v->∃p q n,v=.ref p/\ss[i]?=some (q,n)/\H p=some (.tup [.str q,.int n])
 |_,_,.nil,i,v,h=>by simp at h
 |_,_,.cons (p:=p) (q:=q) (n:=n) h' r,0,v,h=>by
  simp at h
  exact⟨p,q,n,h.symm,rfl,h'⟩
 |_,_,.cons h' r,i+1,v,h=>RSs.at r i v (by simpa using h)
structure RP (H:Hp) (p:Addr) (asks:List Str) (ss:List (Str×Int)) (ds:List a8) (la ls lb:Addr) (us:List V):Prop where
 top:H p=some (.tup [.ref la,.ref ls,.ref lb])
 as:H la=some (.lst (asks.map V.str))
 st:H ls=some (.lst us)
 ro:RSs H us ss
 bo:RL H lb ds
theorem RP.same {H H':Hp}{p:Addr}{asks:List Str}{ss:List (Str×Int)}{ds:List a8}{la ls lb:Addr}{us:List V}(e:aa H H') (h:RP H p asks ss ds la ls lb us):RP H' p asks ss ds la ls lb us:=
 ⟨e _ _ h.top,e _ _ h.as,e _ _ h.st,h.ro.same e,RL.same e h.bo⟩
def cM (asks:List Str) (ss:List (Str×Int)) (ds:List a8):List Str:=asks++cards ds++[(">":Str)]++ss.flatMap fun s=>[s.1++(">":Str),s.1++("<":Str)]
end Tr
namespace L2
open PySem
section
variable {P:Program}{w:World}{A:Around}{E:Qq}{s:Shared}
theorem iZ {es:Array (Int×Value)}{t:SetTable}{ys:List Str}(T:aM P w es t ys) {e:Int×Value}(he:e∈es.toList):∃k tk,e=(hashStr w k,.str k tk)/\k∈ys:=by
 obtain⟨⟨k,hk,hh⟩,_⟩:=T.el e he
 obtain⟨tk,e2⟩:=Value.isStrOf_shape hk
 refine⟨k,tk,Prod.ext hh e2,(T.mem k).mp (List.mem_map.mpr ⟨e,he,jQ hk⟩)⟩
theorem sw {sets:List Addr}{Q:Bool->Shared->Prop}(h:∀b∈sets,∃es ep t ys,s.heap.get? b=some (aE es ep t)/\aM P w es t ys) (q:Q true s):wpAny (model P w) A (setsQuiet sets) Q E s:=by
 unfold setsQuiet
 refine q4 (wpAny_forIn_list _ (fun rest b s'=>b.1=none/\s=s'/\∀x∈rest,x∈sets) _ ?_ ?_ sets _ ⟨rfl,rfl,fun _ h=>h⟩)
 ·rintro x rest b s' ⟨hb,rfl,hm⟩
  obtain⟨es,ep,t,ys,ho,T⟩:=h x (hm x qk)
  refine q4 (eB ho T.fit ?_)
  refine q4 (PySem.wpAny_forIn_array' _ (fun rest b s'=>b.1=none/\s=s'/\∀e∈rest,e∈es.toList) _ ?_ ?_ es _ ⟨rfl,rfl,fun _ h=>h⟩)
  ·rintro e rest2 b2 s2 ⟨hb2,rfl,hm2⟩
   obtain⟨k,tk,rfl,_⟩:=iZ T (hm2 e qk)
   refine qc ⟨rfl,rfl,fun z hz=>hm2 z (qj _ hz)⟩
  ·rintro⟨b1,b2⟩ s2 ⟨hb2,rfl,_⟩
   dsimp only at hb2
   subst hb2
   refine qc ⟨rfl,rfl,fun z hz=>hm z (qj _ hz)⟩
 ·rintro⟨b1,b2⟩ s2 ⟨hb2,rfl,_⟩
  dsimp only at hb2
  subst hb2
  exact qc q
theorem oN {a:Addr}{es:Array (Int×Value)}{ep:Nat}{t:SetTable}{ys:List Str}{Q:Array (Int×Value)->Shared->Prop}(hs:s.heap.get? a=some (aE es ep t)) (T:aM P w es t ys)
 (h:∀arr d,arr.toList.Perm es.toList->Q arr { s with drawn:=d }):wpAny (model P w) A (setWalk a) Q E s:=by
 unfold setWalk
 refine q4 (qW hs rfl T.fit ?_)
 dsimp only
 refine q4 (dX ?_)
 by_cases hb:w.params.followText "set-order"=true
 ·rw[Q0 hb]
  exact q4 (wpAny_askSetting (qc (h _ s.drawn (sP _ es))))
 ·rw[qZ hb]
  show wpAny _ _ (if(!t.plain && decide (es.size > 1))=true then _ else _) _ _ _
  split
  ·refine q4 (nX es.size es.toList s _ (by simp) fun zs d hp=>qc ?_)
   exact h _ d (by simpa using hp)
  ·have hl:t.led=true:=by rw[T.led];simpa using hb
   show wpAny _ _ ((if(!t.led && decide (es.size > 1))=true then _ else _) >>= _) _ _ _
   rw[hl]
   refine q4 ?_
   simp only[Bool.not_true,Bool.false_and,Bool.false_eq_true,if_false]
   exact qc (qc (h es s.drawn (.refl _)))
end
section
variable {P:Program}{w:World}{A:Around}{E:Qq}{s:Shared}
theorem yb:entryFor table "set.__sub__"=some Builtin.«frozenset.__sub__»:=entryFor_alias (id':="frozenset.__sub__") (by kernel_rfl) rfl Qd (by kernel_rfl)
theorem wX {t:SetTable}{l p:Bool}(T:aM P w #[] t []) (hl:l=t.led):aM P w #[] { t with led:=l,plain:=p } []:=
 ⟨T.el,T.nd,T.mem,T.few,T.fit,hl.trans T.led,fun z=>absurd z (Nat.lt_irrefl 0)⟩
theorem wH {a o r:Addr}{es es2:Array (Int×Value)}{ep ep2 er:Nat}{t t2 tr:SetTable}{ys zs:List Str}{Q:Array (Int×Value)->Shared->Prop}(hs:s.heap.get? a=some (aE es ep t)) (T:aM P w es t ys)
 (ho:s.heap.get? o=some (aE es2 ep2 t2)) (T2:aM P w es2 t2 zs) (hr:s.heap.get? r=some (aE #[] er tr)) (Tr:aM P w #[] tr [])
 (h:∀arr h' d er' tr',arr.toList.Perm es.toList->Heap.SameBut r s.heap h'->h'.get? r=some (aE #[] er' tr')->aM P w #[] tr' []->Q arr { s with heap:=h',drawn:=d }):wpAny (model P w) A (setWalkUnseen a [o,r] (some r)) Q E s:=by
 have old:∀arr d,arr.toList.Perm es.toList->Q arr { s with drawn:=d }:=fun arr d hp=>h arr s.heap d er tr hp (Heap.SameBut.refl r s.heap) hr Tr
 unfold setWalkUnseen
 refine q4 (qW hs rfl T.fit ?_)
 dsimp only
 refine q4 (dX ?_)
 split
 ·exact oN hs T old
 ·refine q4 (sw (fun b hb=>?_) ?_)
  ·simp only[qt,qQ,or_false]at hb
   rcases hb with rfl|rfl|rfl
   ·exact⟨_,_,_,_,hs,T⟩
   ·exact⟨_,_,_,_,ho,T2⟩
   ·exact⟨_,_,_,_,hr,Tr⟩
  ·simp only[Bool.not_true,Bool.false_eq_true,if_false]
   refine q4 (wpAny_rule ?_)
   refine q4 (qW hr rfl Tr.fit ?_)
   dsimp only
   split
   ·refine q4 (wpAny_storeSet_of hr rfl ?_ Qk)
    refine qc (h es _ s.drawn _ _ (.refl _) (Heap.SameBut.update _ r _) (fj (s:=s) hr) (wX Tr ?_))
    rw[Tr.led,T.led]
    simp
   ·exact qc (old es s.drawn (.refl _))
theorem Cy {o:Addr}{es:Array (Int×Value)}{ep:Nat}{t:SetTable}{zs:List Str}{k:Str}{tk:Tok}{Q:Option Nat->Shared->Prop}(ho:s.heap.get? o=some (aE es ep t)) (T:aM P w es t zs)
 (h:∀r:Option Nat,r.isSome=decide (k∈zs)->Q r s):wpAny (model P w) A (setFind o (.str k tk) (hashStr w k)) Q E s:=by
 refine wpAny_setFind_of (knd:=strKind P w) (k:=k) (S:=fun k=>decide (k∈zs)) (n:=es.size) (by show Value.isStrOf k (.str k tk)=true;simp[Value.isStrOf]) rfl ⟨_,es,ep,t,ho,?_,rfl,T.el,fun k'=>?_,T.few,T.fit,rfl⟩ h
 ·exact⟨rfl,rfl,rfl⟩
 ·rw[decide_eq_true_iff,<- T.mem,List.mem_map]
  constructor
  ·rintro⟨e,he,rfl⟩
   obtain⟨k,tk,rfl,_⟩:=iZ T he
   exact⟨_,he,by show Value.isStrOf k (.str k tk)=true;simp[Value.isStrOf]⟩
  ·rintro⟨e,he,hk⟩
   exact⟨e,he,jQ hk⟩
theorem hX {v:Value}{Q:Bool->Shared->Prop}(ty:s.TypeIs v "set") (h:Q true s):wpAny (model P w) A (Builtin.Frozenset.isAnySet v) Q E s:=by
 unfold Builtin.Frozenset.isAnySet
 exact q4 (wpAny_isInstance (b:=true) ty i9 (qc h))
set_option maxHeartbeats 3200000 in
theorem xH {a o:Addr}{es es2:Array (Int×Value)}{ep ep2:Nat}{t t2:SetTable}{ys zs:List Str}{Q:Qq}(hs:s.heap.get? a=some (aE es ep t)) (T:aM P w es t ys)
 (ho:s.heap.get? o=some (aE es2 ep2 t2)) (T2:aM P w es2 t2 zs) (few:es.size<4)
 (h:∀h' d es' ep' t',h'.get? s.heap.objs.size=some (aE es' ep' t')->aM P w es' t' (ys.filter fun k=>!decide (k∈zs))->
  (∀b ob,s.heap.get? b=some ob->h'.get? b=some ob)->Q (.ref s.heap.objs.size) { s with heap:=h',drawn:=d }):wpAny (model P w) A (binaryOp .Sub (.ref a) (.ref o)) Q E s:=by
 have ta:s.TypeIs (.ref a) "set":=⟨_,hs,rfl⟩
 have to:s.TypeIs (.ref o) "set":=⟨_,ho,rfl⟩
 have k1:=i9
 refine wpAny_binaryOp_same (op:=.Sub) (T:="set") ta to F.fills_set_sub F.slot_set_sub (wpAny_call_entry F.slot_set_sub ta yb ?_ (F.args_set_sub_2 _ _))
 unfold Builtin.«frozenset.__sub__»
 refine q4 (m:=Builtin.Frozenset.slot1 "__sub__" ⟨[.ref a,.ref o],[]⟩) (qc ?_)
 dsimp only
 simp only[Bool.false_eq_true,if_false]
 refine q4 (q4 (hX ta (hX to ?_)))
 simp only[Bool.not_true,Bool.false_eq_true,if_false]
 refine q4 (qc ?_)
 refine q4 ?_
 unfold Builtin.Frozenset.difference
 refine q4 (hX to ?_)
 simp only[Bool.not_true,Bool.false_eq_true,if_false]
 refine q4 (qc ?_)
 simp only[Bool.false_and,Bool.false_eq_true,if_false,if_true]
 unfold Builtin.Frozenset.sizeOf
 refine q4 (q4 (eB ho T2.fit (qc ?_)))
 refine q4 (q4 (eB hs T.fit (qc ?_)))
 rw[qZ Qo]
 unfold Builtin.Frozenset.baseOf
 refine q4 (q4 (wpAny_isInstance (b:=true) ta i9 (qc ?_)))
 simp only[if_true]
 refine q4 ?_
 unfold newSet
 refine q4 (dX ?_)
 dsimp only
 refine wpAny_newObj_type ?_
 refine q4 (qc ?_)
 have ga:∀b ob,s.heap.get? b=some ob->(s.heap.push (bb w)).get? b=some ob:=fun b ob q=>q9 _ q
 have gr:(s.heap.push (bb w)).get? s.heap.objs.size=some (bb w):=qo _ rfl
 have na:∀b ob,s.heap.get? b=some ob->b≠s.heap.objs.size:=fun b ob q=>qF (qp q)
 refine q4 (wpAny_setEpoch_of (s:={ s with heap:=s.heap.push (bb w) }) (ga _ _ hs) rfl T.fit ?_)
 refine q4 (wpAny_holding ?_)
 refine q4 (wH (s:={ s with heap:=s.heap.push (bb w) }) (ga _ _ hs) T (ga _ _ ho) T2 gr j7 fun arr h1 d er tr hp sb hr Tr=>?_)
 refine q4 (PySem.wpAny_forIn_array' _ (fun rest _ s'=>∃h2 es' ep' t' past,past++rest=arr.toList/\s'={ s with heap:=h2,drawn:=d }/\Heap.SameBut s.heap.objs.size (s.heap.push (bb w)) h2/\h2.get? s.heap.objs.size=some (aE es' ep' t')/\aM P w es' t' ((past.map fun e:Int×Value=>txt e.2).filter fun k=>!decide (k∈zs))/\es'.size<=past.length) _ ?_ ?_ arr _ ⟨h1,#[],er,tr,[],rfl,rfl,sb,hr,Tr,qd _⟩)
 ·rintro x rest b s' ⟨h2,es',ep',t',past,hpa,rfl,sb2,hr2,Tr2,hle⟩
  have xm:x∈es.toList:=hp.mem_iff.mp (by rw[<- hpa];simp)
  obtain⟨k,tk,rfl,_⟩:=iZ T xm
  have pl:past.length+(rest.length+1)=es.size:=by
   have:=congrArg List.length hpa
   rw[hp.length_eq]at this
   simpa using this
  have get2:∀b ob,s.heap.get? b=some ob->h2.get? b=some ob:=fun b ob q=>by
   rw[sb2.2 _ (na b ob q)]
   exact ga b ob q
  refine q4 (wpAny_holding ?_)
  refine q4 (Cy (s:={ s with heap:=h2,drawn:=d }) (get2 _ _ ho) T2 fun r hr=>?_)
  refine q4 (qc ?_)
  rw[hr]
  have fin:∀h3 es3 ep3 t3,Heap.SameBut s.heap.objs.size (s.heap.push (bb w)) h3->h3.get? s.heap.objs.size=some (aE es3 ep3 t3)->aM P w es3 t3 (((past++[(hashStr w k,Value.str k tk)]).map fun e:Int×Value=>txt e.2).filter fun k=>!decide (k∈zs))->es3.size<=past.length+1->
   wpAny (model P w) A.in1 (do
    Builtin.Frozenset.unchanged (toString "frozenset."++toString "__sub__") a ep
    pure (ForInStep.yield PUnit.unit)) (fun r s'=>match r with
     |.yield b'=>∃h2 es' ep' t' past,past++rest=arr.toList/\s'={ s with heap:=h2,drawn:=d }/\Heap.SameBut s.heap.objs.size (s.heap.push (bb w)) h2/\h2.get? s.heap.objs.size=some (aE es' ep' t')/\aM P w es' t' ((past.map fun e:Int×Value=>txt e.2).filter fun k=>!decide (k∈zs))/\es'.size<=past.length
     |.done b'=>False) E { s with heap:=h3,drawn:=d }:=fun h3 es3 ep3 t3 sb3 hr3 Tr3 hle3=>by
   unfold Builtin.Frozenset.unchanged
   have g3:h3.get? a=some (aE es ep t):=by rw[sb3.2 _ (na _ _ hs)];exact ga _ _ hs
   refine q4 (q4 (wpAny_setEpoch_of (s:={ s with heap:=h3,drawn:=d }) g3 rfl T.fit ?_))
   simp only[bne_self_eq_false,Bool.false_eq_true,if_false]
   refine qc (qc ⟨h3,es3,ep3,t3,past++[(hashStr w k,Value.str k tk)],by rw[<- hpa];simp,rfl,sb3,hr3,Tr3,by simpa using hle3⟩)
  by_cases hk:k∈zs
  ·rw[decide_eq_true hk]
   simp only[Bool.not_true,Bool.false_eq_true,if_false]
   refine qc (wpAny_mono (fin h2 es' ep' t' sb2 hr2 ?_ Qo) (fun r s' hr=>?_) fun _ _ h=>h)
   ·rw[qO,List.filter_append]
    have:([(hashStr w k,Value.str k tk)].map fun e:Int×Value=>txt e.2).filter (fun k=>!decide (k∈zs))=[]:=by simp[txt,hk]
    rw[this,qw]
    exact Tr2
   ·cases r with
    |done _=>exact hr.elim
    |yield _=>exact hr
  ·rw[decide_eq_false hk]
   simp only[Bool.not_false,if_true]
   refine q4 (oC (s:={ s with heap:=h2,drawn:=d }) hr2 Tr2 (by unfold scanBound;omega) fun b h3 es3 ep3 t3 sb3 hr3 Tr3 le3=>qc ?_)
   refine wpAny_mono (fin h3 es3 ep3 t3 (sb2.trans sb3) hr3 ?_ Qo) (fun r s' hr=>?_) fun _ _ h=>h
   ·rw[qO,List.filter_append]
    have:([(hashStr w k,Value.str k tk)].map fun e:Int×Value=>txt e.2).filter (fun k=>!decide (k∈zs))=[k]:=by simp[txt,hk]
    rw[this]
    exact Tr3
   ·cases r with
    |done _=>exact hr.elim
    |yield _=>exact hr
 ·rintro b s' ⟨h2,es',ep',t',past,hpa,rfl,sb2,hr2,Tr2,hle⟩
  rw[qw]at hpa
  subst hpa
  refine qc (qc (qc ⟨_,rfl,(fun z=>by cases z),h h2 d es' ep' t' hr2 ⟨Tr2.el,Tr2.nd,fun k=>?_,Tr2.few,Tr2.fit,Tr2.led,Tr2.pl⟩ fun b ob q=>?_⟩))
  ·rw[Tr2.mem k,List.mem_filter,List.mem_filter,<- T.mem k]
   exact and_congr_left' ((hp.map fun e:Int×Value=>txt e.2).mem_iff)
  ·rw[sb2.2 _ (na b ob q)]
   exact ga b ob q
end
end L2
namespace L2
open PySem PySem.Spec PyProof.Rows
section
variable {X:Cx}
def yO (P:Program) (w:World):R2:=fun x y H Q=>∃(a o:Addr) (ys zs:List Str),x=.ref a/\y=.ref o/\H a=some (bv P w a ys)/\H o=some (bv P w o zs)/\ys.length<4/\∀p,H p=none->Q (.ref p) (upd H p (bv P w p (ys.filter fun k=>!decide (k∈zs))))
theorem zX:OpR X (binaryOp .Sub) (yO X.prog X.w):=by
 intro pins s σ H x y v u Q I rx ry h
 obtain⟨a,o,ys,zs,rfl,rfl,hA,hO,hz,q⟩:=h
 cases rx
 cases ry
 obtain⟨⟨es,ep,t,e1,T1⟩,_,_⟩:=I.hok a _ hA
 obtain⟨⟨es2,ep2,t2,e2,T2⟩,_,_⟩:=I.hok o _ hO
 have few:es.size<4:=by
  have:=cq T1.nd fun x hx=>(T1.mem x).mp hx
  rw[q5,qL]at this
  omega
 refine xH e1 T1 e2 T2 few fun h' d es' ep' t' g T' old=>?_
 have J:=I.laid (t':=s.toks) (h':=h') (a:=s.heap.objs.size) (o:=bv X.prog X.w s.heap.objs.size (ys.filter fun k=>!decide (k∈zs))) old (qd _) (bv.ok g T')
 exact⟨.ref s.heap.objs.size,_,Inv.redrawn (s:=s) J rfl rfl,rfl,q _ (I.hok.fresh (qd _))⟩
end
section
variable {X:Cx}
end
def Ite (K:PySem.W.Frag) (l:Addr):It:=
 ⟨fun i H=>∃xs x,SqL K H l xs/\xs[i]?=some x,
  fun i H v H'=>∃p x,H p=none/\v=.ref p/\H'=upd H p (.tup [.int i,x])/\∀xs,SqL K H l xs->xs[i]?=some x,
  fun i H=>∃xs,SqL K H l xs/\xs.length<=i⟩
theorem wV {P:Program}{w:World}{K:PySem.W.Frag}{elts:List Expr}{kk:Nat}{tp:Pos}(e it l:Addr) (ne:e≠it):
 fU P w K (.Tuple elts kk tp) (Ite K l) [e,it] e (fun i h=>(∃old,IsEnum h e it i old)/\h.IsListIter it l i) where
 mem:=by simp
 obj:=fun i h st b hb=>by
  obtain⟨⟨old,he⟩,o,eo,c,d⟩:=st
  simp only[qt,qQ,or_false]at hb
  rcases hb with rfl|rfl
  ·exact⟨_,he,fun v q=>by cases q⟩
  ·exact⟨o,eo,fun v q=>by rw[d]at q;cases q⟩
 keep:=fun i h h' st k=>by
  obtain⟨⟨old,he⟩,o,eo,r⟩:=st
  exact⟨⟨old,k e (by simp) _ he⟩,o,k it (by simp) o eo,r⟩
 item:=by
  intro X hP hw hK hc i pins s σ H E I hf st hg
  subst hP hw hK
  obtain⟨⟨old,he⟩,hit⟩:=st
  obtain⟨xs,x,hx,ex⟩:=hg
  obtain⟨its,rv,pl,z1⟩:=I.list hx
  obtain⟨u,hu,ru⟩:=rv.get ex
  refine wpAny_pyNext_enum_item he hit pl.isList (x:=u) (by simpa using hu) ne fun g a1 a2 a3 a4 a5=>⟨_,rfl,?_⟩
  refine wpAny_letOwnedTupleGo_enum a1 fun g' a1' sb=>?_
  have hT:∀b∈[e,it],s.heap.objs.size≠b:=fun b hb=>by
   simp only[qt,qQ,or_false]at hb
   rcases hb with rfl|rfl
   ·exact Nat.ne_of_gt (qp he)
   ·obtain⟨o,eo,_⟩:=hit
    exact Nat.ne_of_gt (qp eo)
  have ky:∀b o,b∉[e,it]->s.heap.get? b=some o->g'.get? b=some o:=fun b o hb q=>by
   simp only[qt,qQ,or_false,not_or]at hb
   exact sb.extBut _ _ hb.1 (a5 b o hb.1 hb.2 q)
  have I1:Inv X pins σ H { s with heap:=g',toks:=s.toks+1 }:=I.turnedL (t':=s.toks+1) ky hf
  have pT:=sb.extBut _ _ (hT e (by simp)) a3
  have fT:cf X pins H s.heap.objs.size:=I.fpOk (qd _) (I.hok.fresh (qd _))
  have I2:Inv X pins σ (upd H s.heap.objs.size (.tup [.int i,x])) { s with heap:=g',toks:=s.toks+1 }:=I1.track fT I.sz ⟨by show 2<=sizeLine;decide,[.int i s.toks,u],.cons ⟨_,rfl⟩ (.cons ru .nil),⟨_,pT,rfl,_,rfl⟩⟩
  refine⟨.ref s.heap.objs.size,_,I2,rfl,⟨_,x,I.hok.fresh (qd _),rfl,rfl,fun xs' h=>by rw[I.list_inj h hx];exact ex⟩,⟨⟨u,a1'⟩,?_⟩,fun b hb=>?_⟩
  ·obtain⟨o,eo,r⟩:=a2
   exact⟨o,sb.extBut _ _ (Ne.symm ne) eo,r⟩
  ·rw[aj (Ne.symm (hT b hb))]
   exact(hf b hb).1
 done:=by
  intro X hP hw hK hc i pins s σ H E I hf st hg
  subst hP hw hK
  obtain⟨⟨old,he⟩,hit⟩:=st
  obtain⟨xs,hx,hend⟩:=hg
  obtain⟨its,rv,pl,z1⟩:=I.list hx
  have e1:=rv.length
  refine wpAny_pyNext_enum_end (I.ok.hd hc) he hit pl.isList (by simp;omega) fun g k=>⟨rfl,I.turnedL (t':=s.toks) (ch:=[e,it]) (fun b o hb q=>?_) hf⟩
  simp only[qt,qQ,or_false,not_or]at hb
  exact k b o hb.2 q
 self:=fun _ _ _ _ _ st h=>by
  obtain⟨⟨old,he⟩,_⟩:=st
  exact wpAny_pyIter_enum he h
section
variable {X:Cx}
def C3 (K:PySem.W.Frag) (ta:TA):TI:=fun σ H R=>ta σ H fun vs H1=>∃l xs,vs=[.ref l]/\SqL K H1 l xs/\R (Ite K l) H1
theorem sT {a:Expr}{ta:TA}{p pos tp:Pos}{elts:List Expr}{kk:Nat}(hg:Gl X "enumerate") (hm:X.mg "enumerate"=none) (ha:PA X [a] ta) (hs:starEach [a] X.env=[(false,eval a X.env)]:=by rfl):
 PI X (.Tuple elts kk tp) (.Call (.Name "enumerate" p) [a] [] pos) (C3 X.K ta):=by
 intro pins s σ H R I h
 refine Call_ (fH I hg hm PyProof.Rows.Boot.«enumerate» (PyProof.Rows.callWith_type1 (thn (ha pos pins s σ H _ I h) fun us s1 ⟨vs,H1,I1,r1,q1⟩=>?_) (by rw[hs];rfl) (by rfl)))
 obtain⟨l,xs,rfl,hx,q⟩:=q1
 obtain⟨u,rfl,ru⟩:=dw r1
 cases ru
 obtain⟨its,rv,pl,z1⟩:=I1.list hx
 refine call_enumerate_list pl.isList fun g a1 a2 a3 k=>?_
 refine wpAny_pyIter_enum a1 ⟨s1.heap.objs.size+1,[s1.heap.objs.size+1,s1.heap.objs.size],_,_,H1,rfl,I1.kept (t':=s1.toks) k,wV _ _ l (Nat.succ_ne_self _),⟨⟨_,a1⟩,a2⟩,fun b hb=>?_,q⟩
 simp only[qt,qQ,or_false]at hb
 rcases hb with rfl|rfl
 ·exact I1.fpOk (Nat.le_succ _) (I1.hok.fresh (Nat.le_succ _))
 ·exact I1.fpOk (qd _) (I1.hok.fresh (qd _))
end
theorem uO {K:PySem.W.Frag}{l:Addr}{xs:List V}{g:TG}{tb:TS}{D:eh}{σ:St}{H:Hp}(Pv:Nat->St->Hp->Prop) (h0:Pv 0 σ H) (hl:∀i σ H,Pv i σ H->SqL K H l xs)
 (hs:∀i x σ H p,xs[i]?=some x->Pv i σ H->H p=none->g (.ref p) σ (upd H p (.tup [.int i,x])) fun σ2 H2=>tb { D with nx:=Pv (i+1),ct:=Pv (i+1),bk:=D.nx } σ2 H2)
 (hd:∀σ H,Pv xs.length σ H->D.nx σ H):
 ∃W:Nat->Nat->St->Hp->Prop,(∃m,W 0 m σ H)/\∀i m σ H,W i m σ H->
  ((Ite K l).stop i H/\D.nx σ H)\/((Ite K l).go i H/\∃N:St->Hp->Prop,(∀σ' H',N σ' H'->∃m',m'<m/\W (i+1) m' σ' H')/\∀x H',(Ite K l).yld i H x H'->g x σ H' fun σ2 H2=>tb { D with nx:=N,ct:=N,bk:=D.nx } σ2 H2):=by
 refine⟨fun i m σ H=>m=xs.length-i/\i<=xs.length/\Pv i σ H,⟨_,rfl,qr _,h0⟩,?_⟩
 rintro i m σ H ⟨rfl,hi,p⟩
 have q:=hl i σ H p
 by_cases lt:i<xs.length
 ·refine .inr ⟨⟨xs,xs[i],q,by simp[lt]⟩,Pv (i+1),fun σ' H' p'=>⟨_,Qo,rfl,lt,p'⟩,fun v H' y=>?_⟩
  obtain⟨a,x,hn,rfl,rfl,e1⟩:=y
  exact hs i x σ H a (e1 xs q) p hn
 ·obtain rfl:i=xs.length:=by omega
  exact .inl ⟨⟨xs,q,qd _⟩,hd σ H p⟩
end L2
namespace L2
theorem bE.one {n:Nat}{A:PySem.Around}(h:bE n A):A.units+1<PySem.cLine:=by
 have:=h.units
 omega
end L2
namespace Tr
open PySem PySem.Spec PyProof.Rows L2
structure Row where
 kind:Str
 owns:List Str
 reads:List Str
 into:Option Str
 outof:Option Str
def bal (rs:List Row) (q:Str):Int:=((rs.filter fun r=>decide (r.into=some q)).length:Int)-((rs.filter fun r=>decide (r.outof=some q)).length:Int)
def a8.word:a8->Str
 |.set ..=>"set"
 |.put ..=>"put"
 |.get ..=>"get"
 |.give ..=>"give"
 |.cond ..=>"if"
 |.whl ..=>"while"
 |.rep ..=>"repeat"
end Tr
namespace L2
open PySem PySem.Spec PyProof.Rows
end L2
namespace Tr
open PySem PySem.Spec PyProof.Rows L2
def a8.moves:a8->List (Str×Str)
 |.put q _=>[("put",q)]
 |.get q _=>[("get",q)]
 |_=>[]
end Tr
namespace Tr
open PySem
structure Wt where
 g:Int
 e:a8->Int
mutual
def Wt.d (w:Wt):a8->Int
 |.rep n b=>w.g+n * (Wt.l w b+w.g)
 |.cond _ _ _=>w.g
 |.whl _ _=>w.g
 |.set x a sg b=>w.e (.set x a sg b)
 |.put q x=>w.e (.put q x)
 |.get q x=>w.e (.get q x)
 |.give x=>w.e (.give x)
def Wt.l (w:Wt):List a8->Int
 |[]=>0
 |d::r=>Wt.d w d+Wt.l w r
end
def Wt.m (w:Wt):List Fr->Int
 |[]=>0
 |[f]=>f.times * w.l f.ds
 |f::g::r=>f.times * w.l f.ds+(g.times * w.g+match f.op with|.rep _=>f.times * w.g|_=>0)+Wt.m w (g::r)
end Tr
namespace Tr
open PySem PySem.Spec PyProof.Rows L2
end Tr
namespace L2
open PySem PySem.Spec PyProof.Rows
section
variable {X:Cx}{CX:CXT}{k:Nat}{f C:Addr}{fd:FuncData}{ps:List Str}{sp:Sp}{E:XK}{x m:Str}{p pos apos:Pos}{e o:Expr}{es:List Expr}{t:TA}{te ta:TE}{ds:List Value}{dvs:List V}
end
theorem iq {f:Str}{v:V}:∀{fs:List (Str×V)}(ks:List Str),fs.map (·.1)=ks->(ks.all fun g=>!decide (g=f))=true->c7 f v fs=fs++[(f,v)]
 |[],_,_,_=>rfl
 |(g,x)::r,ks,e,h=>by
  subst e
  simp only[qR,List.all_cons,Bool.and_eq_true,Bool.not_eq_true',decide_eq_false_iff_not]at h
  rw[c7,qZ h.1,iq (r.map (·.1)) rfl h.2]
  rfl
theorem jL {k:Str}{v:V}{r:List (Str×V)}:List.lookup k ((k,v)::r)=some v:=by simp[List.lookup]
theorem dE {k g:Str}{v:V}{r:List (Str×V)}(h:(k == g)=false):List.lookup k ((g,v)::r)=List.lookup k r:=by simp[List.lookup,h]
theorem w8 {α:Type}{xs:List α}{i:Int}{v:α}(h:0<=i) (e:xs[i.toNat]?=some v):atI xs i=some v:=by
 have:=cO (xs:=xs) (j:=i.toNat) (v:=v) e
 rwa [Int.toNat_of_nonneg h]at this
def grow (H0 H H':Hp):Hp:=fun b=>match H b with
 |none=>H' b
 |some _=>H0 b
inductive md (i:Nat) (σ:St) (H:Hp) (Q:VK):Prop
 |mk (v:V) (h:σ[i]?=some (some v)) (q:Q v H):md i σ H Q
theorem zh (i:Nat):md i=oX i:=by
 funext σ H Q
 exact propext ⟨fun⟨v,h,q⟩=>⟨v,h,q⟩,fun⟨v,h,q⟩=>⟨v,h,q⟩⟩
inductive qB (x:V) (H:Hp) (Q:Bool->Hp->Prop):Prop
 |mk (k:Bool) (h:x=.bl k) (q:Q k H):qB x H Q
theorem sK (Q:Bool->Hp->Prop):(fun x H=>qB x H Q)=fun x H=>∃k,x=V.bl k/\Q k H:=by
 funext x H
 exact propext ⟨fun⟨v,h,q⟩=>⟨v,h,q⟩,fun⟨v,h,q⟩=>⟨v,h,q⟩⟩
def gD (t:TE):TT:=fun σ H Q=>t σ H fun x H'=>qB x H' Q
theorem zk (t:TE):gD t=kr t:=by
 funext σ H Q
 unfold gD kr
 rw[sK]
theorem zj (t:TE):gD t=tB t:=by
 funext σ H Q
 unfold gD tB
 rw[sK]
inductive sN (x y:V) (H:Hp) (Q:VK):Prop
 |mk (i j:Int) (h1:x=.int i) (h2:y=.int j) (q:Q (.int (i+j)) H):sN x y H Q
inductive sB (x y:V) (H:Hp) (Q:VK):Prop
 |mk (i j:Int) (h1:x=.int i) (h2:y=.int j) (q:Q (.int (i-j)) H):sB x y H Q
inductive sI (x y:V) (H:Hp) (Q:VK):Prop
 |mk (i j:Int) (h1:x=.int i) (h2:y=.int j) (c:0<j/\j<1073741824) (q:Q (.int (i / j)) H):sI x y H Q
inductive sD (x y:V) (H:Hp) (Q:VK):Prop
 |mk (i j:Int) (h1:x=.int i) (h2:y=.int j) (c:0<j) (q:Q (.int (i % j)) H):sD x y H Q
inductive qLt (x y:V) (H:Hp) (Q:VK):Prop
 |mk (i j:Int) (h1:x=.int i) (h2:y=.int j) (q:Q (.bl (decide (i<j))) H):qLt x y H Q
inductive qGt (x y:V) (H:Hp) (Q:VK):Prop
 |mk (i j:Int) (h1:x=.int i) (h2:y=.int j) (q:Q (.bl (decide (j<i))) H):qGt x y H Q
inductive qGe (x y:V) (H:Hp) (Q:VK):Prop
 |mk (i j:Int) (h1:x=.int i) (h2:y=.int j) (q:Q (.bl (decide (j<=i))) H):qGe x y H Q
inductive qEq (x y:V) (H:Hp) (Q:VK):Prop
 |mk (c:jg x y=true) (q:Q (.bl (decide (x=y))) H):qEq x y H Q
inductive qNe (x y:V) (H:Hp) (Q:VK):Prop
 |mk (c:jg x y=true) (q:Q (.bl (!decide (x=y))) H):qNe x y H Q
inductive sG (x y:V) (H:Hp) (Q:VK):Prop
 |mk (c:y=.non) (q:Q (.bl (decide (x=.non))) H):sG x y H Q
inductive ml (K:PySem.W.Frag) (x y:V) (H:Hp) (Q:VK):Prop
 |mk (p:Addr) (xs:List V) (i:Int) (v:V) (h1:x=.ref p) (h2:y=.int i) (h3:SqL K H p xs) (h4:atI xs i=some v) (q:Q v H):ml K x y H Q
inductive mj (K:PySem.W.Frag) (x y:V) (H:Hp) (Q:VK):Prop
 |mk (p:Addr) (xs:List V) (i:Int) (v:V) (h1:x=.ref p) (h2:y=.int i) (h3:SqT K H p xs) (h4:atI xs i=some v) (q:Q v H):mj K x y H Q
inductive sM (x y:V) (H:Hp) (Q:VK):Prop
 |mk (i j:Str) (h1:x=.str i) (h2:y=.str j) (c:i.length+j.length<=sizeLine) (q:Q (.str (i++j)) H):sM x y H Q
inductive sF (K:PySem.W.Frag) (xs:List V) (H:Hp) (Q:VK):Prop
 |mk (p:Addr) (ys:List V) (h1:xs=[.ref p]) (h2:SqL K H p ys\/SqT K H p ys) (q:Q (.int ys.length) H):sF K xs H Q
inductive mn (K:PySem.W.Frag) (xs:List V) (H:Hp) (Q:VK):Prop
 |mk (x:V) (t:Value) (T:String) (b:Bool) (h1:xs=[x,.ty T]) (h2:cH K H x t) (h3:PySem.W.kitOne K t (.type T)=some b) (q:Q (.bl b) H):mn K xs H Q
inductive sE (K:PySem.W.Frag) (xs:List V) (H:Hp) (Q:VK):Prop
 |mk (p:Addr) (ys:List V) (h1:xs=[.ref p]) (h2:SqL K H p ys\/SqT K H p ys) (q:∀l,H l=none->Q (.ref l) (upd H l (.lst ys))):sE K xs H Q
inductive sL (x:V) (vs:List V) (H:Hp) (Q:VK):Prop
 |mk (l:Addr) (xs:List V) (y:V) (h1:x=.ref l) (h2:vs=[y]) (h3:H l=some (.lst xs)) (h4:xs.length<sizeLine) (q:Q .non (upd H l (.lst (xs++[y])))):sL x vs H Q
inductive sJ (K:PySem.W.Frag) (x y:V) (H:Hp) (Q:VK):Prop
 |mk (l b:Addr) (xs zs:List V) (h1:x=.ref l) (h2:y=.ref b) (h3:SqL K H l xs) (h4:SqL K H b zs) (h5:xs.length+zs.length<=sizeLine) (q:∀p,H p=none->Q (.ref p) (upd H p (.lst (xs++zs)))):sJ K x y H Q
inductive ii (A B:Prop):Prop
 |mk (h:A) (q:B):ii A B
theorem my (A B:Prop):ii A B=(A/\B):=propext ⟨fun⟨a,b⟩=>⟨a,b⟩,fun⟨a,b⟩=>⟨a,b⟩⟩
section
variable {X:Cx}
theorem pq (i:Nat) {x:Str}{pos:Pos}(hN:X.N[i]?=some x:=by rfl) (hv:Vis X.env.scope x:=by first|exact Or.inl rfl|exact Or.inr (Or.inl rfl)|exact Or.inr (Or.inr rfl)) (hd:(x == ("__debug__":Str))=false:=by decide)
 (hcd:(x == ("__classdict__":Str))=false:=by decide):PE X (.Name x pos) (md i):=by
 rw[zh]
 exact zJ hN hv hd hcd
theorem aJ {op:CmpOp}{r:R2}{a b:Expr}{ta tb:TE}{pos:Pos}(ho:OpR X (compareOp op) r) (ha:PE X a ta) (hb:PE X b tb) (hm:behindInMarks op b=false):PT X (.Compare a [op] [b] pos) (gD (tOp r ta tb)):=by
 rw[zk]
 exact zx ho ha hb hm
theorem gE {e:Expr}{t:TE}(h:PE X e t) (he:∀whole,isTrue e X.env whole=(do let v <- whole;standAt e.pos;holding [v] (truthy v)):=by intro _;rfl):PT X e (gD t):=by
 rw[zj]
 exact zw h he
theorem OpR.as {f:Value->Value->Sem Value}{r r':R2}(h:OpR X f r) (e:∀x y H Q,r' x y H Q->r x y H Q):OpR X f r':=fun pins s σ H x y v u Q I rx ry q=>h pins s σ H x y v u Q I rx ry (e _ _ _ _ q)
theorem bT.as {f:Value}{r r':List V->Hp->VK->Prop}(h:bT X f r) (e:∀x H Q,r' x H Q->r x H Q):bT X f r':=fun pins s σ H x u Q I rx q=>h pins s σ H x u Q I rx (e _ _ _ q)
theorem IxR.as {r r':R2}(h:IxR X r) (e:∀x y H Q,r' x y H Q->r x y H Q):IxR X r':=fun a b pins s σ H x y v u Q I rx ry q=>h a b pins s σ H x y v u Q I rx ry (e _ _ _ _ q)
theorem ft:OpR X (binaryOp .Add) sN:=AT.as fun _ _ _ _ ⟨i,j,a,b,q⟩=>⟨i,j,a,b,q⟩
theorem ma:OpR X (binaryOp .Sub) sB:=AM.as fun _ _ _ _ ⟨i,j,a,b,q⟩=>⟨i,j,a,b,q⟩
theorem eE:OpR X (binaryOp .FloorDiv) sI:=AS.as fun _ _ _ _ ⟨i,j,a,b,c,q⟩=>⟨i,j,a,b,c,q⟩
theorem c5:OpR X (binaryOp .Mod) sD:=AN.as fun _ _ _ _ ⟨i,j,a,b,c,q⟩=>⟨i,j,a,b,c,q⟩
theorem eD:OpR X (compareOp .Lt) qLt:=AO.as fun _ _ _ _ ⟨i,j,a,b,q⟩=>⟨i,j,a,b,q⟩
theorem jw:OpR X (compareOp .Gt) qGt:=AQ.as fun _ _ _ _ ⟨i,j,a,b,q⟩=>⟨i,j,a,b,q⟩
theorem ze:OpR X (compareOp .GtE) qGe:=AR.as fun _ _ _ _ ⟨i,j,a,b,q⟩=>⟨i,j,a,b,q⟩
theorem bC:OpR X (compareOp .Eq) qEq:=Af.as fun _ _ _ _ ⟨c,q⟩=>⟨c,q⟩
theorem m8:OpR X (compareOp .NotEq) qNe:=A6.as fun _ _ _ _ ⟨c,q⟩=>⟨c,q⟩
theorem m9:OpR X (compareOp .Is) sG:=Aa.as fun _ _ _ _ ⟨c,q⟩=>⟨c,q⟩
theorem jv:OpR X (binaryOp .Add) sM:=Ah.as fun _ _ _ _ ⟨i,j,a,b,c,q⟩=>⟨i,j,a,b,c,q⟩
theorem cg:OpR X (binaryOp .Add) (sJ X.K):=Ag.as fun _ _ _ _ ⟨l,b,xs,zs,h1,h2,h3,h4,h5,q⟩=>⟨l,b,xs,zs,h1,h2,h3,h4,h5,q⟩
theorem bF:IxR X (ml X.K):=BM.as fun _ _ _ _ ⟨p,xs,i,v,a,b,c,d,q⟩=>⟨p,xs,i,v,a,b,c,d,q⟩
theorem ar:IxR X (mj X.K):=BL.as fun _ _ _ _ ⟨p,xs,i,v,a,b,c,d,q⟩=>⟨p,xs,i,v,a,b,c,d,q⟩
theorem sv {K:PySem.W.Frag}(e:X.K=K):IxR X (ml K):=by
 subst e
 exact bF
theorem m6 {K:PySem.W.Frag}(e:X.K=K):IxR X (mj K):=by
 subst e
 exact ar
theorem bM:bT X (.builtin "len") (sF X.K):=Dh.as fun _ _ _ ⟨p,ys,a,b,q⟩=>⟨p,ys,a,b,q⟩
theorem ig:bT X (.builtin "isinstance") (mn X.K):=Di.as fun _ _ _ ⟨x,t,T,b,h1,h2,h3,q⟩=>⟨x,t,T,b,h1,h2,h3,q⟩
theorem zg {K:PySem.W.Frag}(e:X.K=K):bT X (.builtin "isinstance") (mn K):=by
 subst e
 exact ig
theorem gC:bT X (.type "list") (sE X.K):=Dg.as fun _ _ _ ⟨p,ys,a,b,q⟩=>⟨p,ys,a,b,q⟩
theorem dh:MtM X "list.append" sL:=fun pins s σ H x xs v us Q I rx rv ⟨l,ys,y,h1,h2,h3,h4,q⟩=>Bh pins s σ H x xs v us Q I rx rv ⟨l,ys,y,h1,h2,h3,h4,q⟩
inductive mq (K:PySem.W.Frag) (f:Str) (x:V) (H:Hp) (Q:VK):Prop
 |mk (a C dx:Addr) (fs:List (Str×V)) (v:V) (h1:x=.ref a) (h2:H a=some (.ins C dx fs)) (h3:Cls K C) (h4:cP K C f) (h5:fs.lookup f=some v) (q:Q v H):mq K f x H Q
def mw (K:PySem.W.Frag) (ta:TE) (f:Str):TE:=fun σ H Q=>ta σ H fun x H1=>mq K f x H1 Q
theorem zp (K:PySem.W.Frag) (ta:TE) (f:Str):mw K ta f=j8 K ta f:=by
 funext σ H Q
 unfold mw j8
 have:(fun x H1=>mq K f x H1 Q)=fun x H1=>∃a C dx fs v,x=V.ref a/\H1 a=some (.ins C dx fs)/\Cls K C/\cP K C f/\fs.lookup f=some v/\Q v H1:=by
  funext x H1
  exact propext ⟨fun⟨a,C,dx,fs,v,h1,h2,h3,h4,h5,q⟩=>⟨a,C,dx,fs,v,h1,h2,h3,h4,h5,q⟩,fun⟨a,C,dx,fs,v,h1,h2,h3,h4,h5,q⟩=>⟨a,C,dx,fs,v,h1,h2,h3,h4,h5,q⟩⟩
 rw[this]
theorem cV {e:Expr}{ta:TE}{f:Str}{pos:Pos}(he:PE X e ta) (hb:attributeBase e f X.env (eval e X.env)=eval e X.env):PE X (.Attribute e f pos) (mw X.K ta f):=by
 rw[zp]
 exact sZ he hb
def me (t:TA):TE:=fun σ H Q=>t σ H fun xs H1=>ii (xs.length<=sizeLine) (∀p,H1 p=none->Q (.ref p) (upd H1 p (.tup xs)))
def mi (t:TA):TE:=fun σ H Q=>t σ H fun xs H1=>ii (xs.length<=sizeLine) (∀p,H1 p=none->Q (.ref p) (upd H1 p (.lst xs)))
theorem zi (t:TA):me t=kq t:=by
 funext σ H Q
 unfold me kq
 simp only[my]
theorem zo (t:TA):mi t=ku t:=by
 funext σ H Q
 unfold mi ku
 simp only[my]
theorem aK {x1}{es:List Expr}{t:TA}{pos:Pos}(h:PA X es t):PE X (.Tuple es x1 pos) (me t):=by
 rw[zi]
 exact zK h
theorem aL {es:List Expr}{t:TA}{pos:Pos}(h:PA X es t):PE X (.List es pos) (mi t):=by
 rw[zo]
 exact zN h
inductive mh (vs:List V) (H:Hp) (R:It->Hp->Prop):Prop
 |mk (j:Int) (h:vs=[.int j]) (h1:-(2 ^ 62)<=j) (h2:j<2 ^ 62) (q:R (Itr 0 j.toNat) H):mh vs H R
def nG (ta:TA):TI:=fun σ H R=>ta σ H fun vs H1=>mh vs H1 R
theorem BK (ta:TA):nG ta=nN ta:=by
 funext σ H R
 unfold nG nN
 have:(fun vs H1=>mh vs H1 R)=fun vs H1=>∃j:Int,vs=[V.int j]/\-(2 ^ 62)<=j/\j<2 ^ 62/\R (Itr 0 j.toNat) H1:=by
  funext vs H1
  exact propext ⟨fun⟨j,h,h1,h2,q⟩=>⟨j,h,h1,h2,q⟩,fun⟨j,h,h1,h2,q⟩=>⟨j,h,h1,h2,q⟩⟩
 rw[this]
theorem jB {tg a:Expr}{ta:TA}{p pos:Pos}(hg:Gl X "range") (hm:X.mg "range"=none) (ha:PA X [a] ta) (hs:starEach [a] X.env=[(false,eval a X.env)]:=by rfl):PI X tg (.Call (.Name "range" p) [a] [] pos) (nG ta):=by
 rw[BK]
 exact zI hg hm ha hs
def qBM (K:PySem.W.Frag) (T:String) (r:V->List V->Hp->VK->Prop) (to:TE) (t:TA):TE:=fun σ H Q=>to σ H fun x H1=>ii (tyV K T x H1) (t σ H1 fun xs H2=>r x xs H2 Q)
theorem zq (K:PySem.W.Frag) (T:String) (r:V->List V->Hp->VK->Prop) (to:TE) (t:TA):qBM K T r to t=tBM K T r to t:=by
 funext σ H Q
 unfold qBM tBM
 simp only[my]
theorem bV {o e:Expr}{es:List Expr}{to:TE}{t:TA}{name:Str}{apos cpos:Pos}{T id:String}{r:V->List V->Hp->VK->Prop}(pa:PlainAttrs T) (slot:Slot T name id) (hty:typeOf (.builtin id)=pure (.type "method_descriptor")) (hm:MtR X id r) (ho:PE X o to) (ha:PA X (e::es) t)
 (hbase:attributeBase o name X.env (eval o X.env)=eval o X.env:=by rfl)
 (hfew:((backTo cpos (starEach (e::es) X.env)).all (fun x=>!x.1) && (backToKw cpos (keywordEach [] X.env)).all (fun x=>x.1.isSome)
  && decide ((e::es).length+([]:List Keyword).length+(if([]:List Keyword).isEmpty then 0 else 1)<30))=true:=by rfl)
 (hline:(apos.endLine == cpos.line)=true:=by rfl) (hs:starEach (e::es) X.env=(false,eval e X.env)::starEach es X.env:=by rfl) (hplain:(backTo cpos (starEach es X.env)).any (·.1)=false:=by rfl):
 PE X (.Call (.Attribute o name apos) (e::es) [] cpos) (qBM X.K T r to t):=by
 rw[zq]
 exact zT pa slot hty hm ho ha hbase hfew hline hs hplain
end
section
variable {prog:Program}{w:World}{A:Around}{E:Qq}{s:Shared}
end
section
variable {X:Cx}{pins:List (Addr×Obj)}{σ:St}
theorem oT {H0:Hp}{s0 s:Shared}(I0:Inv X pins σ H0 s0):∀(ts:List Addr) (ps:List (V×V)) (H:Hp),Inv X pins σ H s->ts.length=ps.length->ts.Pairwise (·<·)->(∀t∈ts,s0.heap.objs.size<=t/\H t=none)->
 (∀(j:Nat) (t:Addr) (p:V×V),ts[j]?=some t->ps[j]?=some p->∃u v,av p.1 u/\av p.2 v/\IsPair s.heap t u v)->
 ∃H',Inv X pins σ H' s/\aa H H'/\(∀b,b∉ts->H' b=H b)/\∀(j:Nat) (t:Addr) (p:V×V),ts[j]?=some t->ps[j]?=some p->H' t=some (.tup [p.1,p.2])
 |[],_,H,I,_,_,_,_=>⟨H,I,aa.refl _,fun _ _=>rfl,fun j t p h=>by simp at h⟩
 |t::ts,[],_,_,hl,_,_,_=>by simp at hl
 |t::ts,p::ps,H,I,hl,pw,fr,ob=>by
  obtain⟨u,v,ru,rv,pT⟩:=ob 0 t p rfl rfl
  obtain⟨ht,hn⟩:=fr t qk
  obtain⟨pw1,pw2⟩:=List.pairwise_cons.mp pw
  have I2:Inv X pins σ (upd H t (.tup [p.1,p.2])) s:=I.track (I0.fpOk ht hn) (qx I0.sz ht) ⟨by show 2<=sizeLine;decide,[u,v],.cons ru (.cons rv .nil),⟨_,pT,rfl,_,rfl⟩⟩
  obtain⟨H',I3,s3,o3,a3⟩:=oT I0 ts ps _ I2 (by simpa using hl) pw2 (fun t' ht'=>⟨(fr t' (qj _ ht')).1,by rw[aj (Nat.ne_of_gt (pw1 t' ht'))];exact(fr t' (qj _ ht')).2⟩) fun j t' p' h1 h2=>ob (j+1) t' p' (by simpa using h1) (by simpa using h2)
  refine⟨H',I3,(aa.new hn _).trans s3,fun b hb=>?_,fun j t' p' h1 h2=>?_⟩
  ·have nb:b≠t:=fun z=>hb (by rw[z];exact qk)
   rw[o3 b fun z=>hb (qj _ z),aj nb]
  ·cases j with
   |zero=>
    simp at h1 h2
    subst h1
    subst h2
    exact s3 _ _ ae
   |succ j=>exact a3 j t' p' (by simpa using h1) (by simpa using h2)
end
section
variable {X:Cx}{pins:List (Addr×Obj)}{σ:St}{H:Hp}{s:Shared}{a:Addr}{kvs:List (Key×V)}{k:Key}{z:V}{u r:Value}{A:Around}{E:Qq}
end
section
variable {X:Cx}{o e f:Expr}{apos cpos:Pos}{td ty tx:TE}
end
theorem Bs:typeLookup (.type "list") "keys"=pure none:=by rw[typeLookup_type,builtinLookup_eq_fast];kernel_rfl
section
variable {prog:Program}{w:World}{A:Around}{E:Qq}{s:Shared}
theorem Bv {a:Addr}{xs:Array Value}{k:Nat}{sl:Array (Option Value)}{Q:Option Value->Shared->Prop}(hA:A.handled=none) (hx:s.heap.get? a=some { cls:=.type "list",dict:=none,data:=.seq xs k,slots:=sl })
 (h:∀h' tk,(∀b o,s.heap.get? b=some o->h'.get? b=some o)->Q none { s with heap:=h',toks:=tk }):wpAny (model prog w) A (getAttr? (.ref a) "keys") Q E s:=by
 obtain⟨hp,g,d,tk,os⟩:=s
 have hT:∀tk',(⟨hp,g,d,tk',os⟩:Shared).TypeIs (.ref a) "list":=fun _=>⟨_,hx,rfl⟩
 have f1:=sub_AttributeError
 have f3:=F.slot_list_getattribute.lookup
 have f4:=F.slot_list_getattribute.bind (.ref a)
 have f5:=am_list_getattr_none
 unfold getAttr? getAttrBy? getAttrBy
 repeat (any_goals (first|assumption|exact hT _|((with_reducible show wpAny _ _ (call (Value.builtin "list.__getattribute__") _ _) _ _ _);refine call_meets F.slot_list_getattribute (hT _) am_entry_list_getattribute (F.args_list_getattribute_2 _ _) (meets_getattribute_miss_list a xs k sl "keys" _ Bs Qd) ⟨hx,hA,fun h' tk' e hx'=>?_⟩)|wp_step))
 obtain⟨t',u',he⟩:=hx'.there
 show wpAny _ _ (getattributeRaised _ _ _ _ _ _ _) _ _ _
 unfold getattributeRaised
 repeat (any_goals (first|assumption|wp_step))
 exact h _ _ hx'.keeps
end
theorem jA:plainId "dict.update.loop"=true:=Qd
theorem vk:entryFor table "dict.update.loop"=some Builtin.«dict.update.loop»:=entryFor_of_fast (by kernel_rfl)
def cK {K:Type} [DecidableEq K] (ps:List (K×Value)):List (K×Value):=ps.foldl (fun kvs p=>stored kvs p.1 p.2) []
theorem xR {K:Type} [DecidableEq K] (ps:List (K×Value)) (p:K×Value):cK (ps++[p])=stored (cK ps) p.1 p.2:=by
 unfold cK
 rw[List.foldl_append]
 rfl
section
variable {prog:Program}{w:World}{A:Around}{R:Result->Shared->Prop}{K:Type} [DecidableEq K] {knd:KeyKind prog w K}
def iV (knd:KeyKind prog w K) (h:Heap) (items:Array Value) (ps:List (K×Value)):Prop:=
 items.size=ps.length/\∀(i:Nat) (p:K×Value),ps[i]?=some p->∃t key,items[i]?=some (.ref t)/\h.IsTuple t #[key,p.2]/\knd.is p.1 key=true
theorem iV.keep {h h':Heap}{items:Array Value}{ps:List (K×Value)}(x:iV knd h items ps) (e:∀t o,h.get? t=some o->o.cls=.type "tuple"->h'.get? t=some o):iV knd h' items ps:=
 ⟨x.1,fun i p hp=>let ⟨t,key,a,b,c⟩:=x.2 i p hp;⟨t,key,a,(let ⟨o,e1,e2,r⟩:=b;⟨o,e t o e1 e2,e2,r⟩),c⟩⟩
theorem CO {it l d:Addr}{items:Array Value}{ps:List (K×Value)}{res:Value}(hh:A.handled=none) (nil':it≠l) (nid:it≠d) (nld:l≠d) (few:ps.length<=sizeLine)
 (small:∀qs,qs.length<=ps.length->(cK (qs:List (K×Value))).length<=qs.length):
 ∀(m i:Nat) (s:Shared) (tk:Tok),ps.length-i=m->i<=ps.length->s.heap.IsListIter it l i->s.heap.IsList l items->s.heap.DictOf knd d (cK (ps.take i))->iV knd s.heap items ps->
 (∀h' tk',(∀b o,b≠it->b≠d->s.heap.get? b=some o->h'.get? b=some o)->h'.DictOf knd d (cK ps)->R (.ok (.ret res)) { s with heap:=h',toks:=tk' })->
 codeAny (model prog w) A (.builtin "dict.update.loop" ⟨[.ref d,.ref it,.int i tk,res],[]⟩) R s:=by
 intro m
 induction m with
 |zero=>
  intro i s tk hm hi hit hl hd hp hR
  have e:i=ps.length:=Qo
  subst e
  rw[qG]at hd
  refine codeAny_builtin vk ?_
  rw[Around.under_plainId jA _]
  show wpAny _ A.in1 (pyNext (.ref it) >>= _) _ _ s
  refine q4 (wpAny_pyNext_list_end (by simpa using hh) hit hl (Array.getElem?_eq_none (by rw[hp.1];exact qd _)) fun h' ex=>?_)
  show wpAny _ _ (Builtin.Dict.addKeywords d [] >>= _) _ _ _
  refine q4 (qc (qc (hR h' s.toks (fun b o nb _ q=>ex b o nb q) ?_)))
  obtain⟨o,es,ep,ho,r⟩:=hd
  exact⟨o,es,ep,ex d o (Ne.symm nid) ho,r⟩
 |succ m ih=>
  intro i s tk hm hi hit hl hd hp hR
  have lt:i<ps.length:=Qo
  obtain⟨t,key,e1,e2,e3⟩:=hp.2 i ps[i] (qb lt)
  refine codeAny_builtin vk ?_
  rw[Around.under_plainId jA _]
  show wpAny _ A.in1 (pyNext (.ref it) >>= _) _ _ s
  refine q4 (wpAny_pyNext_list_item hit hl e1 fun h1 hit1 sb1=>?_)
  obtain⟨ot,et1,et2,nt,et3⟩:=e2
  have ntit:t≠it:=fun z=>by
   obtain⟨oi,q1,q2,_⟩:=hit
   rw[z,q1]at et1
   cases et1
   rw[q2]at et2
   exact absurd (Value.type.inj et2) Qk
  have ntd:t≠d:=fun z=>by
   obtain⟨od,q1,q2⟩:=(show s.TypeIs (.ref d) "dict" from hd.typeIs)
   rw[z,q1]at et1
   cases et1
   rw[q2]at et2
   exact absurd (Value.type.inj et2) Qk
  have et1':h1.get? t=some ot:=(sb1.2 t ntit).trans et1
  have hd1:h1.DictOf knd d (cK (ps.take i)):=hd.sameBut sb1 (Ne.symm nid)
  refine q4 (wpAny_holding (q4 (wpAny_tryCatch ?_)))
  unfold Builtin.Dict.pairItems
  refine q4 (wpAny_typeOf_ref et1' ?_)
  rw[et2]
  refine q4 (wpAny_seqItems et1' et3 (qc ?_))
  refine wpAny_holding (wpAny_dictSet_pairs e3 hd1 (fun h2 hd2 sb2=>?_) ?_)
  ·refine qc ⟨plainId_quiet jA _,ih (i+1) { s with heap:=h2,toks:=s.toks+1 } 0 Qo Qo ?_ ?_ ?_ ?_ fun h' tk' kp dd=>hR h' tk' (fun b o n1 n2 q=>kp b o n1 n2 ((sb2.2 b n2).trans ((sb1.2 b n1).trans q))) dd⟩
   ·obtain⟨o,q1,r⟩:=hit1
    exact⟨o,(sb2.2 it nid).trans q1,r⟩
   ·obtain⟨o,q1,r⟩:=hl
    exact⟨o,(sb2.2 l nld).trans ((sb1.2 l (Ne.symm nil')).trans q1),r⟩
   ·rw[qq,qb lt]
    show h2.DictOf knd d (cK (ps.take i++[ps[i]]))
    rw[xR]
    exact hd2
   ·refine hp.keep fun b o q1 q2=>?_
    have nb1:b≠it:=fun z=>by
     obtain⟨oi,r1,r2,_⟩:=hit
     rw[z,r1]at q1
     cases q1
     rw[r2]at q2
     exact absurd (Value.type.inj q2) Qk
    have nb2:b≠d:=fun z=>by
     obtain⟨od,r1,r2⟩:=(show s.TypeIs (.ref d) "dict" from hd.typeIs)
     rw[z,r1]at q1
     cases q1
     rw[r2]at q2
     exact absurd (Value.type.inj q2) Qk
    exact(sb2.2 b nb2).trans ((sb1.2 b nb1).trans q1)
  ·have h1:=small (ps.take i) (by rw[qJ];omega)
   have h2:(ps.take i).length<=ps.length:=by rw[qJ];omega
   omega
end
section
variable {prog:Program}{w:World}{A:Around}{E:Qq}{K:Type} [DecidableEq K] {knd:KeyKind prog w K}{s:Shared}
theorem CN {l:Addr}{xs:Array Value}{k:Nat}{sl:Array (Option Value)}{ps:List (K×Value)}{Q:Qq}(hh:A.handled=none) (hl:s.heap.get? l=some { cls:=.type "list",dict:=none,data:=.seq xs k,slots:=sl }) (hp:iV knd s.heap xs ps) (few:ps.length<=sizeLine)
 (small:∀qs,qs.length<=ps.length->(cK (qs:List (K×Value))).length<=qs.length)
 (h:∀h' tk,(∀b o,s.heap.get? b=some o->h'.get? b=some o)->h'.DictOf knd s.heap.objs.size (cK ps)->Q (.ref s.heap.objs.size) { s with heap:=h',toks:=tk }):
 wpAny (model prog w) A (call (.type "dict") [.ref l]) Q E s:=by
 refine callType_codes (Q₁:=fun obj s₁=>obj=.ref s.heap.objs.size/\s₁={ s with heap:=s.heap.push { cls:=.type "dict",data:=.dict #[] } }) PySem.F.kt_called_dict (PySem.F.kt_typeCall_dict_1 _) PySem.F.entry_dict_init (kt_code_dict_new _ ⟨rfl,rfl⟩) ?_
 rintro obj s₁ ⟨rfl,rfl⟩
 have hnew:(s.heap.push { cls:=.type "dict",data:=.dict #[] }).DictOf knd s.heap.objs.size []:=Heap.DictOf.new s.heap
 refine⟨hnew.typeIs,PySem.F.args_dict_init_2 _ _,?_⟩
 unfold Builtin.«dict.__init__»
 refine q4 ?_
 unfold Builtin.Dict.selfAndRest
 refine q4 (wpAny_notOrdered_dict hnew.typeIs ?_)
 show wpAny _ _ (pure (s.heap.objs.size,[Value.ref l])) _ _ _
 refine qc ?_
 show wpAny _ _ (Builtin.Dict.updateFrom "dict.__init__" s.heap.objs.size (.ref l) [] .none) _ _ _
 unfold Builtin.Dict.updateFrom
 have hl':(s.heap.push { cls:=.type "dict",data:=.dict #[] }).get? l=some { cls:=.type "list",dict:=none,data:=.seq xs k,slots:=sl }:=q9 _ hl
 refine q4 (wpAny_typeOf_ref hl' ?_)
 rw[Q0 (show((Value.type "list":Value) != Value.type "dict")=true by decide)]
 refine q4 (Bv (by simpa using hh) hl' fun h1 tk1 kp1=>?_)
 rw[Q0 (show(none:Option Value).isNone=true from rfl)]
 refine q4 (wpAny_rule ?_)
 have hl1:=kp1 _ _ hl'
 have hd1:h1.DictOf knd s.heap.objs.size []:=by
  obtain⟨o,es,ep,ho,r⟩:=hnew
  exact⟨o,es,ep,kp1 _ _ ho,r⟩
 refine q4 (wpAny_pyIter_list (items:=xs) ⟨_,hl1,rfl,_,rfl⟩ ?_)
 have nl:l≠s.heap.objs.size:=fun z=>absurd (qp hl) (by rw[z];exact Nat.lt_irrefl _)
 have sz:s.heap.objs.size<h1.objs.size:=by
  obtain⟨o,_,_,ho,_⟩:=hd1
  exact qp ho
 have nit:h1.objs.size≠l:=fun z=>absurd (qp hl1) (by rw[<- z];exact Nat.lt_irrefl _)
 refine qc ⟨plainId_quiet jA _,CO (knd:=knd) (items:=xs) (ps:=ps) (by simpa using hh) nit (Nat.ne_of_gt sz) nl few small ps.length 0 _ 0 (Nat.sub_zero _) (qr _) ?_ ?_ ?_ ?_ fun h' tk' kp dd=>?_⟩
 ·exact⟨_,qo _ rfl,rfl,rfl⟩
 ·exact⟨_,q9 _ hl1,rfl,_,rfl⟩
 ·exact hd1.push _
 ·exact(hp.keep fun t o q _=>kp1 _ _ (q9 _ q)).keep fun t o q _=>q9 _ q
 ·refine⟨rfl,h h' tk' (fun b o q=>?_) dd⟩
  have lt:=qp q
  exact kp b o (qF (Nat.lt_trans lt sz)) (qF lt) (q9 _ (kp1 _ _ (q9 _ q)))
end
def ir (ps:List (Key×V)):List (Key×V):=ps.foldl (fun kvs p=>be kvs p.1 p.2) []
theorem zu (ps:List (Key×V)):(ir ps).length<=ps.length:=by
 have:∀(ps kvs:List (Key×V)),(ps.foldl (fun kvs p=>be kvs p.1 p.2) kvs).length<=kvs.length+ps.length:=by
  intro ps
  induction ps with
  |nil=>intro kvs;simp
  |cons p r ih=>
   intro kvs
   have h1:=ih (be kvs p.1 p.2)
   have h2:=jN kvs p.1 p.2
   rw[List.foldl_cons,qz]
   omega
 have:=this ps []
 simpa[ir]using this
theorem xQ {K:Type} [DecidableEq K] (kvs:List (K×Value)) (k:K) (v:Value):(stored kvs k v).length<=kvs.length+1:=by
 unfold stored
 split<;>simp
theorem xS {K:Type} [DecidableEq K] (qs:List (K×Value)):(cK qs).length<=qs.length:=by
 have:∀(ps kvs:List (K×Value)),(ps.foldl (fun kvs p=>stored kvs p.1 p.2) kvs).length<=kvs.length+ps.length:=by
  intro ps
  induction ps with
  |nil=>intro kvs;simp
  |cons p r ih=>
   intro kvs
   have h1:=ih (stored kvs p.1 p.2)
   have h2:=xQ kvs p.1 p.2
   rw[List.foldl_cons,qz]
   omega
 have:=this qs []
 simpa[cK]using this
section
variable {X:Cx}{pins:List (Addr×Obj)}{σ:St}{H:Hp}{s:Shared}
def za (K:PySem.W.Frag):List V->Hp->VK->Prop:=fun vs H Q=>∃l us ps,vs=[.ref l]/\H l=some (.lst us)/\us.length=ps.length/\ps.length<=sizeLine/\(∀(i:Nat) (p:Key×V),ps[i]?=some p->∃t,us[i]?=some (.ref t)/\H t=some (.tup [kV p.1,p.2]))/\∀d,H d=none->Q (.ref d) (upd H d (.dK (ir ps)))
theorem tm {h:Heap}(ok:HOk X.prog X.w H h):∀(us:List V) (its:List Value) (ps:List (Key×V)),au us its->us.length=ps.length->(∀(i:Nat) (p:Key×V),ps[i]?=some p->∃t,us[i]?=some (.ref t)/\H t=some (.tup [kV p.1,p.2]))->
 ∃qs:List (Key×Value),KV ps qs/\its.length=qs.length/\∀(i:Nat) (q:Key×Value),qs[i]?=some q->∃t key,its[i]?=some (.ref t)/\h.IsTuple t #[key,q.2]/\(bL X.prog X.w).is q.1 key=true
 |[],_,[],.nil,_,_=>⟨[],.nil,rfl,fun i q hq=>by simp at hq⟩
 |u::us,_,[],_,hl,_=>by simp at hl
 |[],_,p::ps,_,hl,_=>by simp at hl
 |u::us,_,p::ps,@Paired.cons _ _ _ _ y _ ys rx r,hl,hp=>by
  obtain⟨t,e1,e2⟩:=hp 0 p rfl
  obtain rfl:u=.ref t:=by simpa using e1
  obtain⟨qs,kv,ln,hq⟩:=tm ok us ys ps r (by simpa using hl) fun i p' h'=>by
   obtain⟨t',a,b⟩:=hp (i+1) p' (by simpa using h')
   exact⟨t',by simpa using a,b⟩
  obtain⟨_,jts,rj,o,h1,h2,n,h3⟩:=(show bq X.prog X.w H h t (.tup [kV p.1,p.2])from ok t _ e2)
  obtain⟨k1,v1,rfl,r1,r2⟩:=km rj
  cases rx
  refine⟨(p.1,v1)::qs,.cons ⟨rfl,r2⟩ kv,by simp[ln],fun i q h'=>?_⟩
  cases i with
  |zero=>
   have e:(p.1,v1)=q:=by simpa using h'
   subst e
   exact⟨t,k1,rfl,⟨o,h1,h2,n,h3⟩,eV r1⟩
  |succ i=>exact hq i q (by simpa using h')
theorem KV.all:∀{ps:List (Key×V)}{qs:List (Key×Value)},KV ps qs->KV (ir ps) (cK qs):=by
 have:∀{ps:List (Key×V)}{qs:List (Key×Value)},KV ps qs->∀{a:List (Key×V)}{b:List (Key×Value)},KV a b->KV (ps.foldl (fun kvs p=>be kvs p.1 p.2) a) (qs.foldl (fun kvs p=>stored kvs p.1 p.2) b):=by
  intro ps qs h
  induction h with
  |nil=>intro a b h;exact h
  |cons hx _ ih=>
   intro a b h
   obtain⟨e1,e2⟩:=hx
   rw[List.foldl_cons,List.foldl_cons,<- e1]
   exact ih (h.put _ e2)
 intro ps qs h
 exact this h .nil
theorem Dj (hc:X.calm=true):bT X (.type "dict") (za X.K):=by
 intro pins s σ H xs us Q I r h
 obtain⟨l,ys,ps,rfl,hl,ln,few,hp,q⟩:=h
 obtain⟨u,rfl,rx⟩:=dw r
 cases rx
 obtain⟨hz,its,c',r',e⟩:=(show bq X.prog X.w H s.heap l (.lst ys)from I.hok l _ hl)
 obtain⟨qs,kv,ln',hq⟩:=tm I.hok ys its ps r' ln hp
 have kl:=kv.length
 refine CN (knd:=bL X.prog X.w) (ps:=qs) (I.ok.hd hc) e ⟨by simpa using ln',fun i p hp=>?_⟩ Qo (fun qs _=>xS qs) fun h' tk kp dd=>?_
 ·obtain⟨t,key,a,b,c⟩:=hq i p hp
  exact⟨t,key,by simpa using a,b,c⟩
 ·have len:=zu ps
  refine⟨.ref s.heap.objs.size,_,I.laid (t':=tk) kp (qd _) (nY Qo ?_ kv.all dd),rfl,q _ (I.hok.fresh (qd _))⟩
  exact(o0 s.heap I.big:bq X.prog X.w H _ s.heap.objs.size (.dK [])).2.1
end
end L2
namespace Tr
open PySem PySem.Spec PyProof.Rows L2
abbrev sl (x:Str):List Nat:=x.cps.toList
end Tr
namespace L2
open PySem PySem.Spec PyProof.Rows
section
variable {X:Cx}
theorem tw:OpR X (compareOp .In) (fun x y H Q=>∃a kvs k,y=.ref a/\H a=some (.dK kvs)/\x=kV k/\Q (.bl (bA kvs k).isSome) H):=by
 intro pins s σ H x y v u Q I rx ry h
 obtain⟨a,kvs,k,rfl,hd,rfl,q⟩:=h
 cases ry
 obtain⟨_,ne,vs,rel,dd⟩:=iM I.hok hd
 refine wpAny_in_of (eV rx) ne dd.mapOf ⟨.bl _,H,I.tok _,?_,q⟩
 rw[<- (rel.val k).isSome_eq]
 rfl
theorem BN:IxR X (fun x y H Q=>∃a kvs k v,x=.ref a/\H a=some (.dK kvs)/\y=kV k/\bA kvs k=some v/\Q v H):=by
 intro value slice pins s σ H x y v u Q I rx ry h hs
 obtain⟨a,kvs,k,z,rfl,hd,rfl,e,q⟩:=h
 cases rx
 obtain⟨_,ne,vs,rel,dd⟩:=iM I.hok hd
 obtain⟨w',hw,rw'⟩:=c4.some_of (v:=z) (o:=valueAt vs k) (by rw[<- e];exact rel.val k)
 exact tail_any dd.typeIs PySem.F.slot_dict_getitem.lookup (wpAny_getItem_of (eV ry) dd.mapOf hw ⟨z,H,I.tok _,rw',q⟩) hs
end
end L2
namespace Tr
open PySem PySem.Spec PyProof.Rows L2
abbrev Wat:=Int×Str×Str
def mT (f:Row->Option Str) (rs:List Row) (q:Str):List Int:=rs.zipIdx.filterMap fun p=>if f p.1=some q then some (p.2:Int)else none
def Sm (W:List (List Wat)) (n:Nat):Prop:=∀(i:Nat) (es:List Wat),W[i]?=some es->es.length<=n
def Dr (n:Nat) (gs:List Int) (k:Nat):Int:=if k<gs.length then gs.getD k 0 else(n:Int)-1
def roomFor (rs:List Row) (i:Nat) (r:Row) (s:Str×Int):List Wat:=if r.into=some s.1/\s.2.toNat<=(mT Row.into (rs.take i) s.1).length then[(Dr rs.length (mT Row.outof rs s.1) ((mT Row.into (rs.take i) s.1).length-s.2.toNat),"room",s.1)]else[]
end Tr
namespace L2
open PySem
def itr (mask:Nat):Nat->Nat->Nat->Nat
 |0,i,_=>i
 |m+1,i,p=>itr mask m (SetTable.leap mask i p).1 (SetTable.leap mask i p).2
theorem uF {mask:Nat}{ow:Array (Option Nat)}:∀(fuel i p:Nat),i<=mask->SetTable.layClean.free mask ow fuel i p=none->∀m,m<fuel->(ow.getD (itr mask m i p) (some 0)).isNone=false
 |0,_,_,_,_,m,hm=>absurd hm (Nat.not_lt_zero m)
 |fuel+1,i,p,hi,h,m,hm=>by
  unfold SetTable.layClean.free at h
  split at h
  ·cases h
  ·rename_i hf
   cases m with
   |zero=>
    have:=List.find?_eq_none.mp hf 0 (by
     rw[List.mem_range]
     unfold SetTable.runEnd
     split<;>omega)
    show(ow.getD i (some 0)).isNone=false
    simpa only[Nat.add_zero,Bool.not_eq_true]using this
   |succ m=>exact uF fuel _ _ (Nat.le_of_lt_succ (Nat.mod_lt _ (Nat.succ_pos _))) h m Qo
theorem uG {mask:Nat}{ow:Array (Option Nat)}:∀(fuel i p j:Nat),SetTable.layClean.free mask ow fuel i p=some j->(ow.getD j (some 0)).isNone=true
 |0,_,_,_,h=>by unfold SetTable.layClean.free at h;cases h
 |fuel+1,i,p,j,h=>by
  unfold SetTable.layClean.free at h
  split at h
  ·rename_i k hk
   cases h
   exact List.find?_some (p:=fun k=>(ow.getD (i+k) (some 0)).isNone) hk
  ·exact uG fuel _ _ j h
theorem ur (mask:Nat):∀(a b i p:Nat),itr mask (a+b) i p=itr mask b (itr mask a i p) (p / 32 ^ a)
 |0,b,i,p=>by simp[itr]
 |a+1,b,i,p=>by
  rw[Nat.succ_add]
  show itr mask (a+b) _ _=itr mask b (itr mask a _ _) _
  rw[ur mask a b]
  unfold SetTable.leap
  rw[Nat.div_div_eq_div_mul,Nat.pow_succ,Nat.mul_comm (32 ^ a) 32]
theorem uo {mask:Nat}:∀(a i p:Nat),i<=mask->itr mask a i p<=mask
 |0,i,p,h=>h
 |a+1,i,p,h=>uo a _ _ (by unfold SetTable.leap;exact Nat.le_of_lt_succ (Nat.mod_lt _ (Nat.succ_pos _)))
theorem uU:∀(l:List (Option Nat)) (j k:Nat),l[j]?=some none->((l.set j (some k)).filterMap id).Perm (k::l.filterMap id)
 |[],j,k,h=>by simp at h
 |x::l,0,k,h=>by
  obtain rfl:x=none:=by simpa using h
  exact .refl _
 |x::l,j+1,k,h=>by
  have ih:=uU l j k (by simpa using h)
  cases x with
  |none=>simpa using ih
  |some y=>
   show(y::(l.set j (some k)).filterMap id).Perm (k::y::l.filterMap id)
   exact(ih.cons y).trans (.swap _ _ _)
theorem uV:∀(l:List (Option Nat)),(l.filterMap id).length<l.length->∃j:Nat,l[j]?=some none
 |[],h=>absurd h (Nat.lt_irrefl _)
 |none::l,_=>⟨0,rfl⟩
 |some y::l,h=>by
  obtain⟨j,q⟩:=uV l (by simpa using h)
  exact⟨j+1,by simpa using q⟩
theorem sR {α:Type}(es:Array α) (order:Array Nat) (h:order.toList.Perm (List.range es.size)):(order.filterMap (es[·]?)).toList.Perm es.toList:=by
 rw[Array.toList_filterMap]
 refine(h.filterMap _).trans ?_
 have:∀l:List α,(List.range l.length).filterMap (l[·]?)=l:=fun l=>by
  induction l with
  |nil=>rfl
  |cons x l ih=>
   rw[qz,List.range_succ_eq_map,List.filterMap_cons,List.filterMap_map]
   exact congrArg (x::·) ih
 have q:=this es.toList
 rw[qL]at q
 simp only[qT]at q
 rw[q]
section
variable {P:Program}{w:World}{A:Around}{E:Qq}{s:Shared}
theorem yd:entryFor table "set.__or__"=some Builtin.«frozenset.__or__»:=entryFor_alias (id':="frozenset.__or__") (by kernel_rfl) rfl Qd (by kernel_rfl)
theorem oW {es es':Array (Int×Value)}{t t':SetTable}{ys:List Str}(T:aM P w es t ys) (hp:es'.toList.Perm es.toList) (hf:t'.fits es'.size=true) (hl:t'.led=t.led) (hpl:t'.plain=false):aM P w es' t' ys:=by
 have sz:es'.size=es.size:=by rw[<- qL,hp.length_eq,qL]
 exact⟨T.el.perm hp,(hp.map _).nodup_iff.mpr T.nd,fun k=>((hp.map _).mem_iff).trans (T.mem k),by rw[sz];exact T.few,hf,hl.trans T.led,fun _=>hpl⟩
end
end L2
namespace L2
open PySem PySem.Spec PyProof.Rows
section
variable {X:Cx}
end
section
variable {P:Program}{w:World}{A:Around}{E:Qq}{s:Shared}
end
section
variable {X:Cx}
theorem KV.get:∀{ps:List (Key×V)}{qs:List (Key×Value)}{i:Nat}{p:Key×V},KV ps qs->ps[i]?=some p->∃q,qs[i]?=some q/\p.1=q.1/\av p.2 q.2
 |_,_,_,_,.nil,h=>by simp at h
 |_,_,0,_,.cons hx _,h=>by
  simp only[List.getElem?_cons_zero,Option.some.injEq]at h
  subst h
  exact⟨_,rfl,hx.1,hx.2⟩
 |_,_,i+1,_,.cons _ r,h=>by
  obtain⟨q,e,z⟩:=KV.get r (by simpa using h)
  exact⟨q,by simpa using e,z⟩
def xo (td:TE):TE:=fun σ H Q=>td σ H fun x H1=>∃a kvs,x=.ref a/\H1 a=some (.dK kvs) /\
 ∀H' l (ts:List Addr),aa H1 H'->H1 l=none->H' l=some (.lst (ts.map V.ref))->ts.length=kvs.length->(∀(j:Nat) (t:Addr) (p:Key×V),ts[j]?=some t->kvs[j]?=some p->H' t=some (.tup [kV p.1,p.2])/\H1 t=none)->Q (.ref l) H'
theorem BU {P:Program}{w:World}{k:Key}{u:Value}(h:(bL P w).is k u=true):av (kV k) u:=by
 have h:fI k u=true:=h
 rcases dF h with⟨i,t,rfl,rfl⟩|⟨x,t,rfl,rfl⟩
 ·exact⟨t,rfl⟩
 ·exact⟨t,rfl⟩
theorem zO {o:Expr}{p1 apos cpos pos1:Pos}{td:TE}(hc:X.calm=true) (hg:Gl X "list") (hm:X.mg "list"=none) (ho:PE X o td)
 (hbase:attributeBase o "items" X.env (eval o X.env)=eval o X.env:=by rfl) (hline:(apos.endLine == cpos.line)=true:=by rfl)
 (hs3:starEach [.Call (.Attribute o "items" apos) [] [] cpos] X.env=[(false,eval (.Call (.Attribute o "items" apos) [] [] cpos) X.env)]:=by rfl):
 PE X (.Call (.Name "list" p1) [.Call (.Attribute o "items" apos) [] [] cpos] [] pos1) (xo td):=by
 intro pins s σ H Q I h
 refine wpAny_Call_Name_kw (fH I hg hm PyProof.Rows.Boot.«list» ?_)
 refine PyProof.Rows.callWith_type1 ?_ (by rw[hs3];rfl) rfl
 rw[hs3]
 show wpAny _ _ (spliced ((false,eval (.Call (.Attribute o "items" apos) [] [] cpos) X.env)::backTo pos1 [])) _ _ s
 refine Calls.spliced_cons ?_
 refine wpAny_Call_method0_late hbase hline (thn (ho pins s σ H _ I h) fun v s1 ⟨x,H1,I1,r1,a,kvs,ex,eH,q⟩=>?_)
 subst ex
 obtain rfl:v=Value.ref a:=r1
 obtain⟨z,hd,vs,rel,dd⟩:=iM I1.hok eH
 obtain⟨t1,t2,_⟩:=uv I1 (.inl ⟨kvs,.inl eH⟩)
 refine⟨"dict","dict.items",PySem.F.plainAttrs_dict,PySem.F.slot_dict_items,PySem.F.type_dict_items,t1,t2,Calls.callWith_builtin rfl (PySem.evalArgs_none ?_)⟩
 refine call_meetsIn PySem.F.slot_dict_items dd.typeIs PySem.F.entry_dict_items (PySem.F.args_dict_items_1 _) (meets_dict_items (bL X.prog X.w) a hd) ⟨⟨vs,dd⟩,?_⟩
 refine Calls.spliced_nil ?_
 obtain⟨ep,da⟩:=dd.dictAt
 have kl:=rel.length
 refine PySem.W.kdx_call (s:={ s1 with heap:=s1.heap.push { cls:=.type "dict_items",data:=.fields #[.ref a] } }) (knd:=bL X.prog X.w) (kvs:=vs) (ep:=ep) (I1.ok.hd hc) ⟨_,qo _ rfl,rfl,rfl⟩ (da.push _) Qo fun h' tk acc c ts kp gl tl hG ets=>?_
 have keep:∀b o,s1.heap.get? b=some o->h'.get? b=some o:=fun b o e=>kp b o (q9 _ e)
 have J:Inv X pins σ H1 { s1 with heap:=h',toks:=tk }:=I1.kept keep
 have szp:(s1.heap.push ({ cls:=.type "dict_items",data:=.fields #[.ref a] }:Obj)).objs.size=s1.heap.objs.size+1:=Heap.size_push _ _
 have old:∀t∈ts,s1.heap.objs.size<=t:=fun t ht=>by
  have:=hG.above t ht
  have z:s1.heap.objs.size<=(s1.heap.push ({ cls:=.type "dict_items",data:=.fields #[.ref a] }:Obj)).objs.size:=by rw[szp];exact Nat.le_succ _
  exact qx z (Nat.le_of_lt this)
 obtain⟨H',I3,s3,o3,a3⟩:=oT (s:={ s1 with heap:=h',toks:=tk }) I1 ts (kvs.map fun p=>(kV p.1,p.2)) H1 J (by rw[q5];omega) hG.rise (fun t ht=>⟨old t ht,I1.hok.fresh (old t ht)⟩) fun j t p h1 h2=>by
  obtain⟨key,k,x,e1,e2,e3⟩:=hG.pairs j t h1
  rw[qD]at h2
  obtain⟨p',hp',rfl⟩:=qP.mp h2
  obtain⟨q',hq',rq1,rq2⟩:=KV.get rel hp'
  rw[e1]at hq'
  cases hq'
  have rq1:p'.1=k:=rq1
  subst rq1
  exact⟨key,x,BU e2,rq2,e3⟩
 have lL:s1.heap.objs.size<=(s1.heap.push ({ cls:=.type "dict_items",data:=.fields #[.ref a] }:Obj)).objs.size:=by rw[szp];omega
 generalize (s1.heap.push ({ cls:=.type "dict_items",data:=.fields #[.ref a] }:Obj)).objs.size=L at gl hG lL ⊢
 have nL:L∉ts:=fun hm=>Nat.lt_irrefl _ (hG.above _ hm)
 have fL:H1 L=none:=I1.hok.fresh lL
 have hL:H' L=none:=by rw[o3 _ nL];exact fL
 have vr:∀ts:List Addr,au (ts.map V.ref) (ts.map Value.ref):=fun ts=>by
  induction ts with
  |nil=>exact .nil
  |cons t ts ih=>exact .cons rfl ih
 have I4:Inv X pins σ (upd H' L (.lst (ts.map V.ref))) { s1 with heap:=h',toks:=tk }:=I3.track (I1.fpOk lL hL) (qx I1.sz lL) ⟨by rw[q5];omega,ts.map Value.ref,c,vr ts,by rw[<- ets];simpa using gl⟩
 refine⟨.ref L,_,I4,rfl,q _ L ts (s3.trans (aa.new hL _)) fL ae Qo fun j t p h1 h2=>⟨?_,I1.hok.fresh (old t (qy h1))⟩⟩
 exact aa.new hL _ _ _ (a3 j t (kV p.1,p.2) h1 (by rw[qD,h2];rfl))
end
section
variable {P:Program}{w:World}{K:PySem.W.Frag}{mg:Str->Option Value}{base:Heap}
end
end L2
namespace Tr
open PySem PySem.Spec PyProof.Rows L2
set_option linter.all false
structure OnW (x:Int):Prop where
 lo:0<=x
 hi:x<1000000000000000000000000000000
abbrev aD:=Str->Int
def DJ (f:aD):Val->Int
 |.num n=>n
 |.nm x=>f x
def aW (f:aD) (x:Str) (v:Int):aD:=fun z=>if z=x then v else f z
def sgL:List Str:=["+","-","*","/","<","=","&","|","^"]
def fR (C:List Str):Val->Prop
 |.num n=>OnW n
 |.nm x=>x∈C
theorem fR.names {C:List Str}{a:Val}(h:fR C a):∀x∈a.names,x∈C:=by
 cases a with
 |num n=>intro x hx;simp[Val.names]at hx
 |nm y=>intro x hx;simp[Val.names]at hx;rw[hx];exact h
def tab (ks:List Str) (f:aD):List (Key×V):=ks.map fun z=>(.inr z,.int (f z))
def bK (ks:List Str) (x:Str):List Str:=if x∈ks then ks else ks++[x]
theorem Bl {ks:List Str}{x k:Str}:k∈bK ks x↔k∈ks\/k=x:=by
 unfold bK
 split
 ·rename_i h
  exact⟨.inl,fun z=>z.elim id fun e=>e▸h⟩
 ·simp
theorem tU {ks:List Str}{x:Str}(h:ks.Nodup):(bK ks x).Nodup:=by
 unfold bK
 split
 ·exact h
 ·rename_i hx
  exact jG h hx
theorem wZ (ks:List Str) (f:aD):(tab ks f).map (·.1)=ks.map Sum.inr:=by
 unfold tab
 rw[List.map_map]
 rfl
theorem gh (ks:List Str) (f:aD):(tab ks f).length=ks.length:=q5 _
theorem i4 {f:aD}{x:Str}:∀{ks:List Str},x∈ks->bA (tab ks f) (.inr x)=some (.int (f x))
 |[],h=>by simp at h
 |k::ks,h=>by
  unfold tab bA
  rw[qR,List.find?_cons]
  by_cases e:k=x
  ·subst e
   simp
  ·have h':x∈ks:=by
    rcases qt.mp h with z|z
    ·exact absurd z.symm e
    ·exact z
   have:=i4 (f:=f) h'
   unfold tab bA at this
   simp only[Sum.inr.injEq,e,decide_false]
   exact this
theorem ko {f:aD}{x:Str}{ks:List Str}(h:x∉ks):bA (tab ks f) (.inr x)=none:=by
 cases e:bA (tab ks f) (.inr x)with
 |none=>rfl
 |some v=>
  have:=wL e
  rw[wZ]at this
  obtain⟨z,hz,ez⟩:=List.mem_map.mp this
  cases ez
  exact absurd hz h
theorem wY {f:aD}{x:Str}{v:Int}{ks:List Str}(h:x∉ks):tab ks (aW f x v)=tab ks f:=by
 unfold tab
 refine List.map_congr_left fun z hz=>?_
 show(_,V.int (if z=x then v else f z))=_
 rw[qZ (fun e:z=x=>h (e▸hz))]
theorem j6 {f:aD}{x:Str}{v:Int}{ks:List Str}(hn:ks.Nodup):be (tab ks f) (.inr x) (.int v)=tab (bK ks x) (aW f x v):=by
 unfold bK
 split
 ·rename_i h
  unfold be
  rw[Q0 (by
   rw[List.any_eq_true]
   exact⟨(.inr x,.int (f x)),List.mem_map.mpr ⟨x,h,rfl⟩,by simp⟩)]
  unfold tab
  rw[List.map_map]
  refine List.map_congr_left fun z hz=>?_
  show(if _ then _ else _)=_
  unfold aW
  by_cases e:z=x
  ·subst e
   simp
  ·simp[e]
 ·rename_i h
  rw[mB _ (ko h)]
  show _=tab (ks++[x]) (aW f x v)
  unfold tab
  rw[qO]
  have:=wY (f:=f) (v:=v) h
  unfold tab at this
  rw[this]
  simp[aW]
theorem zt {ks:List Str}(hn:ks.Nodup):ir (ks.map fun z=>((.inr z:Key),V.int 0))=tab ks fun _=>0:=by
 have:∀(ks pre:List Str),(pre++ks).Nodup->(ks.map fun z=>((.inr z:Key),V.int 0)).foldl (fun kvs p=>be kvs p.1 p.2) (tab pre fun _=>0)=tab (pre++ks) fun _=>0:=by
  intro ks
  induction ks with
  |nil=>intro pre _;simp
  |cons k r ih=>
   intro pre h
   have h':((pre++[k])++r).Nodup:=by simpa using h
   have nk:k∉pre:=fun hm=>by
    rw[List.nodup_append]at h
    exact h.2.2 k hm k (by simp) rfl
   rw[qR,List.foldl_cons]
   have e:be (tab pre fun _=>0) (.inr k) (V.int 0)=tab (pre++[k]) fun _=>0:=by
    rw[mB _ (ko nk)]
    simp[tab]
   rw[show be (tab pre fun _=>0) ((.inr k:Key),V.int 0).1 ((.inr k:Key),V.int 0).2=tab (pre++[k]) fun _=>0 from e,ih _ h']
   simp
 exact this ks [] (by simpa using hn)
end Tr
namespace L2
open PySem PySem.Spec PyProof.Rows
section
variable {X:Cx}
end
section
variable {X:Cx}
end
end L2
namespace L2
open PySem PySem.Spec PyProof.Rows PySem.W
section
variable {X:Cx}{k:Nat}{f C0:Addr}{fd:FuncData}{ps:List Str}{sp:Sp}{dvs:List V}{ds:List Value}{fx cx y m n:Str}{iy im inn:Nat}{p pos apos py cp pm pn pa hpos:Pos}{e:Expr}{es:List Expr}{t:TA}
end
section
variable {X:Cx}
end
end L2
namespace Tr
open PySem PySem.Spec PyProof.Rows L2
set_option linter.all false
end Tr
namespace L2
open PySem PySem.Spec PyProof.Rows PySem.W
section
variable {P:Program}{w:World}{K:PySem.W.Frag}{mg:Str->Option Value}{base:Heap}
end
theorem zP {X:Cx}{K:PySem.W.Frag}{e:Expr}{f:Str}{ta:TE}{pos:Pos}(hk:X.K=K) (he:PE X e ta) (hb:attributeBase e f X.env (eval e X.env)=eval e X.env):PE X (.Attribute e f pos) (j8 K ta f):=by
 subst hk
 exact sZ he hb
end L2
namespace L2
open PySem PySem.F PySem.Spec PyProof.Rows PySem.W
set_option maxRecDepth 100000
section
variable {prog:Program}{w:World}{A:Around}{E:Qq}{s:Shared}
end
section
variable {X:Cx}
end
section
variable {X:Cx}
end
section
variable {X:Cx}
end
end L2
namespace L2
open PySem PySem.Spec PyProof.Rows PySem.W
section
variable {X:Cx}
end
section
variable {X:Cx}{pins:List (Addr×Obj)}{σ:St}{H:Hp}{s:Shared}
end
section
variable {X:Cx}{k:Nat}{f C:Addr}{fd:FuncData}{ps:List Str}{sp:Sp}{x:Str}{p pos cpos:Pos}{e:Expr}{es:List Expr}{t:TA}
end
section
variable {X:Cx}
end
section
variable {X:Cx}
end
section
variable {X:Cx}{e:Expr}{te:TE}{pos:Pos}
end
section
variable {X:Cx}{K:PySem.W.Frag}{o e:Expr}{es:List Expr}{to:TE}{t:TA}{name:Str}{apos cpos:Pos}{T id:String}{r:V->List V->Hp->VK->Prop}
end
end L2
namespace L2
open PySem PySem.Spec PyProof.Rows
section
variable {X:Cx}
end
section
variable {prog:Program}{w:World}{A:Around}{E:Qq}{s:Shared}{κ:KeyKind}
def ky (κ:KeyKind) (p:Keyed):κ.α:=KK κ #[p] 0
section
variable {left:Bool}{key:Keyed}{arr:Array Keyed}{base n hint:Nat}{st:SortSt}{Q:Option Nat->SortSt->Prop}
end
end
section
variable {prog:Program}{w:World}{A:Around}{E:Qq}{s:Shared}{κ:KeyKind}
structure MS (r:Keyed->Keyed->Prop) (T o X Y:List Keyed):Prop where
 pm:(o++X++Y).Perm T
 sx:(o++X).Pairwise r
 sy:(o++Y).Pairwise r
section
variable {r:Keyed->Keyed->Prop}{T o X Y Z:List Keyed}
theorem MS.left (h:MS r T o (Z++X) Y) (k:∀x∈Z,∀y∈Y,r x y):MS r T (o++Z) X Y:=by
 refine⟨?_,?_,?_⟩
 ·have:=h.pm
  simpa[qM]using this
 ·rw[qM]
  exact h.sx
 ·have s1:=h.sx
  have s2:=h.sy
  rw[<- qM]at s1
  rw[List.pairwise_append]at s1 s2 ⊢
  refine⟨s1.1,s2.2.1,fun x hx y hy=>?_⟩
  rcases qg.mp hx with q|q
  ·exact s2.2.2 x q y hy
  ·exact k x q y hy
end
section
variable {a b out:Array Keyed}{ia ib n:Nat}
end
end
section
variable {prog:Program}{w:World}{A:Around}{E:Qq}{s:Shared}{κ:KeyKind}
section
variable {a b out:Array Keyed}{ia ib n:Nat}
end
end
section
variable {prog:Program}{w:World}{A:Around}{E:Qq}{s:Shared}{κ:KeyKind}
abbrev H6:Type:=Option (Array Keyed)×Nat×Nat×Array Keyed×Nat×Nat
abbrev H7:Type:=Option (Array Keyed)×Nat×Nat×Array Keyed×Nat×Nat×Nat
section
variable {a b out:Array Keyed}{na nb n:Nat}
end
end
section
variable {prog:Program}{w:World}{A:Around}{E:Qq}{s:Shared}{κ:KeyKind}
section
variable {arr:Array Keyed}{P X Y R:List Keyed}
end
end
section
variable {prog:Program}{w:World}{A:Around}{E:Qq}{s:Shared}{κ:KeyKind}
section
variable {st0 st:SortSt}{lo:Nat}
end
end
section
variable {prog:Program}{w:World}{A:Around}{E:Qq}{s:Shared}{κ:KeyKind}
section
variable {a₀:Array Keyed}{st:SortSt}{Xs:List (List Keyed)}{R:List Keyed}
end
section
variable {a₀:Array Keyed}{st:SortSt}{Xs:List (List Keyed)}{R:List Keyed}{lo n:Nat}
end
end
section
variable {prog:Program}{w:World}{A:Around}{E:Qq}{s:Shared}
end
section
variable {P:Program}{w:World}{A:Around}{E:Qq}{s:Shared}
end
section
variable {X:Cx}
end
end L2
namespace L2
open PySem
def fn5:Nat->Nat->Nat
 |0,x=>x
 |n+1,x=>fn5 n (5 * x+1)
theorem uT:∀(a b x:Nat),fn5 (a+b) x=fn5 b (fn5 a x)
 |0,b,x=>by rw[Nat.zero_add];rfl
 |a+1,b,x=>by rw[Nat.succ_add];exact uT a b _
theorem uR:∀(n x:Nat),4 * fn5 n x+1=5 ^ n * (4 * x+1)
 |0,x=>by simp[fn5]
 |n+1,x=>by
  show 4 * fn5 n (5 * x+1)+1=_
  rw[uR n,Nat.pow_succ,Nat.mul_assoc]
  congr 1
  omega
theorem vc:∀k:Nat,∃c,5 ^ (2 ^ k)=1+2 ^ (k+2) * (2 * c+1)
 |0=>⟨0,Qk⟩
 |k+1=>by
  obtain⟨c,hc⟩:=vc k
  refine⟨c+2 ^ k * ((2 * c+1) * (2 * c+1)),?_⟩
  have e:(5:Nat) ^ (2 ^ (k+1))=5 ^ (2 ^ k) * 5 ^ (2 ^ k):=by rw[<- Nat.pow_add];congr 1;rw[Nat.pow_succ];omega
  have p2:(2:Nat) ^ (k+2)=4 * 2 ^ k:=by rw[Nat.pow_add];omega
  have p3:(2:Nat) ^ (k+1+2)=8 * 2 ^ k:=by rw[Nat.pow_add,Nat.pow_add];omega
  rw[e,hc,p2,p3]
  generalize 2 ^ k=t
  generalize hd:2 * c+1=d
  have:2 * (c+t * (d * d))+1=d+2 * (t * (d * d)):=Qo
  rw[this]
  have q1:(1+4 * t * d) * (1+4 * t * d)=1+8 * (t * d)+16 * ((t * d) * (t * d)):=by
   rw[Nat.mul_assoc 4 t d]
   generalize t * d=z
   rw[Nat.add_mul,Nat.one_mul,Nat.mul_add,Nat.mul_one,show 4 * z * (4 * z)=16 * (z * z)by rw[Nat.mul_assoc,Nat.mul_left_comm z 4 z];omega]
   omega
  have q2:8 * t * (d+2 * (t * (d * d)))=8 * (t * d)+16 * ((t * d) * (t * d)):=by
   rw[Nat.mul_add,Nat.mul_assoc 8 t d,Nat.mul_assoc 8 t]
   have:t * (2 * (t * (d * d)))=2 * ((t * d) * (t * d)):=by
    rw[Nat.mul_left_comm t 2,Nat.mul_mul_mul_comm,Nat.mul_assoc t t]
   rw[this]
   omega
  rw[q1,q2]
  omega
theorem Cu (k x:Nat):∃c,fn5 (2 ^ k) x=x+2 ^ k * (2 * c+1):=by
 obtain⟨c,hc⟩:=vc k
 have h:=uR (2 ^ k) x
 have p2:(2:Nat) ^ (k+2)=4 * 2 ^ k:=by rw[Nat.pow_add];omega
 rw[hc,p2]at h
 refine⟨c * (4 * x+1)+2 * x,?_⟩
 have e:2 * (c * (4 * x+1)+2 * x)+1=(2 * c+1) * (4 * x+1):=by
  rw[Nat.add_mul,Nat.one_mul,Nat.mul_assoc]
  omega
 rw[e]
 rw[Nat.add_mul,Nat.one_mul,Nat.mul_assoc,Nat.mul_assoc]at h
 generalize 2 ^ k * ((2 * c+1) * (4 * x+1))=z at h ⊢
 omega
theorem uS:∀(k i j:Nat),∃m,m<2 ^ k/\fn5 m i % 2 ^ k=j % 2 ^ k
 |0,i,j=>⟨0,Qk,by simp[Nat.mod_one]⟩
 |k+1,i,j=>by
  obtain⟨m,hm,e⟩:=uS k i j
  have p:(2:Nat) ^ (k+1)=2 ^ k * 2:=Nat.pow_succ _ _
  have t0:0<2 ^ k:=Nat.pow_pos Qk
  have two:∀x,x % (2 ^ k * 2)=x % 2 ^ k+2 ^ k * (x / 2 ^ k % 2):=fun x=>Nat.mod_mul
  by_cases c:fn5 m i % 2 ^ (k+1)=j % 2 ^ (k+1)
  ·exact⟨m,Qo,c⟩
  ·refine⟨m+2 ^ k,Qo,?_⟩
   rw[uT]
   obtain⟨z,hz⟩:=Cu k (fn5 m i)
   rw[hz]
   generalize fn5 m i=a at e c ⊢
   rw[p,two a,two j,e]at c
   rw[p,two (a+2 ^ k * (2 * z+1)),two j,Nat.add_mul_mod_self_left,e,Nat.add_mul_div_left _ _ t0]
   have a2:=Nat.mod_lt (a / 2 ^ k) (show 0<2 by decide)
   have j2:=Nat.mod_lt (j / 2 ^ k) (show 0<2 by decide)
   have ne:a / 2 ^ k % 2≠j / 2 ^ k % 2:=fun h=>c (by rw[h])
   have:(a / 2 ^ k+(2 * z+1)) % 2=j / 2 ^ k % 2:=Qo
   rw[this]
theorem uq {mask:Nat}:∀(m i:Nat),i<=mask->itr mask m i 0=fn5 m i % (mask+1)
 |0,i,h=>by
  show i=i % (mask+1)
  rw[Nat.mod_eq_of_lt (Nat.lt_succ_of_le h)]
 |m+1,i,h=>by
  show itr mask m ((i * 5+1+0 / 32) % (mask+1)) (0 / 32)=fn5 m (5 * i+1) % (mask+1)
  rw[Nat.zero_div,Nat.add_zero,uq m _ (Nat.le_of_lt_succ (Nat.mod_lt _ (Nat.succ_pos _))),Nat.mul_comm i 5]
  have key:∀(m x:Nat),fn5 m (x % (mask+1)) % (mask+1)=fn5 m x % (mask+1):=fun m=>by
   induction m with
   |zero=>intro x;exact Nat.mod_mod _ _
   |succ m ih=>
    intro x
    show fn5 m (5 * (x % (mask+1))+1) % (mask+1)=fn5 m (5 * x+1) % (mask+1)
    rw[<- ih (5 * (x % (mask+1))+1),<- ih (5 * x+1)]
    congr 2
    rw[Nat.add_mod,Nat.mul_mod,Nat.mod_mod,<- Nat.mul_mod,<- Nat.add_mod]
  exact key m _
theorem BP {mask k:Nat}(ek:mask+1=2 ^ k) {i j:Nat}(hi:i<=mask) (hj:j<=mask):∃m,m<=mask/\itr mask m i 0=j:=by
 obtain⟨m,hm,e⟩:=uS k i j
 refine⟨m,Qo,?_⟩
 rw[uq m i hi,ek,e,<- ek,Nat.mod_eq_of_lt (Nat.lt_succ_of_le hj)]
theorem Cq {mask:Nat}{ow:Array (Option Nat)}(hm:∃k,mask+1=2 ^ k) {j:Nat}(hj:j<=mask) (hn:(ow.getD j (some 0)).isNone=true) {i p:Nat}(hi:i<=mask) (hp:p<2 ^ 64):
 ∃k,SetTable.layClean.free mask ow (SetTable.turns mask) i p=some k:=by
 cases e:SetTable.layClean.free mask ow (SetTable.turns mask) i p with
 |some k=>exact⟨k,rfl⟩
 |none=>
  exfalso
  have key:=uF _ _ _ hi e
  have l:=uo (mask:=mask) 13 i p hi
  obtain⟨k,ek⟩:=hm
  obtain⟨m,h1,h2⟩:=BP ek l hj
  have:=key (13+m) (by unfold SetTable.turns;omega)
  rw[ur,Nat.div_eq_of_lt (Nat.lt_trans hp Qk),h2,hn]at this
  cases this
theorem D9 {mask:Nat}(hm:∃k,mask+1=2 ^ k) (hs:Array Int) (hl:hs.size<=mask):∃ow:Array (Option Nat),SetTable.layClean mask hs=some ow/\ow.size=mask+1/\(ow.toList.filterMap id).Perm (List.range hs.size):=by
 unfold SetTable.layClean
 rw[<- Array.foldl_toList]
 have key:∀(l:List Int) (ow:Array (Option Nat)) (k:Nat),ow.size=mask+1->(ow.toList.filterMap id).Perm (List.range k)->k+l.length<=mask->
  ∃ow',(l.foldl (fun(acc:Option (Array (Option Nat)×Nat)) h=>do
   let (owner,k) <- acc
   let j <- SetTable.layClean.free mask owner (SetTable.turns mask) (SetTable.bits h % (mask+1)) (SetTable.bits h)
   pure (owner.setIfInBounds j (some k),k+1)) (some (ow,k)))=some (ow',k+l.length)/\ow'.size=mask+1/\(ow'.toList.filterMap id).Perm (List.range (k+l.length)):=by
  intro l
  induction l with
  |nil=>intro ow k h1 h2 h3;exact⟨ow,rfl,h1,h2⟩
  |cons h l ih=>
   intro ow k h1 h2 h3
   rw[qz]at h3
   have len:=h2.length_eq
   rw[List.length_range]at len
   obtain⟨j,hj⟩:=uV ow.toList (by rw[len,qL,h1];omega)
   have jl:j<ow.size:=by
    have:=(qe.mp hj).1
    rwa [qL]at this
   have gn:∀j,(ow.getD j (some 0)).isNone=true↔ow.toList[j]?=some none:=fun j=>by
    rw[qT,Array.getD_eq_getD_getElem?]
    cases ow[j]? with
    |none=>simp
    |some y=>cases y<;>simp
   have bl:SetTable.bits h<2 ^ 64:=by
    unfold SetTable.bits
    omega
   obtain⟨q,hq⟩:=Cq (ow:=ow) hm (j:=j) Qo ((gn j).mpr hj) (i:=SetTable.bits h % (mask+1)) (p:=SetTable.bits h) (Nat.le_of_lt_succ (Nat.mod_lt _ (Nat.succ_pos _))) bl
   have hq':=(gn q).mp (uG _ _ _ _ hq)
   have:=ih (ow.setIfInBounds q (some k)) (k+1) (by simpa using h1) (by
    rw[Array.toList_setIfInBounds,List.range_succ]
    refine(uU _ _ _ hq').trans ?_
    refine(h2.cons k).trans ?_
    exact(List.perm_append_comm (l₁:=[k]) (l₂:=List.range k))) Qo
   obtain⟨ow',e1,e2,e3⟩:=this
   refine⟨ow',?_,e2,?_⟩
   ·rw[List.foldl_cons,qz,show k+(l.length+1)=k+1+l.length by omega,<- e1]
    congr 1
    show(SetTable.layClean.free mask ow (SetTable.turns mask) (SetTable.bits h % (mask+1)) (SetTable.bits h)).bind _=_
    rw[hq]
    rfl
   ·rw[qz,show k+(l.length+1)=k+1+l.length by omega]
    exact e3
 obtain⟨ow',e1,e2,e3⟩:=key hs.toList (Array.replicate (mask+1) none) 0 (by simp) (by simp) (by simpa using hl)
 refine⟨ow',?_,e2,by simpa using e3⟩
 rw[e1]
 rfl
theorem ue {mask:Nat}(hm:∃k,mask+1=2 ^ k) (f mv:Nat) (led pl:Bool) (hs:Array Int) (hl:hs.size<=mask):
 ∃t order,SetTable.laid mask f mv led pl hs=some (t,order)/\order.toList.Perm (List.range hs.size)/\t.mask=mask/\t.place.size=hs.size/\t.dummies=#[]/\t.led=led/\t.plain=pl:=by
 obtain⟨ow,e,sz,pm⟩:=D9 hm hs hl
 have live:((List.range (mask+1)).filterMap fun j=>(ow.getD j none).map (j,·)).map (·.2)=ow.toList.filterMap id:=by
  rw[List.map_filterMap]
  have:ow.toList=(List.range (mask+1)).map fun j=>ow.getD j none:=by
   refine List.ext_getElem (by simp[sz]) fun i h1 h2=>?_
   simp at h1
   simp[Array.getD_eq_getD_getElem?,h1]
  rw[this,List.filterMap_map]
  congr 1
  funext j
  show Option.map _ (Option.map _ (ow.getD j none))=ow.getD j none
  cases ow.getD j none<;>rfl
 have ll:((List.range (mask+1)).filterMap fun j=>(ow.getD j none).map (j,·)).length=hs.size:=by
  have:=congrArg List.length live
  rw[q5]at this
  rw[this,pm.length_eq,List.length_range]
 unfold SetTable.laid
 rw[e]
 refine⟨_,_,rfl,?_,rfl,?_,rfl,rfl,rfl⟩
 ·dsimp only
  rw[live]
  exact pm
 ·simpa using ll
theorem rO {n:Nat}:∀(fuel i:Nat),n<2 ^ (i+fuel)->∃k,SetTable.sizeAbove.go n fuel (2 ^ i)=2 ^ k/\n<2 ^ k/\(2 ^ k<=2 ^ i\/2 ^ k<=2 * n)
 |0,i,h=>⟨i,rfl,h,.inl (qd _)⟩
 |fuel+1,i,h=>by
  unfold SetTable.sizeAbove.go
  split
  ·rename_i hc
   rw[<- Nat.pow_succ]
   obtain⟨k,e,l,u⟩:=rO fuel (i+1) (by rw[show i+1+fuel=i+(fuel+1)by omega];exact h)
   refine⟨k,e,l,.inr ?_⟩
   have:(2:Nat) ^ (i+1)=2 ^ i * 2:=Nat.pow_succ _ _
   omega
  ·exact⟨i,rfl,Qo,.inl (qd _)⟩
theorem xY {n:Nat}(h:n<2 ^ 60):∃k,SetTable.sizeAbove n=2 ^ k/\n<2 ^ k/\(2 ^ k<=8\/2 ^ k<=2 * n):=rO 64 3 (Nat.lt_trans h Qk)
section
variable {P:Program}{w:World}{A:Around}{E:Qq}{s:Shared}
theorem vd {t:SetTable}{n:Nat}(h:t.fits n=true):t.place.size=n:=by
 unfold SetTable.fits at h
 simp only[Bool.and_eq_true,beq_iff_eq]at h
 first
  |exact h.1.1.symm
  |exact h.1.1
  |exact h.1.symm
  |exact h.1
theorem sj {a:Addr}{es:Array (Int×Value)}{ep:Nat}{t:SetTable}{ys:List Str}{wanted:Nat}{Q:Unit->Shared->Prop}(ha:s.heap.get? a=some (aE es ep t)) (T:aM P w es t ys) (h1:es.size<=wanted) (h2:wanted<=20000)
 (h:∀h' es' ep' t',Heap.SameBut a s.heap h'->h'.get? a=some (aE es' ep' t')->aM P w es' t' ys->es'.size=es.size->t'.place.size=es.size->t'.dummies=#[]->wanted<=t'.mask->(∃k,t'.mask+1=2 ^ k)->Q () { s with heap:=h' }):wpAny (model P w) A (setRelay a wanted) Q E s:=by
 have big:(100000:Nat)<=sizeLine:=Qk
 obtain⟨k,ek,lk,uk⟩:=xY (n:=wanted) (Nat.lt_of_le_of_lt h2 Qk)
 unfold setRelay
 refine q4 (qW ha rfl T.fit ?_)
 dsimp only
 obtain⟨t1,order,e1,pm,mk,pl,dm,ld,pp⟩:=ue (mask:=2 ^ k-1) ⟨k,Qo⟩ t.finger (t.movedTo (2 ^ k-1)) t.led t.plain (es.map (·.1)) (by rw[Array.size_map];omega)
 have e2:t.relaid (es.map (·.1)) wanted=some (t1,order):=by
  unfold SetTable.relaid
  rw[ek]
  exact e1
 rw[qZ (by rw[ek];omega),e2]
 rw[Array.size_map]at pm pl
 have pa:=sR es order pm
 have sz:(order.filterMap (es[·]?)).size=es.size:=by rw[<- qL,pa.length_eq,qL]
 refine q4 ?_
 show wpAny _ _ (if((order.filterMap (es[·]?)).size != es.size)=true then _ else _) _ _ _
 rw[qZ (by rw[sz];simp)]
 refine q4 (qc (qc ?_))
 dsimp only
 have fw:=T.few
 refine wpAny_storeSet_of ha rfl ?_ (by rw[sz];omega)
 have fit1:t1.fits (order.filterMap (es[·]?)).size=true:=by
  unfold SetTable.fits SetTable.fill
  rw[pl,dm,sz,mk]
  simp
  omega
 refine h _ _ _ t1 (Heap.SameBut.update _ a _) (fj (s:=s) ha) ?_ sz pl dm (by rw[mk];omega) ⟨k,by rw[mk];omega⟩
 exact⟨T.el.perm pa,(pa.map _).nodup_iff.mpr T.nd,fun k=>((pa.map _).mem_iff).trans (T.mem k),by rw[sz];exact T.few,fit1,ld.trans T.led,fun z=>pp.trans (T.pl Qo)⟩
theorem yJ {a:Addr}{n:Nat}{Q:Unit->Shared->Prop}(ha:s.heap.get? a=some (bb w)) (few:n<=5000)
 (h:∀h1 ep1 t1,Heap.SameBut a s.heap h1->h1.get? a=some (aE #[] ep1 t1)->t1.place=#[]->t1.dummies=#[]->(∃k,t1.mask+1=2 ^ k)->n<=t1.mask->t1.led=(!w.params.followText "set-order")->Q () { s with heap:=h1 }):
 wpAny (model P w) A (setRoomFor a n) Q E s:=by
 have T0:aM P w #[] (SetTable.fresh 0 0 (!w.params.followText "set-order")) []:=j7
 unfold setRoomFor
 refine q4 (qW ha rfl T0.fit ?_)
 dsimp only
 have hr:(SetTable.fresh 0 0 (!w.params.followText "set-order")).roomFor n=if n * 5 >= 21 then some (n * 2)else none:=by
  unfold SetTable.roomFor SetTable.fresh SetTable.fill
  simp
 rw[hr]
 by_cases hn:n * 5 >= 21
 ·rw[Q0 hn]
  refine sj (wanted:=n * 2) ha T0 (qr _) Qo fun h' es' ep' t' sb g T' z pz dm wm pw=>?_
  obtain rfl:es'=#[]:=Array.eq_empty_of_size_eq_zero z
  exact h h' ep' t' sb g (Array.eq_empty_of_size_eq_zero pz) dm pw Qo T'.led
 ·rw[qZ hn]
  exact qc (h s.heap 0 _ (Heap.SameBut.refl a s.heap) ha rfl rfl ⟨3,rfl⟩ (by show n<=7;omega) rfl)
theorem tY {a o:Addr}{es:Array (Int×Value)}{ep:Nat}{t:SetTable}{zs:List Str}{each:Sem Unit}{Q:Unit->Shared->Prop}(ne:a≠o) (ha:s.heap.get? a=some (bb w)) (ho:s.heap.get? o=some (aE es ep t)) (T:aM P w es t zs) (few:es.size<=5000)
 (h:∀h' es' ep' t',Heap.SameBut a s.heap h'->h'.get? a=some (aE es' ep' t')->aM P w es' t' zs->(es.size=0->h'=s.heap)->Q () { s with heap:=h' }):wpAny (model P w) A (setMerge a o each) Q E s:=by
 have T0:aM P w #[] (SetTable.fresh 0 0 (!w.params.followText "set-order")) []:=j7
 unfold setMerge
 rw[qZ (by simpa using ne)]
 refine q4 (qW ho rfl T.fit ?_)
 dsimp only
 by_cases h0:es.isEmpty=true
 ·rw[Q0 h0]
  have e0:es=#[]:=by simpa using h0
  subst e0
  exact qc (h s.heap #[] 0 _ (Heap.SameBut.refl a s.heap) ha ⟨T0.el,T0.nd,T.mem,T0.few,T0.fit,T0.led,T0.pl⟩ fun _=>rfl)
 ·rw[qZ h0]
  have pos:0<es.size:=by
   rcases Nat.eq_zero_or_pos es.size with z|z
   ·exact absurd (by simpa using z) h0
   ·exact z
  have tpl:=T.pl pos
  have h1z:∀h':Heap,es.size=0->h'=s.heap:=fun _ z=>absurd z (Nat.ne_of_gt pos)
  refine q4 (yJ ha few fun h1 ep1 t1 sb g1 p1 d1 mk le l1=>?_)
  have f1:t1.fits (#[]:Array (Int×Value)).size=true:=by
   unfold SetTable.fits SetTable.fill
   rw[p1,d1]
   simp
  refine q4 (qW (s:={ s with heap:=h1 }) g1 rfl f1 ?_)
  dsimp only
  have fz:¬ (t1.fill != 0)=true:=by
   unfold SetTable.fill
   rw[p1,d1]
   decide
  have ll:(t1.led && t.led)=t.led:=by
   rw[l1,T.led]
   simp
  have pp:(t1.plain && t.plain)=false:=by
   rw[tpl]
   simp
  unfold SetTable.road
  rw[qZ fz]
  by_cases hr:(t1.mask == t.mask && t.dummies.isEmpty)=true
  ·rw[Q0 hr]
   dsimp only
   refine wpAny_storeSet_of (s:={ s with heap:=h1 }) g1 rfl ?_ (qx few Qk)
   refine h _ es _ _ (sb.trans (Heap.SameBut.update _ a _)) (fj (s:={ s with heap:=h1 }) g1) (oW T (.refl _) ?_ ll pp) (h1z _)
   exact T.fit
  ·rw[qZ hr]
   dsimp only
   obtain⟨t2,order,e1,pm,mk2,pl,dm,ld,pl2⟩:=ue mk t1.finger t1.moves (t1.led && t.led) (t1.plain && t.plain) (es.map (·.1)) (by simpa using le)
   rw[Array.size_map]at pm pl
   have pa:=sR es order pm
   have sz:(order.filterMap (es[·]?)).size=es.size:=by rw[<- qL,pa.length_eq,qL]
   rw[e1]
   refine q4 ?_
   show wpAny _ _ (if((order.filterMap (es[·]?)).size != es.size)=true then _ else _) _ _ _
   rw[qZ (by rw[sz];simp)]
   refine q4 (qc (qc ?_))
   dsimp only
   refine wpAny_storeSet_of (s:={ s with heap:=h1 }) g1 rfl ?_ (by rw[sz];exact qx few Qk)
   refine h _ _ _ _ (sb.trans (Heap.SameBut.update _ a _)) (fj (s:={ s with heap:=h1 }) g1) (oW T pa ?_ (ld.trans ll) (pl2.trans pp)) (h1z _)
   unfold SetTable.fits SetTable.fill
   rw[pl,dm,sz,mk2]
   simpa using le
theorem yI {a:Addr}{es:Array (Int×Value)}{ep n:Nat}{t:SetTable}{ys:List Str}{Q:Unit->Shared->Prop}(ha:s.heap.get? a=some (aE es ep t)) (T:aM P w es t ys) (few:es.size+n<=10000)
 (h:∀h' es' ep' t',Heap.SameBut a s.heap h'->h'.get? a=some (aE es' ep' t')->aM P w es' t' ys->es'.size=es.size->Q () { s with heap:=h' }):wpAny (model P w) A (setRoomFor a n) Q E s:=by
 have pz:=vd T.fit
 unfold setRoomFor
 refine q4 (qW ha rfl T.fit ?_)
 dsimp only
 unfold SetTable.roomFor
 by_cases hn:(t.fill+n) * 5 >= t.mask * 3
 ·rw[Q0 hn]
  exact sj ha T (by rw[pz];omega) (by rw[pz];omega) fun h' es' ep' t' sb g T' z _ _ _ _=>h h' es' ep' t' sb g T' z
 ·rw[qZ hn]
  exact qc (h s.heap es ep t (Heap.SameBut.refl a s.heap) ha T rfl)
theorem wJ {a r:Addr}{es er':Array (Int×Value)}{ep epr:Nat}{t tr:SetTable}{ys zs:List Str}{Q:Array (Int×Value)->Shared->Prop}(hs:s.heap.get? a=some (aE es ep t)) (T:aM P w es t ys)
 (hr:s.heap.get? r=some (aE er' epr tr)) (Tr:aM P w er' tr zs) (er0:0<er'.size)
 (h:∀arr h' d ep2 t2,arr.toList.Perm es.toList->Heap.SameBut r s.heap h'->h'.get? r=some (aE er' ep2 t2)->aM P w er' t2 zs->Q arr { s with heap:=h',drawn:=d }):wpAny (model P w) A (setWalkUnseen a [r] (some r)) Q E s:=by
 have old:∀arr d,arr.toList.Perm es.toList->Q arr { s with drawn:=d }:=fun arr d hp=>h arr s.heap d epr tr hp (Heap.SameBut.refl r s.heap) hr Tr
 have fw:=Tr.few
 unfold setWalkUnseen
 refine q4 (qW hs rfl T.fit ?_)
 dsimp only
 refine q4 (dX ?_)
 split
 ·exact oN hs T old
 ·refine q4 (sw (fun b hb=>?_) ?_)
  ·simp only[qt,qQ,or_false]at hb
   rcases hb with rfl|rfl
   ·exact⟨_,_,_,_,hs,T⟩
   ·exact⟨_,_,_,_,hr,Tr⟩
  ·simp only[Bool.not_true,Bool.false_eq_true,if_false]
   refine q4 (wpAny_rule ?_)
   refine q4 (qW hr rfl Tr.fit ?_)
   dsimp only
   split
   ·refine q4 (wpAny_storeSet_of hr rfl ?_ (by
     have:scanBound<=sizeLine:=Qk
     omega))
    refine qc (h es _ s.drawn _ _ (.refl _) (Heap.SameBut.update _ r _) (fj (s:=s) hr) ⟨Tr.el,Tr.nd,Tr.mem,Tr.few,Tr.fit,?_,fun _=>?_⟩)
    ·show(tr.led && t.led)=_
     rw[Tr.led,T.led]
     simp
    ·show(tr.plain && t.plain)=false
     rw[Tr.pl er0]
     rfl
   ·exact qc (old es s.drawn (.refl _))
theorem Bk {a o:Addr}{ea es:Array (Int×Value)}{epa ep:Nat}{ta t:SetTable}{ys zs:List Str}{each:Sem Unit}{Q:Unit->Shared->Prop}(ne:a≠o) (ha:s.heap.get? a=some (aE ea epa ta)) (Ta:aM P w ea ta ys) (a0:0<ea.size) (ho:s.heap.get? o=some (aE es ep t)) (T:aM P w es t zs) (few:ea.size<=5000) (few2:es.size<=5000) (room:ea.size+es.size+1<scanBound)
 (he:∀(s':Shared) (R:Unit->Shared->Prop),s'.heap.get? o=some (aE es ep t)->R () s'->wpAny (model P w) A each R E s')
 (h:∀h' d es' ep' t',Heap.SameBut a s.heap h'->h'.get? a=some (aE es' ep' t')->aM P w es' t' (ys++zs)->Q () { s with heap:=h',drawn:=d }):wpAny (model P w) A (setMerge a o each) Q E s:=by
 unfold setMerge
 rw[qZ (by simpa using ne)]
 refine q4 (qW ho rfl T.fit ?_)
 dsimp only
 by_cases h0:es.isEmpty=true
 ·rw[Q0 h0]
  have e0:es=#[]:=by simpa using h0
  subst e0
  refine qc (h s.heap s.drawn ea epa ta (Heap.SameBut.refl a s.heap) ha ⟨Ta.el,Ta.nd,fun k=>?_,Ta.few,Ta.fit,Ta.led,Ta.pl⟩)
  rw[Ta.mem k,qg]
  have:k∉zs:=fun z=>by have:=(T.mem k).mpr z;simp at this
  simp[this]
 ·rw[qZ h0]
  refine q4 (yI ha Ta Qo fun h1 e1 ep1 t1 sb g1 T1 z1=>?_)
  refine q4 (qW (s:={ s with heap:=h1 }) g1 rfl T1.fit ?_)
  dsimp only
  have pz:=vd T1.fit
  have fz:(t1.fill != 0)=true:=by
   have:t1.fill≠0:=by
    unfold SetTable.fill
    omega
   simpa using this
  unfold SetTable.road
  rw[Q0 fz]
  dsimp only
  have ho1:h1.get? o=some (aE es ep t):=by rw[sb.2 _ (Ne.symm ne)];exact ho
  refine q4 (wJ (s:={ s with heap:=h1 }) ho1 T g1 T1 Qo fun arr h2 d ep2 t2 hp sb2 g2 T2=>?_)
  refine q4 (PySem.wpAny_forIn_array' _ (fun rest _ s'=>∃h3 e3 ep3 t3 past,past++rest=arr.toList/\s'={ s with heap:=h3,drawn:=d }/\Heap.SameBut a s.heap h3/\h3.get? a=some (aE e3 ep3 t3)/\aM P w e3 t3 (ys++past.map fun e:Int×Value=>txt e.2)/\e3.size<=e1.size+past.length) _ ?_ ?_ arr _ ⟨h2,e1,ep2,t2,[],rfl,rfl,sb.trans sb2,g2,by simpa using T2,qd _⟩)
  ·rintro x rest b s' ⟨h3,e3,ep3,t3,past,hpa,rfl,sb3,g3,T3,le3⟩
   have xm:x∈es.toList:=hp.mem_iff.mp (by rw[<- hpa];simp)
   obtain⟨k,tk,rfl,_⟩:=iZ T xm
   have pl:past.length+(rest.length+1)=es.size:=by
    have:=congrArg List.length hpa
    rw[hp.length_eq]at this
    simpa using this
   dsimp only
   refine q4 (wpAny_holding (oC (s:={ s with heap:=h3,drawn:=d }) g3 T3 Qo fun b h4 e4 ep4 t4 sb4 g4 T4 le4=>?_))
   have ho4:h4.get? o=some (aE es ep t):=by rw[(sb3.trans sb4).2 _ (Ne.symm ne)];exact ho
   refine q4 (he _ _ ho4 ?_)
   refine q4 (qW (s:={ s with heap:=h4,drawn:=d }) ho4 rfl T.fit ?_)
   simp only[bne_self_eq_false,Bool.false_eq_true,if_false]
   refine qc ⟨h4,e4,ep4,t4,past++[(hashStr w k,Value.str k tk)],by rw[<- hpa];simp,rfl,sb3.trans sb4,g4,?_,by rw[qa];show _<=_+(_+1);omega⟩
   rw[qO,<- qM]
   exact T4
  ·rintro b s' ⟨h3,e3,ep3,t3,past,hpa,rfl,sb3,g3,T3,le3⟩
   rw[qw]at hpa
   subst hpa
   refine qc (h h3 d e3 ep3 t3 sb3 g3 ⟨T3.el,T3.nd,fun k=>?_,T3.few,T3.fit,T3.led,T3.pl⟩)
   rw[T3.mem k,qg,qg,<- T.mem k]
   exact or_congr_right ((hp.map fun e:Int×Value=>txt e.2).mem_iff)
end
section
variable {P:Program}{w:World}{A:Around}{E:Qq}{s:Shared}
theorem zV {a o:Addr}{ep ep2:Nat}{t t2:SetTable}{es es2:Array (Int×Value)}{ys zs:List Str}{Q:Qq}(ne:a≠o) (hs:s.heap.get? a=some (aE es ep t)) (T:aM P w es t ys)
 (ho:s.heap.get? o=some (aE es2 ep2 t2)) (T2:aM P w es2 t2 zs) (few1:es.size<=1500) (few:es2.size<=1500)
 (h:∀h' d es' ep' t',h'.get? s.heap.objs.size=some (aE es' ep' t')->aM P w es' t' (ys++zs)->(∀b ob,s.heap.get? b=some ob->h'.get? b=some ob)->Q (.ref s.heap.objs.size) { s with heap:=h',drawn:=d }):wpAny (model P w) A (binaryOp .BitOr (.ref a) (.ref o)) Q E s:=by
 have ta:s.TypeIs (.ref a) "set":=⟨_,hs,rfl⟩
 have to:s.TypeIs (.ref o) "set":=⟨_,ho,rfl⟩
 refine wpAny_binaryOp_same (op:=.BitOr) (T:="set") ta to F.fills_set_or F.slot_set_or (wpAny_call_entry F.slot_set_or ta yd ?_ (F.args_set_or_2 _ _))
 unfold Builtin.«frozenset.__or__»
 refine q4 (m:=Builtin.Frozenset.slot1 "__or__" ⟨[.ref a,.ref o],[]⟩) (qc ?_)
 dsimp only
 simp only[Bool.false_eq_true,if_false]
 refine q4 (q4 (hX ta (hX to ?_)))
 simp only[Bool.not_true,Bool.false_eq_true,if_false]
 refine q4 (qc ?_)
 refine q4 ?_
 refine q4 (m:=Builtin.Frozenset.copyOf a) ?_
 unfold Builtin.Frozenset.copyOf Builtin.Frozenset.baseOf
 refine q4 (q4 (wpAny_isInstance (b:=true) ta i9 (qc ?_)))
 simp only[if_true]
 refine q4 ?_
 unfold newSet
 refine q4 (dX ?_)
 dsimp only
 refine wpAny_newObj_type ?_
 refine q4 (qc ?_)
 have ga:∀b ob,s.heap.get? b=some ob->(s.heap.push (bb w)).get? b=some ob:=fun b ob q=>q9 _ q
 have gr:(s.heap.push (bb w)).get? s.heap.objs.size=some (bb w):=qo _ rfl
 have na:∀b ob,s.heap.get? b=some ob->s.heap.objs.size≠b:=fun b ob q=>Nat.ne_of_gt (qp q)
 have sb0:scanBound=4096\/4000<=scanBound:=by unfold scanBound;omega
 have mm:∀e1 t1,aM P w e1 t1 ys->e1.size=es.size:=fun e1 t1 T1=>by
  have l1:=cq T1.nd fun x hx=>(T.mem x).mpr ((T1.mem x).mp hx)
  have l2:=cq T.nd fun x hx=>(T1.mem x).mpr ((T.mem x).mp hx)
  rw[q5,q5,qL,qL]at l1 l2
  omega
 refine q4 (tY (s:={ s with heap:=s.heap.push (bb w) }) (na _ _ hs) gr (ga _ _ hs) T Qo fun h1 es1 ep1 t1 sb1 g1 T1 z1=>?_)
 have sz1:=mm es1 t1 T1
 have na2:∀b ob,s.heap.get? b=some ob->h1.get? b=some ob:=fun b ob q=>(sb1.2 _ (na b ob q).symm).trans (ga b ob q)
 refine qc ?_
 show wpAny _ _ (if((Value.ref o:Value) != .ref a)=true then _ else _) _ _ _
 rw[Q0 (by
  have:(Value.ref o == Value.ref a)=false:=by
   rw[beq_eq_false_iff_ne]
   intro z
   cases z
   exact ne rfl
  rw[bne,this]
  rfl)]
 refine q4 (qc ?_)
 refine q4 (wpAny_holding ?_)
 unfold Builtin.Frozenset.updateFrom
 refine q4 (hX (s:={ s with heap:=h1 }) ⟨_,na2 _ _ ho,rfl⟩ ?_)
 simp only[if_true]
 refine q4 (qc ?_)
 unfold Builtin.Frozenset.merge
 refine q4 (wpAny_setEpoch_of (s:={ s with heap:=h1 }) (na2 _ _ ho) rfl T2.fit ?_)
 by_cases z:es.size=0
 ·have e1:=z1 z
  subst e1
  have y0:∀k,k∉ys:=fun k hk=>by
   have:=(T.mem k).mpr hk
   rw[Array.eq_empty_of_size_eq_zero z]at this
   simp at this
  refine tY (s:={ s with heap:=s.heap.push (bb w) }) (na _ _ ho) gr (ga _ _ ho) T2 Qo fun h2 es3 ep3 t3 sb3 g3 T3 _=>?_
  exact qc (qc ⟨_,rfl,(fun z=>by cases z),h h2 s.drawn es3 ep3 t3 g3 ⟨T3.el,T3.nd,fun k=>by rw[T3.mem k,qg];simp[y0 k],T3.few,T3.fit,T3.led,T3.pl⟩ fun b ob q=>(sb3.2 _ (na b ob q).symm).trans (ga b ob q)⟩)
 ·refine Bk (s:={ s with heap:=h1 }) (na _ _ ho) g1 T1 Qo (na2 _ _ ho) T2 Qo Qo Qo (fun s' R hs' hR=>?_) fun h2 d es3 ep3 t3 sb3 g3 T3=>?_
  ·unfold Builtin.Frozenset.unchanged
   refine q4 (wpAny_setEpoch_of hs' rfl T2.fit ?_)
   simp only[bne_self_eq_false,Bool.false_eq_true,if_false]
   exact qc hR
  ·exact qc (qc ⟨_,rfl,(fun z=>by cases z),h h2 d es3 ep3 t3 g3 T3 fun b ob q=>(sb3.2 _ (na b ob q).symm).trans (na2 b ob q)⟩)
end
end L2
namespace L2
open PySem PySem.Spec PyProof.Rows
section
variable {X:Cx}
def yW (P:Program) (w:World):R2:=fun x y H Q=>∃(a o:Addr) (ys zs ds fs:List Str),x=.ref a/\y=.ref o/\a≠o/\H a=some (bv P w a ys)/\H o=some (bv P w o zs)/\(∀k∈ys,k∈ds)/\ds.length<=1500/\(∀k∈zs,k∈fs)/\fs.length<=1500/\∀p,H p=none->Q (.ref p) (upd H p (bv P w p (ys++zs)))
theorem A4:OpR X (binaryOp .BitOr) (yW X.prog X.w):=by
 intro pins s σ H x y v u Q I rx ry h
 obtain⟨a,o,ys,zs,ds,fs,rfl,rfl,ne,hA,hO,hd,hl,hf,hl2,q⟩:=h
 cases rx
 cases ry
 obtain⟨⟨es,ep,t,e1,T1⟩,_,_⟩:=I.hok a _ hA
 obtain⟨⟨es2,ep2,t2,e2,T2⟩,_,_⟩:=I.hok o _ hO
 have l1:es.size<=1500:=by
  have:=cq T1.nd fun x hx=>hd x ((T1.mem x).mp hx)
  rw[q5,qL]at this
  omega
 have l2:es2.size<=1500:=by
  have:=cq T2.nd fun x hx=>hf x ((T2.mem x).mp hx)
  rw[q5,qL]at this
  omega
 refine zV ne e1 T1 e2 T2 l1 l2 fun h' d es' ep' t' g T' old=>?_
 have J:=I.laid (t':=s.toks) (h':=h') (a:=s.heap.objs.size) (o:=bv X.prog X.w s.heap.objs.size (ys++zs)) old (qd _) (bv.ok g T')
 exact⟨.ref s.heap.objs.size,_,Inv.redrawn (s:=s) J rfl rfl,rfl,q _ (I.hok.fresh (qd _))⟩
end
section
variable {P:Program}{w:World}{A:Around}{E:Qq}{s:Shared}
end
section
variable {X:Cx}
end
end L2
namespace Tr
open PySem PySem.Spec PyProof.Rows L2
set_option linter.all false
end Tr
namespace Tr
open PySem PySem.Spec PyProof.Rows L2
set_option linter.all false
def PlW (C S:List Str):a8->Prop
 |.set x a _ b=>x∈C/\fR C a/\fR C b
 |.put s x=>s∈S/\x∈C
 |.get s x=>s∈S/\x∈C
 |.give x=>x∈C
 |.cond x _ _=>x∈C
 |.whl x _=>x∈C
 |.rep n _=>0<=n/\n<=1000
end Tr
namespace Tr
open PySem PySem.Spec PyProof.Rows L2
set_option linter.all false
structure ZC (Hb H0 H:Hp) (own:List Addr) (z:List Fz):Prop where
 hb:aa Hb H0
 h0:aa H0 H
 fz:∀m∈own++z.flatMap Fz.muts,H0 m=none
 nd:(own++z.flatMap Fz.muts).Nodup
 ol:∀m∈own,∃vs,H m=some (.lst vs)
 zr:ZR H0 H z []
section
variable {Hb H0 H0' H H' H1:Hp}{own:List Addr}{z:List Fz}
theorem ZC.hbH (Z:ZC Hb H0 H own z):aa Hb H:=Z.hb.trans Z.h0
theorem ZC.top (Z:ZC Hb H0 H own z):∃x r vs,z=x::r/\H x.c=some (.lst vs)/\RDs H0 vs x.f.ds:=by
 have:=Z.zr
 match z,this with
 |x::r,⟨⟨vs,h1,h2⟩,_⟩=>exact⟨x,r,vs,rfl,by simpa using h1,h2⟩
theorem ZC.lsts (Z:ZC Hb H0 H own z):∀m∈own++z.flatMap Fz.muts,∃vs,H m=some (.lst vs):=fun m hm=>by
 rcases qg.mp hm with h|h
 ·exact Z.ol m h
 ·exact Z.zr.lsts m h
theorem ZC.ndz (Z:ZC Hb H0 H own z):(z.flatMap Fz.muts).Nodup:=(List.nodup_append.mp Z.nd).2.1
theorem ZC.off (Z:ZC Hb H0 H own z) {m:Addr}(h:m∈z.flatMap Fz.muts):m∉own:=fun ho=>(List.nodup_append.mp Z.nd).2.2 m ho m h rfl
theorem ZC.tup (Z:ZC Hb H0 H own z) {p:Addr}{xs:List V}(h:H p=some (.tup xs)):p∉own:=fun ho=>by
 obtain⟨vs,hv⟩:=Z.ol p ho
 rw[h]at hv
 cases hv
theorem ZC.same (Z:ZC Hb H0 H own z) (e:aa H H1):ZC Hb H0 H1 own z where
 hb:=Z.hb
 h0:=Z.h0.trans e
 fz:=Z.fz
 nd:=Z.nd
 ol:=fun m hm=>by obtain⟨vs,h⟩:=Z.ol m hm;exact⟨vs,e _ _ h⟩
 zr:=Z.zr.frame (fun m hm=>by obtain⟨vs,h⟩:=Z.zr.lsts m hm;rw[h];exact e _ _ h) fun p xs h=>e _ _ h
theorem ZC.push {x:Fz}{r:List Fz}{vs xs:List V}{p:Addr}{d:a8}(Z:ZC Hb H0 H own (x::r)) (hc:H x.c=some (.lst vs)) (hp:H p=some (.tup xs)) (hp0:H0 p=none) (hd:RD (upd H0 p (.tup xs)) (.ref p) d):
 ZC Hb (upd H0 p (.tup xs)) (upd H x.c (.lst (vs++[.ref p]))) own ({ x with f:=x.f.add d }::r):=by
 have pc:=dz hp hc
 have cz:H0 x.c=none:=Z.fz _ (qH _ dP)
 have g:aa H0 (upd H0 p (.tup xs)):=aa.new hp0 _
 have rest:=(Z.zr.rest (o:=.lst (vs++[.ref p])) Z.ndz hc)
 refine{ hb:=Z.hb.trans g,h0:=?_,fz:=?_,nd:=Z.nd,ol:=?_,zr:=?_ }
 ·intro b u q
  by_cases e:b=p
  ·subst e
   rw[ae]at q
   cases q
   rw[aj pc]
   exact hp
  ·rw[aj e]at q
   rw[aj (bN q cz)]
   exact Z.h0 _ _ q
 ·intro m hm
  obtain⟨ws,hw⟩:=Z.lsts m hm
  rw[aj (Ne.symm (dz hp hw))]
  exact Z.fz m hm
 ·intro m hm
  have hn:m≠x.c:=fun e=>Z.off dP (e▸hm)
  rw[aj hn]
  exact Z.ol m hm
 ·obtain⟨⟨vs',h1,h2⟩,_,_⟩:=Z.zr
  rw[qw,hc]at h1
  cases h1
  refine⟨⟨vs++[.ref p],by rw[qw];exact ae,(h2.same g).app (.cons hd .nil)⟩,?_,?_⟩
  ·have q:=rest.1
   unfold Fz.side at q ⊢
   dsimp only[Fr.add]
   revert q
   cases x.f.op<;>intro q<;>first|exact q|exact RL.same g q
  ·rcases rest.2 with h4|⟨h4,h5,h6⟩
   ·exact .inl h4
   ·exact .inr ⟨h4,h5,h6.grow g⟩
theorem ZC.opened {x y:Fz}{r:List Fz}{vs vy:List V}(Z:ZC Hb H0 H own (x::r)) (hc:H x.c=some (.lst vs)) (g:aa H0 H0') (g':aa H0' H') (hf:∀m∈own++(x::r).flatMap Fz.muts,H0' m=none)
 (k:∀b u,b≠x.c->b∉own->H b=some u->H' b=some u) (ol:∀m∈own,∃vs,H' m=some (.lst vs)) (nm:∀m∈y.muts,H0' m=none/\m∉own++(x::r).flatMap Fz.muts) (ny:y.muts.Nodup)
 (hy:H' y.c=some (.lst vy)) (hds:RDs H0' vy y.f.ds) (hs:y.side H0' H') (hp:H' y.p=some (.tup y.tupV)) (hop:y.f.op≠.root) (kc:H' x.c=some (.lst (vs++[.ref y.p]))):ZC Hb H0' H' own (y::x::r):=by
 have am:own++(y::x::r).flatMap Fz.muts=own++(y.muts++(x::r).flatMap Fz.muts):=by rw[qE]
 have oth:∀m,m∈(x::r).flatMap Fz.muts->m≠x.c->H' m=H m:=fun m hm hmc=>by
  obtain⟨ws,hw⟩:=Z.zr.lsts m hm
  rw[hw]
  exact k m _ hmc (Z.off hm) hw
 have tp:∀p xs,H p=some (.tup xs)->H' p=some (.tup xs):=fun p xs h=>k p _ (dz h hc) (Z.tup h) h
 refine{ hb:=Z.hb.trans g,h0:=g',fz:=?_,nd:=?_,ol:=ol,zr:=?_ }
 ·intro m hm
  rw[am,qg,qg]at hm
  rcases hm with hm|hm|hm
  ·exact hf m (qV _ hm)
  ·exact(nm m hm).1
  ·exact hf m (qH _ hm)
 ·have a:=List.nodup_append.mp Z.nd
  rw[am,List.nodup_append,List.nodup_append]
  refine⟨a.1,⟨ny,a.2.1,fun m hm b hb e=>(nm m hm).2 (e▸qH _ hb)⟩,fun m hm b hb=>?_⟩
  rcases qg.mp hb with hb|hb
  ·exact fun e=>(nm b hb).2 (e▸qV _ hm)
  ·exact a.2.2 m hm b hb
 ·obtain⟨⟨vs',h1,h2⟩,h3,h4⟩:=Z.zr
  rw[qw,hc]at h1
  cases h1
  refine⟨⟨vy,by rw[qw];exact hy,hds⟩,hs,.inr ⟨hop,hp,⟨vs,kc,h2.same g⟩,?_,?_⟩⟩
  ·unfold Fz.side at h3 ⊢
   cases q:x.f.op with
   |ifT n=>
    rw[q]at h3
    have se:=kH Z.ndz q
    show H' x.e=some (.lst [])
    rw[oth x.e (by rw[qE];exact qV _ se.2.1) se.1]
    exact h3
   |ifO n t=>rw[q]at h3;exact RL.same g h3
   |root=>trivial
   |whl n=>trivial
   |rep n=>trivial
  ·rcases h4 with h4|⟨h4,h5,h6⟩
   ·exact .inl h4
   ·exact .inr ⟨h4,tp _ _ h5,(h6.frame (fun m hm=>oth m (mX hm) (vP Z.ndz hm)) tp).grow g⟩
theorem ZC.elsed {x:Fz}{r:List Fz}{vs:List V}{n:Str}{t:Int}(Z:ZC Hb H0 H own (x::r)) (q:x.f.op=.ifT n) (hc:H x.c=some (.lst vs))
 (k:∀b u,b∉own->H b=some u->H' b=some u) (ol:∀m∈own,∃vs,H' m=some (.lst vs)):
 ZC Hb (upd H0 x.c (.lst vs)) H' own (⟨{ x.f with op:=.ifO n x.f.ds,ds:=[],times:=t },x.e,x.p,x.c⟩::r):=by
 have se:=kH Z.ndz q
 have em:x.e∈(x::r).flatMap Fz.muts:=by rw[qE];exact qV _ se.2.1
 have g:aa H0 (upd H0 x.c (.lst vs)):=aa.new (Z.fz _ (qH _ dP)) _
 have mx:x.muts=[x.c,x.e]:=by unfold Fz.muts;rw[q]
 have tp:∀p xs,H p=some (.tup xs)->H' p=some (.tup xs):=fun p xs h=>k p _ (Z.tup h) h
 have oth:∀m,m∈(x::r).flatMap Fz.muts->H' m=H m:=fun m hm=>by
  obtain⟨ws,hw⟩:=Z.zr.lsts m hm
  rw[hw]
  exact k m _ (Z.off hm) hw
 obtain⟨⟨vs',h1,h2⟩,h3,h4⟩:=Z.zr
 rw[qw,hc]at h1
 cases h1
 unfold Fz.side at h3
 rw[q]at h3
 have mz:(⟨{ x.f with op:=.ifO n x.f.ds,ds:=[],times:=t },x.e,x.p,x.c⟩::r:List Fz).flatMap Fz.muts=x.e::r.flatMap Fz.muts:=by rw[qE];rfl
 have m0:(x::r).flatMap Fz.muts=x.c::x.e::r.flatMap Fz.muts:=by rw[qE,mx];rfl
 have nd:=Z.nd
 rw[m0,List.nodup_append]at nd
 obtain⟨n1,n2,n3⟩:=nd
 rw[List.nodup_cons]at n2
 have sub:∀m,m∈own++x.e::r.flatMap Fz.muts->m∈own++(x::r).flatMap Fz.muts/\m≠x.c:=fun m hm=>by
  rw[m0]
  rcases qg.mp hm with h|h
  ·exact⟨qV _ h,n3 m h x.c qk⟩
  ·exact⟨qH _ (qj _ h),fun e=>n2.1 (e▸h)⟩
 refine{ hb:=Z.hb.trans g,h0:=?_,fz:=?_,nd:=?_,ol:=ol,zr:=?_ }
 ·intro b u hb
  by_cases e:b=x.c
  ·subst e
   rw[ae]at hb
   cases hb
   exact k _ _ (Z.off dP) hc
  ·rw[aj e]at hb
   exact k _ _ (fun ho=>by rw[Z.fz b (qV _ ho)]at hb;cases hb) (Z.h0 _ _ hb)
 ·intro m hm
  rw[mz]at hm
  rw[aj (sub m hm).2]
  exact Z.fz m (sub m hm).1
 ·rw[mz,List.nodup_append]
  exact⟨n1,n2.2,fun m hm b hb=>n3 m hm b (qj _ hb)⟩
 ·refine⟨⟨[],?_,.nil⟩,.mk ae (h2.same g),?_⟩
  ·show H' x.e=some (.lst ([]++[]))
   rw[oth x.e em]
   exact h3
  ·rcases h4 with⟨h4,_⟩|⟨h4,h5,h6⟩
   ·rw[q]at h4;cases h4
   ·refine .inr ⟨by simp,?_,(h6.frame (fun m hm=>oth m (mX hm)) tp).grow g⟩
    have:=tp _ _ h5
    unfold Fz.tupV at this ⊢
    rw[q]at this
    exact this
theorem ZC.closed {x g:Fz}{r:List Fz}(Z:ZC Hb H0 H own (x::g::r)) (k:∀b u,b∉own->H b=some u->H' b=some u) (ol:∀m∈own,∃vs,H' m=some (.lst vs)):
 ∃H0',ZC Hb H0' H' own ({ g with f:=g.f.add x.f.deed }::r):=by
 obtain⟨⟨vs,h1,h2⟩,h3,h4⟩:=Z.zr
 rw[qw]at h1
 rcases h4 with⟨_,h4⟩|⟨h4,h5,h6⟩
 ·cases h4
 have tp:∀p xs,H p=some (.tup xs)->H' p=some (.tup xs):=fun p xs h=>k p _ (Z.tup h) h
 have oth:∀m,m∈(x::g::r).flatMap Fz.muts->H' m=H m:=fun m hm=>by
  obtain⟨ws,hw⟩:=Z.zr.lsts m hm
  rw[hw]
  exact k m _ (Z.off hm) hw
 have mx:∀m∈x.muts,m∈(x::g::r).flatMap Fz.muts:=fun m hm=>by rw[qE];exact qV _ hm
 let H0':Hp:=fun b=>if b∈x.muts\/b=x.p then H b else H0 b
 have e1:∀b,b∈x.muts\/b=x.p->H0' b=H b:=fun b hb=>Q0 hb
 have e2:∀b,¬ (b∈x.muts\/b=x.p)->H0' b=H0 b:=fun b hb=>qZ hb
 have gr:aa H0 H0':=fun b u hb=>by
  by_cases c:b∈x.muts\/b=x.p
  ·rw[e1 b c];exact Z.h0 _ _ hb
  ·rw[e2 b c];exact hb
 have hl:RL H0' x.c x.f.ds:=.mk ((e1 _ (.inl x.c_mem)).trans h1) (h2.same gr)
 have ht:H0' x.p=some (.tup x.tupV):=(e1 _ (.inr rfl)).trans h5
 have hd:RD H0' (.ref x.p) x.f.deed:=by
  unfold Fz.tupV at ht
  unfold Fz.side at h3
  unfold Fr.deed
  cases q:x.f.op with
  |root=>exact absurd q h4
  |ifT n=>
   rw[q]at ht h3
   exact .cond ht hl (.mk ((e1 _ (.inl (by unfold Fz.muts;rw[q];simp))).trans h3) .nil)
  |ifO n t=>
   rw[q]at ht h3
   exact .cond ht (RL.same gr h3) hl
  |whl n=>
   rw[q]at ht
   exact .whl ht hl
  |rep n=>
   rw[q]at ht
   exact .rep ht hl
 have am:own++(x::g::r).flatMap Fz.muts=own++(x.muts++(g::r).flatMap Fz.muts):=by rw[qE]
 have nd:=Z.nd
 rw[am,List.nodup_append,List.nodup_append]at nd
 obtain⟨n1,⟨n2,n3,n4⟩,n5⟩:=nd
 have up:∀m,m∈own++(g::r).flatMap Fz.muts->m∈own++(x::g::r).flatMap Fz.muts:=fun m hm=>by
  rw[am]
  rcases qg.mp hm with h|h
  ·exact qV _ h
  ·exact qH _ (qH _ h)
 have ex:∀m,m∈own++(g::r).flatMap Fz.muts->H0' m=none:=fun m hm=>by
  rw[e2 m ?_]
  ·exact Z.fz m (up m hm)
  ·rintro(hx|hx)
   ·rcases qg.mp hm with h|h
    ·exact n5 m h m (qV _ hx) rfl
    ·exact n4 m hx m h rfl
   ·obtain⟨ws,hw⟩:=Z.lsts m (up m hm)
    exact dz h5 hw hx.symm
 refine⟨H0',{ hb:=Z.hb.trans gr,h0:=?_,fz:=ex,nd:=?_,ol:=ol,zr:=?_ }⟩
 ·intro b u hb
  by_cases c:b∈x.muts\/b=x.p
  ·rw[e1 b c]at hb
   rcases c with c|c
   ·rw[oth b (mx b c)];exact hb
   ·subst c;rw[h5]at hb;cases hb;exact tp _ _ h5
  ·rw[e2 b c]at hb
   exact k _ _ (fun ho=>by rw[Z.fz b (qV _ ho)]at hb;cases hb) (Z.h0 _ _ hb)
 ·show(own++(g::r).flatMap Fz.muts).Nodup
  rw[List.nodup_append]
  exact⟨n1,n3,fun m hm b hb=>n5 m hm b (qH _ hb)⟩
 ·have h7:=(h6.frame (H':=H') (fun m hm=>oth m (mX hm)) tp).grow gr
  obtain⟨⟨ws,w1,w2⟩,w3,w4⟩:=h7
  exact⟨⟨ws++[.ref x.p],by rw[qw];exact w1,w2.app (.cons hd .nil)⟩,w3,w4⟩
theorem ZC.whole (Z:ZC Hb H0 H own z):RL H (hE z) (wh (z.map (·.f)) []):=Z.zr.whole Z.h0 .nil
theorem ZC.begin {b:Addr}{f:Fr}(hf:f.op=.root) (hd:f.ds=[]) (nd:(own++[b]).Nodup) (hb:H b=some (.lst [])) (hn:∀m∈own++[b],H0 m=none) (hs:aa H0 H) (ol:∀m∈own,∃vs,H m=some (.lst vs)):ZC H0 H0 H own [⟨f,b,0,0⟩]:=by
 have e:([⟨f,b,0,0⟩]:List Fz).flatMap Fz.muts=[b]:=by
  simp[Fz.muts,hf]
 refine⟨aa.refl _,hs,by rw[e];exact hn,by rw[e];exact nd,ol,⟨[],hb,by rw[hd];exact .nil⟩,?_,.inl ⟨hf,rfl⟩⟩
 unfold Fz.side
 dsimp only
 rw[hf]
 trivial
end
end Tr
namespace Tr
open PySem PySem.Spec PyProof.Rows L2
set_option linter.all false
def Fr.sec (f:Fr):Option Str:=match f.op with
 |.ifT x=>if f.times=1 then some x else none
 |_=>none
def cR:List Fr:=[⟨.root,[],false,0⟩]
def PlX (C S:List Str) (d:a8):Prop:=PlW C S d/\match d with
 |.set _ _ sg _=>sg∈sgL
 |_=>True
def BlX (C S:List Str) (ds:List a8):Prop:=∀d∈ah ds,PlX C S d
theorem BlX.nil {C S:List Str}:BlX C S []:=fun d hd=>by simp[ah]at hd
theorem BlX.app {C S:List Str}{a b:List a8}(ha:BlX C S a) (hb:BlX C S b):BlX C S (a++b):=fun d hd=>by
 rw[cG,qg]at hd
 exact hd.elim (ha d) (hb d)
theorem BlX.one {C S:List Str}{d:a8}(h:PlX C S d) (hi:∀b∈d.inner,BlX C S b):BlX C S [d]:=fun e he=>by
 rw[ah,ah,qw,df]at he
 rcases qt.mp he with rfl|he
 ·exact h
 ·obtain⟨b,hb,hm⟩:=List.mem_flatMap.mp he
  exact hi b hb e hm
def opX (C:List Str):Op->Prop
 |.root=>True
 |.ifT x|.ifO x _|.whl x=>x∈C
 |.rep n=>0<=n/\n<=1000
theorem vB {C S:List Str}{f:Fr}(h0:f.op≠.root) (h1:opX C f.op) (h2:BlX C S f.ds) (h3:BlX C S f.op.extra):BlX C S [f.deed]:=by
 unfold Fr.deed
 cases q:f.op with
 |root=>exact absurd q h0
 |ifT x=>
  rw[q]at h1 h3
  refine .one ⟨h1,trivial⟩ fun b hb=>?_
  simp[a8.inner]at hb
  rcases hb with rfl|rfl
  ·exact h2
  ·exact .nil
 |ifO x t=>
  rw[q]at h1 h3
  refine .one ⟨h1,trivial⟩ fun b hb=>?_
  simp[a8.inner]at hb
  rcases hb with rfl|rfl
  ·exact h3
  ·exact h2
 |whl x=>
  rw[q]at h1
  refine .one ⟨h1,trivial⟩ fun b hb=>?_
  simp[a8.inner]at hb
  subst hb
  exact h2
 |rep n=>
  rw[q]at h1
  refine .one ⟨h1,trivial⟩ fun b hb=>?_
  simp[a8.inner]at hb
  subst hb
  exact h2
def SX (C S:List Str):List Fr->Prop
 |[]=>False
 |[f]=>f.op=.root/\BlX C S f.ds/\aw f.ds<=12
 |f::g::r=>f.op≠.root/\opX C f.op/\BlX C S f.ds/\BlX C S f.op.extra/\aw f.ds+(r.length+1)<=12/\aw f.op.extra+(r.length+1)<=12/\SX C S (g::r)
theorem SX.more {C S:List Str}{g:Fr}{r:List Fr}{ds:List a8}(h:SX C S (g::r)) (h1:BlX C S ds) (h2:aw ds+r.length<=12):SX C S ({ g with ds:=g.ds++ds }::r):=by
 have hd:aw (g.ds++ds)=max (aw g.ds) (aw ds):=fJ _ _
 cases r with
 |nil=>exact⟨h.1,h.2.1.app h1,by show aw (g.ds++ds)<=12;rw[hd];have:=h.2.2;simp at h2;omega⟩
 |cons g' r'=>
  obtain⟨a1,a2,a3,a4,a5,a6,a7⟩:=h
  simp only[qz]at h2
  exact⟨a1,a2,a3.app h1,a4,by show aw (g.ds++ds)+_<=12;rw[hd];omega,a6,a7⟩
theorem SX.close {C S:List Str}{f g:Fr}{r:List Fr}(h:SX C S (f::g::r)):SX C S (jZ (f::g::r)):=by
 obtain⟨a1,a2,a3,a4,a5,a6,a7⟩:=h
 refine a7.more (ds:=[f.deed]) (vB a1 a2 a3 a4) ?_
 have:=vx f
 omega
theorem oK {C S:List Str}:∀(st:List Fr) (dt:List a8),SX C S st->BlX C S dt->aw dt+(st.length-1)<=12->BlX C S (wh st dt)/\aw (wh st dt)<=12/\(ah (wh st dt)).length<=cnt st+(ah dt).length
 |[],_,h,_,_=>h.elim
 |[f],dt,h,hd,hp=>by
  refine⟨h.2.1.app hd,?_,?_⟩
  ·show aw (f.ds++dt)<=12
   rw[fJ]
   have:=h.2.2
   simp at hp
   omega
  ·show(ah (f.ds++dt)).length<=_
   rw[cG,qa]
   simp only[cnt]
   omega
 |f::g::r,dt,h,hd,hp=>by
  obtain⟨a1,a2,a3,a4,a5,a6,a7⟩:=h
  have hp':aw dt+(r.length+1)<=12:=by simpa using hp
  have e1:aw (f.ds++dt)=max (aw f.ds) (aw dt):=fJ _ _
  have d1:=vx ({ f with ds:=f.ds++dt }:Fr)
  have d2:=vA (f:={ f with ds:=f.ds++dt }) a1
  have l1:(ah (f.ds++dt)).length=(ah f.ds).length+(ah dt).length:=by rw[cG,qa]
  obtain⟨b1,b2,b3⟩:=oK (g::r) [({ f with ds:=f.ds++dt }:Fr).deed] a7 (vB (f:={ f with ds:=f.ds++dt }) a1 a2 (a3.app hd) a4) (by dsimp only at d1;rw[e1]at d1;show _+r.length<=12;omega)
  refine⟨b1,b2,qx b3 ?_⟩
  dsimp only at d2
  have ec:cnt (f::g::r)=(ah f.ds).length+(ah f.op.extra).length+f.op.one+cnt (g::r):=rfl
  omega
theorem zE {C S:List Str}{x:Str}{a b:Val}{sg:Str}(hx:x∈C) (ha:fR C a) (hs:sg∈sgL) (hb:fR C b):PlX C S (.set x a sg b):=⟨⟨hx,ha,hb⟩,hs⟩
end Tr
namespace Tr
open PySem PySem.Spec PyProof.Rows L2
set_option linter.all false
def Fz.oJ (x:Fz):V:=match x.f.sec with
 |some _=>.ref x.e
 |none=>.non
structure GJ (Hb H0 H:Hp) (s0 s1 s2:Addr) (z:List Fz):Prop where
 zc:ZC Hb H0 H [s0,s1,s2] z
 c0:H s0=some (.lst ((z.map fun x=>V.ref x.c).reverse))
 c1:H s1=some (.lst ((z.map Fz.oJ).reverse))
 c2:H s2=some (.lst ((z.map fun x=>V.bl x.f.shut).reverse))
section
variable {Hb H0 H0' H H' H1:Hp}{s0 s1 s2:Addr}{z:List Fz}
theorem GJ.ss (G:GJ Hb H0 H s0 s1 s2 z):s0≠s1/\s0≠s2/\s1≠s2:=by
 have nd:=(List.nodup_append.mp G.zc.nd).1
 simp only[List.nodup_cons,qt,qQ,or_false,not_or]at nd
 exact⟨nd.1.1,nd.1.2,nd.2.1⟩
theorem jM {vs ws us:List V}(h0:H s0=some (.lst vs)) (h1:H s1=some (.lst ws)) (h2:H s2=some (.lst us)):∀m∈[s0,s1,s2],∃vs,H m=some (.lst vs):=fun m hm=>by
 simp only[qt,qQ,or_false]at hm
 rcases hm with rfl|rfl|rfl
 ·exact⟨_,h0⟩
 ·exact⟨_,h1⟩
 ·exact⟨_,h2⟩
end
end Tr
namespace L2
open PySem PySem.Spec PyProof.Rows PySem.W
section
variable {X:Cx}{k:Nat}{f C0:Addr}{fd:FuncData}{ps:List Str}{sp:Sp}{dvs:List V}{ds:List Value}{fx cx y m n:Str}{iy im inn:Nat}{p pos apos py cp pm pn pl pa hpos tpos:Pos}{e:Expr}{es:List Expr}{t:TA}
end
end L2
namespace Tr
open PySem PySem.Spec PyProof.Rows L2
set_option linter.all false
end Tr
namespace Tr
open PySem PySem.Spec PyProof.Rows L2
set_option linter.all false
end Tr
namespace L2
open PySem PySem.Spec PyProof.Rows
theorem aa.seqT {K:PySem.W.Frag}{H H':Hp}{a:Addr}{xs:List V}(e:aa H H') (h:SqT K H a xs):SqT K H' a xs:=by
 rcases h with(h|⟨o,h⟩)|h
 ·exact .inl (.inl (e _ _ h))
 ·exact .inl (.inr ⟨o,e _ _ h⟩)
 ·exact .inr h
theorem uw:∀{ys:List Int}{its:List Value},au (ys.map V.int) its->IntsAre its ys
 |[],[],_=>.nil
 |y::ys,_::_,.cons h r=>by
  obtain⟨t,rfl⟩:=h
  exact .cons y t (uw r)
section
variable {X:Cx}
end
section
variable {P:Program}{w:World}{A:Around}{E:Qq}{s:Shared}
end
section
variable {X:Cx}
end
section
variable {P:Program}{w:World}{A:Around}{E:Qq}{s:Shared}
end
section
variable {X:Cx}
end
set_option linter.all false
theorem kj {z:Str}:∀{zs:List Str}{us:List Value}{i:Nat},au (zs.map V.str) us->zs[i]?=some z->∃t,us[i]?=some (.str z t)
 |[],_,_,_,h=>by simp at h
 |y::r,_,0,.cons h _,e=>by
  obtain⟨t,rfl⟩:=h
  cases(by simpa using e:y=z)
  exact⟨t,rfl⟩
 |y::r,_,i+1,.cons _ h,e=>kj (i:=i) h (by simpa using e)
theorem oO {zs:List Str}{us:List Value}{i:Nat}{u:Value}(h:au (zs.map V.str) us) (e:us[i]?=some u):∃z t,zs[i]?=some z/\u=.str z t:=by
 have l:=h.length
 rw[q5]at l
 have lt:i<zs.length:=by
  have:=(qe.mp e).1
  omega
 obtain⟨t,ht⟩:=kj h (qb lt)
 rw[ht]at e
 cases e
 exact⟨_,t,qb lt,rfl⟩
def i6 (x:Str):Value->Bool
 |.str y _=>y.cps.toList == x.cps.toList
 |_=>false
theorem xM {x:Str}{t:Tok}:i6 x (.str x t)=true:=by simp[i6]
theorem xO {x y:Str}{t:Tok}(h:y≠x):i6 x (.str y t)=false:=by
 simp only[i6,beq_eq_false_iff_ne]
 intro e
 apply h
 cases x with|mk x=>cases y with|mk y=>exact congrArg _ (Array.ext' e)
section
variable {X:Cx}
def z3:V->List V->Hp->VK->Prop:=fun v xs H Q=>∃(l:Addr) (zs:List Str) (x:Str),v=.ref l/\xs=[.str x]/\H l=some (.lst (zs.map V.str))/\x∈zs/\zs.length<=1000/\Q (.int (zs.idxOf x:Nat)) H
theorem mZ:MtM X "list.index" z3:=by
 intro pins s σ H x vs v us Q I rx rv h
 obtain⟨l,zs,y,rfl,rfl,hH,hm,hz,q⟩:=h
 cases rx
 obtain⟨u,rfl,t,rfl⟩:=rv.one
 obtain⟨z,its,n,r,hl,e⟩:=I.lstM hH
 have il:its.length=zs.length:=by have:=r.length;rw[q5]at this;exact this.symm
 have lt:zs.idxOf y<zs.length:=List.idxOf_lt_length_iff.mpr hm
 have at1:zs[zs.idxOf y]?=some y:=by rw[qb lt,List.getElem_idxOf lt]
 refine call_meets PySem.F.slot_list_index ⟨_,e,rfl⟩ PySem.F.entry_list_index (PySem.F.args_list_index_2 _ _)
  (MeetsSeq.list_index l its.toArray n (.str y t) (i6 y) (fun w hw=>?_) (zs.idxOf y) (by rw[qA];omega) Qo ?_ (fun m hm' hlt=>?_)) ⟨e,?_⟩
 ·obtain⟨i,hi⟩:=List.mem_iff_getElem?.mp (by simpa using hw)
  obtain⟨z,t',_,rfl⟩:=oO r hi
  exact PySem.SeqRoads2.EqGives.str z y t' t
 ·obtain⟨t',ht⟩:=kj r at1
  have:its.toArray[zs.idxOf y]'(by rw[qA];omega)=.str y t':=by
   rw[List.getElem_toArray]
   exact qI ((qb Qo).symm.trans ht)
  rw[this]
  exact xM
 ·have lt':m<its.length:=by omega
  obtain⟨z,t',hz',ez⟩:=oO r (qb lt')
  have:its.toArray[m]=.str z t':=by rw[List.getElem_toArray];exact ez
  rw[this]
  refine xO fun ne=>?_
  subst ne
  have:=List.not_of_lt_findIdx hlt
  rw[qb Qo]at hz'
  rw[qI hz']at this
  simp at this
 ·exact⟨.int (zs.idxOf y),H,I.tok _,⟨_,rfl⟩,q⟩
end
end L2
namespace Tr
open PySem PySem.Spec PyProof.Rows L2
set_option linter.all false
structure LnD where
 lg:V
 on:List Int
inductive Sd
 |at(i:Int)
 |is (n:Int)
inductive PtD
 |pas (is os rt:List Int)
 |wrk (is:List Int) (o:Int) (sg:Str) (l r:Sd)
inductive R2s {α β:Type}(R:α->β->Prop):List α->List β->Prop
 |nil:R2s R [] []
 |cons {x:α}{y:β}{xs:List α}{ys:List β}:R x y->R2s R xs ys->R2s R (x::xs) (y::ys)
def aQ:LnD:=⟨.int 1,[]⟩
def dg (zs:List Str):Val->Sd
 |.num n=>.is n
 |.nm x=>.at (zs.idxOf x:Nat)
def bw (n:Nat) (k:Nat):List Int:=(List.range k).map fun i=>((n+2 * i:Nat):Int)
theorem R2s.len {α β:Type}{R:α->β->Prop}:∀{xs:List α}{ys:List β},R2s R xs ys->xs.length=ys.length
 |_,_,.nil=>rfl
 |_,_,.cons _ r=>congrArg (·+1) r.len
theorem R2s.app {α β:Type}{R:α->β->Prop}{us:List α}{ws:List β}(k:R2s R us ws):∀{xs:List α}{ys:List β},R2s R xs ys->R2s R (xs++us) (ys++ws)
 |_,_,.nil=>k
 |_,_,.cons h r=>.cons h (R2s.app k r)
theorem R2s.imp {α β:Type}{R S:α->β->Prop}(k:∀x y,R x y->S x y):∀{xs:List α}{ys:List β},R2s R xs ys->R2s S xs ys
 |_,_,.nil=>.nil
 |_,_,.cons h r=>.cons (k _ _ h) (R2s.imp k r)
theorem R2s.at {α β:Type}{R:α->β->Prop}:∀{xs:List α}{ys:List β},R2s R xs ys->∀{i:Nat}{x:α},xs[i]?=some x->∃y,ys[i]?=some y/\R x y
 |_,_,.nil,i,x,h=>by simp at h
 |_,_,.cons k r,0,x,h=>by
  cases(by simpa using h:_=x)
  exact⟨_,rfl,k⟩
 |_,_,.cons k r,i+1,x,h=>by
  obtain⟨y,hy,hr⟩:=r.at (i:=i) (by simpa using h)
  exact⟨y,by simpa using hy,hr⟩
end Tr
namespace Tr
open PySem PySem.Spec PyProof.Rows L2
set_option linter.all false
def PtD.ins:PtD->List Int
 |.pas is _ _=>is
 |.wrk is _ _ _ _=>is
def wn (ts:List Int):Sd->Prop
 |.at i=>∃j:Nat,i=j/\j<ts.length
 |.is n=>OnW n
theorem uM (n k:Nat):(bw n k).length=k:=by
 unfold bw
 rw[q5,List.length_range]
end Tr
namespace Tr
open PySem PySem.Spec PyProof.Rows L2
set_option linter.all false
end Tr
namespace Tr
open PySem PySem.Spec PyProof.Rows L2
set_option linter.all false
def nu:List Nat:=[98,99,100,102,103,106,107,109,110,113,118,120,121,122]
def chN (i:Int):Str:=⟨#[nu.getD (i % 14).toNat 0]⟩
def nmN (c:Int):List Str:=
 if c / 126 % 3=1 then(List.range 6).map fun k:Nat=>Txt.mul (chN (c / 9+((0:Nat):Int))) ((k:Int)+1)
 else(List.range 6).map fun k:Nat=>Txt.mul ("q":Str) (c % 3)++chN (c / 9+k)++Txt.slice ("vz":Str) none (some (c / 3 % 3))
def pkN (c f p m:Int):Int:=c * f % p % m
def vaN (n:Int) (zs:List Str):Val:=if n % 9<6 then .nm (zs.getD (n % 9).toNat (">":Str))else if n % 9=6 then .num (n / 9 % 4)else .num (n * 12650793754653265942685193121 % 1000000000000000000000000000000)
def sgN (i:Int):Str:=⟨#[("+-*/<=&|^":Str).cps.toList.getD i.toNat 43]⟩
def gj (c:Int) (x:Str) (zs:List Str):a8:=.set x (vaN (c * 40692 % 40009) zs) (sgN (pkN c 16807 50021 9)) (vaN (c * 30323 % 60013) zs)
def eu (c:Int) (x q:Str) (zs:List Str) (hid:Bool):a8:=
 if pkN c 48271 10007 12=3 then .give x
 else if pkN c 48271 10007 12=4/\hid=false then .put q x
 else if pkN c 48271 10007 12=5/\hid=false then .get q x
 else gj c x zs
def kdN:Op->Str
 |.root=>""
 |.ifT _=>"if"
 |.ifO _ _=>"else"
 |.whl _=>"while"
 |.rep _=>"repeat"
def eW (st:List Fr):Bool:=st.any fun f=>decide (kdN f.op="if") || (decide (kdN f.op="else") || decide (kdN f.op="while"))
def opN (c:Int) (x:Str):Op:=if pkN c 48271 10007 12=6 then .ifT x else if pkN c 48271 10007 12=7 then .whl x else .rep (pkN c 16807 70001 100)
def Op.els (f:Fr):Fr:=match f.op with
 |.ifT y=>⟨.ifO y f.ds,[],f.shut,0⟩
 |_=>f
def xN (c:Int) (zs:List Str):Str:=zs.getD (pkN c 69621 20011 6).toNat (">":Str)
def qN (c:Int) (ss:List Str):Str:=ss.getD (pkN c 39373 30011 2).toNat (">":Str)
def cJ (zs ss:List Str) (st:List Fr) (c:Int):List Fr:=match st with
 |[]=>[]
 |g::r=>
  if 5<pkN c 48271 10007 12/\pkN c 48271 10007 12<9/\r.length<5 then⟨opN c (xN c zs),[],false,0⟩::g::r
  else if 8<pkN c 48271 10007 12/\pkN c 48271 10007 12<11/\0<r.length then jZ (g::r)
  else if pkN c 48271 10007 12=11/\kdN g.op="if" then Op.els g::r
  else g.add (eu c (xN c zs) (qN c ss) zs (eW (g::r)))::r
def hJ (zs ss:List Str) (cells:List Int):List a8:=wh (cells.foldl (cJ zs ss) cR) []
theorem eF {c f p m:Int}(h:0<m):0<=pkN c f p m:=Int.emod_nonneg _ Qo
theorem eI {c f p m:Int}(h:0<m):pkN c f p m<m:=Int.emod_lt_of_pos _ h
theorem gX {zs:List Str}{i:Nat}(h:i<zs.length):zs.getD i (">":Str)∈zs:=by
 rw[qi,qb h]
 exact List.getElem_mem h
theorem wB {c:Int}{zs:List Str}(h:zs.length=6):xN c zs∈zs:=gX (by
 have h0:=eF (c:=c) (f:=69621) (p:=20011) (m:=6) Qk
 have h1:=eI (c:=c) (f:=69621) (p:=20011) (m:=6) Qk
 omega)
theorem zn {c:Int}{ss:List Str}(h:ss.length=2):qN c ss∈ss:=gX (by
 have h0:=eF (c:=c) (f:=39373) (p:=30011) (m:=2) Qk
 have h1:=eI (c:=c) (f:=39373) (p:=30011) (m:=2) Qk
 omega)
theorem oQ {n:Int}{zs:List Str}(h:zs.length=6):fR zs (vaN n zs):=by
 have m0:0<=n % 9:=Int.emod_nonneg _ Qk
 unfold vaN
 split
 ·exact gX Qo
 split
 ·exact⟨Qo,Qo⟩
 ·exact⟨Int.emod_nonneg _ Qk,Int.emod_lt_of_pos _ Qk⟩
theorem y9 {i:Int}(h0:0<=i) (h1:i<9):sgN i∈sgL:=by
 have:i=0\/i=1\/i=2\/i=3\/i=4\/i=5\/i=6\/i=7\/i=8:=Qo
 rcases this with rfl|rfl|rfl|rfl|rfl|rfl|rfl|rfl|rfl<;>decide +kernel
theorem y7 {zs ss:List Str}{c:Int}{x q:Str}{hid:Bool}(h:zs.length=6) (hx:x∈zs) (hq:q∈ss):BlX zs ss [eu c x q zs hid]/\aw [eu c x q zs hid]=0/\(ah [eu c x q zs hid]).length=1:=by
 unfold eu
 split
 ·exact⟨.one ⟨hx,trivial⟩ (fun b hb=>by simp[a8.inner]at hb),rfl,rfl⟩
 split
 ·exact⟨.one ⟨⟨hq,hx⟩,trivial⟩ (fun b hb=>by simp[a8.inner]at hb),rfl,rfl⟩
 split
 ·exact⟨.one ⟨⟨hq,hx⟩,trivial⟩ (fun b hb=>by simp[a8.inner]at hb),rfl,rfl⟩
 ·exact⟨.one (zE hx (oQ h) (y9 (eF Qk) (eI Qk)) (oQ h)) (fun b hb=>by simp[a8.inner,gj]at hb),rfl,rfl⟩
theorem tD {zs:List Str}{c:Int}{x:Str}(h:x∈zs):opX zs (opN c x)/\opN c x≠.root/\(opN c x).extra=[]/\(opN c x).one=1:=by
 unfold opN
 split
 ·exact⟨h,by simp,rfl,rfl⟩
 split
 ·exact⟨h,by simp,rfl,rfl⟩
 ·have h0:=eF (c:=c) (f:=16807) (p:=70001) (m:=100) Qk
  have h1:=eI (c:=c) (f:=16807) (p:=70001) (m:=100) Qk
  exact⟨⟨h0,Qo⟩,by simp,rfl,rfl⟩
theorem uh {o:Op}(h:kdN o="if"):∃y,o=.ifT y:=by
 cases o with
 |ifT y=>exact⟨y,rfl⟩
 |root=>exact absurd h (show ¬ (("":Str)="if")by decide +kernel)
 |ifO y t=>exact absurd h (show ¬ (("else":Str)="if")by decide +kernel)
 |whl y=>exact absurd h (show ¬ (("while":Str)="if")by decide +kernel)
 |rep n=>exact absurd h (show ¬ (("repeat":Str)="if")by decide +kernel)
theorem xP {zs ss:List Str}(h:zs.length=6) (h2:ss.length=2) {st:List Fr}{c:Int}(hs:SX zs ss st) (hl:st.length<=6):SX zs ss (cJ zs ss st c)/\(cJ zs ss st c).length<=6/\cnt (cJ zs ss st c)<=cnt st+1:=by
 match st,hs,hl with
 |g::r,hs,hl=>
  have hx:=wB (c:=c) h
  have hq:=zn (c:=c) h2
  unfold cJ
  dsimp only
  split
  ·rename_i co
   obtain⟨f1,f2,f3,f4⟩:=tD (c:=c) hx
   refine⟨⟨f2,f1,.nil,by rw[f3];exact .nil,by simp[aw];omega,by rw[f3];simp[aw];omega,hs⟩,by simp;omega,?_⟩
   rw[cnt,f3,f4]
   have e0:(ah ([]:List a8)).length=0:=rfl
   dsimp only
   rw[e0]
   omega
  split
  ·rename_i c6
   cases r with
   |nil=>exact absurd c6.2.2 (by simp)
   |cons g' r'=>exact⟨hs.close,by simp[jZ]at hl ⊢;omega,qx (D7 hs.1) Qo⟩
  split
  ·rename_i c11
   obtain⟨y,q1⟩:=uh c11.2
   have e:Op.els g=⟨.ifO y g.ds,[],g.shut,0⟩:=by unfold Op.els;rw[q1]
   rw[e]
   cases r with
   |nil=>
    have:=hs.1
    rw[q1]at this
    cases this
   |cons g' r'=>
    obtain⟨a1,a2,a3,a4,a5,a6,a7⟩:=hs
    rw[q1]at a2
    refine⟨⟨by simp,a2,.nil,a3,by simp[aw];simp at hl;omega,a5,a7⟩,hl,?_⟩
    simp[cnt,q1,Op.extra,Op.one,ah]
  ·obtain⟨s1,s2,s3⟩:=y7 (ss:=ss) (c:=c) (hid:=eW (g::r)) h hx hq
   refine⟨hs.more (ds:=[eu c (xN c zs) (qN c ss) zs (eW (g::r))]) s1 (by rw[s2];simp at hl;omega),hl,?_⟩
   rw[vI,s3]
   exact qd _
theorem kB {zs ss:List Str}(h:zs.length=6) (h2:ss.length=2):∀(cells:List Int) (st:List Fr),SX zs ss st->st.length<=6->SX zs ss (cells.foldl (cJ zs ss) st)/\(cells.foldl (cJ zs ss) st).length<=6/\cnt (cells.foldl (cJ zs ss) st)<=cnt st+cells.length
 |[],st,hs,hl=>⟨hs,hl,qd _⟩
 |c::cells,st,hs,hl=>by
  obtain⟨b1,b2,b3⟩:=xP (c:=c) h h2 hs hl
  obtain⟨d1,d2,d3⟩:=kB h h2 cells _ b1 b2
  refine⟨d1,d2,?_⟩
  rw[List.foldl_cons,qz]
  omega
theorem oj {zs ss:List Str}(h:zs.length=6) (h2:ss.length=2) (cells:List Int):BlX zs ss (hJ zs ss cells)/\aw (hJ zs ss cells)<=12/\(ah (hJ zs ss cells)).length<=cells.length:=by
 obtain⟨a1,a2,a3⟩:=kB h h2 cells cR ⟨rfl,.nil,by simp[aw]⟩ (by simp[cR])
 obtain⟨b1,b2,b3⟩:=oK _ [] a1 .nil (by simp[aw];omega)
 refine⟨b1,b2,?_⟩
 have e:(ah ([]:List a8)).length=0:=rfl
 have e1:cnt cR=0:=by simp[cR,cnt,ah,Op.extra,Op.one]
 unfold hJ
 omega
end Tr
namespace Tr
open PySem PySem.Spec PyProof.Rows L2
set_option linter.all false
inductive PtG
 |pas (is os rt:List Int)
 |wrk (is:List Int) (o:Int) (sg:Str) (l r:Sd)
 |cho (is:List Int) (w:Int) (ons ofs:List Int) (t:Int)
 |mrg (t:Int) (ons ofs outs:List Int)
structure af where
 ls:List LnD
 ps:List PtG
 cs:List Str
 fc:aD
def wid (n k:Nat):List Int:=(List.range k).map fun i=>((n+i:Nat):Int)
def af.n (N:af):Nat:=N.ls.length
def af.wires (N:af) (k:Nat):af:={ N with ls:=N.ls++List.replicate k aQ }
def af.line (N:af) (d:LnD):af:={ N with ls:=N.ls++[d] }
def af.part (N:af) (p:PtG):af:={ N with ps:=N.ps++[p] }
def af.lead (N:af) (zs:List Str) (ws:List Int):af:={ N with cs:=zs.foldl bK N.cs,fc:=(zs.zip ws).foldl (fun f z=>aW f z.1 z.2) N.fc }
def af.fork (N:af) (x:Str):af:=((N.wires 2).part (.pas [N.fc x] (wid N.n 2) [0,0])).lead [x] [((N.n+1:Nat):Int)]
def af.set (N:af) (x:Str) (va:Val) (sg:Str) (vb:Val) (rs:List Str):af:=
 let M:=rs.foldl af.fork N
 ((M.wires 1).part (.wrk (N.fc x::bw N.n rs.length) M.n sg (dg (x::rs) va) (dg (x::rs) vb))).lead [x] [(M.n:Int)]
def af.hand (N:af) (card x:Str) (e:Int):af:=
 let M:=N.fork x
 ((M.wires 1).part (.pas [N.fc card,(N.n:Int)] [(M.n:Int),e] [0,1])).lead [card] [(M.n:Int)]
def af.get (N:af) (card x:Str) (e:Int):af:=((N.wires 2).part (.pas [N.fc card,N.fc x,e] (wid N.n 2) [0,2])).lead [card,x] (wid N.n 2)
def af.ifA (N:af) (zs:List Str) (x:Str):af:=((((N.wires zs.length).wires zs.length).line aQ).part (.cho (zs.map N.fc) (zs.idxOf x:Nat) (wid N.n zs.length) (wid (N.n+zs.length) zs.length) ((N.n+zs.length+zs.length:Nat):Int))).lead zs (wid N.n zs.length)
def af.ifZ (N:af) (zs:List Str) (told:Nat) (ons:List Int):af:=((N.wires zs.length).part (.mrg (told:Int) ons (zs.map N.fc) (wid N.n zs.length))).lead zs (wid N.n zs.length)
def bP:LnD:=⟨.int 1,[0]⟩
def af.loA (N:af) (zs:List Str) (x:Str) (beh:List Int):af:=((((N.line bP).wires zs.length).wires zs.length).part (.cho (wid (N.n+1) zs.length) (zs.idxOf x:Nat) (wid (N.n+1+zs.length) zs.length) beh (N.n:Int))).lead zs (wid (N.n+1+zs.length) zs.length)
def af.loZ (N:af) (zs:List Str) (n:Nat) (com beh:List Int):af:=(N.part (.mrg (n:Int) (zs.map N.fc) com (wid (n+1) zs.length))).lead zs beh
def ctN (n:Nat):Str:=(toString (n:Int):String)
def ctD (n:Nat):a8:=.set (ctN n) (.nm (ctN n)) "-" (.num 1)
def af.reA (N:af) (k:Int):af:=(((N.line bP).wires 1).part (.wrk [(N.n:Int)] ((N.n+1:Nat):Int) "+" (.is k) (.is 0))).lead [ctN N.n] [((N.n+1:Nat):Int)]
structure fh (ds:List a8) (zs:List Str):Prop where
 nd:zs.Nodup
 mem:∀k,k∈zs↔k∈cards ds
 so:sortedS zs=true
 few:zs.length<=20
structure fV (x:Str) (va vb:Val) (rs:List Str):Prop where
 nd:rs.Nodup
 mem:∀y,y∈rs↔(y∈va.names\/y∈vb.names)/\y≠x
 so:sortedS rs=true
inductive Lay (fe:aD):af->List a8->af->Prop
 |nil {N:af}:Lay fe N [] N
 |set {N N':af}{x:Str}{va:Val}{sg:Str}{vb:Val}{rs:List Str}{r:List a8}:fV x va vb rs->Lay fe (N.set x va sg vb rs) r N'->Lay fe N (.set x va sg vb::r) N'
 |put {N N':af}{q x:Str}{r:List a8}:Lay fe (N.hand (q++(">":Str)) x (fe q)) r N'->Lay fe N (.put q x::r) N'
 |give {N N':af}{x:Str}{r:List a8}:Lay fe (N.hand (">":Str) x (fe (">":Str))) r N'->Lay fe N (.give x::r) N'
 |get {N N':af}{q x:Str}{r:List a8}:Lay fe (N.get (q++("<":Str)) x (fe q)) r N'->Lay fe N (.get q x::r) N'
 |cond {N N1 N2 N':af}{x:Str}{t o:List a8}{zs:List Str}{r:List a8}:fh [.cond x t o] zs->Lay fe (N.ifA zs x) t N1->Lay fe (N1.lead zs (wid (N.n+zs.length) zs.length)) o N2->Lay fe (N2.ifZ zs (N.n+zs.length+zs.length) (zs.map N1.fc)) r N'->Lay fe N (.cond x t o::r) N'
 |whl {N N1 N':af}{x:Str}{b:List a8}{zs:List Str}{r:List a8}:fh [.whl x b] zs->Lay fe ((N.wires zs.length).loA zs x (wid N.n zs.length)) b N1->Lay fe (N1.loZ zs (N.n+zs.length) (zs.map N.fc) (wid N.n zs.length)) r N'->Lay fe N (.whl x b::r) N'
 |rep0 {N N':af}{k:Int}{b:List a8}{r:List a8}:cards b=[]->Lay fe N r N'->Lay fe N (.rep k b::r) N'
 |rep {N N1 N':af}{k:Int}{b:List a8}{zs:List Str}{r:List a8}:fh b zs->zs≠[]->Lay fe (((N.reA k).wires zs.length).loA (zs++[ctN N.n]) (ctN N.n) (wid (N.n+2) zs.length++[(N.n:Int)])) (b++[ctD N.n]) N1->
  Lay fe (N1.loZ (zs++[ctN N.n]) (N.n+2+zs.length) ((zs++[ctN N.n]).map (N.reA k).fc) (wid (N.n+2) zs.length++[(N.n:Int)])) r N'->Lay fe N (.rep k b::r) N'
def wtD:a8->Nat
 |.cond _ _ _|.whl _ _|.rep _ _=>200
 |_=>20
def wts (ds:List a8):Nat:=((ah ds).map wtD).sum
theorem iX (a b:List a8):wts (a++b)=wts a+wts b:=by
 unfold wts
 rw[cG,qO,List.sum_append]
theorem wD (d:a8) (r:List a8):wts (d::r)=wts [d]+wts r:=iX [d] r
theorem wC (d:a8):wts [d]=wtD d+(d.inner.map wts).sum:=by
 unfold wts
 rw[ah,ah,qw,df,qR,List.sum_cons,List.map_flatMap]
 congr 1
 have:∀l:List (List a8),(l.flatMap fun a=>(ah a).map wtD).sum=(l.map fun ds=>((ah ds).map wtD).sum).sum:=by
  intro l
  induction l with
  |nil=>rfl
  |cons a r ih=>rw[qE,List.sum_append,ih,qR,List.sum_cons]
 exact this _
theorem oI (ds:List a8):wts ds<=200 * (ah ds).length:=by
 unfold wts
 generalize ah ds=l
 induction l with
 |nil=>exact qd _
 |cons d r ih=>
  rw[qR,List.sum_cons,qz]
  have:wtD d<=200:=by cases d<;>simp[wtD]
  omega
structure Gr (N N':af) (m:Nat):Prop where
 l1:N.ls.length<=N'.ls.length
 l2:N'.ls.length<=N.ls.length+m
 p2:N'.ps.length<=N.ps.length+m
 c2:N'.cs.length<=N.cs.length+m
 sub:∀x∈N.cs,x∈N'.cs
 nd:N.cs.Nodup->N'.cs.Nodup
theorem Gr.trans {A B C:af}{m k:Nat}(h:Gr A B m) (h':Gr B C k):Gr A C (m+k):=⟨qx h.l1 h'.l1,by have:=h.l2;have:=h'.l2;omega,by have:=h.p2;have:=h'.p2;omega,by have:=h.c2;have:=h'.c2;omega,fun x hx=>h'.sub x (h.sub x hx),fun z=>h'.nd (h.nd z)⟩
theorem Gr.refl {N:af}:Gr N N 0:=⟨qd _,qd _,qd _,qd _,fun _ h=>h,fun h=>h⟩
theorem Gr.le {N N':af}{m k:Nat}(h:Gr N N' m) (l:m<=k):Gr N N' k:=⟨h.l1,by have:=h.l2;omega,by have:=h.p2;omega,by have:=h.c2;omega,h.sub,h.nd⟩
theorem DA (ks:List Str) (x:Str):(bK ks x).length<=ks.length+1:=by
 unfold bK
 split
 ·omega
 ·simp
theorem fg:∀(zs cs:List Str),(zs.foldl bK cs).length<=cs.length+zs.length/\(∀x,x∈zs.foldl bK cs↔x∈cs\/x∈zs)/\(cs.Nodup->(zs.foldl bK cs).Nodup)
 |[],cs=>⟨qd _,fun x=>by simp,fun h=>h⟩
 |z::zs,cs=>by
  obtain⟨a,b,c⟩:=fg zs (bK cs z)
  have:=DA cs z
  refine⟨by rw[List.foldl_cons,qz];omega,fun x=>?_,fun h=>c (tU h)⟩
  rw[List.foldl_cons,b,Bl,qt,or_assoc]
theorem aT {N:af}{k:Nat}:Gr N (N.wires k) k:=⟨by show _<=(N.ls++_).length;rw[qa];omega,by show(N.ls++List.replicate k aQ).length<=_;rw[qa,List.length_replicate];exact qd _,Nat.le_add_right _ _,Nat.le_add_right _ _,fun _ h=>h,fun h=>h⟩
theorem cw {N:af}{d:LnD}:Gr N (N.line d) 1:=⟨by show _<=(N.ls++_).length;rw[qa];omega,by show(N.ls++[d]).length<=_;rw[qa];exact qd _,Nat.le_add_right _ _,Nat.le_add_right _ _,fun _ h=>h,fun h=>h⟩
theorem bJ {N:af}{p:PtG}:Gr N (N.part p) 1:=⟨qd _,Nat.le_add_right _ _,by show(N.ps++[p]).length<=_;rw[qa];exact qd _,Nat.le_add_right _ _,fun _ h=>h,fun h=>h⟩
theorem cy {N:af}{zs:List Str}{ws:List Int}:Gr N (N.lead zs ws) zs.length:=by
 obtain⟨a,b,c⟩:=fg zs N.cs
 exact⟨qd _,Nat.le_add_right _ _,Nat.le_add_right _ _,a,fun x hx=>(b x).mpr (.inl hx),c⟩
theorem nO {N:af}{x:Str}:Gr N (N.fork x) 4:=(aT.trans bJ).trans cy
theorem jU:∀(rs:List Str) (N:af),Gr N (rs.foldl af.fork N) (4 * rs.length)
 |[],N=>.refl
 |r::rs,N=>(nO.trans (jU rs (N.fork r))).le (by rw[qz];omega)
theorem fV.few {x:Str}{va vb:Val}{rs:List Str}(h:fV x va vb rs):rs.length<=2:=by
 have:=cq h.nd (ds:=va.names++vb.names) fun y hy=>qg.mpr ((h.mem y).mp hy).1
 refine qx this ?_
 rw[qa]
 cases va<;>cases vb<;>simp[Val.names]
theorem Ca {N:af}{x:Str}{va:Val}{sg:Str}{vb:Val}{rs:List Str}(h:fV x va vb rs):Gr N (N.set x va sg vb rs) 11:=by
 have:=h.few
 unfold af.set
 exact(((((jU rs N).trans aT).trans bJ).trans cy)).le (by rw[List.length_singleton];omega)
theorem uB {N:af}{c x:Str}{e:Int}:Gr N (N.hand c x e) 7:=((nO.trans aT).trans bJ).trans cy
theorem Ce {N:af}{c x:Str}{e:Int}:Gr N (N.get c x e) 5:=(aT.trans bJ).trans cy
end Tr
namespace Tr
open PySem PySem.Spec PyProof.Rows L2
set_option linter.all false
theorem oG {x:Str}{n:Int}:∀{ak:List Str}{ms:List Int}{i:Nat},ak[i]?=some x->ms[i]?=some n->(ak.take (i+1)).zip ms=(ak.take i).zip ms++[(x,n)]
 |[],_,_,h,_=>by simp at h
 |_::_,[],_,_,h=>by simp at h
 |y::ak,m::ms,0,h,h'=>by
  simp at h h'
  simp[h,h']
 |y::ak,m::ms,i+1,h,h'=>by
  rw[List.take_succ_cons,List.take_succ_cons,List.zip_cons_cons,List.zip_cons_cons,oG (i:=i) (by simpa using h) (by simpa using h')]
  rfl
theorem Lay.app {fe:aD}{N N1 N2:af}{a b:List a8}(h:Lay fe N a N1) (k:Lay fe N1 b N2):Lay fe N (a++b) N2:=by
 induction h with
 |nil=>exact k
 |set r _ ih=>exact .set r (ih k)
 |put _ ih=>exact .put (ih k)
 |give _ ih=>exact .give (ih k)
 |get _ ih=>exact .get (ih k)
 |cond r t o _ _ _ ih=>exact .cond r t o (ih k)
 |whl r t _ _ ih=>exact .whl r t (ih k)
 |rep0 r _ ih=>exact .rep0 r (ih k)
 |rep r n t _ _ ih=>exact .rep r n t (ih k)
theorem aS (N:af) (k:Nat):(N.wires k).n=N.n+k:=by
 show(N.ls++List.replicate k aQ).length=_
 rw[qa,List.length_replicate]
 rfl
theorem cD (N:af) (d:LnD):(N.line d).n=N.n+1:=by
 show(N.ls++[d]).length=_
 rw[qa]
 rfl
theorem c9 (N:af) (p:PtG):(N.part p).n=N.n:=rfl
theorem fG (N:af) (zs:List Str) (ws:List Int):(N.lead zs ws).n=N.n:=rfl
theorem uX {ds:List a8}{d:a8}(h:d∈ds):(ah [d]).Sublist (ah ds):=by
 obtain⟨a,b,rfl⟩:=List.append_of_mem h
 rw[show a++d::b=a++([d]++b)from rfl,cG,cG]
 exact(List.sublist_append_left _ _).trans (List.sublist_append_right _ _)
theorem vv {ds:List a8}{d:a8}(h:d∈ds):aw [d]<=aw ds:=by
 obtain⟨a,b,rfl⟩:=List.append_of_mem h
 rw[show a++d::b=a++([d]++b)from rfl,fJ,fJ]
 omega
theorem uZ {d:a8}{b:List a8}(h:b∈d.inner):(ah b).Sublist (ah [d]):=by
 rw[ah,ah,qw,df]
 refine List.Sublist.cons _ ?_
 obtain⟨x,y,e⟩:=List.append_of_mem h
 rw[e,qU,qE]
 exact(List.sublist_append_left _ _).trans (List.sublist_append_right _ _)
theorem iN {d:a8}{b:List a8}(h:b∈d.inner):aw b<aw [d]:=by
 cases d<;>simp[a8.inner]at h
 ·rcases h with rfl|rfl<;>simp[aw,a8.depth]<;>omega
 ·subst h;simp[aw,a8.depth]
 ·subst h;simp[aw,a8.depth]
end Tr
namespace Tr
open PySem PySem.Spec PyProof.Rows L2
set_option linter.all false
def esN (ss:List (Str×Int)):List Str:=ss.map (·.1)++[(">":Str)]
def feN (ss:List (Str×Int)):aD:=fun e=>((esN ss).idxOf e:Nat)
def br (ss:List (Str×Int)) (zs:List Str) (f:aD):af:=⟨(ss.map fun s=>⟨.int s.2,[]⟩)++[⟨.non,[]⟩]++zs.map (fun z=>⟨.int 1,[f z]⟩),[],zs,fun z=>((ss.length+1+zs.idxOf z:Nat):Int)⟩
theorem iH {zs:List Str}{i:Nat}{z:Str}(nd:zs.Nodup) (h:zs[i]?=some z):zs.idxOf z=i:=by
 have lt:=(qe.mp h).1
 rw[<- (qe.mp h).2]
 exact nd.idxOf_getElem i lt
theorem oV {zs:List Str}{i:Nat}{z:Str}(nd:zs.Nodup) (h:zs[i]?=some z):z∉zs.take i:=fun hm=>by
 have lt:=(qe.mp h).1
 rw[<- List.take_append_drop i zs,List.drop_eq_getElem_cons lt,(qe.mp h).2]at nd
 exact(List.nodup_append.mp nd).2.2 z hm z qk rfl
theorem rS {f:aD}{x:Str}{v:Int}(h:f x=v):aW f x v=f:=by
 funext z
 unfold aW
 split
 ·subst_vars;rfl
 ·rfl
end Tr
namespace Tr
open PySem PySem.Spec PyProof.Rows L2
set_option linter.all false
abbrev OsN (os:List V) (z:List Fz):Prop:=R2s (fun v (x:Fz)=>∀y,x.f.op=.ifT y->v=.ref x.e) os z
structure GN (Hb H0 H:Hp) (s0 s1 s2:Addr) (z:List Fz) (os:List V):Prop where
 zc:ZC Hb H0 H [s0,s1,s2] z
 c0:H s0=some (.lst ((z.map fun x=>V.ref x.c).reverse))
 c1:H s1=some (.lst ((z.map fun x=>V.str (kdN x.f.op)).reverse))
 c2:H s2=some (.lst os.reverse)
 ro:OsN os z
section
variable {Hb H0 H0' H H' H1:Hp}{s0 s1 s2:Addr}{z:List Fz}{os:List V}
theorem GN.same (G:GN Hb H0 H s0 s1 s2 z os) (e:aa H H1):GN Hb H0 H1 s0 s1 s2 z os:=⟨G.zc.same e,e _ _ G.c0,e _ _ G.c1,e _ _ G.c2,G.ro⟩
theorem GN.ss (G:GN Hb H0 H s0 s1 s2 z os):s0≠s1/\s0≠s2/\s1≠s2:=by
 have nd:=(List.nodup_append.mp G.zc.nd).1
 simp only[List.nodup_cons,qt,qQ,or_false,not_or]at nd
 exact⟨nd.1.1,nd.1.2,nd.2.1⟩
theorem GN.ne (G:GN Hb H0 H s0 s1 s2 z os) {m:Addr}(h:m∈z.flatMap Fz.muts):m≠s0/\m≠s1/\m≠s2:=by
 have:=G.zc.off h
 simp only[qt,qQ,or_false,not_or]at this
 exact this
theorem GN.push {x:Fz}{r:List Fz}{vs xs:List V}{p:Addr}{d:a8}(G:GN Hb H0 H s0 s1 s2 (x::r) os) (hc:H x.c=some (.lst vs)) (hp:H p=some (.tup xs)) (hp0:H0 p=none) (hd:RD (upd H0 p (.tup xs)) (.ref p) d):
 GN Hb (upd H0 p (.tup xs)) (upd H x.c (.lst (vs++[.ref p]))) s0 s1 s2 ({ x with f:=x.f.add d }::r) os:=by
 have n:=G.ne (dP (x:=x) (r:=r))
 refine⟨G.zc.push hc hp hp0 hd,by rw[aj n.1.symm];exact G.c0,by rw[aj n.2.1.symm];exact G.c1,by rw[aj n.2.2.symm];exact G.c2,?_⟩
 match os,G.ro with
 |_::_,.cons h r=>exact .cons h r
theorem GN.elsed {x:Fz}{r:List Fz}{vs:List V}{n:Str}{v:V}{os:List V}(G:GN Hb H0 H s0 s1 s2 (x::r) (v::os)) (q:x.f.op=.ifT n) (hc:H x.c=some (.lst vs))
 (k:∀b u,b≠s0->b≠s1->H b=some u->H' b=some u) (k0:H' s0=some (.lst ((r.map fun x=>V.ref x.c).reverse++[.ref x.e]))) (k1:H' s1=some (.lst ((r.map fun x=>V.str (kdN x.f.op)).reverse++[.str "else"]))):
 GN Hb (upd H0 x.c (.lst vs)) H' s0 s1 s2 (⟨⟨.ifO n x.f.ds,[],x.f.shut,0⟩,x.e,x.p,x.c⟩::r) (v::os):=by
 have sn:=G.ss
 have h2:=k _ _ sn.2.1.symm sn.2.2.symm G.c2
 refine⟨G.zc.elsed (t:=0) q hc (fun b u hb h=>?_) (jM k0 k1 h2),?_,?_,h2,?_⟩
 ·simp only[qt,qQ,or_false,not_or]at hb
  exact k b u hb.1 hb.2.1 h
 ·rw[k0];simp
 ·rw[k1];simp[kdN]
 ·match G.ro with
  |.cons h r=>exact .cons (fun y e=>by cases e) r
theorem GN.closed {x g:Fz}{r:List Fz}{v:V}{os:List V}(G:GN Hb H0 H s0 s1 s2 (x::g::r) (v::os)) (k:∀b u,b≠s0->b≠s1->b≠s2->H b=some u->H' b=some u) (k0:H' s0=some (.lst (((g::r).map fun x=>V.ref x.c).reverse))) (k1:H' s1=some (.lst (((g::r).map fun x=>V.str (kdN x.f.op)).reverse))) (k2:H' s2=some (.lst os.reverse)):
 ∃H0',GN Hb H0' H' s0 s1 s2 ({ g with f:=g.f.add x.f.deed }::r) os:=by
 obtain⟨H0',Z⟩:=G.zc.closed (H':=H') (fun b u hb h=>by
  simp only[qt,qQ,or_false,not_or]at hb
  exact k b u hb.1 hb.2.1 hb.2.2 h) (jM k0 k1 k2)
 refine⟨H0',Z,k0,k1,k2,?_⟩
 match G.ro with
 |.cons _ (.cons h r)=>exact .cons h r
theorem GN.opened {x:Fz}{r:List Fz}{vs:List V}{op:Op}{c p e:Addr}{os:List V}(G:GN Hb H0 H s0 s1 s2 (x::r) os) (hx:H x.c=some (.lst vs)) (fc:H0 c=none/\c∉[s0,s1,s2]++(x::r).flatMap Fz.muts) (fe:H0 e=none/\e∉[s0,s1,s2]++(x::r).flatMap Fz.muts) (ec:e≠c) (he:H e=some (.lst []))
 (hc:H c=some (.lst [])) (hp:H p=some (.tup (⟨⟨op,[],false,0⟩,c,p,e⟩:Fz).tupV)) (noR:op≠.root) (noO:∀n t,op≠.ifO n t):
 GN Hb H0 (upd (upd (upd (upd H x.c (.lst (vs++[.ref p]))) s0 (.lst ((((x::r).map fun x=>V.ref x.c).reverse)++[.ref c]))) s2 (.lst (os.reverse++[.ref e]))) s1 (.lst ((((x::r).map fun x=>V.str (kdN x.f.op)).reverse)++[.str (kdN op)]))) s0 s1 s2 (⟨⟨op,[],false,0⟩,c,p,e⟩::x::r) (.ref e::os):=by
 obtain⟨n01,n02,n12⟩:=G.ss
 obtain⟨x0,x1,x2⟩:=G.ne (dP (x:=x) (r:=r))
 have pt:∀{q:Addr}{xs:List V},H q=some (.tup xs)->q≠x.c/\q≠s0/\q≠s1/\q≠s2:=fun h=>⟨dz h hx,dz h G.c0,dz h G.c1,dz h G.c2⟩
 have nin:∀{d:Addr},d∉[s0,s1,s2]++(x::r).flatMap Fz.muts->d≠x.c/\d≠s0/\d≠s1/\d≠s2:=fun h=>by
  simp only[qg,qt,qQ,or_false,not_or]at h
  exact⟨fun z=>h.2 (z▸dP),h.1.1,h.1.2.1,h.1.2.2⟩
 generalize hH':upd (upd (upd (upd H x.c (.lst (vs++[.ref p]))) s0 (.lst ((((x::r).map fun x=>V.ref x.c).reverse)++[.ref c]))) s2 (.lst (os.reverse++[.ref e]))) s1 (.lst ((((x::r).map fun x=>V.str (kdN x.f.op)).reverse)++[.str (kdN op)]))=H'
 have off:∀b,b≠x.c->b≠s0->b≠s1->b≠s2->H' b=H b:=fun b h1 h2 h3 h4=>by rw[<- hH',aj h3,aj h4,aj h2,aj h1]
 have k1:H' s1=some (.lst ((((x::r).map fun x=>V.str (kdN x.f.op)).reverse)++[.str (kdN op)])):=by rw[<- hH'];exact ae
 have k2:H' s2=some (.lst (os.reverse++[.ref e])):=by rw[<- hH',aj n12.symm];exact ae
 have k0:H' s0=some (.lst ((((x::r).map fun x=>V.ref x.c).reverse)++[.ref c])):=by rw[<- hH',aj n01,aj n02];exact ae
 have kx:H' x.c=some (.lst (vs++[.ref p])):=by rw[<- hH',aj x1,aj x2,aj x0];exact ae
 have tp:∀{q:Addr}{xs:List V},H q=some (.tup xs)->H' q=some (.tup xs):=fun h=>by
  obtain⟨a,b,c,d⟩:=pt h
  rw[off _ a b c d]
  exact h
 have lp:∀{d:Addr}{ws:List V},d∉[s0,s1,s2]++(x::r).flatMap Fz.muts->H d=some (.lst ws)->H' d=some (.lst ws):=fun hd h=>by
  obtain⟨a,b,c,e⟩:=nin hd
  rw[off _ a b c e]
  exact h
 have same0:aa H0 H':=fun b u hb=>by
  have nb:∀m∈[s0,s1,s2]++(x::r).flatMap Fz.muts,b≠m:=fun m hm=>bN hb (G.zc.fz m hm)
  rw[off b (nb _ (qH _ dP)) (nb _ (by simp)) (nb _ (by simp)) (nb _ (by simp))]
  exact G.zc.h0 _ _ hb
 have mc:∀d∈(⟨⟨op,[],false,0⟩,c,p,e⟩:Fz).muts,d=c\/d=e:=fun d hd=>by
  unfold Fz.muts at hd
  dsimp only at hd
  split at hd
  ·simpa using hd
  ·simp at hd
   exact .inl hd
 refine⟨G.zc.opened (vy:=[]) hx (aa.refl _) same0 G.zc.fz (fun b u h1 h2 h=>?_) (jM k0 k1 k2) (fun d hd=>?_) ?_ (lp fc.2 hc) .nil ?_ (tp hp) noR kx,?_,?_,?_,?_⟩
 ·simp only[qt,qQ,or_false,not_or]at h2
  rw[off b h1 h2.1 h2.2.1 h2.2.2]
  exact h
 ·rcases mc d hd with rfl|rfl
  ·exact fc
  ·exact fe
 ·unfold Fz.muts
  dsimp only
  split
  ·simp
   exact ec.symm
  ·simp
 ·unfold Fz.side
  dsimp only
  split
  ·exact lp fe.2 he
  ·exact absurd rfl (noO _ _)
  ·trivial
 ·rw[k0];simp
 ·rw[k1];simp
 ·rw[k2];simp
 ·exact .cons (fun y _=>rfl) G.ro
theorem C4 {st:List Fr}:(inV (.str "if") ((st.map fun f=>V.str (kdN f.op)).reverse) || (inV (.str "else") ((st.map fun f=>V.str (kdN f.op)).reverse) || inV (.str "while") ((st.map fun f=>V.str (kdN f.op)).reverse)))=eW st:=by
 have e:∀s:Str,inV (.str s) ((st.map fun f=>V.str (kdN f.op)).reverse)=st.any fun f=>decide (kdN f.op=s):=fun s=>by
  unfold inV
  rw[List.any_reverse,List.any_map]
  refine congrArg (List.any st) (funext fun f=>?_)
  show eqV (.str (kdN f.op)) (.str s)=_
  simp only[eqV]
  by_cases h:kdN f.op=s
  ·simp[h]
  ·simp[h]
 rw[e,e,e]
 clear e
 unfold eW
 induction st with
 |nil=>rfl
 |cons f r ih=>
  simp only[List.any_cons]
  rw[<- ih]
  cases decide (kdN f.op="if")<;>cases decide (kdN f.op="else")<;>cases decide (kdN f.op="while")<;>simp
end
end Tr
namespace L2
open PySem PySem.Spec PyProof.Rows
@[reducible] def intKey:KeyKind where
  α:=Int
  blt a b:=decide (a<b)
  irrefl a:=by simp
  trans a b c h1 h2:=by simp only[decide_eq_true_eq]at *;omega
  negTrans a b c h:=by simp only[decide_eq_true_eq]at *;omega
  total a b h1 h2:=by simp only[decide_eq_false_iff_not]at *;omega
  keyOf v:=match v with|.int n _=>some n|_=>none
  dflt:=0
section
variable {prog:Program}{w:World}{A:Around}{E:Qq}{s:Shared}
end
section
variable {X:Cx}
end
end L2
namespace Tr
open PySem PySem.Spec PyProof.Rows L2
set_option linter.all false
mutual
def a8.bare:a8->Bool
 |.rep _ b=>bO b
 |.set _ _ _ _=>false
 |.put _ _=>false
 |.get _ _=>false
 |.give _=>false
 |.cond _ _ _=>false
 |.whl _ _=>false
def bO:List a8->Bool
 |[]=>true
 |d::r=>d.bare && bO r
end
theorem Dn:∀ds:List a8,bO ds=ds.all a8.bare
 |[]=>rfl
 |d::r=>by rw[bO,List.all_cons,Dn r]
def zcD:a8->Nat
 |.whl _ _=>1
 |.rep _ b=>if bO b=true then 0 else 2
 |_=>0
def zc (ds:List a8):Nat:=((ah ds).map zcD).sum
theorem dG (d:a8) (r:List a8):cards (d::r)=cards [d]++cards r:=iR [d] r
mutual
theorem Do:∀d:a8,cards [d]=[]↔d.bare=true
 |.rep n b=>by
  rw[bG,a8.bare]
  simp only[a8.cards,a8.names,a8.others,a8.inner,qE,List.flatMap_nil,qw,List.nil_append]
  exact fQ b
 |.set x a sg b=>by rw[bG,a8.bare];simp[a8.cards,a8.names]
 |.put q x=>by rw[bG,a8.bare];simp[a8.cards,a8.names]
 |.get q x=>by rw[bG,a8.bare];simp[a8.cards,a8.names]
 |.give x=>by rw[bG,a8.bare];simp[a8.cards,a8.names]
 |.cond x t o=>by rw[bG,a8.bare];simp[a8.cards,a8.names]
 |.whl x b=>by rw[bG,a8.bare];simp[a8.cards,a8.names]
theorem fQ:∀ds:List a8,cards ds=[]↔bO ds=true
 |[]=>by simp[cards,ah,bO]
 |d::r=>by rw[dG,List.append_eq_nil_iff,Do d,fQ r,bO,Bool.and_eq_true]
end
mutual
theorem Cv:∀(x:a8) {d e:a8},d∈x.flat->e∈d.flat->e∈x.flat
 |.set x a sg b,d,e,h,h'=>by rw[a8.flat]at h;rw[qS.mp h]at h';exact h'
 |.put q x,d,e,h,h'=>by rw[a8.flat]at h;rw[qS.mp h]at h';exact h'
 |.get q x,d,e,h,h'=>by rw[a8.flat]at h;rw[qS.mp h]at h';exact h'
 |.give x,d,e,h,h'=>by rw[a8.flat]at h;rw[qS.mp h]at h';exact h'
 |.cond x t o,d,e,h,h'=>by
  rw[a8.flat]at h ⊢
  rcases qt.mp h with rfl|h
  ·rw[a8.flat]at h';exact h'
  ·refine qj _ ?_
   rcases qg.mp h with h|h
   ·exact qg.mpr (.inl (gY t h h'))
   ·exact qg.mpr (.inr (gY o h h'))
 |.whl x b,d,e,h,h'=>by
  rw[a8.flat]at h ⊢
  rcases qt.mp h with rfl|h
  ·rw[a8.flat]at h';exact h'
  ·exact qj _ (gY b h h')
 |.rep n b,d,e,h,h'=>by
  rw[a8.flat]at h ⊢
  rcases qt.mp h with rfl|h
  ·rw[a8.flat]at h';exact h'
  ·exact qj _ (gY b h h')
theorem gY:∀(b:List a8) {d e:a8},d∈ah b->e∈d.flat->e∈ah b
 |[],d,e,h,_=>by simp[ah]at h
 |x::r,d,e,h,h'=>by
  rw[ah]at h ⊢
  rcases qg.mp h with h|h
  ·exact qg.mpr (.inl (Cv x h h'))
  ·exact qg.mpr (.inr (gY r h h'))
end
end Tr
namespace L2
open PySem PySem.Spec PyProof.Rows
section
variable {P:Program}{w:World}{A:Around}{E:Qq}{s:Shared}{κ:Type} [DecidableEq κ] {knd:PySem.KeyKind P w κ}
end
section
variable {X:Cx}
end
end L2
namespace Tr
open PySem PySem.Spec PyProof.Rows L2
set_option linter.all false
def PtG.key:PtG->Str
 |.pas _ _ rt=>(PyData.list (rt.map PyData.int)).shown
 |.wrk _ _ _ _ _=>"work"
 |.cho _ _ _ _ _=>"choose"
 |.mrg _ _ _ _=>"merge"
theorem yD {a b:List Str}(na:a.Nodup) (nb:b.Nodup) (h:∀k,k∈a↔k∈b):a.length=b.length:=((List.perm_ext_iff_of_nodup na nb).mpr h).length_eq
def PtG.gd:PtG->Prop
 |.pas _ _ rt=>rt=[]\/rt=[0,0]\/rt=[0,1]\/rt=[0,2]
 |.wrk is _ _ l r=>wn is l/\wn is r
 |_=>True
end Tr
namespace L2
open PySem PySem.Spec PyProof.Rows
section
variable {n m:Nat}{p:Array Nat}
end
section
variable {prog:Program}{w:World}{A:Around}{E:Qq}{s:Shared}
end
section
variable {X:Cx}
end
end L2
namespace Tr
open PySem PySem.Spec PyProof.Rows L2
set_option linter.all false
def bW (f:aD) (ps:List (Str×Int)):aD:=ps.foldl (fun f z=>aW f z.1 z.2) f
theorem gU:∀(zs:List Str) (ws:List Int) (f:aD) (z:Str),bW f (zs.zip ws) z=f z\/bW f (zs.zip ws) z∈ws
 |[],_,f,z=>.inl rfl
 |_::_,[],f,z=>.inl rfl
 |y::zs,w::ws,f,z=>by
  rcases gU zs ws (aW f y w) z with h|h
  ·by_cases e:z=y
   ·exact .inr (qt.mpr (.inl (h.trans (by unfold aW;rw[Q0 e]))))
   ·exact .inl (h.trans (by unfold aW;rw[qZ e]))
  ·exact .inr (qj _ h)
theorem eU:∀(zs:List Str) (ws:List Int) (f:aD) (z:Str),z∉zs->bW f (zs.zip ws) z=f z
 |[],_,f,z,_=>rfl
 |_::_,[],f,z,_=>rfl
 |y::zs,w::ws,f,z,h=>(eU zs ws (aW f y w) z fun k=>h (qj _ k)).trans (by unfold aW;exact qZ fun e=>h (by rw[e];exact qk))
theorem dk:∀(zs:List Str) (ws:List Int) (f:aD) (z:Str),zs.length=ws.length->z∈zs->bW f (zs.zip ws) z∈ws
 |[],_,f,z,_,h=>by simp at h
 |_::_,[],f,z,e,_=>by simp at e
 |y::zs,w::ws,f,z,e,h=>by
  by_cases hz:z∈zs
  ·exact qj _ (dk zs ws (aW f y w) z (by simpa using e) hz)
  ·have:z=y:=(qt.mp h).resolve_right hz
   refine qt.mpr (.inl ((eU zs ws (aW f y w) z hz).trans ?_))
   unfold aW
   rw[Q0 this]
theorem nB:∀(zs:List Str) (ws:List Int) (f:aD),zs.length=ws.length->zs.Nodup->zs.map (bW f (zs.zip ws))=ws
 |[],[],f,_,_=>rfl
 |[],_::_,f,e,_=>by simp at e
 |_::_,[],f,e,_=>by simp at e
 |y::zs,w::ws,f,e,nd=>by
  have h:=List.nodup_cons.mp nd
  have h1:bW (aW f y w) (zs.zip ws) y=w:=(eU zs ws (aW f y w) y h.1).trans (by unfold aW;rw[Q0 rfl])
  have h2:=nB zs ws (aW f y w) (by simpa using e) h.2
  show bW (aW f y w) (zs.zip ws) y::zs.map (bW (aW f y w) (zs.zip ws))=_
  rw[h1,h2]
theorem CB (N:af) (zs:List Str) (ws:List Int):(N.lead zs ws).fc=bW N.fc (zs.zip ws):=rfl
theorem jW {N:af}{zs:List Str}{ws:List Int}{z:Str}:z∈(N.lead zs ws).cs↔z∈N.cs\/z∈zs:=(fg zs N.cs).2.1 z
theorem aG (n k:Nat):(wid n k).length=k:=by unfold wid;rw[q5,List.length_range]
theorem ba {n k:Nat}{w:Int}(h:w∈wid n k):(n:Int)<=w/\w<((n+k:Nat):Int):=by
 unfold wid at h
 obtain⟨i,hi,rfl⟩:=List.mem_map.mp h
 have:=List.mem_range.mp hi
 omega
structure Mo (N N':af):Prop where
 n:N.n<=N'.n
 f:∀z,N'.fc z=N.fc z\/(N.n:Int)<=N'.fc z
 s:∀z∈N.cs,z∈N'.cs
theorem Mo.refl {N:af}:Mo N N:=⟨qd _,fun _=>.inl rfl,fun _ h=>h⟩
theorem Mo.trans {A B C:af}(h:Mo A B) (k:Mo B C):Mo A C:=⟨qx h.n k.n,fun z=>by
 have:=h.n
 rcases k.f z with e|e
 ·rw[e];exact h.f z
 ·exact .inr Qo,fun z hz=>k.s z (h.s z hz)⟩
theorem Mo.wires {A B:af}(h:Mo A B) (k:Nat):Mo A (B.wires k):=⟨by have:=h.n;have:=aS B k;omega,h.f,h.s⟩
theorem Mo.line {A B:af}(h:Mo A B) (d:LnD):Mo A (B.line d):=⟨by have:=h.n;have:=cD B d;omega,h.f,h.s⟩
theorem Mo.part {A B:af}(h:Mo A B) (p:PtG):Mo A (B.part p):=⟨h.n,h.f,h.s⟩
theorem Mo.lead {A B:af}(h:Mo A B) {zs:List Str}{ws:List Int}(k:∀w∈ws,(A.n:Int)<=w):Mo A (B.lead zs ws):=⟨h.n,fun z=>by
 rw[CB]
 rcases gU zs ws B.fc z with e|e
 ·rw[e];exact h.f z
 ·exact .inr (k _ e),fun z hz=>jW.mpr (.inl (h.s z hz))⟩
theorem Mo.keep {A B C:af}(h:Mo B C) (le:A.n<=B.n) {z:Str}(k:(A.n:Int)<=B.fc z):(A.n:Int)<=C.fc z:=by
 rcases h.f z with e|e
 ·rw[e];exact k
 ·omega
theorem jI {N:af}{x:Str}:Mo N (N.fork x):=((Mo.refl.wires 2).part _).lead fun w hw=>by
 have:=qS.mp hw
 omega
theorem eQ {N:af}{x:Str}:(N.fork x).n=N.n+2:=aS N 2
theorem gO:∀(rs:List Str) (N:af),Mo N (rs.foldl af.fork N)
 |[],N=>.refl
 |r::rs,N=>jI.trans (gO rs (N.fork r))
theorem nQ {N:af}{x:Str}:(N.n:Int)<=(N.fork x).fc x:=by
 have:=dk [x] [((N.n+1:Nat):Int)] N.fc x rfl (qS.mpr rfl)
 have:=qS.mp this
 show(N.n:Int)<=bW N.fc ([x].zip [((N.n+1:Nat):Int)]) x
 omega
theorem uK:∀(rs:List Str) (N:af) (z:Str),z∈rs->(N.n:Int)<=(rs.foldl af.fork N).fc z
 |[],_,_,h=>by simp at h
 |r::rs,N,z,h=>by
  have h0:=eQ (N:=N) (x:=r)
  by_cases hz:z∈rs
  ·have:=uK rs (N.fork r) z hz
   rw[List.foldl_cons]
   omega
  ·have:z=r:=(qt.mp h).resolve_right hz
   subst this
   exact(gO rs (N.fork z)).keep Qo nQ
theorem gJ {N:af}{x:Str}{va:Val}{sg:Str}{vb:Val}{rs:List Str}:Mo N (N.set x va sg vb rs):=(((gO rs N).wires 1).part _).lead fun w hw=>by
 have:=qS.mp hw
 have:=(gO rs N).n
 omega
theorem cY {N:af}{c x:Str}{e:Int}:Mo N (N.hand c x e):=((jI.wires 1).part _).lead fun w hw=>by
 have:=qS.mp hw
 have:=eQ (N:=N) (x:=x)
 omega
theorem gN {N:af}{c x:Str}{e:Int}:Mo N (N.get c x e):=((Mo.refl.wires 2).part _).lead fun w hw=>(ba hw).1
theorem gL {N:af}{zs:List Str}{x:Str}:Mo N (N.ifA zs x):=((((Mo.refl.wires _).wires _).line _).part _).lead fun w hw=>(ba hw).1
theorem jH {N:af}{zs:List Str}{t:Nat}{ons:List Int}:Mo N (N.ifZ zs t ons):=((Mo.refl.wires _).part _).lead fun w hw=>(ba hw).1
theorem cE {N:af}{zs:List Str}{x:Str}{beh:List Int}:Mo N (N.loA zs x beh):=((((Mo.refl.line _).wires _).wires _).part _).lead fun w hw=>by have:=(ba hw).1;omega
theorem eT {A N:af}{zs:List Str}{n:Nat}{com beh:List Int}(h:Mo A N) (k:∀w∈beh,(A.n:Int)<=w):Mo A (N.loZ zs n com beh):=(h.part _).lead k
theorem gK {N:af}{k:Int}:Mo N (N.reA k):=(((Mo.refl.line _).wires _).part _).lead fun w hw=>by
 have:=qS.mp hw
 omega
theorem dO {N:af}{k:Int}:(N.reA k).n=N.n+2:=by
 show((N.line bP).wires 1).n=_
 rw[aS,cD]
theorem mV {N:af}{zs:List Str}{x:Str}:(N.ifA zs x).n=N.n+zs.length+zs.length+1:=by
 show(((N.wires zs.length).wires zs.length).line aQ).n=_
 rw[cD,aS,aS]
theorem Bf {N:af}{zs:List Str}{t:Nat}{ons:List Int}:(N.ifZ zs t ons).n=N.n+zs.length:=aS N zs.length
theorem eO {N:af}{zs:List Str}{x:Str}{beh:List Int}:(N.loA zs x beh).n=N.n+1+zs.length+zs.length:=by
 show(((N.line bP).wires zs.length).wires zs.length).n=_
 rw[aS,aS,cD]
theorem iU {N:af}{k:Nat}:∀w∈wid (N.n+2) k++[(N.n:Int)],(N.n:Int)<=w:=fun w hw=>by
 rcases qg.mp hw with h|h
 ·have:=(ba h).1;omega
 ·have:=qS.mp h;omega
theorem Lay.mo {fe:aD}{N N':af}{ds:List a8}(h:Lay fe N ds N'):Mo N N':=by
 induction h with
 |nil=>exact .refl
 |set _ _ ih=>exact gJ.trans ih
 |put _ ih=>exact cY.trans ih
 |give _ ih=>exact cY.trans ih
 |get _ ih=>exact gN.trans ih
 |@cond N N1 N2 N' x t o zs r _ _ _ _ i1 i2 i3=>
  have h1:=gL.trans i1
  have h2:Mo N (N1.lead zs (wid (N.n+zs.length) zs.length)):=h1.lead fun w hw=>by have:=(ba hw).1;omega
  exact((h2.trans i2).trans jH).trans i3
 |@whl N N1 N' x b zs r _ _ _ i1 i2=>exact(eT (((Mo.refl.wires _).trans cE).trans i1) fun w hw=>(ba hw).1).trans i2
 |rep0 _ _ ih=>exact ih
 |@rep N N1 N' m b zs r _ _ _ _ i1 i2=>exact(eT (((gK.wires _).trans cE).trans i1) iU).trans i2
theorem Lay.fresh {fe:aD}{N N':af}{ds:List a8}(h:Lay fe N ds N'):∀z∈cards ds,(N.n:Int)<=N'.fc z:=by
 have one:∀{N M N':af}{d:a8}{r:List a8},Mo N M->Mo M N'->(∀z∈cards [d],(N.n:Int)<=M.fc z)->(∀z∈cards r,(M.n:Int)<=N'.fc z)->∀z∈cards (d::r),(N.n:Int)<=N'.fc z:=fun{N M N' d r} m m' h1 h2 z hz=>by
  rw[dG]at hz
  have:=m.n
  rcases qg.mp hz with h|h
  ·exact m'.keep this (h1 z h)
  ·have:=h2 z h;omega
 induction h with
 |nil=>intro z hz;simp[cards,ah]at hz
 |@set N N' x va sg vb rs r hr hl ih=>
  refine one gJ hl.mo (fun z hz=>?_) ih
  have nf:=(gO rs N).n
  show(N.n:Int)<=bW (rs.foldl af.fork N).fc ([x].zip [((rs.foldl af.fork N).n:Int)]) z
  by_cases e:z=x
  ·have:=qS.mp (dk [x] [((rs.foldl af.fork N).n:Int)] (rs.foldl af.fork N).fc z rfl (qS.mpr e))
   omega
  ·rw[eU _ _ _ _ (by simpa using e)]
   refine uK rs N z ((hr.mem z).mpr ⟨?_,e⟩)
   simp[bG,a8.cards,a8.names,a8.others,a8.inner,e]at hz
   exact hz
 |@put N N' q x r hl ih=>
  refine one cY hl.mo (fun z hz=>?_) ih
  have nf:=eQ (N:=N) (x:=x)
  show(N.n:Int)<=bW (N.fork x).fc ([q++(">":Str)].zip [((N.fork x).n:Int)]) z
  rcases gU [q++(">":Str)] [((N.fork x).n:Int)] (N.fork x).fc z with e|e
  ·by_cases ez:z=q++(">":Str)
   ·have:=qS.mp (dk [q++(">":Str)] [((N.fork x).n:Int)] (N.fork x).fc z rfl (qS.mpr ez))
    omega
   ·simp[bG,a8.cards,a8.names,a8.others,a8.inner,ez]at hz
    rw[e,hz]
    exact nQ
  ·have:=qS.mp e
   omega
 |@give N N' x r hl ih=>
  refine one cY hl.mo (fun z hz=>?_) ih
  have nf:=eQ (N:=N) (x:=x)
  show(N.n:Int)<=bW (N.fork x).fc ([(">":Str)].zip [((N.fork x).n:Int)]) z
  rcases gU [(">":Str)] [((N.fork x).n:Int)] (N.fork x).fc z with e|e
  ·by_cases ez:z=(">":Str)
   ·have:=qS.mp (dk [(">":Str)] [((N.fork x).n:Int)] (N.fork x).fc z rfl (qS.mpr ez))
    omega
   ·simp[bG,a8.cards,a8.names,a8.others,a8.inner,ez]at hz
    rw[e,hz]
    exact nQ
  ·have:=qS.mp e
   omega
 |@get N N' q x r hl ih=>
  refine one gN hl.mo (fun z hz=>?_) ih
  refine(ba (k:=2) (dk [q++("<":Str),x] (wid N.n 2) N.fc z rfl ?_)).1
  simp[bG,a8.cards,a8.names,a8.others,a8.inner]at hz
  simp only[qt,qQ,or_false]
  exact hz.symm
 |@cond N N1 N2 N' x t o zs r hc l1 l2 l3 i1 i2 i3=>
  have h1:Mo N N1:=gL.trans l1.mo
  have h2:Mo N (N1.lead zs (wid (N.n+zs.length) zs.length)):=h1.lead fun w hw=>by have:=(ba hw).1;omega
  have h3:=h2.trans l2.mo
  refine one (h3.trans jH) l3.mo (fun z hz=>?_) i3
  have:=(ba (dk zs (wid N2.n zs.length) N2.fc z (aG _ _).symm ((hc.mem z).mpr hz))).1
  have:=h3.n
  show(N.n:Int)<=bW N2.fc (zs.zip (wid N2.n zs.length)) z
  omega
 |@whl N N1 N' x b zs r hc l1 l2 i1 i2=>
  refine one (eT (((Mo.refl.wires _).trans cE).trans l1.mo) fun w hw=>(ba hw).1) l2.mo (fun z hz=>?_) i2
  exact(ba (dk zs (wid N.n zs.length) N1.fc z (aG _ _).symm ((hc.mem z).mpr hz))).1
 |@rep0 N N' k b r hc _ ih=>
  intro z hz
  rw[dG,bG]at hz
  simp[a8.cards,a8.names,a8.others,a8.inner,hc]at hz
  exact ih z hz
 |@rep N N1 N' m b zs r hc hz l1 l2 i1 i2=>
  refine one (eT (((gK.wires _).trans cE).trans l1.mo) iU) l2.mo (fun z hz=>?_) i2
  rw[bG]at hz
  simp[a8.cards,a8.names,a8.others,a8.inner]at hz
  exact iU _ (dk (zs++[ctN N.n]) (wid (N.n+2) zs.length++[(N.n:Int)]) N1.fc z (by simp[aG]) (qg.mpr (.inl ((hc.mem z).mpr hz))))
def Bd (N:af):Prop:=∀z∈N.cs,N.fc z<(N.n:Int)
theorem Bd.wires {N:af}(h:Bd N) (k:Nat):Bd (N.wires k):=fun z hz=>by have:=h z hz;have:=aS N k;show N.fc z<_;omega
theorem Bd.line {N:af}(h:Bd N) (d:LnD):Bd (N.line d):=fun z hz=>by have:=h z hz;have:=cD N d;show N.fc z<_;omega
theorem Bd.part {N:af}(h:Bd N) (p:PtG):Bd (N.part p):=h
theorem Bd.lead {N:af}(h:Bd N) {zs:List Str}{ws:List Int}(e:zs.length=ws.length) (k:∀w∈ws,w<(N.n:Int)):Bd (N.lead zs ws):=fun z hz=>by
 show bW N.fc (zs.zip ws) z<(N.n:Int)
 by_cases hm:z∈zs
 ·exact k _ (dk zs ws N.fc z e hm)
 ·rw[eU zs ws N.fc z hm]
  exact h z ((jW.mp hz).resolve_right hm)
theorem ox {N:af}{x:Str}(h:Bd N):Bd (N.fork x):=((h.wires 2).part _).lead rfl fun w hw=>by
 have:=qS.mp hw
 rw[c9,aS]
 omega
theorem vX:∀(rs:List Str) {N:af},Bd N->Bd (rs.foldl af.fork N)
 |[],N,h=>h
 |r::rs,N,h=>vX rs (ox h)
theorem ou {N:af}{zs:List Str}{x:Str}(h:Bd N):Bd (N.ifA zs x):=((((h.wires _).wires _).line _).part _).lead (aG _ _).symm fun w hw=>by
 have:=(ba hw).2
 rw[c9,cD,aS,aS]
 omega
theorem hU {N:af}{zs:List Str}{x:Str}{beh:List Int}(h:Bd N):Bd (N.loA zs x beh):=((((h.line _).wires _).wires _).part _).lead (aG _ _).symm fun w hw=>by
 have:=(ba hw).2
 rw[c9,aS,aS,cD]
 omega
theorem vW {N:af}{k:Int}(h:Bd N):Bd (N.reA k):=(((h.line _).wires _).part _).lead rfl fun w hw=>by
 have:=qS.mp hw
 rw[c9,aS,cD]
 omega
theorem Lay.bd {fe:aD}{N N':af}{ds:List a8}(h:Lay fe N ds N'):Bd N->Bd N':=by
 induction h with
 |nil=>exact fun h=>h
 |@set N N' x va sg vb rs r _ _ ih=>
  exact fun h=>ih ((((vX rs h).wires 1).part _).lead rfl fun w hw=>by
   have:=qS.mp hw
   rw[c9,aS]
   omega)
 |@put N N' q x r _ ih=>
  exact fun h=>ih ((((ox h).wires 1).part _).lead rfl fun w hw=>by
   have:=qS.mp hw
   rw[c9,aS]
   omega)
 |@give N N' x r _ ih=>
  exact fun h=>ih ((((ox h).wires 1).part _).lead rfl fun w hw=>by
   have:=qS.mp hw
   rw[c9,aS]
   omega)
 |@get N N' q x r _ ih=>
  exact fun h=>ih (((h.wires 2).part _).lead rfl fun w hw=>by
   have:=(ba hw).2
   rw[c9,aS]
   exact this)
 |@cond N N1 N2 N' x t o zs r _ l1 l2 _ i1 i2 i3=>
  refine fun h=>i3 ((((i2 ((i1 (ou h)).lead (aG _ _).symm fun w hw=>?_)).wires _).part _).lead (aG _ _).symm fun w hw=>?_)
  ·have:=(ba hw).2
   have:=l1.mo.n
   rw[mV]at this
   omega
  ·have:=(ba hw).2
   rw[c9,aS]
   exact this
 |@whl N N1 N' x b zs r _ l1 _ i1 i2=>
  refine fun h=>i2 (((i1 (hU (h.wires _))).part _).lead (aG _ _).symm fun w hw=>?_)
  have:=(ba hw).2
  have:=l1.mo.n
  rw[eO,aS]at this
  rw[c9]
  omega
 |rep0 _ _ ih=>exact ih
 |@rep N N1 N' m b zs r _ _ l1 _ i1 i2=>
  refine fun h=>i2 (((i1 (hU ((vW h).wires _))).part _).lead (by simp[aG]) fun w hw=>?_)
  have:=l1.mo.n
  rw[eO,aS,dO]at this
  rw[c9]
  rcases qg.mp hw with h|h
  ·have:=(ba h).2;omega
  ·have:=qS.mp h;omega
theorem Lay.none {fe:aD}{N N':af}{ds:List a8}(h:Lay fe N ds N'):cards ds=[]->N'=N:=by
 induction h with
 |nil=>exact fun _=>rfl
 |rep0 _ _ ih=>
  intro e
  rw[dG,List.append_eq_nil_iff]at e
  exact ih e.2
 |rep hc hz _ _ _ _=>
  intro e
  rw[dG,bG,List.append_eq_nil_iff]at e
  simp only[a8.cards,a8.names,a8.others,a8.inner,qE,List.flatMap_nil,qw,List.nil_append]at e
  refine absurd (List.eq_nil_iff_forall_not_mem.mpr fun y hy=>?_) hz
  have:=(hc.mem y).mp hy
  rw[e.1]at this
  simp at this
 |_=>
  intro e
  rw[dG,bG]at e
  simp[a8.cards,a8.names,a8.others]at e
theorem Lay.side {fe:aD}{S N1:af}{ds:List a8}{zs:List Str}{ws:List Int}(h:Lay fe (S.lead zs ws) ds N1) (nd:zs.Nodup) (e:zs.length=ws.length) (lt:∀w∈ws,w<(S.n:Int)) (sub:∀k∈cards ds,k∈zs):decide (ws=zs.map N1.fc)=bO ds:=by
 by_cases hb:bO ds=true
 ·rw[hb,h.none ((fQ ds).mpr hb)]
  exact decide_eq_true (nB zs ws S.fc e nd).symm
 ·rw[Bool.eq_false_iff.mpr hb]
  refine decide_eq_false fun k=>?_
  have ne:cards ds≠[]:=fun z=>hb ((fQ ds).mp z)
  obtain⟨z,hz⟩:=List.exists_mem_of_ne_nil _ ne
  have h1:=h.fresh z hz
  have h2:=lt (N1.fc z) (by rw[k];exact List.mem_map.mpr ⟨z,sub z hz,rfl⟩)
  rw[fG]at h1
  omega
def b2i (b:Bool):Int:=if b=true then 1 else 0
def PtG.mt:PtG->Option Int
 |.mrg t _ _ _=>some t
 |_=>.none
def PtG.isC:PtG->Bool
 |.cho _ _ _ _ _=>true
 |_=>false
inductive Duo (ls:List LnD):PtG->PtG->List Int->Prop
 |loop {is ons ofs mo mf:List Int}{w:Int}{t:Nat}{lg:V}:is.length<=100->ons.length=is.length->ofs.length=is.length->mo.length=is.length->mf.length=is.length->ls[t]?=some ⟨lg,[0]⟩->Duo ls (.cho is w ons ofs (t:Int)) (.mrg (t:Int) mo mf is) [1,(is.length:Int),b2i (decide (ons=mo))+b2i (decide (ofs=mf))]
 |cond {is ons ofs mo mf outs:List Int}{w:Int}{t:Nat}{lg:V}:is.length<=100->ons.length=is.length->ofs.length=is.length->mo.length=is.length->mf.length=is.length->outs.length=is.length->ls[t]?=some ⟨lg,[]⟩->(∀l∈outs,l∉is)->Duo ls (.cho is w ons ofs (t:Int)) (.mrg (t:Int) mo mf outs) [0,(is.length:Int),b2i (decide (ons=mo))+b2i (decide (ofs=mf))]
theorem Duo.more {ls nl:List LnD}{c m:PtG}{v:List Int}(h:Duo ls c m v):Duo (ls++nl) c m v:=by
 cases h with
 |loop z a b c d e=>exact .loop z a b c d (by rw[List.getElem?_append_left (qe.mp e).1];exact e)
 |cond z a b c d f e g=>exact .cond z a b c d f (by rw[List.getElem?_append_left (qe.mp e).1];exact e) g
structure Mw (lo hi:Nat) (ls:List LnD) (new:List PtG) (du:List (List Int)):Prop where
 ch:R2s (fun c d=>∃m∈new,Duo ls c m d) (new.filter PtG.isC) du
 nd:(new.filterMap PtG.mt).Nodup
 rg:∀t∈new.filterMap PtG.mt,(lo:Int)<=t/\t<(hi:Int)
 ln:(new.filterMap PtG.mt).length=du.length
structure Mg (N N':af) (du:List (List Int)):Prop where
 ls:∃nl,N'.ls=N.ls++nl
 ps:∃new,N'.ps=N.ps++new/\Mw N.n N'.n N'.ls new du
theorem Mg.n {N N':af}{du:List (List Int)}(h:Mg N N' du):N.n<=N'.n:=by
 obtain⟨nl,e⟩:=h.ls
 show N.ls.length<=N'.ls.length
 rw[e,qa]
 omega
theorem Mg.trans {A B C:af}{d1 d2:List (List Int)}(h:Mg A B d1) (k:Mg B C d2):Mg A C (d1++d2):=by
 have hn:=h.n
 have kn:=k.n
 obtain⟨⟨l1,e1⟩,n1,p1,m1⟩:=h
 obtain⟨⟨l2,e2⟩,n2,p2,m2⟩:=k
 refine⟨⟨l1++l2,by rw[e2,e1,qM]⟩,n1++n2,by rw[p2,p1,qM],?_,?_,?_,?_⟩
 ·rw[List.filter_append]
  refine R2s.app (m2.ch.imp fun c d ⟨m,hm,hd⟩=>⟨m,qH _ hm,hd⟩) (m1.ch.imp fun c d ⟨m,hm,hd⟩=>⟨m,qV _ hm,?_⟩)
  rw[e2]
  exact hd.more
 ·rw[List.filterMap_append]
  refine List.nodup_append.mpr ⟨m1.nd,m2.nd,fun a ha b hb e=>?_⟩
  have:=(m1.rg a ha).2
  have:=(m2.rg b hb).1
  omega
 ·intro t ht
  rw[List.filterMap_append]at ht
  rcases qg.mp ht with h|h
  ·have:=m1.rg t h;omega
  ·have:=m2.rg t h;omega
 ·rw[List.filterMap_append,qa,qa,m1.ln,m2.ln]
theorem Mg.plain {N N':af}{nl:List LnD}{new:List PtG}(e:N'.ls=N.ls++nl) (p:N'.ps=N.ps++new) (h:∀q∈new,q.isC=false/\q.mt=Option.none):Mg N N' []:=by
 have f1:new.filter PtG.isC=[]:=List.filter_eq_nil_iff.mpr fun q hq=>by rw[(h q hq).1];simp
 have f2:new.filterMap PtG.mt=[]:=List.filterMap_eq_nil_iff.mpr fun q hq=>(h q hq).2
 exact⟨⟨nl,e⟩,new,p,by rw[f1];exact .nil,by rw[f2];exact List.nodup_nil,by rw[f2];simp,by rw[f2];rfl⟩
theorem Mg.refl {N:af}:Mg N N []:=Mg.plain (nl:=[]) (new:=[]) (by simp) (by simp) (by simp)
theorem ng {N:af}{x:Str}:Mg N (N.fork x) []:=Mg.plain (nl:=List.replicate 2 aQ) (new:=[_]) rfl rfl fun q hq=>by rw[qS.mp hq];exact⟨rfl,rfl⟩
theorem tX:∀(rs:List Str) (N:af),Mg N (rs.foldl af.fork N) []
 |[],N=>.refl
 |r::rs,N=>ng.trans (tX rs (N.fork r))
theorem jJ {M:af}{p:PtG}{zs:List Str}{ws:List Int}{k:Nat}(h:p.isC=false/\p.mt=Option.none):Mg M (((M.wires k).part p).lead zs ws) []:=Mg.plain (nl:=List.replicate k aQ) (new:=[p]) rfl rfl fun q hq=>by rw[qS.mp hq];exact h
theorem Mg.wrap {N A B C:af}{c m:PtG}{t:Int}{v:List Int}{du:List (List Int)}(pa:A.ps=N.ps++[c]) (la:∃nl,A.ls=N.ls++nl) (h:Mg A B du) (pc:C.ps=B.ps++[m]) (lc:∃nl,C.ls=B.ls++nl) (hc:c.isC=true) (hm:m.mt=some t) (t1:(N.n:Int)<=t) (t2:t<(A.n:Int)) (d:Duo C.ls c m v):Mg N C (v::du):=by
 have hn:=h.n
 obtain⟨la,ea⟩:=la
 obtain⟨lc,ec⟩:=lc
 obtain⟨⟨l1,e1⟩,n1,p1,m1⟩:=h
 have cm:c.mt=Option.none:=by cases c<;>simp[PtG.isC,PtG.mt]at hc ⊢
 have mc:m.isC=false:=by cases m<;>simp[PtG.isC,PtG.mt]at hm ⊢
 have nA:N.n<=A.n:=by show N.ls.length<=A.ls.length;rw[ea,qa];omega
 have nC:B.n<=C.n:=by show B.ls.length<=C.ls.length;rw[ec,qa];omega
 have f1:(c::(n1++[m])).filter PtG.isC=c::n1.filter PtG.isC:=by
  rw[List.filter_cons_of_pos hc,List.filter_append]
  simp[mc]
 have f2:(c::(n1++[m])).filterMap PtG.mt=n1.filterMap PtG.mt++[t]:=by
  rw[List.filterMap_cons_none cm,List.filterMap_append]
  simp[hm]
 refine⟨⟨la++l1++lc,by rw[ec,e1,ea];simp⟩,c::(n1++[m]),by rw[pc,p1,pa];simp,?_,?_,?_,?_⟩
 ·rw[f1]
  refine .cons ⟨m,by simp,d⟩ (m1.ch.imp fun c d ⟨m',hm',hd⟩=>⟨m',by simp[hm'],?_⟩)
  rw[ec]
  exact hd.more
 ·rw[f2]
  refine List.nodup_append.mpr ⟨m1.nd,by simp,fun a ha b hb e=>?_⟩
  have:=(m1.rg a ha).1
  have:=qS.mp hb
  omega
 ·intro z hz
  rw[f2]at hz
  rcases qg.mp hz with h|h
  ·have:=m1.rg z h;omega
  ·have:=qS.mp h;omega
 ·rw[f2,qa,m1.ln]
  rfl
def ncd (ds:List a8):Nat:=((cards ds).foldl bK []).length
theorem fh.ncd {ds:List a8}{zs:List Str}(h:fh ds zs):zs.length=ncd ds:=by
 obtain⟨_,m,n⟩:=fg (cards ds) []
 exact yD h.nd (n List.nodup_nil) fun k=>(h.mem k).trans ⟨fun z=>(m k).mpr (.inr z),fun z=>((m k).mp z).resolve_left (by simp)⟩
def duD:a8->List (List Int)
 |.cond x t o=>[[0,(ncd [.cond x t o]:Int),b2i (bO t)+b2i (bO o)]]
 |.whl x b=>[[1,(ncd [.whl x b]:Int),b2i (bO b)]]
 |.rep _ b=>if bO b=true then[]else[[1,(ncd b:Int)+1,0]]
 |_=>[]
def bZ (ds:List a8):List (List Int):=(ah ds).flatMap duD
theorem vq (a b:List a8):bZ (a++b)=bZ a++bZ b:=by
 unfold bZ
 rw[cG,qU]
theorem f7 (d:a8) (r:List a8):bZ (d::r)=duD d++d.inner.flatMap bZ++bZ r:=by
 rw[show d::r=[d]++r from rfl,vq]
 congr 1
 unfold bZ
 rw[ah,ah,qw,df,qE,List.flatMap_assoc]
theorem CJ {ds:List a8}(h:cards ds=[]):bZ ds=[]:=by
 refine List.flatMap_eq_nil_iff.mpr fun d hd=>?_
 have no:d.cards=[]:=List.eq_nil_iff_forall_not_mem.mpr fun y hy=>by
  have:y∈cards ds:=List.mem_flatMap.mpr ⟨_,hd,hy⟩
  rw[h]at this
  simp at this
 cases d with
 |rep m c=>
  have hc':cards c=[]:=List.eq_nil_iff_forall_not_mem.mpr fun y hy=>by
   obtain⟨e,he,hy⟩:=List.mem_flatMap.mp hy
   have:y∈cards ds:=List.mem_flatMap.mpr ⟨e,gY ds hd (by rw[df];simp[a8.inner,he]),hy⟩
   rw[h]at this
   simp at this
  show(if bO c=true then[]else _)=[]
  rw[Q0 ((fQ c).mp hc')]
 |_=>simp[a8.cards,a8.names]at no
theorem ca {d:a8}{b:List a8}(h:b∈d.inner):∀k∈cards b,k∈cards [d]:=fun k hk=>by
 rw[bG]
 exact qg.mpr (.inr (List.mem_flatMap.mpr ⟨b,h,hk⟩))
theorem Lay.mg {fe:aD}{N N':af}{ds:List a8}(h:Lay fe N ds N'):Bd N->(∀k∈cards ds,k∈N.cs)->Mg N N' (bZ ds):=by
 have rest:∀{d:a8}{r:List a8}{A B:af},(∀k∈cards (d::r),k∈A.cs)->Mo A B->∀k∈cards r,k∈B.cs:=fun{d r A B} h m k hk=>m.s k (h k (by rw[dG];exact qH _ hk))
 have here:∀{d:a8}{r:List a8}{A:af},(∀k∈cards (d::r),k∈A.cs)->∀k∈cards [d],k∈A.cs:=fun{d r A} h k hk=>h k (by rw[dG];exact qV _ hk)
 induction h with
 |nil=>exact fun _ _=>.refl
 |@set N N' x va sg vb rs r hr hl ih=>
  intro hb hs
  have m:Mg N (N.set x va sg vb rs) []:=(tX rs N).trans (jJ ⟨rfl,rfl⟩)
  have b1:Bd (N.set x va sg vb rs):=(Lay.set (fe:=fe) hr (.nil (N:=N.set x va sg vb rs))).bd hb
  rw[f7]
  exact m.trans (ih b1 (rest hs gJ))
 |@put N N' q x r hl ih=>
  intro hb hs
  have m:Mg N (N.hand (q++(">":Str)) x (fe q)) []:=ng.trans (jJ ⟨rfl,rfl⟩)
  have b1:=(Lay.put (fe:=fe) (q:=q) (x:=x) (.nil (N:=N.hand (q++(">":Str)) x (fe q)))).bd hb
  rw[f7]
  exact m.trans (ih b1 (rest hs cY))
 |@give N N' x r hl ih=>
  intro hb hs
  have m:Mg N (N.hand (">":Str) x (fe (">":Str))) []:=ng.trans (jJ ⟨rfl,rfl⟩)
  have b1:=(Lay.give (fe:=fe) (x:=x) (.nil (N:=N.hand (">":Str) x (fe (">":Str))))).bd hb
  rw[f7]
  exact m.trans (ih b1 (rest hs cY))
 |@get N N' q x r hl ih=>
  intro hb hs
  have m:Mg N (N.get (q++("<":Str)) x (fe q)) []:=jJ ⟨rfl,rfl⟩
  have b1:=(Lay.get (fe:=fe) (q:=q) (x:=x) (.nil (N:=N.get (q++("<":Str)) x (fe q)))).bd hb
  rw[f7]
  exact m.trans (ih b1 (rest hs gN))
 |@cond N N1 N2 N' x t o zs r hc l1 l2 l3 i1 i2 i3=>
  intro hb hs
  have hs':=here hs
  have b1:=l1.bd (ou hb)
  have nA:=mV (N:=N) (zs:=zs) (x:=x)
  have n1:=l1.mo.n
  have b1':Bd (N1.lead zs (wid (N.n+zs.length) zs.length)):=b1.lead (aG _ _).symm fun w hw=>by have:=(ba hw).2;omega
  have m1:=i1 (ou hb) fun k hk=>gL.s k (hs' k (ca (by simp[a8.inner]) k hk))
  have mo1:Mo N N1:=gL.trans l1.mo
  have m2:=i2 b1' fun k hk=>jW.mpr (.inl (mo1.s k (hs' k (ca (by simp[a8.inner]) k hk))))
  have moL:Mo N (N1.lead zs (wid (N.n+zs.length) zs.length)):=mo1.lead fun w hw=>by have:=(ba hw).1;omega
  have mo2:=moL.trans l2.mo
  have n2:=l2.mo.n
  rw[fG]at n2
  have mm:Mg (N.ifA zs x) N2 (bZ t++bZ o):=m1.trans ⟨m2.ls,m2.ps⟩
  have sub1:∀k∈cards t,k∈zs:=fun k hk=>(hc.mem k).mpr (ca (by simp[a8.inner]) k hk)
  have sub2:∀k∈cards o,k∈zs:=fun k hk=>(hc.mem k).mpr (ca (by simp[a8.inner]) k hk)
  have s1:=l1.side hc.nd (aG _ _).symm (fun w hw=>by have:=(ba hw).2;rw[c9,cD,aS,aS];omega) sub1
  have s2:=l2.side hc.nd (aG _ _).symm (fun w hw=>by have:=(ba hw).2;omega) sub2
  have w1:Mg N (N2.ifZ zs (N.n+zs.length+zs.length) (zs.map N1.fc)) ([0,(zs.length:Int),b2i (bO t)+b2i (bO o)]::(bZ t++bZ o)):=by
   refine Mg.wrap (t:=((N.n+zs.length+zs.length:Nat):Int)) rfl ⟨List.replicate zs.length aQ++(List.replicate zs.length aQ++[aQ]),?_⟩ mm rfl ⟨List.replicate zs.length aQ,rfl⟩ rfl rfl Qo Qo ?_
   ·show N.ls++List.replicate zs.length aQ++List.replicate zs.length aQ++[aQ]=_
    rw[qM,qM]
   ·have dd:=Duo.cond (ls:=(N2.ifZ zs (N.n+zs.length+zs.length) (zs.map N1.fc)).ls) (is:=zs.map N.fc) (ons:=wid N.n zs.length) (ofs:=wid (N.n+zs.length) zs.length) (mo:=zs.map N1.fc) (mf:=zs.map N2.fc) (outs:=wid N2.n zs.length) (w:=(zs.idxOf x:Nat)) (t:=N.n+zs.length+zs.length) (lg:=.int 1) (by have:=hc.few;rw[q5];omega) (by simp[aG]) (by simp[aG]) (by simp) (by simp) (by simp[aG]) ?_ ?_
    ·rw[s1,s2,q5]at dd
     exact dd
    ·obtain⟨nl,e⟩:=mm.ls
     show(N2.ls++List.replicate zs.length aQ)[N.n+zs.length+zs.length]?=_
     rw[e]
     show(N.ls++List.replicate zs.length aQ++List.replicate zs.length aQ++[aQ]++nl++List.replicate zs.length aQ)[N.n+zs.length+zs.length]?=_
     have ll:(N.ls++List.replicate zs.length aQ++List.replicate zs.length aQ).length=N.n+zs.length+zs.length:=by
      rw[qa,qa,List.length_replicate]
      rfl
     rw[qM,qM,qK Qo,ll,Nat.sub_self]
     rfl
    ·intro l hl hi
     obtain⟨z,hz,rfl⟩:=List.mem_map.mp hi
     have:=(ba hl).1
     have:=hb z (hs' z ((hc.mem z).mp hz))
     omega
  rw[f7,duD,<- hc.ncd]
  have:=w1.trans (i3 ((Lay.nil (fe:=fe) (N:=N2.ifZ zs (N.n+zs.length+zs.length) (zs.map N1.fc))).bd (((((l2.bd b1').wires _).part _).lead (aG _ _).symm fun w hw=>by have:=(ba hw).2;rw[c9,aS];exact this))) (rest hs (mo2.trans jH)))
  simpa[a8.inner]using this
 |@whl N N1 N' x b zs r hc l1 l2 i1 i2=>
  intro hb hs
  have hs':=here hs
  have nA:=eO (N:=N.wires zs.length) (zs:=zs) (x:=x) (beh:=wid N.n zs.length)
  rw[aS]at nA
  have n1:=l1.mo.n
  have m1:=i1 (hU (hb.wires _)) fun k hk=>cE.s k (hs' k (ca (by simp[a8.inner]) k hk))
  have mo1:Mo N N1:=((Mo.refl.wires _).trans cE).trans l1.mo
  have sub1:∀k∈cards b,k∈zs:=fun k hk=>(hc.mem k).mpr (ca (by simp[a8.inner]) k hk)
  have s1:=l1.side hc.nd (aG _ _).symm (fun w hw=>by have:=(ba hw).2;rw[aS]at this;rw[c9,aS,aS,cD,aS];omega) sub1
  have xin:x∈zs:=(hc.mem x).mpr (by rw[bG];simp[a8.cards,a8.names])
  have s2:decide (wid N.n zs.length=zs.map N.fc)=false:=decide_eq_false fun k=>by
   have h1:N.fc x∈wid N.n zs.length:=by rw[k];exact List.mem_map.mpr ⟨x,xin,rfl⟩
   have:=(ba h1).1
   have:=hb x (hs' x ((hc.mem x).mp xin))
   omega
  have w1:Mg (N.wires zs.length) (N1.loZ zs (N.n+zs.length) (zs.map N.fc) (wid N.n zs.length)) ([1,(zs.length:Int),b2i (bO b)]::bZ b):=by
   refine Mg.wrap (t:=((N.n+zs.length:Nat):Int)) rfl ⟨[bP]++(List.replicate zs.length aQ++List.replicate zs.length aQ),?_⟩ m1 rfl ⟨[],by simp[af.loZ,af.part,af.lead]⟩ rfl rfl (by rw[aS];omega) Qo ?_
   ·show N.ls++List.replicate zs.length aQ++[bP]++List.replicate zs.length aQ++List.replicate zs.length aQ=_
    simp[af.wires]
   ·have e0:(N.wires zs.length).n=N.n+zs.length:=aS _ _
    have dd:=Duo.loop (ls:=(N1.loZ zs (N.n+zs.length) (zs.map N.fc) (wid N.n zs.length)).ls) (is:=wid ((N.wires zs.length).n+1) zs.length) (ons:=wid ((N.wires zs.length).n+1+zs.length) zs.length) (ofs:=wid N.n zs.length) (mo:=zs.map N1.fc) (mf:=zs.map N.fc) (w:=(zs.idxOf x:Nat)) (t:=N.n+zs.length) (lg:=.int 1) (by have:=hc.few;rw[aG];omega) (by simp[aG]) (by simp[aG]) (by simp[aG]) (by simp[aG]) ?_
    ·rw[s1,s2,aG,e0]at dd
     have ez:b2i (bO b)+b2i false=b2i (bO b):=by unfold b2i;simp
     rw[ez]at dd
     rw[e0]
     exact dd
    ·obtain⟨nl,e⟩:=m1.ls
     show N1.ls[N.n+zs.length]?=_
     rw[e]
     show(N.ls++List.replicate zs.length aQ++[bP]++List.replicate zs.length aQ++List.replicate zs.length aQ++nl)[N.n+zs.length]?=_
     have ll:(N.ls++List.replicate zs.length aQ).length=N.n+zs.length:=by
      rw[qa,List.length_replicate]
      rfl
     rw[qM,qM,qM,qK Qo,ll,Nat.sub_self]
     rfl
  rw[f7,duD,<- hc.ncd]
  have w0:Mg N (N.wires zs.length) []:=Mg.plain (nl:=List.replicate zs.length aQ) (new:=[]) rfl (by simp[af.wires]) (by simp)
  have:=(w0.trans w1).trans (i2 (((l1.bd (hU (hb.wires _))).part _).lead (aG _ _).symm fun w hw=>by have:=(ba hw).2;rw[c9];omega) (rest hs (eT mo1 fun w hw=>(ba hw).1)))
  simpa[a8.inner]using this
 |@rep0 N N' m b r hc _ ih=>
  intro hb hs
  rw[f7,duD,Q0 ((fQ b).mp hc)]
  have:=ih hb (rest hs .refl)
  simpa[a8.inner,CJ hc]using this
 |@rep N N1 N' m b zs r hc hz l1 l2 i1 i2=>
  intro hb hs
  have hs':=here hs
  have cb:∀k∈cards b,k∈N.cs:=fun k hk=>hs' k (ca (by simp[a8.inner]) k hk)
  have hbr:¬ bO b=true:=fun h=>by
   have:=(fQ b).mpr h
   refine hz (List.eq_nil_iff_forall_not_mem.mpr fun y hy=>?_)
   have hy:=(hc.mem y).mp hy
   rw[this]at hy
   simp at hy
  obtain⟨z0,hz0⟩:=List.exists_mem_of_ne_nil _ hz
  have bS:Bd ((N.reA m).wires zs.length):=(vW hb).wires _
  have nS:((N.reA m).wires zs.length).n=N.n+2+zs.length:=by rw[aS,dO]
  have zl:(zs++[ctN N.n]).length=zs.length+1:=by simp
  have nA:=eO (N:=(N.reA m).wires zs.length) (zs:=zs++[ctN N.n]) (x:=ctN N.n) (beh:=wid (N.n+2) zs.length++[(N.n:Int)])
  rw[nS,zl]at nA
  have n1:=l1.mo.n
  have ctin:ctN N.n∈(N.reA m).cs:=jW.mpr (.inr (qS.mpr rfl))
  have m1:=i1 (hU bS) fun k hk=>by
   refine cE.s k ?_
   show k∈(N.reA m).cs
   rw[iR]at hk
   rcases qg.mp hk with h|h
   ·exact gK.s k (cb k h)
   ·have:k=ctN N.n:=by simpa[bG,ctD,a8.cards,a8.names,a8.others,a8.inner,Val.names]using h
    rw[this]
    exact ctin
  have ed:bZ (b++[ctD N.n])=bZ b:=by rw[vq];simp[bZ,ah,a8.flat,ctD,duD]
  rw[ed]at m1
  have mo1:Mo N N1:=((gK.wires _).trans cE).trans l1.mo
  have s1:decide (wid ((N.reA m).wires zs.length |>.n |> fun n=>n+1+(zs++[ctN N.n]).length) (zs++[ctN N.n]).length=(zs++[ctN N.n]).map N1.fc)=false:=decide_eq_false fun k=>by
   have hf:=l1.fresh z0 (by rw[iR];exact qV _ ((hc.mem z0).mp hz0))
   have h1:N1.fc z0∈wid (((N.reA m).wires zs.length).n+1+(zs++[ctN N.n]).length) (zs++[ctN N.n]).length:=by rw[k];exact List.mem_map.mpr ⟨z0,qV _ hz0,rfl⟩
   have:=(ba h1).2
   rw[eO]at hf
   omega
  have s2:decide (wid (N.n+2) zs.length++[(N.n:Int)]=(zs++[ctN N.n]).map (N.reA m).fc)=false:=decide_eq_false fun k=>by
   have h1:(N.reA m).fc z0∈wid (N.n+2) zs.length++[(N.n:Int)]:=by rw[k];exact List.mem_map.mpr ⟨z0,qV _ hz0,rfl⟩
   have h3:(N.reA m).fc z0=N.fc z0\/(N.reA m).fc z0∈[((N.n+1:Nat):Int)]:=gU [ctN N.n] [((N.n+1:Nat):Int)] N.fc z0
   have h4:=hb z0 (cb z0 ((hc.mem z0).mp hz0))
   have h5:(N.reA m).fc z0<(N.n:Int)\/(N.reA m).fc z0=((N.n+1:Nat):Int):=by
    rcases h3 with e|e
    ·left;omega
    ·right;exact qS.mp e
   rcases qg.mp h1 with h|h
   ·have:=(ba h).1;omega
   ·have:=qS.mp h;omega
  have w1:Mg ((N.reA m).wires zs.length) (N1.loZ (zs++[ctN N.n]) (N.n+2+zs.length) ((zs++[ctN N.n]).map (N.reA m).fc) (wid (N.n+2) zs.length++[(N.n:Int)])) ([1,(zs.length:Int)+1,0]::bZ b):=by
   refine Mg.wrap (t:=((N.n+2+zs.length:Nat):Int)) (c:=.cho (wid (((N.reA m).wires zs.length).n+1) (zs++[ctN N.n]).length) ((zs++[ctN N.n]).idxOf (ctN N.n):Nat) (wid (((N.reA m).wires zs.length).n+1+(zs++[ctN N.n]).length) (zs++[ctN N.n]).length) (wid (N.n+2) zs.length++[(N.n:Int)]) (((N.reA m).wires zs.length).n:Int)) rfl ⟨[bP]++(List.replicate (zs++[ctN N.n]).length aQ++List.replicate (zs++[ctN N.n]).length aQ),?_⟩ m1 rfl ⟨[],by simp[af.loZ,af.part,af.lead]⟩ rfl rfl Qo Qo ?_
   ·show((N.reA m).wires zs.length).ls++[bP]++List.replicate (zs++[ctN N.n]).length aQ++List.replicate (zs++[ctN N.n]).length aQ=_
    rw[qM,qM]
   ·have dd:=Duo.loop (ls:=(N1.loZ (zs++[ctN N.n]) (N.n+2+zs.length) ((zs++[ctN N.n]).map (N.reA m).fc) (wid (N.n+2) zs.length++[(N.n:Int)])).ls) (is:=wid (((N.reA m).wires zs.length).n+1) (zs++[ctN N.n]).length) (ons:=wid (((N.reA m).wires zs.length).n+1+(zs++[ctN N.n]).length) (zs++[ctN N.n]).length) (ofs:=wid (N.n+2) zs.length++[(N.n:Int)]) (mo:=(zs++[ctN N.n]).map N1.fc) (mf:=(zs++[ctN N.n]).map (N.reA m).fc) (w:=((zs++[ctN N.n]).idxOf (ctN N.n):Nat)) (t:=N.n+2+zs.length) (lg:=.int 1) (by have:=hc.few;rw[aG,zl];omega) (by simp[aG]) (by simp[aG]) (by simp[aG]) (by simp[aG]) ?_
    ·have s1:decide (wid (((N.reA m).wires zs.length).n+1+(zs++[ctN N.n]).length) (zs++[ctN N.n]).length=(zs++[ctN N.n]).map N1.fc)=false:=s1
     rw[s1,s2,aG,nS,zl]at dd
     rw[nS,zl]
     exact dd
    ·obtain⟨nl,e⟩:=m1.ls
     show N1.ls[N.n+2+zs.length]?=_
     rw[e]
     show(((N.reA m).wires zs.length).ls++[bP]++List.replicate (zs++[ctN N.n]).length aQ++List.replicate (zs++[ctN N.n]).length aQ++nl)[N.n+2+zs.length]?=_
     have ll:((N.reA m).wires zs.length).ls.length=N.n+2+zs.length:=nS
     rw[qM,qM,qM,qK Qo,ll,Nat.sub_self]
     rfl
  rw[f7,duD,qZ hbr,<- hc.ncd]
  have w0:Mg N ((N.reA m).wires zs.length) []:=Mg.plain (nl:=[bP]++List.replicate 1 aQ++List.replicate zs.length aQ) (new:=[.wrk [(N.n:Int)] ((N.n+1:Nat):Int) "+" (.is m) (.is 0)]) (by show N.ls++[bP]++List.replicate 1 aQ++List.replicate zs.length aQ=_;simp) rfl fun q hq=>by rw[qS.mp hq];exact⟨rfl,rfl⟩
  have:=(w0.trans w1).trans (i2 (((l1.bd (hU bS)).part _).lead (by simp[aG]) fun w hw=>by
   rw[c9]
   rcases qg.mp hw with h|h
   ·have:=(ba h).2;omega
   ·have:=qS.mp h;omega) (rest hs (eT mo1 iU)))
  simpa[a8.inner]using this
end Tr
namespace Tr
open PySem PySem.Spec PyProof.Rows L2
set_option linter.all false
def PtG.gvs:PtG->List Int
 |.pas _ os _=>os
 |.wrk _ o _ _ _=>[o]
 |.cho _ _ ons ofs t=>ons++ofs++[t]
 |.mrg _ _ _ outs=>outs
def PtG.tks:PtG->List Int
 |.mrg t ons ofs _=>[t]++ons++ofs
 |.pas is _ _=>is
 |.wrk is _ _ _ _=>is
 |.cho is _ _ _ _=>is
def gc (l:Int) (ps:List PtG):Nat:=(ps.flatMap PtG.gvs).count l
def tc (l:Int) (ps:List PtG):Nat:=(ps.flatMap PtG.tks).count l
def opn (Lv:List Str) (f:aD) (l:Int):Nat:=(Lv.map f).count l
def ind (a b:Nat) (l:Int):Nat:=if(a:Int)<=l/\l<(b:Int)then 1 else 0
theorem bX {a b c:Nat}{l:Int}(h:a<=b) (k:b<=c):ind a c l=ind a b l+ind b c l:=by
 unfold ind
 split<;>split<;>split<;>omega
theorem jS {a:Nat}{l:Int}:ind a a l=0:=by unfold ind;rw[qZ Qo]
theorem cC {a l:Int}{n:Nat}(h:a=(n:Int)):[a].count l=ind n (n+1) l:=by
 unfold ind
 rw[List.count_singleton,h]
 by_cases e:(n:Int)=l
 ·rw[Q0 (by simpa using e),Q0 Qo]
 ·rw[qZ (by simpa using e),qZ Qo]
theorem bU (n:Nat) (l:Int):∀k,(wid n k).count l=ind n (n+k) l
 |0=>by rw[Nat.add_zero,jS];rfl
 |k+1=>by
  have ih:=bU n l k
  unfold wid at ih ⊢
  rw[List.range_succ,qO,List.count_append,ih,List.map_singleton,cC (n:=n+k) rfl,<- Nat.add_assoc,<- bX (Nat.le_add_right _ _) (Nat.le_succ _)]
theorem zW {Lv:List Str}{f:aD}{y:Str}{w l:Int}(nd:Lv.Nodup) (hy:y∈Lv):opn Lv (aW f y w) l+[f y].count l=opn Lv f l+[w].count l:=by
 unfold opn
 induction Lv with
 |nil=>simp at hy
 |cons z r ih=>
  have h:=List.nodup_cons.mp nd
  have cc:∀(a:Int) (q:List Int),(a::q).count l=[a].count l+q.count l:=fun a q=>by rw[show a::q=[a]++q from rfl,List.count_append]
  rw[qR,qR,cc,cc (f z)]
  by_cases e:z=y
  ·subst e
   have e1:r.map (aW f z w)=r.map f:=List.map_congr_left fun x hx=>by
    unfold aW
    exact qZ fun k=>h.1 (by rw[<- k];exact hx)
   have e2:aW f z w z=w:=by unfold aW;rw[Q0 rfl]
   rw[e1,e2]
   omega
  ·have ih:=ih h.2 ((qt.mp hy).resolve_left fun k=>e k.symm)
   have e2:aW f y w z=f z:=by unfold aW;rw[qZ e]
   rw[e2]
   omega
theorem mJ {Lv:List Str}{l:Int}(nd:Lv.Nodup):∀{zs:List Str}{ws:List Int}{f:aD},zs.Nodup->zs.length=ws.length->(∀z∈zs,z∈Lv)->opn Lv (bW f (zs.zip ws)) l+(zs.map f).count l=opn Lv f l+ws.count l
 |[],[],f,_,_,_=>rfl
 |[],_::_,f,_,e,_=>by simp at e
 |_::_,[],f,_,e,_=>by simp at e
 |y::zs,w::ws,f,n,e,s=>by
  have h:=List.nodup_cons.mp n
  have ih:=mJ (l:=l) nd (zs:=zs) (ws:=ws) (f:=aW f y w) h.2 (by simpa using e) fun z hz=>s z (qj _ hz)
  have e1:zs.map (aW f y w)=zs.map f:=List.map_congr_left fun x hx=>by
   unfold aW
   exact qZ fun k=>h.1 (by rw[<- k];exact hx)
  have e2:=zW (f:=f) (w:=w) (l:=l) nd (s y qk)
  rw[e1]at ih
  show opn Lv (bW (aW f y w) (zs.zip ws)) l+(f y::zs.map f).count l=_
  rw[show f y::zs.map f=[f y]++zs.map f from rfl,show w::ws=[w]++ws from rfl,List.count_append,List.count_append]
  omega
structure Bal (Lv:List Str) (l:Int) (N N':af) (g t:Nat):Prop where
 g:gc l N'.ps=gc l N.ps+g
 t:tc l N'.ps+opn Lv N'.fc l=tc l N.ps+opn Lv N.fc l+t
theorem Bal.refl {Lv:List Str}{l:Int}{N:af}:Bal Lv l N N 0 0:=⟨rfl,rfl⟩
theorem Bal.trans {Lv:List Str}{l:Int}{A B C:af}{g t g' t':Nat}(h:Bal Lv l A B g t) (k:Bal Lv l B C g' t'):Bal Lv l A C (g+g') (t+t'):=⟨by rw[k.g,h.g];omega,by rw[k.t,h.t];omega⟩
theorem Bal.is {Lv:List Str}{l:Int}{A B:af}{g t g' t':Nat}(h:Bal Lv l A B g t) (e:g=g') (e':t=t'):Bal Lv l A B g' t':=e▸e'▸h
theorem uE {l:Int}{ps:List PtG}{p:PtG}:gc l (ps++[p])=gc l ps+p.gvs.count l:=by
 unfold gc
 rw[qU,List.count_append,qE,List.flatMap_nil,qw]
theorem oU {l:Int}{ps:List PtG}{p:PtG}:tc l (ps++[p])=tc l ps+p.tks.count l:=by
 unfold tc
 rw[qU,List.count_append,qE,List.flatMap_nil,qw]
theorem dZ {Lv:List Str}{l:Int}{N M:af}{p:PtG}{zs:List Str}{ws:List Int}(pm:M.ps=N.ps++[p]) (fm:M.fc=bW N.fc (zs.zip ws)) (nd:Lv.Nodup) (nz:zs.Nodup) (e:zs.length=ws.length) (s:∀z∈zs,z∈Lv):
 gc l M.ps=gc l N.ps+p.gvs.count l/\tc l M.ps+opn Lv M.fc l+(zs.map N.fc).count l=tc l N.ps+p.tks.count l+opn Lv N.fc l+ws.count l:=by
 have h:=mJ (l:=l) (f:=N.fc) nd nz e s
 rw[pm,fm,uE,oU]
 exact⟨rfl,Qo⟩
def egD (fe:aD) (l:Int):a8->Nat
 |.put q _=>[fe q].count l
 |.give _=>[fe (">":Str)].count l
 |_=>0
def etD (fe:aD) (l:Int):a8->Nat
 |.get q _=>[fe q].count l
 |_=>0
def eg (fe:aD) (l:Int) (ds:List a8):Nat:=((ah ds).map (egD fe l)).sum
def et (fe:aD) (l:Int) (ds:List a8):Nat:=((ah ds).map (etD fe l)).sum
theorem sum_cons (f:a8->Nat) (d:a8) (r:List a8):((ah (d::r)).map f).sum=f d+(d.inner.map fun b=>((ah b).map f).sum).sum+((ah r).map f).sum:=by
 have:∀L:List (List a8),((L.flatMap ah).map f).sum=(L.map fun b=>((ah b).map f).sum).sum:=fun L=>by
  induction L with
  |nil=>rfl
  |cons a r ih=>rw[qE,qO,List.sum_append,ih,qR,List.sum_cons]
 rw[ah,df,qO,List.sum_append,qR,List.sum_cons,this]
theorem p8 (f:a8->Nat) (a b:List a8):((ah (a++b)).map f).sum=((ah a).map f).sum+((ah b).map f).sum:=by rw[cG,qO,List.sum_append]
def NcD:a8->Prop
 |.put q x=>q++(">":Str)≠x
 |.get q x=>q++("<":Str)≠x
 |.give x=>(">":Str)≠x
 |_=>True
theorem eN {d:a8}{r:List a8}(h:∀e∈ah (d::r),NcD e):NcD d/\(∀b∈d.inner,∀e∈ah b,NcD e)/\∀e∈ah r,NcD e:=by
 rw[ah]at h
 exact⟨h d (qg.mpr (.inl (by rw[df];exact qk))),fun b hb e he=>h e (qg.mpr (.inl (by rw[df];exact qj _ (List.mem_flatMap.mpr ⟨b,hb,he⟩)))),fun e he=>h e (qg.mpr (.inr he))⟩
theorem Cs (n:Nat) (l:Int) (k:Nat):(bw n (k+1)).count l=[(n:Int)].count l+(bw (n+2) k).count l:=by
 have:bw n (k+1)=[(n:Int)]++bw (n+2) k:=by
  unfold bw
  rw[List.range_succ_eq_map,qR,List.map_map]
  show _::_=_::_
  congr 1
  refine List.map_congr_left fun i _=>?_
  show((n+2 * (i+1):Nat):Int)=((n+2+2 * i:Nat):Int)
  omega
 rw[this,List.count_append]
theorem w6 {Lv:List Str}{l:Int}{N:af}{x:Str}(nd:Lv.Nodup) (hx:x∈Lv):gc l (N.fork x).ps=gc l N.ps+ind N.n (N.n+2) l/\tc l (N.fork x).ps+opn Lv (N.fork x).fc l+[(N.n:Int)].count l=tc l N.ps+opn Lv N.fc l+ind N.n (N.n+2) l:=by
 obtain⟨h1,h2⟩:=dZ (l:=l) (N:=N.wires 2) (M:=N.fork x) (p:=.pas [N.fc x] (wid N.n 2) [0,0]) (zs:=[x]) (ws:=[((N.n+1:Nat):Int)]) rfl rfl nd (by simp) rfl (by simpa using hx)
 have e1:(PtG.pas [N.fc x] (wid N.n 2) [0,0]).gvs=wid N.n 2:=rfl
 have e2:(PtG.pas [N.fc x] (wid N.n 2) [0,0]).tks=[N.fc x]:=rfl
 have p0:(N.wires 2).ps=N.ps:=rfl
 have f0:(N.wires 2).fc=N.fc:=rfl
 have c1:=cC (a:=(N.n:Int)) (l:=l) rfl
 have c2:=cC (a:=((N.n+1:Nat):Int)) (l:=l) rfl
 have c3:=bX (l:=l) (Nat.le_add_right N.n 1) (show N.n+1<=N.n+2 by omega)
 rw[e1,p0,bU]at h1
 rw[e2,p0,f0,List.map_singleton]at h2
 have c2:[((N.n+1:Nat):Int)].count l=ind (N.n+1) (N.n+2) l:=c2
 exact⟨h1,Qo⟩
theorem w5 {Lv:List Str}{l:Int}(nd:Lv.Nodup):∀(rs:List Str) {N:af},(∀r∈rs,r∈Lv)->gc l (rs.foldl af.fork N).ps=gc l N.ps+ind N.n (N.n+2 * rs.length) l/\tc l (rs.foldl af.fork N).ps+opn Lv (rs.foldl af.fork N).fc l+(bw N.n rs.length).count l=tc l N.ps+opn Lv N.fc l+ind N.n (N.n+2 * rs.length) l
 |[],N,_=>by rw[List.length_nil,Nat.mul_zero,Nat.add_zero,jS];exact⟨rfl,rfl⟩
 |r::rs,N,h=>by
  obtain⟨a1,a2⟩:=w6 (l:=l) (N:=N) nd (h r qk)
  obtain⟨b1,b2⟩:=w5 (l:=l) nd rs (N:=N.fork r) fun x hx=>h x (qj _ hx)
  rw[eQ]at b1 b2
  have c3:=bX (l:=l) (show N.n<=N.n+2 by omega) (show N.n+2<=N.n+2+2 * rs.length by omega)
  have ee:N.n+2 * (r::rs).length=N.n+2+2 * rs.length:=by rw[qz];omega
  rw[List.foldl_cons,ee,qz,Cs]
  exact⟨Qo,Qo⟩
theorem mW:∀(rs:List Str) {N:af},(rs.foldl af.fork N).n=N.n+2 * rs.length
 |[],N=>rfl
 |r::rs,N=>by rw[List.foldl_cons,mW rs,eQ,qz];omega
theorem vf:∀(rs:List Str) {N:af}{x:Str},x∉rs->(rs.foldl af.fork N).fc x=N.fc x
 |[],N,x,_=>rfl
 |r::rs,N,x,h=>by
  rw[List.foldl_cons,vf rs fun k=>h (qj _ k)]
  exact eU [r] [((N.n+1:Nat):Int)] N.fc x (fun k=>h (by rw[qS.mp k];exact qk))
theorem Dp {Lv:List Str}{l:Int}{N:af}{x:Str}{va:Val}{sg:Str}{vb:Val}{rs:List Str}(nd:Lv.Nodup) (hr:fV x va vb rs) (h:∀k∈(a8.set x va sg vb).cards,k∈Lv):Bal Lv l N (N.set x va sg vb rs) (ind N.n (N.set x va sg vb rs).n l) (ind N.n (N.set x va sg vb rs).n l):=by
 have hx:x∈Lv:=h x (by simp[a8.cards,a8.names])
 have xr:x∉rs:=fun k=>((hr.mem x).mp k).2 rfl
 obtain⟨a1,a2⟩:=w5 (l:=l) (N:=N) nd rs fun r k=>h r (by
  have:=((hr.mem r).mp k).1
  unfold a8.cards a8.names
  exact qV _ (qj _ (qg.mpr this)))
 have en:(N.set x va sg vb rs).n=N.n+2 * rs.length+1:=by
  show((rs.foldl af.fork N).wires 1).n=_
  rw[aS,mW]
 obtain⟨b1,b2⟩:=dZ (l:=l) (N:=(rs.foldl af.fork N).wires 1) (M:=N.set x va sg vb rs) (p:=.wrk (N.fc x::bw N.n rs.length) (rs.foldl af.fork N).n sg (dg (x::rs) va) (dg (x::rs) vb)) (zs:=[x]) (ws:=[((rs.foldl af.fork N).n:Int)]) rfl rfl nd (by simp) rfl (by simpa using hx)
 have e1:(PtG.wrk (N.fc x::bw N.n rs.length) (rs.foldl af.fork N).n sg (dg (x::rs) va) (dg (x::rs) vb)).gvs=[((rs.foldl af.fork N).n:Int)]:=rfl
 have e2:(PtG.wrk (N.fc x::bw N.n rs.length) (rs.foldl af.fork N).n sg (dg (x::rs) va) (dg (x::rs) vb)).tks=[N.fc x]++bw N.n rs.length:=rfl
 have p0:((rs.foldl af.fork N).wires 1).ps=(rs.foldl af.fork N).ps:=rfl
 have f0:((rs.foldl af.fork N).wires 1).fc=(rs.foldl af.fork N).fc:=rfl
 rw[e1,p0]at b1
 rw[e2,p0,f0,List.map_singleton,vf rs xr,List.count_append]at b2
 rw[mW,cC (n:=N.n+2 * rs.length) rfl]at b1 b2
 have c3:=bX (l:=l) (show N.n<=N.n+2 * rs.length by omega) (show N.n+2 * rs.length<=N.n+2 * rs.length+1 by omega)
 rw[en]
 exact⟨Qo,Qo⟩
theorem vZ {Lv:List Str}{l:Int}{N:af}{c x:Str}{e:Int}(nd:Lv.Nodup) (hc:c∈Lv) (hx:x∈Lv) (ne:c≠x):Bal Lv l N (N.hand c x e) (ind N.n (N.hand c x e).n l+[e].count l) (ind N.n (N.hand c x e).n l):=by
 obtain⟨a1,a2⟩:=w6 (l:=l) (N:=N) nd hx
 have en:(N.hand c x e).n=N.n+2+1:=by
  show((N.fork x).wires 1).n=_
  rw[aS,eQ]
 have fx:(N.fork x).fc c=N.fc c:=eU [x] [((N.n+1:Nat):Int)] N.fc c (by simpa using ne)
 obtain⟨b1,b2⟩:=dZ (l:=l) (N:=(N.fork x).wires 1) (M:=N.hand c x e) (p:=.pas [N.fc c,(N.n:Int)] [((N.fork x).n:Int),e] [0,1]) (zs:=[c]) (ws:=[((N.fork x).n:Int)]) rfl rfl nd (by simp) rfl (by simpa using hc)
 have e1:(PtG.pas [N.fc c,(N.n:Int)] [((N.fork x).n:Int),e] [0,1]).gvs=[((N.fork x).n:Int)]++[e]:=rfl
 have e2:(PtG.pas [N.fc c,(N.n:Int)] [((N.fork x).n:Int),e] [0,1]).tks=[N.fc c]++[(N.n:Int)]:=rfl
 have p0:((N.fork x).wires 1).ps=(N.fork x).ps:=rfl
 have f0:((N.fork x).wires 1).fc=(N.fork x).fc:=rfl
 rw[e1,p0,List.count_append]at b1
 rw[e2,p0,f0,List.map_singleton,fx,List.count_append]at b2
 rw[eQ,cC (n:=N.n+2) rfl]at b1 b2
 have c3:=bX (l:=l) (show N.n<=N.n+2 by omega) (show N.n+2<=N.n+2+1 by omega)
 rw[en]
 exact⟨Qo,Qo⟩
theorem Dq {Lv:List Str}{l:Int}{N:af}{c x:Str}{e:Int}(nd:Lv.Nodup) (hc:c∈Lv) (hx:x∈Lv) (ne:c≠x):Bal Lv l N (N.get c x e) (ind N.n (N.get c x e).n l) (ind N.n (N.get c x e).n l+[e].count l):=by
 have en:(N.get c x e).n=N.n+2:=aS N 2
 obtain⟨b1,b2⟩:=dZ (l:=l) (N:=N.wires 2) (M:=N.get c x e) (p:=.pas [N.fc c,N.fc x,e] (wid N.n 2) [0,2]) (zs:=[c,x]) (ws:=wid N.n 2) rfl rfl nd (by simpa using ne) rfl (by intro z hz;simp at hz;rcases hz with rfl|rfl<;>assumption)
 have e1:(PtG.pas [N.fc c,N.fc x,e] (wid N.n 2) [0,2]).gvs=wid N.n 2:=rfl
 have e2:(PtG.pas [N.fc c,N.fc x,e] (wid N.n 2) [0,2]).tks=[N.fc c,N.fc x]++[e]:=rfl
 have e3:[c,x].map (N.wires 2).fc=[N.fc c,N.fc x]:=rfl
 have p0:(N.wires 2).ps=N.ps:=rfl
 have f0:(N.wires 2).fc=N.fc:=rfl
 rw[e1,p0,bU]at b1
 rw[e2,e3,p0,f0,List.count_append,bU]at b2
 rw[en]
 exact⟨Qo,Qo⟩
theorem vY {Lv:List Str}{l:Int}{S N1:af}{zs:List Str}{x:Str}{beh:List Int}{b:List a8}{g t:Nat}(nd:Lv.Nodup) (nz:zs.Nodup) (sz:∀z∈zs,z∈Lv) (eb:zs.length=beh.length) (le:(S.loA zs x beh).n<=N1.n)
 (body:Bal Lv l (S.loA zs x beh) N1 (ind (S.loA zs x beh).n N1.n l+g) (ind (S.loA zs x beh).n N1.n l+t)):
 Bal Lv l S (N1.loZ zs S.n (zs.map S.fc) beh) (ind S.n N1.n l+beh.count l+g) (ind S.n N1.n l+beh.count l+t):=by
 have nA:=eO (N:=S) (zs:=zs) (x:=x) (beh:=beh)
 obtain⟨a1,a2⟩:=dZ (l:=l) (N:=((S.line bP).wires zs.length).wires zs.length) (M:=S.loA zs x beh) (p:=.cho (wid (S.n+1) zs.length) (zs.idxOf x:Nat) (wid (S.n+1+zs.length) zs.length) beh (S.n:Int)) (zs:=zs) (ws:=wid (S.n+1+zs.length) zs.length) rfl rfl nd nz (aG _ _).symm sz
 obtain⟨b1,b2⟩:=body
 obtain⟨c1,c2⟩:=dZ (l:=l) (N:=N1) (M:=N1.loZ zs S.n (zs.map S.fc) beh) (p:=.mrg (S.n:Int) (zs.map N1.fc) (zs.map S.fc) (wid (S.n+1) zs.length)) (zs:=zs) (ws:=beh) rfl rfl nd nz eb sz
 have p0:(((S.line bP).wires zs.length).wires zs.length).ps=S.ps:=rfl
 have f0:(((S.line bP).wires zs.length).wires zs.length).fc=S.fc:=rfl
 have g1:(PtG.cho (wid (S.n+1) zs.length) (zs.idxOf x:Nat) (wid (S.n+1+zs.length) zs.length) beh (S.n:Int)).gvs=wid (S.n+1+zs.length) zs.length++beh++[(S.n:Int)]:=rfl
 have t1:(PtG.cho (wid (S.n+1) zs.length) (zs.idxOf x:Nat) (wid (S.n+1+zs.length) zs.length) beh (S.n:Int)).tks=wid (S.n+1) zs.length:=rfl
 have g2:(PtG.mrg (S.n:Int) (zs.map N1.fc) (zs.map S.fc) (wid (S.n+1) zs.length)).gvs=wid (S.n+1) zs.length:=rfl
 have t2:(PtG.mrg (S.n:Int) (zs.map N1.fc) (zs.map S.fc) (wid (S.n+1) zs.length)).tks=[(S.n:Int)]++zs.map N1.fc++zs.map S.fc:=rfl
 rw[p0,g1,List.count_append,List.count_append,bU,cC (n:=S.n) rfl]at a1
 rw[p0,f0,t1,bU,bU]at a2
 rw[g2,bU]at c1
 rw[t2,List.count_append,List.count_append,cC (n:=S.n) rfl]at c2
 rw[nA]at b1 b2 le
 have i1:=bX (l:=l) (show S.n<=S.n+1 by omega) (show S.n+1<=N1.n by omega)
 have i2:=bX (l:=l) (show S.n+1<=S.n+1+zs.length by omega) (show S.n+1+zs.length<=N1.n by omega)
 have i3:=bX (l:=l) (show S.n+1+zs.length<=S.n+1+zs.length+zs.length by omega) (show S.n+1+zs.length+zs.length<=N1.n by omega)
 exact⟨Qo,Qo⟩
theorem Lay.bal {fe:aD}{l:Int}{N N':af}{ds:List a8}{B:Nat}(ctI:∀m n:Nat,m<B->n<B->ctN m=ctN n->m=n) (h:Lay fe N ds N'):N'.n<B->∀Lv:List Str,Lv.Nodup->(∀k∈cards ds,k∈Lv)->(∀n,N.n<=n->n<B->ctN n∉Lv)->(∀e∈ah ds,NcD e)->Bal Lv l N N' (ind N.n N'.n l+eg fe l ds) (ind N.n N'.n l+et fe l ds):=by
 have one:∀{N M N':af}{d:a8}{r:List a8}{Lv:List Str}{g t:Nat},N.n<=M.n->M.n<=N'.n->Bal Lv l N M (ind N.n M.n l+g) (ind N.n M.n l+t)->Bal Lv l M N' (ind M.n N'.n l+eg fe l r) (ind M.n N'.n l+et fe l r)->g=egD fe l d+(d.inner.map (eg fe l)).sum->t=etD fe l d+(d.inner.map (et fe l)).sum->Bal Lv l N N' (ind N.n N'.n l+eg fe l (d::r)) (ind N.n N'.n l+et fe l (d::r)):=fun{N M N' d r Lv g t} h1 h2 b1 b2 eg' et'=>by
  have i:=bX (l:=l) h1 h2
  have s1:eg fe l (d::r)=egD fe l d+(d.inner.map (eg fe l)).sum+eg fe l r:=sum_cons _ d r
  have s2:et fe l (d::r)=etD fe l d+(d.inner.map (et fe l)).sum+et fe l r:=sum_cons _ d r
  exact(b1.trans b2).is Qo Qo
 have crd:∀{d:a8}{r:List a8}{Lv:List Str},(∀k∈cards (d::r),k∈Lv)->(∀k∈d.cards,k∈Lv)/\(∀k∈cards [d],k∈Lv)/\∀k∈cards r,k∈Lv:=fun{d r Lv} h=>by
  rw[dG]at h
  have h2:∀k∈cards [d],k∈Lv:=fun k hk=>h k (qV _ hk)
  exact⟨fun k hk=>h2 k (by rw[bG];exact qV _ hk),h2,fun k hk=>h k (qH _ hk)⟩
 induction h with
 |nil=>exact fun _ Lv _ _ _ _=>by rw[jS];exact .refl
 |@set N N' x va sg vb rs r hr hl ih=>
  intro hB Lv nd hs hn nc
  obtain⟨h1,h2,h3⟩:=crd hs
  obtain⟨c1,c2,c3⟩:=eN nc
  exact one gJ.n hl.mo.n (Dp nd hr h1) (ih hB Lv nd h3 (fun n k b=>hn n (qx gJ.n k) b) c3) rfl rfl
 |@put N N' q x r hl ih=>
  intro hB Lv nd hs hn nc
  obtain⟨h1,h2,h3⟩:=crd hs
  obtain⟨c1,c2,c3⟩:=eN nc
  exact one cY.n hl.mo.n (vZ nd (h1 _ (by simp[a8.cards,a8.others])) (h1 _ (by simp[a8.cards,a8.names])) c1) (ih hB Lv nd h3 (fun n k b=>hn n (qx cY.n k) b) c3) rfl rfl
 |@give N N' x r hl ih=>
  intro hB Lv nd hs hn nc
  obtain⟨h1,h2,h3⟩:=crd hs
  obtain⟨c1,c2,c3⟩:=eN nc
  exact one cY.n hl.mo.n (vZ nd (h1 _ (by simp[a8.cards,a8.others])) (h1 _ (by simp[a8.cards,a8.names])) c1) (ih hB Lv nd h3 (fun n k b=>hn n (qx cY.n k) b) c3) rfl rfl
 |@get N N' q x r hl ih=>
  intro hB Lv nd hs hn nc
  obtain⟨h1,h2,h3⟩:=crd hs
  obtain⟨c1,c2,c3⟩:=eN nc
  exact one gN.n hl.mo.n (Dq nd (h1 _ (by simp[a8.cards,a8.others])) (h1 _ (by simp[a8.cards,a8.names])) c1) (ih hB Lv nd h3 (fun n k b=>hn n (qx gN.n k) b) c3) rfl rfl
 |@cond N N1 N2 N' x t o zs r hc l1 l2 l3 i1 i2 i3=>
  intro hB Lv nd hs hn nc
  obtain⟨h1,h2,h3⟩:=crd hs
  obtain⟨c1,c2,c3⟩:=eN nc
  have sz:∀z∈zs,z∈Lv:=fun z hz=>h2 z ((hc.mem z).mp hz)
  have nA:=mV (N:=N) (zs:=zs) (x:=x)
  have m1:=l1.mo.n
  have m2:=l2.mo.n
  rw[fG]at m2
  have nZ:=Bf (N:=N2) (zs:=zs) (t:=N.n+zs.length+zs.length) (ons:=zs.map N1.fc)
  have m3:=l3.mo.n
  have b1:=i1 Qo Lv nd (fun k hk=>h2 k (ca (by simp[a8.inner]) k hk)) (fun n k b=>hn n Qo b) (c2 t (by simp[a8.inner]))
  have b2:=i2 Qo Lv nd (fun k hk=>h2 k (ca (by simp[a8.inner]) k hk)) (fun n k b=>hn n (by rw[fG]at k;omega) b) (c2 o (by simp[a8.inner]))
  refine one (M:=N2.ifZ zs (N.n+zs.length+zs.length) (zs.map N1.fc)) Qo l3.mo.n ?_ (i3 hB Lv nd h3 (fun n k b=>hn n Qo b) c3) rfl rfl
  obtain⟨u1,u2⟩:=dZ (l:=l) (N:=((N.wires zs.length).wires zs.length).line aQ) (M:=N.ifA zs x) (p:=.cho (zs.map N.fc) (zs.idxOf x:Nat) (wid N.n zs.length) (wid (N.n+zs.length) zs.length) ((N.n+zs.length+zs.length:Nat):Int)) (zs:=zs) (ws:=wid N.n zs.length) rfl rfl nd hc.nd (aG _ _).symm sz
  have w2:=mJ (l:=l) (f:=N1.fc) (zs:=zs) (ws:=wid (N.n+zs.length) zs.length) nd hc.nd (aG _ _).symm sz
  obtain⟨v1,v2⟩:=dZ (l:=l) (N:=N2.wires zs.length) (M:=N2.ifZ zs (N.n+zs.length+zs.length) (zs.map N1.fc)) (p:=.mrg ((N.n+zs.length+zs.length:Nat):Int) (zs.map N1.fc) (zs.map N2.fc) (wid N2.n zs.length)) (zs:=zs) (ws:=wid N2.n zs.length) rfl rfl nd hc.nd (aG _ _).symm sz
  have p0:(((N.wires zs.length).wires zs.length).line aQ).ps=N.ps:=rfl
  have f0:(((N.wires zs.length).wires zs.length).line aQ).fc=N.fc:=rfl
  have p2:(N2.wires zs.length).ps=N2.ps:=rfl
  have f2:(N2.wires zs.length).fc=N2.fc:=rfl
  have g1:(PtG.cho (zs.map N.fc) (zs.idxOf x:Nat) (wid N.n zs.length) (wid (N.n+zs.length) zs.length) ((N.n+zs.length+zs.length:Nat):Int)).gvs=wid N.n zs.length++wid (N.n+zs.length) zs.length++[((N.n+zs.length+zs.length:Nat):Int)]:=rfl
  have t1:(PtG.cho (zs.map N.fc) (zs.idxOf x:Nat) (wid N.n zs.length) (wid (N.n+zs.length) zs.length) ((N.n+zs.length+zs.length:Nat):Int)).tks=zs.map N.fc:=rfl
  have g2:(PtG.mrg ((N.n+zs.length+zs.length:Nat):Int) (zs.map N1.fc) (zs.map N2.fc) (wid N2.n zs.length)).gvs=wid N2.n zs.length:=rfl
  have t2:(PtG.mrg ((N.n+zs.length+zs.length:Nat):Int) (zs.map N1.fc) (zs.map N2.fc) (wid N2.n zs.length)).tks=[((N.n+zs.length+zs.length:Nat):Int)]++zs.map N1.fc++zs.map N2.fc:=rfl
  rw[p0,g1,List.count_append,List.count_append,bU,bU,cC (n:=N.n+zs.length+zs.length) rfl]at u1
  rw[p0,f0,t1,bU]at u2
  rw[p2,g2,bU]at v1
  rw[p2,f2,t2,List.count_append,List.count_append,bU,cC (n:=N.n+zs.length+zs.length) rfl]at v2
  rw[bU]at w2
  obtain⟨x1,x2⟩:=b1
  obtain⟨y1,y2⟩:=b2
  have pl:(N1.lead zs (wid (N.n+zs.length) zs.length)).ps=N1.ps:=rfl
  have fl:(N1.lead zs (wid (N.n+zs.length) zs.length)).fc=bW N1.fc (zs.zip (wid (N.n+zs.length) zs.length)):=rfl
  rw[pl,fG]at y1
  rw[pl,fl,fG]at y2
  rw[nA]at x1 x2 m1
  rw[nZ]
  have j1:=bX (l:=l) (show N.n<=N.n+zs.length by omega) (show N.n+zs.length<=N2.n+zs.length by omega)
  have j2:=bX (l:=l) (show N.n+zs.length<=N.n+zs.length+zs.length by omega) (show N.n+zs.length+zs.length<=N2.n+zs.length by omega)
  have j3:=bX (l:=l) (show N.n+zs.length+zs.length<=N.n+zs.length+zs.length+1 by omega) (show N.n+zs.length+zs.length+1<=N2.n+zs.length by omega)
  have j4:=bX (l:=l) m1 (show N1.n<=N2.n+zs.length by omega)
  have j5:=bX (l:=l) m2 (show N2.n<=N2.n+zs.length by omega)
  have q1:egD fe l (.cond x t o)+(a8.inner (.cond x t o) |>.map (eg fe l)).sum=eg fe l t+eg fe l o:=by simp[egD,a8.inner]
  have q2:etD fe l (.cond x t o)+(a8.inner (.cond x t o) |>.map (et fe l)).sum=et fe l t+et fe l o:=by simp[etD,a8.inner]
  rw[q1,q2]
  exact⟨Qo,Qo⟩
 |@whl N N1 N' x b zs r hc l1 l2 i1 i2=>
  intro hB Lv nd hs hn nc
  obtain⟨h1,h2,h3⟩:=crd hs
  obtain⟨c1,c2,c3⟩:=eN nc
  have sz:∀z∈zs,z∈Lv:=fun z hz=>h2 z ((hc.mem z).mp hz)
  have nA:=eO (N:=N.wires zs.length) (zs:=zs) (x:=x) (beh:=wid N.n zs.length)
  have m1:=l1.mo.n
  have eS:(N.wires zs.length).n=N.n+zs.length:=aS _ _
  rw[eS]at nA
  have m3:N1.n<=N'.n:=l2.mo.n
  have b1:=i1 Qo Lv nd (fun k hk=>h2 k (ca (by simp[a8.inner]) k hk)) (fun n k b=>hn n Qo b) (c2 b (by simp[a8.inner]))
  have bl:=vY (x:=x) (b:=b) nd hc.nd sz (aG _ _).symm m1 b1
  rw[eS]at bl
  have bl:Bal Lv l N (N1.loZ zs (N.n+zs.length) (zs.map N.fc) (wid N.n zs.length)) _ _:=⟨bl.g,bl.t⟩
  have i:=bX (l:=l) (show N.n<=N.n+zs.length by omega) (show N.n+zs.length<=N1.n by omega)
  have eZ:(N1.loZ zs (N.n+zs.length) (zs.map N.fc) (wid N.n zs.length)).n=N1.n:=rfl
  refine one (M:=N1.loZ zs (N.n+zs.length) (zs.map N.fc) (wid N.n zs.length)) Qo l2.mo.n (bl.is (g':=ind N.n N1.n l+eg fe l b) (t':=ind N.n N1.n l+et fe l b) ?_ ?_) (i2 hB Lv nd h3 (fun n k b=>hn n Qo b) c3) ?_ ?_
  ·rw[bU];omega
  ·rw[bU];omega
  ·simp[egD,a8.inner]
  ·simp[etD,a8.inner]
 |@rep0 N N' m b r hc hl ih=>
  intro hB Lv nd hs hn nc
  obtain⟨h1,h2,h3⟩:=crd hs
  obtain⟨c1,c2,c3⟩:=eN nc
  have z0:∀f:a8->Nat,(∀n b,f (.rep n b)=0)->((ah b).map f).sum=0:=fun f hf=>by
   have all:∀d∈ah b,f d=0:=fun d hd=>by
    have no:d.cards=[]:=List.eq_nil_iff_forall_not_mem.mpr fun y hy=>by
     have:y∈cards b:=List.mem_flatMap.mpr ⟨_,hd,hy⟩
     rw[hc]at this
     simp at this
    cases d with
    |rep n c=>exact hf n c
    |_=>simp[a8.cards,a8.names]at no
   rw[List.map_congr_left (g:=fun _=>0) all]
   clear all
   induction ah b with
   |nil=>rfl
   |cons d r ih=>rw[qR,List.sum_cons,ih]
  have e1:eg fe l b=0:=z0 _ fun _ _=>rfl
  have e2:et fe l b=0:=z0 _ fun _ _=>rfl
  refine one (M:=N) (g:=0) (t:=0) (qd _) hl.mo.n (by rw[jS];exact .refl) (ih hB Lv nd h3 hn c3) ?_ ?_
  ·simp[egD,a8.inner,e1]
  ·simp[etD,a8.inner,e2]
 |@rep N N1 N' m b zs r hc hz l1 l2 i1 i2=>
  intro hB Lv nd hs hn nc
  obtain⟨h1,h2,h3⟩:=crd hs
  obtain⟨c1,c2,c3⟩:=eN nc
  have m3:N1.n<=N'.n:=l2.mo.n
  have m0:N.n<=N1.n:=(((gK.wires _).trans cE).trans l1.mo).n
  have cL:ctN N.n∉Lv:=hn N.n (qd _) Qo
  have sz:∀z∈zs,z∈Lv:=fun z hz=>h2 z (ca (b:=b) (by simp[a8.inner]) z ((hc.mem z).mp hz))
  have cz:ctN N.n∉zs:=fun k=>cL (sz _ k)
  have nd':(Lv++[ctN N.n]).Nodup:=jG nd cL
  have nz':(zs++[ctN N.n]).Nodup:=jG hc.nd cz
  have sz':∀z∈zs++[ctN N.n],z∈Lv++[ctN N.n]:=fun z hz=>by
   rcases qg.mp hz with h|h
   ·exact qV _ (sz z h)
   ·exact qH _ h
  have eR:(N.reA m).n=N.n+2:=dO
  have eS:((N.reA m).wires zs.length).n=N.n+2+zs.length:=by rw[aS,dO]
  have nA:=eO (N:=(N.reA m).wires zs.length) (zs:=zs++[ctN N.n]) (x:=ctN N.n) (beh:=wid (N.n+2) zs.length++[(N.n:Int)])
  rw[eS]at nA
  have m1:=l1.mo.n
  have b1:=i1 Qo (Lv++[ctN N.n]) nd' (fun k hk=>by
   rw[iR]at hk
   rcases qg.mp hk with h|h
   ·exact qV _ (h2 k (ca (b:=b) (by simp[a8.inner]) k h))
   ·have:k=ctN N.n:=by simpa[bG,ctD,a8.cards,a8.names,a8.others,a8.inner,Val.names]using h
    rw[this]
    exact qH _ (qS.mpr rfl)) (fun n k b h=>by
   rcases qg.mp h with h|h
   ·exact hn n Qo b h
   ·have:=ctI _ _ b (show N.n<B by omega) (qS.mp h);omega) (fun e he=>by
   rw[cG]at he
   rcases qg.mp he with h|h
   ·exact c2 b (by simp[a8.inner]) e h
   ·have:e=ctD N.n:=by simpa[ah,a8.flat,ctD]using h
    rw[this]
    exact trivial)
  have e1:eg fe l (b++[ctD N.n])=eg fe l b:=by
   have:eg fe l (b++[ctD N.n])=eg fe l b+eg fe l [ctD N.n]:=p8 _ _ _
   rw[this]
   simp[eg,ah,a8.flat,ctD,egD]
  have e2:et fe l (b++[ctD N.n])=et fe l b:=by
   have:et fe l (b++[ctD N.n])=et fe l b+et fe l [ctD N.n]:=p8 _ _ _
   rw[this]
   simp[et,ah,a8.flat,ctD,etD]
  rw[e1,e2]at b1
  have bl:=vY (x:=ctN N.n) (b:=b) nd' nz' sz' (by simp[aG]) m1 b1
  rw[eS]at bl
  obtain⟨u1,u2⟩:=dZ (Lv:=[ctN N.n]) (l:=l) (N:=(N.line bP).wires 1) (M:=N.reA m) (p:=.wrk [(N.n:Int)] ((N.n+1:Nat):Int) "+" (.is m) (.is 0)) (zs:=[ctN N.n]) (ws:=[((N.n+1:Nat):Int)]) rfl rfl (by simp) (by simp) rfl (fun z h=>h)
  have p0:((N.line bP).wires 1).ps=N.ps:=rfl
  have f0:((N.line bP).wires 1).fc=N.fc:=rfl
  have g1:(PtG.wrk [(N.n:Int)] ((N.n+1:Nat):Int) "+" (.is m) (.is 0)).gvs=[((N.n+1:Nat):Int)]:=rfl
  have t1:(PtG.wrk [(N.n:Int)] ((N.n+1:Nat):Int) "+" (.is m) (.is 0)).tks=[(N.n:Int)]:=rfl
  rw[p0,g1,cC (n:=N.n+1) rfl]at u1
  rw[p0,f0,t1,cC (n:=N.n) rfl,cC (n:=N.n+1) rfl]at u2
  have oL:opn Lv (N.reA m).fc l=opn Lv N.fc l:=by
   unfold opn
   congr 1
   refine List.map_congr_left fun z hz=>?_
   exact eU [ctN N.n] [((N.n+1:Nat):Int)] N.fc z (fun k=>cL (by rw[<- qS.mp k];exact hz))
  have oA:∀f:aD,opn (Lv++[ctN N.n]) f l=opn Lv f l+[f (ctN N.n)].count l:=fun f=>by
   unfold opn
   rw[qO,List.count_append,List.map_singleton]
  have o1:∀f:aD,opn [ctN N.n] f l=[f (ctN N.n)].count l:=fun f=>rfl
  obtain⟨v1,v2⟩:=bl
  have pS:((N.reA m).wires zs.length).ps=(N.reA m).ps:=rfl
  have fS:((N.reA m).wires zs.length).fc=(N.reA m).fc:=rfl
  have last:(N1.loZ (zs++[ctN N.n]) (N.n+2+zs.length) ((zs++[ctN N.n]).map (N.reA m).fc) (wid (N.n+2) zs.length++[(N.n:Int)])).fc (ctN N.n)=(N.n:Int):=by
   have hm:=nB (zs++[ctN N.n]) (wid (N.n+2) zs.length++[(N.n:Int)]) N1.fc (by simp[aG]) nz'
   rw[qO,List.map_singleton]at hm
   have:=(List.append_inj hm (by simp[aG])).2
   exact(List.cons.inj this).1
  rw[pS,fS]at v2
  rw[oA,oA,last,oL,List.count_append,bU,cC (n:=N.n) rfl]at v2
  rw[pS,fS,List.count_append,bU,cC (n:=N.n) rfl]at v1
  have e12:N.n+1+1=N.n+2:=rfl
  rw[e12]at u1 u2
  rw[o1,o1,List.map_singleton]at u2
  have j1:=bX (l:=l) (show N.n<=N.n+1 by omega) (show N.n+1<=N1.n by omega)
  have j2:=bX (l:=l) (show N.n+1<=N.n+2 by omega) (show N.n+2<=N1.n by omega)
  have j3:=bX (l:=l) (show N.n+2<=N.n+2+zs.length by omega) (show N.n+2+zs.length<=N1.n by omega)
  have eZ:(N1.loZ (zs++[ctN N.n]) (N.n+2+zs.length) ((zs++[ctN N.n]).map (N.reA m).fc) (wid (N.n+2) zs.length++[(N.n:Int)])).n=N1.n:=rfl
  refine one (M:=N1.loZ (zs++[ctN N.n]) (N.n+2+zs.length) ((zs++[ctN N.n]).map (N.reA m).fc) (wid (N.n+2) zs.length++[(N.n:Int)])) (g:=eg fe l b) (t:=et fe l b) Qo l2.mo.n ⟨?_,?_⟩ (i2 hB Lv nd h3 (fun n k b=>hn n Qo b) c3) ?_ ?_
  ·rw[eZ];omega
  ·rw[eZ];omega
  ·simp[egD,a8.inner]
  ·simp[etD,a8.inner]
end Tr
namespace L2
open PySem
section
variable {P:Program}{w:World}{A:Around}{E:Qq}{s:Shared}
theorem ux:∀{vs:List Value}{zs:List Int},PyProof.Rows.IntsAre vs zs->zs.length=vs.length
 |_,_,.nil=>rfl
 |_,_,.cons _ _ r=>by rw[qz,qz,ux r]
theorem uy:∀{vs:List Value}{zs:List Int},PyProof.Rows.IntsAre vs zs->∀(i:Nat) (v:Value),vs[i]?=some v->∃k t,zs[i]?=some k/\v=.int k t
 |_,_,.nil,i,v,h=>by simp at h
 |_,_,.cons x t r,0,v,h=>by simp at h;exact⟨x,t,rfl,h.symm⟩
 |_,_,.cons x t r,i+1,v,h=>by
  simp only[List.getElem?_cons_succ]at h ⊢
  exact uy r i v h
def cI (P:Program) (w:World) (h:Heap) (a:Addr) (zs:List Int):Prop:=h.SetOf (intKind P w) a (fun k=>decide (k∈zs)) zs.length
theorem cI.keep {h h':Heap}{a:Addr}{zs:List Int}(t:cI P w h a zs) (k:∀o,h.get? a=some o->h'.get? a=some o):cI P w h' a zs:=by
 obtain⟨o,es,ep,t,h1,r⟩:=t
 exact⟨o,es,ep,t,k o h1,r⟩
theorem CA {R:Result->Shared->Prop}{I:Addr}{fp wr:List Addr}{G:Array GenState->Array GenState->Prop}{n:Nat}{PI:Nat->Value->Prop}{St:Nat->Shared->Prop}
 (W:WalksS P w A.in1 I fp wr G n PI St) (S:Addr) (hSf:S∉fp) (zs:List Int) (nd:zs.Nodup) (hz:∀i v,PI i v->∃k t,zs[i]?=some k/\v=.int k t) (hb:n+1<scanBound) (ln:zs.length=n):
 ∀(k i:Nat) (s:Shared),n-i=k->i<=n->St i s->cI P w s.heap S (zs.take i)->
  (∀s',Moved (S::wr) G s s'->cI P w s'.heap S zs->R (.ok (.ret .none)) s')->
  codeAny (model P w) A (.builtin "set.update.loop" ⟨[.ref S,.ref I],[]⟩) R s:=by
 have hSw:S∉wr:=fun z=>hSf (W.sub _ z)
 have up:∀b∈wr,b∈S::wr:=fun b z=>qj _ z
 intro k
 induction k with
 |zero=>
  intro i s hk hi hst hS hR
  obtain rfl:i=n:=Qo
  refine codeAny_builtin PyProof.Rows.F.entry_set_update_loop ?_
  rw[Around.under_plainId PyProof.Rows.F.plain_set_update_loop _]
  show wpAny _ A.in1 (pyNext (.ref I) >>= _) _ _ s
  refine q4 (W.done s _ _ hst fun s' hm=>?_)
  show wpAny _ A.in1 (ret Value.none) _ _ s'
  rw[<- ln,qG]at hS
  exact qc (hR s' (hm.mono up) (hS.keep fun o h=>hm.heap S _ hSw h))
 |succ k ih=>
  intro i s hk hi hst hS hR
  have lt:i<n:=Qo
  refine codeAny_builtin PyProof.Rows.F.entry_set_update_loop ?_
  rw[Around.under_plainId PyProof.Rows.F.plain_set_update_loop _]
  show wpAny _ A.in1 (pyNext (.ref I) >>= _) _ _ s
  refine q4 (W.item i s _ _ lt hst fun v s' hP hst' hm=>?_)
  obtain⟨z,t,hzi,rfl⟩:=hz i v hP
  have h1':cI P w s'.heap S (zs.take i):=hS.keep fun o h=>hm.heap S _ hSw h
  have tl:(zs.take i).length=i:=by rw[qJ];omega
  have e:zs.take (i+1)=zs.take i++[z]:=by rw[qq,hzi];rfl
  have nin:z∉zs.take i:=fun hm=>by
   have nd':(zs.take (i+1)).Nodup:=nd.sublist (List.take_sublist _ _)
   rw[e]at nd'
   exact(List.nodup_append.mp nd').2.2 z hm z (qS.mpr rfl) rfl
  show wpAny _ A.in1 (holding [Value.int z t] (setAdd S (.int z t)) >>= _) _ _ s'
  refine q4 (wpAny_holding ?_)
  unfold setAdd
  refine wpAny_holding ?_
  have hkey:(intKind P w).is z (.int z t)=true:=by
   show Value.isInt z (.int z t)=true
   simp[Value.isInt]
  refine q4 ((intKind P w).pyHash hkey ?_)
  refine wpAny_setAddHashed_of (s:={ s' with toks:=s'.toks+1 }) hkey rfl h1' Qo fun h' sb g1=>?_
  have g2:cI P w h' S (zs.take (i+1)):=by
   rw[qZ (by simpa using nin)]at g1
   unfold cI
   rw[e,qa]
   have:(fun k'=>decide (k'∈zs.take i++[z]))=fun k'=>(decide (k'∈zs.take i) || decide (k'=z)):=by
    funext k'
    simp[qg]
   rw[this]
   exact g1
  refine qc ⟨plainId_quiet PyProof.Rows.F.plain_set_update_loop _,ih (i+1) _ Qo lt (W.frame _ s' _ _ hst' (Nat.le_succ _) fun b hb o q=>?_) g2 fun s2 m2 S2=>?_⟩
  ·rw[sb.2 b fun z:b=S=>hSf (by rw[<- z];exact hb)]
   exact q
  ·refine hR s2 (Moved.trans W.gtrans ((hm.mono up).then_heap (Nat.le_succ _) fun b o hb q=>?_) m2) S2
   rw[sb.2 b fun z:b=S=>hb (by rw[z];exact qk)]
   exact q
set_option maxHeartbeats 3200000 in
theorem Df {l:Addr}{items:Array Value}{zs:List Int}{Q:Qq}(hh:A.handled=none) (hl:s.heap.IsList l items) (hi:PyProof.Rows.IntsAre items.toList zs) (nd:zs.Nodup) (hb:items.size+1<scanBound)
 (h:∀(h':Heap) (tk:Nat),cI P w h' s.heap.objs.size zs->(∀b o,b<s.heap.objs.size->s.heap.get? b=some o->h'.get? b=some o)->Q (.ref s.heap.objs.size) { s with heap:=h',toks:=tk }):
 wpAny (model P w) A (call (.type "set") [.ref l]) Q E s:=by
 obtain⟨c,tl,hmro⟩:=F.called_set.mro
 have hmade:=F.called_set.made
 have hsub:=F.called_set.sub
 refine wpAny_call (codeAny_of_tree ?_)
 show wpAny _ _ (callAny (.type "set") _) _ _ _
 refine qc ⟨Code.quiet_builtin _ Qd,codeAny_builtin F.entry_type_call ?_⟩
 rw[Around.under_plain (weight_type_call_type "set" [.ref l] []) rfl]
 have h1:=F.called_set.notType
 have h2:=F.called_set.canCreate
 have hct:=F.typeCall_set_1 (.ref l)
 repeat (any_goals (first|assumption|wp_step))
 refine codeAny_mono (tS (P:=P) (w:=w) (E:=E) (s:=s) (.ref l) (Q1:=fun ob s1=>ob=.ref s.heap.objs.size/\s1={ s with heap:=s.heap.push (bb w) }) ⟨rfl,rfl⟩) fun r s1 hr=>?_
 cases r with
 |error e=>exact hr
 |ok fl=>
  cases fl with
  |ret ob=>
   obtain⟨rfl,rfl⟩:=hr
   have hS:(s.heap.push (bb w)).get? s.heap.objs.size=some (bb w):=qo _ rfl
   have hT:Shared.TypeIs { s with heap:=s.heap.push (bb w) } (.ref s.heap.objs.size) "set":=⟨_,hS,rfl⟩
   have hli:=F.called_set.init.lookup
   have hbi:=F.called_set.init.bind (.ref s.heap.objs.size)
   repeat (any_goals (first|assumption|wp_step))
   refine codeAny_mono (codeAny_call_builtin (R:=wants (fun r s2=>r=.none/\∃h' tk,s2={ s with heap:=h',toks:=tk }/\cI P w h' s.heap.objs.size zs /\
    (∀b o,b<s.heap.objs.size->s.heap.get? b=some o->h'.get? b=some o)) E) F.called_set.init.plain F.entry_set_init (check_set_init_1 hT ?_)) fun r2 s2 hr2=>?_
   ·obtain⟨ol,hol,hcl,nl,hdl⟩:=hl
    obtain⟨ocls,odict,odata,oslots⟩:=ol
    simp only at hcl hdl
    subst hcl hdl
    have hol':(s.heap.push (bb w)).get? l=some { cls:=.type "list",dict:=odict,data:=.seq items nl,slots:=oslots }:=q9 _ hol
    have k1:=F.sub_list_set
    have k2:=F.sub_list_frozenset
    have k3:(Value.type "list" == Value.type "dict")=false:=Qk
    have hl1:(s.heap.push (bb w)).IsList l items:=⟨_,hol',rfl,nl,rfl⟩
    unfold Builtin.«set.__init__» noKeywords Builtin.Frozenset.updateFrom
    generalize hPI:pyIter=PI
    wp_walk
    subst hPI
    refine wpAny_pyIter_list hl1 ?_
    refine q4 (wpAny_runValue ?_)
    have lS:l<s.heap.objs.size:=qp hol
    have hh3:A.in1.in1.in1.handled=none:=by simp[hh]
    have neI:l≠(s.heap.push (bb w)).objs.size:=by rw[Heap.size_push];exact qF (Nat.lt_succ_of_lt lS)
    have nin:s.heap.objs.size∉[(s.heap.push (bb w)).objs.size,l]:=by
     rw[Heap.size_push]
     simp only[qt,qQ,or_false,not_or]
     exact⟨qF (Nat.lt_succ_self _),Nat.ne_of_gt lS⟩
    have hz:∀(i:Nat) (v:Value),items[i]?=some v->∃k t,zs[i]?=some k/\v=.int k t:=fun i v hv=>uy hi i v (by rw[qT];exact hv)
    have lz:zs.length=items.size:=by rw[<- qL];exact ux hi
    have t0:cI P w ((s.heap.push (bb w)).push { cls:=.type "list_iterator",data:=.fields #[.ref l,rawInt 0] }) s.heap.objs.size (zs.take 0):=by
     obtain⟨o,ho,hso⟩:∃o,(s.heap.push (bb w)).get? s.heap.objs.size=some o/\o.SetObjOf (intKind P w) (fun _=>false) 0:=⟨_,hS,PyProof.Rows.setObjOf_fresh _⟩
     have:(fun k:Int=>decide (k∈zs.take 0))=fun _=>false:=by funext k;simp
     unfold cI
     rw[this]
     exact hso.setOf (q9 _ ho) (by unfold scanBound;decide)
    refine CA ((Walks.list hh3 _ l neI items).toS) s.heap.objs.size nin zs nd hz hb lz (items.size-0) 0 _ Qo (qr _) ⟨⟨_,qo _ rfl,rfl,rfl⟩,(hl1.push _)⟩ t0 fun s' hm hS'=>?_
    obtain⟨h',g',d',tk',os'⟩:=s'
    have eg:g'=s.gens:=hm.gens
    have ed:d'=s.drawn:=hm.drawn
    have eo:os'=s.os:=hm.os
    subst eg ed eo
    refine qc ?_
    refine qc ⟨rfl,h',tk',rfl,hS',fun b o hb e=>?_⟩
    have n1:b≠s.heap.objs.size:=qF hb
    have n2:b≠(s.heap.push (bb w)).objs.size:=by rw[Heap.size_push];exact qF (Nat.lt_succ_of_lt hb)
    exact hm.heap b o (by simp only[qt,qQ,or_false,not_or];exact⟨n1,n2⟩) (q9 _ (q9 _ e))
   ·cases r2 with
    |error e=>exact hr2
    |ok fl2=>
     cases fl2 with
     |ret r=>
      obtain⟨rfl,h',tk,rfl,g1,hk⟩:=hr2
      repeat (any_goals (first|assumption|wp_step))
      exact h _ _ g1 hk
     |_=>exact hr2.elim
  |_=>exact hr.elim
end
open PySem.Spec PyProof.Rows
def g9 (P:Program) (w:World) (a:Addr) (ys:List Int):HO:=.ext fun h=>cI P w h a ys
theorem g9.ok {P:Program}{w:World}{H:Hp}{h:Heap}{a:Addr}{ys:List Int}(T:cI P w h a ys):bq P w H h a (g9 P w a ys):=by
 obtain⟨o,es,ep,t,e,r⟩:=T
 exact⟨⟨o,es,ep,t,e,r⟩,⟨_,e⟩,fun h1 h2 T k=>T.keep fun o q=>k _ q⟩
section
variable {X:Cx}
theorem vN (hc:X.calm=true):bT X (.type "set") (fun xs H Q=>∃p ys,xs=[.ref p]/\SqL X.K H p (ys.map V.int)/\ys.Nodup/\ys.length<4000/\∀l,H l=none->Q (.ref l) (upd H l (g9 X.prog X.w l ys))):=by
 intro pins s σ H xs us Q I r h
 obtain⟨p,ys,rfl,hq,nd,hz,q⟩:=h
 obtain⟨u,rfl,rx⟩:=dw r
 cases rx
 obtain⟨its,r',pl,_⟩:=I.list hq
 have hlen:=r'.length
 rw[q5]at hlen
 refine Df (I.ok.hd hc) pl.isList (zs:=ys) (by simpa using uw r') nd (by simp only[qA];unfold scanBound;omega) fun h' tk T k=>?_
 have kp:∀b o,s.heap.get? b=some o->h'.get? b=some o:=fun b o q=>k b o (qp q) q
 exact⟨.ref s.heap.objs.size,_,I.laid (t':=tk) kp (qd _) (g9.ok T),rfl,q _ (I.hok.fresh (qd _))⟩
theorem vO:bT X (.builtin "len") (fun xs H Q=>∃(p:Addr) (ys:List Int),xs=[.ref p]/\H p=some (g9 X.prog X.w p ys)/\Q (.int ys.length) H):=by
 intro pins s σ H xs us Q I r h
 obtain⟨p,ys,rfl,hq,q⟩:=h
 obtain⟨u,rfl,rx⟩:=dw r
 cases rx
 obtain⟨⟨o,es,ep,t,e,hex,hd,_,_,few,fit,n⟩,_,_⟩:=I.hok p _ hq
 have fw:es.size<=sizeLine:=fits_of_scanBound few
 have l63:=gQ
 rw[<- n]at q
 exact PySem.call_len_set e hex hd fit Qo ⟨.int es.size,H,I.tok _,⟨_,rfl⟩,q⟩
end
end L2
namespace Tr
open PySem PySem.Spec PyProof.Rows L2
set_option linter.all false
structure fW (e:Nat) (p:PtG):Prop where
 g:p.gvs.length<=64
 t:p.tks.length<=64
 gc:∀l:Int,l<(e:Int)->p.gvs.count l<=1
 tc:∀l:Int,l<(e:Int)->p.tks.count l<=1
theorem fO {e:Nat}{xs:List Int}{l:Int}(h:∀x∈xs,(e:Int)<=x) (k:l<(e:Int)):xs.count l=0:=List.count_eq_zero.mpr fun z=>by have:=h l z;omega
theorem fW.of {e:Nat}{p:PtG}(g:p.gvs.length<=64) (t:p.tks.length<=64) (hg:∀x∈p.gvs,(e:Int)<=x) (ht:∀x∈p.tks,(e:Int)<=x):fW e p:=⟨g,t,fun l k=>by rw[fO hg k];omega,fun l k=>by rw[fO ht k];omega⟩
def bz (e:Nat) (N:af):Prop:=∀p∈N.ps,fW e p
theorem bz.part {e:Nat}{N:af}{p:PtG}(h:bz e N) (hp:fW e p):bz e (N.part p):=fun q hq=>by
 rcases qg.mp hq with h'|h'
 ·exact h q h'
 ·rw[qS.mp h'];exact hp
def Ge (e:Nat) (Lv:List Str) (N:af):Prop:=e<=N.n/\∀z∈Lv,(e:Int)<=N.fc z
theorem Ge.mo {e:Nat}{Lv:List Str}{N N':af}(h:Ge e Lv N) (m:Mo N N'):Ge e Lv N':=⟨qx h.1 m.n,fun z hz=>by
 rcases m.f z with k|k
 ·rw[k];exact h.2 z hz
 ·have:=h.1;omega⟩
theorem dv {e n k:Nat}(h:e<=n):∀x∈wid n k,(e:Int)<=x:=fun x hx=>by have:=(ba hx).1;omega
theorem iE {e:Nat}{Lv zs:List Str}{N:af}(h:Ge e Lv N) (s:∀z∈zs,z∈Lv):∀x∈zs.map N.fc,(e:Int)<=x:=fun x hx=>by
 obtain⟨z,hz,rfl⟩:=List.mem_map.mp hx
 exact h.2 z (s z hz)
theorem dq {e:Nat}{a b:List Int}(h:∀x∈a,(e:Int)<=x) (k:∀x∈b,(e:Int)<=x):∀x∈a++b,(e:Int)<=x:=fun x hx=>(qg.mp hx).elim (h x) (k x)
theorem cu {e:Nat}{a:Int}(h:(e:Int)<=a):∀x∈[a],(e:Int)<=x:=fun x hx=>by rw[qS.mp hx];exact h
theorem wj {e:Nat}{Lv:List Str}{N:af}{x:Str}(h:bz e N) (g:Ge e Lv N) (hx:x∈Lv):bz e (N.fork x):=bz.part (N:=N.wires 2) h (.of (by show(wid N.n 2).length<=_;rw[aG];decide) (by show[N.fc x].length<=_;simp) (dv g.1) (cu (g.2 x hx)))
theorem wg {e:Nat}{Lv:List Str}:∀(rs:List Str) {N:af},bz e N->Ge e Lv N->(∀r∈rs,r∈Lv)->bz e (rs.foldl af.fork N)
 |[],N,h,_,_=>h
 |r::rs,N,h,g,s=>wg rs (wj h g (s r qk)) (g.mo jI) fun z hz=>s z (qj _ hz)
theorem wf {e:Nat}{Lv:List Str}{N:af}{c x:Str}{n:Int}(h:bz e N) (g:Ge e Lv N) (hc:c∈Lv) (hx:x∈Lv):bz e (N.hand c x n):=by
 refine bz.part (N:=(N.fork x).wires 1) (wj h g hx) ⟨by show[((N.fork x).n:Int),n].length<=_;simp,by show[N.fc c,(N.n:Int)].length<=_;simp,fun l k=>?_,fun l k=>?_⟩
 ·show([((N.fork x).n:Int)]++[n]).count l<=1
  have h1:[((N.fork x).n:Int)].count l=0:=fO (e:=e) (cu (by have:=(g.mo (jI (x:=x))).1;omega)) k
  rw[List.count_append,h1,List.count_singleton]
  split<;>omega
 ·show([N.fc c]++[(N.n:Int)]).count l<=1
  rw[fO (e:=e) (dq (cu (g.2 c hc)) (cu (by have:=g.1;omega))) k]
  omega
theorem Dw {e:Nat}{Lv:List Str}{N:af}{c x:Str}{n:Int}(h:bz e N) (g:Ge e Lv N) (hc:c∈Lv) (hx:x∈Lv):bz e (N.get c x n):=by
 refine bz.part (N:=N.wires 2) h ⟨by show(wid N.n 2).length<=_;rw[aG];decide,by show[N.fc c,N.fc x,n].length<=_;simp,fun l k=>?_,fun l k=>?_⟩
 ·show(wid N.n 2).count l<=1
  rw[fO (e:=e) (dv g.1) k]
  omega
 ·show([N.fc c]++([N.fc x]++[n])).count l<=1
  rw[List.count_append,List.count_append,fO (e:=e) (cu (g.2 c hc)) k,fO (e:=e) (cu (g.2 x hx)) k,List.count_singleton]
  split<;>omega
theorem we {e:Nat}{Lv:List Str}{S:af}{zs:List Str}{x:Str}{beh:List Int}(h:bz e S) (g:Ge e Lv S) (few:zs.length<=21) (eb:beh.length=zs.length) (hb:∀w∈beh,(e:Int)<=w):bz e (S.loA zs x beh):=by
 have g1:=g.1
 refine bz.part (N:=((S.line bP).wires zs.length).wires zs.length) h (.of ?_ ?_ ?_ ?_)
 ·show(wid (S.n+1+zs.length) zs.length++beh++[(S.n:Int)]).length<=64
  rw[qa,qa,aG,eb]
  show _+1<=_
  omega
 ·show(wid (S.n+1) zs.length).length<=64
  rw[aG]
  omega
 ·exact dq (dq (dv Qo) hb) (cu Qo)
 ·exact dv Qo
theorem wc {e:Nat}{Lv:List Str}{S N:af}{zs:List Str}{beh:List Int}(h:bz e N) (g:Ge e Lv S) (g':Ge e Lv N) (few:zs.length<=21) (s:∀z∈zs,z∈Lv) (f:aD) (hf:∀z∈zs,(e:Int)<=f z):bz e (N.loZ zs S.n (zs.map f) beh):=by
 have g1:=g.1
 refine bz.part (N:=N) h (.of ?_ ?_ ?_ ?_)
 ·show(wid (S.n+1) zs.length).length<=64
  rw[aG]
  omega
 ·show([(S.n:Int)]++zs.map N.fc++zs.map f).length<=64
  rw[qa,qa,q5,q5]
  show 1+_+_<=_
  omega
 ·exact dv Qo
 ·refine dq (dq (cu Qo) (iE g' s)) fun y hy=>?_
  obtain⟨z,hz,rfl⟩:=List.mem_map.mp hy
  exact hf z hz
theorem Lay.allP {fe:aD}{e:Nat}{N N':af}{ds:List a8}(h:Lay fe N ds N'):∀Lv:List Str,(∀k∈cards ds,k∈Lv)->Ge e Lv N->bz e N->bz e N':=by
 have crd:∀{d:a8}{r:List a8}{Lv:List Str},(∀k∈cards (d::r),k∈Lv)->(∀k∈d.cards,k∈Lv)/\(∀k∈cards [d],k∈Lv)/\∀k∈cards r,k∈Lv:=fun{d r Lv} h=>by
  rw[dG]at h
  have h2:∀k∈cards [d],k∈Lv:=fun k hk=>h k (qV _ hk)
  exact⟨fun k hk=>h2 k (by rw[bG];exact qV _ hk),h2,fun k hk=>h k (qH _ hk)⟩
 induction h with
 |nil=>exact fun _ _ _ h=>h
 |@set N N' x va sg vb rs r hr hl ih=>
  intro Lv hs g a
  obtain⟨h1,h2,h3⟩:=crd hs
  have rsL:∀r∈rs,r∈Lv:=fun r k=>h1 r (by
   have:=((hr.mem r).mp k).1
   unfold a8.cards a8.names
   exact qV _ (qj _ (qg.mpr this)))
  have gf:=g.mo (gO rs N)
  have rf:=hr.few
  refine ih Lv h3 (g.mo gJ) (bz.part (N:=(rs.foldl af.fork N).wires 1) (wg rs a g rsL) (.of (by show[((rs.foldl af.fork N).n:Int)].length<=_;simp) ?_ (cu (by have:=gf.1;omega)) ?_))
  ·show([N.fc x]++bw N.n rs.length).length<=64
   rw[qa]
   unfold bw
   rw[q5,List.length_range]
   show 1+_<=_
   omega
  ·refine dq (a:=[N.fc x]) (cu (g.2 x (h1 x (by simp[a8.cards,a8.names])))) fun y hy=>?_
   unfold bw at hy
   obtain⟨i,_,rfl⟩:=List.mem_map.mp hy
   have:=g.1
   omega
 |@put N N' q x r hl ih=>
  intro Lv hs g a
  obtain⟨h1,h2,h3⟩:=crd hs
  exact ih Lv h3 (g.mo cY) (wf a g (h1 _ (by simp[a8.cards,a8.others])) (h1 _ (by simp[a8.cards,a8.names])))
 |@give N N' x r hl ih=>
  intro Lv hs g a
  obtain⟨h1,h2,h3⟩:=crd hs
  exact ih Lv h3 (g.mo cY) (wf a g (h1 _ (by simp[a8.cards,a8.others])) (h1 _ (by simp[a8.cards,a8.names])))
 |@get N N' q x r hl ih=>
  intro Lv hs g a
  obtain⟨h1,h2,h3⟩:=crd hs
  exact ih Lv h3 (g.mo gN) (Dw a g (h1 _ (by simp[a8.cards,a8.others])) (h1 _ (by simp[a8.cards,a8.names])))
 |@cond N N1 N2 N' x t o zs r hc l1 l2 l3 i1 i2 i3=>
  intro Lv hs g a
  obtain⟨h1,h2,h3⟩:=crd hs
  have sz:∀z∈zs,z∈Lv:=fun z hz=>h2 z ((hc.mem z).mp hz)
  have few:=hc.few
  have g0:=g.1
  have aA:bz e (N.ifA zs x):=by
   refine bz.part (N:=((N.wires zs.length).wires zs.length).line aQ) a (.of ?_ ?_ ?_ ?_)
   ·show(wid N.n zs.length++wid (N.n+zs.length) zs.length++[((N.n+zs.length+zs.length:Nat):Int)]).length<=64
    rw[qa,qa,aG,aG]
    show _+1<=_
    omega
   ·show(zs.map N.fc).length<=64
    rw[q5]
    omega
   ·exact dq (dq (dv Qo) (dv Qo)) (cu Qo)
   ·exact iE g sz
  have gA:=g.mo (gL (zs:=zs) (x:=x))
  have a1:=i1 Lv (fun k hk=>h2 k (ca (by simp[a8.inner]) k hk)) gA aA
  have m1:Mo N N1:=gL.trans l1.mo
  have mL:Mo N (N1.lead zs (wid (N.n+zs.length) zs.length)):=m1.lead fun w hw=>by have:=(ba hw).1;omega
  have a2:=i2 Lv (fun k hk=>h2 k (ca (by simp[a8.inner]) k hk)) (g.mo mL) a1
  have g2:=g.mo (mL.trans l2.mo)
  refine i3 Lv h3 (g2.mo jH) (bz.part (N:=N2.wires zs.length) a2 (.of ?_ ?_ ?_ ?_))
  ·show(wid N2.n zs.length).length<=64
   rw[aG]
   omega
  ·show([((N.n+zs.length+zs.length:Nat):Int)]++zs.map N1.fc++zs.map N2.fc).length<=64
   rw[qa,qa,q5,q5]
   show 1+_+_<=_
   omega
  ·exact dv g2.1
  ·exact dq (dq (cu Qo) (iE (g.mo m1) sz)) (iE g2 sz)
 |@whl N N1 N' x b zs r hc l1 l2 i1 i2=>
  intro Lv hs g a
  obtain⟨h1,h2,h3⟩:=crd hs
  have sz:∀z∈zs,z∈Lv:=fun z hz=>h2 z ((hc.mem z).mp hz)
  have few:=hc.few
  have gS:Ge e Lv (N.wires zs.length):=g.mo (Mo.refl.wires _)
  have aA:=we (x:=x) (beh:=wid N.n zs.length) (S:=N.wires zs.length) a gS Qo (aG _ _) (dv g.1)
  have a1:=i1 Lv (fun k hk=>h2 k (ca (by simp[a8.inner]) k hk)) (gS.mo cE) aA
  have m1:Mo N N1:=((Mo.refl.wires _).trans cE).trans l1.mo
  have aZ:=wc (S:=N.wires zs.length) (beh:=wid N.n zs.length) a1 gS (g.mo m1) Qo sz N.fc fun z hz=>g.2 z (sz z hz)
  rw[aS]at aZ
  exact i2 Lv h3 (g.mo (eT m1 fun w hw=>(ba hw).1)) aZ
 |rep0 _ _ ih=>
  intro Lv hs g a
  exact ih Lv (crd hs).2.2 g a
 |@rep N N1 N' m b zs r hc hz l1 l2 i1 i2=>
  intro Lv hs g a
  obtain⟨h1,h2,h3⟩:=crd hs
  have sz:∀z∈zs,z∈Lv:=fun z hz=>h2 z (ca (b:=b) (by simp[a8.inner]) z ((hc.mem z).mp hz))
  have few:=hc.few
  have g0:=g.1
  have zl:(zs++[ctN N.n]).length=zs.length+1:=by simp
  have gR:Ge e (Lv++[ctN N.n]) (N.reA m):=⟨by rw[dO];omega,fun z hz=>by
   have k:(N.reA m).fc z=N.fc z\/(N.reA m).fc z∈[((N.n+1:Nat):Int)]:=gU [ctN N.n] [((N.n+1:Nat):Int)] N.fc z
   have k2:z=ctN N.n->(N.reA m).fc z∈[((N.n+1:Nat):Int)]:=fun ez=>dk [ctN N.n] [((N.n+1:Nat):Int)] N.fc z rfl (qS.mpr ez)
   rcases qg.mp hz with h|h
   ·rcases k with k|k
    ·rw[k];exact g.2 z h
    ·have:=qS.mp k;omega
   ·have:=qS.mp (k2 (qS.mp h));omega⟩
  have gS:Ge e (Lv++[ctN N.n]) ((N.reA m).wires zs.length):=gR.mo (Mo.refl.wires _)
  have sz':∀z∈zs++[ctN N.n],z∈Lv++[ctN N.n]:=fun z hz=>by
   rcases qg.mp hz with h|h
   ·exact qV _ (sz z h)
   ·exact qH _ h
  have aR:bz e (N.reA m):=bz.part (N:=(N.line bP).wires 1) a (.of (by show[((N.n+1:Nat):Int)].length<=_;simp) (by show[(N.n:Int)].length<=_;simp) (cu Qo) (cu Qo))
  have bh:∀w∈wid (N.n+2) zs.length++[(N.n:Int)],(e:Int)<=w:=dq (dv Qo) (cu Qo)
  have aA:=we (x:=ctN N.n) (zs:=zs++[ctN N.n]) (beh:=wid (N.n+2) zs.length++[(N.n:Int)]) (S:=(N.reA m).wires zs.length) aR gS Qo (by rw[qa,aG,zl];rfl) bh
  have a1:=i1 (Lv++[ctN N.n]) (fun k hk=>by
   rw[iR]at hk
   rcases qg.mp hk with h|h
   ·exact qV _ (h2 k (ca (b:=b) (by simp[a8.inner]) k h))
   ·have:k=ctN N.n:=by simpa[bG,ctD,a8.cards,a8.names,a8.others,a8.inner,Val.names]using h
    rw[this]
    exact qH _ (qS.mpr rfl)) (gS.mo cE) aA
  have aZ:=wc (S:=(N.reA m).wires zs.length) (beh:=wid (N.n+2) zs.length++[(N.n:Int)]) a1 gS ((gS.mo cE).mo l1.mo) Qo sz' (N.reA m).fc fun z hz=>gR.2 z (sz' z hz)
  rw[aS,dO]at aZ
  exact i2 Lv h3 (g.mo (eT (((gK.wires _).trans cE).trans l1.mo) iU)) aZ
end Tr
namespace L2
open PySem PySem.Spec PyProof.Rows
theorem tz {X:Cx}{K:PySem.W.Frag}(e:X.K=K) (hu:X.A.units+64<cLine):OpR X (compareOp .Eq) (fun x y H Q=>∃d e,Dt K H x d/\Dt K H y e/\SeqAt.shaped d=true/\SeqAt.shaped e=true/\Q (.bl (PyData.eqv d e)) H):=by
 subst e
 exact Ae hu
end L2
namespace Tr
open PySem PySem.Spec PyProof.Rows L2 PySem.NumText
theorem o9 {n:Nat}(h:n<10000000000):AllDigits (ctN n).cps.toList/\digitsVal (ctN n).cps.toList=n/\1<=(ctN n).length:=by
 have:=AY (n:=(n:Int)) Qo Qo
 exact⟨this.2.2.1,by rw[<- qX n];exact this.2.2.2.1,this.1⟩
theorem CY:∀m n:Nat,m<10000000000->n<10000000000->ctN m=ctN n->m=n:=fun m n hm hn e=>by
 have h1:=(o9 hm).2.1
 have h2:=(o9 hn).2.1
 rw[e]at h1
 omega
def fZ (z:Str):Bool:=z.cps.toList.any fun c=>!(decide (48<=c) && decide (c<=57))
theorem CW {n:Nat}{z:Str}(h:n<10000000000) (k:fZ z=true):ctN n≠z:=fun e=>by
 obtain⟨c,hc,hk⟩:=List.any_eq_true.mp k
 rw[<- e]at hc
 have:=(o9 h).1 c hc
 simp only[Bool.not_eq_true',Bool.and_eq_false_iff,decide_eq_false_iff_not]at hk
 omega
end Tr
namespace HT
open PySem PyProof.Rows
section
variable {prog:Program}{w:World}{A:Around}{E:Qq}{s:Shared}
theorem getItem_tuple_all {t sl:Addr}{items:Array Value}{vl vu:Value}{lo hi:Option Int}{Q:Qq}(ht:IsTup s.heap t items) (hs:s.heap.IsSliceOf sl vl vu .none) (pl:IsPart vl lo) (pu:IsPart vu hi)
 (hw:sIx items.size 0 lo=0/\sIx items.size items.size hi=items.size) (h:Q (.ref t) s):wpAny (model prog w) A (getItem (.ref t) (.ref sl)) Q E s:=by
 obtain⟨os,hos,hcs,hds⟩:=id hs
 have hTs:s.TypeIs (.ref sl) "slice":=⟨os,hos,hcs⟩
 unfold getItem
 try with_reducible refine wpAny_holding ?_
 first|refine q4 (qc ?_)|skip
 refine q4 (wpAny_sequenceKey ht.typeIs Qk ?_)
 refine q4 (wpAny_callSpecial?_slot (name:=Str.ofString "__getitem__") ht.typeIs PyProof.Rows.slot_tuple_getitem
  (wpAny_call_entry PyProof.Rows.slot_tuple_getitem ht.typeIs entry_tuple_getitem ?_ (args_tuple_getitem _ _)))
 show wpAny _ _ (Builtin.Tuple.tupleItemsOf (.ref t) >>= _) _ _ s
 refine q4 (tupleItemsOf_ ht ?_)
 refine q4 (wpAny_typeOf hTs ?_)
 rw[Q0 Qk]
 refine q4 (rK hs pl pu ?_)
 rw[hw.1,hw.2]
 have yes:((((0:Nat):Int) == 0 && (1:Int) == 1 && (items.size-0) == items.size)=true):=by simp
 show wpAny _ _ (if(((0:Nat):Int) == 0 && (1:Int) == 1 && (items.size-0) == items.size)=true then _ else _) _ _ s
 rw[Q0 yes]
 refine q4 (m:=Builtin.Tuple.tupleIsExact _) (q4 (wpAny_typeOf ht.typeIs (qc ?_)))
 rw[Q0 Qk]
 exact q4 (wpAny_rule (q4 (qc (qc ⟨_,rfl,qc h⟩))))
end
end HT
namespace L2
open PySem PySem.Spec PyProof.Rows
section
variable {X:Cx}
def yP (K:PySem.W.Frag):V->Option Int->Option Int->Hp->VK->Prop:=fun x lo hi H Q=>∃a xs,x=.ref a/\SqT K H a xs/\∀p G,aa H G->SqT K G p (cA xs lo hi)->Q (.ref p) G
theorem rL {K:PySem.W.Frag}(e:X.K=K):SlR X (yP K):=by
 subst e
 intro pins s σ H x v vl vu lo hi sl Q I rx hs pl pu h
 obtain⟨a,xs,rfl,hx,h1⟩:=h
 by_cases hw:HT.sIx xs.length 0 lo=0/\HT.sIx xs.length xs.length hi=xs.length
 ·cases rx
  obtain⟨its,r,ht,hz⟩:=I.tuple hx
  have hlen:its.toArray.size=xs.length:=by rw[qA];exact r.length.symm
  refine⟨"tuple",_,PyProof.Rows.slot_tuple_getitem.lookup,ht.typeIs,?_⟩
  refine HT.getItem_tuple_all ht hs pl pu (by rw[hlen];exact hw) ⟨.ref a,_,I,rfl,h1 a H (aa.refl H) ?_⟩
  have ec:cA xs lo hi=xs:=by
   unfold cA
   rw[hw.1,hw.2,List.drop_zero,Nat.sub_zero,qG]
  rw[ec]
  exact hx
 ·exact rM pins s σ H _ v vl vu lo hi sl Q I rx hs pl pu ⟨a,xs,rfl,hx,hw,fun p hp=>h1 p _ (aa.new hp _) (SqT.of ae)⟩
end
end L2
namespace Tr
open PySem PySem.Spec PyProof.Rows L2
def knd:a8->Str
 |.set _ _ _ _=>"set"
 |.put _ _=>"put"
 |.get _ _=>"get"
 |.give _=>"give"
 |.cond _ _ _=>"if"
 |.whl _ _=>"while"
 |.rep _ _=>"repeat"
def sec:a8->PyData
 |.set x _ _ _=>.str x
 |.put q _=>.str q
 |.get q _=>.str q
 |.give x=>.str x
 |.cond x _ _=>.str x
 |.whl x _=>.str x
 |.rep n _=>.int n
def d0 (nm:Str):a8->Bool
 |.put q _=>decide (q=nm)
 |_=>false
def d6 (nm:Str):a8->Bool
 |.get q _=>decide (q=nm)
 |_=>false
def dn:a8->Bool
 |.give _=>true
 |_=>false
theorem RD.two {H:Hp}{v:V}{d:a8}(h:RD H v d):∃t y r,v=.ref t/\H t=some (.tup (.str (knd d)::y::r))/\((∃s,y=.str s/\sec d=.str s/\s∈d.strs)\/∃n,y=.int n/\sec d=.int n):=by
 cases h with
 |set h=>exact⟨_,_,_,rfl,h,.inl ⟨_,rfl,rfl,by simp[a8.strs]⟩⟩
 |put h=>exact⟨_,_,_,rfl,h,.inl ⟨_,rfl,rfl,by simp[a8.strs]⟩⟩
 |get h=>exact⟨_,_,_,rfl,h,.inl ⟨_,rfl,rfl,by simp[a8.strs]⟩⟩
 |give h=>exact⟨_,_,_,rfl,h,.inl ⟨_,rfl,rfl,by simp[a8.strs]⟩⟩
 |cond h _ _=>exact⟨_,_,_,rfl,h,.inl ⟨_,rfl,rfl,by simp[a8.strs]⟩⟩
 |whl h _=>exact⟨_,_,_,rfl,h,.inl ⟨_,rfl,rfl,by simp[a8.strs]⟩⟩
 |rep h _=>exact⟨_,_,_,rfl,h,.inr ⟨_,rfl,rfl⟩⟩
theorem vh (a b:Str) (x y:PyData):PyData.eqv (.tuple [.str a,x]) (.tuple [.str b,y])=(decide (a=b) && PyData.eqv x y):=by
 show(PyData.eqv (.str a) (.str b) && (PyData.eqv x y && true))=_
 rw[Bool.and_true]
 rfl
theorem vi (a b:Str):PyData.eqv (.str a) (.str b)=decide (a=b):=rfl
theorem wM (d:a8) (nm:Str):PyData.eqv (.tuple [.str (knd d),sec d]) (.tuple [.str "put",.str nm])=d0 nm d:=by
 rw[vh]
 cases d with
 |put q x=>
  show(decide (("put":Str)="put") && PyData.eqv (.str q) (.str nm))=decide (q=nm)
  rw[vi,decide_eq_true rfl,Bool.true_and]
 |_=>
  show(decide ((_:Str)="put") && _)=false
  rw[decide_eq_false (by dsimp only[knd];decide +kernel),Bool.false_and]
theorem wN (d:a8) (nm:Str):PyData.eqv (.tuple [.str (knd d),sec d]) (.tuple [.str "get",.str nm])=d6 nm d:=by
 rw[vh]
 cases d with
 |get q x=>
  show(decide (("get":Str)="get") && PyData.eqv (.str q) (.str nm))=decide (q=nm)
  rw[vi,decide_eq_true rfl,Bool.true_and]
 |_=>
  show(decide ((_:Str)="get") && _)=false
  rw[decide_eq_false (by dsimp only[knd];decide +kernel),Bool.false_and]
theorem BV (d:a8):decide (knd d=("give":Str))=dn d:=by
 cases d with
 |give x=>exact decide_eq_true rfl
 |_=>exact decide_eq_false (by dsimp only[knd];decide +kernel)
theorem fN {f:a8->Bool}{g:a8->Nat}:∀{L:List a8},(∀d∈L,g d=if f d=true then 1 else 0)->(L.filter f).length=(L.map g).sum
 |[],_=>rfl
 |d::r,h=>by
  have ih:=fN (L:=r) fun e he=>h e (qj _ he)
  have hd:=h d qk
  rw[qR,List.sum_cons,hd,<- ih]
  by_cases e:f d=true
  ·rw[List.filter_cons_of_pos e,qz,Q0 e];omega
  ·rw[List.filter_cons_of_neg e,qZ e];omega
end Tr
set_option Elab.async false
set_option maxRecDepth 100000
set_option maxHeartbeats 4000000
namespace K31
open PySem L2 Tr
seal PE PT PW PA PS PSs PG PGs PI PTs PO OpR UnR bT DC IxR SlR
local macro_rules|`(tactic| walk_at "rds")=>`(tactic| first|assumption|decide|omega)
local macro_rules|`(tactic| walk_at "rd")=>`(tactic| repeat (first|refine⟨_,rfl,?_⟩|refine⟨_,_,rfl,rfl,?_⟩|refine⟨rfl,_,rfl,?_⟩|refine⟨_,_,rfl,rfl,by walk_at "rds",?_⟩|refine And.intro (by walk_at "rds") ?_))
local macro_rules|`(tactic| walk_at "yes")=>`(tactic| refine bY (by decide +kernel) ?_)
local macro_rules|`(tactic| walk_at "no")=>`(tactic| refine bi (by decide +kernel) ?_)
abbrev kZ:Stmt:=top 3
abbrev kR:Stmt:=top 4
abbrev lJ:Stmt:=top 5
abbrev lH:Stmt:=top 6
abbrev jm:Stmt:=top 7
abbrev kU:Stmt:=top 8
abbrev kS:Stmt:=top 12
abbrev kX:Stmt:=top 13
abbrev kW:Stmt:=top 14
abbrev lE:Stmt:=top 15
abbrev lF:Stmt:=top 16
abbrev jp:Stmt:=top 19
abbrev lZ:Stmt:=inClass (top 21) 0
abbrev lY:Stmt:=inClass (top 21) 1
abbrev ju:Stmt:=inClass (top 21) 2
abbrev lX:Stmt:=inClass (top 21) 3
abbrev jt:Stmt:=inClass (top 21) 4
abbrev lW:Stmt:=inClass (top 21) 5
abbrev lI:Stmt:=top 22
abbrev lj:Stmt:=top 24
abbrev lB:Stmt:=top 25
abbrev jo:Stmt:=top 26
abbrev kT:Stmt:=top 27
abbrev lx:Stmt:=top 28
abbrev ly:Stmt:=top 29
abbrev kY:Stmt:=top 31
abbrev lD:Stmt:=top 32
abbrev li:Stmt:=top 33
abbrev lw:Stmt:=top 34
abbrev lh:Stmt:=top 35
abbrev lm:Stmt:=top 36
abbrev lq:Stmt:=top 37
abbrev gx:Stmt:=top 39
abbrev lQ:Stmt:=top 40
abbrev lM:Stmt:=top 41
abbrev lP:Stmt:=top 42
abbrev lO:Stmt:=top 43
abbrev lV:Stmt:=top 44
abbrev jq:Stmt:=top 45
abbrev jr:Stmt:=top 46
abbrev lN:Stmt:=top 47
abbrev lR:Stmt:=top 48
abbrev lT:Stmt:=top 49
abbrev lK:Stmt:=top 50
abbrev lU:Stmt:=top 51
abbrev gy:Stmt:=top 52
abbrev fq:Stmt:=top 53
theorem kL:aN ["block","names","deed"] ["block"] (aB kZ):=⟨rfl,rfl,rfl,Qd,rfl,Qd,Qd⟩
theorem yj:aN ["program"] ["program"] (aB kR):=⟨rfl,rfl,rfl,Qd,rfl,Qd,Qd⟩
theorem ie:aN ["block","found","deed","inner"] ["block"] (aB lJ):=⟨rfl,rfl,rfl,Qd,rfl,Qd,Qd⟩
theorem yr:aN ["deed"] ["deed"] (aB lH):=⟨rfl,rfl,rfl,Qd,rfl,Qd,Qd⟩
theorem rW:aN ["deed","kind"] ["deed"] (aB jm):=⟨rfl,rfl,rfl,Qd,rfl,Qd,Qd⟩
theorem ym:aN ["deed"] ["deed"] (aB kU):=⟨rfl,rfl,rfl,Qd,rfl,Qd,Qd⟩
theorem kK:aN ["block","cards","deed"] ["block"] (aB kS):=⟨rfl,rfl,rfl,Qd,rfl,Qd,Qd⟩
theorem yo:aN ["deed"] ["deed"] (aB kX):=⟨rfl,rfl,rfl,Qd,rfl,Qd,Qd⟩
theorem yn:aN ["store"] ["store"] (aB kW):=⟨rfl,rfl,rfl,Qd,rfl,Qd,Qd⟩
theorem yq:aN ["store"] ["store"] (aB lE):=⟨rfl,rfl,rfl,Qd,rfl,Qd,Qd⟩
theorem ji:aN ["program","cards","store","length"] ["program"] (aB lF):=⟨rfl,rfl,rfl,Qd,rfl,Qd,Qd⟩
theorem jj:aN ["program","numbers","begun","name","number"] ["program","numbers"] (aB jp):=⟨rfl,rfl,rfl,Qd,rfl,Qd,Qd⟩
theorem yC:aN ["self"] ["self"] (aB lZ):=⟨rfl,rfl,rfl,Qd,rfl,Qd,Qd⟩
theorem yB:aN ["self","length","first"] ["self","length","first"] (aB lY):=⟨rfl,rfl,rfl,Qd,rfl,Qd,Qd⟩
theorem yz:aN ["self","count"] ["self","count"] (aB ju):=⟨rfl,rfl,rfl,Qd,rfl,Qd,Qd⟩
theorem yA:aN ["self","part"] ["self","part"] (aB lX):=⟨rfl,rfl,rfl,Qd,rfl,Qd,Qd⟩
theorem yy:aN ["self","cards"] ["self","cards"] (aB jt):=⟨rfl,rfl,rfl,Qd,rfl,Qd,Qd⟩
theorem kQ:aN ["self","cards","wires","card","wire"] ["self","cards","wires"] (aB lW):=⟨rfl,rfl,rfl,Qd,rfl,Qd,Qd⟩
theorem gq:aN ["program","numbers","bench","store","length","begun","card"] ["program","numbers"] (aB lI):=⟨rfl,rfl,rfl,Qd,rfl,Qd,Qd⟩
theorem rY:aN ["bench","deed","kind"] ["bench","deed"] (aB lj):=⟨rfl,rfl,rfl,Qd,rfl,Qd,Qd⟩
theorem rZ:aN ["bench","name","wires"] ["bench","name"] (aB lB):=⟨rfl,rfl,rfl,Qd,rfl,Qd,Qd⟩
theorem gm:aN ["bench","deed","name","reads","ins","outs","sources"] ["bench","deed"] (aB jo):=⟨rfl,rfl,rfl,Qd,rfl,Qd,Qd⟩
theorem yk:aN ["value","sources"] ["value","sources"] (aB kT):=⟨rfl,rfl,rfl,Qd,rfl,Qd,Qd⟩
theorem kM:aN ["bench","card","name","end","ins","wires"] ["bench","card","name","end"] (aB lx):=⟨rfl,rfl,rfl,Qd,rfl,Qd,Qd⟩
theorem jh:aN ["bench","store","name","cards","ins","wires"] ["bench","store","name"] (aB ly):=⟨rfl,rfl,rfl,Qd,rfl,Qd,Qd⟩
theorem rV:aN ["program","numbers","bench"] ["program","numbers"] (aB kY):=⟨rfl,rfl,rfl,Qd,rfl,Qd,Qd⟩
theorem kN:aN ["bench","block","deed"] ["bench","block"] (aB lD):=⟨rfl,rfl,rfl,Qd,rfl,Qd,Qd⟩
theorem yp:aN ["bench","block","cards","wires"] ["bench","block","cards","wires"] (aB li):=⟨rfl,rfl,rfl,Qd,rfl,Qd,Qd⟩
theorem dJ:aN ["bench","deed","cards","ins","ones","noughts","told","ones_behind","noughts_behind","outs"] ["bench","deed"] (aB lw):=⟨rfl,rfl,rfl,Qd,rfl,Qd,Qd⟩
theorem rX:aN ["bench","deed","cards"] ["bench","deed"] (aB lh):=⟨rfl,rfl,rfl,Qd,rfl,Qd,Qd⟩
theorem gp:aN ["bench","rounds","body","cards","rest","counter","wires","counting"] ["bench","rounds","body"] (aB lm):=⟨rfl,rfl,rfl,Qd,rfl,Qd,Qd⟩
theorem ic:aN ["bench","cards","name","body","behind","coming","told","ins","ones"] ["bench","cards","name","body","behind"] (aB lq):=⟨rfl,rfl,rfl,Qd,rfl,Qd,Qd⟩
theorem kO:aN ["_law_cell","_law_letters","_law_some"] ["_law_cell"] (aB gx):=⟨rfl,rfl,rfl,Qd,rfl,Qd,Qd⟩
theorem yv:aN ["_law_cell","_law_factor","_law_prime","_law_many"] ["_law_cell","_law_factor","_law_prime","_law_many"] (aB lQ):=⟨rfl,rfl,rfl,Qd,rfl,Qd,Qd⟩
theorem sd:aN ["_law_number","_law_names_here","_law_at"] ["_law_number","_law_names_here"] (aB lM):=⟨rfl,rfl,rfl,Qd,rfl,Qd,Qd⟩
theorem jk:aN ["_law_cell","_law_x","_law_names_here","_law_signs","_law_left","_law_right"] ["_law_cell","_law_x","_law_names_here"] (aB lP):=⟨rfl,rfl,rfl,Qd,rfl,Qd,Qd⟩
theorem sf:aN ["_law_cell","_law_x","_law_q","_law_names_here","_law_hidden","_law_kind"] ["_law_cell","_law_x","_law_q","_law_names_here","_law_hidden"] (aB lO):=⟨rfl,rfl,rfl,Qd,rfl,Qd,Qd⟩
theorem cT:aN ["_law_cells","_law_names_here","_law_stores","_law_top","_law_here","_law_kinds","_law_others","_law_cell","_law_kind","_law_x","_law_q","_law_hidden","_law_inner","_law_other"] ["_law_cells","_law_names_here","_law_stores"] (aB lV):=⟨rfl,rfl,rfl,Qd,rfl,Qd,Qd⟩
theorem gu:aN ["_law_script","_law_cell","_law_names_here","_law_asks","_law_stores","_law_body_here"] ["_law_script"] (aB jq):=⟨rfl,rfl,rfl,Qd,rfl,Qd,Qd⟩
theorem yw:aN ["_law_script"] ["_law_script"] (aB jr):=⟨rfl,rfl,rfl,Qd,rfl,Qd,Qd⟩
theorem yu:aN ["_law_part"] ["_law_part"] (aB lN):=⟨rfl,rfl,rfl,Qd,rfl,Qd,Qd⟩
theorem yx:aN ["_law_part"] ["_law_part"] (aB lR):=⟨rfl,rfl,rfl,Qd,rfl,Qd,Qd⟩
theorem gw:aN ["_law_block","_law_found","_law_deed"] ["_law_block"] (aB lT):=⟨rfl,rfl,rfl,Qd,rfl,Qd,Qd⟩
theorem yt:aN ["_law_found"] ["_law_found"] (aB lK):=⟨rfl,rfl,rfl,Qd,rfl,Qd,Qd⟩
theorem kP:aN ["_law_found","_law_many","_law_tally","_law_line"] ["_law_found","_law_many"] (aB lU):=⟨rfl,rfl,rfl,Qd,rfl,Qd,Qd⟩
theorem fk:aN ["_law_net","_law_program_here","_law_deeds","_law_due","_law_k","_law_pair","_law_puts","_law_gets"] ["_law_net","_law_program_here"] (aB gy):=⟨rfl,rfl,rfl,Qd,rfl,Qd,Qd⟩
theorem cS:aN ["_law_script","_law_net","_law_gives","_law_takes","_law_part","_law_due","_law_k","_law_line"] ["_law_script"] (aB fq):=⟨rfl,rfl,rfl,Qd,rfl,Qd,Qd⟩
set_option genInjectivity false in
structure Adr where
 named:Addr
 fd_named:FuncData
 variables_of:Addr
 fd_variables_of:FuncData
 all_deeds:Addr
 fd_all_deeds:FuncData
 blocks_within:Addr
 fd_blocks_within:FuncData
 names_in:Addr
 fd_names_in:FuncData
 read_by_set:Addr
 fd_read_by_set:FuncData
 touched:Addr
 fd_touched:FuncData
 other_cards_in:Addr
 fd_other_cards_in:FuncData
 put_card:Addr
 fd_put_card:FuncData
 get_card:Addr
 fd_get_card:FuncData
 cards_of:Addr
 fd_cards_of:FuncData
 beginnings:Addr
 fd_beginnings:FuncData
 Bench___init__:Addr
 fd_Bench___init__:FuncData
 Bench_add_line:Addr
 fd_Bench_add_line:FuncData
 Bench_add_wires:Addr
 fd_Bench_add_wires:FuncData
 Bench_add_part:Addr
 fd_Bench_add_part:FuncData
 Bench_wires_of:Addr
 fd_Bench_wires_of:FuncData
 Bench_lead:Addr
 fd_Bench_lead:FuncData
 bench_for:Addr
 fd_bench_for:FuncData
 lay_single:Addr
 fd_lay_single:FuncData
 lay_fork:Addr
 fd_lay_fork:FuncData
 lay_set:Addr
 fd_lay_set:FuncData
 side_of:Addr
 fd_side_of:FuncData
 lay_handing:Addr
 fd_lay_handing:FuncData
 lay_get:Addr
 fd_lay_get:FuncData
 net_of:Addr
 fd_net_of:FuncData
 lay_block:Addr
 fd_lay_block:FuncData
 lay_through:Addr
 fd_lay_through:FuncData
 lay_if:Addr
 fd_lay_if:FuncData
 lay_while:Addr
 fd_lay_while:FuncData
 lay_repeat:Addr
 fd_lay_repeat:FuncData
 lay_loop:Addr
 fd_lay_loop:FuncData
 _law_names:Addr
 fd__law_names:FuncData
 _law_pick:Addr
 fd__law_pick:FuncData
 _law_value:Addr
 fd__law_value:FuncData
 _law_set:Addr
 fd__law_set:FuncData
 _law_simple:Addr
 fd__law_simple:FuncData
 _law_body:Addr
 fd__law_body:FuncData
 _law_program:Addr
 fd__law_program:FuncData
 _law_numbers:Addr
 fd__law_numbers:FuncData
 _law_taken:Addr
 fd__law_taken:FuncData
 _law_given:Addr
 fd__law_given:FuncData
 _law_flat:Addr
 fd__law_flat:FuncData
 _law_whole:Addr
 fd__law_whole:FuncData
 _law_counted:Addr
 fd__law_counted:FuncData
 _law_ends:Addr
 fd__law_ends:FuncData
 law:Addr
 fd_law:FuncData
 LOOPS:Addr
 LOOKERS:Addr
 tk_OUTLET:Tok
 OUTLET_KEEPERS:Addr
 tk_WHEEL:Tok
 C_Bench:Addr
structure Tx (P:Program) (w:World) (K:W.Frag) (mg:Str->Option Value) (a:Adr):Prop where
 F_named:Fun K "named" "named" kZ a.named a.fd_named
 b_named:aI K a.fd_named ["block"] []
 m_named:mg "named"=some (.ref a.named)
 F_variables_of:Fun K "variables_of" "variables_of" kR a.variables_of a.fd_variables_of
 b_variables_of:aI K a.fd_variables_of ["program"] []
 m_variables_of:mg "variables_of"=some (.ref a.variables_of)
 F_all_deeds:Fun K "all_deeds" "all_deeds" lJ a.all_deeds a.fd_all_deeds
 b_all_deeds:aI K a.fd_all_deeds ["block"] []
 m_all_deeds:mg "all_deeds"=some (.ref a.all_deeds)
 F_blocks_within:Fun K "blocks_within" "blocks_within" lH a.blocks_within a.fd_blocks_within
 b_blocks_within:aI K a.fd_blocks_within ["deed"] []
 m_blocks_within:mg "blocks_within"=some (.ref a.blocks_within)
 F_names_in:Fun K "names_in" "names_in" jm a.names_in a.fd_names_in
 b_names_in:aI K a.fd_names_in ["deed"] []
 m_names_in:mg "names_in"=some (.ref a.names_in)
 F_read_by_set:Fun K "read_by_set" "read_by_set" kU a.read_by_set a.fd_read_by_set
 b_read_by_set:aI K a.fd_read_by_set ["deed"] []
 m_read_by_set:mg "read_by_set"=some (.ref a.read_by_set)
 F_touched:Fun K "touched" "touched" kS a.touched a.fd_touched
 b_touched:aI K a.fd_touched ["block"] []
 m_touched:mg "touched"=some (.ref a.touched)
 F_other_cards_in:Fun K "other_cards_in" "other_cards_in" kX a.other_cards_in a.fd_other_cards_in
 b_other_cards_in:aI K a.fd_other_cards_in ["deed"] []
 m_other_cards_in:mg "other_cards_in"=some (.ref a.other_cards_in)
 F_put_card:Fun K "put_card" "put_card" kW a.put_card a.fd_put_card
 b_put_card:aI K a.fd_put_card ["store"] []
 m_put_card:mg "put_card"=some (.ref a.put_card)
 F_get_card:Fun K "get_card" "get_card" lE a.get_card a.fd_get_card
 b_get_card:aI K a.fd_get_card ["store"] []
 m_get_card:mg "get_card"=some (.ref a.get_card)
 F_cards_of:Fun K "cards_of" "cards_of" lF a.cards_of a.fd_cards_of
 b_cards_of:aI K a.fd_cards_of ["program"] []
 m_cards_of:mg "cards_of"=some (.ref a.cards_of)
 F_beginnings:Fun K "beginnings" "beginnings" jp a.beginnings a.fd_beginnings
 b_beginnings:aI K a.fd_beginnings ["program","numbers"] []
 m_beginnings:mg "beginnings"=some (.ref a.beginnings)
 F_Bench___init__:Fun K "__init__" "Bench.__init__" lZ a.Bench___init__ a.fd_Bench___init__
 b_Bench___init__:aI K a.fd_Bench___init__ ["self"] []
 F_Bench_add_line:Fun K "add_line" "Bench.add_line" lY a.Bench_add_line a.fd_Bench_add_line
 b_Bench_add_line:aI K a.fd_Bench_add_line ["self","length","first"] []
 F_Bench_add_wires:Fun K "add_wires" "Bench.add_wires" ju a.Bench_add_wires a.fd_Bench_add_wires
 b_Bench_add_wires:aI K a.fd_Bench_add_wires ["self","count"] []
 F_Bench_add_part:Fun K "add_part" "Bench.add_part" lX a.Bench_add_part a.fd_Bench_add_part
 b_Bench_add_part:aI K a.fd_Bench_add_part ["self","part"] []
 F_Bench_wires_of:Fun K "wires_of" "Bench.wires_of" jt a.Bench_wires_of a.fd_Bench_wires_of
 b_Bench_wires_of:aI K a.fd_Bench_wires_of ["self","cards"] []
 F_Bench_lead:Fun K "lead" "Bench.lead" lW a.Bench_lead a.fd_Bench_lead
 b_Bench_lead:aI K a.fd_Bench_lead ["self","cards","wires"] []
 F_bench_for:Fun K "bench_for" "bench_for" lI a.bench_for a.fd_bench_for
 b_bench_for:aI K a.fd_bench_for ["program","numbers"] []
 m_bench_for:mg "bench_for"=some (.ref a.bench_for)
 F_lay_single:Fun K "lay_single" "lay_single" lj a.lay_single a.fd_lay_single
 b_lay_single:aI K a.fd_lay_single ["bench","deed"] []
 m_lay_single:mg "lay_single"=some (.ref a.lay_single)
 F_lay_fork:Fun K "lay_fork" "lay_fork" lB a.lay_fork a.fd_lay_fork
 b_lay_fork:aI K a.fd_lay_fork ["bench","name"] []
 m_lay_fork:mg "lay_fork"=some (.ref a.lay_fork)
 F_lay_set:Fun K "lay_set" "lay_set" jo a.lay_set a.fd_lay_set
 b_lay_set:aI K a.fd_lay_set ["bench","deed"] []
 m_lay_set:mg "lay_set"=some (.ref a.lay_set)
 F_side_of:Fun K "side_of" "side_of" kT a.side_of a.fd_side_of
 b_side_of:aI K a.fd_side_of ["value","sources"] []
 m_side_of:mg "side_of"=some (.ref a.side_of)
 F_lay_handing:Fun K "lay_handing" "lay_handing" lx a.lay_handing a.fd_lay_handing
 b_lay_handing:aI K a.fd_lay_handing ["bench","card","name","end"] []
 m_lay_handing:mg "lay_handing"=some (.ref a.lay_handing)
 F_lay_get:Fun K "lay_get" "lay_get" ly a.lay_get a.fd_lay_get
 b_lay_get:aI K a.fd_lay_get ["bench","store","name"] []
 m_lay_get:mg "lay_get"=some (.ref a.lay_get)
 F_net_of:Fun K "net_of" "net_of" kY a.net_of a.fd_net_of
 b_net_of:aI K a.fd_net_of ["program","numbers"] []
 m_net_of:mg "net_of"=some (.ref a.net_of)
 F_lay_block:Fun K "lay_block" "lay_block" lD a.lay_block a.fd_lay_block
 b_lay_block:aI K a.fd_lay_block ["bench","block"] []
 m_lay_block:mg "lay_block"=some (.ref a.lay_block)
 F_lay_through:Fun K "lay_through" "lay_through" li a.lay_through a.fd_lay_through
 b_lay_through:aI K a.fd_lay_through ["bench","block","cards","wires"] []
 m_lay_through:mg "lay_through"=some (.ref a.lay_through)
 F_lay_if:Fun K "lay_if" "lay_if" lw a.lay_if a.fd_lay_if
 b_lay_if:aI K a.fd_lay_if ["bench","deed"] []
 m_lay_if:mg "lay_if"=some (.ref a.lay_if)
 F_lay_while:Fun K "lay_while" "lay_while" lh a.lay_while a.fd_lay_while
 b_lay_while:aI K a.fd_lay_while ["bench","deed"] []
 m_lay_while:mg "lay_while"=some (.ref a.lay_while)
 F_lay_repeat:Fun K "lay_repeat" "lay_repeat" lm a.lay_repeat a.fd_lay_repeat
 b_lay_repeat:aI K a.fd_lay_repeat ["bench","rounds","body"] []
 m_lay_repeat:mg "lay_repeat"=some (.ref a.lay_repeat)
 F_lay_loop:Fun K "lay_loop" "lay_loop" lq a.lay_loop a.fd_lay_loop
 b_lay_loop:aI K a.fd_lay_loop ["bench","cards","name","body","behind"] []
 m_lay_loop:mg "lay_loop"=some (.ref a.lay_loop)
 F__law_names:Fun K "_law_names" "_law_names" gx a._law_names a.fd__law_names
 b__law_names:aI K a.fd__law_names ["_law_cell"] []
 m__law_names:mg "_law_names"=some (.ref a._law_names)
 F__law_pick:Fun K "_law_pick" "_law_pick" lQ a._law_pick a.fd__law_pick
 b__law_pick:aI K a.fd__law_pick ["_law_cell","_law_factor","_law_prime","_law_many"] []
 m__law_pick:mg "_law_pick"=some (.ref a._law_pick)
 F__law_value:Fun K "_law_value" "_law_value" lM a._law_value a.fd__law_value
 b__law_value:aI K a.fd__law_value ["_law_number","_law_names_here"] []
 m__law_value:mg "_law_value"=some (.ref a._law_value)
 F__law_set:Fun K "_law_set" "_law_set" lP a._law_set a.fd__law_set
 b__law_set:aI K a.fd__law_set ["_law_cell","_law_x","_law_names_here"] []
 m__law_set:mg "_law_set"=some (.ref a._law_set)
 F__law_simple:Fun K "_law_simple" "_law_simple" lO a._law_simple a.fd__law_simple
 b__law_simple:aI K a.fd__law_simple ["_law_cell","_law_x","_law_q","_law_names_here","_law_hidden"] []
 m__law_simple:mg "_law_simple"=some (.ref a._law_simple)
 F__law_body:Fun K "_law_body" "_law_body" lV a._law_body a.fd__law_body
 b__law_body:aI K a.fd__law_body ["_law_cells","_law_names_here","_law_stores"] []
 m__law_body:mg "_law_body"=some (.ref a._law_body)
 F__law_program:Fun K "_law_program" "_law_program" jq a._law_program a.fd__law_program
 b__law_program:aI K a.fd__law_program ["_law_script"] []
 m__law_program:mg "_law_program"=some (.ref a._law_program)
 F__law_numbers:Fun K "_law_numbers" "_law_numbers" jr a._law_numbers a.fd__law_numbers
 b__law_numbers:aI K a.fd__law_numbers ["_law_script"] []
 m__law_numbers:mg "_law_numbers"=some (.ref a._law_numbers)
 F__law_taken:Fun K "_law_taken" "_law_taken" lN a._law_taken a.fd__law_taken
 b__law_taken:aI K a.fd__law_taken ["_law_part"] []
 m__law_taken:mg "_law_taken"=some (.ref a._law_taken)
 F__law_given:Fun K "_law_given" "_law_given" lR a._law_given a.fd__law_given
 b__law_given:aI K a.fd__law_given ["_law_part"] []
 m__law_given:mg "_law_given"=some (.ref a._law_given)
 F__law_flat:Fun K "_law_flat" "_law_flat" lT a._law_flat a.fd__law_flat
 b__law_flat:aI K a.fd__law_flat ["_law_block"] []
 m__law_flat:mg "_law_flat"=some (.ref a._law_flat)
 F__law_whole:Fun K "_law_whole" "_law_whole" lK a._law_whole a.fd__law_whole
 b__law_whole:aI K a.fd__law_whole ["_law_found"] []
 m__law_whole:mg "_law_whole"=some (.ref a._law_whole)
 F__law_counted:Fun K "_law_counted" "_law_counted" lU a._law_counted a.fd__law_counted
 b__law_counted:aI K a.fd__law_counted ["_law_found","_law_many"] []
 m__law_counted:mg "_law_counted"=some (.ref a._law_counted)
 F__law_ends:Fun K "_law_ends" "_law_ends" gy a._law_ends a.fd__law_ends
 b__law_ends:aI K a.fd__law_ends ["_law_net","_law_program_here"] []
 m__law_ends:mg "_law_ends"=some (.ref a._law_ends)
 F_law:Fun K "law" "law" fq a.law a.fd_law
 b_law:aI K a.fd_law ["_law_script"] []
 m_law:mg "law"=some (.ref a.law)
 z_bool:mg "bool"=none
 z_dict:mg "dict"=none
 z_enumerate:mg "enumerate"=none
 z_int:mg "int"=none
 z_isinstance:mg "isinstance"=none
 z_len:mg "len"=none
 z_list:mg "list"=none
 z_range:mg "range"=none
 z_set:mg "set"=none
 z_sorted:mg "sorted"=none
 z_str:mg "str"=none
 z_tuple:mg "tuple"=none
 z_zip:mg "zip"=none
 c_LOOPS:mg "LOOPS"=some (.ref a.LOOPS)
 t_LOOPS:∀H:Hp,SqT K H a.LOOPS [.str "while",.str "repeat"]
 c_LOOKERS:mg "LOOKERS"=some (.ref a.LOOKERS)
 t_LOOKERS:∀H:Hp,SqT K H a.LOOKERS [.str "if",.str "while"]
 c_OUTLET:mg "OUTLET"=some (.str ">" a.tk_OUTLET)
 c_OUTLET_KEEPERS:mg "OUTLET_KEEPERS"=some (.ref a.OUTLET_KEEPERS)
 t_OUTLET_KEEPERS:∀H:Hp,SqT K H a.OUTLET_KEEPERS [.str "give",.str "while"]
 c_WHEEL:mg "WHEEL"=some (.int 1000000000000000000000000000000 a.tk_WHEEL)
 m_Bench:mg "Bench"=some (.ref a.C_Bench)
 cl_Bench:Cls K a.C_Bench
 k_Bench:Mk K a.C_Bench a.Bench___init__
 mt_Bench_add_line:cQ K a.C_Bench "add_line" a.Bench_add_line
 mt_Bench_add_wires:cQ K a.C_Bench "add_wires" a.Bench_add_wires
 mt_Bench_add_part:cQ K a.C_Bench "add_part" a.Bench_add_part
 mt_Bench_wires_of:cQ K a.C_Bench "wires_of" a.Bench_wires_of
 mt_Bench_lead:cQ K a.C_Bench "lead" a.Bench_lead
 nf_Bench_lines:cP K a.C_Bench "lines"
 nf_Bench_parts:cP K a.C_Bench "parts"
 nf_Bench_ends:cP K a.C_Bench "ends"
 nf_Bench_coming:cP K a.C_Bench "coming"
theorem Tx.r_LOOPS {P:Program}{w:World}{K:W.Frag}{mg:Str->Option Value}{a:Adr}(_:Tx P w K mg a):av (.ref a.LOOPS) (.ref a.LOOPS):=rfl
theorem Tx.r_LOOKERS {P:Program}{w:World}{K:W.Frag}{mg:Str->Option Value}{a:Adr}(_:Tx P w K mg a):av (.ref a.LOOKERS) (.ref a.LOOKERS):=rfl
theorem Tx.r_OUTLET {P:Program}{w:World}{K:W.Frag}{mg:Str->Option Value}{a:Adr}(_:Tx P w K mg a):av (.str ">") (.str ">" a.tk_OUTLET):=⟨_,rfl⟩
theorem Tx.r_OUTLET_KEEPERS {P:Program}{w:World}{K:W.Frag}{mg:Str->Option Value}{a:Adr}(_:Tx P w K mg a):av (.ref a.OUTLET_KEEPERS) (.ref a.OUTLET_KEEPERS):=rfl
theorem Tx.r_WHEEL {P:Program}{w:World}{K:W.Frag}{mg:Str->Option Value}{a:Adr}(_:Tx P w K mg a):av (.int 1000000000000000000000000000000) (.int 1000000000000000000000000000000 a.tk_WHEEL):=⟨_,rfl⟩
theorem p30:(10:Int) ^ (30:Int).toNat=1000000000000000000000000000000:=Qd
inductive pC (vs:List V) (H:Hp) (Q:VK) (E:XK):Prop
 |mk (q:Str) (h0_:vs=[.str q]) (h1_:q.length<=1000) (h2_:Q (.str (q++(">":Str))) H):pC vs H Q E
inductive pM (vs:List V) (H:Hp) (Q:VK) (E:XK):Prop
 |mk (q:Str) (h0_:vs=[.str q]) (h1_:q.length<=1000) (h2_:Q (.str (q++("<":Str))) H):pM vs H Q E
inductive pF (vs:List V) (H:Hp) (Q:VK) (E:XK):Prop
 |mk (H0:Hp) (v:V) (d:a8) (h0_:vs=[v]) (h1_:aa H0 H) (h2_:RD H0 v d) (h3_:∀H' l,aa H H'->H l=none->H' l=some (.lst (d.names.map V.str))->Q (.ref l) H'):pF vs H Q E
inductive pO (vs:List V) (H:Hp) (Q:VK) (E:XK):Prop
 |mk (H0:Hp) (v:V) (d:a8) (h0_:vs=[v]) (h1_:aa H0 H) (h2_:RD H0 v d) (h3_:∀H' l bs,aa H H'->H l=none->H' l=some (.lst (bs.map V.ref))->RLs H0 bs d.inner->Q (.ref l) H'):pO vs H Q E
inductive pD (vs:List V) (H:Hp) (Q:VK) (E:XK):Prop
 |mk (H0:Hp) (v:V) (d:a8) (h0_:vs=[v]) (h1_:aa H0 H) (h2_:RD H0 v d) (h3_:(∀k∈d.others,k.length<=1000)) (h4_:∀H' l,aa H H'->H l=none->H' l=some (.lst (d.others.map V.str))->Q (.ref l) H'):pD vs H Q E
inductive pR (n:Nat) (vs:List V) (H:Hp) (Q:VK) (E:XK):Prop
 |mk (H0:Hp) (b:Addr) (ds:List a8) (h0_:vs=[.ref b]) (h1_:aa H0 H) (h2_:RL H0 b ds) (h3_:aw ds<n) (h4_:(ah ds).length<=1000) (h5_:∀H' l us,aa H H'->H l=none->H' l=some (.lst us)->RDs H0 us (ah ds)->Q (.ref l) H'):pR n vs H Q E
inductive pv (vs:List V) (H:Hp) (Q:VK) (E:XK):Prop
 |mk (H0:Hp) (b:Addr) (ds:List a8) (C:List Str) (h0_:vs=[.ref b]) (h1_:aa H0 H) (h2_:RL H0 b ds) (h3_:aw ds<=12) (h4_:(ah ds).length<=1000) (h5_:(∀k∈cards ds,k∈C)) (h6_:C.length<64) (h7_:(∀k∈C,k.length<=1000) /\
 ∀H' l zs,aa H H'->H l=none->H' l=some (.lst (zs.map V.str))->zs.Nodup->(∀k,k∈zs↔k∈cards ds)->PyProof.Rows.sortedS zs=true->Q (.ref l) H'):pv vs H Q E
inductive pG (vs:List V) (H:Hp) (Q:VK) (E:XK):Prop
 |mk (b:Addr) (ds:List a8) (C:List Str) (h0_:vs=[.ref b]) (h1_:RL H b ds) (h2_:aw ds<=12) (h3_:(ah ds).length<=300) (h4_:(∀k∈(ah ds).flatMap a8.names,k∈C)) (h5_:C.length<64) (h6_:∀H' l zs,aa H H'->H l=none->H' l=some (.lst (zs.map V.str))->zs.Nodup->(∀k,k∈zs↔k∈(ah ds).flatMap a8.names)->PyProof.Rows.sortedS zs=true->Q (.ref l) H'):pG vs H Q E
structure Vrs (ak:List Str) (ds:List a8) (zs:List Str):Prop where
 nd:zs.Nodup
 mem:∀k,k∈zs↔k∈ak\/k∈(ah ds).flatMap a8.names
 so:PyProof.Rows.sortedS zs=true
 few:zs.length<=2000
inductive pk (vs:List V) (H:Hp) (Q:VK) (E:XK):Prop
 |mk (p a0 a1 b:Addr) (ak:List Str) (ds:List a8) (C:List Str) (h0_:vs=[.ref p]) (h1_:H p=some (.tup [.ref a0,.ref a1,.ref b])) (h2_:H a0=some (.lst (ak.map V.str))) (h3_:RL H b ds) (h4_:aw ds<=12) (h5_:(ah ds).length<=300) (h6_:ak.length<=300) (h7_:(∀x∈ak,x∈C)) (h8_:(∀k∈(ah ds).flatMap a8.names,k∈C)) (h9_:C.length<64) (h10_:∀H' l zs,aa H H'->H l=none->H' l=some (.lst (zs.map V.str))->Vrs ak ds zs->Q (.ref l) H'):pk vs H Q E
def bc (ps:List (Str×Int)):aD:=ps.foldl (fun f p=>aW f p.1 (p.2 % 1000000000000000000000000000000)) fun _=>0
inductive pQ (vs:List V) (H:Hp) (Q:VK) (E:XK):Prop
 |mk (p a0 a1 b ln:Addr) (ak:List Str) (ns:List Int) (ds:List a8) (C:List Str) (h0_:vs=[.ref p,.ref ln]) (h1_:H p=some (.tup [.ref a0,.ref a1,.ref b])) (h2_:H a0=some (.lst (ak.map V.str))) (h3_:H ln=some (.lst (ns.map V.int))) (h4_:RL H b ds) (h5_:aw ds<=12) (h6_:(ah ds).length<=300) (h7_:ak.length<=300) (h8_:ns.length<=300) (h9_:(∀x∈ak,x∈C)) (h10_:(∀k∈(ah ds).flatMap a8.names,k∈C)) (h11_:C.length<64) (h12_:∀H' d zs,aa H H'->H d=none->H' d=some (.dK (tab zs (bc (ak.zip ns))))->Vrs ak ds zs->Q (.ref d) H'):pQ vs H Q E
inductive pN (vs:List V) (H:Hp) (Q:VK) (E:XK):Prop
 |mk (p la ls lb:Addr) (asks:List Str) (ss:List (Str×Int)) (ds:List a8) (us:List V) (C:List Str) (h0_:vs=[.ref p]) (h1_:RP H p asks ss ds la ls lb us) (h2_:aw ds<=12) (h3_:(ah ds).length<=1000) (h4_:asks.length<=100) (h5_:ss.length<=100) (h6_:(∀s∈ss,s.1.length<=1000)) (h7_:(∀k∈cM asks ss ds,k∈C)) (h8_:C.length<64) (h9_:(∀k∈C,k.length<=1000) /\
 ∀H' l zs,aa H H'->H' l=some (.lst (zs.map V.str))->zs.Nodup->(∀k,k∈zs↔k∈cM asks ss ds)->PyProof.Rows.sortedS zs=true->Q (.ref l) H'):pN vs H Q E
structure BAd where
 p:Addr
 dx:Addr
 ll:Addr
 lp:Addr
 de:Addr
 dc:Addr
def ki (a:Adr) (dx ll lp de dc:Addr):HO:=.ins a.C_Bench dx [("lines",.ref ll),("parts",.ref lp),("ends",.ref de),("coming",.ref dc)]
def TK (H H':Hp):Prop:=∀b xs,H b=some (.tup xs)->H' b=some (.tup xs)
def Ln (H:Hp) (v lv:V) (fs:List Int):Prop:=∃u f,v=.ref u/\H u=some (.tup [lv,.ref f])/\H f=some (.tup (fs.map V.int))
def SdH (H:Hp) (v:V):Sd->Prop
 |.at i=>∃u,v=.ref u/\H u=some (.tup [.str "in",.int i])
 |.is n=>∃u,v=.ref u/\H u=some (.tup [.str "is",.int n])
def PgH (H:Hp) (v:V):PtG->Prop
 |.pas is os rt=>∃u i o r,v=.ref u/\H u=some (.tup [.str "pass",.ref i,.ref o,.ref r])/\H i=some (.tup (is.map V.int))/\H o=some (.tup (os.map V.int))/\H r=some (.tup (rt.map V.int))
 |.wrk is o sg l r=>∃u i x y,v=.ref u/\H u=some (.tup [.str "work",.ref i,.int o,.str sg,x,y])/\H i=some (.tup (is.map V.int))/\SdH H x l/\SdH H y r
 |.cho is w ons ofs t=>∃u i o f,v=.ref u/\H u=some (.tup [.str "choose",.ref i,.int w,.ref o,.ref f,.int t])/\H i=some (.tup (is.map V.int))/\H o=some (.tup (ons.map V.int))/\H f=some (.tup (ofs.map V.int))
 |.mrg t ons ofs outs=>∃u o f r,v=.ref u/\H u=some (.tup [.str "merge",.int t,.ref o,.ref f,.ref r])/\H o=some (.tup (ons.map V.int))/\H f=some (.tup (ofs.map V.int))/\H r=some (.tup (outs.map V.int))
structure BG (a:Adr) (H:Hp) (c:BAd) (es:List Str) (fe:aD) (N:af):Prop where
 ro:H c.p=some (ki a c.dx c.ll c.lp c.de c.dc)
 eo:H c.de=some (.dK (tab es fe))
 co:H c.dc=some (.dK (tab N.cs N.fc))
 ne:c.ll≠c.lp
 de:c.de≠c.dc
 nd:N.cs.Nodup
 ln:∃ls,H c.ll=some (.lst ls)/\R2s (fun v d=>Ln H v d.lg d.on) ls N.ls
 pt:∃ps,H c.lp=some (.lst ps)/\R2s (PgH H) ps N.ps
def Fb (c:BAd) (H H':Hp):Prop:=∀b o,b≠c.ll->b≠c.lp->b≠c.dc->H b=some o->H' b=some o
structure Lt (c:BAd) (H0 H:Hp):Prop where
 e0:aa H0 H
 n1:H0 c.ll=none
 n2:H0 c.lp=none
 n3:H0 c.dc=none
structure Sm (N:af) (m:Nat):Prop where
 l:N.ls.length+m<=100000
 p:N.ps.length+m<=100000
 c:N.cs.length+m<=100000
inductive rG (a:Adr) (vs:List V) (H:Hp) (Q:VK) (E:XK):Prop
 |mk (p dx:Addr) (h0_:vs=[.ref p]) (h1_:H p=some (.ins a.C_Bench dx [])) (h2_:∀H' ll lp de dc,(∀b o,b≠p->H b=some o->H' b=some o)->H' p=some (ki a dx ll lp de dc)->H' ll=some (.lst [])->H' lp=some (.lst [])->H' de=some (.dK [])->H' dc=some (.dK [])->H ll=none->H lp=none->H de=none->H dc=none->ll≠lp->de≠dc->Q .non H'):rG a vs H Q E
inductive rF (a:Adr) (vs:List V) (H:Hp) (Q:VK) (E:XK):Prop
 |mk (c:BAd) (es:List Str) (fe:aD) (N:af) (x:V) (f:Addr) (on:List Int) (h0_:vs=[.ref c.p,x,.ref f]) (h1_:BG a H c es fe N) (h2_:H f=some (.tup (on.map V.int))) (h3_:Sm N 1) (h4_:∀H' (m:Int),m=N.n->Fb c H H'->BG a H' c es fe (N.line ⟨x,on⟩)->Q (.int m) H'):rF a vs H Q E
inductive rD (a:Adr) (vs:List V) (H:Hp) (Q:VK) (E:XK):Prop
 |mk (c:BAd) (es:List Str) (fe:aD) (N:af) (k:Nat) (h0_:vs=[.ref c.p,.int k]) (h1_:BG a H c es fe N) (h2_:k<=1000) (h3_:Sm N k) (h4_:∀H' t,Fb c H H'->BG a H' c es fe (N.wires k)->H t=none->H' t=some (.tup ((wid N.n k).map V.int))->Q (.ref t) H'):rD a vs H Q E
inductive rE (a:Adr) (vs:List V) (H:Hp) (Q:VK) (E:XK):Prop
 |mk (c:BAd) (es:List Str) (fe:aD) (N:af) (v:V) (p:PtG) (h0_:vs=[.ref c.p,v]) (h1_:BG a H c es fe N) (h2_:PgH H v p) (h3_:Sm N 1) (h4_:∀H',Fb c H H'->BG a H' c es fe (N.part p)->Q .non H'):rE a vs H Q E
inductive rB (a:Adr) (vs:List V) (H:Hp) (Q:VK) (E:XK):Prop
 |mk (c:BAd) (es:List Str) (fe:aD) (N:af) (lc:Addr) (zs:List Str) (h0_:vs=[.ref c.p,.ref lc]) (h1_:BG a H c es fe N) (h2_:H lc=some (.lst (zs.map V.str))) (h3_:zs.length<=1000) (h4_:(∀x∈zs,x∈N.cs)) (h5_:∀H' t,aa H H'->H t=none->H' t=some (.tup ((zs.map N.fc).map V.int))->Q (.ref t) H'):rB a vs H Q E
inductive rC (a:Adr) (vs:List V) (H:Hp) (Q:VK) (E:XK):Prop
 |mk (c:BAd) (es:List Str) (fe:aD) (N:af) (lc t:Addr) (zs:List Str) (ws:List Int) (h0_:vs=[.ref c.p,.ref lc,.ref t]) (h1_:BG a H c es fe N) (h2_:H lc=some (.lst (zs.map V.str))) (h3_:H t=some (.tup (ws.map V.int))) (h4_:zs.length=ws.length) (h5_:Sm N zs.length) (h6_:∀H',Fb c H H'->BG a H' c es fe (N.lead zs ws)->Q .non H'):rC a vs H Q E
inductive pL (a:Adr) (vs:List V) (H:Hp) (Q:VK) (E:XK):Prop
 |mk (c:BAd) (es:List Str) (fe:aD) (N:af) (x:Str) (h0_:vs=[.ref c.p,.str x]) (h1_:BG a H c es fe N) (h2_:x∈N.cs) (h3_:Sm N 4) (h4_:∀H',Fb c H H'->BG a H' c es fe (N.fork x)->Q (.int N.n) H'):pL a vs H Q E
inductive pA (vs:List V) (H:Hp) (Q:VK) (E:XK):Prop
 |mk (l:Addr) (zs:List Str) (va:Val) (h0_:vs=[va.v,.ref l]) (h1_:H l=some (.lst (zs.map V.str))) (h2_:(∀x∈va.names,x∈zs)) (h3_:zs.length<=100) (h4_:∀H' v,aa H H'->SdH H' v (dg zs va)->Q v H'):pA vs H Q E
inductive pB (vs:List V) (H:Hp) (Q:VK) (E:XK):Prop
 |mk (p:Addr) (x sg:Str) (va vb:Val) (h0_:vs=[.ref p]) (h1_:H p=some (.tup [.str "set",.str x,va.v,.str sg,vb.v])) (h2_:∀H' l rs,aa H H'->H l=none->H' l=some (.lst (rs.map V.str))->fV x va vb rs->Q (.ref l) H'):pB vs H Q E
inductive pI (a:Adr) (vs:List V) (H:Hp) (Q:VK) (E:XK):Prop
 |mk (c:BAd) (es:List Str) (fe:aD) (N:af) (t:Addr) (x sg:Str) (va vb:Val) (h0_:vs=[.ref c.p,.ref t]) (h1_:BG a H c es fe N) (h2_:H t=some (.tup [.str "set",.str x,va.v,.str sg,vb.v])) (h3_:(∀k∈(a8.set x va sg vb).names,k∈N.cs)) (h4_:Sm N 20) (h5_:∀H' rs,fV x va vb rs->Fb c H H'->BG a H' c es fe (N.set x va sg vb rs)->Q .non H'):pI a vs H Q E
inductive pJ (a:Adr) (vs:List V) (H:Hp) (Q:VK) (E:XK):Prop
 |mk (c:BAd) (es:List Str) (fe:aD) (N:af) (d x e:Str) (h0_:vs=[.ref c.p,.str d,.str x,.str e]) (h1_:BG a H c es fe N) (h2_:d∈N.cs) (h3_:x∈N.cs) (h4_:e∈es) (h5_:Sm N 20) (h6_:∀H',Fb c H H'->BG a H' c es fe (N.hand d x (fe e))->Q .non H'):pJ a vs H Q E
inductive pK (a:Adr) (vs:List V) (H:Hp) (Q:VK) (E:XK):Prop
 |mk (c:BAd) (es:List Str) (fe:aD) (N:af) (q x:Str) (h0_:vs=[.ref c.p,.str q,.str x]) (h1_:BG a H c es fe N) (h2_:q.length<=1000) (h3_:(q++("<":Str))∈N.cs) (h4_:x∈N.cs) (h5_:q∈es) (h6_:Sm N 20) (h7_:∀H',Fb c H H'->BG a H' c es fe (N.get (q++("<":Str)) x (fe q))->Q .non H'):pK a vs H Q E
structure EO (C es:List Str) (d:a8):Prop where
 cd:∀k∈d.cards,k∈C
 st:∀q x,d=.put q x\/d=.get q x->q∈es/\q.length<=1000
structure BO (C es:List Str) (ds:List a8):Prop where
 all:∀d∈ah ds,EO C es d
 dp:aw ds<=12
 fl:(ah ds).length<=1000
def DO (C es cs:List Str) (d:a8):Prop:=BO C es [d]\/∃n,ctN n∈cs/\d=ctD n
inductive pH (a:Adr) (vs:List V) (H:Hp) (Q:VK) (E:XK):Prop
 |mk (c:BAd) (C es:List Str) (fe:aD) (N:af) (v:V) (d:a8) (h0_:vs=[.ref c.p,v]) (h1_:BG a H c es fe N) (h2_:RD H v d) (h3_:d.inner=[]) (h4_:(∀k b,d≠.rep k b)) (h5_:DO C es N.cs d) (h6_:(∀x∈C,x∈N.cs)) (h7_:(">":Str)∈es) (h8_:Sm N 20) (h9_:∀H' N',Fb c H H'->BG a H' c es fe N'->Lay fe N [d] N'->Gr N N' 20->Q .non H'):pH a vs H Q E
def iW (a:Adr) (c:BAd) (es:List Str) (fe:aD) (H0 H:Hp) (N:af) (ds:List a8) (Q:af->Hp->Prop):Prop:=∀H' N',Fb c H H'->BG a H' c es fe N'->Lay fe N ds N'->Gr N N' (wts ds)->Q N' H'
structure ce (a:Adr) (c:BAd) (C es:List Str) (fe:aD) (H0 H:Hp) (N:af):Prop where
 bg:BG a H c es fe N
 lt:Lt c H0 H
 sub:∀x∈C,x∈N.cs
 gt:(">":Str)∈es
 c20:C.length<=20
 c1:∀k∈C,k.length<=1000
inductive jb (a:Adr) (n:Nat) (vs:List V) (H:Hp) (Q:VK) (E:XK):Prop
 |mk (c:BAd) (C es:List Str) (fe:aD) (H0:Hp) (N:af) (b:Addr) (ds:List a8) (h0_:vs=[.ref c.p,.ref b]) (h1_:ce a c C es fe H0 H N) (h2_:RL H0 b ds) (h3_:(∀d∈ds,DO C es N.cs d)) (h4_:aw ds<n) (h5_:Sm N (wts ds)) (h6_:iW a c es fe H0 H N ds fun _ H'=>Q .non H'):jb a n vs H Q E
inductive j9 (a:Adr) (n:Nat) (vs:List V) (H:Hp) (Q:VK) (E:XK):Prop
 |mk (c:BAd) (C es:List Str) (fe:aD) (H0:Hp) (N:af) (b lc t:Addr) (ds:List a8) (zs:List Str) (ws:List Int) (h0_:vs=[.ref c.p,.ref b,.ref lc,.ref t]) (h1_:ce a c C es fe H0 H N) (h2_:RL H0 b ds) (h3_:H0 lc=some (.lst (zs.map V.str))) (h4_:H t=some (.tup (ws.map V.int))) (h5_:zs.length=ws.length) (h6_:zs.length<=30) (h7_:(∀d∈ds,DO C es (N.lead zs ws).cs d)) (h8_:aw ds<n) (h9_:Sm N (zs.length+wts ds)) (h10_:iW a c es fe H0 H (N.lead zs ws) ds fun N' H'=>∀H2 t2,aa H' H2->H' t2=none->H2 t2=some (.tup ((zs.map N'.fc).map V.int))->Q (.ref t2) H2):j9 a n vs H Q E
inductive kE (a:Adr) (n:Nat) (vs:List V) (H:Hp) (Q:VK) (E:XK):Prop
 |mk (c:BAd) (C es:List Str) (fe:aD) (H0:Hp) (N:af) (v:V) (x:Str) (t o:List a8) (h0_:vs=[.ref c.p,v]) (h1_:ce a c C es fe H0 H N) (h2_:RD H0 v (.cond x t o)) (h3_:BO C es [.cond x t o]) (h4_:aw [.cond x t o]<n) (h5_:Sm N (wts [.cond x t o])) (h6_:iW a c es fe H0 H N [.cond x t o] fun _ H'=>Q .non H'):kE a n vs H Q E
inductive kC (a:Adr) (n:Nat) (vs:List V) (H:Hp) (Q:VK) (E:XK):Prop
 |mk (c:BAd) (C es:List Str) (fe:aD) (H0:Hp) (N:af) (v:V) (x:Str) (b:List a8) (h0_:vs=[.ref c.p,v]) (h1_:ce a c C es fe H0 H N) (h2_:RD H0 v (.whl x b)) (h3_:BO C es [.whl x b]) (h4_:aw [.whl x b]<n) (h5_:Sm N (wts [.whl x b])) (h6_:iW a c es fe H0 H N [.whl x b] fun _ H'=>Q .non H'):kC a n vs H Q E
inductive kD (a:Adr) (n:Nat) (vs:List V) (H:Hp) (Q:VK) (E:XK):Prop
 |mk (c:BAd) (C es:List Str) (fe:aD) (H0:Hp) (N:af) (k:Int) (l:Addr) (b:List a8) (h0_:vs=[.ref c.p,.int k,.ref l]) (h1_:ce a c C es fe H0 H N) (h2_:RL H0 l b) (h3_:BO C es [.rep k b]) (h4_:aw [.rep k b]<n) (h5_:Sm N (wts [.rep k b])) (h6_:iW a c es fe H0 H N [.rep k b] fun _ H'=>Q .non H'):kD a n vs H Q E
inductive ja (a:Adr) (n:Nat) (vs:List V) (H:Hp) (Q:VK) (E:XK):Prop
 |mk (c:BAd) (C es:List Str) (fe:aD) (H0:Hp) (N:af) (lc b t:Addr) (zs:List Str) (x:Str) (ds:List a8) (beh:List Int) (h0_:vs=[.ref c.p,.ref lc,.str x,.ref b,.ref t]) (h1_:ce a c C es fe H0 H N) (h2_:H0 lc=some (.lst (zs.map V.str))) (h3_:RL H0 b ds) (h4_:H t=some (.tup (beh.map V.int))) (h5_:zs.length=beh.length) (h6_:zs.length<=21) (h7_:(∀y∈zs,y∈N.cs)) (h8_:x∈zs) (h9_:(∀d∈ds,DO C es N.cs d)) (h10_:aw ds<n) (h11_:Sm N (110+wts ds) /\
 ∀H' N1,Fb c H H'->BG a H' c es fe (N1.loZ zs N.n (zs.map N.fc) beh)->Lay fe (N.loA zs x beh) ds N1->Gr (N.loA zs x beh) N1 (wts ds)->Q .non H'):ja a n vs H Q E
structure oF (H:Hp) (pr la ls lb ln:Addr) (ak:List Str) (ss:List (Str×Int)) (ns:List Int) (ds:List a8) (us:List V) (C:List Str):Prop where
 rp:RP H pr ak ss ds la ls lb us
 hn:H ln=some (.lst (ns.map V.int))
 dp:aw ds<=12
 fl:(ah ds).length<=300
 al:ak.length<=100
 sl:ss.length<=100
 nl:ns.length<=300
 akC:∀k∈cM ak ss ds,k∈C
 c20:C.length<=20
 c1:∀k∈C,k.length<=1000
 snd:(esN ss).Nodup
 s1:∀s∈ss,s.1.length<=1000
 st:∀d∈ah ds,∀q x,d=.put q x\/d=.get q x->q∈esN ss
structure wv (ak:List Str) (ss:List (Str×Int)) (ds:List a8) (zs:List Str):Prop where
 nd:zs.Nodup
 mem:∀k,k∈zs↔k∈cM ak ss ds
 so:PyProof.Rows.sortedS zs=true
def Prs (H:Hp) (l:Addr) (zs:List Str) (f:aD):Prop:=∃ts:List Addr,H l=some (.lst (ts.map V.ref))/\ts.length=zs.length/\∀(j:Nat) (t:Addr) (z:Str),ts[j]?=some t->zs[j]?=some z->H t=some (.tup [.str z,.int (f z)])
inductive pP (a:Adr) (vs:List V) (H:Hp) (Q:VK) (E:XK):Prop
 |mk (pr la ls lb ln:Addr) (ak:List Str) (ss:List (Str×Int)) (ns:List Int) (ds:List a8) (us:List V) (C:List Str) (h0_:vs=[.ref pr,.ref ln]) (h1_:oF H pr la ls lb ln ak ss ns ds us C /\
 ∀H' c zs,Lt c H H'->BG a H' c (esN ss) (feN ss) (br ss zs (bc (ak.zip ns)))->wv ak ss ds zs->Q (.ref c.p) H'):pP a vs H Q E
inductive pE (a:Adr) (vs:List V) (H:Hp) (Q:VK) (E:XK):Prop
 |mk (pr la ls lb ln:Addr) (ak:List Str) (ss:List (Str×Int)) (ns:List Int) (ds:List a8) (us:List V) (C:List Str) (h0_:vs=[.ref pr,.ref ln]) (h1_:oF H pr la ls lb ln ak ss ns ds us C /\
 ∀H' t c le zs N,aa H H'->H t=none->H' t=some (.tup [.ref c.ll,.ref c.lp,.ref le])->BG a H' c (esN ss) (feN ss) (N.part (.pas (zs.map N.fc) [] []))->Prs H' le (esN ss) (feN ss)->wv ak ss ds zs->Lay (feN ss) (br ss zs (bc (ak.zip ns))) ds N->Gr (br ss zs (bc (ak.zip ns))) N (wts ds)->Q (.ref t) H'):pE a vs H Q E
inductive re (vs:List V) (H:Hp) (Q:VK) (E:XK):Prop
 |mk (c:Int) (h0_:vs=[.int c]) (h1_:(0<=c/\c<1000000000)) (h2_:∀H' l,aa H H'->H l=none->H' l=some (.lst ((nmN c).map V.str))->Q (.ref l) H'):re vs H Q E
inductive pZ (vs:List V) (H:Hp) (Q:VK) (E:XK):Prop
 |mk (c f p m:Int) (h0_:vs=[.int c,.int f,.int p,.int m]) (h1_:Builtin.Int.intBits c<=2 ^ 20) (h2_:(0<f/\f<1000000)) (h3_:(0<p/\p<1000000)) (h4_:(0<m/\m<1000000)) (h5_:Q (.int (pkN c f p m)) H):pZ vs H Q E
inductive pV (vs:List V) (H:Hp) (Q:VK) (E:XK):Prop
 |mk (n:Int) (l:Addr) (zs:List Str) (h0_:vs=[.int n,.ref l]) (h1_:(0<=n/\n<1000000)) (h2_:H l=some (.lst (zs.map V.str))) (h3_:zs.length=6) (h4_:Q (vaN n zs).v H):pV vs H Q E
def kh (H:Hp) (d:a8) (Q:VK):Prop:=∀p xs,H p=none->(∀H',H' p=some (.tup xs)->RD H' (.ref p) d)->Q (.ref p) (upd H p (.tup xs))
inductive kF (vs:List V) (H:Hp) (Q:VK) (E:XK):Prop
 |mk (c:Int) (x:Str) (l:Addr) (zs:List Str) (h0_:vs=[.int c,.str x,.ref l]) (h1_:Builtin.Int.intBits c<=2 ^ 20) (h2_:H l=some (.lst (zs.map V.str))) (h3_:zs.length=6) (h4_:kh H (gj c x zs) Q):kF vs H Q E
inductive pX (vs:List V) (H:Hp) (Q:VK) (E:XK):Prop
 |mk (c:Int) (x q:Str) (l:Addr) (zs:List Str) (hid:Bool) (h0_:vs=[.int c,.str x,.str q,.ref l,.bl hid]) (h1_:Builtin.Int.intBits c<=2 ^ 20) (h2_:H l=some (.lst (zs.map V.str))) (h3_:zs.length=6) (h4_:kh H (eu c x q zs hid) Q):pX vs H Q E
inductive rA (vs:List V) (H:Hp) (Q:VK) (E:XK):Prop
 |mk (lc ln lr:Addr) (cells:List Int) (zs ss:List Str) (h0_:vs=[.ref lc,.ref ln,.ref lr]) (h1_:H lc=some (.lst (cells.map V.int))) (h2_:cells.length<=79) (h3_:(∀n∈cells,Builtin.Int.intBits n<=2 ^ 20)) (h4_:H ln=some (.lst (zs.map V.str))) (h5_:H lr=some (.lst (ss.map V.str))) (h6_:zs.length=6) (h7_:ss.length=2) (h8_:∀H' b,aa H H'->H b=none->RL H' b (hJ zs ss cells)->Q (.ref b) H'):rA vs H Q E
inductive pU (vs:List V) (H:Hp) (Q:VK) (E:XK):Prop
 |mk (n:Int) (h0_:vs=[.int n]) (h1_:Q (.bl true) H):pU vs H Q E
inductive i7 (K:W.Frag) (vs:List V) (H:Hp) (Q:VK) (E:XK):Prop
 |mk (a:Addr) (ns:List Int) (h0_:vs=[.ref a]) (h1_:SqL K H a (ns.map V.int)) (h2_:ns.length<=63) (h3_:(∀n∈ns,Builtin.Int.intBits n<=2 ^ 20)) (h4_:kg H) (h5_:∀H',Q (.bl true) H'):i7 K vs H Q E
def cN (ns:List Int):Int:=ns.headD 0 % 1000000000
def akN (c:Int):List Str:=(List.range (c / 7 % 7).toNat).map fun k:Nat=>(nmN c).getD ((c / 5+5 * (k:Int)) % 6).toNat (">":Str)
def ssN (c:Int):List (Str×Int):=[((nmN c).getD 1 (">":Str),1+c / 11 % 2000),(("w":Str),1+c / 13 % 3)]
def c8 (ns:List Int):List Int:=(ns.drop 1).take 79
def bdN (ns:List Int):List a8:=hJ (nmN (cN ns)) [(nmN (cN ns)).getD 1 (">":Str),("w":Str)] (c8 ns)
def ck (ns:List Int):List Int:=(ns.take 7).map fun n=>n % 10000000000000000000000000000000-1000000000000000000000000000000
inductive pY (K:W.Frag) (vs:List V) (H:Hp) (Q:VK) (E:XK):Prop
 |mk (sa:Addr) (ns:List Int) (h0_:vs=[.ref sa]) (h1_:SqL K H sa (ns.map V.int)) (h2_:ns.length<=63) (h3_:(∀n∈ns,Builtin.Int.intBits n<=2 ^ 20)) (h4_:∀H' p la ls lb us,aa H H'->H p=none->RP H' p (akN (cN ns)) (ssN (cN ns)) (bdN ns) la ls lb us->Q (.ref p) H'):pY K vs H Q E
inductive ra (K:W.Frag) (vs:List V) (H:Hp) (Q:VK) (E:XK):Prop
 |mk (sa:Addr) (ns:List Int) (h0_:vs=[.ref sa]) (h1_:SqL K H sa (ns.map V.int)) (h2_:ns.length<=63) (h3_:∀H' l,aa H H'->H l=none->H' l=some (.lst ((ck ns).map V.int))->Q (.ref l) H'):ra K vs H Q E
inductive rm (n:Nat) (vs:List V) (H:Hp) (Q:VK) (E:XK):Prop
 |mk (H0:Hp) (b:Addr) (ds:List a8) (h0_:vs=[.ref b]) (h1_:aa H0 H) (h2_:RL H0 b ds) (h3_:aw ds<n) (h4_:(ah ds).length<=1000) (h5_:∀H' l us,aa H H'->H l=none->H' l=some (.lst us)->RDs H0 us (ah ds)->Q (.ref l) H'):rm n vs H Q E
inductive pW (vs:List V) (H:Hp) (Q:VK) (E:XK):Prop
 |mk (v:V) (p:PtG) (h0_:vs=[v]) (h1_:PgH H v p) (h2_:fW 3 p) (h3_:∀H' l,aa H H'->H l=none->H' l=some (.lst (p.tks.map V.int))->Q (.ref l) H'):pW vs H Q E
inductive rh (vs:List V) (H:Hp) (Q:VK) (E:XK):Prop
 |mk (v:V) (p:PtG) (h0_:vs=[v]) (h1_:PgH H v p) (h2_:fW 3 p) (h3_:∀H' l,aa H H'->H l=none->H' l=some (.lst (p.gvs.map V.int))->Q (.ref l) H'):rh vs H Q E
inductive rq (vs:List V) (H:Hp) (Q:VK) (E:XK):Prop
 |mk (la:Addr) (xs:List Int) (n:Nat) (h0_:vs=[.ref la,.int n]) (h1_:H la=some (.lst (xs.map V.int))) (h2_:(∀x∈xs,0<=x/\x<(n:Int))) (h3_:n<=100000) (h4_:xs.length<=2000000) (h5_:∀H' l,aa H H'->H l=none->H' l=some (.lst ((List.range n).map fun k:Nat=>V.int (xs.count (k:Int):Nat)))->Q (.ref l) H'):rq vs H Q E
inductive rn (vs:List V) (H:Hp) (Q:VK) (E:XK):Prop
 |mk (t le p la ls lb:Addr) (x y:V) (ak:List Str) (ss:List (Str×Int)) (ds:List a8) (us:List V) (h0_:vs=[.ref t,.ref p]) (h1_:H t=some (.tup [x,y,.ref le])) (h2_:Prs H le (esN ss) (feN ss)) (h3_:RP H p ak ss ds la ls lb us) (h4_:ss.length=2) (h5_:(esN ss).Nodup) (h6_:aw ds<=12) (h7_:(ah ds).length<=300) (h8_:(∀d∈ah ds,∀q x,d=.put q x\/d=.get q x->q∈ss.map (·.1))) (h9_:(∀d∈ah ds,∀s∈a8.strs d,PyData.strOk s=true)) (h10_:(∀s∈ss,PyData.strOk s.1=true) /\
 ∀H' d t0 t1 t2,aa H H'->H d=none->H' d=some (.dK [(.inl 0,.ref t0),(.inl 1,.ref t1),(.inl 2,.ref t2)])->H' t0=some (.tup [.int (eg (feN ss) 0 ds:Nat),.int (et (feN ss) 0 ds:Nat)])->H' t1=some (.tup [.int (eg (feN ss) 1 ds:Nat),.int (et (feN ss) 1 ds:Nat)])->H' t2=some (.tup [.int (eg (feN ss) 2 ds:Nat),.int (et (feN ss) 2 ds:Nat)])->Q (.ref d) H'):rn vs H Q E
theorem ln1:1<=sizeLine:=Qk
theorem ln2:2<=sizeLine:=Qk
theorem gP:2<=sizeLine:=Qk
theorem ln3:3<=sizeLine:=Qk
theorem ln4:4<=sizeLine:=Qk
theorem ln5:5<=sizeLine:=Qk
theorem ln6:6<=sizeLine:=Qk
theorem hV {x:V}{r:List V}:atI (x::r) 0=some x:=show atI (x::r) ((0:Nat):Int)=some x from cO rfl
theorem Du {x y:V}{r:List V}:atI (x::y::r) 1=some y:=show atI (x::y::r) ((1:Nat):Int)=some y from cO rfl
theorem wa {x y z:V}{r:List V}:atI (x::y::z::r) 2=some z:=show atI (x::y::z::r) ((2:Nat):Int)=some z from cO rfl
theorem oo {x y z u:V}:List.lookup ("lines":Str) [(("lines":Str),x),("parts",y),("ends",z),("coming",u)]=some x:=jL
theorem vV {x y z u:V}:List.lookup ("parts":Str) [(("lines":Str),x),("parts",y),("ends",z),("coming",u)]=some y:=(dE Qd).trans jL
theorem iT {x y z u:V}:List.lookup ("ends":Str) [(("lines":Str),x),("parts",y),("ends",z),("coming",u)]=some z:=(dE Qd).trans ((dE Qd).trans jL)
theorem oq {x y z u:V}:List.lookup ("coming":Str) [(("lines":Str),x),("parts",y),("ends",z),("coming",u)]=some u:=(dE Qd).trans ((dE Qd).trans ((dE Qd).trans jL))
theorem aV {k:Str}{x y z u:V}(h:((k == ("lines":Str)) || (k == ("parts":Str)) || (k == ("ends":Str)) || (k == ("coming":Str)))=false):List.lookup k [(("lines":Str),x),("parts",y),("ends",z),("coming",u)]=none:=by
 simp only[Bool.or_eq_false_iff]at h
 rw[dE h.1.1.1,dE h.1.1.2,dE h.1.2,dE h.2]
 rfl
section
variable {P:Program}{w:World}{K:W.Frag}{mg:Str->Option Value}{base:Heap}{a:Adr}
theorem mN (T:Tx P w K mg a):aC P w K mg base CX0 1 a.put_card a.fd_put_card ["store"] pC:=by
 refine T.F_put_card.ok yn (fun vs H Q E h=>?_) (fun cdv A outer s H vs Q E hr h=>?_)
 ·obtain⟨_,rfl,_⟩:=h
  rfl
 obtain⟨q,rfl,hq,k⟩:=h
 refine⟨_,(aq (aH (ay jv (pq 0) aF))),?_⟩
 exact⟨_,rfl,_,_,rfl,rfl,aX (m:=1001) (by show q.length+1<=1001;omega),k⟩
theorem mP (T:Tx P w K mg a):aC P w K mg base CX0 1 a.get_card a.fd_get_card ["store"] pM:=by
 refine T.F_get_card.ok yq (fun vs H Q E h=>?_) (fun cdv A outer s H vs Q E hr h=>?_)
 ·obtain⟨_,rfl,_⟩:=h
  rfl
 obtain⟨q,rfl,hq,k⟩:=h
 refine⟨_,(aq (aH (ay jv (pq 0) aF))),?_⟩
 exact⟨_,rfl,_,_,rfl,rfl,aX (m:=1001) (by show q.length+1<=1001;omega),k⟩
theorem Az (T:Tx P w K mg a):aC P w K mg base CX0 1 a.blocks_within a.fd_blocks_within ["deed"] pO:=by
 refine T.F_blocks_within.ok yr (fun vs H Q E h=>?_) (fun cdv A outer s H vs Q E hr h=>?_)
 ·obtain⟨_,_,_,rfl,_⟩:=h
  rfl
 obtain⟨H0,v,d,rfl,e0,hd,k⟩:=h
 refine⟨_,(ai (aY (aJ bC (ap ar (pq 0) ag (fun _ _=>rfl)) aF (aP _)) (aq (aH (aL (a9 (ap ar (pq 0) ag (fun _ _=>rfl)) (a9 (ap ar (pq 0) ag (fun _ _=>rfl)) ac))))) bD)
  (ai (aY (aJ fE (ap ar (pq 0) ag (fun _ _=>rfl)) (dN rfl T.c_LOOPS T.r_LOOPS) (by with_unfolding_all rfl)) (aq (aH (aL (a9 (ap ar (pq 0) ag (fun _ _=>rfl)) ac)))) bD)
  (aq (aH (aL ac))))),?_⟩
 have nil:∀p,H p=none->d.inner=[]->Q (.ref p) (upd H p (.lst [])):=fun p hp z=>k _ p [] (aa.new hp _) hp ae (by rw[z];exact .nil)
 have one:∀p b bs,H p=none->d.inner=[bs]->RL H0 b bs->Q (.ref p) (upd H p (.lst [.ref b])):=fun p b bs hp z hb=>k _ p [b] (aa.new hp _) hp ae (by rw[z];exact .cons hb .nil)
 cases hd with
 |cond h h1 h2=>
  refine⟨_,rfl,_,_,_,_,rfl,rfl,SqT.of (e0 _ _ h),rfl,rfl,_,rfl,?_⟩
  walk_at "yes"
  refine⟨_,rfl,_,_,_,_,rfl,rfl,SqT.of (e0 _ _ h),rfl,_,rfl,_,_,_,_,rfl,rfl,SqT.of (e0 _ _ h),rfl,ln2,fun p hp=>?_⟩
  exact k _ p [_,_] (aa.new hp _) hp ae (.cons h1 (.cons h2 .nil))
 |whl h h1=>
  refine⟨_,rfl,_,_,_,_,rfl,rfl,SqT.of (e0 _ _ h),rfl,rfl,_,rfl,?_⟩
  walk_at "no"
  refine⟨_,rfl,_,_,_,_,rfl,rfl,SqT.of (e0 _ _ h),rfl,_,_,rfl,.inr (T.t_LOOPS _),rfl,rfl,_,rfl,?_⟩
  walk_at "yes"
  exact⟨_,rfl,_,_,_,_,rfl,rfl,SqT.of (e0 _ _ h),rfl,ln1,fun p hp=>one p _ _ hp rfl h1⟩
 |rep h h1=>
  refine⟨_,rfl,_,_,_,_,rfl,rfl,SqT.of (e0 _ _ h),rfl,rfl,_,rfl,?_⟩
  walk_at "no"
  refine⟨_,rfl,_,_,_,_,rfl,rfl,SqT.of (e0 _ _ h),rfl,_,_,rfl,.inr (T.t_LOOPS _),rfl,rfl,_,rfl,?_⟩
  walk_at "yes"
  exact⟨_,rfl,_,_,_,_,rfl,rfl,SqT.of (e0 _ _ h),rfl,ln1,fun p hp=>one p _ _ hp rfl h1⟩
 |set h=>
  refine⟨_,rfl,_,_,_,_,rfl,rfl,SqT.of (e0 _ _ h),rfl,rfl,_,rfl,?_⟩
  walk_at "no"
  refine⟨_,rfl,_,_,_,_,rfl,rfl,SqT.of (e0 _ _ h),rfl,_,_,rfl,.inr (T.t_LOOPS _),rfl,rfl,_,rfl,?_⟩
  walk_at "no"
  exact⟨qr _,fun p hp=>nil p hp rfl⟩
 |put h=>
  refine⟨_,rfl,_,_,_,_,rfl,rfl,SqT.of (e0 _ _ h),rfl,rfl,_,rfl,?_⟩
  walk_at "no"
  refine⟨_,rfl,_,_,_,_,rfl,rfl,SqT.of (e0 _ _ h),rfl,_,_,rfl,.inr (T.t_LOOPS _),rfl,rfl,_,rfl,?_⟩
  walk_at "no"
  exact⟨qr _,fun p hp=>nil p hp rfl⟩
 |get h=>
  refine⟨_,rfl,_,_,_,_,rfl,rfl,SqT.of (e0 _ _ h),rfl,rfl,_,rfl,?_⟩
  walk_at "no"
  refine⟨_,rfl,_,_,_,_,rfl,rfl,SqT.of (e0 _ _ h),rfl,_,_,rfl,.inr (T.t_LOOPS _),rfl,rfl,_,rfl,?_⟩
  walk_at "no"
  exact⟨qr _,fun p hp=>nil p hp rfl⟩
 |give h=>
  refine⟨_,rfl,_,_,_,_,rfl,rfl,SqT.of (e0 _ _ h),rfl,rfl,_,rfl,?_⟩
  walk_at "no"
  refine⟨_,rfl,_,_,_,_,rfl,rfl,SqT.of (e0 _ _ h),rfl,_,_,rfl,.inr (T.t_LOOPS _),rfl,rfl,_,rfl,?_⟩
  walk_at "no"
  exact⟨qr _,fun p hp=>nil p hp rfl⟩
theorem Al (T:Tx P w K mg a):aC P w K mg base CX0 2 a.other_cards_in a.fd_other_cards_in ["deed"] pD:=by
 refine T.F_other_cards_in.ok yo (fun vs H Q E h=>?_) (fun cdv A outer s H vs Q E hr h=>?_)
 ·obtain⟨_,_,_,rfl,_⟩:=h
  rfl
 obtain⟨H0,v,d,rfl,e0,hd,hk,k⟩:=h
 refine⟨_,(ai (aY (aJ bC (ap ar (pq 0) ag (fun _ _=>rfl)) aF (aP _)) (aq (aH (aL (a9 (az (mN T) (hr.mono Qk) rfl T.m_put_card T.F_put_card.kp T.b_put_card .nil ao (a9 (ap ar (pq 0) ag (fun _ _=>rfl)) ac)) ac)))) bD)
  (ai (aY (aJ bC (ap ar (pq 0) ag (fun _ _=>rfl)) aF (aP _)) (aq (aH (aL (a9 (az (mP T) (hr.mono Qk) rfl T.m_get_card T.F_get_card.kp T.b_get_card .nil ao (a9 (ap ar (pq 0) ag (fun _ _=>rfl)) ac)) ac)))) bD)
  (aq (aH (sX (aJ fE (ap ar (pq 0) ag (fun _ _=>rfl)) (dN rfl T.c_OUTLET_KEEPERS T.r_OUTLET_KEEPERS) (by with_unfolding_all rfl)) (aL (a9 (dN rfl T.c_OUTLET T.r_OUTLET) ac)) (aL ac)))))),?_⟩
 have fin:∀p xs,H p=none->d.others.map V.str=xs->Q (.ref p) (upd H p (.lst xs)):=fun p xs hp z=>by
  subst z
  exact k _ p (aa.new hp _) hp ae
 have bH:∀q z:Str,q++z∈d.others->q.length<=1000:=fun q z hq=>by
  have:=hk _ hq
  rw[xL]at this
  omega
 cases hd with
 |put h=>
  refine⟨_,rfl,_,_,_,_,rfl,rfl,SqT.of (e0 _ _ h),rfl,rfl,_,rfl,?_⟩
  walk_at "yes"
  exact⟨_,rfl,_,_,_,_,rfl,rfl,SqT.of (e0 _ _ h),rfl,_,rfl,bH _ ">" (by simp[a8.others]),ln1,fun p hp=>fin p _ hp rfl⟩
 |get h=>
  refine⟨_,rfl,_,_,_,_,rfl,rfl,SqT.of (e0 _ _ h),rfl,rfl,_,rfl,?_⟩
  walk_at "no"
  refine⟨_,rfl,_,_,_,_,rfl,rfl,SqT.of (e0 _ _ h),rfl,rfl,_,rfl,?_⟩
  walk_at "yes"
  exact⟨_,rfl,_,_,_,_,rfl,rfl,SqT.of (e0 _ _ h),rfl,_,rfl,bH _ "<" (by simp[a8.others]),ln1,fun p hp=>fin p _ hp rfl⟩
 |give h=>
  refine⟨_,rfl,_,_,_,_,rfl,rfl,SqT.of (e0 _ _ h),rfl,rfl,_,rfl,?_⟩
  walk_at "no"
  refine⟨_,rfl,_,_,_,_,rfl,rfl,SqT.of (e0 _ _ h),rfl,rfl,_,rfl,?_⟩
  walk_at "no"
  refine⟨_,rfl,_,_,_,_,rfl,rfl,SqT.of (e0 _ _ h),rfl,_,_,rfl,.inr (T.t_OUTLET_KEEPERS _),rfl,rfl,_,rfl,?_⟩
  walk_at "yes"
  exact⟨Qk,fun p hp=>fin p _ hp rfl⟩
 |whl h h1=>
  refine⟨_,rfl,_,_,_,_,rfl,rfl,SqT.of (e0 _ _ h),rfl,rfl,_,rfl,?_⟩
  walk_at "no"
  refine⟨_,rfl,_,_,_,_,rfl,rfl,SqT.of (e0 _ _ h),rfl,rfl,_,rfl,?_⟩
  walk_at "no"
  refine⟨_,rfl,_,_,_,_,rfl,rfl,SqT.of (e0 _ _ h),rfl,_,_,rfl,.inr (T.t_OUTLET_KEEPERS _),rfl,rfl,_,rfl,?_⟩
  walk_at "yes"
  exact⟨Qk,fun p hp=>fin p _ hp rfl⟩
 |set h=>
  refine⟨_,rfl,_,_,_,_,rfl,rfl,SqT.of (e0 _ _ h),rfl,rfl,_,rfl,?_⟩
  walk_at "no"
  refine⟨_,rfl,_,_,_,_,rfl,rfl,SqT.of (e0 _ _ h),rfl,rfl,_,rfl,?_⟩
  walk_at "no"
  refine⟨_,rfl,_,_,_,_,rfl,rfl,SqT.of (e0 _ _ h),rfl,_,_,rfl,.inr (T.t_OUTLET_KEEPERS _),rfl,rfl,_,rfl,?_⟩
  walk_at "no"
  exact⟨Qk,fun p hp=>fin p _ hp rfl⟩
 |cond h h1 h2=>
  refine⟨_,rfl,_,_,_,_,rfl,rfl,SqT.of (e0 _ _ h),rfl,rfl,_,rfl,?_⟩
  walk_at "no"
  refine⟨_,rfl,_,_,_,_,rfl,rfl,SqT.of (e0 _ _ h),rfl,rfl,_,rfl,?_⟩
  walk_at "no"
  refine⟨_,rfl,_,_,_,_,rfl,rfl,SqT.of (e0 _ _ h),rfl,_,_,rfl,.inr (T.t_OUTLET_KEEPERS _),rfl,rfl,_,rfl,?_⟩
  walk_at "no"
  exact⟨Qk,fun p hp=>fin p _ hp rfl⟩
 |rep h h1=>
  refine⟨_,rfl,_,_,_,_,rfl,rfl,SqT.of (e0 _ _ h),rfl,rfl,_,rfl,?_⟩
  walk_at "no"
  refine⟨_,rfl,_,_,_,_,rfl,rfl,SqT.of (e0 _ _ h),rfl,rfl,_,rfl,?_⟩
  walk_at "no"
  refine⟨_,rfl,_,_,_,_,rfl,rfl,SqT.of (e0 _ _ h),rfl,_,_,rfl,.inr (T.t_OUTLET_KEEPERS _),rfl,rfl,_,rfl,?_⟩
  walk_at "no"
  exact⟨Qk,fun p hp=>fin p _ hp rfl⟩
def kA (vs:List V):List V:=vs.filter fun v=>match v with|.str _=>true|_=>false
theorem mO (T:Tx P w K mg a):aC P w K mg base CX0 1 a.names_in a.fd_names_in ["deed"] pF:=by
 refine T.F_names_in.ok rW (fun vs H Q E h=>?_) (fun cdv A outer s H vs Q E hr h=>?_)
 ·obtain⟨_,_,_,rfl,_⟩:=h
  rfl
 obtain⟨H0,v,d,rfl,e0,hd,k⟩:=h
 refine⟨_,(ai (ax (i:=1) rW.nd rfl (Or.inl rfl) (ap ar (pq 0) ag (fun _ _=>rfl)))
  (ai (aY (aJ bC (pq 1) aF (aP _)) (aq (aH (cW (k:=1) (Nc:=["word"]) (js:=[]) (show bn (aB jm) ["deed","kind"] _ 1 ["word"] []from bn.mk rfl (by decide +kernel) (by decide +kernel) (by decide +kernel) rfl (by decide +kernel)) rfl (zH (aK (a9 (ap ar (pq 0) ag (fun _ _=>rfl)) (a9 (ap ar (pq 0) ag (fun _ _=>rfl)) (a9 (ap ar (pq 0) ag (fun _ _=>rfl)) ac))))) (fun _ _ _ _ _=>(bf (i:=0) (show List.Nodup (["word"]:List Str)from by decide +kernel) rfl (Or.inl rfl))) (fun _ _ _ _ _=>(jx (gE (bp (zg (K:=K) rfl) rfl T.z_isinstance PyProof.Rows.Boot.«isinstance» (a9 (pq 0) (a9 (ix (v:=.ty "str") rfl T.z_str PyProof.Rows.Boot.«str» rfl) ac)))))) (fun _ _ _ _ _=>(pq 0))))) bD)
  (ai (aY (aJ bC (pq 1) aF (aP _)) (aq (aH (aL ac))) bD)
  (aq (aH (sX (aJ fE (pq 1) (dN rfl T.c_LOOKERS T.r_LOOKERS) (by with_unfolding_all rfl)) (aL (a9 (ap ar (pq 0) ag (fun _ _=>rfl)) ac)) (aL (a9 (ap ar (pq 0) (dB dy ag) (fun _ _=>rfl)) ac)))))))),?_⟩
 have fin:∀H1 p xs,aa H H1->H1 p=none->d.names.map V.str=xs->Q (.ref p) (upd H1 p (.lst xs)):=fun H1 p xs h1 hp z=>by
  subst z
  refine k _ p (h1.trans (aa.new hp _)) ?_ ae
  cases q:H p with
  |none=>rfl
  |some o=>rw[h1 _ _ q]at hp;cases hp
 cases hd with
 |set h=>
  rename_i p x va sg vb
  refine⟨_,rfl,_,_,_,_,rfl,rfl,SqT.of (e0 _ _ h),rfl,?_⟩
  refine⟨_,rfl,rfl,_,rfl,?_⟩
  walk_at "yes"
  refine⟨_,rfl,_,_,_,_,rfl,rfl,SqT.of (e0 _ _ h),rfl,_,rfl,_,_,_,_,rfl,rfl,SqT.of (e0 _ _ h),rfl,_,rfl,_,_,_,_,rfl,rfl,SqT.of (e0 _ _ h),rfl,ln3,fun t ht=>⟨t,rfl,⟨_,SqT.of ae⟩,?_⟩⟩
  refine D0 (K:=K) (a:=t) (xs:=[.str x,va.v,vb.v]) (fun i ys σ H2=>H2=upd H t (.tup [.str x,va.v,vb.v])/\(∃u,σ=[u])/\ys=kA (([.str x,va.v,vb.v]:List V).take i)) ⟨rfl,⟨_,rfl⟩,rfl⟩ ?_ ln3 ?_ ?_ ?_
  ·rintro i ys σ H2 hi ⟨_,_,rfl⟩
   refine qx (List.length_filter_le _ _) ?_
   rw[qJ]
   omega
  ·rintro i ys σ H2 ⟨rfl,_⟩
   exact SqT.of ae
  ·rintro i z ys σ H2 hz ⟨rfl,⟨u,rfl⟩,rfl⟩
   have hz':z=.str x\/z=va.v\/z=vb.v:=by simpa using qy hz
   have kind:(∃y,z=.str y)\/∃n,z=.int n:=by
    rcases hz' with rfl|rfl|rfl
    ·exact .inl ⟨_,rfl⟩
    ·cases va<;>simp[Val.v]
    ·cases vb<;>simp[Val.v]
   rcases kind with⟨y,rfl⟩|⟨n,rfl⟩
   ·refine⟨_,rfl,_,_,_,true,rfl,.str y,rfl,_,rfl,?_⟩
    refine BR ⟨_,rfl,rfl,⟨_,rfl⟩,?_⟩
    rw[qq,hz]
    simp[kA]
   ·refine⟨_,rfl,_,_,_,false,rfl,.int n,rfl,_,rfl,?_⟩
    refine jP ⟨rfl,⟨_,rfl⟩,?_⟩
    rw[qq,hz]
    simp[kA]
  ·rintro ys σ H2 ⟨rfl,_,rfl⟩ D hD
   refine fin _ D _ (aa.new ht _) hD ?_
   cases va<;>cases vb<;>rfl
 |rep h h1=>
  refine⟨_,rfl,_,_,_,_,rfl,rfl,SqT.of (e0 _ _ h),rfl,?_⟩
  refine⟨_,rfl,rfl,_,rfl,?_⟩
  walk_at "no"
  refine⟨_,rfl,rfl,_,rfl,?_⟩
  walk_at "yes"
  exact⟨qr _,fun p hp=>fin H p _ (aa.refl H) hp rfl⟩
 |cond h h1 h2=>
  refine⟨_,rfl,_,_,_,_,rfl,rfl,SqT.of (e0 _ _ h),rfl,?_⟩
  refine⟨_,rfl,rfl,_,rfl,?_⟩
  walk_at "no"
  refine⟨_,rfl,rfl,_,rfl,?_⟩
  walk_at "no"
  refine⟨_,rfl,_,_,rfl,.inr (T.t_LOOKERS _),rfl,rfl,_,rfl,?_⟩
  walk_at "yes"
  exact⟨_,rfl,_,_,_,_,rfl,rfl,SqT.of (e0 _ _ h),rfl,ln1,fun p hp=>fin H p _ (aa.refl H) hp rfl⟩
 |whl h h1=>
  refine⟨_,rfl,_,_,_,_,rfl,rfl,SqT.of (e0 _ _ h),rfl,?_⟩
  refine⟨_,rfl,rfl,_,rfl,?_⟩
  walk_at "no"
  refine⟨_,rfl,rfl,_,rfl,?_⟩
  walk_at "no"
  refine⟨_,rfl,_,_,rfl,.inr (T.t_LOOKERS _),rfl,rfl,_,rfl,?_⟩
  walk_at "yes"
  exact⟨_,rfl,_,_,_,_,rfl,rfl,SqT.of (e0 _ _ h),rfl,ln1,fun p hp=>fin H p _ (aa.refl H) hp rfl⟩
 |put h=>
  refine⟨_,rfl,_,_,_,_,rfl,rfl,SqT.of (e0 _ _ h),rfl,?_⟩
  refine⟨_,rfl,rfl,_,rfl,?_⟩
  walk_at "no"
  refine⟨_,rfl,rfl,_,rfl,?_⟩
  walk_at "no"
  refine⟨_,rfl,_,_,rfl,.inr (T.t_LOOKERS _),rfl,rfl,_,rfl,?_⟩
  walk_at "no"
  exact⟨_,rfl,_,rfl,_,_,_,_,rfl,rfl,SqT.of (e0 _ _ h),rfl,ln1,fun p hp=>fin H p _ (aa.refl H) hp rfl⟩
 |get h=>
  refine⟨_,rfl,_,_,_,_,rfl,rfl,SqT.of (e0 _ _ h),rfl,?_⟩
  refine⟨_,rfl,rfl,_,rfl,?_⟩
  walk_at "no"
  refine⟨_,rfl,rfl,_,rfl,?_⟩
  walk_at "no"
  refine⟨_,rfl,_,_,rfl,.inr (T.t_LOOKERS _),rfl,rfl,_,rfl,?_⟩
  walk_at "no"
  exact⟨_,rfl,_,rfl,_,_,_,_,rfl,rfl,SqT.of (e0 _ _ h),rfl,ln1,fun p hp=>fin H p _ (aa.refl H) hp rfl⟩
 |give h=>
  refine⟨_,rfl,_,_,_,_,rfl,rfl,SqT.of (e0 _ _ h),rfl,?_⟩
  refine⟨_,rfl,rfl,_,rfl,?_⟩
  walk_at "no"
  refine⟨_,rfl,rfl,_,rfl,?_⟩
  walk_at "no"
  refine⟨_,rfl,_,_,rfl,.inr (T.t_LOOKERS _),rfl,rfl,_,rfl,?_⟩
  walk_at "no"
  exact⟨_,rfl,_,rfl,_,_,_,_,rfl,rfl,SqT.of (e0 _ _ h),rfl,ln1,fun p hp=>fin H p _ (aa.refl H) hp rfl⟩
theorem uW {ds:List a8}{i:Nat}{d:a8}(h:ds[i]?=some d):ah (ds.take (i+1))=ah (ds.take i)++(d::d.inner.flatMap ah):=by
 rw[qq,h,cG]
 show _++ah [d]=_
 rw[ah,ah,qw,df]
theorem o6:∀{ds:List a8}{i:Nat}{d:a8},ds[i]?=some d->d.depth<=aw ds
 |[],i,d,h=>by simp at h
 |x::r,0,d,h=>by simp at h;subst h;rw[aw];omega
 |x::r,i+1,d,h=>by
  simp only[List.getElem?_cons_succ]at h
  have:=o6 h
  rw[aw]
  omega
theorem iG {d:a8}{j:Nat}{b:List a8}(h:d.inner[j]?=some b):aw b<d.depth:=by
 have hm:=qy h
 cases d<;>simp[a8.inner]at hm
 ·rcases hm with rfl|rfl<;>rw[a8.depth]<;>omega
 ·subst hm;rw[a8.depth];omega
 ·subst hm;rw[a8.depth];omega
theorem nR {ds:List a8}{i:Nat}:(ah (ds.take i)).length<=(ah ds).length:=by
 have:ah ds=ah (ds.take i)++ah (ds.drop i):=by rw[<- cG,List.take_append_drop]
 rw[this,qa]
 omega
theorem tJ (T:Tx P w K mg a):∀n:Nat,aC P w K mg base CX0 (n+2) a.all_deeds a.fd_all_deeds ["block"] (pR n):=by
 intro n
 induction n with
 |zero=>
  refine T.F_all_deeds.ok ie (fun vs H Q E h=>?_) (fun cdv A outer s H vs Q E hr h=>?_)
  ·obtain⟨_,_,_,rfl,_⟩:=h
   rfl
  ·obtain⟨_,_,_,_,_,_,h0,_⟩:=h
   exact absurd h0 (Nat.not_lt_zero _)
 |succ n ih=>
  refine T.F_all_deeds.ok ie (fun vs H Q E h=>?_) (fun cdv A outer s H vs Q E hr h=>?_)
  ·obtain⟨_,_,_,rfl,_⟩:=h
   rfl
  obtain⟨H0,b,ds,rfl,e0,hb,hdp,hfl,k⟩:=h
  refine⟨_,(ai (ax (i:=1) ie.nd rfl (Or.inl rfl) (aL ac))
   (ai (cj PassesOwn.never rfl (bQ (pq 0)) (bf (i:=2) ie.nd rfl (Or.inl rfl))
   (ai (aO (bV qf qu qv dh (pq 1) (a9 (pq 2) ac)))
   (aq (cj PassesOwn.never rfl (bQ (az (Az T) (hr.mono Qo) rfl T.m_blocks_within T.F_blocks_within.kp T.b_blocks_within .nil ao (a9 (pq 2) ac))) (bf (i:=3) ie.nd rfl (Or.inl rfl))
   (aq (aO (bV qf PySem.F.slot_list_extend PySem.F.type_list_extend iD (pq 1) (a9 (az ih (hr.mono Qo) rfl T.m_all_deeds T.F_all_deeds.kp T.b_all_deeds .nil ao (a9 (pq 3) ac)) ac))))))))
   (aq (aH (pq 1))))),?_⟩
  obtain⟨hb1,hds⟩:=hb
  rename_i vs
  refine⟨qr _,fun f hf=>?_⟩
  have hf0:=aa.none e0 hf
  refine⟨_,rfl,b,rfl,⟨_,SqL.of ((aa.new hf _) _ _ (e0 _ _ hb1))⟩,?_⟩
  refine db (K:=K) (a:=b) (xs:=vs) (fun i σ H2=>∃us v2 v3,σ=[some (.ref b),some (.ref f),v2,v3]/\aa H H2/\H2 f=some (.lst us)/\RDs H0 us (ah (ds.take i))) ⟨[],_,_,rfl,aa.new hf _,ae,.nil⟩ ?_ ?_ ?_
  ·rintro i σ H2 _ ⟨us,v2,v3,_,s2,_,_⟩
   exact SqL.of (s2 _ _ (e0 _ _ hb1))
  ·rintro i x σ H2 hx ⟨us,v2,v3,rfl,s2,hf2,hus⟩
   obtain⟨d,hd,hrd⟩:=hds.at i x hx
   have lu:us.length<=1000:=by rw[hus.len];exact qx nR hfl
   refine⟨_,rfl,.inl ⟨rfl,_,SqL.of hf2⟩,_,rfl,f,_,_,rfl,rfl,hf2,aX (m:=1001) Qo,?_⟩
   have s3:aa H0 (upd H2 f (.lst (us++[x]))):=aa.over (e0.trans s2) hf0
   refine⟨_,rfl,H0,x,d,rfl,s3,hrd,fun H4 l bs s4 nl hl hbs=>⟨l,rfl,⟨_,SqL.of hl⟩,?_⟩⟩
   have lf:l≠f:=fun z=>by rw[z,ae]at nl;cases nl
   have all:ah (ds.take (i+1))=ah (ds.take i)++([d]++d.inner.flatMap ah):=uW hd
   refine db (K:=K) (a:=l) (xs:=bs.map V.ref) (fun j σ H5=>∃us' v3,σ=[some (.ref b),some (.ref f),some x,v3]/\aa H H5/\H5 f=some (.lst us')/\H5 l=some (.lst (bs.map V.ref))/\RDs H0 us' (ah (ds.take i)++([d]++(d.inner.take j).flatMap ah)))
    ⟨us++[x],_,rfl,(aa.over s2 hf).trans s4,s4 _ _ ae,hl,hus.app (.cons hrd .nil)⟩ ?_ ?_ ?_
   ·rintro j σ H5 _ ⟨us',v3,_,_,_,hl5,_⟩
    exact SqL.of hl5
   ·rintro j z σ H5 hz ⟨us',v3,rfl,s5,hf5,hl5,hus'⟩
    rw[qD]at hz
    obtain⟨bj,hbj,rfl⟩:=qP.mp hz
    obtain⟨dj,hdj,hrj⟩:=hbs.at j bj hbj
    have dd:=o6 hd
    have di:=iG hdj
    have st:(d.inner.take (j+1)).flatMap ah=(d.inner.take j).flatMap ah++ah dj:=by
     rw[qq,hdj,qU]
     simp
    have pre:(ah (ds.take i)++([d]++(d.inner.take (j+1)).flatMap ah)).length<=1000:=by
     have e:d.inner.flatMap ah=(d.inner.take (j+1)).flatMap ah++(d.inner.drop (j+1)).flatMap ah:=by rw[<- qU,List.take_append_drop]
     have:=nR (ds:=ds) (i:=i+1)
     rw[all,e]at this
     simp only[qa]at this ⊢
     omega
    rw[st]at pre
    simp only[qa]at pre
    have lu':us'.length<=1000:=by rw[hus'.len];simp only[qa];omega
    refine⟨_,rfl,.inl ⟨rfl,_,SqL.of hf5⟩,_,rfl,H0,bj,dj,rfl,e0.trans s5,hrj,Qo,Qo,fun H6 l6 us6 s6 n6 h6 r6=>?_⟩
    have f6:l6≠f:=fun z=>by rw[z,hf5]at n6;cases n6
    refine⟨f,l6,_,_,rfl,rfl,s6 _ _ hf5,h6,aX (m:=2000) (by rw[r6.len];omega),?_⟩
    refine⟨us'++us6,_,rfl,aa.over (s5.trans s6) hf,ae,?_,?_⟩
    ·rw[aj lf]
     exact s6 _ _ hl5
    ·rw[st,<- qM,<- qM]
     rw[<- qM]at hus'
     exact hus'.app r6
   ·rintro σ H5 ⟨us',v3,rfl,s5,hf5,hl5,hus'⟩
    refine⟨us',_,_,rfl,s5,hf5,?_⟩
    rw[all]
    rw[q5,hbs.len,qG]at hus'
    exact hus'
  ·rintro σ H2 ⟨us,v2,v3,rfl,s2,hf2,hus⟩
   rw[hds.len,qG]at hus
   exact⟨_,rfl,k H2 f us s2 hf hf2 hus⟩
theorem mU:∀(l:List a8),(l.flatMap a8.names).length<=3 * l.length
 |[]=>by simp
 |d::r=>by
  have h1:d.names.length<=3:=by
   cases d with
   |set x a sg b=>cases a<;>cases b<;>simp[a8.names,Val.names]
   |_=>simp[a8.names]
  have h2:=mU r
  rw[qE,qa,qz]
  omega
theorem An (T:Tx P w K mg a):aC P w K mg base CX0 16 a.named a.fd_named ["block"] pG:=by
 refine T.F_named.ok kL (fun vs H Q E h=>?_) (fun cdv A outer s H vs Q E hr h=>?_)
 ·obtain⟨_,_,_,rfl,_⟩:=h
  rfl
 obtain⟨b,ds,C,rfl,hb,dp,hln,nC,c64,k⟩:=h
 refine⟨_,(ai (ax (i:=1) kL.nd rfl (Or.inl rfl) (aL ac))
  (ai (cj PassesOwn.never rfl (bQ (az (tJ T 13) (hr.mono Qk) rfl T.m_all_deeds T.F_all_deeds.kp T.b_all_deeds .nil ao (a9 (pq 0) ac))) (bf (i:=2) kL.nd rfl (Or.inl rfl))
  (aq (aO (bV qf PySem.F.slot_list_extend PySem.F.type_list_extend iD (pq 1) (a9 (az (mO T) (hr.mono Qk) rfl T.m_names_in T.F_names_in.kp T.b_names_in .nil ao (a9 (pq 2) ac)) ac)))))
  (aq (aH (bp (iS rfl) rfl T.z_sorted PyProof.Rows.Boot.«sorted» (a9 (bR (fP rfl) rfl T.z_set PyProof.Rows.Boot.«set» (a9 (pq 1) ac)) ac)))))),?_⟩
 refine⟨qr _,fun c hc=>?_⟩
 refine⟨_,rfl,H,b,ds,rfl,aa.new hc _,hb,Qo,Qo,fun H2 l us s2 nl hl hus=>⟨l,rfl,⟨_,SqL.of hl⟩,?_⟩⟩
 generalize hfl:ah ds=fl at *
 have lc:l≠c:=fun z=>by rw[z,ae]at nl;cases nl
 have few:∀i,((fl.take i).flatMap a8.names).length<=900:=fun i=>by
  have:=mU (fl.take i)
  rw[qJ]at this
  omega
 refine db (K:=K) (a:=l) (xs:=us) (fun i σ H3=>∃v,σ=[some (.ref b),some (.ref c),v]/\aa H H3/\H3 c=some (.lst (((fl.take i).flatMap a8.names).map V.str))/\H3 l=some (.lst us)) ⟨_,rfl,(aa.new hc _).trans s2,s2 _ _ ae,hl⟩ ?_ ?_ ?_
 ·rintro i σ H3 _ ⟨v,_,_,_,h⟩
  exact SqL.of h
 ·rintro i x σ H3 hx ⟨v,rfl,s3,hc3,hl3⟩
  obtain⟨d,hd,hrd⟩:=hus.at i x hx
  have f1:=few (i+1)
  rw[qq,hd]at f1
  have f1':((fl.take i).flatMap a8.names).length+d.names.length<=900:=by
   simpa[qU]using f1
  refine⟨_,rfl,.inl ⟨rfl,_,SqL.of hc3⟩,_,rfl,H,x,d,rfl,s3,hrd,fun H4 l4 s4 n4 h4=>?_⟩
  refine⟨c,l4,_,_,rfl,rfl,s4 _ _ hc3,h4,aX (m:=3000) (by rw[q5,q5];omega),?_⟩
  refine⟨_,rfl,aa.over (s3.trans s4) hc,?_,?_⟩
  ·rw[ae,qq,hd]
   simp[qU]
  ·rw[aj lc]
   exact s4 _ _ hl3
 ·rintro σ H3 ⟨v,rfl,s3,hc3,hl3⟩
  rw[hus.len,qG]at hc3
  have f1:=few fl.length
  rw[qG]at f1
  refine⟨_,rfl,c,fl.flatMap a8.names,rfl,SqL.of hc3,Qo,fun p hp=>?_⟩
  refine⟨p,fl.flatMap a8.names,C,rfl,ae,nC,c64,fun r zs hr' nd hm so=>?_⟩
  have p0:=aa.none s3 hp
  have r0:H r=none:=by
   refine aa.none s3 ?_
   cases q:H3 r with
   |none=>rfl
   |some o=>
    have:r≠p:=bN q hp
    rw[aj this,q]at hr'
    cases hr'
  exact k _ r zs (aa.over (aa.over s3 p0) r0) r0 ae nd hm so
theorem Aj (T:Tx P w K mg a):aC P w K mg base CX0 17 a.variables_of a.fd_variables_of ["program"] pk:=by
 refine T.F_variables_of.ok yj (fun vs H Q E h=>?_) (fun cdv A outer s H vs Q E hr h=>?_)
 ·obtain⟨_,_,_,_,_,_,_,rfl,_⟩:=h
  rfl
 obtain⟨p,a0,a1,b,ak,ds,C,rfl,hp,h0,hb,dp,hl,al,akC,nC,c64,q⟩:=h
 refine⟨_,(aq (aH (bp (iS rfl) rfl T.z_sorted PyProof.Rows.Boot.«sorted» (a9 (ay A4 (bR (fP rfl) rfl T.z_set PyProof.Rows.Boot.«set» (a9 (ap ar (pq 0) ag (fun _ _=>rfl)) ac)) (bR (fP rfl) rfl T.z_set PyProof.Rows.Boot.«set» (a9 (az (An T) (hr.mono Qk) rfl T.m_named T.F_named.kp T.b_named .nil ao (a9 (ap ar (pq 0) ag (fun _ _=>rfl)) ac)) ac))) ac)))),?_⟩
 refine⟨_,rfl,p,_,_,_,rfl,rfl,SqT.of hp,hV,a0,ak,rfl,SqL.of h0,Qo,fun s1 hs1=>?_⟩
 have m1:=aa.new hs1 (bv P w s1 ak)
 have o1:upd H s1 (bv P w s1 ak) s1=some (bv P w s1 ak):=ae
 refine⟨_,rfl,p,_,_,_,rfl,rfl,SqT.of (m1 _ _ hp),wa,b,ds,C,rfl,RL.same m1 hb,dp,hl,nC,c64,fun H2 l2 zs m2 n2 o2 nd mem so=>?_⟩
 have nf:zs.length<=900:=by
  have l1:=cq nd fun x hx=>(mem x).mp hx
  have:=mU (ah ds)
  omega
 refine⟨l2,zs,rfl,SqL.of o2,Qo,fun s2 hs2=>?_⟩
 have m3:=aa.new hs2 (bv P w s2 zs)
 have o3:upd H2 s2 (bv P w s2 zs) s2=some (bv P w s2 zs):=ae
 have n3:s1≠s2:=fun z=>by rw[<- z,m2 _ _ o1]at hs2;cases hs2
 refine⟨s1,s2,ak,zs,ak,zs,rfl,rfl,n3,m3 _ _ (m2 _ _ o1),o3,fun k hk=>hk,Qo,fun k hk=>hk,Qo,fun s3 hs3=>?_⟩
 have m4:=aa.new hs3 (bv P w s3 (ak++zs))
 have o4:upd (upd H2 s2 (bv P w s2 zs)) s3 (bv P w s3 (ak++zs)) s3=some (bv P w s3 (ak++zs)):=ae
 have m14:=m1.trans (m2.trans (m3.trans m4))
 refine⟨s3,ak++zs,C,rfl,o4,fun k hk=>(qg.mp hk).elim (akC k) (fun h=>nC k ((mem k).mp h)),c64,fun l5 ys hl5 nd5 mem5 so5=>?_⟩
 have few5:ys.length<=2000:=by
  have:=cq nd5 fun x hx=>(mem5 x).mp hx
  rw[qa]at this
  omega
 exact q _ l5 ys (m14.trans (aa.new hl5 _)) (aa.none m14 hl5) ae ⟨nd5,fun k=>by rw[mem5 k,qg,mem k],so5,few5⟩
theorem bB {H:Hp}{x b:Addr}{o:HO}(h:upd H x o b=none):H b=none:=by
 by_cases e:b=x
 ·rw[e,ae]at h;cases h
 ·rwa [aj e]at h
theorem Dk (ps:List (Str×Int)) (p:Str×Int):bc (ps++[p])=aW (bc ps) p.1 (p.2 % 1000000000000000000000000000000):=by
 unfold bc
 rw[List.foldl_append]
 rfl
theorem AC (T:Tx P w K mg a):aC P w K mg base CX0 18 a.beginnings a.fd_beginnings ["program","numbers"] pQ:=by
 refine T.F_beginnings.ok jj (fun vs H Q E h=>?_) (fun cdv A outer s H vs Q E hr h=>?_)
 ·obtain⟨_,_,_,_,_,_,_,_,_,rfl,_⟩:=h
  rfl
 obtain⟨p,a0,a1,b,ln,ak,ns,ds,C,rfl,hp,h0,hn,hb,dp,hln,al,nl',akC,nC,c64,q⟩:=h
 refine⟨_,(ai (ax (i:=2) jj.nd rfl (Or.inl rfl) (bR (Dj rfl) rfl T.z_dict PyProof.Rows.Boot.«dict» (a9 (cW (k:=1) (Nc:=["name"]) (js:=[]) (show bn (aB jp) ["program","numbers","begun","name","number"] _ 1 ["name"] []from bn.mk rfl (by decide +kernel) (by decide +kernel) (by decide +kernel) rfl (by decide +kernel)) rfl (bQ (az (Aj T) (hr.mono Qk) rfl T.m_variables_of T.F_variables_of.kp T.b_variables_of .nil ao (a9 (pq 0) ac))) (fun _ _ _ _ _=>(bf (i:=0) (show List.Nodup (["name"]:List Str)from by decide +kernel) rfl (Or.inl rfl))) (fun _ _ _ _ _=>dM) (fun _ _ _ _ _=>(aK (a9 (pq 0) (a9 ag ac))))) ac)))
  (ai (cj PassesOwn.never rfl (sS rfl T.z_zip (a9 (ap ar (pq 0) ag (fun _ _=>rfl)) (a9 (pq 1) ac))) (gG rfl (cU (bf (i:=3) jj.nd rfl (Or.inl rfl)) (cU (bf (i:=4) jj.nd rfl (Or.inl rfl)) gF)))
  (aq (fA (hr.one) (pq 2) (pq 3) (ay c5 (pq 4) (dN rfl T.c_WHEEL T.r_WHEEL)) rfl)))
  (aq (aH (pq 2))))),?_⟩
 refine⟨_,rfl,p,a0,a1,b,ak,ds,C,rfl,hp,h0,hb,dp,hln,al,akC,nC,c64,fun H2 l zs m2 nl hl vr=>⟨l,rfl,⟨_,SqL.of hl⟩,?_⟩⟩
 refine iP (K:=K) (a:=l) (xs:=zs.map V.str) (fun i ys σ H3=>(∃v,σ=[v])/\aa H2 H3/\∃ts:List Addr,ys=ts.map V.ref/\ts.length=i/\∀(j:Nat) (t:Addr) (z:Str),ts[j]?=some t->zs[j]?=some z->H3 t=some (.tup [.str z,.int 0])) ⟨⟨_,rfl⟩,aa.refl _,[],rfl,rfl,fun j t z h=>by simp at h⟩ ?_ (aX (m:=2000) (by rw[q5];exact vr.few)) ?_ ?_ ?_
 ·rintro i ys σ H3 _ ⟨_,_,ts,rfl,h,_⟩
  rw[q5,h]
  exact qd _
 ·rintro i ys σ H3 ⟨_,s3,_⟩
  exact SqL.of (s3 _ _ hl)
 ·rintro i x ys σ H3 hx ⟨⟨v,rfl⟩,s3,ts,rfl,hl3,ht⟩
  rw[qD]at hx
  obtain⟨z,hzi,rfl⟩:=qP.mp hx
  refine⟨_,rfl,ln2,fun p4 hp4=>?_⟩
  refine⟨⟨_,rfl⟩,s3.trans (aa.new hp4 _),ts++[p4],by rw[qO];rfl,by rw[qa,hl3];rfl,fun j t y hj hy=>?_⟩
  rcases Nat.lt_or_ge j ts.length with lt|ge
  ·rw[List.getElem?_append_left lt]at hj
   exact aa.new hp4 _ _ _ (ht j t y hj hy)
  ·rw[qK ge]at hj
   have e0:j-ts.length=0:=by
    have:=(qe.mp hj).1
    simpa using this
   rw[e0]at hj
   obtain rfl:p4=t:=by simpa using hj
   have:j=i:=Qo
   subst this
   rw[hzi]at hy
   cases hy
   exact ae
 ·rintro ys σ H3 ⟨_,s3,ts,rfl,hl3,ht⟩ lc hlc
  rw[q5]at hl3
  have mH:=m2.trans s3
  have nlc:=aa.none mH hlc
  refine⟨lc,ts.map V.ref,zs.map fun z=>(.inr z,.int 0),rfl,ae,by rw[q5,q5,hl3],aX (m:=2000) (by rw[q5];exact vr.few),fun i p hp'=>?_,fun d hd=>?_⟩
  ·rw[qD]at hp'
   obtain⟨z,hzi,rfl⟩:=qP.mp hp'
   have lt:i<ts.length:=by
    have:=(qe.mp hzi).1
    omega
   exact⟨ts[i],by rw[qD,qb lt];rfl,aa.new hlc _ _ _ (ht i _ z (qb lt) hzi)⟩
  rw[zt vr.nd]
  have nd0:H d=none:=aa.none mH (bB hd)
  have mD:aa H (upd (upd H3 lc (.lst (ts.map V.ref))) d (.dK (tab zs fun _=>0))):=aa.over (aa.over mH nlc) nd0
  refine⟨_,rfl,_,_,_,_,rfl,rfl,SqT.of (mD _ _ hp),rfl,_,rfl,false,false,a0,ln,ak.map V.str,ns.map V.int,rfl,SqL.of (mD _ _ h0),SqL.of (mD _ _ hn),?_⟩
  have o8:upd (upd H3 lc (.lst (ts.map V.ref))) d (.dK (tab zs fun _=>0)) d=some (.dK (tab zs fun _=>0)):=ae
  generalize upd (upd H3 lc (.lst (ts.map V.ref))) d (.dK (tab zs fun _=>0))=H8 at mD o8 ⊢
  refine uN (K:=K) (b1:=false) (b2:=false) (l1:=a0) (l2:=ln) (xs:=ak.map V.str) (ys:=ns.map V.int) (fun i σ H4=>(∃v3 v4,σ=[some (.ref p),some (.ref ln),some (.ref d),v3,v4])/\aa H H4/\H4 d=some (.dK (tab zs (bc ((ak.zip ns).take i))))) ⟨⟨_,_,rfl⟩,mD,o8⟩ ?_ ?_ ?_
  ·rintro i σ H4 ⟨_,s4,_⟩
   exact⟨SqL.of (s4 _ _ h0),SqL.of (s4 _ _ hn)⟩
  ·rintro i x y σ H4 p5 hx hy ⟨⟨v3,v4,rfl⟩,s4,d4⟩ hp5
   rw[qD]at hx hy
   obtain⟨x,hx',rfl⟩:=qP.mp hx
   obtain⟨y,hy',rfl⟩:=qP.mp hy
   have xz:x∈zs:=(vr.mem x).mpr (.inl (qy hx'))
   have hzip:(ak.zip ns)[i]?=some (x,y):=by rw[List.getElem?_zip_eq_some];exact⟨hx',hy'⟩
   have n5:d≠p5:=fun z=>by rw[<- z,d4]at hp5;cases hp5
   have s5:=s4.trans (aa.new hp5 (.tup [.str x,.int y]))
   have d5:upd H4 p5 (.tup [.str x,.int y]) d=some (.dK (tab zs (bc ((ak.zip ns).take i)))):=by rw[aj n5];exact d4
   have p5':upd H4 p5 (.tup [.str x,.int y]) p5=some (.tup [.str x,.int y]):=ae
   generalize upd H4 p5 (.tup [.str x,.int y])=H5 at s5 d5 p5' ⊢
   refine⟨p5,_,rfl,.inl (.inl p5'),rfl,_,_,rfl,_,_,rfl,rfl,?_⟩
   refine⟨_,rfl,_,_,rfl,rfl,Qk,_,rfl,_,rfl,d,_,rfl,.inl ⟨_,.inr x,d5,rfl,qC (show _<1000000 by rw[gh];have:=vr.few;omega) (by decide),rfl⟩,?_⟩
   rw[j6 vr.nd,show bK zs x=zs from Q0 xz]
   refine⟨⟨_,_,rfl⟩,aa.over s5 nd0,?_⟩
   rw[ae,qq,hzip]
   show some (HO.dK (tab zs (aW _ x (y % _))))=some (HO.dK (tab zs (bc (_++[(x,y)]))))
   rw[Dk]
  ·rintro σ H4 ⟨⟨v3,v4,rfl⟩,s4,d4⟩
   rw[q5,q5,List.take_of_length_le (by rw[List.length_zip];exact qd _)]at d4
   exact⟨_,rfl,q _ d zs s4 nd0 d4 vr⟩
theorem CP (d:a8):d.cards.length<=3:=by
 cases d with
 |set x a sg b=>cases a<;>cases b<;>simp[a8.cards,a8.names,a8.others,Val.names]
 |_=>simp[a8.cards,a8.names,a8.others]
theorem vM:∀(l:List a8),(l.flatMap a8.cards).length<=3 * l.length
 |[]=>by simp
 |d::r=>by
  have h1:=CP d
  have h2:=vM r
  rw[qE,qa,qz]
  omega
theorem jD (T:Tx P w K mg a):aC P w K mg base CX0 16 a.touched a.fd_touched ["block"] pv:=by
 refine T.F_touched.ok kK (fun vs H Q E h=>?_) (fun cdv A outer s H vs Q E hr h=>?_)
 ·obtain⟨_,_,_,_,rfl,_⟩:=h
  rfl
 obtain⟨H0,b,ds,C,rfl,e0,hb,hdp,hfl,hC,h64,hlen,k⟩:=h
 refine⟨_,(ai (ax (i:=1) kK.nd rfl (Or.inl rfl) (aL ac))
  (ai (cj PassesOwn.never rfl (bQ (az (tJ T 13) (hr.mono Qk) rfl T.m_all_deeds T.F_all_deeds.kp T.b_all_deeds .nil ao (a9 (pq 0) ac))) (bf (i:=2) kK.nd rfl (Or.inl rfl))
  (ai (aO (bV qf PySem.F.slot_list_extend PySem.F.type_list_extend iD (pq 1) (a9 (az (mO T) (hr.mono Qk) rfl T.m_names_in T.F_names_in.kp T.b_names_in .nil ao (a9 (pq 2) ac)) ac)))
  (aq (aO (bV qf PySem.F.slot_list_extend PySem.F.type_list_extend iD (pq 1) (a9 (az (Al T) (hr.mono Qk) rfl T.m_other_cards_in T.F_other_cards_in.kp T.b_other_cards_in .nil ao (a9 (pq 2) ac)) ac))))))
  (aq (aH (bp (iS rfl) rfl T.z_sorted PyProof.Rows.Boot.«sorted» (a9 (bR (fP rfl) rfl T.z_set PyProof.Rows.Boot.«set» (a9 (pq 1) ac)) ac)))))),?_⟩
 refine⟨qr _,fun c hc=>?_⟩
 have c0:=aa.none e0 hc
 refine⟨_,rfl,H0,b,ds,rfl,aa.over e0 c0,hb,Qo,hfl,fun H2 l us s2 nl hl hus=>⟨l,rfl,⟨_,SqL.of hl⟩,?_⟩⟩
 have lc:l≠c:=fun z=>by rw[z,ae]at nl;cases nl
 have few:∀i,(((ah ds).take i).flatMap a8.cards).length<=3000:=fun i=>by
  have:=vM ((ah ds).take i)
  rw[qJ]at this
  omega
 refine db (K:=K) (a:=l) (xs:=us) (fun i σ H3=>∃v,σ=[some (.ref b),some (.ref c),v]/\aa H H3/\H3 c=some (.lst ((((ah ds).take i).flatMap a8.cards).map V.str))/\H3 l=some (.lst us)) ⟨_,rfl,(aa.new hc _).trans s2,s2 _ _ ae,hl⟩ ?_ ?_ ?_
 ·rintro i σ H3 _ ⟨v,_,_,_,h⟩
  exact SqL.of h
 ·rintro i x σ H3 hx ⟨v,rfl,s3,hc3,hl3⟩
  obtain⟨d,hd,hrd⟩:=hus.at i x hx
  have dm:d∈ah ds:=qy hd
  have f1:=few (i+1)
  rw[qq,hd]at f1
  have f1':(((ah ds).take i).flatMap a8.cards).length+(d.names.length+d.others.length)<=3000:=by
   simpa[qU,a8.cards]using f1
  refine⟨_,rfl,.inl ⟨rfl,_,SqL.of hc3⟩,_,rfl,H0,x,d,rfl,e0.trans s3,hrd,fun H4 l4 s4 n4 h4=>?_⟩
  refine⟨c,l4,_,_,rfl,rfl,s4 _ _ hc3,h4,aX (m:=3000) (by rw[q5,q5];omega),?_⟩
  have s5:aa H (upd H4 c (.lst ((((ah ds).take i).flatMap a8.cards).map V.str++d.names.map V.str))):=aa.over (s3.trans s4) hc
  refine⟨_,rfl,.inl ⟨rfl,_,SqL.of ae⟩,_,rfl,H0,x,d,rfl,e0.trans s5,hrd,fun z hz=>hlen _ (hC _ (List.mem_flatMap.mpr ⟨d,dm,qH _ hz⟩)),fun H6 l6 s6 n6 h6=>?_⟩
  refine⟨c,l6,_,_,rfl,rfl,s6 _ _ ae,h6,aX (m:=3000) (by rw[qa,q5,q5,q5];omega),?_⟩
  refine⟨_,rfl,aa.over (s5.trans s6) hc,?_,?_⟩
  ·rw[ae,qq,hd]
   simp[qU,a8.cards]
  ·rw[aj lc]
   refine s6 _ _ ?_
   rw[aj lc]
   exact s4 _ _ hl3
 ·rintro σ H3 ⟨v,rfl,s3,hc3,hl3⟩
  rw[hus.len,qG]at hc3
  have f1:=few (ah ds).length
  rw[qG]at f1
  refine⟨_,rfl,c,(ah ds).flatMap a8.cards,rfl,SqL.of hc3,Qo,fun p hp=>?_⟩
  refine⟨p,(ah ds).flatMap a8.cards,C,rfl,ae,hC,h64,fun r zs hr' nd hm so=>?_⟩
  have p0:=aa.none s3 hp
  have r0:H r=none:=by
   refine aa.none s3 ?_
   cases q:H3 r with
   |none=>rfl
   |some o=>
    have:r≠p:=bN q hp
    rw[aj this,q]at hr'
    cases hr'
  exact k _ r zs (aa.over (aa.over s3 p0) r0) r0 ae nd hm so
theorem tI (T:Tx P w K mg a):aC P w K mg base CX0 17 a.cards_of a.fd_cards_of ["program"] pN:=by
 refine T.F_cards_of.ok ji (fun vs H Q E h=>?_) (fun cdv A outer s H vs Q E hr h=>?_)
 ·obtain⟨_,_,_,_,_,_,_,_,_,rfl,_⟩:=h
  rfl
 obtain⟨p,la,ls,lb,asks,ss,ds,us,C,rfl,rp,hdp,hfl,ha,hs,hsl,hC,h64,hlen,k⟩:=h
 refine⟨_,(ai (ax (i:=1) ji.nd rfl (Or.inl rfl) (ay cg (ay cg (ap ar (pq 0) ag (fun _ _=>rfl)) (az (jD T) (hr.mono Qk) rfl T.m_touched T.F_touched.kp T.b_touched .nil ao (a9 (ap ar (pq 0) ag (fun _ _=>rfl)) ac))) (aL (a9 (dN rfl T.c_OUTLET T.r_OUTLET) ac))))
  (ai (cj PassesOwn.never rfl (bQ (ap ar (pq 0) ag (fun _ _=>rfl))) (gG rfl (cU (bf (i:=2) ji.nd rfl (Or.inl rfl)) (cU (bf (i:=3) ji.nd rfl (Or.inl rfl)) gF)))
  (aq (aO (bV qf PySem.F.slot_list_extend PySem.F.type_list_extend iD (pq 1) (a9 (aL (a9 (az (mN T) (hr.mono Qk) rfl T.m_put_card T.F_put_card.kp T.b_put_card .nil ao (a9 (pq 2) ac)) (a9 (az (mP T) (hr.mono Qk) rfl T.m_get_card T.F_get_card.kp T.b_get_card .nil ao (a9 (pq 2) ac)) ac))) ac)))))
  (aq (aH (bp (iS rfl) rfl T.z_sorted PyProof.Rows.Boot.«sorted» (a9 (bR (fP rfl) rfl T.z_set PyProof.Rows.Boot.«set» (a9 (pq 1) ac)) ac)))))),?_⟩
 have hcC:∀q∈cards ds,q∈C:=fun q hq=>hC q (by unfold cM;simp[hq])
 refine⟨_,rfl,p,_,_,_,rfl,rfl,SqT.of rp.top,rfl,?_⟩
 refine⟨_,rfl,p,_,_,_,rfl,rfl,SqT.of rp.top,rfl,H,lb,ds,C,rfl,aa.refl H,rp.bo,hdp,hfl,hcC,h64,hlen,fun H1 l1 zs1 s1 n1 h1 nd1 hm1 so1=>?_⟩
 have z64:zs1.length<64:=Nat.lt_of_le_of_lt (cq nd1 fun q hq=>hcC q ((hm1 q).mp hq)) h64
 refine⟨la,l1,_,_,rfl,rfl,SqL.of (s1 _ _ rp.as),SqL.of h1,aX (m:=3000) (by rw[q5,q5];omega),fun p1 hp1=>?_⟩
 refine⟨ln1,fun p2 hp2=>?_⟩
 refine⟨p1,p2,_,_,rfl,rfl,SqL.of (aa.new hp2 _ _ _ ae),SqL.of ae,aX (m:=3000) (by rw[qa,q5,q5,List.length_singleton];omega),fun p3 hp3=>?_⟩
 have s2:=s1.trans (aa.new hp1 (.lst (asks.map V.str++zs1.map V.str)))
 have s3:=s2.trans (aa.new hp2 (.lst [V.str (">":Str)]))
 have n3:=aa.none s3 hp3
 have s4:aa H (upd (upd (upd H1 p1 (.lst (asks.map V.str++zs1.map V.str))) p2 (.lst [V.str (">":Str)])) p3 (.lst (asks.map V.str++zs1.map V.str++[V.str (">":Str)]))):=aa.over s3 n3
 refine⟨_,rfl,p,_,_,_,rfl,rfl,SqT.of (s4 _ _ rp.top),rfl,ls,rfl,⟨_,SqL.of (s4 _ _ rp.st)⟩,?_⟩
 have ul:=rp.ro.len
 have fl:∀i,((ss.take i).flatMap fun s=>[s.1++(">":Str),s.1++("<":Str)]).length=2 * (ss.take i).length:=fun i=>by
  induction ss.take i with
  |nil=>rfl
  |cons x r ih=>rw[qE,qa,ih,qz];simp;omega
 refine db (K:=K) (a:=ls) (xs:=us) (fun i σ H5=>∃v v',σ=[some (.ref p),some (.ref p3),v,v']/\aa H H5/\H5 p3=some (.lst ((asks++zs1++[(">":Str)]++(ss.take i).flatMap fun s=>[s.1++(">":Str),s.1++("<":Str)]).map V.str))) ⟨_,_,rfl,s4,?_⟩ ?_ ?_ ?_
 ·rw[ae]
  simp
 ·rintro i σ H5 _ ⟨v,v',_,s5,h5⟩
  exact SqL.of (s5 _ _ rp.st)
 ·rintro i x σ H5 hx ⟨v,v',rfl,s5,h5⟩
  obtain⟨px,q,n,rfl,hi,hpx⟩:=rp.ro.at i x hx
  have qm:q.length<=1000:=hsl _ (qy hi)
  refine⟨px,_,rfl,SqT.of (s5 _ _ hpx),rfl,_,_,rfl,_,_,rfl,rfl,?_⟩
  refine⟨_,rfl,.inl ⟨rfl,_,SqL.of h5⟩,_,rfl,q,rfl,qm,_,rfl,q,rfl,qm,ln2,fun p4 hp4=>?_⟩
  have lt:(ss.take i).length<=100:=by rw[qJ];omega
  refine⟨p3,p4,_,_,rfl,rfl,aa.new hp4 _ _ _ h5,ae,aX (m:=3000) ?_,?_⟩
  ·rw[q5,qa,fl,qa,qa]
   simp
   omega
  refine⟨_,_,rfl,aa.over (s5.trans (aa.new hp4 _)) n3,?_⟩
  rw[ae,qq,hi]
  simp
 ·rintro σ H5 ⟨v,v',rfl,s5,h5⟩
  rw[ul,qG]at h5
  have f1:=fl ss.length
  rw[qG]at f1
  have mm:∀x,x∈asks++zs1++[(">":Str)]++(ss.flatMap fun s=>[s.1++(">":Str),s.1++("<":Str)])↔x∈cM asks ss ds:=fun x=>by
   unfold cM
   simp only[qg,hm1 x]
  refine⟨_,rfl,p3,_,rfl,SqL.of h5,?_,fun p6 hp6=>?_⟩
  ·rw[qa,f1,qa,qa,List.length_singleton]
   omega
  refine⟨p6,_,C,rfl,ae,fun x hx=>hC x ((mm x).mp hx),h64,fun r zs hr' nd hm so=>?_⟩
  have s6:aa H5 (upd H5 p6 (bv P w p6 (asks++zs1++[(">":Str)]++(ss.flatMap fun s=>[s.1++(">":Str),s.1++("<":Str)])))):=aa.new hp6 _
  exact k _ r zs ((s5.trans s6).trans (aa.new hr' _)) ae nd (fun x=>(hm x).trans (mm x)) so
theorem Ln.keep {H H':Hp}(k:TK H H') {v lv:V}{fs:List Int}(h:Ln H v lv fs):Ln H' v lv fs:=by
 obtain⟨u,f,e,h1,h2⟩:=h
 exact⟨u,f,e,k _ _ h1,k _ _ h2⟩
theorem SdH.keep {H H':Hp}(k:TK H H') {v:V}:∀{s:Sd},SdH H v s->SdH H' v s
 |.at _,⟨u,e,h⟩=>⟨u,e,k _ _ h⟩
 |.is _,⟨u,e,h⟩=>⟨u,e,k _ _ h⟩
theorem PgH.keep {H H':Hp}(k:TK H H') {v:V}:∀{p:PtG},PgH H v p->PgH H' v p
 |.pas ..,⟨u,i,o,r,e,h1,h2,h3,h4⟩=>⟨u,i,o,r,e,k _ _ h1,k _ _ h2,k _ _ h3,k _ _ h4⟩
 |.wrk ..,⟨u,i,x,y,e,h1,h2,h3,h4⟩=>⟨u,i,x,y,e,k _ _ h1,k _ _ h2,h3.keep k,h4.keep k⟩
 |.cho ..,⟨u,i,o,r,e,h1,h2,h3,h4⟩=>⟨u,i,o,r,e,k _ _ h1,k _ _ h2,k _ _ h3,k _ _ h4⟩
 |.mrg ..,⟨u,i,o,r,e,h1,h2,h3,h4⟩=>⟨u,i,o,r,e,k _ _ h1,k _ _ h2,k _ _ h3,k _ _ h4⟩
section
variable {H H' H2 H0:Hp}{c:BAd}{es:List Str}{fe:aD}{N:af}
theorem Fb.refl:Fb c H H:=fun _ _ _ _ _ h=>h
theorem Fb.trans (h:Fb c H H') (h':Fb c H' H2):Fb c H H2:=fun b o a1 a2 a3 h3=>h' b o a1 a2 a3 (h b o a1 a2 a3 h3)
theorem Fb.of (h:aa H H'):Fb c H H':=fun b o _ _ _ h3=>h b o h3
theorem Fb.more (h:Fb c H H') (h':aa H' H2):Fb c H H2:=h.trans (.of h')
theorem aa.fb (h:aa H H') (h':Fb c H' H2):Fb c H H2:=(Fb.of h).trans h'
theorem BG.tk (B:BG a H c es fe N) (k:Fb c H H'):TK H H':=fun b xs h=>by
 obtain⟨ls,hl,_⟩:=B.ln
 obtain⟨ps,hp,_⟩:=B.pt
 exact k b _ (fun z=>by rw[z,hl]at h;cases h) (fun z=>by rw[z,hp]at h;cases h) (fun z=>by rw[z,B.co]at h;cases h) h
theorem BG.same (B:BG a H c es fe N) (k:aa H H'):BG a H' c es fe N:=by
 obtain⟨ls,hl,rl⟩:=B.ln
 obtain⟨ps,hp,rp⟩:=B.pt
 have tk:TK H H':=fun b xs h=>k _ _ h
 exact⟨k _ _ B.ro,k _ _ B.eo,k _ _ B.co,B.ne,B.de,B.nd,⟨ls,k _ _ hl,rl.imp fun v d h=>h.keep tk⟩,⟨ps,k _ _ hp,rp.imp fun v d h=>h.keep tk⟩⟩
theorem BG.off {b:Addr}{o:HO}(B:BG a H c es fe N) (h:H b=none):b≠c.ll/\b≠c.lp/\b≠c.dc/\b≠c.de/\b≠c.p:=by
 obtain⟨ls,hl,_⟩:=B.ln
 obtain⟨ps,hp,_⟩:=B.pt
 refine⟨fun z=>?_,fun z=>?_,fun z=>?_,fun z=>?_,fun z=>?_⟩
 ·rw[z,hl]at h;cases h
 ·rw[z,hp]at h;cases h
 ·rw[z,B.co]at h;cases h
 ·rw[z,B.eo]at h;cases h
 ·rw[z,B.ro]at h;cases h
theorem BG.ads (B:BG a H c es fe N):c.p≠c.ll/\c.p≠c.lp/\c.p≠c.dc/\c.de≠c.ll/\c.de≠c.lp/\c.dc≠c.ll/\c.dc≠c.lp:=by
 obtain⟨ls,hl,_⟩:=B.ln
 obtain⟨ps,hp,_⟩:=B.pt
 have h1:=B.ro
 have h2:=B.eo
 have h3:=B.co
 refine⟨fun z=>?_,fun z=>?_,fun z=>?_,fun z=>?_,fun z=>?_,fun z=>?_,fun z=>?_⟩
 ·rw[z,hl]at h1;cases h1
 ·rw[z,hp]at h1;cases h1
 ·rw[z,h3]at h1;cases h1
 ·rw[z,hl]at h2;cases h2
 ·rw[z,hp]at h2;cases h2
 ·rw[z,hl]at h3;cases h3
 ·rw[z,hp]at h3;cases h3
theorem Lt.next (L:Lt c H0 H) (k:Fb c H H'):Lt c H0 H':=⟨fun b o h=>k b o (fun z=>by rw[z,L.n1]at h;cases h) (fun z=>by rw[z,L.n2]at h;cases h) (fun z=>by rw[z,L.n3]at h;cases h) (L.e0 _ _ h),L.n1,L.n2,L.n3⟩
theorem Lt.grow {b:Addr}{o:HO}(B:BG a H c es fe N) (L:Lt c H0 H) (hb:H0 b=none) (h:H b=some o) (n1:b≠c.ll) (n2:b≠c.lp) (n3:b≠c.dc):Lt c (upd H0 b o) H:=by
 refine⟨fun d u hu=>?_,?_,?_,?_⟩
 ·by_cases e:d=b
  ·subst e
   rw[ae]at hu
   cases hu
   exact h
  ·rw[aj e]at hu
   exact L.e0 _ _ hu
 ·rw[aj n1.symm];exact L.n1
 ·rw[aj n2.symm];exact L.n2
 ·rw[aj n3.symm];exact L.n3
theorem Sm.le {m k:Nat}(h:Sm N m) (l:k<=m):Sm N k:=⟨by have:=h.l;omega,by have:=h.p;omega,by have:=h.c;omega⟩
theorem Sm.next {N':af}{m k:Nat}(h:Sm N m) (g:Gr N N' k) (l:k<=m):Sm N' (m-k):=⟨by have:=h.l;have:=g.l2;omega,by have:=h.p;have:=g.p2;omega,by have:=h.c;have:=g.c2;omega⟩
end
theorem aG (n k:Nat):(wid n k).length=k:=by unfold wid;rw[q5,List.length_range]
theorem wG (n k:Nat):wid n (k+1)=wid n k++[((n+k:Nat):Int)]:=by unfold wid;rw[List.range_succ,qO];rfl
theorem ni {n m:Nat}(h:n<=m) (hm:m<=200000:=by decide):n<=sizeLine:=aX (m:=200000) Qo
theorem nj {n:Nat}(h:n<=200000):n<sizeLine:=Nat.lt_of_le_of_lt h (by rw[sizeLine_eq];decide)
theorem fF (T:Tx P w K mg a):aC P w K mg base CX0 1 a.Bench_add_line a.fd_Bench_add_line ["self","length","first"] (rF a):=by
 refine T.F_Bench_add_line.ok yB (fun vs H Q E h=>?_) (fun cdv A outer s H vs Q E hr h=>?_)
 ·obtain⟨_,_,_,_,_,_,_,rfl,_⟩:=h
  rfl
 obtain⟨c,es,fe,N,x,f,on,rfl,B,hf,sm,q⟩:=h
 refine⟨_,(ai (aO (bV qf qu qv dh (cV (pq 0) rfl) (a9 (aK (a9 (pq 1) (a9 (pq 2) ac))) ac)))
  (aq (aH (ay ma (bp bM rfl T.z_len PySem.boot_len (a9 (cV (pq 0) rfl) ac)) ag)))),?_⟩
 obtain⟨us,hl,rl⟩:=B.ln
 obtain⟨ps,hp,rp⟩:=B.pt
 obtain⟨a1,a2,a3,a4,a5,a6,a7⟩:=B.ads
 have le:=rl.len
 have sl:=sm.l
 refine⟨_,rfl,c.p,_,_,_,_,rfl,B.ro,T.cl_Bench,T.nf_Bench_lines,oo,.inl ⟨rfl,_,SqL.of hl⟩,_,rfl,_,rfl,ln2,fun t ht=>?_⟩
 have e1:=aa.new ht (.tup [x,.ref f])
 refine⟨c.ll,_,_,rfl,rfl,e1 _ _ hl,ni (m:=200000) Qo,?_⟩
 have B1:=B.same e1
 have t1:upd H t (.tup [x,.ref f]) t=_:=ae
 have f1:=e1 _ _ hf
 obtain⟨us1,hl1,rl1⟩:=B1.ln
 obtain⟨ps1,hp1,rp1⟩:=B1.pt
 have hl':=e1 _ _ hl
 generalize upd H t (.tup [x,.ref f])=H1 at e1 B1 t1 f1 hl1 rl1 hp1 rp1 hl' ⊢
 rw[hl']at hl1
 cases hl1
 have k2:Fb c H1 (upd H1 c.ll (.lst (us++[.ref t]))):=fun b o h1 _ _ h=>by rw[aj h1];exact h
 have l2:upd H1 c.ll (.lst (us++[.ref t])) c.ll=some (.lst (us++[.ref t])):=ae
 have tk:=B1.tk k2
 have k0:∀b o,b≠c.ll->H1 b=some o->upd H1 c.ll (.lst (us++[.ref t])) b=some o:=fun b o h1 h=>by rw[aj h1];exact h
 generalize upd H1 c.ll (.lst (us++[.ref t]))=H2 at k2 l2 tk k0 ⊢
 have B2:BG a H2 c es fe (N.line ⟨x,on⟩):=⟨k0 _ _ a1 B1.ro,k0 _ _ a4 B1.eo,k0 _ _ a6 B1.co,B.ne,B.de,B.nd,⟨_,l2,R2s.app (.cons (y:=(⟨x,on⟩:LnD)) ⟨t,f,rfl,tk _ _ t1,tk _ _ f1⟩ .nil) (rl1.imp fun v d h=>h.keep tk)⟩,⟨ps1,k0 _ _ B.ne.symm hp1,rp1.imp fun v d h=>h.keep tk⟩⟩
 refine⟨_,rfl,c.p,_,_,_,_,rfl,B2.ro,T.cl_Bench,T.nf_Bench_lines,oo,c.ll,_,rfl,.inl (SqL.of l2),_,_,rfl,rfl,?_⟩
 rw[show(((us++[V.ref t]).length:Nat):Int)-1=(N.n:Int)by rw[qa,le];show(((N.ls.length+1:Nat):Int))-1=(N.ls.length:Int);omega]
 exact q H2 _ rfl (aa.fb e1 k2) B2
theorem dD (T:Tx P w K mg a):aC P w K mg base CX0 1 a.Bench_add_part a.fd_Bench_add_part ["self","part"] (rE a):=by
 refine T.F_Bench_add_part.ok yA (fun vs H Q E h=>?_) (fun cdv A outer s H vs Q E hr h=>?_)
 ·obtain⟨_,_,_,_,_,_,rfl,_⟩:=h
  rfl
 obtain⟨c,es,fe,N,v,p,rfl,B,hv,sm,q⟩:=h
 refine⟨_,(aq (aO (bV qf qu qv dh (cV (pq 0) rfl) (a9 (pq 1) ac)))),?_⟩
 obtain⟨us,hl,rl⟩:=B.ln
 obtain⟨ps,hp,rp⟩:=B.pt
 obtain⟨a1,a2,a3,a4,a5,a6,a7⟩:=B.ads
 have le:=rp.len
 have sl:=sm.p
 refine⟨_,rfl,c.p,_,_,_,_,rfl,B.ro,T.cl_Bench,T.nf_Bench_parts,vV,.inl ⟨rfl,_,SqL.of hp⟩,_,rfl,c.lp,_,_,rfl,rfl,hp,ni (m:=200000) Qo,?_⟩
 have k2:Fb c H (upd H c.lp (.lst (ps++[v]))):=fun b o _ h1 _ h=>by rw[aj h1];exact h
 have tk:=B.tk k2
 have k0:∀b o,b≠c.lp->H b=some o->upd H c.lp (.lst (ps++[v])) b=some o:=fun b o h1 h=>by rw[aj h1];exact h
 exact q _ k2 ⟨k0 _ _ a2 B.ro,k0 _ _ a5 B.eo,k0 _ _ a7 B.co,B.ne,B.de,B.nd,⟨us,k0 _ _ B.ne hl,rl.imp fun v d h=>h.keep tk⟩,⟨_,ae,R2s.app (.cons (hv.keep tk) .nil) (rp.imp fun v d h=>h.keep tk)⟩⟩
theorem eK (T:Tx P w K mg a):aC P w K mg base CX0 1 a.Bench_wires_of a.fd_Bench_wires_of ["self","cards"] (rB a):=by
 refine T.F_Bench_wires_of.ok yy (fun vs H Q E h=>?_) (fun cdv A outer s H vs Q E hr h=>?_)
 ·obtain⟨_,_,_,_,_,_,rfl,_⟩:=h
  rfl
 obtain⟨c,es,fe,N,lc,zs,rfl,B,hc,c1,sub,q⟩:=h
 refine⟨_,(aq (aH (bR oh rfl T.z_tuple PyProof.Rows.Boot.«tuple» (a9 (cW (k:=1) (Nc:=["card","self"]) (js:=[0]) (show bn (aB jt) ["self","cards"] _ 1 ["card","self"] [0]from bn.mk rfl (by decide +kernel) (by decide +kernel) (by decide +kernel) rfl (by decide +kernel)) rfl (bQ (pq 1)) (fun _ _ _ _ _=>(bf (i:=0) (show List.Nodup (["card","self"]:List Str)from by decide +kernel) rfl (Or.inl rfl))) (fun _ _ _ _ _=>dM) (fun _ _ _ _ _=>(ap BN (zP (K:=K) rfl (pq 1) rfl) (pq 0) (fun _ _=>rfl)))) ac)))),?_⟩
 refine⟨_,rfl,lc,rfl,⟨_,SqL.of hc⟩,?_⟩
 refine iP (K:=K) (a:=lc) (xs:=zs.map V.str) (fun i ys σ H2=>(∃v,σ=[v,some (.ref c.p)])/\H2=H/\ys=((zs.take i).map N.fc).map V.int) ⟨⟨_,rfl⟩,rfl,rfl⟩ ?_ (aX (m:=2000) (by rw[q5];omega)) ?_ ?_ ?_
 ·rintro i ys σ H2 _ ⟨_,_,rfl⟩
  rw[q5,q5,qJ]
  omega
 ·rintro i ys σ H2 ⟨_,rfl,_⟩
  exact SqL.of hc
 ·rintro i x ys σ H2 hx ⟨⟨v,rfl⟩,rfl,rfl⟩
  rw[qD]at hx
  obtain⟨z,hz,rfl⟩:=qP.mp hx
  refine⟨_,rfl,c.p,_,_,_,_,rfl,B.ro,T.cl_Bench,T.nf_Bench_coming,oq,_,rfl,c.dc,_,.inr z,_,rfl,B.co,rfl,i4 (sub z (qy hz)),⟨_,rfl⟩,rfl,?_⟩
  rw[qq,hz,qO,qO]
  rfl
 rintro ys σ H2 ⟨_,rfl,rfl⟩ l hl
 rw[q5,qG]
 have e1:=aa.new hl (.lst ((zs.map N.fc).map V.int))
 refine⟨l,_,rfl,.inl ⟨SqL.of ae,fun t ht=>?_⟩⟩
 have e2:=aa.new ht (.tup ((zs.map N.fc).map V.int))
 exact q _ t (e1.trans e2) (bB ht) ae
theorem eL (T:Tx P w K mg a):aC P w K mg base CX0 1 a.Bench_lead a.fd_Bench_lead ["self","cards","wires"] (rC a):=by
 refine T.F_Bench_lead.ok kQ (fun vs H Q E h=>?_) (fun cdv A outer s H vs Q E hr h=>?_)
 ·obtain⟨_,_,_,_,_,_,_,_,rfl,_⟩:=h
  rfl
 obtain⟨c,es,fe,N,lc,t,zs,ws,rfl,B,hc,ht,len,sm,q⟩:=h
 refine⟨_,(aq (cj PassesOwn.never rfl (sS rfl T.z_zip (a9 (pq 1) (a9 (pq 2) ac))) (gG rfl (cU (bf (i:=3) kQ.nd rfl (Or.inl rfl)) (cU (bf (i:=4) kQ.nd rfl (Or.inl rfl)) gF)))
  (aq (fA (hr.one) (cV (pq 0) rfl) (pq 3) (pq 4) rfl)))),?_⟩
 have n1:lc≠c.dc:=fun z=>by rw[z,B.co]at hc;cases hc
 have n2:t≠c.dc:=fun z=>by rw[z,B.co]at ht;cases ht
 obtain⟨a1,a2,a3,a4,a5,a6,a7⟩:=B.ads
 have sc:=sm.c
 refine⟨_,rfl,_,rfl,false,true,lc,t,zs.map V.str,ws.map V.int,rfl,SqL.of hc,SqT.of ht,?_⟩
 refine uN (K:=K) (b1:=false) (b2:=true) (l1:=lc) (l2:=t) (xs:=zs.map V.str) (ys:=ws.map V.int) (fun i σ H2=>(∃v3 v4,σ=[some (.ref c.p),some (.ref lc),some (.ref t),v3,v4])/\(∀b o,b≠c.dc->H b=some o->H2 b=some o)/\H2 c.dc=some (.dK (tab ((zs.take i).foldl bK N.cs) (((zs.take i).zip ws).foldl (fun f z=>aW f z.1 z.2) N.fc)))) ⟨⟨_,_,rfl⟩,fun _ _ _ h=>h,B.co⟩ ?_ ?_ ?_
 ·rintro i σ H2 ⟨_,k2,_⟩
  exact⟨SqL.of (k2 _ _ n1 hc),SqT.of (k2 _ _ n2 ht)⟩
 ·rintro i x y σ H2 p5 hx hy ⟨⟨v3,v4,rfl⟩,k2,d2⟩ hp5
  rw[qD]at hx hy
  obtain⟨x,hx',rfl⟩:=qP.mp hx
  obtain⟨y,hy',rfl⟩:=qP.mp hy
  have e5:=aa.new hp5 (.tup [.str x,.int y])
  have p5':upd H2 p5 (.tup [.str x,.int y]) p5=some (.tup [.str x,.int y]):=ae
  have k5:∀b o,b≠c.dc->H b=some o->upd H2 p5 (.tup [.str x,.int y]) b=some o:=fun b o hb h=>e5 _ _ (k2 b o hb h)
  have d5:=e5 _ _ d2
  generalize upd H2 p5 (.tup [.str x,.int y])=H5 at p5' k5 d5 ⊢
  refine⟨p5,_,rfl,.inl (.inl p5'),rfl,_,_,rfl,_,_,rfl,rfl,?_⟩
  obtain⟨ka,_,kc⟩:=fg (zs.take i) N.cs
  have tl:(zs.take i).length<=zs.length:=by rw[qJ];omega
  refine⟨_,rfl,_,rfl,c.p,_,_,_,_,rfl,k5 _ _ a3 B.ro,T.cl_Bench,T.nf_Bench_coming,oq,_,rfl,c.dc,_,rfl,.inl ⟨_,.inr x,d5,rfl,by rw[gh];exact nj Qo,rfl⟩,?_⟩
  rw[j6 (kc B.nd)]
  refine⟨⟨_,_,rfl⟩,fun b o hb h=>by rw[aj hb];exact k5 b o hb h,?_⟩
  rw[ae,oG hx' hy',List.foldl_append,qq,hx',List.foldl_append]
  rfl
 ·rintro σ H2 ⟨_,k2,d2⟩
  rw[q5,q5,<- len,Nat.min_self,qG]at d2
  obtain⟨us,hl,rl⟩:=B.ln
  obtain⟨ps,hp,rp⟩:=B.pt
  have k3:Fb c H H2:=fun b o _ _ h=>k2 b o h
  have tk:=B.tk k3
  exact q H2 k3 ⟨k2 _ _ a3 B.ro,k2 _ _ B.de B.eo,d2,B.ne,B.de,(fg zs N.cs).2.2 B.nd,⟨us,k2 _ _ a6.symm hl,rl.imp fun v d h=>h.keep tk⟩,⟨ps,k2 _ _ a7.symm hp,rp.imp fun v d h=>h.keep tk⟩⟩
theorem cX (T:Tx P w K mg a):aC P w K mg base CX0 2 a.Bench_add_wires a.fd_Bench_add_wires ["self","count"] (rD a):=by
 refine T.F_Bench_add_wires.ok yz (fun vs H Q E h=>?_) (fun cdv A outer s H vs Q E hr h=>?_)
 ·obtain⟨_,_,_,_,_,rfl,_⟩:=h
  rfl
 obtain⟨c,es,fe,N,k,rfl,B,k1,sm,q⟩:=h
 refine⟨_,(aq (aH (bR oh rfl T.z_tuple PyProof.Rows.Boot.«tuple» (a9 (cW (k:=1) (Nc:=["wire","self"]) (js:=[0]) (show bn (aB ju) ["self","count"] _ 1 ["wire","self"] [0]from bn.mk rfl (by decide +kernel) (by decide +kernel) (by decide +kernel) rfl (by decide +kernel)) rfl (jB rfl T.z_range (a9 (pq 1) ac)) (fun _ _ _ _ _=>(bf (i:=0) (show List.Nodup (["wire","self"]:List Str)from by decide +kernel) rfl (Or.inl rfl))) (fun _ _ _ _ _=>dM) (fun _ _ _ _ _=>(aU (pq 1) T.cl_Bench T.mt_Bench_add_line (fF T) (hr.mono Qk) T.b_Bench_add_line .nil ao (a9 ag (a9 (aK ac) ac))))) ac)))),?_⟩
 refine⟨_,rfl,(k:Int),rfl,Qo,Qo,?_⟩
 refine jX (fun i ys σ H2=>(∃v,σ=[v,some (.ref c.p)])/\Fb c H H2/\BG a H2 c es fe (N.wires i)/\ys=(wid N.n i).map V.int) ⟨⟨_,rfl⟩,Fb.refl,by rw[show N.wires 0=N from by unfold af.wires;simp];exact B,rfl⟩ ?_ (aX (m:=2000) Qo) ?_ ?_
 ·rintro i ys σ H2 _ ⟨_,_,_,rfl⟩
  rw[q5,aG]
  exact qd _
 ·rintro i ys σ H2 hi ⟨⟨v,rfl⟩,k2,B2,rfl⟩
  refine⟨_,rfl,c.p,_,_,rfl,B2.ro,aV Qd,qr _,fun f hf=>?_⟩
  have e3:=aa.new hf (.tup [])
  have f3:upd H2 f (.tup []) f=some (.tup (([]:List Int).map V.int)):=ae
  have hi':i<k:=by simpa using hi
  refine⟨c,es,fe,N.wires i,.int 1,f,[],rfl,B2.same e3,f3,(sm.next aT Qo).le Qo,fun H4 m4 em4 k4 B4=>?_⟩
  subst em4
  have ew:(N.wires i).line ⟨.int 1,[]⟩=N.wires (i+1):=by
   unfold af.line af.wires
   rw[List.replicate_succ',<- qM]
   rfl
  rw[ew]at B4
  refine⟨⟨_,rfl⟩,k2.trans (aa.fb e3 k4),B4,?_⟩
  rw[wG,qO]
  show _++[V.int ((N.wires i).ls.length:Int)]=_
  rw[show(N.wires i).ls.length=N.n+i by show(N.ls++List.replicate i aQ).length=_;rw[qa,List.length_replicate];rfl]
  rfl
 ·rintro ys σ H2 ⟨_,k2,B2,rfl⟩ l hl'
  have ek:(k:Int).toNat=k:=qX k
  rw[ek]at B2
  rw[ek]
  have e3:=aa.new hl' (.lst ((wid N.n k).map V.int))
  refine⟨l,_,rfl,.inl ⟨SqL.of ae,fun t ht=>?_⟩⟩
  have e4:=aa.new ht (.tup ((wid N.n k).map V.int))
  have s4:=e3.trans e4
  refine q _ t (k2.more s4) (B2.same s4) ?_ ae
  have t2:=bB ht
  cases e:H t with
  |none=>rfl
  |some o=>
   obtain⟨m1,m2,m3,_,_⟩:=B2.off (o:=o) t2
   rw[k2 t o m1 m2 m3 e]at t2
   cases t2
theorem BG.put {H:Hp}{c:BAd}{es:List Str}{fe:aD}{N:af}{z:Str}{v:Int}(B:BG a H c es fe N):BG a (upd H c.dc (.dK (be (tab N.cs N.fc) (.inr z) (.int v)))) c es fe { N with cs:=bK N.cs z,fc:=aW N.fc z v }/\Fb c H (upd H c.dc (.dK (be (tab N.cs N.fc) (.inr z) (.int v)))):=by
 obtain⟨a1,a2,a3,a4,a5,a6,a7⟩:=B.ads
 obtain⟨us,hl,rl⟩:=B.ln
 obtain⟨ps,hp,rp⟩:=B.pt
 have k0:∀b o,b≠c.dc->H b=some o->upd H c.dc (.dK (be (tab N.cs N.fc) (.inr z) (.int v))) b=some o:=fun b o hb h=>by rw[aj hb];exact h
 have k3:Fb c H (upd H c.dc (.dK (be (tab N.cs N.fc) (.inr z) (.int v)))):=fun b o _ _ h=>k0 b o h
 have tk:=B.tk k3
 exact⟨⟨k0 _ _ a3 B.ro,k0 _ _ B.de B.eo,by rw[ae,j6 B.nd],B.ne,B.de,tU B.nd,⟨us,k0 _ _ a6.symm hl,rl.imp fun v d h=>h.keep tk⟩,⟨ps,k0 _ _ a7.symm hp,rp.imp fun v d h=>h.keep tk⟩⟩,k3⟩
theorem tH (T:Tx P w K mg a):aC P w K mg base CX0 3 a.lay_fork a.fd_lay_fork ["bench","name"] (pL a):=by
 refine T.F_lay_fork.ok rZ (fun vs H Q E h=>?_) (fun cdv A outer s H vs Q E hr h=>?_)
 ·obtain⟨_,_,_,_,_,rfl,_⟩:=h
  rfl
 obtain⟨c,es,fe,N,x,rfl,B,xc,sm,q⟩:=h
 refine⟨_,(ai (ax (i:=2) rZ.nd rfl (Or.inl rfl) (aU (pq 0) T.cl_Bench T.mt_Bench_add_wires (cX T) (hr.mono Qk) T.b_Bench_add_wires .nil ao (a9 ag ac)))
  (ai (aO (aU (pq 0) T.cl_Bench T.mt_Bench_add_part (dD T) (hr.mono Qk) T.b_Bench_add_part .nil ao (a9 (aK (a9 aF (a9 (aU (pq 0) T.cl_Bench T.mt_Bench_wires_of (eK T) (hr.mono Qk) T.b_Bench_wires_of .nil ao (a9 (aL (a9 (pq 1) ac)) ac)) (a9 (pq 2) (a9 (aK (a9 ag (a9 ag ac))) ac))))) ac)))
  (ai (aO (aU (pq 0) T.cl_Bench T.mt_Bench_lead (eL T) (hr.mono Qk) T.b_Bench_lead .nil ao (a9 (aL (a9 (pq 1) ac)) (a9 (gH rM (pq 2) (fB ag) iu) ac))))
  (aq (aH (ap ar (pq 2) ag (fun _ _=>rfl))))))),?_⟩
 refine⟨_,rfl,c.p,_,_,rfl,B.ro,aV Qd,c,es,fe,N,2,rfl,B,Qk,sm.le Qk,fun H1 t1 k1 B1 nt1 ht1=>?_⟩
 refine⟨_,rfl,c.p,_,_,rfl,B1.ro,aV Qd,_,rfl,c.p,_,_,rfl,B1.ro,aV Qd,_,rfl,ln1,fun l2 hl2=>?_⟩
 have e2:=aa.new hl2 (.lst [.str x])
 refine⟨c,es,fe,N.wires 2,l2,[x],rfl,B1.same e2,ae,by show 1<=1000;decide,fun y hy=>by rw[qS.mp hy];exact xc,fun H3 t3 s3 n3 ht3=>⟨_,rfl,ln2,fun r4 hr4=>⟨ln4,fun u5 hu5=>?_⟩⟩⟩
 have e4:=aa.new hr4 (.tup [.int 0,.int 0])
 have e5:=aa.new hu5 (.tup [.str "pass",.ref t3,.ref t1,.ref r4])
 have s15:=e2.trans (s3.trans (e4.trans e5))
 have e45:=e4.trans e5
 have r5:=e5 _ _ (ae (H:=H3) (a:=r4) (o:=.tup [.int 0,.int 0]))
 have u5':upd (upd H3 r4 (.tup [.int 0,.int 0])) u5 (.tup [.str "pass",.ref t3,.ref t1,.ref r4]) u5=_:=ae
 generalize upd (upd H3 r4 (.tup [.int 0,.int 0])) u5 (.tup [.str "pass",.ref t3,.ref t1,.ref r4])=H5 at s15 e45 r5 u5' ⊢
 clear e4 e5
 refine⟨c,es,fe,N.wires 2,.ref u5,.pas [N.fc x] (wid N.n 2) [0,0],rfl,B1.same s15,⟨u5,t3,t1,r4,rfl,u5',e45 _ _ ht3,s15 _ _ ht1,r5⟩,(sm.next aT Qk).le Qk,fun H6 k6 B6=>?_⟩
 have tk6:=(B1.same s15).tk k6
 refine⟨_,rfl,c.p,_,_,rfl,B6.ro,aV Qd,_,rfl,ln1,fun l7 hl7=>?_⟩
 have e7:=aa.new hl7 (.lst [.str x])
 have l7':upd H6 l7 (.lst [.str x]) l7=_:=ae
 have t17:upd H6 l7 (.lst [.str x]) t1=some (.tup [.int ((N.n+0:Nat):Int),.int ((N.n+1:Nat):Int)]):=e7 _ _ (tk6 _ _ (s15 _ _ ht1))
 generalize upd H6 l7 (.lst [.str x])=H7 at e7 l7' t17 ⊢
 refine⟨_,rfl,1,rfl,t1,_,rfl,SqT.of t17,by show ¬ (HT.sIx 2 0 (some 1)=0/\HT.sIx 2 2 none=2);decide,fun t8 ht8=>?_⟩
 have e8:=aa.new ht8 (.tup [.int ((N.n+1:Nat):Int)])
 refine⟨c,es,fe,_,l7,t8,[x],[((N.n+1:Nat):Int)],rfl,(B6.same e7).same e8,e8 _ _ l7',ae,rfl,(sm.next (aT.trans bJ) Qk).le (by show 1<=_;decide),fun H9 k9 B9=>?_⟩
 have f69:Fb c H6 H9:=aa.fb (e7.trans e8) k9
 have t19:=B6.tk f69 _ _ (tk6 _ _ (s15 _ _ ht1))
 have t19':H9 t1=some (.tup [.int ((N.n+0:Nat):Int),.int ((N.n+1:Nat):Int)]):=t19
 refine⟨_,rfl,t1,_,0,_,rfl,rfl,SqT.of t19',rfl,?_⟩
 exact q H9 (k1.trans ((aa.fb s15 k6).trans f69)) B9
theorem tF (T:Tx P w K mg a):aC P w K mg base CX0 1 a.side_of a.fd_side_of ["value","sources"] pA:=by
 refine T.F_side_of.ok yk (fun vs H Q E h=>?_) (fun cdv A outer s H vs Q E hr h=>?_)
 ·obtain⟨_,_,_,rfl,_⟩:=h
  rfl
 obtain⟨l,zs,va,rfl,hl,sub,z1,q⟩:=h
 refine⟨_,(ai (aY (gE (bp ig rfl T.z_isinstance PyProof.Rows.Boot.«isinstance» (a9 (pq 0) (a9 (ix (v:=.ty "str") rfl T.z_str PyProof.Rows.Boot.«str» rfl) ac)))) (aq (aH (aK (a9 aF (a9 (bV qf PySem.F.slot_list_index PySem.F.type_list_index mZ (pq 1) (a9 (pq 0) ac)) ac))))) bD)
  (aq (aH (aK (a9 aF (a9 (pq 0) ac)))))),?_⟩
 cases va with
 |num n=>
  refine⟨_,rfl,_,_,_,false,rfl,.int n,rfl,_,rfl,bi rfl ⟨_,rfl,ln2,fun u hu=>?_⟩⟩
  exact q _ _ (aa.new hu _) ⟨u,rfl,ae⟩
 |nm x=>
  refine⟨_,rfl,_,_,_,true,rfl,.str x,rfl,_,rfl,bY rfl ⟨_,rfl,.inl ⟨rfl,_,SqL.of hl⟩,_,rfl,l,zs,x,rfl,rfl,hl,sub x (by simp[Val.names]),Qo,ln2,fun u hu=>?_⟩⟩
  exact q _ _ (aa.new hu _) ⟨u,rfl,ae⟩
theorem Ak (T:Tx P w K mg a):aC P w K mg base CX0 2 a.read_by_set a.fd_read_by_set ["deed"] pB:=by
 refine T.F_read_by_set.ok ym (fun vs H Q E h=>?_) (fun cdv A outer s H vs Q E hr h=>?_)
 ·obtain⟨_,_,_,_,_,rfl,_⟩:=h
  rfl
 obtain⟨p,x,sg,va,vb,rfl,h,k⟩:=h
 refine⟨_,(aq (aH (bp (iS rfl) rfl T.z_sorted PyProof.Rows.Boot.«sorted» (a9 (ay zX (bR (fP rfl) rfl T.z_set PyProof.Rows.Boot.«set» (a9 (az (mO T) (hr.mono Qk) rfl T.m_names_in T.F_names_in.kp T.b_names_in .nil ao (a9 (pq 0) ac)) ac)) (bR (fP rfl) rfl T.z_set PyProof.Rows.Boot.«set» (a9 (aL (a9 (ap ar (pq 0) ag (fun _ _=>rfl)) ac)) ac))) ac)))),?_⟩
 refine⟨_,rfl,H,_,_,rfl,aa.refl _,.set h,fun H1 l1 s1 n1 h1=>?_⟩
 have nf:(a8.set x va sg vb).names.length<4:=by cases va<;>cases vb<;>simp[a8.names,Val.names]
 refine⟨l1,_,rfl,SqL.of h1,Qo,fun p2 hp2=>?_⟩
 have s2:=s1.trans (aa.new hp2 (bv P w p2 (a8.set x va sg vb).names))
 refine⟨_,rfl,_,_,_,_,rfl,rfl,SqT.of (s2 _ _ h),rfl,ln1,fun p3 hp3=>?_⟩
 have s3:=s2.trans (aa.new hp3 (.lst [V.str x]))
 refine⟨p3,[x],rfl,SqL.of ae,by simp,fun p4 hp4=>?_⟩
 have s34:=(aa.new hp3 (.lst [V.str x])).trans (aa.new hp4 (bv P w p4 [x]))
 have s4:=s2.trans s34
 refine⟨p2,p4,_,_,rfl,rfl,s34 _ _ ae,ae,nf,fun p5 hp5=>?_⟩
 have s5:=s4.trans (aa.new hp5 (bv P w p5 ((a8.set x va sg vb).names.filter fun k=>!decide (k∈[x]))))
 refine⟨p5,_,_,rfl,ae,fun q hq=>(List.mem_filter.mp hq).1,Qo,fun p6 zs hp6 nd hm so=>?_⟩
 exact k _ _ zs (s5.trans (aa.new hp6 _)) (aa.none s5 hp6) ae ⟨nd,fun y=>(hm y).trans (by simp[a8.names,or_and_right]),so⟩
theorem iQ {H:Hp}{c b:Addr}{xs ys:List V}{Q:VK}(hc:H c=some (.tup xs)) (hb:H b=some (.tup ys)) (ne:xs≠[]) (l:xs.length+ys.length<=1000) (k:∀p H',aa H H'->H' p=some (.tup (xs++ys))->Q (.ref p) H'):su K (.ref c) (.ref b) H Q:=
 ⟨c,b,xs,ys,rfl,rfl,SqT.of hc,SqT.of hb,ne,aX (m:=1000) l,fun e=>k c H (aa.refl _) (by rw[e,qw];exact hc),fun _ p hp=>k p _ (aa.new hp _) ae⟩
theorem Cr (n i:Nat):bw n (i+1)=bw n i++[((n+2 * i:Nat):Int)]:=by
 unfold bw
 rw[List.range_succ,qO]
 rfl
theorem uL:∀(rs:List Str) (N:af),(rs.foldl af.fork N).n=N.n+2 * rs.length
 |[],N=>rfl
 |r::rs,N=>by
  rw[List.foldl_cons,uL rs (N.fork r),qz]
  show(N.ls++List.replicate 2 aQ).length+_=N.ls.length+_
  rw[qa,List.length_replicate]
  omega
theorem Ar (T:Tx P w K mg a):aC P w K mg base CX0 4 a.lay_set a.fd_lay_set ["bench","deed"] (pI a):=by
 refine T.F_lay_set.ok gm (fun vs H Q E h=>?_) (fun cdv A outer s H vs Q E hr h=>?_)
 ·obtain⟨_,_,_,_,_,_,_,_,_,rfl,_⟩:=h
  rfl
 obtain⟨c,es,fe,N,t,x,sg,va,vb,rfl,B,ht,sub,sm,q⟩:=h
 refine⟨_,(ai (ax (i:=2) gm.nd rfl (Or.inl rfl) (ap ar (pq 1) ag (fun _ _=>rfl)))
  (ai (ax (i:=3) gm.nd rfl (Or.inl rfl) (az (Ak T) (hr.mono Qk) rfl T.m_read_by_set T.F_read_by_set.kp T.b_read_by_set .nil ao (a9 (pq 1) ac)))
  (ai (ax (i:=4) gm.nd rfl (Or.inl rfl) (ay iz (aU (pq 0) T.cl_Bench T.mt_Bench_wires_of (eK T) (hr.mono Qk) T.b_Bench_wires_of .nil ao (a9 (aL (a9 (pq 2) ac)) ac)) (bR oh rfl T.z_tuple PyProof.Rows.Boot.«tuple» (a9 (cW (k:=1) (Nc:=["other","bench"]) (js:=[0]) (show bn (aB jo) ["bench","deed","name","reads","ins","outs","sources"] _ 1 ["other","bench"] [0]from bn.mk rfl (by decide +kernel) (by decide +kernel) (by decide +kernel) rfl (by decide +kernel)) rfl (bQ (pq 3)) (fun _ _ _ _ _=>(bf (i:=0) (show List.Nodup (["other","bench"]:List Str)from by decide +kernel) rfl (Or.inl rfl))) (fun _ _ _ _ _=>dM) (fun _ _ _ _ _=>(az (tH T) (hr.mono Qk) rfl T.m_lay_fork T.F_lay_fork.kp T.b_lay_fork .nil ao (a9 (pq 1) (a9 (pq 0) ac))))) ac))))
  (ai (ax (i:=5) gm.nd rfl (Or.inl rfl) (aU (pq 0) T.cl_Bench T.mt_Bench_add_wires (cX T) (hr.mono Qk) T.b_Bench_add_wires .nil ao (a9 ag ac)))
  (ai (ax (i:=6) gm.nd rfl (Or.inl rfl) (ay cg (aL (a9 (pq 2) ac)) (pq 3)))
  (ai (aO (aU (pq 0) T.cl_Bench T.mt_Bench_add_part (dD T) (hr.mono Qk) T.b_Bench_add_part .nil ao (a9 (aK (a9 aF (a9 (pq 4) (a9 (ap ar (pq 5) ag (fun _ _=>rfl)) (a9 (ap ar (pq 1) ag (fun _ _=>rfl)) (a9 (az (tF T) (hr.mono Qk) rfl T.m_side_of T.F_side_of.kp T.b_side_of .nil ao (a9 (ap ar (pq 1) ag (fun _ _=>rfl)) (a9 (pq 6) ac))) (a9 (az (tF T) (hr.mono Qk) rfl T.m_side_of T.F_side_of.kp T.b_side_of .nil ao (a9 (ap ar (pq 1) ag (fun _ _=>rfl)) (a9 (pq 6) ac))) ac))))))) ac)))
  (aq (aO (aU (pq 0) T.cl_Bench T.mt_Bench_lead (eL T) (hr.mono Qk) T.b_Bench_lead .nil ao (a9 (aL (a9 (pq 2) ac)) (a9 (pq 5) ac))))))))))),?_⟩
 have xc:x∈N.cs:=sub x (by simp[a8.names])
 refine⟨_,rfl,t,_,1,_,rfl,rfl,SqT.of ht,rfl,?_⟩
 refine⟨_,rfl,t,x,sg,va,vb,rfl,ht,fun H1 l1 rs s1 n1 h1 ro=>?_⟩
 have rfew:=ro.few
 have rin:∀y∈rs,y∈N.cs:=fun y hy=>sub y (by
  have:=((ro.mem y).mp hy).1
  simp only[a8.names,qt,qg]
  exact .inr this)
 have B1:=B.same s1
 refine⟨_,rfl,c.p,_,_,rfl,B1.ro,aV Qd,_,rfl,ln1,fun l2 hl2=>?_⟩
 have e2:=aa.new hl2 (.lst [.str x])
 refine⟨c,es,fe,N,l2,[x],rfl,B1.same e2,ae,by show 1<=1000;decide,fun y hy=>by rw[qS.mp hy];exact xc,fun H3 t3 s3 n3 ht3=>?_⟩
 have s13:=e2.trans s3
 have B3:=B1.same s13
 have h13:=s13 _ _ h1
 obtain⟨m1,m2,m3,_,_⟩:=B.off (o:=.lst []) n1
 refine⟨_,rfl,l1,rfl,⟨_,SqL.of h13⟩,?_⟩
 refine iP (K:=K) (a:=l1) (xs:=rs.map V.str) (fun i ys σ H4=>(∃v,σ=[v,some (.ref c.p)])/\Fb c H3 H4/\BG a H4 c es fe ((rs.take i).foldl af.fork N)/\ys=(bw N.n i).map V.int) ⟨⟨_,rfl⟩,Fb.refl,B3,rfl⟩ ?_ (aX (m:=2000) (by rw[q5];omega)) ?_ ?_ ?_
 ·rintro i ys σ H4 _ ⟨_,_,_,rfl⟩
  rw[q5,uM]
  exact qd _
 ·rintro i ys σ H4 ⟨_,k4,_⟩
  exact SqL.of (k4 _ _ m1 m2 m3 h13)
 ·rintro i y ys σ H4 hx ⟨⟨v,rfl⟩,k4,B4,rfl⟩
  rw[qD]at hx
  obtain⟨z,hz,rfl⟩:=qP.mp hx
  have i2:i<rs.length:=(qe.mp hz).1
  have tl:(rs.take i).length=i:=by rw[qJ];omega
  have gf:=jU (rs.take i) N
  rw[tl]at gf
  refine⟨_,rfl,_,rfl,c,es,fe,_,z,rfl,B4,gf.sub z (rin z (qy hz)),(sm.next gf Qo).le Qo,fun H5 k5 B5=>?_⟩
  refine⟨⟨_,rfl⟩,k4.trans k5,?_,?_⟩
  ·rw[qq,hz,Option.toList,List.foldl_append]
   exact B5
  ·rw[Cr,qO,uL,tl]
   rfl
 rintro ys σ H4 ⟨_,k4,B4,rfl⟩ l5 hl5
 rw[q5,qG]at B4
 rw[q5]
 have e5:=aa.new hl5 (.lst ((bw N.n rs.length).map V.int))
 refine⟨l5,_,rfl,.inl ⟨SqL.of ae,fun t6 ht6=>?_⟩⟩
 have e6:=aa.new ht6 (.tup ((bw N.n rs.length).map V.int))
 have t6':upd (upd H4 l5 (.lst ((bw N.n rs.length).map V.int))) t6 (.tup ((bw N.n rs.length).map V.int)) t6=_:=ae
 have e46:=e5.trans e6
 generalize upd (upd H4 l5 (.lst ((bw N.n rs.length).map V.int))) t6 (.tup ((bw N.n rs.length).map V.int))=H6 at e46 t6' ⊢
 have tk34:=B3.tk k4
 refine iQ (xs:=[V.int (N.fc x)]) (e46 _ _ (tk34 _ _ ht3)) t6' (by simp) (by rw[q5,uM];show 1+_<=_;omega) fun t7 H7 s7 h7=>?_
 have gM:=jU rs N
 generalize hM:rs.foldl af.fork N=M at *
 have B7:=B4.same (e46.trans s7)
 refine⟨_,rfl,c.p,_,_,rfl,B7.ro,aV Qd,c,es,fe,M,1,rfl,B7,Qk,(sm.next gM Qo).le Qo,fun H8 t8 k8 B8 nt8 ht8=>?_⟩
 have hl8:H8 l1=_:=k8 _ _ m1 m2 m3 (s7 _ _ (e46 _ _ (k4 _ _ m1 m2 m3 h13)))
 have tk78:=B7.tk k8
 have tk18:TK H H8:=fun b xs h=>tk78 _ _ (s7 _ _ (e46 _ _ (tk34 _ _ (s13 _ _ (s1 _ _ h)))))
 refine⟨_,rfl,ln1,fun l9 hl9=>?_⟩
 have e9:=aa.new hl9 (.lst [.str x])
 refine⟨_,rfl,l9,l1,[.str x],rs.map V.str,rfl,rfl,SqL.of ae,SqL.of (e9 _ _ hl8),aX (m:=1000) (by rw[q5];show 1+_<=_;omega),fun l10 hl10=>?_⟩
 have e10:=aa.new hl10 (.lst ([.str x]++rs.map V.str))
 have e89:=e9.trans e10
 have l10':upd (upd H8 l9 (.lst [.str x])) l10 (.lst ([.str x]++rs.map V.str)) l10=some (.lst ((x::rs).map V.str)):=ae
 generalize upd (upd H8 l9 (.lst [.str x])) l10 (.lst ([.str x]++rs.map V.str))=H10 at e89 l10' ⊢
 have B10:=B8.same e89
 have ht10:H10 t=some _:=e89 _ _ (tk18 _ _ ht)
 have t810:H10 t8=some (.tup [.int ((M.n+0:Nat):Int)]):=e89 _ _ ht8
 have t710:H10 t7=some (.tup ((N.fc x::bw N.n rs.length).map V.int)):=e89 _ _ (tk78 _ _ h7)
 have srcs:∀v∈[va,vb],∀y∈v.names,y∈x::rs:=by
  intro v hv y hy
  by_cases e:y=x
  ·exact e▸qk
  ·refine qj _ ((ro.mem y).mpr ⟨?_,e⟩)
   rcases qt.mp hv with z|z
   ·exact .inl (z▸hy)
   ·exact .inr (qS.mp z▸hy)
 have rl1:(x::rs).length<=100:=by rw[qz];omega
 refine⟨_,rfl,c.p,_,_,rfl,B10.ro,aV Qd,_,rfl,_,rfl,t8,_,0,_,rfl,rfl,SqT.of t810,rfl,_,rfl,t,_,3,_,rfl,rfl,SqT.of ht10,rfl,?_⟩
 refine⟨_,rfl,t,_,2,_,rfl,rfl,SqT.of ht10,rfl,_,rfl,l10,x::rs,va,rfl,l10',srcs va (by simp),rl1,fun H11 v11 s11 d11=>?_⟩
 refine⟨_,rfl,t,_,4,_,rfl,rfl,SqT.of (s11 _ _ ht10),rfl,_,rfl,l10,x::rs,vb,rfl,s11 _ _ l10',srcs vb (by simp),rl1,fun H12 v12 s12 d12=>?_⟩
 refine⟨ln6,fun t13 ht13=>?_⟩
 have e13:=aa.new ht13 (.tup [.str "work",.ref t7,.int ((M.n+0:Nat):Int),.str sg,v11,v12])
 have t13':upd H12 t13 (.tup [.str "work",.ref t7,.int ((M.n+0:Nat):Int),.str sg,v11,v12]) t13=_:=ae
 have d13:=d11.keep (fun b xs h=>e13 _ _ (s12 _ _ h):TK H11 (upd H12 t13 (.tup [.str "work",.ref t7,.int ((M.n+0:Nat):Int),.str sg,v11,v12])))
 have d13':=d12.keep (fun b xs h=>e13 _ _ h:TK H12 (upd H12 t13 (.tup [.str "work",.ref t7,.int ((M.n+0:Nat):Int),.str sg,v11,v12])))
 have e1013:=(s11.trans s12).trans e13
 generalize upd H12 t13 (.tup [.str "work",.ref t7,.int ((M.n+0:Nat):Int),.str sg,v11,v12])=H13 at e1013 t13' d13 d13' ⊢
 refine⟨c,es,fe,M.wires 1,.ref t13,.wrk (N.fc x::bw N.n rs.length) M.n sg (dg (x::rs) va) (dg (x::rs) vb),rfl,B10.same e1013,⟨t13,t7,v11,v12,rfl,t13',e1013 _ _ t710,d13,d13'⟩,(sm.next (gM.trans aT) Qo).le Qo,fun H14 k14 B14=>?_⟩
 refine⟨_,rfl,c.p,_,_,rfl,B14.ro,aV Qd,_,rfl,ln1,fun l15 hl15=>?_⟩
 have e15:=aa.new hl15 (.lst [.str x])
 have t815:=e15 _ _ ((B10.same e1013).tk k14 _ _ (e1013 _ _ t810))
 refine⟨_,rfl,c,es,fe,_,l15,t8,[x],[(M.n:Int)],rfl,B14.same e15,ae,t815,rfl,(sm.next ((gM.trans aT).trans bJ) Qo).le (by show 1<=_;omega),fun H16 k16 B16=>?_⟩
 subst hM
 refine q H16 rs ro ?_ B16
 exact((Fb.of (s1.trans s13)).trans k4).trans ((Fb.of (e46.trans s7)).trans (k8.trans ((Fb.of (e89.trans e1013)).trans (k14.trans (aa.fb e15 k16)))))
theorem tG (T:Tx P w K mg a):aC P w K mg base CX0 4 a.lay_handing a.fd_lay_handing ["bench","card","name","end"] (pJ a):=by
 refine T.F_lay_handing.ok kM (fun vs H Q E h=>?_) (fun cdv A outer s H vs Q E hr h=>?_)
 ·obtain⟨_,_,_,_,_,_,_,rfl,_⟩:=h
  rfl
 obtain⟨c,es,fe,N,d,x,e,rfl,B,dc,xc,ec,sm,q⟩:=h
 refine⟨_,(ai (ax (i:=4) kM.nd rfl (Or.inl rfl) (ay iz (aU (pq 0) T.cl_Bench T.mt_Bench_wires_of (eK T) (hr.mono Qk) T.b_Bench_wires_of .nil ao (a9 (aL (a9 (pq 1) ac)) ac)) (aK (a9 (az (tH T) (hr.mono Qk) rfl T.m_lay_fork T.F_lay_fork.kp T.b_lay_fork .nil ao (a9 (pq 0) (a9 (pq 2) ac))) ac))))
  (ai (ax (i:=5) kM.nd rfl (Or.inl rfl) (aU (pq 0) T.cl_Bench T.mt_Bench_add_wires (cX T) (hr.mono Qk) T.b_Bench_add_wires .nil ao (a9 ag ac)))
  (ai (aO (aU (pq 0) T.cl_Bench T.mt_Bench_add_part (dD T) (hr.mono Qk) T.b_Bench_add_part .nil ao (a9 (aK (a9 aF (a9 (pq 4) (a9 (ay iz (pq 5) (aK (a9 (jC hr.one (cV (pq 0) rfl) (pq 3) (fun _ _=>rfl)) ac))) (a9 (aK (a9 ag (a9 ag ac))) ac))))) ac)))
  (aq (aO (aU (pq 0) T.cl_Bench T.mt_Bench_lead (eL T) (hr.mono Qk) T.b_Bench_lead .nil ao (a9 (aL (a9 (pq 1) ac)) (a9 (pq 5) ac)))))))),?_⟩
 refine⟨_,rfl,c.p,_,_,rfl,B.ro,aV Qd,_,rfl,ln1,fun l2 hl2=>?_⟩
 have e2:=aa.new hl2 (.lst [.str d])
 refine⟨c,es,fe,N,l2,[d],rfl,B.same e2,ae,by show 1<=1000;decide,fun y hy=>by rw[qS.mp hy];exact dc,fun H3 t3 s3 n3 ht3=>?_⟩
 have B3:=(B.same e2).same s3
 refine⟨_,rfl,_,rfl,c,es,fe,N,x,rfl,B3,xc,sm.le Qk,fun H4 k4 B4=>⟨ln1,fun t5 ht5=>?_⟩⟩
 have e5:=aa.new ht5 (.tup [.int (N.n:Int)])
 refine iQ (xs:=[V.int (N.fc d)]) (e5 _ _ (B3.tk k4 _ _ ht3)) ae (by simp) (by show 1+1<=1000;decide) fun t6 H6 s6 h6=>?_
 have e46:=e5.trans s6
 have B6:=B4.same e46
 have gM:=nO (N:=N) (x:=x)
 generalize hM:N.fork x=M at *
 refine⟨_,rfl,c.p,_,_,rfl,B6.ro,aV Qd,c,es,fe,M,1,rfl,B6,Qk,(sm.next gM Qk).le Qk,fun H7 t7 k7 B7 nt7 ht7=>?_⟩
 refine⟨_,rfl,c.p,_,_,rfl,B7.ro,aV Qd,_,rfl,_,rfl,_,rfl,c.p,_,_,_,_,rfl,B7.ro,T.cl_Bench,T.nf_Bench_ends,iT,_,rfl,c.de,_,rfl,(by have:=dH.k (k:=.inr e) B7.eo;rw[i4 ec]at this;exact this),ln1,fun t8 ht8=>?_⟩
 have e8:=aa.new ht8 (.tup [.int (fe e)])
 refine iQ (xs:=[V.int ((M.n+0:Nat):Int)]) (e8 _ _ ht7) ae (by simp) (by show 1+1<=1000;decide) fun t9 H9 s9 h9=>⟨ln2,fun r10 hr10=>⟨ln4,fun u11 hu11=>?_⟩⟩
 have e10:=aa.new hr10 (.tup [.int 0,.int 1])
 have e11:=aa.new hu11 (.tup [.str "pass",.ref t6,.ref t9,.ref r10])
 have s711:=(e8.trans s9).trans (e10.trans e11)
 have B11:=B7.same s711
 have e911:=e10.trans e11
 refine⟨c,es,fe,M.wires 1,.ref u11,.pas [N.fc d,(N.n:Int)] [(M.n:Int),fe e] [0,1],rfl,B11,⟨u11,t6,t9,r10,rfl,ae,s711 _ _ (B6.tk k7 _ _ h6),e911 _ _ h9,e11 _ _ ae⟩,(sm.next (gM.trans aT) Qk).le Qk,fun H12 k12 B12=>?_⟩
 refine⟨_,rfl,c.p,_,_,rfl,B12.ro,aV Qd,_,rfl,ln1,fun l13 hl13=>?_⟩
 have e13:=aa.new hl13 (.lst [.str d])
 refine⟨_,rfl,c,es,fe,_,l13,t7,[d],[(M.n:Int)],rfl,B12.same e13,ae,e13 _ _ (B11.tk k12 _ _ (s711 _ _ ht7)),rfl,(sm.next ((gM.trans aT).trans bJ) Qk).le (by show 1<=_;decide),fun H14 k14 B14=>?_⟩
 subst hM
 refine q H14 ?_ B14
 exact((Fb.of (e2.trans s3)).trans k4).trans ((Fb.of e46).trans (k7.trans ((Fb.of s711).trans (k12.trans (aa.fb e13 k14)))))
theorem Aw (T:Tx P w K mg a):aC P w K mg base CX0 4 a.lay_get a.fd_lay_get ["bench","store","name"] (pK a):=by
 refine T.F_lay_get.ok jh (fun vs H Q E h=>?_) (fun cdv A outer s H vs Q E hr h=>?_)
 ·obtain⟨_,_,_,_,_,_,rfl,_⟩:=h
  rfl
 obtain⟨c,es,fe,N,s,x,rfl,B,sl,sc,xc,se,sm,q⟩:=h
 refine⟨_,(ai (ax (i:=3) jh.nd rfl (Or.inl rfl) (aL (a9 (az (mP T) (hr.mono Qk) rfl T.m_get_card T.F_get_card.kp T.b_get_card .nil ao (a9 (pq 1) ac)) (a9 (pq 2) ac))))
  (ai (ax (i:=4) jh.nd rfl (Or.inl rfl) (ay iz (aU (pq 0) T.cl_Bench T.mt_Bench_wires_of (eK T) (hr.mono Qk) T.b_Bench_wires_of .nil ao (a9 (pq 3) ac)) (aK (a9 (jC hr.one (cV (pq 0) rfl) (pq 1) (fun _ _=>rfl)) ac))))
  (ai (ax (i:=5) jh.nd rfl (Or.inl rfl) (aU (pq 0) T.cl_Bench T.mt_Bench_add_wires (cX T) (hr.mono Qk) T.b_Bench_add_wires .nil ao (a9 ag ac)))
  (ai (aO (aU (pq 0) T.cl_Bench T.mt_Bench_add_part (dD T) (hr.mono Qk) T.b_Bench_add_part .nil ao (a9 (aK (a9 aF (a9 (pq 4) (a9 (pq 5) (a9 (aK (a9 ag (a9 ag ac))) ac))))) ac)))
  (aq (aO (aU (pq 0) T.cl_Bench T.mt_Bench_lead (eL T) (hr.mono Qk) T.b_Bench_lead .nil ao (a9 (pq 3) (a9 (pq 5) ac))))))))),?_⟩
 refine⟨_,rfl,s,rfl,sl,_,rfl,ln2,fun l1 hl1=>?_⟩
 have e1:=aa.new hl1 (.lst [.str (s++("<":Str)),.str x])
 have l1':upd H l1 (.lst [.str (s++("<":Str)),.str x]) l1=some (.lst ([s++("<":Str),x].map V.str)):=ae
 have B1:=B.same e1
 generalize upd H l1 (.lst [.str (s++("<":Str)),.str x])=H1 at e1 l1' B1 ⊢
 refine⟨_,rfl,c.p,_,_,rfl,B1.ro,aV Qd,_,rfl,c,es,fe,N,l1,[s++("<":Str),x],rfl,B1,l1',by show 2<=1000;decide,fun y hy=>?_,fun H3 t3 s3 n3 ht3=>?_⟩
 ·simp only[qt,qQ,or_false]at hy
  rcases hy with rfl|rfl
  ·exact sc
  ·exact xc
 have B3:=B1.same s3
 refine⟨_,rfl,c.p,_,_,_,_,rfl,B3.ro,T.cl_Bench,T.nf_Bench_ends,iT,_,rfl,c.de,_,rfl,(by have:=dH.k (k:=.inr s) B3.eo;rw[i4 se]at this;exact this),ln1,fun t4 ht4=>?_⟩
 have e4:=aa.new ht4 (.tup [.int (fe s)])
 refine iQ (e4 _ _ ht3) ae (by simp) (by show 2+1<=1000;decide) fun t5 H5 s5 h5=>?_
 have e35:=e4.trans s5
 have B5:=B3.same e35
 refine⟨_,rfl,c.p,_,_,rfl,B5.ro,aV Qd,c,es,fe,N,2,rfl,B5,Qk,sm.le Qk,fun H6 t6 k6 B6 nt6 ht6=>?_⟩
 have tk56:=B5.tk k6
 have n1:l1≠c.ll/\l1≠c.lp/\l1≠c.dc:=by
  obtain⟨m1,m2,m3,_,_⟩:=B.off (o:=.lst []) hl1
  exact⟨m1,m2,m3⟩
 have l6:=k6 _ _ n1.1 n1.2.1 n1.2.2 (e35 _ _ (s3 _ _ l1'))
 refine⟨_,rfl,c.p,_,_,rfl,B6.ro,aV Qd,_,rfl,_,rfl,ln2,fun r7 hr7=>⟨ln4,fun u8 hu8=>?_⟩⟩
 have e7:=aa.new hr7 (.tup [.int 0,.int 2])
 have e8:=aa.new hu8 (.tup [.str "pass",.ref t5,.ref t6,.ref r7])
 have e68:=e7.trans e8
 have B8:=B6.same e68
 refine⟨c,es,fe,N.wires 2,.ref u8,.pas [N.fc (s++("<":Str)),N.fc x,fe s] (wid N.n 2) [0,2],rfl,B8,⟨u8,t5,t6,r7,rfl,ae,e68 _ _ (tk56 _ _ h5),e68 _ _ ht6,e8 _ _ ae⟩,(sm.next aT Qk).le Qk,fun H9 k9 B9=>?_⟩
 have l9:=k9 _ _ n1.1 n1.2.1 n1.2.2 (e68 _ _ l6)
 refine⟨_,rfl,c.p,_,_,rfl,B9.ro,aV Qd,_,rfl,_,rfl,c,es,fe,_,l1,t6,[s++("<":Str),x],wid N.n 2,rfl,B9,l9,B8.tk k9 _ _ (e68 _ _ ht6),rfl,(sm.next (aT.trans bJ) Qk).le (by show 2<=_;decide),fun H10 k10 B10=>?_⟩
 refine q H10 ?_ B10
 exact(Fb.of (e1.trans (s3.trans e35))).trans (k6.trans ((Fb.of e68).trans (k9.trans k10)))
theorem EO.head {C es:List Str}{d:a8}(h:BO C es [d]):EO C es d:=h.all d (by rw[ah,ah,qw,df];exact qk)
theorem BO.mem {C es:List Str}{ds:List a8}{d:a8}(h:BO C es ds) (hd:d∈ds):BO C es [d]:=⟨fun e he=>h.all e ((uX hd).mem he),qx (vv hd) h.dp,qx (uX hd).length_le h.fl⟩
theorem BO.inner {C es:List Str}{d:a8}{b:List a8}(h:BO C es [d]) (hb:b∈d.inner):BO C es b:=⟨fun e he=>h.all e ((uZ hb).mem he),qx (Nat.le_of_lt (iN hb)) h.dp,qx (uZ hb).length_le h.fl⟩
theorem BO.cards {C es:List Str}{ds:List a8}(h:BO C es ds):∀k∈cards ds,k∈C:=fun k hk=>by
 obtain⟨d,hd,hk⟩:=List.mem_flatMap.mp hk
 exact(h.all d hd).cd k hk
theorem DO.mono {C es cs cs':List Str}{d:a8}(h:DO C es cs d) (k:∀x∈cs,x∈cs'):DO C es cs' d:=h.imp id fun⟨n,h1,h2⟩=>⟨n,k _ h1,h2⟩
theorem DO.plain {C es cs:List Str}{d:a8}(h:DO C es cs d) (hi:∀n,d≠ctD n):BO C es [d]:=h.resolve_right fun⟨n,_,e⟩=>hi n e
theorem Aq (T:Tx P w K mg a):aC P w K mg base CX0 5 a.lay_single a.fd_lay_single ["bench","deed"] (pH a):=by
 refine T.F_lay_single.ok rY (fun vs H Q E h=>?_) (fun cdv A outer s H vs Q E hr h=>?_)
 ·obtain⟨_,_,_,_,_,_,_,rfl,_⟩:=h
  rfl
 obtain⟨c,C,es,fe,N,v,d,rfl,B,rd,inn,nrep,dok,sub,gt,sm,q⟩:=h
 refine⟨_,(ai (ax (i:=2) rY.nd rfl (Or.inl rfl) (ap ar (pq 1) ag (fun _ _=>rfl)))
  (aq (aY (aJ bC (pq 2) aF (aP _)) (aq (aO (az (Ar T) (hr.mono Qk) rfl T.m_lay_set T.F_lay_set.kp T.b_lay_set .nil ao (a9 (pq 0) (a9 (pq 1) ac))))) (aq (aY (aJ bC (pq 2) aF (aP _)) (aq (aO (az (tG T) (hr.mono Qk) rfl T.m_lay_handing T.F_lay_handing.kp T.b_lay_handing .nil ao (a9 (pq 0) (a9 (az (mN T) (hr.mono Qk) rfl T.m_put_card T.F_put_card.kp T.b_put_card .nil ao (a9 (ap ar (pq 1) ag (fun _ _=>rfl)) ac)) (a9 (ap ar (pq 1) ag (fun _ _=>rfl)) (a9 (ap ar (pq 1) ag (fun _ _=>rfl)) ac))))))) (aq (aY (aJ bC (pq 2) aF (aP _)) (aq (aO (az (tG T) (hr.mono Qk) rfl T.m_lay_handing T.F_lay_handing.kp T.b_lay_handing .nil ao (a9 (pq 0) (a9 (dN rfl T.c_OUTLET T.r_OUTLET) (a9 (ap ar (pq 1) ag (fun _ _=>rfl)) (a9 (dN rfl T.c_OUTLET T.r_OUTLET) ac))))))) (aq (aO (az (Aw T) (hr.mono Qk) rfl T.m_lay_get T.F_lay_get.kp T.b_lay_get .nil ao (a9 (pq 0) (a9 (ap ar (pq 1) ag (fun _ _=>rfl)) (a9 (ap ar (pq 1) ag (fun _ _=>rfl)) ac))))))))))))),?_⟩
 cases rd with
 |set h=>
  rename_i t x va sg vb
  have nm:∀k∈(a8.set x va sg vb).names,k∈N.cs:=fun k hk=>by
   rcases dok with h'|⟨n,hn,e⟩
   ·exact sub k ((EO.head h').cd k (by unfold a8.cards;simp[hk]))
   ·rw[e]at hk
    simp[ctD,a8.names,Val.names]at hk
    rw[hk]
    exact hn
  refine⟨_,rfl,t,_,0,_,rfl,rfl,SqT.of h,rfl,?_⟩
  refine⟨_,rfl,rfl,_,rfl,?_⟩
  walk_at "yes"
  exact⟨_,rfl,_,rfl,c,es,fe,N,t,x,sg,va,vb,rfl,B,h,nm,sm,fun H' rs ro k' B'=>q H' _ k' B' (.set ro .nil) ((Ca ro).le Qk)⟩
 |put h=>
  rename_i t s x
  have eo:=EO.head (dok.plain fun n e=>by cases e)
  obtain⟨se,sl⟩:=eo.st s x (.inl rfl)
  refine⟨_,rfl,t,_,0,_,rfl,rfl,SqT.of h,rfl,?_⟩
  refine⟨_,rfl,rfl,_,rfl,?_⟩
  walk_at "no"
  refine⟨_,rfl,rfl,_,rfl,?_⟩
  walk_at "yes"
  refine⟨_,rfl,_,rfl,t,_,1,_,rfl,rfl,SqT.of h,rfl,s,rfl,sl,_,rfl,t,_,2,_,rfl,rfl,SqT.of h,rfl,_,rfl,t,_,1,_,rfl,rfl,SqT.of h,rfl,c,es,fe,N,_,x,s,rfl,B,sub _ (eo.cd _ (by simp[a8.cards,a8.others])),sub _ (eo.cd _ (by simp[a8.cards,a8.names])),se,sm,fun H' k' B'=>q H' _ k' B' (.put .nil) (uB.le Qk)⟩
 |give h=>
  rename_i t x
  have eo:=EO.head (dok.plain fun n e=>by cases e)
  refine⟨_,rfl,t,_,0,_,rfl,rfl,SqT.of h,rfl,?_⟩
  refine⟨_,rfl,rfl,_,rfl,?_⟩
  walk_at "no"
  refine⟨_,rfl,rfl,_,rfl,?_⟩
  walk_at "no"
  refine⟨_,rfl,rfl,_,rfl,?_⟩
  walk_at "yes"
  refine⟨_,rfl,_,rfl,t,_,1,_,rfl,rfl,SqT.of h,rfl,c,es,fe,N,_,x,(">":Str),rfl,B,sub _ (eo.cd _ (by simp[a8.cards,a8.others])),sub _ (eo.cd _ (by simp[a8.cards,a8.names])),gt,sm,fun H' k' B'=>q H' _ k' B' (.give .nil) (uB.le Qk)⟩
 |get h=>
  rename_i t s x
  have eo:=EO.head (dok.plain fun n e=>by cases e)
  obtain⟨se,sl⟩:=eo.st s x (.inr rfl)
  refine⟨_,rfl,t,_,0,_,rfl,rfl,SqT.of h,rfl,?_⟩
  refine⟨_,rfl,rfl,_,rfl,?_⟩
  walk_at "no"
  refine⟨_,rfl,rfl,_,rfl,?_⟩
  walk_at "no"
  refine⟨_,rfl,rfl,_,rfl,?_⟩
  walk_at "no"
  refine⟨_,rfl,_,rfl,t,_,1,_,rfl,rfl,SqT.of h,rfl,_,rfl,t,_,2,_,rfl,rfl,SqT.of h,rfl,c,es,fe,N,s,x,rfl,B,sl,sub _ (eo.cd _ (by simp[a8.cards,a8.others])),sub _ (eo.cd _ (by simp[a8.cards,a8.names])),se,sm,fun H' k' B'=>q H' _ k' B' (.get .nil) (Ce.le Qk)⟩
 |cond h h1 h2=>simp[a8.inner]at inn
 |whl h h1=>simp[a8.inner]at inn
 |rep h h1=>exact absurd rfl (nrep _ _)
section
variable {H H' H2 H0:Hp}{c:BAd}{C es:List Str}{fe:aD}{N N':af}{m:Nat}
theorem ce.next (n:ce a c C es fe H0 H N) (k:Fb c H H') (B:BG a H' c es fe N') (g:Gr N N' m):ce a c C es fe H0 H' N':=⟨B,n.lt.next k,fun x hx=>g.sub x (n.sub x hx),n.gt,n.c20,n.c1⟩
theorem ce.same (n:ce a c C es fe H0 H N) (k:aa H H'):ce a c C es fe H0 H' N:=n.next (.of k) (n.bg.same k) Gr.refl
theorem ce.grow {b:Addr}{o:HO}(n:ce a c C es fe H0 H N) (hb:H0 b=none) (h:H b=some o) (n1:b≠c.ll) (n2:b≠c.lp) (n3:b≠c.dc):ce a c C es fe (upd H0 b o) H N:=⟨n.bg,n.lt.grow n.bg hb h n1 n2 n3,n.sub,n.gt,n.c20,n.c1⟩
theorem Lt.none {b:Addr}(L:Lt c H0 H) (h:H b=none):H0 b=none:=aa.none L.e0 h
end
theorem Ax (T:Tx P w K mg a) {n L:Nat}(l5:5<=L) (hI:aC P w K mg base CX0 L a.lay_if a.fd_lay_if ["bench","deed"] (kE a n)) (hW:aC P w K mg base CX0 L a.lay_while a.fd_lay_while ["bench","deed"] (kC a n)) (hR:aC P w K mg base CX0 L a.lay_repeat a.fd_lay_repeat ["bench","rounds","body"] (kD a n)):aC P w K mg base CX0 (L+1) a.lay_block a.fd_lay_block ["bench","block"] (jb a n):=by
 refine T.F_lay_block.ok kN (fun vs H Q E h=>?_) (fun cdv A outer s H vs Q E hr h=>?_)
 ·obtain⟨_,_,_,_,_,_,_,_,rfl,_⟩:=h
  rfl
 obtain⟨c,C,es,fe,H0,N,b,ds,rfl,nd,hb,dok,dp,sm,q⟩:=h
 refine⟨_,(aq (cj PassesOwn.never rfl (bQ (pq 1)) (bf (i:=2) kN.nd rfl (Or.inl rfl))
  (aq (aY (aJ bC (ap ar (pq 2) ag (fun _ _=>rfl)) aF (aP _)) (aq (aO (az hI (hr.mono Qo) rfl T.m_lay_if T.F_lay_if.kp T.b_lay_if .nil ao (a9 (pq 0) (a9 (pq 2) ac))))) (aq (aY (aJ bC (ap ar (pq 2) ag (fun _ _=>rfl)) aF (aP _)) (aq (aO (az hW (hr.mono Qo) rfl T.m_lay_while T.F_lay_while.kp T.b_lay_while .nil ao (a9 (pq 0) (a9 (pq 2) ac))))) (aq (aY (aJ bC (ap ar (pq 2) ag (fun _ _=>rfl)) aF (aP _)) (aq (aO (az hR (hr.mono Qo) rfl T.m_lay_repeat T.F_lay_repeat.kp T.b_lay_repeat .nil ao (a9 (pq 0) (a9 (ap ar (pq 2) ag (fun _ _=>rfl)) (a9 (ap ar (pq 2) ag (fun _ _=>rfl)) ac)))))) (aq (aO (az (Aq T) (hr.mono Qo) rfl T.m_lay_single T.F_lay_single.kp T.b_lay_single .nil ao (a9 (pq 0) (a9 (pq 2) ac))))))))))))),?_⟩
 obtain⟨hb1,hds⟩:=hb
 rename_i us
 refine⟨_,rfl,b,rfl,⟨_,SqL.of (nd.lt.e0 _ _ hb1)⟩,?_⟩
 refine db (K:=K) (a:=b) (xs:=us) (fun i σ H2=>∃v N2,σ=[some (.ref c.p),some (.ref b),v]/\Fb c H H2/\BG a H2 c es fe N2/\Lay fe N (ds.take i) N2/\Gr N N2 (wts (ds.take i))) ⟨_,N,rfl,Fb.refl,nd.bg,.nil,Gr.refl⟩ ?_ ?_ ?_
 ·rintro i σ H2 _ ⟨_,_,_,k2,_⟩
  exact SqL.of ((nd.lt.next k2).e0 _ _ hb1)
 ·rintro i x σ H2 hx ⟨v,N2,rfl,k2,B2,lay,gr⟩
  obtain⟨d,hd,hrd⟩:=hds.at i x hx
  have il:i<ds.length:=(qe.mp hd).1
  have dm:=qy hd
  have nd2:=nd.next k2 B2 gr
  have do2:=(dok d dm).mono gr.sub
  have tk:ds.take (i+1)=ds.take i++[d]:=by rw[qq,hd];rfl
  have w1:wts ds=wts (ds.take i)+(wts [d]+wts (ds.drop (i+1))):=by
   conv=>lhs;rw[<- List.take_append_drop i ds]
   rw[iX,List.drop_eq_getElem_cons il,(qe.mp hd).2,wD]
  have sm2:Sm N2 (wts [d]):=(sm.next gr Qo).le Qo
  have dd:aw [d]<n:=Nat.lt_of_le_of_lt (vv dm) dp
  have hrd2:RD H2 x d:=RD.same nd2.lt.e0 hrd
  have fin:∀(H':Hp) (N':af) (v':Option V),Fb c H2 H'->BG a H' c es fe N'->Lay fe N2 [d] N'->Gr N2 N' (wts [d])->∃v N2,[some (V.ref c.p),some (.ref b),v']=[some (.ref c.p),some (.ref b),v]/\Fb c H H'/\BG a H' c es fe N2/\Lay fe N (ds.take (i+1)) N2/\Gr N N2 (wts (ds.take (i+1))):=fun H' N' v' k' B' l' g'=>⟨v',N',rfl,k2.trans k',B',by rw[tk];exact lay.app l',by rw[tk,iX];exact gr.trans g'⟩
  have simp1:∀(t:Addr) (xs:List V) (kd:Str),x=.ref t->H2 t=some (.tup (.str kd::xs))->(kd == ("if":Str))=false->(kd == ("while":Str))=false->(kd == ("repeat":Str))=false->d.inner=[]->(∀k b,d≠.rep k b)->wtD d=20->True:=fun _ _ _ _ _ _ _ _ _ _ _=>trivial
  clear simp1
  cases hrd with
  |cond h h1 h2=>
   rename_i t t1 t2 xn ts os
   have ht:=nd2.lt.e0 _ _ h
   have bo:BO C es [.cond xn ts os]:=do2.plain fun n e=>by cases e
   refine⟨_,rfl,t,_,0,_,rfl,rfl,SqT.of ht,rfl,rfl,_,rfl,?_⟩
   walk_at "yes"
   exact⟨_,rfl,_,rfl,c,C,es,fe,H0,N2,.ref t,xn,ts,os,rfl,nd2,.cond h h1 h2,bo,dd,sm2,fun H' N' k' B' l' g'=>fin H' N' _ k' B' l' g'⟩
  |whl h h1=>
   rename_i t t1 xn bs
   have ht:=nd2.lt.e0 _ _ h
   have bo:BO C es [.whl xn bs]:=do2.plain fun n e=>by cases e
   refine⟨_,rfl,t,_,0,_,rfl,rfl,SqT.of ht,rfl,rfl,_,rfl,?_⟩
   walk_at "no"
   refine⟨_,rfl,t,_,0,_,rfl,rfl,SqT.of ht,rfl,rfl,_,rfl,?_⟩
   walk_at "yes"
   exact⟨_,rfl,_,rfl,c,C,es,fe,H0,N2,.ref t,xn,bs,rfl,nd2,.whl h h1,bo,dd,sm2,fun H' N' k' B' l' g'=>fin H' N' _ k' B' l' g'⟩
  |rep h h1=>
   rename_i t t1 kk bs
   have ht:=nd2.lt.e0 _ _ h
   have bo:BO C es [.rep kk bs]:=do2.plain fun n e=>by cases e
   refine⟨_,rfl,t,_,0,_,rfl,rfl,SqT.of ht,rfl,rfl,_,rfl,?_⟩
   walk_at "no"
   refine⟨_,rfl,t,_,0,_,rfl,rfl,SqT.of ht,rfl,rfl,_,rfl,?_⟩
   walk_at "no"
   refine⟨_,rfl,t,_,0,_,rfl,rfl,SqT.of ht,rfl,rfl,_,rfl,?_⟩
   walk_at "yes"
   exact⟨_,rfl,_,rfl,t,_,1,_,rfl,rfl,SqT.of ht,rfl,_,rfl,t,_,2,_,rfl,rfl,SqT.of ht,rfl,c,C,es,fe,H0,N2,kk,t1,bs,rfl,nd2,h1,bo,dd,sm2,fun H' N' k' B' l' g'=>fin H' N' _ k' B' l' g'⟩
  |set h=>
   rename_i t x va sg vb
   have ht:=nd2.lt.e0 _ _ h
   refine⟨_,rfl,t,_,0,_,rfl,rfl,SqT.of ht,rfl,rfl,_,rfl,?_⟩
   walk_at "no"
   refine⟨_,rfl,t,_,0,_,rfl,rfl,SqT.of ht,rfl,rfl,_,rfl,?_⟩
   walk_at "no"
   refine⟨_,rfl,t,_,0,_,rfl,rfl,SqT.of ht,rfl,rfl,_,rfl,?_⟩
   walk_at "no"
   exact⟨_,rfl,_,rfl,c,C,es,fe,N2,.ref t,.set x va sg vb,rfl,B2,hrd2,rfl,(fun _ _ e=>by cases e),do2,nd2.sub,nd2.gt,sm2,fun H' N' k' B' l' g'=>fin H' N' _ k' B' l' g'⟩
  |put h=>
   rename_i t s x
   have ht:=nd2.lt.e0 _ _ h
   refine⟨_,rfl,t,_,0,_,rfl,rfl,SqT.of ht,rfl,rfl,_,rfl,?_⟩
   walk_at "no"
   refine⟨_,rfl,t,_,0,_,rfl,rfl,SqT.of ht,rfl,rfl,_,rfl,?_⟩
   walk_at "no"
   refine⟨_,rfl,t,_,0,_,rfl,rfl,SqT.of ht,rfl,rfl,_,rfl,?_⟩
   walk_at "no"
   exact⟨_,rfl,_,rfl,c,C,es,fe,N2,.ref t,.put s x,rfl,B2,hrd2,rfl,(fun _ _ e=>by cases e),do2,nd2.sub,nd2.gt,sm2,fun H' N' k' B' l' g'=>fin H' N' _ k' B' l' g'⟩
  |get h=>
   rename_i t s x
   have ht:=nd2.lt.e0 _ _ h
   refine⟨_,rfl,t,_,0,_,rfl,rfl,SqT.of ht,rfl,rfl,_,rfl,?_⟩
   walk_at "no"
   refine⟨_,rfl,t,_,0,_,rfl,rfl,SqT.of ht,rfl,rfl,_,rfl,?_⟩
   walk_at "no"
   refine⟨_,rfl,t,_,0,_,rfl,rfl,SqT.of ht,rfl,rfl,_,rfl,?_⟩
   walk_at "no"
   exact⟨_,rfl,_,rfl,c,C,es,fe,N2,.ref t,.get s x,rfl,B2,hrd2,rfl,(fun _ _ e=>by cases e),do2,nd2.sub,nd2.gt,sm2,fun H' N' k' B' l' g'=>fin H' N' _ k' B' l' g'⟩
  |give h=>
   rename_i t x
   have ht:=nd2.lt.e0 _ _ h
   refine⟨_,rfl,t,_,0,_,rfl,rfl,SqT.of ht,rfl,rfl,_,rfl,?_⟩
   walk_at "no"
   refine⟨_,rfl,t,_,0,_,rfl,rfl,SqT.of ht,rfl,rfl,_,rfl,?_⟩
   walk_at "no"
   refine⟨_,rfl,t,_,0,_,rfl,rfl,SqT.of ht,rfl,rfl,_,rfl,?_⟩
   walk_at "no"
   exact⟨_,rfl,_,rfl,c,C,es,fe,N2,.ref t,.give x,rfl,B2,hrd2,rfl,(fun _ _ e=>by cases e),do2,nd2.sub,nd2.gt,sm2,fun H' N' k' B' l' g'=>fin H' N' _ k' B' l' g'⟩
 ·rintro σ H2 ⟨v,N2,rfl,k2,B2,lay,gr⟩
  rw[hds.len,qG]at lay gr
  exact q H2 N2 k2 B2 lay gr
theorem Ap (T:Tx P w K mg a) {n L:Nat}(l5:5<=L) (hB:aC P w K mg base CX0 L a.lay_block a.fd_lay_block ["bench","block"] (jb a n)):aC P w K mg base CX0 (L+1) a.lay_through a.fd_lay_through ["bench","block","cards","wires"] (j9 a n):=by
 refine T.F_lay_through.ok yp (fun vs H Q E h=>?_) (fun cdv A outer s H vs Q E hr h=>?_)
 ·obtain⟨_,_,_,_,_,_,_,_,_,_,_,_,rfl,_⟩:=h
  rfl
 obtain⟨c,C,es,fe,H0,N,b,lc,t,ds,zs,ws,rfl,nd,hb,hlc,ht,len,z30,dok,dp,sm,q⟩:=h
 refine⟨_,(ai (aO (aU (pq 0) T.cl_Bench T.mt_Bench_lead (eL T) (hr.mono Qo) T.b_Bench_lead .nil ao (a9 (pq 2) (a9 (pq 3) ac))))
  (ai (aO (az hB (hr.mono Qo) rfl T.m_lay_block T.F_lay_block.kp T.b_lay_block .nil ao (a9 (pq 0) (a9 (pq 1) ac))))
  (aq (aH (aU (pq 0) T.cl_Bench T.mt_Bench_wires_of (eK T) (hr.mono Qo) T.b_Bench_wires_of .nil ao (a9 (pq 2) ac)))))),?_⟩
 refine⟨_,rfl,c.p,_,_,rfl,nd.bg.ro,aV Qd,_,rfl,_,rfl,c,es,fe,N,lc,t,zs,ws,rfl,nd.bg,nd.lt.e0 _ _ hlc,ht,len,sm.le Qo,fun H1 k1 B1=>?_⟩
 have nd1:=nd.next k1 B1 cy
 refine⟨_,rfl,_,rfl,c,C,es,fe,H0,_,b,ds,rfl,nd1,hb,dok,dp,(sm.next cy Qo).le Qo,fun H2 N2 k2 B2 lay gr=>?_⟩
 have nd2:=nd1.next k2 B2 gr
 refine⟨_,rfl,c.p,_,_,rfl,B2.ro,aV Qd,_,rfl,c,es,fe,N2,lc,zs,rfl,B2,nd2.lt.e0 _ _ hlc,Qo,fun x hx=>gr.sub x (((fg zs N.cs).2.1 x).mpr (.inr hx)),fun H3 t3 s3 n3 h3=>?_⟩
 exact q H2 N2 (k1.trans k2) B2 lay gr H3 t3 s3 n3 h3
theorem Cd {N:af}{zs:List Str}{x:Str}:Gr N (N.ifA zs x) (zs.length+zs.length+1+1+zs.length):=(((aT.trans aT).trans cw).trans bJ).trans cy
theorem Cc {N:af}{zs:List Str}{n:Nat}{ons:List Int}:Gr N (N.ifZ zs n ons) (zs.length+1+zs.length):=(aT.trans bJ).trans cy
theorem jT {N:af}{zs:List Str}{x:Str}{beh:List Int}:Gr N (N.loA zs x beh) (1+zs.length+zs.length+1+zs.length):=(((cw.trans aT).trans aT).trans bJ).trans cy
theorem uA {N:af}{zs:List Str}{n:Nat}{com beh:List Int}:Gr N (N.loZ zs n com beh) (1+zs.length):=bJ.trans cy
theorem Cb {N:af}{k:Int}:Gr N (N.reA k) 4:=((cw.trans aT).trans bJ).trans cy
theorem nJ {d:a8}:wts [d]=wtD d+(d.inner.map wts).sum:=wC d
theorem Av (T:Tx P w K mg a) {n L:Nat}(l16:16<=L) (hT:aC P w K mg base CX0 L a.lay_through a.fd_lay_through ["bench","block","cards","wires"] (j9 a n)):aC P w K mg base CX0 (L+1) a.lay_if a.fd_lay_if ["bench","deed"] (kE a (n+1)):=by
 refine T.F_lay_if.ok dJ (fun vs H Q E h=>?_) (fun cdv A outer s H vs Q E hr h=>?_)
 ·obtain⟨_,_,_,_,_,_,_,_,_,_,rfl,_⟩:=h
  rfl
 obtain⟨c,C,es,fe,H0,N,v,x,ts,os,rfl,nd,rd,bo,dp,sm,q⟩:=h
 refine⟨_,(ai (ax (i:=2) dJ.nd rfl (Or.inl rfl) (az (jD T) (hr.mono Qo) rfl T.m_touched T.F_touched.kp T.b_touched .nil ao (a9 (aL (a9 (pq 1) ac)) ac)))
  (ai (ax (i:=3) dJ.nd rfl (Or.inl rfl) (aU (pq 0) T.cl_Bench T.mt_Bench_wires_of (eK T) (hr.mono Qo) T.b_Bench_wires_of .nil ao (a9 (pq 2) ac)))
  (ai (ax (i:=4) dJ.nd rfl (Or.inl rfl) (aU (pq 0) T.cl_Bench T.mt_Bench_add_wires (cX T) (hr.mono Qo) T.b_Bench_add_wires .nil ao (a9 (bp bM rfl T.z_len PySem.boot_len (a9 (pq 2) ac)) ac)))
  (ai (ax (i:=5) dJ.nd rfl (Or.inl rfl) (aU (pq 0) T.cl_Bench T.mt_Bench_add_wires (cX T) (hr.mono Qo) T.b_Bench_add_wires .nil ao (a9 (bp bM rfl T.z_len PySem.boot_len (a9 (pq 2) ac)) ac)))
  (ai (ax (i:=6) dJ.nd rfl (Or.inl rfl) (aU (pq 0) T.cl_Bench T.mt_Bench_add_line (fF T) (hr.mono Qo) T.b_Bench_add_line .nil ao (a9 ag (a9 (aK ac) ac))))
  (ai (aO (aU (pq 0) T.cl_Bench T.mt_Bench_add_part (dD T) (hr.mono Qo) T.b_Bench_add_part .nil ao (a9 (aK (a9 aF (a9 (pq 3) (a9 (bV qf PySem.F.slot_list_index PySem.F.type_list_index mZ (pq 2) (a9 (ap ar (pq 1) ag (fun _ _=>rfl)) ac)) (a9 (pq 4) (a9 (pq 5) (a9 (pq 6) ac))))))) ac)))
  (ai (ax (i:=7) dJ.nd rfl (Or.inl rfl) (az hT (hr.mono Qo) rfl T.m_lay_through T.F_lay_through.kp T.b_lay_through .nil ao (a9 (pq 0) (a9 (ap ar (pq 1) ag (fun _ _=>rfl)) (a9 (pq 2) (a9 (pq 4) ac))))))
  (ai (ax (i:=8) dJ.nd rfl (Or.inl rfl) (az hT (hr.mono Qo) rfl T.m_lay_through T.F_lay_through.kp T.b_lay_through .nil ao (a9 (pq 0) (a9 (ap ar (pq 1) ag (fun _ _=>rfl)) (a9 (pq 2) (a9 (pq 5) ac))))))
  (ai (ax (i:=9) dJ.nd rfl (Or.inl rfl) (aU (pq 0) T.cl_Bench T.mt_Bench_add_wires (cX T) (hr.mono Qo) T.b_Bench_add_wires .nil ao (a9 (bp bM rfl T.z_len PySem.boot_len (a9 (pq 2) ac)) ac)))
  (ai (aO (aU (pq 0) T.cl_Bench T.mt_Bench_add_part (dD T) (hr.mono Qo) T.b_Bench_add_part .nil ao (a9 (aK (a9 aF (a9 (pq 6) (a9 (pq 7) (a9 (pq 8) (a9 (pq 9) ac)))))) ac)))
  (aq (aO (aU (pq 0) T.cl_Bench T.mt_Bench_lead (eL T) (hr.mono Qo) T.b_Bench_lead .nil ao (a9 (pq 2) (a9 (pq 9) ac))))))))))))))),?_⟩
 have dp1:aw ts<n:=qC (iN (d:=.cond x ts os) (by simp[a8.inner])) (Nat.le_of_lt_succ dp)
 have dp2:aw os<n:=qC (iN (d:=.cond x ts os) (by simp[a8.inner])) (Nat.le_of_lt_succ dp)
 have bo1:=bo.inner (b:=ts) (by simp[a8.inner])
 have bo2:=bo.inner (b:=os) (by simp[a8.inner])
 have wt:wts [.cond x ts os]=200+(wts ts+wts os):=by rw[nJ];simp[wtD,a8.inner]
 have rd0:=rd
 cases rd with
 |cond h h1 h2=>
  rename_i t t1 t2
  have h0:=nd.lt.e0 _ _ h
  refine⟨_,rfl,ln1,fun l0 hl0=>?_⟩
  have e0:=aa.new hl0 (.lst [.ref t])
  have nd0:=nd.same e0
  have rl0:RL (upd H l0 (.lst [.ref t])) l0 [.cond x ts os]:=.mk ae (.cons (RD.same (nd.lt.e0.trans e0) rd0) .nil)
  have h01:=e0 _ _ h0
  generalize upd H l0 (.lst [.ref t])=H1 at e0 nd0 rl0 h01 ⊢
  have c20:=nd.c20
  refine⟨H1,l0,_,C,rfl,aa.refl _,rl0,bo.dp,bo.fl,bo.cards,Qo,nd.c1,fun H2 lc zs s2 nlc hlc znd zm zso=>?_⟩
  have zC:∀y∈zs,y∈C:=fun y hy=>bo.cards y ((zm y).mp hy)
  have zf:zs.length<=20:=qx (cq znd zC) c20
  have co:fh [.cond x ts os] zs:=⟨znd,zm,zso,zf⟩
  have xz:x∈zs:=(zm x).mpr (by rw[bG];simp[a8.cards,a8.names])
  obtain⟨m1,m2,m3,_,_⟩:=nd0.bg.off (o:=.lst []) nlc
  have nd2:=nd0.same s2
  refine⟨_,rfl,c.p,_,_,rfl,nd2.bg.ro,aV Qd,_,rfl,c,es,fe,N,lc,zs,rfl,nd2.bg,hlc,Qo,fun y hy=>nd.sub y (zC y hy),fun H3 t3 s3 n3 ht3=>?_⟩
  have nd3:=nd2.same s3
  have lc3:=s3 _ _ hlc
  have h3:=s3 _ _ (s2 _ _ h01)
  refine⟨_,rfl,c.p,_,_,rfl,nd3.bg.ro,aV Qd,_,rfl,lc,_,rfl,.inl (SqL.of lc3),c,es,fe,N,zs.length,by rw[q5];rfl,nd3.bg,Qo,sm.le Qo,fun H4 t4 k4 B4 nt4 ht4=>?_⟩
  have nd4:=nd3.next k4 B4 aT
  have lc4:=k4 _ _ m1 m2 m3 lc3
  have tk4:=nd3.bg.tk k4
  refine⟨_,rfl,c.p,_,_,rfl,B4.ro,aV Qd,_,rfl,lc,_,rfl,.inl (SqL.of lc4),c,es,fe,_,zs.length,by rw[q5];rfl,B4,Qo,(sm.next aT Qo).le Qo,fun H5 t5 k5 B5 nt5 ht5=>?_⟩
  have nd5:=nd4.next k5 B5 aT
  have lc5:=k5 _ _ m1 m2 m3 lc4
  have tk5:=B4.tk k5
  refine⟨_,rfl,c.p,_,_,rfl,B5.ro,aV Qd,qr _,fun f6 hf6=>?_⟩
  have e6:=aa.new hf6 (.tup [])
  refine⟨c,es,fe,_,.int 1,f6,[],rfl,B5.same e6,ae,(sm.next (aT.trans aT) Qo).le Qo,fun H7 m7 em7 k7 B7=>?_⟩
  rw[aS,aS]at em7
  rw[aS]at ht5
  subst em7
  have k57:Fb c H5 H7:=aa.fb e6 k7
  have nd7:=nd5.next k57 B7 cw
  have lc7:=k57 _ _ m1 m2 m3 lc5
  have tk7:=B5.tk k57
  have h7:=tk7 _ _ (tk5 _ _ (tk4 _ _ h3))
  refine⟨_,rfl,c.p,_,_,rfl,B7.ro,aV Qd,_,rfl,_,rfl,.inl ⟨rfl,_,SqL.of lc7⟩,_,rfl,t,_,1,_,rfl,rfl,SqT.of h7,rfl,lc,zs,x,rfl,rfl,lc7,xz,Qo,_,rfl,_,rfl,_,rfl,ln6,fun u8 hu8=>?_⟩
  have e8:=aa.new hu8 (.tup [.str "choose",.ref t3,.int ((zs.idxOf x:Nat):Int),.ref t4,.ref t5,.int ((N.n+zs.length+zs.length:Nat):Int)])
  have u8':upd H7 u8 (.tup [.str "choose",.ref t3,.int ((zs.idxOf x:Nat):Int),.ref t4,.ref t5,.int ((N.n+zs.length+zs.length:Nat):Int)]) u8=_:=ae
  generalize upd H7 u8 (.tup [.str "choose",.ref t3,.int ((zs.idxOf x:Nat):Int),.ref t4,.ref t5,.int ((N.n+zs.length+zs.length:Nat):Int)])=H8 at e8 u8' ⊢
  refine⟨c,es,fe,_,.ref u8,.cho (zs.map N.fc) (zs.idxOf x:Nat) (wid N.n zs.length) (wid (N.n+zs.length) zs.length) ((N.n+zs.length+zs.length:Nat):Int),rfl,B7.same e8,⟨u8,t3,t4,t5,rfl,u8',e8 _ _ (tk7 _ _ (tk5 _ _ (tk4 _ _ ht3))),e8 _ _ (tk7 _ _ (tk5 _ _ ht4)),e8 _ _ (tk7 _ _ ht5)⟩,(sm.next ((aT.trans aT).trans cw) Qo).le Qo,fun H9 k9 B9=>?_⟩
  have k79:Fb c H7 H9:=aa.fb e8 k9
  have nd9:=nd7.next k79 B9 bJ
  have lc9:=k79 _ _ m1 m2 m3 lc7
  have tk9:=B7.tk k79
  have h9:=tk9 _ _ h7
  have t49:=tk9 _ _ (tk7 _ _ (tk5 _ _ ht4))
  have t59:=tk9 _ _ (tk7 _ _ ht5)
  have f09:Fb c H H9:=(Fb.of (e0.trans (s2.trans s3))).trans (k4.trans (k5.trans (k57.trans k79)))
  have n0:H0 lc=none:=aa.none (nd.lt.e0.trans e0) nlc
  have g0:=aa.new n0 (.lst (zs.map V.str))
  have ndg:=nd9.grow n0 lc9 m1 m2 m3
  have lcg:upd H0 lc (.lst (zs.map V.str)) lc=some (.lst (zs.map V.str)):=ae
  generalize upd H0 lc (.lst (zs.map V.str))=G0 at g0 ndg lcg ⊢
  have gA:Gr N (N.ifA zs x) (zs.length+zs.length+1+1+zs.length):=Cd
  refine⟨_,rfl,_,rfl,t,_,2,_,rfl,rfl,SqT.of h9,rfl,_,rfl,_,rfl,c,C,es,fe,G0,_,t1,lc,t4,ts,zs,wid N.n zs.length,rfl,ndg,RL.same g0 h1,lcg,t49,(aG _ _).symm,Qo,fun d hd=>.inl (bo1.mem hd),dp1,(sm.next (((aT.trans aT).trans cw).trans bJ) Qo).le Qo,fun H10 N1 k10 B10 lay1 gr1 H11 t11 s11 n11 ht11=>?_⟩
  have nd10:=ndg.next (k10.more s11) (B10.same s11) (cy.trans gr1)
  have k911:=k10.more s11
  have tk11:TK H9 H11:=B9.tk k911
  have lc11:=k911 _ _ m1 m2 m3 lc9
  refine⟨_,rfl,_,rfl,t,_,3,_,rfl,rfl,SqT.of (tk11 _ _ h9),rfl,_,rfl,_,rfl,c,C,es,fe,G0,N1,t2,lc,t5,os,zs,wid (N.n+zs.length) zs.length,rfl,nd10,RL.same g0 h2,lcg,tk11 _ _ t59,(aG _ _).symm,Qo,fun d hd=>.inl (bo2.mem hd),dp2,(sm.next (gA.trans gr1) Qo).le Qo,fun H12 N2 k12 B12 lay2 gr2 H13 t13 s13 n13 ht13=>?_⟩
  have B13:=B12.same s13
  have k1113:=k12.more s13
  have tk13:TK H11 H13:=(B10.same s11).tk k1113
  have lc13:=k1113 _ _ m1 m2 m3 lc11
  have gB:=(gA.trans gr1).trans ((cy (N:=N1) (zs:=zs) (ws:=wid (N.n+zs.length) zs.length)).trans gr2)
  refine⟨_,rfl,c.p,_,_,rfl,B13.ro,aV Qd,_,rfl,lc,_,rfl,.inl (SqL.of lc13),c,es,fe,N2,zs.length,by rw[q5];rfl,B13,Qo,(sm.next gB Qo).le Qo,fun H14 t14 k14 B14 nt14 ht14=>?_⟩
  have tk14:=B13.tk k14
  refine⟨_,rfl,c.p,_,_,rfl,B14.ro,aV Qd,_,rfl,_,rfl,_,rfl,_,rfl,ln5,fun u15 hu15=>?_⟩
  have e15:=aa.new hu15 (.tup [.str "merge",.int ((N.n+zs.length+zs.length:Nat):Int),.ref t11,.ref t13,.ref t14])
  refine⟨c,es,fe,_,.ref u15,.mrg ((N.n+zs.length+zs.length:Nat):Int) (zs.map N1.fc) (zs.map N2.fc) (wid N2.n zs.length),rfl,B14.same e15,⟨u15,t11,t13,t14,rfl,ae,e15 _ _ (tk14 _ _ (tk13 _ _ ht11)),e15 _ _ (tk14 _ _ ht13),e15 _ _ ht14⟩,(sm.next (gB.trans aT) Qo).le Qo,fun H16 k16 B16=>?_⟩
  have k1416:Fb c H14 H16:=aa.fb e15 k16
  have lc16:=k1416 _ _ m1 m2 m3 (k14 _ _ m1 m2 m3 lc13)
  refine⟨_,rfl,c.p,_,_,rfl,B16.ro,aV Qd,_,rfl,_,rfl,c,es,fe,_,lc,t14,zs,wid N2.n zs.length,rfl,B16,lc16,(B14.tk k1416) _ _ ht14,(aG _ _).symm,(sm.next ((gB.trans aT).trans bJ) Qo).le Qo,fun H17 k17 B17=>?_⟩
  exact q H17 _ (f09.trans (k911.trans (k1113.trans (k14.trans (k1416.trans k17))))) B17 (.cond co lay1 lay2 .nil) ((gB.trans Cc).le Qo)
theorem Au (T:Tx P w K mg a) {n L:Nat}(l16:16<=L) (hT:aC P w K mg base CX0 L a.lay_through a.fd_lay_through ["bench","block","cards","wires"] (j9 a n)):aC P w K mg base CX0 (L+1) a.lay_loop a.fd_lay_loop ["bench","cards","name","body","behind"] (ja a n):=by
 refine T.F_lay_loop.ok ic (fun vs H Q E h=>?_) (fun cdv A outer s H vs Q E hr h=>?_)
 ·obtain⟨_,_,_,_,_,_,_,_,_,_,_,_,_,rfl,_⟩:=h
  rfl
 obtain⟨c,C,es,fe,H0,N,lc,b,t,zs,x,ds,beh,rfl,nd,hlc,hb,ht,len,z30,zin,xz,dok,dp,sm,q⟩:=h
 refine⟨_,(ai (ax (i:=5) ic.nd rfl (Or.inl rfl) (aU (pq 0) T.cl_Bench T.mt_Bench_wires_of (eK T) (hr.mono Qo) T.b_Bench_wires_of .nil ao (a9 (pq 1) ac)))
  (ai (ax (i:=6) ic.nd rfl (Or.inl rfl) (aU (pq 0) T.cl_Bench T.mt_Bench_add_line (fF T) (hr.mono Qo) T.b_Bench_add_line .nil ao (a9 ag (a9 (aK (a9 ag ac)) ac))))
  (ai (ax (i:=7) ic.nd rfl (Or.inl rfl) (aU (pq 0) T.cl_Bench T.mt_Bench_add_wires (cX T) (hr.mono Qo) T.b_Bench_add_wires .nil ao (a9 (bp bM rfl T.z_len PySem.boot_len (a9 (pq 1) ac)) ac)))
  (ai (ax (i:=8) ic.nd rfl (Or.inl rfl) (aU (pq 0) T.cl_Bench T.mt_Bench_add_wires (cX T) (hr.mono Qo) T.b_Bench_add_wires .nil ao (a9 (bp bM rfl T.z_len PySem.boot_len (a9 (pq 1) ac)) ac)))
  (ai (aO (aU (pq 0) T.cl_Bench T.mt_Bench_add_part (dD T) (hr.mono Qo) T.b_Bench_add_part .nil ao (a9 (aK (a9 aF (a9 (pq 7) (a9 (bV qf PySem.F.slot_list_index PySem.F.type_list_index mZ (pq 1) (a9 (pq 2) ac)) (a9 (pq 8) (a9 (pq 4) (a9 (pq 6) ac))))))) ac)))
  (ai (aO (aU (pq 0) T.cl_Bench T.mt_Bench_add_part (dD T) (hr.mono Qo) T.b_Bench_add_part .nil ao (a9 (aK (a9 aF (a9 (pq 6) (a9 (az hT (hr.mono Qo) rfl T.m_lay_through T.F_lay_through.kp T.b_lay_through .nil ao (a9 (pq 0) (a9 (pq 3) (a9 (pq 1) (a9 (pq 8) ac))))) (a9 (pq 5) (a9 (pq 7) ac)))))) ac)))
  (aq (aO (aU (pq 0) T.cl_Bench T.mt_Bench_lead (eL T) (hr.mono Qo) T.b_Bench_lead .nil ao (a9 (pq 1) (a9 (pq 4) ac))))))))))),?_⟩
 have B:=nd.bg
 have lcH:=nd.lt.e0 _ _ hlc
 refine⟨_,rfl,c.p,_,_,rfl,B.ro,aV Qd,_,rfl,c,es,fe,N,lc,zs,rfl,B,lcH,Qo,zin,fun H1 t1 s1 n1 ht1=>?_⟩
 have nd1:=nd.same s1
 refine⟨_,rfl,c.p,_,_,rfl,nd1.bg.ro,aV Qd,ln1,fun f2 hf2=>?_⟩
 have e2:=aa.new hf2 (.tup [.int 0])
 have f2':upd H1 f2 (.tup [.int 0]) f2=some (.tup ([(0:Int)].map V.int)):=ae
 refine⟨c,es,fe,N,.int 1,f2,[0],rfl,nd1.bg.same e2,f2',sm.le Qo,fun H3 m3 em3 k3 B3=>?_⟩
 subst em3
 have nd3:=(nd1.same e2).next k3 B3 cw
 have lc3:=nd3.lt.e0 _ _ hlc
 refine⟨_,rfl,c.p,_,_,rfl,B3.ro,aV Qd,_,rfl,lc,_,rfl,.inl (SqL.of lc3),c,es,fe,_,zs.length,by rw[q5];rfl,B3,Qo,(sm.next cw Qo).le Qo,fun H4 t4 k4 B4 nt4 ht4=>?_⟩
 rw[cD]at ht4
 have nd4:=nd3.next k4 B4 aT
 have lc4:=nd4.lt.e0 _ _ hlc
 refine⟨_,rfl,c.p,_,_,rfl,B4.ro,aV Qd,_,rfl,lc,_,rfl,.inl (SqL.of lc4),c,es,fe,_,zs.length,by rw[q5];rfl,B4,Qo,(sm.next (cw.trans aT) Qo).le Qo,fun H5 t5 k5 B5 nt5 ht5=>?_⟩
 rw[aS,cD]at ht5
 have nd5:=nd4.next k5 B5 aT
 have lc5:=nd5.lt.e0 _ _ hlc
 have tk13:TK H1 H3:=fun b xs h=>(nd1.bg.same e2).tk k3 _ _ (e2 _ _ h)
 have tk4:=B3.tk k4
 have tk5:=B4.tk k5
 have ht5':H5 t=_:=tk5 _ _ (tk4 _ _ (tk13 _ _ (s1 _ _ ht)))
 refine⟨_,rfl,c.p,_,_,rfl,B5.ro,aV Qd,_,rfl,_,rfl,.inl ⟨rfl,_,SqL.of lc5⟩,_,rfl,lc,zs,x,rfl,rfl,lc5,xz,Qo,_,rfl,_,rfl,_,rfl,ln6,fun u6 hu6=>?_⟩
 have e6:=aa.new hu6 (.tup [.str "choose",.ref t4,.int ((zs.idxOf x:Nat):Int),.ref t5,.ref t,.int (N.n:Int)])
 refine⟨c,es,fe,_,.ref u6,.cho (wid (N.n+1) zs.length) (zs.idxOf x:Nat) (wid (N.n+1+zs.length) zs.length) beh (N.n:Int),rfl,B5.same e6,⟨u6,t4,t5,t,rfl,ae,e6 _ _ (tk5 _ _ ht4),e6 _ _ ht5,e6 _ _ ht5'⟩,(sm.next ((cw.trans aT).trans aT) Qo).le Qo,fun H7 k7 B7=>?_⟩
 have k57:Fb c H5 H7:=aa.fb e6 k7
 have nd7:=nd5.next k57 B7 bJ
 have tk7:=B5.tk k57
 have f07:Fb c H H7:=(Fb.of (s1.trans e2)).trans (k3.trans (k4.trans (k5.trans k57)))
 refine⟨_,rfl,c.p,_,_,rfl,B7.ro,aV Qd,_,rfl,_,rfl,_,rfl,_,rfl,_,rfl,c,C,es,fe,H0,_,b,lc,t5,ds,zs,wid (N.n+1+zs.length) zs.length,rfl,nd7,hb,hlc,tk7 _ _ ht5,(aG _ _).symm,Qo,fun d hd=>(dok d hd).mono (jT (N:=N) (zs:=zs) (x:=x) (beh:=beh)).sub,dp,(sm.next (((cw.trans aT).trans aT).trans bJ) Qo).le Qo,fun H8 N1 k8 B8 lay gr H9 t9 s9 n9 ht9=>?_⟩
 have B9:=B8.same s9
 have k79:Fb c H7 H9:=k8.more s9
 have tk9:TK H7 H9:=B7.tk k79
 refine⟨_,rfl,_,rfl,ln5,fun u10 hu10=>?_⟩
 have e10:=aa.new hu10 (.tup [.str "merge",.int (N.n:Int),.ref t9,.ref t1,.ref t4])
 have t19:H9 t1=_:=tk9 _ _ (tk7 _ _ (tk5 _ _ (tk4 _ _ (tk13 _ _ ht1))))
 have t49:H9 t4=_:=tk9 _ _ (tk7 _ _ (tk5 _ _ ht4))
 have t9':H9 t=_:=tk9 _ _ (tk7 _ _ ht5')
 have gA:Gr N (N.loA zs x beh) (1+zs.length+zs.length+1+zs.length):=jT
 refine⟨c,es,fe,N1,.ref u10,.mrg (N.n:Int) (zs.map N1.fc) (zs.map N.fc) (wid (N.n+1) zs.length),rfl,B9.same e10,⟨u10,t9,t1,t4,rfl,ae,e10 _ _ ht9,e10 _ _ t19,e10 _ _ t49⟩,(sm.next (gA.trans gr) Qo).le Qo,fun H11 k11 B11=>?_⟩
 have k911:Fb c H9 H11:=aa.fb e10 k11
 have nd11:=nd7.next (k79.trans k911) B11 ((cy.trans gr).trans bJ)
 refine⟨_,rfl,c.p,_,_,rfl,B11.ro,aV Qd,_,rfl,_,rfl,c,es,fe,_,lc,t,zs,beh,rfl,B11,nd11.lt.e0 _ _ hlc,B9.tk k911 _ _ t9',len,(sm.next ((gA.trans gr).trans bJ) Qo).le Qo,fun H12 k12 B12=>?_⟩
 exact q H12 N1 (f07.trans (k79.trans (k911.trans k12))) B12 lay gr
theorem Ao (T:Tx P w K mg a) {n L:Nat}(l16:16<=L) (hP:aC P w K mg base CX0 L a.lay_loop a.fd_lay_loop ["bench","cards","name","body","behind"] (ja a n)):aC P w K mg base CX0 (L+1) a.lay_while a.fd_lay_while ["bench","deed"] (kC a (n+1)):=by
 refine T.F_lay_while.ok rX (fun vs H Q E h=>?_) (fun cdv A outer s H vs Q E hr h=>?_)
 ·obtain⟨_,_,_,_,_,_,_,_,_,rfl,_⟩:=h
  rfl
 obtain⟨c,C,es,fe,H0,N,v,x,bs,rfl,nd,rd,bo,dp,sm,q⟩:=h
 refine⟨_,(ai (ax (i:=2) rX.nd rfl (Or.inl rfl) (az (jD T) (hr.mono Qo) rfl T.m_touched T.F_touched.kp T.b_touched .nil ao (a9 (aL (a9 (pq 1) ac)) ac)))
  (aq (aO (az hP (hr.mono Qo) rfl T.m_lay_loop T.F_lay_loop.kp T.b_lay_loop .nil ao (a9 (pq 0) (a9 (pq 2) (a9 (ap ar (pq 1) ag (fun _ _=>rfl)) (a9 (ap ar (pq 1) ag (fun _ _=>rfl)) (a9 (aU (pq 0) T.cl_Bench T.mt_Bench_add_wires (cX T) (hr.mono Qo) T.b_Bench_add_wires .nil ao (a9 (bp bM rfl T.z_len PySem.boot_len (a9 (pq 2) ac)) ac)) ac))))))))),?_⟩
 have dp1:aw bs<n:=qC (iN (d:=.whl x bs) (by simp[a8.inner])) (Nat.le_of_lt_succ dp)
 have bo1:=bo.inner (b:=bs) (by simp[a8.inner])
 have wt:wts [.whl x bs]=200+wts bs:=by rw[nJ];simp[wtD,a8.inner]
 have rd0:=rd
 cases rd with
 |whl h h1=>
  rename_i t t1
  have h0:=nd.lt.e0 _ _ h
  refine⟨_,rfl,ln1,fun l0 hl0=>?_⟩
  have e0:=aa.new hl0 (.lst [.ref t])
  have nd0:=nd.same e0
  have rl0:RL (upd H l0 (.lst [.ref t])) l0 [.whl x bs]:=.mk ae (.cons (RD.same (nd.lt.e0.trans e0) rd0) .nil)
  have h01:=e0 _ _ h0
  generalize upd H l0 (.lst [.ref t])=H1 at e0 nd0 rl0 h01 ⊢
  have c20:=nd.c20
  refine⟨H1,l0,_,C,rfl,aa.refl _,rl0,bo.dp,bo.fl,bo.cards,Qo,nd.c1,fun H2 lc zs s2 nlc hlc znd zm zso=>?_⟩
  have zC:∀y∈zs,y∈C:=fun y hy=>bo.cards y ((zm y).mp hy)
  have zf:zs.length<=20:=qx (cq znd zC) c20
  have co:fh [.whl x bs] zs:=⟨znd,zm,zso,zf⟩
  have xz:x∈zs:=(zm x).mpr (by rw[bG];simp[a8.cards,a8.names])
  obtain⟨m1,m2,m3,_,_⟩:=nd0.bg.off (o:=.lst []) nlc
  have nd2:=nd0.same s2
  have h2:=s2 _ _ h01
  refine⟨_,rfl,_,rfl,_,rfl,t,_,1,_,rfl,rfl,SqT.of h2,rfl,_,rfl,t,_,2,_,rfl,rfl,SqT.of h2,rfl,_,rfl,c.p,_,_,rfl,nd2.bg.ro,aV Qd,_,rfl,lc,_,rfl,.inl (SqL.of hlc),c,es,fe,N,zs.length,by rw[q5];rfl,nd2.bg,Qo,sm.le Qo,fun H4 t4 k4 B4 nt4 ht4=>?_⟩
  have nd4:=nd2.next k4 B4 aT
  have lc4:=k4 _ _ m1 m2 m3 hlc
  have n0:H0 lc=none:=aa.none (nd.lt.e0.trans e0) nlc
  have g0:=aa.new n0 (.lst (zs.map V.str))
  have ndg:=nd4.grow n0 lc4 m1 m2 m3
  have lcg:upd H0 lc (.lst (zs.map V.str)) lc=some (.lst (zs.map V.str)):=ae
  generalize upd H0 lc (.lst (zs.map V.str))=G0 at g0 ndg lcg ⊢
  have en:=aS N zs.length
  refine⟨c,C,es,fe,G0,_,lc,t1,t4,zs,x,bs,wid N.n zs.length,rfl,ndg,lcg,RL.same g0 h1,ht4,(aG _ _).symm,Qo,fun y hy=>nd.sub y (zC y hy),xz,fun d hd=>.inl (bo1.mem hd),dp1,(sm.next aT Qo).le Qo,fun H5 N1 k5 B5 lay gr=>?_⟩
  rw[en]at B5
  exact q H5 _ ((Fb.of (e0.trans s2)).trans (k4.trans k5)) B5 (.whl co lay .nil) (((aT.trans jT).trans (gr.trans uA)).le Qo)
theorem dO (N:af) (k:Int):(N.reA k).n=N.n+2:=by
 unfold af.reA
 rw[fG,c9,aS,cD]
theorem As (T:Tx P w K mg a) {n L:Nat}(l16:16<=L) (hP:aC P w K mg base CX0 L a.lay_loop a.fd_lay_loop ["bench","cards","name","body","behind"] (ja a n)):aC P w K mg base CX0 (L+1) a.lay_repeat a.fd_lay_repeat ["bench","rounds","body"] (kD a (n+1)):=by
 refine T.F_lay_repeat.ok gp (fun vs H Q E h=>?_) (fun cdv A outer s H vs Q E hr h=>?_)
 ·obtain⟨_,_,_,_,_,_,_,_,_,rfl,_⟩:=h
  rfl
 obtain⟨c,C,es,fe,H0,N,k,l,bs,rfl,nd,rl,bo,dp,sm,q⟩:=h
 refine⟨_,(ai (ax (i:=3) gp.nd rfl (Or.inl rfl) (az (jD T) (hr.mono Qo) rfl T.m_touched T.F_touched.kp T.b_touched .nil ao (a9 (pq 2) ac)))
  (ai (aY (aJ bC (bp bM rfl T.z_len PySem.boot_len (a9 (pq 3) ac)) ag (aP _)) (aq zz) bD)
  (ai (ax (i:=4) gp.nd rfl (Or.inl rfl) (aU (pq 0) T.cl_Bench T.mt_Bench_add_line (fF T) (hr.mono Qo) T.b_Bench_add_line .nil ao (a9 ag (a9 (aK (a9 ag ac)) ac))))
  (ai (ax (i:=5) gp.nd rfl (Or.inl rfl) (bR Dd rfl T.z_str PyProof.Rows.Boot.«str» (a9 (pq 4) ac)))
  (ai (ax (i:=6) gp.nd rfl (Or.inl rfl) (aU (pq 0) T.cl_Bench T.mt_Bench_add_wires (cX T) (hr.mono Qo) T.b_Bench_add_wires .nil ao (a9 ag ac)))
  (ai (aO (aU (pq 0) T.cl_Bench T.mt_Bench_add_part (dD T) (hr.mono Qo) T.b_Bench_add_part .nil ao (a9 (aK (a9 aF (a9 (aK (a9 (pq 4) ac)) (a9 (ap ar (pq 6) ag (fun _ _=>rfl)) (a9 aF (a9 (aK (a9 aF (a9 (pq 1) ac))) (a9 (aK (a9 aF (a9 ag ac))) ac))))))) ac)))
  (ai (aO (aU (pq 0) T.cl_Bench T.mt_Bench_lead (eL T) (hr.mono Qo) T.b_Bench_lead .nil ao (a9 (aL (a9 (pq 5) ac)) (a9 (pq 6) ac))))
  (ai (ax (i:=7) gp.nd rfl (Or.inl rfl) (ay cg (pq 2) (aL (a9 (aK (a9 aF (a9 (pq 5) (a9 (pq 5) (a9 aF (a9 ag ac)))))) ac))))
  (aq (aO (az hP (hr.mono Qo) rfl T.m_lay_loop T.F_lay_loop.kp T.b_lay_loop .nil ao (a9 (pq 0) (a9 (ay cg (pq 3) (aL (a9 (pq 5) ac))) (a9 (pq 5) (a9 (pq 7) (a9 (ay iz (aU (pq 0) T.cl_Bench T.mt_Bench_add_wires (cX T) (hr.mono Qo) T.b_Bench_add_wires .nil ao (a9 (bp bM rfl T.z_len PySem.boot_len (a9 (pq 3) ac)) ac)) (aK (a9 (pq 4) ac))) ac)))))))))))))))),?_⟩
 have dp1:aw bs<n:=qC (iN (d:=.rep k bs) (by simp[a8.inner])) (Nat.le_of_lt_succ dp)
 have bo1:=bo.inner (b:=bs) (by simp[a8.inner])
 have wt:wts [.rep k bs]=200+wts bs:=by rw[nJ];simp[wtD,a8.inner]
 have c20:=nd.c20
 refine⟨_,rfl,H0,l,bs,C,rfl,nd.lt.e0,rl,bo1.dp,bo1.fl,bo1.cards,Qo,nd.c1,fun H2 lc zs s2 nlc hlc znd zm zso=>?_⟩
 have zC:∀y∈zs,y∈C:=fun y hy=>bo1.cards y ((zm y).mp hy)
 have zf:zs.length<=20:=qx (cq znd zC) c20
 have co:fh bs zs:=⟨znd,zm,zso,zf⟩
 have nd2:=nd.same s2
 refine⟨_,rfl,lc,_,rfl,.inl (SqL.of hlc),rfl,_,rfl,?_⟩
 rw[q5]
 by_cases z0:zs=[]
 ·subst z0
  refine bY rfl ?_
  refine q H2 N (Fb.of s2) nd2.bg (.rep0 ?_ .nil) (Gr.refl.le (qr _))
  refine List.eq_nil_iff_forall_not_mem.mpr fun k hk=>?_
  have:=(zm k).mpr hk
  simp at this
 refine bi (by
  have:zs.length≠0:=fun h=>z0 (List.length_eq_zero_iff.mp h)
  simp
  omega) ?_
 refine⟨_,rfl,c.p,_,_,rfl,nd2.bg.ro,aV Qd,ln1,fun f3 hf3=>?_⟩
 have e3:=aa.new hf3 (.tup [.int 0])
 have f3':upd H2 f3 (.tup [.int 0]) f3=some (.tup ([(0:Int)].map V.int)):=ae
 have sl:=sm.l
 refine⟨c,es,fe,N,.int 1,f3,[0],rfl,nd2.bg.same e3,f3',sm.le Qo,fun H4 m4 em4 k4 B4=>?_⟩
 subst em4
 have nd4:=(nd2.same e3).next k4 B4 cw
 have nn:N.n<=100000:=by
  show N.ls.length<=100000
  omega
 refine⟨_,rfl,(N.n:Int),rfl,Bu (by rw[Int.natAbs_natCast];exact Nat.lt_of_le_of_lt nn Qk),?_⟩
 rw[show(Str.ofString (toString (N.n:Int)):Str)=ctN N.n from rfl]
 refine⟨_,rfl,c.p,_,_,rfl,B4.ro,aV Qd,c,es,fe,_,1,rfl,B4,Qk,(sm.next cw Qo).le Qo,fun H5 t5 k5 B5 nt5 ht5=>?_⟩
 rw[cD]at ht5
 have ht5':H5 t5=some (.tup [.int ((N.n+1+0:Nat):Int)]):=ht5
 have nd5:=nd4.next k5 B5 aT
 refine⟨_,rfl,c.p,_,_,rfl,B5.ro,aV Qd,_,rfl,ln1,fun t6 ht6=>?_⟩
 have e6:=aa.new ht6 (.tup [.int (N.n:Int)])
 have t6':upd H5 t6 (.tup [.int (N.n:Int)]) t6=some (.tup ([(N.n:Int)].map V.int)):=ae
 generalize upd H5 t6 (.tup [.int (N.n:Int)])=H6 at e6 t6' ⊢
 refine⟨_,rfl,t5,_,0,_,rfl,rfl,SqT.of (e6 _ _ ht5'),rfl,_,rfl,ln2,fun t7 ht7=>⟨ln2,fun t8 ht8=>⟨ln6,fun u9 hu9=>?_⟩⟩⟩
 have e7:=aa.new ht7 (.tup [.str "is",.int k])
 have e8:=aa.new ht8 (.tup [.str "is",.int 0])
 have e9:=aa.new hu9 (.tup [.str "work",.ref t6,.int ((N.n+1+0:Nat):Int),.str "+",.ref t7,.ref t8])
 have s9:=(e7.trans e8).trans e9
 have t79:=e9 _ _ (e8 _ _ (ae (H:=H6) (a:=t7) (o:=.tup [.str "is",.int k])))
 have t89:=e9 _ _ (ae (H:=upd H6 t7 (.tup [.str "is",.int k])) (a:=t8) (o:=.tup [.str "is",.int 0]))
 have u9':upd (upd (upd H6 t7 (.tup [.str "is",.int k])) t8 (.tup [.str "is",.int 0])) u9 (.tup [.str "work",.ref t6,.int ((N.n+1+0:Nat):Int),.str "+",.ref t7,.ref t8]) u9=_:=ae
 generalize upd (upd (upd H6 t7 (.tup [.str "is",.int k])) t8 (.tup [.str "is",.int 0])) u9 (.tup [.str "work",.ref t6,.int ((N.n+1+0:Nat):Int),.str "+",.ref t7,.ref t8])=H9 at s9 t79 t89 u9' ⊢
 clear e7 e8 e9
 have nd9:=(nd5.same e6).same s9
 refine⟨c,es,fe,_,.ref u9,.wrk [(N.n:Int)] ((N.n+1:Nat):Int) "+" (.is k) (.is 0),rfl,nd9.bg,⟨u9,t6,.ref t7,.ref t8,rfl,u9',s9 _ _ t6',⟨t7,rfl,t79⟩,⟨t8,rfl,t89⟩⟩,(sm.next (cw.trans aT) Qo).le Qo,fun H10 k10 B10=>?_⟩
 have nd10:=nd9.next k10 B10 bJ
 have t510:=nd9.bg.tk k10 _ _ (s9 _ _ (e6 _ _ ht5'))
 refine⟨_,rfl,c.p,_,_,rfl,B10.ro,aV Qd,_,rfl,ln1,fun l11 hl11=>?_⟩
 have e11:=aa.new hl11 (.lst [.str (ctN N.n)])
 refine⟨_,rfl,c,es,fe,_,l11,t5,[ctN N.n],[((N.n+1:Nat):Int)],rfl,B10.same e11,ae,e11 _ _ t510,rfl,(sm.next ((cw.trans aT).trans bJ) Qo).le (by show 1<=_;omega),fun H12 k12 B12=>?_⟩
 have gR:Gr N (N.reA k) 4:=Cb
 have nd12:ce a c C es fe H0 H12 (N.reA k):=(nd10.same e11).next k12 B12 cy
 have f12:Fb c H H12:=(Fb.of s2).trans ((aa.fb e3 k4).trans (k5.trans ((aa.fb (e6.trans s9) k10).trans (aa.fb e11 k12))))
 obtain⟨hl1,hds⟩:=rl
 rename_i us
 have ul:=hds.len
 have ufew:=nW bs
 have bfl:=bo1.fl
 have lH12:=nd12.lt.e0 _ _ hl1
 have lc12:H12 lc=some (.lst (zs.map V.str)):=by
  obtain⟨m1,m2,m3,_,_⟩:=nd.bg.off (o:=.lst []) nlc
  exact(((aa.fb e3 k4).trans (k5.trans ((aa.fb (e6.trans s9) k10).trans (aa.fb e11 k12)))) _ _ m1 m2 m3 hlc)
 refine⟨_,rfl,_,rfl,_,rfl,ln5,fun t13 ht13=>⟨ln1,fun l14 hl14=>⟨l,l14,us,_,rfl,rfl,SqL.of ((aa.new ht13 _).trans (aa.new hl14 _) _ _ lH12),SqL.of ae,aX (m:=10000) (by show us.length+1<=_;omega),fun l15 hl15=>?_⟩⟩⟩
 have e13:=aa.new ht13 (.tup [.str "set",.str (ctN N.n),.str (ctN N.n),.str "-",.int 1])
 have n13:=Lt.none nd12.lt ht13
 have o13:=B12.off (o:=.lst []) ht13
 have g13:=aa.new n13 (.tup [.str "set",.str (ctN N.n),.str (ctN N.n),.str "-",.int 1])
 have nd13:=(nd12.same e13).grow n13 ae o13.1 o13.2.1 o13.2.2.1
 have r13:upd H0 t13 (.tup [.str "set",.str (ctN N.n),.str (ctN N.n),.str "-",.int 1]) t13=some (.tup [.str "set",.str (ctN N.n),(Val.nm (ctN N.n)).v,.str "-",(Val.num 1).v]):=ae
 have e14:=aa.new hl14 (.lst [.ref t13])
 have nd14:=nd13.same e14
 have s14:aa H12 _:=e13.trans e14
 have hl15':upd (upd H12 t13 (.tup [.str "set",.str (ctN N.n),.str (ctN N.n),.str "-",.int 1])) l14 (.lst [.ref t13]) l15=none:=hl15
 have e15:=aa.new hl15' (.lst (us++[.ref t13]))
 have n15:=Lt.none nd14.lt hl15'
 have o15:=nd14.bg.off (o:=.lst []) hl15'
 have nd15:=(nd14.same e15).grow n15 ae o15.1 o15.2.1 o15.2.2.1
 have g15:=g13.trans (aa.new n15 (.lst (us++[.ref t13])))
 have r15:RL (upd (upd H0 t13 (.tup [.str "set",.str (ctN N.n),.str (ctN N.n),.str "-",.int 1])) l15 (.lst (us++[.ref t13]))) l15 (bs++[ctD N.n]):=.mk ae ((hds.same g15).app (.cons (.set (aa.new n15 _ _ _ r13)) .nil))
 have s15:=s14.trans e15
 have lc15:=s15 _ _ lc12
 generalize upd (upd (upd H12 t13 (.tup [.str "set",.str (ctN N.n),.str (ctN N.n),.str "-",.int 1])) l14 (.lst [.ref t13])) l15 (.lst (us++[.ref t13]))=H15 at nd15 s15 lc15 ⊢
 generalize upd (upd H0 t13 (.tup [.str "set",.str (ctN N.n),.str (ctN N.n),.str "-",.int 1])) l15 (.lst (us++[.ref t13]))=G2 at nd15 g15 r15
 clear nd14 nd13 e14 e15 s14 hl15 hl15' n15 o15 g13 r13
 refine⟨_,rfl,_,rfl,_,rfl,ln1,fun l16 hl16=>?_⟩
 have e16:=aa.new hl16 (.lst [.str (ctN N.n)])
 refine⟨lc,l16,_,_,rfl,rfl,SqL.of (e16 _ _ lc15),SqL.of ae,aX (m:=10000) (by rw[q5];show _+1<=_;omega),fun l17 hl17=>?_⟩
 have nd16:=nd15.same e16
 have e17:=aa.new hl17 (.lst (zs.map V.str++[.str (ctN N.n)]))
 have n17:=Lt.none nd16.lt hl17
 have o17:=nd16.bg.off (o:=.lst []) hl17
 have nd17:=(nd16.same e17).grow n17 ae o17.1 o17.2.1 o17.2.2.1
 have g17:=aa.new n17 (.lst (zs.map V.str++[.str (ctN N.n)]))
 have r17:upd G2 l17 (.lst (zs.map V.str++[.str (ctN N.n)])) l17=some (.lst ((zs++[ctN N.n]).map V.str)):=by rw[ae,qO];rfl
 have s17:=e16.trans e17
 have lc17:=s17 _ _ lc15
 generalize upd (upd H15 l16 (.lst [.str (ctN N.n)])) l17 (.lst (zs.map V.str++[.str (ctN N.n)]))=H17 at nd17 s17 lc17 ⊢
 generalize upd G2 l17 (.lst (zs.map V.str++[.str (ctN N.n)]))=G3 at nd17 g17 r17
 refine⟨_,rfl,_,rfl,_,rfl,c.p,_,_,rfl,nd17.bg.ro,aV Qd,_,rfl,lc,_,rfl,.inl (SqL.of lc17),c,es,fe,N.reA k,zs.length,by rw[q5];rfl,nd17.bg,Qo,(sm.next gR Qo).le Qo,fun H18 t18 k18 B18 nt18 ht18=>⟨_,rfl,ln1,fun t19 ht19=>?_⟩⟩
 rw[dO]at ht18
 have e19:=aa.new ht19 (.tup [.int (N.n:Int)])
 have zl:0<zs.length:=Nat.pos_of_ne_zero fun h=>z0 (List.length_eq_zero_iff.mp h)
 refine iQ (e19 _ _ ht18) ae (fun h=>by have:=congrArg List.length h;rw[q5,aG,List.length_nil]at this;omega) (by rw[q5,aG];show _+1<=1000;omega) fun t20 H20 s20 h20=>?_
 have nd20:=(nd17.next k18 B18 aT).same (e19.trans s20)
 have h20':H20 t20=some (.tup ((wid (N.n+2) zs.length++[(N.n:Int)]).map V.int)):=by rw[h20,qO];rfl
 have ctin:ctN N.n∈(N.reA k).cs:=((fg [ctN N.n] N.cs).2.1 _).mpr (.inr (by simp))
 have wb:wts (bs++[ctD N.n])=wts bs+20:=by rw[iX];rfl
 refine⟨c,C,es,fe,G3,_,l17,l15,t20,zs++[ctN N.n],ctN N.n,bs++[ctD N.n],wid (N.n+2) zs.length++[(N.n:Int)],rfl,nd20,r17,RL.same g17 r15,h20',by rw[qa,qa,aG];rfl,by rw[qa,List.length_singleton];omega,fun y hy=>?_,by simp,fun d hd=>?_,?_,(sm.next (gR.trans aT) Qo).le Qo,fun H21 N1 k21 B21 lay gr=>?_⟩
 ·rcases qg.mp hy with h|h
  ·exact gR.sub y (nd.sub y (zC y h))
  ·rw[qS.mp h]
   exact ctin
 ·rcases qg.mp hd with h|h
  ·exact .inl (bo1.mem h)
  ·exact .inr ⟨N.n,ctin,qS.mp h⟩
 ·rw[fJ]
  show max (aw bs) 0<n
  omega
 rw[aS,dO]at B21
 refine q H21 _ (f12.trans ((Fb.of (s15.trans s17)).trans (k18.trans (aa.fb (e19.trans s20) k21)))) B21 (.rep co z0 lay .nil) (((gR.trans aT).trans (jT.trans (gr.trans uA))).le ?_)
 rw[qa,List.length_singleton,wb]
 omega
theorem AA (T:Tx P w K mg a):∀n:Nat,aC P w K mg base CX0 (4 * n+16) a.lay_block a.fd_lay_block ["bench","block"] (jb a n):=by
 intro n
 induction n with
 |zero=>
  refine T.F_lay_block.ok kN (fun vs H Q E h=>?_) (fun cdv A outer s H vs Q E hr h=>?_)
  ·obtain⟨_,_,_,_,_,_,_,_,rfl,_⟩:=h
   rfl
  obtain⟨_,_,_,_,_,_,_,_,_,_,_,_,dp,_⟩:=h
  exact absurd dp (Nat.not_lt_zero _)
 |succ n ih=>
  have hT:=Ap T Qo ih
  have hP:=Au T Qo hT
  exact Ax T Qo ((Av T Qo hT).mono Qo) (Ao T Qo hP) (As T Qo hP)
theorem AL (T:Tx P w K mg a):aC P w K mg base CX0 1 a.Bench___init__ a.fd_Bench___init__ ["self"] (rG a):=by
 refine T.F_Bench___init__.ok yC (fun vs H Q E h=>?_) (fun cdv A outer s H vs Q E hr h=>?_)
 ·obtain⟨_,_,rfl,_⟩:=h
  rfl
 obtain⟨p,dx,rfl,hp,q⟩:=h
 refine⟨_,(ai (jz (pq 0) (aL ac) rfl)
  (ai (jz (pq 0) (aL ac) rfl)
  (ai (jz (pq 0) mF rfl)
  (aq (jz (pq 0) mF rfl))))),?_⟩
 refine⟨qr _,fun ll hll=>⟨_,rfl,p,a.C_Bench,dx,[],rfl,aa.new hll _ _ _ hp,T.cl_Bench,T.nf_Bench_lines,by simp,?_⟩⟩
 rw[iq [] rfl Qd,List.nil_append]
 have nl:ll≠p:=fun z=>by rw[z,hp]at hll;cases hll
 have g1:upd (upd H ll (.lst [])) p (.ins a.C_Bench dx [("lines",.ref ll)]) p=_:=ae
 have g2:upd (upd H ll (.lst [])) p (.ins a.C_Bench dx [("lines",.ref ll)]) ll=some (.lst []):=by rw[aj nl];exact ae
 have gk:∀b o,b≠p->H b=some o->upd (upd H ll (.lst [])) p (.ins a.C_Bench dx [("lines",.ref ll)]) b=some o:=fun b o hb h=>by rw[aj hb];exact aa.new hll _ _ _ h
 have gn:∀b,upd (upd H ll (.lst [])) p (.ins a.C_Bench dx [("lines",.ref ll)]) b=none->H b=none:=fun b hb=>bB (bB hb)
 generalize upd (upd H ll (.lst [])) p (.ins a.C_Bench dx [("lines",.ref ll)])=H1 at g1 g2 gk gn ⊢
 refine⟨qr _,fun lp hlp=>⟨_,rfl,p,a.C_Bench,dx,_,rfl,aa.new hlp _ _ _ g1,T.cl_Bench,T.nf_Bench_parts,by simp,?_⟩⟩
 rw[iq ["lines"] rfl Qd]
 have np:lp≠p:=fun z=>by rw[z,g1]at hlp;cases hlp
 have h1:upd (upd H1 lp (.lst [])) p (.ins a.C_Bench dx ([(("lines":Str),V.ref ll)]++[(("parts":Str),V.ref lp)])) p=_:=ae
 have h2:upd (upd H1 lp (.lst [])) p (.ins a.C_Bench dx ([(("lines":Str),V.ref ll)]++[(("parts":Str),V.ref lp)])) lp=some (.lst []):=by rw[aj np];exact ae
 have hk:∀b o,b≠p->H1 b=some o->upd (upd H1 lp (.lst [])) p (.ins a.C_Bench dx ([(("lines":Str),V.ref ll)]++[(("parts":Str),V.ref lp)])) b=some o:=fun b o hb h=>by rw[aj hb];exact aa.new hlp _ _ _ h
 have hn:∀b,upd (upd H1 lp (.lst [])) p (.ins a.C_Bench dx ([(("lines":Str),V.ref ll)]++[(("parts":Str),V.ref lp)])) b=none->H b=none:=fun b hb=>gn _ (bB (bB hb))
 generalize upd (upd H1 lp (.lst [])) p (.ins a.C_Bench dx ([(("lines":Str),V.ref ll)]++[(("parts":Str),V.ref lp)]))=H2 at h1 h2 hk hn ⊢
 refine fun de hde=>⟨_,rfl,p,a.C_Bench,dx,_,rfl,aa.new hde _ _ _ h1,T.cl_Bench,T.nf_Bench_ends,by simp,?_⟩
 rw[iq ["lines","parts"] rfl Qd]
 have ne:de≠p:=fun z=>by rw[z,h1]at hde;cases hde
 have i1:upd (upd H2 de (.dK [])) p (.ins a.C_Bench dx ([(("lines":Str),V.ref ll)]++[(("parts":Str),V.ref lp)]++[(("ends":Str),V.ref de)])) p=_:=ae
 have i2:upd (upd H2 de (.dK [])) p (.ins a.C_Bench dx ([(("lines":Str),V.ref ll)]++[(("parts":Str),V.ref lp)]++[(("ends":Str),V.ref de)])) de=some (.dK []):=by rw[aj ne];exact ae
 have ik:∀b o,b≠p->H2 b=some o->upd (upd H2 de (.dK [])) p (.ins a.C_Bench dx ([(("lines":Str),V.ref ll)]++[(("parts":Str),V.ref lp)]++[(("ends":Str),V.ref de)])) b=some o:=fun b o hb h=>by rw[aj hb];exact aa.new hde _ _ _ h
 have jn:∀b,upd (upd H2 de (.dK [])) p (.ins a.C_Bench dx ([(("lines":Str),V.ref ll)]++[(("parts":Str),V.ref lp)]++[(("ends":Str),V.ref de)])) b=none->H b=none:=fun b hb=>hn _ (bB (bB hb))
 generalize upd (upd H2 de (.dK [])) p (.ins a.C_Bench dx ([(("lines":Str),V.ref ll)]++[(("parts":Str),V.ref lp)]++[(("ends":Str),V.ref de)]))=H3 at i1 i2 ik jn ⊢
 refine fun dc hdc=>⟨_,rfl,p,a.C_Bench,dx,_,rfl,aa.new hdc _ _ _ i1,T.cl_Bench,T.nf_Bench_coming,by simp,?_⟩
 rw[iq ["lines","parts","ends"] rfl Qd]
 have nc:dc≠p:=fun z=>by rw[z,i1]at hdc;cases hdc
 have ij:∀b o,b≠p->H3 b=some o->upd (upd H3 dc (.dK [])) p (ki a dx ll lp de dc) b=some o:=fun b o hb h=>by rw[aj hb];exact aa.new hdc _ _ _ h
 refine q _ ll lp de dc (fun b o hb h=>ij b o hb (ik b o hb (hk b o hb (gk b o hb h)))) ae (ij _ _ nl (ik _ _ nl (hk _ _ nl g2))) (ij _ _ np (ik _ _ np h2)) (ij _ _ ne i2) ?_ hll (gn _ hlp) (hn _ hde) (jn _ hdc) (fun z=>by rw[<- z,g2]at hlp;cases hlp) (fun z=>by rw[<- z,i2]at hdc;cases hdc)
 show upd (upd H3 dc (.dK [])) p (ki a dx ll lp de dc) dc=_
 rw[aj nc]
 exact ae
theorem Dl {x:Str}{ps:List (Str×Int)}(h:x∉ps.map (·.1)):bc ps x=0:=by
 have:∀(ps:List (Str×Int)) (f:aD),x∉ps.map (·.1)->f x=0->ps.foldl (fun f p=>aW f p.1 (p.2 % 1000000000000000000000000000000)) f x=0:=by
  intro ps
  induction ps with
  |nil=>intro f _ h;exact h
  |cons p r ih=>
   intro f h hf
   rw[qR,qt,not_or]at h
   refine ih _ h.2 ?_
   show aW _ _ _ x=0
   unfold aW
   rw[qZ h.1]
   exact hf
 exact this ps _ h rfl
theorem AB (T:Tx P w K mg a):aC P w K mg base CX0 19 a.bench_for a.fd_bench_for ["program","numbers"] (pP a):=by
 refine T.F_bench_for.ok gq (fun vs H Q E h=>?_) (fun cdv A outer s H vs Q E hr h=>?_)
 ·obtain⟨_,_,_,_,_,_,_,_,_,_,_,rfl,_⟩:=h
  rfl
 obtain⟨pr,la,ls,lb,ln,ak,ss,ns,ds,us,C,rfl,PO,q⟩:=h
 refine⟨_,(ai (ax (i:=2) gq.nd rfl (Or.inl rfl) (zM T.k_Bench (AL T) (hr.mono Qk) rfl T.m_Bench T.b_Bench___init__ .nil ao))
  (ai (cj PassesOwn.never rfl (bQ (ap ar (pq 0) ag (fun _ _=>rfl))) (gG rfl (cU (bf (i:=3) gq.nd rfl (Or.inl rfl)) (cU (bf (i:=4) gq.nd rfl (Or.inl rfl)) gF)))
  (aq (fA (hr.one) (cV (pq 2) rfl) (pq 3) (aU (pq 2) T.cl_Bench T.mt_Bench_add_line (fF T) (hr.mono Qk) T.b_Bench_add_line .nil ao (a9 (pq 4) (a9 (aK ac) ac))) rfl)))
  (ai (fA (hr.one) (cV (pq 2) rfl) (dN rfl T.c_OUTLET T.r_OUTLET) (aU (pq 2) T.cl_Bench T.mt_Bench_add_line (fF T) (hr.mono Qk) T.b_Bench_add_line .nil ao (a9 eJ (a9 (aK ac) ac))) rfl)
  (ai (ax (i:=5) gq.nd rfl (Or.inl rfl) (az (AC T) (hr.mono Qk) rfl T.m_beginnings T.F_beginnings.kp T.b_beginnings .nil ao (a9 (pq 0) (a9 (pq 1) ac))))
  (ai (cj PassesOwn.never rfl (bQ (az (tI T) (hr.mono Qk) rfl T.m_cards_of T.F_cards_of.kp T.b_cards_of .nil ao (a9 (pq 0) ac))) (bf (i:=6) gq.nd rfl (Or.inl rfl))
  (aq (fA (hr.one) (cV (pq 2) rfl) (pq 6) (aU (pq 2) T.cl_Bench T.mt_Bench_add_line (fF T) (hr.mono Qk) T.b_Bench_add_line .nil ao (a9 ag (a9 (aK (a9 (zR hr.one (pq 5) (pq 6) ag ⟨rfl,rfl,rfl,rfl⟩) ac)) ac))) rfl)))
  (aq (aH (pq 2)))))))),?_⟩
 refine fun p dx hp hdx ndx=>⟨p,dx,rfl,ae,fun H1 ll lp de dc k1 ho hll hlp hde hdc m1 m2 m3 m4 nlp ndc=>⟨rfl,?_⟩⟩
 have s1:aa H H1:=fun b o h=>by
  have nb:b≠p:=fun z=>by rw[z,hp]at h;cases h
  have nd:b≠dx:=fun z=>by rw[z,hdx]at h;cases h
  exact k1 b o nb (by rw[aj nb,aj nd];exact h)
 have n1:=bB (bB m1)
 have n2:=bB (bB m2)
 have n3:=bB (bB m3)
 have n4:=bB (bB m4)
 have RP:=PO.rp
 have sl:=PO.sl
 have snd:=PO.snd
 let c:BAd:=⟨p,dx,ll,lp,de,dc⟩
 have B1:∀g,BG a H1 c [] (feN ss) ⟨[],[],[],g⟩:=fun g=>⟨ho,hde,hdc,nlp,ndc,List.nodup_nil,⟨[],hll,.nil⟩,⟨[],hlp,.nil⟩⟩
 refine⟨_,rfl,pr,_,1,_,rfl,rfl,SqT.of (s1 _ _ RP.top),rfl,ls,rfl,⟨_,SqL.of (s1 _ _ RP.st)⟩,?_⟩
 have ul:=RP.ro.len
 have esat:∀(i:Nat) (s:Str) (n:Int),ss[i]?=some (s,n)->(esN ss)[i]?=some s:=fun i s n h=>by
  have lt:=(qe.mp h).1
  unfold esN
  rw[List.getElem?_append_left (by rw[q5];exact lt),qD,h]
  rfl
 have keepE:∀{H2 H3:Hp}{es:List Str}{N:af}{x:Str}{v:Int},BG a H2 c es (feN ss) N->feN ss x=v->es.Nodup->(H3=upd H2 de (.dK (be (tab es (feN ss)) (.inr x) (.int v))))->BG a H3 c (bK es x) (feN ss) N:=fun{H2 H3 es N x v} B hv nde e3=>by
  subst e3
  obtain⟨a1,a2,a3,a4,a5,a6,a7⟩:=B.ads
  obtain⟨xl,hl,rl⟩:=B.ln
  obtain⟨xp,hp',rp⟩:=B.pt
  have npde:p≠de:=fun z=>by have h1:=B.ro;have h2:=B.eo;rw[show c.p=de from z]at h1;rw[show c.de=de from rfl,h1]at h2;cases h2
  have kk:∀b o,b≠de->H2 b=some o->upd H2 de (.dK (be (tab es (feN ss)) (.inr x) (.int v))) b=some o:=fun b o hb h=>by rw[aj hb];exact h
  have tk:TK H2 (upd H2 de (.dK (be (tab es (feN ss)) (.inr x) (.int v)))):=fun b xs h=>kk b _ (fun z=>by have:=B.eo;rw[show c.de=de from rfl,<- z,h]at this;cases this) h
  exact⟨kk _ _ npde B.ro,by show upd H2 de _ de=_;rw[ae,j6 nde,rS hv],kk _ _ B.de.symm B.co,B.ne,B.de,B.nd,⟨xl,kk _ _ a4.symm hl,rl.imp fun v d h=>h.keep tk⟩,⟨xp,kk _ _ a5.symm hp',rp.imp fun v d h=>h.keep tk⟩⟩
 refine db (K:=K) (a:=ls) (xs:=us) (fun i σ H2=>(∃v3 v4,σ=[some (.ref pr),some (.ref ln),some (.ref p),v3,v4,none,none])/\aa H H2/\∀g,BG a H2 c ((esN ss).take i) (feN ss) ⟨(ss.take i).map (fun s=>⟨.int s.2,[]⟩),[],[],g⟩) ⟨⟨_,_,rfl⟩,s1,B1⟩ ?_ ?_ ?_
 ·rintro i σ H2 _ ⟨_,s2,_⟩
  exact SqL.of (s2 _ _ RP.st)
 ·rintro i y σ H2 hx ⟨⟨v3,v4,rfl⟩,s2,B2⟩
  obtain⟨ps,sn,sz,rfl,hss,hps⟩:=RP.ro.at i y hx
  have il:=(qe.mp hss).1
  refine⟨ps,_,rfl,SqT.of (s2 _ _ hps),rfl,_,_,rfl,_,_,rfl,rfl,?_⟩
  refine⟨_,rfl,p,_,_,rfl,(B2 fun _=>0).ro,aV Qd,_,rfl,qr _,fun f hf=>?_⟩
  have e3:=aa.new hf (.tup [])
  have nn:(af.mk ((ss.take i).map fun s=>(⟨.int s.2,[]⟩:LnD)) [] [] fun _=>0).n=i:=by
   show((ss.take i).map _).length=i
   rw[q5,qJ]
   omega
  refine⟨c,_,_,_,.int sz,f,[],rfl,(B2 fun _=>0).same e3,ae,⟨by show((ss.take i).map _).length+1<=_;rw[q5,qJ];omega,by show 0+1<=100000;decide,by show 0+1<=100000;decide⟩,fun H4 m4 em4 k4 B4=>?_⟩
  rw[nn]at em4
  subst em4
  have esi:=esat i sn sz hss
  have B4':∀g,BG a H4 c ((esN ss).take i) (feN ss) ⟨(ss.take (i+1)).map (fun s=>⟨.int s.2,[]⟩),[],[],g⟩:=fun g=>by
   refine⟨B4.ro,B4.eo,B4.co,B4.ne,B4.de,B4.nd,?_,B4.pt⟩
   rw[qq,hss,Option.toList,qO]
   exact B4.ln
  have few:((esN ss).take i).length<=200:=by rw[qJ];omega
  refine⟨_,rfl,p,_,_,_,_,rfl,B4.ro,T.cl_Bench,T.nf_Bench_ends,iT,_,rfl,de,_,rfl,.inl ⟨_,.inr sn,B4.eo,rfl,by rw[gh];exact i8 Qo,rfl⟩,⟨_,_,rfl⟩,?_,fun g=>?_⟩
  ·exact aa.over (fun b o h=>k4 b o (fun z=>by rw[z,n1]at h;cases h) (fun z=>by rw[z,n2]at h;cases h) (fun z=>by rw[z,n4]at h;cases h) (e3 _ _ (s2 _ _ h))) n3
  ·have:=keepE (B4' g) (v:=(i:Int)) (x:=sn) (by show(((esN ss).idxOf sn:Nat):Int)=_;rw[iH snd esi]) (snd.sublist (List.take_sublist _ _)) rfl
   rw[show bK ((esN ss).take i) sn=(esN ss).take (i+1)by rw[show bK ((esN ss).take i) sn=(esN ss).take i++[sn]from qZ (oV snd esi),qq,esi];rfl]at this
   exact this
 rintro σ H2 ⟨⟨v3,v4,rfl⟩,s2,B2⟩
 have et:(esN ss).take ss.length=ss.map (·.1):=by unfold esN;rw[List.take_left' (by rw[q5])]
 rw[ul,qG,et]at B2
 have gtn:(">":Str)∉ss.map (·.1):=fun h=>(List.nodup_append.mp snd).2.2 _ h _ (by simp) rfl
 have ggt:(esN ss)[ss.length]?=some (">":Str):=by unfold esN;rw[qK (by rw[q5];exact qd _),q5,Nat.sub_self];rfl
 refine⟨_,rfl,p,_,_,rfl,(B2 fun _=>0).ro,aV Qd,qr _,fun f hf=>?_⟩
 have e3:=aa.new hf (.tup [])
 have nn:(af.mk (ss.map fun s=>(⟨.int s.2,[]⟩:LnD)) [] [] fun _=>0).n=ss.length:=by
  show(ss.map _).length=_
  rw[q5]
 refine⟨c,_,_,_,.non,f,[],rfl,(B2 fun _=>0).same e3,ae,⟨by show(ss.map _).length+1<=_;rw[q5];omega,by show 0+1<=100000;decide,by show 0+1<=100000;decide⟩,fun H4 m4 em4 k4 B4=>?_⟩
 rw[nn]at em4
 subst em4
 have B4':∀g,BG a H4 c (ss.map (·.1)) (feN ss) ⟨(ss.map fun s=>(⟨.int s.2,[]⟩:LnD))++[⟨.non,[]⟩],[],[],g⟩:=fun g=>⟨B4.ro,B4.eo,B4.co,B4.ne,B4.de,B4.nd,B4.ln,B4.pt⟩
 refine⟨_,rfl,p,_,_,_,_,rfl,B4.ro,T.cl_Bench,T.nf_Bench_ends,iT,de,_,rfl,.inl ⟨_,.inr (">":Str),B4.eo,rfl,by rw[gh,q5];exact i8 Qo,rfl⟩,?_⟩
 have s4:aa H H4:=fun b o h=>k4 b o (fun z=>by rw[z,n1]at h;cases h) (fun z=>by rw[z,n2]at h;cases h) (fun z=>by rw[z,n4]at h;cases h) (e3 _ _ (s2 _ _ h))
 have B5:∀g,BG a (upd H4 de (.dK (be (tab (ss.map (·.1)) (feN ss)) (.inr (">":Str)) (.int ss.length)))) c (esN ss) (feN ss) ⟨(ss.map fun s=>(⟨.int s.2,[]⟩:LnD))++[⟨.non,[]⟩],[],[],g⟩:=fun g=>by
  have:=keepE (B4' g) (v:=(ss.length:Int)) (x:=(">":Str)) (by show(((esN ss).idxOf (">":Str):Nat):Int)=_;rw[iH snd ggt]) (List.nodup_append.mp snd).1 rfl
  rw[show bK (ss.map (·.1)) (">":Str)=esN ss from qZ gtn]at this
  exact this
 have s5:aa H (upd H4 de (.dK (be (tab (ss.map (·.1)) (feN ss)) (.inr (">":Str)) (.int ss.length)))):=aa.over s4 n3
 generalize upd H4 de (.dK (be (tab (ss.map (·.1)) (feN ss)) (.inr (">":Str)) (.int ss.length)))=H6 at B5 s5 ⊢
 clear B4 B4' B2 k4 s4
 have inC:∀k,k∈ak\/k∈(ah ds).flatMap a8.names->k∈C:=fun k hk=>PO.akC k (by
  unfold cM
  rcases hk with h|h
  ·simp[h]
  ·obtain⟨d,hd,hk⟩:=List.mem_flatMap.mp h
   have:k∈cards ds:=List.mem_flatMap.mpr ⟨d,hd,by unfold a8.cards;simp[hk]⟩
   simp[this])
 have al:=PO.al
 have fl:=PO.fl
 have c20:=PO.c20
 refine⟨_,rfl,_,rfl,pr,la,ls,lb,ln,ak,ns,ds,C,rfl,s5 _ _ RP.top,s5 _ _ RP.as,s5 _ _ PO.hn,RL.same s5 RP.bo,PO.dp,PO.fl,Qo,PO.nl,fun k hk=>inC k (.inl hk),fun k hk=>inC k (.inr hk),Qo,fun H7 d zv m7 nd7 d7 vr=>?_⟩
 have s7:=s5.trans m7
 refine⟨_,rfl,pr,la,ls,lb,ak,ss,ds,us,C,rfl,RP.same s7,PO.dp,Qo,al,sl,PO.s1,PO.akC,Qo,PO.c1,fun H8 l8 zs s8 h8 nd hm so=>⟨l8,rfl,⟨_,SqL.of h8⟩,?_⟩⟩
 have B8:=fun g=>((B5 g).same m7).same s8
 have d8:=s8 _ _ d7
 have s08:=s7.trans s8
 obtain⟨o1,o2,o3,_,_⟩:=(B5 fun _=>0).off (o:=.lst []) nd7
 have zfew:zs.length<=20:=qx (cq nd fun q hq=>PO.akC q ((hm q).mp hq)) c20
 have gt:(">":Str)∈zs:=(hm _).mpr (by unfold cM;simp)
 have o8:l8≠ll/\l8≠lp/\l8≠dc:=by
  obtain⟨xl,hl,rl⟩:=(B8 fun _=>0).ln
  obtain⟨xp,hp',rp⟩:=(B8 fun _=>0).pt
  have hl:H8 ll=some (.lst xl):=hl
  have hp':H8 lp=some (.lst xp):=hp'
  have co:H8 dc=some (.dK _):=(B8 fun _=>0).co
  refine⟨fun z=>?_,fun z=>?_,fun z=>?_⟩
  ·rw[z,hl]at h8
   injection h8 with h8
   injection h8 with h8
   cases zs with
   |nil=>simp at gt
   |cons y r=>
    cases xl with
    |nil=>simp at h8
    |cons v xl=>
     obtain⟨dl,hdl,u,f',ev,_⟩:=rl.at (i:=0) (x:=v) rfl
     rw[qR]at h8
     injection h8 with h8
     rw[ev]at h8
     cases h8
  ·rw[z,hp']at h8
   have e0:=rp.len
   injection h8 with h8
   injection h8 with h8
   rw[h8]at e0
   simp at e0
   rw[e0]at gt
   simp at gt
  ·rw[z,co]at h8;cases h8
 generalize hg:(fun z:Str=>((ss.length+1+zs.idxOf z:Nat):Int))=g
 have gz:∀i z,zs[i]?=some z->g z=((ss.length+1+i:Nat):Int):=fun i z hz=>by
  rw[<- hg]
  show((ss.length+1+zs.idxOf z:Nat):Int)=_
  rw[iH nd hz]
 have begz:∀z,(bA (tab zv (bc (ak.zip ns))) (.inr z)).getD (.int 0)=.int (bc (ak.zip ns) z):=fun z=>by
  by_cases h:z∈zv
  ·rw[i4 h]
   rfl
  ·rw[ko h]
   have:z∉ak:=fun h'=>h ((vr.mem z).mpr (.inl h'))
   have:z∉(ak.zip ns).map (·.1):=fun h'=>by
    obtain⟨⟨u,v⟩,hu,rfl⟩:=List.mem_map.mp h'
    exact this (List.of_mem_zip hu).1
   rw[Dl this]
   rfl
 refine db (K:=K) (a:=l8) (xs:=zs.map V.str) (fun i σ H9=>(∃v6,σ=[some (.ref pr),some (.ref ln),some (.ref p),v3,v4,some (.ref d),v6])/\Fb c H8 H9/\BG a H9 c (esN ss) (feN ss) ⟨(ss.map fun s=>(⟨.int s.2,[]⟩:LnD))++[⟨.non,[]⟩]++(zs.take i).map (fun z=>⟨.int 1,[bc (ak.zip ns) z]⟩),[],zs.take i,g⟩) ⟨⟨_,rfl⟩,Fb.refl,by simpa using B8 g⟩ ?_ ?_ ?_
 ·rintro i σ H9 _ ⟨_,k9,_⟩
  exact SqL.of (k9 _ _ o8.1 o8.2.1 o8.2.2 h8)
 ·rintro i y σ H9 hx ⟨⟨v6,rfl⟩,k9,B9⟩
  rw[qD]at hx
  obtain⟨z,hz,rfl⟩:=qP.mp hx
  have i2:i<zs.length:=(qe.mp hz).1
  have d9:=k9 _ _ o1 o2 o3 d8
  have n9:(af.mk ((ss.map fun s=>(⟨.int s.2,[]⟩:LnD))++[⟨.non,[]⟩]++(zs.take i).map (fun z=>⟨.int 1,[bc (ak.zip ns) z]⟩)) [] (zs.take i) g).n=ss.length+1+i:=by
   show List.length (_++_)=_
   rw[qa,qa,q5,q5,qJ,List.length_singleton]
   omega
  refine⟨_,rfl,p,_,_,rfl,B9.ro,aV Qd,_,rfl,d,rfl,.inl ⟨_,.inl d9⟩,_,rfl,_,dH.k (k:=.inr z) d9,ln1,?_⟩
  rw[begz]
  refine fun f9 hf9=>?_
  have e10:=aa.new hf9 (.tup [.int (bc (ak.zip ns) z)])
  have f10:upd H9 f9 (.tup [.int (bc (ak.zip ns) z)]) f9=some (.tup ([bc (ak.zip ns) z].map V.int)):=ae
  refine⟨c,_,_,_,.int 1,f9,[bc (ak.zip ns) z],rfl,B9.same e10,f10,⟨by show af.n _+1<=_;rw[n9];omega,by show 0+1<=100000;decide,by show(zs.take i).length+1<=_;rw[qJ];omega⟩,fun H11 m11 em11 k11 B11=>?_⟩
  rw[n9,<- gz i z hz]at em11
  subst em11
  refine⟨_,rfl,p,_,_,_,_,rfl,B11.ro,T.cl_Bench,T.nf_Bench_coming,oq,_,rfl,dc,_,rfl,.inl ⟨_,.inr z,B11.co,rfl,by rw[gh];exact i8 (by show(zs.take i).length<=_;rw[qJ];omega),rfl⟩,?_⟩
  obtain⟨B12,k12⟩:=B11.put (z:=z) (v:=g z)
  refine⟨⟨_,rfl⟩,k9.trans ((aa.fb e10 k11).trans k12),?_⟩
  have e13:zs.take (i+1)=zs.take i++[z]:=by rw[qq,hz];rfl
  rw[e13,qO,<- qM]
  have:bK (zs.take i) z=zs.take i++[z]:=qZ (oV nd hz)
  rw[<- this]
  have eg:aW g z (g z)=g:=rS rfl
  have B12':BG a _ c (esN ss) (feN ss) ⟨_,[],bK (zs.take i) z,aW g z (g z)⟩:=B12
  rw[eg]at B12'
  exact B12'
 ·rintro σ H9 ⟨⟨v6,rfl⟩,k9,B9⟩
  rw[q5,qG]at B9
  refine⟨_,rfl,q H9 c zs ((⟨s08,n1,n2,n4⟩:Lt c H H8).next k9) ?_ ⟨nd,hm,so⟩⟩
  rw[<- hg]at B9
  exact B9
theorem Am (T:Tx P w K mg a):aC P w K mg base CX0 72 a.net_of a.fd_net_of ["program","numbers"] (pE a):=by
 have hB:=AA (base:=base) T 13
 refine T.F_net_of.ok rV (fun vs H Q E h=>?_) (fun cdv A outer s H vs Q E hr h=>?_)
 ·obtain⟨_,_,_,_,_,_,_,_,_,_,_,rfl,_⟩:=h
  rfl
 obtain⟨pr,la,ls,lb,ln,ak,ss,ns,ds,us,C,rfl,PO,q⟩:=h
 refine⟨_,(ai (ax (i:=2) rV.nd rfl (Or.inl rfl) (az (AB T) (hr.mono Qk) rfl T.m_bench_for T.F_bench_for.kp T.b_bench_for .nil ao (a9 (pq 0) (a9 (pq 1) ac))))
  (ai (aO (az hB (hr.mono Qk) rfl T.m_lay_block T.F_lay_block.kp T.b_lay_block .nil ao (a9 (pq 2) (a9 (ap ar (pq 0) ag (fun _ _=>rfl)) ac))))
  (ai (aO (aU (pq 2) T.cl_Bench T.mt_Bench_add_part (dD T) (hr.mono Qk) T.b_Bench_add_part .nil ao (a9 (aK (a9 aF (a9 (aU (pq 2) T.cl_Bench T.mt_Bench_wires_of (eK T) (hr.mono Qk) T.b_Bench_wires_of .nil ao (a9 (az (tI T) (hr.mono Qk) rfl T.m_cards_of T.F_cards_of.kp T.b_cards_of .nil ao (a9 (pq 0) ac)) ac)) (a9 (aK ac) (a9 (aK ac) ac))))) ac)))
  (aq (aH (aK (a9 (cV (pq 2) rfl) (a9 (cV (pq 2) rfl) (a9 (zO rfl rfl T.z_list (cV (pq 2) rfl)) ac))))))))),?_⟩
 have RP:=PO.rp
 have fl:=PO.fl
 have c20:=PO.c20
 have sl:=PO.sl
 refine⟨_,rfl,_,rfl,pr,la,ls,lb,ln,ak,ss,ns,ds,us,C,rfl,PO,fun H1 c zs lt B cr=>?_⟩
 have zC:∀z∈zs,z∈C:=fun z hz=>PO.akC z ((cr.mem z).mp hz)
 have zf:zs.length<=20:=qx (cq cr.nd zC) c20
 have cz:∀x,x∈cards ds->x∈zs:=fun x h=>(cr.mem x).mpr (by unfold cM;simp[h])
 have bo:BO zs (esN ss) ds:=by
  refine⟨fun d hd=>⟨fun k hk=>cz k (List.mem_flatMap.mpr ⟨d,hd,hk⟩),fun s x h=>?_⟩,PO.dp,Qo⟩
  have hs:=PO.st d hd s x h
  refine⟨hs,?_⟩
  unfold esN at hs
  rcases qg.mp hs with h|h
  ·obtain⟨p,hp,rfl⟩:=List.mem_map.mp h
   exact PO.s1 p hp
  ·rw[qS.mp h]
   decide
 have nd1:ce a c zs (esN ss) (feN ss) H H1 (br ss zs (bc (ak.zip ns))):=⟨B,lt,fun x hx=>hx,by unfold esN;simp,zf,fun k hk=>PO.c1 k (zC k hk)⟩
 have wl:=oI ds
 have ln0:(br ss zs (bc (ak.zip ns))).ls.length=ss.length+1+zs.length:=by
  show List.length (_++_)=_
  rw[qa,qa,q5,q5,List.length_singleton]
 have pn0:(br ss zs (bc (ak.zip ns))).ps.length=0:=rfl
 have cn0:(br ss zs (bc (ak.zip ns))).cs.length=zs.length:=rfl
 have sm:Sm (br ss zs (bc (ak.zip ns))) (1+wts ds):=⟨Qo,Qo,Qo⟩
 refine⟨_,rfl,_,rfl,pr,_,2,_,rfl,rfl,SqT.of (lt.e0 _ _ RP.top),rfl,c,zs,_,_,H,_,lb,ds,rfl,nd1,RP.bo,fun d hd=>.inl (bo.mem hd),by have:=PO.dp;omega,sm.le Qo,fun H2 N2 k2 B2 lay gr=>?_⟩
 have nd2:=nd1.next k2 B2 gr
 refine⟨_,rfl,c.p,_,_,rfl,B2.ro,aV Qd,_,rfl,c.p,_,_,rfl,B2.ro,aV Qd,_,rfl,pr,la,ls,lb,ak,ss,ds,us,C,rfl,RP.same nd2.lt.e0,PO.dp,Qo,PO.al,PO.sl,PO.s1,PO.akC,Qo,PO.c1,fun H3 l3 zs3 s3 h3 nd3 hm3 so3=>?_⟩
 have ez:zs3=zs:=rH nd3 cr.nd so3 cr.so fun k=>(hm3 k).trans (cr.mem k).symm
 subst ez
 refine⟨c,_,_,N2,l3,zs3,rfl,B2.same s3,h3,Qo,fun x hx=>nd2.sub x hx,fun H4 t4 s4 n4 h4=>?_⟩
 refine⟨qr _,fun t5 ht5=>⟨qr _,fun t6 ht6=>⟨ln4,fun t7 ht7=>?_⟩⟩⟩
 have e5:=aa.new ht5 (.tup [])
 have e6:=aa.new ht6 (.tup [])
 have e7:=aa.new ht7 (.tup [.str "pass",.ref t4,.ref t5,.ref t6])
 have s47:=e5.trans (e6.trans e7)
 have s27:=s3.trans (s4.trans s47)
 refine⟨c,_,_,N2,.ref t7,.pas (zs3.map N2.fc) [] [],rfl,B2.same s27,⟨t7,t4,t5,t6,rfl,ae,s47 _ _ h4,e7 _ _ (e6 _ _ ae),e7 _ _ ae⟩,(sm.next gr Qo).le Qo,fun H8 k8 B8=>?_⟩
 have nd8:=(nd2.same s27).next k8 B8 bJ
 refine⟨_,rfl,c.p,_,_,_,_,rfl,B8.ro,T.cl_Bench,T.nf_Bench_lines,oo,_,rfl,c.p,_,_,_,_,rfl,B8.ro,T.cl_Bench,T.nf_Bench_parts,vV,_,rfl,c.p,_,_,_,_,rfl,B8.ro,T.cl_Bench,T.nf_Bench_ends,iT,c.de,_,rfl,B8.eo,fun H9 l9 ts s9 n9 h9 tl hts=>⟨ln3,fun t10 ht10=>?_⟩⟩
 have e10:=aa.new ht10 (.tup [.ref c.ll,.ref c.lp,.ref l9])
 have s810:=s9.trans e10
 refine q _ t10 c l9 zs3 N2 (nd8.lt.e0.trans s810) (aa.none (nd8.lt.e0.trans s9) ht10) ae (B8.same s810) ?_ cr lay gr
 refine⟨ts,e10 _ _ h9,by rw[tl,gh],fun j u z hu hz=>?_⟩
 refine e10 _ _ (hts j u (.inr z,.int (feN ss z)) hu ?_).1
 unfold tab
 rw[qD,hz]
 rfl
theorem gI (T:Tx P w K mg a):aC P w K mg base CX0 1 a._law_pick a.fd__law_pick ["_law_cell","_law_factor","_law_prime","_law_many"] pZ:=by
 refine T.F__law_pick.ok yv (fun vs H Q E h=>?_) (fun cdv A outer s H vs Q E hr h=>?_)
 ·obtain⟨_,_,_,_,rfl,_⟩:=h
  rfl
 obtain⟨c,f,p,m,rfl,cb,hf,hp,hm,q⟩:=h
 refine⟨_,(aq (aH (ay c5 (ay c5 (ay iB (pq 0) (pq 1)) (pq 2)) (pq 3)))),?_⟩
 exact⟨_,rfl,_,rfl,_,_,rfl,rfl,IntMulOk.of_right (intBits_le_64 Qo Qo),_,rfl,_,_,rfl,rfl,hp.1,_,rfl,_,_,rfl,rfl,hm.1,q⟩
theorem Bx (i:Int) (h0:0<=i) (h1:i<14):atI ("bcdfgjkmnqvxyz":Str).cps.toList i=some (nu.getD i.toNat 0):=by
 obtain⟨n,rfl⟩:∃n:Nat,i=n:=⟨i.toNat,Qo⟩
 have:∀n:Fin 14,atI ("bcdfgjkmnqvxyz":Str).cps.toList ((n.val:Nat):Int)=some (nu.getD ((n.val:Nat):Int).toNat 0):=Qd
 exact this ⟨n,Qo⟩
theorem ke (i:Int):(chN i).length=1:=rfl
theorem tW {z:Str}(h:z.length=1) {n:Int}(h0:0<=n):(Txt.mul z n).length=n.toNat:=by rw[Bg z h0,h,Nat.one_mul]
theorem oz (x y:Str):(x++y).length=x.length+y.length:=by
 show(x.cps++y.cps).size=_
 rw[Array.size_append]
 rfl
def nm2 (r u v:Int):List Str:=(List.range 6).map fun k:Nat=>Txt.mul ("q":Str) u++chN (r+k)++Txt.slice ("vz":Str) none (some v)
theorem B0:∀(r:Fin 14) (u v:Fin 3),(nm2 (r.val:Nat) (u.val:Nat) (v.val:Nat)).Nodup/\∀z∈nm2 (r.val:Nat) (u.val:Nat) (v.val:Nat),z.length<=100/\PyData.strOk z=true/\z≠("w":Str)/\z≠(">":Str):=Qd
theorem Bb:∀(r:Fin 14) (k:Fin 6),PyData.strOk (Txt.mul (chN ((r.val:Nat):Int)) (((k.val:Nat):Int)+1))=true/\Txt.mul (chN ((r.val:Nat):Int)) (((k.val:Nat):Int)+1)≠("w":Str)/\Txt.mul (chN ((r.val:Nat):Int)) (((k.val:Nat):Int)+1)≠(">":Str):=Qd
theorem iC (c:Int):(nmN c).length=6/\(nmN c).Nodup/\∀z∈nmN c,z.length<=100/\PyData.strOk z=true/\z≠("w":Str)/\z≠(">":Str):=by
 have r0:0<=c / 9 % 14:=Int.emod_nonneg _ Qk
 have r1:c / 9 % 14<14:=Int.emod_lt_of_pos _ Qk
 unfold nmN
 split
 ·have lens:∀k:Nat,(Txt.mul (chN (c / 9+(0:Nat))) (((k:Nat):Int)+1)).length=k+1:=fun k=>by
   rw[tW (ke _) Qo]
   omega
  refine⟨by rw[q5,List.length_range],?_,fun z hz=>?_⟩
  ·refine List.nodup_iff_pairwise_ne.mpr ?_
   rw[List.pairwise_map]
   refine List.Pairwise.imp ?_ (List.nodup_range (n:=6))
   intro x y h e
   have:=congrArg Str.length e
   rw[lens,lens]at this
   omega
  ·obtain⟨k,hk,rfl⟩:=List.mem_map.mp hz
   have hk:=List.mem_range.mp hk
   refine⟨by rw[lens];omega,?_⟩
   have ok:=Bb ⟨(c / 9 % 14).toNat,Qo⟩ ⟨k,hk⟩
   dsimp only at ok
   rw[show(((c / 9 % 14).toNat:Nat):Int)=c / 9 % 14 by omega]at ok
   have:chN (c / 9+(0:Nat))=chN (c / 9 % 14):=by
    unfold chN
    rw[show(c / 9+((0:Nat):Int)) % 14=c / 9 % 14 % 14 by omega]
   rw[this]
   exact ok
 ·have u0:0<=c % 3:=Int.emod_nonneg _ Qk
  have u1:c % 3<3:=Int.emod_lt_of_pos _ Qk
  have v0:0<=c / 3 % 3:=Int.emod_nonneg _ Qk
  have v1:c / 3 % 3<3:=Int.emod_lt_of_pos _ Qk
  have en:((List.range 6).map fun k:Nat=>Txt.mul ("q":Str) (c % 3)++chN (c / 9+k)++Txt.slice ("vz":Str) none (some (c / 3 % 3)))=nm2 (c / 9 % 14) (c % 3) (c / 3 % 3):=by
   unfold nm2
   refine List.map_congr_left fun k _=>?_
   have:chN (c / 9+k)=chN (c / 9 % 14+k):=by
    unfold chN
    rw[show(c / 9+(k:Int)) % 14=(c / 9 % 14+(k:Int)) % 14 by omega]
   rw[this]
  have ok:=B0 ⟨(c / 9 % 14).toNat,Qo⟩ ⟨(c % 3).toNat,Qo⟩ ⟨(c / 3 % 3).toNat,Qo⟩
  dsimp only at ok
  rw[show(((c / 9 % 14).toNat:Nat):Int)=c / 9 % 14 by omega,show(((c % 3).toNat:Nat):Int)=c % 3 by omega,show(((c / 3 % 3).toNat:Nat):Int)=c / 3 % 3 by omega,<- en]at ok
  exact⟨by rw[q5,List.length_range],ok.1,ok.2⟩
theorem AH (T:Tx P w K mg a):aC P w K mg base CX0 1 a._law_names a.fd__law_names ["_law_cell"] re:=by
 refine T.F__law_names.ok kO (fun vs H Q E h=>?_) (fun cdv A outer s H vs Q E hr h=>?_)
 ·obtain⟨_,rfl,_⟩:=h
  rfl
 obtain⟨c,rfl,cb,q⟩:=h
 refine⟨_,(ai (ax (i:=1) kO.nd rfl (Or.inr rfl) aF)
  (ai (ax (i:=2) kO.nd rfl (Or.inr rfl) (cW (k:=1) (Nc:=["_law_k","_law_letters","_law_cell"]) (js:=[1,0]) (show bn (aB gx) ["_law_cell","_law_letters","_law_some"] _ 1 ["_law_k","_law_letters","_law_cell"] [1,0]from bn.mk rfl (by decide +kernel) (by decide +kernel) (by decide +kernel) rfl (by decide +kernel)) rfl (jB rfl T.z_range (a9 ag ac)) (fun _ _ _ _ _=>(bf (i:=0) (show List.Nodup (["_law_k","_law_letters","_law_cell"]:List Str)from by decide +kernel) rfl (Or.inl rfl))) (fun _ _ _ _ _=>dM) (fun _ _ _ _ _=>(ap ui (pq 1) (ay c5 (ay ft (ay eE (pq 2) ag) (pq 0)) ag) (fun _ _=>rfl)))))
  (ai (aY (aJ bC (ay c5 (ay eE (pq 0) ag) ag) ag (aP _)) (aq (aH (cW (k:=1) (Nc:=["_law_k","_law_some"]) (js:=[2]) (show bn (aB gx) ["_law_cell","_law_letters","_law_some"] _ 1 ["_law_k","_law_some"] [2]from bn.mk rfl (by decide +kernel) (by decide +kernel) (by decide +kernel) rfl (by decide +kernel)) rfl (jB rfl T.z_range (a9 ag ac)) (fun _ _ _ _ _=>(bf (i:=0) (show List.Nodup (["_law_k","_law_some"]:List Str)from by decide +kernel) rfl (Or.inl rfl))) (fun _ _ _ _ _=>dM) (fun _ _ _ _ _=>(ay tu (ap (sv (K:=K) rfl) (pq 1) ag (fun _ _=>rfl)) (ay ft (pq 0) ag)))))) bD)
  (aq (aH (cW (k:=1) (Nc:=["_law_sign","_law_cell"]) (js:=[0]) (show bn (aB gx) ["_law_cell","_law_letters","_law_some"] _ 1 ["_law_sign","_law_cell"] [0]from bn.mk rfl (by decide +kernel) (by decide +kernel) (by decide +kernel) rfl (by decide +kernel)) rfl (bQ (pq 2)) (fun _ _ _ _ _=>(bf (i:=0) (show List.Nodup (["_law_sign","_law_cell"]:List Str)from by decide +kernel) rfl (Or.inl rfl))) (fun _ _ _ _ _=>dM) (fun _ _ _ _ _=>(ay jv (ay jv (ay tu aF (ay c5 (pq 1) ag)) (pq 0)) (gH xX aF iu (fB (ay c5 (ay eE (pq 1) ag) ag))))))))))),?_⟩
 refine⟨6,rfl,Qk,Qk,?_⟩
 refine jX (fun i ys σ H2=>(∃v,σ=[v,some (.str "bcdfgjkmnqvxyz"),some (.int c)])/\H2=H/\ys=(List.range i).map fun k:Nat=>V.str (chN (c / 9+k))) ⟨⟨_,rfl⟩,rfl,rfl⟩ ?_ Qk ?_ ?_
 ·rintro i ys σ H2 _ ⟨_,_,rfl⟩
  rw[q5,List.length_range]
  exact qd _
 ·rintro i ys σ H2 hi ⟨⟨v,rfl⟩,rfl,rfl⟩
  refine⟨_,rfl,_,rfl,_,_,rfl,rfl,⟨Qk,Qk⟩,_,rfl,_,_,rfl,rfl,_,_,rfl,rfl,Qk,_,_,_,rfl,rfl,Qd,Bx _ (Int.emod_nonneg _ Qk) (Int.emod_lt_of_pos _ Qk),⟨_,rfl⟩,rfl,?_⟩
  rw[List.range_succ,qO]
  rfl
 rintro ys σ H2 ⟨_,rfl,rfl⟩ l1 hl1
 have e1:=aa.new hl1 (.lst ((List.range (6:Int).toNat).map fun k:Nat=>V.str (chN (c / 9+k))))
 have l1':upd H2 l1 (.lst ((List.range (6:Int).toNat).map fun k:Nat=>V.str (chN (c / 9+k)))) l1=some (.lst (((List.range 6).map fun k:Nat=>chN (c / 9+k)).map V.str)):=by
  rw[ae,List.map_map]
  rfl
 generalize upd H2 l1 (.lst ((List.range (6:Int).toNat).map fun k:Nat=>V.str (chN (c / 9+k))))=H3 at e1 l1' ⊢
 refine⟨_,rfl,_,_,rfl,rfl,⟨Qk,Qk⟩,_,_,rfl,rfl,Qk,rfl,_,rfl,gW (fun c1=>?_) (fun c1=>?_)⟩
 ·have c1:c / 126 % 3=1:=by simpa using c1
  have en:(nmN c).map V.str=(List.range 6).map fun k:Nat=>V.str (Txt.mul (chN (c / 9+(0:Nat))) (((k:Nat):Int)+1)):=by
   unfold nmN
   rw[Q0 c1,List.map_map]
   rfl
  refine⟨6,rfl,Qk,Qk,?_⟩
  refine jX (fun i ys σ H4=>(∃v,σ=[v,some (.ref l1)])/\H4=H3/\ys=(List.range i).map fun k:Nat=>V.str (Txt.mul (chN (c / 9+(0:Nat))) (((k:Nat):Int)+1))) ⟨⟨_,rfl⟩,rfl,rfl⟩ ?_ Qk ?_ ?_
  ·rintro i ys σ H4 _ ⟨_,_,rfl⟩
   rw[q5,List.length_range]
   exact qd _
  ·rintro i ys σ H4 hi ⟨⟨v,rfl⟩,rfl,rfl⟩
   have hi:i<6:=hi
   refine⟨_,rfl,l1,_,0,_,rfl,rfl,SqL.of l1',hV,_,rfl,_,_,rfl,rfl,_,_,rfl,rfl,tV (by rw[ke];decide) Qo Qo,⟨_,rfl⟩,rfl,?_⟩
   rw[List.range_succ,qO]
   rfl
  rintro ys σ H4 ⟨_,rfl,rfl⟩ l5 hl5
  exact q _ l5 (e1.trans (aa.new hl5 _)) (aa.none e1 hl5) (by rw[ae,en];rfl)
 ·have c1:¬ c / 126 % 3=1:=by simpa using c1
  have en:(nmN c).map V.str=(List.range 6).map fun k:Nat=>V.str (Txt.mul ("q":Str) (c % 3)++chN (c / 9+k)++Txt.slice ("vz":Str) none (some (c / 3 % 3))):=by
   unfold nmN
   rw[qZ c1,List.map_map]
   rfl
  refine⟨_,rfl,l1,rfl,⟨_,SqL.of l1'⟩,?_⟩
  have u0:0<=c % 3:=Int.emod_nonneg _ Qk
  have u1:c % 3<3:=Int.emod_lt_of_pos _ Qk
  have v0:0<=c / 3 % 3:=Int.emod_nonneg _ Qk
  have v1:c / 3 % 3<3:=Int.emod_lt_of_pos _ Qk
  refine iP (K:=K) (a:=l1) (xs:=((List.range 6).map fun k:Nat=>chN (c / 9+k)).map V.str) (fun i ys σ H4=>(∃v,σ=[v,some (.int c)])/\H4=H3/\ys=(List.range i).map fun k:Nat=>V.str (Txt.mul ("q":Str) (c % 3)++chN (c / 9+k)++Txt.slice ("vz":Str) none (some (c / 3 % 3)))) ⟨⟨_,rfl⟩,rfl,rfl⟩ ?_ (by rw[q5,q5,List.length_range];decide) ?_ ?_ ?_
  ·rintro i ys σ H4 _ ⟨_,_,rfl⟩
   rw[q5,List.length_range]
   exact qd _
  ·rintro i ys σ H4 ⟨_,rfl,_⟩
   exact SqL.of l1'
  ·rintro i x ys σ H4 hx ⟨⟨v,rfl⟩,rfl,rfl⟩
   rw[qD,qD]at hx
   obtain⟨z,hz,rfl⟩:=qP.mp hx
   obtain⟨k,hk,rfl⟩:=qP.mp hz
   have hk':k=i:=by
    have lt:=(qe.mp hk).1
    have e:=(qe.mp hk).2
    rw[List.getElem_range]at e
    exact e.symm
   subst hk'
   have ql:(Txt.mul ("q":Str) (c % 3)).length=(c % 3).toNat:=tW rfl u0
   refine⟨_,rfl,_,_,rfl,rfl,Qk,_,_,rfl,rfl,tV Qk Qo Qo,_,rfl,_,_,rfl,rfl,aX (m:=1000) (by rw[ql,ke];omega),?_⟩
   have sl:(Txt.slice ("vz":Str) none (some (c / 3 % 3))).length<=2:=by
    have:∀n:Fin 3,(Txt.slice ("vz":Str) none (some ((n.val:Nat):Int))).length<=2:=Qd
    have h:=this ⟨(c / 3 % 3).toNat,Qo⟩
    rwa [show(((c / 3 % 3).toNat:Nat):Int)=c / 3 % 3 by omega]at h
   refine⟨_,rfl,_,_,rfl,rfl,⟨Qk,Qk⟩,_,_,rfl,rfl,Qk,_,rfl,_,rfl,Qk,_,_,rfl,rfl,aX (m:=1000) (by rw[oz,ql,ke];omega),⟨_,rfl⟩,rfl,?_⟩
   rw[List.range_succ,qO]
   rfl
  rintro ys σ H4 ⟨_,rfl,rfl⟩ l5 hl5
  rw[q5,q5,List.length_range]
  exact q _ l5 (e1.trans (aa.new hl5 _)) (aa.none e1 hl5) (by rw[ae,en])
theorem tK (T:Tx P w K mg a):aC P w K mg base CX0 1 a._law_value a.fd__law_value ["_law_number","_law_names_here"] pV:=by
 refine T.F__law_value.ok sd (fun vs H Q E h=>?_) (fun cdv A outer s H vs Q E hr h=>?_)
 ·obtain⟨_,_,_,rfl,_⟩:=h
  rfl
 obtain⟨n,l,zs,rfl,hn,hl,z6,q⟩:=h
 refine⟨_,(ai (ax (i:=2) sd.nd rfl (Or.inl rfl) (ay c5 (pq 0) ag))
  (ai (aY (aJ eD (pq 2) (bp bM rfl T.z_len PySem.boot_len (a9 (pq 1) ac)) (aP _)) (aq (aH (ap bF (pq 1) (pq 2) (fun _ _=>rfl)))) bD)
  (ai (aY (aJ bC (pq 2) ag (aP _)) (aq (aH (ay c5 (ay eE (pq 0) ag) ag))) bD)
  (aq (aH (ay c5 (ay iB (pq 0) (ay iA ag ag)) (ay iA ag ag))))))),?_⟩
 have m0:0<=n % 9:=Int.emod_nonneg _ Qk
 have m1:n % 9<9:=Int.emod_lt_of_pos _ Qk
 refine⟨_,rfl,_,_,rfl,rfl,Qk,?_⟩
 refine⟨_,rfl,_,rfl,l,_,rfl,.inl (SqL.of hl),_,_,rfl,rfl,_,rfl,?_⟩
 rw[q5,z6]
 unfold vaN at q
 by_cases h6:n % 9<6
 ·refine bY (decide_eq_true h6) ?_
  rw[Q0 h6]at q
  have lt:(n % 9).toNat<zs.length:=Qo
  rw[qi,qb lt]at q
  exact⟨_,rfl,_,rfl,l,_,_,_,rfl,rfl,SqL.of hl,w8 m0 (by rw[qD,qb lt];rfl),q⟩
 ·refine bi (decide_eq_false h6) ?_
  rw[qZ h6]at q
  refine⟨_,rfl,rfl,_,rfl,?_⟩
  by_cases h7:n % 9=6
  ·refine bY (by simp[h7]) ?_
   rw[Q0 h7]at q
   exact⟨_,rfl,_,_,rfl,rfl,⟨Qk,Qk⟩,_,_,rfl,rfl,Qk,q⟩
  ·refine bi (by simp[h7]) ?_
   rw[qZ h7]at q
   refine⟨_,rfl,_,_,rfl,rfl,⟨Qk,Qk,Qk⟩,_,_,rfl,rfl,IntMulOk.of_left (intBits_le_64 Qo Qo),_,_,rfl,rfl,⟨Qk,Qk,Qk⟩,_,_,rfl,rfl,by rw[p30];decide,?_⟩
   rw[p30,show(48271:Int) ^ (6:Int).toNat=12650793754653265942685193121 by decide +kernel]
   exact q
theorem y8 (i:Int) (h0:0<=i) (h1:i<9):∃c,atI ("+-*/<=&|^":Str).cps.toList i=some c/\(⟨#[c]⟩:Str)=sgN i:=by
 have:i=0\/i=1\/i=2\/i=3\/i=4\/i=5\/i=6\/i=7\/i=8:=Qo
 rcases this with rfl|rfl|rfl|rfl|rfl|rfl|rfl|rfl|rfl<;>exact⟨_,rfl,Qd⟩
theorem AF (T:Tx P w K mg a):aC P w K mg base CX0 2 a._law_set a.fd__law_set ["_law_cell","_law_x","_law_names_here"] kF:=by
 refine T.F__law_set.ok jk (fun vs H Q E h=>?_) (fun cdv A outer s H vs Q E hr h=>?_)
 ·obtain⟨_,_,_,_,rfl,_⟩:=h
  rfl
 obtain⟨c,x,l,zs,rfl,cb,hl,z6,q⟩:=h
 refine⟨_,(ai (ax (i:=3) jk.nd rfl (Or.inl rfl) aF)
  (ai (ax (i:=4) jk.nd rfl (Or.inl rfl) (az (tK T) (hr.mono Qk) rfl T.m__law_value T.F__law_value.kp T.b__law_value .nil ao (a9 (ay c5 (ay iB (pq 0) ag) ag) (a9 (pq 2) ac))))
  (ai (ax (i:=5) jk.nd rfl (Or.inl rfl) (az (tK T) (hr.mono Qk) rfl T.m__law_value T.F__law_value.kp T.b__law_value .nil ao (a9 (ay c5 (ay iB (pq 0) ag) ag) (a9 (pq 2) ac))))
  (aq (aH (aK (a9 aF (a9 (pq 1) (a9 (pq 4) (a9 (ap ui (pq 3) (az (gI T) (hr.mono Qk) rfl T.m__law_pick T.F__law_pick.kp T.b__law_pick .nil ao (a9 (pq 0) (a9 ag (a9 ag (a9 ag ac))))) (fun _ _=>rfl)) (a9 (pq 5) ac))))))))))),?_⟩
 have a0:0<=c * 40692 % 40009:=Int.emod_nonneg _ Qk
 have a1:c * 40692 % 40009<40009:=Int.emod_lt_of_pos _ Qk
 have b0:0<=c * 30323 % 60013:=Int.emod_nonneg _ Qk
 have b1:c * 30323 % 60013<60013:=Int.emod_lt_of_pos _ Qk
 refine⟨_,rfl,_,_,rfl,rfl,IntMulOk.of_right (intBits_le_64 Qk Qk),_,_,rfl,rfl,Qk,_,rfl,_,l,zs,rfl,⟨a0,Qo⟩,hl,z6,?_⟩
 refine⟨_,rfl,_,_,rfl,rfl,IntMulOk.of_right (intBits_le_64 Qk Qk),_,_,rfl,rfl,Qk,_,rfl,_,l,zs,rfl,⟨b0,Qo⟩,hl,z6,?_⟩
 refine⟨_,rfl,_,rfl,_,rfl,_,rfl,_,_,_,_,rfl,cb,⟨Qk,Qk⟩,⟨Qk,Qk⟩,⟨Qk,Qk⟩,?_⟩
 obtain⟨ch,ec,hc⟩:=y8 (pkN c 16807 50021 9) (eF Qk) (eI Qk)
 refine⟨_,_,ch,rfl,rfl,Qd,ec,_,rfl,ln5,fun p hp=>?_⟩
 unfold gj at q
 rw[<- hc]at q
 exact q p _ hp fun H' h=>.set h
theorem AE (T:Tx P w K mg a):aC P w K mg base CX0 3 a._law_simple a.fd__law_simple ["_law_cell","_law_x","_law_q","_law_names_here","_law_hidden"] pX:=by
 refine T.F__law_simple.ok sf (fun vs H Q E h=>?_) (fun cdv A outer s H vs Q E hr h=>?_)
 ·obtain⟨_,_,_,_,_,_,rfl,_⟩:=h
  rfl
 obtain⟨c,x,qs,l,zs,hid,rfl,cb,hl,z6,q⟩:=h
 refine⟨_,(ai (ax (i:=5) sf.nd rfl (Or.inl rfl) (az (gI T) (hr.mono Qk) rfl T.m__law_pick T.F__law_pick.kp T.b__law_pick .nil ao (a9 (pq 0) (a9 ag (a9 ag (a9 ag ac))))))
  (ai (aY (aJ bC (pq 5) ag (aP _)) (aq (aH (aK (a9 aF (a9 (pq 1) ac))))) bD)
  (ai (aY (PW.pt (fu (aJ bC (pq 5) ag (aP _)) (ip (jy (gE (pq 4)))))) (aq (aH (aK (a9 aF (a9 (pq 2) (a9 (pq 1) ac)))))) bD)
  (ai (aY (PW.pt (fu (aJ bC (pq 5) ag (aP _)) (ip (jy (gE (pq 4)))))) (aq (aH (aK (a9 aF (a9 (pq 2) (a9 (pq 1) ac)))))) bD)
  (aq (aH (az (AF T) (hr.mono Qk) rfl T.m__law_set T.F__law_set.kp T.b__law_set .nil ao (a9 (pq 0) (a9 (pq 1) (a9 (pq 3) ac)))))))))),?_⟩
 refine⟨_,rfl,_,_,_,_,rfl,cb,⟨Qk,Qk⟩,⟨Qk,Qk⟩,⟨Qk,Qk⟩,?_⟩
 unfold eu at q
 generalize pkN c 48271 10007 12=k at q ⊢
 refine⟨_,rfl,rfl,_,rfl,?_⟩
 by_cases k3:k=3
 ·refine bY (by simp[k3]) ?_
  rw[Q0 k3]at q
  exact⟨_,rfl,ln2,fun p hp=>q p _ hp fun H' h=>.give h⟩
 refine bi (by simp[k3]) ?_
 rw[qZ k3]at q
 refine⟨_,rfl,rfl,_,rfl,?_⟩
 have go:¬ (k=4/\hid=false)->¬ (k=5/\hid=false)->kh H (gj c x zs) Q:=fun h4 h5=>by
  rw[qZ h4,qZ h5]at q
  exact q
 have set':∀{E':XK},kh H (gj c x zs) Q->kF [.int c,.str x,.ref l] H Q E':=fun h=>⟨c,x,l,zs,rfl,cb,hl,z6,h⟩
 by_cases k4:k=4
 ·refine bY (by simp[k4]) ?_
  cases hid with
  |false=>
   rw[Q0 ⟨k4,rfl⟩]at q
   exact⟨_,rfl,_,rfl,bY rfl ⟨_,rfl,_,rfl,ln3,fun p hp=>q p _ hp fun H' h=>.put h⟩⟩
  |true=>
   refine⟨_,rfl,_,rfl,bi rfl ?_⟩
   refine⟨_,rfl,rfl,_,rfl,bi (by simp[k4]) ?_⟩
   exact⟨_,rfl,_,rfl,_,rfl,set' (go (by simp) (by simp))⟩
 refine bi (by simp[k4]) ?_
 refine⟨_,rfl,rfl,_,rfl,?_⟩
 by_cases k5:k=5
 ·refine bY (by simp[k5]) ?_
  cases hid with
  |false=>
   rw[qZ (fun h=>k4 h.1),Q0 ⟨k5,rfl⟩]at q
   exact⟨_,rfl,_,rfl,bY rfl ⟨_,rfl,_,rfl,ln3,fun p hp=>q p _ hp fun H' h=>.get h⟩⟩
  |true=>
   refine⟨_,rfl,_,rfl,bi rfl ?_⟩
   exact⟨_,rfl,_,rfl,_,rfl,set' (go (by simp) (by simp))⟩
 refine bi (by simp[k5]) ?_
 exact⟨_,rfl,_,rfl,_,rfl,set' (go (fun h=>k4 h.1) fun h=>k5 h.1)⟩
theorem rT {A' B':TS}{D:eh}{σ:St}{H:Hp}(Pv:St->Hp->Prop) (hb:∀σ' H',Pv σ' H'->B' D σ' H') (ha:∀N:St->Hp->Prop,(∀σ' H',Pv σ' H'->N σ' H')->A' { D with nx:=N } σ H):oY A' B' D σ H:=ha _ hb
theorem jE {zs:List Str}{i:Int}(h0:0<=i) (h1:i.toNat<zs.length):atI (zs.map V.str) i=some (.str (zs.getD i.toNat (">":Str))):=w8 h0 (by rw[qD,qb h1,qi,qb h1];rfl)
theorem AK (T:Tx P w K mg a):aC P w K mg base CX0 4 a._law_body a.fd__law_body ["_law_cells","_law_names_here","_law_stores"] rA:=by
 refine T.F__law_body.ok cT (fun vs H Q E h=>?_) (fun cdv A outer s H vs Q E hr h=>?_)
 ·obtain⟨_,_,_,_,_,_,rfl,_⟩:=h
  rfl
 obtain⟨lc,ln,lr,cells,zs,ss,rfl,hc,c79,cb,hn,hs,z6,s2l,q⟩:=h
 refine⟨_,(ai (ax (i:=3) cT.nd rfl (Or.inl rfl) (aL ac))
  (ai (ax (i:=4) cT.nd rfl (Or.inl rfl) (aL (a9 (pq 3) ac)))
  (ai (ax (i:=5) cT.nd rfl (Or.inl rfl) (aL (a9 aF ac)))
  (ai (ax (i:=6) cT.nd rfl (Or.inl rfl) (aL (a9 (aL ac) ac)))
  (ai (cj PassesOwn.never rfl (bQ (pq 0)) (bf (i:=7) cT.nd rfl (Or.inl rfl))
  (ai (ax (i:=8) cT.nd rfl (Or.inl rfl) (az (gI T) (hr.mono Qk) rfl T.m__law_pick T.F__law_pick.kp T.b__law_pick .nil ao (a9 (pq 7) (a9 ag (a9 ag (a9 ag ac))))))
  (ai (ax (i:=9) cT.nd rfl (Or.inl rfl) (ap bF (pq 1) (az (gI T) (hr.mono Qk) rfl T.m__law_pick T.F__law_pick.kp T.b__law_pick .nil ao (a9 (pq 7) (a9 ag (a9 ag (a9 ag ac))))) (fun _ _=>rfl)))
  (ai (ax (i:=10) cT.nd rfl (Or.inl rfl) (ap bF (pq 2) (az (gI T) (hr.mono Qk) rfl T.m__law_pick T.F__law_pick.kp T.b__law_pick .nil ao (a9 (pq 7) (a9 ag (a9 ag (a9 ag ac))))) (fun _ _=>rfl)))
  (ai (ax (i:=11) cT.nd rfl (Or.inl rfl) (sV (mG fE aF (pq 5) (by with_unfolding_all rfl)) (sV (mG fE aF (pq 5) (by with_unfolding_all rfl)) (sW (mG fE aF (pq 5) (by with_unfolding_all rfl))))))
  (aq (aY (PW.pt (fu (aJ jw (pq 8) ag (aP _)) (fu (aJ eD (pq 8) ag (aP _)) (ip (aJ eD (bp bM rfl T.z_len PySem.boot_len (a9 (pq 4) ac)) ag (aP _)))))) (ai (ax (i:=12) cT.nd rfl (Or.inl rfl) (aL ac))
  (ai (ax (i:=13) cT.nd rfl (Or.inl rfl) (aL ac))
  (ai (aY (aJ bC (pq 8) ag (aP _)) (aq (aO (bV qf qu qv dh (ap bF (pq 4) (dB dy ag) (fun _ _=>rfl)) (a9 (aK (a9 aF (a9 (pq 9) (a9 (pq 12) (a9 (pq 13) ac))))) ac)))) (aq (aY (aJ bC (pq 8) ag (aP _)) (aq (aO (bV qf qu qv dh (ap bF (pq 4) (dB dy ag) (fun _ _=>rfl)) (a9 (aK (a9 aF (a9 (pq 9) (a9 (pq 12) ac)))) ac)))) (aq (aO (bV qf qu qv dh (ap bF (pq 4) (dB dy ag) (fun _ _=>rfl)) (a9 (aK (a9 aF (a9 (az (gI T) (hr.mono Qk) rfl T.m__law_pick T.F__law_pick.kp T.b__law_pick .nil ao (a9 (pq 7) (a9 ag (a9 ag (a9 ag ac))))) (a9 (pq 12) ac)))) ac)))))))
  (ai (aO (bV qf qu qv dh (pq 4) (a9 (pq 12) ac)))
  (ai (aO (bV qf qu qv dh (pq 6) (a9 (pq 13) ac)))
  (aq (aO (bV qf qu qv dh (pq 5) (a9 (ap bF (aL (tq rfl)) (ay ma (pq 8) ag) (fun _ _=>rfl)) ac))))))))) (aq (aY (PW.pt (fu (aJ jw (pq 8) ag (aP _)) (fu (aJ eD (pq 8) ag (aP _)) (ip (aJ jw (bp bM rfl T.z_len PySem.boot_len (a9 (pq 4) ac)) ag (aP _)))))) (ai (aO (mI qf PySem.F.slot_list_pop PySem.F.type_list_pop mY (pq 4)))
  (ai (aO (mI qf PySem.F.slot_list_pop PySem.F.type_list_pop mY (pq 5)))
  (aq (aO (mI qf PySem.F.slot_list_pop PySem.F.type_list_pop mY (pq 6)))))) (aq (aY (PW.pt (fu (aJ bC (pq 8) ag (aP _)) (ip (aJ bC (ap bF (pq 5) (dB dy ag) (fun _ _=>rfl)) aF (aP _))))) (ai (mC (ap bF (pq 6) (dB dy ag) (fun _ _=>rfl)) (mE (pq 4) (dB dy ag) kJ))
  (aq (mC aF (mE (pq 5) (dB dy ag) kJ)))) (aq (aO (bV qf qu qv dh (ap bF (pq 4) (dB dy ag) (fun _ _=>rfl)) (a9 (az (AE T) (hr.mono Qk) rfl T.m__law_simple T.F__law_simple.kp T.b__law_simple .nil ao (a9 (pq 7) (a9 (pq 9) (a9 (pq 10) (a9 (pq 1) (a9 (pq 11) ac)))))) ac)))))))))))))))
  (aq (aH (pq 3)))))))),?_⟩
 refine⟨qr _,fun b hb=>⟨_,rfl,ln1,fun s0 hs0=>⟨ln1,fun s1 hs1=>⟨qr _,fun e0 he0=>⟨ln1,fun s2 hs2=>?_⟩⟩⟩⟩⟩
 have n0b:s0≠b:=fun z=>by rw[z,ae]at hs0;cases hs0
 have hs1':=bB hs1
 have n10:s1≠s0:=fun z=>by rw[z,ae]at hs1;cases hs1
 have n1b:s1≠b:=fun z=>by rw[z,ae]at hs1';cases hs1'
 have he1:=bB he0
 have he2:=bB he1
 have hs2':=bB hs2
 have hs2'':=bB hs2'
 have hs2''':=bB hs2''
 have n21:s2≠s1:=fun z=>by rw[z,ae]at hs2';cases hs2'
 have n20:s2≠s0:=fun z=>by rw[z,ae]at hs2'';cases hs2''
 have n2b:s2≠b:=fun z=>by rw[z,ae]at hs2''';cases hs2'''
 have ne1:e0≠s1:=fun z=>by rw[z,ae]at he0;cases he0
 have ne0:e0≠s0:=fun z=>by rw[z,ae]at he1;cases he1
 have neb:e0≠b:=fun z=>by rw[z,ae]at he2;cases he2
 have e1:=((((aa.new hb (.lst [])).trans (aa.new hs0 (.lst [.ref b]))).trans (aa.new hs1 (.lst [.str ""]))).trans (aa.new he0 (.lst []))).trans (aa.new hs2 (.lst [.ref e0]))
 have k0:upd (upd (upd (upd (upd H b (.lst [])) s0 (.lst [.ref b])) s1 (.lst [.str ""])) e0 (.lst [])) s2 (.lst [.ref e0]) s0=some (.lst [.ref b]):=by rw[aj n20.symm,aj ne0.symm,aj n10.symm];exact ae
 have k1:upd (upd (upd (upd (upd H b (.lst [])) s0 (.lst [.ref b])) s1 (.lst [.str ""])) e0 (.lst [])) s2 (.lst [.ref e0]) s1=some (.lst [.str ""]):=by rw[aj n21.symm,aj ne1.symm];exact ae
 have k2:upd (upd (upd (upd (upd H b (.lst [])) s0 (.lst [.ref b])) s1 (.lst [.str ""])) e0 (.lst [])) s2 (.lst [.ref e0]) s2=some (.lst [.ref e0]):=ae
 have kb:upd (upd (upd (upd (upd H b (.lst [])) s0 (.lst [.ref b])) s1 (.lst [.str ""])) e0 (.lst [])) s2 (.lst [.ref e0]) b=some (.lst []):=by rw[aj n2b.symm,aj neb.symm,aj n1b.symm,aj n0b.symm];exact ae
 generalize upd (upd (upd (upd (upd H b (.lst [])) s0 (.lst [.ref b])) s1 (.lst [.str ""])) e0 (.lst [])) s2 (.lst [.ref e0])=H1 at e1 k0 k1 k2 kb ⊢
 have G0:GN H H H1 s0 s1 s2 [⟨⟨.root,[],false,0⟩,b,0,0⟩] [.ref e0]:=by
  refine⟨ZC.begin rfl rfl ?_ kb (fun m hm=>?_) e1 (jM k0 k1 k2),k0,k1,k2,.cons (fun y e=>by cases e) .nil⟩
  ·simp only[List.cons_append,List.nil_append,List.nodup_cons,qt,qQ,or_false,not_or]
   exact⟨⟨n10.symm,n20.symm,n0b⟩,⟨n21.symm,n1b⟩,n2b,by simp,List.nodup_nil⟩
  ·simp only[List.cons_append,List.nil_append,qt,qQ,or_false]at hm
   rcases hm with rfl|rfl|rfl|rfl
   ·exact bB hs0
   ·exact bB hs1'
   ·exact bB hs2'''
   ·exact hb
 refine⟨_,rfl,lc,rfl,⟨_,SqL.of (e1 _ _ hc)⟩,?_⟩
 refine db (K:=K) (a:=lc) (xs:=cells.map V.int) (fun i σ H3=>∃H0 z os v7 v8 v9 v10 v11 v12 v13,σ=[some (.ref lc),some (.ref ln),some (.ref lr),some (.ref b),some (.ref s0),some (.ref s1),some (.ref s2),v7,v8,v9,v10,v11,v12,v13]/\GN H H0 H3 s0 s1 s2 z os/\z.map (·.f)=(cells.take i).foldl (cJ zs ss) cR/\hE z=b) ⟨H,_,_,_,_,_,_,_,_,_,rfl,G0,rfl,rfl⟩ ?_ ?_ ?_
 ·rintro i σ H3 _ ⟨_,_,_,_,_,_,_,_,_,_,_,G,_⟩
  exact SqL.of (G.zc.hbH _ _ hc)
 ·rintro i x σ H3 hx ⟨H0,z,os,v7,v8,v9,v10,v11,v12,v13,rfl,G,hz,hbt⟩
  rw[qD]at hx
  obtain⟨c,hci,rfl⟩:=qP.mp hx
  have il:=(qe.mp hci).1
  have bits:=cb c (qy hci)
  obtain⟨x,r,vs,rfl,hxc,hrd⟩:=G.zc.top
  obtain⟨ok1,ok2,ok3⟩:=kB (ss:=ss) z6 s2l (cells.take i) cR ⟨rfl,.nil,by simp[aw]⟩ (by simp[cR])
  have nxt:(cells.take (i+1)).foldl (cJ zs ss) cR=cJ zs ss (x.f::r.map (·.f)) c:=by rw[qq,hci,Option.toList,List.foldl_append,<- hz];rfl
  generalize (cells.take (i+1)).foldl (cJ zs ss) cR=st' at nxt ⊢
  rw[<- hz]at ok1 ok2 ok3
  have rl:r.length<=5:=by
   simp at ok2
   omega
  have rml:(r.map (·.f)).length=r.length:=q5 _
  have vl:vs.length<=200:=by
   have:=wW (f:=x.f) (r:=r.map (·.f))
   have e1:cnt cR=0:=by simp[cR,cnt,ah,Op.extra,Op.one]
   rw[hrd.len]
   simp only[qR,qJ]at ok3
   omega
  clear hz ok1 ok2 ok3
  have hn3:=G.zc.hbH _ _ hn
  have hs3:=G.zc.hbH _ _ hs
  refine⟨_,rfl,_,_,_,_,rfl,bits,⟨Qk,Qk⟩,⟨Qk,Qk⟩,⟨Qk,Qk⟩,?_⟩
  have x0:=eF (c:=c) (f:=69621) (p:=20011) (m:=6) Qk
  have x1:=eI (c:=c) (f:=69621) (p:=20011) (m:=6) Qk
  have q0:=eF (c:=c) (f:=39373) (p:=30011) (m:=2) Qk
  have q1:=eI (c:=c) (f:=39373) (p:=30011) (m:=2) Qk
  refine⟨_,rfl,_,rfl,_,_,_,_,rfl,bits,⟨Qk,Qk⟩,⟨Qk,Qk⟩,⟨Qk,Qk⟩,ln,_,_,_,rfl,rfl,SqL.of hn3,jE x0 Qo,?_⟩
  refine⟨_,rfl,_,rfl,_,_,_,_,rfl,bits,⟨Qk,Qk⟩,⟨Qk,Qk⟩,⟨Qk,Qk⟩,lr,_,_,_,rfl,rfl,SqL.of hs3,jE q0 Qo,?_⟩
  unfold cJ at nxt
  dsimp only at nxt
  rw[rml]at nxt
  have exN:zs.getD (pkN c 69621 20011 6).toNat (">":Str)=xN c zs:=rfl
  have eqN:ss.getD (pkN c 39373 30011 2).toNat (">":Str)=qN c ss:=rfl
  rw[exN,eqN]
  generalize hxn:xN c zs=xn at nxt ⊢
  generalize hqn:qN c ss=qn at nxt ⊢
  have k0:=eF (c:=c) (f:=48271) (p:=10007) (m:=12) Qk
  have k1:=eI (c:=c) (f:=48271) (p:=10007) (m:=12) Qk
  have flt:((((x::r).map fun x=>V.str (kdN x.f.op)).reverse).all dS)=true:=by
   rw[List.all_reverse,List.all_map,List.all_eq_true]
   exact fun _ _=>rfl
  have hh:=C4 (st:=(x::r).map (·.f))
  rw[List.map_map]at hh
  have hh:(inV (.str "if") (((x::r).map fun x=>V.str (kdN x.f.op)).reverse) || (inV (.str "else") (((x::r).map fun x=>V.str (kdN x.f.op)).reverse) || inV (.str "while") (((x::r).map fun x=>V.str (kdN x.f.op)).reverse)))=eW (x.f::r.map (·.f)):=hh
  dsimp only[iI]
  refine rT (fun σ H4=>H4=H3/\σ=[some (.ref lc),some (.ref ln),some (.ref lr),some (.ref b),some (.ref s0),some (.ref s1),some (.ref s2),some (.int c),some (.int (pkN c 48271 10007 12)),some (.str xn),some (.str qn),some (.bl (eW (x.f::r.map (·.f)))),v12,v13]) ?_ ?_
  ·rintro σ H4 ⟨e4,rfl⟩
   have e4:=e4.symm
   subst e4
   generalize eW (x.f::r.map (·.f))=hid at nxt hh ⊢
   clear hh
   refine⟨_,rfl,_,_,rfl,rfl,_,rfl,?_⟩
   have l0:((((x::r).map fun x=>V.ref x.c).reverse).length:Int)=(r.length:Int)+1:=by simp
   refine nF (Pc:=¬ (5<pkN c 48271 10007 12/\pkN c 48271 10007 12<9/\r.length<5)) (fun cc z=>cc (decide_eq_true z.1)) ?_ fun cc go=>?_
   ·intro n1
    refine jP ?_
    rw[qZ n1]at nxt
    refine⟨_,rfl,_,_,rfl,rfl,_,rfl,?_⟩
    refine nF (Pc:=¬ (8<pkN c 48271 10007 12/\pkN c 48271 10007 12<11/\0<r.length)) (fun cc z=>cc (decide_eq_true z.1)) ?_ fun cc go=>?_
    ·intro n2
     refine jP ?_
     rw[qZ n2]at nxt
     refine⟨_,rfl,rfl,_,rfl,?_⟩
     refine nF (Pc:=¬ (pkN c 48271 10007 12=11/\kdN x.f.op="if")) (fun cc z=>cc (decide_eq_true (by rw[z.1]))) ?_ fun cc go=>?_
     ·intro n3
      refine jP ?_
      rw[qZ n3]at nxt
      refine⟨_,rfl,_,rfl,s0,_,_,_,rfl,rfl,SqL.of G.c0,iF,.inl ⟨rfl,_,SqL.of hxc⟩,_,rfl,_,rfl,_,rfl,_,rfl,_,rfl,c,xn,qn,ln,zs,hid,rfl,bits,hn3,z6,fun p5 xs hp5 hd=>?_⟩
      have e5:=aa.new hp5 (.tup xs)
      refine⟨x.c,_,_,rfl,rfl,e5 _ _ hxc,aX (m:=1000) Qo,?_⟩
      exact⟨_,_,os,_,_,_,_,_,_,_,rfl,(G.same e5).push (e5 _ _ hxc) ae (aa.none G.zc.h0 hp5) (hd _ ae),by rw[nxt];rfl,by rw[<- hbt];exact vQ rfl⟩
     ·refine⟨_,rfl,_,rfl,s1,_,_,_,rfl,rfl,SqL.of G.c1,iF,rfl,_,rfl,?_⟩
      refine gW (fun c2=>?_) (fun c2=>by have h:=go fun z=>c2 (by rw[z.2];decide +kernel);exact h)
      have kif:kdN x.f.op="if":=xJ c2
      have k11:pkN c 48271 10007 12=11:=BY cc
      rw[Q0 ⟨k11,kif⟩]at nxt
      obtain⟨y,q1⟩:=uh kif
      obtain⟨n01,n02,n12⟩:=G.ss
      obtain⟨v,os',rfl⟩:∃v os',os=v::os':=by
       have:=G.ro.len
       match os,this with
       |v::os',_=>exact⟨v,os',rfl⟩
      have ve:v=.ref x.e:=by
       match G.ro with
       |.cons h _=>exact h y q1
      subst ve
      have c2':H3 s2=some (.lst (os'.reverse++[.ref x.e])):=by rw[G.c2,List.reverse_cons]
      have c0':H3 s0=some (.lst ((r.map fun x=>V.ref x.c).reverse++[.ref x.c])):=by rw[G.c0,qR,List.reverse_cons]
      refine⟨_,rfl,_,rfl,s2,_,_,_,rfl,rfl,SqL.of c2',ud,_,rfl,_,rfl,s0,_,_,_,rfl,rfl,c0',uj,?_⟩
      rw[show((r.map fun x=>V.ref x.c).reverse++[V.ref x.c]).set ((r.map fun x=>V.ref x.c).reverse).length (.ref x.e)=(r.map fun x=>V.ref x.c).reverse++[.ref x.e]by rw[List.set_append_right _ _ (qd _),Nat.sub_self];rfl]
      have c1':upd H3 s0 (.lst ((r.map fun x=>V.ref x.c).reverse++[.ref x.e])) s1=some (.lst ((r.map fun x=>V.str (kdN x.f.op)).reverse++[.str (kdN x.f.op)])):=by rw[aj n01.symm,G.c1,qR,List.reverse_cons]
      refine⟨_,rfl,_,rfl,s1,_,_,_,rfl,rfl,c1',uj,?_⟩
      rw[show((r.map fun x=>V.str (kdN x.f.op)).reverse++[V.str (kdN x.f.op)]).set ((r.map fun x=>V.str (kdN x.f.op)).reverse).length (.str "else")=(r.map fun x=>V.str (kdN x.f.op)).reverse++[.str "else"]by rw[List.set_append_right _ _ (qd _),Nat.sub_self];rfl]
      refine⟨_,_,_,_,_,_,_,_,_,_,rfl,G.elsed q1 hxc (fun b u h1 h2 h=>by rw[aj h2,aj h1];exact h) (by rw[aj n01];exact ae) ae,?_,?_⟩
      ·rw[nxt]
       unfold Op.els
       rw[q1]
       rfl
      ·cases r with
       |nil=>
        obtain⟨_,_,h4⟩:=G.zc.zr
        rcases h4 with⟨h,_⟩|⟨_,_,h⟩
        ·rw[q1]at h;cases h
        ·exact h.elim
       |cons g r=>exact hbt
    ·refine⟨_,rfl,_,_,rfl,rfl,_,rfl,?_⟩
     refine gW (fun c2=>?_) (fun c2=>by have h:=go fun z=>c2 (decide_eq_true z.2.1);exact h)
     refine⟨_,rfl,s0,_,rfl,.inl (SqL.of G.c0),_,_,rfl,rfl,_,rfl,?_⟩
     rw[l0]
     refine gW (fun c3=>?_) (fun c3=>by have h:=go fun z=>c3 (decide_eq_true (by have:=z.2.2;omega));exact h)
     have r0:0<r.length:=by
      have:=of_decide_eq_true c3
      omega
     rw[Q0 ⟨of_decide_eq_true cc,of_decide_eq_true c2,r0⟩]at nxt
     cases r with
     |nil=>exact absurd r0 (by simp)
     |cons g r=>
     obtain⟨n01,n02,n12⟩:=G.ss
     obtain⟨v,os',rfl⟩:∃v os',os=v::os':=by
      have:=G.ro.len
      match os,this with
      |v::os',_=>exact⟨v,os',rfl⟩
     refine⟨_,rfl,.inl ⟨rfl,_,SqL.of G.c0⟩,s0,_,_,rfl,rfl,G.c0,uc,?_⟩
     rw[vt]
     generalize hA:upd H3 s0 (.lst (((g::r).map fun x=>V.ref x.c).reverse))=A1
     have a0:A1 s0=some (.lst (((g::r).map fun x=>V.ref x.c).reverse)):=by rw[<- hA];exact ae
     have a1:A1 s1=some (.lst (((x::g::r).map fun x=>V.str (kdN x.f.op)).reverse)):=by rw[<- hA,aj n01.symm];exact G.c1
     have a2:A1 s2=some (.lst (os'.reverse++[v])):=by rw[<- hA,aj n02.symm,G.c2,List.reverse_cons]
     refine⟨_,rfl,.inl ⟨rfl,_,SqL.of a1⟩,s1,_,_,rfl,rfl,a1,uc,?_⟩
     rw[vt]
     generalize hB:upd A1 s1 (.lst (((g::r).map fun x=>V.str (kdN x.f.op)).reverse))=A2
     have b0:A2 s0=some (.lst (((g::r).map fun x=>V.ref x.c).reverse)):=by rw[<- hB,aj n01];exact a0
     have b1:A2 s1=some (.lst (((g::r).map fun x=>V.str (kdN x.f.op)).reverse)):=by rw[<- hB];exact ae
     have b2:A2 s2=some (.lst (os'.reverse++[v])):=by rw[<- hB,aj n12.symm];exact a2
     refine⟨_,rfl,.inl ⟨rfl,_,SqL.of b2⟩,s2,_,_,rfl,rfl,b2,by rw[qa,List.length_singleton,Nat.add_sub_cancel,qK (qd _),Nat.sub_self];rfl,?_⟩
     rw[List.dropLast_concat]
     obtain⟨H0',G'⟩:=G.closed (H':=upd A2 s2 (.lst os'.reverse)) (fun b u h1 h2 h3 h=>by rw[aj h3,<- hB,aj h2,<- hA,aj h1];exact h) (by rw[aj n02];exact b0) (by rw[aj n12];exact b1) ae
     exact⟨H0',_,os',_,_,_,_,_,_,_,rfl,G',by rw[nxt];rfl,by rw[<- hbt];exact vQ rfl⟩
   ·refine⟨_,rfl,_,_,rfl,rfl,_,rfl,?_⟩
    refine gW (fun c2=>?_) (fun c2=>by have h:=go fun z=>c2 (decide_eq_true z.2.1);exact h)
    refine⟨_,rfl,s0,_,rfl,.inl (SqL.of G.c0),_,_,rfl,rfl,_,rfl,?_⟩
    rw[l0]
    refine gW (fun c3=>?_) (fun c3=>by have h:=go fun z=>c3 (decide_eq_true (by have:=z.2.2;omega));exact h)
    have r5:r.length<5:=by
     have:=of_decide_eq_true c3
     omega
    have k5:=of_decide_eq_true cc
    have k9:=of_decide_eq_true c2
    rw[Q0 ⟨k5,k9,r5⟩]at nxt
    refine⟨qr _,fun ci hci=>?_⟩
    refine⟨qr _,fun eo heo=>?_⟩
    have e5:=(aa.new hci (.lst [])).trans (aa.new heo (.lst []))
    have nec:eo≠ci:=fun z=>by rw[z,ae]at heo;cases heo
    have heo':=bB heo
    have hc5:upd (upd H3 ci (.lst [])) eo (.lst []) ci=some (.lst []):=aa.new heo _ _ _ ae
    have he5:upd (upd H3 ci (.lst [])) eo (.lst []) eo=some (.lst []):=ae
    have G5:=G.same e5
    have hx5:=e5 _ _ hxc
    generalize upd (upd H3 ci (.lst [])) eo (.lst [])=H5 at e5 hc5 he5 G5 hx5 ⊢
    have nf:∀d,H3 d=none->H0 d=none/\d∉[s0,s1,s2]++(x::r).flatMap Fz.muts:=fun d hd=>⟨aa.none G.zc.h0 hd,fun hm=>by
     obtain⟨ws,hw⟩:=G.zc.lsts d hm
     rw[hd]at hw
     cases hw⟩
    obtain⟨n01,n02,n12⟩:=G.ss
    obtain⟨x0',x1',x2'⟩:=G.ne (dP (x:=x) (r:=r))
    dsimp only[iI]
    refine rT (fun σ H6=>σ=[some (.ref lc),some (.ref ln),some (.ref lr),some (.ref b),some (.ref s0),some (.ref s1),some (.ref s2),some (.int c),some (.int (pkN c 48271 10007 12)),some (.str xn),some (.str qn),some (.bl hid),some (.ref ci),some (.ref eo)]/\∃p,H5 p=none/\H6=upd (upd H5 p (.tup (⟨⟨opN c xn,[],false,0⟩,ci,p,eo⟩:Fz).tupV)) x.c (.lst (vs++[.ref p]))) ?_ ?_
    ·rintro σ H6 ⟨rfl,p,np,rfl⟩
     have e6:=aa.new np (.tup (⟨⟨opN c xn,[],false,0⟩,ci,p,eo⟩:Fz).tupV)
     have G6:=G5.same e6
     have hx6:=e6 _ _ hx5
     have hp6:upd H5 p (.tup (⟨⟨opN c xn,[],false,0⟩,ci,p,eo⟩:Fz).tupV) p=_:=ae
     have hc6:=e6 _ _ hc5
     have he6:=e6 _ _ he5
     generalize upd H5 p (.tup (⟨⟨opN c xn,[],false,0⟩,ci,p,eo⟩:Fz).tupV)=H6 at e6 G6 hx6 hp6 hc6 he6 ⊢
     have G7:=G6.opened (op:=opN c xn) (c:=ci) (p:=p) (e:=eo) hx6 (nf _ hci) (nf _ heo') nec he6 hc6 hp6 (tD (zs:=[xn]) (by simp)).2.1 (fun n t h=>by
      unfold opN at h
      split at h
      ·cases h
      ·split at h<;>cases h)
     have a0:upd H6 x.c (.lst (vs++[.ref p])) s0=some (.lst (((x::r).map fun x=>V.ref x.c).reverse)):=by rw[aj x0'.symm];exact G6.c0
     have a1:upd H6 x.c (.lst (vs++[.ref p])) s1=some (.lst (((x::r).map fun x=>V.str (kdN x.f.op)).reverse)):=by rw[aj x1'.symm];exact G6.c1
     have a2:upd H6 x.c (.lst (vs++[.ref p])) s2=some (.lst os.reverse):=by rw[aj x2'.symm];exact G6.c2
     generalize upd H6 x.c (.lst (vs++[.ref p]))=A1 at a0 a1 a2 G7 ⊢
     have rlen:∀{β:Type}(f:Fz->β),(((x::r).map f).reverse).length<sizeLine:=fun f=>by
      rw[List.length_reverse,q5]
      exact nj (by rw[qz];omega)
     have olen:os.reverse.length<sizeLine:=by
      have:=G.ro.len
      rw[List.length_reverse,this]
      exact nj (by rw[qz];omega)
     refine⟨_,rfl,.inl ⟨rfl,_,SqL.of a0⟩,_,rfl,s0,_,_,rfl,rfl,a0,rlen _,?_⟩
     have b1:upd A1 s0 (.lst (((x::r).map fun x=>V.ref x.c).reverse++[.ref ci])) s1=_:=(aj n01.symm).trans a1
     have b2:upd A1 s0 (.lst (((x::r).map fun x=>V.ref x.c).reverse++[.ref ci])) s2=_:=(aj n02.symm).trans a2
     generalize upd A1 s0 (.lst (((x::r).map fun x=>V.ref x.c).reverse++[.ref ci]))=A2 at b1 b2 G7 ⊢
     refine⟨_,rfl,.inl ⟨rfl,_,SqL.of b2⟩,_,rfl,s2,_,_,rfl,rfl,b2,olen,?_⟩
     have d1:upd A2 s2 (.lst (os.reverse++[.ref eo])) s1=_:=(aj n12).trans b1
     generalize upd A2 s2 (.lst (os.reverse++[.ref eo]))=A3 at d1 G7 ⊢
     refine⟨_,rfl,.inl ⟨rfl,_,SqL.of d1⟩,ln3,fun l8 hl8=>?_⟩
     have e8:=aa.new hl8 (.lst [.str "if",.str "while",.str "repeat"])
     have kd:atI [V.str "if",V.str "while",V.str "repeat"] (pkN c 48271 10007 12-6)=some (.str (kdN (opN c xn))):=by
      have:pkN c 48271 10007 12=6\/pkN c 48271 10007 12=7\/pkN c 48271 10007 12=8:=Qo
      unfold opN
      rcases this with h|h|h
      ·rw[h];exact hV
      ·rw[h];exact Du
      ·rw[h];exact wa
     refine⟨_,rfl,_,_,rfl,rfl,l8,_,_,_,rfl,rfl,SqL.of ae,kd,s1,_,_,rfl,rfl,e8 _ _ d1,rlen _,?_⟩
     have n8:l8≠s1:=fun z=>by rw[z,d1]at hl8;cases hl8
     have cm:upd (upd A3 l8 (.lst [.str "if",.str "while",.str "repeat"])) s1 (.lst (((x::r).map fun x=>V.str (kdN x.f.op)).reverse++[.str (kdN (opN c xn))]))=upd (upd A3 s1 (.lst (((x::r).map fun x=>V.str (kdN x.f.op)).reverse++[.str (kdN (opN c xn))]))) l8 (.lst [.str "if",.str "while",.str "repeat"]):=by
      funext d
      by_cases h1:d=s1
      ·subst h1
       rw[ae,aj n8.symm,ae]
      ·rw[aj h1]
       by_cases h2:d=l8
       ·subst h2
        rw[ae,ae]
       ·rw[aj h2,aj h2,aj h1]
     rw[cm]
     exact⟨_,_,_,_,_,_,_,_,_,_,rfl,G7.same (aa.new (by rw[aj n8];exact hl8) _),by rw[nxt];rfl,hbt⟩
    ·intro N hN
     have x6:H5 s0=some _:=G5.c0
     refine⟨_,rfl,rfl,_,rfl,?_⟩
     by_cases k6:pkN c 48271 10007 12=6
     ·refine bY (by simp[k6]) ?_
      have eo':opN c xn=.ifT xn:=by unfold opN;rw[Q0 k6]
      refine⟨_,rfl,_,rfl,s0,_,_,_,rfl,rfl,SqL.of x6,iF,.inl ⟨rfl,_,SqL.of hx5⟩,_,rfl,_,rfl,_,rfl,ln4,fun p hp=>⟨x.c,_,_,rfl,rfl,aa.new hp _ _ _ hx5,aX (m:=1000) Qo,hN _ _ ⟨rfl,p,hp,?_⟩⟩⟩
      rw[eo']
      rfl
     ·refine bi (by simp[k6]) ?_
      refine⟨_,rfl,rfl,_,rfl,?_⟩
      by_cases k7:pkN c 48271 10007 12=7
      ·refine bY (by simp[k7]) ?_
       have eo':opN c xn=.whl xn:=by unfold opN;rw[qZ k6,Q0 k7]
       refine⟨_,rfl,_,rfl,s0,_,_,_,rfl,rfl,SqL.of x6,iF,.inl ⟨rfl,_,SqL.of hx5⟩,_,rfl,_,rfl,ln3,fun p hp=>⟨x.c,_,_,rfl,rfl,aa.new hp _ _ _ hx5,aX (m:=1000) Qo,hN _ _ ⟨rfl,p,hp,?_⟩⟩⟩
       rw[eo']
       rfl
      ·refine bi (by simp[k7]) ?_
       have eo':opN c xn=.rep (pkN c 16807 70001 100):=by unfold opN;rw[qZ k6,qZ k7]
       refine⟨_,rfl,_,rfl,s0,_,_,_,rfl,rfl,SqL.of x6,iF,.inl ⟨rfl,_,SqL.of hx5⟩,_,rfl,_,_,_,_,rfl,bits,⟨Qk,Qk⟩,⟨Qk,Qk⟩,⟨Qk,Qk⟩,_,rfl,ln3,fun p hp=>⟨x.c,_,_,rfl,rfl,aa.new hp _ _ _ hx5,aX (m:=1000) Qo,hN _ _ ⟨rfl,p,hp,?_⟩⟩⟩
       rw[eo']
       rfl
  ·intro N hN
   refine⟨_,rfl,s1,_,rfl,.inl (SqL.of G.c1),rfl,flt,_,rfl,?_⟩
   rcases Bool.eq_false_or_eq_true (inV (.str "if") (((x::r).map fun x=>V.str (kdN x.f.op)).reverse))with h1|h1
   ·exact bY h1 (hN _ _ ⟨rfl,by rw[<- hh,h1];rfl⟩)
   refine bi h1 ?_
   refine⟨_,rfl,s1,_,rfl,.inl (SqL.of G.c1),rfl,flt,_,rfl,?_⟩
   rcases Bool.eq_false_or_eq_true (inV (.str "else") (((x::r).map fun x=>V.str (kdN x.f.op)).reverse))with h2|h2
   ·exact bY h2 (hN _ _ ⟨rfl,by rw[<- hh,h1,h2];rfl⟩)
   refine bi h2 ?_
   refine⟨_,rfl,s1,_,rfl,.inl (SqL.of G.c1),rfl,flt,hN _ _ ⟨rfl,by rw[<- hh,h1,h2];rfl⟩⟩
 ·rintro σ H3 ⟨H0,z,os,v7,v8,v9,v10,v11,v12,v13,rfl,G,hz,hbt⟩
  rw[q5,qG]at hz
  refine⟨_,rfl,q H3 b G.zc.hbH hb ?_⟩
  have:=G.zc.whole
  rw[hz,hbt]at this
  exact this
theorem CV (xs:List Int) (lo hi:Nat) (h:lo<=hi):cA (xs.map V.int) (some (lo:Int)) (some (hi:Int))=((xs.drop lo).take (hi-lo)).map V.int:=by
 unfold cA
 rw[HT.sIx_nat,HT.sIx_nat,q5,<- List.map_drop,<- List.map_take]
 congr 1
 by_cases h1:lo<=xs.length
 ·rw[Nat.min_eq_left h1]
  by_cases h2:hi<=xs.length
  ·rw[Nat.min_eq_left h2]
  ·rw[Nat.min_eq_right Qo,List.take_of_length_le (by rw[qY];exact qd _),List.take_of_length_le (by rw[qY];omega)]
 ·rw[List.drop_of_length_le (by omega:xs.length<=lo),List.drop_of_length_le (show xs.length<=min lo xs.length by omega),List.take_nil,List.take_nil]
theorem CU (xs:List Int) (hi:Nat):cA (xs.map V.int) none (some (hi:Int))=(xs.take hi).map V.int:=by
 unfold cA
 rw[HT.sIx_none,HT.sIx_nat,q5,List.drop_zero,Nat.sub_zero,<- List.map_take]
 congr 1
 by_cases h2:hi<=xs.length
 ·rw[Nat.min_eq_left h2]
 ·rw[Nat.min_eq_right Qo,List.take_of_length_le (qd _),List.take_of_length_le Qo]
theorem Dy (c:Int):(akN c).Nodup/\(akN c).length<=6/\∀x∈akN c,x∈nmN c:=by
 obtain⟨z6,znd,_⟩:=iC c
 have m0:0<=c / 7 % 7:=Int.emod_nonneg _ Qk
 have m1:c / 7 % 7<7:=Int.emod_lt_of_pos _ Qk
 have lt:∀k:Nat,((c / 5+5 * (k:Int)) % 6).toNat<(nmN c).length:=fun k=>Qo
 unfold akN
 refine⟨?_,by rw[q5,List.length_range];omega,fun x hx=>?_⟩
 ·refine List.nodup_iff_pairwise_ne.mpr ?_
  rw[List.pairwise_map]
  refine List.Pairwise.imp_of_mem (R:=fun a b:Nat=>a≠b) (fun{x y} hx hy h e=>?_) (List.nodup_iff_pairwise_ne.mp List.nodup_range)
  have hx:=List.mem_range.mp hx
  have hy:=List.mem_range.mp hy
  have l1:=lt x
  have l2:=lt y
  rw[qi,qi,qb l1,qb l2]at e
  have e:(nmN c)[((c / 5+5 * (x:Int)) % 6).toNat]=(nmN c)[((c / 5+5 * (y:Int)) % 6).toNat]:=e
  have i1:=znd.idxOf_getElem _ l1
  have i2:=znd.idxOf_getElem _ l2
  rw[e,i2]at i1
  omega
 ·obtain⟨k,_,rfl⟩:=List.mem_map.mp hx
  exact gX (lt k)
theorem AG (T:Tx P w K mg a):aC P w K mg base CX0 1 a._law_numbers a.fd__law_numbers ["_law_script"] (ra K):=by
 refine T.F__law_numbers.ok yw (fun vs H Q E h=>?_) (fun cdv A outer s H vs Q E hr h=>?_)
 ·obtain⟨_,_,rfl,_⟩:=h
  rfl
 obtain⟨sa,ns,rfl,hS,l63,q⟩:=h
 refine⟨_,(aq (aH (cW (k:=1) (Nc:=["_law_cell"]) (js:=[]) (show bn (aB jr) ["_law_script"] _ 1 ["_law_cell"] []from bn.mk rfl (by decide +kernel) (by decide +kernel) (by decide +kernel) rfl (by decide +kernel)) rfl (bQ (gH rN (pq 0) iu (fB ag))) (fun _ _ _ _ _=>(bf (i:=0) (show List.Nodup (["_law_cell"]:List Str)from by decide +kernel) rfl (Or.inl rfl))) (fun _ _ _ _ _=>dM) (fun _ _ _ _ _=>(ay ma (ay c5 (pq 0) (ay iA ag ag)) (ay iA ag ag)))))),?_⟩
 have p31:(0:Int)<(10:Int) ^ (31:Int).toNat:=Qd
 refine⟨_,rfl,_,rfl,sa,_,rfl,hS,fun l5 hl5=>?_⟩
 rw[show cA (ns.map V.int) none (some 7)=(ns.take 7).map V.int from CU ns 7]
 have e5:=aa.new hl5 (.lst ((ns.take 7).map V.int))
 have l5':upd H l5 (.lst ((ns.take 7).map V.int)) l5=some (.lst ((ns.take 7).map V.int)):=ae
 generalize upd H l5 (.lst ((ns.take 7).map V.int))=H5 at e5 l5' ⊢
 refine⟨l5,rfl,⟨_,SqL.of l5'⟩,?_⟩
 refine iP (K:=K) (a:=l5) (xs:=(ns.take 7).map V.int) (fun i ys σ H6=>(∃v,σ=[v])/\H6=H5/\ys=(((ns.take 7).take i).map fun n=>n % 10000000000000000000000000000000-1000000000000000000000000000000).map V.int) ⟨⟨_,rfl⟩,rfl,rfl⟩ ?_ (aX (m:=100) (by rw[q5,qJ];omega)) ?_ ?_ ?_
 ·rintro i ys σ H6 _ ⟨_,_,rfl⟩
  rw[q5,q5,qJ]
  omega
 ·rintro i ys σ H6 ⟨_,rfl,_⟩
  exact SqL.of l5'
 ·rintro i x ys σ H6 hx ⟨⟨v,rfl⟩,rfl,rfl⟩
  rw[qD]at hx
  obtain⟨n,hn,rfl⟩:=qP.mp hx
  refine⟨_,rfl,_,_,rfl,rfl,⟨Qk,Qk,Qk⟩,_,_,rfl,rfl,p31,_,_,rfl,rfl,⟨Qk,Qk,Qk⟩,_,_,rfl,rfl,⟨_,rfl⟩,rfl,?_⟩
  rw[qq (i:=i),hn,qO,qO,p30,show(10:Int) ^ (31:Int).toNat=10000000000000000000000000000000 by decide +kernel]
  rfl
 rintro ys σ H6 ⟨_,rfl,rfl⟩ ln hln
 rw[q5,qG]
 exact q _ ln (e5.trans (aa.new hln _)) (aa.none e5 hln) ae
theorem tL (T:Tx P w K mg a):aC P w K mg base CX0 5 a._law_program a.fd__law_program ["_law_script"] (pY K):=by
 refine T.F__law_program.ok gu (fun vs H Q E h=>?_) (fun cdv A outer s H vs Q E hr h=>?_)
 ·obtain⟨_,_,rfl,_⟩:=h
  rfl
 obtain⟨sa,ns,rfl,hS,l63,hbits,q⟩:=h
 refine⟨_,(ai (ax (i:=1) gu.nd rfl (Or.inr rfl) (ay c5 (ap bF (ay cg (pq 0) (aL (a9 ag ac))) ag (fun _ _=>rfl)) (ay iA ag ag)))
  (ai (ax (i:=2) gu.nd rfl (Or.inr rfl) (az (AH T) (hr.mono Qk) rfl T.m__law_names T.F__law_names.kp T.b__law_names .nil ao (a9 (pq 1) ac)))
  (ai (zy (i:=3) gu.nd rfl (Or.inl rfl) (k:=1) (Nc:=["_law_k","_law_names_here","_law_cell"]) (js:=[2,1]) (show bn (aB jq) ["_law_script","_law_cell","_law_names_here","_law_asks","_law_stores","_law_body_here"] _ 1 ["_law_k","_law_names_here","_law_cell"] [2,1]from bn.mk rfl (by decide +kernel) (by decide +kernel) (by decide +kernel) rfl (by decide +kernel)) rfl (jB rfl T.z_range (a9 (ay c5 (ay eE (pq 1) ag) ag) ac)) (fun _ _ _ _ _=>(bf (i:=0) (show List.Nodup (["_law_k","_law_names_here","_law_cell"]:List Str)from by decide +kernel) rfl (Or.inl rfl))) (fun _ _ _ _ _=>dM) (fun _ _ _ _ _=>(ap (sv (K:=K) rfl) (pq 1) (ay c5 (ay ft (ay eE (pq 2) ag) (ay iB ag (pq 0))) ag) (fun _ _=>rfl))))
  (ai (ax (i:=4) gu.nd rfl (Or.inl rfl) (aL (a9 (aK (a9 (ap bF (pq 2) ag (fun _ _=>rfl)) (a9 (ay ft ag (ay c5 (ay eE (pq 1) ag) ag)) ac))) (a9 (aK (a9 aF (a9 (ay ft ag (ay c5 (ay eE (pq 1) ag) ag)) ac))) ac))))
  (ai (ax (i:=5) gu.nd rfl (Or.inl rfl) (az (AK T) (hr.mono Qk) rfl T.m__law_body T.F__law_body.kp T.b__law_body .nil ao (a9 (gH rN (pq 0) (fB ag) (fB ag)) (a9 (pq 2) (a9 (aL (a9 (ap bF (pq 2) ag (fun _ _=>rfl)) (a9 aF ac))) ac)))))
  (aq (aH (aK (a9 (pq 3) (a9 (pq 4) (a9 (pq 5) ac))))))))))),?_⟩
 refine⟨_,rfl,ln1,fun l0 h0=>⟨sa,l0,_,_,rfl,rfl,(aa.new h0 _).seq hS,SqL.of ae,aX (m:=100) (by rw[q5];show _+1<=100;omega),fun l1 h1=>?_⟩⟩
 have hc0:atI (ns.map V.int++[V.int 0]) 0=some (.int (ns.headD 0)):=by
  cases ns with
  |nil=>exact hV
  |cons x r=>exact hV
 refine⟨l1,_,0,_,rfl,rfl,SqL.of ae,hc0,_,_,rfl,rfl,⟨Qk,Qk,Qk⟩,_,_,rfl,rfl,Qk,?_⟩
 have s1:=(aa.new h0 (.lst [.int 0])).trans (aa.new h1 (.lst (ns.map V.int++[V.int 0])))
 generalize upd (upd H l0 (.lst [.int 0])) l1 (.lst (ns.map V.int++[V.int 0]))=H1 at s1 ⊢
 rw[show(10:Int) ^ (9:Int).toNat=1000000000 by decide +kernel]
 have c1:0<=ns.headD 0 % 1000000000:=Int.emod_nonneg _ Qk
 have c2:ns.headD 0 % 1000000000<1000000000:=Int.emod_lt_of_pos _ Qk
 have ec:cN ns=ns.headD 0 % 1000000000:=rfl
 unfold bdN at q
 rw[ec]at q
 generalize ns.headD 0 % 1000000000=c at c1 c2 q ⊢
 obtain⟨z6,znd,zok⟩:=iC c
 refine⟨_,rfl,c,rfl,⟨c1,c2⟩,fun H2 lz s2 nlz hlz=>?_⟩
 have eak:akN c=(List.range (c / 7 % 7).toNat).map fun k:Nat=>(nmN c).getD ((c / 5+5 * (k:Int)) % 6).toNat (">":Str):=rfl
 have ess:ssN c=[((nmN c).getD 1 (">":Str),1+c / 11 % 2000),(("w":Str),1+c / 13 % 3)]:=rfl
 generalize nmN c=zs at *
 have s12:=s1.trans s2
 have m0:0<=c / 7 % 7:=Int.emod_nonneg _ Qk
 have m1:c / 7 % 7<7:=Int.emod_lt_of_pos _ Qk
 refine⟨_,rfl,_,_,rfl,rfl,⟨Qk,Qk⟩,_,_,rfl,rfl,Qk,_,rfl,Qo,Qo,?_⟩
 refine jX (fun i ys σ H3=>(∃v,σ=[v,some (.ref lz),some (.int c)])/\H3=H2/\ys=((List.range i).map fun k:Nat=>zs.getD ((c / 5+5 * (k:Int)) % 6).toNat (">":Str)).map V.str) ⟨⟨_,rfl⟩,rfl,rfl⟩ ?_ (aX (m:=10) Qo) ?_ ?_
 ·rintro i ys σ H3 _ ⟨_,_,rfl⟩
  rw[q5,q5,List.length_range]
  exact qd _
 ·rintro i ys σ H3 hi ⟨⟨v,rfl⟩,rfl,rfl⟩
  have lt:((c / 5+5 * (i:Int)) % 6).toNat<zs.length:=Qo
  refine⟨_,rfl,_,rfl,_,_,rfl,rfl,⟨Qk,Qk⟩,_,rfl,_,_,rfl,rfl,IntMulOk.of_left (intBits_le_64 Qk Qk),_,_,rfl,rfl,_,_,rfl,rfl,Qk,lz,_,_,_,rfl,rfl,SqL.of hlz,jE Qo lt,⟨_,rfl⟩,rfl,?_⟩
  rw[List.range_succ,qO,qO]
  rfl
 rintro ys σ H3 ⟨_,rfl,rfl⟩ la hla
 rw[<- eak]
 have e3:=aa.new hla (.lst ((akN c).map V.str))
 have la3:upd H3 la (.lst ((akN c).map V.str)) la=some (.lst ((akN c).map V.str)):=ae
 have s3:=s12.trans e3
 have lz3:=e3 _ _ hlz
 generalize upd H3 la (.lst ((akN c).map V.str))=H4 at e3 la3 s3 lz3 ⊢
 have at1:atI (zs.map V.str) 1=some (.str (zs.getD 1 (">":Str))):=jE (i:=1) Qk (by show 1<_;omega)
 refine⟨_,rfl,lz,_,1,_,rfl,rfl,SqL.of lz3,at1,_,rfl,_,_,rfl,rfl,⟨Qk,Qk⟩,_,_,rfl,rfl,Qk,_,_,rfl,rfl,ln2,fun t5 ht5=>?_⟩
 refine⟨_,rfl,_,_,rfl,rfl,⟨Qk,Qk⟩,_,_,rfl,rfl,Qk,_,_,rfl,rfl,ln2,fun t6 ht6=>⟨ln2,fun l7 hl7=>?_⟩⟩
 have e5:=aa.new ht5 (.tup [.str (zs.getD 1 (">":Str)),.int (1+c / 11 % 2000)])
 have e6:=aa.new ht6 (.tup [.str "w",.int (1+c / 13 % 3)])
 have e7:=aa.new hl7 (.lst [.ref t5,.ref t6])
 have s47:=e5.trans (e6.trans e7)
 have g5:=e7 _ _ (e6 _ _ (ae (H:=H4) (a:=t5) (o:=.tup [.str (zs.getD 1 (">":Str)),.int (1+c / 11 % 2000)])))
 have g6:=e7 _ _ (ae (H:=upd H4 t5 (.tup [.str (zs.getD 1 (">":Str)),.int (1+c / 11 % 2000)])) (a:=t6) (o:=.tup [.str "w",.int (1+c / 13 % 3)]))
 have g7:upd (upd (upd H4 t5 (.tup [.str (zs.getD 1 (">":Str)),.int (1+c / 11 % 2000)])) t6 (.tup [.str "w",.int (1+c / 13 % 3)])) l7 (.lst [.ref t5,.ref t6]) l7=_:=ae
 generalize upd (upd (upd H4 t5 (.tup [.str (zs.getD 1 (">":Str)),.int (1+c / 11 % 2000)])) t6 (.tup [.str "w",.int (1+c / 13 % 3)])) l7 (.lst [.ref t5,.ref t6])=H7 at s47 g5 g6 g7 ⊢
 clear e5 e6 e7
 have s7:=s3.trans s47
 have lz7:=s47 _ _ lz3
 refine⟨_,rfl,_,rfl,_,rfl,sa,_,rfl,s7.seq hS,fun l8 hl8=>?_⟩
 rw[show cA (ns.map V.int) (some 1) (some 80)=(c8 ns).map V.int from CV ns 1 80 (by decide)]
 have e8:=aa.new hl8 (.lst ((c8 ns).map V.int))
 have l8':upd H7 l8 (.lst ((c8 ns).map V.int)) l8=some (.lst ((c8 ns).map V.int)):=ae
 generalize upd H7 l8 (.lst ((c8 ns).map V.int))=H8 at e8 l8' ⊢
 have lz8:=e8 _ _ lz7
 refine⟨_,rfl,_,rfl,lz,_,1,_,rfl,rfl,SqL.of lz8,at1,ln2,fun l9 hl9=>?_⟩
 have e9:=aa.new hl9 (.lst [.str (zs.getD 1 (">":Str)),.str "w"])
 have l9':upd H8 l9 (.lst [.str (zs.getD 1 (">":Str)),.str "w"]) l9=some (.lst ([zs.getD 1 (">":Str),("w":Str)].map V.str)):=ae
 have cel:(c8 ns).length<=79:=by unfold c8;rw[qJ];omega
 have celb:∀n∈c8 ns,Builtin.Int.intBits n<=2 ^ 20:=fun n hn=>hbits n (List.mem_of_mem_drop (List.mem_of_mem_take hn))
 refine⟨l8,lz,l9,c8 ns,zs,_,rfl,e9 _ _ l8',cel,celb,e9 _ _ lz8,l9',z6,rfl,fun H10 b s10 nb rb=>?_⟩
 have s710:=(e8.trans e9).trans s10
 refine⟨_,rfl,_,rfl,_,rfl,ln3,fun p hp=>?_⟩
 have e11:=aa.new hp (.tup [.ref la,.ref l7,.ref b])
 have s11:=s710.trans e11
 refine q _ p la l7 b [.ref t5,.ref t6] (s7.trans s11) (aa.none (s7.trans s710) hp) ⟨ae,s11 _ _ (s47 _ _ la3),s11 _ _ g7,?_,RL.same e11 rb⟩
 rw[ess]
 exact .cons (s11 _ _ g5) (.cons (s11 _ _ g6) .nil)
theorem AI (T:Tx P w K mg a):∀n:Nat,aC P w K mg base CX0 (n+1) a._law_flat a.fd__law_flat ["_law_block"] (rm n):=by
 intro n
 induction n with
 |zero=>
  refine T.F__law_flat.ok gw (fun vs H Q E h=>?_) (fun cdv A outer s H vs Q E hr h=>?_)
  ·obtain⟨_,_,_,rfl,_⟩:=h
   rfl
  ·obtain⟨_,_,_,_,_,_,h0,_⟩:=h
   exact absurd h0 (Nat.not_lt_zero _)
 |succ n ih=>
  refine T.F__law_flat.ok gw (fun vs H Q E h=>?_) (fun cdv A outer s H vs Q E hr h=>?_)
  ·obtain⟨_,_,_,rfl,_⟩:=h
   rfl
  obtain⟨H0,b,ds,rfl,e0,hb,hdp,hfl,k⟩:=h
  refine⟨_,(ai (ax (i:=1) gw.nd rfl (Or.inl rfl) (aL ac))
   (ai (cj PassesOwn.never rfl (bQ (pq 0)) (bf (i:=2) gw.nd rfl (Or.inl rfl))
   (ai (aO (bV qf qu qv dh (pq 1) (a9 (pq 2) ac)))
   (aq (aY (aJ bC (ap ar (pq 2) ag (fun _ _=>rfl)) aF (aP _)) (aq (ax (i:=1) gw.nd rfl (Or.inl rfl) (ay cg (ay cg (pq 1) (az ih (hr.mono Qo) rfl T.m__law_flat T.F__law_flat.kp T.b__law_flat .nil ao (a9 (ap ar (pq 2) ag (fun _ _=>rfl)) ac))) (az ih (hr.mono Qo) rfl T.m__law_flat T.F__law_flat.kp T.b__law_flat .nil ao (a9 (ap ar (pq 2) ag (fun _ _=>rfl)) ac))))) (aq (aY (aJ fE (ap ar (pq 2) ag (fun _ _=>rfl)) (aL (a9 aF (a9 aF ac))) (by with_unfolding_all rfl)) (aq (ax (i:=1) gw.nd rfl (Or.inl rfl) (ay cg (pq 1) (az ih (hr.mono Qo) rfl T.m__law_flat T.F__law_flat.kp T.b__law_flat .nil ao (a9 (ap ar (pq 2) ag (fun _ _=>rfl)) ac))))) bD))))))
   (aq (aH (pq 1))))),?_⟩
  obtain⟨hb1,hds⟩:=hb
  rename_i vs
  refine⟨qr _,fun f0 hf0=>?_⟩
  refine⟨_,rfl,b,rfl,⟨_,SqL.of ((aa.new hf0 _) _ _ (e0 _ _ hb1))⟩,?_⟩
  refine db (K:=K) (a:=b) (xs:=vs) (fun i σ H2=>∃f us v2,σ=[some (.ref b),some (.ref f),v2]/\aa H H2/\H f=none/\H2 f=some (.lst us)/\RDs H0 us (ah (ds.take i))) ⟨f0,[],_,rfl,aa.new hf0 _,hf0,ae,.nil⟩ ?_ ?_ ?_
  ·rintro i σ H2 _ ⟨f,us,v2,_,s2,_⟩
   exact SqL.of (s2 _ _ (e0 _ _ hb1))
  ·rintro i x σ H2 hx ⟨f,us,v2,rfl,s2,nf,hf2,hus⟩
   obtain⟨d,hd,hrd⟩:=hds.at i x hx
   have all:ah (ds.take (i+1))=ah (ds.take i)++([d]++d.inner.flatMap ah):=uW hd
   have lall:(ah (ds.take (i+1))).length<=1000:=qx nR hfl
   rw[all]at lall
   simp only[qa,List.length_singleton]at lall
   have ul:=hus.len
   refine⟨_,rfl,.inl ⟨rfl,_,SqL.of hf2⟩,_,rfl,f,_,_,rfl,rfl,hf2,aX (m:=1001) Qo,?_⟩
   have s3:aa H (upd H2 f (.lst (us++[x]))):=aa.over s2 nf
   have f3:upd H2 f (.lst (us++[x])) f=some (.lst (us++[x])):=ae
   have r3:RDs H0 (us++[x]) (ah (ds.take i)++[d]):=hus.app (.cons hrd .nil)
   generalize upd H2 f (.lst (us++[x]))=H3 at s3 f3 ⊢
   have s03:=e0.trans s3
   have dd:=o6 hd
   have one:∀v,d.inner=[]->∃f us v2,[some (V.ref b),some (.ref f),v]=[some (.ref b),some (.ref f),v2]/\aa H H3/\H f=none/\H3 f=some (.lst us)/\RDs H0 us (ah (ds.take (i+1))):=fun v h=>⟨f,_,v,rfl,s3,nf,f3,by rw[all,h];simpa using r3⟩
   cases hrd with
   |cond h h1 h2=>
    rename_i t t1 t2 xn ts os
    have ht:=s03 _ _ h
    have il:(ah ts).length+(ah os).length<=1000:=by simp[a8.inner]at lall;omega
    have d1:aw ts<n:=by have:=iG (d:=.cond xn ts os) (j:=0) (b:=ts) rfl;omega
    have d2:aw os<n:=by have:=iG (d:=.cond xn ts os) (j:=1) (b:=os) rfl;omega
    refine⟨_,rfl,t,_,0,_,rfl,rfl,SqT.of ht,rfl,rfl,_,rfl,?_⟩
    walk_at "yes"
    refine⟨_,rfl,_,rfl,t,_,2,_,rfl,rfl,SqT.of ht,rfl,H0,t1,ts,rfl,s03,h1,d1,Qo,fun H4 l4 us4 s4 n4 h4 r4=>?_⟩
    refine⟨f,l4,_,_,rfl,rfl,SqL.of (s4 _ _ f3),SqL.of h4,aX (m:=10000) (by rw[qa,r4.len];show _+1+_<=_;omega),fun l5 hl5=>?_⟩
    have e5:=aa.new hl5 (.lst (us++[.ref t]++us4))
    have s45:=s4.trans e5
    have l5':upd H4 l5 (.lst (us++[.ref t]++us4)) l5=some (.lst (us++[.ref t]++us4)):=ae
    generalize upd H4 l5 (.lst (us++[.ref t]++us4))=H5 at e5 s45 l5' ⊢
    have s05:=s03.trans s45
    refine⟨_,rfl,t,_,3,_,rfl,rfl,SqT.of (s45 _ _ ht),rfl,H0,t2,os,rfl,s05,h2,d2,Qo,fun H6 l6 us6 s6 n6 h6 r6=>?_⟩
    refine⟨l5,l6,_,_,rfl,rfl,SqL.of (s6 _ _ l5'),SqL.of h6,aX (m:=10000) (by rw[qa,qa,r4.len,r6.len];show _+1+_+_<=_;omega),fun l7 hl7=>?_⟩
    have s37:=(s45.trans s6).trans (aa.new hl7 (.lst (us++[.ref t]++us4++us6)))
    refine⟨l7,_,_,rfl,s3.trans s37,aa.none (s3.trans (s45.trans s6)) hl7,ae,?_⟩
    rw[all]
    have:=(r3.app r4).app r6
    simpa[a8.inner,qM]using this
   |whl h h1=>
    rename_i t t1 xn bs
    have ht:=s03 _ _ h
    have il:(ah bs).length<=1000:=by simp[a8.inner]at lall;omega
    have d1:aw bs<n:=by have:=iG (d:=.whl xn bs) (j:=0) (b:=bs) rfl;omega
    refine⟨_,rfl,t,_,0,_,rfl,rfl,SqT.of ht,rfl,rfl,_,rfl,?_⟩
    walk_at "no"
    refine⟨_,rfl,t,_,0,_,rfl,rfl,SqT.of ht,rfl,ln2,fun l3 hl3=>?_⟩
    have e3:=aa.new hl3 (.lst [.str "while",.str "repeat"])
    refine⟨l3,_,rfl,.inl (SqL.of ae),rfl,rfl,_,rfl,?_⟩
    walk_at "yes"
    have s3':=s3.trans e3
    have f3':=e3 _ _ f3
    have ht':=e3 _ _ ht
    generalize upd H3 l3 (.lst [.str "while",.str "repeat"])=G3 at e3 s3' f3' ht' ⊢
    refine⟨_,rfl,_,rfl,t,_,2,_,rfl,rfl,SqT.of ht',rfl,H0,t1,bs,rfl,e0.trans s3',h1,d1,Qo,fun H4 l4 us4 s4 n4 h4 r4=>?_⟩
    refine⟨f,l4,_,_,rfl,rfl,SqL.of (s4 _ _ f3'),SqL.of h4,aX (m:=10000) (by rw[qa,r4.len];show _+1+_<=_;omega),fun l7 hl7=>?_⟩
    refine⟨l7,_,_,rfl,(s3'.trans s4).trans (aa.new hl7 _),aa.none (s3'.trans s4) hl7,ae,?_⟩
    rw[all]
    have:=r3.app r4
    simpa[a8.inner,qM]using this
   |rep h h1=>
    rename_i t t1 kk bs
    have ht:=s03 _ _ h
    have il:(ah bs).length<=1000:=by simp[a8.inner]at lall;omega
    have d1:aw bs<n:=by have:=iG (d:=.rep kk bs) (j:=0) (b:=bs) rfl;omega
    refine⟨_,rfl,t,_,0,_,rfl,rfl,SqT.of ht,rfl,rfl,_,rfl,?_⟩
    walk_at "no"
    refine⟨_,rfl,t,_,0,_,rfl,rfl,SqT.of ht,rfl,ln2,fun l3 hl3=>?_⟩
    have e3:=aa.new hl3 (.lst [.str "while",.str "repeat"])
    refine⟨l3,_,rfl,.inl (SqL.of ae),rfl,rfl,_,rfl,?_⟩
    walk_at "yes"
    have s3':=s3.trans e3
    have f3':=e3 _ _ f3
    have ht':=e3 _ _ ht
    generalize upd H3 l3 (.lst [.str "while",.str "repeat"])=G3 at e3 s3' f3' ht' ⊢
    refine⟨_,rfl,_,rfl,t,_,2,_,rfl,rfl,SqT.of ht',rfl,H0,t1,bs,rfl,e0.trans s3',h1,d1,Qo,fun H4 l4 us4 s4 n4 h4 r4=>?_⟩
    refine⟨f,l4,_,_,rfl,rfl,SqL.of (s4 _ _ f3'),SqL.of h4,aX (m:=10000) (by rw[qa,r4.len];show _+1+_<=_;omega),fun l7 hl7=>?_⟩
    refine⟨l7,_,_,rfl,(s3'.trans s4).trans (aa.new hl7 _),aa.none (s3'.trans s4) hl7,ae,?_⟩
    rw[all]
    have:=r3.app r4
    simpa[a8.inner,qM]using this
   |set h=>
    have ht:=s03 _ _ h
    rename_i t _ _ _ _
    refine⟨_,rfl,t,_,0,_,rfl,rfl,SqT.of ht,rfl,rfl,_,rfl,?_⟩
    walk_at "no"
    refine⟨_,rfl,t,_,0,_,rfl,rfl,SqT.of ht,rfl,ln2,fun l3 hl3=>?_⟩
    have e3:=aa.new hl3 (.lst [.str "while",.str "repeat"])
    refine⟨l3,_,rfl,.inl (SqL.of ae),rfl,rfl,_,rfl,?_⟩
    walk_at "no"
    exact⟨f,_,_,rfl,s3.trans e3,nf,e3 _ _ f3,by rw[all];simpa[a8.inner]using r3⟩
   |put h=>
    have ht:=s03 _ _ h
    rename_i t _ _
    refine⟨_,rfl,t,_,0,_,rfl,rfl,SqT.of ht,rfl,rfl,_,rfl,?_⟩
    walk_at "no"
    refine⟨_,rfl,t,_,0,_,rfl,rfl,SqT.of ht,rfl,ln2,fun l3 hl3=>?_⟩
    have e3:=aa.new hl3 (.lst [.str "while",.str "repeat"])
    refine⟨l3,_,rfl,.inl (SqL.of ae),rfl,rfl,_,rfl,?_⟩
    walk_at "no"
    exact⟨f,_,_,rfl,s3.trans e3,nf,e3 _ _ f3,by rw[all];simpa[a8.inner]using r3⟩
   |get h=>
    have ht:=s03 _ _ h
    rename_i t _ _
    refine⟨_,rfl,t,_,0,_,rfl,rfl,SqT.of ht,rfl,rfl,_,rfl,?_⟩
    walk_at "no"
    refine⟨_,rfl,t,_,0,_,rfl,rfl,SqT.of ht,rfl,ln2,fun l3 hl3=>?_⟩
    have e3:=aa.new hl3 (.lst [.str "while",.str "repeat"])
    refine⟨l3,_,rfl,.inl (SqL.of ae),rfl,rfl,_,rfl,?_⟩
    walk_at "no"
    exact⟨f,_,_,rfl,s3.trans e3,nf,e3 _ _ f3,by rw[all];simpa[a8.inner]using r3⟩
   |give h=>
    have ht:=s03 _ _ h
    rename_i t _
    refine⟨_,rfl,t,_,0,_,rfl,rfl,SqT.of ht,rfl,rfl,_,rfl,?_⟩
    walk_at "no"
    refine⟨_,rfl,t,_,0,_,rfl,rfl,SqT.of ht,rfl,ln2,fun l3 hl3=>?_⟩
    have e3:=aa.new hl3 (.lst [.str "while",.str "repeat"])
    refine⟨l3,_,rfl,.inl (SqL.of ae),rfl,rfl,_,rfl,?_⟩
    walk_at "no"
    exact⟨f,_,_,rfl,s3.trans e3,nf,e3 _ _ f3,by rw[all];simpa[a8.inner]using r3⟩
  ·rintro σ H2 ⟨f,us,v2,rfl,s2,nf,hf2,hus⟩
   rw[hds.len,qG]at hus
   exact⟨_,rfl,k H2 f us s2 nf hf2 hus⟩
theorem Da {ak:List Str}{ss:List (Str×Int)}{ds:List a8}(st:∀d∈ah ds,∀q x,d=.put q x\/d=.get q x->q∈ss.map (·.1)) (k:Str):
 k∈cM ak ss ds↔k∈[(">":Str)]++ak++(ss.flatMap fun s=>[s.1++(">":Str),s.1++("<":Str)])++(ah ds).flatMap a8.names:=by
 unfold cM
 simp only[qg,qS]
 constructor
 ·rintro(((h|h)|h)|h)
  ·exact .inl (.inl (.inr h))
  ·obtain⟨d,hd,hk⟩:=List.mem_flatMap.mp h
   unfold a8.cards at hk
   rcases qg.mp hk with h'|h'
   ·exact .inr (List.mem_flatMap.mpr ⟨d,hd,h'⟩)
   ·cases d with
    |put q x=>
     simp[a8.others]at h'
     obtain⟨s,hs,e⟩:=List.mem_map.mp (st _ hd q x (.inl rfl))
     exact .inl (.inr (List.mem_flatMap.mpr ⟨s,hs,by rw[h',e];simp⟩))
    |get q x=>
     simp[a8.others]at h'
     obtain⟨s,hs,e⟩:=List.mem_map.mp (st _ hd q x (.inr rfl))
     exact .inl (.inr (List.mem_flatMap.mpr ⟨s,hs,by rw[h',e];simp⟩))
    |give x=>simp[a8.others]at h';exact .inl (.inl (.inl h'))
    |whl x b=>simp[a8.others]at h';exact .inl (.inl (.inl h'))
    |set x a sg b=>simp[a8.others]at h'
    |cond x t o=>simp[a8.others]at h'
    |rep n b=>simp[a8.others]at h'
  ·exact .inl (.inl (.inl h))
  ·exact .inl (.inr h)
 ·rintro(((h|h)|h)|h)
  ·exact .inl (.inr h)
  ·exact .inl (.inl (.inl h))
  ·exact .inr h
  ·obtain⟨d,hd,hk⟩:=List.mem_flatMap.mp h
   exact .inl (.inl (.inr (List.mem_flatMap.mpr ⟨d,hd,by unfold a8.cards;simp[hk]⟩)))
theorem ub:∀xs:List Int,PyData.canLayAll0 (xs.map PyData.int)=true/\PyData.depthAll (xs.map PyData.int)<=1
 |[]=>by simp[PyData.canLayAll0,PyData.depthAll]
 |x::r=>by
  obtain⟨h1,h2⟩:=ub r
  simp[PyData.canLayAll0,PyData.depthAll,PyData.canLay0,PyData.depth,h1]
  omega
theorem nH {K:W.Frag}{H:Hp}:∀xs:List Int,dr K H (xs.map V.int) (xs.map PyData.int)
 |[]=>.nil
 |x::r=>.cons (.int _) (nH r)
def crN (c:Int):List Str:=(">":Str)::nmN c++[(nmN c).getD 1 (">":Str)++(">":Str),(nmN c).getD 1 (">":Str)++("<":Str),("w>":Str),("w<":Str)]
theorem zA {H:Hp}{p la ls lb ln:Addr}{us:List V}{ns:List Int}(l63:ns.length<=63) (RP:RP H p (akN (cN ns)) (ssN (cN ns)) (bdN ns) la ls lb us) (hn:H ln=some (.lst ((ck ns).map V.int))):
 oF H p la ls lb ln (akN (cN ns)) (ssN (cN ns)) (ck ns) (bdN ns) us (crN (cN ns))/\∀d∈ah (bdN ns),∀q x,d=.put q x\/d=.get q x->q∈(ssN (cN ns)).map (·.1):=by
 obtain⟨z6,znd,zok⟩:=iC (cN ns)
 obtain⟨and,al,ain⟩:=Dy (cN ns)
 have ss2:[(nmN (cN ns)).getD 1 (">":Str),("w":Str)].length=2:=rfl
 obtain⟨bx,dp,fl⟩:=oj (ss:=[(nmN (cN ns)).getD 1 (">":Str),("w":Str)]) z6 ss2 (c8 ns)
 have bx:BlX (nmN (cN ns)) [(nmN (cN ns)).getD 1 (">":Str),("w":Str)] (bdN ns):=bx
 have dp:aw (bdN ns)<=12:=dp
 have fl:(ah (bdN ns)).length<=(c8 ns).length:=fl
 have cl:(c8 ns).length<=79:=by unfold c8;rw[qJ];omega
 have in1:(nmN (cN ns)).getD 1 (">":Str)∈nmN (cN ns):=gX Qo
 have st:∀d∈ah (bdN ns),∀q x,d=.put q x\/d=.get q x->q∈(ssN (cN ns)).map (·.1):=fun d hd q x h=>by
  have:=(bx d hd).1
  rcases h with rfl|rfl
  ·exact this.1
  ·exact this.1
 have nmc:∀d∈ah (bdN ns),∀x∈d.names,x∈nmN (cN ns):=fun d hd x hx=>by
  have h:=(bx d hd).1
  cases d with
  |set y va sg vb=>
   simp only[a8.names,qt,qg]at hx
   rcases hx with rfl|hx|hx
   ·exact h.1
   ·exact h.2.1.names _ hx
   ·exact h.2.2.names _ hx
  |put s y=>simp[a8.names]at hx;rw[hx];exact h.2
  |get s y=>simp[a8.names]at hx;rw[hx];exact h.2
  |give y=>simp[a8.names]at hx;rw[hx];exact h
  |cond y t o=>simp[a8.names]at hx;rw[hx];exact h
  |whl y b=>simp[a8.names]at hx;rw[hx];exact h
  |rep n b=>simp[a8.names]at hx
 refine⟨⟨RP,hn,dp,Qo,Qo,by show 2<=100;decide,by unfold ck;rw[q5,qJ];omega,fun k hk=>?_,by unfold crN;rw[qa,qz,z6];show 6+1+4<=20;decide,fun k hk=>?_,?_,fun s hs=>?_,fun d hd q x h=>?_⟩,st⟩
 ·have hk:=(Da st k).mp hk
  unfold crN
  simp only[qg,qt,qQ,or_false]at hk ⊢
  rcases hk with((h|h)|h)|h
  ·exact .inl (.inl h)
  ·exact .inl (.inr (ain k h))
  ·obtain⟨s,hs,h⟩:=List.mem_flatMap.mp h
   unfold ssN at hs
   simp only[qt,qQ,or_false]at hs h
   rcases hs with rfl|rfl
   ·rcases h with h|h
    ·exact .inr (.inl h)
    ·exact .inr (.inr (.inl h))
   ·rcases h with h|h
    ·exact .inr (.inr (.inr (.inl (h.trans (show("w":Str)++(">":Str)="w>" by decide +kernel)))))
    ·exact .inr (.inr (.inr (.inr (h.trans (show("w":Str)++("<":Str)="w<" by decide +kernel)))))
  ·obtain⟨d,hd,h⟩:=List.mem_flatMap.mp h
   exact .inl (.inr (nmc d hd k h))
 ·unfold crN at hk
  have l1:=(zok _ in1).1
  simp only[qg,qt,qQ,or_false]at hk
  rcases hk with(rfl|h)|rfl|rfl|rfl|rfl
  ·decide
  ·have:=(zok k h).1;omega
  ·rw[oz];show _+1<=1000;omega
  ·rw[oz];show _+1<=1000;omega
  ·decide
  ·decide
 ·have h1:=(zok _ in1).2.2
  unfold esN ssN
  simp only[qR,List.map_nil,List.cons_append,List.nil_append,List.nodup_cons,qt,qQ,or_false,not_or]
  exact⟨⟨h1.1,h1.2⟩,Qd,by simp,List.nodup_nil⟩
 ·unfold ssN at hs
  simp only[qt,qQ,or_false]at hs
  rcases hs with rfl|rfl
  ·have:=(zok _ in1).1
   show((nmN (cN ns)).getD 1 (">":Str)).length<=1000
   omega
  ·show(("w":Str)).length<=1000
   decide
 ·unfold esN
  exact qg.mpr (.inl (st d hd q x h))
theorem AD (T:Tx P w K mg a):aC P w K mg base CX0 1 a._law_whole a.fd__law_whole ["_law_found"] pU:=by
 refine T.F__law_whole.ok yt (fun vs H Q E h=>?_) (fun cdv A outer s H vs Q E hr h=>?_)
 ·obtain⟨_,rfl,_⟩:=h
  rfl
 obtain⟨n,rfl,q⟩:=h
 refine⟨_,(aq (aH (zU (bp ig rfl T.z_isinstance PyProof.Rows.Boot.«isinstance» (a9 (pq 0) (a9 (ix (v:=.ty "int") rfl T.z_int PyProof.Rows.Boot.«int» rfl) ac))) (sW (zL (bp ig rfl T.z_isinstance PyProof.Rows.Boot.«isinstance» (a9 (pq 0) (a9 (ix (v:=.ty "bool") rfl T.z_bool PyProof.Rows.Boot.«bool» rfl) ac)))))))),?_⟩
 exact⟨_,rfl,_,_,_,true,rfl,.int n,rfl,_,rfl,bY rfl ⟨_,rfl,_,_,_,false,rfl,.int n,rfl,_,rfl,q⟩⟩
theorem mQ (T:Tx P w K mg a):aC P w K mg base CX0 1 a._law_taken a.fd__law_taken ["_law_part"] pW:=by
 refine T.F__law_taken.ok yu (fun vs H Q E h=>?_) (fun cdv A outer s H vs Q E hr h=>?_)
 ·obtain⟨_,_,rfl,_⟩:=h
  rfl
 obtain⟨v,p,rfl,hp,so,q⟩:=h
 refine⟨_,(ai (aY (aJ bC (ap ar (pq 0) ag (fun _ _=>rfl)) aF (aP _)) (aq (aH (ay cg (ay cg (aL (a9 (ap ar (pq 0) ag (fun _ _=>rfl)) ac)) (bR gC rfl T.z_list PyProof.Rows.Boot.«list» (a9 (ap ar (pq 0) ag (fun _ _=>rfl)) ac))) (bR gC rfl T.z_list PyProof.Rows.Boot.«list» (a9 (ap ar (pq 0) ag (fun _ _=>rfl)) ac))))) bD)
  (aq (aH (bR gC rfl T.z_list PyProof.Rows.Boot.«list» (a9 (ap ar (pq 0) ag (fun _ _=>rfl)) ac))))),?_⟩
 cases p with
 |mrg t ons ofs outs=>
  obtain⟨u,o,f,r,rfl,hu,ho,hf,hr'⟩:=hp
  have lt:1+ons.length+ofs.length<=64:=by
   have h:=so.t
   have e:(PtG.mrg t ons ofs outs).tks=[t]++ons++ofs:=rfl
   rw[e,qa,qa]at h
   exact h
  refine⟨_,rfl,u,_,0,_,rfl,rfl,SqT.of hu,rfl,rfl,_,rfl,?_⟩
  walk_at "yes"
  refine⟨_,rfl,u,_,1,_,rfl,rfl,SqT.of hu,rfl,ln1,fun l1 hl1=>?_⟩
  have e1:=aa.new hl1 (.lst [.int t])
  have l1':upd H l1 (.lst [.int t]) l1=some (.lst [.int t]):=ae
  generalize upd H l1 (.lst [.int t])=H1 at e1 l1' ⊢
  refine⟨_,rfl,u,_,2,_,rfl,rfl,SqT.of (e1 _ _ hu),rfl,o,_,rfl,.inr (SqT.of (e1 _ _ ho)),fun l2 hl2=>?_⟩
  have e2:=aa.new hl2 (.lst (ons.map V.int))
  refine⟨l1,l2,_,_,rfl,rfl,SqL.of (e2 _ _ l1'),SqL.of ae,aX (m:=100) (by rw[q5];show 1+_<=_;omega),fun l3 hl3=>?_⟩
  have e3:=e2.trans (aa.new hl3 (.lst ([.int t]++ons.map V.int)))
  have l3':upd (upd H1 l2 (.lst (ons.map V.int))) l3 (.lst ([.int t]++ons.map V.int)) l3=some (.lst ([.int t]++ons.map V.int)):=ae
  generalize upd (upd H1 l2 (.lst (ons.map V.int))) l3 (.lst ([.int t]++ons.map V.int))=H3 at e3 l3' ⊢
  have e13:=e1.trans e3
  refine⟨_,rfl,u,_,3,_,rfl,rfl,SqT.of (e13 _ _ hu),rfl,f,_,rfl,.inr (SqT.of (e13 _ _ hf)),fun l4 hl4=>?_⟩
  have e4:=aa.new hl4 (.lst (ofs.map V.int))
  refine⟨l3,l4,_,_,rfl,rfl,SqL.of (e4 _ _ l3'),SqL.of ae,aX (m:=100) (by rw[qa,q5,q5];show 1+_+_<=_;omega),fun l5 hl5=>?_⟩
  have e15:=e13.trans e4
  refine q _ l5 (e15.trans (aa.new hl5 _)) (aa.none e15 hl5) ?_
  rw[ae]
  show _=some (HO.lst (([t]++ons++ofs).map V.int))
  rw[qO,qO]
  rfl
 |pas is os rt=>
  obtain⟨u,i,o,r,rfl,hu,hi,_⟩:=hp
  refine⟨_,rfl,u,_,0,_,rfl,rfl,SqT.of hu,rfl,rfl,_,rfl,?_⟩
  walk_at "no"
  exact⟨_,rfl,u,_,1,_,rfl,rfl,SqT.of hu,rfl,i,_,rfl,.inr (SqT.of hi),fun l hl=>q _ l (aa.new hl _) hl ae⟩
 |wrk is o sg l r=>
  obtain⟨u,i,x,y,rfl,hu,hi,_⟩:=hp
  refine⟨_,rfl,u,_,0,_,rfl,rfl,SqT.of hu,rfl,rfl,_,rfl,?_⟩
  walk_at "no"
  exact⟨_,rfl,u,_,1,_,rfl,rfl,SqT.of hu,rfl,i,_,rfl,.inr (SqT.of hi),fun l hl=>q _ l (aa.new hl _) hl ae⟩
 |cho is wh ons ofs t=>
  obtain⟨u,i,o,f,rfl,hu,hi,_⟩:=hp
  refine⟨_,rfl,u,_,0,_,rfl,rfl,SqT.of hu,rfl,rfl,_,rfl,?_⟩
  walk_at "no"
  exact⟨_,rfl,u,_,1,_,rfl,rfl,SqT.of hu,rfl,i,_,rfl,.inr (SqT.of hi),fun l hl=>q _ l (aa.new hl _) hl ae⟩
theorem uz:cZ [] [((.inr ("pass":Str):Key),V.int 2),(.inr "merge",.int 4)]=[(.inr "pass",.int 2),(.inr "merge",.int 4)]:=by kernel_rfl
theorem C8:bA [((.inr ("pass":Str):Key),V.int 2),(.inr "merge",.int 4)] (.inr "pass")=some (.int 2):=fi rfl
theorem C9:bA [((.inr ("pass":Str):Key),V.int 2),(.inr "merge",.int 4)] (.inr "merge")=some (.int 4):=by kernel_rfl
theorem mR (T:Tx P w K mg a):aC P w K mg base CX0 1 a._law_given a.fd__law_given ["_law_part"] rh:=by
 refine T.F__law_given.ok yx (fun vs H Q E h=>?_) (fun cdv A outer s H vs Q E hr h=>?_)
 ·obtain⟨_,_,rfl,_⟩:=h
  rfl
 obtain⟨v,p,rfl,hp,so,q⟩:=h
 refine⟨_,(ai (aY (aJ bC (ap ar (pq 0) ag (fun _ _=>rfl)) aF (aP _)) (aq (aH (aL (a9 (ap ar (pq 0) ag (fun _ _=>rfl)) ac)))) bD)
  (ai (aY (aJ bC (ap ar (pq 0) ag (fun _ _=>rfl)) aF (aP _)) (aq (aH (ay cg (ay cg (bR gC rfl T.z_list PyProof.Rows.Boot.«list» (a9 (ap ar (pq 0) ag (fun _ _=>rfl)) ac)) (bR gC rfl T.z_list PyProof.Rows.Boot.«list» (a9 (ap ar (pq 0) ag (fun _ _=>rfl)) ac))) (aL (a9 (ap ar (pq 0) ag (fun _ _=>rfl)) ac))))) bD)
  (aq (aH (bR gC rfl T.z_list PyProof.Rows.Boot.«list» (a9 (ap ar (pq 0) (jC hr.one (zQ (sO aF ag (sO aF ag zB)) rfl rfl (List.cons_ne_nil _ _) Qk) (ap ar (pq 0) ag (fun _ _=>rfl)) (fun _ _=>rfl)) (fun _ _=>rfl)) ac)))))),?_⟩
 cases p with
 |wrk is o sg l r=>
  obtain⟨u,i,x,y,rfl,hu,hi,_⟩:=hp
  refine⟨_,rfl,u,_,0,_,rfl,rfl,SqT.of hu,rfl,rfl,_,rfl,?_⟩
  walk_at "yes"
  exact⟨_,rfl,u,_,2,_,rfl,rfl,SqT.of hu,rfl,ln1,fun l hl=>q _ l (aa.new hl _) hl ae⟩
 |cho is wh ons ofs t=>
  obtain⟨u,i,o,f,rfl,hu,hi,ho,hf⟩:=hp
  have lt:ons.length+ofs.length+1<=64:=by
   have h:=so.g
   have e:(PtG.cho is wh ons ofs t).gvs=ons++ofs++[t]:=rfl
   rw[e,qa,qa]at h
   exact h
  refine⟨_,rfl,u,_,0,_,rfl,rfl,SqT.of hu,rfl,rfl,_,rfl,?_⟩
  walk_at "no"
  refine⟨_,rfl,u,_,0,_,rfl,rfl,SqT.of hu,rfl,rfl,_,rfl,?_⟩
  walk_at "yes"
  refine⟨_,rfl,u,_,3,_,rfl,rfl,SqT.of hu,rfl,o,_,rfl,.inr (SqT.of ho),fun l1 hl1=>?_⟩
  have e1:=aa.new hl1 (.lst (ons.map V.int))
  have l1':upd H l1 (.lst (ons.map V.int)) l1=some (.lst (ons.map V.int)):=ae
  generalize upd H l1 (.lst (ons.map V.int))=H1 at e1 l1' ⊢
  refine⟨_,rfl,u,_,4,_,rfl,rfl,SqT.of (e1 _ _ hu),rfl,f,_,rfl,.inr (SqT.of (e1 _ _ hf)),fun l2 hl2=>?_⟩
  have e2:=aa.new hl2 (.lst (ofs.map V.int))
  refine⟨l1,l2,_,_,rfl,rfl,SqL.of (e2 _ _ l1'),SqL.of ae,aX (m:=100) (by rw[q5,q5];omega),fun l3 hl3=>?_⟩
  have e3:=e2.trans (aa.new hl3 (.lst (ons.map V.int++ofs.map V.int)))
  have l3':upd (upd H1 l2 (.lst (ofs.map V.int))) l3 (.lst (ons.map V.int++ofs.map V.int)) l3=some (.lst (ons.map V.int++ofs.map V.int)):=ae
  generalize upd (upd H1 l2 (.lst (ofs.map V.int))) l3 (.lst (ons.map V.int++ofs.map V.int))=H3 at e3 l3' ⊢
  have e13:=e1.trans e3
  refine⟨_,rfl,u,_,5,_,rfl,rfl,SqT.of (e13 _ _ hu),rfl,ln1,fun l4 hl4=>?_⟩
  have e4:=aa.new hl4 (.lst [.int t])
  refine⟨l3,l4,_,_,rfl,rfl,SqL.of (e4 _ _ l3'),SqL.of ae,aX (m:=100) (by rw[qa,q5,q5];show _+_+1<=_;omega),fun l5 hl5=>?_⟩
  have e15:=e13.trans e4
  refine q _ l5 (e15.trans (aa.new hl5 _)) (aa.none e15 hl5) ?_
  rw[ae]
  show _=some (HO.lst ((ons++ofs++[t]).map V.int))
  rw[qO,qO]
  rfl
 |pas is os rt=>
  obtain⟨u,i,o,r,rfl,hu,hi,ho,hr'⟩:=hp
  refine⟨_,rfl,u,_,0,_,rfl,rfl,SqT.of hu,rfl,rfl,_,rfl,?_⟩
  walk_at "no"
  refine⟨_,rfl,u,_,0,_,rfl,rfl,SqT.of hu,rfl,rfl,_,rfl,?_⟩
  walk_at "no"
  refine⟨_,rfl,fun d hd=>⟨ae,[(.inr "pass",.int 2),(.inr "merge",.int 4)],rfl,Qk,?_⟩⟩
  have e1:aa H (upd (upd H d (.dK [])) d (.dK (cZ [] [(.inr "pass",.int 2),(.inr "merge",.int 4)]))):=by
   rw[oR]
   exact aa.new hd _
  have d1:upd (upd H d (.dK [])) d (.dK (cZ [] [(.inr "pass",.int 2),(.inr "merge",.int 4)])) d=some (.dK [(.inr "pass",.int 2),(.inr "merge",.int 4)]):=by rw[ae,uz]
  generalize upd (upd H d (.dK [])) d (.dK (cZ [] [(.inr "pass",.int 2),(.inr "merge",.int 4)]))=H1 at e1 d1 ⊢
  refine⟨_,rfl,u,_,0,_,rfl,rfl,SqT.of (e1 _ _ hu),rfl,d,_,rfl,.inl ⟨_,.inr "pass",.inl d1,rfl,C8.symm⟩,u,_,2,_,rfl,rfl,SqT.of (e1 _ _ hu),rfl,o,_,rfl,.inr (SqT.of (e1 _ _ ho)),fun l hl=>q _ l (e1.trans (aa.new hl _)) (aa.none e1 hl) ae⟩
 |mrg t ons ofs outs=>
  obtain⟨u,o,f,r,rfl,hu,ho,hf,hr'⟩:=hp
  refine⟨_,rfl,u,_,0,_,rfl,rfl,SqT.of hu,rfl,rfl,_,rfl,?_⟩
  walk_at "no"
  refine⟨_,rfl,u,_,0,_,rfl,rfl,SqT.of hu,rfl,rfl,_,rfl,?_⟩
  walk_at "no"
  refine⟨_,rfl,fun d hd=>⟨ae,[(.inr "pass",.int 2),(.inr "merge",.int 4)],rfl,Qk,?_⟩⟩
  have e1:aa H (upd (upd H d (.dK [])) d (.dK (cZ [] [(.inr "pass",.int 2),(.inr "merge",.int 4)]))):=by
   rw[oR]
   exact aa.new hd _
  have d1:upd (upd H d (.dK [])) d (.dK (cZ [] [(.inr "pass",.int 2),(.inr "merge",.int 4)])) d=some (.dK [(.inr "pass",.int 2),(.inr "merge",.int 4)]):=by rw[ae,uz]
  generalize upd (upd H d (.dK [])) d (.dK (cZ [] [(.inr "pass",.int 2),(.inr "merge",.int 4)]))=H1 at e1 d1 ⊢
  refine⟨_,rfl,u,_,0,_,rfl,rfl,SqT.of (e1 _ _ hu),rfl,d,_,rfl,.inl ⟨_,.inr "merge",.inl d1,rfl,C9.symm⟩,u,_,4,_,rfl,rfl,SqT.of (e1 _ _ hu),rfl,r,_,rfl,.inr (SqT.of (e1 _ _ hr')),fun l hl=>q _ l (e1.trans (aa.new hl _)) (aa.none e1 hl) ae⟩
theorem yK (n:Nat):(List.replicate n [V.int 0]).flatten=(List.range n).map fun _:Nat=>V.int 0:=by
 induction n with
 |zero=>rfl
 |succ n ih=>rw[List.replicate_succ',List.flatten_append,ih,List.range_succ,qO];rfl
theorem yc {n j:Nat}{f g:Nat->V}(h:j<n) (e:∀k,k<n->k≠j->f k=g k):((List.range n).map f).set j (g j)=(List.range n).map g:=by
 refine List.ext_getElem? fun k=>?_
 rw[List.getElem?_set,q5,List.length_range,qD,qD]
 by_cases lt:k<n
 ·rw[List.getElem?_range lt]
  by_cases ek:j=k
  ·subst ek
   rw[Q0 rfl,Q0 h]
   rfl
  ·rw[qZ ek]
   show some (f k)=some (g k)
   rw[e k lt fun z=>ek z.symm]
 ·rw[qZ Qo,List.getElem?_eq_none (by rw[List.length_range];omega)]
  rfl
theorem tM (T:Tx P w K mg a):aC P w K mg base CX0 5 a._law_counted a.fd__law_counted ["_law_found","_law_many"] rq:=by
 refine T.F__law_counted.ok kP (fun vs H Q E h=>?_) (fun cdv A outer s H vs Q E hr h=>?_)
 ·obtain⟨_,_,_,rfl,_⟩:=h
  rfl
 obtain⟨la,xs,n,rfl,hx,rg,n5,xl,q⟩:=h
 refine⟨_,(ai (ax (i:=2) kP.nd rfl (Or.inl rfl) (ay zZ (aL (a9 ag ac)) (pq 1)))
  (ai (cj PassesOwn.never rfl (bQ (pq 0)) (bf (i:=3) kP.nd rfl (Or.inl rfl))
  (ai (aY (PW.pt (dL (jy (gE (az (AD T) (hr.mono Qk) rfl T.m__law_whole T.F__law_whole.kp T.b__law_whole .nil ao (a9 (pq 3) ac)))) (dL (aJ eD (pq 3) ag (aP _)) (io (aJ ze (pq 3) (pq 1) (aP _)))))) (aq (aH eJ)) bD)
  (aq (mC (ay ft (ap bF (pq 2) (pq 3) (fun _ _=>rfl)) ag) (mE (pq 2) (pq 3) kJ)))))
  (aq (aH (pq 2))))),?_⟩
 refine⟨ln1,fun l0 hl0=>⟨_,rfl,l0,_,_,rfl,rfl,ae,Qo,Qo,ni (m:=200000) (by show 1 * _<=_;omega),fun lr hlr=>?_⟩⟩
 have e0:=aa.new hl0 (.lst [.int 0])
 have e1:=e0.trans (aa.new hlr (.lst (List.replicate (n:Int).toNat [V.int 0]).flatten))
 have nr:H lr=none:=aa.none e0 hlr
 have lr':upd (upd H l0 (.lst [.int 0])) lr (.lst (List.replicate (n:Int).toNat [V.int 0]).flatten) lr=some (.lst ((List.range n).map fun k:Nat=>V.int (((xs.take 0).count (k:Int):Nat):Int))):=by
  rw[ae,qX,yK]
  rfl
 generalize upd (upd H l0 (.lst [.int 0])) lr (.lst (List.replicate (n:Int).toNat [V.int 0]).flatten)=H1 at e1 lr' ⊢
 have ne:la≠lr:=fun z=>by rw[z,nr]at hx;cases hx
 refine⟨_,rfl,la,rfl,⟨_,SqL.of (e1 _ _ hx)⟩,?_⟩
 refine db (K:=K) (a:=la) (xs:=xs.map V.int) (fun i σ H2=>(∃v3,σ=[some (.ref la),some (.int n),some (.ref lr),v3])/\aa H H2/\H2 lr=some (.lst ((List.range n).map fun k:Nat=>V.int (((xs.take i).count (k:Int):Nat):Int)))) ⟨⟨_,rfl⟩,e1,lr'⟩ ?_ ?_ ?_
 ·rintro i σ H2 _ ⟨_,s2,_⟩
  exact SqL.of (s2 _ _ hx)
 ·rintro i v σ H2 hv ⟨⟨v3,rfl⟩,s2,h2⟩
  rw[qD]at hv
  obtain⟨x,hxi,rfl⟩:=qP.mp hv
  obtain⟨x0,x1⟩:=rg x (qy hxi)
  obtain⟨j,rfl⟩:∃j:Nat,x=j:=⟨x.toNat,Qo⟩
  have jn:j<n:=Qo
  have at1:((List.range n).map fun k:Nat=>V.int (((xs.take i).count (k:Int):Nat):Int))[j]?=some (.int (((xs.take i).count (j:Int):Nat):Int)):=by
   rw[qD,List.getElem?_range jn]
   rfl
  refine⟨_,rfl,_,rfl,_,rfl,bi rfl ?_⟩
  refine⟨_,rfl,_,_,rfl,rfl,_,rfl,bi (decide_eq_false Qo) ?_⟩
  refine⟨_,rfl,_,rfl,_,_,rfl,rfl,_,rfl,bi (decide_eq_false Qo) ?_⟩
  refine⟨_,rfl,_,rfl,lr,_,_,_,rfl,rfl,SqL.of h2,cO at1,_,_,rfl,rfl,_,rfl,_,rfl,lr,_,_,j,rfl,rfl,h2,?_,⟨_,rfl⟩,aa.over s2 nr,?_⟩
  ·rw[q5,List.length_range]
   unfold ixN
   rw[Q0 Qo,Q0 Qo]
   rfl
  ·rw[ae]
   have tk:xs.take (i+1)=xs.take i++[(j:Int)]:=by rw[qq,hxi];rfl
   have sr:=yc (n:=n) (j:=j) (f:=fun k:Nat=>V.int (((xs.take i).count (k:Int):Nat):Int)) (g:=fun k:Nat=>V.int (((xs.take (i+1)).count (k:Int):Nat):Int)) jn fun k _ hk=>by
    rw[tk,List.count_append,List.count_singleton,qZ (by simp;omega),Nat.add_zero]
   have ej:V.int ((((xs.take i).count (j:Int):Nat):Int)+1)=V.int (((xs.take (i+1)).count (j:Int):Nat):Int):=by
    rw[tk,List.count_append,List.count_singleton,Q0 (by simp)]
    rfl
   rw[ej]
   exact congrArg (fun z=>some (HO.lst z)) sr
 ·rintro σ H2 ⟨⟨v3,rfl⟩,s2,h2⟩
  rw[q5,qG]at h2
  exact⟨_,rfl,q _ lr s2 nr h2⟩
def eY (ks:List Addr):List (Key×V):=(List.range ks.length).map fun j:Nat=>(.inl (j:Int),.ref (ks.getD j 0))
theorem vo {ks:List Addr}{i:Nat}(h:ks.length<=i):bA (eY ks) (.inl (i:Int))=none:=by
 unfold bA
 rw[List.find?_eq_none.mpr fun p hp e=>?_]
 ·rfl
 ·unfold eY at hp
  obtain⟨j,hj,rfl⟩:=List.mem_map.mp hp
  have:=List.mem_range.mp hj
  have e:=of_decide_eq_true e
  have:(j:Int)=(i:Int):=Sum.inl.inj e
  omega
theorem jf {k:Str}{y:PyData}(hk:PyData.strOk k=true) (hy:(∃s,y=.str s/\PyData.strOk s=true)\/∃n,y=.int n):SeqAt.shaped (.tuple [.str k,y])=true:=by
 unfold SeqAt.shaped
 rcases hy with⟨s,rfl,hs⟩|⟨n,rfl⟩
 ·simp[PyData.canLay0,PyData.canLayAll0,PyData.depth,PyData.depthAll,hk,hs]
 ·simp[PyData.canLay0,PyData.canLayAll0,PyData.depth,PyData.depthAll,hk]
theorem ug (d:a8):PyData.strOk (knd d)=true:=by
 cases d<;>(dsimp only[knd];decide +kernel)
theorem nV {α:Type}{f:α->Bool}{L:List α}{i:Nat}{x:α}(h:L[i]?=some x):((L.take (i+1)).filter f).length=((L.take i).filter f).length+if f x=true then 1 else 0:=by
 rw[qq,h,List.filter_append,qa]
 by_cases hx:f x=true<;>simp[hx]
theorem CH (ks:List Addr) (k:Addr):eY ks++[(.inl (ks.length:Int),.ref k)]=eY (ks++[k]):=by
 unfold eY
 rw[qa,List.length_singleton,List.range_succ,qO]
 congr 1
 ·refine List.map_congr_left fun j hj=>?_
  have:=List.mem_range.mp hj
  rw[qi,qi,List.getElem?_append_left this]
 ·rw[List.map_singleton,qi,qK (qd _),Nat.sub_self]
  rfl
theorem jV {ss:List (Str×Int)}{q nm:Str}{i:Nat}(snd:(esN ss).Nodup) (h:(esN ss)[i]?=some nm) (hq:q∈esN ss):(feN ss q=(i:Int))↔q=nm:=by
 constructor
 ·intro e
  have e:(((esN ss).idxOf q:Nat):Int)=(i:Int):=e
  have e:(esN ss).idxOf q=i:=Qo
  have lt:=List.idxOf_lt_length_of_mem hq
  have:=List.getElem_idxOf lt
  rw[<- e,qb lt,this]at h
  exact qI h
 ·intro e
  subst e
  show(((esN ss).idxOf q:Nat):Int)=_
  rw[iH snd h]
theorem iJ {ss:List (Str×Int)}{q:Str}(h:q∈ss.map (·.1)):q∈esN ss:=qV _ h
theorem vg {ss:List (Str×Int)}(h:ss.length=2):(esN ss)[2]?=some (">":Str):=by
 unfold esN
 rw[qK (by rw[q5];omega),q5,h]
 rfl
theorem dW (a l:Int):[a].count l=if a=l then 1 else 0:=by
 rw[List.count_singleton]
 by_cases e:a=l
 ·rw[Q0 e,Q0 (by simpa using e)]
 ·rw[qZ e,qZ (by simpa using e)]
theorem tQ {ss:List (Str×Int)}{q:Str}(h2:ss.length=2) (snd:(esN ss).Nodup) (h:q∈ss.map (·.1)):feN ss q≠2:=fun e=>by
 have:=(jV (i:=2) snd (vg h2) (iJ h)).mp e
 subst this
 unfold esN at snd
 exact(List.nodup_append.mp snd).2.2 _ h _ (qS.mpr rfl) rfl
theorem fe2 {ss:List (Str×Int)}(h2:ss.length=2) (snd:(esN ss).Nodup):feN ss (">":Str)=2:=(jV (i:=2) snd (vg h2) (qH _ (qS.mpr rfl))).mpr rfl
section
variable {ss:List (Str×Int)}{ds:List a8}(h2:ss.length=2) (snd:(esN ss).Nodup) (st:∀d∈ah ds,∀q x,d=.put q x\/d=.get q x->q∈ss.map (·.1))
theorem vn {nm:Str}{i:Nat}(h2:ss.length=2) (snd:(esN ss).Nodup) (st:∀d∈ah ds,∀q x,d=.put q x\/d=.get q x->q∈ss.map (·.1)) (h:(esN ss)[i]?=some nm) (i2:i<2):∀d∈ah ds,egD (feN ss) i d=if d0 nm d=true then 1 else 0:=fun d hd=>by
 cases d with
 |put q x=>
  have f:=jV snd h (iJ (st _ hd q x (.inl rfl)))
  show[feN ss q].count (i:Int)=if decide (q=nm)=true then 1 else 0
  rw[dW]
  by_cases e:q=nm
  ·rw[Q0 (f.mpr e),Q0 (decide_eq_true e)]
  ·rw[qZ (fun z=>e (f.mp z)),qZ (by simpa using e)]
 |give x=>
  show[feN ss (">":Str)].count (i:Int)=0
  rw[dW,fe2 h2 snd,qZ Qo]
 |_=>rfl
theorem vm {nm:Str}{i:Nat}(h2:ss.length=2) (snd:(esN ss).Nodup) (st:∀d∈ah ds,∀q x,d=.put q x\/d=.get q x->q∈ss.map (·.1)) (h:(esN ss)[i]?=some nm) (i2:i<2):∀d∈ah ds,etD (feN ss) i d=if d6 nm d=true then 1 else 0:=fun d hd=>by
 cases d with
 |get q x=>
  have f:=jV snd h (iJ (st _ hd q x (.inr rfl)))
  show[feN ss q].count (i:Int)=if decide (q=nm)=true then 1 else 0
  rw[dW]
  by_cases e:q=nm
  ·rw[Q0 (f.mpr e),Q0 (decide_eq_true e)]
  ·rw[qZ (fun z=>e (f.mp z)),qZ (by simpa using e)]
 |_=>rfl
theorem CG (h2:ss.length=2) (snd:(esN ss).Nodup) (st:∀d∈ah ds,∀q x,d=.put q x\/d=.get q x->q∈ss.map (·.1)):∀d∈ah ds,egD (feN ss) 2 d=if dn d=true then 1 else 0:=fun d hd=>by
 cases d with
 |put q x=>
  show[feN ss q].count 2=0
  rw[dW,qZ (tQ h2 snd (st _ hd q x (.inl rfl)))]
 |give x=>
  show[feN ss (">":Str)].count 2=1
  rw[dW,fe2 h2 snd,Q0 rfl]
 |_=>rfl
theorem CF (h2:ss.length=2) (snd:(esN ss).Nodup) (st:∀d∈ah ds,∀q x,d=.put q x\/d=.get q x->q∈ss.map (·.1)):(0:Int)=(et (feN ss) 2 ds:Nat):=by
 have:∀d∈ah ds,etD (feN ss) 2 d=if(fun _:a8=>false) d=true then 1 else 0:=fun d hd=>by
  cases d with
  |get q x=>
   show[feN ss q].count 2=0
   rw[dW,qZ (tQ h2 snd (st _ hd q x (.inr rfl)))]
  |_=>rfl
 have:=fN this
 rw[List.filter_eq_nil_iff.mpr (by simp)]at this
 have this:0=et (feN ss) 2 ds:=this
 omega
end
theorem AJ (T:Tx P w K mg a):aC P w K mg base CX0 20 a._law_ends a.fd__law_ends ["_law_net","_law_program_here"] rn:=by
 refine T.F__law_ends.ok fk (fun vs H Q E h=>?_) (fun cdv A outer s H vs Q E hr h=>?_)
 ·obtain⟨_,_,_,_,_,_,_,_,_,_,_,_,rfl,_⟩:=h
  rfl
 obtain⟨t,le,p,la,ls,lb,x,y,ak,ss,ds,us,rfl,ht,prs,RP,ss2,snd,dp,fl,st,so,sso,q⟩:=h
 refine⟨_,(ai (ax (i:=2) fk.nd rfl (Or.inl rfl) (az (AI T 13) (hr.mono Qk) rfl T.m__law_flat T.F__law_flat.kp T.b__law_flat .nil ao (a9 (ap ar (pq 1) ag (fun _ _=>rfl)) ac)))
  (ai (ax (i:=3) fk.nd rfl (Or.inl rfl) mF)
  (ai (cj PassesOwn.never rfl (sT rfl T.z_enumerate (a9 (ay cg (ap ar (pq 1) ag (fun _ _=>rfl)) (aL (a9 (aK (a9 aF (a9 eJ ac))) ac))) ac)) (gG rfl (cU (bf (i:=4) fk.nd rfl (Or.inl rfl)) (cU (bf (i:=5) fk.nd rfl (Or.inr rfl)) gF)))
  (ai (aY (PW.pt (dL (aJ m8 (ap ar (ap bF (ap ar (pq 0) ag (fun _ _=>rfl)) (pq 4) (fun _ _=>rfl)) ag (fun _ _=>rfl)) (ap ar (pq 5) ag (fun _ _=>rfl)) (aP _)) (io (aJ tw (ap ar (ap bF (ap ar (pq 0) ag (fun _ _=>rfl)) (pq 4) (fun _ _=>rfl)) ag (fun _ _=>rfl)) (pq 3) (by with_unfolding_all rfl))))) (aq (aH eJ)) bD)
  (ai (ax (i:=6) fk.nd rfl (Or.inl rfl) (bp bM rfl T.z_len PySem.boot_len (a9 (cW (k:=1) (Nc:=["_law_deed","_law_pair"]) (js:=[5]) (show bn (aB gy) ["_law_net","_law_program_here","_law_deeds","_law_due","_law_k","_law_pair","_law_puts","_law_gets"] _ 1 ["_law_deed","_law_pair"] [5]from bn.mk rfl (by decide +kernel) (by decide +kernel) (by decide +kernel) rfl (by decide +kernel)) rfl (bQ (pq 2)) (fun _ _ _ _ _=>(bf (i:=0) (show List.Nodup (["_law_deed","_law_pair"]:List Str)from by decide +kernel) rfl (Or.inl rfl))) (fun _ _ _ _ _=>(jx (aJ (tz (K:=K) rfl hr.units) (gH (rL (K:=K) rfl) (pq 0) iu (fB ag)) (aK (a9 aF (a9 (ap (m6 (K:=K) rfl) (pq 1) ag (fun _ _=>rfl)) ac))) (aP _)))) (fun _ _ _ _ _=>(pq 0))) ac)))
  (ai (ax (i:=7) fk.nd rfl (Or.inl rfl) (bp bM rfl T.z_len PySem.boot_len (a9 (cW (k:=1) (Nc:=["_law_deed","_law_pair"]) (js:=[5]) (show bn (aB gy) ["_law_net","_law_program_here","_law_deeds","_law_due","_law_k","_law_pair","_law_puts","_law_gets"] _ 1 ["_law_deed","_law_pair"] [5]from bn.mk rfl (by decide +kernel) (by decide +kernel) (by decide +kernel) rfl (by decide +kernel)) rfl (bQ (pq 2)) (fun _ _ _ _ _=>(bf (i:=0) (show List.Nodup (["_law_deed","_law_pair"]:List Str)from by decide +kernel) rfl (Or.inl rfl))) (fun _ _ _ _ _=>(jx (aJ (tz (K:=K) rfl hr.units) (gH (rL (K:=K) rfl) (pq 0) iu (fB ag)) (aK (a9 aF (a9 (ap (m6 (K:=K) rfl) (pq 1) ag (fun _ _=>rfl)) ac))) (aP _)))) (fun _ _ _ _ _=>(pq 0))) ac)))
  (aq (fA (hr.one) (pq 3) (ap ar (ap bF (ap ar (pq 0) ag (fun _ _=>rfl)) (pq 4) (fun _ _=>rfl)) ag (fun _ _=>rfl)) (aK (a9 (pq 6) (a9 (pq 7) ac))) rfl))))))
  (ai (fA (hr.one) (pq 3) (ap ar (ap bF (ap ar (pq 0) ag (fun _ _=>rfl)) (dB dy ag) (fun _ _=>rfl)) ag (fun _ _=>rfl)) (aK (a9 (bp bM rfl T.z_len PySem.boot_len (a9 (cW (k:=1) (Nc:=["_law_deed"]) (js:=[]) (show bn (aB gy) ["_law_net","_law_program_here","_law_deeds","_law_due","_law_k","_law_pair","_law_puts","_law_gets"] _ 1 ["_law_deed"] []from bn.mk rfl (by decide +kernel) (by decide +kernel) (by decide +kernel) rfl (by decide +kernel)) rfl (bQ (pq 2)) (fun _ _ _ _ _=>(bf (i:=0) (show List.Nodup (["_law_deed"]:List Str)from by decide +kernel) rfl (Or.inl rfl))) (fun _ _ _ _ _=>(jx (aJ bC (ap (m6 (K:=K) rfl) (pq 0) ag (fun _ _=>rfl)) aF (aP _)))) (fun _ _ _ _ _=>(pq 0))) ac)) (a9 ag ac))) rfl)
  (aq (aH (pq 3))))))),?_⟩
 refine⟨_,rfl,p,_,2,_,rfl,rfl,SqT.of RP.top,rfl,H,lb,ds,rfl,aa.refl H,RP.bo,Qo,Qo,fun H1 lf uf s1 nf hf rf=>?_⟩
 refine fun d hd=>?_
 have e2:=aa.new hd (.dK [])
 have d2:upd H1 d (.dK []) d=some (.dK []):=ae
 have ndH:H d=none:=aa.none s1 hd
 generalize upd H1 d (.dK [])=H2 at e2 d2 ⊢
 have s2:=s1.trans e2
 refine⟨_,rfl,p,_,1,_,rfl,rfl,SqT.of (s2 _ _ RP.top),rfl,gP,fun t5 ht5=>⟨ln1,fun l6 hl6=>?_⟩⟩
 have e6:=(aa.new ht5 (.tup [.str ">",.non])).trans (aa.new hl6 (.lst [.ref t5]))
 have t56:=aa.new hl6 (.lst [.ref t5]) _ _ (ae (H:=H2) (a:=t5) (o:=.tup [.str ">",.non]))
 have ul:=RP.ro.len
 refine⟨ls,l6,us,_,rfl,rfl,SqL.of (e6 _ _ (s2 _ _ RP.st)),SqL.of ae,aX (m:=100) (by show us.length+1<=_;omega),fun l7 hl7=>?_⟩
 have e7:=e6.trans (aa.new hl7 (.lst (us++[.ref t5])))
 have t57:=aa.new hl7 (.lst (us++[.ref t5])) _ _ t56
 have l7':upd (upd (upd H2 t5 (.tup [.str ">",.non])) l6 (.lst [.ref t5])) l7 (.lst (us++[.ref t5])) l7=some (.lst (us++[.ref t5])):=ae
 have d7:=e7 _ _ d2
 generalize upd (upd (upd H2 t5 (.tup [.str ">",.non])) l6 (.lst [.ref t5])) l7 (.lst (us++[.ref t5]))=H7 at e7 t57 l7' d7 ⊢
 have s17:=e2.trans e7
 have s7:=s2.trans e7
 have fl3:=rf.len
 obtain⟨ts,hts,tsl,hpr⟩:=prs
 have esl:(esN ss).length=3:=by unfold esN;rw[qa,q5,ss2];rfl
 have pair:∀i:Nat,i<3->∃nm lg tt,(esN ss)[i]?=some nm/\ts[i]?=some tt/\H tt=some (.tup [.str nm,.int i])/\PyData.strOk nm=true/\∃pt,(us++[V.ref t5])[i]?=some (.ref pt)/\H7 pt=some (.tup [.str nm,lg]):=fun i i3=>by
  have h1:(esN ss)[i]?=some ((esN ss)[i]' Qo):=qb _
  have h2:ts[i]?=some (ts[i]' Qo):=qb _
  generalize (esN ss)[i]' Qo=nm at h1
  generalize ts[i]' Qo=tt at h2
  have h3:=hpr i tt nm h2 h1
  have fe:feN ss nm=(i:Int):=by
   show(((esN ss).idxOf nm:Nat):Int)=_
   rw[iH snd h1]
  rw[fe]at h3
  by_cases i2:i<2
  ·have hu:us[i]?=some (us[i]' Qo):=qb _
   obtain⟨ps,sn,sz,eps,hs,hps⟩:=RP.ro.at i _ hu
   have en:nm=sn:=by
    unfold esN at h1
    rw[List.getElem?_append_left (by rw[q5];omega),qD,hs]at h1
    exact(qI h1).symm
   subst en
   exact⟨_,_,_,h1,h2,h3,sso _ (qy hs),ps,by rw[List.getElem?_append_left Qo,hu,eps],s7 _ _ hps⟩
  ·have:i=2:=by omega
   subst this
   have en:nm=(">":Str):=by
    unfold esN at h1
    rw[qK (by rw[q5];omega),q5,ss2]at h1
    exact(qI h1).symm
   subst en
   exact⟨_,_,_,h1,h2,h3,Qd,t5,by rw[qK Qo,show 2-us.length=0 by omega];rfl,t57⟩
 refine⟨l7,_,rfl,SqL.of l7',?_⟩
 refine uO (K:=K) (l:=l7) (xs:=us++[.ref t5]) (fun i σ H8=>(∃v4 v5 v6 v7,σ=[some (.ref t),some (.ref p),some (.ref lf),some (.ref d),v4,v5,v6,v7])/\(∀b o,b≠d->H7 b=some o->H8 b=some o)/\∃ks,ks.length=i/\H8 d=some (.dK (eY ks))/\∀(j:Nat) (nm:Str) (k:Addr),(esN ss)[j]?=some nm->ks[j]?=some k->H8 k=some (.tup [.int (((ah ds).filter (d0 nm)).length:Nat),.int (((ah ds).filter (d6 nm)).length:Nat)])) ⟨⟨_,_,_,_,rfl⟩,fun _ _ _ h=>h,[],rfl,d7,fun j nm k _ h=>by simp at h⟩ ?_ ?_ ?_
 ·rintro i σ H8 ⟨_,k8,_⟩
  exact SqL.of (k8 _ _ (fun z=>by rw[z,d7]at l7';cases l7') l7')
 ·rintro i x σ H8 p9 hx ⟨⟨v4,v5,v6,v7,rfl⟩,k8,ks,kl,d8,hks⟩ hp9
  have i3:i<3:=by
   have:=(qe.mp hx).1
   rw[qa]at this
   have:i<us.length+1:=this
   omega
  obtain⟨nm,lg,tt,hnm,htt,hHtt,nmo,pt,hpt0,hpt7⟩:=pair i i3
  rw[hpt0]at hx
  cases hx
  have ntd:∀{b:Addr}{xs:List V},H7 b=some (.tup xs)->b≠d:=fun h z=>by rw[z,d7]at h;cases h
  have nld:∀{b:Addr}{xs:List V},H7 b=some (.lst xs)->b≠d:=fun h z=>by rw[z,d7]at h;cases h
  have e9:=aa.new hp9 (.tup [.int i,.ref pt])
  refine⟨p9,_,rfl,SqT.of ae,rfl,_,_,rfl,_,_,rfl,rfl,?_⟩
  have k9:∀b o,b≠d->H7 b=some o->upd H8 p9 (.tup [.int i,.ref pt]) b=some o:=fun b o hb h=>e9 _ _ (k8 b o hb h)
  have d9:=e9 _ _ d8
  have hks9:∀(j:Nat) (nm:Str) (k:Addr),(esN ss)[j]?=some nm->ks[j]?=some k->upd H8 p9 (.tup [.int i,.ref pt]) k=some (.tup [.int (((ah ds).filter (d0 nm)).length:Nat),.int (((ah ds).filter (d6 nm)).length:Nat)]):=fun j nm k h1 h2=>e9 _ _ (hks j nm k h1 h2)
  generalize upd H8 p9 (.tup [.int i,.ref pt])=H9 at k9 d9 hks9 ⊢
  have s19:aa H1 H9:=fun b o h=>k9 b o (fun z=>by rw[z,hd]at h;cases h) (s17 _ _ h)
  have hpt9:=k9 _ _ (ntd hpt7) hpt7
  have ht9:=s19 _ _ (s1 _ _ ht)
  have le9:=s19 _ _ (s1 _ _ hts)
  have tt9:=s19 _ _ (s1 _ _ hHtt)
  have atv:(ts.map V.ref)[i]?=some (.ref tt):=by rw[qD,htt];rfl
  refine⟨_,rfl,t,_,2,_,rfl,rfl,SqT.of ht9,rfl,_,rfl,le,_,_,_,rfl,rfl,SqL.of le9,cO atv,tt,_,0,_,rfl,rfl,SqT.of tt9,rfl,_,rfl,pt,_,0,_,rfl,rfl,SqT.of hpt9,rfl,rfl,_,rfl,bi (by simp) ?_⟩
  refine⟨_,rfl,t,_,2,_,rfl,rfl,SqT.of ht9,rfl,_,rfl,le,_,_,_,rfl,rfl,SqL.of le9,cO atv,tt,_,1,_,rfl,rfl,SqT.of tt9,rfl,_,rfl,d,_,.inl (i:Int),rfl,d9,rfl,_,rfl,bi (by rw[vo Qo];rfl) ?_⟩
  refine⟨_,rfl,?_⟩
  refine⟨lf,rfl,⟨_,SqL.of (s19 _ _ hf)⟩,?_⟩
  refine jY (K:=K) (a:=lf) (xs:=uf) (fun j ys σ G=>(∃v,σ=[v,some (.ref pt)])/\aa H9 G/\ys.length=(((ah ds).take j).filter (d0 nm)).length) ⟨⟨_,rfl⟩,aa.refl _,rfl⟩ ?_ (aX (m:=1000) Qo) ?_ ?_ ?_
  ·rintro j ys σ G _ ⟨_,_,h⟩
   have:=List.length_filter_le (d0 nm) ((ah ds).take j)
   rw[qJ]at this
   omega
  ·rintro j ys σ G ⟨_,sg,_⟩
   exact SqL.of (sg _ _ (s19 _ _ hf))
  ·rintro j z ys σ G hz ⟨⟨v0,rfl⟩,sg,yl⟩
   obtain⟨e,he,hrd⟩:=rf.at j z hz
   obtain⟨tt,y,r,rfl,htt,hy⟩:=RD.two hrd
   have s1G:=s19.trans sg
   have dty:∀(G':Hp),Dt K G' y (sec e):=fun G'=>by
    rcases hy with⟨s',rfl,e1,_⟩|⟨n,rfl,e1⟩
    ·rw[e1];exact .str s'
    ·rw[e1];exact .int n
   have shy:SeqAt.shaped (.tuple [.str (knd e),sec e])=true:=jf (ug e) (by
    rcases hy with⟨s',_,e1,hs'⟩|⟨n,_,e1⟩
    ·rw[e1];exact .inl ⟨_,rfl,so e (qy he) s' hs'⟩
    ·rw[e1];exact .inr ⟨_,rfl⟩)
   have fx:=nV (f:=d0 nm) he
   refine⟨_,rfl,2,rfl,tt,_,rfl,SqT.of (s1G _ _ (s1 _ _ htt)),fun p' G' sG' hp'=>?_⟩
   have hpt:=(sg.trans sG') _ _ hpt9
   refine⟨_,rfl,pt,_,0,_,rfl,rfl,SqT.of hpt,rfl,gP,fun q1 hq1=>?_⟩
   have e1:=aa.new hq1 (.tup [.str "put",.str nm])
   refine⟨_,_,.tup (e1.seqT hp') (.cons (.str _) (.cons (dty _) .nil)),.tup (SqT.of ae) (.cons (.str _) (.cons (.str _) .nil)),shy,jf Qd (.inl ⟨_,rfl,nmo⟩),_,rfl,?_⟩
   rw[wM]
   cases hb:d0 nm e with
   |true=>
    refine bY rfl ⟨_,rfl,⟨_,rfl⟩,(sg.trans sG').trans e1,?_⟩
    rw[qa,yl,fx,Q0 hb]
    rfl
   |false=>
    refine bi rfl ⟨⟨_,rfl⟩,(sg.trans sG').trans e1,?_⟩
    rw[yl,fx,qZ (by rw[hb];simp)]
    rfl
  rintro ys σ GA ⟨_,sgGA,ylGA⟩ lGA hlGA
  have eGA:=sgGA.trans (aa.new hlGA (.lst ys))
  rw[fl3,qG]at ylGA
  refine⟨lGA,_,rfl,.inl (SqL.of ae),?_⟩
  rw[ylGA]
  generalize upd GA lGA (.lst ys)=GA' at eGA ⊢
  have s1A:=s19.trans eGA
  have hptA:=eGA _ _ hpt9
  refine⟨_,rfl,?_⟩
  refine⟨lf,rfl,⟨_,SqL.of (s1A _ _ hf)⟩,?_⟩
  refine jY (K:=K) (a:=lf) (xs:=uf) (fun j ys σ G=>(∃v,σ=[v,some (.ref pt)])/\aa GA' G/\ys.length=(((ah ds).take j).filter (d6 nm)).length) ⟨⟨_,rfl⟩,aa.refl _,rfl⟩ ?_ (aX (m:=1000) Qo) ?_ ?_ ?_
  ·rintro j ys σ G _ ⟨_,_,h⟩
   have:=List.length_filter_le (d6 nm) ((ah ds).take j)
   rw[qJ]at this
   omega
  ·rintro j ys σ G ⟨_,sg,_⟩
   exact SqL.of (sg _ _ (s1A _ _ hf))
  ·rintro j z ys σ G hz ⟨⟨v0,rfl⟩,sg,yl⟩
   obtain⟨e,he,hrd⟩:=rf.at j z hz
   obtain⟨tt,y,r,rfl,htt,hy⟩:=RD.two hrd
   have s1G:=s1A.trans sg
   have dty:∀(G':Hp),Dt K G' y (sec e):=fun G'=>by
    rcases hy with⟨s',rfl,e1,_⟩|⟨n,rfl,e1⟩
    ·rw[e1];exact .str s'
    ·rw[e1];exact .int n
   have shy:SeqAt.shaped (.tuple [.str (knd e),sec e])=true:=jf (ug e) (by
    rcases hy with⟨s',_,e1,hs'⟩|⟨n,_,e1⟩
    ·rw[e1];exact .inl ⟨_,rfl,so e (qy he) s' hs'⟩
    ·rw[e1];exact .inr ⟨_,rfl⟩)
   have fx:=nV (f:=d6 nm) he
   refine⟨_,rfl,2,rfl,tt,_,rfl,SqT.of (s1G _ _ (s1 _ _ htt)),fun p' G' sG' hp'=>?_⟩
   have hpt:=(sg.trans sG') _ _ hptA
   refine⟨_,rfl,pt,_,0,_,rfl,rfl,SqT.of hpt,rfl,gP,fun q1 hq1=>?_⟩
   have e1:=aa.new hq1 (.tup [.str "get",.str nm])
   refine⟨_,_,.tup (e1.seqT hp') (.cons (.str _) (.cons (dty _) .nil)),.tup (SqT.of ae) (.cons (.str _) (.cons (.str _) .nil)),shy,jf Qd (.inl ⟨_,rfl,nmo⟩),_,rfl,?_⟩
   rw[wN]
   cases hb:d6 nm e with
   |true=>
    refine bY rfl ⟨_,rfl,⟨_,rfl⟩,(sg.trans sG').trans e1,?_⟩
    rw[qa,yl,fx,Q0 hb]
    rfl
   |false=>
    refine bi rfl ⟨⟨_,rfl⟩,(sg.trans sG').trans e1,?_⟩
    rw[yl,fx,qZ (by rw[hb];simp)]
    rfl
  rintro ys σ GB ⟨_,sgGB,ylGB⟩ lGB hlGB
  have eGB:=sgGB.trans (aa.new hlGB (.lst ys))
  rw[fl3,qG]at ylGB
  refine⟨lGB,_,rfl,.inl (SqL.of ae),?_⟩
  rw[ylGB]
  generalize upd GB lGB (.lst ys)=GB' at eGB ⊢
  refine⟨_,rfl,_,rfl,gP,fun kp hkp=>?_⟩
  have eC:=(eGA.trans eGB).trans (aa.new hkp (.tup [.int (((ah ds).filter (d0 nm)).length:Nat),.int (((ah ds).filter (d6 nm)).length:Nat)]))
  have kpC:upd GB' kp (.tup [.int (((ah ds).filter (d0 nm)).length:Nat),.int (((ah ds).filter (d6 nm)).length:Nat)]) kp=some (.tup [.int (((ah ds).filter (d0 nm)).length:Nat),.int (((ah ds).filter (d6 nm)).length:Nat)]):=ae
  generalize upd GB' kp (.tup [.int (((ah ds).filter (d0 nm)).length:Nat),.int (((ah ds).filter (d6 nm)).length:Nat)])=HC at eC kpC ⊢
  have dC:=eC _ _ d9
  have ntC:∀{b:Addr}{xs:List V},HC b=some (.tup xs)->b≠d:=fun h z=>by rw[z,dC]at h;cases h
  refine⟨_,rfl,_,rfl,t,_,2,_,rfl,rfl,SqT.of (eC _ _ ht9),rfl,_,rfl,le,_,_,_,rfl,rfl,SqL.of (eC _ _ le9),cO atv,tt,_,1,_,rfl,rfl,SqT.of (eC _ _ tt9),rfl,d,_,rfl,.inl ⟨_,.inl (i:Int),dC,rfl,by unfold eY;rw[q5,List.length_range];exact i8 Qo,rfl⟩,⟨_,_,_,_,rfl⟩,fun b o hb h=>by rw[aj hb];exact eC _ _ (k9 b o hb h),ks++[kp],by simp[kl],?_,fun j nm' k h1 h2=>?_⟩
  ·rw[ae,mB _ (vo Qo),<- kl,CH]
  ·by_cases lt:j<ks.length
   ·rw[List.getElem?_append_left lt]at h2
    have hk:=eC _ _ (hks9 j nm' k h1 h2)
    rw[aj (ntC hk)]
    exact hk
   ·have ej:j=ks.length:=by
     have:=(qe.mp h2).1
     simp at this
     omega
    subst ej
    rw[qK (qd _),Nat.sub_self]at h2
    cases h2
    rw[kl,hnm]at h1
    cases h1
    rw[aj (ntC kpC)]
    exact kpC
 ·rintro σ H8 ⟨⟨v4,v5,v6,v7,rfl⟩,k8,ks,kl,d8,hks⟩
  have k3:ks.length=3:=by rw[kl,qa,ul,ss2];rfl
  have s18:aa H1 H8:=fun b o h=>k8 b o (fun z=>by rw[z,hd]at h;cases h) (s17 _ _ h)
  refine⟨_,rfl,lf,rfl,⟨_,SqL.of (s18 _ _ hf)⟩,?_⟩
  refine jY (K:=K) (a:=lf) (xs:=uf) (fun j ys σ G=>(∃v,σ=[v])/\G=H8/\ys.length=(((ah ds).take j).filter dn).length) ⟨⟨_,rfl⟩,rfl,rfl⟩ ?_ (aX (m:=1000) Qo) ?_ ?_ ?_
  ·rintro j ys σ G _ ⟨_,_,h⟩
   have:=List.length_filter_le dn ((ah ds).take j)
   rw[qJ]at this
   omega
  ·rintro j ys σ G ⟨_,rfl,_⟩
   exact SqL.of (s18 _ _ hf)
  ·rintro j z ys σ G hz ⟨⟨v0,rfl⟩,rfl,yl⟩
   obtain⟨e,he,hrd⟩:=rf.at j z hz
   obtain⟨tt,y,r,rfl,htt,hy⟩:=RD.two hrd
   have fx:=nV (f:=dn) he
   refine⟨_,rfl,tt,_,0,_,rfl,rfl,SqT.of (s18 _ _ (s1 _ _ htt)),hV,rfl,_,rfl,?_⟩
   have eb:decide (V.str (knd e)=V.str ("give":Str))=dn e:=by
    rw[<- BV e]
    by_cases h:knd e=("give":Str)
    ·rw[decide_eq_true h,decide_eq_true (by rw[h])]
    ·rw[decide_eq_false h,decide_eq_false (fun z=>h (by injection z))]
   cases hb:dn e with
   |true=>
    refine bY (eb.trans hb) ⟨_,rfl,⟨_,rfl⟩,rfl,?_⟩
    rw[qa,yl,fx,Q0 hb]
    rfl
   |false=>
    refine bi (eb.trans hb) ⟨⟨_,rfl⟩,rfl,?_⟩
    rw[yl,fx,qZ (by rw[hb];simp)]
    rfl
  rintro ys σ GA ⟨_,rfl,yl⟩ lG hlG
  have eG:=aa.new hlG (.lst ys)
  rw[fl3,qG]at yl
  refine⟨lG,_,rfl,.inl (SqL.of ae),?_⟩
  rw[yl]
  refine⟨gP,fun kp hkp=>?_⟩
  have eC:=eG.trans (aa.new hkp (.tup [.int ((ah ds).filter dn).length,.int 0]))
  have kpC:upd (upd GA lG (.lst ys)) kp (.tup [.int ((ah ds).filter dn).length,.int 0]) kp=some (.tup [.int ((ah ds).filter dn).length,.int 0]):=ae
  generalize upd (upd GA lG (.lst ys)) kp (.tup [.int ((ah ds).filter dn).length,.int 0])=HC at eC kpC ⊢
  obtain⟨nm2,lg2,tt2,hnm2,htt2,hHtt2,_⟩:=pair 2 Qk
  have s1C:=s18.trans eC
  have last:atI (ts.map V.ref) (-1)=some (.ref tt2):=by
   have:ixN (ts.map V.ref).length (-1)=some 2:=by
    rw[q5,tsl,esl]
    decide
   unfold atI
   rw[this]
   show(ts.map V.ref)[2]?=_
   rw[qD,htt2]
   rfl
  have dC:=eC _ _ d8
  refine⟨_,rfl,_,rfl,t,_,2,_,rfl,rfl,SqT.of (s1C _ _ (s1 _ _ ht)),rfl,1,rfl,le,_,_,_,rfl,rfl,SqL.of (s1C _ _ (s1 _ _ hts)),last,tt2,_,1,_,rfl,rfl,SqT.of (s1C _ _ (s1 _ _ hHtt2)),rfl,d,_,rfl,.inl ⟨_,.inl 2,dC,rfl,by unfold eY;rw[q5,List.length_range];exact i8 Qo,rfl⟩,?_⟩
  obtain⟨k0,k1,k2,rfl⟩:∃k0 k1 k2,ks=[k0,k1,k2]:=by
   match ks,k3 with
   |[k0,k1,k2],_=>exact⟨k0,k1,k2,rfl⟩
  obtain⟨nm0,_,_,hnm0,_⟩:=pair 0 Qk
  obtain⟨nm1,_,_,hnm1,_⟩:=pair 1 Qk
  have h0:=eC _ _ (hks 0 nm0 k0 hnm0 rfl)
  have h1:=eC _ _ (hks 1 nm1 k1 hnm1 rfl)
  have ntC:∀{b:Addr}{xs:List V},HC b=some (.tup xs)->b≠d:=fun h z=>by rw[z,dC]at h;cases h
  have sH:aa H HC:=s1.trans s1C
  refine⟨_,rfl,q _ d k0 k1 kp (fun b o h=>by rw[aj (fun z=>by rw[z,ndH]at h;cases h)];exact sH _ _ h) ndH ?_ ?_ ?_ ?_⟩
  ·rw[ae]
   rfl
  ·rw[aj (ntC h0),h0,fN (vn ss2 snd st hnm0 Qk),fN (vm ss2 snd st hnm0 Qk)]
   rfl
  ·rw[aj (ntC h1),h1,fN (vn ss2 snd st hnm1 Qk),fN (vm ss2 snd st hnm1 Qk)]
   rfl
  ·rw[aj (ntC kpC),kpC,fN (CG ss2 snd st),CF ss2 snd st]
   rfl
def LtS (z:Str):Bool:=(z.cps.toList.all fun c=>decide (97<=c) && decide (c<=122)) && !z.cps.toList.isEmpty
theorem Ba:∀(r:Fin 14) (u v:Fin 3),∀z∈nm2 (r.val:Nat) (u.val:Nat) (v.val:Nat),LtS z=true:=Qd
theorem Bc:∀(r:Fin 14) (k:Fin 6),LtS (Txt.mul (chN ((r.val:Nat):Int)) (((k.val:Nat):Int)+1))=true:=Qd
theorem jF (c:Int):∀z∈nmN c,LtS z=true:=by
 have r0:0<=c / 9 % 14:=Int.emod_nonneg _ Qk
 have r1:c / 9 % 14<14:=Int.emod_lt_of_pos _ Qk
 unfold nmN
 split
 ·intro z hz
  obtain⟨k,hk,rfl⟩:=List.mem_map.mp hz
  have hk:=List.mem_range.mp hk
  have ok:=Bc ⟨(c / 9 % 14).toNat,Qo⟩ ⟨k,hk⟩
  dsimp only at ok
  rw[show(((c / 9 % 14).toNat:Nat):Int)=c / 9 % 14 by omega]at ok
  have:chN (c / 9+(0:Nat))=chN (c / 9 % 14):=by
   unfold chN
   rw[show(c / 9+((0:Nat):Int)) % 14=c / 9 % 14 % 14 by omega]
  rw[this]
  exact ok
 ·have u0:0<=c % 3:=Int.emod_nonneg _ Qk
  have u1:c % 3<3:=Int.emod_lt_of_pos _ Qk
  have v0:0<=c / 3 % 3:=Int.emod_nonneg _ Qk
  have v1:c / 3 % 3<3:=Int.emod_lt_of_pos _ Qk
  have en:((List.range 6).map fun k:Nat=>Txt.mul ("q":Str) (c % 3)++chN (c / 9+k)++Txt.slice ("vz":Str) none (some (c / 3 % 3)))=nm2 (c / 9 % 14) (c % 3) (c / 3 % 3):=by
   unfold nm2
   refine List.map_congr_left fun k _=>?_
   have:chN (c / 9+k)=chN (c / 9 % 14+k):=by
    unfold chN
    rw[show(c / 9+(k:Int)) % 14=(c / 9 % 14+(k:Int)) % 14 by omega]
   rw[this]
  have ok:=Ba ⟨(c / 9 % 14).toNat,Qo⟩ ⟨(c % 3).toNat,Qo⟩ ⟨(c / 3 % 3).toNat,Qo⟩
  dsimp only at ok
  rw[show(((c / 9 % 14).toNat:Nat):Int)=c / 9 % 14 by omega,show(((c % 3).toNat:Nat):Int)=c % 3 by omega,show(((c / 3 % 3).toNat:Nat):Int)=c / 3 % 3 by omega,<- en]at ok
  exact ok
theorem LtS.sign {z:Str}(h:LtS z=true):∀c∈z.cps.toList,97<=c:=fun c hc=>by
 unfold LtS at h
 rw[Bool.and_eq_true]at h
 have:=List.all_eq_true.mp h.1 c hc
 simp only[Bool.and_eq_true,decide_eq_true_eq]at this
 exact this.1
theorem kf (x y:Str) (c:Nat) (h:c∈y.cps.toList):c∈(x++y).cps.toList:=by
 show c∈(x.cps++y.cps).toList
 rw[Array.toList_append]
 exact qH _ h
theorem nq {z q:Str}(h:LtS z=true):q++(">":Str)≠z/\q++("<":Str)≠z/\(">":Str)≠z:=by
 refine⟨fun e=>?_,fun e=>?_,fun e=>?_⟩
 ·have:=LtS.sign h 62 (by rw[<- e];exact kf q _ 62 Qd)
  omega
 ·have:=LtS.sign h 60 (by rw[<- e];exact kf q _ 60 Qd)
  omega
 ·have:=LtS.sign h 62 (by rw[<- e];decide +kernel)
  omega
theorem Bw {z:Str}(h:LtS z=true):fZ z=true:=by
 have h':=h
 unfold LtS at h'
 rw[Bool.and_eq_true]at h'
 cases e:z.cps.toList with
 |nil=>rw[e]at h';simp at h'
 |cons c r=>
  have:=LtS.sign h c (by rw[e];exact qk)
  unfold fZ
  rw[e,List.any_cons]
  simp only[Bool.or_eq_true,Bool.not_eq_true',Bool.and_eq_false_iff,decide_eq_false_iff_not]
  left;right;omega
theorem rR {z:Str}{c:Nat}(h:c∈z.cps.toList) (k:57<c):fZ z=true:=by
 unfold fZ
 refine List.any_eq_true.mpr ⟨c,h,?_⟩
 simp only[Bool.not_eq_true',Bool.and_eq_false_iff,decide_eq_false_iff_not]
 right;omega
theorem CZ (c:Int):∀z∈crN c,fZ z=true:=fun z hz=>by
 unfold crN at hz
 simp only[qg,qt,qQ,or_false]at hz
 rcases hz with(rfl|h)|rfl|rfl|rfl|rfl
 ·decide +kernel
 ·exact Bw (jF c z h)
 ·exact rR (kf _ _ 62 Qd) Qk
 ·exact rR (kf _ _ 60 Qd) Qk
 ·decide +kernel
 ·decide +kernel
theorem Dm (ns:List Int):(∀e∈ah (bdN ns),NcD e)/\(∀e∈ah (bdN ns),∀s∈e.strs,PyData.strOk s=true)/\∀s∈ssN (cN ns),PyData.strOk s.1=true:=by
 obtain⟨z6,znd,zok⟩:=iC (cN ns)
 obtain⟨bx,dp,fl⟩:=oj (ss:=[(nmN (cN ns)).getD 1 (">":Str),("w":Str)]) z6 rfl (c8 ns)
 have in1:(nmN (cN ns)).getD 1 (">":Str)∈nmN (cN ns):=gX Qo
 have sgo:∀s∈sgL,PyData.strOk s=true:=Qd
 have inS:∀{s:Str},s∈[(nmN (cN ns)).getD 1 (">":Str),("w":Str)]->PyData.strOk s=true:=fun{s} h=>by
  simp only[qt,qQ,or_false]at h
  rcases h with rfl|rfl
  ·exact(zok _ in1).2.1
  ·decide +kernel
 refine⟨fun e he=>?_,fun e he s hs=>?_,fun s hs=>?_⟩
 ·have h:=(bx e he).1
  cases e with
  |put q x=>exact(nq (jF _ x h.2)).1
  |get q x=>exact(nq (jF _ x h.2)).2.1
  |give x=>exact(nq (q:="") (jF _ x h)).2.2
  |_=>exact trivial
 ·obtain⟨h,h'⟩:=bx e he
  cases e with
  |set x va sg vb=>
   simp only[a8.strs,qt,qg]at hs
   rcases hs with rfl|rfl|hs|hs
   ·exact(zok _ h.1).2.1
   ·exact sgo _ h'
   ·exact(zok _ (h.2.1.names _ hs)).2.1
   ·exact(zok _ (h.2.2.names _ hs)).2.1
  |put q x=>
   simp only[a8.strs,qt,qQ,or_false]at hs
   rcases hs with rfl|rfl
   ·exact inS h.1
   ·exact(zok _ h.2).2.1
  |get q x=>
   simp only[a8.strs,qt,qQ,or_false]at hs
   rcases hs with rfl|rfl
   ·exact inS h.1
   ·exact(zok _ h.2).2.1
  |give x=>simp only[a8.strs,qt,qQ,or_false]at hs;rw[hs];exact(zok _ h).2.1
  |cond x t o=>simp only[a8.strs,qt,qQ,or_false]at hs;rw[hs];exact(zok _ h).2.1
  |whl x b=>simp only[a8.strs,qt,qQ,or_false]at hs;rw[hs];exact(zok _ h).2.1
  |rep n b=>simp[a8.strs]at hs
 ·unfold ssN at hs
  simp only[qt,qQ,or_false]at hs
  rcases hs with rfl|rfl
  ·exact(zok _ in1).2.1
  ·show PyData.strOk ("w":Str)=true
   decide +kernel
theorem kI (xs:List Int):SeqAt.shaped (.tuple (xs.map PyData.int))=true:=by
 obtain⟨h1,h2⟩:=ub xs
 unfold SeqAt.shaped
 simp[PyData.canLay0,PyData.depth,h1]
 omega
theorem Bm {zs:List Str}(nd:zs.Nodup) (e:Nat):zs.map (fun z=>((e+zs.idxOf z:Nat):Int))=wid e zs.length:=by
 refine List.ext_getElem? fun i=>?_
 unfold wid
 rw[qD,qD]
 by_cases h:i<zs.length
 ·rw[qb h,List.getElem?_range h]
  show some (((e+zs.idxOf zs[i]:Nat):Int))=some ((e+i:Nat):Int)
  rw[nd.idxOf_getElem i h]
 ·rw[List.getElem?_eq_none Qo,List.getElem?_eq_none (by rw[List.length_range];omega)]
  rfl
theorem CI {ss:List (Str×Int)}{ds:List a8}{l:Int}(h2:ss.length=2) (snd:(esN ss).Nodup) (st:∀d∈ah ds,∀q x,d=.put q x\/d=.get q x->q∈ss.map (·.1)) (h:l<0\/3<=l):eg (feN ss) l ds=0/\et (feN ss) l ds=0:=by
 have fe3:∀q∈esN ss,feN ss q≠l:=fun q hq e=>by
  have lt:=List.idxOf_lt_length_of_mem hq
  have el:(esN ss).length=3:=by unfold esN;rw[qa,q5,h2];rfl
  have e:(((esN ss).idxOf q:Nat):Int)=l:=e
  omega
 have z0:∀g:a8->Nat,(∀d∈ah ds,g d=0)->((ah ds).map g).sum=0:=fun g hg=>by
  rw[List.map_congr_left (g:=fun _=>0) hg]
  clear hg
  induction ah ds with
  |nil=>rfl
  |cons d r ih=>rw[qR,List.sum_cons,ih]
 refine⟨z0 _ fun d hd=>?_,z0 _ fun d hd=>?_⟩
 ·cases d with
  |put q x=>
   show[feN ss q].count l=0
   rw[dW,qZ (fe3 q (iJ (st _ hd q x (.inl rfl))))]
  |give x=>
   show[feN ss (">":Str)].count l=0
   rw[dW,qZ (fe3 _ (qH _ (qS.mpr rfl)))]
  |_=>rfl
 ·cases d with
  |get q x=>
   show[feN ss q].count l=0
   rw[dW,qZ (fe3 q (iJ (st _ hd q x (.inr rfl))))]
  |_=>rfl
theorem tf {f:PtG->List Int}{Ps:List PtG}{p:PtG}(h:p∈Ps) (l:Int):(f p).count l<=(Ps.flatMap f).count l:=by
 obtain⟨a,b,rfl⟩:=List.append_of_mem h
 rw[qU,qE,List.count_append,List.count_append]
 omega
theorem nU {f:PtG->List Int}:∀{Ps:List PtG},(∀p∈Ps,(f p).length<=64)->(Ps.flatMap f).length<=64 * Ps.length
 |[],_=>qd _
 |p::r,h=>by
  have h1:=h p qk
  have h2:=nU (Ps:=r) fun q hq=>h q (qj _ hq)
  rw[qE,qa,qz]
  omega
theorem nK {a b:Nat}{l:Int}:ind a b l<=1:=by unfold ind;split<;>omega
structure DF (ss:List (Str×Int)) (ds:List a8) (n0 n:Nat) (Ps:List PtG):Prop where
 g:∀l,(Ps.flatMap PtG.gvs).count l=ind n0 n l+eg (feN ss) l ds
 t:∀l,(Ps.flatMap PtG.tks).count l=ind 3 n l+et (feN ss) l ds
 so:∀p∈Ps,fW 3 p
 n3:3<=n0
 nn:n0<=n
theorem Be {ss:List (Str×Int)}{ds:List a8}{zs:List Str}{f:aD}{N:af}(h2:ss.length=2) (lay:Lay (feN ss) (br ss zs f) ds N) (nd:zs.Nodup) (sub:∀k∈cards ds,k∈zs) (nf:∀z∈zs,fZ z=true) (nc:∀e∈ah ds,NcD e) (few:zs.length<=20) (lt:N.n<10000000000):
 DF ss ds (br ss zs f).n N.n (N.ps++[.pas (zs.map N.fc) [] []]):=by
 have en:(br ss zs f).n=3+zs.length:=by
  show List.length (_++_)=_
  rw[qa,qa,q5,q5,h2]
  rfl
 have ef:zs.map (br ss zs f).fc=wid 3 zs.length:=by
  have:(br ss zs f).fc=fun z=>((3+zs.idxOf z:Nat):Int):=by
   funext z
   show((ss.length+1+zs.idxOf z:Nat):Int)=_
   rw[h2]
  rw[this]
  exact Bm nd 3
 have bal:=fun l=>lay.bal (l:=l) (B:=10000000000) CY lt zs nd sub (fun n _ hn hz=>CW hn (nf _ hz) rfl) nc
 have ge0:Ge 3 zs (br ss zs f):=⟨Qo,fun z hz=>by
  have:(br ss zs f).fc z∈wid 3 zs.length:=by rw[<- ef];exact List.mem_map.mpr ⟨z,hz,rfl⟩
  exact_mod_cast (ba this).1⟩
 have ge1:=ge0.mo lay.mo
 have all:=lay.allP (e:=3) zs sub ge0 fun p hp=>by simp[br]at hp
 refine⟨fun l=>?_,fun l=>?_,fun p hp=>?_,Qo,lay.mo.n⟩
 ·have h:=(bal l).g
  have e1:gc l (N.ps++[.pas (zs.map N.fc) [] []])=gc l N.ps:=by rw[uE];rfl
  have e2:gc l (br ss zs f).ps=0:=rfl
  show gc l (N.ps++[.pas (zs.map N.fc) [] []])=_
  rw[e1,h,e2,Nat.zero_add]
 ·have h:=(bal l).t
  have e1:tc l (N.ps++[.pas (zs.map N.fc) [] []])=tc l N.ps+(zs.map N.fc).count l:=oU
  have e2:tc l (br ss zs f).ps=0:=rfl
  have e3:opn zs (br ss zs f).fc l=ind 3 (3+zs.length) l:=by unfold opn;rw[ef,bU]
  have e4:opn zs N.fc l=(zs.map N.fc).count l:=rfl
  have i:=bX (l:=l) (show 3<=3+zs.length by omega) (show 3+zs.length<=N.n by have:=lay.mo.n;omega)
  show tc l (N.ps++[.pas (zs.map N.fc) [] []])=_
  rw[e1]
  rw[e2,e3,en]at h
  omega
 ·rcases qg.mp hp with h|h
  ·exact all p h
  ·rw[qS.mp h]
   exact .of (by show([]:List Int).length<=64;decide) (by show(zs.map N.fc).length<=64;rw[q5];omega) (fun x hx=>by cases hx) (iE ge1 fun z hz=>hz)
theorem Ay (T:Tx P w K mg a):aC P w K mg base CX0 76 a.law a.fd_law ["_law_script"] (i7 K):=by
 refine T.F_law.ok cS (fun vs H Q E h=>?_) (fun cdv A outer s H vs Q E hr h=>?_)
 ·obtain⟨_,_,rfl,_⟩:=h
  rfl
 obtain⟨sa,ns,rfl,hS,l63,hbits,only,q⟩:=h
 refine⟨_,(ai (ax (i:=1) cS.nd rfl (Or.inl rfl) (az (Am T) (hr.mono Qk) rfl T.m_net_of T.F_net_of.kp T.b_net_of .nil ao (a9 (az (tL T) (hr.mono Qk) rfl T.m__law_program T.F__law_program.kp T.b__law_program .nil ao (a9 (pq 0) ac)) (a9 (az (AG T) (hr.mono Qk) rfl T.m__law_numbers T.F__law_numbers.kp T.b__law_numbers .nil ao (a9 (pq 0) ac)) ac))))
  (ai (ax (i:=2) cS.nd rfl (Or.inl rfl) (aL ac))
  (ai (ax (i:=3) cS.nd rfl (Or.inl rfl) (aL ac))
  (ai (cj PassesOwn.never rfl (bQ (ap ar (pq 1) ag (fun _ _=>rfl))) (bf (i:=4) cS.nd rfl (Or.inl rfl))
  (ai (aY (PW.pt (dL (aJ eD (bp vO rfl T.z_len PySem.boot_len (a9 (bR (vN rfl) rfl T.z_set PyProof.Rows.Boot.«set» (a9 (az (mR T) (hr.mono Qk) rfl T.m__law_given T.F__law_given.kp T.b__law_given .nil ao (a9 (pq 4) ac)) ac)) ac)) (bp bM rfl T.z_len PySem.boot_len (a9 (az (mR T) (hr.mono Qk) rfl T.m__law_given T.F__law_given.kp T.b__law_given .nil ao (a9 (pq 4) ac)) ac)) (aP _)) (io (aJ eD (bp vO rfl T.z_len PySem.boot_len (a9 (bR (vN rfl) rfl T.z_set PyProof.Rows.Boot.«set» (a9 (az (mQ T) (hr.mono Qk) rfl T.m__law_taken T.F__law_taken.kp T.b__law_taken .nil ao (a9 (pq 4) ac)) ac)) ac)) (bp bM rfl T.z_len PySem.boot_len (a9 (az (mQ T) (hr.mono Qk) rfl T.m__law_taken T.F__law_taken.kp T.b__law_taken .nil ao (a9 (pq 4) ac)) ac)) (aP _))))) (aq (aH fD)) bD)
  (ai (ax (i:=2) cS.nd rfl (Or.inl rfl) (ay cg (pq 2) (az (mR T) (hr.mono Qk) rfl T.m__law_given T.F__law_given.kp T.b__law_given .nil ao (a9 (pq 4) ac))))
  (aq (ax (i:=3) cS.nd rfl (Or.inl rfl) (ay cg (pq 3) (az (mQ T) (hr.mono Qk) rfl T.m__law_taken T.F__law_taken.kp T.b__law_taken .nil ao (a9 (pq 4) ac))))))))
  (ai (ax (i:=2) cS.nd rfl (Or.inl rfl) (az (tM T) (hr.mono Qk) rfl T.m__law_counted T.F__law_counted.kp T.b__law_counted .nil ao (a9 (pq 2) (a9 (bp bM rfl T.z_len PySem.boot_len (a9 (ap ar (pq 1) ag (fun _ _=>rfl)) ac)) ac))))
  (ai (ax (i:=3) cS.nd rfl (Or.inl rfl) (az (tM T) (hr.mono Qk) rfl T.m__law_counted T.F__law_counted.kp T.b__law_counted .nil ao (a9 (pq 3) (a9 (bp bM rfl T.z_len PySem.boot_len (a9 (ap ar (pq 1) ag (fun _ _=>rfl)) ac)) ac))))
  (ai (aY (PW.pt (dL (aJ m9 (pq 2) eJ (aP _)) (dL (aJ m9 (pq 3) eJ (aP _)) (dL (jy (gE (bp ig rfl T.z_isinstance PyProof.Rows.Boot.«isinstance» (a9 (ap ar (pq 1) ag (fun _ _=>rfl)) (a9 (ix (v:=.ty "list") rfl T.z_list PyProof.Rows.Boot.«list» rfl) ac))))) (io (aJ m8 (bp bM rfl T.z_len PySem.boot_len (a9 (ap ar (pq 1) ag (fun _ _=>rfl)) ac)) ag (aP _))))))) (aq (aH fD)) bD)
  (ai (ax (i:=5) cS.nd rfl (Or.inl rfl) (az (AJ T) (hr.mono Qk) rfl T.m__law_ends T.F__law_ends.kp T.b__law_ends .nil ao (a9 (pq 1) (a9 (az (tL T) (hr.mono Qk) rfl T.m__law_program T.F__law_program.kp T.b__law_program .nil ao (a9 (pq 0) ac)) ac))))
  (ai (aY (aJ m9 (pq 5) eJ (aP _)) (aq (aH fD)) bD)
  (ai (cj PassesOwn.never rfl (sT rfl T.z_enumerate (a9 (ap ar (pq 1) ag (fun _ _=>rfl)) ac)) (gG rfl (cU (bf (i:=6) cS.nd rfl (Or.inl rfl)) (cU (bf (i:=7) cS.nd rfl (Or.inl rfl)) gF)))
  (aq (aY (aJ tw (pq 6) (pq 5) (by with_unfolding_all rfl)) (aq (aY (aJ (A5 hr.units) (aK (a9 (ap bF (pq 2) (pq 6) (fun _ _=>rfl)) (a9 (ap bF (pq 3) (pq 6) (fun _ _=>rfl)) ac))) (jC hr.one (pq 5) (pq 6) (fun _ _=>rfl)) (aP _)) (aq (aH fD)) bD)) (aq (aY (PW.pt (dL (aJ m8 (ap bF (pq 3) (pq 6) (fun _ _=>rfl)) ag (aP _)) (dL (aJ jw (ap bF (pq 2) (pq 6) (fun _ _=>rfl)) ag (aP _)) (io (aJ eD (ay ft (ap bF (pq 2) (pq 6) (fun _ _=>rfl)) (bp bM rfl T.z_len PySem.boot_len (a9 (ap ar (pq 7) ag (fun _ _=>rfl)) ac))) ag (aP _)))))) (aq (aH fD)) bD)))))
  (aq (aH fD)))))))))))),?_⟩
 refine⟨_,rfl,sa,ns,rfl,hS,l63,hbits,fun H1 pr la ls lb us s1 npr RP=>?_⟩
 refine⟨_,rfl,sa,ns,rfl,s1.seq hS,l63,fun H2 ln s2 nln hln=>?_⟩
 obtain⟨PO,st⟩:=zA l63 (RP.same s2) hln
 obtain⟨nc,sto,sso⟩:=Dm ns
 refine⟨pr,la,ls,lb,ln,_,_,_,_,us,_,rfl,PO,fun H3 t c le zs N s3 nt ht B prs cr lay gr=>?_⟩
 have zC:∀z∈zs,z∈crN (cN ns):=fun z hz=>PO.akC z ((cr.mem z).mp hz)
 have zf:zs.length<=20:=qx (cq cr.nd zC) PO.c20
 have fl62:(ah (bdN ns)).length<=62:=by
  obtain⟨z6,_,_⟩:=iC (cN ns)
  obtain⟨_,_,fl⟩:=oj (ss:=[(nmN (cN ns)).getD 1 (">":Str),("w":Str)]) z6 rfl (c8 ns)
  have cl:(c8 ns).length<=62:=by unfold c8;rw[qJ,qY];omega
  exact qx fl cl
 have wl:=oI (bdN ns)
 have n0:(br (ssN (cN ns)) zs (bc ((akN (cN ns)).zip (ck ns)))).n=3+zs.length:=by
  show List.length (_++_)=_
  rw[qa,qa,q5,q5]
  rfl
 have nl:N.n<=50000:=by
  have h:=gr.l2
  have:(br (ssN (cN ns)) zs (bc ((akN (cN ns)).zip (ck ns)))).ls.length=3+zs.length:=n0
  have:N.ls.length<=50000:=Qo
  exact this
 have pl0:N.ps.length<=12400:=by
  have h:=gr.p2
  have:(br (ssN (cN ns)) zs (bc ((akN (cN ns)).zip (ck ns)))).ps.length=0:=rfl
  omega
 have sub:∀k∈cards (bdN ns),k∈zs:=fun k hk=>(cr.mem k).mpr (by unfold cM;simp only[qg];first|exact .inl (.inl (.inr hk))|simp[hk])
 have NA:=Be rfl lay cr.nd sub (fun z hz=>CZ _ z (zC z hz)) nc zf Qo
 obtain⟨ps,hps,rp⟩:=B.pt
 obtain⟨lv,hlv,rl⟩:=B.ln
 have eP:(N.part (.pas (zs.map N.fc) [] [])).ps=N.ps++[.pas (zs.map N.fc) [] []]:=rfl
 rw[eP]at rp
 have rl:R2s (fun v d=>Ln H3 v d.lg d.on) lv N.ls:=rl
 have Pl:(N.ps++[PtG.pas (zs.map N.fc) [] []]).length<=12401:=by rw[qa,List.length_singleton];omega
 obtain⟨lsN,elN⟩:∃nl,N.ls=(br (ssN (cN ns)) zs (bc ((akN (cN ns)).zip (ck ns)))).ls++nl:=(lay.mg (fun z hz=>by
  have hz:z∈zs:=hz
  have:=List.idxOf_lt_length_of_mem hz
  show((2+1+zs.idxOf z:Nat):Int)<((_:Nat):Int)
  rw[n0]
  omega) sub).ls
 generalize N.ps++[PtG.pas (zs.map N.fc) [] []]=Ps at rp NA Pl
 have pl:=rp.len
 have gle:∀i,((Ps.take i).flatMap PtG.gvs).length<=800000:=fun i=>by
  have h1:=nU (f:=PtG.gvs) (Ps:=Ps.take i) fun p hp=>(NA.so p (List.mem_of_mem_take hp)).g
  rw[qJ]at h1
  omega
 have tle:∀i,((Ps.take i).flatMap PtG.tks).length<=800000:=fun i=>by
  have h1:=nU (f:=PtG.tks) (Ps:=Ps.take i) fun p hp=>(NA.so p (List.mem_of_mem_take hp)).t
  rw[qJ]at h1
  omega
 have out:=fun l h=>CI (l:=l) (ss:=ssN (cN ns)) (ds:=bdN ns) rfl PO.snd st h
 have gnd:∀p∈Ps,p.gvs.Nodup:=fun p hp=>List.nodup_iff_count.mpr fun l=>by
  by_cases h:l<3
  ·exact(NA.so p hp).gc l h
  ·have h1:=tf (f:=PtG.gvs) hp l
   rw[NA.g l,(out l (.inr Qo)).1]at h1
   have:=nK (a:=(br (ssN (cN ns)) zs (bc ((akN (cN ns)).zip (ck ns)))).n) (b:=N.n) (l:=l)
   omega
 have tnd:∀p∈Ps,p.tks.Nodup:=fun p hp=>List.nodup_iff_count.mpr fun l=>by
  by_cases h:l<3
  ·exact(NA.so p hp).tc l h
  ·have h1:=tf (f:=PtG.tks) hp l
   rw[NA.t l,(out l (.inr Qo)).2]at h1
   have:=nK (a:=3) (b:=N.n) (l:=l)
   omega
 refine⟨qr _,fun g0 hg0=>⟨qr _,fun t0 ht0=>?_⟩⟩
 have e4:=(aa.new hg0 (.lst [])).trans (aa.new ht0 (.lst []))
 have g4:=aa.new ht0 (.lst []) _ _ (ae (H:=H3) (a:=g0) (o:=.lst []))
 have t4:upd (upd H3 g0 (.lst [])) t0 (.lst []) t0=some (.lst []):=ae
 generalize upd (upd H3 g0 (.lst [])) t0 (.lst [])=H4 at e4 g4 t4 ⊢
 refine⟨_,rfl,t,_,1,_,rfl,rfl,SqT.of (e4 _ _ ht),rfl,c.lp,rfl,⟨_,SqL.of (e4 _ _ hps)⟩,?_⟩
 refine db (K:=K) (a:=c.lp) (xs:=ps) (fun i σ H5=>∃g tt v4,σ=[some (.ref sa),some (.ref t),some (.ref g),some (.ref tt),v4,none,none,none]/\aa H3 H5/\H5 g=some (.lst (((Ps.take i).flatMap PtG.gvs).map V.int))/\H5 tt=some (.lst (((Ps.take i).flatMap PtG.tks).map V.int))) ⟨g0,t0,_,rfl,e4,g4,t4⟩ ?_ ?_ ?_
 ·rintro i σ H5 _ ⟨_,_,_,_,s5,_⟩
  exact SqL.of (s5 _ _ hps)
 ·rintro i x σ H5 hx ⟨g,tt,v4,rfl,s5,hg,htt⟩
  obtain⟨p,hp,hrp⟩:=rp.at hx
  have pm:=qy hp
  have so:=NA.so p pm
  have PH:∀{G:Hp},aa H5 G->PgH G x p:=fun{G} sg=>hrp.keep fun b xs h=>sg _ _ (s5 _ _ h)
  have pg:(Ps.take (i+1)).flatMap PtG.gvs=(Ps.take i).flatMap PtG.gvs++p.gvs:=by rw[qq,hp,qU];simp
  have ptk:(Ps.take (i+1)).flatMap PtG.tks=(Ps.take i).flatMap PtG.tks++p.tks:=by rw[qq,hp,qU];simp
  have gl:=gle i
  have tl:=tle i
  have sg:=so.g
  have sl:=so.t
  refine⟨_,rfl,x,p,rfl,PH (aa.refl _),so,fun H6 l6 s6 n6 h6=>⟨l6,_,rfl,SqL.of h6,gnd p pm,Qo,fun z6 hz6=>⟨z6,_,rfl,ae,?_⟩⟩⟩
  have e6:=s6.trans (aa.new hz6 (g9 P w z6 p.gvs))
  refine⟨_,rfl,x,p,rfl,PH e6,so,fun H7 l7 s7 n7 h7=>⟨l7,_,rfl,.inl (SqL.of h7),_,_,rfl,rfl,_,rfl,bi (decide_eq_false (by rw[q5];omega)) ?_⟩⟩
  have s57:=e6.trans s7
  refine⟨_,rfl,x,p,rfl,PH s57,so,fun H8 l8 s8 n8 h8=>⟨l8,_,rfl,SqL.of h8,tnd p pm,Qo,fun z8 hz8=>⟨z8,_,rfl,ae,?_⟩⟩⟩
  have e8:=(s57.trans s8).trans (aa.new hz8 (g9 P w z8 p.tks))
  refine⟨_,rfl,x,p,rfl,PH e8,so,fun H9 l9 s9 n9 h9=>⟨l9,_,rfl,.inl (SqL.of h9),_,_,rfl,rfl,_,rfl,bi (decide_eq_false (by rw[q5];omega)) ?_⟩⟩
  have s59:=e8.trans s9
  refine⟨_,rfl,_,rfl,x,p,rfl,PH s59,so,fun HA lA sA nA hA=>⟨g,lA,_,_,rfl,rfl,SqL.of (sA _ _ (s59 _ _ hg)),SqL.of hA,aX (m:=900000) (by rw[q5,q5];omega),fun g' hg'=>?_⟩⟩
  have eA:=(s59.trans sA).trans (aa.new hg' (.lst (((Ps.take i).flatMap PtG.gvs).map V.int++p.gvs.map V.int)))
  have gA:upd HA g' (.lst (((Ps.take i).flatMap PtG.gvs).map V.int++p.gvs.map V.int)) g'=some (.lst (((Ps.take (i+1)).flatMap PtG.gvs).map V.int)):=by rw[ae,pg,qO]
  generalize upd HA g' (.lst (((Ps.take i).flatMap PtG.gvs).map V.int++p.gvs.map V.int))=HB at eA gA ⊢
  refine⟨_,rfl,_,rfl,x,p,rfl,PH eA,so,fun HC lC sC nC hC=>⟨tt,lC,_,_,rfl,rfl,SqL.of (sC _ _ (eA _ _ htt)),SqL.of hC,aX (m:=900000) (by rw[q5,q5];omega),fun t' ht'=>?_⟩⟩
  have eC:=sC.trans (aa.new ht' (.lst (((Ps.take i).flatMap PtG.tks).map V.int++p.tks.map V.int)))
  refine⟨g',t',_,rfl,s5.trans (eA.trans eC),eC _ _ gA,?_⟩
  rw[ae,ptk,qO]
 rintro σ H5 ⟨g,tt,v4,rfl,s5,hg,htt⟩
 have gl:=gle ps.length
 have tl:=tle ps.length
 have pl':Ps.take ps.length=Ps:=List.take_of_length_le Qo
 rw[pl']at hg htt gl tl
 have lvl:lv.length=N.n:=rl.len
 have n3:=NA.n3
 have nn:=NA.nn
 have cpos:∀{xs:List Int}{x:Int},x∈xs->0<xs.count x:=fun h=>List.count_pos_iff.mpr h
 have grng:∀x∈Ps.flatMap PtG.gvs,0<=x/\x<(lv.length:Int):=fun x hx=>by
  have h1:=cpos hx
  rw[NA.g x]at h1
  by_cases h:x<0\/3<=x
  ·rw[(out x h).1]at h1
   unfold ind at h1
   split at h1<;>omega
  ·omega
 have trng:∀x∈Ps.flatMap PtG.tks,0<=x/\x<(lv.length:Int):=fun x hx=>by
  have h1:=cpos hx
  rw[NA.t x]at h1
  by_cases h:x<0\/3<=x
  ·rw[(out x h).2]at h1
   unfold ind at h1
   split at h1<;>omega
  ·omega
 refine⟨_,rfl,_,rfl,t,_,0,_,rfl,rfl,SqT.of (s5 _ _ ht),rfl,c.ll,_,rfl,.inl (SqL.of (s5 _ _ hlv)),g,_,lv.length,rfl,hg,grng,Qo,Qo,fun H6 ga s6 nga hga=>?_⟩
 have s36:=s5.trans s6
 refine⟨_,rfl,_,rfl,t,_,0,_,rfl,rfl,SqT.of (s36 _ _ ht),rfl,c.ll,_,rfl,.inl (SqL.of (s36 _ _ hlv)),tt,_,lv.length,rfl,s6 _ _ htt,trng,Qo,Qo,fun H7 ta s7 nta hta=>?_⟩
 have s37:=s36.trans s7
 obtain⟨tsP,hle,tsl,hpr⟩:=prs
 refine⟨_,rfl,rfl,_,rfl,bi (by simp) ?_⟩
 refine⟨_,rfl,rfl,_,rfl,bi (by simp) ?_⟩
 refine⟨_,rfl,t,_,2,_,rfl,rfl,SqT.of (s37 _ _ ht),rfl,_,_,_,true,rfl,.lst (s37 _ _ hle),rfl,_,rfl,bi rfl ?_⟩
 refine⟨_,rfl,t,_,2,_,rfl,rfl,SqT.of (s37 _ _ ht),rfl,le,_,rfl,.inl (SqL.of (s37 _ _ hle)),rfl,_,rfl,bi (by rw[q5,tsl,show(esN (ssN (cN ns))).length=3 from rfl];decide) ?_⟩
 have s17:=(s2.trans s3).trans s37
 refine⟨_,rfl,_,rfl,sa,ns,rfl,(s1.trans s17).seq hS,l63,hbits,fun H8 pr2 la2 ls2 lb2 us2 s8 npr2 RP2=>?_⟩
 have s38:=s37.trans s8
 refine⟨t,le,pr2,la2,ls2,lb2,_,_,_,ssN (cN ns),bdN ns,us2,rfl,s38 _ _ ht,⟨tsP,s38 _ _ hle,tsl,fun j tj z h1 h2=>s38 _ _ (hpr j tj z h1 h2)⟩,RP2,rfl,PO.snd,PO.dp,PO.fl,st,sto,sso,fun H9 d k0 k1 k2 s9 nd9 hd9 h0 h1 h2=>?_⟩
 have s39:=s38.trans s9
 have s79:=s8.trans s9
 refine⟨_,rfl,rfl,_,rfl,bi (by simp) ?_⟩
 refine⟨_,rfl,t,_,0,_,rfl,rfl,SqT.of (s39 _ _ ht),rfl,c.ll,_,rfl,SqL.of (s39 _ _ hlv),?_⟩
 have hga9:=s79 _ _ (s7 _ _ hga)
 have hta9:=s79 _ _ hta
 refine uO (K:=K) (l:=c.ll) (xs:=lv) (fun i σ HX=>(∃v6 v7,σ=[some (.ref sa),some (.ref t),some (.ref ga),some (.ref ta),v4,some (.ref d),v6,v7])/\aa H9 HX) ⟨⟨_,_,rfl⟩,aa.refl _⟩ ?_ ?_ ?_
 ·rintro i σ HX ⟨_,sx⟩
  exact SqL.of (sx _ _ (s39 _ _ hlv))
 ·rintro i x σ HX pp hx ⟨⟨v6,v7,rfl⟩,sx⟩ hpp
  obtain⟨dl,hdl,u,f,rfl,hu,hf⟩:=rl.at hx
  have il:i<N.n:=(qe.mp hdl).1
  refine⟨pp,_,rfl,SqT.of ae,rfl,_,_,rfl,_,_,rfl,rfl,?_⟩
  have sY:=sx.trans (aa.new hpp (.tup [.int i,.ref u]))
  generalize upd HX pp (.tup [.int i,.ref u])=HY at sY ⊢
  have gaY:=sY _ _ hga9
  have taY:=sY _ _ hta9
  have dY:=sY _ _ hd9
  have uY:=sY _ _ (s39 _ _ hu)
  have fY:=sY _ _ (s39 _ _ hf)
  have atg:((List.range lv.length).map fun k:Nat=>V.int ((((Ps.flatMap PtG.gvs).count (k:Int):Nat)):Int))[i]?=some (.int (((ind (br (ssN (cN ns)) zs (bc ((akN (cN ns)).zip (ck ns)))).n N.n i+eg (feN (ssN (cN ns))) i (bdN ns):Nat)):Int)):=by
   rw[qD,List.getElem?_range Qo]
   show some (V.int _)=_
   rw[NA.g]
  have att:((List.range lv.length).map fun k:Nat=>V.int ((((Ps.flatMap PtG.tks).count (k:Int):Nat)):Int))[i]?=some (.int (((ind 3 N.n i+et (feN (ssN (cN ns))) i (bdN ns):Nat)):Int)):=by
   rw[qD,List.getElem?_range Qo]
   show some (V.int _)=_
   rw[NA.t]
  refine⟨_,rfl,_,rfl,d,_,.inl (i:Int),rfl,dY,rfl,_,rfl,?_⟩
  by_cases i3:i<3
  ·have i0:ind (br (ssN (cN ns)) zs (bc ((akN (cN ns)).zip (ck ns)))).n N.n i=0:=by unfold ind;rw[qZ Qo]
   have j0:ind 3 N.n i=0:=by unfold ind;rw[qZ Qo]
   rw[i0,Nat.zero_add]at atg
   rw[j0,Nat.zero_add]at att
   obtain⟨kk,val,hkk⟩:∃kk,bA [((.inl 0:Key),V.ref k0),(.inl 1,.ref k1),(.inl 2,.ref k2)] (.inl (i:Int))=some (.ref kk)/\H9 kk=some (.tup [.int (eg (feN (ssN (cN ns))) i (bdN ns):Nat),.int (et (feN (ssN (cN ns))) i (bdN ns):Nat)]):=by
    match i,i3 with
    |0,_=>exact⟨k0,fi rfl,h0⟩
    |1,_=>exact⟨k1,(dI (fun z=>absurd (Sum.inl.inj z) Qk)).trans (fi rfl),h1⟩
    |2,_=>exact⟨k2,(dI (fun z=>absurd (Sum.inl.inj z) Qk)).trans ((dI (fun z=>absurd (Sum.inl.inj z) Qk)).trans (fi rfl)),h2⟩
   refine bY (by rw[val];rfl) ?_
   refine⟨_,rfl,_,rfl,ga,_,_,_,rfl,rfl,SqL.of gaY,cO atg,_,rfl,_,rfl,ta,_,_,_,rfl,rfl,SqL.of taY,cO att,gP,fun q1 hq1=>?_⟩
   have e1:=aa.new hq1 (.tup [.int (eg (feN (ssN (cN ns))) i (bdN ns):Nat),.int (et (feN (ssN (cN ns))) i (bdN ns):Nat)])
   refine⟨_,rfl,_,rfl,d,_,rfl,.inl ⟨_,.inl (i:Int),.inl (e1 _ _ dY),rfl,val.symm⟩,?_⟩
   refine⟨_,_,.tup (SqT.of ae) (nH [((eg (feN (ssN (cN ns))) i (bdN ns):Nat):Int),((et (feN (ssN (cN ns))) i (bdN ns):Nat):Int)]),.tup (SqT.of (e1 _ _ (sY _ _ hkk))) (nH [((eg (feN (ssN (cN ns))) i (bdN ns):Nat):Int),((et (feN (ssN (cN ns))) i (bdN ns):Nat):Int)]),kI _,kI _,_,rfl,?_⟩
   rw[SeqAt.eqv_refl _ (SeqAt.canLay_of_shaped (kI _))]
   refine bi rfl ⟨⟨_,_,rfl⟩,sY.trans e1⟩
  ·have no:bA [((.inl 0:Key),V.ref k0),(.inl 1,.ref k1),(.inl 2,.ref k2)] (.inl (i:Int))=none:=by
    rw[dI (fun z=>by have:(0:Int)=i:=Sum.inl.inj z;omega),dI (fun z=>by have:(1:Int)=i:=Sum.inl.inj z;omega),dI (fun z=>by have:(2:Int)=i:=Sum.inl.inj z;omega)]
    rfl
   refine bi (by rw[no];rfl) ?_
   have oi:=out (i:Int) (.inr Qo)
   have j1:ind 3 N.n i=1:=by unfold ind;rw[Q0 Qo]
   rw[j1,oi.2]at att
   rw[oi.1]at atg
   have gl1:=nK (a:=(br (ssN (cN ns)) zs (bc ((akN (cN ns)).zip (ck ns)))).n) (b:=N.n) (l:=(i:Int))
   have onl:1<=ind (br (ssN (cN ns)) zs (bc ((akN (cN ns)).zip (ck ns)))).n N.n i+dl.on.length:=by
    by_cases hi:i<(br (ssN (cN ns)) zs (bc ((akN (cN ns)).zip (ck ns)))).n
    ·have h1:(br (ssN (cN ns)) zs (bc ((akN (cN ns)).zip (ck ns)))).ls[i]?=some dl:=by
      rw[elN,List.getElem?_append_left hi]at hdl
      exact hdl
     unfold br at h1
     dsimp only at h1
     rw[qK (by rw[qa,q5];show 2+1<=_;omega),qD]at h1
     obtain⟨z,_,rfl⟩:=qP.mp h1
     show 1<=_+1
     omega
    ·unfold ind
     rw[Q0 Qo]
     omega
   generalize ind (br (ssN (cN ns)) zs (bc ((akN (cN ns)).zip (ck ns)))).n N.n i=gi at atg gl1 onl
   refine⟨_,rfl,_,rfl,ta,_,_,_,rfl,rfl,SqL.of taY,cO att,rfl,_,rfl,bi Qk ?_⟩
   refine⟨_,rfl,_,rfl,ga,_,_,_,rfl,rfl,SqL.of gaY,cO atg,_,_,rfl,rfl,_,rfl,bi (decide_eq_false Qo) ?_⟩
   refine⟨_,rfl,_,rfl,ga,_,_,_,rfl,rfl,SqL.of gaY,cO atg,_,rfl,u,_,1,_,rfl,rfl,SqT.of uY,rfl,f,_,rfl,.inr (SqT.of fY),_,_,rfl,rfl,_,_,rfl,rfl,_,rfl,bi (decide_eq_false (by rw[q5];omega)) ?_⟩
   exact⟨⟨_,_,rfl⟩,sY⟩
 ·rintro σ HX ⟨⟨v6,v7,rfl⟩,sx⟩
  exact q _
end
theorem fM (P:Params) (f:Addr) (st:Stmt) {x qual:Str}{oc:Value}{od an:Option Addr}{osl:Array (Option Value)}{kV doc pm cdv ct:Value}(l:(hk P).lookup f=some ⟨oc,od,.func (W.fnOf x qual (ff st) (dU st) (aB st) .none kV doc pm an cdv ct),osl⟩:=by k_is)
 (c:W.codeIn (hk P) cdv qual=true:=by k_is) (k:W.keepIn (hk P) (.ref f)=true:=by k_is):Fun (hk P) x qual st f (W.fnOf x qual (ff st) (dU st) (aB st) .none kV doc pm an cdv ct):=Cp l c k
theorem bH {R:List Value->Prop}(h:∀x0,R [x0]):∀us:List Value,us.length=1->R us
 |[_],_=>h _
theorem cn {R:List Value->Prop}(h:∀x0 x1,R [x0,x1]):∀us:List Value,us.length=2->R us
 |[_,_],_=>h _ _
theorem gT {R:List Value->Prop}(h:∀x0 x1 x2,R [x0,x1,x2]):∀us:List Value,us.length=3->R us
 |[_,_,_],_=>h _ _ _
theorem nw {R:List Value->Prop}(h:∀x0 x1 x2 x3,R [x0,x1,x2,x3]):∀us:List Value,us.length=4->R us
 |[_,_,_,_],_=>h _ _ _ _
theorem ua {R:List Value->Prop}(h:∀x0 x1 x2 x3 x4,R [x0,x1,x2,x3,x4]):∀us:List Value,us.length=5->R us
 |[_,_,_,_,_],_=>h _ _ _ _ _
theorem mM {P:Params}{h:Heap}{mg:Str->Option Value}{x:Str}{v:Value}(X:(hk P).In h) (G:h.Ns mainGlobals mg) (e:W.nsIn (hk P) mainGlobals x=some (some v):=by k_is):mg x=some v:=W.mg_of X G e
theorem nM {P:Params}{h:Heap}{mg:Str->Option Value}{x:Str}(X:(hk P).In h) (G:h.Ns mainGlobals mg) (e:W.nsIn (hk P) mainGlobals x=some none:=by k_is):mg x=none:=W.mg_none_of X G e
theorem oM {P:Params}{C:Addr}{f:Str}(e:W.findIn (hk P) (.ref C) f=some none:=by k_is):cP (hk P) C f:=e
set_option maxHeartbeats 0 in
theorem Dv {w:World}{h:Heap}{mg:Str->Option Value}{fa:Addr}(X:(hk w.params).In h) (G:h.Ns mainGlobals mg) (hfa:mg "law"=some (.ref fa)):
 ∃fd:FuncData,(∀(s:Shared) (v:Value),BindsTo s fd ⟨[v],[]⟩ [("_law_script",v)])/\∀base:Heap,(hk w.params).In base->base.Ns mainGlobals mg->aC PySem.Challenge.rw_handflow_k31_one_giver_one_taker.prog w (hk w.params) mg base CX0 76 fa fd ["_law_script"] (i7 (hk w.params)):=by
 k_fill
 cases hfa.symm.trans (mM (v:=.ref 342) X G)
 have F0:=fM w.params 23 kZ
 have b0:=F0.binds (ps:=["block"]) fun _ _ _ _ _ _=>bH fun _=>rfl
 have F1:=fM w.params 30 kR
 have b1:=F1.binds (ps:=["program"]) fun _ _ _ _ _ _=>bH fun _=>rfl
 have F2:=fM w.params 37 lJ
 have b2:=F2.binds (ps:=["block"]) fun _ _ _ _ _ _=>bH fun _=>rfl
 have F3:=fM w.params 44 lH
 have b3:=F3.binds (ps:=["deed"]) fun _ _ _ _ _ _=>bH fun _=>rfl
 have F4:=fM w.params 49 jm
 have b4:=F4.binds (ps:=["deed"]) fun _ _ _ _ _ _=>bH fun _=>rfl
 have F5:=fM w.params 56 kU
 have b5:=F5.binds (ps:=["deed"]) fun _ _ _ _ _ _=>bH fun _=>rfl
 have F6:=fM w.params 64 kS
 have b6:=F6.binds (ps:=["block"]) fun _ _ _ _ _ _=>bH fun _=>rfl
 have F7:=fM w.params 71 kX
 have b7:=F7.binds (ps:=["deed"]) fun _ _ _ _ _ _=>bH fun _=>rfl
 have F8:=fM w.params 78 kW
 have b8:=F8.binds (ps:=["store"]) fun _ _ _ _ _ _=>bH fun _=>rfl
 have F9:=fM w.params 85 lE
 have b9:=F9.binds (ps:=["store"]) fun _ _ _ _ _ _=>bH fun _=>rfl
 have F10:=fM w.params 92 lF
 have b10:=F10.binds (ps:=["program"]) fun _ _ _ _ _ _=>bH fun _=>rfl
 have F11:=fM w.params 97 jp
 have b11:=F11.binds (ps:=["program","numbers"]) fun _ _ _ _ _ _=>cn fun _ _=>rfl
 have F12:=fM w.params 111 lZ
 have b12:=F12.binds (ps:=["self"]) fun _ _ _ _ _ _=>bH fun _=>rfl
 have F13:=fM w.params 118 lY
 have b13:=F13.binds (ps:=["self","length","first"]) fun _ _ _ _ _ _=>gT fun _ _ _=>rfl
 have F14:=fM w.params 123 ju
 have b14:=F14.binds (ps:=["self","count"]) fun _ _ _ _ _ _=>cn fun _ _=>rfl
 have F15:=fM w.params 130 lX
 have b15:=F15.binds (ps:=["self","part"]) fun _ _ _ _ _ _=>cn fun _ _=>rfl
 have F16:=fM w.params 135 jt
 have b16:=F16.binds (ps:=["self","cards"]) fun _ _ _ _ _ _=>cn fun _ _=>rfl
 have F17:=fM w.params 142 lW
 have b17:=F17.binds (ps:=["self","cards","wires"]) fun _ _ _ _ _ _=>gT fun _ _ _=>rfl
 have F18:=fM w.params 156 lI
 have b18:=F18.binds (ps:=["program","numbers"]) fun _ _ _ _ _ _=>cn fun _ _=>rfl
 have F19:=fM w.params 163 lj
 have b19:=F19.binds (ps:=["bench","deed"]) fun _ _ _ _ _ _=>cn fun _ _=>rfl
 have F20:=fM w.params 170 lB
 have b20:=F20.binds (ps:=["bench","name"]) fun _ _ _ _ _ _=>cn fun _ _=>rfl
 have F21:=fM w.params 175 jo
 have b21:=F21.binds (ps:=["bench","deed"]) fun _ _ _ _ _ _=>cn fun _ _=>rfl
 have F22:=fM w.params 182 kT
 have b22:=F22.binds (ps:=["value","sources"]) fun _ _ _ _ _ _=>cn fun _ _=>rfl
 have F23:=fM w.params 189 lx
 have b23:=F23.binds (ps:=["bench","card","name","end"]) fun _ _ _ _ _ _=>nw fun _ _ _ _=>rfl
 have F24:=fM w.params 196 ly
 have b24:=F24.binds (ps:=["bench","store","name"]) fun _ _ _ _ _ _=>gT fun _ _ _=>rfl
 have F25:=fM w.params 203 kY
 have b25:=F25.binds (ps:=["program","numbers"]) fun _ _ _ _ _ _=>cn fun _ _=>rfl
 have F26:=fM w.params 210 lD
 have b26:=F26.binds (ps:=["bench","block"]) fun _ _ _ _ _ _=>cn fun _ _=>rfl
 have F27:=fM w.params 217 li
 have b27:=F27.binds (ps:=["bench","block","cards","wires"]) fun _ _ _ _ _ _=>nw fun _ _ _ _=>rfl
 have F28:=fM w.params 224 lw
 have b28:=F28.binds (ps:=["bench","deed"]) fun _ _ _ _ _ _=>cn fun _ _=>rfl
 have F29:=fM w.params 231 lh
 have b29:=F29.binds (ps:=["bench","deed"]) fun _ _ _ _ _ _=>cn fun _ _=>rfl
 have F30:=fM w.params 238 lm
 have b30:=F30.binds (ps:=["bench","rounds","body"]) fun _ _ _ _ _ _=>gT fun _ _ _=>rfl
 have F31:=fM w.params 245 lq
 have b31:=F31.binds (ps:=["bench","cards","name","body","behind"]) fun _ _ _ _ _ _=>ua fun _ _ _ _ _=>rfl
 have F32:=fM w.params 250 gx
 have b32:=F32.binds (ps:=["_law_cell"]) fun _ _ _ _ _ _=>bH fun _=>rfl
 have F33:=fM w.params 257 lQ
 have b33:=F33.binds (ps:=["_law_cell","_law_factor","_law_prime","_law_many"]) fun _ _ _ _ _ _=>nw fun _ _ _ _=>rfl
 have F34:=fM w.params 264 lM
 have b34:=F34.binds (ps:=["_law_number","_law_names_here"]) fun _ _ _ _ _ _=>cn fun _ _=>rfl
 have F35:=fM w.params 271 lP
 have b35:=F35.binds (ps:=["_law_cell","_law_x","_law_names_here"]) fun _ _ _ _ _ _=>gT fun _ _ _=>rfl
 have F36:=fM w.params 278 lO
 have b36:=F36.binds (ps:=["_law_cell","_law_x","_law_q","_law_names_here","_law_hidden"]) fun _ _ _ _ _ _=>ua fun _ _ _ _ _=>rfl
 have F37:=fM w.params 285 lV
 have b37:=F37.binds (ps:=["_law_cells","_law_names_here","_law_stores"]) fun _ _ _ _ _ _=>gT fun _ _ _=>rfl
 have F38:=fM w.params 290 jq
 have b38:=F38.binds (ps:=["_law_script"]) fun _ _ _ _ _ _=>bH fun _=>rfl
 have F39:=fM w.params 295 jr
 have b39:=F39.binds (ps:=["_law_script"]) fun _ _ _ _ _ _=>bH fun _=>rfl
 have F40:=fM w.params 302 lN
 have b40:=F40.binds (ps:=["_law_part"]) fun _ _ _ _ _ _=>bH fun _=>rfl
 have F41:=fM w.params 309 lR
 have b41:=F41.binds (ps:=["_law_part"]) fun _ _ _ _ _ _=>bH fun _=>rfl
 have F42:=fM w.params 316 lT
 have b42:=F42.binds (ps:=["_law_block"]) fun _ _ _ _ _ _=>bH fun _=>rfl
 have F43:=fM w.params 323 lK
 have b43:=F43.binds (ps:=["_law_found"]) fun _ _ _ _ _ _=>bH fun _=>rfl
 have F44:=fM w.params 330 lU
 have b44:=F44.binds (ps:=["_law_found","_law_many"]) fun _ _ _ _ _ _=>cn fun _ _=>rfl
 have F45:=fM w.params 335 gy
 have b45:=F45.binds (ps:=["_law_net","_law_program_here"]) fun _ _ _ _ _ _=>cn fun _ _=>rfl
 have F46:=fM w.params 342 fq
 have b46:=F46.binds (ps:=["_law_script"]) fun _ _ _ _ _ _=>bH fun _=>rfl
 have t_LOOPS:(hk w.params).lookup 15=some ⟨.type "tuple",none,.seq #[vs "while" 189,vs "repeat" 190],#[]⟩:=by k_is
 have t_LOOKERS:(hk w.params).lookup 16=some ⟨.type "tuple",none,.seq #[vs "if" 192,vs "while" 193],#[]⟩:=by k_is
 have t_OUTLET_KEEPERS:(hk w.params).lookup 57=some ⟨.type "tuple",none,.seq #[vs "give" 245,vs "while" 246],#[]⟩:=by k_is
 have T:Tx PySem.Challenge.rw_handflow_k31_one_giver_one_taker.prog w (hk w.params) mg (Adr.mk 23 _ 30 _ 37 _ 44 _ 49 _ 56 _ 64 _ 71 _ 78 _ 85 _ 92 _ 97 _ 111 _ 118 _ 123 _ 130 _ 135 _ 142 _ 156 _ 163 _ 170 _ 175 _ 182 _ 189 _ 196 _ 203 _ 210 _ 217 _ 224 _ 231 _ 238 _ 245 _ 250 _ 257 _ 264 _ 271 _ 278 _ 285 _ 290 _ 295 _ 302 _ 309 _ 316 _ 323 _ 330 _ 335 _ 342 _ 15 16 243 57 290 145):=Tx.mk F0 b0 (mM X G) F1 b1 (mM X G) F2 b2 (mM X G) F3 b3 (mM X G) F4 b4 (mM X G) F5 b5 (mM X G) F6 b6 (mM X G) F7 b7 (mM X G) F8 b8 (mM X G) F9 b9 (mM X G) F10 b10 (mM X G) F11 b11 (mM X G) F12 b12 F13 b13 F14 b14 F15 b15 F16 b16 F17 b17 F18 b18 (mM X G) F19 b19 (mM X G) F20 b20 (mM X G) F21 b21 (mM X G) F22 b22 (mM X G) F23 b23 (mM X G) F24 b24 (mM X G) F25 b25 (mM X G) F26 b26 (mM X G) F27 b27 (mM X G) F28 b28 (mM X G) F29 b29 (mM X G) F30 b30 (mM X G) F31 b31 (mM X G) F32 b32 (mM X G) F33 b33 (mM X G) F34 b34 (mM X G) F35 b35 (mM X G) F36 b36 (mM X G) F37 b37 (mM X G) F38 b38 (mM X G) F39 b39 (mM X G) F40 b40 (mM X G) F41 b41 (mM X G) F42 b42 (mM X G) F43 b43 (mM X G) F44 b44 (mM X G) F45 b45 (mM X G) F46 b46 (mM X G) (nM X G) (nM X G) (nM X G) (nM X G) (nM X G) (nM X G) (nM X G) (nM X G) (nM X G) (nM X G) (nM X G) (nM X G) (nM X G) (mM X G) (fun _=>.inr ⟨_,_,_,t_LOOPS,rfl,rfl,Qk,.cons ⟨_,rfl⟩ (.cons ⟨_,rfl⟩ (.nil))⟩) (mM X G) (fun _=>.inr ⟨_,_,_,t_LOOKERS,rfl,rfl,Qk,.cons ⟨_,rfl⟩ (.cons ⟨_,rfl⟩ (.nil))⟩) (mM X G) (mM X G) (fun _=>.inr ⟨_,_,_,t_OUTLET_KEEPERS,rfl,rfl,Qk,.cons ⟨_,rfl⟩ (.cons ⟨_,rfl⟩ (.nil))⟩) (mM X G) (mM X G) (Cls.mk (by k_is) (by k_is) (by k_is) (by k_is)) (Mk.mk (by k_is) (by k_is) (by k_is) (by k_is)) (cQ.mk (by k_is) (by k_is) (by k_is)) (cQ.mk (by k_is) (by k_is) (by k_is)) (cQ.mk (by k_is) (by k_is) (by k_is)) (cQ.mk (by k_is) (by k_is) (by k_is)) (cQ.mk (by k_is) (by k_is) (by k_is)) oM oM oM oM
 exact⟨_,fun s v=>.of_eq rfl,fun base _ _=>Ay T⟩
theorem wK {l:W.OpenLaw}{q:Program}{loose:List Str}{XP:(Str->Option Value)->Heap->Prop}{YP:World->Heap->Prop}{d:DefRec}{K:Params->W.Frag}(hn:l.most=some 63) (hdf:d.params.defaults=[])
 (hY:∀(w:World) (h:Heap),YP w h->(K w.params).In h)
 (F:∀(w:World) (mg:Str->Option Value) (fa:Addr) (h:Heap),(K w.params).In h->h.Ns mainGlobals mg->mg d.name=some (.ref fa)->
  ∃fd:FuncData,(∀(s:Shared) (u:Value),BindsTo s fd ⟨[u],[]⟩ [("_law_script",u)])/\∀base:Heap,(K w.params).In base->base.Ns mainGlobals mg->aC l.prog w (K w.params) mg base CX0 76 fa fd ["_law_script"] (i7 (K w.params))):
 W.WalkO q loose XP YP l.row.toRowW d [] (fun f vs=>PySem.call f vs):=
 L2.wI (n:=63) (k:=76) (x:="_law_script") (CX:=fun _=>CX0) (sp:=fun w=>i7 (K w.params)) hn Qk hdf ⟨rfl,Qk,Qk,rfl⟩ hY F (fun _ _ a ns hl hb hO hS=>⟨a,ns,rfl,hS,hl,hb,hO,fun _=>rfl⟩) fun _ _ _ _ _ z=>z
noncomputable def CL:PySem.DefRec:=⟨"law",ff fq,dU fq,aB fq,defPos fq⟩
theorem uC {p:Program}{w:World}{A:Option Value}:∀{m:Nat}{x x':W.SharedT}{y:Thread},goT p w A m x y=some x'->W.topRun PySem.treeTable p w 11 A m x.abs y=some x'.abs
 |0,_,_,_,h=>nomatch h
 |m+1,x,x',y,h=>by
  unfold goT at h;unfold W.topRun
  cases a:W.through y with
  |true=>rw[a]at h;cases h;rfl
  |false=>
   rw[a]at h
   cases b:W.stepOk 11 A y with
   |false=>rw[b]at h;cases h
   |true=>
    rw[b]at h
    cases c:W.stepT (denote PySem.treeTable) p w x y with
    |none=>rw[c]at h;cases h
    |some z=>rw[c]at h;rw[W.stepT_spec c];exact uC h
theorem Bz {p q:Program}{loose:List Str}{Xt:Shared->Bool}{α:Type}{Yf:Shared->α}{Ya:World->α}{N:Nat}(e:W.opening p=W.plainProg p.main.scope.names) (hN:Nat.ble 600 N=true) (f:∀s,fenceModules? p s=some s)
 (H:∀w,EndsT p q loose Xt Yf Ya N w):W.LeftO p q loose Xt Yf Ya N:=fun w=>by
 obtain⟨⟨h,gs,d,k,os⟩,u,u'⟩:=qP.mp (W.boot_open e hN f w)
 obtain⟨rfl,rfl,rfl,rfl⟩:h=W.boot_heap w.params/\gs=#[]/\d=W.boot_drawn/\k=W.boot_toks:=by simpa using u'
 obtain⟨s,r,l⟩:=qP.mp (H w os)
 have r:=uC r
 rw[bs_is]at r
 obtain⟨l1,l2,l3⟩:_/\_/\_:=by simpa only[Prod.mk.injEq]using l
 have z1:((W.boot_heap w.params).isNs mainGlobals && (#[]:Array GenState).size == 0)=true:=by kernel_rfl
 have z2:(W.boot_heap w.params).objs.size=11:=by kernel_rfl
 have t:W.topFrom PySem.treeTable p w N ⟨W.boot_heap w.params,#[],W.boot_drawn,W.boot_toks,os⟩=some s.abs:=by
  unfold W.topFrom
  dsimp only
  rw[z1,z2,r]
  show(match W.staticsOk (PySem.importedModules p.main.body) (W.boot_heap w.params) s.abs.heap && W.namesBound p s.abs.heap && W.gensDone s.abs && W.laidKept (W.boot_heap w.params) s.abs.heap with|true=>_|false=>_)=_
  rw[l1]
 unfold W.openEnds
 rw[u]
 show(W.topFrom PySem.treeTable p w N _).map _=_
 rw[t]
 exact congrArg some (Prod.ext l2 l3)
set_option maxHeartbeats 0 in
theorem left:W.LeftO PySem.Challenge.pw_handflow_k31_one_giver_one_taker vw [] xt hkH.obs hkH.val 3664:=Bz (by kernel_rfl) Qk (fun _=>by kernel_rfl) leftF
set_option maxHeartbeats 0 in
theorem said:W.OpenLaw.wellSaid PySem.Challenge.rw_handflow_k31_one_giver_one_taker=true:=by kernel_rfl
end K31
open PySem PySem.W PyProof.Rows
set_option maxRecDepth 100000 in
set_option maxHeartbeats 0 in
theorem PySem.Challenge.cw_handflow_k31_one_giver_one_taker_holds : PySem.Challenge.rw_handflow_k31_one_giver_one_taker.Holds := by
 w_on;refine holds_law K31.said fun said=>?_
 refine holds_open (q:=K31.vw) (loose:=[]) (Xt:=K31.xt) (XP:=XL K31.vw []) (Yf:=Hook.obs K31.hkH) (Ya:=Hook.val K31.hkH) (YP:=Hook.says K31.hkH) (d:=K31.CL) (kwd:=[]) (N:=3664) K31.left (Hook.of K31.hkH) (Hook.keeps K31.hkH) (fun s e=>xl_of s (Bool.and_eq_true_iff.mp e).1) XL.keeps (by kernel_rfl) (by kernel_rfl) (by kernel_rfl) (fun s e=>recFacts_of (Bool.and_eq_true_iff.mp e).2) (by rfl) (by first|assumption|decide +kernel) (by decide +kernel) ⟨rfl,rfl,rfl,rfl,rfl,by decide +kernel⟩ ?hw ?hc
 (case hw=>w_witness2)
 refine K31.wK (l:=PySem.Challenge.rw_handflow_k31_one_giver_one_taker) rfl (by kernel_rfl) (K:=K31.hk) (fun w h Y=>PySem.W.kIn_of (K:=K31.hk) (as:=K31.hks) (e:=K31.hk_as) Y) ?F
 case F=>exact fun w mg fa h X G e=>K31.Dv X G e
