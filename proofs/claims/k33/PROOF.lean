import PyProof.Rows.All
import Wide.All
import OpenK.AllK
import Wide.FinOn
import Lean
import PyProof.EqAt
import PyProof.EqKinds
import PyProof.TupleCall
import PySem.Challenge.RW_handflow_k33_how_lines_begin
set_option Elab.async false
set_option linter.all false
set_option maxRecDepth 100000
section
open PySem PySem.Spec PyProof.Rows PySem.W
theorem Qd {p:Prop}(h:p:=by decide +kernel):p:=h
theorem Qk {p:Prop}(h:p:=by decide):p:=h
theorem Qo {p:Prop}(h:p:=by omega):p:=h
abbrev Qq:=Value->Shared->Prop
def q4:=@wpAny_bind
def q5:=@List.length_map
def q9:=@Heap.get?_push_of_some
def qa:=@List.length_append
def qb:=@List.getElem?_eq_getElem
def qc:=@wpAny_pure
def qd:=@Nat.le_refl
def qe:=@List.getElem?_eq_some_iff
def qf:=@PySem.F.plainAttrs_list
def qg:=@List.mem_append
def qh:=@Bool.false_ne_true
def qi:=@List.getD_eq_getElem?_getD
def qj:=@List.mem_cons_of_mem
def qk:=@List.mem_cons_self
def qo:=@Heap.get?_push_size
def qp:=@Heap.lt_size
def qq:=@List.take_add_one
def qr:=@Nat.zero_le
def qt:=@List.mem_cons
def qu:=@PySem.F.slot_list_append
def qv:=@PySem.F.type_list_append
def qw:=@List.append_nil
def qx:=@Nat.le_trans
def qy:=@List.mem_of_getElem?
def qz:=@List.length_cons
def qA:=@List.size_toArray
def qC:=@Nat.lt_of_lt_of_le
def qD:=@List.getElem?_map
def qE:=@List.flatMap_cons
def qF:=@Nat.ne_of_lt
def qG:=@List.take_length
def qH:=@List.mem_append_right
def qI:=@Option.some.inj
def qJ:=@List.length_take
def qK:=@List.getElem?_append_right
def qL:=@Array.length_toList
def qM:=@List.append_assoc
def qO:=@List.map_append
def qP:=@Option.map_eq_some_iff
def qQ:=@List.not_mem_nil
def qR:=@List.map_cons
def qS:=@List.mem_singleton
def qT:=@Array.getElem?_toList
def qU:=@List.flatMap_append
def qV:=@List.mem_append_left
def qW:=@wpAny_setState_of
def qX:=@Int.toNat_natCast
def qY:=@List.length_drop
def qZ:=@if_neg
def Q0:=@if_pos
end
namespace L2
open PySem PySem.Spec PyProof.Rows PySem.W
def inClass (s:Stmt) (j:Nat):Stmt:=match s with
 |.ClassDef _ _ _ body _ _ _ _ _ _ _=>body.getD j (.Pass ⟨0,0,0,0⟩)
 |_=>.Pass ⟨0,0,0,0⟩
def eE (s:Stmt):Arguments:=match s with
 |.FunctionDef _ a _ _ _ _ _ _ _ _=>a
 |_=>{ posonlyargs:=[],args:=[],vararg:=none,kwonlyargs:=[],kw_defaults:=[],kwarg:=none,defaults:=[] }
def dH (s:Stmt):List Stmt:=match s with
 |.FunctionDef _ _ b _ _ _ _ _ _ _=>b
 |_=>[]
def aC (s:Stmt):Scope:=match s with
 |.FunctionDef _ _ _ _ _ _ sc _ _ _=>sc
 |_=>{ kind:=.function,names:=[],isGenerator:=false,isCoroutine:=false }
end L2
namespace K33
open PySem L2
def top (i:Nat):Stmt:=PySem.Challenge.pw_handflow_k33_how_lines_begin.main.body.getD i (.Pass ⟨0,0,0,0⟩)
noncomputable def defPos (s:Stmt):Pos:=match s with
 |.FunctionDef _ _ _ _ _ _ _ _ _ p=>p
 |_=>⟨0,0,0,0⟩
abbrev vs (x:String) (t:Nat):Value:=.str (Str.ofString x) t
abbrev de (P:Params) (x:String) (t:Nat) (v:Value):DictEntry:=⟨PyData.keyHash P (Str.ofString x),vs x t,v⟩
abbrev co (a b:String) (t l n r:Nat) (x y z u:Value) (m:Nat):Obj:=Obj.mk (.type "code") none (Data.fields #[vs a t,vs b (t+1),vs "/claim/cut.py" (t+2),.int l 0,.int n 0,.int 0 0,.int 0 0,.int 3 0,.ref r,.bool true,.int 181 0,.ref (r+1),x,y,z,u,.int m 0,.int l 0,vs "/claim/cut.py" (m+1)]) #[]
abbrev fo (a b:String) (s:Stmt) (m:String) (t c:Nat):Obj:=Obj.mk (.type "function") none (.func (PySem.W.fnOf a b (eE s) (dH s) (aC s) .none .none .none (vs m t) none (.ref c) .none)) #[]
noncomputable def hk:Params->PySem.W.Frag:=fun P=>
 (nat_lit 2,Obj.mk .none none (Data.dict #[]) #[]) ::
 (nat_lit 3,Obj.mk (.type "dict") none (Data.dict #[de P "__name__" 165 (vs "law_handflow_k33_how_lines_begin" 526),de P "__doc__" 166 .none,de P "__package__" 167 .none,de P "__loader__" 168 (.builtin "__main__.__loader__#opaque"),de P "__spec__" 169 .none,de P "__annotations__" 170 (.ref 6),de P "__builtins__" 171 (.ref 4),de P "__file__" 173 (vs "/claim/cut.py" 172),de P "__cached__" 174 .none,de P "LOOPS" 191 (.ref 15),de P "LOOKERS" 194 (.ref 16),de P "named" 203 (.ref 23),de P "variables_of" 210 (.ref 30),de P "all_deeds" 220 (.ref 37),de P "blocks_within" 227 (.ref 44),de P "names_in" 233 (.ref 49),de P "read_by_set" 240 (.ref 56),de P "OUTLET" 244 (vs ">" 243),de P "OUTLET_KEEPERS" 247 (.ref 57),de P "touched" 256 (.ref 64),de P "other_cards_in" 263 (.ref 71),de P "put_card" 270 (.ref 78),de P "get_card" 277 (.ref 85),de P "cards_of" 287 (.ref 92),de P "WHEEL" 291 (.int 1000000000000000000000000000000 290),de P "beginnings" 297 (.ref 97),de P "Bench" 370 (.ref 145),de P "bench_for" 383 (.ref 156),de P "lay_single" 394 (.ref 163),de P "lay_fork" 403 (.ref 170),de P "lay_set" 409 (.ref 175),de P "side_of" 417 (.ref 182),de P "lay_handing" 429 (.ref 189),de P "lay_get" 441 (.ref 196),de P "net_of" 452 (.ref 203),de P "lay_block" 461 (.ref 210),de P "lay_through" 471 (.ref 217),de P "lay_if" 487 (.ref 224),de P "lay_while" 496 (.ref 231),de P "lay_repeat" 510 (.ref 238),de P "lay_loop" 525 (.ref 245),de P "_law_names" 533 (.ref 250),de P "_law_pick" 543 (.ref 257),de P "_law_value" 552 (.ref 264),de P "_law_set" 564 (.ref 271),de P "_law_simple" 576 (.ref 278),de P "_law_body" 596 (.ref 285),de P "_law_program" 602 (.ref 290),de P "_law_numbers" 608 (.ref 295),de P "_law_flat" 617 (.ref 302),de P "_law_bare" 623 (.ref 307),de P "_law_whole" 630 (.ref 314),de P "_law_cards" 636 (.ref 319),de P "_law_due" 647 (.ref 326),de P "law" 653 (.ref 331)] 55) #[]) ::
 (nat_lit 15,Obj.mk (.type "tuple") none (Data.seq #[vs "while" 189,vs "repeat" 190]) #[]) ::
 (nat_lit 16,Obj.mk (.type "tuple") none (Data.seq #[vs "if" 192,vs "while" 193]) #[]) ::
 (nat_lit 22,co "named" "named" 195 4 1 17 .none (.ref 19) (.ref 20) (.ref 21) 201) ::
 (nat_lit 23,fo "named" "named" (top 3) "handflow.tree" 187 22) ::
 (nat_lit 29,co "variables_of" "variables_of" 204 9 1 24 .none (.ref 26) (.ref 27) (.ref 28) 208) ::
 (nat_lit 30,fo "variables_of" "variables_of" (top 4) "handflow.tree" 187 29) ::
 (nat_lit 36,co "all_deeds" "all_deeds" 211 11 1 31 .none (.ref 33) (.ref 34) (.ref 35) 218) ::
 (nat_lit 37,fo "all_deeds" "all_deeds" (top 5) "handflow.tree" 187 36) ::
 (nat_lit 43,co "blocks_within" "blocks_within" 221 18 1 38 .none (.ref 40) (.ref 41) (.ref 42) 225) ::
 (nat_lit 44,fo "blocks_within" "blocks_within" (top 6) "handflow.tree" 187 43) ::
 (nat_lit 48,co "names_in" "names_in" 228 24 1 45 .none .none .none (.ref 47) 231) ::
 (nat_lit 49,fo "names_in" "names_in" (top 7) "handflow.tree" 187 48) ::
 (nat_lit 55,co "read_by_set" "read_by_set" 234 31 1 50 .none (.ref 52) (.ref 53) (.ref 54) 238) ::
 (nat_lit 56,fo "read_by_set" "read_by_set" (top 8) "handflow.tree" 187 55) ::
 (nat_lit 57,Obj.mk (.type "tuple") none (Data.seq #[vs "give" 245,vs "while" 246]) #[]) ::
 (nat_lit 63,co "touched" "touched" 248 36 1 58 .none (.ref 60) (.ref 61) (.ref 62) 254) ::
 (nat_lit 64,fo "touched" "touched" (top 12) "handflow.cards" 241 63) ::
 (nat_lit 70,co "other_cards_in" "other_cards_in" 257 42 1 65 .none (.ref 67) (.ref 68) (.ref 69) 261) ::
 (nat_lit 71,fo "other_cards_in" "other_cards_in" (top 13) "handflow.cards" 241 70) ::
 (nat_lit 77,co "put_card" "put_card" 264 48 1 72 .none (.ref 74) (.ref 75) (.ref 76) 268) ::
 (nat_lit 78,fo "put_card" "put_card" (top 14) "handflow.cards" 241 77) ::
 (nat_lit 84,co "get_card" "get_card" 271 50 1 79 .none (.ref 81) (.ref 82) (.ref 83) 275) ::
 (nat_lit 85,fo "get_card" "get_card" (top 15) "handflow.cards" 241 84) ::
 (nat_lit 91,co "cards_of" "cards_of" 278 52 1 86 .none (.ref 88) (.ref 89) (.ref 90) 285) ::
 (nat_lit 92,fo "cards_of" "cards_of" (top 16) "handflow.cards" 241 91) ::
 (nat_lit 96,co "beginnings" "beginnings" 292 59 2 93 .none .none .none (.ref 95) 295) ::
 (nat_lit 97,fo "beginnings" "beginnings" (top 19) "handflow.wheel" 288 96) ::
 (nat_lit 110,co "__init__" "Bench.__init__" 312 67 1 105 .none (.ref 107) (.ref 108) (.ref 109) 316) ::
 (nat_lit 111,fo "__init__" "Bench.__init__" (inClass (top 21) 0) "handflow.bench" 298 110) ::
 (nat_lit 117,co "add_line" "Bench.add_line" 319 73 3 112 .none (.ref 114) (.ref 115) (.ref 116) 325) ::
 (nat_lit 118,fo "add_line" "Bench.add_line" (inClass (top 21) 1) "handflow.bench" 298 117) ::
 (nat_lit 122,co "add_wires" "Bench.add_wires" 328 77 2 119 .none .none .none (.ref 121) 331) ::
 (nat_lit 123,fo "add_wires" "Bench.add_wires" (inClass (top 21) 2) "handflow.bench" 298 122) ::
 (nat_lit 129,co "add_part" "Bench.add_part" 334 80 2 124 .none (.ref 126) (.ref 127) (.ref 128) 339) ::
 (nat_lit 130,fo "add_part" "Bench.add_part" (inClass (top 21) 3) "handflow.bench" 298 129) ::
 (nat_lit 134,co "wires_of" "Bench.wires_of" 342 83 2 131 .none .none .none (.ref 133) 345) ::
 (nat_lit 135,fo "wires_of" "Bench.wires_of" (inClass (top 21) 4) "handflow.bench" 298 134) ::
 (nat_lit 141,co "lead" "Bench.lead" 348 86 3 136 .none (.ref 138) (.ref 139) (.ref 140) 356) ::
 (nat_lit 142,fo "lead" "Bench.lead" (inClass (top 21) 5) "handflow.bench" 298 141) ::
 (nat_lit 143,Obj.mk (.type "tuple") none (Data.seq #[vs "coming" 359,vs "ends" 360,vs "lines" 361,vs "parts" 362]) #[]) ::
 (nat_lit 144,Obj.mk (.type "dict") none (Data.dict #[de P "__module__" 307 (vs "handflow.bench" 298),de P "__firstlineno__" 311 (.int 65 310),de P "__init__" 318 (.ref 111),de P "add_line" 327 (.ref 118),de P "add_wires" 333 (.ref 123),de P "add_part" 341 (.ref 130),de P "wires_of" 347 (.ref 135),de P "lead" 358 (.ref 142),de P "__static_attributes__" 363 (.ref 143),de P "__dict__" 365 (.ref 146),de P "__weakref__" 367 (.ref 147),de P "__doc__" 368 .none] 4) #[]) ::
 (nat_lit 145,Obj.mk (.type "type") none (Data.cls (ClassData.mk (Str.ofString "Bench") [.type "object"] [.ref 145,.type "object"] 144 (Str.ofString "Bench") true [] [] false none false)) #[none,none,some (vs "Bench" 300),some (vs "Bench" 308),some (.builtin "object.__new__"),some (.bool true)]) ::
 (nat_lit 146,Obj.mk (.type "getset_descriptor") none (Data.fields #[vs "__dict__" 364,.ref 145,.builtin "function.__dict__",.builtin "function.__dict__#set"]) #[]) ::
 (nat_lit 147,Obj.mk (.type "getset_descriptor") none (Data.fields #[vs "__weakref__" 366,.ref 145,.builtin "ExceptionGroup.__weakref__",.none]) #[]) ::
 (nat_lit 155,co "bench_for" "bench_for" 371 89 2 150 .none (.ref 152) (.ref 153) (.ref 154) 381) ::
 (nat_lit 156,fo "bench_for" "bench_for" (top 22) "handflow.bench" 298 155) ::
 (nat_lit 162,co "lay_single" "lay_single" 386 99 2 157 .none (.ref 159) (.ref 160) (.ref 161) 392) ::
 (nat_lit 163,fo "lay_single" "lay_single" (top 24) "handflow.single" 384 162) ::
 (nat_lit 169,co "lay_fork" "lay_fork" 395 109 2 164 .none (.ref 166) (.ref 167) (.ref 168) 401) ::
 (nat_lit 170,fo "lay_fork" "lay_fork" (top 25) "handflow.single" 384 169) ::
 (nat_lit 174,co "lay_set" "lay_set" 404 114 2 171 .none .none .none (.ref 173) 407) ::
 (nat_lit 175,fo "lay_set" "lay_set" (top 26) "handflow.single" 384 174) ::
 (nat_lit 181,co "side_of" "side_of" 410 122 2 176 .none (.ref 178) (.ref 179) (.ref 180) 415) ::
 (nat_lit 182,fo "side_of" "side_of" (top 27) "handflow.single" 384 181) ::
 (nat_lit 188,co "lay_handing" "lay_handing" 418 126 4 183 .none (.ref 185) (.ref 186) (.ref 187) 427) ::
 (nat_lit 189,fo "lay_handing" "lay_handing" (top 28) "handflow.single" 384 188) ::
 (nat_lit 195,co "lay_get" "lay_get" 430 131 3 190 .none (.ref 192) (.ref 193) (.ref 194) 439) ::
 (nat_lit 196,fo "lay_get" "lay_get" (top 29) "handflow.single" 384 195) ::
 (nat_lit 202,co "net_of" "net_of" 444 138 2 197 .none (.ref 199) (.ref 200) (.ref 201) 450) ::
 (nat_lit 203,fo "net_of" "net_of" (top 31) "handflow.netmaker" 442 202) ::
 (nat_lit 209,co "lay_block" "lay_block" 453 143 2 204 .none (.ref 206) (.ref 207) (.ref 208) 459) ::
 (nat_lit 210,fo "lay_block" "lay_block" (top 32) "handflow.netmaker" 442 209) ::
 (nat_lit 216,co "lay_through" "lay_through" 462 153 4 211 .none (.ref 213) (.ref 214) (.ref 215) 469) ::
 (nat_lit 217,fo "lay_through" "lay_through" (top 33) "handflow.netmaker" 442 216) ::
 (nat_lit 223,co "lay_if" "lay_if" 472 157 2 218 .none (.ref 220) (.ref 221) (.ref 222) 485) ::
 (nat_lit 224,fo "lay_if" "lay_if" (top 34) "handflow.netmaker" 442 223) ::
 (nat_lit 230,co "lay_while" "lay_while" 488 169 2 225 .none (.ref 227) (.ref 228) (.ref 229) 494) ::
 (nat_lit 231,fo "lay_while" "lay_while" (top 35) "handflow.netmaker" 442 230) ::
 (nat_lit 237,co "lay_repeat" "lay_repeat" 497 172 3 232 .none (.ref 234) (.ref 235) (.ref 236) 508) ::
 (nat_lit 238,fo "lay_repeat" "lay_repeat" (top 36) "handflow.netmaker" 442 237) ::
 (nat_lit 244,co "lay_loop" "lay_loop" 511 183 5 239 .none (.ref 241) (.ref 242) (.ref 243) 523) ::
 (nat_lit 245,fo "lay_loop" "lay_loop" (top 37) "handflow.netmaker" 442 244) ::
 (nat_lit 249,co "_law_names" "_law_names" 528 192 1 246 .none .none .none (.ref 248) 531) ::
 (nat_lit 250,fo "_law_names" "_law_names" (top 39) "law_handflow_k33_how_lines_begin" 526 249) ::
 (nat_lit 256,co "_law_pick" "_law_pick" 534 198 4 251 .none (.ref 253) (.ref 254) (.ref 255) 541) ::
 (nat_lit 257,fo "_law_pick" "_law_pick" (top 40) "law_handflow_k33_how_lines_begin" 526 256) ::
 (nat_lit 263,co "_law_value" "_law_value" 544 200 2 258 .none (.ref 260) (.ref 261) (.ref 262) 550) ::
 (nat_lit 264,fo "_law_value" "_law_value" (top 41) "law_handflow_k33_how_lines_begin" 526 263) ::
 (nat_lit 270,co "_law_set" "_law_set" 553 207 3 265 .none (.ref 267) (.ref 268) (.ref 269) 562) ::
 (nat_lit 271,fo "_law_set" "_law_set" (top 42) "law_handflow_k33_how_lines_begin" 526 270) ::
 (nat_lit 277,co "_law_simple" "_law_simple" 565 212 5 272 .none (.ref 274) (.ref 275) (.ref 276) 574) ::
 (nat_lit 278,fo "_law_simple" "_law_simple" (top 43) "law_handflow_k33_how_lines_begin" 526 277) ::
 (nat_lit 284,co "_law_body" "_law_body" 577 221 3 279 .none (.ref 281) (.ref 282) (.ref 283) 594) ::
 (nat_lit 285,fo "_law_body" "_law_body" (top 44) "law_handflow_k33_how_lines_begin" 526 284) ::
 (nat_lit 289,co "_law_program" "_law_program" 597 253 1 286 .none .none .none (.ref 288) 600) ::
 (nat_lit 290,fo "_law_program" "_law_program" (top 45) "law_handflow_k33_how_lines_begin" 526 289) ::
 (nat_lit 294,co "_law_numbers" "_law_numbers" 603 260 1 291 .none .none .none (.ref 293) 606) ::
 (nat_lit 295,fo "_law_numbers" "_law_numbers" (top 46) "law_handflow_k33_how_lines_begin" 526 294) ::
 (nat_lit 301,co "_law_flat" "_law_flat" 609 262 1 296 .none (.ref 298) (.ref 299) (.ref 300) 615) ::
 (nat_lit 302,fo "_law_flat" "_law_flat" (top 47) "law_handflow_k33_how_lines_begin" 526 301) ::
 (nat_lit 306,co "_law_bare" "_law_bare" 618 271 1 303 .none .none .none (.ref 305) 621) ::
 (nat_lit 307,fo "_law_bare" "_law_bare" (top 48) "law_handflow_k33_how_lines_begin" 526 306) ::
 (nat_lit 313,co "_law_whole" "_law_whole" 624 273 1 308 .none (.ref 310) (.ref 311) (.ref 312) 628) ::
 (nat_lit 314,fo "_law_whole" "_law_whole" (top 49) "law_handflow_k33_how_lines_begin" 526 313) ::
 (nat_lit 318,co "_law_cards" "_law_cards" 631 275 1 315 .none .none .none (.ref 317) 634) ::
 (nat_lit 319,fo "_law_cards" "_law_cards" (top 50) "law_handflow_k33_how_lines_begin" 526 318) ::
 (nat_lit 325,co "_law_due" "_law_due" 637 287 2 320 .none (.ref 322) (.ref 323) (.ref 324) 645) ::
 (nat_lit 326,fo "_law_due" "_law_due" (top 51) "law_handflow_k33_how_lines_begin" 526 325) ::
 (nat_lit 330,co "law" "law" 648 297 1 327 .none .none .none (.ref 329) 651) ::
 (nat_lit 331,fo "law" "law" (top 52) "law_handflow_k33_how_lines_begin" 526 330) ::
 []
noncomputable def hks:List Addr:=[2,3,15,16,22,23,29,30,36,37,43,44,48,49,55,56,57,63,64,70,71,77,78,84,85,91,92,96,97,110,111,117,118,122,123,129,130,134,135,141,142,143,144,145,146,147,155,156,162,163,169,170,174,175,181,182,188,189,195,196,202,203,209,210,216,217,223,224,230,231,237,238,244,245,249,250,256,257,263,264,270,271,277,278,284,285,289,290,294,295,301,302,306,307,313,314,318,319,325,326,330,331]
theorem hk_as:∀P,hks=(hk P).map (·.1):=fun _=>by kernel_rfl
noncomputable def vw:Program:=PySem.W.view PySem.Challenge.pw_handflow_k33_how_lines_begin [1,2,3,4,5,6,7,8,10,11,12,13,14,15,16,18,19,21,22,24,25,26,27,28,29,31,32,33,34,35,36,37,39,40,41,42,43,44,45,46,47,48,49,50,51,52]
noncomputable def hkH:PySem.W.Hook:=PySem.W.kHook hk hks hk_as
noncomputable def xt (s:Shared):Bool:=PySem.W.xlAt vw [] s && PySem.W.recOk (PySem.W.RowW.records (PySem.W.OpenRow.toRowW (PySem.W.OpenLaw.row PySem.Challenge.rw_handflow_k33_how_lines_begin))) s
noncomputable def bt (P:Params):PySem.W.BT:=(.node (PySem.W.boot_o_0 P) (.node (PySem.W.boot_o_1 P) (.node (PySem.W.boot_o_3 P) (.node (PySem.W.boot_o_7 P) .nil .nil) .nil) (.node (PySem.W.boot_o_5 P) (.node (PySem.W.boot_o_9 P) .nil .nil) .nil)) (.node (PySem.W.boot_o_2 P) (.node (PySem.W.boot_o_4 P) (.node (PySem.W.boot_o_8 P) .nil .nil) .nil) (.node (PySem.W.boot_o_6 P) (.node (PySem.W.boot_o_10 P) .nil .nil) .nil)))
theorem bt_is (P:Params):PySem.W.absHeap (bt P) 11 {}=PySem.W.boot_heap P:=by kernel_rfl
noncomputable def bs (P:Params) (os:OsState):PySem.W.SharedT:=⟨bt P,11,{},#[],PySem.W.boot_drawn,PySem.W.boot_toks,os⟩
theorem bs_is (P:Params) (os:OsState):(bs P os).abs=⟨PySem.W.boot_heap P,#[],PySem.W.boot_drawn,PySem.W.boot_toks,os⟩:=by
 unfold bs PySem.W.SharedT.abs;rw[bt_is]
def goT (p:Program) (w:World) (A:Option Value):Nat->PySem.W.SharedT->Thread->Option PySem.W.SharedT
 |0,_,_=>none
 |m+1,x,y=>match PySem.W.through y with
  |true=>some x
  |false=>match PySem.W.stepOk 11 A y with
   |false=>none
   |true=>match PySem.W.stepT (denote PySem.treeTable) p w x y with
    |none=>none
    |some (x',y')=>goT p w A m x' y'
noncomputable abbrev annB (w:World):Option Value:=(PySem.W.boot_heap w.params).nsMap mainGlobals "__annotations__"
def EndsT (p q:Program) (loose:List Str) (Xt:Shared->Bool) {α:Type}(Yf:Shared->α) (Ya:World->α) (N:Nat) (w:World):Prop:=
 ∀os:OsState,(goT p w (annB w) N (bs w.params os) (PySem.W.topStub p)).map (fun s=>(PySem.W.staticsOk (PySem.importedModules p.main.body) (PySem.W.boot_heap w.params) s.abs.heap && PySem.W.namesBound p s.abs.heap && PySem.W.gensDone s.abs && PySem.W.laidKept (PySem.W.boot_heap w.params) s.abs.heap,PySem.W.openSeen q loose (PySem.importedModules p.main.body) Xt true s.abs,Yf s.abs))=some (true,PySem.W.openGood q loose,Ya w)
set_option maxHeartbeats 0 in
theorem leftF:∀w:World,EndsT PySem.Challenge.pw_handflow_k33_how_lines_begin vw [] xt hkH.obs hkH.val 3582 w:=fun w os=>by kernel_rfl
end K33
namespace L2
open PySem PySem.Spec PyProof.Rows
abbrev Key:=Sum Int Str
def eQ:Key->Value->Bool
 |.inl k,v=>Value.isInt k v
 |.inr x,v=>Value.isStrOf x v
def AW (w:World):Key->Int
 |.inl k=>hashInt k
 |.inr x=>hashStr w x
theorem d6:∀{k:Key}{v:Value},eQ k v=true->(∃i t,k=Sum.inl i/\v=Value.int i t)\/(∃x t,k=Sum.inr x/\v=Value.str x t)
 |.inl i,v,h=>by
  obtain⟨t,e⟩:=Value.isInt_shape (k:=i) (v:=v) h
  exact .inl ⟨i,t,rfl,e⟩
 |.inr x,v,h=>by
  obtain⟨t,e⟩:=Value.isStrOf_shape (x:=x) (v:=v) h
  exact .inr ⟨x,t,rfl,e⟩
theorem AV (i:Int) (t:Tok):eQ (.inl i) (.int i t)=true:=by simp[eQ,Value.isInt]
theorem AU (x:Str) (t:Tok):eQ (.inr x) (.str x t)=true:=by simp[eQ,Value.isStrOf]
theorem AT (a b:Int):decide ((Sum.inl a:Key)=Sum.inl b)=(a == b):=by
 by_cases e:a=b
 ·subst e;simp
 ·have h:¬ (Sum.inl a:Key)=Sum.inl b:=fun q=>e (Sum.inl.inj q)
  rw[decide_eq_false h]
  exact(beq_eq_false_iff_ne.mpr e).symm
theorem AQ (a b:Str):decide ((Sum.inr a:Key)=Sum.inr b)=decide (a=b):=by
 by_cases e:a=b
 ·subst e;simp
 ·have h:¬ (Sum.inr a:Key)=Sum.inr b:=fun q=>e (Sum.inr.inj q)
  rw[decide_eq_false h,decide_eq_false e]
theorem AS (a:Int) (b:Str):decide ((Sum.inl a:Key)=Sum.inr b)=false:=decide_eq_false (fun q=>nomatch q)
theorem AR (a:Str) (b:Int):decide ((Sum.inr a:Key)=Sum.inl b)=false:=decide_eq_false (fun q=>nomatch q)
def bL (prog:Program) (w:World):PySem.KeyKind prog w Key where
 is:=eQ
 hash:=AW w
 inj:=fun v a b ha hb=>by
  rcases d6 ha with⟨i,t,rfl,rfl⟩|⟨x,t,rfl,rfl⟩
  ·rcases d6 hb with⟨j,u,rfl,e⟩|⟨y,u,rfl,e⟩
   ·injection e with e1 _;rw[e1]
   ·exact nomatch e
  ·rcases d6 hb with⟨j,u,rfl,e⟩|⟨y,u,rfl,e⟩
   ·exact nomatch e
   ·injection e with e1 _;rw[e1]
 byValue:=fun k v h=>by
  rcases d6 h with⟨i,t,rfl,rfl⟩|⟨x,t,rfl,rfl⟩<;>rfl
 pyHash:=fun hv h=>by
  rcases d6 hv with⟨i,t,rfl,rfl⟩|⟨x,t,rfl,rfl⟩
  ·exact wpAny_pyHash_int h
  ·exact wpAny_pyHash_str h
 eqBool:=fun hu hv h=>by
  rcases d6 hu with⟨i,t,rfl,rfl⟩|⟨x,t,rfl,rfl⟩
  ·rcases d6 hv with⟨j,u,rfl,rfl⟩|⟨y,u,rfl,rfl⟩
   ·rw[AT]at h;exact wpAny_eqBool_int h
   ·rw[AS]at h;exact SeqAt.EqAt.int_str i t y u _ _ _ _ h
  ·rcases d6 hv with⟨j,u,rfl,rfl⟩|⟨y,u,rfl,rfl⟩
   ·rw[AR]at h;exact SeqAt.EqAt.str_int x t j u _ _ _ _ h
   ·rw[AQ]at h;exact wpAny_eqBool_str h
 «strs»:=fun k x t v h=>by
  rcases d6 h with⟨i,u,rfl,e⟩|⟨y,u,rfl,e⟩
  ·exact nomatch e
  ·injection e with e1 _
   subst e1
   cases v<;>rfl
theorem As (prog:Program) (w:World) (i:Int) (t:Tok):(bL prog w).is (.inl i) (.int i t)=true:=AV i t
theorem Ar (prog:Program) (w:World) (x:Str) (t:Tok):(bL prog w).is (.inr x) (.str x t)=true:=AU x t
inductive V where
 |non|bl (b:Bool)|int (i:Int)|str (x:Str)|byt (b:Array UInt8)|flt (b:UInt64)|ref (a:Addr)|ty (n:String)
 deriving DecidableEq
def ay:V->Value->Prop
 |.non,u=>u=Value.none
 |.bl b,u=>u=Value.bool b
 |.int i,u=>∃t,u=Value.int i t
 |.str x,u=>∃t,u=Value.str x t
 |.byt b,u=>∃t,u=Value.bytes b t
 |.flt b,u=>∃t,u=Value.float b t
 |.ref a,u=>u=Value.ref a
 |.ty n,u=>u=Value.type n
abbrev au:List V->List Value->Prop:=Paired ay
theorem au.length {xs:List V}{us:List Value}(r:au xs us):xs.length=us.length:=Paired.length r
theorem au.get:∀{xs:List V}{us:List Value}{i:Nat}{x:V},au xs us->xs[i]?=some x->∃u,us[i]?=some u/\ay x u
 |_,_,_,_,.nil,e=>by simp at e
 |_,_,0,_,.cons r _,e=>by simp at e;subst e;exact⟨_,rfl,r⟩
 |_,_,i+1,x,.cons _ t,e=>by
  obtain⟨u,h1,h2⟩:=au.get (i:=i) (x:=x) t (by simpa using e)
  exact⟨u,by simpa using h1,h2⟩
theorem au.set {x:V}{u:Value}(r:ay x u):∀{xs:List V}{us:List Value}(i:Nat),au xs us->au (xs.set i x) (us.set i u)
 |_,_,_,.nil=>.nil
 |_,_,0,.cons _ t=>.cons r t
 |_,_,i+1,.cons q t=>.cons q (au.set r i t)
theorem au.append:∀{xs ys:List V}{us ws:List Value},au xs us->au ys ws->au (xs++ys) (us++ws)
 |_,_,_,_,.nil,s=>s
 |_,_,_,_,.cons r t,s=>.cons r (au.append t s)
theorem au.take:∀{xs:List V}{us:List Value}(n:Nat),au xs us->au (xs.take n) (us.take n)
 |_,_,0,_=>.nil
 |_,_,_+1,.nil=>.nil
 |_,_,n+1,.cons r t=>.cons r (au.take n t)
theorem au.drop:∀{xs:List V}{us:List Value}(n:Nat),au xs us->au (xs.drop n) (us.drop n)
 |_,_,0,r=>r
 |_,_,_+1,.nil=>.nil
 |_,_,n+1,.cons _ t=>au.drop n t
def bN:Option V->Option Value->Prop
 |some v,some u=>ay v u
 |none,none=>True
 |_,_=>False
def KV {κ:Type}:List (κ×V)->List (κ×Value)->Prop:=Paired fun(p:κ×V) (q:κ×Value)=>p.1=q.1/\ay p.2 q.2
def kV:Key->V
 |.inl i=>.int i
 |.inr x=>.str x
inductive HO where
 |lst (xs:List V)
 |tup (xs:List V)
 |dK (kvs:List (Key×V))|dT (kvs:List (List Key×V))
 |set (S:Int->Bool) (n:Nat)
 |ins (C dx:Addr) (fs:List (Str×V))
 |own (x:Addr)
 |xd (fs:List (Str×V))
 |met (f x:Addr)
 |rng (lo hi:Int)
 |frz (o:Obj) (u:HO)
 |tbl (ps:Array Value)
 |ext (φ:Heap->Prop)
abbrev Hp:=Addr->Option HO
def upd (H:Hp) (a:Addr) (o:HO):Hp:=fun b=>if b=a then some o else H b
theorem ae {H:Hp}{a:Addr}{o:HO}:upd H a o a=some o:=by unfold upd;rw[Q0 rfl]
theorem aj {H:Hp}{a b:Addr}{o:HO}(h:b≠a):upd H a o b=H b:=by unfold upd;rw[qZ h]
theorem sF {H:Hp}{a b:Addr}{o u:HO}(h:H a=some o) (h':H b=some u) (d:o≠u):a≠b:=by
 intro e;subst e;rw[h]at h';exact d (qI h')
theorem bJ {H:Hp}{a b:Addr}{o:HO}(h:H a=some o) (h':H b=none):a≠b:=by
 intro e;subst e;rw[h]at h';cases h'
section
variable (P:Program) (w:World)
def bb (H:Hp) (h:Heap) (a:Addr):HO->Prop
 |.lst xs=>xs.length<=sizeLine/\∃(its:List Value) (n:Nat),au xs its/\h.get? a=some { cls:=.type "list",data:=.seq its.toArray n }
 |.tup xs=>xs.length<=sizeLine/\∃its:List Value,au xs its/\IsTup h a its.toArray
 |.dK kvs=>kvs.length<=sizeLine/\(a == sysModules)=false/\∃vs,KV kvs vs/\h.DictOf (bL P w) a vs
 |.dT kvs=>kvs.length<=sizeLine/\(a == sysModules)=false/\∃xs:List (List Key×Addr×Value),
  Paired (fun(p:List Key×V) (q:List Key×Addr×Value)=>p.1=q.1/\H q.2.1=some (.tup (p.1.map kV))/\ay p.2 q.2.2) kvs xs /\
  ∃o es ep,h.get? a=some o/\o.ExactDict/\o.data=.dict es ep/\es.toList=xs.map (entryOfKey (tupleKind (bL P w)))/\(xs.map (·.1)).Nodup
 |.set S n=>h.SetOf (intKind P w) a S n
 |.ins C dx fs=>H dx=some (.own a)/\fs.length<=1000/\dx≠a/\h.get? a=some (PySem.W.instObj C dx) /\
  ∃mA,h.Ns1 dx mA/\(∀f,bN (fs.lookup f) (mA f))/\PySem.Within mA (fs.map (·.1))
 |.own _=>∃o,h.get? a=some o
 |.xd fs=>∃mA,h.Ns1 a mA/\∀f,bN (fs.lookup f) (mA f)
 |.rng lo hi=>∃t u v,h.get? a=some { cls:=.type "range",data:=.fields #[.int lo t,.int hi u,.int 1 v] }
 |.frz o u=>h.get? a=some o/\bb H h a u
 |.tbl ps=>h.get? a=some { cls:=.none,data:=.fields ps }
 |.met f x=>h.get? a=some (PySem.W.methodObj (.ref f) (.ref x))
 |.ext φ=>φ h/\(∃o,h.get? a=some o)/\∀h1 h2:Heap,φ h1->(∀o,h1.get? a=some o->h2.get? a=some o)->φ h2
def HOk (H:Hp) (h:Heap):Prop:=∀a o,H a=some o->bb P w H h a o
end
section
variable {P:Program}{w:World}{H H':Hp}{h h':Heap}{a:Addr}{o:HO}
theorem bb.lt (x:bb P w H h a o):a<h.objs.size:=by
 cases o with
 |lst xs=>obtain⟨_,_,_,_,e⟩:=x;exact qp e
 |tup xs=>obtain⟨_,_,_,p⟩:=x;exact p.lt
 |dK kvs=>obtain⟨_,_,_,_,o,_,_,e,_⟩:=x;exact qp e
 |dT kvs=>obtain⟨_,_,_,_,o,_,_,e,_⟩:=x;exact qp e
 |set S n=>obtain⟨o,_,_,_,e,_⟩:=x;exact qp e
 |ins C dx fs=>obtain⟨_,_,_,e,_⟩:=x;exact qp e
 |own y=>obtain⟨_,e⟩:=x;exact qp e
 |xd fs=>obtain⟨_,⟨_,_,_,e,_⟩,_⟩:=x;exact qp e
 |rng lo hi=>obtain⟨_,_,_,e⟩:=x;exact qp e
 |frz ob u=>obtain⟨e,_⟩:=x;exact qp e
 |tbl ps=>exact qp (show h.get? a=some _ from x)
 |met f y=>exact qp (show h.get? a=some _ from x)
 |ext φ=>obtain⟨_,⟨_,e⟩,_⟩:=x;exact qp e
theorem Paired.mapP {α β:Type}{F G:α->β->Prop}:∀{l₁:List α}{l₂:List β},Paired F l₁ l₂->(∀a b,F a b->G a b)->Paired G l₁ l₂
 |_,_,.nil,_=>.nil
 |_,_,.cons r t,f=>.cons (f _ _ r) (Paired.mapP t f)
theorem bb.stay (x:bb P w H h a o) (k:∀b u,(b=a\/H b=some (.own a))->h.get? b=some u->h'.get? b=some u)
 (ho:∀b,H b=some (.own a)->H' b=some (.own a)) (ht:∀b xs,H b=some (.tup xs)->H' b=some (.tup xs)):bb P w H' h' a o:=by
 induction o with
 |lst xs=>obtain⟨z,its,n,r,e⟩:=x;exact⟨z,its,n,r,k _ _ (.inl rfl) e⟩
 |tup xs=>obtain⟨z,its,r,ob,e,c⟩:=x;exact⟨z,its,r,ob,k _ _ (.inl rfl) e,c⟩
 |dK kvs=>obtain⟨z,y,vs,r,ob,es,ep,e,c⟩:=x;exact⟨z,y,vs,r,ob,es,ep,k _ _ (.inl rfl) e,c⟩
 |dT kvs=>
  obtain⟨z,y,xs,r,ob,es,ep,e,c⟩:=x
  exact⟨z,y,xs,Paired.mapP r fun p q z=>⟨z.1,ht _ _ z.2.1,z.2.2⟩,ob,es,ep,k _ _ (.inl rfl) e,c⟩
 |set S n=>obtain⟨ob,es,ep,t,e,c⟩:=x;exact⟨ob,es,ep,t,k _ _ (.inl rfl) e,c⟩
 |ins C dx fs=>
  obtain⟨d,z,ne,e,mA,⟨od,es,ep,e2,c⟩,r⟩:=x
  exact⟨ho _ d,z,ne,k _ _ (.inl rfl) e,mA,⟨od,es,ep,k _ _ (.inr d) e2,c⟩,r⟩
 |own y=>obtain⟨ob,e⟩:=x;exact⟨ob,k _ _ (.inl rfl) e⟩
 |xd fs=>obtain⟨mA,⟨od,es,ep,e,c⟩,r⟩:=x;exact⟨mA,⟨od,es,ep,k _ _ (.inl rfl) e,c⟩,r⟩
 |rng lo hi=>obtain⟨t,u,v,e⟩:=x;exact⟨t,u,v,k _ _ (.inl rfl) e⟩
 |frz ob u ih=>obtain⟨e,q⟩:=x;exact⟨k _ _ (.inl rfl) e,ih q⟩
 |tbl ps=>
  have e:h.get? a=some { cls:=.none,data:=.fields ps }:=x
  show h'.get? a=some { cls:=.none,data:=.fields ps }
  exact k a _ (.inl rfl) e
 |met f y=>
  have e:h.get? a=some (PySem.W.methodObj (.ref f) (.ref y)):=x
  show h'.get? a=some (PySem.W.methodObj (.ref f) (.ref y))
  exact k a _ (.inl rfl) e
 |ext φ=>obtain⟨p,⟨o,e⟩,st⟩:=x;exact⟨st _ _ p fun o q=>k _ _ (.inl rfl) q,⟨o,k _ _ (.inl rfl) e⟩,st⟩
theorem HOk.lt (x:HOk P w H h) (e:H a=some o):a<h.objs.size:=(x a o e).lt
theorem HOk.fresh (x:HOk P w H h) (e:h.objs.size<=a):H a=none:=by
 cases q:H a with
 |none=>rfl
 |some u=>exact absurd (qC (x.lt q) e) (Nat.lt_irrefl _)
theorem HOk.kept (x:HOk P w H h) (k:∀b u,h.get? b=some u->h'.get? b=some u):HOk P w H h':=fun a o e=>
 (x a o e).stay (fun b u _ q=>k b u q) (fun _ q=>q) fun _ _ q=>q
theorem HOk.laid (x:HOk P w H h) (k:∀b u,h.get? b=some u->h'.get? b=some u) (hp:h.objs.size<=a) (new:bb P w (upd H a o) h' a o):HOk P w (upd H a o) h':=fun b u e=>by
 have hn:=x.fresh hp
 by_cases hb:b=a
 ·subst hb;rw[ae]at e;cases e;exact new
 ·rw[aj hb]at e
  exact(x b u e).stay (fun c v _ q=>k c v q) (fun c q=>by rw[aj (bJ q hn)];exact q) fun c xs q=>by rw[aj (bJ q hn)];exact q
end
def Rd (H:Hp) (a:Addr) (u:HO):Prop:=H a=some u\/∃o,H a=some (.frz o u)
theorem Rd.ok {P:Program}{w:World}{H:Hp}{h:Heap}{a:Addr}{u:HO}(r:Rd H a u) (x:HOk P w H h):bb P w H h a u:=by
 rcases r with r|⟨o,r⟩
 ·exact x a u r
 ·obtain⟨_,q⟩:=x a _ r
  exact q
def Mut:Option HO->Prop
 |some (.lst _)=>True
 |some (.dK _)=>True
 |some (.dT _)=>True
 |some (.set _ _)=>True
 |some (.ins _ _ _)=>True
 |some (.ext _)=>True
 |_=>False
section
variable {P:Program}{w:World}{H:Hp}{h h':Heap}{x e:Addr}{o':HO}
theorem HOk.write (ok:HOk P w H h) (mu:Mut (H x)) (he:e=x\/H e=some (.own x)) (k:∀b u,b≠e->h.get? b=some u->h'.get? b=some u) (heo:∃u,h'.get? e=some u)
 (new:bb P w (upd H x o') h' x o'):HOk P w (upd H x o') h':=fun b u q=>by
 have nown:∀c y,H c=some (.own y)->c≠x:=fun c y r z=>by subst z;rw[r]at mu;exact mu
 have ntup:∀c xs,H c=some (.tup xs)->c≠x:=fun c xs r z=>by subst z;rw[r]at mu;exact mu
 by_cases hb:b=x
 ·subst hb;rw[ae]at q;cases q;exact new
 ·rw[aj hb]at q
  by_cases hbe:b=e
  ·have q':H b=some (.own x):=by
    rcases he with z|z
    ·exact absurd (hbe.trans z) hb
    ·rw[hbe];exact z
   rw[q]at q';cases q'
   obtain⟨v,hv⟩:=heo
   exact⟨v,by rw[hbe];exact hv⟩
  ·refine(ok b u q).stay (fun c v hc r=>k c v ?_ r) (fun c r=>by rw[aj (nown c b r)];exact r) fun c xs r=>by rw[aj (ntup c xs r)];exact r
   rcases hc with rfl|hc
   ·exact hbe
   ·rintro rfl
    rcases he with z|z
    ·exact nown c b hc z
    ·rw[hc]at z;cases z;exact hb rfl
end
structure Un (fs ex:List Addr) (H H':Hp) (h h':Heap):Prop where
 keep:∀b o,h.get? b=some o->H b=none->b∉fs->b∉ex->h'.get? b=some o
 slot:∀b o,h.get? b=some o->H b=none->b∈fs->b∉ex->∃sl,h'.get? b=some { o with slots:=sl }
 free:∀b o,h.get? b=some o->H b=none->b∉ex->H' b=none
 there:∀b o,h.get? b=some o->b∉ex->∃o',h'.get? b=some o'
 tups:∀b xs,H b=some (.tup xs)->H' b=some (.tup xs)
 frzs:∀b o u,H b=some (.frz o u)->H' b=some (.frz o u)
 tbls:∀b ps,H b=some (.tbl ps)->∃more,H' b=some (.tbl (ps++more))
section
variable {fs fs' ex ex':List Addr}{H H1 H2:Hp}{h h1 h2 h':Heap}{a x e:Addr}{o:HO}
theorem Un.any (u:Un fs ex H H1 h h1) {b:Addr}{ob:Obj}(q:h.get? b=some ob) (n:H b=none) (hx:b∉ex):∃sl,h1.get? b=some { ob with slots:=sl }:=by
 by_cases hb:b∈fs
 ·exact u.slot b ob q n hb hx
 ·exact⟨ob.slots,u.keep b ob q n hb hx⟩
theorem Un.kept (k:∀b u,h.get? b=some u->h'.get? b=some u):Un fs ex H H h h':=
 ⟨fun b ob q _ _ _=>k b ob q,fun b ob q _ _ _=>⟨ob.slots,k b ob q⟩,fun _ _ _ n _=>n,fun b ob q _=>⟨ob,k b ob q⟩,fun _ _ q=>q,fun _ _ _ q=>q,fun _ ps q=>⟨#[],by rw[q];simp⟩⟩
theorem Un.refl:Un fs ex H H h h:=Un.kept fun _ _ q=>q
theorem Un.laid (k:∀b u,h.get? b=some u->h'.get? b=some u) (hp:h.objs.size<=a) (hn:H a=none):Un fs ex H (upd H a o) h h' where
 keep:=fun b u q _ _ _=>k b u q
 slot:=fun b u q _ _ _=>⟨u.slots,k b u q⟩
 free:=fun b u q n _=>by rw[aj (qF (qC (qp q) hp))];exact n
 there:=fun b u q _=>⟨u,k b u q⟩
 tups:=fun b xs q=>by rw[aj (bJ q hn)];exact q
 frzs:=fun b u xs q=>by rw[aj (bJ q hn)];exact q
 tbls:=fun b ps q=>⟨#[],by rw[aj (bJ q hn),q];simp⟩
theorem Un.write (mu:Mut (H x)) (he:e=x\/H e=some (.own x)) (k:∀b u,b≠e->h.get? b=some u->h'.get? b=some u) (heo:∃u,h'.get? e=some u):Un fs ex H (upd H x o) h h':=by
 have hx:∀b,H b=none->b≠x:=fun b n z=>by subst z;rw[n]at mu;exact mu
 have hb:∀b,H b=none->b≠e:=fun b n z=>by
  subst z
  rcases he with r|r
  ·exact hx b n r
  ·rw[n]at r;cases r
 have hm:∀b u,H b=some u->¬ Mut (some u)->b≠x:=fun b u q nm z=>by subst z;rw[q]at mu;exact nm mu
 refine⟨fun b u q n _ _=>k b u (hb b n) q,fun b u q n _ _=>⟨u.slots,k b u (hb b n) q⟩,fun b u q n _=>by rw[aj (hx b n)];exact n,fun b u q _=>?_,
  fun b xs q=>by rw[aj (hm b _ q fun z=>z)];exact q,fun b u xs q=>by rw[aj (hm b _ q fun z=>z)];exact q,fun b ps q=>⟨#[],by rw[aj (hm b _ q fun z=>z),q];simp⟩⟩
 by_cases hbe:b=e
 ·subst hbe;exact heo
 ·exact⟨u,k b u hbe q⟩
end
def trk (h:Heap) (H:Hp):List Addr:=(List.range h.objs.size).filter fun a=>(H a).isSome
def dD (h:Heap) (H:Hp):Heap:=PySem.W.hideAll h (trk h H)
theorem Bs (h:Heap) (H:Hp):(dD h H).objs.size=h.objs.size:=PySem.W.hideAll_size _ _
theorem Bt {h:Heap}{H:Hp}{b:Addr}{o:Obj}(e:h.get? b=some o) (n:H b=none):(dD h H).get? b=some o:=
 PySem.W.hideAll_get _ e fun hm=>by
  have q:(H b).isSome=true:=(List.mem_filter.mp hm).2
  rw[n]at q;simp at q
theorem Ag {h:Heap}{H:Hp}{b:Addr}{o:Obj}(e:(dD h H).get? b=some o):h.get? b=some o/\H b=none:=by
 have e':h.get? b=some o:=PySem.W.of_hideAll (trk h H) e
 refine⟨e',?_⟩
 cases q:H b with
 |none=>rfl
 |some x=>
  have hm:b∈trk h H:=List.mem_filter.mpr ⟨List.mem_range.mpr (qp e'),by simp[q]⟩
  have z:(dD h H).get? b=none:=PySem.W.hideAll_none (trk h H) hm
  rw[z]at e;cases e
def CK (g h:Heap) (L:Addr):List (Addr×Obj):=(List.range h.objs.size).filterMap fun a=>if a=L\/(g.get? a).isSome=true then none else(h.get? a).map fun o=>(a,o)
def rest (g h:Heap) (L d:Addr):List (Addr×Obj):=(CK g h L).filter fun p=>decide (p.1≠d)
structure Mod (K:PySem.W.Frag) (mg:Str->Option Value) (base:Heap):Prop where
 kin:K.In base
 glob:base.Ns mainGlobals mg
 blt:∃mb,base.Ns builtinsNs mb/\∀x:Str,x≠"__name__"->mb x=bootBuiltins x
 nolimit:base.NoLimit
structure Cx where
 prog:Program
 w:World
 K:PySem.W.Frag
 mg:Str->Option Value
 base:Heap
 A:Around
 N:List Str
 s₀:Shared
 H₀:Hp
 env:Env
 outer:List Env
 stack:List Env
 ex:List Addr
 fn:Str->Bool
 calm:Bool
 pn:List (Addr×Obj)
 xe:Value->Shared->Prop
def frs (l:List Env):List Addr:=l.filterMap (·.frame)
abbrev Cx.fs (X:Cx):List Addr:=frs X.outer
def Vis (sc:Scope) (x:Str):Prop:=sc.names.lookup x=some .local\/sc.names.lookup x=some .cell\/sc.names.lookup x=some .free
def Loc (sc:Scope) (x:Str):Prop:=sc.names.lookup x=some .local\/sc.names.lookup x=some .cell
def CS (env:Env) (h:Heap) (m:Str->Option Value) (x:Str) (u:Value):Prop:=
 (env.kindOf x=some .local/\m x=some u)\/((env.kindOf x=some .cell\/env.kindOf x=some .free)/\∃c,env.cells.lookup x=some c/\h.IsCell c (some u))
structure Cx.Ok (X:Cx):Prop where
 mod:Mod X.K X.mg X.base
 kind:X.env.scope.kind=.function
 glob:X.env.globals=mainGlobals
 blt:X.env.builtins=builtinsNs
 above:X.s₀.heap.objs.size<=X.env.locals
 inj:∀x y c,X.env.cells.lookup x=some c->X.env.cells.lookup y=some c->x=y
 has:∀x,(X.env.kindOf x=some .cell\/X.env.kindOf x=some .free)->∃c,X.env.cells.lookup x=some c
 cab:∀x c,X.fn x=true->X.env.cells.lookup x=some c->X.s₀.heap.objs.size<=c
 hd:X.calm=true->X.A.handled=none
 frames:X.A.frames=some X.stack
 stk:X.stack=X.outer\/(X.stack=X.env::X.outer/\X.env.frame=some X.env.locals)
 exf:∀b∈X.ex,b≠X.env.locals/\∀x c,X.env.cells.lookup x=some c->c≠b
 bs:∀b o,X.base.get? b=some o->X.s₀.heap.get? b=some o/\X.H₀ b=none
 bsz:X.base.objs.size<=X.s₀.heap.objs.size
 noex:∀b o,X.base.get? b=some o->b∉X.ex
 exfs:∀b∈X.ex,b∉X.fs
 funs:X.s₀.heap.FunFrames X.base X.outer
 frf:∀b∈X.fs,X.H₀ b=none
structure Inv (X:Cx) (pins:List (Addr×Obj)) (σ:List (Option V)) (H:Hp) (s:Shared):Prop where
 ok:X.Ok
 os:s.os=X.s₀.os
 bare:AllBare s.gens
 base:Un X.fs X.ex X.H₀ H X.s₀.heap s.heap
 loc:∃m,s.heap.Ns X.env.locals m/\∀(i:Nat) (x:Str) (v:V),X.N[i]?=some x->σ[i]?=some (some v)->Vis X.env.scope x->∃u,ay v u/\CS X.env s.heap m x u
 cell:∀x c,X.env.cells.lookup x=some c->∃v,s.heap.IsCell c v
 free:H X.env.locals=none
 freeC:∀x c,X.env.cells.lookup x=some c->H c=none
 pin:∀p∈X.pn++pins,s.heap.get? p.1=some p.2/\H p.1=none/\p.1≠X.env.locals/\p.1∉X.fs/\∀v,p.2.data≠.cell v
 hok:HOk X.prog X.w H s.heap
 len:σ.length=X.N.length
section
variable {X:Cx}{pins:List (Addr×Obj)}{σ:List (Option V)}{H H':Hp}{s:Shared}{h':Heap}
theorem Cx.Ok.nofr (ok:X.Ok) {b:Addr}{o:Obj}(e:X.base.get? b=some o):b∉X.fs:=fun hb=>by
 have:=(ok.funs.mem hb).1
 rw[e]at this;cases this
theorem Inv.bs (I:Inv X pins σ H s):∀b o,X.base.get? b=some o->s.heap.get? b=some o/\H b=none:=fun b o e=>
 ⟨I.base.keep b o (I.ok.bs b o e).1 (I.ok.bs b o e).2 (I.ok.nofr e) (I.ok.noex b o e),I.base.free b o (I.ok.bs b o e).1 (I.ok.bs b o e).2 (I.ok.noex b o e)⟩
theorem Inv.bk (I:Inv X pins σ H s):∀b o,X.base.get? b=some o->s.heap.get? b=some o:=fun b o e=>(I.bs b o e).1
theorem Inv.mod (I:Inv X pins σ H s):Mod X.K X.mg X.base:=I.ok.mod
theorem Inv.kIn (I:Inv X pins σ H s):X.K.In s.heap:=I.ok.mod.kin.keeps I.bk
theorem Inv.lt (I:Inv X pins σ H s):X.env.locals<s.heap.objs.size:=let ⟨_,hn,_⟩:=I.loc;hn.lt
theorem Inv.sz (I:Inv X pins σ H s):X.s₀.heap.objs.size<=s.heap.objs.size:=qx I.ok.above (Nat.le_of_lt I.lt)
theorem Inv.nofs (I:Inv X pins σ H s) {a:Addr}(h:s.heap.objs.size<=a):a∉X.fs:=fun hb=>by
 obtain⟨_,o,ho,_⟩:=I.ok.funs.mem hb
 exact absurd (qC (qp ho) (qx I.sz h)) (Nat.lt_irrefl _)
theorem Inv.cne (I:Inv X pins σ H s):∀x c,X.env.cells.lookup x=some c->c≠X.env.locals:=fun x c e z=>by
 obtain⟨v,o,ho,hd⟩:=I.cell x c e
 obtain⟨m,⟨o',es,ep,ho',hd',_⟩,_⟩:=I.loc
 rw[z,ho']at ho;cases ho;rw[hd']at hd;cases hd
theorem Inv.funs (I:Inv X pins σ H s):s.heap.FunFrames X.base X.outer:=by
 have all:∀(l:List Env),(∀b∈frs l,b∈X.fs)->X.s₀.heap.FunFrames X.base l->s.heap.FunFrames X.base l:=by
  intro l
  induction l with
  |nil=>intro _ _;trivial
  |cons env r ih=>
   intro hs hl
   obtain⟨hk,⟨L,o,hf,hn,ho,hd⟩,hr⟩:=hl
   have hL:L∈X.fs:=hs L (by unfold frs;rw[List.filterMap_cons,hf];exact qk)
   obtain⟨sl,e⟩:=I.base.slot L o ho (I.ok.frf L hL) hL fun z=>I.ok.exfs L z hL
   exact⟨hk,⟨L,_,hf,hn,e,hd⟩,ih (fun b hb=>hs b (by unfold frs;rw[List.filterMap_cons,hf];exact qj _ hb)) hr⟩
 exact all X.outer (fun _ hb=>hb) I.ok.funs
theorem Inv.stack (I:Inv X pins σ H s):s.heap.FunFrames X.base X.stack:=by
 rcases I.ok.stk with e|⟨e,hf⟩
 ·rw[e];exact I.funs
 ·rw[e]
  obtain⟨m,hn,_⟩:=I.loc
  refine .cons (by rw[I.ok.kind];decide) hf hn ?_ I.funs
  exact Heap.get?_none_of_le (qx I.ok.bsz I.ok.above)
theorem Inv.stkSub (I:Inv X pins σ H s):∀b∈frs X.stack,b∈X.env.locals::X.fs:=fun b hb=>by
 rcases I.ok.stk with e|⟨e,hf⟩
 ·rw[e]at hb;exact qj _ hb
 ·rw[e]at hb
  unfold frs at hb
  rw[List.filterMap_cons,hf]at hb
  exact hb
theorem Inv.stkFree (I:Inv X pins σ H s):∀b∈frs X.stack,H b=none:=fun b hb=>by
 rcases qt.mp (I.stkSub b hb)with e|hb
 ·rw[e];exact I.free
 ·obtain⟨_,o,ho,_⟩:=I.ok.funs.mem hb
  exact I.base.free b o ho (I.ok.frf b hb) fun z=>I.ok.exfs b z hb
theorem Inv.step {g':Array GenState}{t':Nat}{d':Drawn}{ch:List Addr}(I:Inv X pins σ H s)
 (hch:∀b∈ch,(b∈X.ex\/X.s₀.heap.objs.size<=b)/\b≠X.env.locals/\(∀x c,X.env.cells.lookup x=some c->c≠b)/\∀p∈X.pn++pins,p.1≠b)
 (keep:∀b o,b≠X.env.locals->b∉X.fs->b∉ch->s.heap.get? b=some o->H b=none->h'.get? b=some o)
 (slot:∀b o,b≠X.env.locals->b∈X.fs->b∉ch->s.heap.get? b=some o->H b=none->∃sl,h'.get? b=some { o with slots:=sl }) (free:∀b o,b∉ch->s.heap.get? b=some o->H b=none->H' b=none)
 (there:∀b o,b∉ch->s.heap.get? b=some o->∃o',h'.get? b=some o')
 (tups:∀b xs,H b=some (.tup xs)->H' b=some (.tup xs)) (frzs:∀b o u,H b=some (.frz o u)->H' b=some (.frz o u)) (tbls:∀b ps,H b=some (.tbl ps)->∃more,H' b=some (.tbl (ps++more)))
 (ns:∀m,s.heap.Ns X.env.locals m->h'.Ns X.env.locals m) (hok:HOk X.prog X.w H' h') (hg:AllBare g'):
 Inv X pins σ H' { s with heap:=h',gens:=g',drawn:=d',toks:=t' }:=by
 have neL:∀b o,X.s₀.heap.get? b=some o->b≠X.env.locals:=fun b o e=>qF (qC (qp e) I.ok.above)
 have neC:∀b o,X.s₀.heap.get? b=some o->b∉X.ex->b∉ch:=fun b o e hx hb=>by
  rcases(hch b hb).1 with z|z
  ·exact hx z
  ·exact absurd (qC (qp e) z) (Nat.lt_irrefl _)
 have cellK:∀x c,X.env.cells.lookup x=some c->∀v,s.heap.IsCell c v->h'.IsCell c v:=fun x c e v ⟨o,ho,hd⟩=>by
  have nch:c∉ch:=fun z=>(hch c z).2.2.1 x c e rfl
  by_cases hc:c∈X.fs
  ·obtain⟨sl,q⟩:=slot c o (I.cne x c e) hc nch ho (I.freeC x c e)
   exact⟨_,q,hd⟩
  ·exact⟨o,keep c o (I.cne x c e) hc nch ho (I.freeC x c e),hd⟩
 refine⟨I.ok,I.os,hg,⟨fun b o e n hb hx=>?_,fun b o e n hb hx=>?_,fun b o e n hx=>?_,fun b o e hx=>?_,fun b xs e=>tups b xs (I.base.tups b xs e),fun b o xs e=>frzs b o xs (I.base.frzs b o xs e),fun b ps e=>?_⟩,?_,fun x c e=>?_,?_,fun x c e=>?_,fun p hp=>?_,hok,I.len⟩
 ·exact keep b o (neL b o e) hb (neC b o e hx) (I.base.keep b o e n hb hx) (I.base.free b o e n hx)
 ·obtain⟨sl,e1⟩:=I.base.slot b o e n hb hx
  obtain⟨sl',e2⟩:=slot b _ (neL b o e) hb (neC b o e hx) e1 (I.base.free b o e n hx)
  exact⟨sl',e2⟩
 ·obtain⟨o',e1⟩:=I.base.there b o e hx
  exact free b o' (neC b o e hx) e1 (I.base.free b o e n hx)
 ·obtain⟨o',e1⟩:=I.base.there b o e hx
  exact there b o' (neC b o e hx) e1
 ·obtain⟨m1,e1⟩:=I.base.tbls b ps e
  obtain⟨m2,e2⟩:=tbls b _ e1
  exact⟨m1++m2,by rw[e2,Array.append_assoc]⟩
 ·obtain⟨m,hn,hl⟩:=I.loc
  refine⟨m,ns m hn,fun i x v e1 e2 e3=>?_⟩
  obtain⟨u,r,l⟩:=hl i x v e1 e2 e3
  refine⟨u,r,?_⟩
  rcases l with l|⟨k,c,e,z⟩
  ·exact .inl l
  ·exact .inr ⟨k,c,e,cellK x c e _ z⟩
 ·obtain⟨v,z⟩:=I.cell x c e
  exact⟨v,cellK x c e v z⟩
 ·obtain⟨m,⟨o,_,_,ho,_⟩,_⟩:=I.loc
  exact free _ o (fun z=>(hch _ z).2.1 rfl) ho I.free
 ·obtain⟨v,o,ho,hd⟩:=I.cell x c e
  exact free c o (fun z=>(hch c z).2.2.1 x c e rfl) ho (I.freeC x c e)
 ·obtain⟨e,n,ne,nf,d⟩:=I.pin p hp
  have nch:p.1∉ch:=fun z=>(hch p.1 z).2.2.2 p hp rfl
  exact⟨keep p.1 p.2 ne nf nch e n,free p.1 p.2 nch e n,ne,nf,d⟩
theorem Inv.un {t':Nat}(I:Inv X pins σ H s) (u:Un X.fs [] H H' s.heap h') (hok:HOk X.prog X.w H' h'):Inv X pins σ H' { s with heap:=h',toks:=t' }:=by
 obtain⟨m,⟨o,es,ep,ho,r⟩,_⟩:=id I.loc
 obtain⟨sl,hL⟩:=u.any ho I.free (by simp)
 exact I.step (g':=s.gens) (d':=s.drawn) (ch:=[]) (fun _ z=>nomatch z) (fun b o _ hb _ e n=>u.keep b o e n hb (by simp)) (fun b o _ hb _ e n=>u.slot b o e n hb (by simp)) (fun b o _ e n=>u.free b o e n (by simp)) (fun b o _ e=>u.there b o e (by simp)) u.tups u.frzs u.tbls (fun m' hm=>by
  obtain⟨o',es',ep',ho',r'⟩:=hm
  rw[ho]at ho';cases ho'
  exact⟨_,es',ep',hL,r'⟩) hok I.bare
theorem Inv.call {g':Array GenState}{t':Nat}{d':Drawn}{ch:List Addr}(I:Inv X pins σ H s) (u:Un (frs X.stack) ch H H' s.heap h') (hok:HOk X.prog X.w H' h') (hg:AllBare g')
 (hch:∀b∈ch,(b∈X.ex\/X.s₀.heap.objs.size<=b)/\b≠X.env.locals/\(∀x c,X.env.cells.lookup x=some c->c≠b)/\∀p∈X.pn++pins,p.1≠b):
 Inv X pins σ H' { s with heap:=h',gens:=g',drawn:=d',toks:=t' }:=by
 obtain⟨m,⟨o,es,ep,ho,r⟩,_⟩:=id I.loc
 obtain⟨sl,hL⟩:=u.any ho I.free fun z=>(hch _ z).2.1 rfl
 exact I.step (ch:=ch) hch (fun b o hL hb hc e n=>u.keep b o e n (fun z=>(qt.mp (I.stkSub b z)).elim hL hb) hc) (fun b o _ _ hc e n=>u.any e n hc) (fun b o hc e n=>u.free b o e n hc) (fun b o hc e=>u.there b o e hc) u.tups u.frzs u.tbls (fun m' hm=>by
  obtain⟨o',es',ep',ho',r'⟩:=hm
  rw[ho]at ho';cases ho'
  exact⟨_,es',ep',hL,r'⟩) hok hg
theorem Inv.turned {t':Nat}{it:Addr}(I:Inv X pins σ H s) (k:∀b o,b≠it->s.heap.get? b=some o->h'.get? b=some o) (hn:H it=none) (hL:it≠X.env.locals)
 (h1:it∈X.ex\/X.s₀.heap.objs.size<=it) (h2:∀x c,X.env.cells.lookup x=some c->c≠it) (h3:∀p∈X.pn++pins,p.1≠it):Inv X pins σ H { s with heap:=h',toks:=t' }:=by
 have nit:∀b u,H b=some u->b≠it:=fun b u e z=>by rw[z,hn]at e;cases e
 refine I.step (g':=s.gens) (d':=s.drawn) (ch:=[it]) (fun b hb=>?_) (fun b o _ _ hc e _=>k b o (fun z=>hc (by simp[z])) e) (fun b o _ _ hc e _=>⟨o.slots,k b o (fun z=>hc (by simp[z])) e⟩) (fun _ _ _ _ n=>n)
  (fun b o hc e=>⟨o,k b o (fun z=>hc (by simp[z])) e⟩) (fun _ _ e=>e) (fun _ _ _ e=>e) (fun b ps e=>⟨#[],by rw[e];simp⟩) (fun m hm=>?_) (fun b u e=>?_) I.bare
 ·have e:b=it:=by simpa using hb
  subst e
  exact⟨h1,hL,h2,h3⟩
 ·obtain⟨o,es,ep,ho,r⟩:=hm
  exact⟨o,es,ep,k _ o (Ne.symm hL) ho,r⟩
 ·refine(I.hok b u e).stay (fun c v hc q=>k c v ?_ q) (fun _ q=>q) fun _ _ q=>q
  rcases hc with z|z
  ·rw[z];exact nit b u e
  ·exact nit c _ z
theorem Inv.tok (I:Inv X pins σ H s) (t:Nat):Inv X pins σ H { s with toks:=t }:=I.un (h':=s.heap) (t':=t) Un.refl I.hok
theorem Inv.kept {t':Nat}(I:Inv X pins σ H s) (k:∀b u,s.heap.get? b=some u->h'.get? b=some u):Inv X pins σ H { s with heap:=h',toks:=t' }:=I.un (Un.kept k) (I.hok.kept k)
theorem Inv.laid {a:Addr}{o:HO}{t':Nat}(I:Inv X pins σ H s) (k:∀b u,s.heap.get? b=some u->h'.get? b=some u) (hp:s.heap.objs.size<=a) (new:bb X.prog X.w (upd H a o) h' a o):
 Inv X pins σ (upd H a o) { s with heap:=h',toks:=t' }:=I.un (Un.laid k hp (I.hok.fresh hp)) (I.hok.laid k hp new)
theorem Inv.write {x e:Addr}{o:HO}{t':Nat}(I:Inv X pins σ H s) (mu:Mut (H x)) (he:e=x\/H e=some (.own x)) (k:∀b u,b≠e->s.heap.get? b=some u->h'.get? b=some u) (heo:∃u,h'.get? e=some u)
 (new:bb X.prog X.w (upd H x o) h' x o):Inv X pins σ (upd H x o) { s with heap:=h',toks:=t' }:=I.un (Un.write mu he k heo) (I.hok.write mu he k heo new)
theorem Inv.pins_of {pins':List (Addr×Obj)}(I:Inv X pins σ H s) (h:∀p∈pins',s.heap.get? p.1=some p.2/\H p.1=none/\p.1≠X.env.locals/\p.1∉X.fs/\∀v,p.2.data≠.cell v):Inv X pins' σ H s:=
 ⟨I.ok,I.os,I.bare,I.base,I.loc,I.cell,I.free,I.freeC,fun p hp=>(qg.mp hp).elim (fun z=>I.pin p (qV _ z)) (h p),I.hok,I.len⟩
theorem sE {N:List Str}(hN:N.Nodup) {i j:Nat}{x:Str}(a:N[i]?=some x) (b:N[j]?=some x):i=j:=by
 obtain⟨h1,e1⟩:=qe.mp a
 obtain⟨h2,e2⟩:=qe.mp b
 exact(List.getElem_inj hN).mp (e1.trans e2.symm)
theorem or {M:Model}{A:Around}{E:Qq}{i:Nat}{x:Str}{v:V}{u:Value}{Q:Unit->Shared->Prop}(I:Inv X pins σ H s) (hN:X.N.Nodup) (hi:X.N[i]?=some x) (hx:Loc X.env.scope x) (r:ay v u)
 (h:∀s',Inv X pins (σ.set i (some v)) H s'->(∃a,Heap.SameBut a s.heap s'.heap/\(a=X.env.locals\/X.env.cells.lookup x=some a))->Q () s') (hf:X.fn x=true\/X.env.scope.names.lookup x=some .local:=by first|exact .inl rfl|exact .inr rfl|assumption):wpAny M A (storeName X.env x u) Q E s:=by
 obtain⟨m,hn,hl⟩:=id I.loc
 have hcls:(X.env.scope.kind == .class || (X.env.scope.kind == .module && X.env.locals != X.env.globals))=false:=by rw[I.ok.kind];rfl
 have hiσ:i<σ.length:=by rw[I.len];exact(qe.mp hi).1
 have cne:=I.cne
 have tracked:∀{a:Addr}{h':Heap},(∃o,s.heap.get? a=some o/\H a=none)->Heap.SameBut a s.heap h'->HOk X.prog X.w H h':=fun{a h'} ha hs b ob e=>by
  obtain⟨_,_,hfree⟩:=ha
  refine(I.hok b ob e).stay (fun c w' hc q=>(hs.2 c ?_).trans q) (fun _ q=>q) fun _ _ q=>q
  rintro rfl
  rcases hc with rfl|hc
  ·rw[hfree]at e;cases e
  ·rw[hfree]at hc;cases hc
 rcases hx with hk|hk
 ·refine wpAny_storeName_local hk hn (fun h' hn' hs=>?_) hcls
  obtain⟨oL,_,_,hoL,_⟩:=id hn
  refine h _ ⟨I.ok,I.os,I.bare,⟨fun b o e n hb hx=>?_,fun b o e n hb hx=>?_,I.base.free,fun b o e hx=>?_,I.base.tups,I.base.frzs,I.base.tbls⟩,⟨_,hn',fun j y v' e1 e2 e3=>?_⟩,fun y c e=>?_,I.free,I.freeC,fun p hp=>?_,tracked ⟨oL,hoL,I.free⟩ hs,by simpa using I.len⟩ ⟨_,hs,.inl rfl⟩
  ·exact(hs.2 b (qF (qC (qp e) I.ok.above))).trans (I.base.keep b o e n hb hx)
  ·obtain⟨sl,e1⟩:=I.base.slot b o e n hb hx
   exact⟨sl,(hs.2 b (qF (qC (qp e) I.ok.above))).trans e1⟩
  ·obtain⟨o',e1⟩:=I.base.there b o e hx
   exact⟨o',(hs.2 b (qF (qC (qp e) I.ok.above))).trans e1⟩
  ·by_cases hj:j=i
   ·subst hj
    rw[hi]at e1;cases e1
    rw[List.getElem?_set_self hiσ]at e2
    cases e2
    exact⟨u,r,.inl ⟨hk,by simp⟩⟩
   ·rw[List.getElem?_set_ne (Ne.symm hj)]at e2
    obtain⟨u',r',q⟩:=hl j y v' e1 e2 e3
    refine⟨u',r',?_⟩
    rcases q with⟨k,e⟩|⟨k,c,e,z⟩
    ·refine .inl ⟨k,?_⟩
     have:y≠x:=fun e=>hj (sE hN e1 (e▸hi))
     simp[this,e]
    ·exact .inr ⟨k,c,e,z.sameBut hs (cne y c e)⟩
  ·obtain⟨w',z⟩:=I.cell y c e
   exact⟨w',z.sameBut hs (cne y c e)⟩
  ·obtain⟨e,n,ne,nf,d⟩:=I.pin p hp
   exact⟨(hs.2 p.1 ne).trans e,n,ne,nf,d⟩
 ·have hfn:X.fn x=true:=by
   rcases hf with z|z
   ·exact z
   ·rw[z]at hk;cases hk
  obtain⟨c,hc⟩:=I.ok.has x (.inl hk)
  obtain⟨w',z⟩:=I.cell x c hc
  refine wpAny_storeName_cell I.ok.kind hk hc z (fun h' hc' hs=>?_)
  obtain⟨oc,hoc,hocd⟩:=id z
  refine h { s with heap:=h' } ⟨I.ok,I.os,I.bare,⟨fun b o e n hb hx=>?_,fun b o e n hb hx=>?_,I.base.free,fun b o e hx=>?_,I.base.tups,I.base.frzs,I.base.tbls⟩,⟨m,hn.sameBut hs (Ne.symm (cne x c hc)),fun j y v' e1 e2 e3=>?_⟩,fun y c' e=>?_,I.free,I.freeC,fun p hp=>?_,tracked ⟨oc,hoc,I.freeC x c hc⟩ hs,by simpa using I.len⟩ ⟨c,hs,.inr hc⟩
  ·exact(hs.2 b (qF (qC (qp e) (I.ok.cab x c hfn hc)))).trans (I.base.keep b o e n hb hx)
  ·obtain⟨sl,e1⟩:=I.base.slot b o e n hb hx
   exact⟨sl,(hs.2 b (qF (qC (qp e) (I.ok.cab x c hfn hc)))).trans e1⟩
  ·obtain⟨o',e1⟩:=I.base.there b o e hx
   exact⟨o',(hs.2 b (qF (qC (qp e) (I.ok.cab x c hfn hc)))).trans e1⟩
  ·by_cases hj:j=i
   ·subst hj
    rw[hi]at e1;cases e1
    rw[List.getElem?_set_self hiσ]at e2
    cases e2
    exact⟨u,r,.inr ⟨.inl hk,c,hc,hc'⟩⟩
   ·rw[List.getElem?_set_ne (Ne.symm hj)]at e2
    obtain⟨u',r',q⟩:=hl j y v' e1 e2 e3
    refine⟨u',r',?_⟩
    rcases q with q|⟨k,c',e,z'⟩
    ·exact .inl q
    ·refine .inr ⟨k,c',e,z'.sameBut hs ?_⟩
     rintro rfl
     exact hj (sE hN e1 (I.ok.inj _ _ _ e hc▸hi))
  ·by_cases hcc:c'=c
   ·subst hcc;exact⟨_,hc'⟩
   ·obtain⟨w2,z2⟩:=I.cell y c' e
    exact⟨w2,z2.sameBut hs hcc⟩
  ·obtain⟨e,n,ne,nf,d⟩:=I.pin p hp
   refine⟨(hs.2 p.1 ?_).trans e,n,ne,nf,d⟩
   intro q
   rw[q,hoc]at e
   have q':oc=p.2:=qI e
   exact d w' (by rw[<- q'];exact hocd)
theorem ou {M:Model}{A:Around}{E:Qq}{i:Nat}{x:Str}{v:V}{u:Value}{Q:Unit->Shared->Prop}(I:Inv X pins σ H s) (hN:X.N.Nodup) (hi:X.N[i]?=some x) (hx:Loc X.env.scope x) (r:ay v u)
 (h:∀s',Inv X pins (σ.set i (some v)) H s'->Q () s') (hf:X.fn x=true\/X.env.scope.names.lookup x=some .local:=by first|exact .inl rfl|exact .inr rfl|assumption):wpAny M A (storeName X.env x u) Q E s:=
 or I hN hi hx r (fun s' I' _=>h s' I') hf
theorem Inv.call' {s':Shared}{ch:List Addr}(I:Inv X pins σ H s) (ho:s'.os=s.os) (u:Un (frs X.stack) ch H H' s.heap s'.heap) (hok:HOk X.prog X.w H' s'.heap) (hg:AllBare s'.gens)
 (hch:∀b∈ch,(b∈X.ex\/X.s₀.heap.objs.size<=b)/\b≠X.env.locals/\(∀x c,X.env.cells.lookup x=some c->c≠b)/\∀p∈X.pn++pins,p.1≠b):Inv X pins σ H' s':=by
 obtain⟨h',g',d',t',o'⟩:=s'
 have e:o'=s.os:=ho
 subst e
 exact I.call (g':=g') (t':=t') (d':=d') u hok hg hch
end
abbrev XK:=Value->Option Addr->Hp->Prop
abbrev St:=List (Option V)
abbrev VK:=V->Hp->Prop
abbrev TE:=St->Hp->VK->Prop
abbrev TT:=St->Hp->(Bool->Hp->Prop)->Prop
abbrev TA:=St->Hp->(List V->Hp->Prop)->Prop
structure dh where
 nx:St->Hp->Prop
 rt:VK
 bk:St->Hp->Prop:=fun _ _=>False
 ct:St->Hp->Prop:=fun _ _=>False
abbrev TS:=dh->St->Hp->Prop
def EP (X:Cx) (pins:List (Addr×Obj)) (σ:St) (Q:VK) (u:Value) (s':Shared):Prop:=∃v H',Inv X pins σ H' s'/\ay v u/\Q v H'
def TP (X:Cx) (pins:List (Addr×Obj)) (σ:St) (Q:Bool->Hp->Prop) (b:Bool) (s':Shared):Prop:=∃H',Inv X pins σ H' s'/\Q b H'
def AP (X:Cx) (pins:List (Addr×Obj)) (σ:St) (Q:List V->Hp->Prop) (us:List Value) (s':Shared):Prop:=∃vs H',Inv X pins σ H' s'/\au vs us/\Q vs H'
def SP (X:Cx) (pins:List (Addr×Obj)) (D:dh) (f:Flow) (s':Shared):Prop:=
 match f with
 |.next=>∃σ' H',Inv X pins σ' H' s'/\D.nx σ' H'
 |.brk=>∃σ' H',Inv X pins σ' H' s'/\D.bk σ' H'
 |.cont=>∃σ' H',Inv X pins σ' H' s'/\D.ct σ' H'
 |.ret u=>∃v σ' H',Inv X pins σ' H' s'/\ay v u/\D.rt v H'
def PE (X:Cx) (e:Expr) (t:TE):Prop:=
 ∀(pins:List (Addr×Obj)) (s:Shared) (σ:St) (H:Hp) (Q:VK),Inv X pins σ H s->t σ H Q->wpAny (model X.prog X.w) X.A (eval e X.env) (EP X pins σ Q) X.xe s
def PT (X:Cx) (e:Expr) (t:TT):Prop:=
 ∀(pins:List (Addr×Obj)) (s:Shared) (σ:St) (H:Hp) (Q:Bool->Hp->Prop),Inv X pins σ H s->t σ H Q->wpAny (model X.prog X.w) X.A (isTrue e X.env (eval e X.env)) (TP X pins σ Q) X.xe s
def PW (X:Cx) (e:Expr) (t:TT):Prop:=
 ∀(whole:Sem Value) (pins:List (Addr×Obj)) (s:Shared) (σ:St) (H:Hp) (Q:Bool->Hp->Prop),Inv X pins σ H s->t σ H Q->wpAny (model X.prog X.w) X.A (isTrue e X.env whole) (TP X pins σ Q) X.xe s
theorem PW.pt {X:Cx}{e:Expr}{t:TT}(h:PW X e t):PT X e t:=h _
def PA (X:Cx) (es:List Expr) (t:TA):Prop:=
 ∀(pos:Pos) (pins:List (Addr×Obj)) (s:Shared) (σ:St) (H:Hp) (Q:List V->Hp->Prop),Inv X pins σ H s->t σ H Q->wpAny (model X.prog X.w) X.A (spliced (backTo pos (starEach es X.env))) (AP X pins σ Q) X.xe s
def PS (X:Cx) (st:Stmt) (t:TS):Prop:=
 ∀(pins:List (Addr×Obj)) (s:Shared) (σ:St) (H:Hp) (D:dh),Inv X pins σ H s->t D σ H->wpAny (model X.prog X.w) X.A (exec st X.env) (SP X pins D) X.xe s
def PSs (X:Cx) (st:List Stmt) (t:TS):Prop:=
 ∀(pins:List (Addr×Obj)) (s:Shared) (σ:St) (H:Hp) (D:dh),Inv X pins σ H s->t D σ H->wpAny (model X.prog X.w) X.A (execs st X.env) (SP X pins D) X.xe s
theorem thn {α:Type}{t:Sem α}{Q Q':α->Shared->Prop}{M:Model}{A:Around}{E:Qq}{s:Shared}(h:wpAny M A t Q E s) (hQ:∀a s,Q a s->Q' a s):wpAny M A t Q' E s:=wpAny_mono h hQ fun _ _ x=>x
section
variable {X:Cx}
theorem bin {a b:Expr}{ta tb:TE}(ha:PE X a ta) (hb:PE X b tb) {pins:List (Addr×Obj)}{s:Shared}{σ:St}{H:Hp}{R:V->V->Hp->Prop}(I:Inv X pins σ H s) (h:ta σ H fun x H1=>tb σ H1 fun y H2=>R x y H2)
 {α:Type}{Q:α->Shared->Prop}{f:Value->Value->Sem α}
 (hf:∀v u s2 x y H2,Inv X pins σ H2 s2->ay x v->ay y u->R x y H2->wpAny (model X.prog X.w) X.A (f v u) Q X.xe s2):
 wpAny (model X.prog X.w) X.A (eval a X.env) (fun v s₁=>wpAny (model X.prog X.w) X.A (eval b X.env) (fun u s₂=>wpAny (model X.prog X.w) X.A (f v u) Q X.xe s₂) X.xe s₁) X.xe s:=by
 refine thn (ha pins s σ H _ I h) fun v s1 ⟨x,H1,I1,r1,q1⟩=>?_
 refine thn (hb pins s1 σ H1 _ I1 q1) fun u s2 ⟨y,H2,I2,r2,q2⟩=>?_
 exact hf v u s2 x y H2 I2 r1 r2 q2
def oa (i:Nat):TE:=fun σ H Q=>∃v,σ[i]?=some (some v)/\Q v H
def tC (v:V):TE:=fun _ H Q=>Q v H
theorem yL {i:Nat}{x:Str}{pos:Pos}(hN:X.N[i]?=some x) (hv:Vis X.env.scope x) (hd:(x == ("__debug__":Str))=false:=by decide) (hcd:(x == ("__classdict__":Str))=false:=by decide):PE X (.Name x pos) (oa i):=by
 intro pins s σ H Q I h
 obtain⟨v,e,h⟩:=h
 obtain⟨m,hn,hl⟩:=I.loc
 obtain⟨u,r,l⟩:=hl i x v hN e hv
 have fin:EP X pins σ Q u s:=⟨v,H,I,r,h⟩
 rcases l with⟨hk,hm⟩|⟨hk,c,hc,hcell⟩
 ·exact wpAny_Name (wpAny_loadName_local I.ok.kind hk hn hm fin) hd
 ·rcases hk with hk|hk
  ·exact wpAny_Name (wpAny_loadName_cell I.ok.kind hk hc hcell fin) hd
  ·exact wpAny_Name (wpAny_loadName_free I.ok.kind hk hc hcell fin hcd) hd
theorem af {i j pos}:PE X (.Constant (.int i) j pos) (tC (.int i)):=fun _ _ _ H _ I h=>wpAny_Constant_int ⟨.int i,H,I.tok _,⟨_,rfl⟩,h⟩
theorem ee {b j pos}:PE X (.Constant (.bool b) j pos) (tC (.bl b)):=fun _ _ _ H _ I h=>Constant_bool ⟨.bl b,H,I,rfl,h⟩
theorem lX {j pos}:PE X (.Constant .none j pos) (tC .non):=fun _ _ _ H _ I h=>Constant_none ⟨.non,H,I,rfl,h⟩
theorem aF {x j pos}:PE X (.Constant (.str x) j pos) (tC (.str x)):=fun _ _ _ H _ I h=>Calls.Constant_str ⟨.str x,H,I.tok _,⟨_,rfl⟩,h⟩
def Gl (X:Cx) (x:Str):Prop:=X.env.kindOf x=some .globalImplicit
theorem mF {E:Qq}{pins:List (Addr×Obj)}{s:Shared}{σ:St}{H:Hp}{x:Str}{u:Value}{pos:Pos}{Q:Qq}(I:Inv X pins σ H s) (hg:Gl X x) (hm:X.mg x=some u) (h:Q u s)
 (hd:(x == ("__debug__":Str))=false:=by decide):wpAny (model X.prog X.w) X.A (eval (.Name x pos) X.env) Q E s:=
 Calls.Name_function_global I.ok.kind hg (Calls.loadGlobal_global (by rw[I.ok.glob];exact I.mod.glob.keeps I.bk) hm h) hd
theorem eP {E:Qq}{pins:List (Addr×Obj)}{s:Shared}{σ:St}{H:Hp}{x:Str}{u:Value}{pos:Pos}{Q:Qq}(I:Inv X pins σ H s) (hg:Gl X x) (hm:X.mg x=none) (hv:bootBuiltins x=some u) (h:Q u s)
 (hn:x≠"__name__":=by decide) (hd:(x == ("__debug__":Str))=false:=by decide):wpAny (model X.prog X.w) X.A (eval (.Name x pos) X.env) Q E s:=by
 obtain⟨mb,h1,h2⟩:=I.mod.blt
 exact Calls.Name_function_global I.ok.kind hg (Calls.loadGlobal_builtin (by rw[I.ok.glob];exact I.mod.glob.keeps I.bk) hm (by rw[I.ok.blt];exact h1.keeps I.bk) ((h2 x hn).trans hv) h) hd
theorem dw {x:Str}{v:V}{u:Value}{pos:Pos}(hg:Gl X x) (hm:X.mg x=some u) (r:ay v u) (hd:(x == ("__debug__":Str))=false:=by decide):PE X (.Name x pos) (tC v):=
 fun _ _ _ H _ I h=>mF I hg hm ⟨v,H,I,r,h⟩ hd
theorem dA {x:Str}{v:V}{u:Value}{pos:Pos}(hg:Gl X x) (hm:X.mg x=none) (hv:bootBuiltins x=some u) (r:ay v u) (hn:x≠"__name__":=by decide) (hd:(x == ("__debug__":Str))=false:=by decide):PE X (.Name x pos) (tC v):=
 fun _ _ _ H _ I h=>eP I hg hm hv ⟨v,H,I,r,h⟩ hn hd
variable {a b:Expr}{ta tb:TE}{pos:Pos}
def PC (X:Cx) (op:CmpOp) (a b:Expr) (t:TE):Prop:=
 ∀(pins:List (Addr×Obj)) (s:Shared) (σ:St) (H:Hp) (Q:VK),Inv X pins σ H s->t σ H Q->
  wpAny (model X.prog X.w) X.A (eval a X.env) (fun v s₁=>wpAny (model X.prog X.w) X.A (eval b X.env) (fun u s₂=>wpAny (model X.prog X.w) X.A (compareOp op v u) (EP X pins σ Q) X.xe s₂) X.xe s₁) X.xe s
def tB (t:TE):TT:=fun σ H Q=>t σ H fun x H1=>∃c,x=.bl c/\Q c H1
theorem CW {op:CmpOp}{t:TE}(h:PC X op a b t) (h1:behindInMarks op b=false:=by first|exact nobehind _ Qk Qk|rfl):PT X (.Compare a [op] [b] pos) (tB t):=by
 intro pins s σ H Q I hw
 refine wpAny_isTrue_Compare1 (thn (h pins s σ H _ I hw) fun v s1 h1=>thn h1 fun u s2 h2=>thn h2 fun c s3 ⟨x,H1,I1,r1,q1⟩=>?_) h1
 obtain⟨d,rfl,q⟩:=q1
 cases r1
 exact wpAny_truthy_bool ⟨H1,I1,q⟩
theorem yy {e:Expr}{t:TE}(h:PE X e t) (he:∀whole,isTrue e X.env whole=(do let v <- whole;standAt e.pos;holding [v] (truthy v)):=by intro _;rfl):PT X e (tB t):=by
 intro pins s σ H Q I hw
 refine isTrue_plain (thn (h pins s σ H _ I hw) fun v s1 ⟨x,H1,I1,r1,q1⟩=>?_) (he _)
 obtain⟨d,rfl,q⟩:=q1
 cases r1
 exact wpAny_truthy_bool ⟨H1,I1,q⟩
variable {tA tB':TT}{rest:List Expr}
def wF (t u:TT):TT:=fun σ H Q=>t σ H fun c H1=>if c=true then u σ H1 Q else Q false H1
def tOr (t u:TT):TT:=fun σ H Q=>t σ H fun c H1=>if c=true then Q true H1 else u σ H1 Q
def wg (t:TT):TT:=fun σ H Q=>t σ H fun c H1=>Q (!c) H1
theorem fF (ha:PT X a tA):PW X (.BoolOp .And [a] pos) tA:=by
 intro wh pins s σ H Q I h
 refine isTrue_and (thn (ha pins s σ H Q I h) fun c s1 e=>?_)
 cases c with
 |true=>exact isTrue_and_nil e
 |false=>exact e
theorem iV (ha:PT X a tA):PW X (.BoolOp .Or [a] pos) tA:=by
 intro wh pins s σ H Q I h
 refine isTrue_or (thn (ha pins s σ H Q I h) fun c s1 e=>?_)
 cases c with
 |false=>exact isTrue_or_nil e
 |true=>exact e
theorem dX (ha:PT X a tA) (hb:PW X (.BoolOp .And (b::rest) pos) tB'):PW X (.BoolOp .And (a::b::rest) pos) (wF tA tB'):=by
 intro wh pins s σ H Q I h
 refine isTrue_and (thn (ha pins s σ H _ I h) fun c s1 ⟨H1,I1,q1⟩=>?_)
 cases c with
 |true=>exact hb wh pins s1 σ H1 Q I1 q1
 |false=>exact⟨H1,I1,q1⟩
theorem dW (ha:PT X a tA) (hb:PW X (.BoolOp .Or (b::rest) pos) tB'):PW X (.BoolOp .Or (a::b::rest) pos) (tOr tA tB'):=by
 intro wh pins s σ H Q I h
 refine isTrue_or (thn (ha pins s σ H _ I h) fun c s1 ⟨H1,I1,q1⟩=>?_)
 cases c with
 |true=>exact⟨H1,I1,q1⟩
 |false=>exact hb wh pins s1 σ H1 Q I1 q1
theorem du (ha:PT X a tA):PT X (.UnaryOp .Not a pos) (wg tA):=by
 intro pins s σ H Q I h
 exact isTrue_not (ha pins s σ H (fun c H1=>Q (!c) H1) I h)
def wE (ta tb:TE):TE:=fun σ H Q=>ta σ H fun x H1=>∃c,x=.bl c/\if c=true then tb σ H1 Q else Q (.bl false) H1
def we (ta tb:TE):TE:=fun σ H Q=>ta σ H fun x H1=>∃c,x=.bl c/\if c=true then Q (.bl true) H1 else tb σ H1 Q
def wf (ta:TE):TE:=fun σ H Q=>ta σ H fun x H1=>∃c,x=.bl c/\Q (.bl (!c)) H1
theorem lW {op}{t:TE}(h:PE X a t):PE X (.BoolOp op [a] pos) t:=fun pins s σ H Q I hw=>BoolOp_one (h pins s σ H Q I hw)
theorem rS (ha:PE X a ta) (hb:PE X (.BoolOp .And (b::rest) pos) tb):PE X (.BoolOp .And (a::b::rest) pos) (wE ta tb):=by
 intro pins s σ H Q I h
 refine BoolOp_and (thn (ha pins s σ H _ I h) fun v s1 ⟨x,H1,I1,r1,q1⟩=>?_)
 obtain⟨c,rfl,q1⟩:=q1
 cases r1
 refine wpAny_truthy_bool ?_
 cases c with
 |true=>exact hb pins s1 σ H1 Q I1 q1
 |false=>exact⟨.bl false,H1,I1,rfl,q1⟩
theorem rO (ha:PE X a ta) (hb:PE X (.BoolOp .Or (b::rest) pos) tb):PE X (.BoolOp .Or (a::b::rest) pos) (we ta tb):=by
 intro pins s σ H Q I h
 refine BoolOp_or (thn (ha pins s σ H _ I h) fun v s1 ⟨x,H1,I1,r1,q1⟩=>?_)
 obtain⟨c,rfl,q1⟩:=q1
 cases r1
 refine wpAny_truthy_bool ?_
 cases c with
 |false=>exact hb pins s1 σ H1 Q I1 q1
 |true=>exact⟨.bl true,H1,I1,rfl,q1⟩
theorem yN (ha:PE X a ta):PE X (.UnaryOp .Not a pos) (wf ta):=by
 intro pins s σ H Q I h
 refine UnaryOp_ (thn (ha pins s σ H _ I h) fun v s1 ⟨x,H1,I1,r1,q1⟩=>?_)
 obtain⟨c,rfl,q1⟩:=q1
 cases r1
 exact not_of (wpAny_truthy_bool ⟨.bl (!c),H1,I1,rfl,q1⟩)
def tIf (t:TT) (ta tb:TE):TE:=fun σ H Q=>t σ H fun c H1=>if c=true then ta σ H1 Q else tb σ H1 Q
theorem rP {c:Expr}(hc:PT X c tA) (ha:PE X a ta) (hb:PE X b tb):PE X (.IfExp c a b pos) (tIf tA ta tb):=by
 intro pins s σ H Q I h
 refine wpAny_IfExp (thn (hc pins s σ H _ I h) fun d s1 ⟨H1,I1,q1⟩=>?_)
 cases d with
 |true=>exact ha pins s1 σ H1 Q I1 q1
 |false=>exact hb pins s1 σ H1 Q I1 q1
end
def SqL (K:PySem.W.Frag) (H:Hp) (a:Addr) (xs:List V):Prop:=
 Rd H a (.lst xs) \/
  ∃(o:Obj) (its:Array Value) (n:Nat),K.lookup a=some o/\o.cls=.type "list"/\o.dict=none/\o.data=.seq its n/\its.size<=sizeLine/\au xs its.toList
def SqT (K:PySem.W.Frag) (H:Hp) (a:Addr) (xs:List V):Prop:=
 Rd H a (.tup xs) \/
  ∃(o:Obj) (its:Array Value) (n:Nat),K.lookup a=some o/\o.cls=.type "tuple"/\o.data=.seq its n/\its.size<=sizeLine/\au xs its.toList
def CN:Value->Option V
 |.none=>some .non
 |.bool b=>some (.bl b)
 |.int i _=>some (.int i)
 |.str x _=>some (.str x)
 |.bytes b _=>some (.byt b)
 |.float b _=>some (.flt b)
 |.ref a=>some (.ref a)
 |.type n=>some (.ty n)
 |_=>none
theorem ay.abs {x:V}{u:Value}(r:ay x u):CN u=some x:=by
 cases x with
 |non=>cases r;rfl
 |bl _=>cases r;rfl
 |int _=>obtain⟨t,rfl⟩:=r;rfl
 |str _=>obtain⟨t,rfl⟩:=r;rfl
 |byt _=>obtain⟨t,rfl⟩:=r;rfl
 |flt _=>obtain⟨t,rfl⟩:=r;rfl
 |ref _=>cases r;rfl
 |ty _=>cases r;rfl
theorem ay.inj {x y:V}{u:Value}(r:ay x u) (q:ay y u):x=y:=qI (r.abs.symm.trans q.abs)
theorem au.inj:∀{xs ys:List V}{us:List Value},au xs us->au ys us->xs=ys
 |_,_,_,.nil,.nil=>rfl
 |_,_,_,.cons r t,.cons r' t'=>by rw[r.inj r',au.inj t t']
section
variable {X:Cx}{pins:List (Addr×Obj)}{σ:St}{H:Hp}{s:Shared}{a:Addr}{xs ys:List V}
theorem SqL.of {K:PySem.W.Frag}(h:H a=some (.lst xs)):SqL K H a xs:=.inl (.inl h)
theorem SqT.of {K:PySem.W.Frag}(h:H a=some (.tup xs)):SqT K H a xs:=.inl (.inl h)
theorem Inv.list (I:Inv X pins σ H s) (h:SqL X.K H a xs):∃its:List Value,au xs its/\PlainL s.heap a its.toArray/\xs.length<=sizeLine:=by
 rcases h with h|⟨o,its,n,hk,hc,hd,hs,hz,r⟩
 ·obtain⟨z,its,n,r,e⟩:=h.ok I.hok
  exact⟨its,r,⟨_,n,e,rfl,rfl,rfl⟩,z⟩
 ·refine⟨its.toList,r,⟨o,n,I.kIn a o hk,hc,hd,by simpa using hs⟩,?_⟩
  have e:=r.length
  simp only[qL]at e
  omega
theorem Inv.tuple (I:Inv X pins σ H s) (h:SqT X.K H a xs):∃its:List Value,au xs its/\IsTup s.heap a its.toArray/\xs.length<=sizeLine:=by
 rcases h with h|⟨o,its,n,hk,hc,hs,hz,r⟩
 ·obtain⟨z,its,r,p⟩:=h.ok I.hok
  exact⟨its,r,p,z⟩
 ·refine⟨its.toList,r,⟨o,I.kIn a o hk,hc,n,by simpa using hs⟩,?_⟩
  have e:=r.length
  simp only[qL]at e
  omega
theorem Inv.list_inj (I:Inv X pins σ H s) (h:SqL X.K H a xs) (h':SqL X.K H a ys):xs=ys:=by
 obtain⟨its,r,⟨o,n,e,_,_,d⟩,_⟩:=I.list h
 obtain⟨its',r',⟨o',n',e',_,_,d'⟩,_⟩:=I.list h'
 rw[e]at e';cases e'
 rw[d]at d'
 injection d' with d1 _
 have:its=its':=by simpa using congrArg Array.toList d1
 subst this
 exact r.inj r'
theorem Inv.tuple_inj (I:Inv X pins σ H s) (h:SqT X.K H a xs) (h':SqT X.K H a ys):xs=ys:=by
 obtain⟨its,r,⟨o,e,_,n,d⟩,_⟩:=I.tuple h
 obtain⟨its',r',⟨o',e',_,n',d'⟩,_⟩:=I.tuple h'
 rw[e]at e';cases e'
 rw[d]at d'
 injection d' with d1 _
 have:its=its':=by simpa using congrArg Array.toList d1
 subst this
 exact r.inj r'
end
abbrev Cx.wish (X:Cx) (E:Qq):Cx:={ X with xe:=E }
abbrev Cx.nox (X:Cx):Cx:=X.wish fun _ _=>False
theorem Cx.Ok.wish {X:Cx}(ok:X.Ok) (E:Qq):(X.wish E).Ok:=
 ⟨ok.mod,ok.kind,ok.glob,ok.blt,ok.above,ok.inj,ok.has,ok.cab,ok.hd,ok.frames,ok.stk,ok.exf,ok.bs,ok.bsz,ok.noex,ok.exfs,ok.funs,ok.frf⟩
theorem Cx.Ok.unwish {X:Cx}{E:Qq}(ok:(X.wish E).Ok):X.Ok:=
 ⟨ok.mod,ok.kind,ok.glob,ok.blt,ok.above,ok.inj,ok.has,ok.cab,ok.hd,ok.frames,ok.stk,ok.exf,ok.bs,ok.bsz,ok.noex,ok.exfs,ok.funs,ok.frf⟩
section
variable {X:Cx}{pins:List (Addr×Obj)}{σ:St}{H:Hp}{s:Shared}{E:Qq}
theorem Inv.wish (I:Inv X pins σ H s) (E:Qq):Inv (X.wish E) pins σ H s:=⟨I.ok.wish E,I.os,I.bare,I.base,I.loc,I.cell,I.free,I.freeC,I.pin,I.hok,I.len⟩
theorem Inv.unwish (I:Inv (X.wish E) pins σ H s):Inv X pins σ H s:=⟨I.ok.unwish,I.os,I.bare,I.base,I.loc,I.cell,I.free,I.freeC,I.pin,I.hok,I.len⟩
theorem SP.unwish {D:dh}{f:Flow}{s':Shared}(h:SP (X.wish E) pins D f s'):SP X pins D f s':=by
 cases f with
 |next=>obtain⟨σ',H',I,q⟩:=h;exact⟨σ',H',I.unwish,q⟩
 |brk=>obtain⟨σ',H',I,q⟩:=h;exact⟨σ',H',I.unwish,q⟩
 |cont=>obtain⟨σ',H',I,q⟩:=h;exact⟨σ',H',I.unwish,q⟩
 |ret u=>obtain⟨v,σ',H',I,r,q⟩:=h;exact⟨v,σ',H',I.unwish,r,q⟩
theorem PSs.nox {st:List Stmt}{t:TS}(h:PSs X.nox st t):PSs X st t:=fun pins s σ H D I hw=>
 wpAny_mono (h pins s σ H D (I.wish _) hw) (fun _ _ q=>q.unwish) fun _ _ z=>False.elim z
end
section
variable {X:Cx}{st:Stmt}{rest:List Stmt}{t u:TS}{e:Expr}{te:TE}{pos:Pos}
def wn:TS:=fun D σ H=>D.nx σ H
def og (t u:TS):TS:=fun D σ H=>t { D with nx:=u D } σ H
theorem bA:PSs X [] wn:=fun _ _ σ H _ I h=>wpAny_execs_nil ⟨σ,H,I,h⟩
theorem ai (h1:PS X st t) (h2:PSs X rest u):PSs X (st::rest) (og t u):=by
 intro pins s σ H D I h
 refine wpAny_execs_cons (thn (h1 pins s σ H { D with nx:=u D } I h) fun f s1 q=>?_)
 cases f with
 |next=>
  obtain⟨σ',H',I',q⟩:=q
  exact h2 pins s1 σ' H' D I' q
 |ret v=>exact q
 |brk=>exact q
 |cont=>exact q
theorem ao (h1:PS X st t):PSs X [st] t:=by
 intro pins s σ H D I h
 refine wpAny_execs_cons (thn (h1 pins s σ H D I h) fun f s1 q=>?_)
 cases f with
 |next=>exact wpAny_execs_nil q
 |ret v=>exact q
 |brk=>exact q
 |cont=>exact q
theorem Inv.quiet {pins:List (Addr×Obj)}{σ:St}{H:Hp}{s:Shared}(I:Inv X pins σ H s):interactive X.env=false:=by simp[interactive,I.ok.kind]
def wx (te:TE):TS:=fun D σ H=>te σ H fun _ H1=>D.nx σ H1
theorem aI (he:PE X e te) (hs:swapsWith e none pos.line X.env=pure false:=by rfl):PS X (.Expr e pos) (wx te):=by
 intro pins s σ H D I h
 exact wpAny_Expr_any (thn (he pins s σ H _ I h) fun v s1 ⟨x,H1,I1,r1,q1⟩=>⟨σ,H1,I1,q1⟩) I.quiet hs
def wa (te:TE):TS:=fun D σ H=>te σ H D.rt
theorem aH (he:PE X e te):PS X (.Return (some e) pos) (wa te):=by
 intro pins s σ H D I h
 exact wpAny_Return_some (thn (he pins s σ H _ I h) fun v s1 ⟨x,H1,I1,r1,q1⟩=>⟨x,σ,H1,I1,r1,q1⟩)
def w8:TS:=fun D _ H=>D.rt .non H
theorem yC:PS X (.Return none pos) w8:=fun _ _ σ H _ I h=>wpAny_Return_none ⟨.non,σ,H,I,rfl,h⟩
def wv (c:TT) (t u:TS):TS:=fun D σ H=>c σ H fun b H1=>if b=true then t D σ H1 else u D σ H1
theorem aU {c:Expr}{a b:List Stmt}{tc:TT}(hc:PT X c tc) (ha:PSs X a t) (hb:PSs X b u):PS X (.If c a b pos) (wv tc t u):=by
 intro pins s σ H D I h
 refine wpAny_If (thn (hc pins s σ H _ I h) fun d s1 ⟨H1,I1,q1⟩=>?_)
 cases d with
 |true=>exact ha pins s1 σ H1 D I1 q1
 |false=>exact hb pins s1 σ H1 D I1 q1
end
abbrev TG:=V->St->Hp->(St->Hp->Prop)->Prop
abbrev TGs:=List V->St->Hp->(St->Hp->Prop)->Prop
def PG (X:Cx) (target:Expr) (t:TG):Prop:=
 ∀(pins:List (Addr×Obj)) (s:Shared) (σ:St) (H:Hp) (v:V) (u:Value) (Q:St->Hp->Prop),Inv X pins σ H s->ay v u->t v σ H Q->
  wpAny (model X.prog X.w) X.A (assign target X.env u) (fun _ s'=>∃σ' H',Inv X pins σ' H' s'/\Q σ' H') X.xe s
def PGs (X:Cx) (ts:List Expr) (t:TGs):Prop:=
 ∀(pins:List (Addr×Obj)) (s:Shared) (σ:St) (H:Hp) (vs:List V) (us:List Value) (Q:St->Hp->Prop),Inv X pins σ H s->au vs us->t vs σ H Q->
  wpAny (model X.prog X.w) X.A (assignInOrder ((assignEach ts X.env).map (·.2)) us) (fun _ s'=>∃σ' H',Inv X pins σ' H' s'/\Q σ' H') X.xe s
abbrev nA:=V->V->V->Hp->(Hp->Prop)->Prop
def vg (X:Cx) (t:nA):Prop:=
 ∀(pins:List (Addr×Obj)) (s:Shared) (σ:St) (H:Hp) (o i v:V) (ov iv u:Value) (Q:Hp->Prop),Inv X pins σ H s->ay o ov->ay i iv->ay v u->t o i v H Q->
  wpAny (model X.prog X.w) X.A (setItem ov iv u) (fun _ s'=>∃H',Inv X pins σ H' s'/\Q H') X.xe s
section
variable {X:Cx}{pos:Pos}
def hE (i:Nat):TG:=fun v σ H Q=>Q (σ.set i (some v)) H
theorem aW {i:Nat}{x:Str}(hN:X.N.Nodup) (hi:X.N[i]?=some x) (hx:Loc X.env.scope x) (hf:X.fn x=true\/X.env.scope.names.lookup x=some .local:=by first|exact .inl rfl|exact .inr rfl|assumption):PG X (.Name x pos) (hE i):=by
 intro pins s σ H v u Q I r h
 exact wpAny_assign_Name (ou I hN hi hx r (fun s' I'=>⟨_,H,I',h⟩) hf)
def BH:TGs:=fun vs σ H Q=>vs=[]/\Q σ H
def BI (t:TG) (u:TGs):TGs:=fun vs σ H Q=>∃v r,vs=v::r/\t v σ H fun σ' H'=>u r σ' H' Q
theorem eJ:PGs X [] BH:=by
 intro pins s σ H vs us Q I r h
 obtain⟨e,h⟩:=h
 subst e
 cases r
 exact assignInOrder_nil ⟨σ,H,I,h⟩
theorem cf {e:Expr}{es:List Expr}{t:TG}{u:TGs}(h1:PG X e t) (h2:PGs X es u)
 (hs:(assignEach (e::es) X.env).map (·.2)=assign e X.env::(assignEach es X.env).map (·.2):=by rfl):PGs X (e::es) (BI t u):=by
 intro pins s σ H vs us Q I r h
 obtain⟨v,vr,e1,h⟩:=h
 subst e1
 cases r with
 |cons r rr=>
  rw[hs]
  refine assignInOrder_cons (thn (h1 pins s σ H _ _ _ I r h) fun _ s1 ⟨σ1,H1,I1,q1⟩=>?_)
  exact h2 pins s1 σ1 H1 _ _ Q I1 rr q1
def BE (K:PySem.W.Frag) (n:Nat) (t:TGs):TG:=fun v σ H Q=>∃a xs,v=.ref a/\SqT K H a xs/\xs.length=n/\t xs σ H Q
theorem eK {es:List Expr}{k:Nat}{t:TGs}{n:Nat}(hc:X.calm=true) (h:PGs X es t)
 (hn:(assignEach es X.env).length=n:=by rfl) (hst:(assignEach es X.env).findIdx? (·.1)=none:=by rfl):PG X (.Tuple es k pos) (BE X.K n t):=by
 intro pins s σ H v u Q I r hw
 obtain⟨a,xs,e1,hq,hl,hw⟩:=hw
 subst e1
 cases r
 obtain⟨its,rv,ht,hz⟩:=I.tuple hq
 refine assign_Tuple_tuple (I.ok.hd hc) ht (by simp[hn,<- hl,rv.length]) hst fun h' hx=>?_
 have I1:Inv X pins σ H { s with heap:=h' }:=I.kept (t':=s.toks) fun b o e=>hx b o (qF (qp e)) e
 exact h pins _ σ H xs _ Q I1 (by simpa using rv) hw
def BF (to ti:TE) (t:nA):TG:=fun v σ H Q=>to σ H fun o H1=>ti σ H1 fun i H2=>t o i v H2 fun H3=>Q σ H3
theorem lV {o i:Expr}{to ti:TE}{t:nA}(ho:PE X o to) (hi:PE X i ti) (hs:vg X t)
 (ha:∀v,assign (.Subscript o i pos) X.env v=(do
  let ov <- holding [v] (eval o X.env)
  let iv <- holding [v,ov] (eval i X.env)
  standAt pos
  holding [v,ov,iv] (setItem ov iv v)
  release [v,ov,iv] []):=by intro _;rfl):PG X (.Subscript o i pos) (BF to ti t):=by
 intro pins s σ H v u Q I r h
 rw[ha]
 refine q4 (wpAny_holding (thn (ho pins s σ H _ I h) fun ov s1 ⟨x,H1,I1,r1,q1⟩=>?_))
 refine q4 (wpAny_holding (thn (hi pins s1 σ H1 _ I1 q1) fun iv s2 ⟨y,H2,I2,r2,q2⟩=>?_))
 refine q4 (wpAny_standAt (q4 (wpAny_holding (thn (hs pins s2 σ H2 x y v ov iv u _ I2 r1 r2 r q2) fun _ s3 ⟨H3,I3,q3⟩=>?_))))
 exact wpAny_release ⟨σ,H3,I3,q3⟩
def jR (te:TE) (g:TG):TS:=fun D σ H=>te σ H fun x H1=>g x σ H1 D.nx
theorem lR {tg e:Expr}{te:TE}{g:TG}(he:PE X e te) (hg:PG X tg g) (hs:swapsWithSole [tg] e pos.line X.env=pure false:=by rfl) (hw:swappedStores [tg] e X.env=pure none:=by rfl)
 (h1:(assignEach [tg] X.env).map (·.2)=[assign tg X.env]:=by rfl):PS X (.Assign [tg] e pos) (jR te g):=by
 intro pins s σ H D I h
 refine wpAny_Assign_stores (thn (he pins s σ H _ I h) fun v s1 ⟨x,H1,I1,r1,q1⟩=>?_) hs hw
 rw[h1]
 exact thn (hg pins s1 σ H1 x v _ I1 r1 q1) fun _ s2 q=>q
theorem aA {i:Nat}{x:Str}{e:Expr}{te:TE}{pos':Pos}(hN:X.N.Nodup) (hi:X.N[i]?=some x) (hx:Loc X.env.scope x) (he:PE X e te) (hs:swapsWith e (some (.Name x pos')) pos.line X.env=pure false:=by rfl) (hf:X.fn x=true\/X.env.scope.names.lookup x=some .local:=by first|exact .inl rfl|exact .inr rfl|assumption):
 PS X (.Assign [.Name x pos'] e pos) (jR te (hE i)):=by
 intro pins s σ H D I h
 refine wpAny_Assign_Name (thn (he pins s σ H _ I h) fun v s1 ⟨y,H1,I1,r1,q1⟩=>?_) hs
 exact ou I1 hN hi hx r1 (fun s2 I2=>⟨_,H1,I2,q1⟩) hf
end
section
variable {X:Cx}{pos:Pos}
end
structure It where
 go:Nat->Hp->Prop
 yld:Nat->Hp->V->Hp->Prop
 stop:Nat->Hp->Prop
def bW (X:Cx) (pins:List (Addr×Obj)) (H:Hp) (b:Addr):Prop:=
 H b=none/\b≠X.env.locals/\b∉X.fs/\(b∈X.ex\/X.s₀.heap.objs.size<=b)/\(∀x c,X.env.cells.lookup x=some c->c≠b)/\∀p∈X.pn++pins,p.1≠b
theorem Inv.fpOk {X:Cx}{pins:List (Addr×Obj)}{σ:St}{H H':Hp}{s:Shared}{b:Addr}(I:Inv X pins σ H s) (hb:s.heap.objs.size<=b) (hn:H' b=none):bW X pins H' b:=by
 refine⟨hn,Nat.ne_of_gt (qC I.lt hb),I.nofs hb,.inr (qx I.sz hb),fun x c e z=>?_,fun p hp z=>?_⟩
 ·obtain⟨v,q⟩:=I.cell x c e
  exact absurd (qC q.lt (by rw[z];exact hb)) (Nat.lt_irrefl _)
 ·exact absurd (qC (qp (I.pin p hp).1) (by rw[z];exact hb)) (Nat.lt_irrefl _)
structure eW (P:Program) (w:World) (K:PySem.W.Frag) (tg:Expr) (J:It) (fp:List Addr) (it:Addr) (tn:Nat->Heap->Prop):Prop where
 mem:it∈fp
 obj:∀i h,tn i h->∀b∈fp,∃o,h.get? b=some o/\∀v,o.data≠.cell v
 keep:∀i h h',tn i h->(∀b∈fp,∀o,h.get? b=some o->h'.get? b=some o)->tn i h'
 item:∀(X:Cx),X.prog=P->X.w=w->X.K=K->X.calm=true->∀(i:Nat) (pins:List (Addr×Obj)) (s:Shared) (σ:St) (H:Hp) (E:Qq),Inv X pins σ H s->(∀b∈fp,bW X pins H b)->tn i s.heap->J.go i H->
  wpAny (model P w) X.A (pyNext (.ref it)) (fun r s1=>∃u,r=some u /\
   wpAny (model P w) X.A (letOwnedTupleGo tg (.ref it) u) (fun _ s2=>∃x H',Inv X pins σ H' s2/\ay x u/\J.yld i H x H'/\tn (i+1) s2.heap/\∀b∈fp,H' b=none) E s1) E s
 done:∀(X:Cx),X.prog=P->X.w=w->X.K=K->X.calm=true->∀(i:Nat) (pins:List (Addr×Obj)) (s:Shared) (σ:St) (H:Hp) (E:Qq),Inv X pins σ H s->(∀b∈fp,bW X pins H b)->tn i s.heap->J.stop i H->
  wpAny (model P w) X.A (pyNext (.ref it)) (fun r s1=>r=none/\Inv X pins σ H s1) E s
 self:∀(A:Around) (i:Nat) (s:Shared) (Q:Qq) (E:Qq),tn i s.heap->Q (.ref it) s->wpAny (model P w) A (pyIter (.ref it)) Q E s
abbrev TI:=St->Hp->(It->Hp->Prop)->Prop
def PIE (X:Cx) (pins:List (Addr×Obj)) (σ:St) (tg:Expr) (R:It->Hp->Prop) (itv:Value) (s2:Shared):Prop:=
 ∃(it:Addr) (fp:List Addr) (tn:Nat->Heap->Prop) (J:It) (H':Hp),itv=.ref it/\Inv X pins σ H' s2/\eW X.prog X.w X.K tg J fp it tn/\tn 0 s2.heap/\(∀b∈fp,bW X pins H' b)/\R J H'
def PI (X:Cx) (tg iter:Expr) (wi:TI):Prop:=
 ∀(pins:List (Addr×Obj)) (s:Shared) (σ:St) (H:Hp) (R:It->Hp->Prop),Inv X pins σ H s->wi σ H R->
  wpAny (model X.prog X.w) X.A (eval iter X.env) (fun v s1=>wpAny (model X.prog X.w) X.A (pyIter v) (PIE X pins σ tg R) X.xe s1) X.xe s
theorem mQ {M:Model}{A:Around}{E:Qq}{s:Shared}{tg:Expr}{it:Addr}{u:Value}{o:Obj}{n:String}{vs:Array Value}{Q:Unit->Shared->Prop}(ho:s.heap.get? it=some o) (hc:o.cls=.type n) (hd:o.data=.fields vs)
 (hn:["enumerate","zip","dict_itemiterator","dict_reverseitemiterator","odict_iterator","itertools.zip_longest","itertools.pairwise"].contains n=false) (hQ:Q () s):wpAny M A (letOwnedTupleGo tg (.ref it) u) Q E s:=by
 unfold letOwnedTupleGo
 cases tg<;>first
  |exact qc hQ
  |(cases u<;>first
   |exact qc hQ
   |(refine q4 (wpAny_load ho ?_)
     rw[hc,hd]
     show wpAny M A (if(["enumerate","zip","dict_itemiterator","dict_reverseitemiterator","odict_iterator","itertools.zip_longest","itertools.pairwise"].contains n && vs[0]? == some (rawInt _))=true then _ else _) Q E s
     rw[qZ (by intro h;rw[hn,Bool.false_and]at h;cases h)]
     exact qc hQ))
def Itl (K:PySem.W.Frag) (a:Addr):It:=
 ⟨fun i H=>∃xs x,SqL K H a xs/\xs[i]?=some x,fun i H x H'=>H'=H/\∀xs,SqL K H a xs->xs[i]?=some x,fun i H=>∃xs,SqL K H a xs/\xs.length<=i⟩
def Itt (K:PySem.W.Frag) (a:Addr):It:=
 ⟨fun i H=>∃xs x,SqT K H a xs/\xs[i]?=some x,fun i H x H'=>H'=H/\∀xs,SqT K H a xs->xs[i]?=some x,fun i H=>∃xs,SqT K H a xs/\xs.length<=i⟩
def Itr (lo:Int) (n:Nat):It:=⟨fun i _=>i<n,fun i H x H'=>H'=H/\x=.int (lo+i),fun i _=>n<=i⟩
theorem vV {P:Program}{w:World}{K:PySem.W.Frag}{tg:Expr}(a it:Addr):eW P w K tg (Itl K a) [it] it (fun i h=>h.IsListIter it a i) where
 mem:=by simp
 obj:=fun i h st b hb=>by
  have e:b=it:=by simpa using hb
  subst e
  obtain⟨o,e,c,d⟩:=st
  exact⟨o,e,fun v z=>by rw[d]at z;cases z⟩
 keep:=fun i h h' st k=>st.at fun o e=>k it (by simp) o e
 item:=by
  intro X hP hw hK hc i pins s σ H E I hf st hg
  subst hP hw hK
  obtain⟨xs,x,hq,hx⟩:=hg
  obtain⟨its,rv,p,hz⟩:=I.list hq
  obtain⟨u,hu,ru⟩:=rv.get hx
  obtain⟨f0,f1,f2,f3,f4,f5⟩:=hf it (by simp)
  refine wpAny_pyNext_list_item st p.isList (x:=u) (by simpa using hu) fun h' st' sb=>?_
  have I1:Inv X pins σ H { s with heap:=h' }:=I.turned (t':=s.toks) (fun b o hb e=>(sb.2 b hb).trans e) f0 f1 f3 f4 f5
  obtain⟨o,e,c,d⟩:=id st'
  exact⟨u,rfl,mQ (s:={ s with heap:=h' }) e c d Qk ⟨x,H,I1,ru,⟨rfl,fun ys hy=>by rw[I.list_inj hy hq];exact hx⟩,st',fun b hb=>(hf b hb).1⟩⟩
 done:=by
  intro X hP hw hK hc i pins s σ H E I hf st hg
  subst hP hw hK
  obtain⟨xs,hq,hx⟩:=hg
  obtain⟨its,rv,p,hz⟩:=I.list hq
  obtain⟨f0,f1,f2,f3,f4,f5⟩:=hf it (by simp)
  have hl:=rv.length
  exact wpAny_pyNext_list_end (I.ok.hd hc) st p.isList (by simp;omega) fun h' eb=>⟨rfl,I.turned (t':=s.toks) (fun b o hb e=>eb b o hb e) f0 f1 f3 f4 f5⟩
 self:=fun _ _ _ _ _ st h=>wpAny_pyIter_listiter st h
theorem vT {P:Program}{w:World}{K:PySem.W.Frag}{tg:Expr}(a it:Addr):eW P w K tg (Itt K a) [it] it (fun i h=>h.IsTupleIter it a i) where
 mem:=by simp
 obj:=fun i h st b hb=>by
  have e:b=it:=by simpa using hb
  subst e
  obtain⟨o,e,c,d⟩:=st
  exact⟨o,e,fun v z=>by rw[d]at z;cases z⟩
 keep:=fun i h h' st k=>st.at fun o e=>k it (by simp) o e
 item:=by
  intro X hP hw hK hc i pins s σ H E I hf st hg
  subst hP hw hK
  obtain⟨xs,x,hq,hx⟩:=hg
  obtain⟨its,rv,p,hz⟩:=I.tuple hq
  obtain⟨u,hu,ru⟩:=rv.get hx
  obtain⟨f0,f1,f2,f3,f4,f5⟩:=hf it (by simp)
  refine wpAny_pyNext_tuple_item st (show s.heap.IsTuple a its.toArray from p) (x:=u) (by simpa using hu) fun h' st' sb=>?_
  have I1:Inv X pins σ H { s with heap:=h' }:=I.turned (t':=s.toks) (fun b o hb e=>(sb.2 b hb).trans e) f0 f1 f3 f4 f5
  obtain⟨o,e,c,d⟩:=id st'
  exact⟨u,rfl,mQ (s:={ s with heap:=h' }) e c d Qk ⟨x,H,I1,ru,⟨rfl,fun ys hy=>by rw[I.tuple_inj hy hq];exact hx⟩,st',fun b hb=>(hf b hb).1⟩⟩
 done:=by
  intro X hP hw hK hc i pins s σ H E I hf st hg
  subst hP hw hK
  obtain⟨xs,hq,hx⟩:=hg
  obtain⟨its,rv,p,hz⟩:=I.tuple hq
  obtain⟨f0,f1,f2,f3,f4,f5⟩:=hf it (by simp)
  have hl:=rv.length
  exact wpAny_pyNext_tuple_end (I.ok.hd hc) st (show s.heap.IsTuple a its.toArray from p) (by simp;omega) fun h' eb=>⟨rfl,I.turned (t':=s.toks) (fun b o hb e=>eb b o hb e) f0 f1 f3 f4 f5⟩
 self:=fun _ _ _ _ _ st h=>wpAny_pyIter_tupleiter st h
theorem vU {P:Program}{w:World}{K:PySem.W.Frag}{tg:Expr}(it:Addr) (lo:Int) (n:Nat):eW P w K tg (Itr lo n) [it] it (fun i h=>IsRangeIter h it (lo+(i:Nat) * 1) ((n:Int)-(i:Nat)) 1) where
 mem:=by simp
 obj:=fun i h st b hb=>by
  have e:b=it:=by simpa using hb
  subst e
  exact⟨_,st,fun v z=>by
   have z':Data.fields _=Data.cell v:=z
   cases z'⟩
 keep:=fun i h h' st k=>k it (by simp) _ st
 item:=by
  intro X hP hw hK hc i pins s σ H E I hf st hg
  subst hP hw hK
  obtain⟨f0,f1,f2,f3,f4,f5⟩:=hf it (by simp)
  have W:=Walks.range (prog:=X.prog) (w:=X.w) (I.ok.hd hc) it lo 1 n
  refine W.item i s _ _ hg st fun v h' tk hv st' kk=>?_
  obtain⟨t,rfl⟩:=hv
  have I1:Inv X pins σ H { s with heap:=h',toks:=tk }:=I.turned (fun b o hb e=>kk b o (by simpa using hb) e) f0 f1 f3 f4 f5
  refine⟨_,rfl,mQ (s:={ s with heap:=h',toks:=tk }) (n:="range_iterator") st' rfl rfl Qk ⟨.int (lo+i),H,I1,⟨t,?_⟩,⟨rfl,rfl⟩,st',fun b hb=>(hf b hb).1⟩⟩
  rw[Int.mul_one]
 done:=by
  intro X hP hw hK hc i pins s σ H E I hf st hg
  subst hP hw hK
  obtain⟨f0,f1,f2,f3,f4,f5⟩:=hf it (by simp)
  exact wpAny_pyNext_range_end (I.ok.hd hc) st (by have:n<=i:=hg;omega) fun h' eb=>⟨rfl,I.turned (t':=s.toks) (fun b o hb e=>eb b o hb e) f0 f1 f3 f4 f5⟩
 self:=fun _ _ _ _ _ st h=>wpAny_pyIter_rangeiter st h
section
variable {X:Cx}{tg:Expr}
def Bp (K:PySem.W.Frag) (tl:TE):TI:=fun σ H R=>tl σ H fun x H1=>∃a,x=.ref a/\(∃xs,SqL K H1 a xs)/\R (Itl K a) H1
def Bo (K:PySem.W.Frag) (tl:TE):TI:=fun σ H R=>tl σ H fun x H1=>∃a,x=.ref a/\(∃xs,SqT K H1 a xs)/\R (Itt K a) H1
theorem bH {l:Expr}{tl:TE}(hl:PE X l tl):PI X tg l (Bp X.K tl):=by
 intro pins s σ H R I h
 refine thn (hl pins s σ H _ I h) fun v s1 ⟨x,H1,I1,r1,q1⟩=>?_
 obtain⟨a,e,⟨xs,hq⟩,q⟩:=q1
 subst e
 cases r1
 obtain⟨its,rv,p,hz⟩:=I1.list hq
 refine wpAny_pyIter_list p.isList ?_
 refine⟨s1.heap.objs.size,[s1.heap.objs.size],_,_,H1,rfl,I1.kept (t':=s1.toks) fun b o e=>q9 _ e,vV a _,⟨_,qo _ rfl,rfl,rfl⟩,fun b hb=>?_,q⟩
 have e:b=s1.heap.objs.size:=by simpa using hb
 subst e
 exact I1.fpOk (qd _) (I1.hok.fresh (qd _))
theorem yI {l:Expr}{tl:TE}(hl:PE X l tl):PI X tg l (Bo X.K tl):=by
 intro pins s σ H R I h
 refine thn (hl pins s σ H _ I h) fun v s1 ⟨x,H1,I1,r1,q1⟩=>?_
 obtain⟨a,e,⟨xs,hq⟩,q⟩:=q1
 subst e
 cases r1
 obtain⟨its,rv,p,hz⟩:=I1.tuple hq
 refine wpAny_pyIter_tuple (show s1.heap.IsTuple a its.toArray from p) ?_
 refine⟨s1.heap.objs.size,[s1.heap.objs.size],_,_,H1,rfl,I1.kept (t':=s1.toks) fun b o e=>q9 _ e,vT a _,⟨_,qo _ rfl,rfl,rfl⟩,fun b hb=>?_,q⟩
 have e:b=s1.heap.objs.size:=by simpa using hb
 subst e
 exact I1.fpOk (qd _) (I1.hok.fresh (qd _))
theorem y2 {pins:List (Addr×Obj)}{σ:St}{H:Hp}{s:Shared}{R:It->Hp->Prop}{E:Qq}{lo hi:Int}{t u v:Tok}{tk:Nat}(I:Inv X pins σ H s) (h1:-(2 ^ 62)<=lo) (h2:lo<2 ^ 62) (h3:-(2 ^ 62)<=hi) (h4:hi<2 ^ 62)
 (q:R (Itr lo (hi-lo).toNat) H):wpAny (model X.prog X.w) X.A (pyIter (.ref s.heap.objs.size)) (PIE X pins σ tg R) E { s with heap:=s.heap.push { cls:=.type "range",data:=.fields #[.int lo t,.int hi u,.int 1 v] },toks:=tk }:=by
 refine wpAny_pyIter_range (IsRange.new ..) (small_one h1 h2 h3 h4) ?_
 have I1:Inv X pins σ H { s with heap:=s.heap.push { cls:=.type "range",data:=.fields #[.int lo t,.int hi u,.int 1 v] },toks:=tk }:=I.kept fun b o e=>q9 _ e
 refine⟨(s.heap.push { cls:=.type "range",data:=.fields #[.int lo t,.int hi u,.int 1 v] }).objs.size,[(s.heap.push { cls:=.type "range",data:=.fields #[.int lo t,.int hi u,.int 1 v] }).objs.size],_,_,H,rfl,
  I1.kept (t':=tk) fun b o e=>q9 _ e,vU _ lo (hi-lo).toNat,?_,fun b hb=>?_,q⟩
 ·have e1:lo+((0:Nat):Int) * 1=lo:=by simp
  have e2:(((hi-lo).toNat:Nat):Int)-((0:Nat):Int)=Builtin.Range.rangeSize lo hi 1:=by rw[rangeSize_one];split<;>omega
  show IsRangeIter _ _ (lo+((0:Nat):Int) * 1) ((((hi-lo).toNat:Nat):Int)-((0:Nat):Int)) 1
  rw[e1,e2]
  exact qo _ rfl
 ·have e:b=(s.heap.push { cls:=.type "range",data:=.fields #[.int lo t,.int hi u,.int 1 v] }).objs.size:=by simpa using hb
  subst e
  exact I1.fpOk (qd _) (I1.hok.fresh (qd _))
def mL (ta:TA):TI:=fun σ H R=>ta σ H fun vs H1=>∃j:Int,vs=[.int j]/\-(2 ^ 62)<=j/\j<2 ^ 62/\R (Itr 0 j.toNat) H1
theorem yJ {a:Expr}{ta:TA}{p pos:Pos}(hg:Gl X "range") (hm:X.mg "range"=none) (ha:PA X [a] ta) (hs:starEach [a] X.env=[(false,eval a X.env)]:=by rfl):PI X tg (.Call (.Name "range" p) [a] [] pos) (mL ta):=by
 intro pins s σ H R I h
 refine Call_ (eP I hg hm boot_range (PyProof.Rows.callWith_type1 (thn (ha pos pins s σ H _ I h) fun us s1 ⟨vs,H1,I1,r1,q1⟩=>?_) hs rfl))
 obtain⟨j,e,q1,q2,q⟩:=q1
 subst e
 cases r1 with
 |cons r rr=>
  cases rr
  obtain⟨t,rfl⟩:=r
  exact call_range_1 (y2 I1 Qo Qo q1 q2 (by simpa using q))
def ww (wi:TI) (g:TG) (tb:TS):TS:=fun D σ H=>wi σ H fun J H1=>∃W:Nat->Nat->St->Hp->Prop,(∃m,W 0 m σ H1)/\∀i m σ H,W i m σ H->
 (J.stop i H/\D.nx σ H)\/(J.go i H/\∃N:St->Hp->Prop,(∀σ' H',N σ' H'->∃m',m'<m/\W (i+1) m' σ' H')/\∀x H',J.yld i H x H'->g x σ H' fun σ2 H2=>tb { D with nx:=N,ct:=N,bk:=D.nx } σ2 H2)
def gK (fp:List Addr) (h:Heap):List (Addr×Obj):=fp.filterMap fun b=>(h.get? b).map fun o=>(b,o)
theorem j5 {fp:List Addr}{h:Heap}{b:Addr}{o:Obj}(hb:b∈fp) (e:h.get? b=some o):(b,o)∈gK fp h:=List.mem_filterMap.mpr ⟨b,hb,by rw[e];rfl⟩
theorem Af {fp:List Addr}{h:Heap}{p:Addr×Obj}(hp:p∈gK fp h):p.1∈fp/\h.get? p.1=some p.2:=by
 obtain⟨b,hb,e⟩:=List.mem_filterMap.mp hp
 cases q:h.get? b with
 |none=>rw[q]at e;cases e
 |some o=>
  rw[q]at e
  have e':(b,o)=p:=qI e
  subst e'
  exact⟨hb,q⟩
theorem Inv.pinned {pins:List (Addr×Obj)}{σ:St}{H:Hp}{s:Shared}{fp:List Addr}(I:Inv X pins σ H s) (hf:∀b∈fp,bW X pins H b) (ho:∀b∈fp,∃o,s.heap.get? b=some o/\∀v,o.data≠.cell v):Inv X (pins++gK fp s.heap) σ H s:=
 I.pins_of fun p hp=>(qg.mp hp).elim (fun z=>I.pin p (qH _ z)) fun z=>by
  obtain⟨hb,e⟩:=Af z
  obtain⟨f0,f1,f2,_⟩:=hf p.1 hb
  obtain⟨o,e',d⟩:=ho p.1 hb
  rw[e]at e';cases e'
  exact⟨e,f0,f1,f2,d⟩
theorem Inv.unpinned {pins pl:List (Addr×Obj)}{σ:St}{H:Hp}{s:Shared}(I:Inv X (pins++pl) σ H s):Inv X pins σ H s:=I.pins_of fun p hp=>I.pin p (qH _ (qV _ hp))
theorem bQ {iter:Expr}{body:List Stmt}{wi:TI}{g:TG}{tb:TS}{pos:Pos}(hp:PassesOwn (model X.prog X.w) X.A X.env X.xe) (hc:X.calm=true) (hi:PI X tg iter wi) (hg:PG X tg g) (hb:PSs X body tb)
 (hs:∀x,foldedSetIterable iter X.env x=pure x:=by intro _;rfl):PS X (.For tg iter body [] pos) (ww wi g tb):=by
 intro pins s σ H D I h
 refine wpAny_For (thn (hi pins s σ H _ I h) fun v s1 h1=>thn h1 fun itv s2 h2=>?_) hs
 obtain⟨it,fp,tn,J,H2,e,I2,T,st2,f2,W,⟨m0,w0⟩,turn⟩:=h2
 subst e
 have stat:∀{H':Hp},(∀b∈fp,H' b=none)->∀b∈fp,bW X pins H' b:=fun hn b hb=>⟨hn b hb,(f2 b hb).2⟩
 refine codeAny_forLoop_any (fun n s'=>∃i σ' H',Inv X pins σ' H' s'/\tn i s'.heap/\(∀b∈fp,H' b=none)/\W i n σ' H') ?_ m0 ⟨0,σ,H2,I2,st2,fun b hb=>(f2 b hb).1,w0⟩
 rintro n s3 ⟨i,σ3,H3,I3,st3,fr3,w3⟩
 rcases turn i n σ3 H3 w3 with⟨stop,qn⟩|⟨go,N,hN,step⟩
 ·refine wpAny_passesOwn hp (thn (T.done X rfl rfl rfl hc i pins s3 σ3 H3 X.xe I3 (stat fr3) st3 stop) fun r s4 ⟨hr,I4⟩=>?_)
  subst hr
  exact wpAny_execs_nil ⟨σ3,H3,I4,qn⟩
 ·refine wpAny_passesOwn hp (thn (T.item X rfl rfl rfl hc i pins s3 σ3 H3 X.xe I3 (stat fr3) st3 go) fun r s4 ⟨u,hr,h4⟩=>?_)
  subst hr
  refine wpAny_passesOwn hp (thn h4 fun _ s5 ⟨x,H5,I5,r5,y5,st5,fr5⟩=>?_)
  have I5':=I5.pinned (stat fr5) (T.obj _ _ st5)
  refine wpAny_passesOwn hp (thn (hg _ s5 σ3 H5 x u _ I5' r5 (step x H5 y5)) fun _ s6 ⟨σ6,H6,I6,q6⟩=>?_)
  refine wpAny_passesOwn hp (thn (hb _ s6 σ6 H6 _ I6 q6) fun f s7 q7=>?_)
  have again:∀{σ7:St}{H7:Hp},Inv X (pins++gK fp s5.heap) σ7 H7 s7->N σ7 H7->∃m,m<n/\∃i σ' H',Inv X pins σ' H' s7/\tn i s7.heap/\(∀b∈fp,H' b=none)/\W i m σ' H':=fun{σ7 H7} I7 n7=>by
   obtain⟨m',hm,w7⟩:=hN σ7 H7 n7
   refine⟨m',hm,i+1,σ7,H7,I7.unpinned,T.keep _ _ _ st5 fun b hb o e=>(I7.pin (b,o) (qH _ (qH _ (j5 hb e)))).1,fun b hb=>?_,w7⟩
   obtain⟨o,e,d⟩:=T.obj _ _ st5 b hb
   exact(I7.pin (b,o) (qH _ (qH _ (j5 hb e)))).2.1
  cases f with
  |next=>obtain⟨σ7,H7,I7,n7⟩:=q7;exact again I7 n7
  |cont=>obtain⟨σ7,H7,I7,n7⟩:=q7;exact again I7 n7
  |brk=>obtain⟨σ7,H7,I7,q7⟩:=q7;exact⟨σ7,H7,I7.unpinned,q7⟩
  |ret v=>obtain⟨x7,σ7,H7,I7,r7,q7⟩:=q7;exact⟨x7,σ7,H7,I7.unpinned,r7,q7⟩
end
theorem cC {K:PySem.W.Frag}{a:Addr}{xs:List V}{g:TG}{tb:TS}{D:dh}{σ:St}{H:Hp}(Pv:Nat->St->Hp->Prop) (h0:Pv 0 σ H) (hl:∀i σ H,i<=xs.length->Pv i σ H->SqL K H a xs)
 (hs:∀i x σ H,xs[i]?=some x->Pv i σ H->g x σ H fun σ2 H2=>tb { D with nx:=Pv (i+1),ct:=Pv (i+1),bk:=D.nx } σ2 H2) (hd:∀σ H,Pv xs.length σ H->D.nx σ H):
 ∃W:Nat->Nat->St->Hp->Prop,(∃m,W 0 m σ H)/\∀i m σ H,W i m σ H->
  ((Itl K a).stop i H/\D.nx σ H)\/((Itl K a).go i H/\∃N:St->Hp->Prop,(∀σ' H',N σ' H'->∃m',m'<m/\W (i+1) m' σ' H')/\∀x H',(Itl K a).yld i H x H'->g x σ H' fun σ2 H2=>tb { D with nx:=N,ct:=N,bk:=D.nx } σ2 H2):=by
 refine⟨fun i m σ H=>m=xs.length-i/\i<=xs.length/\Pv i σ H,⟨xs.length,by simp,qr _,h0⟩,?_⟩
 rintro i m σ H ⟨rfl,hi,p⟩
 have q:=hl i σ H hi p
 by_cases hlt:i<xs.length
 ·refine .inr ⟨⟨xs,xs[i],q,by simp[hlt]⟩,Pv (i+1),fun σ' H' p'=>⟨xs.length-(i+1),Qo,rfl,hlt,p'⟩,fun x H' y=>?_⟩
  obtain⟨e,y⟩:=y
  subst e
  exact hs i x σ _ (y xs q) p
 ·have e:i=xs.length:=by omega
  subst e
  exact .inl ⟨⟨xs,q,qd _⟩,hd σ H p⟩
theorem BN {lo:Int}{n:Nat}{g:TG}{tb:TS}{D:dh}{σ:St}{H:Hp}(Pv:Nat->St->Hp->Prop) (h0:Pv 0 σ H)
 (hs:∀i σ H,i<n->Pv i σ H->g (.int (lo+i)) σ H fun σ2 H2=>tb { D with nx:=Pv (i+1),ct:=Pv (i+1),bk:=D.nx } σ2 H2) (hd:∀σ H,Pv n σ H->D.nx σ H):
 ∃W:Nat->Nat->St->Hp->Prop,(∃m,W 0 m σ H)/\∀i m σ H,W i m σ H->
  ((Itr lo n).stop i H/\D.nx σ H)\/((Itr lo n).go i H/\∃N:St->Hp->Prop,(∀σ' H',N σ' H'->∃m',m'<m/\W (i+1) m' σ' H')/\∀x H',(Itr lo n).yld i H x H'->g x σ H' fun σ2 H2=>tb { D with nx:=N,ct:=N,bk:=D.nx } σ2 H2):=by
 refine⟨fun i m σ H=>m=n-i/\i<=n/\Pv i σ H,⟨n,by simp,qr _,h0⟩,?_⟩
 rintro i m σ H ⟨rfl,hi,p⟩
 by_cases hlt:i<n
 ·refine .inr ⟨hlt,Pv (i+1),fun σ' H' p'=>⟨n-(i+1),Qo,rfl,hlt,p'⟩,fun x H' y=>?_⟩
  obtain⟨e,y⟩:=y
  subst e y
  exact hs i σ _ hlt p
 ·have e:i=n:=by omega
  subst e
  exact .inl ⟨qd _,hd σ H p⟩
abbrev R2:=V->V->Hp->VK->Prop
def OpR (X:Cx) (f:Value->Value->Sem Value) (r:R2):Prop:=
 ∀(pins:List (Addr×Obj)) (s:Shared) (σ:St) (H:Hp) (x y:V) (v u:Value) (Q:VK),Inv X pins σ H s->ay x v->ay y u->r x y H Q->
  wpAny (model X.prog X.w) X.A (f v u) (EP X pins σ Q) X.xe s
def UnR (X:Cx) (f:Value->Sem Value) (r:V->Hp->VK->Prop):Prop:=
 ∀(pins:List (Addr×Obj)) (s:Shared) (σ:St) (H:Hp) (x:V) (v:Value) (Q:VK),Inv X pins σ H s->ay x v->r x H Q->
  wpAny (model X.prog X.w) X.A (f v) (EP X pins σ Q) X.xe s
def bF (X:Cx) (f:Value) (r:List V->Hp->VK->Prop):Prop:=
 ∀(pins:List (Addr×Obj)) (s:Shared) (σ:St) (H:Hp) (xs:List V) (us:List Value) (Q:VK),Inv X pins σ H s->au xs us->r xs H Q->
  wpAny (model X.prog X.w) X.A (call f us) (EP X pins σ Q) X.xe s
def CO (X:Cx) (r:V->Hp->(Bool->Hp->Prop)->Prop):Prop:=
 ∀(pins:List (Addr×Obj)) (s:Shared) (σ:St) (H:Hp) (x:V) (v:Value) (Q:Bool->Hp->Prop),Inv X pins σ H s->ay x v->r x H Q->
  wpAny (model X.prog X.w) X.A (truthy v) (TP X pins σ Q) X.xe s
def tOp (r:R2) (ta tb:TE):TE:=fun σ H Q=>ta σ H fun x H1=>tb σ H1 fun y H2=>r x y H2 Q
def tUn (r:V->Hp->VK->Prop) (ta:TE):TE:=fun σ H Q=>ta σ H fun x H1=>r x H1 Q
def rI (C:Int->Int->Prop) (g:Int->Int->V):R2:=fun x y H Q=>∃i j,x=.int i/\y=.int j/\C i j/\Q (g i j) H
def rI0 (g:Int->Int->V):R2:=fun x y H Q=>∃i j,x=.int i/\y=.int j/\Q (g i j) H
def rU (g:Int->V):V->Hp->VK->Prop:=fun x H Q=>∃i,x=.int i/\Q (g i) H
section
variable {X:Cx}{a b c:Expr}{ta tb tc:TE}{pos:Pos}
theorem nh (ha:PE X a ta) (hb:PE X b tb) {pins:List (Addr×Obj)}{s:Shared}{σ:St}{H:Hp}{R:V->V->Hp->Prop}(I:Inv X pins σ H s)
 (h:ta σ H fun x H1=>tb σ H1 fun y H2=>R x y H2) {Q:Qq}{f:Value->Value->Sem Value}
 (hf:∀v u s2 x y H2,Inv X pins σ H2 s2->ay x v->ay y u->R x y H2->wpAny (model X.prog X.w) X.A (f v u) Q X.xe s2):
 wpAny (model X.prog X.w) X.A (eval a X.env) (fun v s₁=>wpAny (model X.prog X.w) X.A (eval b X.env) (fun u s₂=>wpAny (model X.prog X.w) X.A (f v u) Q X.xe s₂) X.xe s₁) X.xe s:=by
 refine thn (ha pins s σ H _ I h) fun v s1 ⟨x,H1,I1,r1,q1⟩=>?_
 refine thn (hb pins s1 σ H1 _ I1 q1) fun u s2 ⟨y,H2,I2,r2,q2⟩=>?_
 exact hf v u s2 x y H2 I2 r1 r2 q2
theorem ax {op:Operator}{r:R2}(ho:OpR X (binaryOp op) r) (ha:PE X a ta) (hb:PE X b tb):PE X (.BinOp a op b pos) (tOp r ta tb):=by
 intro pins s σ H Q I h
 exact wpAny_BinOp (nh ha hb I h fun v u s2 x y H2 I2 rx ry q=>ho pins s2 σ H2 x y v u Q I2 rx ry q)
theorem dv {op:UnaryOp}{r:V->Hp->VK->Prop}(ho:UnR X (unaryOp op) r) (ha:PE X a ta):PE X (.UnaryOp op a pos) (tUn r ta):=by
 intro pins s σ H Q I h
 exact UnaryOp_ (thn (ha pins s σ H _ I h) fun v s1 ⟨x,H1,I1,r1,q1⟩=>ho pins s1 σ H1 x v Q I1 r1 q1)
theorem opI {f:Value->Value->Sem Value}{C:Int->Int->Prop}{g:Int->Int->Int}
 (rule:∀(i j:Int) (t u:Tok) (s:Shared) (Q:Qq) (E:Qq),C i j->Q (.int (g i j) s.toks) { s with toks:=s.toks+1 }->wpAny (model X.prog X.w) X.A (f (.int i t) (.int j u)) Q E s):
 OpR X f (rI C fun i j=>.int (g i j)):=by
 intro pins s σ H x y v u Q I rx ry h
 obtain⟨i,j,rfl,rfl,hc,q⟩:=h
 obtain⟨t,rfl⟩:=rx
 obtain⟨t',rfl⟩:=ry
 exact rule i j t t' s _ _ hc ⟨.int (g i j),H,I.tok _,⟨_,rfl⟩,q⟩
theorem rZ {f:Value->Value->Sem Value}{g:Int->Int->Int}
 (rule:∀(i j:Int) (t u:Tok) (s:Shared) (Q:Qq) (E:Qq),Q (.int (g i j) s.toks) { s with toks:=s.toks+1 }->wpAny (model X.prog X.w) X.A (f (.int i t) (.int j u)) Q E s):
 OpR X f (rI0 fun i j=>.int (g i j)):=by
 intro pins s σ H x y v u Q I rx ry h
 obtain⟨i,j,rfl,rfl,q⟩:=h
 obtain⟨t,rfl⟩:=rx
 obtain⟨t',rfl⟩:=ry
 exact rule i j t t' s _ _ ⟨.int (g i j),H,I.tok _,⟨_,rfl⟩,q⟩
theorem sf {f:Value->Value->Sem Value}{g:Int->Int->Bool}
 (rule:∀(i j:Int) (t u:Tok) (s:Shared) (Q:Qq) (E:Qq),Q (.bool (g i j)) s->wpAny (model X.prog X.w) X.A (f (.int i t) (.int j u)) Q E s):
 OpR X f (rI0 fun i j=>.bl (g i j)):=by
 intro pins s σ H x y v u Q I rx ry h
 obtain⟨i,j,rfl,rfl,q⟩:=h
 obtain⟨t,rfl⟩:=rx
 obtain⟨t',rfl⟩:=ry
 exact rule i j t t' s _ _ ⟨.bl (g i j),H,I,rfl,q⟩
def CU (i j:Int):Prop:=0<j/\j<1073741824
def CT (i j:Int):Prop:=0<=j/\j<=1000000/\i.natAbs<2 ^ 64
theorem zD:OpR X (binaryOp .Add) (rI0 fun i j=>.int (i+j)):=rZ fun _ _ _ _ _ _ _ q=>add_int q
theorem yZ:OpR X (binaryOp .Sub) (rI0 fun i j=>.int (i-j)):=rZ fun _ _ _ _ _ _ _ q=>sub_int q
theorem zu:OpR X (binaryOp .FloorDiv) (rI CU fun i j=>.int (i / j)):=opI fun i j _ _ _ _ _ hc q=>by
 have h1:(0:Int)<j:=hc.1
 have h2:j<1073741824:=hc.2
 exact floordiv_int Qo (by rw[Int.fdiv_eq_ediv_of_nonneg i Qo];exact q) (.inl (PyProof.noPylong_small Qo))
theorem zo:OpR X (binaryOp .Mod) (rI (fun _ j=>0<j) fun i j=>.int (i % j)):=opI fun i j _ _ _ _ _ hc q=>by
 have h1:(0:Int)<j:=hc
 exact mod_int' Qo (by rw[Int.fmod_eq_emod_of_nonneg i Qo];exact q)
theorem zd:OpR X (binaryOp .Pow) (rI CT fun i j=>.int (i ^ j.toNat)):=opI fun _ _ _ _ _ _ _ hc q=>pow_int_small hc.1 hc.2.1 hc.2.2 q
theorem unI {f:Value->Sem Value}{g:Int->Int}
 (rule:∀(i:Int) (t:Tok) (s:Shared) (Q:Qq) (E:Qq),Q (.int (g i) s.toks) { s with toks:=s.toks+1 }->wpAny (model X.prog X.w) X.A (f (.int i t)) Q E s):
 UnR X f (rU fun i=>.int (g i)):=by
 intro pins s σ H x v Q I rx h
 obtain⟨i,rfl,q⟩:=h
 obtain⟨t,rfl⟩:=rx
 exact rule i t s _ _ ⟨.int (g i),H,I.tok _,⟨_,rfl⟩,q⟩
theorem dq:UnR X (unaryOp .USub) (rU fun i=>.int (-i)):=unI fun _ _ _ _ _ q=>neg_int q
end
def iG:V->V->Bool
 |.non,.non=>true|.non,.int _=>true|.int _,.non=>true|.non,.bl _=>true|.bl _,.non=>true|.non,.str _=>true|.str _,.non=>true
 |.int _,.int _=>true|.bl _,.bl _=>true|.str _,.str _=>true|.byt _,.byt _=>true
 |.int _,.str _=>true|.str _,.int _=>true|.bl _,.str _=>true|.str _,.bl _=>true
 |_,_=>false
def rEq:R2:=fun x y H Q=>iG x y=true/\Q (.bl (decide (x=y))) H
def rNe:R2:=fun x y H Q=>iG x y=true/\Q (.bl (!decide (x=y))) H
theorem uy {i j:Int}:decide (V.int i=V.int j)=(i == j):=by
 rw[Bool.eq_iff_iff]
 simp
theorem uA {i j:Bool}:decide (V.bl i=V.bl j)=(i == j):=by
 rw[Bool.eq_iff_iff]
 simp
theorem ux {i j:Str}:decide (V.str i=V.str j)=(i == j):=by
 rw[Bool.eq_iff_iff]
 simp
theorem uz {i j:Array UInt8}:decide (V.byt i=V.byt j)=(i.toList == j.toList):=by
 rw[Bool.eq_iff_iff]
 cases i
 cases j
 simp
section
variable {X:Cx}{a b c:Expr}{ta tb tc:TE}{pos:Pos}
theorem be {pins:List (Addr×Obj)}{σ:St}{H:Hp}{s:Shared}{Q:VK}{k k':Bool}(I:Inv X pins σ H s) (q:Q (.bl k) H) (e:k=k'):EP X pins σ Q (.bool k') s:=by
 subst e
 exact⟨.bl k,H,I,rfl,q⟩
theorem zz:OpR X (compareOp .Eq) rEq:=by
 intro pins s σ H x y v u Q I rx ry h
 obtain⟨hs,q⟩:=h
 cases x with
 |non=>
  cases rx
  cases y with
  |non=>cases ry;exact PySem.EqNone.eq_none_none (be I q (by simp))
  |bl j=>cases ry;exact PySem.EqNone.eq_none_bool (be I q (by simp))
  |int j=>obtain⟨t',rfl⟩:=ry;exact PySem.EqNone.eq_none_int (be I q (by simp))
  |str j=>obtain⟨t',rfl⟩:=ry;exact PySem.EqNone.eq_none_str (be I q (by simp))
  |_=>exact absurd (show false=true from hs) qh
 |bl i=>
  cases rx
  cases y with
  |non=>cases ry;exact PySem.EqNone.eq_bool_none (be I q (by simp))
  |bl j=>cases ry;exact eq_bool (be I q uA)
  |str j=>obtain⟨t',rfl⟩:=ry;exact PySem.EqMixed.eq_bool_str (be I q (by simp))
  |_=>exact absurd (show false=true from hs) qh
 |int i=>
  obtain⟨t,rfl⟩:=rx
  cases y with
  |non=>cases ry;exact PySem.EqNone.eq_int_none (be I q (by simp))
  |int j=>obtain⟨t',rfl⟩:=ry;exact eq_int (be I q uy)
  |str j=>obtain⟨t',rfl⟩:=ry;exact PySem.EqMixed.eq_int_str (be I q (by simp))
  |_=>exact absurd (show false=true from hs) qh
 |str i=>
  obtain⟨t,rfl⟩:=rx
  cases y with
  |non=>cases ry;exact PySem.EqNone.eq_str_none (be I q (by simp))
  |bl j=>cases ry;exact PySem.EqMixed.eq_str_bool (be I q (by simp))
  |int j=>obtain⟨t',rfl⟩:=ry;exact PySem.EqMixed.eq_str_int (be I q (by simp))
  |str j=>obtain⟨t',rfl⟩:=ry;exact eq_str (be I q ux)
  |_=>exact absurd (show false=true from hs) qh
 |byt i=>
  obtain⟨t,rfl⟩:=rx
  cases y with
  |byt j=>obtain⟨t',rfl⟩:=ry;exact PySem.W.eq_bytes (be I q uz)
  |_=>exact absurd (show false=true from hs) qh
 |_=>cases y<;>exact absurd (show false=true from hs) qh
theorem zj:OpR X (compareOp .NotEq) rNe:=by
 intro pins s σ H x y v u Q I rx ry h
 obtain⟨hs,q⟩:=h
 cases x with
 |non=>
  cases rx
  cases y with
  |non=>cases ry;exact PySem.EqNone.ne_none_none (be I q (by simp))
  |bl j=>cases ry;exact PySem.EqNone.ne_none_bool (be I q (by simp))
  |int j=>obtain⟨t',rfl⟩:=ry;exact PySem.EqNone.ne_none_int (be I q (by simp))
  |str j=>obtain⟨t',rfl⟩:=ry;exact PySem.EqNone.ne_none_str (be I q (by simp))
  |_=>exact absurd (show false=true from hs) qh
 |bl i=>
  cases rx
  cases y with
  |non=>cases ry;exact PySem.EqNone.ne_bool_none (be I q (by simp))
  |bl j=>cases ry;exact ne_bool (be I q (congrArg not uA))
  |str j=>obtain⟨t',rfl⟩:=ry;exact PySem.EqMixed.ne_bool_str (be I q (by simp))
  |_=>exact absurd (show false=true from hs) qh
 |int i=>
  obtain⟨t,rfl⟩:=rx
  cases y with
  |non=>cases ry;exact PySem.EqNone.ne_int_none (be I q (by simp))
  |int j=>obtain⟨t',rfl⟩:=ry;exact ne_int (be I q (congrArg not uy))
  |str j=>obtain⟨t',rfl⟩:=ry;exact PySem.EqMixed.ne_int_str (be I q (by simp))
  |_=>exact absurd (show false=true from hs) qh
 |str i=>
  obtain⟨t,rfl⟩:=rx
  cases y with
  |non=>cases ry;exact PySem.EqNone.ne_str_none (be I q (by simp))
  |bl j=>cases ry;exact PySem.EqMixed.ne_str_bool (be I q (by simp))
  |int j=>obtain⟨t',rfl⟩:=ry;exact PySem.EqMixed.ne_str_int (be I q (by simp))
  |str j=>obtain⟨t',rfl⟩:=ry;exact ne_str (be I q (congrArg not ux))
  |_=>exact absurd (show false=true from hs) qh
 |byt i=>
  obtain⟨t,rfl⟩:=rx
  cases y with
  |byt j=>obtain⟨t',rfl⟩:=ry;exact PySem.W.ne_bytes (be I q (congrArg not uz))
  |_=>exact absurd (show false=true from hs) qh
 |_=>cases y<;>exact absurd (show false=true from hs) qh
theorem zq:OpR X (compareOp .Lt) (rI0 fun i j=>.bl (decide (i<j))):=sf fun _ _ _ _ _ _ _ q=>lt_int q
theorem zt:OpR X (compareOp .Gt) (rI0 fun i j=>.bl (decide (j<i))):=sf fun _ _ _ _ _ _ _ q=>gt_int q
theorem aT (b:Expr) {op:CmpOp}(h:op≠.In:=by decide) (h2:op≠.NotIn:=by decide):behindInMarks op b=false:=by
 have e1:(op == CmpOp.In)=false:=by cases op<;>first|rfl|exact absurd rfl h
 have e2:(op == CmpOp.NotIn)=false:=by cases op<;>first|rfl|exact absurd rfl h2
 cases b<;>simp[behindInMarks,e1,e2]
theorem gL {op:CmpOp}{r:R2}(ho:OpR X (compareOp op) r) (ha:PE X a ta) (hb:PE X b tb) (hm:behindInMarks op b=false):PE X (.Compare a [op] [b] pos) (tOp r ta tb):=by
 intro pins s σ H Q I h
 exact wpAny_Compare1 (nh ha hb I h fun v u s2 x y H2 I2 rx ry q=>ho pins s2 σ H2 x y v u Q I2 rx ry q) hm
def jP (t:TE):TT:=fun σ H Q=>t σ H fun x H'=>∃k,x=.bl k/\Q k H'
theorem yA {op:CmpOp}{r:R2}(ho:OpR X (compareOp op) r) (ha:PE X a ta) (hb:PE X b tb) (hm:behindInMarks op b=false):PT X (.Compare a [op] [b] pos) (jP (tOp r ta tb)):=by
 intro pins s σ H Q I h
 refine wpAny_isTrue_Compare1 (thn (ha pins s σ H _ I h) fun v s1 ⟨x,H1,I1,r1,q1⟩=>thn (hb pins s1 σ H1 _ I1 q1) fun u s2 ⟨y,H2,I2,r2,q2⟩=>
  thn (ho pins s2 σ H2 x y v u _ I2 r1 r2 q2) fun c s3 ⟨z,H3,I3,r3,k,e,q3⟩=>?_) hm
 subst e
 cases r3
 exact wpAny_truthy_bool ⟨H3,I3,q3⟩
theorem gS:(sizeLine:Nat)<2 ^ 63:=by rw[sizeLine_eq];decide
theorem zB:OpR X (binaryOp .Add) (fun x y H Q=>∃i j,x=.str i/\y=.str j/\i.length+j.length<=sizeLine/\Q (.str (i++j)) H):=by
 intro pins s σ H x y v u Q I rx ry h
 obtain⟨i,j,rfl,rfl,hz,q⟩:=h
 obtain⟨t,rfl⟩:=rx
 obtain⟨t',rfl⟩:=ry
 exact add_str (fun t' tk=>⟨.str (i++j),H,I.tok _,⟨_,rfl⟩,q⟩) hz
theorem cR {x:V}{us:List Value}(r:au [x] us):∃u,us=[u]/\ay x u:=by
 cases r with
 |cons r1 r2=>cases r2;exact⟨_,rfl,r1⟩
theorem ig {x y:V}{us:List Value}(r:au [x,y] us):∃u w',us=[u,w']/\ay x u/\ay y w':=by
 cases r with
 |cons r1 r2=>
  cases r2 with
  |cons r3 r4=>cases r4;exact⟨_,_,rfl,r1,r3⟩
theorem Cv (hc:X.calm=true):bF X (.builtin "min") (fun xs H Q=>∃i j,xs=[.int i,.int j]/\Q (.int (if j<i then j else i)) H):=by
 intro pins s σ H xs us Q I r h
 obtain⟨i,j,rfl,q⟩:=h
 obtain⟨u,w',rfl,⟨t,rfl⟩,⟨t',rfl⟩⟩:=ig r
 refine min_two_ints (I.ok.hd hc) fun h' tk k=>⟨_,H,I.kept k,?_,q⟩
 by_cases hj:j<i
 ·rw[Q0 hj,Q0 hj];exact⟨_,rfl⟩
 ·rw[qZ hj,qZ hj];exact⟨_,rfl⟩
theorem Ct:bF X (.type "str") (fun xs H Q=>∃i,xs=[.int i]/\i.natAbs.log2<1920/\Q (.str (toString i)) H):=by
 intro pins s σ H xs us Q I r h
 obtain⟨i,rfl,hz,q⟩:=h
 obtain⟨u,rfl,t,rfl⟩:=cR r
 exact PySem.P.str_of_int hz ⟨.str _,H,I.tok _,⟨_,rfl⟩,q⟩
end
structure eZ (h:Heap) (x dx C:Addr) (mA:Str->Option Value):Prop where
 obj:h.get? x=some (PySem.W.instObj C dx)
 ns:h.Ns1 dx mA
 ne:dx≠x
theorem AH {h:Heap}{dx:Addr}{mA:Str->Option Value}(n:h.Ns1 dx mA):∃od,h.get? dx=some od/\∀name,PySem.W.lookIn name od=some (mA name):=by
 obtain⟨o,es,ep,ho,hd,hk,_,hm⟩:=n
 refine⟨o,ho,fun name=>?_⟩
 have e:=hm name
 unfold nsFind findBy at e
 rw[<- Array.find?_toList]at e
 unfold PySem.W.lookIn
 rw[hd]
 dsimp only
 split
 ·rename_i y q
  rw[q]at e
  exact congrArg some e
 ·rename_i q
  rw[q]at e
  have a:es.toList.any (·.refKey)=false:=by
   rw[List.any_eq_false]
   intro y hy
   obtain⟨z,t,hkey⟩:=hk y (Array.mem_toList_iff.mp hy)
   simp[DictEntry.refKey,hkey]
  have a':¬ es.toList.any (·.refKey)=true:=by rw[a];exact qh
  rw[qZ a']
  exact congrArg some e
theorem eZ.look {h:Heap}{x dx C:Addr}{mA:Str->Option Value}(I:eZ h x dx C mA):∃od,PySem.W.InstAt h x (PySem.W.instObj C dx) C (some od)/\∀name,PySem.W.lookIn name od=some (mA name):=
 let ⟨od,ho,hl⟩:=AH I.ns
 ⟨od,⟨I.obj,rfl,rfl,ho⟩,hl⟩
section
variable {prog:Program}{w:World}{A:Around}{E:Qq}{s:Shared}{K:PySem.W.Frag}{x dx C f:Addr}{mA:Str->Option Value}{name:Str}{v:Value}
theorem BC {expr:Bool}{Q:Qq}(X:K.In s.heap) (I:eZ s.heap x dx C mA) (hg:PySem.W.plainGet K C name=true) (hh:PySem.W.hasDictIn K C=true)
 (ha:PySem.W.findIn K (.ref C) name=some none) (hv:mA name=some v) (hv':PySem.W.handedIn v=true) (h:Q v { s with toks:=s.toks+1 }):
 wpAny (model prog w) A (getAttr (.ref x) name expr) Q E s:=by
 obtain⟨od,J,hl⟩:=I.look
 exact PySem.W.get_value X J (PySem.W.plainGet_of hg).1 (PySem.W.findObj_own hh ha rfl (by rw[hl,hv])) hv' h
theorem BB {pl:Sem Bool}{Q:Value×List Value->Shared->Prop}(X:K.In s.heap) (I:eZ s.heap x dx C mA) (hg:PySem.W.plainGet K C name=true)
 (hf:PySem.W.findIn K (.ref C) name=some (some (.ref f))) (ht:PySem.W.isFn K (.ref f)=true) (hv:mA name=none) (h:Q (.ref f,[.ref x]) s):
 wpAny (model prog w) A (getMethod (.ref x) name pl) Q E s:=by
 obtain⟨od,J,hl⟩:=I.look
 exact PySem.W.method_fn X J (PySem.W.plainGet_of hg).1 (PySem.W.plainGet_of hg).2 hf (beq_iff_eq.mp ht) (by show(PySem.W.lookIn name od).map (·.isSome)=some false;rw[hl,hv];rfl) h
theorem xr {ns:List Str}{Q:Unit->Shared->Prop}(X:K.In s.heap) (I:eZ s.heap x dx C mA)
 (hs:PySem.W.findIn K (.ref C) "__setattr__"=some (some (.builtin "object.__setattr__"))) (hp:PySem.W.plainOver K C=true) (ht:PySem.W.takerIn K C name=some none) (hh:PySem.W.hasDictIn K C=true)
 (hw:PySem.Within mA ns) (hsz:ns.length<=sizeLine)
 (h:∀h',eZ h' x dx C (fun y=>if y=name then some v else mA y)->Heap.SameBut dx s.heap h'->Q () { s with heap:=h',toks:=s.toks+2 }):
 wpAny (model prog w) A (setAttr (.ref x) name v) Q E s:=by
 obtain⟨od,J,hl⟩:=I.look
 refine PySem.W.set_plain X J hs (PySem.W.osa_open (s:={ s with toks:=s.toks+1 }) (r:=none) X J hp ht fun b=>?_)
 obtain⟨cd,hc,hd'⟩:=PySem.W.any_some hh
 have hx:s.heap.get? x=some ⟨.ref C,some dx,.plain,#[]⟩:=I.obj
 refine q4 (qc (q4 (q4 (wpAny_loadPart hx (q4 (PySem.W.Looks.here (s:={ s with toks:=s.toks+1 }) (PySem.W.looks_clsIn X hc) ?_))))))
 rw[hd']
 refine qc (a:=some dx) (q4 (qc (q4 ?_)))
 refine wpAny_nsSet1 (s:={ s with toks:=s.toks+1 }) I.ns fun h' hn2 hs2=>?_
 obtain⟨oD,esD,epD,hoD,hdD,hcD⟩:=hn2.count (PySem.Within.cons name v hw)
 refine q4 (wpAny_lookBehind hoD (by rw[hdD];exact pastItsLine_dict (qx hcD (by rw[qz];omega))) ?_)
 exact qc (h _ ⟨(hs2.2 _ (Ne.symm I.ne)).trans I.obj,hn2,I.ne⟩ hs2)
theorem AC {R:Result->Shared->Prop}{vs:List Value}{kw:List (Str×Value)}(X:K.In s.heap) (hm:PySem.W.makesIn K C=true)
 (hi:PySem.W.findIn K (.ref C) "__init__"=some (some (.ref f))) (hf:PySem.W.typeIn K (.ref f)=some (.type "function"))
 (h:codeAny (model prog w) (A.under (.builtin "type.__call__" ⟨.ref C::vs,kw⟩)) (.call (.ref f) ⟨.ref (s.heap.objs.size+1)::vs,kw⟩) (PySem.W.InitBack (s.heap.objs.size+1) R)
  { s with heap:=(s.heap.push PySem.W.emptyDict).push (PySem.W.instObj C s.heap.objs.size) }):
 codeAny (model prog w) A (.call (.ref C) ⟨vs,kw⟩) R s:=by
 obtain⟨hh,g,d,t,os⟩:=s
 exact PySem.W.make_core (PySem.W.makes_of X hm) (PySem.W.looks_findIn X hi) (fun self=>PySem.W.bind_fn X self hf) (.inl rfl) h
end
def bP (f:Str) (v:V):List (Str×V)->List (Str×V)
 |[]=>[(f,v)]
 |(g,x)::r=>if g=f then(g,v)::r else(g,x)::bP f v r
theorem sR (f g:Str) (v:V):∀fs:List (Str×V),(bP f v fs).lookup g=if g=f then some v else fs.lookup g
 |[]=>by
  show List.lookup g [(f,v)]=_
  by_cases h:g=f
  ·have hb:(g == f)=true:=beq_iff_eq.mpr h
   simp only[List.lookup,hb,Q0 h]
  ·have hb:(g == f)=false:=beq_eq_false_iff_ne.mpr h
   simp only[List.lookup,hb,qZ h]
 |(k,x)::r=>by
  have ih:=sR f g v r
  rw[show bP f v ((k,x)::r)=(if k=f then(k,v)::r else(k,x)::bP f v r)from rfl]
  by_cases hk:k=f
  ·rw[Q0 hk]
   by_cases h:g=k
   ·have hb:(g == k)=true:=beq_iff_eq.mpr h
    simp only[List.lookup,hb,Q0 (h.trans hk)]
   ·have hb:(g == k)=false:=beq_eq_false_iff_ne.mpr h
    simp only[List.lookup,hb,qZ (fun e:g=f=>h (e.trans hk.symm))]
  ·rw[qZ hk]
   by_cases h:g=k
   ·have hb:(g == k)=true:=beq_iff_eq.mpr h
    simp only[List.lookup,hb,qZ (fun e:g=f=>hk (h.symm.trans e))]
   ·have hb:(g == k)=false:=beq_eq_false_iff_ne.mpr h
    simp only[List.lookup,hb]
    exact ih
theorem mG (f:Str) (v:V):∀fs:List (Str×V),f∈(bP f v fs).map (·.1)/\∀g,g∈fs.map (·.1)->g∈(bP f v fs).map (·.1)
 |[]=>⟨by simp[bP],fun g h=>by simp at h⟩
 |(k,x)::r=>by
  obtain⟨i1,i2⟩:=mG f v r
  rw[show bP f v ((k,x)::r)=(if k=f then(k,v)::r else(k,x)::bP f v r)from rfl]
  by_cases hk:k=f
  ·rw[Q0 hk]
   subst hk
   exact⟨by simp,fun g h=>by simpa using h⟩
  ·rw[qZ hk]
   refine⟨?_,fun g h=>?_⟩
   ·rw[qR]
    exact qj _ i1
   ·rw[qR]at h ⊢
    rcases qt.mp h with e|e
    ·exact qt.mpr (.inl e)
    ·exact qj _ (i2 g e)
theorem sU (f:Str) (v:V):∀fs:List (Str×V),(bP f v fs).length<=fs.length+1
 |[]=>by simp[bP]
 |(k,x)::r=>by
  have ih:=sU f v r
  rw[show bP f v ((k,x)::r)=(if k=f then(k,v)::r else(k,x)::bP f v r)from rfl]
  by_cases hk:k=f
  ·rw[Q0 hk,qz,qz];omega
  ·rw[qZ hk,qz,qz];omega
theorem bN.some_of {v:V}{o:Option Value}(r:bN (some v) o):∃u,o=some u/\ay v u:=by
 cases o with
 |none=>exact(show False from r).elim
 |some u=>exact⟨u,rfl,r⟩
theorem bN.none_of {o:Option Value}(r:bN none o):o=none:=by
 cases o with
 |none=>rfl
 |some u=>exact(show False from r).elim
theorem Bu {v:V}{u:Value}(r:ay v u):PySem.W.handedIn u=true:=by
 cases v with
 |non=>cases(show u=Value.none from r);rfl
 |bl b=>cases(show u=Value.bool b from r);rfl
 |int i=>obtain⟨t,e⟩:=(show ∃t,u=Value.int i t from r);cases e;rfl
 |str x=>obtain⟨t,e⟩:=(show ∃t,u=Value.str x t from r);cases e;rfl
 |byt b=>obtain⟨t,e⟩:=(show ∃t,u=Value.bytes b t from r);cases e;rfl
 |flt b=>obtain⟨t,e⟩:=(show ∃t,u=Value.float b t from r);cases e;rfl
 |ref a=>cases(show u=Value.ref a from r);rfl
 |ty n=>cases(show u=Value.type n from r);rfl
section
variable {P:Program}{w:World}{H H':Hp}{h h':Heap}{a C dx:Addr}{fs fs':List (Str×V)}
theorem jh (hok:HOk P w H h) (e:H a=some (.ins C dx fs)):∃mA,eZ h a dx C mA/\(∀f,bN (fs.lookup f) (mA f))/\PySem.Within mA (fs.map (·.1))/\fs.length<=1000/\H dx=some (.own a):=by
 obtain⟨d,z,ne,ob,mA,n,r,q⟩:=(show bb P w H h a (.ins C dx fs)from hok a _ e)
 exact⟨mA,⟨ob,n,ne⟩,r,q,z,d⟩
end
structure Cls (K:PySem.W.Frag) (C:Addr):Prop where
 pg:PySem.W.plainGet K C Str.empty=true
 hd:PySem.W.hasDictIn K C=true
 po:PySem.W.plainOver K C=true
 sa:PySem.W.findIn K (.ref C) "__setattr__"=some (some (.builtin "object.__setattr__"))
theorem Cls.get {K:PySem.W.Frag}{C:Addr}(c:Cls K C) (f:Str):PySem.W.plainGet K C f=true:=c.pg
def cE (K:PySem.W.Frag) (C:Addr) (f:Str):Prop:=PySem.W.findIn K (.ref C) f=some none
theorem cE.taker {K:PySem.W.Frag}{C:Addr}{f:Str}(n:cE K C f):PySem.W.takerIn K C f=some none:=by
 unfold PySem.W.takerIn
 rw[show PySem.W.findIn K (.ref C) f=some none from n]
 rfl
structure cF (K:PySem.W.Frag) (C:Addr) (m:Str) (f:Addr):Prop where
 at_:PySem.W.findIn K (.ref C) m=some (some (.ref f))
 fn:PySem.W.isFn K (.ref f)=true
 kp:PySem.W.keepIn K (.ref f)=true
section
variable {X:Cx}{pins:List (Addr×Obj)}{σ:St}{H:Hp}{s:Shared}{a C dx:Addr}{fs:List (Str×V)}{f:Str}{v:V}{A:Around}{E:Qq}
theorem BA {b:Bool}{Q:Qq}(I:Inv X pins σ H s) (e:H a=some (.ins C dx fs)) (c:Cls X.K C) (n:cE X.K C f) (l:fs.lookup f=some v)
 (h:∀u s',Inv X pins σ H s'->ay v u->Q u s'):wpAny (model X.prog X.w) A (getAttr (.ref a) f b) Q E s:=by
 obtain⟨mA,O,r,_,_,_⟩:=jh I.hok e
 obtain⟨u,hu,ru⟩:=bN.some_of (v:=v) (o:=mA f) (by rw[<- l];exact r f)
 exact BC I.kIn O (c.get f) c.hd n hu (Bu ru) (h u _ (I.tok _) ru)
theorem tP {m:Str}{g:Addr}{pl:Sem Bool}{Q:Value×List Value->Shared->Prop}(I:Inv X pins σ H s) (e:H a=some (.ins C dx fs)) (c:Cls X.K C) (k:cF X.K C m g) (l:fs.lookup m=none)
 (h:Q (.ref g,[.ref a]) s):wpAny (model X.prog X.w) A (getMethod (.ref a) m pl) Q E s:=by
 obtain⟨mA,O,r,_,_,_⟩:=jh I.hok e
 have hn:mA m=none:=bN.none_of (by rw[<- l];exact r m)
 exact BB I.kIn O (c.get m) k.at_ k.fn hn h
theorem xk {y:V}{u:Value}{Q:Unit->Shared->Prop}(I:Inv X pins σ H s) (e:H a=some (.ins C dx fs)) (c:Cls X.K C) (n:cE X.K C f) (hl:fs.length<1000) (ry:ay y u)
 (h:∀s',Inv X pins σ (upd H a (.ins C dx (bP f y fs))) s'->Q () s'):wpAny (model X.prog X.w) A (setAttr (.ref a) f u) Q E s:=by
 obtain⟨mA,O,r,wi,_,ho⟩:=jh I.hok e
 have hz:(fs.map (·.1)).length<=sizeLine:=by rw[q5,sizeLine_eq];omega
 refine xr I.kIn O c.sa c.po n.taker c.hd wi hz fun h' O' sb=>h _ ?_
 have hd:∃o,h'.get? dx=some o:=let ⟨o,_,_,e',_⟩:=O'.ns;⟨o,e'⟩
 refine I.write (x:=a) (e:=dx) (by rw[e];exact True.intro) (.inr ho) (fun b q hb z=>(sb.2 b hb).trans z) hd ?_
 refine⟨by rw[aj O.ne];exact ho,?_,O.ne,O'.obj,_,O'.ns,fun g=>?_,fun g hg=>?_⟩
 ·have:=sU f y fs;omega
 ·show bN ((bP f y fs).lookup g) (if g=f then some u else mA g)
  rw[sR]
  by_cases q:g=f
  ·rw[Q0 q,Q0 q];exact ry
  ·rw[qZ q,qZ q];exact r g
 ·by_cases q:g=f
  ·rw[q];exact(mG f y fs).1
  ·refine(mG f y fs).2 g (wi g fun z=>hg ?_)
   show(if g=f then some u else mA g)=none
   rw[qZ q];exact z
theorem Inv.made (I:Inv X pins σ H s):Inv X pins σ (upd (upd H s.heap.objs.size (.own (s.heap.objs.size+1))) (s.heap.objs.size+1) (.ins C s.heap.objs.size []))
 { s with heap:=(s.heap.push PySem.W.emptyDict).push (PySem.W.instObj C s.heap.objs.size) }:=by
 have e1:(s.heap.push PySem.W.emptyDict).get? s.heap.objs.size=some PySem.W.emptyDict:=qo s.heap rfl
 have e2:((s.heap.push PySem.W.emptyDict).push (PySem.W.instObj C s.heap.objs.size)).get? (s.heap.objs.size+1)=some (PySem.W.instObj C s.heap.objs.size):=by
  have:=qo (s.heap.push PySem.W.emptyDict) (o:=PySem.W.instObj C s.heap.objs.size) rfl
  rwa [Heap.size_push]at this
 have e3:(s.heap.push PySem.W.emptyDict).Ns s.heap.objs.size (fun _=>none):=⟨PySem.W.emptyDict,#[],_,e1,rfl,(fun e he=>absurd he (by simp)),fun _=>rfl⟩
 have I1:=I.laid (a:=s.heap.objs.size) (o:=.own (s.heap.objs.size+1)) (h':=s.heap.push PySem.W.emptyDict) (t':=s.toks) (fun b u q=>q9 _ q) (qd _) ⟨_,e1⟩
 refine I1.laid (a:=s.heap.objs.size+1) (o:=.ins C s.heap.objs.size []) (t':=s.toks) (fun b u q=>q9 _ q) (Nat.le_of_eq (Heap.size_push _ _)) ?_
 have ne:s.heap.objs.size≠s.heap.objs.size+1:=qF (Nat.lt_succ_self _)
 refine⟨by rw[aj ne,ae],qr _,ne,e2,fun _=>none,(Heap.Ns1.of_empty e3).at fun o q=>q9 _ q,fun _=>True.intro,fun y hy=>absurd rfl hy⟩
theorem CH {prog:Program}{w:World}{env:Env}{e:Expr}{f:Str}{pos:Pos}{s:Shared}{Q:Qq}(hb:attributeBase e f env (eval e env)=eval e env)
 (h:wpAny (model prog w) A (eval e env) (fun o s₁=>wpAny (model prog w) A (getAttr o f true) Q E s₁) E s):wpAny (model prog w) A (eval (.Attribute e f pos) env) Q E s:=
 Attribute_any_ h (by rw[arm_eval_Attribute,hb])
end
def ir (K:PySem.W.Frag) (ta:TE) (f:Str):TE:=fun σ H Q=>ta σ H fun x H1=>∃a C dx fs v,x=.ref a/\H1 a=some (.ins C dx fs)/\Cls K C/\cE K C f/\fs.lookup f=some v/\Q v H1
def xT (K:PySem.W.Frag) (ta tv:TE) (f:Str):TS:=fun D σ H=>tv σ H fun y H1=>ta σ H1 fun x H2=>∃a C dx fs,x=.ref a/\H2 a=some (.ins C dx fs)/\Cls K C/\cE K C f/\fs.length<1000 /\
 D.nx σ (upd H2 a (.ins C dx (bP f y fs)))
section
variable {X:Cx}{o e value:Expr}{f:Str}{pos pos' tpos:Pos}{ta tv:TE}
theorem rQ (he:PE X e ta) (hb:attributeBase e f X.env (eval e X.env)=eval e X.env):PE X (.Attribute e f pos) (ir X.K ta f):=by
 intro pins s σ H Q I h
 refine CH hb (thn (he pins s σ H _ I h) fun u s1 ⟨x,H1,I1,rx,a,C,dx,fs,v,ex,ea,c,n,l,q⟩=>?_)
 subst ex
 obtain rfl:u=Value.ref a:=rx
 exact BA I1 ea c n l fun u' s2 I2 ru=>⟨v,H1,I2,ru,q⟩
theorem iW (ha:PE X o ta) (hv:PE X value tv) (hs:swapsWith value (some (.Attribute o f pos')) pos.line X.env=pure false):PS X (.Assign [.Attribute o f pos'] value pos) (xT X.K ta tv f):=by
 intro pins s σ H D I h
 refine plainObj_wpAny_Assign_Attribute (thn (hv pins s σ H _ I h) fun u s1 ⟨y,H1,I1,ry,q⟩=>thn (ha pins s1 σ H1 _ I1 q) fun ov s2 ⟨x,H2,I2,rx,a,C,dx,fs,ex,ea,c,n,l,q2⟩=>?_) hs
 subst ex
 obtain rfl:ov=Value.ref a:=rx
 exact xk I2 ea c n l ry fun s3 I3=>⟨σ,_,I3,q2⟩
theorem CY {pl:Sem Bool}{m:Str}{apos:Pos}{args:List Expr}{pins:List (Addr×Obj)}{s:Shared}{σ:St}{H:Hp}{Q:Qq}{te:TE}(he:PE X e te) (I:Inv X pins σ H s)
 (h:te σ H fun x H1=>∃a C dx fs g,x=.ref a/\H1 a=some (.ins C dx fs)/\Cls X.K C/\cF X.K C m g/\fs.lookup m=none /\
  ∀s1,Inv X pins σ H1 s1->wpAny (model X.prog X.w) X.A (callWith pos (.ref g) [.ref a] (backTo pos (starEach args X.env)) (backToKw pos (keywordEach [] X.env))) Q X.xe s1)
 (ht:eval (.Call (.Attribute e m apos) args [] pos) X.env=(do
  let ov <- eval e X.env
  standAt apos.atName
  let (f,first) <- holding [ov] (getMethod ov m pl)
  callWith pos f first (backTo pos (starEach args X.env)) (backToKw pos (keywordEach [] X.env)))):
 wpAny (model X.prog X.w) X.A (eval (.Call (.Attribute e m apos) args [] pos) X.env) Q X.xe s:=by
 refine PySem.W.methodCall_KW (pl:=pl) (thn (he pins s σ H _ I h) fun u s1 ⟨x,H1,I1,rx,a,C,dx,fs,g,ex,ea,c,k,l,q⟩=>?_) ht
 subst ex
 obtain rfl:u=Value.ref a:=rx
 exact tP I1 ea c k l (q s1 I1)
end
section
variable {X:Cx}{pins:List (Addr×Obj)}{σ:St}{H:Hp}{s:Shared}{A:Around}{E:Qq}{Q:Qq}{c:Value}{b:Bool}
inductive cu (K:PySem.W.Frag) (H:Hp):V->Value->Prop where
 |non:cu K H .non (.type "NoneType")
 |bl (x:Bool):cu K H (.bl x) (.type "bool")
 |int (i:Int):cu K H (.int i) (.type "int")
 |str (x:Str):cu K H (.str x) (.type "str")
 |flt (x:UInt64):cu K H (.flt x) (.type "float")
 |lst {a:Addr}{xs:List V}(e:H a=some (.lst xs)):cu K H (.ref a) (.type "list")
 |frz {a:Addr}{o:Obj}{xs:List V}(e:H a=some (.frz o (.lst xs))):cu K H (.ref a) (.type "list")
 |tup {a:Addr}{xs:List V}(e:H a=some (.tup xs)):cu K H (.ref a) (.type "tuple")
 |dK {a:Addr}{kvs:List (Key×V)}(e:H a=some (.dK kvs)):cu K H (.ref a) (.type "dict")
 |dT {a:Addr}{kvs:List (List Key×V)}(e:H a=some (.dT kvs)):cu K H (.ref a) (.type "dict")
 |ins {a C dx:Addr}{fs:List (Str×V)}(e:H a=some (.ins C dx fs)) (cl:Cls K C) (ha:PySem.W.findIn K (.ref C) "__class__"=some (some (.builtin "object.__class__")))
  (hn:PySem.W.specialIn K (.builtin "object.__class__") "__get__"=some (some (.builtin "getset_descriptor.__get__"))) (htk:PySem.W.takesIn K (.builtin "object.__class__")=some true)
  (hm:PySem.W.mroIn K C (.type "object")=some true):cu K H (.ref a) (.ref C)
theorem Be {x:V}{u t:Value}(I:Inv X pins σ H s) (rx:ay x u) (ty:cu X.K H x t) (e:PySem.W.kitOne X.K t c=some b) (h:∀tk,Q (.bool b) { s with toks:=tk }):
 wpAny (model X.prog X.w) A (call (.builtin "isinstance") [u,c]) Q E s:=by
 cases ty with
 |non=>cases(show u=Value.none from rx);exact PySem.W.kia_one PySem.W.kitx_none I.kIn True.intro e (fun z=>nomatch z) h
 |bl y=>cases(show u=Value.bool y from rx);exact PySem.W.kia_one PySem.W.kitx_bool I.kIn True.intro e (fun z=>nomatch z) h
 |int i=>obtain⟨t,q⟩:=(show ∃t,u=Value.int i t from rx);cases q;exact PySem.W.kia_one PySem.W.kitx_int I.kIn True.intro e (fun z=>nomatch z) h
 |str y=>obtain⟨t,q⟩:=(show ∃t,u=Value.str y t from rx);cases q;exact PySem.W.kia_one PySem.W.kitx_str I.kIn True.intro e (fun z=>nomatch z) h
 |flt y=>obtain⟨t,q⟩:=(show ∃t,u=Value.float y t from rx);cases q;exact PySem.W.kia_one PySem.W.kitx_float I.kIn True.intro e (fun z=>nomatch z) h
 |@lst a xs ea=>
  cases(show u=Value.ref a from rx)
  obtain⟨_,_,n,_,h1⟩:=(show bb X.prog X.w H s.heap a (.lst xs)from I.hok a _ ea)
  exact PySem.W.kia_one PySem.W.kitx_list I.kIn ⟨_,h1,rfl⟩ e (fun z=>nomatch z) h
 |@frz a ob xs ea=>
  cases(show u=Value.ref a from rx)
  obtain⟨_,_,_,n,_,h1⟩:=(show bb X.prog X.w H s.heap a (.frz ob (.lst xs))from I.hok a _ ea)
  exact PySem.W.kia_one PySem.W.kitx_list I.kIn ⟨_,h1,rfl⟩ e (fun z=>nomatch z) h
 |@tup a xs ea=>
  cases(show u=Value.ref a from rx)
  obtain⟨_,_,_,p⟩:=(show bb X.prog X.w H s.heap a (.tup xs)from I.hok a _ ea)
  obtain⟨o,h1,h2,_⟩:=p
  exact PySem.W.kia_one PySem.W.kitx_tuple I.kIn ⟨o,h1,h2⟩ e (fun z=>nomatch z) h
 |@dK a kvs ea=>
  cases(show u=Value.ref a from rx)
  obtain⟨_,_,vs,_,p⟩:=(show bb X.prog X.w H s.heap a (.dK kvs)from I.hok a _ ea)
  obtain⟨o,es,ep,h1,h2,_⟩:=p
  exact PySem.W.kia_one PySem.W.kitx_dict I.kIn ⟨o,h1,h2.1⟩ e (fun z=>nomatch z) h
 |@dT a kvs ea=>
  cases(show u=Value.ref a from rx)
  obtain⟨_,_,xs,_,o,es,ep,h1,h2,_⟩:=(show bb X.prog X.w H s.heap a (.dT kvs)from I.hok a _ ea)
  exact PySem.W.kia_one PySem.W.kitx_dict I.kIn ⟨o,h1,h2.1⟩ e (fun z=>nomatch z) h
 |@ins a C dx fs ea cl ha hn htk hm=>
  cases(show u=Value.ref a from rx)
  obtain⟨mA,O,_⟩:=jh I.hok ea
  obtain⟨od,J,_⟩:=O.look
  exact PySem.W.kia_one (PySem.W.kitx_own (cl.get _) cl.hd ha hn htk hm) I.kIn J e (fun z=>nomatch z) h
end
structure br (k:Nat) (A:Around):Prop where
 hd:A.handled=none
 dp:A.depth+3 * k+5<recursionLimit
 un:A.units+16 * k+200<cLine
 gd:A.guards=some []
theorem br.mono {j k:Nat}{A:Around}(r:br k A) (h:j<=k):br j A:=⟨r.hd,by have:=r.dp;omega,by have:=r.un;omega,r.gd⟩
theorem br.deeper {k:Nat}{A:Around}(r:br (k+1) A) (env:Env):br k (A.deeper env):=
 ⟨r.hd,by have:=r.dp;show A.depth+1+3 * k+5<_;omega,by have:=r.un;show A.units+3+16 * k+200<_;omega,r.gd⟩
theorem AE {A:Around}{C:Addr}{us:List Value}{kw:List (Str×Value)}:(A.under (.builtin "type.__call__" ⟨.ref C::us,kw⟩)).depth=A.depth+1:=by
 first|rfl|simp[Around.under,Code.weight,Code.isCreation,Code.isGuard,Code.isCaller,Code.frames,Code.isFrame,guardIds]
theorem AB {A:Around}{C:Addr}{us:List Value}{kw:List (Str×Value)}:(A.under (.builtin "type.__call__" ⟨.ref C::us,kw⟩)).units=A.units+1:=by
 first|rfl|simp[Around.under,Code.cUnits,Code.frames,Code.isFrame]
theorem AD {A:Around}{C:Addr}{us:List Value}{kw:List (Str×Value)}:(A.under (.builtin "type.__call__" ⟨.ref C::us,kw⟩)).guards=A.guards:=by
 first|rfl|simp[Around.under,Code.guards,Code.isGuard,guardIds,Around.pushGuards]
theorem br.make {k:Nat}{A:Around}(r:br (k+1) A) (C:Addr) (us:List Value) (kw:List (Str×Value)):br k (A.under (.builtin "type.__call__" ⟨.ref C::us,kw⟩)):=
 ⟨r.hd,by have:=r.dp;rw[AE];omega,by have:=r.un;rw[AB];omega,by rw[AD];exact r.gd⟩
theorem br.depth {k:Nat}{A:Around}(r:br k A):A.depth<recursionLimit:=by have:=r.dp;omega
theorem br.units {k:Nat}{A:Around}(r:br k A):A.units+64<cLine:=by have:=r.un;omega
def oh:TA:=fun _ H Q=>Q [] H
def wB (ta:TE) (tr:TA):TA:=fun σ H Q=>ta σ H fun x H1=>tr σ H1 fun xs H2=>Q (x::xs) H2
section
variable {X:Cx}{e:Expr}{es:List Expr}{te:TE}{t:TA}{pos:Pos}
theorem ad:PA X [] oh:=fun _ _ _ _ H Q I h=>Calls.spliced_nil ⟨[],H,I,.nil,h⟩
theorem a8 (ha:PE X e te) (hr:PA X es t) (hs:starEach (e::es) X.env=(false,eval e X.env)::starEach es X.env:=by rfl):PA X (e::es) (wB te t):=by
 intro pos pins s σ H Q I h
 rw[hs]
 show wpAny _ _ (spliced ((false,eval e X.env)::backTo pos (starEach es X.env))) _ _ s
 refine Calls.spliced_cons (thn (ha pins s σ H _ I h) fun u s1 ⟨x,H1,I1,r1,q1⟩=>?_)
 exact thn (hr pos pins s1 σ H1 _ I1 q1) fun us s2 ⟨xs,H2,I2,r2,q2⟩=>⟨x::xs,H2,I2,.cons r1 r2,q2⟩
def jO (t:TA):TE:=fun σ H Q=>t σ H fun xs H1=>xs.length<=sizeLine/\∀p,H1 p=none->Q (.ref p) (upd H1 p (.tup xs))
def jQ (t:TA):TE:=fun σ H Q=>t σ H fun xs H1=>xs.length<=sizeLine/\∀p,H1 p=none->Q (.ref p) (upd H1 p (.lst xs))
theorem yM {x1}(h:PA X es t):PE X (.Tuple es x1 pos) (jO t):=by
 intro pins s σ H Q I hq
 refine wpAny_Tuple_spliced (thn (h pos pins s σ H _ I hq) fun us s1 ⟨xs,H1,I1,r,z,q⟩=>⟨by rw[<- r.length];exact z,?_⟩)
 have hf:H1 s1.heap.objs.size=none:=I1.hok.fresh (qd _)
 refine⟨.ref s1.heap.objs.size,upd H1 s1.heap.objs.size (.tup xs),I1.laid (t':=s1.toks) (fun b u e=>q9 _ e) (qd _) ?_,rfl,q _ hf⟩
 exact⟨z,us,r,⟨_,qo _ rfl,rfl,_,rfl⟩⟩
theorem yP (h:PA X es t):PE X (.List es pos) (jQ t):=by
 intro pins s σ H Q I hq
 refine wpAny_List_spliced (thn (h pos pins s σ H _ I hq) fun us s1 ⟨xs,H1,I1,r,z,q⟩=>⟨by rw[<- r.length];exact z,?_⟩)
 have hf:H1 s1.heap.objs.size=none:=I1.hok.fresh (qd _)
 refine⟨.ref s1.heap.objs.size,upd H1 s1.heap.objs.size (.lst xs),I1.laid (t':=s1.toks) (fun b u e=>q9 _ e) (qd _) ?_,rfl,q _ hf⟩
 exact⟨z,us,0,r,qo _ rfl⟩
end
abbrev Sp:=List V->Hp->VK->XK->Prop
abbrev CXT:=List Env->Hp->Shared->XK->Value->Shared->Prop
structure f7 (P:Program) (w:World) (K:PySem.W.Frag) (mg:Str->Option Value) (base:Heap) (A:Around) (outer:List Env) (s:Shared) (H:Hp):Prop where
 frames:A.frames=some outer
 mod:Mod K mg base
 bs:∀b o,base.get? b=some o->s.heap.get? b=some o/\H b=none
 bsz:base.objs.size<=s.heap.objs.size
 funs:s.heap.FunFrames base outer
 frf:∀b∈frs outer,H b=none
 hok:HOk P w H s.heap
 bare:AllBare s.gens
def CE (outer:List Env) (P:Program) (w:World) (H:Hp) (s:Shared) (Q:VK) (u:Value) (s':Shared):Prop:=
 ∃v H',s'.os=s.os/\AllBare s'.gens/\Un (frs outer) [] H H' s.heap s'.heap/\HOk P w H' s'.heap/\ay v u/\Q v H'
def CR (CX:CXT) (outer:List Env) (P:Program) (w:World) (H:Hp) (s:Shared) (Q:VK) (E:XK) (r:Result) (s':Shared):Prop:=
 match r with
 |.ok (.ret u)=>CE outer P w H s Q u s'
 |.ok _=>False
 |.error e=>CX outer H s E e s'
structure aD (P:Program) (w:World) (K:PySem.W.Frag) (mg:Str->Option Value) (base:Heap) (CX:CXT) (k:Nat) (f:Addr) (fd:FuncData) (ps:List Str) (sp:Sp):Prop where
 len:∀vs H Q E,sp vs H Q E->vs.length=ps.length
 run:∀(A:Around) (outer:List Env) (s:Shared) (H:Hp) (args:Args) (us:List Value) (vs:List V) (Q:VK) (E:XK),br k A->f7 P w K mg base A outer s H->BindsTo s fd args (ps.zip us)->au vs us->sp vs H Q E->
  codeAny (model P w) A (.call (.ref f) args) (CR CX outer P w H s Q E) s
theorem aD.mono {P:Program}{w:World}{K:PySem.W.Frag}{mg:Str->Option Value}{base:Heap}{CX:CXT}{j k:Nat}{f:Addr}{fd:FuncData}{ps:List Str}{sp:Sp}(F:aD P w K mg base CX j f fd ps sp) (h:j<=k):
 aD P w K mg base CX k f fd ps sp:=⟨F.len,fun A outer s H args us vs Q E hr=>F.run A outer s H args us vs Q E (hr.mono h)⟩
theorem f7.make {P:Program}{w:World}{K:PySem.W.Frag}{mg:Str->Option Value}{base:Heap}{A:Around}{outer:List Env}{s:Shared}{H:Hp}(e:f7 P w K mg base A outer s H) (C:Addr) (us:List Value) (kw:List (Str×Value)):
 f7 P w K mg base (A.under (.builtin "type.__call__" ⟨.ref C::us,kw⟩)) outer s H:=⟨by first|exact e.frames|(simpa[Around.under,Code.envs,Code.isFrame,pushEnvs]using e.frames),e.mod,e.bs,e.bsz,e.funs,e.frf,e.hok,e.bare⟩
section
variable {X:Cx}{pins:List (Addr×Obj)}{σ:St}{H:Hp}{s s':Shared}
theorem Inv.env0 (I:Inv X pins σ H s):f7 X.prog X.w X.K X.mg X.base X.A X.stack s H:=
 ⟨I.ok.frames,I.ok.mod,I.bs,qx I.ok.bsz I.sz,I.stack,I.stkFree,I.hok,I.bare⟩
theorem Inv.after {Q:VK}{u:Value}(I:Inv X pins σ H s) (h:CE X.stack X.prog X.w H s Q u s'):EP X pins σ Q u s':=by
 obtain⟨v,H',os,bare,un,hok,r,q⟩:=h
 obtain⟨hh,g,d,t,os'⟩:=s'
 obtain rfl:os'=s.os:=os
 exact⟨v,H',I.call (h':=hh) (g':=g) (d':=d) (t':=t) (ch:=[]) un hok bare (fun b z=>absurd z (by simp)),r,q⟩
end
def wC (sp:Sp) (dvs:List V) (E:XK) (t:TA):TE:=fun σ H Q=>t σ H fun vs H1=>sp (vs++dvs) H1 Q E
def wo (C:Addr) (m:Str) (sp:Sp) (dvs:List V) (E:XK) (ta:TE) (t:TA):TE:=fun σ H Q=>ta σ H fun x H1=>∃a dx fs,x=.ref a/\H1 a=some (.ins C dx fs)/\fs.lookup m=none /\
 t σ H1 fun vs H2=>sp (x::(vs++dvs)) H2 Q E
def wq (C:Addr) (sp:Sp) (dvs:List V) (E:XK) (t:TA):TE:=fun σ H Q=>t σ H fun vs H1=>∀x dx,H1 x=none->H1 dx=none->dx≠x->
 sp (.ref x::(vs++dvs)) (upd (upd H1 dx (.own x)) x (.ins C dx [])) (fun v H2=>v=.non/\Q (.ref x) H2) E
def aG (K:PySem.W.Frag) (fd:FuncData) (ps:List Str) (ds:List Value):Prop:=
 ∀(s:Shared) (us:List Value),K.In s.heap->(us++ds).length=ps.length->BindsTo s fd ⟨us,[]⟩ (ps.zip (us++ds))
theorem aG.all {K:PySem.W.Frag}{fd:FuncData}{ps:List Str}(h:∀us:List Value,us.length=ps.length->bindArgs fd ⟨us,[]⟩=pure (ps.zip us)):aG K fd ps []:=fun s us _ hl=>by
 rw[qw]at hl ⊢
 exact .of_eq (h us hl)
def gc (CX:CXT) (X:Cx) (E:XK):Prop:=∀(pins:List (Addr×Obj)) (σ:St) (H:Hp) (s:Shared) (e:Value) (s':Shared),Inv X pins σ H s->CX X.stack H s E e s'->X.xe e s'
section
variable {X:Cx}{CX:CXT}{k:Nat}{f C:Addr}{fd:FuncData}{ps:List Str}{sp:Sp}{dvs:List V}{ds:List Value}{E:XK}{x m:Str}{p pos apos:Pos}{e o:Expr}{es:List Expr}{ta:TE}{t:TA}
theorem pW {pins:List (Addr×Obj)}{σ:St}{H:Hp}{s:Shared}{Q:VK}{us:List Value}{vs:List V}(F:aD X.prog X.w X.K X.mg X.base CX k f fd ps sp) (hr:br k X.A) (hb:aG X.K fd ps ds) (hd:au dvs ds) (hx:gc CX X E)
 (I:Inv X pins σ H s) (r:au vs us) (h:sp (vs++dvs) H Q E):wpAny (model X.prog X.w) X.A (call (.ref f) us) (EP X pins σ Q) X.xe s:=by
 have r2:au (vs++dvs) (us++ds):=r.append hd
 have hl:(us++ds).length=ps.length:=by rw[<- r2.length];exact F.len _ _ _ _ h
 refine wpAny_call (codeAny_mono (F.run X.A X.stack s H ⟨us,[]⟩ (us++ds) (vs++dvs) Q E hr I.env0 (hb s us I.kIn hl) r2 h) fun r s' hq=>?_)
 cases r with
 |error e=>exact hx pins σ H s e s' I hq
 |ok fl=>
  cases fl with
  |ret u=>exact I.after hq
  |next=>exact False.elim hq
  |brk=>exact False.elim hq
  |cont=>exact False.elim hq
theorem aB (F:aD X.prog X.w X.K X.mg X.base CX k f fd ps sp) (hr:br k X.A) (hg:Gl X x) (hm:X.mg x=some (.ref f)) (hk:PySem.W.keepIn X.K (.ref f)=true) (hb:aG X.K fd ps ds) (hd:au dvs ds) (hx:gc CX X E)
 (ha:PA X (e::es) t) (hdb:(x == ("__debug__":Str))=false:=by decide) (he:starEach (e::es) X.env=(false,eval e X.env)::starEach es X.env:=by rfl) (hpl:(backTo pos (starEach es X.env)).any (·.1)=false:=by rfl):
 PE X (.Call (.Name x p) (e::es) [] pos) (wC sp dvs E t):=by
 intro pins s σ H Q I h
 refine wpAny_Call_Name_kw (mF I hg hm ?_ hdb)
 refine PySem.W.callWith_K (h₀:=X.base) I.ok.mod.kin hk (thn (ha pos pins s σ H _ I h) fun us s1 ⟨vs,H1,I1,r,q⟩=>⟨I1.kIn,?_⟩) he hpl
 exact pW F hr hb hd hx I1 r q
theorem aQ {pl:Sem Bool}(he:PE X o ta) (c:Cls X.K C) (hm:cF X.K C m f) (F:aD X.prog X.w X.K X.mg X.base CX k f fd ps sp) (hr:br k X.A) (hb:aG X.K fd ps ds) (hd:au dvs ds) (hx:gc CX X E) (ha:PA X (e::es) t)
 (hst:starEach (e::es) X.env=(false,eval e X.env)::starEach es X.env:=by rfl) (hpl:(backTo pos (starEach es X.env)).any (·.1)=false:=by rfl)
 (ht:eval (.Call (.Attribute o m apos) (e::es) [] pos) X.env=(do
  let ov <- eval o X.env
  standAt apos.atName
  let (f,first) <- holding [ov] (getMethod ov m pl)
  callWith pos f first (backTo pos (starEach (e::es) X.env)) (backToKw pos (keywordEach [] X.env))):=by rfl):
 PE X (.Call (.Attribute o m apos) (e::es) [] pos) (wo C m sp dvs E ta t):=by
 intro pins s σ H Q I h
 refine PySem.W.methodCall_KW (pl:=pl) (thn (he pins s σ H _ I h) fun u s1 ⟨x,H1,I1,rx,a,dx,fs,ex,ea,l,q⟩=>?_) ht
 subst ex
 obtain rfl:u=Value.ref a:=rx
 refine tP I1 ea c hm l ?_
 refine PySem.W.callWith_K (first:=[.ref a]) (h₀:=X.base) I.ok.mod.kin hm.kp (thn (ha pos pins s1 σ H1 _ I1 q) fun us s2 ⟨vs,H2,I2,r,q2⟩=>⟨I2.kIn,?_⟩) hst hpl
 exact pW (us:=.ref a::us) (vs:=.ref a::vs) F hr hb hd hx I2 (.cons rfl r) q2
structure Mk (K:PySem.W.Frag) (C f:Addr):Prop where
 makes:PySem.W.makesIn K C=true
 init:PySem.W.findIn K (.ref C) "__init__"=some (some (.ref f))
 fn:PySem.W.isFn K (.ref f)=true
 kp:PySem.W.keepIn K (.ref C)=true
theorem xV {pins:List (Addr×Obj)}{σ:St}{H:Hp}{s:Shared}{Q:VK}{us:List Value}{vs:List V}(M:Mk X.K C f) (F:aD X.prog X.w X.K X.mg X.base CX k f fd ps sp) (hr:br (k+1) X.A) (hb:aG X.K fd ps ds) (hd:au dvs ds)
 (hx:gc CX X E) (I:Inv X pins σ H s) (r:au vs us)
 (h:∀x dx,H x=none->H dx=none->dx≠x->sp (.ref x::(vs++dvs)) (upd (upd H dx (.own x)) x (.ins C dx [])) (fun v H2=>v=.non/\Q (.ref x) H2) E):
 wpAny (model X.prog X.w) X.A (call (.ref C) us) (EP X pins σ Q) X.xe s:=by
 have hq:=h (s.heap.objs.size+1) s.heap.objs.size (I.hok.fresh (Nat.le_succ _)) (I.hok.fresh (qd _)) (qF (Nat.lt_succ_self _))
 have I2:=Inv.made (C:=C) I
 have r2:au (V.ref (s.heap.objs.size+1)::(vs++dvs)) (Value.ref (s.heap.objs.size+1)::(us++ds)):=.cons rfl (r.append hd)
 have hl:(Value.ref (s.heap.objs.size+1)::us++ds).length=ps.length:=by
  have e:=r2.length
  rw[F.len _ _ _ _ hq]at e
  exact e.symm
 refine wpAny_call (AC (f:=f) I.kIn M.makes M.init (beq_iff_eq.mp M.fn) (codeAny_mono (F.run _ X.stack _ _ ⟨Value.ref (s.heap.objs.size+1)::us,[]⟩ (Value.ref (s.heap.objs.size+1)::(us++ds)) _ _ E (hr.make C us [])
  (I2.env0.make C us []) (hb _ (Value.ref (s.heap.objs.size+1)::us) I2.kIn hl) r2 hq) fun r s' hq'=>?_))
 cases r with
 |error e=>exact hx pins σ _ _ e s' I2 hq'
 |ok fl=>
  cases fl with
  |ret u=>
   obtain⟨v,H',I3,rv,ev,q3⟩:=I2.after hq'
   subst ev
   exact⟨rv,⟨V.ref (s.heap.objs.size+1),H',I3,rfl,q3⟩⟩
  |next=>exact False.elim hq'
  |brk=>exact False.elim hq'
  |cont=>exact False.elim hq'
theorem yO (M:Mk X.K C f) (F:aD X.prog X.w X.K X.mg X.base CX k f fd ps sp) (hr:br (k+1) X.A) (hg:Gl X x) (hm:X.mg x=some (.ref C)) (hb:aG X.K fd ps ds) (hd:au dvs ds) (hx:gc CX X E)
 (hdb:(x == ("__debug__":Str))=false:=by decide):PE X (.Call (.Name x p) [] [] pos) (wq C sp dvs E oh):=by
 intro pins s σ H Q I h
 refine wpAny_Call_Name_kw (mF I hg hm ?_ hdb)
 exact PySem.W.callWith_K0 I.kIn M.kp (xV (us:=[]) M F hr hb hd hx I .nil h)
end
section
variable {X:Cx}{CX:CXT}{k:Nat}{f C:Addr}{fd:FuncData}{ps ks:List Str}{sp:Sp}{E:XK}{x m:Str}{p pos apos kpos:Pos}{e o:Expr}{es:List Expr}{kws:List Keyword}{te ta:TE}{t tk:TA}{nm:Option Str}
variable {g:List Value->List Value->List Value}{gV:List V->List V->List V}
end
structure aN (N P:List Str) (sc:Scope):Prop where
 kind:sc.kind=.function
 co:sc.isCoroutine=false
 gen:sc.isGenerator=false
 nd:N.Nodup
 pre:N.take P.length=P
 par:∀x∈P,sc.names.lookup x=some .local\/sc.names.lookup x=some .cell
 nofree:∀y∈sc.names,y.2≠.free
theorem uQ {kindOf:Str->Option NameKind}{x:Str}:∀{binds:List (Str×Value)}{m:Str->Option Value},(∀v,(x,v)∉binds)->bindL kindOf binds m x=m x
 |[],_,_=>rfl
 |(n,v)::r,m,h=>by
  unfold bindL
  rw[uQ fun w hw=>h w (qj _ hw)]
  split
  ·have:x≠n:=by rintro rfl;exact h v qk
   simp[this]
  ·rfl
theorem uS {kindOf:Str->Option NameKind}{x:Str}:∀{binds:List (Str×Value)}{m:Str->Option Value},(∀v,(x,v)∉binds)->bindC kindOf binds m x=m x
 |[],_,_=>rfl
 |(n,v)::r,m,h=>by
  unfold bindC
  rw[uS fun w hw=>h w (qj _ hw)]
  split
  ·rfl
  ·have:x≠n:=by rintro rfl;exact h v qk
   simp[this]
theorem uR {kindOf:Str->Option NameKind}{x:Str}{v:Value}:∀{P:List Str}{vs:List Value}{i:Nat}{m:Str->Option Value},P.Nodup->P[i]?=some x->vs[i]?=some v->kindOf x=some .local->
 bindL kindOf (P.zip vs) m x=some v
 |[],_,_,_,_,h,_,_=>by simp at h
 |_::_,[],_,_,_,_,h,_=>by simp at h
 |p::P,w::vs,0,m,nd,h1,h2,hk=>by
  simp at h1 h2;subst h1;subst h2
  show bindL kindOf ((p,w)::P.zip vs) m p=_
  unfold bindL
  rw[uQ fun v hv=>(List.nodup_cons.mp nd).1 (List.of_mem_zip hv).1,Q0 hk]
  simp
 |p::P,w::vs,i+1,m,nd,h1,h2,hk=>by
  show bindL kindOf ((p,w)::P.zip vs) m x=_
  unfold bindL
  exact uR (i:=i) (List.nodup_cons.mp nd).2 (by simpa using h1) (by simpa using h2) hk
theorem uT {kindOf:Str->Option NameKind}{x:Str}{v:Value}:∀{P:List Str}{vs:List Value}{i:Nat}{m:Str->Option Value},P.Nodup->P[i]?=some x->vs[i]?=some v->kindOf x≠some .local->
 bindC kindOf (P.zip vs) m x=some v
 |[],_,_,_,_,h,_,_=>by simp at h
 |_::_,[],_,_,_,_,h,_=>by simp at h
 |p::P,w::vs,0,m,nd,h1,h2,hk=>by
  simp at h1 h2;subst h1;subst h2
  show bindC kindOf ((p,w)::P.zip vs) m p=_
  unfold bindC
  rw[uS fun v hv=>(List.nodup_cons.mp nd).1 (List.of_mem_zip hv).1,qZ hk]
  simp
 |p::P,w::vs,i+1,m,nd,h1,h2,hk=>by
  show bindC kindOf ((p,w)::P.zip vs) m x=_
  unfold bindC
  exact uT (i:=i) (List.nodup_cons.mp nd).2 (by simpa using h1) (by simpa using h2) hk
def dO (N:List Str) (vs:List V):St:=vs.map some++List.replicate (N.length-vs.length) none
def fU (CX:CXT) (P:Program) (w:World) (K:PySem.W.Frag) (mg:Str->Option Value) (base:Heap) (N:List Str) (qual:Str) (scope:Scope) (f:Addr) (cd:Value) (A:Around) (outer:List Env) (s:Shared) (H:Hp) (E:XK):Cx where
 prog:=P
 w:=w
 K:=K
 mg:=mg
 base:=base
 A:=A.deeper (envOfC qual scope s.heap.objs.size f cd)
 N:=N
 s₀:=s
 H₀:=H
 env:=envOfC qual scope s.heap.objs.size f cd
 outer:=outer
 stack:=envOfC qual scope s.heap.objs.size f cd::outer
 ex:=[]
 calm:=true
 fn:=fun _=>true
 pn:=[]
 xe:=fun e s'=>wpAny (model P w) (A.deeper (envOfC qual scope s.heap.objs.size f cd)) (leaving (envOfC qual scope s.heap.objs.size f cd) e) (fun _ s''=>CX outer H s E e s'') (fun e' s''=>CX outer H s E e' s'') s'
theorem uH {sc:Scope}{n:Nat}{x:Str}(h:sc.names.lookup x=some .cell):∃c,(cellsFrom n sc.names []).lookup x=some c:=by
 have q:=PySem.W.cellsFrom_some sc.names n [] (.inl h)
 exact Option.isSome_iff_exists.mp q
theorem Bg {CX:CXT}{P:Program}{w:World}{K:PySem.W.Frag}{mg:Str->Option Value}{base:Heap}{N ps:List Str}{qual:Str}{scope:Scope}{f:Addr}{cd:Value}{A:Around}{outer:List Env}{s s1:Shared}{H:Hp}{E:XK}{us:List Value}{vs:List V}
 (S:aN N ps scope) (hd:A.handled=none) (e0:f7 P w K mg base A outer s H) (hl:vs.length=ps.length) (r:au vs us)
 (x:InCallC s s.heap.objs.size (bindL (envOfC qual scope s.heap.objs.size f cd).kindOf (ps.zip us) fun _=>none) (cellsFrom (s.heap.objs.size+1) scope.names []) (bindC (envOfC qual scope s.heap.objs.size f cd).kindOf (ps.zip us) fun _=>none) s1):
 Inv (fU CX P w K mg base N qual scope f cd A outer s H E) [] (dO N vs) H s1:=by
 have hpl:ps.length<=N.length:=by have:=congrArg List.length S.pre;rw[qJ]at this;omega
 obtain⟨h1,tk,rfl,hk⟩:=x.done
 have noA:∀b:Addr,b∉(fU CX P w K mg base N qual scope f cd A outer s H E).ex:=fun b z=>absurd (show b∈([]:List Addr)from z) (by simp)
 refine⟨⟨e0.mod,S.kind,rfl,rfl,qd _,fun y z c h1 h2=>?_,fun y hy=>?_,fun y c _ h=>?_,fun _=>hd,Around.frames_deeper e0.frames,.inr ⟨rfl,rfl⟩,fun b z=>absurd z (noA b),e0.bs,e0.bsz,fun b _ _=>noA b,fun b z=>absurd z (noA b),e0.funs,e0.frf⟩,
  rfl,e0.bare,Un.kept hk,⟨_,x.toInCall.ns,fun i y v h1 h2 h3=>?_⟩,fun y c h=>⟨_,x.cell y c h⟩,e0.hok.fresh (qd _),fun y c h=>?_,fun p hp=>absurd (show p∈([]:List (Addr×Obj))from hp) (by simp),e0.hok.kept hk,?_⟩
 ·exact name_of_addr x.apart (PySem.mem_of_lookup h1) (PySem.mem_of_lookup h2)
 ·have hy:scope.names.lookup y=some .cell\/scope.names.lookup y=some .free:=hy
  rcases hy with hy|hy
  ·exact uH hy
  ·exact absurd rfl (S.nofree _ (PySem.mem_of_lookup hy))
 ·exact Nat.le_of_lt (x.above y c (PySem.mem_of_lookup h))
 ·have hi:i<vs.length:=by
   unfold dO at h2
   by_cases hi:i<vs.length
   ·exact hi
   ·rw[qK (by simpa using hi)]at h2
    rw[List.getElem?_replicate]at h2
    split at h2<;>cases h2
  have ha:vs[i]?=some v:=by
   unfold dO at h2
   rw[List.getElem?_append_left (by simpa using hi),qD]at h2
   cases e:vs[i]? with
   |none=>rw[e]at h2;cases h2
   |some a=>rw[e]at h2;cases h2;rfl
  obtain⟨u,hu,rv⟩:=r.get ha
  have hp:ps[i]?=some y:=by
   rw[<- S.pre,List.getElem?_take_of_lt Qo];exact h1
  have ndP:ps.Nodup:=by rw[<- S.pre];exact S.nd.sublist (List.take_sublist _ _)
  refine⟨u,rv,?_⟩
  rcases S.par y (qy hp)with k|k
  ·exact .inl ⟨k,uR ndP hp hu k⟩
  ·obtain⟨c,e⟩:=uH (n:=s.heap.objs.size+1) k
   refine .inr ⟨.inl k,c,e,?_⟩
   have q:=x.cell y c e
   rw[uT ndP hp hu (by show scope.names.lookup y≠_;rw[k];decide)]at q
   exact q
 ·exact e0.hok.fresh (Nat.le_of_lt (x.above y c (PySem.mem_of_lookup h)))
 ·unfold dO
  show _=N.length
  rw[qa,q5,List.length_replicate]
  omega
theorem BQ {CX:CXT}{P:Program}{w:World}{K:PySem.W.Frag}{mg:Str->Option Value}{base:Heap}{k:Nat}{f:Addr}{name qual:Str}{params:Arguments}{body:List Stmt}{scope:Scope}{dV kV doc pm cdv ct oc:Value}{an od:Option Addr}
 {osl:Array (Option Value)}{N ps:List Str}{sp:Sp}(lk:K.lookup f=some ⟨oc,od,.func (PySem.W.fnOf name qual params body scope dV kV doc pm an cdv ct),osl⟩) (hcd:PySem.W.codeIn K cdv qual=true) (S:aN N ps scope)
 (len:∀vs H Q E,sp vs H Q E->vs.length=ps.length)
 (hbody:∀(A:Around) (outer:List Env) (s:Shared) (H:Hp) (vs:List V) (Q:VK) (E:XK),br k (A.deeper (envOfC qual scope s.heap.objs.size f cdv))->sp vs H Q E->
  ∃t,PSs (fU CX P w K mg base N qual scope f cdv A outer s H E) body t/\t { nx:=fun _ H'=>Q .non H',rt:=Q } (dO N vs) H):
 aD P w K mg base CX (k+1) f (PySem.W.fnOf name qual params body scope dV kV doc pm an cdv ct) ps sp:=by
 refine⟨len,fun A outer s H args us vs Q E hr e0 hb r hsp=>?_⟩
 have hl:=len _ _ _ _ hsp
 have KX:K.In s.heap:=e0.mod.kin.keeps fun b o e=>(e0.bs b o e).1
 have lim:s.heap.NoLimit:=e0.mod.nolimit.keeps fun b o e=>(e0.bs b o e).1
 have hkind:∀y∈ps.zip us,scope.names.lookup y.1=some .local\/(scope.names.lookup y.1=some .cell/\((cellsFrom (s.heap.objs.size+1) scope.names []).lookup y.1).isSome=true):=fun⟨n,v⟩ hy=>by
  rcases S.par n (List.of_mem_zip hy).1 with q|q
  ·exact .inl q
  ·exact .inr ⟨q,PySem.W.cellsFrom_some _ _ _ (.inl q)⟩
 refine codeAny_call_function hr.depth (KX _ _ lk) rfl S.co S.gen rfl (PySem.W.codeRec_of KX hcd) (hb _ _ _ _ ?_)
 refine wpAny_newFunctionEnv_cells S.kind hkind fun env he s1 x=>?_
 subst he
 refine⟨lim.keeps x.toInCall.keep,codeAny_func ?_⟩
 obtain⟨t,ht,hq⟩:=hbody A outer s H vs Q E (hr.deeper _) hsp
 have I:Inv (fU CX P w K mg base N qual scope f cdv A outer s H E) [] (dO N vs) H s1:=Bg S hr.hd e0 hl r x
 refine wpAny_mono (ht [] s1 (dO N vs) H _ I hq) (fun fl s' hs=>?_) fun e s' hs=>hs
 have fin:∀{σ':St}{H':Hp}{v:V}{u:Value},Inv (fU CX P w K mg base N qual scope f cdv A outer s H E) [] σ' H' s'->ay v u->Q v H'->CE outer P w H s Q u s':=
  fun{σ' H' v u} J rv q=>⟨v,H',J.os,J.bare,J.base,J.hok,rv,q⟩
 cases fl with
 |ret u=>
  obtain⟨v,σ',H',J,rv,q⟩:=hs
  exact fin J rv q
 |next=>
  obtain⟨σ',H',J,q⟩:=hs
  exact fin (v:=V.non) (u:=Value.none) J rfl q
 |brk=>
  obtain⟨_,_,_,q⟩:=hs
  exact False.elim q
 |cont=>
  obtain⟨_,_,_,q⟩:=hs
  exact False.elim q
section
variable {X:Cx}{x:Str}{p pos:Pos}{e:Expr}{es:List Expr}{t:TA}{id T:String}{r:List V->Hp->VK->Prop}
def tCB (r:List V->Hp->VK->Prop) (t:TA):TE:=fun σ H Q=>t σ H fun vs H1=>r vs H1 Q
theorem aV (hc:bF X (.builtin id) r) (hg:Gl X x) (hm:X.mg x=none) (hv:bootBuiltins x=some (.builtin id)) (ha:PA X (e::es) t) (hn:x≠"__name__":=by decide) (hdb:(x == ("__debug__":Str))=false:=by decide)
 (he:starEach (e::es) X.env=(false,eval e X.env)::starEach es X.env:=by rfl) (hpl:(backTo pos (starEach es X.env)).any (·.1)=false:=by rfl):PE X (.Call (.Name x p) (e::es) [] pos) (tCB r t):=by
 intro pins s σ H Q I h
 refine wpAny_Call_Name_kw (eP I hg hm hv ?_ hn hdb)
 exact PyProof.Rows.callWith_builtin1 (thn (ha pos pins s σ H _ I h) fun us s1 ⟨vs,H1,I1,r1,q1⟩=>hc pins s1 σ H1 vs us Q I1 r1 q1) he hpl
theorem cj (hc:bF X (.type T) r) (hg:Gl X x) (hm:X.mg x=none) (hv:bootBuiltins x=some (.type T)) (ha:PA X (e::es) t) (hn:x≠"__name__":=by decide) (hdb:(x == ("__debug__":Str))=false:=by decide)
 (he:starEach (e::es) X.env=(false,eval e X.env)::starEach es X.env:=by rfl) (hpl:(backTo pos (starEach es X.env)).any (·.1)=false:=by rfl):PE X (.Call (.Name x p) (e::es) [] pos) (tCB r t):=by
 intro pins s σ H Q I h
 refine wpAny_Call_Name_kw (eP I hg hm hv ?_ hn hdb)
 exact PyProof.Rows.callWith_type1 (thn (ha pos pins s σ H _ I h) fun us s1 ⟨vs,H1,I1,r1,q1⟩=>hc pins s1 σ H1 vs us Q I1 r1 q1) he hpl
end
end L2
namespace HT
open PySem PyProof.Rows
section
open PySem.SeqAt
open PySem.AutoSeq1 (wpAny_loadPart')
open PySem.MeetsSeq PySem.MeetsSeq2 PySem.MeetsSeq3
end
section
variable {prog:Program}{w:World}{A:Around}{E:Qq}{s:Shared}
theorem cat_tup {t b:Addr}{vs ws:List Value}{Q:Qq}(ht:IsTup s.heap t vs.toArray) (hb:IsTup s.heap b ws.toArray) (hv:vs≠[])
 (h1:ws=[]->Q (.ref t) s) (h2:ws≠[]->Q (.ref s.heap.objs.size) { s with heap:=s.heap.push { cls:=.type "tuple",data:=.seq (vs++ws).toArray } })
 (hsz:vs.length+ws.length<=sizeLine):wpAny (model prog w) A (binaryOp .Add (.ref t) (.ref b)) Q E s:=by
 obtain⟨⟨cls,dd,data,sl⟩,ho,hc,n,hd⟩:=id ht
 obtain⟨⟨cls2,dd2,data2,sl2⟩,ho2,hc2,n2,hd2⟩:=id hb
 simp only at hc hd hc2 hd2
 subst hc hd hc2 hd2
 have e:vs.toArray++ws.toArray=(vs++ws).toArray:=by simp
 by_cases hw:ws=[]
 ·exact concat_meets ⟨_,ho,rfl⟩ ⟨_,ho2,rfl⟩ noFill_tuple_add seq_tuple_add PySem.F.slot_tuple_add PySem.F.entry_tuple_add (PySem.F.args_tuple_add_2 _ _)
   (tuple_addW1 t b vs.toArray ws.toArray n n2 dd dd2 sl sl2 (by simpa using hv) (by simp[hw])) ⟨ho,ho2,h1 hw⟩
 ·refine concat_meets ⟨_,ho,rfl⟩ ⟨_,ho2,rfl⟩ noFill_tuple_add seq_tuple_add PySem.F.slot_tuple_add PySem.F.entry_tuple_add (PySem.F.args_tuple_add_2 _ _)
   (tuple_addW2 t b vs.toArray ws.toArray n n2 dd dd2 sl sl2 (by simpa using hv) (by simpa using hw) (by rw[qA,qA];exact hsz)) ⟨ho,ho2,?_⟩
  rw[e]
  exact h2 hw
def sIx (n d:Nat):Option Int->Nat
 |none=>d
 |some v=>if v<0 then(v+(n:Int)).toNat else min v.toNat n
theorem sIx_none (n d:Nat):sIx n d none=d:=rfl
theorem sIx_nat (n d k:Nat):sIx n d (some (k:Int))=min k n:=by
 show(if(k:Int)<0 then((k:Int)+(n:Int)).toNat else min (k:Int).toNat n)=min k n
 rw[qZ Qo,qX]
theorem xS (n d:Nat) (hd:d<=n) (o:Option Int):sIx n d o<=n:=by
 cases o with
 |none=>exact hd
 |some v=>
  show(if v<0 then(v+(n:Int)).toNat else min v.toNat n)<=n
  by_cases hv:v<0
  ·rw[Q0 hv];omega
  ·rw[qZ hv];exact Nat.min_le_right _ _
theorem uG (v:Int) (n d:Nat):(if v<0 then max (v+(n:Int)) 0 else min v (n:Int))=((sIx n d (some v):Nat):Int):=by
 show(if v<0 then max (v+(n:Int)) 0 else min v (n:Int))=(((if v<0 then(v+(n:Int)).toNat else min v.toNat n):Nat):Int)
 by_cases hv:v<0
 ·simp only[Q0 hv];omega
 ·simp only[qZ hv];omega
theorem CL (lo hi:Option Int) (n:Nat):Builtin.Slice.sliceAdjust lo hi 1 (n:Int)=(((sIx n 0 lo:Nat):Int),((sIx n n hi:Nat):Int)):=by
 have h1:¬ ((1:Int)<0):=Qo
 unfold Builtin.Slice.sliceAdjust
 simp only[h1,if_false]
 refine Prod.ext ?_ ?_
 ·cases lo with
  |none=>rfl
  |some v=>exact uG v n 0
 ·cases hi with
  |none=>rfl
  |some v=>exact uG v n n
theorem yG (i j:Nat):Builtin.Slice.slicePlaces (i:Int) (j:Int) 1=j-i:=by
 unfold Builtin.Slice.slicePlaces
 have h1:(1:Int) > 0:=Qo
 simp only[h1,if_true,Int.ediv_one]
 split<;>omega
theorem pG {v:Value}{o:Option Int}{Q:Option Int->Shared->Prop}(p:IsPart v o) (h:Q o s):wpAny (model prog w) A (Builtin.Slice.slicePartIndex v) Q E s:=by
 cases p with
 |none=>exact slicePart_none h
 |int i t=>exact slicePart_int h
theorem wY {sl:Addr}{vl vu:Value}{lo hi:Option Int}{n:Nat}{Q:Int×Int×Nat->Shared->Prop}(hs:s.heap.IsSliceOf sl vl vu .none) (pl:IsPart vl lo) (pu:IsPart vu hi)
 (h:Q (((sIx n 0 lo:Nat):Int),1,sIx n n hi-sIx n 0 lo) s):wpAny (model prog w) A (Builtin.Slice.sliceApplied (.ref sl) (pure (n:Int))) Q E s:=by
 obtain⟨os,hos,hcs,hds⟩:=id hs
 unfold Builtin.Slice.sliceApplied Builtin.Slice.sliceFields
 refine q4 (q4 (wpAny_field hos hds (x:=vl) rfl (q4 (wpAny_field hos hds (x:=vu) rfl (q4 (wpAny_field hos hds (x:=.none) rfl (qc ?_)))))))
 refine q4 (slicePart_none ?_)
 show wpAny _ _ (if((1:Int) == 0)=true then _ else _) _ _ s
 rw[qZ Qk]
 refine q4 (pG pl (q4 (pG pu (q4 (qc ?_)))))
 show wpAny _ _ (match Builtin.Slice.sliceAdjust lo hi 1 (n:Int)with|(lo,hi)=>pure (lo,(1:Int),Builtin.Slice.slicePlaces lo hi 1)) _ _ s
 rw[CL lo hi n]
 show wpAny _ _ (pure (((sIx n 0 lo:Nat):Int),(1:Int),Builtin.Slice.slicePlaces ((sIx n 0 lo:Nat):Int) ((sIx n n hi:Nat):Int) 1)) _ _ s
 rw[yG]
 exact qc h
theorem yH (xs:Array Value) (i k:Nat):((List.range k).filterMap fun(m:Nat)=>xs[((i:Int)+(m:Int) * 1).toNat]?).toArray=((xs.toList.drop i).take k).toArray:=by
 have e:(fun(m:Nat)=>xs[((i:Int)+(m:Int) * 1).toNat]?)=fun m=>xs[i+m]?:=by
  funext m
  have:((i:Int)+(m:Int) * 1).toNat=i+m:=Qo
  rw[this]
 rw[e]
 have:=pick_run xs i k
 rw[List.filterMap_map]at this
 have e2:((fun x=>xs[x]?) ∘ fun x=>i+x)=fun m=>xs[i+m]?:=rfl
 rw[e2]at this
 rw[this]
theorem getItem_tuple_cut {t sl:Addr}{items:Array Value}{vl vu:Value}{lo hi:Option Int}{Q:Qq}(ht:IsTup s.heap t items) (hs:s.heap.IsSliceOf sl vl vu .none) (pl:IsPart vl lo) (pu:IsPart vu hi)
 (hw:¬ (sIx items.size 0 lo=0/\sIx items.size items.size hi=items.size))
 (h:Q (.ref s.heap.objs.size) { s with heap:=s.heap.push { cls:=.type "tuple",data:=.seq ((items.toList.drop (sIx items.size 0 lo)).take (sIx items.size items.size hi-sIx items.size 0 lo)).toArray } })
 (hsz:items.size<=sizeLine):wpAny (model prog w) A (getItem (.ref t) (.ref sl)) Q E s:=by
 have htake:sizeOk (.seq ((items.toList.drop (sIx items.size 0 lo)).take (sIx items.size items.size hi-sIx items.size 0 lo)).toArray):=by
  show((items.toList.drop (sIx items.size 0 lo)).take (sIx items.size items.size hi-sIx items.size 0 lo)).toArray.size<=sizeLine
  rw[qA,qJ,qY,qL]
  omega
 have hj:sIx items.size items.size hi<=items.size:=xS _ _ (qd _) hi
 obtain⟨os,hos,hcs,hds⟩:=id hs
 have hTs:s.TypeIs (.ref sl) "slice":=⟨os,hos,hcs⟩
 unfold getItem
 try with_reducible refine wpAny_holding ?_
 first|refine q4 (qc ?_)|skip
 refine q4 (wpAny_sequenceKey ht.typeIs Qk ?_)
 refine q4 (wpAny_callSpecial?_slot (name:=Str.ofString "__getitem__") ht.typeIs PyProof.Rows.slot_tuple_getitem
  (wpAny_call_entry PyProof.Rows.slot_tuple_getitem ht.typeIs entry_tuple_getitem ?_ (args_tuple_getitem _ _)))
 show wpAny _ _ (Builtin.Tuple.tupleItemsOf (.ref t) >>= _) _ _ s
 refine q4 (tupleItemsOf_ ht ?_)
 refine q4 (wpAny_typeOf hTs ?_)
 rw[Q0 Qk]
 refine q4 (wY hs pl pu ?_)
 have hno:¬ ((((sIx items.size 0 lo:Nat):Int) == 0 && (1:Int) == 1 && (sIx items.size items.size hi-sIx items.size 0 lo) == items.size)=true):=by
  intro q
  rw[Bool.and_eq_true,Bool.and_eq_true]at q
  have q1:((sIx items.size 0 lo:Nat):Int)=0:=eq_of_beq q.1.1
  have q2:sIx items.size items.size hi-sIx items.size 0 lo=items.size:=eq_of_beq q.2
  exact hw ⟨Qo,Qo⟩
 show wpAny _ _ (if(((sIx items.size 0 lo:Nat):Int) == 0 && (1:Int) == 1 && (sIx items.size items.size hi-sIx items.size 0 lo) == items.size)=true then _ else _) _ _ s
 rw[qZ hno,yH]
 first
  |exact q4 (m:=Builtin.Tuple.tupleExact _) (wpAny_newObj_type (qc ⟨_,rfl,qc h⟩) htake)
  |exact q4 (m:=Builtin.Tuple.tupleExact _) (wpAny_newObj_type (q4 (qc (qc ⟨_,rfl,qc h⟩))) htake)
  |exact q4 (q4 (m:=Builtin.Tuple.tupleExact _) (wpAny_newObj_type (qc (qc ⟨_,rfl,qc h⟩)) htake))
  |exact q4 (q4 (m:=Builtin.Tuple.tupleExact _) (wpAny_newObj_type (qc ⟨_,rfl,qc h⟩) htake))
end
end HT
namespace L2
open PySem PySem.Spec PyProof.Rows
abbrev TO:=St->Hp->(Option Int->Hp->Prop)->Prop
def PO (X:Cx) (e:Option Expr) (t:TO):Prop:=
 ∀(pins:List (Addr×Obj)) (s:Shared) (σ:St) (H:Hp) (Q:Option Int->Hp->Prop),Inv X pins σ H s->t σ H Q->
  wpAny (model X.prog X.w) X.A (evalPart e X.env) (fun u s'=>∃o H',Inv X pins σ H' s'/\IsPart u o/\Q o H') X.xe s
def wj:TO:=fun _ H Q=>Q none H
def wc (t:TE):TO:=fun σ H Q=>t σ H fun x H1=>∃i,x=.int i/\Q (some i) H1
section
variable {X:Cx}{e:Expr}{te:TE}{lo hi:Option Expr}{tl th:TO}{pos p2:Pos}
theorem lT:PO X none wj:=by
 intro pins s σ H Q I h
 rw[evalPart_none]
 exact qc ⟨none,H,I,.none,h⟩
theorem gI (h:PE X e te):PO X (some e) (wc te):=by
 intro pins s σ H Q I hw
 rw[evalPart_some]
 refine thn (h pins s σ H _ I hw) fun u s1 ⟨x,H1,I1,r1,q1⟩=>?_
 obtain⟨i,rfl,q⟩:=q1
 obtain⟨t,rfl⟩:=r1
 exact⟨some i,H1,I1,.int i t,q⟩
def SlR (X:Cx) (r:V->Option Int->Option Int->Hp->VK->Prop):Prop:=
 ∀(pins:List (Addr×Obj)) (s:Shared) (σ:St) (H:Hp) (x:V) (v vl vu:Value) (lo hi:Option Int) (sl:Addr) (Q:VK),Inv X pins σ H s->ay x v->s.heap.IsSliceOf sl vl vu .none->IsPart vl lo->IsPart vu hi->r x lo hi H Q->
  ∃T id,typeLookup (.type T) "__getitem__"=pure (some (.builtin id))/\s.TypeIs v T/\wpAny (model X.prog X.w) X.A (getItem v (.ref sl)) (EP X pins σ Q) X.xe s
def tSl (r:V->Option Int->Option Int->Hp->VK->Prop) (te:TE) (tl th:TO):TE:=fun σ H Q=>te σ H fun x H1=>tl σ H1 fun l H2=>th σ H2 fun u H3=>r x l u H3 Q
theorem iY {r:V->Option Int->Option Int->Hp->VK->Prop}(hr:SlR X r) (he:PE X e te) (hl:PO X lo tl) (hu:PO X hi th):PE X (.Subscript e (.Slice lo hi none p2) pos) (tSl r te tl th):=by
 intro pins s σ H Q I h
 refine Subscript_ (thn (he pins s σ H _ I h) fun v s1 ⟨x,H1,I1,r1,q1⟩=>?_)
 refine wpAny_Slice (thn (hl pins s1 σ H1 _ I1 q1) fun vl s2 ⟨l,H2,I2,pl,q2⟩=>thn (hu pins s2 σ H2 _ I2 q2) fun vu s3 ⟨u,H3,I3,pu,q3⟩=>?_)
 rw[evalPart_none]
 refine qc ?_
 have I4:Inv X pins σ H3 { s3 with heap:=s3.heap.push { cls:=.type "slice",data:=.fields #[vl,vu,.none] } }:=I3.kept (t':=s3.toks) fun b ob q=>q9 _ q
 obtain⟨T,id,hT,ht,hg⟩:=hr pins { s3 with heap:=s3.heap.push { cls:=.type "slice",data:=.fields #[vl,vu,.none] } } σ H3 x v vl vu l u s3.heap.objs.size Q I4 r1 (Heap.IsSliceOf.new ..) pl pu q3
 show wpAny (model X.prog X.w) X.A (subscriptTail e (.Slice lo hi none p2) v (.ref s3.heap.objs.size)) (EP X pins σ Q) X.xe { s3 with heap:=s3.heap.push { cls:=.type "slice",data:=.fields #[vl,vu,.none] } }
 exact tail_any (ops:=[.ref s3.heap.objs.size,v]) ht hT hg (by with_unfolding_all rfl)
def cQ (xs:List V) (lo hi:Option Int):List V:=(xs.drop (HT.sIx xs.length 0 lo)).take (HT.sIx xs.length xs.length hi-HT.sIx xs.length 0 lo)
theorem uC (xs:List V) (lo hi:Option Int):(cQ xs lo hi).length<=xs.length:=by
 unfold cQ
 rw[qJ,qY]
 omega
def y4 (K:PySem.W.Frag):V->Option Int->Option Int->Hp->VK->Prop:=fun x lo hi H Q=>∃a xs,x=.ref a/\SqT K H a xs /\
 ¬ (HT.sIx xs.length 0 lo=0/\HT.sIx xs.length xs.length hi=xs.length)/\∀p,H p=none->Q (.ref p) (upd H p (.tup (cQ xs lo hi)))
theorem wZ:SlR X (y4 X.K):=by
 intro pins s σ H x v vl vu lo hi sl Q I rx hs pl pu h
 obtain⟨a,xs,rfl,hx,hw,q⟩:=h
 cases rx
 obtain⟨its,r,ht,hz⟩:=I.tuple hx
 have hlen:its.toArray.size=xs.length:=by rw[qA];exact r.length.symm
 refine⟨"tuple",_,PyProof.Rows.slot_tuple_getitem.lookup,ht.typeIs,?_⟩
 refine HT.getItem_tuple_cut ht hs pl pu (by rw[hlen];exact hw) ?_ (by rw[hlen];exact hz)
 rw[hlen]
 refine⟨.ref s.heap.objs.size,_,I.laid (t':=s.toks) (o:=.tup (cQ xs lo hi)) (fun b ob q=>q9 _ q) (qd _) ?_,rfl,q _ (I.hok.fresh (qd _))⟩
 exact⟨qx (uC xs lo hi) hz,_,(r.drop (HT.sIx xs.length 0 lo)).take (HT.sIx xs.length xs.length hi-HT.sIx xs.length 0 lo),IsTup.new _ _⟩
def ra (K:PySem.W.Frag):R2:=fun x y H Q=>∃a b xs ys,x=.ref a/\y=.ref b/\SqT K H a xs/\SqT K H b ys/\xs≠[]/\xs.length+ys.length<=sizeLine /\
 (ys=[]->Q (.ref a) H)/\(ys≠[]->∀p,H p=none->Q (.ref p) (upd H p (.tup (xs++ys))))
theorem au.nil_iff {xs:List V}{us:List Value}(r:au xs us):us=[]↔xs=[]:=by
 cases r with
 |nil=>simp
 |cons _ _=>simp
theorem gN:OpR X (binaryOp .Add) (ra X.K):=by
 intro pins s σ H x y v u Q I rx ry h
 obtain⟨a,b,xs,ys,rfl,rfl,ha,hb,hx,hz,q1,q2⟩:=h
 cases rx
 cases ry
 obtain⟨its,r1,p1,_⟩:=I.tuple ha
 obtain⟨its2,r2,p2,_⟩:=I.tuple hb
 refine HT.cat_tup p1 p2 (fun z=>hx (r1.nil_iff.mp z)) (fun z=>⟨.ref a,H,I,rfl,q1 (r2.nil_iff.mp z)⟩) (fun z=>?_) (by rw[<- r1.length,<- r2.length];exact hz)
 refine⟨.ref s.heap.objs.size,_,I.laid (t':=s.toks) (o:=.tup (xs++ys)) (fun b ob q=>q9 _ q) (qd _) ?_,rfl,q2 (fun w=>z (r2.nil_iff.mpr w)) _ (I.hok.fresh (qd _))⟩
 exact⟨by rw[qa];exact hz,_,r1.append r2,IsTup.new _ _⟩
end
def ixN (n:Nat) (i:Int):Option Nat:=if 0<=i then(if i<n then some i.toNat else none)else if -(n:Int)<=i then some (i+n).toNat else none
def atI {α:Type}(xs:List α) (i:Int):Option α:=(ixN xs.length i).bind fun j=>xs[j]?
theorem tz {n:Nat}{i:Int}{j:Nat}(h:ixN n i=some j):seqIndex? i n=some j/\j<n/\-(n:Int)<=i/\i<n:=by
 unfold ixN at h
 by_cases h0:0<=i
 ·rw[Q0 h0]at h
  by_cases h1:i<n
  ·rw[Q0 h1]at h
   have e:i.toNat=j:=qI h
   exact⟨by rw[seqIndex_of h0 h1,e],Qo,Qo,h1⟩
  ·rw[qZ h1]at h;cases h
 ·rw[qZ h0]at h
  by_cases h1:-(n:Int)<=i
  ·rw[Q0 h1]at h
   have e:(i+n).toNat=j:=qI h
   exact⟨by rw[seqIndex_neg Qo h1,e],Qo,h1,Qo⟩
  ·rw[qZ h1]at h;cases h
theorem nq {α:Type}{xs:List α}{i:Int}{v:α}(h:atI xs i=some v):∃j,seqIndex? i xs.length=some j/\xs[j]?=some v/\j<xs.length/\-(xs.length:Int)<=i/\i<xs.length:=by
 unfold atI at h
 cases e:ixN xs.length i with
 |none=>rw[e]at h;cases h
 |some j=>
  rw[e]at h
  obtain⟨h1,h2,h3,h4⟩:=tz e
  exact⟨j,h1,h,h2,h3,h4⟩
theorem fY {α:Type}{xs:List α}{j:Nat}{v:α}(h:xs[j]?=some v):atI xs (j:Int)=some v:=by
 have hj:j<xs.length:=(qe.mp h).1
 have e:ixN xs.length (j:Int)=some j:=by
  unfold ixN
  rw[Q0 Qo,Q0 Qo];simp
 unfold atI;rw[e];exact h
def CQ (b:Expr):Prop:=∀o i,subscripted b false o i=operate [o,i] (getItem o i)
def IxR (X:Cx) (r:R2):Prop:=
 ∀(value slice:Expr) (pins:List (Addr×Obj)) (s:Shared) (σ:St) (H:Hp) (x y:V) (v u:Value) (Q:VK),Inv X pins σ H s->ay x v->ay y u->r x y H Q->
  subscripted slice false v u=operate [v,u] (getItem v u)->wpAny (model X.prog X.w) X.A (subscriptTail value slice v u) (EP X pins σ Q) X.xe s
def MtR (X:Cx) (id:String) (r:V->List V->Hp->VK->Prop):Prop:=
 ∀(pins:List (Addr×Obj)) (s:Shared) (σ:St) (H:Hp) (x:V) (xs:List V) (v:Value) (us:List Value) (Q:VK),Inv X pins σ H s->ay x v->au xs us->r x xs H Q->
  wpAny (model X.prog X.w) X.A (call (.builtin id) (v::us)) (EP X pins σ Q) X.xe s
section
variable {X:Cx}{a b:Expr}{ta tb:TE}{pos:Pos}
theorem aq {r:R2}(hr:IxR X r) (ha:PE X a ta) (hb:PE X b tb) (hs:CQ b):PE X (.Subscript a b pos) (tOp r ta tb):=by
 intro pins s σ H Q I h
 exact Subscript_ (nh ha hb I h fun v u s2 x y H2 I2 rx ry q=>hr a b pins s2 σ H2 x y v u Q I2 rx ry q (hs _ _))
def yf (K:PySem.W.Frag):R2:=fun x y H Q=>∃p xs i v,x=.ref p/\y=.int i/\SqL K H p xs/\atI xs i=some v/\Q v H
def yd (K:PySem.W.Frag):R2:=fun x y H Q=>∃p xs i v,x=.ref p/\y=.int i/\SqT K H p xs/\atI xs i=some v/\Q v H
def ye:R2:=fun x y H Q=>∃z i c,x=.str z/\y=.int i/\z.length<=sizeLine/\atI z.cps.toList i=some c/\Q (.str ⟨#[c]⟩) H
theorem AZ:IxR X (yf X.K):=by
 intro value slice pins s σ H x y v u Q I rx ry h hs
 obtain⟨p,xs,i,z,rfl,rfl,hq,he,q⟩:=h
 cases rx
 obtain⟨t,rfl⟩:=ry
 obtain⟨its,r,pl,hz⟩:=I.list hq
 obtain⟨j,h1,h2,h3,h4,h5⟩:=nq he
 obtain⟨w,ew,rw'⟩:=r.get h2
 have hl:=r.length
 have hn:=gS
 have fin:EP X pins σ Q w s:=⟨z,H,I,rw',q⟩
 by_cases h0:0<=i
 ·have hj:i.toNat=j:=by
   rw[seqIndex_of h0 h5]at h1
   exact qI h1
  exact item_listR pl.isList h0 Qo (by rw[hj];simpa using ew) fin hs
 ·have hj:(i+(its.toArray.size:Int)).toNat=j:=by
   rw[seqIndex_neg Qo h4]at h1
   rw[qA,<- hl]
   exact qI h1
  exact subscriptTail_builtinR (x:=w) pl.isList.typeIs slot_list_getitem.lookup
   (wpAny_getItem_list_neg (Q:=fun r s'=>r=w/\EP X pins σ Q r s') pl.isList Qo (by rw[qA]<;>omega) Qo (by rw[hj];simpa using ew) ⟨rfl,fin⟩) hs
theorem AY:IxR X (yd X.K):=by
 intro value slice pins s σ H x y v u Q I rx ry h hs
 obtain⟨p,xs,i,z,rfl,rfl,hq,he,q⟩:=h
 cases rx
 obtain⟨t,rfl⟩:=ry
 obtain⟨its,r,pl,hz⟩:=I.tuple hq
 obtain⟨j,h1,h2,h3,h4,h5⟩:=nq he
 obtain⟨w,ew,rw'⟩:=r.get h2
 have hl:=r.length
 have hn:=gS
 have fin:EP X pins σ Q w s:=⟨z,H,I,rw',q⟩
 exact subscriptTail_builtinR (x:=w) pl.typeIs slot_tuple_getitem.lookup
  (getItem_tuple (j:=j) (Q:=fun r s'=>r=w/\EP X pins σ Q r s') pl Qo Qo (by rw[qA,<- hl];exact h1) (by simpa using ew) ⟨rfl,fin⟩) hs
theorem tu:IxR X ye:=by
 intro value slice pins s σ H x y v u Q I rx ry h hs
 obtain⟨z,i,c,rfl,rfl,hz,he,q⟩:=h
 obtain⟨t,rfl⟩:=rx
 obtain⟨t',rfl⟩:=ry
 obtain⟨j,h1,h2,h3,h4,h5⟩:=nq he
 have hl:z.cps.toList.length=z.length:=by simp[Str.length]
 rw[hl]at h1 h4 h5
 have hn:=gS
 exact tail_any (typeIs_str s z t) slot_str_getitem.lookup (getItem_str (c:=c) (by
  have e1:decide (i < -(2 ^ 63:Int))=false:=decide_eq_false Qo
  have e2:decide (i >= 2 ^ 63)=false:=decide_eq_false Qo
  rw[e1,e2,Bool.or_false]) (by rw[h1];simpa using h2) ⟨.str ⟨#[c]⟩,H,I.tok _,⟨_,rfl⟩,q⟩) hs
theorem AA (its:List Value) (n j:Nat) (u:Value):Obj.mapSeq (·.setIfInBounds j u) { cls:=.type "list",data:=.seq its.toArray n }={ cls:=.type "list",data:=.seq (its.set j u).toArray n }:=by
 simp[Obj.mapSeq]
theorem Inv.lst {pins:List (Addr×Obj)}{σ:St}{H:Hp}{s:Shared}{p:Addr}{xs:List V}(I:Inv X pins σ H s) (h:H p=some (.lst xs)):
 ∃(its:List Value) (n:Nat),au xs its/\s.heap.get? p=some { cls:=.type "list",data:=.seq its.toArray n }/\xs.length<=sizeLine:=by
 obtain⟨z,its,n,r,e⟩:=I.hok p _ h
 exact⟨its,n,r,e,z⟩
theorem Inv.lstUpd {pins:List (Addr×Obj)}{σ:St}{H:Hp}{s:Shared}{p:Addr}{xs ys:List V}{its its':List Value}{n n':Nat}{f:Obj->Obj}(I:Inv X pins σ H s) (h:H p=some (.lst xs))
 (ho:s.heap.get? p=some { cls:=.type "list",data:=.seq its.toArray n }) (hf:f { cls:=.type "list",data:=.seq its.toArray n }={ cls:=.type "list",data:=.seq its'.toArray n' }) (r:au ys its') (hz:ys.length<=sizeLine) (t:Nat):
 Inv X pins σ (upd H p (.lst ys)) { s with heap:=s.heap.update p f,toks:=t }:=by
 have e:(s.heap.update p f).get? p=some { cls:=.type "list",data:=.seq its'.toArray n' }:=by
  rw[Heap.get?_update_self f ho (by rw[hf]<;>rfl),hf]
 refine I.write (x:=p) (e:=p) (by rw[h];trivial) (.inl rfl) (fun b u hb q=>(Heap.get?_update_other _ _ (Ne.symm hb)).trans q) ⟨_,e⟩ ?_
 exact⟨hz,its',n',r,e⟩
def y8:V->V->V->Hp->(Hp->Prop)->Prop:=fun o i v H Q=>∃p xs k j,o=.ref p/\i=.int k/\H p=some (.lst xs)/\ixN xs.length k=some j/\Q (upd H p (.lst (xs.set j v)))
theorem kf:vg X y8:=by
 intro pins s σ H o i v ov iv u Q I ro ri rv h
 obtain⟨p,xs,k,j,rfl,rfl,hp,hj,q⟩:=h
 cases ro
 obtain⟨t,rfl⟩:=ri
 obtain⟨its,n,r,ho,hz⟩:=I.lst hp
 obtain⟨h1,h2,h3,h4⟩:=tz hj
 have hl:=r.length
 have hn:=gS
 have I':Inv X pins σ (upd H p (.lst (xs.set j v))) { s with heap:=s.heap.update p (Obj.mapSeq (·.setIfInBounds j u)) }:=
  I.lstUpd hp ho (AA its n j u) (r.set rv j) (by rw[List.length_set];exact hz) s.toks
 by_cases h0:0<=k
 ·have hk:k.toNat=j:=by
   rw[seqIndex_of h0 h4]at h1
   exact qI h1
  exact PySem.W.ki_setAt ho h0 Qo (by rw[qA,<- hl];exact h4) (by rw[hk];exact⟨_,I',q⟩)
 ·have hk:(k+(its.toArray.size:Int)).toNat=j:=by
   rw[seqIndex_neg Qo h3]at h1
   rw[qA,<- hl]
   exact qI h1
  exact PySem.W.ki_setBack ho Qo (by rw[qA,<- hl];exact h3) Qo (by rw[hk];exact⟨_,I',q⟩)
theorem wW (lo hi:Option Int) (n:Nat):(sliceBounds lo hi none n).1=((HT.sIx n 0 lo:Nat):Int)/\(sliceBounds lo hi none n).2.1=((HT.sIx n n hi:Nat):Int)/\(sliceBounds lo hi none n).2.2=1:=by
 refine⟨?_,?_,rfl⟩
 ·cases lo with
  |none=>simp[sliceBounds,HT.sIx]
  |some i=>
   simp only[sliceBounds,HT.sIx,Option.getD_none,show(1:Int) > 0 by decide,if_true]
   by_cases h:i<0
   ·simp only[h,if_true]<;>omega
   ·simp only[h,if_false]<;>omega
 ·cases hi with
  |none=>simp[sliceBounds,HT.sIx]
  |some i=>
   simp only[sliceBounds,HT.sIx,Option.getD_none,show(1:Int) > 0 by decide,if_true]
   by_cases h:i<0
   ·simp only[h,if_true]<;>omega
   ·simp only[h,if_false]<;>omega
theorem wX (its:List Value) (lo hi:Option Int):slicePick its.toArray lo hi none=((its.drop (HT.sIx its.length 0 lo)).take (HT.sIx its.length its.length hi-HT.sIx its.length 0 lo)).toArray:=by
 obtain⟨h1,h2,h3⟩:=wW lo hi its.toArray.size
 unfold slicePick
 rw[h1,h2,h3]
 simp only[sliceRange_one,pick_run,qA]<;>rfl
def y7 (K:PySem.W.Frag):V->Option Int->Option Int->Hp->VK->Prop:=fun x lo hi H Q=>∃a xs,x=.ref a/\SqL K H a xs/\∀p,H p=none->Q (.ref p) (upd H p (.lst (cQ xs lo hi)))
theorem pH:SlR X (y7 X.K):=by
 intro pins s σ H x v vl vu lo hi sl Q I rx hs pl pu h
 obtain⟨a,xs,rfl,hx,q⟩:=h
 cases rx
 obtain⟨its,r,ht,hz⟩:=I.list hx
 have hlen:=r.length
 refine⟨"list",_,slot_list_getitem.lookup,ht.isList.typeIs,?_⟩
 refine wpAny_getItem_list_slice ht.isList hs pl pu .none (by simp) ?_ (by rw[qA]<;>omega)
 rw[wX,<- hlen]
 refine⟨.ref s.heap.objs.size,_,I.laid (t':=s.toks) (o:=.lst (cQ xs lo hi)) (fun b ob q=>q9 _ q) (qd _) ?_,rfl,q _ (I.hok.fresh (qd _))⟩
 exact⟨qx (uC xs lo hi) hz,_,0,(r.drop (HT.sIx xs.length 0 lo)).take (HT.sIx xs.length xs.length hi-HT.sIx xs.length 0 lo),qo _ rfl⟩
def dF:V->Bool
 |.non=>true
 |.bl _=>true
 |.int _=>true
 |.str _=>true
 |_=>false
def eqV:V->V->Bool
 |.non,.non=>true
 |.bl a,.bl b=>a == b
 |.bl a,.int b=>(if a then 1 else 0) == b
 |.int a,.bl b=>a == (if b then 1 else 0)
 |.int a,.int b=>a == b
 |.str a,.str b=>a == b
 |_,_=>false
theorem C2 {A:Around}{s:Shared}{y x:V}{u v:Value}(ry:ay y u) (rx:ay x v) (fy:dF y=true) (fx:dF x=true):SeqAt.EqAt A s u v (eqV y x):=by
 cases y with
 |non=>
  cases ry
  cases x with
  |non=>cases rx;exact SeqAt.EqAt.same _
  |bl b=>cases rx;exact SeqAt.EqAt.none_bool b
  |int b=>obtain⟨t,rfl⟩:=rx;exact SeqAt.EqAt.none_int b t
  |str b=>obtain⟨t,rfl⟩:=rx;exact SeqAt.EqAt.none_str b t
  |_=>exact absurd (show false=true from fx) qh
 |bl a=>
  cases ry
  cases x with
  |non=>cases rx;exact SeqAt.EqAt.bool_none a
  |bl b=>cases rx;exact SeqAt.EqAt.bool_bool a b
  |int b=>obtain⟨t,rfl⟩:=rx;exact SeqAt.EqAt.bool_int a b t
  |str b=>obtain⟨t,rfl⟩:=rx;exact SeqAt.EqAt.bool_str a b t
  |_=>exact absurd (show false=true from fx) qh
 |int a=>
  obtain⟨t',rfl⟩:=ry
  cases x with
  |non=>cases rx;exact SeqAt.EqAt.int_none a t'
  |bl b=>cases rx;exact SeqAt.EqAt.int_bool a t' b
  |int b=>obtain⟨t,rfl⟩:=rx;exact SeqAt.EqAt.int_int a t' b t
  |str b=>obtain⟨t,rfl⟩:=rx;exact SeqAt.EqAt.int_str a t' b t
  |_=>exact absurd (show false=true from fx) qh
 |str a=>
  obtain⟨t',rfl⟩:=ry
  cases x with
  |non=>cases rx;exact SeqAt.EqAt.str_none a t'
  |bl b=>cases rx;exact SeqAt.EqAt.str_bool a t' b
  |int b=>obtain⟨t,rfl⟩:=rx;exact SeqAt.EqAt.str_int a t' b t
  |str b=>obtain⟨t,rfl⟩:=rx;exact SeqAt.EqAt.str_str a t' b t
  |_=>exact absurd (show false=true from fx) qh
 |_=>exact absurd (show false=true from fy) qh
def eqU (x:V) (u:Value):Bool:=match u with
 |.none=>eqV .non x
 |.bool b=>eqV (.bl b) x
 |.int i _=>eqV (.int i) x
 |.str z _=>eqV (.str z) x
 |_=>false
theorem uh {x y:V}{u:Value}(r:ay y u) (f:dF y=true):eqU x u=eqV y x:=by
 cases y with
 |non=>cases r;rfl
 |bl b=>cases r;rfl
 |int i=>obtain⟨t,rfl⟩:=r;rfl
 |str z=>obtain⟨t,rfl⟩:=r;rfl
 |_=>exact absurd (show false=true from f) qh
theorem nu {x:V}:∀{xs:List V}{us:List Value},au xs us->xs.all dF=true->us.any (eqU x)=xs.any fun y=>eqV y x
 |_,_,.nil,_=>rfl
 |y::xs,u::us,.cons r t,f=>by
  rw[List.all_cons,Bool.and_eq_true]at f
  rw[List.any_cons,List.any_cons,uh r f.1,nu t f.2]
theorem ml {A:Around}{s:Shared}{x:V}{v:Value}(rx:ay x v) (fx:dF x=true):∀{xs:List V}{us:List Value},au xs us->xs.all dF=true->∀u∈us,SeqAt.EqAt A s u v (eqU x u)
 |_,_,.nil,_=>fun u hu=>by cases hu
 |y::xs,u::us,.cons r t,f=>fun u' hu=>by
  rw[List.all_cons,Bool.and_eq_true]at f
  rcases qt.mp hu with rfl|hu
  ·rw[uh r f.1];exact C2 r rx f.1 fx
  ·exact ml rx fx t f.2 u' hu
def inV (x:V) (xs:List V):Bool:=xs.any fun y=>eqV y x
def rIn (K:PySem.W.Frag) (neg:Bool):R2:=fun x y H Q=>∃p xs,y=.ref p/\(SqL K H p xs\/SqT K H p xs)/\dF x=true/\xs.all dF=true/\Q (.bl (if neg then !inV x xs else inV x xs)) H
theorem ef:OpR X (compareOp .In) (rIn X.K false):=by
 intro pins s σ H x y v u Q I rx ry h
 obtain⟨p,xs,rfl,hq,fx,fs,q⟩:=h
 cases ry
 rcases hq with hq|hq
 ·obtain⟨its,r,pl,hz⟩:=I.list hq
  refine SeqAt.in_listAt (eqU x) pl.isList (fun w hw=>ml rx fx r fs w (by simpa using hw)) ⟨.bl _,H,I,rfl,?_⟩
  rw[show its.toArray.any (eqU x)=its.any (eqU x)by simp,nu r fs]
  exact q
 ·obtain⟨its,r,pl,hz⟩:=I.tuple hq
  refine SeqAt.in_tupleAt (eqU x) pl (fun w hw=>ml rx fx r fs w (by simpa using hw)) ⟨.bl _,H,I,rfl,?_⟩
  rw[show its.toArray.any (eqU x)=its.any (eqU x)by simp,nu r fs]
  exact q
theorem Cy:bF X (.builtin "len") (fun xs H Q=>∃p ys,xs=[.ref p]/\(SqL X.K H p ys\/SqT X.K H p ys)/\Q (.int ys.length) H):=by
 intro pins s σ H xs us Q I r h
 obtain⟨p,ys,rfl,hq,q⟩:=h
 obtain⟨u,rfl,rx⟩:=cR r
 cases rx
 have hn:=gS
 rcases hq with hq|hq
 ·obtain⟨its,r',pl,hz⟩:=I.list hq
  have hlen:=r'.length
  exact Calls.call_len_list pl.isList (by simp only[qA]<;>omega) ⟨.int ys.length,H,I.tok _,⟨s.toks+1,by rw[qA,hlen]⟩,q⟩
 ·obtain⟨its,r',pl,hz⟩:=I.tuple hq
  have hlen:=r'.length
  exact len_tuple pl (by simp only[qA]<;>omega) ⟨.int ys.length,H,I.tok _,⟨s.toks+1,by rw[qA,hlen]⟩,q⟩
theorem Cw:bF X (.type "list") (fun xs H Q=>∃p ys,xs=[.ref p]/\(SqL X.K H p ys\/SqT X.K H p ys)/\∀l,H l=none->Q (.ref l) (upd H l (.lst ys))):=by
 intro pins s σ H xs us Q I r h
 obtain⟨p,ys,rfl,hq,q⟩:=h
 obtain⟨u,rfl,rx⟩:=cR r
 cases rx
 have fin:∀(its:List Value),au ys its->ys.length<=sizeLine->∀(h':Heap) (c':Nat),(∀b o',s.heap.get? b=some o'->h'.get? b=some o')->
  h'.get? s.heap.objs.size=some { cls:=.type "list",dict:=none,data:=.seq its.toArray c',slots:=#[] }->EP X pins σ Q (.ref s.heap.objs.size) { s with heap:=h' }:=fun its r' hz h' c' kp e=>
  ⟨.ref s.heap.objs.size,_,I.laid (t':=s.toks) kp (qd _) (show bb X.prog X.w _ h' _ (.lst ys)from⟨hz,its,c',r',e⟩),rfl,q _ (I.hok.fresh (qd _))⟩
 rcases hq with hq|hq
 ·obtain⟨its,r',pl,hz⟩:=I.list hq
  have hlen:=r'.length
  obtain⟨o,ho,hc,n,hd⟩:=pl.isList
  exact call_list_seq p (.inl rfl) ho hc hd (fun h' c' kp e=>fin its r' hz h' c' kp e) (by simp only[qA]<;>omega)
 ·obtain⟨its,r',pl,hz⟩:=I.tuple hq
  have hlen:=r'.length
  obtain⟨o,ho,hc,n,hd⟩:=pl
  exact call_list_seq p (.inr rfl) ho hc hd (fun h' c' kp e=>fin its r' hz h' c' kp e) (by simp only[qA]<;>omega)
theorem mZ:bF X (.type "tuple") (fun xs H Q=>∃p ys,xs=[.ref p]/\((SqL X.K H p ys/\∀l,H l=none->Q (.ref l) (upd H l (.tup ys)))\/(SqT X.K H p ys/\Q (.ref p) H))):=by
 intro pins s σ H xs us Q I r h
 obtain⟨p,ys,rfl,h⟩:=h
 obtain⟨u,rfl,rx⟩:=cR r
 cases rx
 rcases h with⟨hq,q⟩|⟨hq,q⟩
 ·obtain⟨its,r',pl,hz⟩:=I.list hq
  have hlen:=r'.length
  refine call_tuple_list pl.isList (fun h' kp=>?_) (by simp only[qA]<;>omega)
  have I1:Inv X pins σ H { s with heap:=h' }:=I.kept (t':=s.toks) kp
  have I2:Inv X pins σ (upd H h'.objs.size (.tup ys)) { s with heap:=h'.push { cls:=.type "tuple",data:=.seq its.toArray } }:=
   I1.laid (t':=s.toks) (fun b o e=>q9 _ e) (qd _) (show bb X.prog X.w _ _ _ (.tup ys)from⟨hz,its,r',IsTup.new _ _⟩)
  exact⟨.ref h'.objs.size,_,I2,rfl,q _ (I1.hok.fresh (qd _))⟩
 ·obtain⟨its,r',pl,hz⟩:=I.tuple hq
  exact call_tuple_same pl ⟨.ref p,H,I,rfl,q⟩
def tyV (K:PySem.W.Frag) (T:String) (x:V) (H:Hp):Prop:=match x with
 |.str _=>T="str"
 |.int _=>T="int"
 |.ref p=>(T="list"/\∃xs,SqL K H p xs)\/(T="tuple"/\∃o,K.lookup p=some o/\o.cls=.type "tuple"/\o.dict=none) \/
  (T="dict"/\((∃kvs,H p=some (.dK kvs))\/∃kvs,H p=some (.dT kvs)))\/(T="set"/\∃S n,H p=some (.set S n))
 |_=>False
theorem o0 {pins:List (Addr×Obj)}{σ:St}{H:Hp}{s:Shared}{T:String}{x:V}{v:Value}(I:Inv X pins σ H s) (r:ay x v) (ty:tyV X.K T x H):
 s.TypeIs v T/\∀a,v=.ref a->∃ob,s.heap.get? a=some ob/\ob.dict=none:=by
 cases x with
 |str z=>
  obtain⟨t,rfl⟩:=r
  cases(show T="str" from ty)
  exact⟨typeIs_str s z t,fun _ e=>nomatch e⟩
 |int i=>
  obtain⟨t,rfl⟩:=r
  cases(show T="int" from ty)
  exact⟨typeIs_int s i t,fun _ e=>nomatch e⟩
 |ref p=>
  cases r
  rcases ty with⟨rfl,xs,hq⟩|⟨rfl,o,hk,hc,hd⟩|⟨rfl,hk⟩|⟨rfl,S,n,hk⟩
  ·obtain⟨its,_,pl,_⟩:=I.list hq
   refine⟨pl.isList.typeIs,fun a e=>?_⟩
   cases e
   obtain⟨o,n,e,c,hd,_⟩:=pl
   exact⟨o,e,hd⟩
  ·refine⟨⟨o,I.kIn p o hk,hc⟩,fun a e=>?_⟩
   cases e
   exact⟨o,I.kIn _ o hk,hd⟩
  ·have z:∃o,s.heap.get? p=some o/\o.ExactDict:=by
    rcases hk with⟨kvs,hk⟩|⟨kvs,hk⟩
    ·obtain⟨_,_,_,_,o,_,_,e,ex,_⟩:=I.hok p _ hk
     exact⟨o,e,ex⟩
    ·obtain⟨_,_,_,_,o,_,_,e,ex,_⟩:=I.hok p _ hk
     exact⟨o,e,ex⟩
   obtain⟨o,e,ex⟩:=z
   refine⟨⟨o,e,ex.1⟩,fun a e2=>?_⟩
   cases e2
   exact⟨o,e,ex.2.1⟩
  ·obtain⟨o,_,_,_,e,ex,_⟩:=I.hok p _ hk
   refine⟨⟨o,e,ex.1⟩,fun a e2=>?_⟩
   cases e2
   exact⟨o,e,ex.2.1⟩
 |_=>exact False.elim ty
def wD (K:PySem.W.Frag) (T:String) (r:V->List V->Hp->VK->Prop) (to:TE):TE:=fun σ H Q=>to σ H fun x H1=>tyV K T x H1/\r x [] H1 Q
def tBM (K:PySem.W.Frag) (T:String) (r:V->List V->Hp->VK->Prop) (to:TE) (t:TA):TE:=fun σ H Q=>to σ H fun x H1=>tyV K T x H1/\t σ H1 fun xs H2=>r x xs H2 Q
variable {o e:Expr}{es:List Expr}{to:TE}{t:TA}{name:Str}{apos cpos:Pos}{T id:String}{r:V->List V->Hp->VK->Prop}
theorem lZ (pa:PlainAttrs T) (slot:Slot T name id) (hty:typeOf (.builtin id)=pure (.type "method_descriptor")) (hm:MtR X id r) (ho:PE X o to)
 (hbase:attributeBase o name X.env (eval o X.env)=eval o X.env:=by rfl) (hline:(apos.endLine == cpos.line)=true:=by rfl):PE X (.Call (.Attribute o name apos) [] [] cpos) (wD X.K T r to):=by
 intro pins s σ H Q I h
 refine wpAny_Call_method0_late hbase hline (thn (ho pins s σ H _ I h) fun v s1 ⟨x,H1,I1,r1,ty,q1⟩=>?_)
 obtain⟨h1,h2⟩:=o0 I1 r1 ty
 exact⟨T,id,pa,slot,hty,h1,h2,Calls.callWith_builtin rfl (PySem.evalArgs_none (hm pins s1 σ H1 x [] v [] Q I1 r1 .nil q1))⟩
theorem yU (pa:PlainAttrs T) (slot:Slot T name id) (hty:typeOf (.builtin id)=pure (.type "method_descriptor")) (hm:MtR X id r) (ho:PE X o to) (ha:PA X (e::es) t)
 (hbase:attributeBase o name X.env (eval o X.env)=eval o X.env:=by rfl)
 (hfew:((backTo cpos (starEach (e::es) X.env)).all (fun x=>!x.1) && (backToKw cpos (keywordEach [] X.env)).all (fun x=>x.1.isSome)
  && decide ((e::es).length+([]:List Keyword).length+(if([]:List Keyword).isEmpty then 0 else 1)<30))=true:=by rfl)
 (hline:(apos.endLine == cpos.line)=true:=by rfl) (hs:starEach (e::es) X.env=(false,eval e X.env)::starEach es X.env:=by rfl) (hplain:(backTo cpos (starEach es X.env)).any (·.1)=false:=by rfl):
 PE X (.Call (.Attribute o name apos) (e::es) [] cpos) (tBM X.K T r to t):=by
 intro pins s σ H Q I h
 refine wpAny_Call_method_late hbase hfew hline rfl (thn (ho pins s σ H _ I h) fun v s1 ⟨x,H1,I1,r1,ty,q1⟩=>?_)
 obtain⟨h1,h2⟩:=o0 I1 r1 ty
 refine⟨T,id,pa,slot,hty,h1,h2,?_⟩
 have hA:=ha cpos pins s1 σ H1 _ I1 q1
 rw[hs]at hA ⊢
 refine Calls.callWith_builtin (by show(false || (backTo cpos (starEach es X.env)).any (·.1))=false;rw[hplain]<;>rfl) (Calls.evalArgs_plain ?_)
 exact thn hA fun us s2 ⟨vs,H2,I2,r2,q2⟩=>hm pins s2 σ H2 x vs v us Q I2 r1 r2 q2
end
def MtM (X:Cx) (id:String) (r:V->List V->Hp->VK->Prop):Prop:=
 ∀(pins:List (Addr×Obj)) (s:Shared) (σ:St) (H:Hp) (x:V) (xs:List V) (v:Value) (us:List Value) (Q:VK),Inv X pins σ H s->ay x v->au xs us->r x xs H Q->
  wpAny (model X.prog X.w) X.A (call (.builtin id) (v::us)) (EP X pins σ Q) X.xe s
theorem au.one:∀{x:V}{us:List Value},au [x] us->∃u,us=[u]/\ay x u
 |_,_,.cons r .nil=>⟨_,rfl,r⟩
theorem au.zero:∀{us:List Value},au [] us->us=[]
 |_,.nil=>rfl
theorem au.dropLast {xs:List V}{us:List Value}(h:au xs us):au xs.dropLast us.dropLast:=by
 induction h with
 |nil=>exact .nil
 |cons r t ih=>
  cases t with
  |nil=>exact .nil
  |cons q t'=>exact .cons r ih
theorem au.rep {xs:List V}{us:List Value}(h:au xs us):∀k:Nat,au (List.replicate k xs).flatten (List.replicate k us).flatten
 |0=>.nil
 |k+1=>by
  rw[List.replicate_succ,List.replicate_succ,List.flatten_cons,List.flatten_cons]
  exact au.append h (au.rep h k)
theorem C1 {α:Type}(l:List α):l.eraseIdx (l.length-1)=l.dropLast:=by
 induction l with
 |nil=>rfl
 |cons a r ih=>
  cases r with
  |nil=>rfl
  |cons b r=>
   have e:(a::b::r).length-1=((b::r).length-1)+1:=by
    have h1:(a::b::r).length=r.length+2:=rfl
    have h2:(b::r).length=r.length+1:=rfl
    omega
   rw[e,List.eraseIdx_cons_succ,ih]
   all_goals rfl
theorem tX (its:List Value):∀(k:Nat) (acc:List Value),
 List.foldl (fun x1 x2=>x1++x2) acc.toArray (List.replicate k its.toArray)=(acc++(List.replicate k its).flatten).toArray
 |0,acc=>by simp
 |k+1,acc=>by
  have e:acc.toArray++its.toArray=(acc++its).toArray:=by simp
  have e2:(acc++its)++(List.replicate k its).flatten=acc++(List.replicate (k+1) its).flatten:=by
   rw[List.replicate_succ,List.flatten_cons,qM]
  rw[<- e2,<- tX its k (acc++its),<- e,List.replicate_succ,List.foldl_cons]
section
variable {X:Cx}{pins:List (Addr×Obj)}{σ:St}{H:Hp}{s:Shared}{l b:Addr}{xs ys zs:List V}
theorem Inv.lset {its its':List Value}{n:Nat}{f:Array Value->Array Value}{t':Nat}(I:Inv X pins σ H s) (hH:H l=some (.lst xs))
 (e:s.heap.get? l=some { cls:=.type "list",data:=.seq its.toArray n }) (hf:f its.toArray=its'.toArray) (hv:au ys its') (hz:ys.length<=sizeLine):
 Inv X pins σ (upd H l (.lst ys)) { s with heap:=s.heap.update l (Obj.mapSeq f),toks:=t' }:=by
 have q:=PySem.IsL.update e f
 rw[hf]at q
 refine I.write (x:=l) (e:=l) (by rw[hH];exact trivial) (.inl rfl) (fun b' u hb hu=>(Heap.get?_update_other s.heap (Obj.mapSeq f) (Ne.symm hb)).trans hu) ⟨_,q⟩ ?_
 exact⟨hz,its',_,hv,q⟩
theorem Inv.lnew {its:List Value}{t':Nat}(I:Inv X pins σ H s) (hv:au ys its) (hz:ys.length<=sizeLine):
 Inv X pins σ (upd H s.heap.objs.size (.lst ys)) { s with heap:=s.heap.push { cls:=.type "list",data:=.seq its.toArray },toks:=t' }:=
 I.laid (fun _ _ q=>q9 _ q) (qd _) ⟨hz,its,0,hv,qo _ rfl⟩
theorem Inv.fresh (I:Inv X pins σ H s):H s.heap.objs.size=none:=I.hok.fresh (qd _)
theorem Inv.lstM (I:Inv X pins σ H s) (hH:H l=some (.lst xs)):xs.length<=sizeLine/\∃(its:List Value) (n:Nat),au xs its/\xs.length=its.length/\s.heap.get? l=some { cls:=.type "list",data:=.seq its.toArray n }:=by
 obtain⟨z,its,n,r,e⟩:=I.hok l _ hH
 exact⟨z,its,n,r,r.length,e⟩
theorem sD {n:Nat}(h:n<=sizeLine):Builtin.List.listTooLong n=false:=by
 unfold Builtin.List.listTooLong
 exact decide_eq_false Qo
end
section
variable {X:Cx}
def yk:V->List V->Hp->VK->Prop:=fun x vs H Q=>∃l xs y,x=.ref l/\vs=[y]/\H l=some (.lst xs)/\xs.length<sizeLine/\Q .non (upd H l (.lst (xs++[y])))
theorem Aq:MtM X "list.append" yk:=by
 intro pins s σ H x vs v us Q I rx rv h
 obtain⟨l,xs,y,rfl,rfl,hH,hz,q⟩:=h
 cases rx
 obtain⟨u,rfl,ru⟩:=rv.one
 obtain⟨z,its,n,r,hl,e⟩:=I.lstM hH
 refine call_meets F.slot_list_append ⟨_,e,rfl⟩ F.entry_list_append (F.args_list_append_2 _ _) (PySem.list_append l its.toArray n u (by rw[qA];omega)) ⟨e,?_⟩
 refine⟨.non,_,I.lset (its':=its++[u]) hH e (by simp) (r.append (.cons ru .nil)) ?_,rfl,q⟩
 rw[qa,List.length_singleton]
 omega
def yh:V->List V->Hp->VK->Prop:=fun x vs H Q=>∃l b xs zs,x=.ref l/\vs=[.ref b]/\H l=some (.lst xs)/\H b=some (.lst zs)/\xs.length+zs.length<=sizeLine/\Q .non (upd H l (.lst (xs++zs)))
theorem gP:MtM X "list.extend" yh:=by
 intro pins s σ H x vs v us Q I rx rv h
 obtain⟨l,b,xs,zs,rfl,rfl,hH,hB,hz,q⟩:=h
 cases rx
 obtain⟨u,rfl,ru⟩:=rv.one
 cases ru
 obtain⟨z,its,n,r,hl,e⟩:=I.lstM hH
 obtain⟨z2,its2,n2,r2,hl2,e2⟩:=I.lstM hB
 have hsz:its.toArray.size+its2.toArray.size<=sizeLine:=by rw[qA,qA];omega
 have hlong:¬ (!its.toArray.isEmpty && Builtin.List.listTooLong (its.toArray.size+its2.toArray.size))=true:=by
  rw[sD hsz,Bool.and_false]
  exact qh
 refine call_meets F.slot_list_extend ⟨_,e,rfl⟩ F.entry_list_extend (F.args_list_extend_2 _ _)
  (AutoSeq1.list_extend_list_list_0 l its.toArray n b its2.toArray n2 hlong (by rw[qA];omega) Qo) ⟨e,e2,?_⟩
 refine⟨.non,_,I.lset (its':=its++its2) hH e (by simp) (r.append r2) ?_,rfl,q⟩
 rw[qa]
 omega
def ya:V->List V->Hp->VK->Prop:=fun x vs H Q=>∃l xs y,x=.ref l/\vs=[]/\H l=some (.lst xs)/\xs[xs.length-1]?=some y/\Q y (upd H l (.lst xs.dropLast))
theorem mf:MtM X "list.pop" ya:=by
 intro pins s σ H x vs v us Q I rx rv h
 obtain⟨l,xs,y,rfl,rfl,hH,hy,q⟩:=h
 cases rx
 have hus:=rv.zero
 subst hus
 obtain⟨z,its,n,r,hl,e⟩:=I.lstM hH
 obtain⟨u,hu,ru⟩:=r.get hy
 have hy':its.toArray[its.toArray.size-1]?=some u:=by
  show its.toArray[its.length-1]?=some u
  rw[<- qT,<- hl]
  exact hu
 refine call_meets F.slot_list_pop ⟨_,e,rfl⟩ F.entry_list_pop (F.args_list_pop_1 _) (MeetsSeq.list_pop_last l its.toArray n u hy' (by rw[qA];omega)) ⟨e,?_⟩
 refine⟨y,_,I.lset (its':=its.dropLast) hH e ?_ r.dropLast ?_,ru,q⟩
 ·show its.toArray.eraseIdxIfInBounds (its.toArray.size-1)=its.dropLast.toArray
  rw[qA,List.eraseIdxIfInBounds_toArray,C1]
 ·rw[List.length_dropLast]
  omega
def y9:R2:=fun x y H Q=>∃l k xs,x=.ref l/\y=.int k/\H l=some (.lst xs)/\-(2 ^ 63)<=k/\k<2 ^ 63/\xs.length * k.toNat<=sizeLine /\
 ∀p,H p=none->Q (.ref p) (upd H p (.lst (List.replicate k.toNat xs).flatten))
theorem AL {α:Type}(xs:List α) (k:Nat):(List.replicate k xs).flatten.length=k * xs.length:=by
 induction k with
 |zero=>simp
 |succ k ih=>rw[List.replicate_succ,List.flatten_cons,qa,ih,Nat.succ_mul,Nat.add_comm]
theorem z9:OpR X (binaryOp .Mult) y9:=by
 intro pins s σ H x y v u Q I rx ry h
 obtain⟨l,k,xs,rfl,rfl,hH,h1,h2,hz,q⟩:=h
 cases rx
 obtain⟨t,rfl⟩:=ry
 obtain⟨z,its,n,r,hl,e⟩:=I.lstM hH
 have hlen:its.toArray.size * k.toNat<=sizeLine:=by rw[qA,<- hl];exact hz
 have hcap:¬ its.toArray.size * k.toNat > (2 ^ 63-1) / 8:=by
  have:(sizeLine:Nat)<=(2 ^ 63-1) / 8:=Qk
  omega
 have hfit:¬ (!Builtin.List.listFitsIndex k)=true:=by
  rw[fitsIndex_both h1 h2]
  exact qh
 have hlong:¬ Builtin.List.listTooLong (its.toArray.size * k.toNat)=true:=by
  rw[sD hlen]
  exact qh
 have hnew:List.foldl (fun x1 x2=>x1++x2) #[] (List.replicate (if its.toArray.isEmpty=true then 0 else k.toNat) its.toArray)=(List.replicate k.toNat its).flatten.toArray:=by
  have f0:∀m:Nat,List.foldl (fun x1 x2=>x1++x2) #[] (List.replicate m its.toArray)=(List.replicate m its).flatten.toArray:=fun m=>by
   have:=tX its m []
   rw[List.nil_append]at this
   exact this
  rw[f0]
  cases its with
  |nil=>simp
  |cons a r'=>rw[qZ (by simp)]
 refine wpAny_binaryOp_repeat_ref (T:="list") (U:="int") Qk ⟨_,e,rfl⟩ (fun s'=>typeIs_int s' k t) noFill_list_mul F.fills_int_mul F.slot_int_rmul repeat_list F.slot_int_index.lookup
  (call_meets F.slot_int_rmul (typeIs_int s k t) F.entry_int_rmul (F.args_int_rmul_2 _ _) (int___rmul___int_list k t l its.toArray n)
   ⟨e,rfl,⟨_,e,rfl⟩,call_meets F.slot_list_mul ⟨_,e,rfl⟩ F.entry_list_mul (F.args_list_mul_2 _ _) (AutoListH.list___mul___list_int_3 l its.toArray n k t hfit hcap hlong) ⟨e,?_⟩⟩)
 rw[hnew]
 exact⟨.ref _,_,I.lnew (t':=s.toks) (r.rep k.toNat) (by rw[AL,Nat.mul_comm];exact hz),rfl,q _ I.fresh⟩
end
section
variable {prog:Program}{w:World}{A:Around}{E:Qq}{s:Shared}
set_option maxRecDepth 100000 in
end
section
variable {X:Cx}
end
section
variable {κ:Type} [DecidableEq κ]
def bv (kvs:List (κ×V)) (k:κ):Option V:=(kvs.find? fun kv=>decide (kv.1=k)).map (·.2)
def bd (kvs:List (κ×V)) (k:κ) (v:V):List (κ×V):=
 if(kvs.any fun kv=>decide (kv.1=k))=true then kvs.map (fun kv=>if kv.1=k then(kv.1,v)else kv)else kvs++[(k,v)]
theorem jL {p:κ×V}{r:List (κ×V)}{k:κ}(e:p.1=k):bv (p::r) k=some p.2:=by simp[bv,List.find?_cons,e]
theorem jM {p:κ×V}{r:List (κ×V)}{k:κ}(e:¬ p.1=k):bv (p::r) k=bv r k:=by simp[bv,List.find?_cons,e]
theorem ii (k:κ):∀kvs:List (κ×V),(kvs.any fun kv=>decide (kv.1=k))=(bv kvs k).isSome
 |[]=>rfl
 |p::r=>by
  rw[List.any_cons]
  by_cases e:p.1=k
  ·simp only[jL e,decide_eq_true e,Bool.true_or,Option.isSome_some]
  ·rw[jM e,decide_eq_false e,Bool.false_or];exact ii k r
theorem mC (kvs:List (κ×V)) (k:κ) (v:V):(bd kvs k v).length<=kvs.length+1:=by
 unfold bd
 split
 ·rw[q5];omega
 ·rw[qa,qz,List.length_nil];omega
theorem lQ {kvs:List (κ×V)}{k:κ}(v:V) (h:bv kvs k=none):bd kvs k v=kvs++[(k,v)]:=by
 unfold bd
 rw[ii,h]
 exact qZ Qk
theorem bN.isSome_eq {o:Option V}{u:Option Value}(r:bN o u):o.isSome=u.isSome:=by
 cases o with
 |none=>cases u with
  |none=>rfl
  |some _=>exact(show False from r).elim
 |some _=>cases u with
  |none=>exact(show False from r).elim
  |some _=>rfl
theorem bN.getD {o:Option V}{u:Option Value}{d:V}{d':Value}(r:bN o u) (rd:ay d d'):ay (o.getD d) (u.getD d'):=by
 cases o with
 |none=>cases u with
  |none=>exact rd
  |some _=>exact(show False from r).elim
 |some _=>cases u with
  |none=>exact(show False from r).elim
  |some _=>exact r
theorem KV.val {kvs:List (κ×V)}{vs:List (κ×Value)}(r:KV kvs vs) (k:κ):bN (bv kvs k) (valueAt vs k):=by
 unfold KV at r
 induction r with
 |nil=>exact True.intro
 |@cons p q ps qs h t ih=>
  obtain⟨h1,h2⟩:=h
  by_cases e:p.1=k
  ·have e':q.1=k:=h1.symm.trans e
   have b:valueAt (q::qs) k=some q.2:=by simp[valueAt,List.find?_cons,e']
   rw[jL e,b];exact h2
  ·have e':¬ q.1=k:=fun z=>e (h1.trans z)
   have b:valueAt (q::qs) k=valueAt qs k:=by simp[valueAt,List.find?_cons,e']
   rw[jM e,b];exact ih
theorem KV.any {kvs:List (κ×V)}{vs:List (κ×Value)}(r:KV kvs vs) (k:κ):(kvs.any fun kv=>decide (kv.1=k))=vs.any fun kv=>decide (kv.1=k):=by
 unfold KV at r
 induction r with
 |nil=>rfl
 |cons h t ih=>rw[List.any_cons,List.any_cons,ih,h.1]
theorem KV.repl {kvs:List (κ×V)}{vs:List (κ×Value)}(r:KV kvs vs) (k:κ) {y:V}{u:Value}(ry:ay y u):
 KV (kvs.map fun kv=>if kv.1=k then(kv.1,y)else kv) (vs.map fun kv=>if kv.1=k then(kv.1,u)else kv):=by
 unfold KV at r ⊢
 induction r with
 |nil=>exact .nil
 |@cons p q ps qs h t ih=>
  rw[qR,qR]
  refine .cons ?_ ih
  obtain⟨h1,h2⟩:=h
  by_cases e:p.1=k
  ·rw[Q0 e,Q0 (h1.symm.trans e)];exact⟨h1,ry⟩
  ·rw[qZ e,qZ (fun z=>e (h1.trans z))];exact⟨h1,h2⟩
theorem KV.put {kvs:List (κ×V)}{vs:List (κ×Value)}(r:KV kvs vs) (k:κ) {y:V}{u:Value}(ry:ay y u):KV (bd kvs k y) (stored vs k u):=by
 unfold bd stored
 rw[r.any k]
 by_cases e:(vs.any fun kv=>decide (kv.1=k))=true
 ·rw[Q0 e,Q0 e];exact r.repl k ry
 ·rw[qZ e,qZ e];exact Paired.snoc r ⟨rfl,ry⟩
theorem KV.length {kvs:List (κ×V)}{vs:List (κ×Value)}(r:KV kvs vs):kvs.length=vs.length:=Paired.length r
end
theorem eR {P:Program}{w:World}{k:Key}{u:Value}(r:ay (kV k) u):(bL P w).is k u=true:=by
 cases k with
 |inl i=>obtain⟨t,e⟩:=(show ∃t,u=Value.int i t from r);subst e;exact As P w i t
 |inr x=>obtain⟨t,e⟩:=(show ∃t,u=Value.str x t from r);subst e;exact Ar P w x t
theorem tH {P:Program}{w:World}:∀{ks:List Key}{us:List Value},au (ks.map kV) us->ItemsAre (bL P w) ks us
 |[],_,r=>by rw[List.map_nil]at r;cases r;exact .nil
 |k::ks,_,r=>by
  rw[qR]at r
  cases r with
  |cons h t=>exact .cons (eR h) (tH t)
abbrev KT (H:Hp):List (List Key×V)->List (List Key×Addr×Value)->Prop:=Paired fun p q=>p.1=q.1/\H q.2.1=some (.tup (p.1.map kV))/\ay p.2 q.2.2
theorem KT.val {H:Hp}{kvs:List (List Key×V)}{xs:List (List Key×Addr×Value)}(r:KT H kvs xs) (k:List Key):bN (bv kvs k) ((atKey xs k).map (·.2)):=by
 induction r with
 |nil=>exact True.intro
 |@cons p q ps qs h t ih=>
  obtain⟨h1,_,h2⟩:=h
  by_cases e:p.1=k
  ·have e':q.1=k:=h1.symm.trans e
   have b:atKey (q::qs) k=some q.2:=by simp[atKey,List.find?_cons,e']
   rw[jL e,b];exact h2
  ·have e':¬ q.1=k:=fun z=>e (h1.trans z)
   have b:atKey (q::qs) k=atKey qs k:=by simp[atKey,List.find?_cons,e']
   rw[jM e,b];exact ih
theorem KT.repl {H:Hp}{kvs:List (List Key×V)}{xs:List (List Key×Addr×Value)}(r:KT H kvs xs) (k:List Key) {y:V}{u:Value}(ry:ay y u):
 KT H (kvs.map fun kv=>if kv.1=k then(kv.1,y)else kv) (xs.map (putAt k u)):=by
 induction r with
 |nil=>exact .nil
 |@cons p q ps qs h t ih=>
  rw[qR,qR]
  refine .cons ?_ ih
  obtain⟨h1,h2,h3⟩:=h
  unfold putAt
  by_cases e:p.1=k
  ·rw[Q0 e,Q0 (h1.symm.trans e)];exact⟨h1,h2,ry⟩
  ·rw[qZ e,qZ (fun z=>e (h1.trans z))];exact⟨h1,h2,h3⟩
theorem KT.put {H:Hp}{kvs:List (List Key×V)}{xs:List (List Key×Addr×Value)}(r:KT H kvs xs) (k:List Key) {b:Addr}{y:V}{u:Value}(hb:H b=some (.tup (k.map kV))) (ry:ay y u):
 KT H (bd kvs k y) (storedH xs k b u):=by
 have e:(kvs.any fun kv=>decide (kv.1=k))=(atKey xs k).isSome:=by
  rw[ii,(r.val k).isSome_eq,Option.isSome_map]
 unfold bd storedH
 rw[e]
 by_cases q:(atKey xs k).isSome=true
 ·rw[Q0 q,Q0 q];exact r.repl k ry
 ·rw[qZ q,qZ q];exact Paired.snoc r ⟨rfl,hb,ry⟩
theorem KT.keeps {H H':Hp}{kvs:List (List Key×V)}{xs:List (List Key×Addr×Value)}(r:KT H kvs xs) (ht:∀b ys,H b=some (.tup ys)->H' b=some (.tup ys)):KT H' kvs xs:=
 Paired.mapP r fun _ _ z=>⟨z.1,ht _ _ z.2.1,z.2.2⟩
section
variable {P:Program}{w:World}{H:Hp}{h:Heap}{a:Addr}
theorem r9 {u:HO}(ok:HOk P w H h) (e:Rd H a u):bb P w H h a u:=e.ok ok
theorem fS {kvs:List (Key×V)}(ok:HOk P w H h) (e:Rd H a (.dK kvs)):kvs.length<=sizeLine/\(a == sysModules)=false/\∃vs,KV kvs vs/\h.DictOf (bL P w) a vs:=
 show bb P w H h a (.dK kvs)from r9 ok e
theorem jx {kvs:List (Key×V)}(ok:HOk P w H h) (e:H a=some (.dK kvs)):kvs.length<=sizeLine/\(a == sysModules)=false/\∃vs,KV kvs vs/\h.DictOf (bL P w) a vs:=fS ok (.inl e)
theorem je {ks:List Key}(ok:HOk P w H h) (e:H a=some (.tup (ks.map kV))):(tupleKind (bL P w)).is h ks a:=by
 obtain⟨_,its,r,o,h1,h2,n,h3⟩:=(show bb P w H h a (.tup (ks.map kV))from ok a _ e)
 exact⟨o,its.toArray,n,h1,h2,h3,by simpa using tH r⟩
theorem hJ {kvs:List (List Key×V)}(ok:HOk P w H h) (e:Rd H a (.dT kvs)):kvs.length<=sizeLine/\(a == sysModules)=false /\
 ∃xs,KT H kvs xs/\h.DictOfH (tupleKind (bL P w)) a xs:=by
 obtain⟨z,y,xs,r,o,es,ep,h1,h2,h3,h4,h5⟩:=(show bb P w H h a (.dT kvs)from r9 ok e)
 refine⟨z,y,xs,r,o,es,ep,h1,h2,h3,h4,fun x hx=>?_,h5⟩
 have all:∀{l:List (List Key×V)}{m:List (List Key×Addr×Value)},KT H l m->∀x∈m,(tupleKind (bL P w)).is h x.1 x.2.1:=by
  intro l m q
  induction q with
  |nil=>intro x hx;exact nomatch hx
  |@cons p q ps qs hq t ih=>
   intro x hx
   rcases qt.mp hx with e|hx
   ·subst e
    exact je ok (by rw[<- hq.1];exact hq.2.1)
   ·exact ih x hx
 exact all r x hx
theorem C4 {kvs:List (List Key×V)}(ok:HOk P w H h) (e:H a=some (.dT kvs)):kvs.length<=sizeLine/\(a == sysModules)=false /\
 ∃xs,KT H kvs xs/\h.DictOfH (tupleKind (bL P w)) a xs:=hJ ok (.inl e)
end
def dk (H:Hp) (a:Addr) (y:V) (r:Option V):Prop:=
 (∃kvs k,Rd H a (.dK kvs)/\y=kV k/\r=bv kvs k)\/∃kvs k b,Rd H a (.dT kvs)/\y=.ref b/\H b=some (.tup (k.map kV))/\r=bv kvs k
def vj (H:Hp) (a:Addr) (y v:V) (H':Hp):Prop:=
 (∃kvs k,H a=some (.dK kvs)/\y=kV k/\kvs.length<sizeLine/\H'=upd H a (.dK (bd kvs k v))) \/
 ∃kvs k b,H a=some (.dT kvs)/\y=.ref b/\H b=some (.tup (k.map kV))/\kvs.length<sizeLine/\H'=upd H a (.dT (bd kvs k v))
theorem dk.k {H:Hp}{a:Addr}{kvs:List (Key×V)}{k:Key}(e:H a=some (.dK kvs)):dk H a (kV k) (bv kvs k):=.inl ⟨kvs,k,.inl e,rfl,rfl⟩
section
variable {X:Cx}{pins:List (Addr×Obj)}{σ:St}{H:Hp}{s:Shared}{a:Addr}{y v:V}{u r:Value}{o:Option V}{A:Around}{E:Qq}
theorem Inv.big (I:Inv X pins σ H s):sysModules<s.heap.objs.size:=by
 have h:mainGlobals<s.heap.objs.size:=(I.mod.glob.keeps I.bk).lt
 exact Nat.lt_trans Qk h
theorem Cc {Q:Qq}(hu:A.units+1<cLine) (I:Inv X pins σ H s) (g:dk H a y (some v)) (ry:ay y u) (h:∀w' s',Inv X pins σ H s'->ay v w'->Q w' s'):
 wpAny (model X.prog X.w) A (getItem (.ref a) u) Q E s:=by
 rcases g with⟨kvs,k,e,ey,l⟩|⟨kvs,k,b,e,ey,eb,l⟩
 ·subst ey
  obtain⟨z,hd,vs,rel,dd⟩:=fS I.hok e
  obtain⟨w',hw,rw'⟩:=bN.some_of (v:=v) (o:=valueAt vs k) (by rw[l];exact rel.val k)
  exact wpAny_getItem_of (eR ry) dd.mapOf hw (h w' _ (I.tok _) rw')
 ·subst ey
  cases(show u=Value.ref b from ry)
  obtain⟨z,hd,xs,rel,dd⟩:=hJ I.hok e
  obtain⟨w',hw,rw'⟩:=bN.some_of (v:=v) (o:=(atKey xs k).map (·.2)) (by rw[l];exact rel.val k)
  obtain⟨p,hp,hp2⟩:=qP.mp hw
  refine wpAny_getItem_heap (tupleKind_room_in1 hu) (je I.hok eb) dd hp ?_
  rw[hp2]
  exact h w' _ (I.tok _) rw'
theorem uB {h':Heap}{t':Nat}{ob:HO}(I:Inv X pins σ H s) (mu:Mut (H a)) (hs:Heap.SameBut a s.heap h') (he:∃q,h'.get? a=some q) (new:bb X.prog X.w (upd H a ob) h' a ob):
 Inv X pins σ (upd H a ob) { s with heap:=h',toks:=t' }:=
 I.write (x:=a) (e:=a) mu (.inl rfl) (fun b q hb z=>(hs.2 b hb).trans z) he new
theorem uq {P:Program}{w:World}{H':Hp}{h':Heap}{kvs:List (Key×V)}{vs:List (Key×Value)}(z:kvs.length<=sizeLine) (hd:(a == sysModules)=false) (rel:KV kvs vs) (dd:h'.DictOf (bL P w) a vs):
 bb P w H' h' a (.dK kvs):=⟨z,hd,vs,rel,dd⟩
theorem Ca {H':Hp}{Q:Unit->Shared->Prop}(hu:A.units+1<cLine) (I:Inv X pins σ H s) (g:vj H a y v H') (ry:ay y u) (rv:ay v r) (h:∀s',Inv X pins σ H' s'->Q () s'):
 wpAny (model X.prog X.w) A (setItem (.ref a) u r) Q E s:=by
 rcases g with⟨kvs,k,e,ey,l,eH⟩|⟨kvs,k,b,e,ey,eb,l,eH⟩
 ·subst ey eH
  obtain⟨z,hd,vs,rel,dd⟩:=jx I.hok e
  have hz:vs.length<=sizeLine:=by rw[<- rel.length];exact z
  have hl:(bd kvs k v).length<=sizeLine:=by have:=mC kvs k v;omega
  refine wpAny_setItem_pairs (hsz:=hz) (eR ry) dd fun h' dd' hs=>h _ ?_
  have he:∃q,h'.get? a=some q:=let ⟨q,_,_,hq,_⟩:=dd';⟨q,hq⟩
  exact uB I (by rw[e];exact True.intro) hs he (uq hl hd (rel.put k rv) dd')
 ·subst ey eH
  cases(show u=Value.ref b from ry)
  obtain⟨z,hd,xs,rel,dd⟩:=C4 I.hok e
  have hz:xs.length<=sizeLine:=by rw[<- Paired.length rel];exact z
  have hl:(bd kvs k v).length<=sizeLine:=by have:=mC kvs k v;omega
  refine wpAny_setItem_heap (hsz:=hz) (tupleKind_room_in1 hu) (je I.hok eb) dd fun h' dd' hs=>h _ ?_
  obtain⟨q,es,ep,hq,h2,h3,h4,_,h5⟩:=dd'
  refine uB I (by rw[e];exact True.intro) hs ⟨q,hq⟩ ⟨hl,hd,_,(rel.put k eb rv).keeps fun c ys ec=>?_,q,es,ep,hq,h2,h3,h4,h5⟩
  rw[aj (sF ec e (fun z=>nomatch z))]
  exact ec
end
section
variable {X:Cx}{pins:List (Addr×Obj)}{σ:St}{H:Hp}{s:Shared}{a:Addr}{kvs:List (Key×V)}{k:Key}{u:Value}{A:Around}{E:Qq}
theorem Cb {Q:Qq}(I:Inv X pins σ H s) (e:Rd H a (.dK kvs)) (h:∀t s',Inv X pins σ H s'->Q (.int kvs.length t) s'):wpAny (model X.prog X.w) A (call (.builtin "len") [.ref a]) Q E s:=by
 obtain⟨z,hd,vs,rel,dd⟩:=fS I.hok e
 refine call_len_dict hd dd (by rw[<- rel.length];rw[sizeLine_eq]at z;omega) ?_
 rw[<- rel.length]
 exact h _ _ (I.tok _)
end
def vh (i:Expr):Prop:=∀ov iv,subscripted i false ov iv=operate [ov,iv] (getItem ov iv)
theorem wH {prog:Program}{w:World}{A:Around}{E:Qq}{s:Shared}{env:Env}{value slice:Expr}{pos:Pos}{T id:String}{Q:Qq}
 (hl:typeLookup (.type T) "__getitem__"=pure (some (.builtin id))) (hs:vh slice)
 (h:wpAny (model prog w) A (eval value env) (fun o s₁=>wpAny (model prog w) A (eval slice env) (fun i s₂=>s₂.TypeIs o T/\wpAny (model prog w) A (getItem o i) Q E s₂) E s₁) E s):
 wpAny (model prog w) A (eval (.Subscript value slice pos) env) Q E s:=by
 refine Subscript_ (wpAny_mono h (fun o s₁ h₁=>wpAny_mono h₁ (fun i s₂ h₂=>?_) fun _ _ x=>x) fun _ _ x=>x)
 obtain⟨hT,h₂⟩:=h₂
 unfold subscriptTail
 refine q4 ?_
 rw[getitemInPython_of_ne hT.not_modules]
 refine q4 (wpAny_specialOf hT hl ?_)
 have fin:wpAny (model prog w) A (subscripted slice false o i) (fun r s₃=>wpAny (model prog w) A (letTemporaryGo value o r >>= fun _=>pure r) Q E s₃) E s₂:=by
  rw[hs o i]
  exact wpAny_operating (wpAny_mono h₂ (fun r s₃ h₃=>q4 (wpAny_letTemporaryGo (qc h₃))) fun _ _ x=>x)
 first
  |exact qc (q4 fin)
  |exact q4 (qc (q4 fin))
  |exact q4 fin
theorem C6 {X:Cx}{pins:List (Addr×Obj)}{σ:St}{H:Hp}{s:Shared}{a:Addr}{y:V}{o:Option V}(I:Inv X pins σ H s) (g:dk H a y o):s.TypeIs (.ref a) "dict":=by
 rcases g with⟨kvs,k,e,_,_⟩|⟨kvs,k,b,e,_,_,_⟩
 ·obtain⟨_,_,vs,_,dd⟩:=fS I.hok e
  exact dd.typeIs
 ·obtain⟨_,_,xs,_,dd⟩:=hJ I.hok e
  exact dd.typeIs
def wA (td ty:TE):TE:=fun σ H Q=>td σ H fun x H1=>ty σ H1 fun y H2=>∃a v,x=.ref a/\dk H2 a y (some v)/\Q v H2
def xU (td ty tv:TE):TS:=fun D σ H=>tv σ H fun v H1=>td σ H1 fun x H2=>ty σ H2 fun y H3=>∃a H4,x=.ref a/\vj H3 a y v H4/\D.nx σ H4
section
variable {X:Cx}{o i e value:Expr}{pos pos' tpos:Pos}{td ty tv:TE}
theorem rR (hu:X.A.units+1<cLine) (ho:PE X o td) (hi:PE X i ty) (hs:vh i):PE X (.Subscript o i pos) (wA td ty):=by
 intro pins s σ H Q I h
 refine wH PySem.F.slot_dict_getitem.lookup hs (thn (ho pins s σ H _ I h) fun u s1 ⟨x,H1,I1,rx,q1⟩=>thn (hi pins s1 σ H1 _ I1 q1) fun iv s2 ⟨y,H2,I2,ry,a,v,ex,g,q2⟩=>?_)
 subst ex
 obtain rfl:u=Value.ref a:=rx
 exact⟨C6 I2 g,Cc hu I2 g ry fun w' s3 I3 rw'=>⟨v,H2,I3,rw',q2⟩⟩
theorem fG (hu:X.A.units+1<cLine) (ho:PE X o td) (hi:PE X i ty) (hv:PE X value tv) (hs:swapsWith value (some (.Subscript o i pos')) pos.line X.env=pure false):
 PS X (.Assign [.Subscript o i pos'] value pos) (xU td ty tv):=by
 intro pins s σ H D I h
 refine wpAny_Assign_Subscript (thn (hv pins s σ H _ I h) fun r s1 ⟨v,H1,I1,rv,q1⟩=>thn (ho pins s1 σ H1 _ I1 q1) fun u s2 ⟨x,H2,I2,rx,q2⟩=>thn (hi pins s2 σ H2 _ I2 q2) fun iv s3 ⟨y,H3,I3,ry,a,H4,ex,g,q3⟩=>?_) hs
 subst ex
 obtain rfl:u=Value.ref a:=rx
 exact Ca hu I3 g ry rv fun s4 I4=>⟨σ,H4,I4,q3⟩
end
theorem ur {P:Program}{w:World}{H:Hp}(h:Heap) (hb:sysModules<h.objs.size):bb P w H (h.push { cls:=.type "dict",data:=.dict #[] }) h.objs.size (.dK []):=
 ⟨qr _,beq_eq_false_iff_ne.mpr (Ne.symm (qF hb)),[],.nil,Heap.DictOf.new h⟩
def wy:TE:=fun _ H Q=>∀p,H p=none->Q (.ref p) (upd H p (.dK []))
section
variable {X:Cx}{pos:Pos}
theorem lY:PE X (.Dict [] [] pos) wy:=fun pins s σ H Q I h=>
 wpAny_Dict_empty ⟨.ref s.heap.objs.size,_,I.laid (a:=s.heap.objs.size) (o:=.dK []) (t':=s.toks) (fun _ _ q=>q9 _ q) (qd _) (ur s.heap I.big),rfl,h _ (I.hok.fresh (qd _))⟩
end
structure M2 (X:Cx) (o:Expr) (m:Str) (apos:Pos) (e f:Expr) (cpos:Pos):Prop where
 base:attributeBase o m X.env (eval o X.env)=eval o X.env
 few:((backTo cpos (starEach [e,f] X.env)).all (fun x=>!x.1) && (backToKw cpos (keywordEach [] X.env)).all (fun x=>x.1.isSome)
  && decide (([e,f]:List Expr).length+([]:List Keyword).length+(if([]:List Keyword).isEmpty then 0 else 1)<30))=true
 line:(apos.endLine == cpos.line)=true
 trees:backTo cpos (starEach [e,f] X.env)=[(false,eval e X.env),(false,eval f X.env)]
def IsD (H:Hp) (a:Addr):Prop:=(∃kvs,Rd H a (.dK kvs))\/∃kvs,Rd H a (.dT kvs)
theorem tI {X:Cx}{pins:List (Addr×Obj)}{σ:St}{H:Hp}{s:Shared}{a:Addr}(I:Inv X pins σ H s) (d:IsD H a):
 s.TypeIs (.ref a) "dict"/\(∀b,Value.ref a=.ref b->∃ob,s.heap.get? b=some ob/\ob.dict=none)/\(a == sysModules)=false:=by
 rcases d with⟨kvs,e⟩|⟨kvs,e⟩
 ·obtain⟨_,hd,vs,_,dd⟩:=fS I.hok e
  refine⟨dd.typeIs,fun b q=>?_,hd⟩
  cases q
  obtain⟨ob,_,_,h1,h2,_⟩:=dd
  exact⟨ob,h1,h2.2.1⟩
 ·obtain⟨_,hd,xs,_,dd⟩:=hJ I.hok e
  refine⟨dd.typeIs,fun b q=>?_,hd⟩
  cases q
  obtain⟨ob,_,_,h1,h2,_⟩:=dd
  exact⟨ob,h1,h2.2.1⟩
section
variable {X:Cx}{pins:List (Addr×Obj)}{σ:St}{H:Hp}{s:Shared}{a:Addr}{y d:V}{u r:Value}{o:Option V}{A:Around}{E:Qq}
theorem Cd {Q:Qq}(hu:A.units+1<cLine) (I:Inv X pins σ H s) (g:dk H a y o) (ry:ay y u) (rd:ay d r) (h:∀w' s',Inv X pins σ H s'->ay (o.getD d) w'->Q w' s'):
 wpAny (model X.prog X.w) A (call (.builtin "dict.get") [.ref a,u,r]) Q E s:=by
 rcases g with⟨kvs,k,e,ey,l⟩|⟨kvs,k,b,e,ey,eb,l⟩
 ·subst ey
  obtain⟨z,hd,vs,rel,dd⟩:=fS I.hok e
  refine call_meetsIn PySem.F.slot_dict_get dd.typeIs PySem.F.entry_dict_get (PySem.F.args_dict_get_3 _ _ _) (meets_dict_get_default (bL X.prog X.w) a (eR ry) hd r) ⟨_,dd.mapOf,h _ _ (I.tok _) ?_⟩
  rw[l]
  exact(rel.val k).getD rd
 ·subst ey
  cases(show u=Value.ref b from ry)
  obtain⟨z,hd,xs,rel,dd⟩:=hJ I.hok e
  refine call_meetsIn PySem.F.slot_dict_get dd.typeIs PySem.F.entry_dict_get (PySem.F.args_dict_get_3 _ _ _) (meetsH_dict_get_default (tupleKind (bL X.prog X.w)) a b hd r) ⟨tupleKind_room_in1 hu,k,xs,je I.hok eb,dd,h _ _ (I.tok _) ?_⟩
  rw[l]
  exact(rel.val k).getD rd
end
def wz (td ty tx:TE):TE:=fun σ H Q=>td σ H fun x H1=>∃a,x=.ref a/\IsD H1 a/\ty σ H1 fun y H2=>tx σ H2 fun z H3=>∃o,dk H3 a y o/\Q (o.getD z) H3
section
variable {X:Cx}{o e f:Expr}{apos cpos:Pos}{td ty tx:TE}
theorem yS (hu:X.A.units+1<cLine) (ho:PE X o td) (he:PE X e ty) (hf:PE X f tx) (m:M2 X o "get" apos e f cpos):PE X (.Call (.Attribute o "get" apos) [e,f] [] cpos) (wz td ty tx):=by
 intro pins s σ H Q I h
 refine wpAny_Call_method m.base m.few m.line PySem.F.plainAttrs_dict PySem.F.slot_dict_get PySem.F.type_dict_get (thn (ho pins s σ H _ I h) fun u s1 ⟨x,H1,I1,rx,a,ex,d,q1⟩=>?_)
 subst ex
 obtain rfl:u=Value.ref a:=rx
 obtain⟨t1,t2,_⟩:=tI I1 d
 refine⟨t1,t2,?_⟩
 rw[m.trees]
 refine Calls.callWith_builtin rfl (Calls.evalArgs_plain (Calls.spliced_cons (thn (he pins s1 σ H1 _ I1 q1) fun iv s2 ⟨y,H2,I2,ry,q2⟩=>
  Calls.spliced_cons (thn (hf pins s2 σ H2 _ I2 q2) fun fv s3 ⟨z,H3,I3,rz,ov,g,q3⟩=>Calls.spliced_nil ?_))))
 exact Cd hu I3 g ry rz fun w' s4 I4 rw'=>⟨_,H3,I4,rw',q3⟩
end
section
variable {X:Cx}{pins:List (Addr×Obj)}{σ:St}{H:Hp}{s:Shared}{a:Addr}{kvs:List (Key×V)}{A:Around}{E:Qq}
end
section
variable {X:Cx}{pins:List (Addr×Obj)}{σ:St}{H:Hp}{s:Shared}{a:Addr}{y:V}{u:Value}{A:Around}{E:Qq}
end
end L2
namespace Att
open PySem PySem.W PySem.Calls PyProof.Rows
theorem Bh {P:Params}{h:Heap}:∀(ns:List Int) (vs:List Value),WellAll P h vs (ns.map WData.int)->IntsAre vs ns:=by
 intro ns
 induction ns with
 |nil=>
  intro vs w
  rw[List.map_nil]at w
  cases w
  exact .nil
 |cons n ns ih=>
  intro vs w
  rw[qR]at w
  cases w with
  |cons a b=>
   cases a
   exact .cons _ _ (ih _ b)
theorem xy {l:OpenLaw}{n:Nat}(hn:l.most=some n) {P:Params}{h:Heap}{args:List WData}{vals:List Value}
 (hpre:l.row.toRowW.claim.pre args=true) (hwl:WellAll P h vals args):
 ∃a vs ns,vals=[Value.ref a]/\args=[WData.list (ns.map WData.int)]/\h.get? a=some { cls:=.type "list",data:=.seq vs.toArray }/\IntsAre vs ns/\ns.length<=n:=by
 have hsh:WShape.hasAll [] args [.list .int]=true:=(pre_splitW hpre).1
 have hc:l.pre.holds [] { args:=args }=true:=(pre_splitW hpre).2
 obtain⟨d,r,rfl,h1,h2⟩:=hasAllW_cons hsh
 obtain rfl:=hasAllW_nil h2
 obtain⟨xs,rfl,h3⟩:=hasW_list h1
 obtain⟨ns,rfl⟩:=items_int h3
 have hlen:ns.length<=n:=by
  unfold OpenLaw.pre at hc
  have h4:(WTm.not (.lt (.lit (.int (n:Int))) (.len (.arg 0)))).holds [] { args:=[.list (ns.map .int)] }=true:=by
   have h4:=(holds_andW hc).1
   rw[hn]at h4
   exact h4
  have h5:=condW_of h4 (w_not (w_lt w_lit (w_len_list (w_arg rfl))))
  rw[q5]at h5
  refine Nat.le_of_not_lt fun q=>?_
  have q':(n:Int)<((ns.length:Nat):Int):=Qo
  first
   |(rw[decide_eq_true q']at h5;exact absurd h5 Qk)
   |(simp at h5;omega)
 cases hwl with
 |cons w1 w2=>
  cases w2
  cases w1 with
  |list ho hall=>exact⟨_,_,ns,rfl,rfl,ho,Bh ns _ hall,hlen⟩
theorem yE (l:OpenLaw) (args:List WData):l.row.toRowW.claim.post args (.bool true) args=true:=
 postW_of (r:=l.row.toRowW) (X:=(true == true))
  (show WShape.has [] (.bool true) .bool=true by first|rfl|decide|simp[WShape.has,WShape.arms,WShape.armsAll])
  (show(WTm.eq .res (.lit (.bool true))).value [] { args:=args,res:=some (.bool true),after:=args }=some (.bool (true == true))from w_eq_bool (w_res rfl) w_lit) rfl
section
variable {prog:Program}{w:World}{A:Around}{E:Qq}{s:Shared}{K:Frag}
end
end Att
namespace L2
open PySem PySem.Spec PyProof.Rows
theorem jK:∀{vs:List Value}{ns:List Int},IntsAre vs ns->au (ns.map V.int) vs
 |_,_,.nil=>.nil
 |_,_,.cons n t h=>.cons ⟨t,rfl⟩ (jK h)
def jC (H:Hp):Prop:=∀b,H b=none\/∃o xs,H b=some (.frz o (.lst xs))
theorem AO {P:Program}{w:World}{K:PySem.W.Frag}{mg mb:Str->Option Value}{CX:CXT}{k:Nat}{fa a:Addr}{fd:FuncData}{x:Str}{sp:Sp}{s₁:Shared}{vs:List Value}{ns:List Int}
 (KX:K.In s₁.heap) (hns:s₁.heap.Ns mainGlobals mg) (hb:s₁.heap.Ns builtinsNs mb) (hbb:∀x:Str,x≠"__name__"->mb x=bootBuiltins x) (hlim:s₁.heap.NoLimit) (hg:s₁.gens=#[])
 (ha:s₁.heap.get? a=some { cls:=.type "list",data:=.seq vs.toArray }) (hi:IntsAre vs ns) (hl:ns.length<=sizeLine) (hr:br k callerA)
 (F:∀base:Heap,K.In base->base.Ns mainGlobals mg->aD P w K mg base CX k fa fd [x] sp) (hbind:∀(s:Shared) (u:Value),BindsTo s fd ⟨[u],[]⟩ [(x,u)])
 (hsp:∀H:Hp,jC H->SqL K H a (ns.map V.int)->sp [.ref a] H (fun v _=>v=.bl true) fun _ _ _=>False)
 (hCX:∀H e s',CX [] H s₁ (fun _ _ _=>False) e s'->False):
 codeAny (model P w) callerA (.call (.ref fa) ⟨[.ref a],[]⟩) (fun r s'=>r=.ok (.ret (.bool true))/\OldK s₁.heap s'.heap/\s'.os=s₁.os/\AllBare s'.gens) s₁:=by
 have rv:=jK hi
 have lenV:=hi.length
 have core:∀H:Hp,jC H->SqL K H a (ns.map V.int)->HOk P w H s₁.heap->(∀b,H b≠none->b=a)->(H a≠none->K.lookup a=none)->
  codeAny (model P w) callerA (.call (.ref fa) ⟨[.ref a],[]⟩) (fun r s'=>r=.ok (.ret (.bool true))/\OldK s₁.heap s'.heap/\s'.os=s₁.os/\AllBare s'.gens) s₁:=by
  intro H hO hS hok hA hK
  have base_of:∀{b:Addr}{o:Obj},s₁.heap.get? b=some o->H b=none->(dD s₁.heap H).get? b=some o:=fun e n=>Bt e n
  have noA:∀{b:Addr}{o:Obj}{es:Array DictEntry}{ep:Nat},s₁.heap.get? b=some o->o.data=.dict es ep->H b=none:=fun{b o es ep} e d=>by
   cases q:H b with
   |none=>rfl
   |some u=>
    have e':b=a:=hA b (by rw[q];simp)
    subst e'
    rw[ha]at e;cases e
    have d':Data.seq vs.toArray _=Data.dict es ep:=d
    cases d'
  have nsK:∀{b:Addr}{m:Str->Option Value},s₁.heap.Ns b m->(dD s₁.heap H).Ns b m:=fun{b m} ⟨o,es,ep,e,d,r⟩=>⟨o,es,ep,base_of e (noA e d),d,r⟩
  have hKb:K.In (dD s₁.heap H):=fun b o e=>base_of (KX b o e) (by
   cases q:H b with
   |none=>rfl
   |some u=>
    have e':b=a:=hA b (by rw[q];simp)
    subst e'
    rw[hK (by rw[q];simp)]at e;cases e)
  have hM:Mod K mg (dD s₁.heap H):=⟨hKb,nsK hns,⟨mb,nsK hb,hbb⟩,let ⟨mc,h1,h2⟩:=hlim;⟨mc,nsK h1,h2⟩⟩
  have e0:f7 P w K mg (dD s₁.heap H) callerA [] s₁ H:=⟨rfl,hM,fun b o e=>Ag e,Nat.le_of_eq (Bs _ _),trivial,fun b hb=>absurd (show b∈([]:List Addr)from hb) (by simp),hok,.of_eq hg⟩
  refine codeAny_mono ((F _ hKb (nsK hns)).run callerA [] s₁ H ⟨[.ref a],[]⟩ [.ref a] [.ref a] _ _ hr e0 (hbind s₁ (.ref a)) (.cons rfl .nil) (hsp H hO hS)) fun r s' h=>?_
  cases r with
  |error e=>exact(hCX H e s' h).elim
  |ok fl=>
   cases fl with
   |next=>exact False.elim h
   |brk=>exact False.elim h
   |cont=>exact False.elim h
   |ret u=>
    obtain⟨v,H',os,bare,un,hok',r',q⟩:=h
    have q':v=.bl true:=q
    subst q'
    obtain rfl:u=Value.bool true:=r'
    refine⟨rfl,OldK.of_keep fun b o e=>?_,os,bare⟩
    cases q:H b with
    |none=>exact un.keep b o e q (by intro z;exact absurd (show b∈([]:List Addr)from z) (by simp)) (by simp)
    |some u=>
     rcases hO b with z|⟨ob,xs,z⟩
     ·rw[q]at z;cases z
     ·have z2:=un.frzs b ob _ z
      obtain⟨e1,_⟩:=hok b _ z
      obtain⟨e2,_⟩:=hok' b _ z2
      rw[e]at e1;cases e1
      exact e2
 cases hk:K.lookup a with
 |some o=>
  have e:=KX a o hk
  rw[ha]at e
  cases e
  refine core (fun _=>none) (fun _=>.inl rfl) (.inr ⟨_,vs.toArray,_,hk,rfl,rfl,rfl,by rw[qA,lenV];exact hl,by simpa using rv⟩) (fun b u z=>by have z':(none:Option HO)=some u:=z;cases z') (fun b z=>absurd rfl z) fun z=>absurd rfl z
 |none=>
  refine core (fun b=>if b=a then some (.frz { cls:=.type "list",data:=.seq vs.toArray } (.lst (ns.map V.int)))else none) (fun b=>?_) (.inl (.inr ⟨{ cls:=.type "list",data:=.seq vs.toArray },Q0 rfl⟩)) (fun b u z=>?_) (fun b z=>?_) fun _=>hk
  ·by_cases hb:b=a
   ·exact .inr ⟨_,_,Q0 hb⟩
   ·exact .inl (qZ hb)
  ·by_cases hb:b=a
   ·have z':=(Q0 hb).symm.trans z
    cases z'
    subst hb
    exact⟨ha,by rw[q5];exact hl,vs,_,rv,ha⟩
   ·have z':=(qZ hb).symm.trans z
    cases z'
  ·by_cases hb:b=a
   ·exact hb
   ·exact absurd (qZ hb) z
abbrev CX0:CXT:=fun _ _ _ _ _ _=>False
abbrev E0:XK:=fun _ _ _=>False
theorem ap {X:Cx}:gc CX0 X E0:=fun _ _ _ _ _ _ _ h=>h.elim
structure Fun (K:PySem.W.Frag) (x qual:Str) (st:Stmt) (f:Addr) (fd:FuncData):Prop where
 ex:∃(oc:Value) (od:Option Addr) (kV doc pm:Value) (an:Option Addr) (cdv ct:Value) (osl:Array (Option Value)),
  fd=PySem.W.fnOf x qual (eE st) (dH st) (aC st) .none kV doc pm an cdv ct/\K.lookup f=some ⟨oc,od,.func fd,osl⟩/\PySem.W.codeIn K cdv qual=true
 kp:PySem.W.keepIn K (.ref f)=true
section
variable {P:Program}{w:World}{K:PySem.W.Frag}{mg:Str->Option Value}{base:Heap}
theorem Fun.ok {x qual:Str}{st:Stmt}{f:Addr}{fd:FuncData}{N ps:List Str}{k:Nat}{sp:Sp}(F:Fun K x qual st f fd) (S:aN N ps (aC st)) (len:∀vs H Q E,sp vs H Q E->vs.length=ps.length)
 (hbody:∀(cdv:Value) (A:Around) (outer:List Env) (s:Shared) (H:Hp) (vs:List V) (Q:VK) (E:XK),br k (A.deeper (envOfC qual (aC st) s.heap.objs.size f cdv))->sp vs H Q E->
  ∃t,PSs (fU CX0 P w K mg base N qual (aC st) f cdv A outer s H E).nox (dH st) t/\t { nx:=fun _ H'=>Q .non H',rt:=Q } (dO N vs) H):aD P w K mg base CX0 (k+1) f fd ps sp:=by
 obtain⟨oc,od,kV,doc,pm,an,cdv,ct,osl,rfl,lk,hcd⟩:=F.ex
 refine BQ lk hcd S len fun A outer s H vs Q E hr hsp=>?_
 obtain⟨t,h,q⟩:=hbody cdv A outer s H vs Q E hr hsp
 exact⟨t,h.nox,q⟩
theorem Fun.binds {x qual:Str}{st:Stmt}{f:Addr}{fd:FuncData}{ps:List Str}(F:Fun K x qual st f fd)
 (h:∀(kV doc pm:Value) (an:Option Addr) (cdv ct:Value) (us:List Value),us.length=ps.length->bindArgs (PySem.W.fnOf x qual (eE st) (dH st) (aC st) .none kV doc pm an cdv ct) ⟨us,[]⟩=pure (ps.zip us)):aG K fd ps []:=by
 obtain⟨oc,od,kV,doc,pm,an,cdv,ct,osl,rfl,lk,hcd⟩:=F.ex
 exact .all (h kV doc pm an cdv ct)
theorem BJ {x qual:Str}{st:Stmt}{f:Addr}{oc:Value}{od an:Option Addr}{osl:Array (Option Value)}{kV doc pm cdv ct:Value}(l:K.lookup f=some ⟨oc,od,.func (PySem.W.fnOf x qual (eE st) (dH st) (aC st) .none kV doc pm an cdv ct),osl⟩)
 (c:PySem.W.codeIn K cdv qual=true) (k:PySem.W.keepIn K (.ref f)=true):Fun K x qual st f (PySem.W.fnOf x qual (eE st) (dH st) (aC st) .none kV doc pm an cdv ct):=⟨⟨oc,od,kV,doc,pm,an,cdv,ct,osl,rfl,l,c⟩,k⟩
end
theorem iA {n:Nat}(h:n<=1000):n<sizeLine:=Nat.lt_of_le_of_lt h Qk
section
variable {X:Cx}
end
theorem jf {A B:Prop}(h:B):if false=true then A else B:=by
 rw[qZ qh]
 exact h
theorem Bd {A B:Prop}(h:A):if true=true then A else B:=by
 rw[Q0 rfl]
 exact h
theorem fN {c A B:Prop} [Decidable c] (h1:c->A) (h2:¬ c->B):if c then A else B:=by
 by_cases h:c
 ·rw[Q0 h]
  exact h1 h
 ·rw[qZ h]
  exact h2 h
def aa (H H':Hp):Prop:=∀b o,H b=some o->H' b=some o
theorem aa.refl (H:Hp):aa H H:=fun _ _ h=>h
theorem aa.trans {H H1 H2:Hp}(a:aa H H1) (b:aa H1 H2):aa H H2:=fun c o h=>b c o (a c o h)
theorem aa.seq {K:PySem.W.Frag}{H H':Hp}{a:Addr}{xs:List V}(e:aa H H') (h:SqL K H a xs):SqL K H' a xs:=by
 rcases h with(h|⟨o,h⟩)|h
 ·exact .inl (.inl (e _ _ h))
 ·exact .inl (.inr ⟨o,e _ _ h⟩)
 ·exact .inr h
section
variable {X:Cx}
theorem Cz:bF X (.builtin "len") (fun xs H Q=>∃a kvs,xs=[V.ref a]/\H a=some (.dK kvs)/\Q (.int kvs.length) H):=by
 intro pins s σ H xs us Q I r h
 obtain⟨a,kvs,rfl,ha,q⟩:=h
 obtain⟨u,rfl,ru⟩:=cR r
 cases ru
 exact Cb I (.inl ha) fun t s' I'=>⟨.int kvs.length,H,I',⟨t,rfl⟩,q⟩
end
section
variable {κ:Type} [DecidableEq κ]
theorem nY {kvs:List (κ×V)}{k:κ}{v:V}(h:bv kvs k=some v):k∈kvs.map (·.1):=by
 have q:(kvs.any fun kv=>decide (kv.1=k))=true:=by
  rw[ii,h]
  all_goals rfl
 obtain⟨p,hp,e⟩:=List.any_eq_true.mp q
 exact List.mem_map.mpr ⟨p,hp,of_decide_eq_true e⟩
theorem sG:∀{l:List κ}{k:κ},l.Nodup->¬ k∈l->(l++[k]).Nodup
 |[],k,_,_=>by simp
 |a::r,k,h,hk=>by
  obtain⟨h1,h2⟩:=List.nodup_cons.mp h
  show(a::(r++[k])).Nodup
  refine List.nodup_cons.mpr ⟨fun m=>?_,sG h2 fun m=>hk (qt.mpr (Or.inr m))⟩
  rcases qg.mp m with q|q
  ·exact h1 q
  ·exact hk (qt.mpr (Or.inl (qS.mp q).symm))
end
def ck (cells:List (Str×Addr)):List (Str×NameKind)->List (Str×Addr)->List (Str×Addr)
 |[],acc=>acc
 |(n,k)::r,acc=>ck cells r (if k == .free then(match cells.lookup n with|some c=>(n,c)::acc|none=>acc)else acc)
theorem Co {scope:Scope}{env:Env}(h:∀y∈scope.names,y.2=.free->∃c,env.cells.lookup y.1=some c):closureFor scope env=pure (ck env.cells scope.names []):=by
 simp only[closureFor]
 generalize ([]:List (Str×Addr))=acc
 revert h
 generalize scope.names=l
 intro h
 induction l generalizing acc with
 |nil=>simp[ck]
 |cons x r ih=>
  obtain⟨n,k⟩:=x
  rw[List.forIn_cons]
  have hr:∀y∈r,y.2=NameKind.free->∃c,env.cells.lookup y.1=some c:=fun y hy=>h y (qj _ hy)
  by_cases hk:k=.free
  ·subst hk
   obtain⟨c,e⟩:=h (n,.free) qk rfl
   have e':List.lookup n env.cells=some c:=e
   have e2:cellOf env n=pure c:=by unfold cellOf;rw[e']
   simp only[beq_self_eq_true,if_true,e2,pure_bind,ck,e']
   exact ih _ hr
  ·have hb:(k == NameKind.free)=false:=by simpa using hk
   simp only[hb,Bool.false_eq_true,if_false,pure_bind,ck]
   exact ih _ hr
theorem tS (cells:List (Str×Addr)):∀(l:List (Str×NameKind)) (acc:List (Str×Addr)) (p:Str×Addr),p∈ck cells l acc->p∈acc\/(p.1,NameKind.free)∈l/\cells.lookup p.1=some p.2
 |[],_,_,h=>.inl h
 |(n,k)::r,acc,p,h=>by
  have h':p∈ck cells r (if k == .free then(match cells.lookup n with|some c=>(n,c)::acc|none=>acc)else acc):=h
  rcases tS cells r _ p h' with q|⟨q1,q2⟩
  ·by_cases hk:k=.free
   ·subst hk
    simp only[beq_self_eq_true,if_true]at q
    cases e:cells.lookup n with
    |none=>rw[e]at q;exact .inl q
    |some c=>
     rw[e]at q
     rcases qt.mp q with rfl|q
     ·exact .inr ⟨qk,e⟩
     ·exact .inl q
   ·have hb:(k == NameKind.free)=false:=by simpa using hk
    simp only[hb,Bool.false_eq_true,if_false]at q
    exact .inl q
  ·exact .inr ⟨qj _ q1,q2⟩
theorem sQ {α β:Type} [BEq α] [LawfulBEq α] {x:α}:∀{l:List (α×β)}{c:β},(x,c)∈l->∃d,l.lookup x=some d
 |(a,b)::r,c,h=>by
  by_cases e:x=a
  ·subst e;exact⟨b,by simp⟩
  ·rcases qt.mp h with q|q
   ·cases q;exact absurd rfl e
   ·obtain⟨d,hd⟩:=sQ q
    refine⟨d,?_⟩
    have e':(x == a)=false:=by simpa using e
    simp only[List.lookup_cons,e']
    exact hd
theorem tT (cells:List (Str×Addr)) (x:Str) (c:Addr) (e:cells.lookup x=some c):∀(l:List (Str×NameKind)) (acc:List (Str×Addr)),((x,NameKind.free)∈l\/(x,c)∈acc)->(x,c)∈ck cells l acc
 |[],_,h=>h.elim (fun q=>nomatch q) id
 |(n,k)::r,acc,h=>by
  refine tT cells x c e r _ ?_
  rcases h with h|h
  ·rcases qt.mp h with q|q
   ·cases q
    refine .inr ?_
    rw[e]
    exact qk
   ·exact .inl q
  ·refine .inr ?_
   by_cases hk:(k == NameKind.free)=true
   ·rw[Q0 hk]
    cases cells.lookup n with
    |none=>exact h
    |some _=>exact qj _ h
   ·rw[qZ hk];exact h
theorem eB {cells:List (Str×Addr)}{names:List (Str×NameKind)}{x:Str}{c:Addr}(h:(ck cells names []).lookup x=some c):cells.lookup x=some c:=by
 have hm:=PySem.mem_of_lookup h
 rcases tS cells names [] _ hm with q|⟨_,q⟩
 ·exact nomatch q
 ·exact q
theorem tU {cells:List (Str×Addr)}{names:List (Str×NameKind)}{x:Str}{c:Addr}(hm:(x,NameKind.free)∈names) (e:cells.lookup x=some c):(ck cells names []).lookup x=some c:=by
 obtain⟨d,hd⟩:=sQ (tT cells x c e names [] (.inl hm))
 have:=eB hd
 rw[e]at this
 rw[hd,this]
theorem pZ {scope:Scope}{env:Env}{x:Str}{k:NameKind}(h:(relabel scope env).names.lookup x=some k):∃k',scope.names.lookup x=some k'/\(k'=k\/(k'=.free/\k=.cell)):=by
 have go:∀(l:List (Str×NameKind)),(l.map fun(n,k)=>if(k == NameKind.free && env.scope.kind == .function && env.kindOf n == some .cell)then(n,NameKind.cell)else(n,k)).lookup x=some k->∃k',l.lookup x=some k'/\(k'=k\/(k'=.free/\k=.cell)):=by
  intro l
  induction l with
  |nil=>intro h;simp at h
  |cons p r ih=>
   obtain⟨n,kk⟩:=p
   intro h
   simp only[qR]at h
   by_cases hx:x=n
   ·subst hx
    by_cases hc:(kk == NameKind.free && env.scope.kind == .function && env.kindOf x == some .cell)=true
    ·rw[Q0 hc]at h
     simp at h
     have:kk=.free:=by
      simp only[Bool.and_eq_true,beq_iff_eq]at hc
      exact hc.1.1
     exact⟨kk,by simp,.inr ⟨this,h.symm⟩⟩
    ·rw[qZ hc]at h
     simp at h
     exact⟨kk,by simp,.inl h⟩
   ·have e':(x == n)=false:=by simpa using hx
    have:∀b:Bool,(if b=true then(n,NameKind.cell)else(n,kk)).1=n:=fun b=>by cases b<;>rfl
    rw[List.lookup_cons,this,e']at h
    obtain⟨k',h1,h2⟩:=ih h
    exact⟨k',by rw[List.lookup_cons,e'];exact h1,h2⟩
 exact go scope.names h
theorem y1 {scope:Scope}{env:Env}{x:Str}(h:scope.names.lookup x=some .free):(relabel scope env).names.lookup x=some .cell\/(relabel scope env).names.lookup x=some .free:=by
 have go:∀(l:List (Str×NameKind)),l.lookup x=some .free->(l.map fun(n,k)=>if(k == NameKind.free && env.scope.kind == .function && env.kindOf n == some .cell)then(n,NameKind.cell)else(n,k)).lookup x=some .cell\/(l.map fun(n,k)=>if(k == NameKind.free && env.scope.kind == .function && env.kindOf n == some .cell)then(n,NameKind.cell)else(n,k)).lookup x=some .free:=by
  intro l
  induction l with
  |nil=>intro h;simp at h
  |cons p r ih=>
   obtain⟨n,kk⟩:=p
   intro h
   simp only[qR]
   by_cases hx:x=n
   ·subst hx
    simp at h
    by_cases hc:(kk == NameKind.free && env.scope.kind == .function && env.kindOf x == some .cell)=true
    ·rw[Q0 hc];simp
    ·rw[qZ hc];simp[h]
   ·have e':(x == n)=false:=by simpa using hx
    have t:∀b:Bool,(if b=true then(n,NameKind.cell)else(n,kk)).1=n:=fun b=>by cases b<;>rfl
    rw[List.lookup_cons,e']at h
    rw[List.lookup_cons,t,e']
    exact ih h
 exact go scope.names h
section
variable {prog:Program}{w:World}{A:Around}{R:Result->Shared->Prop}{s:Shared}
theorem Cl {elt target iter:Expr}{ifs:List Expr}{scope:Scope}{pos:Pos}{it acc:Value}{env:Env}(I:Nat->Shared->Prop)
 (turn:∀n s,I n s->wpAny (model prog w) A (pyNext it) (fun r s₁=>match r with
  |none=>R (.ok .next) s₁
  |some v=>wpAny (model prog w) A (letOwnedTupleGo target it v) (fun _ s₁'=>wpAny (model prog w) A (assign target env v) (fun _ s₂=>
   wpAny (model prog w) A (forIn ifs true fun c r=>if r=true then do let ok <- isTrue c env (eval c env);pure (ForInStep.yield ok)else pure (ForInStep.yield r)) (fun ok s₃=>
    if ok=true then wpAny (model prog w) A (eval elt env) (fun x s₄=>
     wpAny (model prog w) A (call (.builtin "list.append") [acc,x]) (fun _ s₅=>∃m,m<n/\I m s₅) (fun _ _=>False) s₄) (fun _ _=>False) s₃
    else ∃m,m<n/\I m s₃) (fun _ _=>False) s₂) (fun _ _=>False) s₁') (fun _ _=>False) s₁) (fun _ _=>False) s)
 (n:Nat) (h:I n s):
 codeAny (model prog w) A (.compLoop (.ListComp elt [⟨target,iter,ifs,0⟩] scope pos) 0 it acc env) R s:=by
 refine codeAny_loop rfl I (fun n s hI=>?_) n h
 show wpAny _ A ((compTurn (.ListComp elt [⟨target,iter,ifs,0⟩] scope pos) 0 it acc env).onRaise (fun x=>do noteFrame x env;theTreesLotGoes x)) _ _ s
 refine wpAny_noted ?_
 rw[compTurn_list]
 refine q4 (wpAny_standAt (q4 (wpAny_mono (turn n s hI) (fun r s₁ h₁=>?_) fun _ _ h'=>h'.elim)))
 cases r with
 |none=>exact qc h₁
 |some v=>
  refine q4 (wpAny_mono h₁ (fun _ s₁' h₁'=>?_) fun _ _ h'=>h'.elim)
  refine q4 (wpAny_mono h₁' (fun _ s₂ h₂=>q4 (wpAny_mono h₂ (fun ok s₃ h₃=>?_) fun _ _ h'=>h'.elim)) fun _ _ h'=>h'.elim)
  cases ok with
  |false=>exact qc ⟨rfl,h₃⟩
  |true=>
   exact q4 (q4 (wpAny_mono h₃ (fun x s₄ h₄=>q4 (wpAny_mono h₄ (fun _ s₅ h₅=>qc (qc ⟨rfl,h₅⟩)) fun _ _ h'=>h'.elim)) fun _ _ h'=>h'.elim))
end
structure aX (esc:Scope) (N:List Str) (scope:Scope) (k:Nat) (Nc:List Str) (js:List Nat):Prop where
 kind:scope.kind=.function
 cell:∀y∈scope.names,y.2≠.cell
 names:∀y∈scope.names,y.2=.local->scope.names.lookup y.1=some .local
 free:∀y∈scope.names,y.2=.free->esc.names.lookup y.1=some .cell\/esc.names.lookup y.1=some .free
 len:Nc.length=k+js.length
 out:∀p∈(Nc.drop k).zip js,N[p.2]?=some p.1/\scope.names.lookup p.1=some .free
def eU (k:Nat) (js:List Nat) (σ:St):St:=List.replicate k none++js.map fun j=>(σ[j]?).join
def Cx.comp (X:Cx) (pins:List (Addr×Obj)) (Nc:List Str) (scope:Scope) (fp:List Addr) (s:Shared) (H:Hp) (C:Addr):Cx:=
 { X with N:=Nc,s₀:=s,H₀:=H,env:=compEnvC scope (ck X.env.cells scope.names []) C X.env,outer:=X.stack,stack:=X.stack,ex:=fp,fn:=fun _=>false,pn:=X.pn++pins,xe:=fun _ _=>False }
section
variable {X:Cx}{pins:List (Addr×Obj)}{σ:St}{H:Hp}{s:Shared}{scope:Scope}{Nc:List Str}{js:List Nat}{k:Nat}
theorem aX.some (S:aX X.env.scope X.N scope k Nc js) (I:Inv X pins σ H s):∀y∈scope.names,y.2=.free->∃c,X.env.cells.lookup y.1=some c:=fun y hy hk=>I.ok.has y.1 (S.free y hy hk)
theorem aX.clos (S:aX X.env.scope X.N scope k Nc js) (I:Inv X pins σ H s):closureFor scope X.env=pure (ck X.env.cells scope.names []):=Co (S.some I)
theorem Ci (S:aX X.env.scope X.N scope k Nc js) (I:Inv X pins σ H s) {fp:List Addr}(hf:∀b∈fp,bW X pins H b) (hlt:∀b∈fp,b<s.heap.objs.size) {C:Addr}(hC:s.heap.objs.size<=C):(X.comp pins Nc scope fp s H C).Ok:=by
 have ltC:∀b,b<s.heap.objs.size->b≠C:=fun b hb=>qF (qC hb hC)
 have notstk:∀b∈fp,b∉frs X.stack:=fun b hb z=>by
  rcases qt.mp (I.stkSub b z)with e|e
  ·exact(hf b hb).2.1 e
  ·exact(hf b hb).2.2.1 e
 refine⟨I.ok.mod,S.kind,I.ok.glob,I.ok.blt,hC,fun x y c h1 h2=>I.ok.inj x y c (eB h1) (eB h2),fun x hx=>?_,fun x c h=>?_,I.ok.hd,I.ok.frames,.inl rfl,fun b hb=>⟨?_,fun x c e=>(hf b hb).2.2.2.2.1 x c (eB e)⟩,
  fun b o e=>⟨(I.bs b o e).1,(I.bs b o e).2⟩,qx I.ok.bsz I.sz,fun b o e hb=>?_,notstk,I.stack,I.stkFree⟩
 ·have hx':(relabel scope X.env).names.lookup x=some .cell\/(relabel scope X.env).names.lookup x=some .free:=hx
  have hfree:(x,NameKind.free)∈scope.names:=by
   rcases hx' with h|h
   ·obtain⟨k',h1,h2⟩:=pZ h
    rcases h2 with rfl|⟨rfl,_⟩
    ·exact absurd rfl (S.cell _ (PySem.mem_of_lookup h1))
    ·exact PySem.mem_of_lookup h1
   ·obtain⟨k',h1,h2⟩:=pZ h
    rcases h2 with rfl|⟨rfl,_⟩
    ·exact PySem.mem_of_lookup h1
    ·exact PySem.mem_of_lookup h1
  obtain⟨c,hc⟩:=S.some I (x,.free) hfree rfl
  exact⟨c,tU hfree hc⟩
 ·exact absurd (show false=true from h) qh
 ·exact ltC b (hlt b hb)
 ·rcases(hf b hb).2.2.2.1 with q|q
  ·exact I.ok.noex b o e q
  ·exact absurd (qC (qp e) (qx I.ok.bsz q)) (Nat.lt_irrefl _)
theorem Cj (S:aX X.env.scope X.N scope k Nc js) (I:Inv X pins σ H s) {fp:List Addr}(hf:∀b∈fp,bW X pins H b) (hlt:∀b∈fp,b<s.heap.objs.size) {C:Addr}(hC:s.heap.objs.size<=C) {s1:Shared}
 (os:s1.os=s.os) (bare:AllBare s1.gens) (kept:∀b o,s.heap.get? b=some o->s1.heap.get? b=some o) (ns:∃m,s1.heap.Ns C m):Inv (X.comp pins Nc scope fp s H C) [] (eU k js σ) H s1:=by
 have ltC:∀b,b<s.heap.objs.size->b≠C:=fun b hb=>qF (qC hb hC)
 refine⟨Ci S I hf hlt hC,os,bare,Un.kept kept,?_,fun x c e=>?_,I.hok.fresh hC,fun x c e=>I.freeC x c (eB e),fun p hp=>?_,I.hok.kept kept,?_⟩
 ·obtain⟨mc,hns⟩:=ns
  refine⟨mc,hns,fun i x v e1 e2 e3=>?_⟩
  have e1':Nc[i]?=some x:=e1
  by_cases hi:i<k
  ·unfold eU at e2
   rw[List.getElem?_append_left (by simpa using hi),List.getElem?_replicate,Q0 hi]at e2
   cases e2
  ·obtain⟨i',rfl⟩:∃i',i=k+i':=⟨i-k,Qo⟩
   unfold eU at e2
   rw[qK (by simp),List.length_replicate,Nat.add_sub_cancel_left,qD]at e2
   cases ej:js[i']? with
   |none=>rw[ej]at e2;cases e2
   |some j=>
    rw[ej]at e2
    have e2':(σ[j]?).join=some v:=qI e2
    have e4:σ[j]?=some (some v):=by
     cases q:σ[j]? with
     |none=>rw[q]at e2';cases e2'
     |some z=>rw[q]at e2';cases z with
      |none=>cases e2'
      |some z=>cases e2';rfl
    have hm:(x,j)∈(Nc.drop k).zip js:=qy (i:=i') (List.getElem?_zip_eq_some.mpr ⟨by rw[List.getElem?_drop];exact e1',ej⟩)
    obtain⟨hN,hfr⟩:=S.out _ hm
    have hfm:(x,NameKind.free)∈scope.names:=PySem.mem_of_lookup hfr
    have hk:=S.free _ hfm rfl
    obtain⟨m,hn,hl⟩:=I.loc
    obtain⟨u,r,l⟩:=hl j x v hN e4 (.inr hk)
    refine⟨u,r,?_⟩
    rcases l with⟨hk',_⟩|⟨_,c,hc,o,ho,hd⟩
    ·have hk'':X.env.scope.names.lookup x=some .local:=hk'
     rcases hk with hk|hk
     ·rw[hk]at hk'';cases hk''
     ·rw[hk]at hk'';cases hk''
    ·exact .inr ⟨y1 hfr,c,tU hfm hc,o,kept _ _ ho,hd⟩
 ·obtain⟨v,o,ho,hd⟩:=I.cell x c (eB e)
  exact⟨v,o,kept _ _ ho,hd⟩
 ·have hp':p∈X.pn++pins:=by
   rcases qg.mp hp with z|z
   ·exact z
   ·exact nomatch z
  obtain⟨e,n,ne,nf,d⟩:=I.pin p hp'
  refine⟨kept _ _ e,n,ltC _ (qp e),fun z=>?_,d⟩
  rcases qt.mp (I.stkSub _ z)with q|q
  ·exact ne q
  ·exact nf q
 ·show(eU k js σ).length=Nc.length
  unfold eU
  rw[qa,List.length_replicate,q5,S.len]
theorem Ck (I:Inv X pins σ H s) {fp:List Addr}(hf:∀b∈fp,bW X pins H b) {C D:Addr}(hDs:s.heap.objs.size<=D) {pins':List (Addr×Obj)}{σ':St}{H':Hp}{s':Shared}{ys:List V}{its:List Value}{n:Nat}
 (J:Inv (X.comp pins Nc scope fp s H C) pins' σ' H' s') (hD:H' D=none) (hz:ys.length<=sizeLine) (hv:au ys its) (ho:s'.heap.get? D=some { cls:=.type "list",data:=.seq its.toArray n }):
 Inv X pins σ (upd H' D (.lst ys)) s':=by
 have B:Un (frs X.stack) fp H H' s.heap s'.heap:=J.base
 have neD:∀b o,s.heap.get? b=some o->b≠D:=fun b o e=>qF (qC (qp e) hDs)
 refine I.call' (ch:=fp) J.os ⟨B.keep,B.slot,fun b o e n hx=>?_,B.there,fun b xs e=>?_,fun b o u e=>?_,fun b ps e=>?_⟩ (fun b o e=>?_) J.bare fun b hb=>⟨(hf b hb).2.2.2.1,(hf b hb).2.1,(hf b hb).2.2.2.2.1,(hf b hb).2.2.2.2.2⟩
 ·rw[aj (neD b o e)];exact B.free b o e n hx
 ·rw[aj (bJ (B.tups b xs e) hD)];exact B.tups b xs e
 ·rw[aj (bJ (B.frzs b o u e) hD)];exact B.frzs b o u e
 ·obtain⟨more,q⟩:=B.tbls b ps e
  exact⟨more,by rw[aj (bJ q hD)];exact q⟩
 ·by_cases hb:b=D
  ·subst hb
   rw[ae]at e
   cases e
   exact⟨hz,its,n,hv,ho⟩
  ·rw[aj hb]at e
   exact(J.hok b o e).stay (fun c v _ q=>q) (fun c q=>by rw[aj (bJ q hD)];exact q) fun c xs q=>by rw[aj (bJ q hD)];exact q
end
def PTs (Y:Cx) (ifs:List Expr) (t:TT):Prop:=
 ∀(pins:List (Addr×Obj)) (s:Shared) (σ:St) (H:Hp) (Q:Bool->Hp->Prop),Inv Y pins σ H s->t σ H Q->
  wpAny (model Y.prog Y.w) Y.A (forIn ifs true fun c r=>if r=true then do let ok <- isTrue c Y.env (eval c Y.env);pure (ForInStep.yield ok)else pure (ForInStep.yield r)) (TP Y pins σ Q) Y.xe s
def gj:TT:=fun _ H Q=>Q true H
theorem cT {Y:Cx}:PTs Y [] gj:=fun _ _ _ H _ I h=>wpAny_tests_nil ⟨H,I,h⟩
theorem rJ {Y:Cx}{c:Expr}{t:TT}(h:PT Y c t):PTs Y [c] t:=fun pins s σ H Q I hq=>wpAny_tests_one (h pins s σ H Q I hq)
def f8 (J:It) (g:TG) (tt:TT) (te:TE) (Fin:List V->Hp->Prop) (W:Nat->Nat->List V->St->Hp->Prop):Prop:=
 ∀i m ys σ H,W i m ys σ H->(J.stop i H/\ys.length<=sizeLine/\Fin ys H)\/(J.go i H/\ys.length<sizeLine/\∃N:List V->St->Hp->Prop,(∀ys' σ' H',N ys' σ' H'->∃m',m'<m/\W (i+1) m' ys' σ' H') /\
  ∀x H',J.yld i H x H'->g x σ H' fun σ2 H2=>tt σ2 H2 fun b H3=>if b=true then te σ2 H3 fun y H4=>N (ys++[y]) σ2 H4 else N ys σ2 H3)
section
variable {X:Cx}{pins:List (Addr×Obj)}{σ:St}{H:Hp}{s:Shared}{scope:Scope}{Nc:List Str}{js:List Nat}{k:Nat}{tg iter elt:Expr}{ifs:List Expr}{pos:Pos}{g:TG}{tt:TT}{te:TE}
theorem uE {J:It}{fp:List Addr}{it:Addr}{tn:Nat->Heap->Prop}{Fin:List V->Hp->Prop}{W:Nat->Nat->List V->St->Hp->Prop}{RR:Value->Addr->Result->Shared->Prop}{E:Qq}{m0:Nat}
 (S:aX X.env.scope X.N scope k Nc js) (hc:X.calm=true) (I:Inv X pins σ H s) (T:eW X.prog X.w X.K tg J fp it tn) (st:tn 0 s.heap) (hf:∀b∈fp,bW X pins H b)
 (hg:∀pins fp s H C,PG (X.comp pins Nc scope fp s H C) tg g) (ht:∀pins fp s H C,PTs (X.comp pins Nc scope fp s H C) ifs tt) (he:∀pins fp s H C,PE (X.comp pins Nc scope fp s H C) elt te)
 (w0:W 0 m0 [] (eU k js σ) H) (turn:f8 J g tt te Fin W)
 (hRR:∀D C s' ys H',Inv X pins σ (upd H' D (.lst ys)) s'->bW X pins (upd H' D (.lst ys)) C->(∃m,s'.heap.Ns C m)->H' D=none->Fin ys H'->RR (.ref D) C (.ok .next) s'):
 wpAny (model X.prog X.w) X.A (newList []) (fun acc s₃=>wpAny (model X.prog X.w) X.A (newFunctionEnv scope X.env.globals (ck X.env.cells scope.names []) [] X.env.qual none .none (some X.env)) (fun cenv s₄=>
  codeAny (model X.prog X.w) X.A (.compStart (.ListComp elt [⟨tg,iter,ifs,0⟩] scope pos) 0 (.ref it) acc { cenv with scope:=relabel scope X.env }) (RR acc cenv.locals) s₄) E s₃) E s:=by
 refine wpAny_newObj_type (wpAny_newFunctionEnv S.cell (by intro y hy;simp at hy) (fun h₁ hns₁ hsb₁=>?_) S.kind)
 dsimp only at hns₁ hsb₁ ⊢
 generalize hH2:s.heap.push { cls:=.type "list",dict:=none,data:=.seq ([]:List Value).toArray }=H2 at hns₁ hsb₁ ⊢
 have hC:H2.objs.size=s.heap.objs.size+1:=by rw[<- hH2,Heap.size_push]
 have hCle:s.heap.objs.size<=H2.objs.size:=by rw[hC];exact Nat.le_succ _
 have hDC:s.heap.objs.size≠H2.objs.size:=by rw[hC];exact qF (Nat.lt_succ_self _)
 have old:∀b o,s.heap.get? b=some o->h₁.get? b=some o:=fun b o e=>
  hsb₁.extBut b o (qF (qC (qp e) hCle)) (q9 _ (hH2▸q9 _ e))
 have hacc:h₁.get? s.heap.objs.size=some { cls:=.type "list",data:=.seq ([]:List Value).toArray 0 }:=hsb₁.extBut _ _ hDC (q9 _ (hH2▸qo _ rfl))
 have hob:∀b∈fp,∃o,s.heap.get? b=some o:=fun b hb=>let ⟨o,e,_⟩:=T.obj 0 _ st b hb;⟨o,e⟩
 have hlt:∀b∈fp,b<s.heap.objs.size:=fun b hb=>let ⟨_,e⟩:=hob b hb;qp e
 have notstk:∀b∈fp,b∉frs X.stack:=fun b hb z=>by
  rcases qt.mp (I.stkSub b z)with e|e
  ·exact(hf b hb).2.1 e
  ·exact(hf b hb).2.2.1 e
 have hDstk:s.heap.objs.size∉frs X.stack:=fun z=>by
  rcases qt.mp (I.stkSub _ z)with e|e
  ·have:=I.lt
   rw[<- e]at this
   exact Nat.lt_irrefl _ this
  ·exact I.nofs (qd _) e
 let dpin:List Value->Nat->List (Addr×Obj):=fun its n=>[(s.heap.objs.size,{ cls:=.type "list",data:=.seq its.toArray n })]
 have fpok:∀{H':Hp}{its:List Value}{n:Nat},(∀b∈fp,H' b=none)->∀b∈fp,bW (X.comp pins Nc scope fp s H H2.objs.size) (dpin its n) H' b:=fun{H' its n} hn b hb=>
  ⟨hn b hb,qF (qC (hlt b hb) hCle),notstk b hb,.inl hb,fun x c e=>(hf b hb).2.2.2.2.1 x c (eB e),fun p hp z=>by
   rcases qg.mp hp with q|q
   ·exact(hf b hb).2.2.2.2.2 p q z
   ·have e:p=(s.heap.objs.size,_):=qS.mp q
    rw[e]at z
    exact absurd (hlt b hb) (by rw[<- z];exact Nat.lt_irrefl _)⟩
 have loop:∀s₃:Shared,s₃={ s with heap:=h₁,toks:=s.toks+([]:List (Str×Value)).length }->
  codeAny (model X.prog X.w) X.A (.compLoop (.ListComp elt [⟨tg,iter,ifs,0⟩] scope pos) 0 (.ref it) (.ref s.heap.objs.size) (compEnvC scope (ck X.env.cells scope.names []) H2.objs.size X.env)) (RR (.ref s.heap.objs.size) H2.objs.size) s₃:=by
  rintro s₃ rfl
  refine Cl (fun n s'=>∃i ys its nn σc H',Inv (X.comp pins Nc scope fp s H H2.objs.size) [] σc H' s'/\tn i s'.heap/\(∀b∈fp,H' b=none)/\H' s.heap.objs.size=none/\au ys its /\
   s'.heap.get? s.heap.objs.size=some { cls:=.type "list",data:=.seq its.toArray nn }/\W i n ys σc H') ?_ m0 ?_
  ·rintro n s3 ⟨i,ys,its,nn,σ3,H3,I3,st3,fr3,hD3,hv3,ho3,w3⟩
   have I3':Inv (X.comp pins Nc scope fp s H H2.objs.size) (dpin its nn) σ3 H3 s3:=I3.pins_of fun p hp=>by
    have e:p=(s.heap.objs.size,_):=qS.mp hp
    subst e
    exact⟨ho3,hD3,hDC,hDstk,fun v z=>by cases z⟩
   rcases turn i n ys σ3 H3 w3 with⟨stop,hz,fin⟩|⟨go,hz,N,hN,step⟩
   ·refine thn (T.done (X.comp pins Nc scope fp s H H2.objs.size) rfl rfl rfl hc i (dpin its nn) s3 σ3 H3 (fun _ _=>False) I3' (fpok fr3) st3 stop) fun r s4 ⟨hr,I4⟩=>?_
    subst hr
    have ho4:=(I4.pin _ (qH _ (qS.mpr rfl))).1
    obtain⟨m4,hn4,_⟩:=I4.loc
    refine hRR _ _ s4 ys H3 (Ck I hf (qd _) I4 hD3 hz hv3 ho4) (I.fpOk hCle ?_) ⟨m4,hn4⟩ hD3 fin
    rw[aj (Ne.symm hDC)]
    exact I4.free
   ·refine thn (T.item (X.comp pins Nc scope fp s H H2.objs.size) rfl rfl rfl hc i (dpin its nn) s3 σ3 H3 (fun _ _=>False) I3' (fpok fr3) st3 go) fun r s4 ⟨u,hr,h4⟩=>?_
    subst hr
    refine thn h4 fun _ s5 ⟨x,H5,I5,r5,y5,st5,fr5⟩=>?_
    have I5':=I5.pinned (fpok fr5) (T.obj _ _ st5)
    refine thn (hg pins fp s H H2.objs.size _ s5 σ3 H5 x u _ I5' r5 (step x H5 y5)) fun _ s6 ⟨σ6,H6,I6,q6⟩=>?_
    refine thn (ht pins fp s H H2.objs.size _ s6 σ6 H6 _ I6 q6) fun ok s7 ⟨H7,I7,q7⟩=>?_
    have keepIt:∀{σ':St}{H':Hp}{s':Shared},Inv (X.comp pins Nc scope fp s H H2.objs.size) (dpin its nn++gK fp s5.heap) σ' H' s'->
     s'.heap.get? s.heap.objs.size=some { cls:=.type "list",data:=.seq its.toArray nn }/\H' s.heap.objs.size=none/\(∀b∈fp,H' b=none)/\(∀b∈fp,∀o,s5.heap.get? b=some o->s'.heap.get? b=some o):=fun{σ' H' s'} J=>by
     have p1:=J.pin (s.heap.objs.size,_) (qH _ (qV _ (qS.mpr rfl)))
     refine⟨p1.1,p1.2.1,fun b hb=>?_,fun b hb o e=>(J.pin (b,o) (qH _ (qH _ (j5 hb e)))).1⟩
     obtain⟨o,e,_⟩:=T.obj _ _ st5 b hb
     exact(J.pin (b,o) (qH _ (qH _ (j5 hb e)))).2.1
    cases ok with
    |true=>
     rw[Q0 rfl]at q7 ⊢
     refine thn (he pins fp s H H2.objs.size _ s7 σ6 H7 _ I7 q7) fun y s8 ⟨v,H8,I8,r8,q8⟩=>?_
     obtain⟨ho8,hD8,fr8,k8⟩:=keepIt I8
     refine append_at (hsz:=by have:=hv3.length;show its.toArray.size<=sizeLine;rw[qA,<- this];exact Nat.le_of_lt hz) ho8 fun h9 hs9 ho9=>?_
     obtain⟨m',hm',w9⟩:=hN _ _ _ q8
     have I8u:Inv (X.comp pins Nc scope fp s H H2.objs.size) [] σ6 H8 s8:=I8.pins_of fun p hp=>nomatch hp
     have I9:Inv (X.comp pins Nc scope fp s H H2.objs.size) [] σ6 H8 { s8 with heap:=h9 }:=I8u.turned (t':=s8.toks) (it:=s.heap.objs.size) (fun b o hb e=>(hs9.2 b hb).trans e) hD8 hDC (.inr (qd _)) (fun x c e z=>by
      obtain⟨v,q⟩:=I.cell x c (eB e)
      exact absurd q.lt (by rw[z];exact Nat.lt_irrefl _)) fun p hp z=>by
       have hp':p∈X.pn++pins:=by
        rcases qg.mp hp with q|q
        ·exact q
        ·exact nomatch q
       exact absurd (qp (I.pin p hp').1) (by rw[z];exact Nat.lt_irrefl _)
     refine⟨m',hm',i+1,ys++[v],its++[y],nn+1,σ6,H8,I9,T.keep _ _ _ st5 fun b hb o e=>(hs9.2 b (qF (hlt b hb))).trans (k8 b hb o e),fr8,hD8,hv3.append (.cons r8 .nil),?_,w9⟩
     show h9.get? s.heap.objs.size=_
     rw[ho9]
     simp
    |false=>
     rw[qZ qh]at q7 ⊢
     obtain⟨ho8,hD8,fr8,k8⟩:=keepIt I7
     obtain⟨m',hm',w9⟩:=hN _ _ _ q7
     exact⟨m',hm',i+1,ys,its,nn,σ6,H7,I7.pins_of fun p hp=>(nomatch hp),T.keep _ _ _ st5 k8,fr8,hD8,hv3,ho8,w9⟩
  ·exact⟨0,[],[],0,_,H,Cj S I hf hlt hCle rfl I.bare old ⟨_,hns₁⟩,T.keep _ _ _ st fun b _ o e=>old b o e,fun b hb=>(hf b hb).1,I.hok.fresh (qd _),.nil,hacc,w0⟩
 exact codeAny_compStart_list (loop _ rfl) (T.self X.A 0 _ _ _ (T.keep _ _ _ st fun b _ o e=>old b o e) (loop _ rfl))
def oj (wi:TI) (k:Nat) (js:List Nat) (g:TG) (tt:TT) (te:TE):TE:=fun σ H Q=>wi σ H fun J H1=>∃W:Nat->Nat->List V->St->Hp->Prop,(∃m,W 0 m [] (eU k js σ) H1) /\
 f8 J g tt te (fun ys H=>∀D,H D=none->Q (.ref D) (upd H D (.lst ys))) W
theorem cL {wi:TI}(S:aX X.env.scope X.N scope k Nc js) (hc:X.calm=true) (hi:PI X tg iter wi)
 (hg:∀pins fp s H C,PG (X.comp pins Nc scope fp s H C) tg g) (ht:∀pins fp s H C,PTs (X.comp pins Nc scope fp s H C) ifs tt) (he:∀pins fp s H C,PE (X.comp pins Nc scope fp s H C) elt te)
 (hs:∀x,foldedSetIterable iter X.env x=pure x:=by intro _;rfl):PE X (.ListComp elt [⟨tg,iter,ifs,0⟩] scope pos) (oj wi k js g tt te):=by
 intro pins s σ H Q I h
 rw[eval_ListComp]
 refine wpAny_comprehension_free (use:=none) rfl hs (S.clos I) S.kind S.names (thn (hi pins s σ H _ I h) fun xv s1 h1=>thn h1 fun itv s2 h2=>?_)
 obtain⟨it,fp,tn,J,H2,e,I2,T,st2,f2,W,⟨m0,w0⟩,turn⟩:=h2
 subst e
 refine uE (RR:=fun acc C=>compPost (model X.prog X.w) X.A X.xe none (EP X pins σ Q) acc C) S hc I2 T st2 f2 hg ht he w0 turn fun D C s' ys H' I' fC ns hD fin=>?_
 obtain⟨m,hn⟩:=ns
 exact⟨m,hn,fun h' hs'=>⟨.ref D,_,I'.turned (t':=s'.toks) (fun b o hb e=>(hs'.2 b hb).trans e) fC.1 fC.2.1 fC.2.2.2.1 fC.2.2.2.2.1 fC.2.2.2.2.2,rfl,fin D hD⟩⟩
theorem yB {wi:TI}{i:Nat}{x:Str}{px spos:Pos}(hN:X.N.Nodup) (hi':X.N[i]?=some x) (hx:Loc X.env.scope x) (S:aX X.env.scope X.N scope k Nc js) (hc:X.calm=true) (hi:PI X tg iter wi)
 (hg:∀pins fp s H C,PG (X.comp pins Nc scope fp s H C) tg g) (ht:∀pins fp s H C,PTs (X.comp pins Nc scope fp s H C) ifs tt) (he:∀pins fp s H C,PE (X.comp pins Nc scope fp s H C) elt te)
 (hsw:swapsWith (.ListComp elt [⟨tg,iter,ifs,0⟩] scope pos) (some (.Name x px)) spos.line X.env=pure true:=by rfl)
 (hs:∀x,foldedSetIterable iter X.env x=pure x:=by intro _;rfl) (hf:X.fn x=true\/X.env.scope.names.lookup x=some .local:=by first|exact .inl rfl|exact .inr rfl|assumption):
 PS X (.Assign [.Name x px] (.ListComp elt [⟨tg,iter,ifs,0⟩] scope pos) spos) (jR (oj wi k js g tt te) (hE i)):=by
 intro pins s σ H D I h
 rw[exec_Assign_Name_used _ _ _ _ hsw]
 refine q4 (wpAny_standAt (q4 ?_))
 show wpAny _ X.A (do let _ <- comprehension (.ListComp elt [⟨tg,iter,ifs,0⟩] scope pos) scope X.env _ (newList []) false (eval iter X.env) (some (assign (.Name x px) X.env))) _ _ s
 refine q4 (wpAny_mono (wpAny_comprehension_free (use:=some (assign (.Name x px) X.env)) (Q:=fun _ s'=>SP X pins D .next s') rfl hs (S.clos I) S.kind S.names
  (thn (hi pins s σ H _ I h) fun xv s1 h1=>thn h1 fun itv s2 h2=>?_)) (fun _ s' hq=>qc (qc hq)) fun _ _ e=>e)
 obtain⟨it,fp,tn,J,H2,e,I2,T,st2,f2,W,⟨m0,w0⟩,turn⟩:=h2
 subst e
 refine uE (RR:=fun acc C=>compPost (model X.prog X.w) X.A X.xe (some (assign (.Name x px) X.env)) (fun _ s'=>SP X pins D .next s') acc C) S hc I2 T st2 f2 hg ht he w0 turn fun A C s' ys H' I' fC ns hD fin=>?_
 obtain⟨m,hn⟩:=ns
 show wpAny _ X.A (assign (.Name x px) X.env (.ref A)) _ _ _
 refine wpAny_assign_Name (or I' hN hi' hx (v:=.ref A) rfl (fun s'' I'' ⟨a,sb,ha⟩=>?_) hf)
 have hCa:C≠a:=by
  rcases ha with ha|ha
  ·rw[ha];exact fC.2.1
  ·exact fun z=>fC.2.2.2.2.1 x a ha z.symm
 exact⟨m,hn.sameBut sb hCa,fun h' hs'=>⟨_,_,I''.turned (t':=s''.toks) (fun b o hb e=>(hs'.2 b hb).trans e) fC.1 fC.2.1 fC.2.2.2.1 fC.2.2.2.2.1 fC.2.2.2.2.2,fin A hD⟩⟩
end
section
variable {X:Cx}{tg:Expr}
def y6:V->Option Int->Option Int->Hp->VK->Prop:=fun x lo hi H Q=>∃z,x=.str z/\z.length<=sizeLine/\Q (.str (Txt.slice z lo hi)) H
theorem x5:SlR X y6:=by
 intro pins s σ H x v vl vu lo hi sl Q I rx hs pl pu h
 obtain⟨z,rfl,hz,q⟩:=h
 obtain⟨t,rfl⟩:=rx
 refine⟨"str",_,PySem.F.slot_str_getitem.lookup,typeIs_str _ _ _,?_⟩
 have fin:∀t' k,EP X pins σ Q (.str (Txt.slice z lo hi) t') { s with toks:=k }:=fun t' k=>⟨.str _,H,I.tok k,⟨t',rfl⟩,q⟩
 cases pl with
 |none=>
  cases pu with
  |none=>exact wpAny_getItem_str_slice (l:=none) (u:=none) (st:=none) hs rfl (post_val_or_str ⟨qx (Txt.slice_le z _ _) hz,fin⟩)
  |int j tj=>exact wpAny_getItem_str_slice (l:=none) (u:=some (j,tj)) (st:=none) hs rfl (post_val_or_str ⟨qx (Txt.slice_le z _ _) hz,fin⟩)
 |int i ti=>
  cases pu with
  |none=>exact wpAny_getItem_str_slice (l:=some (i,ti)) (u:=none) (st:=none) hs rfl (post_val_or_str ⟨qx (Txt.slice_le z _ _) hz,fin⟩)
  |int j tj=>exact wpAny_getItem_str_slice (l:=some (i,ti)) (u:=some (j,tj)) (st:=none) hs rfl (post_val_or_str ⟨qx (Txt.slice_le z _ _) hz,fin⟩)
theorem rX:OpR X (binaryOp .Mult) (fun x y H Q=>∃z n,x=.str z/\y=.int n/\MulOk z n/\Q (.str (Txt.mul z n)) H):=by
 intro pins s σ H x y v u Q I rx ry h
 obtain⟨z,n,rfl,rfl,hm,q⟩:=h
 obtain⟨t,rfl⟩:=rx
 obtain⟨t',rfl⟩:=ry
 exact PySem.SB.mul hm fun t' k=>⟨.str _,H,I.tok k,⟨t',rfl⟩,q⟩
theorem zk:OpR X (binaryOp .Mult) (rI IntMulOk fun i j=>.int (i * j)):=opI fun _ _ _ _ _ _ _ hc q=>mul_int q hc
theorem uL (hc:X.calm=true):bF X (.builtin "all") (fun xs H Q=>∃(p:Addr) (bs:List Bool),xs=[.ref p]/\SqL X.K H p (bs.map V.bl)/\Q (.bl (bs.all id)) H):=by
 intro pins s σ H xs us Q I r h
 obtain⟨p,bs,rfl,hq,q⟩:=h
 obtain⟨u,rfl,rx⟩:=cR r
 cases rx
 obtain⟨its,rv,pl,hz⟩:=I.list hq
 have hl:=pl.isList
 have hlt:p<s.heap.objs.size:=by obtain⟨_,e,_⟩:=hl;exact qp e
 have hlen:bs.length=its.length:=by have:=rv.length;rwa [q5]at this
 refine call_all_walk (wpAny_pyIter_list hl ?_)
 refine⟨s.heap.objs.size,[s.heap.objs.size,p],[s.heap.objs.size],its.toArray.size,_,_,fun i=>(bs[i]?).getD true,rfl,Walks.list (A:=X.A.in1) (I.ok.hd hc) _ p (qF hlt) its.toArray,
  ⟨⟨_,qo _ rfl,rfl,rfl⟩,hl.push _⟩,fun i v s' Q' E' hP hQ=>?_,fun h' tk hk=>?_⟩
 ·have hP':its[i]?=some v:=by simpa using hP
  have hi:i<bs.length:=by rw[hlen];exact(qe.mp hP').1
  obtain⟨u',hu,ru⟩:=rv.get (i:=i) (x:=.bl bs[i]) (by rw[qD,qb hi];rfl)
  rw[hP']at hu
  cases hu
  have e:v=.bool bs[i]:=ru
  subst e
  simp only[qb hi,Option.getD_some]at hQ
  exact wpAny_truthy_bool hQ
 ·have e:((List.range its.toArray.size).all fun i=>(bs[i]?).getD true)=bs.all id:=by
   rw[qA,<- hlen];exact PyProof.Rows.LSm.range_all bs
  rw[e]
  exact⟨.bl _,H,I.kept (h':=h') (t':=tk) (fun b o e=>hk b o (fun hm=>by rw[qS.mp hm]at e;exact Nat.lt_irrefl _ (qp e)) (q9 _ e)),rfl,q⟩
theorem CA:bF X (.builtin "isinstance") (fun xs H Q=>∃x t T b,xs=[x,.ty T]/\cu X.K H x t/\PySem.W.kitOne X.K t (.type T)=some b/\Q (.bl b) H):=by
 intro pins s σ H xs us Q I r h
 obtain⟨x,t,T,b,rfl,ty,e,q⟩:=h
 obtain⟨u,c,rfl,ru,rc⟩:=ig r
 have ec:c=.type T:=rc
 subst ec
 exact Be I ru ty e fun tk=>⟨.bl b,H,I.tok tk,rfl,q⟩
def yj (K:PySem.W.Frag):R2:=fun x y H Q=>∃l b xs zs,x=.ref l/\y=.ref b/\SqL K H l xs/\SqL K H b zs/\xs.length+zs.length<=sizeLine/\∀p,H p=none->Q (.ref p) (upd H p (.lst (xs++zs)))
theorem zA:OpR X (binaryOp .Add) (yj X.K):=by
 intro pins s σ H x y v u Q I rx ry h
 obtain⟨l,b,xs,zs,rfl,rfl,hH,hB,hz,q⟩:=h
 cases rx
 cases ry
 obtain⟨its,r,pl,z1⟩:=I.list hH
 obtain⟨its2,r2,pl2,z2⟩:=I.list hB
 have hl1:=r.length
 have hl2:=r2.length
 obtain⟨⟨cls,dd,data,sl⟩,n,ho,hc,_,hd⟩:=pl
 obtain⟨⟨cls2,dd2,data2,sl2⟩,n2,ho2,hc2,_,hd2⟩:=pl2
 simp only at hc hd hc2 hd2
 subst hc hd hc2 hd2
 refine concat_meets ⟨_,ho,rfl⟩ ⟨_,ho2,rfl⟩ noFill_list_add seq_list_add PySem.F.slot_list_add PySem.F.entry_list_add (PySem.F.args_list_add_2 _ _) (list_addW l b its.toArray its2.toArray n n2 dd dd2 sl sl2 (by rw[qA,qA];omega)) ⟨ho,ho2,?_⟩
 have ea:its.toArray++its2.toArray=(its++its2).toArray:=by simp
 rw[ea]
 exact⟨.ref _,_,I.lnew (t':=s.toks) (r.append r2) (by rw[qa];omega),rfl,q _ I.fresh⟩
end
section
variable {X:Cx}
end
theorem nG {te:TE}{N N':V->St->Hp->Prop}{M:St->Hp->Prop}:(fun(σ2:St) (H2:Hp)=>gj σ2 H2 fun b H3=>if b=true then te σ2 H3 fun y H4=>N y σ2 H4 else M σ2 H3)=fun σ2 H2=>te σ2 H2 fun y H4=>N y σ2 H4:=by
 funext σ2 H2
 unfold gj
 dsimp only
 rw[Q0 rfl]
def mY (e:Expr):Option V:=match e with
 |.Constant (.str x) _ _=>some (.str x)
 |.Constant (.int i) _ _=>some (.int i)
 |.Constant (.bool b) _ _=>some (.bl b)
 |.Constant .none _ _=>some .non
 |_=>none
def mX:List Expr->Option (List V)
 |[]=>some []
 |e::es=>match mY e,mX es with
  |some v,some vs=>some (v::vs)
  |_,_=>none
def w6 (vs:List V):TA:=fun _ H Q=>Q vs H
theorem yT {X:Cx}{e:Expr}{v:V}(h:mY e=some v):PE X e (tC v)/\∀es,starEach (e::es) X.env=(false,eval e X.env)::starEach es X.env:=by
 unfold mY at h
 split at h
 ·cases h;exact⟨aF,fun _=>rfl⟩
 ·cases h;exact⟨af,fun _=>rfl⟩
 ·cases h;exact⟨ee,fun _=>rfl⟩
 ·cases h;exact⟨lX,fun _=>rfl⟩
 ·cases h
theorem rV {X:Cx}:∀{es:List Expr}{vs:List V},mX es=some vs->PA X es (w6 vs)
 |[],vs,h=>by cases h;exact ad
 |e::es,vs,h=>by
  unfold mX at h
  split at h
  ·rename_i v ws h1 h2
   cases h
   obtain⟨p,s⟩:=yT (X:=X) h1
   exact a8 p (rV h2) (s es)
  ·cases h
section
variable {X:Cx}
theorem Ae:OpR X (binaryOp .Add) (fun x y H Q=>∃i j,x=.int i/\y=.int j/\Q (.int (i+j)) H):=zD
theorem A9:OpR X (binaryOp .Sub) (fun x y H Q=>∃i j,x=.int i/\y=.int j/\Q (.int (i-j)) H):=yZ
theorem gO:OpR X (binaryOp .Mult) (fun x y H Q=>∃i j,x=.int i/\y=.int j/\IntMulOk i j/\Q (.int (i * j)) H):=zk
theorem Ad:OpR X (binaryOp .FloorDiv) (fun x y H Q=>∃i j,x=.int i/\y=.int j/\(0<j/\j<1073741824)/\Q (.int (i / j)) H):=zu
theorem Aa:OpR X (binaryOp .Mod) (fun x y H Q=>∃i j,x=.int i/\y=.int j/\0<j/\Q (.int (i % j)) H):=zo
theorem fI:OpR X (binaryOp .Pow) (fun x y H Q=>∃i j,x=.int i/\y=.int j/\(0<=j/\j<=1000000/\i.natAbs<2 ^ 64)/\Q (.int (i ^ j.toNat)) H):=zd
theorem Ab:OpR X (compareOp .Lt) (fun x y H Q=>∃i j,x=.int i/\y=.int j/\Q (.bl (decide (i<j))) H):=zq
theorem Ac:OpR X (compareOp .Gt) (fun x y H Q=>∃i j,x=.int i/\y=.int j/\Q (.bl (decide (j<i))) H):=zt
end
end L2
namespace Att
open PySem PySem.W PySem.Calls PyProof.Rows
theorem xA {ns:List Int}(h:WData.layableAll [WData.list (ns.map WData.int)]=true):∀n∈ns,Builtin.Int.intBits n<=2 ^ 20:=fun n hn=>by
 have h1:=layableW_arg h _ (qS.mpr rfl)
 have h2:=layableW_item h1 (WData.int n) (List.mem_map.mpr ⟨n,hn,rfl⟩)
 exact PyData.bits_of_layable (layable0_of_all (lay0_int h2))
theorem attach_callB {l:OpenLaw}{n:Nat}{q:Program}{loose:List Str}{XP:(Str->Option Value)->Heap->Prop}{YP:World->Heap->Prop}{d:DefRec}
 (hn:l.most=some n) (hdf:d.params.defaults=[])
 (call:∀(w:World) (s₀ s₁:Shared) (mg mb:Str->Option Value) (fa:Addr) (o:Obj) (pm cd doc:Value) (a:Addr) (vs:List Value) (ns:List Int),
  Ground q loose [] XP w s₀ mg mb s₁.heap->YP w s₁.heap->
  s₁.heap.get? fa=some o->o.data=.func (docDef d.name d.params d.body d.scope pm cd doc)->s₁.heap.CodeRec cd d.name->mg d.name=some (.ref fa)->
  s₁.heap.get? a=some { cls:=.type "list",data:=.seq vs.toArray }->IntsAre vs ns->ns.length<=n->(∀k∈ns,Builtin.Int.intBits k<=2 ^ 20)->s₁.gens=#[]->
  codeAny (model l.prog w) callerA (.call (.ref fa) ⟨[.ref a],[]⟩) (fun r s'=>r=.ok (.ret (.bool true))/\OldK s₁.heap s'.heap/\s'.os=s₁.os/\AllBare s'.gens) s₁):
 WalkO q loose XP YP l.row.toRowW d [] (fun f vs=>PySem.call f vs):=by
 intro w s₀ s₁ mg mb G Y fa o pm cd doc dV kV ho hd hcd hD hmg hg args vals as hpre hlay hrd hwl hlo
 obtain rfl:dV=.none:=Dflts.none hD hdf
 obtain rfl:kV=.none:=Dflts.noKw hD
 obtain⟨a,vs,ns,rfl,rfl,hobj,hints,hlen⟩:=xy hn hpre hwl
 refine enter_call (codeAny_mono (call w s₀ s₁ mg mb fa o pm cd doc a vs ns G Y ho (fd_plain hd) hcd hmg hobj hints hlen (xA hlay) hg) fun r s' hq=>?_)
 obtain⟨rfl,h2,h3,h4⟩:=hq
 exact⟨.inl ⟨.bool true,.bool true,[],rfl,fun _=>rfl,.bool true,yE l _,fun _=>⟨List.Pairwise.nil,fun _ hm=>(nomatch hm)⟩⟩,h2,h3,h4⟩
end Att
namespace L2
open PySem PySem.Spec PyProof.Rows
theorem vP {l:PySem.W.OpenLaw}{n k:Nat}{q:Program}{loose:List Str}{XP:(Str->Option Value)->Heap->Prop}{YP:World->Heap->Prop}{d:DefRec}{K:Params->PySem.W.Frag}{CX:World->CXT}{sp:World->Sp}{x:Str}
 (hn:l.most=some n) (hn2:n<=sizeLine) (hdf:d.params.defaults=[]) (hr:br k callerA)
 (hY:∀(w:World) (h:Heap),YP w h->(K w.params).In h)
 (F:∀(w:World) (mg:Str->Option Value) (fa:Addr) (h:Heap),(K w.params).In h->h.Ns mainGlobals mg->mg d.name=some (.ref fa)->
  ∃fd:FuncData,(∀(s:Shared) (u:Value),BindsTo s fd ⟨[u],[]⟩ [(x,u)]) /\
   ∀base:Heap,(K w.params).In base->base.Ns mainGlobals mg->aD l.prog w (K w.params) mg base (CX w) k fa fd [x] (sp w))
 (hsp:∀(w:World) (H:Hp) (a:Addr) (ns:List Int),ns.length<=n->(∀k∈ns,Builtin.Int.intBits k<=2 ^ 20)->jC H->SqL (K w.params) H a (ns.map V.int)->sp w [.ref a] H (fun v _=>v=.bl true) fun _ _ _=>False)
 (hCX:∀(w:World) (H:Hp) (s:Shared) (e:Value) (s':Shared),CX w [] H s (fun _ _ _=>False) e s'->False):
 PySem.W.WalkO q loose XP YP l.row.toRowW d [] (fun f vs=>PySem.call f vs):=by
 refine Att.attach_callB hn hdf fun w s₀ s₁ mg mb fa o pm cd doc a vs ns G Y ho hd hcd hmg hobj hints hlen hbits hg=>?_
 have KX:=hY w _ Y
 obtain⟨fd,hb,hF⟩:=F w mg fa _ KX G.T.g hmg
 exact AO KX G.T.g G.T.b G.T.builtins G.T.nolimit hg hobj hints (qx hlen hn2) hr hF hb (fun H hO hS=>hsp w H a ns hlen hbits hO hS) fun H e s'=>hCX w H s₁ e s'
theorem aa.new {H:Hp}{p:Addr}(h:H p=none) (o:HO):aa H (upd H p o):=fun b u q=>by rw[aj (bJ q h)];exact q
theorem aM {n m:Nat}(h:n<=m) (hm:m<=1000000:=by decide):n<=sizeLine:=qx h (qx hm (by rw[sizeLine_eq];decide))
theorem wK (x y:Str):(x++y).length=x.length+y.length:=strLen_append x y
theorem mI {L Pc c A B:Prop}{inst:Decidable c}(hw:¬ c->Pc) (rest:Pc->L) (h:c->(Pc->L)->A) (e:B=L:=by rfl):@ite Prop c inst A B:=by
 subst e
 by_cases hc:c
 ·rw[Q0 hc];exact h hc rest
 ·rw[qZ hc];exact rest (hw hc)
theorem AI {i:Int}(h:i.natAbs<2 ^ 1000):i.natAbs.log2<1920:=by
 by_cases h0:i.natAbs=0
 ·rw[h0];decide
 ·exact Nat.lt_trans ((Nat.log2_lt h0).mpr h) Qk
theorem tY (c:Array Nat):∀(k:Nat) (acc:Array Nat),((List.replicate k c).foldl (·++·) acc).size=acc.size+k * c.size
 |0,acc=>by simp
 |k+1,acc=>by
  rw[List.replicate_succ,List.foldl_cons,tY c k,Array.size_append,Nat.succ_mul]
  omega
theorem Ap (z:Str) {n:Int}(h0:0<=n):(Txt.mul z n).length=z.length * n.toNat:=by
 unfold Txt.mul
 by_cases h1:n<1
 ·rw[Q0 h1]
  have e:n.toNat=0:=Qo
  rw[e,Nat.mul_zero]
  rfl
 ·rw[qZ h1]
  by_cases h2:(n == 1 || z.length == 0)=true
  ·rw[Q0 h2]
   simp only[Bool.or_eq_true,beq_iff_eq]at h2
   rcases h2 with rfl|h2
   ·simp
   ·rw[h2];simp
  ·rw[qZ h2]
   show((List.replicate n.toNat z.cps).foldl (·++·) #[]).size=z.cps.size * n.toNat
   rw[tY]
   simp[Nat.mul_comm]
theorem sJ {z:Str}{n:Int}(hz:z.length<=1000) (h0:0<=n) (h1:n<=1000):MulOk z n:=by
 refine⟨?_,fun h2 _=>?_,fun _ _=>?_⟩
 ·rw[decide_eq_false Qo,decide_eq_false Qo]
  rfl
 ·have h3:(1000:Int)<=(2 ^ 63-1) / n:=by
   rw[Int.le_ediv_iff_mul_le Qo]
   omega
  omega
 ·have h4:z.length * n.toNat<=1000 * 1000:=Nat.mul_le_mul hz Qo
  unfold Builtin.Str.tooLong
  have:=sizeLine_eq
  simp
  omega
def SIt (h:Heap):Bool->Addr->Addr->Nat->Prop
 |false,it,l,k=>h.IsListIter it l k
 |true,it,l,k=>h.IsTupleIter it l k
def SSq (h:Heap):Bool->Addr->Array Value->Prop
 |false,l,xs=>h.IsList l xs
 |true,l,xs=>h.IsTuple l xs
theorem SIt.obj {h:Heap}:∀{b:Bool}{it l:Addr}{k:Nat},SIt h b it l k->∃o,h.get? it=some o/\∃vs,o.data=.fields vs
 |false,_,_,_,⟨o,e,_,d⟩=>⟨o,e,_,d⟩
 |true,_,_,_,⟨o,e,_,d⟩=>⟨o,e,_,d⟩
theorem SIt.keep {h h':Heap}:∀{b:Bool}{it l:Addr}{k:Nat},SIt h b it l k->(∀o,h.get? it=some o->h'.get? it=some o)->SIt h' b it l k
 |false,_,_,_,⟨o,e,r⟩,f=>⟨o,f o e,r⟩
 |true,_,_,_,⟨o,e,r⟩,f=>⟨o,f o e,r⟩
theorem SSq.keep {h h':Heap}:∀{b:Bool}{l:Addr}{xs:Array Value},SSq h b l xs->(∀o,h.get? l=some o->h'.get? l=some o)->SSq h' b l xs
 |false,_,_,⟨o,e,r⟩,f=>⟨o,f o e,r⟩
 |true,_,_,⟨o,e,r⟩,f=>⟨o,f o e,r⟩
theorem SSq.obj {h:Heap}:∀{b:Bool}{l:Addr}{xs:Array Value},SSq h b l xs->∃o,h.get? l=some o/\∃n,o.data=.seq xs n
 |false,_,_,⟨o,e,_,n,d⟩=>⟨o,e,n,d⟩
 |true,_,_,⟨o,e,_,n,d⟩=>⟨o,e,n,d⟩
section
variable {prog:Program}{w:World}{A:Around}{E:Qq}{s:Shared}
theorem Ah {it t:Addr}{k:Nat}{xs:Array Value}{x:Value}{Q:Qq}(hi:s.heap.IsTupleIter it t k) (ht:s.heap.IsTuple t xs) (hx:xs[k]?=some x)
 (q:∀g,g.IsTupleIter it t (k+1)->Heap.SameBut it s.heap g->Q x { s with heap:=g }):wpAny (model prog w) A (Builtin.SmallTypes.nextOf (.ref it)) Q E s:=by
 obtain⟨o,e,c,d⟩:=id hi
 obtain⟨ot,et,_,nt,dt⟩:=ht
 unfold Builtin.SmallTypes.nextOf
 refine q4 (wpAny_callSpecial?_slot (name:=Str.ofString "__next__") hi.typeIs PySem.F.slot_tuple_iterator_next (wpAny_call_entry PySem.F.slot_tuple_iterator_next hi.typeIs PySem.F.entry_tuple_iterator_next ?_ (PySem.F.args_tuple_iterator_next_1 _)))
 show wpAny _ _ (field (.ref it) 0 >>= _) _ _ _;refine q4 (wpAny_field e d (x:=.ref t) rfl ?_)
 show wpAny _ _ (if(Value.ref t == Value.none)=true then _ else _) _ _ _;rw[qZ (show ¬ (Value.ref t == Value.none)=true from qh)]
 show wpAny _ _ (field (.ref it) 1 >>= _) _ _ _;refine q4 (wpAny_field e d (x:=.int k 0) rfl ?_)
 show wpAny _ _ (seqItems? (.ref t) >>= _) _ _ _;refine q4 (wpAny_seqItems et dt ?_)
 simp only[qX,hx];refine q4 (wpAny_setField e d (by simp) (qc ⟨x,rfl,qc (q _ ?_ (Heap.SameBut.update ..))⟩))
 exact⟨_,Heap.get?_update_self _ e (Obj.isFreed_of_fields (Obj.data_mapFields d _)),(Obj.cls_mapFields ..).trans c,by rw[Obj.data_mapFields d];simp[rawInt]⟩
theorem Ai {it t:Addr}{k:Nat}{xs:Array Value}{Q:Qq}(hh:A.handled=none) (hi:s.heap.IsTupleIter it t k) (ht:s.heap.IsTuple t xs) (hx:xs[k]?=none)
 (q:∀g x,Heap.ExtBut it s.heap g->(∃o,g.get? x=some o/\o.cls=.type "StopIteration")->E (.ref x) { s with heap:=g }):wpAny (model prog w) A (Builtin.SmallTypes.nextOf (.ref it)) Q E s:=by
 obtain⟨o,e,c,d⟩:=id hi
 obtain⟨ot,et,_,nt,dt⟩:=ht
 unfold Builtin.SmallTypes.nextOf
 refine q4 (wpAny_callSpecial?_slot (name:=Str.ofString "__next__") hi.typeIs PySem.F.slot_tuple_iterator_next (wpAny_call_entry PySem.F.slot_tuple_iterator_next hi.typeIs PySem.F.entry_tuple_iterator_next ?_ (PySem.F.args_tuple_iterator_next_1 _)))
 show wpAny _ _ (field (.ref it) 0 >>= _) _ _ _;refine q4 (wpAny_field e d (x:=.ref t) rfl ?_)
 show wpAny _ _ (if(Value.ref t == Value.none)=true then _ else _) _ _ _;rw[qZ (show ¬ (Value.ref t == Value.none)=true from qh)]
 show wpAny _ _ (field (.ref it) 1 >>= _) _ _ _;refine q4 (wpAny_field e d (x:=.int k 0) rfl ?_)
 show wpAny _ _ (seqItems? (.ref t) >>= _) _ _ _;refine q4 (wpAny_seqItems et dt ?_)
 simp only[qX,hx];refine q4 (wpAny_rule (q4 (wpAny_setField e d (by simp) ?_)))
 show wpAny _ _ (newExc (.type "StopIteration") [] >>= _) _ _ _;refine q4 ?_;simp only[newExc,newTuple];refine q4 (wpAny_newObj_type ?_ (by size_fits))
 refine q4 (m:=firstArgMember _ _) (wpAny_of_eq (a:=Value.none) (by first|rfl|(simp only[firstArgMember];rfl)) (wpAny_newObj_type ?_ (by size_fits)))
 simp only[raiseNew];refine q4 (wpAny_handled ?_);first|rw[show A.in1.handled=none from hh]|rw[hh]
 refine q4 (qc (wpAny_throw (q _ _ (((Heap.SameBut.update ..).extBut.push _).push _) ⟨_,qo _ rfl,rfl⟩)))
theorem m9 {it l:Addr}{k:Nat}{xs:Array Value}{x:Value}{Q:Qq}:∀{b:Bool},SIt s.heap b it l k->SSq s.heap b l xs->xs[k]?=some x->
 (∀g,SIt g b it l (k+1)->Heap.SameBut it s.heap g->Q x { s with heap:=g })->wpAny (model prog w) A (Builtin.SmallTypes.nextOf (.ref it)) Q E s
 |false,a,c,d,q=>wpAny_nextOf_list_item a c d q
 |true,a,c,d,q=>Ah a c d q
theorem sC {it l:Addr}{k:Nat}{xs:Array Value}{Q:Qq}(hh:A.handled=none):∀{b:Bool},SIt s.heap b it l k->SSq s.heap b l xs->xs[k]?=none->
 (∀g x,Heap.ExtBut it s.heap g->(∃o,g.get? x=some o/\o.cls=.type "StopIteration")->E (.ref x) { s with heap:=g })->wpAny (model prog w) A (Builtin.SmallTypes.nextOf (.ref it)) Q E s
 |false,a,c,d,q=>wpAny_nextOf_list_end hh a c d q
 |true,a,c,d,q=>Ai hh a c d q
structure ZAp (z TI TO i1 i2 l1 l2:Addr):Prop where
 a:TI≠z/\TO≠z/\i1≠z/\i2≠z/\TI≠TO/\TI≠i1/\TI≠i2/\TO≠i1/\TO≠i2/\i1≠i2
 l:∀c,c=l1\/c=l2->c≠z/\c≠TO/\c≠i1/\c≠i2/\c≠TI
theorem vo {z TI TO i1 i2 l1 l2:Addr}{b1 b2:Bool}{k1 k2:Nat}{xs ys:Array Value}{x y a b:Value}{Q:Qq}(D:ZAp z TI TO i1 i2 l1 l2)
 (hz:IsZip s.heap z TI TO .none) (hI:IsPair s.heap TI (.ref i1) (.ref i2)) (hO:IsPair s.heap TO a b) (t1:SIt s.heap b1 i1 l1 k1) (t2:SIt s.heap b2 i2 l2 k2) (q1:SSq s.heap b1 l1 xs) (q2:SSq s.heap b2 l2 ys) (ex:xs[k1]?=some x) (ey:ys[k2]?=some y)
 (q:∀g,IsZip g z TI TO (rawInt s.heap.objs.size)->IsPair g TO x y->SIt g b1 i1 l1 (k1+1)->SIt g b2 i2 l2 (k2+1)->IsPair g s.heap.objs.size x y->(∀c o,c≠z->c≠TO->c≠i1->c≠i2->s.heap.get? c=some o->g.get? c=some o)->Q (.ref s.heap.objs.size) { s with heap:=g }):
 wpAny (model prog w) A (Builtin.«zip.__next__» ⟨[.ref z],[]⟩) (fun fin s'=>∃v,fin=.done (.ret v)/\Q v s') E s:=by
 obtain⟨⟨nIz,nOz,n1z,n2z,nIO,nI1,nI2,nO1,nO2,n12⟩,lne⟩:=D
 obtain⟨m1z,m1O,m11,m12,m1I⟩:=lne l1 (.inl rfl)
 obtain⟨m2z,m2O,m21,m22,m2I⟩:=lne l2 (.inr rfl)
 show wpAny _ _ (field (.ref z) 2 >>= _) _ _ _;refine q4 (wpAny_field hz rfl (x:=.bool false) rfl ?_)
 show wpAny _ _ (field (.ref z) 3 >>= _) _ _ _;refine q4 (wpAny_field hz rfl (x:=.ref TI) rfl (q4 (wpAny_seqItems hI rfl ?_)))
 show wpAny _ _ (Builtin.SmallTypes.ownedTupleIsFree (.ref z) >>= _) _ _ _;refine q4 ?_;unfold Builtin.SmallTypes.ownedTupleIsFree
 refine q4 (wpAny_field hz rfl (x:=.none) rfl (qc ?_));simp only[if_true]
 refine q4 (wpAny_rule (q4 (wpAny_field hz rfl (x:=.ref TO) rfl (q4 (wpAny_setField_rec hz (by simp) fun g1 z1 s1=>?_)))))
 replace z1:IsZip g1 z TI TO .ellipsis:=z1
 refine q4 ?_;simp only[List.zipIdx_cons,List.zipIdx_nil,List.forIn_cons,List.forIn_nil];refine q4 (q4 (wpAny_onRaise ?_))
 show wpAny _ _ (Builtin.SmallTypes.nextOf (.ref i1) >>= _) _ _ _
 refine q4 (m9 (b:=b1) (t1.keep fun o e=>s1.extBut _ _ n1z e) (q1.keep fun o e=>s1.extBut _ _ m1z e) ex fun g2 u1 s2=>qc ?_)
 have o2:IsPair g2 TO a b:=s2.extBut _ _ nO1 (s1.extBut _ _ nOz hO)
 refine q4 (wpAny_seqItems o2 rfl (q4 (wpAny_updateSeq_pair o2 fun g3 o3 s3=>q4 (wpAny_letGo (qc ?_)))))
 replace o3:IsPair g3 TO x b:=o3
 refine q4 (q4 (wpAny_onRaise ?_));show wpAny _ _ (Builtin.SmallTypes.nextOf (.ref i2) >>= _) _ _ _
 refine q4 (m9 (b:=b2) (t2.keep fun o e=>s3.extBut _ _ nO2.symm (s2.extBut _ _ n12.symm (s1.extBut _ _ n2z e))) (q2.keep fun o e=>s3.extBut _ _ m2O (s2.extBut _ _ m21 (s1.extBut _ _ m2z e))) ey fun g4 u2 s4=>qc ?_)
 have o4:IsPair g4 TO x b:=s4.extBut _ _ nO2 o3
 refine q4 (wpAny_seqItems o4 rfl (q4 (wpAny_updateSeq_pair o4 fun g5 o5 s5=>q4 (wpAny_letGo (qc (qc ?_))))))
 replace o5:IsPair g5 TO x y:=o5
 refine q4 (wpAny_seqItems o5 rfl (q4 (wpAny_newTuple ?_)))
 have sz:g5.objs.size=s.heap.objs.size:=by rw[s5.1,s4.1,s3.1,s2.1,s1.1]
 have z5:IsZip g5 z TI TO .ellipsis:=s5.extBut _ _ nOz.symm (s4.extBut _ _ n2z.symm (s3.extBut _ _ nOz.symm (s2.extBut _ _ n1z.symm z1)))
 have k5:∀c o,c≠z->c≠TO->c≠i1->c≠i2->s.heap.get? c=some o->g5.get? c=some o:=fun c o h1 h2 h3 h4 e=>s5.extBut _ _ h2 (s4.extBut _ _ h4 (s3.extBut _ _ h2 (s2.extBut _ _ h3 (s1.extBut _ _ h1 e))))
 have v1:SIt g5 b1 i1 l1 (k1+1):=u1.keep fun o e=>s5.extBut _ _ nO1.symm (s4.extBut _ _ n12 (s3.extBut _ _ nO1.symm e))
 have v2:SIt g5 b2 i2 l2 (k2+1):=u2.keep fun o e=>s5.extBut _ _ nO2.symm e
 have zlt:z<g5.objs.size:=qp z5
 show wpAny _ _ (Builtin.SmallTypes.ownedTupleHandOut (.ref z) (.ref g5.objs.size) >>= _) _ _ _;refine q4 ?_;unfold Builtin.SmallTypes.ownedTupleHandOut
 have z6:IsZip (g5.push { cls:=.type "tuple",data:=.seq #[x,y] }) z TI TO .ellipsis:=q9 _ z5
 refine q4 (wpAny_setField_rec z6 (by simp) fun g7 z7 s7=>?_)
 replace z7:IsZip g7 z TI TO (rawInt g5.objs.size):=z7
 refine wpAny_setField_rec z7 (by simp) fun g8 z8 s8=>?_
 replace z8:IsZip g8 z TI TO (rawInt g5.objs.size):=z8
 have up:∀c o,c≠z->g5.get? c=some o->g8.get? c=some o:=fun c o h1 e=>s8.extBut _ _ h1 (s7.extBut _ _ h1 (q9 _ e))
 have t8:IsPair g8 g5.objs.size x y:=s8.extBut _ _ (Nat.ne_of_gt zlt) (s7.extBut _ _ (Nat.ne_of_gt zlt) (qo _ rfl))
 rw[sz]at z8 t8
 refine qc ⟨_,rfl,?_⟩
 show Q (.ref g5.objs.size) _
 rw[sz]
 exact q g8 z8 (up _ _ nOz o5) (v1.keep fun o e=>up _ o n1z e) (v2.keep fun o e=>up _ o n2z e) t8 fun c o h1 h2 h3 h4 e=>up c o h1 (k5 c o h1 h2 h3 h4 e)
theorem vq {z TI TO i1 i2 l1 l2:Addr}{b1 b2:Bool}{k1 k2:Nat}{xs ys:Array Value}{a b:Value}{Q:Fin->Shared->Prop}(hh:A.handled=none) (D:ZAp z TI TO i1 i2 l1 l2)
 (hz:IsZip s.heap z TI TO .none) (hI:IsPair s.heap TI (.ref i1) (.ref i2)) (hO:IsPair s.heap TO a b) (t1:SIt s.heap b1 i1 l1 k1) (t2:SIt s.heap b2 i2 l2 k2) (q1:SSq s.heap b1 l1 xs) (q2:SSq s.heap b2 l2 ys) (hend:xs[k1]?=none\/ys[k2]?=none)
 (q:∀g e,(∀c o,c≠z->c≠TO->c≠i1->c≠i2->s.heap.get? c=some o->g.get? c=some o)->(∃o,g.get? e=some o/\o.cls=.type "StopIteration")->E (.ref e) { s with heap:=g }):
 wpAny (model prog w) A (Builtin.«zip.__next__» ⟨[.ref z],[]⟩) Q E s:=by
 obtain⟨⟨nIz,nOz,n1z,n2z,nIO,nI1,nI2,nO1,nO2,n12⟩,lne⟩:=D
 obtain⟨m1z,m1O,m11,m12,m1I⟩:=lne l1 (.inl rfl)
 obtain⟨m2z,m2O,m21,m22,m2I⟩:=lne l2 (.inr rfl)
 show wpAny _ _ (field (.ref z) 2 >>= _) _ _ _;refine q4 (wpAny_field hz rfl (x:=.bool false) rfl ?_)
 show wpAny _ _ (field (.ref z) 3 >>= _) _ _ _;refine q4 (wpAny_field hz rfl (x:=.ref TI) rfl (q4 (wpAny_seqItems hI rfl ?_)))
 show wpAny _ _ (Builtin.SmallTypes.ownedTupleIsFree (.ref z) >>= _) _ _ _;refine q4 ?_;unfold Builtin.SmallTypes.ownedTupleIsFree
 refine q4 (wpAny_field hz rfl (x:=.none) rfl (qc ?_));simp only[if_true]
 refine q4 (wpAny_rule (q4 (wpAny_field hz rfl (x:=.ref TO) rfl (q4 (wpAny_setField_rec hz (by simp) fun g1 z1 s1=>?_)))))
 replace z1:IsZip g1 z TI TO .ellipsis:=z1
 refine q4 ?_;simp only[List.zipIdx_cons,List.zipIdx_nil,List.forIn_cons,List.forIn_nil];refine q4 (q4 (wpAny_onRaise ?_))
 show wpAny _ _ (Builtin.SmallTypes.nextOf (.ref i1) >>= _) _ _ _
 cases ex:xs[k1]? with
 |none=>
  refine q4 (sC (b:=b1) hh (t1.keep fun o e=>s1.extBut _ _ n1z e) (q1.keep fun o e=>s1.extBut _ _ m1z e) ex fun g2 v s2 hv=>?_)
  obtain⟨ov,ev,cv⟩:=hv
  have z2:IsZip g2 z TI TO .ellipsis:=s2 _ _ n1z.symm z1
  have nv:v≠z:=fun h=>by subst h;rw[z2]at ev;cases ev;simp at cv
  exact wpAny_setField_rec z2 (by simp) fun g3 _ s3=>q g3 v (fun c o h1 _ h3 _ e=>s3.extBut _ _ h1 (s2 _ _ h3 (s1.extBut _ _ h1 e))) ⟨ov,s3.extBut _ _ nv ev,cv⟩
 |some x=>
  have ey:ys[k2]?=none:=by rcases hend with h|h;rw[ex]at h;cases h;exact h
  refine q4 (m9 (b:=b1) (t1.keep fun o e=>s1.extBut _ _ n1z e) (q1.keep fun o e=>s1.extBut _ _ m1z e) ex fun g2 u1 s2=>qc ?_)
  have o2:IsPair g2 TO a b:=s2.extBut _ _ nO1 (s1.extBut _ _ nOz hO)
  refine q4 (wpAny_seqItems o2 rfl (q4 (wpAny_updateSeq_pair o2 fun g3 o3 s3=>q4 (wpAny_letGo (qc ?_)))))
  refine q4 (q4 (wpAny_onRaise ?_));show wpAny _ _ (Builtin.SmallTypes.nextOf (.ref i2) >>= _) _ _ _
  refine q4 (sC (b:=b2) hh (t2.keep fun o e=>s3.extBut _ _ nO2.symm (s2.extBut _ _ n12.symm (s1.extBut _ _ n2z e))) (q2.keep fun o e=>s3.extBut _ _ m2O (s2.extBut _ _ m21 (s1.extBut _ _ m2z e))) ey fun g4 v s4 hv=>?_)
  obtain⟨ov,ev,cv⟩:=hv
  have z4:IsZip g4 z TI TO .ellipsis:=s4 _ _ n2z.symm (s3.extBut _ _ nOz.symm (s2.extBut _ _ n1z.symm z1))
  have nv:v≠z:=fun h=>by subst h;rw[z4]at ev;cases ev;simp at cv
  exact wpAny_setField_rec z4 (by simp) fun g5 _ s5=>q g5 v (fun c o h1 h2 h3 h4 e=>s5.extBut _ _ h1 (s4 _ _ h4 (s3.extBut _ _ h2 (s2.extBut _ _ h3 (s1.extBut _ _ h1 e))))) ⟨ov,s5.extBut _ _ nv ev,cv⟩
end
section
variable {X:Cx}{pins:List (Addr×Obj)}{σ:St}{H:Hp}{s:Shared}{h':Heap}
theorem Inv.turnedL {t':Nat}{ch:List Addr}(I:Inv X pins σ H s) (k:∀b o,b∉ch->s.heap.get? b=some o->h'.get? b=some o) (hf:∀b∈ch,bW X pins H b):Inv X pins σ H { s with heap:=h',toks:=t' }:=by
 have nit:∀b u,H b=some u->b∉ch:=fun b u e z=>by rw[(hf b z).1]at e;cases e
 have hL:X.env.locals∉ch:=fun z=>(hf _ z).2.1 rfl
 refine I.step (g':=s.gens) (d':=s.drawn) (ch:=ch) (fun b hb=>⟨(hf b hb).2.2.2.1,(hf b hb).2.1,(hf b hb).2.2.2.2.1,(hf b hb).2.2.2.2.2⟩) (fun b o _ _ hc e _=>k b o hc e) (fun b o _ _ hc e _=>⟨o.slots,k b o hc e⟩) (fun _ _ _ _ n=>n)
  (fun b o hc e=>⟨o,k b o hc e⟩) (fun _ _ e=>e) (fun _ _ _ e=>e) (fun b ps e=>⟨#[],by rw[e];simp⟩) (fun m hm=>?_) (fun b u e=>?_) I.bare
 ·obtain⟨o,es,ep,ho,r⟩:=hm
  exact⟨o,es,ep,k _ o hL ho,r⟩
 ·refine(I.hok b u e).stay (fun c v hc q=>k c v ?_ q) (fun _ q=>q) fun _ _ q=>q
  rcases hc with z|z
  ·rw[z];exact nit b u e
  ·exact nit c _ z
theorem Inv.track {T:Addr}{o:HO}(I:Inv X pins σ H s) (f:bW X pins H T) (hs:X.s₀.heap.objs.size<=T) (new:bb X.prog X.w (upd H T o) s.heap T o):Inv X pins σ (upd H T o) s:=by
 obtain⟨f0,f1,f2,_,f4,f5⟩:=f
 have old:∀b u,X.s₀.heap.get? b=some u->b≠T:=fun b u e=>qF (qC (qp e) hs)
 refine⟨I.ok,I.os,I.bare,⟨I.base.keep,I.base.slot,fun b u e n hx=>?_,I.base.there,fun b xs e=>?_,fun b u v e=>?_,fun b ps e=>?_⟩,I.loc,I.cell,?_,fun x c e=>?_,fun p hp=>?_,fun b u e=>?_,I.len⟩
 ·rw[aj (old b u e)];exact I.base.free b u e n hx
 ·rw[aj (bJ (I.base.tups b xs e) f0)];exact I.base.tups b xs e
 ·rw[aj (bJ (I.base.frzs b u v e) f0)];exact I.base.frzs b u v e
 ·obtain⟨more,q⟩:=I.base.tbls b ps e
  exact⟨more,by rw[aj (bJ q f0)];exact q⟩
 ·rw[aj (Ne.symm f1)];exact I.free
 ·rw[aj (f4 x c e)];exact I.freeC x c e
 ·obtain⟨e,n,ne,nf,d⟩:=I.pin p hp
  exact⟨e,by rw[aj (f5 p hp)];exact n,ne,nf,d⟩
 ·by_cases hb:b=T
  ·subst hb
   rw[ae]at e
   cases e
   exact new
  ·rw[aj hb]at e
   exact(I.hok b u e).stay (fun c v _ q=>q) (fun c q=>by rw[aj (bJ q f0)];exact q) fun c xs q=>by rw[aj (bJ q f0)];exact q
end
def SqB (K:PySem.W.Frag) (H:Hp):Bool->Addr->List V->Prop
 |false,a,xs=>SqL K H a xs
 |true,a,xs=>SqT K H a xs
theorem SqB.at {X:Cx}{pins:List (Addr×Obj)}{σ:St}{H:Hp}{s:Shared}(I:Inv X pins σ H s):∀{b:Bool}{a:Addr}{xs:List V},SqB X.K H b a xs->∃its:List Value,au xs its/\SSq s.heap b a its.toArray/\xs.length<=sizeLine
 |false,_,_,h=>let ⟨its,r,p,z⟩:=I.list h;⟨its,r,p.isList,z⟩
 |true,_,_,h=>let ⟨its,r,p,z⟩:=I.tuple h;⟨its,r,p,z⟩
theorem SqB.inj {X:Cx}{pins:List (Addr×Obj)}{σ:St}{H:Hp}{s:Shared}(I:Inv X pins σ H s):∀{b:Bool}{a:Addr}{xs ys:List V},SqB X.K H b a xs->SqB X.K H b a ys->xs=ys
 |false,_,_,_,h,h'=>I.list_inj h h'
 |true,_,_,_,h,h'=>I.tuple_inj h h'
def Itz (K:PySem.W.Frag) (b1 b2:Bool) (l1 l2:Addr):It:=
 ⟨fun i H=>∃xs ys x y,SqB K H b1 l1 xs/\SqB K H b2 l2 ys/\xs[i]?=some x/\ys[i]?=some y,
  fun i H v H'=>∃p x y,H p=none/\v=.ref p/\H'=upd H p (.tup [x,y])/\(∀xs,SqB K H b1 l1 xs->xs[i]?=some x)/\∀ys,SqB K H b2 l2 ys->ys[i]?=some y,
  fun i H=>∃xs ys,SqB K H b1 l1 xs/\SqB K H b2 l2 ys/\(xs.length<=i\/ys.length<=i)⟩
section
variable {prog:Program}{w:World}{A:Around}{E:Qq}{s:Shared}
theorem vm {z TI TO i1 i2 l1 l2:Addr}{b1 b2:Bool}{k1 k2:Nat}{xs ys:Array Value}{x y a b:Value}{Q:Option Value->Shared->Prop}(D:ZAp z TI TO i1 i2 l1 l2)
 (hz:IsZip s.heap z TI TO .none) (hI:IsPair s.heap TI (.ref i1) (.ref i2)) (hO:IsPair s.heap TO a b) (t1:SIt s.heap b1 i1 l1 k1) (t2:SIt s.heap b2 i2 l2 k2) (q1:SSq s.heap b1 l1 xs) (q2:SSq s.heap b2 l2 ys) (ex:xs[k1]?=some x) (ey:ys[k2]?=some y)
 (q:∀g,IsZip g z TI TO (rawInt s.heap.objs.size)->IsPair g TO x y->SIt g b1 i1 l1 (k1+1)->SIt g b2 i2 l2 (k2+1)->IsPair g s.heap.objs.size x y->(∀c o,c≠z->c≠TO->c≠i1->c≠i2->s.heap.get? c=some o->g.get? c=some o)->Q (some (.ref s.heap.objs.size)) { s with heap:=g }):
 wpAny (model prog w) A (pyNext (.ref z)) Q E s:=by
 have ty:s.TypeIs (.ref z) "zip":=⟨_,hz,rfl⟩
 unfold pyNext
 exact q4 (wpAny_attempt (wpAny_callSpecial?_slot (name:=Str.ofString "__next__") ty PySem.F.slot_zip_next (wpAny_call_entry PySem.F.slot_zip_next ty PySem.F.entry_zip_next (vo D hz hI hO t1 t2 q1 q2 ex ey fun g a1 a2 a3 a4 a5 a6=>qc (q g a1 a2 a3 a4 a5 a6)) (PySem.F.args_zip_next_1 _))))
theorem vn {z TI TO i1 i2 l1 l2:Addr}{b1 b2:Bool}{k1 k2:Nat}{xs ys:Array Value}{a b:Value}{Q:Option Value->Shared->Prop}(hh:A.handled=none) (D:ZAp z TI TO i1 i2 l1 l2)
 (hz:IsZip s.heap z TI TO .none) (hI:IsPair s.heap TI (.ref i1) (.ref i2)) (hO:IsPair s.heap TO a b) (t1:SIt s.heap b1 i1 l1 k1) (t2:SIt s.heap b2 i2 l2 k2) (q1:SSq s.heap b1 l1 xs) (q2:SSq s.heap b2 l2 ys) (hend:xs[k1]?=none\/ys[k2]?=none)
 (q:∀g,(∀c o,c≠z->c≠TO->c≠i1->c≠i2->s.heap.get? c=some o->g.get? c=some o)->Q none { s with heap:=g }):wpAny (model prog w) A (pyNext (.ref z)) Q E s:=by
 have ty:s.TypeIs (.ref z) "zip":=⟨_,hz,rfl⟩
 unfold pyNext
 refine q4 (wpAny_attempt (wpAny_callSpecial?_slot (name:=Str.ofString "__next__") ty PySem.F.slot_zip_next (wpAny_call_entry PySem.F.slot_zip_next ty PySem.F.entry_zip_next (vq hh D hz hI hO t1 t2 q1 q2 hend fun g e hk he=>?_) (PySem.F.args_zip_next_1 _))))
 obtain⟨o,ho,hc⟩:=he
 exact q4 (wpAny_isInstance (T:="StopIteration") (b:=true) ⟨o,ho,hc⟩ isSubtype_stop (qc (q _ hk)))
end
theorem vS {P:Program}{w:World}{K:PySem.W.Frag}{elts:List Expr}{kk:Nat}{tp:Pos}{b1 b2:Bool}(z TI TO i1 i2 l1 l2:Addr) (D:ZAp z TI TO i1 i2 l1 l2):
 eW P w K (.Tuple elts kk tp) (Itz K b1 b2 l1 l2) [z,TI,TO,i1,i2] z (fun i h=>IsZip h z TI TO .none/\IsPair h TI (.ref i1) (.ref i2)/\(∃a b,IsPair h TO a b)/\SIt h b1 i1 l1 i/\SIt h b2 i2 l2 i) where
 mem:=by simp
 obj:=fun i h st b hb=>by
  obtain⟨hz,hI,⟨a,c,hO⟩,t1,t2⟩:=st
  simp only[qt,qQ,or_false]at hb
  rcases hb with rfl|rfl|rfl|rfl|rfl
  ·exact⟨_,hz,fun v q=>by cases q⟩
  ·exact⟨_,hI,fun v q=>by cases q⟩
  ·exact⟨_,hO,fun v q=>by cases q⟩
  ·obtain⟨o,e,vs,d⟩:=t1.obj
   exact⟨o,e,fun v q=>by rw[d]at q;cases q⟩
  ·obtain⟨o,e,vs,d⟩:=t2.obj
   exact⟨o,e,fun v q=>by rw[d]at q;cases q⟩
 keep:=fun i h h' st k=>by
  obtain⟨hz,hI,⟨a,c,hO⟩,t1,t2⟩:=st
  exact⟨k z (by simp) _ hz,k TI (by simp) _ hI,⟨a,c,k TO (by simp) _ hO⟩,t1.keep fun o e=>k i1 (by simp) o e,t2.keep fun o e=>k i2 (by simp) o e⟩
 item:=by
  intro X hP hw hK hc i pins s σ H E I hf st hg
  subst hP hw hK
  obtain⟨hz,hI,⟨a,c,hO⟩,t1,t2⟩:=st
  obtain⟨xs,ys,x,y,hx,hy,ex,ey⟩:=hg
  obtain⟨its,rv,q1,z1⟩:=SqB.at I hx
  obtain⟨jts,rw',q2,z2⟩:=SqB.at I hy
  obtain⟨u,hu,ru⟩:=rv.get ex
  obtain⟨v,hv,rv'⟩:=rw'.get ey
  refine vm D hz hI hO t1 t2 q1 q2 (x:=u) (y:=v) (by simpa using hu) (by simpa using hv) fun g a1 a2 a3 a4 a5 a6=>⟨_,rfl,?_⟩
  refine wpAny_letOwnedTupleGo_zip a1 fun g' a1' sb=>?_
  obtain⟨⟨nIz,nOz,n1z,n2z,nIO,nI1,nI2,nO1,nO2,n12⟩,lne⟩:=id D
  have hT:∀b∈[z,TI,TO,i1,i2],s.heap.objs.size≠b:=fun b hb=>by
   have:∃o,s.heap.get? b=some o:=by
    simp only[qt,qQ,or_false]at hb
    rcases hb with rfl|rfl|rfl|rfl|rfl
    ·exact⟨_,hz⟩
    ·exact⟨_,hI⟩
    ·exact⟨_,hO⟩
    ·obtain⟨o,e,_⟩:=t1.obj;exact⟨o,e⟩
    ·obtain⟨o,e,_⟩:=t2.obj;exact⟨o,e⟩
   obtain⟨o,e⟩:=this
   exact Nat.ne_of_gt (qp e)
  have kk:∀b o,b∉[z,TI,TO,i1,i2]->s.heap.get? b=some o->g'.get? b=some o:=fun b o hb e=>by
   simp only[qt,qQ,or_false,not_or]at hb
   exact sb.extBut _ _ hb.1 (a6 b o hb.1 hb.2.2.1 hb.2.2.2.1 hb.2.2.2.2 e)
  have I1:Inv X pins σ H { s with heap:=g' }:=I.turnedL (t':=s.toks) kk hf
  have pT:IsPair g' s.heap.objs.size u v:=sb.extBut _ _ (hT z (by simp)) a5
  have fT:bW X pins H s.heap.objs.size:=I.fpOk (qd _) (I.hok.fresh (qd _))
  have I2:Inv X pins σ (upd H s.heap.objs.size (.tup [x,y])) { s with heap:=g' }:=I1.track fT I.sz ⟨by show 2<=sizeLine;decide,[u,v],.cons ru (.cons rv' .nil),⟨_,pT,rfl,_,rfl⟩⟩
  refine⟨.ref s.heap.objs.size,_,I2,rfl,⟨_,x,y,I.hok.fresh (qd _),rfl,rfl,fun xs' h=>by rw[SqB.inj I h hx];exact ex,fun ys' h=>by rw[SqB.inj I h hy];exact ey⟩,?_,fun b hb=>?_⟩
  ·exact⟨a1',sb.extBut _ _ nIz (a6 TI _ nIz nIO nI1 nI2 hI),⟨u,v,sb.extBut _ _ nOz a2⟩,a3.keep fun o e=>sb.extBut _ _ n1z e,a4.keep fun o e=>sb.extBut _ _ n2z e⟩
  ·rw[aj (Ne.symm (hT b hb))]
   exact(hf b hb).1
 done:=by
  intro X hP hw hK hc i pins s σ H E I hf st hg
  subst hP hw hK
  obtain⟨hz,hI,⟨a,c,hO⟩,t1,t2⟩:=st
  obtain⟨xs,ys,hx,hy,hend⟩:=hg
  obtain⟨its,rv,q1,z1⟩:=SqB.at I hx
  obtain⟨jts,rw',q2,z2⟩:=SqB.at I hy
  have e1:=rv.length
  have e2:=rw'.length
  refine vn (I.ok.hd hc) D hz hI hO t1 t2 q1 q2 (by
   rcases hend with h|h
   ·exact .inl (by simp;omega)
   ·exact .inr (by simp;omega)) fun g k=>⟨rfl,I.turnedL (t':=s.toks) (ch:=[z,TI,TO,i1,i2]) (fun b o hb e=>?_) hf⟩
  simp only[qt,qQ,or_false,not_or]at hb
  exact k b o hb.1 hb.2.2.1 hb.2.2.2.1 hb.2.2.2.2 e
 self:=fun _ _ _ _ _ st h=>wpAny_pyIter_zip st.1 h
def dC (b:Bool) (l:Addr):Obj:={ cls:=.type (if b=true then "tuple_iterator" else "list_iterator"),data:=.fields #[.ref l,.int 0 0] }
theorem SIt.new {h:Heap}:∀{b:Bool}{it l:Addr},h.get? it=some (dC b l)->SIt h b it l 0
 |false,_,_,e=>⟨_,e,rfl,rfl⟩
 |true,_,_,e=>⟨_,e,rfl,rfl⟩
def zg2 (h:Heap) (b1 b2:Bool) (l1 l2:Addr):Heap:=(h.push (dC b1 l1)).push (dC b2 l2)
def zg3 (h:Heap) (b1 b2:Bool) (l1 l2:Addr):Heap:=(zg2 h b1 b2 l1 l2).push { cls:=.type "tuple",data:=.seq #[.ref h.objs.size,.ref (h.push (dC b1 l1)).objs.size] }
def zg4 (h:Heap) (b1 b2:Bool) (l1 l2:Addr):Heap:=(zg3 h b1 b2 l1 l2).push { cls:=.type "tuple",data:=.seq #[.none,.none] }
def zg5 (h:Heap) (b1 b2:Bool) (l1 l2:Addr):Heap:=(zg4 h b1 b2 l1 l2).push { cls:=.type "zip",data:=.fields #[.none,.bool false,.bool false,.ref (zg2 h b1 b2 l1 l2).objs.size,.ref (zg3 h b1 b2 l1 l2).objs.size] }
theorem tG {prog:Program}{w:World}{A:Around}{E:Qq}{s:Shared}{l:Addr}{xs:Array Value}{Q:Qq}:∀{b:Bool},SSq s.heap b l xs->Q (.ref s.heap.objs.size) { s with heap:=s.heap.push (dC b l) }->wpAny (model prog w) A (pyIter (.ref l)) Q E s
 |false,h,q=>wpAny_pyIter_list h q
 |true,h,q=>wpAny_pyIter_tuple h q
theorem SSq.push {h:Heap}{b:Bool}{l:Addr}{xs:Array Value}(x:SSq h b l xs) (o:Obj):SSq (h.push o) b l xs:=x.keep fun _ e=>q9 _ e
set_option maxHeartbeats 8000000 in
theorem vk (b1 b2:Bool) (l1 l2:Addr) (xs ys:Array Value):
 Meets (Builtin.«zip.__new__» ⟨[.type "zip",.ref l1,.ref l2],[]⟩) (fun _ R s=>SSq s.heap b1 l1 xs/\SSq s.heap b2 l2 ys/\R (.ok (.ret (.ref (zg4 s.heap b1 b2 l1 l2).objs.size))) { s with heap:=zg5 s.heap b1 b2 l1 l2 }):=
 .of_wp fun prog w A R s h=>by
  obtain⟨hp,g,d,tk,os⟩:=s
  obtain⟨h1,h2,h⟩:=h
  have hsub:=PySem.sub_zip
  have e1:SSq (Shared.heap ⟨hp,g,d,tk,os⟩) b1 l1 xs:=h1
  have e2:SSq (Shared.heap ⟨hp.push (dC b1 l1),g,d,tk,os⟩) b2 l2 ys:=SSq.push h2 _
  wp_walk using tG e1,tG e2
  exact⟨_,rfl,h⟩
section
variable {prog:Program}{w:World}{A:Around}{E:Qq}{s:Shared}
theorem Cs {b1 b2:Bool}{l1 l2:Addr}{xs ys:Array Value}{Q:Qq}(h1:SSq s.heap b1 l1 xs) (h2:SSq s.heap b2 l2 ys)
 (h:∀g n,n=s.heap.objs.size->IsZip g (n+4) (n+2) (n+3) .none->IsPair g (n+2) (.ref n) (.ref (n+1))->IsPair g (n+3) .none .none->SIt g b1 n l1 0->SIt g b2 (n+1) l2 0->
  (∀c o,s.heap.get? c=some o->g.get? c=some o)->Q (.ref (n+4)) { s with heap:=g }):wpAny (model prog w) A (call (.type "zip") [.ref l1,.ref l2]) Q E s:=by
 refine callType_new PySem.F.called_zip Qk (PySem.F.typeCall_zip_2 _ _) (PySem.F.newCall_zip_2 _ _) (fun obj=>PySem.F.args_object_init_3 obj _ _) PySem.F.entry_zip_new (vk b1 b2 l1 l2 xs ys) ⟨h1,h2,?_⟩
 have e1:(s.heap.push (dC b1 l1)).objs.size=s.heap.objs.size+1:=Heap.size_push ..
 have e2:(zg2 s.heap b1 b2 l1 l2).objs.size=s.heap.objs.size+2:=by unfold zg2;rw[Heap.size_push,e1]
 have e3:(zg3 s.heap b1 b2 l1 l2).objs.size=s.heap.objs.size+3:=by unfold zg3;rw[Heap.size_push,e2]
 have e4:(zg4 s.heap b1 b2 l1 l2).objs.size=s.heap.objs.size+4:=by unfold zg4;rw[Heap.size_push,e3]
 have p:∀{c:Addr}{o:Obj},(zg4 s.heap b1 b2 l1 l2).get? c=some o->(zg5 s.heap b1 b2 l1 l2).get? c=some o:=fun q=>q9 _ q
 have p4:∀{c:Addr}{o:Obj},(zg3 s.heap b1 b2 l1 l2).get? c=some o->(zg4 s.heap b1 b2 l1 l2).get? c=some o:=fun q=>q9 _ q
 have p3:∀{c:Addr}{o:Obj},(zg2 s.heap b1 b2 l1 l2).get? c=some o->(zg3 s.heap b1 b2 l1 l2).get? c=some o:=fun q=>q9 _ q
 have p2:∀{c:Addr}{o:Obj},(s.heap.push (dC b1 l1)).get? c=some o->(zg2 s.heap b1 b2 l1 l2).get? c=some o:=fun q=>q9 _ q
 have g5:(zg5 s.heap b1 b2 l1 l2).get? (zg4 s.heap b1 b2 l1 l2).objs.size=some _:=qo _ rfl
 have g4:(zg5 s.heap b1 b2 l1 l2).get? (zg3 s.heap b1 b2 l1 l2).objs.size=some _:=p (qo _ rfl)
 have g3:(zg5 s.heap b1 b2 l1 l2).get? (zg2 s.heap b1 b2 l1 l2).objs.size=some _:=p (p4 (qo _ rfl))
 have g2:(zg5 s.heap b1 b2 l1 l2).get? (s.heap.push (dC b1 l1)).objs.size=some _:=p (p4 (p3 (qo _ rfl)))
 have g1:(zg5 s.heap b1 b2 l1 l2).get? s.heap.objs.size=some _:=p (p4 (p3 (p2 (qo _ rfl))))
 show _/\_
 rw[e2,e3,e4]at g5
 rw[e1,e2]at g3
 rw[e3]at g4
 rw[e1]at g2
 rw[e4]
 exact⟨⟨_,g5,rfl⟩,h _ _ rfl g5 g3 g4 (SIt.new g1) (SIt.new g2) fun c o x=>p (p4 (p3 (p2 (q9 _ x))))⟩
end
section
variable {X:Cx}
def Bn (K:PySem.W.Frag) (ta:TA):TI:=fun σ H R=>ta σ H fun vs H1=>∃b1 b2 l1 l2 xs ys,vs=[.ref l1,.ref l2]/\SqB K H1 b1 l1 xs/\SqB K H1 b2 l2 ys/\R (Itz K b1 b2 l1 l2) H1
theorem lU {a b:Expr}{ta:TA}{p pos tp:Pos}{elts:List Expr}{kk:Nat}(hg:Gl X "zip") (hm:X.mg "zip"=none) (ha:PA X [a,b] ta) (hs:starEach [a,b] X.env=[(false,eval a X.env),(false,eval b X.env)]:=by rfl) (hs2:starEach [b] X.env=[(false,eval b X.env)]:=by rfl):
 PI X (.Tuple elts kk tp) (.Call (.Name "zip" p) [a,b] [] pos) (Bn X.K ta):=by
 intro pins s σ H R I h
 refine Call_ (eP I hg hm PyProof.Rows.Boot.«zip» (PyProof.Rows.callWith_type1 (thn (ha pos pins s σ H _ I h) fun us s1 ⟨vs,H1,I1,r1,q1⟩=>?_) (by rw[hs,hs2]) (by rw[hs2];rfl)))
 obtain⟨b1,b2,l1,l2,xs,ys,rfl,hx,hy,q⟩:=q1
 obtain⟨u,u',rfl,ru,ru'⟩:=ig r1
 cases ru
 cases ru'
 obtain⟨its,rv,s1',z1⟩:=SqB.at I1 hx
 obtain⟨jts,rw',s2',z2⟩:=SqB.at I1 hy
 refine Cs s1' s2' fun g n hn a1 a2 a3 a4 a5 k=>?_
 have lt:∀c,c=l1\/c=l2->c<n:=fun c hc=>by
  rw[hn]
  rcases hc with rfl|rfl
  ·obtain⟨o,e,_⟩:=s1'.obj;exact qp e
  ·obtain⟨o,e,_⟩:=s2'.obj;exact qp e
 refine wpAny_pyIter_zip a1 ⟨n+4,[n+4,n+2,n+3,n,n+1],_,_,H1,rfl,I1.kept (t':=s1.toks) k,vS (n+4) (n+2) (n+3) n (n+1) l1 l2 ⟨?_,fun c hc=>?_⟩,⟨a1,a2,⟨_,_,a3⟩,a4,a5⟩,fun b hb=>?_,q⟩
 ·have e:∀i j:Nat,i≠j->n+i≠n+j:=fun i j h z=>h (Nat.add_left_cancel z)
  exact⟨e 2 4 Qk,e 3 4 Qk,e 0 4 Qk,e 1 4 Qk,e 2 3 Qk,e 2 0 Qk,e 2 1 Qk,e 3 0 Qk,e 3 1 Qk,e 0 1 Qk⟩
 ·have q:=lt c hc
  have e:∀i:Nat,c≠n+i:=fun i=>qF (qC q (Nat.le_add_right _ _))
  exact⟨e 4,e 3,e 0,e 1,e 2⟩
 ·have e:∀i:Nat,bW X pins H1 (n+i):=fun i=>I1.fpOk (by rw[hn];exact Nat.le_add_right _ _) (I1.hok.fresh (by rw[hn];exact Nat.le_add_right _ _))
  simp only[qt,qQ,or_false]at hb
  rcases hb with rfl|rfl|rfl|rfl|rfl
  ·exact e 4
  ·exact e 2
  ·exact e 3
  ·exact e 0
  ·exact e 1
end
open PySem.Builtin.Str in
section
variable {X:Cx}
end
@[irreducible] def rStrAny:List V->Hp->VK->Prop:=fun xs H Q=>(∃z:Str,xs=[.str z]/\Q (.str z) H)\/∃i:Int,xs=[.int i]/\i.natAbs.log2<1920/\Q (.str (toString i)) H
section
variable {X:Cx}
end
mutual
inductive Dt (K:PySem.W.Frag) (H:Hp):V->PyData->Prop
 |non:Dt K H .non .none
 |bl (b:Bool):Dt K H (.bl b) (.bool b)
 |int (i:Int):Dt K H (.int i) (.int i)
 |str (x:Str):Dt K H (.str x) (.str x)
 |lst {a:Addr}{xs:List V}{ds:List PyData}:SqL K H a xs->cV K H xs ds->Dt K H (.ref a) (.list ds)
 |tup {a:Addr}{xs:List V}{ds:List PyData}:SqT K H a xs->cV K H xs ds->Dt K H (.ref a) (.tuple ds)
inductive cV (K:PySem.W.Frag) (H:Hp):List V->List PyData->Prop
 |nil:cV K H [] []
 |cons {v:V}{vs:List V}{d:PyData}{ds:List PyData}:Dt K H v d->cV K H vs ds->cV K H (v::vs) (d::ds)
end
section
variable {X:Cx}{pins:List (Addr×Obj)}{σ:St}{H:Hp}{s:Shared}
mutual
theorem Dt.reads (I:Inv X pins σ H s):∀{v:V}{d:PyData},Dt X.K H v d->∀{u:Value},ay v u->∃as,Reads s.heap u d as
 |_,_,.non,_,r=>by cases r;exact⟨_,.none⟩
 |_,_,.bl b,_,r=>by cases r;exact⟨_,.bool b⟩
 |_,_,.int i,_,r=>by obtain⟨t,rfl⟩:=r;exact⟨_,.int i t⟩
 |_,_,.str x,_,r=>by obtain⟨t,rfl⟩:=r;exact⟨_,.str x t⟩
 |_,_,.lst hq ha,_,r=>by
  cases r
  obtain⟨its,rv,⟨o,n,e,c,_,d⟩,_⟩:=I.list hq
  obtain⟨as,z⟩:=cV.reads I ha rv
  exact⟨_,.list e c d (by simpa using z)⟩
 |_,_,.tup hq ha,_,r=>by
  cases r
  obtain⟨its,rv,⟨o,e,c,n,d⟩,_⟩:=I.tuple hq
  obtain⟨as,z⟩:=cV.reads I ha rv
  exact⟨_,.tuple e c d (by simpa using z)⟩
theorem cV.reads (I:Inv X pins σ H s):∀{vs:List V}{ds:List PyData},cV X.K H vs ds->∀{us:List Value},au vs us->∃as,ReadsAll s.heap us ds as
 |_,_,.nil,_,r=>by cases r;exact⟨_,.nil⟩
 |_,_,.cons h t,_,r=>by
  cases r with
  |cons r1 r2=>
   obtain⟨as,z⟩:=Dt.reads I h r1
   obtain⟨bs,z'⟩:=cV.reads I t r2
   exact⟨_,.cons z z'⟩
end
end
section
variable {X:Cx}
theorem zw (hu:X.A.units+64<cLine):OpR X (compareOp .Eq) (fun x y H Q=>∃d e,Dt X.K H x d/\Dt X.K H y e/\SeqAt.shaped d=true/\SeqAt.shaped e=true/\Q (.bl (PyData.eqv d e)) H):=by
 intro pins s σ H x y v u Q I rx ry h
 obtain⟨d,e,h1,h2,s1,s2,q⟩:=h
 obtain⟨as,r1⟩:=h1.reads I rx
 obtain⟨bs,r2⟩:=h2.reads I ry
 exact eq_dataH r1 r2 s1 s2 hu ⟨.bl _,H,I,rfl,q⟩
theorem rW (hu:X.A.units+64<cLine):OpR X (compareOp .NotEq) (fun x y H Q=>∃d e,Dt X.K H x d/\Dt X.K H y e/\SeqAt.shaped d=true/\SeqAt.shaped e=true/\Q (.bl (!PyData.eqv d e)) H):=by
 intro pins s σ H x y v u Q I rx ry h
 obtain⟨d,e,h1,h2,s1,s2,q⟩:=h
 obtain⟨as,r1⟩:=h1.reads I rx
 obtain⟨bs,r2⟩:=h2.reads I ry
 exact ne_dataH r1 r2 s1 s2 hu ⟨.bl _,H,I,rfl,q⟩
end
theorem mR {K:PySem.W.Frag}{b1 b2:Bool}{l1 l2:Addr}{xs ys:List V}{g:TG}{tb:TS}{D:dh}{σ:St}{H:Hp}(Pv:Nat->St->Hp->Prop) (h0:Pv 0 σ H) (hl:∀i σ H,Pv i σ H->SqB K H b1 l1 xs/\SqB K H b2 l2 ys)
 (hs:∀i x y σ H p,xs[i]?=some x->ys[i]?=some y->Pv i σ H->H p=none->g (.ref p) σ (upd H p (.tup [x,y])) fun σ2 H2=>tb { D with nx:=Pv (i+1),ct:=Pv (i+1),bk:=D.nx } σ2 H2) (hd:∀σ H,Pv (min xs.length ys.length) σ H->D.nx σ H):
 ∃W:Nat->Nat->St->Hp->Prop,(∃m,W 0 m σ H)/\∀i m σ H,W i m σ H->
  ((Itz K b1 b2 l1 l2).stop i H/\D.nx σ H)\/((Itz K b1 b2 l1 l2).go i H/\∃N:St->Hp->Prop,(∀σ' H',N σ' H'->∃m',m'<m/\W (i+1) m' σ' H')/\∀x H',(Itz K b1 b2 l1 l2).yld i H x H'->g x σ H' fun σ2 H2=>tb { D with nx:=N,ct:=N,bk:=D.nx } σ2 H2):=by
 refine⟨fun i m σ H=>m=min xs.length ys.length-i/\i<=min xs.length ys.length/\Pv i σ H,⟨_,rfl,qr _,h0⟩,?_⟩
 rintro i m σ H ⟨rfl,hi,p⟩
 obtain⟨q1,q2⟩:=hl i σ H p
 by_cases hlt:i<min xs.length ys.length
 ·have h1:i<xs.length:=by omega
  have h2:i<ys.length:=Qo
  refine .inr ⟨⟨xs,ys,xs[i],ys[i],q1,q2,by simp[h1],by simp[h2]⟩,Pv (i+1),fun σ' H' p'=>⟨_,Qo,rfl,hlt,p'⟩,fun v H' y=>?_⟩
  obtain⟨a,x,y,hn,rfl,rfl,e1,e2⟩:=y
  exact hs i x y σ H a (e1 xs q1) (e2 ys q2) p hn
 ·have e:i=min xs.length ys.length:=by omega
  subst e
  exact .inl ⟨⟨xs,ys,q1,q2,Qo⟩,hd σ H p⟩
theorem uD {K:PySem.W.Frag}{a:Addr}{xs:List V}{g:TG}{tt:TT}{te:TE}{Fin:List V->Hp->Prop}{σ:St}{H:Hp}(Pv:Nat->List V->St->Hp->Prop) (h0:Pv 0 [] σ H) (hz:∀i ys σ H,i<=xs.length->Pv i ys σ H->ys.length<=i) (hx:xs.length<=sizeLine) (hl:∀i ys σ H,Pv i ys σ H->SqL K H a xs)
 (hs:∀i x ys σ H,xs[i]?=some x->Pv i ys σ H->g x σ H fun σ2 H2=>tt σ2 H2 fun b H3=>if b=true then te σ2 H3 fun y H4=>Pv (i+1) (ys++[y]) σ2 H4 else Pv (i+1) ys σ2 H3)
 (hd:∀ys σ H,Pv xs.length ys σ H->Fin ys H):∃W:Nat->Nat->List V->St->Hp->Prop,(∃m,W 0 m [] σ H)/\f8 (Itl K a) g tt te Fin W:=by
 refine⟨fun i m ys σ H=>m=xs.length-i/\i<=xs.length/\Pv i ys σ H,⟨_,rfl,qr _,h0⟩,?_⟩
 rintro i m ys σ H ⟨rfl,hi,p⟩
 have hl':=hz i ys σ H hi p
 have q:=hl i ys σ H p
 by_cases hlt:i<xs.length
 ·refine .inr ⟨⟨xs,xs[i],q,by simp[hlt]⟩,Qo,Pv (i+1),fun ys' σ' H' p'=>⟨_,Qo,rfl,hlt,p'⟩,fun v H' y=>?_⟩
  obtain⟨e,y⟩:=y
  subst e
  exact hs i v ys σ _ (y xs q) p
 ·have e:i=xs.length:=by omega
  subst e
  exact .inl ⟨⟨xs,q,qd _⟩,Qo,hd ys σ H p⟩
end L2
namespace L2
open PySem PySem.Spec PyProof.Rows
section
variable {X:Cx}{tg:Expr}
end
section
variable {X:Cx}
end
end L2
namespace L2
open PySem PySem.Spec PyProof.Rows PySem.NumText
def wl:List Nat->List Nat->List (List Nat)
 |[],cur=>if cur=[]then[]else[cur]
 |c::r,cur=>if c=32 then(if cur=[]then wl r []else cur::wl r [])else wl r (cur++[c])
end L2
namespace L2
open PySem PySem.Spec PyProof.Rows PySem.W
section
variable {prog:Program}{w:World}{A:Around}{R:Result->Shared->Prop}{E:Qq}{h:Heap}{g:Array GenState}{d:Drawn}{t:Nat}{os:OsState}
variable {nm q:Str}{C N f:Addr}{bs bm:List Value}{hdct:Bool}{sn:List Str}{sub:List Value}{ab:Bool}{col:Option Bool}{dd:Option Addr}{k0 k1 k2 k3 k5:Option Value}
end
section
variable {prog:Program}{w:World}{A:Around}{R:Result->Shared->Prop}{E:Qq}{h:Heap}{g:Array GenState}{d:Drawn}{t:Nat}{os:OsState}
variable {nm q:Str}{C N x:Addr}{bs bm:List Value}{sn:List Str}{sub:List Value}{ab:Bool}{col:Option Bool}{dd:Option Addr}{k0 k1 k2 k3 k5:Option Value}{newId:String}{name:Str}{v:Value}{o:Obj}{fs:Array Value}
end
section
variable {prog:Program}{w:World}{A:Around}{R:Result->Shared->Prop}{E:Qq}{h:Heap}{g:Array GenState}{d:Drawn}{t:Nat}{os:OsState}
variable {nm q:Str}{C N e:Addr}{bs bm:List Value}{hdct:Bool}{sn:List Str}{sub:List Value}{ab:Bool}{col:Option Bool}{dd:Option Addr}{k0 k1 k2 k3 k5:Option Value}{newId:String}{oe:Obj}
end
section
variable {X:Cx}{pins:List (Addr×Obj)}{σ:St}{H:Hp}{s:Shared}{a C f dx:Addr}
end
section
variable {X:Cx}{pins:List (Addr×Obj)}{σ:St}{H:Hp}{s:Shared}{a C f dx:Addr}{h':Heap}
end
section
variable {M:Model}{A:Around}{E:Qq}{s:Shared}{base:Heap}{env:Env}{outer:List Env}{L e:Addr}{oe:Obj}{vs:Array Value}
end
section
variable {P:Program}{w:World}{K:PySem.W.Frag}{mg:Str->Option Value}{base:Heap}{N:List Str}{qual:Str}{scope:Scope}{f:Addr}{cdv:Value}{A:Around}{outer:List Env}{s0:Shared}{H0:Hp}{E:XK}
end
section
variable {M:Model}{A:Around}{E:Qq}{env:Env}
variable {nm q:Str}{C N:Addr}{bs bm:List Value}{hdct:Bool}{sn:List Str}{sub:List Value}{ab:Bool}{col:Option Bool}{dd:Option Addr}{k0 k1 k2 k3 k5:Option Value}{newId:String}
end
section
variable {X:Cx}{CX:CXT}{k:Nat}{f C:Addr}{fd:FuncData}{ps:List Str}{sp:Sp}{x:Str}{p pos cpos:Pos}{e:Expr}{es:List Expr}{t:TA}
end
section
variable {M:Model}{A:Around}{E:Qq}{h:Heap}{g:Array GenState}{d:Drawn}{t:Nat}{os:OsState}{e:Addr}{oe:Obj}
variable {nm q:Str}{C N:Addr}{bs bm:List Value}{hdct:Bool}{sn:List Str}{sub:List Value}{ab:Bool}{col:Option Bool}{dd:Option Addr}{k0 k1 k2 k3 k5:Option Value}{newId:String}
variable {nm' q':Str}{C' N':Addr}{bs' bm':List Value}{hdct':Bool}{sn':List Str}{sub':List Value}{ab':Bool}{col':Option Bool}{dd':Option Addr}{k0' k1' k2' k3' k5':Option Value}{newId':String}
end
section
variable {X:Cx}{pins:List (Addr×Obj)}{σ:St}{H:Hp}{s:Shared}{a:Addr}{oe:Obj}{vs:Array Value}{ex:List Addr}{fl:Value}{h':Heap}
end
section
variable {X:Cx}{k:Nat}{f C0:Addr}{fd:FuncData}{ps:List Str}{sp:Sp}{dvs:List V}{ds:List Value}{fx cx y m n:Str}{iy im inn:Nat}{p pos apos py cp pm pn pa hpos tpos:Pos}{e:Expr}{es:List Expr}{t:TA}
end
section
variable {prog:Program}{w:World}{A:Around}{E:Qq}{h:Heap}{g:Array GenState}{d:Drawn}{t:Nat}{os:OsState}{a dx:Addr}{o:Obj}{vs:Array Value}
 {nm q:Str}{C N:Addr}{bs bm:List Value}{sn:List Str}{sub:List Value}{ab:Bool}{col:Option Bool}{dd:Option Addr}{k0 k1 k2 k3 k5:Option Value}{newId:String}{mA:Str->Option Value}{name:Str}{v:Value}
end
section
variable {X:Cx}{e:Expr}{te:TE}{pos:Pos}
end
section
variable {P:Program}{w:World}{K:PySem.W.Frag}{mg:Str->Option Value}{base:Heap}
end
section
variable {prog:Program}{w:World}{A:Around}{E:Qq}{h:Heap}{g:Array GenState}{d:Drawn}{t:Nat}{os:OsState}{a:Addr}{o:Obj}{vs:Array Value}
 {nm q:Str}{C N:Addr}{bs bm:List Value}{sn:List Str}{sub:List Value}{ab:Bool}{col:Option Bool}{dd:Option Addr}{k0 k1 k2 k3 k5:Option Value}{newId:String}
end
section
variable {X:Cx}
end
end L2
namespace L2
open PySem PySem.Spec PyProof.Rows
section
variable {X:Cx}
end
theorem wI {x y:Str}(c:decide (V.str x=V.str y)=true):x=y:=by injection (of_decide_eq_true c)
theorem Bl {x y:Int}(c:decide (V.int x=V.int y)=true):x=y:=by injection (of_decide_eq_true c)
end L2
namespace L2
open PySem
def txt (v:Value):Str:=match v with|.str x _=>x|_=>""
structure aK (P:Program) (w:World) (es:Array (Int×Value)) (t:SetTable) (ys:List Str):Prop where
 el:ElemsOf (strKind P w) es.toList
 nd:(es.toList.map fun e=>txt e.2).Nodup
 mem:∀k,k∈(es.toList.map fun e=>txt e.2)↔k∈ys
 few:es.size<scanBound
 fit:t.fits es.size=true
 led:t.led=!w.params.followText "set-order"
 pl:0<es.size->t.plain=false
theorem jg {P:Program}{w:World}{k:Str}{v:Value}(h:(strKind P w).is k v=true):txt v=k:=by
 obtain⟨t,rfl⟩:=Value.isStrOf_shape h
 rfl
theorem wR (t:SetTable) (n:Nat):(t.orStandIn n).led=t.led/\(t.plain=false->(t.orStandIn n).plain=false):=by
 unfold SetTable.orStandIn
 split
 ·exact⟨rfl,fun z=>z⟩
 ·exact⟨rfl,fun _=>rfl⟩
theorem AN (t:SetTable) (es:Array (Int×Value)) (h:Int) (x:Value):(layNew t es h x).2.1.led=t.led/\(t.plain=false->(layNew t es h x).2.1.plain=false):=by
 unfold layNew
 split
 ·exact wR (t.put _).1 _
 ·exact⟨rfl,fun _=>rfl⟩
theorem xZ (t:SetTable) (es:Array (Int×Value)) (n:Nat):(relayAll t es n).2.1.led=t.led/\(t.plain=false->(relayAll t es n).2.1.plain=false):=by
 unfold relayAll SetTable.standIn
 split
 ·rename_i t' order he
  unfold SetTable.relaid SetTable.laid at he
  have:t'.led=t.led/\t'.plain=t.plain:=by
   simp only[Option.bind_eq_bind,Option.bind_eq_some_iff]at he
   obtain⟨ow,_,he⟩:=he
   injection he with he
   injection he with h1 h2
   rw[<- h1]
   exact⟨rfl,rfl⟩
  dsimp only
  split
  ·exact⟨this.1,fun z=>this.2.trans z⟩
  ·exact⟨rfl,fun _=>rfl⟩
 ·exact⟨rfl,fun _=>rfl⟩
def aE (es:Array (Int×Value)) (ep:Nat) (t:SetTable):Obj:={ cls:=.type "set",dict:=none,data:=.set es ep t }
section
variable {P:Program}{w:World}{A:Around}{E:Qq}{s:Shared}
theorem eG {a:Addr}{es es':Array (Int×Value)}{ep:Nat}{t t':SetTable}(ho:s.heap.get? a=some (aE es ep t)):
 (s.heap.update a (Obj.putSet es' t')).get? a=some (aE es' (ep+1) t'):=by
 have hd:(aE es ep t).data=.set es ep t:=rfl
 have:=Heap.get?_update_self (Obj.putSet es' t') ho (by rw[putSet_of es' t' hd];rfl)
 rw[putSet_of es' t' hd]at this
 exact this
theorem nw {a:Addr}{es:Array (Int×Value)}{ep:Nat}{t:SetTable}{ys:List Str}{k:Str}{tk:Tok}{Q:Bool->Shared->Prop}
 (ho:s.heap.get? a=some (aE es ep t)) (T:aK P w es t ys) (room:es.size+1<scanBound)
 (h:∀(b:Bool) h' es' ep' t',Heap.SameBut a s.heap h'->h'.get? a=some (aE es' ep' t')->aK P w es' t' (ys++[k])->es'.size<=es.size+1->Q b { s with heap:=h' }):
 wpAny (model P w) A (setAddHashed a (.str k tk) (hashStr w k)) Q E s:=by
 have hkey:(strKind P w).is k (.str k tk)=true:=by
  show Value.isStrOf k (.str k tk)=true
  simp[Value.isStrOf]
 have hsc:(Value.str k tk).scannable=true:=rfl
 have hd:(aE es ep t).data=.set es ep t:=rfl
 unfold setAddHashed setAddHashedIn
 refine wpAny_holding (q4 (qW ho hd T.fit ?_))
 dsimp only
 rw[byScan_of hsc T.few T.el]
 simp only[↓reduceIte]
 unfold setAddByScan
 refine q4 ?_
 refine q4 (wpAny_rule ?_)
 refine q4 (wpAny_setScan_of (knd:=strKind P w) (k:=k) hkey ho hd T.fit T.el ?_)
 cases hr:List.findIdx? (fun e=>(strKind P w).is k e.2) es.toList with
 |some j=>
  dsimp only
  obtain⟨hj,hpj,_⟩:=List.findIdx?_eq_some_iff_getElem.mp hr
  refine qc (qc ?_)
  have:=h false s.heap es ep t (Heap.SameBut.refl a s.heap) ho ⟨T.el,T.nd,fun k'=>?_,T.few,T.fit,T.led,T.pl⟩ Qo
  ·exact this
  ·rw[T.mem k',qg,qS]
   refine⟨.inl,fun z=>z.elim id fun e=>?_⟩
   rw[<- T.mem,e,<- jg hpj]
   exact List.mem_map.mpr ⟨_,List.getElem_mem hj,rfl⟩
 |none=>
  dsimp only
  have hnew:k∉es.toList.map fun e=>txt e.2:=by
   intro hm
   obtain⟨e,he,hk⟩:=List.mem_map.mp hm
   have hn:=List.findIdx?_eq_none_iff.mp hr e he
   obtain⟨⟨k',hk',_⟩,_⟩:=T.el e he
   rw[jg hk']at hk
   subst hk
   rw[hk']at hn
   cases hn
  have hgw:∀(b:Bool) {s₁:Shared}{Q':Unit->Shared->Prop},Q' () s₁->wpAny (model P w) A (match b with|true=>rule "set.scan.the-table-gave-way"|false=>pure ()) Q' E s₁:=by
   intro b s₁ Q' hq
   cases b
   ·exact qc hq
   ·exact wpAny_rule hq
  have hperm:=layNew_perm t es (hashStr w k) (.str k tk)
  have hfits:=layNew_fits t es (hashStr w k) (.str k tk)
  have hled:=AN t es (hashStr w k) (.str k tk)
  show wpAny _ _ (match layNew t es (hashStr w k) (.str k tk)with|(es,t,wasDummy,gave)=>_) _ _ _
  generalize layNew t es (hashStr w k) (.str k tk)=Ln at hperm hfits hled ⊢
  obtain⟨es1,t1,wd,gv⟩:=Ln
  dsimp only at hperm hfits hled ⊢
  rw[Array.toList_push]at hperm
  have hsz1:es1.size=es.size+1:=by rw[<- qL,hperm.length_eq,qa,qL];rfl
  have tab:∀(es2:Array (Int×Value)) (t2:SetTable),es2.toList.Perm es1.toList->t2.fits es2.size=true->t2.led=t.led->t2.plain=false->aK P w es2 t2 (ys++[k]):=fun es2 t2 hp hf hl hpl=>by
   have hp':=hp.trans hperm
   refine⟨(T.el.push hkey hsc).perm hp',?_,fun k'=>?_,?_,hf,hl.trans T.led,fun _=>hpl⟩
   ·refine(hp'.map _).nodup_iff.mpr ?_
    rw[qO,List.nodup_append]
    refine⟨T.nd,by simp,fun x hx y hy=>?_⟩
    simp only[qR,List.map_nil,qS]at hy
    rintro rfl
    rw[hy]at hx
    exact hnew hx
   ·rw[(hp'.map _).mem_iff,qO,qg,T.mem k',qg]
    rfl
   ·rw[<- qL,hp'.length_eq,qa,qL]
    exact room
  refine q4 (hgw _ ?_)
  have tail:∀t2:SetTable,t2.fits es1.size=true->t2.led=t.led->t2.plain=false->∀R:Option Bool->Shared->Prop,(∀h' es' ep' t',Heap.SameBut a s.heap h'->h'.get? a=some (aE es' ep' t')->aK P w es' t' (ys++[k])->es'.size<=es.size+1->R (some true) { s with heap:=h' })->
   wpAny (model P w) A (do
    storeSet a es1 t2
    if(!wd && t2.tooFull)=true then do
     (match(relayAll t2 es1 (SetTable.grown es1.size)).2.2 with|true=>rule "set.scan.the-table-gave-way"|false=>pure ())
     storeSet a (relayAll t2 es1 (SetTable.grown es1.size)).1 (relayAll t2 es1 (SetTable.grown es1.size)).2.1
     pure (some true)
    else pure (some true)) R E s:=fun t2 hf hl hpl R hR=>by
   have room1:es1.size<=sizeLine:=fits_of_scanBound (by rw[hsz1];exact room)
   refine q4 (wpAny_storeSet_of ho hd ?_ room1)
   have ho1:=eG (s:=s) (es':=es1) (t':=t2) ho
   have sb1:=Heap.SameBut.update s.heap a (Obj.putSet es1 t2)
   split
   ·have hp:=relayAll_perm t2 es1 (SetTable.grown es1.size)
    have hfr:=relayAll_fits t2 es1 (SetTable.grown es1.size)
    have hlr:=xZ t2 es1 (SetTable.grown es1.size)
    generalize relayAll t2 es1 (SetTable.grown es1.size)=Rl at hp hfr hlr ⊢
    obtain⟨es2,t3,g2⟩:=Rl
    dsimp only at hp hfr hlr ⊢
    have hsz2:es2.size=es1.size:=by rw[<- qL,hp.length_eq,qL]
    refine q4 (hgw _ ?_)
    refine q4 (wpAny_storeSet_of (s:={ s with heap:=s.heap.update a (Obj.putSet es1 t2) }) ho1 rfl ?_ (by rw[hsz2];exact room1))
    exact qc (hR _ es2 _ t3 (sb1.trans (Heap.SameBut.update _ a _)) (eG (s:={ s with heap:=s.heap.update a (Obj.putSet es1 t2) }) ho1) (tab es2 t3 hp hfr (hlr.1.trans hl) (hlr.2 hpl)) Qo)
   ·exact qc (hR _ es1 _ t2 sb1 ho1 (tab es1 t2 (.refl _) hf hl hpl) Qo)
  split
  ·refine q4 ?_
   rw[hashByValue_scannable 8 hsc]
   refine qc ?_
   refine tail _ (SetTable.fits_plain_off hfits) hled.1 rfl _ fun h' es' ep' t' a1 a2 a3 a4=>?_
   exact qc (h true h' es' ep' t' a1 a2 a3 a4)
  ·rename_i hpl
   refine q4 (qc ?_)
   simp only[↓reduceIte]
   refine tail _ hfits hled.1 (by simpa using hpl) _ fun h' es' ep' t' a1 a2 a3 a4=>?_
   exact qc (h true h' es' ep' t' a1 a2 a3 a4)
end
section
variable {P:Program}{w:World}{A:Around}{E:Qq}{s:Shared}
theorem BZ {R:Result->Shared->Prop}{I:Addr}{fp wr:List Addr}{G:Array GenState->Array GenState->Prop}{n:Nat}{PI:Nat->Value->Prop}{St:Nat->Shared->Prop}
 (W:WalksS P w A.in1 I fp wr G n PI St) (S:Addr) (hSf:S∉fp) (zs:List Str) (hz:∀i v,PI i v->∃k t,zs[i]?=some k/\v=.str k t) (hb:n+1<scanBound):
 ∀(k i:Nat) (s:Shared),n-i=k->i<=n->St i s->
  (∃es ep t,s.heap.get? S=some (aE es ep t)/\aK P w es t (zs.take i)/\es.size<=i)->
  (∀s',Moved (S::wr) G s s'->(∃es ep t,s'.heap.get? S=some (aE es ep t)/\aK P w es t (zs.take n)/\es.size<=n)->R (.ok (.ret .none)) s')->
  codeAny (model P w) A (.builtin "set.update.loop" ⟨[.ref S,.ref I],[]⟩) R s:=by
 have hSw:S∉wr:=fun z=>hSf (W.sub _ z)
 have up:∀b∈wr,b∈S::wr:=fun b z=>qj _ z
 intro k
 induction k with
 |zero=>
  intro i s hk hi hst hS hR
  obtain rfl:i=n:=Qo
  refine codeAny_builtin PyProof.Rows.F.entry_set_update_loop ?_
  rw[Around.under_plainId PyProof.Rows.F.plain_set_update_loop _]
  show wpAny _ A.in1 (pyNext (.ref I) >>= _) _ _ s
  refine q4 (W.done s _ _ hst fun s' hm=>?_)
  show wpAny _ A.in1 (ret Value.none) _ _ s'
  obtain⟨es,ep,t,h1,h2,h3⟩:=hS
  exact qc (hR s' (hm.mono up) ⟨es,ep,t,hm.heap S _ hSw h1,h2,h3⟩)
 |succ k ih=>
  intro i s hk hi hst hS hR
  have lt:i<n:=Qo
  refine codeAny_builtin PyProof.Rows.F.entry_set_update_loop ?_
  rw[Around.under_plainId PyProof.Rows.F.plain_set_update_loop _]
  show wpAny _ A.in1 (pyNext (.ref I) >>= _) _ _ s
  refine q4 (W.item i s _ _ lt hst fun v s' hP hst' hm=>?_)
  obtain⟨z,t,hzi,rfl⟩:=hz i v hP
  obtain⟨es,ep,tb,h1,h2,h3⟩:=hS
  have h1':=hm.heap S _ hSw h1
  show wpAny _ A.in1 (holding [Value.str z t] (setAdd S (.str z t)) >>= _) _ _ s'
  refine q4 (wpAny_holding ?_)
  unfold setAdd
  refine wpAny_holding ?_
  refine q4 (wpAny_pyHash_str ?_)
  refine nw (s:={ s' with toks:=s'.toks+1 }) h1' h2 Qo fun b h' es' ep' t' sb g1 g2 g3=>?_
  have e:zs.take (i+1)=zs.take i++[z]:=by rw[qq,hzi];rfl
  refine qc ⟨plainId_quiet PyProof.Rows.F.plain_set_update_loop _,ih (i+1) _ Qo lt (W.frame _ s' _ _ hst' (Nat.le_succ _) fun b hb o q=>?_) ⟨es',ep',t',g1,by rw[e];exact g2,Qo⟩ fun s2 m2 S2=>?_⟩
  ·rw[sb.2 b fun z:b=S=>hSf (by rw[<- z];exact hb)]
   exact q
  ·refine hR s2 (Moved.trans W.gtrans ((hm.mono up).then_heap (Nat.le_succ _) fun b o hb q=>?_) m2) S2
   rw[sb.2 b fun z:b=S=>hb (by rw[z];exact qk)]
   exact q
end
theorem cX:Slot "set_iterator" "__next__" "set_iterator.__next__":=
 .of (owner:="set_iterator") (n:="__next__") (by rw[typeLookup_type,builtinLookup_eq_fast];kernel_rfl) Qd Qd Qd (.inl Qd) (by rw[isSubtype_type];kernel_rfl)
theorem iC:entryFor table "set_iterator.__next__"=some Builtin.«set_iterator.__next__»:=entryFor_of_tree (by kernel_rfl)
theorem iD (a:Value):argsOk "set_iterator.__next__" ⟨[a],[]⟩:=by unfold argsOk;kernel_rfl
theorem pK:Slot "set_iterator" "__iter__" "set_iterator.__iter__":=
 .of (owner:="set_iterator") (n:="__iter__") (by rw[typeLookup_type,builtinLookup_eq_fast];kernel_rfl) Qd Qd Qd (by first|exact .inl Qd|exact .inr Qd) (by rw[isSubtype_type];kernel_rfl)
theorem x9:entryFor table "set_iterator.__iter__"=some Builtin.«dict_keyiterator.__iter__»:=entryFor_alias (id':="dict_keyiterator.__iter__") (by kernel_rfl) rfl Qd (by kernel_rfl)
theorem xb (a:Value):argsOk "set_iterator.__iter__" ⟨[a],[]⟩:=by unfold argsOk;kernel_rfl
theorem xw:entryFor table "set.__iter__"=some Builtin.«frozenset.__iter__»:=entryFor_alias (id':="frozenset.__iter__") (by kernel_rfl) rfl Qd (by kernel_rfl)
def ca (fst:Value) (i:Nat) (a:Addr) (n ep:Nat):Obj:={ cls:=.type "set_iterator",data:=.fields #[fst,.int i 0,.ref a,.int n 0,.int ep 0] }
section
variable {P:Program}{w:World}{A:Around}{E:Qq}{s:Shared}
theorem dQ {a:Addr}{es:Array (Int×Value)}{ep:Nat}{t:SetTable}{Q:Array (Int×Value)->Shared->Prop}(ho:s.heap.get? a=some (aE es ep t)) (hf:t.fits es.size=true) (h:Q es s):
 wpAny (model P w) A (setEntries a) Q E s:=by
 unfold setEntries
 exact q4 (qW ho rfl hf (qc h))
theorem xg {I a tp:Addr}{i p n ep:Nat}{es:Array (Int×Value)}{t:SetTable}{its:Array Value}{x:Int×Value}{nn:Nat}{ot:Obj}{tk:Tok}{Q:Option Value->Shared->Prop}
 (hi:s.heap.get? I=some (ca (.ref tp) i a n ep)) (hs:s.heap.get? a=some (aE es ep t)) (hf:t.fits es.size=true) (hn:es.size=n)
 (ht:s.heap.get? tp=some ot) (htd:ot.data=.seq its nn) (hp:its[i]?=some (.int (p:Int) tk)) (hx:es[p]?=some x)
 (h:∀h',h'.get? I=some (ca (.ref tp) (i+1) a n ep)->Heap.SameBut I s.heap h'->Q (some x.2) { s with heap:=h' }):
 wpAny (model P w) A (pyNext (.ref I)) Q E s:=by
 have ty:s.TypeIs (.ref I) "set_iterator":=⟨_,hi,rfl⟩
 unfold pyNext
 refine q4 (wpAny_attempt (wpAny_callSpecial?_slot (name:=Str.ofString "__next__") ty cX (wpAny_call_entry cX ty iC ?_ (iD _))))
 unfold Builtin.«set_iterator.__next__»
 refine q4 (qc ?_)
 refine q4 (wpAny_fieldsOf hi rfl ?_)
 dsimp only
 refine q4 (dQ hs hf ?_)
 have ne:((es.size:Int) != (n:Int))=false:=by rw[hn];simp
 rw[ne,qZ qh]
 refine q4 (wpAny_seqItems ht htd ?_)
 dsimp only
 rw[qX,hp]
 dsimp only
 refine q4 ?_
 unfold setNextDrawn
 refine q4 (qW hs rfl hf ?_)
 dsimp only
 have ne2:(ep != (ep:Int).toNat)=false:=by rw[qX];simp
 rw[ne2,qZ qh,qX,hx]
 dsimp only
 refine qc ?_
 refine q4 (wpAny_setField hi rfl (by simp) (qc ⟨_,rfl,qc (h _ ?_ (Heap.SameBut.update ..))⟩))
 have:=Heap.get?_update_self (Obj.mapFields (·.setIfInBounds 1 (rawInt ((i:Int)+1)))) hi rfl
 exact this
theorem ox {Q:Option Value->Shared->Prop}(hh:A.handled=none) (h:∀h',(∀b o,s.heap.get? b=some o->h'.get? b=some o)->Q none { s with heap:=h' }):
 wpAny (model P w) A.in1 (newExc (.type "StopIteration") [] >>= fun x=>(raiseNew x:Sem Fin)) (fun fin s'=>∃v,fin=Fin.done (Flow.ret v)/\wpAny (model P w) A (pure (some v)) Q E s')
  (fun e s'=>wpAny (model P w) A (do if <- isInstance e (Value.type "StopIteration")then pure none else throw e) Q E s') s:=by
 refine q4 ?_
 simp only[newExc,newTuple]
 refine q4 (wpAny_newObj_type ?_ (by size_fits))
 refine q4 (m:=firstArgMember _ _) (wpAny_of_eq (a:=Value.none) (by first|rfl|(simp only[firstArgMember];rfl)) ?_)
 refine wpAny_newObj_type ?_ (by size_fits)
 simp only[raiseNew]
 refine q4 (wpAny_handled ?_)
 have hh':A.in1.handled=none:=hh
 rw[hh']
 refine q4 (qc (wpAny_throw ?_))
 refine q4 (wpAny_isInstance (T:="StopIteration") (b:=true) ⟨_,qo _ rfl,rfl⟩ isSubtype_stop ?_)
 exact qc (h _ fun b o e=>q9 _ (q9 _ e))
theorem xf {I a tp:Addr}{i n ep:Nat}{es:Array (Int×Value)}{t:SetTable}{its:Array Value}{nn:Nat}{ot:Obj}{Q:Option Value->Shared->Prop}(hh:A.handled=none)
 (hi:s.heap.get? I=some (ca (.ref tp) i a n ep)) (hs:s.heap.get? a=some (aE es ep t)) (hf:t.fits es.size=true) (hn:es.size=n)
 (ht:s.heap.get? tp=some ot) (htd:ot.data=.seq its nn) (hp:its[i]?=none)
 (h:∀h',(∀b o,b≠I->s.heap.get? b=some o->h'.get? b=some o)->Q none { s with heap:=h' }):
 wpAny (model P w) A (pyNext (.ref I)) Q E s:=by
 have ty:s.TypeIs (.ref I) "set_iterator":=⟨_,hi,rfl⟩
 unfold pyNext
 refine q4 (wpAny_attempt (wpAny_callSpecial?_slot (name:=Str.ofString "__next__") ty cX (wpAny_call_entry cX ty iC ?_ (iD _))))
 unfold Builtin.«set_iterator.__next__»
 refine q4 (qc ?_)
 refine q4 (wpAny_fieldsOf hi rfl ?_)
 dsimp only
 refine q4 (dQ hs hf ?_)
 have ne:((es.size:Int) != (n:Int))=false:=by rw[hn];simp
 rw[ne,qZ qh]
 refine q4 (wpAny_seqItems ht htd ?_)
 dsimp only
 rw[qX,hp]
 dsimp only
 refine q4 (wpAny_setField hi rfl (by simp) ?_)
 have g1:=Heap.get?_update_self (Obj.mapFields (·.setIfInBounds 0 (rawInt 0))) hi rfl
 refine q4 (wpAny_setField g1 rfl (by simp) ?_)
 refine ox hh fun h' k=>h h' fun b o hb e=>k b o ?_
 exact(Heap.get?_update_other _ _ (Ne.symm hb)).trans ((Heap.get?_update_other _ _ (Ne.symm hb)).trans e)
theorem pJ {I a:Addr}{i n ep sl sl':Nat}{es:Array (Int×Value)}{t:SetTable}{x:Value}{Q:Option Value->Shared->Prop}
 (hi:s.heap.get? I=some (ca (.int (sl:Int) 0) i a n ep)) (hs:s.heap.get? a=some (aE es ep t)) (hf:t.fits es.size=true) (hn:es.size=n)
 (hx:∀Q':Option (Value×Nat)->Shared->Prop,∀E',Q' (some (x,sl')) s->wpAny (model P w) A.in1 (setNext a sl i ep) Q' E' s)
 (h:∀h',h'.get? I=some (ca (.int (sl':Int) 0) (i+1) a n ep)->Heap.SameBut I s.heap h'->Q (some x) { s with heap:=h' }):
 wpAny (model P w) A (pyNext (.ref I)) Q E s:=by
 have ty:s.TypeIs (.ref I) "set_iterator":=⟨_,hi,rfl⟩
 unfold pyNext
 refine q4 (wpAny_attempt (wpAny_callSpecial?_slot (name:=Str.ofString "__next__") ty cX (wpAny_call_entry cX ty iC ?_ (iD _))))
 unfold Builtin.«set_iterator.__next__»
 refine q4 (qc ?_)
 refine q4 (wpAny_fieldsOf hi rfl ?_)
 dsimp only
 refine q4 (dQ hs hf ?_)
 have ne:((es.size:Int) != (n:Int))=false:=by rw[hn];simp
 rw[ne,qZ qh,qX,qX,qX]
 refine q4 (hx _ _ ?_)
 dsimp only
 refine q4 (wpAny_setField hi rfl (by simp) ?_)
 have g1:=Heap.get?_update_self (Obj.mapFields (·.setIfInBounds 0 (rawInt (sl':Int)))) hi rfl
 refine q4 (wpAny_setField g1 rfl (by simp) (qc ⟨_,rfl,qc (h _ ?_ ((Heap.SameBut.update ..).trans (Heap.SameBut.update ..)))⟩))
 exact Heap.get?_update_self (Obj.mapFields (·.setIfInBounds 1 (rawInt ((i:Int)+1)))) g1 rfl
theorem jZ {I a:Addr}{i n ep sl:Nat}{es:Array (Int×Value)}{t:SetTable}{Q:Option Value->Shared->Prop}(hh:A.handled=none)
 (hi:s.heap.get? I=some (ca (.int (sl:Int) 0) i a n ep)) (hs:s.heap.get? a=some (aE es ep t)) (hf:t.fits es.size=true) (hn:es.size=n)
 (hx:∀Q':Option (Value×Nat)->Shared->Prop,∀E',Q' none s->wpAny (model P w) A.in1 (setNext a sl i ep) Q' E' s)
 (h:∀h',(∀b o,b≠I->s.heap.get? b=some o->h'.get? b=some o)->Q none { s with heap:=h' }):
 wpAny (model P w) A (pyNext (.ref I)) Q E s:=by
 have ty:s.TypeIs (.ref I) "set_iterator":=⟨_,hi,rfl⟩
 unfold pyNext
 refine q4 (wpAny_attempt (wpAny_callSpecial?_slot (name:=Str.ofString "__next__") ty cX (wpAny_call_entry cX ty iC ?_ (iD _))))
 unfold Builtin.«set_iterator.__next__»
 refine q4 (qc ?_)
 refine q4 (wpAny_fieldsOf hi rfl ?_)
 dsimp only
 refine q4 (dQ hs hf ?_)
 have ne:((es.size:Int) != (n:Int))=false:=by rw[hn];simp
 rw[ne,qZ qh,qX,qX,qX]
 refine q4 (hx _ _ ?_)
 dsimp only
 refine q4 (wpAny_setField hi rfl (by simp) ?_)
 refine ox hh fun h' k=>h h' fun b o hb e=>k b o ?_
 exact(Heap.get?_update_other _ _ (Ne.symm hb)).trans e
theorem iB {I a:Addr}{fst:Value}{i n ep:Nat}{Q:Qq}(hi:s.heap.get? I=some (ca fst i a n ep)) (h:Q (.ref I) s):wpAny (model P w) A (pyIter (.ref I)) Q E s:=by
 have ty:s.TypeIs (.ref I) "set_iterator":=⟨_,hi,rfl⟩
 refine wpAny_pyIter_slot ty pK (wpAny_call_entry pK ty x9 ?_ (xb _))
 show wpAny _ _ (ret (.ref I)) _ _ s
 exact qc ⟨_,rfl,"set_iterator",_,ty,cX.lookup,h⟩
end
section
variable {P:Program}{w:World}{A:Around}{E:Qq}{s:Shared}
theorem vB {src:Source}{n:Nat}{Q:Nat->Shared->Prop}(hn:n≠0) (h:∀i d,i<n->Q i { s with drawn:=d }):wpAny (model P w) A (choose src n) Q E s:=fun Γ p _=>by
 show Sem.wp _ _ (.choose src n .pure) _ _ _ _
 rw[Sem.wp_choose]
 refine⟨hn,?_⟩
 have:=h ((model P w).w.draws src (s.drawn.get src) % n) (s.drawn.bump src) (Nat.mod_lt _ (Nat.pos_of_ne_zero hn))
 simpa using this
theorem rN {α:Type}{xs:List α}{i:Nat}{x:α}(h:xs[i]?=some x):(x::xs.eraseIdx i).Perm xs:=by
 induction xs generalizing i with
 |nil=>simp at h
 |cons y r ih=>
  cases i with
  |zero=>simp at h;subst h;exact .refl _
  |succ j=>
   simp only[List.getElem?_cons_succ]at h
   exact(List.Perm.swap y x _).trans ((ih h).cons y)
theorem mW {α:Type}:∀(n:Nat) (xs:List α) (s:Shared) (Q:List α->Shared->Prop),xs.length=n->(∀ys d,ys.Perm xs->Q ys { s with drawn:=d })->wpAny (model P w) A (drawOrder n xs) Q E s
 |0,xs,s,Q,hn,h=>by
  obtain rfl:=List.length_eq_zero_iff.mp hn
  exact qc (h [] s.drawn (.refl _))
 |n+1,[],s,Q,hn,h=>by cases hn
 |n+1,x::r,s,Q,hn,h=>by
  unfold drawOrder
  refine q4 (vB (by simp) fun i d hi=>?_)
  have e:(x::r)[i]?=some (x::r)[i]:=qb hi
  rw[e]
  dsimp only
  refine q4 (mW n _ _ _ (by rw[List.length_eraseIdx_of_lt hi];omega) fun ys d' hp=>qc ?_)
  exact h _ d' ((hp.cons _).trans (rN e))
theorem rL {α:Type}(next:Nat->Nat):∀(fuel k:Nat) (left:List α) (out:Array α),left.length=fuel->(pickOrder.go next fuel k left out).toList.Perm (out.toList++left)
 |0,k,left,out,h=>by
  obtain rfl:=List.length_eq_zero_iff.mp h
  unfold pickOrder.go
  rw[qw]
 |fuel+1,k,left,out,h=>by
  unfold pickOrder.go
  have hi:next k % left.length<left.length:=Nat.mod_lt _ Qo
  have e:=qb hi
  rw[e]
  dsimp only
  refine(rL next fuel (k+1) _ _ (by rw[List.length_eraseIdx_of_lt hi];omega)).trans ?_
  rw[Array.toList_push,qM]
  exact(List.Perm.refl _).append (rN e)
theorem rK {α:Type}(next:Nat->Nat) (xs:Array α):(pickOrder next xs).toList.Perm xs.toList:=by
 have:=rL next xs.size 0 xs.toList #[] qL
 simpa[pickOrder]using this
theorem dJ {Q:Bool->Shared->Prop}(h:Q (w.params.followText "set-order") s):wpAny (model P w) A setsByText Q E s:=by
 unfold setsByText
 exact q4 (wpAny_askSetting (qc h))
structure CP (P:Program) (w:World) (es:Array (Int×Value)) (a:Addr) (s s':Shared) (I:Addr):Prop where
 ex:∃(fp:List Addr) (vs:List Value) (St:Nat->Heap->Prop),vs.Perm (es.toList.map (·.2))/\(∀A:Around,A.handled=none->Walks P w A I fp [I] vs.length (fun i v=>vs[i]?=some v) St)/\St 0 s'.heap/\(∀b∈fp,b<s'.heap.objs.size/\(b=a\/s.heap.get? b=none))/\I∈fp
 old:∀b o,s.heap.get? b=some o->s'.heap.get? b=some o
 new:s.heap.get? I=none
 gens:s'.gens=s.gens
 os:s'.os=s.os
 toks:s'.toks=s.toks
theorem BV {t:SetTable}{n:Nat}(h:t.fits n=true):t.place.size=n:=by
 simp only[SetTable.fits,Bool.and_eq_true,beq_iff_eq]at h
 exact h.1
theorem eu {h:Heap}{b:Addr}(k:h.objs.size<=b):h.get? b=none:=by
 cases q:h.get? b with
 |none=>rfl
 |some o=>exact absurd (qC (qp q) k) (Nat.lt_irrefl _)
theorem Bc {a:Addr}{es:Array (Int×Value)}{ep:Nat}{t:SetTable}{ys:List Str}{Q:Qq}(hs:s.heap.get? a=some (aE es ep t)) (T:aK P w es t ys)
 (h:∀s' I,CP P w es a s s' I->Q (.ref I) s'):wpAny (model P w) A (pyIter (.ref a)) Q E s:=by
 have ty:s.TypeIs (.ref a) "set":=⟨_,hs,rfl⟩
 have alt:a<s.heap.objs.size:=qp hs
 refine wpAny_pyIter_slot ty F.slot_set_iter (wpAny_call_entry F.slot_set_iter ty xw ?_ (F.args_set_iter_1 _))
 unfold Builtin.«frozenset.__iter__»
 refine q4 (qc ?_)
 refine q4 ?_
 unfold Builtin.Frozenset.sizeOf
 refine q4 (dQ hs T.fit (qc ?_))
 refine q4 ?_
 unfold setDrawn
 refine q4 (qW hs rfl T.fit ?_)
 dsimp only
 refine q4 (dJ (qc ?_))
 have two:∀(fst:Value) (s1:Shared),s1.heap.get? a=some (aE es ep t)->(∀it s',it=.ref s1.heap.objs.size->s'={ s1 with heap:=s1.heap.push (ca fst 0 a es.size ep) }->Q it s')->
  wpAny (model P w) A.in1 (do
   let e <- setEpoch a
   let x <- newFields "set_iterator" [fst,rawInt 0,.ref a,rawInt (es.size:Int),rawInt (e:Int)]
   ret x) (fun fin s'=>∃v,fin=Fin.done (Flow.ret v)/\∃T' r,s'.TypeIs v T'/\typeLookup (Value.type T') (Str.ofString "__next__")=pure (some r)/\Q v s') E s1:=fun fst s1 h1 hq=>by
  refine q4 (wpAny_setEpoch_of h1 rfl T.fit ?_)
  unfold newFields
  refine q4 (wpAny_newObj_type ?_)
  refine qc ⟨_,rfl,"set_iterator",_,⟨_,qo _ rfl,rfl⟩,cX.lookup,hq _ _ rfl rfl⟩
 show wpAny _ _ (if(!w.params.followText "set-order" && (!t.plain && decide (es.size > 1)))=true then _ else _) _ _ _
 have hpl:=BV T.fit
 by_cases hb:w.params.followText "set-order"=true
 ·rw[hb]
  simp only[Bool.not_true,Bool.false_and,Bool.false_eq_true,if_false]
  refine q4 (qc ?_)
  refine two _ s hs fun it s' e1 e2=>?_
  subst e1 e2
  have pp:=rK (w.params.setOrder a ep) es
  have pl:((pickOrder (w.params.setOrder a ep) es).toList.map (·.2)).length=es.size:=by rw[q5,pp.length_eq,qL]
  have nx:∀(A':Around) (i:Nat) (s1:Shared) (Q':Option (Value×Nat)->Shared->Prop) E',s1.heap.get? a=some (aE es ep t)->Q' (((pickOrder (w.params.setOrder a ep) es)[i]?).map fun e=>(e.2,0)) s1->wpAny (model P w) A' (setNext a 0 i ep) Q' E' s1:=fun A' i s1 Q' E' h1 q=>by
   unfold setNext
   refine q4 (qW h1 rfl T.fit ?_)
   dsimp only
   refine q4 (dJ ?_)
   rw[hb,Q0 rfl]
   have ne:(ep != ep)=false:=by simp
   rw[ne,qZ qh]
   refine q4 ?_
   unfold setWalk
   refine q4 (qW h1 rfl T.fit ?_)
   dsimp only
   refine q4 (dJ ?_)
   rw[hb,Q0 rfl]
   refine q4 (wpAny_askSetting (qc ?_))
   exact qc q
  have nI:a≠s.heap.objs.size:=qF alt
  refine h _ _ ⟨⟨[s.heap.objs.size,a],(pickOrder (w.params.setOrder a ep) es).toList.map (·.2),fun i h'=>h'.get? s.heap.objs.size=some (ca (.int 0 0) i a es.size ep)/\h'.get? a=some (aE es ep t),pp.map _,fun A' hh=>?_,⟨qo _ rfl,q9 _ hs⟩,?_,by simp⟩,fun b o e=>q9 _ e,?_,rfl,rfl,rfl⟩
  ·refine⟨fun b hb=>by simp at hb;simp[hb],fun i h1 h2 st k=>⟨k _ (by simp) _ st.1,k _ (by simp) _ st.2⟩,fun i s1 Q' E' hi st q=>?_,fun s1 Q' E' st q=>?_,fun i s1 Q' E' st q=>iB st.1 q⟩
   ·have hi':i<(pickOrder (w.params.setOrder a ep) es).size:=by rw[q5,qL]at hi;exact hi
    refine pJ (sl:=0) (sl':=0) (x:=(pickOrder (w.params.setOrder a ep) es)[i].2) st.1 st.2 T.fit rfl (fun Q2 E2 q2=>nx _ _ _ _ _ st.2 (by rw[Array.getElem?_eq_getElem hi'];exact q2)) fun h' g1 g2=>q _ h' s1.toks ?_ ⟨g1,?_⟩ fun b o hb e=>?_
    ·simp[hi']
    ·rw[g2.2 _ nI];exact st.2
    ·rw[g2.2 _ (by simpa using hb)];exact e
   ·have hi':(pickOrder (w.params.setOrder a ep) es)[((pickOrder (w.params.setOrder a ep) es).toList.map (·.2)).length]?=none:=by simp
    exact jZ (sl:=0) hh st.1 st.2 T.fit rfl (fun Q2 E2 q2=>nx _ _ _ _ _ st.2 (by rw[hi'];exact q2)) fun h' g=>q h' s1.toks fun b o hb e=>g b o (by simpa using hb) e
  ·intro b hb
   simp only[qt,qQ,or_false]at hb
   rw[Heap.size_push]
   rcases hb with rfl|rfl
   ·exact⟨Nat.lt_succ_self _,.inr (eu (qd _))⟩
   ·exact⟨Nat.lt_succ_of_lt alt,.inl rfl⟩
  ·exact eu (qd _)
 ·have hb':w.params.followText "set-order"=false:=by simpa using hb
  rw[hb']
  have led:t.led=true:=by rw[T.led,hb'];rfl
  by_cases hz:es.size > 1
  ·have hp:=T.pl Qo
   rw[hp]
   simp only[Bool.not_false,Bool.true_and,hz,decide_true,if_true]
   refine q4 (mW _ _ _ _ (by simp) fun ps d hps=>?_)
   refine q4 (wpAny_newTuple ?_ (by rw[q5,hps.length_eq,List.length_range];exact fits_of_scanBound T.few))
   refine two _ _ (q9 _ hs) fun it s' e1 e2=>?_
   subst e1 e2
   dsimp only
   have lt:∀p∈ps,p<es.size:=fun p hm=>List.mem_range.mp (hps.mem_iff.mp hm)
   have sz:(s.heap.push { cls:=.type "tuple",data:=.seq (ps.map fun i:Nat=>rawInt i).toArray }).objs.size=s.heap.objs.size+1:=Heap.size_push ..
   have vp:(ps.map fun p=>(es.toList.map (·.2)).getD p .none).Perm (es.toList.map (·.2)):=by
    refine(hps.map _).trans ?_
    have e:(List.range es.size).map (fun p=>(es.toList.map (·.2)).getD p .none)=es.toList.map (·.2):=by
     refine List.ext_getElem (by simp) fun i h1 h2=>?_
     simp only[List.getElem_map,List.getElem_range]
     rw[qi,qb h2]
     simp
    rw[e]
   have nI:a≠(s.heap.push { cls:=.type "tuple",data:=.seq (ps.map fun i:Nat=>rawInt i).toArray }).objs.size:=by rw[sz];exact qF (Nat.lt_succ_of_lt alt)
   have nT:s.heap.objs.size≠(s.heap.push { cls:=.type "tuple",data:=.seq (ps.map fun i:Nat=>rawInt i).toArray }).objs.size:=by rw[sz];exact qF (Nat.lt_succ_self _)
   refine h _ _ ⟨⟨[(s.heap.push { cls:=.type "tuple",data:=.seq (ps.map fun i:Nat=>rawInt i).toArray }).objs.size,a,s.heap.objs.size],ps.map fun p=>(es.toList.map (·.2)).getD p .none,
    fun i h'=>h'.get? (s.heap.push { cls:=.type "tuple",data:=.seq (ps.map fun i:Nat=>rawInt i).toArray }).objs.size=some (ca (.ref s.heap.objs.size) i a es.size ep)/\h'.get? a=some (aE es ep t)/\h'.get? s.heap.objs.size=some { cls:=.type "tuple",data:=.seq (ps.map fun i:Nat=>rawInt i).toArray },
    vp,fun A' hh=>?_,⟨qo _ rfl,q9 _ (q9 _ hs),q9 _ (qo _ rfl)⟩,?_,by simp⟩,fun b o e=>q9 _ (q9 _ e),?_,rfl,rfl,rfl⟩
   ·refine⟨fun b hb=>by simp at hb;simp[hb],fun i h1 h2 st k=>⟨k _ (by simp) _ st.1,k _ (by simp) _ st.2.1,k _ (by simp) _ st.2.2⟩,fun i s1 Q' E' hi st q=>?_,fun s1 Q' E' st q=>?_,fun i s1 Q' E' st q=>iB st.1 q⟩
    ·have hi':i<ps.length:=by rw[q5]at hi;exact hi
     have pl:=lt _ (List.getElem_mem hi')
     refine xg (p:=ps[i]) (tk:=0) (x:=es[ps[i]]) st.1 st.2.1 T.fit rfl st.2.2 rfl (by simp[hi',rawInt]) (Array.getElem?_eq_getElem pl) fun h' g1 g2=>q _ h' s1.toks ?_ ⟨g1,?_,?_⟩ fun b o hb e=>?_
     ·simp[hi',pl]
     ·rw[g2.2 _ nI];exact st.2.1
     ·rw[g2.2 _ nT];exact st.2.2
     ·rw[g2.2 _ (by simpa using hb)];exact e
    ·exact xf hh st.1 st.2.1 T.fit rfl st.2.2 rfl (by simp) fun h' g=>q h' s1.toks fun b o hb e=>g b o (by simpa using hb) e
   ·intro b hb
    simp only[qt,qQ,or_false]at hb
    rw[Heap.size_push,sz]
    rcases hb with rfl|rfl|rfl
    ·rw[sz];exact⟨Nat.lt_succ_self _,.inr (eu (Nat.le_succ _))⟩
    ·exact⟨Nat.lt_succ_of_lt (Nat.lt_succ_of_lt alt),.inl rfl⟩
    ·exact⟨Nat.lt_succ_of_lt (Nat.lt_succ_self _),.inr (eu (qd _))⟩
   ·rw[sz];exact eu (Nat.le_succ _)
  ·have hz':decide (es.size > 1)=false:=decide_eq_false hz
   rw[hz',Bool.and_false,Bool.and_false,qZ qh]
   refine q4 (qc ?_)
   refine two _ s hs fun it s' e1 e2=>?_
   subst e1 e2
   have nI:a≠s.heap.objs.size:=qF alt
   have nx:∀(A':Around) (i sl:Nat) (s1:Shared) (Q':Option (Value×Nat)->Shared->Prop) E',s1.heap.get? a=some (aE es ep t)->Q' (match es[SetTable.below t.place sl]?,t.place[SetTable.below t.place sl]? with|some (_,x),some j=>some (x,j+1)|_,_=>none) s1->wpAny (model P w) A' (setNext a sl i ep) Q' E' s1:=fun A' i sl s1 Q' E' h1 q=>by
    unfold setNext
    refine q4 (qW h1 rfl T.fit ?_)
    dsimp only
    refine q4 (dJ ?_)
    rw[hb',qZ qh]
    show wpAny _ _ (if(!t.plain && decide (es.size > 1))=true then _ else _) _ _ _
    rw[hz',Bool.and_false,qZ qh]
    refine q4 ?_
    show wpAny _ _ (if(!t.led && !es.isEmpty)=true then _ else _) _ _ _
    rw[led,Bool.not_true,Bool.false_and,qZ qh]
    exact qc (qc q)
   have gofar:∀sl:Nat,es.size=0->SetTable.below t.place sl=0:=fun sl h0=>by
    unfold SetTable.below
    rw[hpl,h0]
    rfl
   have gone:∀j sl:Nat,t.place=#[j]->SetTable.below t.place sl=if j<sl then 1 else 0:=fun j sl e=>by
    rw[e]
    simp[SetTable.below,SetTable.below.go]
   have old:∀b o,s.heap.get? b=some o->(s.heap.push (ca (rawInt 0) 0 a es.size ep)).get? b=some o:=fun b o e=>q9 _ e
   have inn:∀b∈[s.heap.objs.size,a],b<(s.heap.push (ca (rawInt 0) 0 a es.size ep)).objs.size/\(b=a\/s.heap.get? b=none):=by
    intro b hb
    simp only[qt,qQ,or_false]at hb
    rw[Heap.size_push]
    rcases hb with rfl|rfl
    ·exact⟨Nat.lt_succ_self _,.inr (eu (qd _))⟩
    ·exact⟨Nat.lt_succ_of_lt alt,.inl rfl⟩
   by_cases h0:es.size=0
   ·have e0:es=#[]:=Array.eq_empty_of_size_eq_zero h0
    refine h _ _ ⟨⟨[s.heap.objs.size,a],[],fun i h'=>h'.get? s.heap.objs.size=some (ca (.int ((0:Nat):Int) 0) i a es.size ep)/\h'.get? a=some (aE es ep t),by rw[e0];exact .refl _,fun A' hh=>?_,⟨qo _ rfl,old _ _ hs⟩,inn,by simp⟩,old,eu (qd _),rfl,rfl,rfl⟩
    refine⟨fun b hb=>by simp at hb;simp[hb],fun i h1 h2 st k=>⟨k _ (by simp) _ st.1,k _ (by simp) _ st.2⟩,fun i s1 Q' E' hi st q=>absurd hi (Nat.not_lt_zero _),fun s1 Q' E' st q=>?_,fun i s1 Q' E' st q=>iB st.1 q⟩
    exact jZ (sl:=0) hh st.1 st.2 T.fit rfl (fun Q2 E2 q2=>nx _ _ _ _ _ _ st.2 (by rw[gofar 0 h0,e0];exact q2)) fun h' g=>q h' s1.toks fun b o hb e=>g b o (by simpa using hb) e
   ·have h1:es.size=1:=by omega
    obtain⟨x,ex⟩:∃x,es=#[x]:=⟨es[0],by
     refine Array.ext (by simpa using h1) fun i hi hj=>?_
     have:i=0:=by simp at hj;exact hj
     subst this
     rfl⟩
    obtain⟨j,ej⟩:∃j,t.place=#[j]:=⟨t.place[0]'(by rw[hpl,h1];decide),by
     refine Array.ext (by simp[hpl,h1]) fun i hi hj=>?_
     have:i=0:=by simp at hj;exact hj
     subst this
     rfl⟩
    refine h _ _ ⟨⟨[s.heap.objs.size,a],[x.2],fun i h'=>h'.get? s.heap.objs.size=some (ca (.int ((if i=0 then 0 else j+1:Nat):Int) 0) i a es.size ep)/\h'.get? a=some (aE es ep t),by rw[ex];exact .refl _,fun A' hh=>?_,⟨qo _ rfl,old _ _ hs⟩,inn,by simp⟩,old,eu (qd _),rfl,rfl,rfl⟩
    refine⟨fun b hb=>by simp at hb;simp[hb],fun i h1 h2 st k=>⟨k _ (by simp) _ st.1,k _ (by simp) _ st.2⟩,fun i s1 Q' E' hi st q=>?_,fun s1 Q' E' st q=>?_,fun i s1 Q' E' st q=>iB st.1 q⟩
    ·obtain rfl:i=0:=by simp at hi;exact hi
     refine pJ (sl:=0) (sl':=j+1) (x:=x.2) st.1 st.2 T.fit rfl (fun Q2 E2 q2=>nx _ _ _ _ _ _ st.2 ?_) fun h' g1 g2=>q _ h' s1.toks rfl ⟨g1,?_⟩ fun b o hb e=>?_
     ·rw[gone j 0 ej,ej,ex]
      exact q2
     ·rw[g2.2 _ nI];exact st.2
     ·rw[g2.2 _ (by simpa using hb)];exact e
    ·refine jZ (sl:=j+1) hh st.1 st.2 T.fit rfl (fun Q2 E2 q2=>nx _ _ _ _ _ _ st.2 ?_) fun h' g=>q h' s1.toks fun b o hb e=>g b o (by simpa using hb) e
     rw[gone j (j+1) ej,Q0 (Nat.lt_succ_self j),ej,ex]
     exact q2
end
section
variable {P:Program}{w:World}{A:Around}{E:Qq}{s:Shared}
theorem xu:typeLookup (.type "set") "__len__"=pure (some (.builtin "set.__len__")):=by rw[typeLookup_type,builtinLookup_eq_fast];kernel_rfl
theorem gq:isSubtype (.type "set") (.type "set")=pure true:=by rw[isSubtype_type];kernel_rfl
theorem Cm {a:Addr}{es:Array (Int×Value)}{ep:Nat}{t:SetTable}{ys:List Str}{Q:List Value->Shared->Prop}(hh:A.handled=none) (hs:s.heap.get? a=some (aE es ep t)) (T:aK P w es t ys)
 (h:∀s' vs,vs.Perm (es.toList.map (·.2))->(∀b o,s.heap.get? b=some o->s'.heap.get? b=some o)->s'.gens=s.gens->s'.os=s.os->s.heap.objs.size<s'.heap.objs.size->Q vs s'):wpAny (model P w) A (collect (.ref a)) Q E s:=by
 unfold collect
 refine q4 (wpAny_runValue (codeAny_builtin F.entry_proto_collect ?_))
 rw[Around.under_plainId F.plain_proto_collect _]
 show wpAny _ A.in1 (newList [] >>= fun l=>again (.builtin "list.__iadd__" ⟨[l,.ref a],[]⟩)) _ _ s
 refine q4 (wpAny_newObj_type ?_)
 refine qc ⟨plainId_quiet F.plain_list_iadd _,codeAny_builtin F.entry_list_iadd ?_⟩
 rw[Around.under_plainId F.plain_list_iadd _]
 have alt:a<s.heap.objs.size:=qp hs
 have hs1:(s.heap.push { cls:=.type "list",data:=.seq ([]:List Value).toArray }).get? a=some (aE es ep t):=q9 _ hs
 show wpAny _ A.in1 (Builtin.List.listExtendWith (.ref s.heap.objs.size) (.ref a) (.ref s.heap.objs.size)) _ _ _
 unfold Builtin.List.listExtendWith
 refine q4 (wpAny_typeOf (T:="set") ⟨_,hs1,rfl⟩ ?_)
 have h1:Builtin.List.listSameRef (.ref s.heap.objs.size) (.ref a)=false:=by
  simp only[Builtin.List.listSameRef,beq_eq_false_iff_ne]
  exact Nat.ne_of_gt alt
 rw[qZ (by rw[h1];decide)]
 refine q4 (Bc (A:=A.in1) (s:={ s with heap:=s.heap.push { cls:=.type "list",data:=.seq ([]:List Value).toArray } }) hs1 T fun s2 I W=>?_)
 obtain⟨⟨fp,vs,St,hp,wk,st0,hfp,hI⟩,old,new,eg,eo,et⟩:=W
 have hs2:=old _ _ hs1
 have l2:=old _ _ (show(s.heap.push { cls:=.type "list",data:=.seq ([]:List Value).toArray }).get? s.heap.objs.size=some { cls:=.type "list",data:=.seq ([]:List Value).toArray }from qo _ rfl)
 refine q4 (wpAny_holding ?_)
 unfold Builtin.List.listLengthHint
 refine q4 (wpAny_specialOf (T:="set") ⟨_,hs2,rfl⟩ xu ?_)
 have ty2:s2.TypeIs (.ref a) "set":=⟨_,hs2,rfl⟩
 (generalize hid:("set.__len__":String)=id0;(fail_if_success (clear hid id0));wp_delta;rw[show splitId id0=some ("set","__len__")from by subst hid;decide +kernel];subst hid)
 refine q4 (wpAny_isInstance (b:=true) ty2 gq ?_)
 rw[qZ Qk]
 show wpAny _ _ (if _=true then _ else _) _ _ _
 rw[Q0 Qk]
 refine q4 (wpAny_typeOf ty2 ?_)
 refine qc ?_
 rw[Q0 Qk]
 refine q4 (wpAny_rule ?_)
 refine q4 ?_
 show wpAny _ A.in1 (updateSeq s.heap.objs.size (·.push .none) >>= fun _=>updateSeq s.heap.objs.size (·.pop)) _ _ _
 refine q4 (wpAny_updateSeq l2 rfl ?_)
 have l3:=Heap.get?_update_self (Obj.mapSeq (·.push Value.none)) l2 rfl
 refine wpAny_updateSeq l3 rfl ?_
 have l4:=Heap.get?_update_self (Obj.mapSeq (·.pop)) l3 rfl
 have oth:∀b o,b≠s.heap.objs.size->s2.heap.get? b=some o->((s2.heap.update s.heap.objs.size (Obj.mapSeq (·.push Value.none))).update s.heap.objs.size (Obj.mapSeq (·.pop))).get? b=some o:=fun b o hb e=>
  (Heap.get?_update_other _ _ (Ne.symm hb)).trans ((Heap.get?_update_other _ _ (Ne.symm hb)).trans e)
 have notin:s.heap.objs.size∉fp:=fun hm=>by
  rcases(hfp _ hm).2 with z|z
  ·exact Nat.lt_irrefl _ (z▸alt)
  ·rw[show({ s with heap:=s.heap.push { cls:=.type "list",data:=.seq ([]:List Value).toArray } }:Shared).heap.get? s.heap.objs.size=some { cls:=.type "list",data:=.seq ([]:List Value).toArray }from qo _ rfl]at z
   cases z
 have hn:vs.length<=sizeLine:=by rw[hp.length_eq,q5,qL];exact fits_of_scanBound T.few
 have W:=(wk A.in1 (by simp[hh])).toS
 refine qc ⟨plainId_quiet F.plain_extend_loop _,codeAny_extend_loopS W hn _ notin _ vs.length 0 _ _ _ rfl (qr _)
  (W.frame 0 s2 _ s2.toks st0 (qd _) fun b hb o e=>oth b o (fun z=>notin (z▸hb)) e) l4 (ItemsOf.nil _) fun s' acc c' hm hS' hacc=>?_⟩
 show wpAny _ A (load s.heap.objs.size >>= _) _ _ s'
 refine q4 (wpAny_load hS' (qc ?_))
 have ea:acc.toList=vs:=by
  refine List.ext_getElem? fun i=>?_
  rw[qT]
  by_cases hi:i<acc.size
  ·rw[Array.getElem?_eq_getElem hi]
   exact(hacc.2 i _ (Array.getElem?_eq_getElem hi)).symm
  ·rw[Array.getElem?_eq_none (Nat.not_lt.mp hi),List.getElem?_eq_none (by have:=hacc.1;omega)]
 rw[ea]
 refine h s' vs hp (fun b o e=>?_) (hm.gens.trans eg) (hm.os.trans eo) (qp hS')
 have lb:b≠s.heap.objs.size:=fun z=>by rw[z]at e;exact Nat.lt_irrefl _ (qp e)
 have bI:b≠I:=fun z=>by
  rw[z]at e
  have e2:(s.heap.push { cls:=.type "list",data:=.seq ([]:List Value).toArray }).get? I=some o:=q9 _ e
  exact absurd (e2.symm.trans new) (by simp)
 exact hm.heap b o (by simp[lb,bI]) (oth b o lb (old b o (q9 _ e)))
theorem wS {a:Addr}{es:Array (Int×Value)}{ep:Nat}{t:SetTable}{ys:List Str}{Q:Qq}(hh:A.handled=none) (hs:s.heap.get? a=some (aE es ep t)) (T:aK P w es t ys) (few:es.size<64)
 (h:∀s' l n (zs:List Str) (out:List Value),s.heap.objs.size<=l->s'.heap.get? l=some { cls:=.type "list",data:=.seq out.toArray n }->PyProof.Rows.StrsAre out zs->zs.Nodup->(∀k,k∈zs↔k∈ys)->PyProof.Rows.sortedS zs=true->zs.length=es.size->
  (∀b o,s.heap.get? b=some o->s'.heap.get? b=some o)->s'.gens=s.gens->s'.os=s.os->Q (.ref l) s'):wpAny (model P w) A (call (.builtin "sorted") [.ref a]) Q E s:=by
 refine Calls.call_function_entry PyProof.Rows.kind_sorted PyProof.Rows.plain_sorted PyProof.Rows.entry_sorted (PyProof.Rows.args_sorted1 _) ?_
 unfold Builtin.«sorted»
 refine q4 (m:=checkCount "sorted" 1 1 _) (qc ?_)
 refine q4 (Cm (A:=A.in1) (by simpa using hh) hs T fun s1 vs hp old eg eo lt1=>?_)
 have str:∀us:List Value,(∀v∈us,∃k tk,v=Value.str k tk)->PyProof.Rows.StrsAre us (us.map txt):=by
  intro us
  induction us with
  |nil=>intro _;exact .nil
  |cons v r ih=>
   intro hv
   obtain⟨k,tk,rfl⟩:=hv _ qk
   exact .cons k tk (ih fun u hu=>hv u (qj _ hu))
 have all:∀v∈vs,∃k tk,v=Value.str k tk:=fun v hv=>by
  obtain⟨e,he,rfl⟩:=List.mem_map.mp (hp.mem_iff.mp hv)
  obtain⟨⟨k,hk,_⟩,_⟩:=T.el e he
  obtain⟨tk,e2⟩:=Value.isStrOf_shape hk
  exact⟨k,tk,e2⟩
 have hS:=str vs all
 have len:vs.length=es.size:=by rw[hp.length_eq,q5,qL]
 refine q4 (wpAny_newList ?_ (by rw[len];exact fits_of_scanBound T.few))
 have ho:(s1.heap.push { cls:=.type "list",data:=.seq vs.toArray }).get? s1.heap.objs.size=some (PyProof.Rows.seqObj "list" vs.toArray 0):=qo _ rfl
 refine q4 (wpAny_holding (wpAny_call_entry PyProof.Rows.slot_list_sort ⟨_,ho,rfl⟩ PyProof.Rows.entry_list_sort (PyProof.Rows.list_sort_treeK PyProof.Rows.strKind_oneLt ho hS.keysOf (fun v1 v2 rest e=>PyProof.Rows.keyKind_strs (by rw[<- e];exact hS)) Qo fun st' a1 a2=>⟨_,rfl,?_⟩) (PyProof.Rows.args_list_sort _)))
 obtain⟨zs,h1,h2,h3⟩:=PyProof.Rows.sorted_out_str hS a1 a2
 obtain⟨n,at1⟩:=PyProof.Rows.sortedHeap_at (out:=(PyProof.Rows.arrOf st').map (·.2)) ho
 have pz:zs.Perm (es.toList.map fun e=>txt e.2):=by
  refine h2.trans ((hp.map txt).trans ?_)
  rw[List.map_map]
  exact .refl _
 refine qc ⟨_,rfl,h _ s1.heap.objs.size n zs ((PyProof.Rows.arrOf st').map (·.2)).toList (Nat.le_of_lt lt1) ?_ h1 (pz.nodup_iff.mpr T.nd) (fun k=>(pz.mem_iff).trans (T.mem k)) h3 (by rw[pz.length_eq,q5,qL]) (fun b o e=>?_) eg eo⟩
 ·exact at1
 ·have e1:=old b o e
  have lt:=qp e1
  have e2:=(PyProof.Rows.sortedHeap_old (h:=s1.heap.push { cls:=.type "list",data:=.seq vs.toArray }) (a:=s1.heap.objs.size) (vs:=vs) (out:=(PyProof.Rows.arrOf st').map (·.2)) (qF lt) (by rw[Heap.size_push];exact Nat.lt_succ_of_lt lt))
  exact e2.trans (q9 _ e1)
end
section
variable {P:Program}{w:World}{A:Around}{E:Qq}{s:Shared}
def bq (w:World):Obj:=aE #[] 0 (.fresh 0 0 (!w.params.followText "set-order"))
theorem Al (v:Value) {Q1:Qq}(h:Q1 (.ref s.heap.objs.size) { s with heap:=s.heap.push (bq w) }):
 codeAny (model P w) A (.call (.builtin "set.__new__") ⟨[.type "set",v],[]⟩) (wants Q1 E) s:=by
 refine codeAny_of_tree ?_
 show wpAny _ A.in1 (do checkBuiltinCall "set.__new__" ⟨[.type "set",v],[]⟩;again (.builtin "set.__new__" ⟨[.type "set",v],[]⟩)) _ _ s
 have en:=F.entry_set_new
 have pl:=F.plain_set_new
 refine q4 (wpAny_of_eq (F.newCall_set_1 v) (qc ⟨plainId_quiet pl _,codeAny_builtin en ?_⟩))
 rw[Around.under_plainId pl _]
 unfold Builtin.«set.__new__» Builtin.Frozenset.newClass
 have sub:=sub_set_self
 obtain⟨hp,g,d,tk,os⟩:=s
 dsimp only
 wp_walk
 refine wpAny_askSetting (qc ?_)
 dsimp only
 simp only[newObj]
 refine q4 (wpAny_alloc (qc ?_))
 exact qc h
theorem oo:∀{vs:List Value}{zs:List Str},PyProof.Rows.StrsAre vs zs->zs.length=vs.length
 |_,_,.nil=>rfl
 |_,_,.cons _ _ r=>by rw[qz,qz,oo r]
theorem oq:∀{vs:List Value}{zs:List Str},PyProof.Rows.StrsAre vs zs->∀(i:Nat) (v:Value),vs[i]?=some v->∃k t,zs[i]?=some k/\v=.str k t
 |_,_,.nil,i,v,h=>by simp at h
 |_,_,.cons x t r,0,v,h=>by simp at h;exact⟨x,t,rfl,h.symm⟩
 |_,_,.cons x t r,i+1,v,h=>by
  simp only[List.getElem?_cons_succ]at h ⊢
  exact oq r i v h
theorem iq:aK P w #[] (.fresh 0 0 (!w.params.followText "set-order")) []:=
 { el:=(fun e he=>by cases he),nd:=List.nodup_nil,mem:=fun _=>Iff.rfl,few:=(by unfold scanBound;decide),fit:=rfl,led:=rfl,pl:=fun z=>absurd z (Nat.lt_irrefl 0) }
set_option maxHeartbeats 3200000 in
theorem Cu {l:Addr}{items:Array Value}{zs:List Str}{Q:Qq}(hh:A.handled=none) (hl:s.heap.IsList l items) (hi:PyProof.Rows.StrsAre items.toList zs) (hb:items.size+1<scanBound)
 (h:∀(h':Heap) (tk:Nat) es ep t,h'.get? s.heap.objs.size=some (aE es ep t)->aK P w es t zs->
  (∀b o,b<s.heap.objs.size->s.heap.get? b=some o->h'.get? b=some o)->Q (.ref s.heap.objs.size) { s with heap:=h',toks:=tk }):
 wpAny (model P w) A (call (.type "set") [.ref l]) Q E s:=by
 obtain⟨c,tl,hmro⟩:=F.called_set.mro
 have hmade:=F.called_set.made
 have hsub:=F.called_set.sub
 refine wpAny_call (codeAny_of_tree ?_)
 show wpAny _ _ (callAny (.type "set") _) _ _ _
 refine qc ⟨Code.quiet_builtin _ Qd,codeAny_builtin F.entry_type_call ?_⟩
 rw[Around.under_plain (weight_type_call_type "set" [.ref l] []) rfl]
 have h1:=F.called_set.notType
 have h2:=F.called_set.canCreate
 have hct:=F.typeCall_set_1 (.ref l)
 repeat (any_goals (first|assumption|wp_step))
 refine codeAny_mono (Al (P:=P) (w:=w) (E:=E) (s:=s) (.ref l) (Q1:=fun ob s1=>ob=.ref s.heap.objs.size/\s1={ s with heap:=s.heap.push (bq w) }) ⟨rfl,rfl⟩) fun r s1 hr=>?_
 cases r with
 |error e=>exact hr
 |ok fl=>
  cases fl with
  |ret ob=>
   obtain⟨rfl,rfl⟩:=hr
   have hS:(s.heap.push (bq w)).get? s.heap.objs.size=some (bq w):=qo _ rfl
   have hT:Shared.TypeIs { s with heap:=s.heap.push (bq w) } (.ref s.heap.objs.size) "set":=⟨_,hS,rfl⟩
   have hli:=F.called_set.init.lookup
   have hbi:=F.called_set.init.bind (.ref s.heap.objs.size)
   repeat (any_goals (first|assumption|wp_step))
   refine codeAny_mono (codeAny_call_builtin (R:=wants (fun r s2=>r=.none/\∃h' tk,s2={ s with heap:=h',toks:=tk }/\(∃es ep t,h'.get? s.heap.objs.size=some (aE es ep t)/\aK P w es t zs) /\
    (∀b o,b<s.heap.objs.size->s.heap.get? b=some o->h'.get? b=some o)) E) F.called_set.init.plain F.entry_set_init (check_set_init_1 hT ?_)) fun r2 s2 hr2=>?_
   ·obtain⟨ol,hol,hcl,nl,hdl⟩:=hl
    obtain⟨ocls,odict,odata,oslots⟩:=ol
    simp only at hcl hdl
    subst hcl hdl
    have hol':(s.heap.push (bq w)).get? l=some { cls:=.type "list",dict:=odict,data:=.seq items nl,slots:=oslots }:=q9 _ hol
    have k1:=F.sub_list_set
    have k2:=F.sub_list_frozenset
    have k3:(Value.type "list" == Value.type "dict")=false:=Qk
    have hl1:(s.heap.push (bq w)).IsList l items:=⟨_,hol',rfl,nl,rfl⟩
    unfold Builtin.«set.__init__» noKeywords Builtin.Frozenset.updateFrom
    generalize hPI:pyIter=PI
    wp_walk
    subst hPI
    refine wpAny_pyIter_list hl1 ?_
    refine q4 (wpAny_runValue ?_)
    have lS:l<s.heap.objs.size:=qp hol
    have hh3:A.in1.in1.in1.handled=none:=by simp[hh]
    have neI:l≠(s.heap.push (bq w)).objs.size:=by rw[Heap.size_push];exact qF (Nat.lt_succ_of_lt lS)
    have nin:s.heap.objs.size∉[(s.heap.push (bq w)).objs.size,l]:=by
     rw[Heap.size_push]
     simp only[qt,qQ,or_false,not_or]
     exact⟨qF (Nat.lt_succ_self _),Nat.ne_of_gt lS⟩
    have hz:∀(i:Nat) (v:Value),items[i]?=some v->∃k t,zs[i]?=some k/\v=.str k t:=fun i v hv=>oq hi i v (by rw[qT];exact hv)
    have lz:zs.length=items.size:=by rw[<- qL];exact oo hi
    refine BZ ((Walks.list hh3 _ l neI items).toS) s.heap.objs.size nin zs hz hb (items.size-0) 0 _ Qo (qr _) ⟨⟨_,qo _ rfl,rfl,rfl⟩,(hl1.push _)⟩ ⟨#[],0,_,q9 _ hS,iq,qd _⟩ fun s' hm hS'=>?_
    obtain⟨es,ep,t,g1,g2,_⟩:=hS'
    obtain⟨h',g',d',tk',os'⟩:=s'
    have eg:g'=s.gens:=hm.gens
    have ed:d'=s.drawn:=hm.drawn
    have eo:os'=s.os:=hm.os
    subst eg ed eo
    refine qc ?_
    rw[<- lz,qG]at g2
    refine qc ⟨rfl,h',tk',rfl,⟨es,ep,t,g1,g2⟩,fun b o hb e=>?_⟩
    have n1:b≠s.heap.objs.size:=qF hb
    have n2:b≠(s.heap.push (bq w)).objs.size:=by rw[Heap.size_push];exact qF (Nat.lt_succ_of_lt hb)
    exact hm.heap b o (by simp only[qt,qQ,or_false,not_or];exact⟨n1,n2⟩) (q9 _ (q9 _ e))
   ·cases r2 with
    |error e=>exact hr2
    |ok fl2=>
     cases fl2 with
     |ret r=>
      obtain⟨rfl,h',tk,rfl,⟨es,ep,t,g1,g2⟩,hk⟩:=hr2
      repeat (any_goals (first|assumption|wp_step))
      exact h _ _ _ _ _ g1 g2 hk
     |_=>exact hr2.elim
  |_=>exact hr.elim
end
end L2
namespace L2
open PySem PySem.Spec PyProof.Rows
def bf (P:Program) (w:World) (a:Addr) (ys:List Str):HO:=.ext fun h=>∃es ep t,h.get? a=some (aE es ep t)/\aK P w es t ys
theorem bf.ok {P:Program}{w:World}{H:Hp}{h:Heap}{a:Addr}{ys:List Str}{es:Array (Int×Value)}{ep:Nat}{t:SetTable}(e:h.get? a=some (aE es ep t)) (T:aK P w es t ys):bb P w H h a (bf P w a ys):=
 ⟨⟨es,ep,t,e,T⟩,⟨_,e⟩,fun h1 h2 ⟨es,ep,t,q,T⟩ k=>⟨es,ep,t,k _ q,T⟩⟩
theorem om:∀{ys:List Str}{its:List Value},au (ys.map V.str) its->StrsAre its ys
 |[],_,.nil=>.nil
 |y::ys,_,.cons r t=>by
  obtain⟨k,rfl⟩:=r
  exact .cons y k (om t)
theorem sB:∀{ys:List Str}{its:List Value},StrsAre its ys->au (ys.map V.str) its
 |_,_,.nil=>.nil
 |_,_,.cons x t r=>.cons ⟨t,rfl⟩ (sB r)
theorem bS {zs ds:List Str}(h:zs.Nodup) (k:∀x∈zs,x∈ds):zs.length<=ds.length:=by
 induction zs generalizing ds with
 |nil=>exact qr _
 |cons x r ih=>
  have hx:=k x qk
  have h':=List.nodup_cons.mp h
  have:=ih (ds:=ds.erase x) h'.2 fun y hy=>(List.mem_erase_of_ne (by rintro rfl;exact h'.1 hy)).mpr (k y (qj _ hy))
  rw[List.length_erase_of_mem hx]at this
  have:0<ds.length:=List.length_pos_of_mem hx
  simp only[qz]
  omega
section
variable {X:Cx}
theorem Inv.redrawn {pins:List (Addr×Obj)}{σ:St}{H:Hp}{s s':Shared}(I:Inv X pins σ H { s with heap:=s'.heap }) (hg:s'.gens=s.gens) (ho:s'.os=s.os):Inv X pins σ H s':=
 ⟨I.ok,ho.trans I.os,by rw[hg];exact I.bare,I.base,I.loc,I.cell,I.free,I.freeC,I.pin,I.hok,I.len⟩
theorem eF (hc:X.calm=true):bF X (.type "set") (fun xs H Q=>∃p ys,xs=[.ref p]/\SqL X.K H p (ys.map V.str)/\ys.length<4000/\∀l,H l=none->Q (.ref l) (upd H l (bf X.prog X.w l ys))):=by
 intro pins s σ H xs us Q I r h
 obtain⟨p,ys,rfl,hq,hz,q⟩:=h
 obtain⟨u,rfl,rx⟩:=cR r
 cases rx
 obtain⟨its,r',pl,_⟩:=I.list hq
 have hlen:=r'.length
 rw[q5]at hlen
 refine Cu (I.ok.hd hc) pl.isList (zs:=ys) (by simpa using om r') (by simp only[qA];unfold scanBound;omega) fun h' tk es ep t e T k=>?_
 have kp:∀b o,s.heap.get? b=some o->h'.get? b=some o:=fun b o q=>k b o (qp q) q
 exact⟨.ref s.heap.objs.size,_,I.laid (t':=tk) kp (qd _) (bf.ok e T),rfl,q _ (I.hok.fresh (qd _))⟩
theorem fV (hc:X.calm=true):bF X (.builtin "sorted") (fun xs H Q=>∃(p:Addr) (ys ds:List Str),xs=[.ref p]/\H p=some (bf X.prog X.w p ys)/\(∀k∈ys,k∈ds)/\ds.length<64 /\
 ∀l zs,H l=none->zs.Nodup->(∀k,k∈zs↔k∈ys)->sortedS zs=true->Q (.ref l) (upd H l (.lst (zs.map V.str)))):=by
 intro pins s σ H xs us Q I r h
 obtain⟨p,ys,ds,rfl,hq,hd,h64,q⟩:=h
 obtain⟨u,rfl,rx⟩:=cR r
 cases rx
 obtain⟨⟨es,ep,t,e,T⟩,_,_⟩:=I.hok p _ hq
 have few:es.size<64:=by
  have:=bS T.nd fun x hx=>hd x ((T.mem x).mp hx)
  rw[q5,qL]at this
  omega
 refine wS (I.ok.hd hc) e T few fun s' l n zs out hl ho hS nd hm so hzl kp hg hos=>?_
 have lz:zs.length<=sizeLine:=by rw[hzl];exact fits_of_scanBound T.few
 have J:=I.laid (t':=s.toks) (h':=s'.heap) (a:=l) (o:=.lst (zs.map V.str)) kp hl ⟨by rw[q5];exact lz,out,n,sB hS,ho⟩
 exact⟨.ref l,_,Inv.redrawn (s:=s) J hg hos,rfl,q l zs (I.hok.fresh hl) nd hm so⟩
end
end L2
namespace L2
open PySem
section
variable {P:Program}{w:World}{A:Around}{E:Qq}{s:Shared}
end
end L2
namespace L2
open PySem PySem.Spec PyProof.Rows
section
variable {X:Cx}
end
theorem Cg {K:PySem.W.Frag}{a:Addr}{xs:List V}{g:TG}{tt:TT}{te:TE}{Fin:List V->Hp->Prop}{σ:St}{H:Hp}(Pv:Nat->List V->St->Hp->Prop) (h0:Pv 0 [] σ H) (hz:∀i ys σ H,i<=xs.length->Pv i ys σ H->ys.length<=i) (hx:xs.length<=sizeLine) (hl:∀i ys σ H,Pv i ys σ H->SqT K H a xs)
 (hs:∀i x ys σ H,xs[i]?=some x->Pv i ys σ H->g x σ H fun σ2 H2=>tt σ2 H2 fun b H3=>if b=true then te σ2 H3 fun y H4=>Pv (i+1) (ys++[y]) σ2 H4 else Pv (i+1) ys σ2 H3)
 (hd:∀ys σ H,Pv xs.length ys σ H->Fin ys H):∃W:Nat->Nat->List V->St->Hp->Prop,(∃m,W 0 m [] σ H)/\f8 (Itt K a) g tt te Fin W:=by
 refine⟨fun i m ys σ H=>m=xs.length-i/\i<=xs.length/\Pv i ys σ H,⟨_,rfl,qr _,h0⟩,?_⟩
 rintro i m ys σ H ⟨rfl,hi,p⟩
 have few:=hz i ys σ H hi p
 have q:=hl i ys σ H p
 by_cases lt:i<xs.length
 ·refine .inr ⟨⟨xs,xs[i],q,by simp[lt]⟩,Qo,Pv (i+1),fun ys' σ' H' p'=>⟨_,Qo,rfl,lt,p'⟩,fun v H' y=>?_⟩
  obtain⟨e,y⟩:=y
  subst e
  exact hs i v ys σ _ (y xs q) p
 ·obtain rfl:i=xs.length:=by omega
  exact .inl ⟨⟨xs,q,qd _⟩,Qo,hd ys σ H p⟩
theorem bR {b:Bool}{A B:Prop}(h:b=true) (x:A):if b=true then A else B:=by rw[Q0 h];exact x
theorem aZ {b:Bool}{A B:Prop}(h:b=false) (x:B):if b=true then A else B:=by rw[qZ (by rw[h];decide)];exact x
end L2
namespace Tr
open PySem PySem.Spec PyProof.Rows L2
set_option linter.all false
inductive Val
 |num (n:Int)
 |nm (x:Str)
inductive a9
 |set (x:Str) (a:Val) (sg:Str) (b:Val)
 |put (q x:Str)
 |get (q x:Str)
 |give (x:Str)
 |cond (x:Str) (t o:List a9)
 |whl (x:Str) (b:List a9)
 |rep (n:Int) (b:List a9)
def Val.names:Val->List Str
 |.num _=>[]
 |.nm x=>[x]
def a9.names:a9->List Str
 |.set x a _ b=>x::(a.names++b.names)
 |.put _ x|.get _ x|.give x|.cond x _ _|.whl x _=>[x]
 |.rep _ _=>[]
def a9.inner:a9->List (List a9)
 |.cond _ t o=>[t,o]
 |.whl _ b|.rep _ b=>[b]
 |_=>[]
def a9.others:a9->List Str
 |.put q _=>[q++(">":Str)]
 |.get q _=>[q++("<":Str)]
 |.give _|.whl _ _=>[(">":Str)]
 |_=>[]
mutual
def a9.flat:a9->List a9
 |.cond x t o=>.cond x t o::(ag t++ag o)
 |.whl x b=>.whl x b::ag b
 |.rep n b=>.rep n b::ag b
 |.set x a sg b=>[.set x a sg b]
 |.put q x=>[.put q x]
 |.get q x=>[.get q x]
 |.give x=>[.give x]
def ag:List a9->List a9
 |[]=>[]
 |d::r=>d.flat++ag r
end
mutual
def a9.depth:a9->Nat
 |.cond _ t o=>max (av t) (av o)+1
 |.whl _ b=>av b+1
 |.rep _ b=>av b+1
 |_=>0
def av:List a9->Nat
 |[]=>0
 |d::r=>max d.depth (av r)
end
def a9.cards (d:a9):List Str:=d.names++d.others
def cards (b:List a9):List Str:=(ag b).flatMap a9.cards
theorem cP:∀(a b:List a9),ag (a++b)=ag a++ag b
 |[],b=>rfl
 |d::a,b=>by rw[List.cons_append,ag,ag,cP a b,qM]
theorem Cr (a b:List a9):cards (a++b)=cards a++cards b:=by unfold cards;rw[cP,qU]
theorem eS:∀(a b:List a9),av (a++b)=max (av a) (av b)
 |[],b=>by rw[List.nil_append,av,Nat.zero_max]
 |d::a,b=>by rw[List.cons_append,av,av,eS a b,Nat.max_assoc]
theorem dE (d:a9):d.flat=d::d.inner.flatMap ag:=by
 cases d<;>simp[a9.flat,a9.inner]
theorem dI (d:a9):cards [d]=d.cards++d.inner.flatMap cards:=by
 unfold cards
 rw[ag,ag,qw,dE,qE]
 congr 1
 rw[List.flatMap_assoc]
inductive Op
 |root
 |ifT (x:Str)
 |ifO (x:Str) (t:List a9)
 |whl (x:Str)
 |rep (n:Int)
structure Fr where
 op:Op
 ds:List a9
 shut:Bool
 times:Int
def Fr.deed (f:Fr):a9:=match f.op with
 |.root=>.rep 0 f.ds
 |.ifT x=>.cond x f.ds []
 |.ifO x t=>.cond x t f.ds
 |.whl x=>.whl x f.ds
 |.rep n=>.rep n f.ds
def Fr.add (g:Fr) (d:a9):Fr:={ g with ds:=g.ds++[d] }
def jA:List Fr->List Fr
 |f::g::r=>g.add f.deed::r
 |st=>st
def Op.extra:Op->List a9
 |.ifO _ t=>t
 |_=>[]
def Op.one:Op->Nat
 |.root=>0
 |_=>1
def cnt:List Fr->Nat
 |[]=>0
 |f::r=>(ag f.ds).length+(ag f.op.extra).length+f.op.one+cnt r
theorem uu (f:Fr):av [f.deed]<=max (av f.ds) (av f.op.extra)+1:=by
 unfold Fr.deed
 cases e:f.op<;>simp only[av,a9.depth,Op.extra]<;>omega
theorem uv {f:Fr}(h0:f.op≠.root):(ag [f.deed]).length<=(ag f.ds).length+(ag f.op.extra).length+f.op.one:=by
 unfold Fr.deed
 cases e:f.op with
 |root=>exact absurd e h0
 |_=>simp[ag,a9.flat,Op.extra,Op.one]<;>omega
theorem uF (g:Fr) (r:List Fr) (d:a9):cnt (g.add d::r)=cnt (g::r)+(ag [d]).length:=by
 simp only[cnt,Fr.add,cP,qa]
 omega
theorem Cn {f g:Fr}{r:List Fr}(h0:f.op≠.root):cnt (jA (f::g::r))<=cnt (f::g::r):=by
 show cnt (g.add f.deed::r)<=_
 rw[uF]
 have:=uv h0
 simp only[cnt]
 omega
def kws:List Str:=["ask","store","put","get","give","if","else","while","repeat","end"]
def st0:List Fr:=[⟨.root,[],false,1⟩]
def Val.v:Val->V
 |.num n=>.int n
 |.nm x=>.str x
mutual
inductive RD (H:Hp):V->a9->Prop
 |set {p:Addr}{x:Str}{a:Val}{sg:Str}{b:Val}:H p=some (.tup [.str "set",.str x,a.v,.str sg,b.v])->RD H (.ref p) (.set x a sg b)
 |put {p:Addr}{q x:Str}:H p=some (.tup [.str "put",.str q,.str x])->RD H (.ref p) (.put q x)
 |get {p:Addr}{q x:Str}:H p=some (.tup [.str "get",.str q,.str x])->RD H (.ref p) (.get q x)
 |give {p:Addr}{x:Str}:H p=some (.tup [.str "give",.str x])->RD H (.ref p) (.give x)
 |cond {p t o:Addr}{x:Str}{ts os:List a9}:H p=some (.tup [.str "if",.str x,.ref t,.ref o])->RL H t ts->RL H o os->RD H (.ref p) (.cond x ts os)
 |whl {p b:Addr}{x:Str}{bs:List a9}:H p=some (.tup [.str "while",.str x,.ref b])->RL H b bs->RD H (.ref p) (.whl x bs)
 |rep {p b:Addr}{n:Int}{bs:List a9}:H p=some (.tup [.str "repeat",.int n,.ref b])->RL H b bs->RD H (.ref p) (.rep n bs)
inductive RL (H:Hp):Addr->List a9->Prop
 |mk {l:Addr}{vs:List V}{ds:List a9}:H l=some (.lst vs)->RDs H vs ds->RL H l ds
inductive RDs (H:Hp):List V->List a9->Prop
 |nil:RDs H [] []
 |cons {v:V}{vs:List V}{d:a9}{ds:List a9}:RD H v d->RDs H vs ds->RDs H (v::vs) (d::ds)
end
mutual
theorem RD.same {H H':Hp}(e:aa H H'):∀{v:V}{d:a9},RD H v d->RD H' v d
 |_,_,.set h=>.set (e _ _ h)
 |_,_,.put h=>.put (e _ _ h)
 |_,_,.get h=>.get (e _ _ h)
 |_,_,.give h=>.give (e _ _ h)
 |_,_,.cond h a b=>.cond (e _ _ h) (RL.same e a) (RL.same e b)
 |_,_,.whl h a=>.whl (e _ _ h) (RL.same e a)
 |_,_,.rep h a=>.rep (e _ _ h) (RL.same e a)
theorem RL.same {H H':Hp}(e:aa H H'):∀{l:Addr}{ds:List a9},RL H l ds->RL H' l ds
 |_,_,.mk h a=>.mk (e _ _ h) (RDs.same e a)
theorem RDs.same {H H':Hp}(e:aa H H'):∀{vs:List V}{ds:List a9},RDs H vs ds->RDs H' vs ds
 |_,_,.nil=>.nil
 |_,_,.cons a b=>.cons (RD.same e a) (RDs.same e b)
end
theorem RDs.app {H:Hp}:∀{us vs:List V}{a b:List a9},RDs H us a->RDs H vs b->RDs H (us++vs) (a++b)
 |_,_,_,_,.nil,h=>h
 |_,_,_,_,.cons x r,h=>.cons x (RDs.app r h)
theorem RDs.len {H:Hp}:∀{vs:List V}{ds:List a9},RDs H vs ds->vs.length=ds.length
 |_,_,.nil=>rfl
 |_,_,.cons _ r=>by rw[qz,qz,RDs.len r]
theorem RDs.at {H:Hp}:∀{vs:List V}{ds:List a9},RDs H vs ds->∀(i:Nat) (v:V),vs[i]?=some v->∃d,ds[i]?=some d/\RD H v d
 |_,_,.nil,i,v,h=>by simp at h
 |_,_,.cons x r,0,v,h=>by simp at h;subst h;exact⟨_,rfl,x⟩
 |_,_,.cons x r,i+1,v,h=>by
  simp only[List.getElem?_cons_succ]at h ⊢
  exact RDs.at r i v h
mutual
def a9.data:a9->PyData
 |.set x a sg b=>.tuple [.str "set",.str x,(match a with|.num n=>.int n|.nm y=>.str y),.str sg,(match b with|.num n=>.int n|.nm y=>.str y)]
 |.put q x=>.tuple [.str "put",.str q,.str x]
 |.get q x=>.tuple [.str "get",.str q,.str x]
 |.give x=>.tuple [.str "give",.str x]
 |.cond x t o=>.tuple [.str "if",.str x,.list (hV t),.list (hV o)]
 |.whl x b=>.tuple [.str "while",.str x,.list (hV b)]
 |.rep n b=>.tuple [.str "repeat",.int n,.list (hV b)]
def hV:List a9->List PyData
 |[]=>[]
 |d::r=>d.data::hV r
end
inductive RLs (H:Hp):List Addr->List (List a9)->Prop
 |nil:RLs H [] []
 |cons {l:Addr}{ls:List Addr}{d:List a9}{ds:List (List a9)}:RL H l d->RLs H ls ds->RLs H (l::ls) (d::ds)
theorem RLs.same {H H':Hp}(e:aa H H'):∀{ls:List Addr}{ds:List (List a9)},RLs H ls ds->RLs H' ls ds
 |_,_,.nil=>.nil
 |_,_,.cons a b=>.cons (RL.same e a) (RLs.same e b)
theorem RLs.len {H:Hp}:∀{ls:List Addr}{ds:List (List a9)},RLs H ls ds->ls.length=ds.length
 |_,_,.nil=>rfl
 |_,_,.cons _ r=>by rw[qz,qz,RLs.len r]
theorem RLs.at {H:Hp}:∀{ls:List Addr}{ds:List (List a9)},RLs H ls ds->∀(i:Nat) (l:Addr),ls[i]?=some l->∃d,ds[i]?=some d/\RL H l d
 |_,_,.nil,i,v,h=>by simp at h
 |_,_,.cons x r,0,v,h=>by simp at h;subst h;exact⟨_,rfl,x⟩
 |_,_,.cons x r,i+1,v,h=>by
  simp only[List.getElem?_cons_succ]at h ⊢
  exact RLs.at r i v h
theorem lC:∀(r:List Str) (x:Str),risingS x r=true->∀y∈r,x.cps.toList<=y.cps.toList
 |[],_,_,_,h=>nomatch h
 |z::r,x,h,y,hy=>by
  have h':(!ltCps z.cps.toList x.cps.toList && risingS z r)=true:=h
  rw[Bool.and_eq_true,Bool.not_eq_true',ltCps_eq,decide_eq_false_iff_not]at h'
  have xz:x.cps.toList<=z.cps.toList:=List.not_lt.mp h'.1
  rcases qt.mp hy with rfl|hy
  ·exact xz
  ·exact List.le_trans xz (lC r z h'.2 y hy)
theorem pX {x:Str}:∀{r:List Str},risingS x r=true->sortedS r=true
 |[],_=>rfl
 |z::r,h=>by
  have h':(!ltCps z.cps.toList x.cps.toList && risingS z r)=true:=h
  exact(Bool.and_eq_true_iff.mp h').2
theorem wJ {x y:Str}(h:x.cps.toList=y.cps.toList):x=y:=PyProof.Rows.ext_toList h
theorem jY:∀{a b:List Str},a.Nodup->b.Nodup->sortedS a=true->sortedS b=true->(∀k,k∈a↔k∈b)->a=b
 |[],[],_,_,_,_,_=>rfl
 |[],y::s,_,_,_,_,h=>absurd ((h y).mpr qk) (by simp)
 |x::r,[],_,_,_,_,h=>absurd ((h x).mp qk) (by simp)
 |x::r,y::s,ha,hb,sa,sb,h=>by
  have ha':=List.nodup_cons.mp ha
  have hb':=List.nodup_cons.mp hb
  have e:x=y:=by
   rcases qt.mp ((h x).mp qk)with e|hx
   ·exact e
   rcases qt.mp ((h y).mpr qk)with e|hy
   ·exact e.symm
   exact wJ (List.le_antisymm (lC r x sa y hy) (lC s y sb x hx))
  subst e
  rw[jY ha'.2 hb'.2 (pX sa) (pX sb) fun k=>?_]
  constructor
  ·intro hk
   rcases qt.mp ((h k).mp (qj _ hk))with e|z
   ·subst e;exact absurd hk ha'.1
   ·exact z
  ·intro hk
   rcases qt.mp ((h k).mpr (qj _ hk))with e|z
   ·subst e;exact absurd hk hb'.1
   ·exact z
end Tr
namespace Tr
open PySem PySem.Spec PyProof.Rows L2
set_option linter.all false
theorem aa.over {H0 H:Hp}{f:Addr}{o:HO}(h:aa H0 H) (hf:H0 f=none):aa H0 (upd H f o):=fun b u q=>by
 rw[aj (bJ q hf)]
 exact h b u q
theorem aa.none {H0 H:Hp}{f:Addr}(h:aa H0 H) (hf:H f=none):H0 f=none:=by
 cases q:H0 f with
 |none=>rfl
 |some o=>rw[h _ _ q]at hf;cases hf
structure Fz where
 f:Fr
 c:Addr
 p:Addr
 e:Addr
def Fz.tupV (x:Fz):List V:=match x.f.op with
 |.root=>[]
 |.ifT n=>[.str "if",.str n,.ref x.c,.ref x.e]
 |.ifO n _=>[.str "if",.str n,.ref x.e,.ref x.c]
 |.whl n=>[.str "while",.str n,.ref x.c]
 |.rep n=>[.str "repeat",.int n,.ref x.c]
def Fz.o (x:Fz):V:=match x.f.op with
 |.ifT _=>.ref x.e
 |_=>.non
def Fz.muts (x:Fz):List Addr:=match x.f.op with
 |.ifT _=>[x.c,x.e]
 |_=>[x.c]
def Fz.side (x:Fz) (H0 H:Hp):Prop:=match x.f.op with
 |.ifT _=>H x.e=some (.lst [])
 |.ifO _ t=>RL H0 x.e t
 |_=>True
def ZR (H0 H:Hp):List Fz->List V->Prop
 |[],_=>False
 |x::r,tl=>(∃vs,H x.c=some (.lst (vs++tl))/\RDs H0 vs x.f.ds)/\x.side H0 H/\((x.f.op=.root/\r=[])\/(x.f.op≠.root/\H x.p=some (.tup x.tupV)/\ZR H0 H r [.ref x.p]))
theorem Fz.c_mem (x:Fz):x.c∈x.muts:=by unfold Fz.muts;split<;>simp
theorem ZR.frame {H0 H H':Hp}:∀{z:List Fz}{tl:List V},ZR H0 H z tl->(∀m∈z.flatMap Fz.muts,H' m=H m)->(∀p xs,H p=some (.tup xs)->H' p=some (.tup xs))->ZR H0 H' z tl
 |[],_,h,_,_=>h
 |x::r,tl,⟨⟨vs,h1,h2⟩,h3,h4⟩,hm,ht=>by
  have mx:∀m∈x.muts,H' m=H m:=fun m hm'=>hm m (by simp[hm'])
  have mr:∀m∈r.flatMap Fz.muts,H' m=H m:=fun m hm'=>hm m (by rw[qE];exact qH _ hm')
  refine⟨⟨vs,by rw[mx _ x.c_mem];exact h1,h2⟩,?_,?_⟩
  ·unfold Fz.side at h3 ⊢
   split
   ·rename_i e
    rw[e]at h3
    rw[mx x.e (by unfold Fz.muts;rw[e];simp)]
    exact h3
   ·rename_i e
    rw[e]at h3
    exact h3
   ·trivial
  ·rcases h4 with h4|⟨h4,h5,h6⟩
   ·exact .inl h4
   ·exact .inr ⟨h4,ht _ _ h5,ZR.frame h6 mr ht⟩
theorem ZR.grow {H0 H0' H:Hp}(e:aa H0 H0'):∀{z:List Fz}{tl:List V},ZR H0 H z tl->ZR H0' H z tl
 |[],_,h=>h
 |x::r,tl,⟨⟨vs,h1,h2⟩,h3,h4⟩=>by
  refine⟨⟨vs,h1,h2.same e⟩,?_,?_⟩
  ·unfold Fz.side at h3 ⊢
   revert h3
   cases x.f.op<;>intro h3<;>first|exact h3|exact RL.same e h3
  ·rcases h4 with h4|⟨h4,h5,h6⟩
   ·exact .inl h4
   ·exact .inr ⟨h4,h5,ZR.grow e h6⟩
def wh:List Fr->List a9->List a9
 |[],_=>[]
 |[f],dt=>f.ds++dt
 |f::g::r,dt=>wh (g::r) [({ f with ds:=f.ds++dt }:Fr).deed]
def fW:List Fz->Addr
 |[]=>0
 |[x]=>x.c
 |_::y::r=>fW (y::r)
theorem ZR.whole {H0 H:Hp}(e:aa H0 H):∀{z:List Fz}{tl:List V}{dt:List a9},ZR H0 H z tl->RDs H tl dt->RL H (fW z) (wh (z.map (·.f)) dt)
 |[],_,_,h,_=>h.elim
 |[x],tl,dt,⟨⟨vs,h1,h2⟩,_,_⟩,ht=>.mk h1 ((h2.same e).app ht)
 |x::y::r,tl,dt,⟨⟨vs,h1,h2⟩,h3,h4⟩,ht=>by
  rcases h4 with⟨_,h4⟩|⟨h4,h5,h6⟩
  ·cases h4
  refine ZR.whole (z:=y::r) e h6 (.cons ?_ .nil)
  have hl:RL H x.c (x.f.ds++dt):=.mk h1 ((h2.same e).app ht)
  unfold Fz.tupV at h5
  unfold Fz.side at h3
  unfold Fr.deed
  cases q:x.f.op with
  |root=>exact absurd q h4
  |ifT n=>
   rw[q]at h5 h3
   exact .cond h5 hl (.mk h3 .nil)
  |ifO n t=>
   rw[q]at h5 h3
   exact .cond h5 (RL.same e h3) hl
  |whl n=>
   rw[q]at h5
   exact .whl h5 hl
  |rep n=>
   rw[q]at h5
   exact .rep h5 hl
section
variable {Hb H0 H H1:Hp}{S s0 s1 s2 s3:Addr}{z:List Fz}
theorem ZR.lsts {tl:List V}:∀{z:List Fz},ZR H0 H z tl->∀m∈z.flatMap Fz.muts,∃vs,H m=some (.lst vs):=by
 intro z
 induction z generalizing tl with
 |nil=>intro h;exact h.elim
 |cons x r ih=>
  rintro⟨⟨vs,h1,_⟩,h3,h4⟩ m hm
  rw[qE]at hm
  rcases qg.mp hm with hm|hm
  ·unfold Fz.muts at hm
   unfold Fz.side at h3
   split at hm<;>rename_i q
   ·rw[q]at h3
    simp at hm
    rcases hm with rfl|rfl
    ·exact⟨_,h1⟩
    ·exact⟨_,h3⟩
   ·simp at hm
    subst hm
    exact⟨_,h1⟩
  ·rcases h4 with⟨_,h4⟩|⟨_,_,h6⟩
   ·subst h4;simp at hm
   ·exact ih h6 m hm
end
end Tr
namespace Tr
open PySem PySem.Spec PyProof.Rows L2
set_option linter.all false
section
variable {Hb H0 H H1:Hp}{S s0 s1 s2 s3:Addr}{z:List Fz}
theorem cW {p m:Addr}{xs vs:List V}(h1:H p=some (.tup xs)) (h2:H m=some (.lst vs)):p≠m:=sF h1 h2 (by intro z;cases z)
theorem dB {x:Fz}{r:List Fz}:x.c∈(x::r).flatMap Fz.muts:=by rw[qE];exact qV _ x.c_mem
theorem me {x:Fz}{r:List Fz}{m:Addr}(h:m∈r.flatMap Fz.muts):m∈(x::r).flatMap Fz.muts:=by rw[qE];exact qH _ h
theorem uM {x:Fz}{r:List Fz}(nd:((x::r).flatMap Fz.muts).Nodup) {m:Addr}(h:m∈r.flatMap Fz.muts):m≠x.c:=by
 rw[qE]at nd
 intro e
 exact(List.nodup_append.mp nd).2.2 x.c x.c_mem m h e.symm
theorem ke {x:Fz}{r:List Fz}(nd:((x::r).flatMap Fz.muts).Nodup) {n:Str}(q:x.f.op=.ifT n):x.e≠x.c/\x.e∈x.muts/\∀m∈r.flatMap Fz.muts,m≠x.e:=by
 rw[qE]at nd
 have h:=List.nodup_append.mp nd
 have e:x.muts=[x.c,x.e]:=by unfold Fz.muts;rw[q]
 rw[e]at h
 refine⟨?_,by rw[e];simp,fun m hm z=>h.2.2 x.e (by simp) m hm z.symm⟩
 have:=h.1
 simp at this
 exact fun z=>this z.symm
theorem ZR.rest {x:Fz}{r:List Fz}{tl:List V}{o:HO}(zr:ZR H0 H (x::r) tl) (nd:((x::r).flatMap Fz.muts).Nodup) {vs:List V}(hc:H x.c=some (.lst vs)):
 x.side H0 (upd H x.c o)/\((x.f.op=.root/\r=[])\/(x.f.op≠.root/\(upd H x.c o) x.p=some (.tup x.tupV)/\ZR H0 (upd H x.c o) r [.ref x.p])):=by
 obtain⟨_,h3,h4⟩:=zr
 refine⟨?_,?_⟩
 ·unfold Fz.side at h3 ⊢
  cases q:x.f.op with
  |ifT n=>
   rw[q]at h3
   show(upd H x.c o) x.e=some (.lst [])
   rw[aj (ke nd q).1]
   exact h3
  |ifO n t=>rw[q]at h3;exact h3
  |root=>trivial
  |whl n=>trivial
  |rep n=>trivial
 ·rcases h4 with h4|⟨h4,h5,h6⟩
  ·exact .inl h4
  ·refine .inr ⟨h4,by rw[aj (cW h5 hc)];exact h5,h6.frame (fun m hm=>aj (uM nd hm)) fun p xs h=>by rw[aj (cW h hc)];exact h⟩
end
end Tr
namespace Tr
open PySem PySem.Spec PyProof.Rows L2
set_option linter.all false
section
variable {Hb H0 H H':Hp}{S s0 s1 s2 s3:Addr}{z:List Fz}
end
end Tr
namespace Tr
open PySem PySem.Spec PyProof.Rows L2
set_option linter.all false
section
variable {Hb H0 H H4:Hp}{S s0 s1 s2 s3:Addr}
theorem tf {α:Type}{l:List α}{v:α}:atI (l++[v]) (-1)=some v:=by
 unfold atI
 have e:ixN (l++[v]).length (-1)=some l.length:=by
  unfold ixN
  simp
  omega
 rw[e]
 simp
theorem gT {α β:Type}{f:α->β}{x:α}{r:List α}:atI (((x::r).map f).reverse) (-1)=some (f x):=by
 rw[qR,List.reverse_cons]
 exact tf
end
end Tr
namespace Tr
open PySem PySem.Spec PyProof.Rows L2
set_option linter.all false
theorem jw:∀ds:List a9,ds.length<=(ag ds).length
 |[]=>qd _
 |d::r=>by
  have:=jw r
  rw[ag,qa,qz,dE,qz]
  omega
theorem vX {f:Fr}{r:List Fr}:f.ds.length<=cnt (f::r):=by
 have:=jw f.ds
 rw[cnt]
 omega
theorem uO {x x':Fz}{r:List Fz}(h:x'.c=x.c):fW (x'::r)=fW (x::r):=by
 cases r with
 |nil=>exact h
 |cons y r=>rfl
theorem tw {α:Type}{l:List α}{v:α}:ixN (l++[v]).length (-1)=some l.length:=by
 unfold ixN
 simp
 omega
end Tr
namespace Tr
open L2
end Tr
namespace Tr
theorem uo {α β:Type}{f:α->β}{x:α}{r:List α}:(((x::r).map f).reverse).dropLast=(r.map f).reverse:=by
 rw[qR,List.reverse_cons,List.dropLast_concat]
theorem sZ {α β:Type}{f:α->β}{x:α}{r:List α}:(((x::r).map f).reverse)[(((x::r).map f).reverse).length-1]?=some (f x):=by
 rw[qR,List.reverse_cons]
 simp
end Tr
namespace Tr
open PySem PySem.Spec PyProof.Rows L2
set_option linter.all false
def a9.strs:a9->List Str
 |.set x a sg b=>x::sg::(a.names++b.names)
 |.put q x|.get q x=>[q,x]
 |.give x|.cond x _ _|.whl x _=>[x]
 |.rep _ _=>[]
end Tr
namespace Tr
open PySem PySem.Spec PyProof.Rows L2
set_option linter.all false
end Tr
namespace L2
open PySem PySem.Spec PyProof.Rows
theorem Ch {n:Nat}{g:TG}{tt:TT}{te:TE}{Fin:List V->Hp->Prop}{σ:St}{H:Hp}(Pv:Nat->List V->St->Hp->Prop) (h0:Pv 0 [] σ H) (hz:∀i ys σ H,i<=n->Pv i ys σ H->ys.length<=i) (hx:n<=sizeLine)
 (hs:∀i ys σ H,i<n->Pv i ys σ H->g (.int i) σ H fun σ2 H2=>tt σ2 H2 fun b H3=>if b=true then te σ2 H3 fun y H4=>Pv (i+1) (ys++[y]) σ2 H4 else Pv (i+1) ys σ2 H3)
 (hd:∀ys σ H,Pv n ys σ H->Fin ys H):∃W:Nat->Nat->List V->St->Hp->Prop,(∃m,W 0 m [] σ H)/\f8 (Itr 0 n) g tt te Fin W:=by
 refine⟨fun i m ys σ H=>m=n-i/\i<=n/\Pv i ys σ H,⟨_,rfl,qr _,h0⟩,?_⟩
 rintro i m ys σ H ⟨rfl,hi,p⟩
 have few:=hz i ys σ H hi p
 by_cases lt:i<n
 ·refine .inr ⟨lt,Qo,Pv (i+1),fun ys' σ' H' p'=>⟨_,Qo,rfl,lt,p'⟩,fun v H' y=>?_⟩
  obtain⟨e,y⟩:=y
  rw[Int.zero_add]at y
  subst e y
  exact hs i ys σ _ lt p
 ·obtain rfl:i=n:=by omega
  exact .inl ⟨qd _,Qo,hd ys σ H p⟩
theorem jz {n:Nat}{g:TG}{te:TE}{Fin:List V->Hp->Prop}{σ:St}{H:Hp}(Pv:Nat->List V->St->Hp->Prop) (h0:Pv 0 [] σ H) (hz:∀i ys σ H,i<=n->Pv i ys σ H->ys.length<=i) (hx:n<=sizeLine)
 (hs:∀i ys σ H,i<n->Pv i ys σ H->g (.int i) σ H fun σ2 H2=>te σ2 H2 fun y H4=>Pv (i+1) (ys++[y]) σ2 H4)
 (hd:∀ys σ H,Pv n ys σ H->Fin ys H):∃W:Nat->Nat->List V->St->Hp->Prop,(∃m,W 0 m [] σ H)/\f8 (Itr 0 n) g gj te Fin W:=
 Ch Pv h0 hz hx (fun i ys σ H lt p=>by
  rw[nG (N':=fun _ _ _=>True)]
  exact hs i ys σ H lt p) hd
theorem eT {K:PySem.W.Frag}{a:Addr}{xs:List V}{g:TG}{te:TE}{Fin:List V->Hp->Prop}{σ:St}{H:Hp}(Pv:Nat->List V->St->Hp->Prop) (h0:Pv 0 [] σ H) (hz:∀i ys σ H,i<=xs.length->Pv i ys σ H->ys.length<=i) (hx:xs.length<=sizeLine) (hl:∀i ys σ H,Pv i ys σ H->SqL K H a xs)
 (hs:∀i x ys σ H,xs[i]?=some x->Pv i ys σ H->g x σ H fun σ2 H2=>te σ2 H2 fun y H4=>Pv (i+1) (ys++[y]) σ2 H4)
 (hd:∀ys σ H,Pv xs.length ys σ H->Fin ys H):∃W:Nat->Nat->List V->St->Hp->Prop,(∃m,W 0 m [] σ H)/\f8 (Itl K a) g gj te Fin W:=
 uD Pv h0 hz hx hl (fun i x ys σ H hx p=>by
  rw[nG (N':=fun _ _ _=>True)]
  exact hs i x ys σ H hx p) hd
end L2
namespace Tr
open PySem PySem.Spec PyProof.Rows L2
inductive RSs (H:Hp):List V->List (Str×Int)->Prop
 |nil:RSs H [] []
 |cons {p:Addr}{vs:List V}{q:Str}{n:Int}{ss:List (Str×Int)}:H p=some (.tup [.str q,.int n])->RSs H vs ss->RSs H (.ref p::vs) ((q,n)::ss)
theorem RSs.same {H H':Hp}(e:aa H H'):∀{vs:List V}{ss:List (Str×Int)},RSs H vs ss->RSs H' vs ss
 |_,_,.nil=>.nil
 |_,_,.cons h r=>.cons (e _ _ h) (RSs.same e r)
theorem RSs.len {H:Hp}:∀{vs:List V}{ss:List (Str×Int)},RSs H vs ss->vs.length=ss.length
 |_,_,.nil=>rfl
 |_,_,.cons _ r=>congrArg (·+1) (RSs.len r)
theorem RSs.at {H:Hp}:∀{vs:List V}{ss:List (Str×Int)},RSs H vs ss->∀(i:Nat) (v:V),vs[i]?=some v->∃p q n,v=.ref p/\ss[i]?=some (q,n)/\H p=some (.tup [.str q,.int n])
 |_,_,.nil,i,v,h=>by simp at h
 |_,_,.cons (p:=p) (q:=q) (n:=n) h' r,0,v,h=>by
  simp at h
  exact⟨p,q,n,h.symm,rfl,h'⟩
 |_,_,.cons h' r,i+1,v,h=>RSs.at r i v (by simpa using h)
structure RP (H:Hp) (p:Addr) (asks:List Str) (ss:List (Str×Int)) (ds:List a9) (la ls lb:Addr) (us:List V):Prop where
 top:H p=some (.tup [.ref la,.ref ls,.ref lb])
 as:H la=some (.lst (asks.map V.str))
 st:H ls=some (.lst us)
 ro:RSs H us ss
 bo:RL H lb ds
theorem RP.same {H H':Hp}{p:Addr}{asks:List Str}{ss:List (Str×Int)}{ds:List a9}{la ls lb:Addr}{us:List V}(e:aa H H') (h:RP H p asks ss ds la ls lb us):RP H' p asks ss ds la ls lb us:=
 ⟨e _ _ h.top,e _ _ h.as,e _ _ h.st,h.ro.same e,RL.same e h.bo⟩
def bT (asks:List Str) (ss:List (Str×Int)) (ds:List a9):List Str:=asks++cards ds++[(">":Str)]++ss.flatMap fun s=>[s.1++(">":Str),s.1++("<":Str)]
end Tr
namespace L2
open PySem
section
variable {P:Program}{w:World}{A:Around}{E:Qq}{s:Shared}
theorem io {es:Array (Int×Value)}{t:SetTable}{ys:List Str}(T:aK P w es t ys) {e:Int×Value}(he:e∈es.toList):∃k tk,e=(hashStr w k,.str k tk)/\k∈ys:=by
 obtain⟨⟨k,hk,hh⟩,_⟩:=T.el e he
 obtain⟨tk,e2⟩:=Value.isStrOf_shape hk
 refine⟨k,tk,Prod.ext hh e2,(T.mem k).mp (List.mem_map.mpr ⟨e,he,jg hk⟩)⟩
theorem rh {sets:List Addr}{Q:Bool->Shared->Prop}(h:∀b∈sets,∃es ep t ys,s.heap.get? b=some (aE es ep t)/\aK P w es t ys) (q:Q true s):wpAny (model P w) A (setsQuiet sets) Q E s:=by
 unfold setsQuiet
 refine q4 (wpAny_forIn_list _ (fun rest b s'=>b.1=none/\s=s'/\∀x∈rest,x∈sets) _ ?_ ?_ sets _ ⟨rfl,rfl,fun _ h=>h⟩)
 ·rintro x rest b s' ⟨hb,rfl,hm⟩
  obtain⟨es,ep,t,ys,ho,T⟩:=h x (hm x qk)
  refine q4 (dQ ho T.fit ?_)
  refine q4 (PySem.wpAny_forIn_array' _ (fun rest b s'=>b.1=none/\s=s'/\∀e∈rest,e∈es.toList) _ ?_ ?_ es _ ⟨rfl,rfl,fun _ h=>h⟩)
  ·rintro e rest2 b2 s2 ⟨hb2,rfl,hm2⟩
   obtain⟨k,tk,rfl,_⟩:=io T (hm2 e qk)
   refine qc ⟨rfl,rfl,fun z hz=>hm2 z (qj _ hz)⟩
  ·rintro⟨b1,b2⟩ s2 ⟨hb2,rfl,_⟩
   dsimp only at hb2
   subst hb2
   refine qc ⟨rfl,rfl,fun z hz=>hm z (qj _ hz)⟩
 ·rintro⟨b1,b2⟩ s2 ⟨hb2,rfl,_⟩
  dsimp only at hb2
  subst hb2
  exact qc q
theorem nW {a:Addr}{es:Array (Int×Value)}{ep:Nat}{t:SetTable}{ys:List Str}{Q:Array (Int×Value)->Shared->Prop}(hs:s.heap.get? a=some (aE es ep t)) (T:aK P w es t ys)
 (h:∀arr d,arr.toList.Perm es.toList->Q arr { s with drawn:=d }):wpAny (model P w) A (setWalk a) Q E s:=by
 unfold setWalk
 refine q4 (qW hs rfl T.fit ?_)
 dsimp only
 refine q4 (dJ ?_)
 by_cases hb:w.params.followText "set-order"=true
 ·rw[Q0 hb]
  exact q4 (wpAny_askSetting (qc (h _ s.drawn (rK _ es))))
 ·rw[qZ hb]
  show wpAny _ _ (if(!t.plain && decide (es.size > 1))=true then _ else _) _ _ _
  split
  ·refine q4 (mW es.size es.toList s _ (by simp) fun zs d hp=>qc ?_)
   exact h _ d (by simpa using hp)
  ·have hl:t.led=true:=by rw[T.led];simpa using hb
   show wpAny _ _ ((if(!t.led && decide (es.size > 1))=true then _ else _) >>= _) _ _ _
   rw[hl]
   refine q4 ?_
   simp only[Bool.not_true,Bool.false_and,Bool.false_eq_true,if_false]
   exact qc (qc (h es s.drawn (.refl _)))
end
section
variable {P:Program}{w:World}{A:Around}{E:Qq}{s:Shared}
theorem xo:entryFor table "set.__sub__"=some Builtin.«frozenset.__sub__»:=entryFor_alias (id':="frozenset.__sub__") (by kernel_rfl) rfl Qd (by kernel_rfl)
theorem vY {t:SetTable}{l p:Bool}(T:aK P w #[] t []) (hl:l=t.led):aK P w #[] { t with led:=l,plain:=p } []:=
 ⟨T.el,T.nd,T.mem,T.few,T.fit,hl.trans T.led,fun z=>absurd z (Nat.lt_irrefl 0)⟩
theorem vO {a o r:Addr}{es es2:Array (Int×Value)}{ep ep2 er:Nat}{t t2 tr:SetTable}{ys zs:List Str}{Q:Array (Int×Value)->Shared->Prop}(hs:s.heap.get? a=some (aE es ep t)) (T:aK P w es t ys)
 (ho:s.heap.get? o=some (aE es2 ep2 t2)) (T2:aK P w es2 t2 zs) (hr:s.heap.get? r=some (aE #[] er tr)) (Tr:aK P w #[] tr [])
 (h:∀arr h' d er' tr',arr.toList.Perm es.toList->Heap.SameBut r s.heap h'->h'.get? r=some (aE #[] er' tr')->aK P w #[] tr' []->Q arr { s with heap:=h',drawn:=d }):wpAny (model P w) A (setWalkUnseen a [o,r] (some r)) Q E s:=by
 have old:∀arr d,arr.toList.Perm es.toList->Q arr { s with drawn:=d }:=fun arr d hp=>h arr s.heap d er tr hp (Heap.SameBut.refl r s.heap) hr Tr
 unfold setWalkUnseen
 refine q4 (qW hs rfl T.fit ?_)
 dsimp only
 refine q4 (dJ ?_)
 split
 ·exact nW hs T old
 ·refine q4 (rh (fun b hb=>?_) ?_)
  ·simp only[qt,qQ,or_false]at hb
   rcases hb with rfl|rfl|rfl
   ·exact⟨_,_,_,_,hs,T⟩
   ·exact⟨_,_,_,_,ho,T2⟩
   ·exact⟨_,_,_,_,hr,Tr⟩
  ·simp only[Bool.not_true,Bool.false_eq_true,if_false]
   refine q4 (wpAny_rule ?_)
   refine q4 (qW hr rfl Tr.fit ?_)
   dsimp only
   split
   ·refine q4 (wpAny_storeSet_of hr rfl ?_ Qk)
    refine qc (h es _ s.drawn _ _ (.refl _) (Heap.SameBut.update _ r _) (eG (s:=s) hr) (vY Tr ?_))
    rw[Tr.led,T.led]
    simp
   ·exact qc (old es s.drawn (.refl _))
theorem BW {o:Addr}{es:Array (Int×Value)}{ep:Nat}{t:SetTable}{zs:List Str}{k:Str}{tk:Tok}{Q:Option Nat->Shared->Prop}(ho:s.heap.get? o=some (aE es ep t)) (T:aK P w es t zs)
 (h:∀r:Option Nat,r.isSome=decide (k∈zs)->Q r s):wpAny (model P w) A (setFind o (.str k tk) (hashStr w k)) Q E s:=by
 refine wpAny_setFind_of (knd:=strKind P w) (k:=k) (S:=fun k=>decide (k∈zs)) (n:=es.size) (by show Value.isStrOf k (.str k tk)=true;simp[Value.isStrOf]) rfl ⟨_,es,ep,t,ho,?_,rfl,T.el,fun k'=>?_,T.few,T.fit,rfl⟩ h
 ·exact⟨rfl,rfl,rfl⟩
 ·rw[decide_eq_true_iff,<- T.mem,List.mem_map]
  constructor
  ·rintro⟨e,he,rfl⟩
   obtain⟨k,tk,rfl,_⟩:=io T he
   exact⟨_,he,by show Value.isStrOf k (.str k tk)=true;simp[Value.isStrOf]⟩
  ·rintro⟨e,he,hk⟩
   exact⟨e,he,jg hk⟩
theorem fZ {v:Value}{Q:Bool->Shared->Prop}(ty:s.TypeIs v "set") (h:Q true s):wpAny (model P w) A (Builtin.Frozenset.isAnySet v) Q E s:=by
 unfold Builtin.Frozenset.isAnySet
 exact q4 (wpAny_isInstance (b:=true) ty gq (qc h))
set_option maxHeartbeats 3200000 in
theorem wG {a o:Addr}{es es2:Array (Int×Value)}{ep ep2:Nat}{t t2:SetTable}{ys zs:List Str}{Q:Qq}(hs:s.heap.get? a=some (aE es ep t)) (T:aK P w es t ys)
 (ho:s.heap.get? o=some (aE es2 ep2 t2)) (T2:aK P w es2 t2 zs) (few:es.size<4)
 (h:∀h' d es' ep' t',h'.get? s.heap.objs.size=some (aE es' ep' t')->aK P w es' t' (ys.filter fun k=>!decide (k∈zs))->
  (∀b ob,s.heap.get? b=some ob->h'.get? b=some ob)->Q (.ref s.heap.objs.size) { s with heap:=h',drawn:=d }):wpAny (model P w) A (binaryOp .Sub (.ref a) (.ref o)) Q E s:=by
 have ta:s.TypeIs (.ref a) "set":=⟨_,hs,rfl⟩
 have to:s.TypeIs (.ref o) "set":=⟨_,ho,rfl⟩
 have k1:=gq
 refine wpAny_binaryOp_same (op:=.Sub) (T:="set") ta to F.fills_set_sub F.slot_set_sub (wpAny_call_entry F.slot_set_sub ta xo ?_ (F.args_set_sub_2 _ _))
 unfold Builtin.«frozenset.__sub__»
 refine q4 (m:=Builtin.Frozenset.slot1 "__sub__" ⟨[.ref a,.ref o],[]⟩) (qc ?_)
 dsimp only
 simp only[Bool.false_eq_true,if_false]
 refine q4 (q4 (fZ ta (fZ to ?_)))
 simp only[Bool.not_true,Bool.false_eq_true,if_false]
 refine q4 (qc ?_)
 refine q4 ?_
 unfold Builtin.Frozenset.difference
 refine q4 (fZ to ?_)
 simp only[Bool.not_true,Bool.false_eq_true,if_false]
 refine q4 (qc ?_)
 simp only[Bool.false_and,Bool.false_eq_true,if_false,if_true]
 unfold Builtin.Frozenset.sizeOf
 refine q4 (q4 (dQ ho T2.fit (qc ?_)))
 refine q4 (q4 (dQ hs T.fit (qc ?_)))
 rw[qZ Qo]
 unfold Builtin.Frozenset.baseOf
 refine q4 (q4 (wpAny_isInstance (b:=true) ta gq (qc ?_)))
 simp only[if_true]
 refine q4 ?_
 unfold newSet
 refine q4 (dJ ?_)
 dsimp only
 refine wpAny_newObj_type ?_
 refine q4 (qc ?_)
 have ga:∀b ob,s.heap.get? b=some ob->(s.heap.push (bq w)).get? b=some ob:=fun b ob q=>q9 _ q
 have gr:(s.heap.push (bq w)).get? s.heap.objs.size=some (bq w):=qo _ rfl
 have na:∀b ob,s.heap.get? b=some ob->b≠s.heap.objs.size:=fun b ob q=>qF (qp q)
 refine q4 (wpAny_setEpoch_of (s:={ s with heap:=s.heap.push (bq w) }) (ga _ _ hs) rfl T.fit ?_)
 refine q4 (wpAny_holding ?_)
 refine q4 (vO (s:={ s with heap:=s.heap.push (bq w) }) (ga _ _ hs) T (ga _ _ ho) T2 gr iq fun arr h1 d er tr hp sb hr Tr=>?_)
 refine q4 (PySem.wpAny_forIn_array' _ (fun rest _ s'=>∃h2 es' ep' t' past,past++rest=arr.toList/\s'={ s with heap:=h2,drawn:=d }/\Heap.SameBut s.heap.objs.size (s.heap.push (bq w)) h2/\h2.get? s.heap.objs.size=some (aE es' ep' t')/\aK P w es' t' ((past.map fun e:Int×Value=>txt e.2).filter fun k=>!decide (k∈zs))/\es'.size<=past.length) _ ?_ ?_ arr _ ⟨h1,#[],er,tr,[],rfl,rfl,sb,hr,Tr,qd _⟩)
 ·rintro x rest b s' ⟨h2,es',ep',t',past,hpa,rfl,sb2,hr2,Tr2,hle⟩
  have xm:x∈es.toList:=hp.mem_iff.mp (by rw[<- hpa];simp)
  obtain⟨k,tk,rfl,_⟩:=io T xm
  have pl:past.length+(rest.length+1)=es.size:=by
   have:=congrArg List.length hpa
   rw[hp.length_eq]at this
   simpa using this
  have get2:∀b ob,s.heap.get? b=some ob->h2.get? b=some ob:=fun b ob q=>by
   rw[sb2.2 _ (na b ob q)]
   exact ga b ob q
  refine q4 (wpAny_holding ?_)
  refine q4 (BW (s:={ s with heap:=h2,drawn:=d }) (get2 _ _ ho) T2 fun r hr=>?_)
  refine q4 (qc ?_)
  rw[hr]
  have fin:∀h3 es3 ep3 t3,Heap.SameBut s.heap.objs.size (s.heap.push (bq w)) h3->h3.get? s.heap.objs.size=some (aE es3 ep3 t3)->aK P w es3 t3 (((past++[(hashStr w k,Value.str k tk)]).map fun e:Int×Value=>txt e.2).filter fun k=>!decide (k∈zs))->es3.size<=past.length+1->
   wpAny (model P w) A.in1 (do
    Builtin.Frozenset.unchanged (toString "frozenset."++toString "__sub__") a ep
    pure (ForInStep.yield PUnit.unit)) (fun r s'=>match r with
     |.yield b'=>∃h2 es' ep' t' past,past++rest=arr.toList/\s'={ s with heap:=h2,drawn:=d }/\Heap.SameBut s.heap.objs.size (s.heap.push (bq w)) h2/\h2.get? s.heap.objs.size=some (aE es' ep' t')/\aK P w es' t' ((past.map fun e:Int×Value=>txt e.2).filter fun k=>!decide (k∈zs))/\es'.size<=past.length
     |.done b'=>False) E { s with heap:=h3,drawn:=d }:=fun h3 es3 ep3 t3 sb3 hr3 Tr3 hle3=>by
   unfold Builtin.Frozenset.unchanged
   have g3:h3.get? a=some (aE es ep t):=by rw[sb3.2 _ (na _ _ hs)];exact ga _ _ hs
   refine q4 (q4 (wpAny_setEpoch_of (s:={ s with heap:=h3,drawn:=d }) g3 rfl T.fit ?_))
   simp only[bne_self_eq_false,Bool.false_eq_true,if_false]
   refine qc (qc ⟨h3,es3,ep3,t3,past++[(hashStr w k,Value.str k tk)],by rw[<- hpa];simp,rfl,sb3,hr3,Tr3,by simpa using hle3⟩)
  by_cases hk:k∈zs
  ·rw[decide_eq_true hk]
   simp only[Bool.not_true,Bool.false_eq_true,if_false]
   refine qc (wpAny_mono (fin h2 es' ep' t' sb2 hr2 ?_ Qo) (fun r s' hr=>?_) fun _ _ h=>h)
   ·rw[qO,List.filter_append]
    have:([(hashStr w k,Value.str k tk)].map fun e:Int×Value=>txt e.2).filter (fun k=>!decide (k∈zs))=[]:=by simp[txt,hk]
    rw[this,qw]
    exact Tr2
   ·cases r with
    |done _=>exact hr.elim
    |yield _=>exact hr
  ·rw[decide_eq_false hk]
   simp only[Bool.not_false,if_true]
   refine q4 (nw (s:={ s with heap:=h2,drawn:=d }) hr2 Tr2 (by unfold scanBound;omega) fun b h3 es3 ep3 t3 sb3 hr3 Tr3 le3=>qc ?_)
   refine wpAny_mono (fin h3 es3 ep3 t3 (sb2.trans sb3) hr3 ?_ Qo) (fun r s' hr=>?_) fun _ _ h=>h
   ·rw[qO,List.filter_append]
    have:([(hashStr w k,Value.str k tk)].map fun e:Int×Value=>txt e.2).filter (fun k=>!decide (k∈zs))=[k]:=by simp[txt,hk]
    rw[this]
    exact Tr3
   ·cases r with
    |done _=>exact hr.elim
    |yield _=>exact hr
 ·rintro b s' ⟨h2,es',ep',t',past,hpa,rfl,sb2,hr2,Tr2,hle⟩
  rw[qw]at hpa
  subst hpa
  refine qc (qc (qc ⟨_,rfl,(fun z=>by cases z),h h2 d es' ep' t' hr2 ⟨Tr2.el,Tr2.nd,fun k=>?_,Tr2.few,Tr2.fit,Tr2.led,Tr2.pl⟩ fun b ob q=>?_⟩))
  ·rw[Tr2.mem k,List.mem_filter,List.mem_filter,<- T.mem k]
   exact and_congr_left' ((hp.map fun e:Int×Value=>txt e.2).mem_iff)
  ·rw[sb2.2 _ (na b ob q)]
   exact ga b ob q
end
end L2
namespace L2
open PySem PySem.Spec PyProof.Rows
section
variable {X:Cx}
def y3 (P:Program) (w:World):R2:=fun x y H Q=>∃(a o:Addr) (ys zs:List Str),x=.ref a/\y=.ref o/\H a=some (bf P w a ys)/\H o=some (bf P w o zs)/\ys.length<4/\∀p,H p=none->Q (.ref p) (upd H p (bf P w p (ys.filter fun k=>!decide (k∈zs))))
theorem yX:OpR X (binaryOp .Sub) (y3 X.prog X.w):=by
 intro pins s σ H x y v u Q I rx ry h
 obtain⟨a,o,ys,zs,rfl,rfl,hA,hO,hz,q⟩:=h
 cases rx
 cases ry
 obtain⟨⟨es,ep,t,e1,T1⟩,_,_⟩:=I.hok a _ hA
 obtain⟨⟨es2,ep2,t2,e2,T2⟩,_,_⟩:=I.hok o _ hO
 have few:es.size<4:=by
  have:=bS T1.nd fun x hx=>(T1.mem x).mp hx
  rw[q5,qL]at this
  omega
 refine wG e1 T1 e2 T2 few fun h' d es' ep' t' g T' old=>?_
 have J:=I.laid (t':=s.toks) (h':=h') (a:=s.heap.objs.size) (o:=bf X.prog X.w s.heap.objs.size (ys.filter fun k=>!decide (k∈zs))) old (qd _) (bf.ok g T')
 exact⟨.ref s.heap.objs.size,_,Inv.redrawn (s:=s) J rfl rfl,rfl,q _ (I.hok.fresh (qd _))⟩
end
section
variable {X:Cx}
end
def Ite (K:PySem.W.Frag) (l:Addr):It:=
 ⟨fun i H=>∃xs x,SqL K H l xs/\xs[i]?=some x,
  fun i H v H'=>∃p x,H p=none/\v=.ref p/\H'=upd H p (.tup [.int i,x])/\∀xs,SqL K H l xs->xs[i]?=some x,
  fun i H=>∃xs,SqL K H l xs/\xs.length<=i⟩
theorem vW {P:Program}{w:World}{K:PySem.W.Frag}{elts:List Expr}{kk:Nat}{tp:Pos}(e it l:Addr) (ne:e≠it):
 eW P w K (.Tuple elts kk tp) (Ite K l) [e,it] e (fun i h=>(∃old,IsEnum h e it i old)/\h.IsListIter it l i) where
 mem:=by simp
 obj:=fun i h st b hb=>by
  obtain⟨⟨old,he⟩,o,eo,c,d⟩:=st
  simp only[qt,qQ,or_false]at hb
  rcases hb with rfl|rfl
  ·exact⟨_,he,fun v q=>by cases q⟩
  ·exact⟨o,eo,fun v q=>by rw[d]at q;cases q⟩
 keep:=fun i h h' st k=>by
  obtain⟨⟨old,he⟩,o,eo,r⟩:=st
  exact⟨⟨old,k e (by simp) _ he⟩,o,k it (by simp) o eo,r⟩
 item:=by
  intro X hP hw hK hc i pins s σ H E I hf st hg
  subst hP hw hK
  obtain⟨⟨old,he⟩,hit⟩:=st
  obtain⟨xs,x,hx,ex⟩:=hg
  obtain⟨its,rv,pl,z1⟩:=I.list hx
  obtain⟨u,hu,ru⟩:=rv.get ex
  refine wpAny_pyNext_enum_item he hit pl.isList (x:=u) (by simpa using hu) ne fun g a1 a2 a3 a4 a5=>⟨_,rfl,?_⟩
  refine wpAny_letOwnedTupleGo_enum a1 fun g' a1' sb=>?_
  have hT:∀b∈[e,it],s.heap.objs.size≠b:=fun b hb=>by
   simp only[qt,qQ,or_false]at hb
   rcases hb with rfl|rfl
   ·exact Nat.ne_of_gt (qp he)
   ·obtain⟨o,eo,_⟩:=hit
    exact Nat.ne_of_gt (qp eo)
  have ky:∀b o,b∉[e,it]->s.heap.get? b=some o->g'.get? b=some o:=fun b o hb q=>by
   simp only[qt,qQ,or_false,not_or]at hb
   exact sb.extBut _ _ hb.1 (a5 b o hb.1 hb.2 q)
  have I1:Inv X pins σ H { s with heap:=g',toks:=s.toks+1 }:=I.turnedL (t':=s.toks+1) ky hf
  have pT:=sb.extBut _ _ (hT e (by simp)) a3
  have fT:bW X pins H s.heap.objs.size:=I.fpOk (qd _) (I.hok.fresh (qd _))
  have I2:Inv X pins σ (upd H s.heap.objs.size (.tup [.int i,x])) { s with heap:=g',toks:=s.toks+1 }:=I1.track fT I.sz ⟨by show 2<=sizeLine;decide,[.int i s.toks,u],.cons ⟨_,rfl⟩ (.cons ru .nil),⟨_,pT,rfl,_,rfl⟩⟩
  refine⟨.ref s.heap.objs.size,_,I2,rfl,⟨_,x,I.hok.fresh (qd _),rfl,rfl,fun xs' h=>by rw[I.list_inj h hx];exact ex⟩,⟨⟨u,a1'⟩,?_⟩,fun b hb=>?_⟩
  ·obtain⟨o,eo,r⟩:=a2
   exact⟨o,sb.extBut _ _ (Ne.symm ne) eo,r⟩
  ·rw[aj (Ne.symm (hT b hb))]
   exact(hf b hb).1
 done:=by
  intro X hP hw hK hc i pins s σ H E I hf st hg
  subst hP hw hK
  obtain⟨⟨old,he⟩,hit⟩:=st
  obtain⟨xs,hx,hend⟩:=hg
  obtain⟨its,rv,pl,z1⟩:=I.list hx
  have e1:=rv.length
  refine wpAny_pyNext_enum_end (I.ok.hd hc) he hit pl.isList (by simp;omega) fun g k=>⟨rfl,I.turnedL (t':=s.toks) (ch:=[e,it]) (fun b o hb q=>?_) hf⟩
  simp only[qt,qQ,or_false,not_or]at hb
  exact k b o hb.2 q
 self:=fun _ _ _ _ _ st h=>by
  obtain⟨⟨old,he⟩,_⟩:=st
  exact wpAny_pyIter_enum he h
section
variable {X:Cx}
def Bq (K:PySem.W.Frag) (ta:TA):TI:=fun σ H R=>ta σ H fun vs H1=>∃l xs,vs=[.ref l]/\SqL K H1 l xs/\R (Ite K l) H1
theorem yK {a:Expr}{ta:TA}{p pos tp:Pos}{elts:List Expr}{kk:Nat}(hg:Gl X "enumerate") (hm:X.mg "enumerate"=none) (ha:PA X [a] ta) (hs:starEach [a] X.env=[(false,eval a X.env)]:=by rfl):
 PI X (.Tuple elts kk tp) (.Call (.Name "enumerate" p) [a] [] pos) (Bq X.K ta):=by
 intro pins s σ H R I h
 refine Call_ (eP I hg hm PyProof.Rows.Boot.«enumerate» (PyProof.Rows.callWith_type1 (thn (ha pos pins s σ H _ I h) fun us s1 ⟨vs,H1,I1,r1,q1⟩=>?_) (by rw[hs];rfl) (by rfl)))
 obtain⟨l,xs,rfl,hx,q⟩:=q1
 obtain⟨u,rfl,ru⟩:=cR r1
 cases ru
 obtain⟨its,rv,pl,z1⟩:=I1.list hx
 refine call_enumerate_list pl.isList fun g a1 a2 a3 k=>?_
 refine wpAny_pyIter_enum a1 ⟨s1.heap.objs.size+1,[s1.heap.objs.size+1,s1.heap.objs.size],_,_,H1,rfl,I1.kept (t':=s1.toks) k,vW _ _ l (Nat.succ_ne_self _),⟨⟨_,a1⟩,a2⟩,fun b hb=>?_,q⟩
 simp only[qt,qQ,or_false]at hb
 rcases hb with rfl|rfl
 ·exact I1.fpOk (Nat.le_succ _) (I1.hok.fresh (Nat.le_succ _))
 ·exact I1.fpOk (qd _) (I1.hok.fresh (qd _))
end
theorem BP {K:PySem.W.Frag}{l:Addr}{xs:List V}{g:TG}{tb:TS}{D:dh}{σ:St}{H:Hp}(Pv:Nat->St->Hp->Prop) (h0:Pv 0 σ H) (hl:∀i σ H,Pv i σ H->SqL K H l xs)
 (hs:∀i x σ H p,xs[i]?=some x->Pv i σ H->H p=none->g (.ref p) σ (upd H p (.tup [.int i,x])) fun σ2 H2=>tb { D with nx:=Pv (i+1),ct:=Pv (i+1),bk:=D.nx } σ2 H2)
 (hd:∀σ H,Pv xs.length σ H->D.nx σ H):
 ∃W:Nat->Nat->St->Hp->Prop,(∃m,W 0 m σ H)/\∀i m σ H,W i m σ H->
  ((Ite K l).stop i H/\D.nx σ H)\/((Ite K l).go i H/\∃N:St->Hp->Prop,(∀σ' H',N σ' H'->∃m',m'<m/\W (i+1) m' σ' H')/\∀x H',(Ite K l).yld i H x H'->g x σ H' fun σ2 H2=>tb { D with nx:=N,ct:=N,bk:=D.nx } σ2 H2):=by
 refine⟨fun i m σ H=>m=xs.length-i/\i<=xs.length/\Pv i σ H,⟨_,rfl,qr _,h0⟩,?_⟩
 rintro i m σ H ⟨rfl,hi,p⟩
 have q:=hl i σ H p
 by_cases lt:i<xs.length
 ·refine .inr ⟨⟨xs,xs[i],q,by simp[lt]⟩,Pv (i+1),fun σ' H' p'=>⟨_,Qo,rfl,lt,p'⟩,fun v H' y=>?_⟩
  obtain⟨a,x,hn,rfl,rfl,e1⟩:=y
  exact hs i x σ H a (e1 xs q) p hn
 ·obtain rfl:i=xs.length:=by omega
  exact .inl ⟨⟨xs,q,qd _⟩,hd σ H p⟩
end L2
namespace L2
theorem br.one {n:Nat}{A:PySem.Around}(h:br n A):A.units+1<PySem.cLine:=by
 have:=h.units
 omega
end L2
namespace Tr
open PySem PySem.Spec PyProof.Rows L2
structure Row where
 kind:Str
 owns:List Str
 reads:List Str
 into:Option Str
 outof:Option Str
def a9.word:a9->Str
 |.set ..=>"set"
 |.put ..=>"put"
 |.get ..=>"get"
 |.give ..=>"give"
 |.cond ..=>"if"
 |.whl ..=>"while"
 |.rep ..=>"repeat"
end Tr
namespace L2
open PySem PySem.Spec PyProof.Rows
end L2
namespace Tr
open PySem PySem.Spec PyProof.Rows L2
def a9.moves:a9->List (Str×Str)
 |.put q _=>[("put",q)]
 |.get q _=>[("get",q)]
 |_=>[]
end Tr
namespace Tr
open PySem
structure Wt where
 g:Int
 e:a9->Int
mutual
def Wt.d (w:Wt):a9->Int
 |.rep n b=>w.g+n * (Wt.l w b+w.g)
 |.cond _ _ _=>w.g
 |.whl _ _=>w.g
 |.set x a sg b=>w.e (.set x a sg b)
 |.put q x=>w.e (.put q x)
 |.get q x=>w.e (.get q x)
 |.give x=>w.e (.give x)
def Wt.l (w:Wt):List a9->Int
 |[]=>0
 |d::r=>Wt.d w d+Wt.l w r
end
def Wt.m (w:Wt):List Fr->Int
 |[]=>0
 |[f]=>f.times * w.l f.ds
 |f::g::r=>f.times * w.l f.ds+(g.times * w.g+match f.op with|.rep _=>f.times * w.g|_=>0)+Wt.m w (g::r)
end Tr
namespace Tr
open PySem PySem.Spec PyProof.Rows L2
end Tr
namespace L2
open PySem PySem.Spec PyProof.Rows
section
variable {X:Cx}{CX:CXT}{k:Nat}{f C:Addr}{fd:FuncData}{ps:List Str}{sp:Sp}{E:XK}{x m:Str}{p pos apos:Pos}{e o:Expr}{es:List Expr}{t:TA}{te ta:TE}{ds:List Value}{dvs:List V}
end
theorem gG {f:Str}{v:V}:∀{fs:List (Str×V)}(ks:List Str),fs.map (·.1)=ks->(ks.all fun g=>!decide (g=f))=true->bP f v fs=fs++[(f,v)]
 |[],_,_,_=>rfl
 |(g,x)::r,ks,e,h=>by
  subst e
  simp only[qR,List.all_cons,Bool.and_eq_true,Bool.not_eq_true',decide_eq_false_iff_not]at h
  rw[bP,qZ h.1,gG (r.map (·.1)) rfl h.2]
  rfl
theorem j6 {k:Str}{v:V}{r:List (Str×V)}:List.lookup k ((k,v)::r)=some v:=by simp[List.lookup]
theorem d0 {k g:Str}{v:V}{r:List (Str×V)}(h:(k == g)=false):List.lookup k ((g,v)::r)=List.lookup k r:=by simp[List.lookup,h]
theorem uZ {α:Type}{xs:List α}{i:Int}{v:α}(h:0<=i) (e:xs[i.toNat]?=some v):atI xs i=some v:=by
 have:=fY (xs:=xs) (j:=i.toNat) (v:=v) e
 rwa [Int.toNat_of_nonneg h]at this
def grow (H0 H H':Hp):Hp:=fun b=>match H b with
 |none=>H' b
 |some _=>H0 b
inductive lE (i:Nat) (σ:St) (H:Hp) (Q:VK):Prop
 |mk (v:V) (h:σ[i]?=some (some v)) (q:Q v H):lE i σ H Q
theorem yn (i:Nat):lE i=oa i:=by
 funext σ H Q
 exact propext ⟨fun⟨v,h,q⟩=>⟨v,h,q⟩,fun⟨v,h,q⟩=>⟨v,h,q⟩⟩
inductive qB (x:V) (H:Hp) (Q:Bool->Hp->Prop):Prop
 |mk (k:Bool) (h:x=.bl k) (q:Q k H):qB x H Q
theorem rD (Q:Bool->Hp->Prop):(fun x H=>qB x H Q)=fun x H=>∃k,x=V.bl k/\Q k H:=by
 funext x H
 exact propext ⟨fun⟨v,h,q⟩=>⟨v,h,q⟩,fun⟨v,h,q⟩=>⟨v,h,q⟩⟩
def fE (t:TE):TT:=fun σ H Q=>t σ H fun x H'=>qB x H' Q
theorem yq (t:TE):fE t=jP t:=by
 funext σ H Q
 unfold fE jP
 rw[rD]
theorem yp (t:TE):fE t=tB t:=by
 funext σ H Q
 unfold fE tB
 rw[rD]
inductive rG (x y:V) (H:Hp) (Q:VK):Prop
 |mk (i j:Int) (h1:x=.int i) (h2:y=.int j) (q:Q (.int (i+j)) H):rG x y H Q
inductive rm (x y:V) (H:Hp) (Q:VK):Prop
 |mk (i j:Int) (h1:x=.int i) (h2:y=.int j) (q:Q (.int (i-j)) H):rm x y H Q
inductive rB (x y:V) (H:Hp) (Q:VK):Prop
 |mk (i j:Int) (h1:x=.int i) (h2:y=.int j) (c:0<j/\j<1073741824) (q:Q (.int (i / j)) H):rB x y H Q
inductive rn (x y:V) (H:Hp) (Q:VK):Prop
 |mk (i j:Int) (h1:x=.int i) (h2:y=.int j) (c:0<j) (q:Q (.int (i % j)) H):rn x y H Q
inductive qLt (x y:V) (H:Hp) (Q:VK):Prop
 |mk (i j:Int) (h1:x=.int i) (h2:y=.int j) (q:Q (.bl (decide (i<j))) H):qLt x y H Q
inductive qGt (x y:V) (H:Hp) (Q:VK):Prop
 |mk (i j:Int) (h1:x=.int i) (h2:y=.int j) (q:Q (.bl (decide (j<i))) H):qGt x y H Q
inductive qEq (x y:V) (H:Hp) (Q:VK):Prop
 |mk (c:iG x y=true) (q:Q (.bl (decide (x=y))) H):qEq x y H Q
inductive qNe (x y:V) (H:Hp) (Q:VK):Prop
 |mk (c:iG x y=true) (q:Q (.bl (!decide (x=y))) H):qNe x y H Q
inductive lJ (K:PySem.W.Frag) (x y:V) (H:Hp) (Q:VK):Prop
 |mk (p:Addr) (xs:List V) (i:Int) (v:V) (h1:x=.ref p) (h2:y=.int i) (h3:SqL K H p xs) (h4:atI xs i=some v) (q:Q v H):lJ K x y H Q
inductive lI (K:PySem.W.Frag) (x y:V) (H:Hp) (Q:VK):Prop
 |mk (p:Addr) (xs:List V) (i:Int) (v:V) (h1:x=.ref p) (h2:y=.int i) (h3:SqT K H p xs) (h4:atI xs i=some v) (q:Q v H):lI K x y H Q
inductive rF (x y:V) (H:Hp) (Q:VK):Prop
 |mk (i j:Str) (h1:x=.str i) (h2:y=.str j) (c:i.length+j.length<=sizeLine) (q:Q (.str (i++j)) H):rF x y H Q
inductive rA (K:PySem.W.Frag) (xs:List V) (H:Hp) (Q:VK):Prop
 |mk (p:Addr) (ys:List V) (h1:xs=[.ref p]) (h2:SqL K H p ys\/SqT K H p ys) (q:Q (.int ys.length) H):rA K xs H Q
inductive lK (K:PySem.W.Frag) (xs:List V) (H:Hp) (Q:VK):Prop
 |mk (x:V) (t:Value) (T:String) (b:Bool) (h1:xs=[x,.ty T]) (h2:cu K H x t) (h3:PySem.W.kitOne K t (.type T)=some b) (q:Q (.bl b) H):lK K xs H Q
inductive rq (K:PySem.W.Frag) (xs:List V) (H:Hp) (Q:VK):Prop
 |mk (p:Addr) (ys:List V) (h1:xs=[.ref p]) (h2:SqL K H p ys\/SqT K H p ys) (q:∀l,H l=none->Q (.ref l) (upd H l (.lst ys))):rq K xs H Q
inductive rE (x:V) (vs:List V) (H:Hp) (Q:VK):Prop
 |mk (l:Addr) (xs:List V) (y:V) (h1:x=.ref l) (h2:vs=[y]) (h3:H l=some (.lst xs)) (h4:xs.length<sizeLine) (q:Q .non (upd H l (.lst (xs++[y])))):rE x vs H Q
inductive rC (K:PySem.W.Frag) (x y:V) (H:Hp) (Q:VK):Prop
 |mk (l b:Addr) (xs zs:List V) (h1:x=.ref l) (h2:y=.ref b) (h3:SqL K H l xs) (h4:SqL K H b zs) (h5:xs.length+zs.length<=sizeLine) (q:∀p,H p=none->Q (.ref p) (upd H p (.lst (xs++zs)))):rC K x y H Q
inductive gF (A B:Prop):Prop
 |mk (h:A) (q:B):gF A B
theorem lP (A B:Prop):gF A B=(A/\B):=propext ⟨fun⟨a,b⟩=>⟨a,b⟩,fun⟨a,b⟩=>⟨a,b⟩⟩
section
variable {X:Cx}
theorem pq (i:Nat) {x:Str}{pos:Pos}(hN:X.N[i]?=some x:=by rfl) (hv:Vis X.env.scope x:=by first|exact Or.inl rfl|exact Or.inr (Or.inl rfl)|exact Or.inr (Or.inr rfl)) (hd:(x == ("__debug__":Str))=false:=by decide)
 (hcd:(x == ("__classdict__":Str))=false:=by decide):PE X (.Name x pos) (lE i):=by
 rw[yn]
 exact yL hN hv hd hcd
theorem aO {op:CmpOp}{r:R2}{a b:Expr}{ta tb:TE}{pos:Pos}(ho:OpR X (compareOp op) r) (ha:PE X a ta) (hb:PE X b tb) (hm:behindInMarks op b=false):PT X (.Compare a [op] [b] pos) (fE (tOp r ta tb)):=by
 rw[yq]
 exact yA ho ha hb hm
theorem cJ {e:Expr}{t:TE}(h:PE X e t) (he:∀whole,isTrue e X.env whole=(do let v <- whole;standAt e.pos;holding [v] (truthy v)):=by intro _;rfl):PT X e (fE t):=by
 rw[yp]
 exact yy h he
theorem OpR.as {f:Value->Value->Sem Value}{r r':R2}(h:OpR X f r) (e:∀x y H Q,r' x y H Q->r x y H Q):OpR X f r':=fun pins s σ H x y v u Q I rx ry q=>h pins s σ H x y v u Q I rx ry (e _ _ _ _ q)
theorem bF.as {f:Value}{r r':List V->Hp->VK->Prop}(h:bF X f r) (e:∀x H Q,r' x H Q->r x H Q):bF X f r':=fun pins s σ H x u Q I rx q=>h pins s σ H x u Q I rx (e _ _ _ q)
theorem IxR.as {r r':R2}(h:IxR X r) (e:∀x y H Q,r' x y H Q->r x y H Q):IxR X r':=fun a b pins s σ H x y v u Q I rx ry q=>h a b pins s σ H x y v u Q I rx ry (e _ _ _ _ q)
theorem gE:OpR X (binaryOp .Add) rG:=Ae.as fun _ _ _ _ ⟨i,j,a,b,q⟩=>⟨i,j,a,b,q⟩
theorem lD:OpR X (binaryOp .Sub) rm:=A9.as fun _ _ _ _ ⟨i,j,a,b,q⟩=>⟨i,j,a,b,q⟩
theorem dS:OpR X (binaryOp .FloorDiv) rB:=Ad.as fun _ _ _ _ ⟨i,j,a,b,c,q⟩=>⟨i,j,a,b,c,q⟩
theorem bM:OpR X (binaryOp .Mod) rn:=Aa.as fun _ _ _ _ ⟨i,j,a,b,c,q⟩=>⟨i,j,a,b,c,q⟩
theorem gD:OpR X (compareOp .Lt) qLt:=Ab.as fun _ _ _ _ ⟨i,j,a,b,q⟩=>⟨i,j,a,b,q⟩
theorem iU:OpR X (compareOp .Gt) qGt:=Ac.as fun _ _ _ _ ⟨i,j,a,b,q⟩=>⟨i,j,a,b,q⟩
theorem bn:OpR X (compareOp .Eq) qEq:=zz.as fun _ _ _ _ ⟨c,q⟩=>⟨c,q⟩
theorem gC:OpR X (compareOp .NotEq) qNe:=zj.as fun _ _ _ _ ⟨c,q⟩=>⟨c,q⟩
theorem fD:OpR X (binaryOp .Add) rF:=zB.as fun _ _ _ _ ⟨i,j,a,b,c,q⟩=>⟨i,j,a,b,c,q⟩
theorem bZ:OpR X (binaryOp .Add) (rC X.K):=zA.as fun _ _ _ _ ⟨l,b,xs,zs,h1,h2,h3,h4,h5,q⟩=>⟨l,b,xs,zs,h1,h2,h3,h4,h5,q⟩
theorem bX:IxR X (lJ X.K):=AZ.as fun _ _ _ _ ⟨p,xs,i,v,a,b,c,d,q⟩=>⟨p,xs,i,v,a,b,c,d,q⟩
theorem ar:IxR X (lI X.K):=AY.as fun _ _ _ _ ⟨p,xs,i,v,a,b,c,d,q⟩=>⟨p,xs,i,v,a,b,c,d,q⟩
theorem rg {K:PySem.W.Frag}(e:X.K=K):IxR X (lJ K):=by
 subst e
 exact bX
theorem re {K:PySem.W.Frag}(e:X.K=K):IxR X (lI K):=by
 subst e
 exact ar
theorem bO:bF X (.builtin "len") (rA X.K):=Cy.as fun _ _ _ ⟨p,ys,a,b,q⟩=>⟨p,ys,a,b,q⟩
theorem dU:bF X (.builtin "isinstance") (lK X.K):=CA.as fun _ _ _ ⟨x,t,T,b,h1,h2,h3,q⟩=>⟨x,t,T,b,h1,h2,h3,q⟩
theorem rk {K:PySem.W.Frag}(e:X.K=K):bF X (.builtin "isinstance") (lK K):=by
 subst e
 exact dU
theorem ym:bF X (.type "list") (rq X.K):=Cw.as fun _ _ _ ⟨p,ys,a,b,q⟩=>⟨p,ys,a,b,q⟩
theorem ce:MtM X "list.append" rE:=fun pins s σ H x xs v us Q I rx rv ⟨l,ys,y,h1,h2,h3,h4,q⟩=>Aq pins s σ H x xs v us Q I rx rv ⟨l,ys,y,h1,h2,h3,h4,q⟩
inductive lN (K:PySem.W.Frag) (f:Str) (x:V) (H:Hp) (Q:VK):Prop
 |mk (a C dx:Addr) (fs:List (Str×V)) (v:V) (h1:x=.ref a) (h2:H a=some (.ins C dx fs)) (h3:Cls K C) (h4:cE K C f) (h5:fs.lookup f=some v) (q:Q v H):lN K f x H Q
def lO (K:PySem.W.Frag) (ta:TE) (f:Str):TE:=fun σ H Q=>ta σ H fun x H1=>lN K f x H1 Q
theorem yu (K:PySem.W.Frag) (ta:TE) (f:Str):lO K ta f=ir K ta f:=by
 funext σ H Q
 unfold lO ir
 have:(fun x H1=>lN K f x H1 Q)=fun x H1=>∃a C dx fs v,x=V.ref a/\H1 a=some (.ins C dx fs)/\Cls K C/\cE K C f/\fs.lookup f=some v/\Q v H1:=by
  funext x H1
  exact propext ⟨fun⟨a,C,dx,fs,v,h1,h2,h3,h4,h5,q⟩=>⟨a,C,dx,fs,v,h1,h2,h3,h4,h5,q⟩,fun⟨a,C,dx,fs,v,h1,h2,h3,h4,h5,q⟩=>⟨a,C,dx,fs,v,h1,h2,h3,h4,h5,q⟩⟩
 rw[this]
theorem cK {e:Expr}{ta:TE}{f:Str}{pos:Pos}(he:PE X e ta) (hb:attributeBase e f X.env (eval e X.env)=eval e X.env):PE X (.Attribute e f pos) (lO X.K ta f):=by
 rw[yu]
 exact rQ he hb
def lF (t:TA):TE:=fun σ H Q=>t σ H fun xs H1=>gF (xs.length<=sizeLine) (∀p,H1 p=none->Q (.ref p) (upd H1 p (.tup xs)))
def lH (t:TA):TE:=fun σ H Q=>t σ H fun xs H1=>gF (xs.length<=sizeLine) (∀p,H1 p=none->Q (.ref p) (upd H1 p (.lst xs)))
theorem yo (t:TA):lF t=jO t:=by
 funext σ H Q
 unfold lF jO
 simp only[lP]
theorem yt (t:TA):lH t=jQ t:=by
 funext σ H Q
 unfold lH jQ
 simp only[lP]
theorem aL {x1}{es:List Expr}{t:TA}{pos:Pos}(h:PA X es t):PE X (.Tuple es x1 pos) (lF t):=by
 rw[yo]
 exact yM h
theorem aJ {es:List Expr}{t:TA}{pos:Pos}(h:PA X es t):PE X (.List es pos) (lH t):=by
 rw[yt]
 exact yP h
inductive lG (vs:List V) (H:Hp) (R:It->Hp->Prop):Prop
 |mk (j:Int) (h:vs=[.int j]) (h1:-(2 ^ 62)<=j) (h2:j<2 ^ 62) (q:R (Itr 0 j.toNat) H):lG vs H R
def mJ (ta:TA):TI:=fun σ H R=>ta σ H fun vs H1=>lG vs H1 R
theorem AX (ta:TA):mJ ta=mL ta:=by
 funext σ H R
 unfold mJ mL
 have:(fun vs H1=>lG vs H1 R)=fun vs H1=>∃j:Int,vs=[V.int j]/\-(2 ^ 62)<=j/\j<2 ^ 62/\R (Itr 0 j.toNat) H1:=by
  funext vs H1
  exact propext ⟨fun⟨j,h,h1,h2,q⟩=>⟨j,h,h1,h2,q⟩,fun⟨j,h,h1,h2,q⟩=>⟨j,h,h1,h2,q⟩⟩
 rw[this]
theorem gJ {tg a:Expr}{ta:TA}{p pos:Pos}(hg:Gl X "range") (hm:X.mg "range"=none) (ha:PA X [a] ta) (hs:starEach [a] X.env=[(false,eval a X.env)]:=by rfl):PI X tg (.Call (.Name "range" p) [a] [] pos) (mJ ta):=by
 rw[AX]
 exact yJ hg hm ha hs
def qBM (K:PySem.W.Frag) (T:String) (r:V->List V->Hp->VK->Prop) (to:TE) (t:TA):TE:=fun σ H Q=>to σ H fun x H1=>gF (tyV K T x H1) (t σ H1 fun xs H2=>r x xs H2 Q)
theorem yv (K:PySem.W.Frag) (T:String) (r:V->List V->Hp->VK->Prop) (to:TE) (t:TA):qBM K T r to t=tBM K T r to t:=by
 funext σ H Q
 unfold qBM tBM
 simp only[lP]
theorem bD {o e:Expr}{es:List Expr}{to:TE}{t:TA}{name:Str}{apos cpos:Pos}{T id:String}{r:V->List V->Hp->VK->Prop}(pa:PlainAttrs T) (slot:Slot T name id) (hty:typeOf (.builtin id)=pure (.type "method_descriptor")) (hm:MtR X id r) (ho:PE X o to) (ha:PA X (e::es) t)
 (hbase:attributeBase o name X.env (eval o X.env)=eval o X.env:=by rfl)
 (hfew:((backTo cpos (starEach (e::es) X.env)).all (fun x=>!x.1) && (backToKw cpos (keywordEach [] X.env)).all (fun x=>x.1.isSome)
  && decide ((e::es).length+([]:List Keyword).length+(if([]:List Keyword).isEmpty then 0 else 1)<30))=true:=by rfl)
 (hline:(apos.endLine == cpos.line)=true:=by rfl) (hs:starEach (e::es) X.env=(false,eval e X.env)::starEach es X.env:=by rfl) (hplain:(backTo cpos (starEach es X.env)).any (·.1)=false:=by rfl):
 PE X (.Call (.Attribute o name apos) (e::es) [] cpos) (qBM X.K T r to t):=by
 rw[yv]
 exact yU pa slot hty hm ho ha hbase hfew hline hs hplain
end
section
variable {prog:Program}{w:World}{A:Around}{E:Qq}{s:Shared}
end
section
variable {X:Cx}{pins:List (Addr×Obj)}{σ:St}
theorem o6 {H0:Hp}{s0 s:Shared}(I0:Inv X pins σ H0 s0):∀(ts:List Addr) (ps:List (V×V)) (H:Hp),Inv X pins σ H s->ts.length=ps.length->ts.Pairwise (·<·)->(∀t∈ts,s0.heap.objs.size<=t/\H t=none)->
 (∀(j:Nat) (t:Addr) (p:V×V),ts[j]?=some t->ps[j]?=some p->∃u v,ay p.1 u/\ay p.2 v/\IsPair s.heap t u v)->
 ∃H',Inv X pins σ H' s/\aa H H'/\(∀b,b∉ts->H' b=H b)/\∀(j:Nat) (t:Addr) (p:V×V),ts[j]?=some t->ps[j]?=some p->H' t=some (.tup [p.1,p.2])
 |[],_,H,I,_,_,_,_=>⟨H,I,aa.refl _,fun _ _=>rfl,fun j t p h=>by simp at h⟩
 |t::ts,[],_,_,hl,_,_,_=>by simp at hl
 |t::ts,p::ps,H,I,hl,pw,fr,ob=>by
  obtain⟨u,v,ru,rv,pT⟩:=ob 0 t p rfl rfl
  obtain⟨ht,hn⟩:=fr t qk
  obtain⟨pw1,pw2⟩:=List.pairwise_cons.mp pw
  have I2:Inv X pins σ (upd H t (.tup [p.1,p.2])) s:=I.track (I0.fpOk ht hn) (qx I0.sz ht) ⟨by show 2<=sizeLine;decide,[u,v],.cons ru (.cons rv .nil),⟨_,pT,rfl,_,rfl⟩⟩
  obtain⟨H',I3,s3,o3,a3⟩:=o6 I0 ts ps _ I2 (by simpa using hl) pw2 (fun t' ht'=>⟨(fr t' (qj _ ht')).1,by rw[aj (Nat.ne_of_gt (pw1 t' ht'))];exact(fr t' (qj _ ht')).2⟩) fun j t' p' h1 h2=>ob (j+1) t' p' (by simpa using h1) (by simpa using h2)
  refine⟨H',I3,(aa.new hn _).trans s3,fun b hb=>?_,fun j t' p' h1 h2=>?_⟩
  ·have nb:b≠t:=fun z=>hb (by rw[z];exact qk)
   rw[o3 b fun z=>hb (qj _ z),aj nb]
  ·cases j with
   |zero=>
    simp at h1 h2
    subst h1
    subst h2
    exact s3 _ _ ae
   |succ j=>exact a3 j t' p' (by simpa using h1) (by simpa using h2)
end
section
variable {X:Cx}{pins:List (Addr×Obj)}{σ:St}{H:Hp}{s:Shared}{a:Addr}{kvs:List (Key×V)}{k:Key}{z:V}{u r:Value}{A:Around}{E:Qq}
end
section
variable {X:Cx}{o e f:Expr}{apos cpos:Pos}{td ty tx:TE}
end
theorem AF:typeLookup (.type "list") "keys"=pure none:=by rw[typeLookup_type,builtinLookup_eq_fast];kernel_rfl
section
variable {prog:Program}{w:World}{A:Around}{E:Qq}{s:Shared}
theorem AJ {a:Addr}{xs:Array Value}{k:Nat}{sl:Array (Option Value)}{Q:Option Value->Shared->Prop}(hA:A.handled=none) (hx:s.heap.get? a=some { cls:=.type "list",dict:=none,data:=.seq xs k,slots:=sl })
 (h:∀h' tk,(∀b o,s.heap.get? b=some o->h'.get? b=some o)->Q none { s with heap:=h',toks:=tk }):wpAny (model prog w) A (getAttr? (.ref a) "keys") Q E s:=by
 obtain⟨hp,g,d,tk,os⟩:=s
 have hT:∀tk',(⟨hp,g,d,tk',os⟩:Shared).TypeIs (.ref a) "list":=fun _=>⟨_,hx,rfl⟩
 have f1:=sub_AttributeError
 have f3:=F.slot_list_getattribute.lookup
 have f4:=F.slot_list_getattribute.bind (.ref a)
 have f5:=am_list_getattr_none
 unfold getAttr? getAttrBy? getAttrBy
 repeat (any_goals (first|assumption|exact hT _|((with_reducible show wpAny _ _ (call (Value.builtin "list.__getattribute__") _ _) _ _ _);refine call_meets F.slot_list_getattribute (hT _) am_entry_list_getattribute (F.args_list_getattribute_2 _ _) (meets_getattribute_miss_list a xs k sl "keys" _ AF Qd) ⟨hx,hA,fun h' tk' e hx'=>?_⟩)|wp_step))
 obtain⟨t',u',he⟩:=hx'.there
 show wpAny _ _ (getattributeRaised _ _ _ _ _ _ _) _ _ _
 unfold getattributeRaised
 repeat (any_goals (first|assumption|wp_step))
 exact h _ _ hx'.keeps
end
theorem iX:plainId "dict.update.loop"=true:=Qd
theorem ui:entryFor table "dict.update.loop"=some Builtin.«dict.update.loop»:=entryFor_of_fast (by kernel_rfl)
def cA {K:Type} [DecidableEq K] (ps:List (K×Value)):List (K×Value):=ps.foldl (fun kvs p=>stored kvs p.1 p.2) []
theorem wP {K:Type} [DecidableEq K] (ps:List (K×Value)) (p:K×Value):cA (ps++[p])=stored (cA ps) p.1 p.2:=by
 unfold cA
 rw[List.foldl_append]
 rfl
section
variable {prog:Program}{w:World}{A:Around}{R:Result->Shared->Prop}{K:Type} [DecidableEq K] {knd:KeyKind prog w K}
def i5 (knd:KeyKind prog w K) (h:Heap) (items:Array Value) (ps:List (K×Value)):Prop:=
 items.size=ps.length/\∀(i:Nat) (p:K×Value),ps[i]?=some p->∃t key,items[i]?=some (.ref t)/\h.IsTuple t #[key,p.2]/\knd.is p.1 key=true
theorem i5.keep {h h':Heap}{items:Array Value}{ps:List (K×Value)}(x:i5 knd h items ps) (e:∀t o,h.get? t=some o->o.cls=.type "tuple"->h'.get? t=some o):i5 knd h' items ps:=
 ⟨x.1,fun i p hp=>let ⟨t,key,a,b,c⟩:=x.2 i p hp;⟨t,key,a,(let ⟨o,e1,e2,r⟩:=b;⟨o,e t o e1 e2,e2,r⟩),c⟩⟩
theorem C8 {it l d:Addr}{items:Array Value}{ps:List (K×Value)}{res:Value}(hh:A.handled=none) (nil':it≠l) (nid:it≠d) (nld:l≠d) (few:ps.length<=sizeLine)
 (small:∀qs,qs.length<=ps.length->(cA (qs:List (K×Value))).length<=qs.length):
 ∀(m i:Nat) (s:Shared) (tk:Tok),ps.length-i=m->i<=ps.length->s.heap.IsListIter it l i->s.heap.IsList l items->s.heap.DictOf knd d (cA (ps.take i))->i5 knd s.heap items ps->
 (∀h' tk',(∀b o,b≠it->b≠d->s.heap.get? b=some o->h'.get? b=some o)->h'.DictOf knd d (cA ps)->R (.ok (.ret res)) { s with heap:=h',toks:=tk' })->
 codeAny (model prog w) A (.builtin "dict.update.loop" ⟨[.ref d,.ref it,.int i tk,res],[]⟩) R s:=by
 intro m
 induction m with
 |zero=>
  intro i s tk hm hi hit hl hd hp hR
  have e:i=ps.length:=Qo
  subst e
  rw[qG]at hd
  refine codeAny_builtin ui ?_
  rw[Around.under_plainId iX _]
  show wpAny _ A.in1 (pyNext (.ref it) >>= _) _ _ s
  refine q4 (wpAny_pyNext_list_end (by simpa using hh) hit hl (Array.getElem?_eq_none (by rw[hp.1];exact qd _)) fun h' ex=>?_)
  show wpAny _ _ (Builtin.Dict.addKeywords d [] >>= _) _ _ _
  refine q4 (qc (qc (hR h' s.toks (fun b o nb _ q=>ex b o nb q) ?_)))
  obtain⟨o,es,ep,ho,r⟩:=hd
  exact⟨o,es,ep,ex d o (Ne.symm nid) ho,r⟩
 |succ m ih=>
  intro i s tk hm hi hit hl hd hp hR
  have lt:i<ps.length:=Qo
  obtain⟨t,key,e1,e2,e3⟩:=hp.2 i ps[i] (qb lt)
  refine codeAny_builtin ui ?_
  rw[Around.under_plainId iX _]
  show wpAny _ A.in1 (pyNext (.ref it) >>= _) _ _ s
  refine q4 (wpAny_pyNext_list_item hit hl e1 fun h1 hit1 sb1=>?_)
  obtain⟨ot,et1,et2,nt,et3⟩:=e2
  have ntit:t≠it:=fun z=>by
   obtain⟨oi,q1,q2,_⟩:=hit
   rw[z,q1]at et1
   cases et1
   rw[q2]at et2
   exact absurd (Value.type.inj et2) Qk
  have ntd:t≠d:=fun z=>by
   obtain⟨od,q1,q2⟩:=(show s.TypeIs (.ref d) "dict" from hd.typeIs)
   rw[z,q1]at et1
   cases et1
   rw[q2]at et2
   exact absurd (Value.type.inj et2) Qk
  have et1':h1.get? t=some ot:=(sb1.2 t ntit).trans et1
  have hd1:h1.DictOf knd d (cA (ps.take i)):=hd.sameBut sb1 (Ne.symm nid)
  refine q4 (wpAny_holding (q4 (wpAny_tryCatch ?_)))
  unfold Builtin.Dict.pairItems
  refine q4 (wpAny_typeOf_ref et1' ?_)
  rw[et2]
  refine q4 (wpAny_seqItems et1' et3 (qc ?_))
  refine wpAny_holding (wpAny_dictSet_pairs e3 hd1 (fun h2 hd2 sb2=>?_) ?_)
  ·refine qc ⟨plainId_quiet iX _,ih (i+1) { s with heap:=h2,toks:=s.toks+1 } 0 Qo Qo ?_ ?_ ?_ ?_ fun h' tk' kp dd=>hR h' tk' (fun b o n1 n2 q=>kp b o n1 n2 ((sb2.2 b n2).trans ((sb1.2 b n1).trans q))) dd⟩
   ·obtain⟨o,q1,r⟩:=hit1
    exact⟨o,(sb2.2 it nid).trans q1,r⟩
   ·obtain⟨o,q1,r⟩:=hl
    exact⟨o,(sb2.2 l nld).trans ((sb1.2 l (Ne.symm nil')).trans q1),r⟩
   ·rw[qq,qb lt]
    show h2.DictOf knd d (cA (ps.take i++[ps[i]]))
    rw[wP]
    exact hd2
   ·refine hp.keep fun b o q1 q2=>?_
    have nb1:b≠it:=fun z=>by
     obtain⟨oi,r1,r2,_⟩:=hit
     rw[z,r1]at q1
     cases q1
     rw[r2]at q2
     exact absurd (Value.type.inj q2) Qk
    have nb2:b≠d:=fun z=>by
     obtain⟨od,r1,r2⟩:=(show s.TypeIs (.ref d) "dict" from hd.typeIs)
     rw[z,r1]at q1
     cases q1
     rw[r2]at q2
     exact absurd (Value.type.inj q2) Qk
    exact(sb2.2 b nb2).trans ((sb1.2 b nb1).trans q1)
  ·have h1:=small (ps.take i) (by rw[qJ];omega)
   have h2:(ps.take i).length<=ps.length:=by rw[qJ];omega
   omega
end
section
variable {prog:Program}{w:World}{A:Around}{E:Qq}{K:Type} [DecidableEq K] {knd:KeyKind prog w K}{s:Shared}
theorem C7 {l:Addr}{xs:Array Value}{k:Nat}{sl:Array (Option Value)}{ps:List (K×Value)}{Q:Qq}(hh:A.handled=none) (hl:s.heap.get? l=some { cls:=.type "list",dict:=none,data:=.seq xs k,slots:=sl }) (hp:i5 knd s.heap xs ps) (few:ps.length<=sizeLine)
 (small:∀qs,qs.length<=ps.length->(cA (qs:List (K×Value))).length<=qs.length)
 (h:∀h' tk,(∀b o,s.heap.get? b=some o->h'.get? b=some o)->h'.DictOf knd s.heap.objs.size (cA ps)->Q (.ref s.heap.objs.size) { s with heap:=h',toks:=tk }):
 wpAny (model prog w) A (call (.type "dict") [.ref l]) Q E s:=by
 refine callType_codes (Q₁:=fun obj s₁=>obj=.ref s.heap.objs.size/\s₁={ s with heap:=s.heap.push { cls:=.type "dict",data:=.dict #[] } }) PySem.F.kt_called_dict (PySem.F.kt_typeCall_dict_1 _) PySem.F.entry_dict_init (kt_code_dict_new _ ⟨rfl,rfl⟩) ?_
 rintro obj s₁ ⟨rfl,rfl⟩
 have hnew:(s.heap.push { cls:=.type "dict",data:=.dict #[] }).DictOf knd s.heap.objs.size []:=Heap.DictOf.new s.heap
 refine⟨hnew.typeIs,PySem.F.args_dict_init_2 _ _,?_⟩
 unfold Builtin.«dict.__init__»
 refine q4 ?_
 unfold Builtin.Dict.selfAndRest
 refine q4 (wpAny_notOrdered_dict hnew.typeIs ?_)
 show wpAny _ _ (pure (s.heap.objs.size,[Value.ref l])) _ _ _
 refine qc ?_
 show wpAny _ _ (Builtin.Dict.updateFrom "dict.__init__" s.heap.objs.size (.ref l) [] .none) _ _ _
 unfold Builtin.Dict.updateFrom
 have hl':(s.heap.push { cls:=.type "dict",data:=.dict #[] }).get? l=some { cls:=.type "list",dict:=none,data:=.seq xs k,slots:=sl }:=q9 _ hl
 refine q4 (wpAny_typeOf_ref hl' ?_)
 rw[Q0 (show((Value.type "list":Value) != Value.type "dict")=true by decide)]
 refine q4 (AJ (by simpa using hh) hl' fun h1 tk1 kp1=>?_)
 rw[Q0 (show(none:Option Value).isNone=true from rfl)]
 refine q4 (wpAny_rule ?_)
 have hl1:=kp1 _ _ hl'
 have hd1:h1.DictOf knd s.heap.objs.size []:=by
  obtain⟨o,es,ep,ho,r⟩:=hnew
  exact⟨o,es,ep,kp1 _ _ ho,r⟩
 refine q4 (wpAny_pyIter_list (items:=xs) ⟨_,hl1,rfl,_,rfl⟩ ?_)
 have nl:l≠s.heap.objs.size:=fun z=>absurd (qp hl) (by rw[z];exact Nat.lt_irrefl _)
 have sz:s.heap.objs.size<h1.objs.size:=by
  obtain⟨o,_,_,ho,_⟩:=hd1
  exact qp ho
 have nit:h1.objs.size≠l:=fun z=>absurd (qp hl1) (by rw[<- z];exact Nat.lt_irrefl _)
 refine qc ⟨plainId_quiet iX _,C8 (knd:=knd) (items:=xs) (ps:=ps) (by simpa using hh) nit (Nat.ne_of_gt sz) nl few small ps.length 0 _ 0 (Nat.sub_zero _) (qr _) ?_ ?_ ?_ ?_ fun h' tk' kp dd=>?_⟩
 ·exact⟨_,qo _ rfl,rfl,rfl⟩
 ·exact⟨_,q9 _ hl1,rfl,_,rfl⟩
 ·exact hd1.push _
 ·exact(hp.keep fun t o q _=>kp1 _ _ (q9 _ q)).keep fun t o q _=>q9 _ q
 ·refine⟨rfl,h h' tk' (fun b o q=>?_) dd⟩
  have lt:=qp q
  exact kp b o (qF (Nat.lt_trans lt sz)) (qF lt) (q9 _ (kp1 _ _ (q9 _ q)))
end
def gH (ps:List (Key×V)):List (Key×V):=ps.foldl (fun kvs p=>bd kvs p.1 p.2) []
theorem yx (ps:List (Key×V)):(gH ps).length<=ps.length:=by
 have:∀(ps kvs:List (Key×V)),(ps.foldl (fun kvs p=>bd kvs p.1 p.2) kvs).length<=kvs.length+ps.length:=by
  intro ps
  induction ps with
  |nil=>intro kvs;simp
  |cons p r ih=>
   intro kvs
   have h1:=ih (bd kvs p.1 p.2)
   have h2:=mC kvs p.1 p.2
   rw[List.foldl_cons,qz]
   omega
 have:=this ps []
 simpa[gH]using this
theorem wO {K:Type} [DecidableEq K] (kvs:List (K×Value)) (k:K) (v:Value):(stored kvs k v).length<=kvs.length+1:=by
 unfold stored
 split<;>simp
theorem wQ {K:Type} [DecidableEq K] (qs:List (K×Value)):(cA qs).length<=qs.length:=by
 have:∀(ps kvs:List (K×Value)),(ps.foldl (fun kvs p=>stored kvs p.1 p.2) kvs).length<=kvs.length+ps.length:=by
  intro ps
  induction ps with
  |nil=>intro kvs;simp
  |cons p r ih=>
   intro kvs
   have h1:=ih (stored kvs p.1 p.2)
   have h2:=wO kvs p.1 p.2
   rw[List.foldl_cons,qz]
   omega
 have:=this qs []
 simpa[cA]using this
section
variable {X:Cx}{pins:List (Addr×Obj)}{σ:St}{H:Hp}{s:Shared}
def yi (K:PySem.W.Frag):List V->Hp->VK->Prop:=fun vs H Q=>∃l us ps,vs=[.ref l]/\H l=some (.lst us)/\us.length=ps.length/\ps.length<=sizeLine/\(∀(i:Nat) (p:Key×V),ps[i]?=some p->∃t,us[i]?=some (.ref t)/\H t=some (.tup [kV p.1,p.2]))/\∀d,H d=none->Q (.ref d) (upd H d (.dK (gH ps)))
theorem rT {h:Heap}(ok:HOk X.prog X.w H h):∀(us:List V) (its:List Value) (ps:List (Key×V)),au us its->us.length=ps.length->(∀(i:Nat) (p:Key×V),ps[i]?=some p->∃t,us[i]?=some (.ref t)/\H t=some (.tup [kV p.1,p.2]))->
 ∃qs:List (Key×Value),KV ps qs/\its.length=qs.length/\∀(i:Nat) (q:Key×Value),qs[i]?=some q->∃t key,its[i]?=some (.ref t)/\h.IsTuple t #[key,q.2]/\(bL X.prog X.w).is q.1 key=true
 |[],_,[],.nil,_,_=>⟨[],.nil,rfl,fun i q hq=>by simp at hq⟩
 |u::us,_,[],_,hl,_=>by simp at hl
 |[],_,p::ps,_,hl,_=>by simp at hl
 |u::us,_,p::ps,@Paired.cons _ _ _ _ y _ ys rx r,hl,hp=>by
  obtain⟨t,e1,e2⟩:=hp 0 p rfl
  obtain rfl:u=.ref t:=by simpa using e1
  obtain⟨qs,kv,ln,hq⟩:=rT ok us ys ps r (by simpa using hl) fun i p' h'=>by
   obtain⟨t',a,b⟩:=hp (i+1) p' (by simpa using h')
   exact⟨t',by simpa using a,b⟩
  obtain⟨_,jts,rj,o,h1,h2,n,h3⟩:=(show bb X.prog X.w H h t (.tup [kV p.1,p.2])from ok t _ e2)
  obtain⟨k1,v1,rfl,r1,r2⟩:=ig rj
  cases rx
  refine⟨(p.1,v1)::qs,.cons ⟨rfl,r2⟩ kv,by simp[ln],fun i q h'=>?_⟩
  cases i with
  |zero=>
   have e:(p.1,v1)=q:=by simpa using h'
   subst e
   exact⟨t,k1,rfl,⟨o,h1,h2,n,h3⟩,eR r1⟩
  |succ i=>exact hq i q (by simpa using h')
theorem KV.all:∀{ps:List (Key×V)}{qs:List (Key×Value)},KV ps qs->KV (gH ps) (cA qs):=by
 have:∀{ps:List (Key×V)}{qs:List (Key×Value)},KV ps qs->∀{a:List (Key×V)}{b:List (Key×Value)},KV a b->KV (ps.foldl (fun kvs p=>bd kvs p.1 p.2) a) (qs.foldl (fun kvs p=>stored kvs p.1 p.2) b):=by
  intro ps qs h
  induction h with
  |nil=>intro a b h;exact h
  |cons hx _ ih=>
   intro a b h
   obtain⟨e1,e2⟩:=hx
   rw[List.foldl_cons,List.foldl_cons,<- e1]
   exact ih (h.put _ e2)
 intro ps qs h
 exact this h .nil
theorem CB (hc:X.calm=true):bF X (.type "dict") (yi X.K):=by
 intro pins s σ H xs us Q I r h
 obtain⟨l,ys,ps,rfl,hl,ln,few,hp,q⟩:=h
 obtain⟨u,rfl,rx⟩:=cR r
 cases rx
 obtain⟨hz,its,c',r',e⟩:=(show bb X.prog X.w H s.heap l (.lst ys)from I.hok l _ hl)
 obtain⟨qs,kv,ln',hq⟩:=rT I.hok ys its ps r' ln hp
 have kl:=kv.length
 refine C7 (knd:=bL X.prog X.w) (ps:=qs) (I.ok.hd hc) e ⟨by simpa using ln',fun i p hp=>?_⟩ Qo (fun qs _=>wQ qs) fun h' tk kp dd=>?_
 ·obtain⟨t,key,a,b,c⟩:=hq i p hp
  exact⟨t,key,by simpa using a,b,c⟩
 ·have len:=yx ps
  refine⟨.ref s.heap.objs.size,_,I.laid (t':=tk) kp (qd _) (uq Qo ?_ kv.all dd),rfl,q _ (I.hok.fresh (qd _))⟩
  exact(ur s.heap I.big:bb X.prog X.w H _ s.heap.objs.size (.dK [])).2.1
end
end L2
namespace Tr
open PySem PySem.Spec PyProof.Rows L2
abbrev sl (x:Str):List Nat:=x.cps.toList
end Tr
namespace L2
open PySem PySem.Spec PyProof.Rows
section
variable {X:Cx}
theorem Ba:IxR X (fun x y H Q=>∃a kvs k v,x=.ref a/\H a=some (.dK kvs)/\y=kV k/\bv kvs k=some v/\Q v H):=by
 intro value slice pins s σ H x y v u Q I rx ry h hs
 obtain⟨a,kvs,k,z,rfl,hd,rfl,e,q⟩:=h
 cases rx
 obtain⟨_,ne,vs,rel,dd⟩:=jx I.hok hd
 obtain⟨w',hw,rw'⟩:=bN.some_of (v:=z) (o:=valueAt vs k) (by rw[<- e];exact rel.val k)
 exact tail_any dd.typeIs PySem.F.slot_dict_getitem.lookup (wpAny_getItem_of (eR ry) dd.mapOf hw ⟨z,H,I.tok _,rw',q⟩) hs
end
end L2
namespace Tr
open PySem PySem.Spec PyProof.Rows L2
abbrev Wat:=Int×Str×Str
def ma (f:Row->Option Str) (rs:List Row) (q:Str):List Int:=rs.zipIdx.filterMap fun p=>if f p.1=some q then some (p.2:Int)else none
def Sm (W:List (List Wat)) (n:Nat):Prop:=∀(i:Nat) (es:List Wat),W[i]?=some es->es.length<=n
def CG (n:Nat) (gs:List Int) (k:Nat):Int:=if k<gs.length then gs.getD k 0 else(n:Int)-1
def roomFor (rs:List Row) (i:Nat) (r:Row) (s:Str×Int):List Wat:=if r.into=some s.1/\s.2.toNat<=(ma Row.into (rs.take i) s.1).length then[(CG rs.length (ma Row.outof rs s.1) ((ma Row.into (rs.take i) s.1).length-s.2.toNat),"room",s.1)]else[]
end Tr
namespace L2
open PySem
def itr (mask:Nat):Nat->Nat->Nat->Nat
 |0,i,_=>i
 |m+1,i,p=>itr mask m (SetTable.leap mask i p).1 (SetTable.leap mask i p).2
theorem tQ {mask:Nat}{ow:Array (Option Nat)}:∀(fuel i p:Nat),i<=mask->SetTable.layClean.free mask ow fuel i p=none->∀m,m<fuel->(ow.getD (itr mask m i p) (some 0)).isNone=false
 |0,_,_,_,_,m,hm=>absurd hm (Nat.not_lt_zero m)
 |fuel+1,i,p,hi,h,m,hm=>by
  unfold SetTable.layClean.free at h
  split at h
  ·cases h
  ·rename_i hf
   cases m with
   |zero=>
    have:=List.find?_eq_none.mp hf 0 (by
     rw[List.mem_range]
     unfold SetTable.runEnd
     split<;>omega)
    show(ow.getD i (some 0)).isNone=false
    simpa only[Nat.add_zero,Bool.not_eq_true]using this
   |succ m=>exact tQ fuel _ _ (Nat.le_of_lt_succ (Nat.mod_lt _ (Nat.succ_pos _))) h m Qo
theorem tR {mask:Nat}{ow:Array (Option Nat)}:∀(fuel i p j:Nat),SetTable.layClean.free mask ow fuel i p=some j->(ow.getD j (some 0)).isNone=true
 |0,_,_,_,h=>by unfold SetTable.layClean.free at h;cases h
 |fuel+1,i,p,j,h=>by
  unfold SetTable.layClean.free at h
  split at h
  ·rename_i k hk
   cases h
   exact List.find?_some (p:=fun k=>(ow.getD (i+k) (some 0)).isNone) hk
  ·exact tR fuel _ _ j h
theorem tF (mask:Nat):∀(a b i p:Nat),itr mask (a+b) i p=itr mask b (itr mask a i p) (p / 32 ^ a)
 |0,b,i,p=>by simp[itr]
 |a+1,b,i,p=>by
  rw[Nat.succ_add]
  show itr mask (a+b) _ _=itr mask b (itr mask a _ _) _
  rw[tF mask a b]
  unfold SetTable.leap
  rw[Nat.div_div_eq_div_mul,Nat.pow_succ,Nat.mul_comm (32 ^ a) 32]
theorem tD {mask:Nat}:∀(a i p:Nat),i<=mask->itr mask a i p<=mask
 |0,i,p,h=>h
 |a+1,i,p,h=>tD a _ _ (by unfold SetTable.leap;exact Nat.le_of_lt_succ (Nat.mod_lt _ (Nat.succ_pos _)))
theorem u7:∀(l:List (Option Nat)) (j k:Nat),l[j]?=some none->((l.set j (some k)).filterMap id).Perm (k::l.filterMap id)
 |[],j,k,h=>by simp at h
 |x::l,0,k,h=>by
  obtain rfl:x=none:=by simpa using h
  exact .refl _
 |x::l,j+1,k,h=>by
  have ih:=u7 l j k (by simpa using h)
  cases x with
  |none=>simpa using ih
  |some y=>
   show(y::(l.set j (some k)).filterMap id).Perm (k::y::l.filterMap id)
   exact(ih.cons y).trans (.swap _ _ _)
theorem ua:∀(l:List (Option Nat)),(l.filterMap id).length<l.length->∃j:Nat,l[j]?=some none
 |[],h=>absurd h (Nat.lt_irrefl _)
 |none::l,_=>⟨0,rfl⟩
 |some y::l,h=>by
  obtain⟨j,q⟩:=ua l (by simpa using h)
  exact⟨j+1,by simpa using q⟩
theorem rM {α:Type}(es:Array α) (order:Array Nat) (h:order.toList.Perm (List.range es.size)):(order.filterMap (es[·]?)).toList.Perm es.toList:=by
 rw[Array.toList_filterMap]
 refine(h.filterMap _).trans ?_
 have:∀l:List α,(List.range l.length).filterMap (l[·]?)=l:=fun l=>by
  induction l with
  |nil=>rfl
  |cons x l ih=>
   rw[qz,List.range_succ_eq_map,List.filterMap_cons,List.filterMap_map]
   exact congrArg (x::·) ih
 have q:=this es.toList
 rw[qL]at q
 simp only[qT]at q
 rw[q]
section
variable {P:Program}{w:World}{A:Around}{E:Qq}{s:Shared}
theorem xq:entryFor table "set.__or__"=some Builtin.«frozenset.__or__»:=entryFor_alias (id':="frozenset.__or__") (by kernel_rfl) rfl Qd (by kernel_rfl)
theorem o9 {es es':Array (Int×Value)}{t t':SetTable}{ys:List Str}(T:aK P w es t ys) (hp:es'.toList.Perm es.toList) (hf:t'.fits es'.size=true) (hl:t'.led=t.led) (hpl:t'.plain=false):aK P w es' t' ys:=by
 have sz:es'.size=es.size:=by rw[<- qL,hp.length_eq,qL]
 exact⟨T.el.perm hp,(hp.map _).nodup_iff.mpr T.nd,fun k=>((hp.map _).mem_iff).trans (T.mem k),by rw[sz];exact T.few,hf,hl.trans T.led,fun _=>hpl⟩
end
end L2
namespace L2
open PySem PySem.Spec PyProof.Rows
section
variable {X:Cx}
end
section
variable {P:Program}{w:World}{A:Around}{E:Qq}{s:Shared}
end
section
variable {X:Cx}
theorem KV.get:∀{ps:List (Key×V)}{qs:List (Key×Value)}{i:Nat}{p:Key×V},KV ps qs->ps[i]?=some p->∃q,qs[i]?=some q/\p.1=q.1/\ay p.2 q.2
 |_,_,_,_,.nil,h=>by simp at h
 |_,_,0,_,.cons hx _,h=>by
  simp only[List.getElem?_cons_zero,Option.some.injEq]at h
  subst h
  exact⟨_,rfl,hx.1,hx.2⟩
 |_,_,i+1,_,.cons _ r,h=>by
  obtain⟨q,e,z⟩:=KV.get r (by simpa using h)
  exact⟨q,by simpa using e,z⟩
def wu (td:TE):TE:=fun σ H Q=>td σ H fun x H1=>∃a kvs,x=.ref a/\H1 a=some (.dK kvs) /\
 ∀H' l (ts:List Addr),aa H1 H'->H1 l=none->H' l=some (.lst (ts.map V.ref))->ts.length=kvs.length->(∀(j:Nat) (t:Addr) (p:Key×V),ts[j]?=some t->kvs[j]?=some p->H' t=some (.tup [kV p.1,p.2])/\H1 t=none)->Q (.ref l) H'
theorem Bf {P:Program}{w:World}{k:Key}{u:Value}(h:(bL P w).is k u=true):ay (kV k) u:=by
 have h:eQ k u=true:=h
 rcases d6 h with⟨i,t,rfl,rfl⟩|⟨x,t,rfl,rfl⟩
 ·exact⟨t,rfl⟩
 ·exact⟨t,rfl⟩
theorem yQ {o:Expr}{p1 apos cpos pos1:Pos}{td:TE}(hc:X.calm=true) (hg:Gl X "list") (hm:X.mg "list"=none) (ho:PE X o td)
 (hbase:attributeBase o "items" X.env (eval o X.env)=eval o X.env:=by rfl) (hline:(apos.endLine == cpos.line)=true:=by rfl)
 (hs3:starEach [.Call (.Attribute o "items" apos) [] [] cpos] X.env=[(false,eval (.Call (.Attribute o "items" apos) [] [] cpos) X.env)]:=by rfl):
 PE X (.Call (.Name "list" p1) [.Call (.Attribute o "items" apos) [] [] cpos] [] pos1) (wu td):=by
 intro pins s σ H Q I h
 refine wpAny_Call_Name_kw (eP I hg hm PyProof.Rows.Boot.«list» ?_)
 refine PyProof.Rows.callWith_type1 ?_ (by rw[hs3];rfl) rfl
 rw[hs3]
 show wpAny _ _ (spliced ((false,eval (.Call (.Attribute o "items" apos) [] [] cpos) X.env)::backTo pos1 [])) _ _ s
 refine Calls.spliced_cons ?_
 refine wpAny_Call_method0_late hbase hline (thn (ho pins s σ H _ I h) fun v s1 ⟨x,H1,I1,r1,a,kvs,ex,eH,q⟩=>?_)
 subst ex
 obtain rfl:v=Value.ref a:=r1
 obtain⟨z,hd,vs,rel,dd⟩:=jx I1.hok eH
 obtain⟨t1,t2,_⟩:=tI I1 (.inl ⟨kvs,.inl eH⟩)
 refine⟨"dict","dict.items",PySem.F.plainAttrs_dict,PySem.F.slot_dict_items,PySem.F.type_dict_items,t1,t2,Calls.callWith_builtin rfl (PySem.evalArgs_none ?_)⟩
 refine call_meetsIn PySem.F.slot_dict_items dd.typeIs PySem.F.entry_dict_items (PySem.F.args_dict_items_1 _) (meets_dict_items (bL X.prog X.w) a hd) ⟨⟨vs,dd⟩,?_⟩
 refine Calls.spliced_nil ?_
 obtain⟨ep,da⟩:=dd.dictAt
 have kl:=rel.length
 refine PySem.W.kdx_call (s:={ s1 with heap:=s1.heap.push { cls:=.type "dict_items",data:=.fields #[.ref a] } }) (knd:=bL X.prog X.w) (kvs:=vs) (ep:=ep) (I1.ok.hd hc) ⟨_,qo _ rfl,rfl,rfl⟩ (da.push _) Qo fun h' tk acc c ts kp gl tl hG ets=>?_
 have keep:∀b o,s1.heap.get? b=some o->h'.get? b=some o:=fun b o e=>kp b o (q9 _ e)
 have J:Inv X pins σ H1 { s1 with heap:=h',toks:=tk }:=I1.kept keep
 have szp:(s1.heap.push ({ cls:=.type "dict_items",data:=.fields #[.ref a] }:Obj)).objs.size=s1.heap.objs.size+1:=Heap.size_push _ _
 have old:∀t∈ts,s1.heap.objs.size<=t:=fun t ht=>by
  have:=hG.above t ht
  have z:s1.heap.objs.size<=(s1.heap.push ({ cls:=.type "dict_items",data:=.fields #[.ref a] }:Obj)).objs.size:=by rw[szp];exact Nat.le_succ _
  exact qx z (Nat.le_of_lt this)
 obtain⟨H',I3,s3,o3,a3⟩:=o6 (s:={ s1 with heap:=h',toks:=tk }) I1 ts (kvs.map fun p=>(kV p.1,p.2)) H1 J (by rw[q5];omega) hG.rise (fun t ht=>⟨old t ht,I1.hok.fresh (old t ht)⟩) fun j t p h1 h2=>by
  obtain⟨key,k,x,e1,e2,e3⟩:=hG.pairs j t h1
  rw[qD]at h2
  obtain⟨p',hp',rfl⟩:=qP.mp h2
  obtain⟨q',hq',rq1,rq2⟩:=KV.get rel hp'
  rw[e1]at hq'
  cases hq'
  have rq1:p'.1=k:=rq1
  subst rq1
  exact⟨key,x,Bf e2,rq2,e3⟩
 have lL:s1.heap.objs.size<=(s1.heap.push ({ cls:=.type "dict_items",data:=.fields #[.ref a] }:Obj)).objs.size:=by rw[szp];omega
 generalize (s1.heap.push ({ cls:=.type "dict_items",data:=.fields #[.ref a] }:Obj)).objs.size=L at gl hG lL ⊢
 have nL:L∉ts:=fun hm=>Nat.lt_irrefl _ (hG.above _ hm)
 have fL:H1 L=none:=I1.hok.fresh lL
 have hL:H' L=none:=by rw[o3 _ nL];exact fL
 have vr:∀ts:List Addr,au (ts.map V.ref) (ts.map Value.ref):=fun ts=>by
  induction ts with
  |nil=>exact .nil
  |cons t ts ih=>exact .cons rfl ih
 have I4:Inv X pins σ (upd H' L (.lst (ts.map V.ref))) { s1 with heap:=h',toks:=tk }:=I3.track (I1.fpOk lL hL) (qx I1.sz lL) ⟨by rw[q5];omega,ts.map Value.ref,c,vr ts,by rw[<- ets];simpa using gl⟩
 refine⟨.ref L,_,I4,rfl,q _ L ts (s3.trans (aa.new hL _)) fL ae Qo fun j t p h1 h2=>⟨?_,I1.hok.fresh (old t (qy h1))⟩⟩
 exact aa.new hL _ _ _ (a3 j t (kV p.1,p.2) h1 (by rw[qD,h2];rfl))
end
section
variable {P:Program}{w:World}{K:PySem.W.Frag}{mg:Str->Option Value}{base:Heap}
end
end L2
namespace Tr
open PySem PySem.Spec PyProof.Rows L2
set_option linter.all false
structure OnW (x:Int):Prop where
 lo:0<=x
 hi:x<1000000000000000000000000000000
abbrev aS:=Str->Int
def CV (f:aS):Val->Int
 |.num n=>n
 |.nm x=>f x
def bi (f:aS) (x:Str) (v:Int):aS:=fun z=>if z=x then v else f z
def sgL:List Str:=["+","-","*","/","<","=","&","|","^"]
def eV (C:List Str):Val->Prop
 |.num n=>OnW n
 |.nm x=>x∈C
theorem eV.names {C:List Str}{a:Val}(h:eV C a):∀x∈a.names,x∈C:=by
 cases a with
 |num n=>intro x hx;simp[Val.names]at hx
 |nm y=>intro x hx;simp[Val.names]at hx;rw[hx];exact h
def tab (ks:List Str) (f:aS):List (Key×V):=ks.map fun z=>(.inr z,.int (f z))
def bE (ks:List Str) (x:Str):List Str:=if x∈ks then ks else ks++[x]
theorem Az {ks:List Str}{x k:Str}:k∈bE ks x↔k∈ks\/k=x:=by
 unfold bE
 split
 ·rename_i h
  exact⟨.inl,fun z=>z.elim id fun e=>e▸h⟩
 ·simp
theorem sH {ks:List Str}{x:Str}(h:ks.Nodup):(bE ks x).Nodup:=by
 unfold bE
 split
 ·exact h
 ·rename_i hx
  exact sG h hx
theorem w5 (ks:List Str) (f:aS):(tab ks f).map (·.1)=ks.map Sum.inr:=by
 unfold tab
 rw[List.map_map]
 rfl
theorem fh (ks:List Str) (f:aS):(tab ks f).length=ks.length:=q5 _
theorem gi {f:aS}{x:Str}:∀{ks:List Str},x∈ks->bv (tab ks f) (.inr x)=some (.int (f x))
 |[],h=>by simp at h
 |k::ks,h=>by
  unfold tab bv
  rw[qR,List.find?_cons]
  by_cases e:k=x
  ·subst e
   simp
  ·have h':x∈ks:=by
    rcases qt.mp h with z|z
    ·exact absurd z.symm e
    ·exact z
   have:=gi (f:=f) h'
   unfold tab bv at this
   simp only[Sum.inr.injEq,e,decide_false]
   exact this
theorem jN {f:aS}{x:Str}{ks:List Str}(h:x∉ks):bv (tab ks f) (.inr x)=none:=by
 cases e:bv (tab ks f) (.inr x)with
 |none=>rfl
 |some v=>
  have:=nY e
  rw[w5]at this
  obtain⟨z,hz,ez⟩:=List.mem_map.mp this
  cases ez
  exact absurd hz h
theorem vZ {f:aS}{x:Str}{v:Int}{ks:List Str}(h:x∉ks):tab ks (bi f x v)=tab ks f:=by
 unfold tab
 refine List.map_congr_left fun z hz=>?_
 show(_,V.int (if z=x then v else f z))=_
 rw[qZ (fun e:z=x=>h (e▸hz))]
theorem ip {f:aS}{x:Str}{v:Int}{ks:List Str}(hn:ks.Nodup):bd (tab ks f) (.inr x) (.int v)=tab (bE ks x) (bi f x v):=by
 unfold bE
 split
 ·rename_i h
  unfold bd
  rw[Q0 (by
   rw[List.any_eq_true]
   exact⟨(.inr x,.int (f x)),List.mem_map.mpr ⟨x,h,rfl⟩,by simp⟩)]
  unfold tab
  rw[List.map_map]
  refine List.map_congr_left fun z hz=>?_
  show(if _ then _ else _)=_
  unfold bi
  by_cases e:z=x
  ·subst e
   simp
  ·simp[e]
 ·rename_i h
  rw[lQ _ (jN h)]
  show _=tab (ks++[x]) (bi f x v)
  unfold tab
  rw[qO]
  have:=vZ (f:=f) (v:=v) h
  unfold tab at this
  rw[this]
  simp[bi]
theorem yw {ks:List Str}(hn:ks.Nodup):gH (ks.map fun z=>((.inr z:Key),V.int 0))=tab ks fun _=>0:=by
 have:∀(ks pre:List Str),(pre++ks).Nodup->(ks.map fun z=>((.inr z:Key),V.int 0)).foldl (fun kvs p=>bd kvs p.1 p.2) (tab pre fun _=>0)=tab (pre++ks) fun _=>0:=by
  intro ks
  induction ks with
  |nil=>intro pre _;simp
  |cons k r ih=>
   intro pre h
   have h':((pre++[k])++r).Nodup:=by simpa using h
   have nk:k∉pre:=fun hm=>by
    rw[List.nodup_append]at h
    exact h.2.2 k hm k (by simp) rfl
   rw[qR,List.foldl_cons]
   have e:bd (tab pre fun _=>0) (.inr k) (V.int 0)=tab (pre++[k]) fun _=>0:=by
    rw[lQ _ (jN nk)]
    simp[tab]
   rw[show bd (tab pre fun _=>0) ((.inr k:Key),V.int 0).1 ((.inr k:Key),V.int 0).2=tab (pre++[k]) fun _=>0 from e,ih _ h']
   simp
 exact this ks [] (by simpa using hn)
end Tr
namespace L2
open PySem PySem.Spec PyProof.Rows
section
variable {X:Cx}
end
section
variable {X:Cx}
end
end L2
namespace L2
open PySem PySem.Spec PyProof.Rows PySem.W
section
variable {X:Cx}{k:Nat}{f C0:Addr}{fd:FuncData}{ps:List Str}{sp:Sp}{dvs:List V}{ds:List Value}{fx cx y m n:Str}{iy im inn:Nat}{p pos apos py cp pm pn pa hpos:Pos}{e:Expr}{es:List Expr}{t:TA}
end
section
variable {X:Cx}
end
end L2
namespace Tr
open PySem PySem.Spec PyProof.Rows L2
set_option linter.all false
structure Bk where
 f:aS
 q:Str->List Int
 g:Str->Nat
 o:List Int
def B0:Bk:=⟨fun _=>0,fun _=>[],fun _=>0,[]⟩
end Tr
namespace L2
open PySem PySem.Spec PyProof.Rows PySem.W
section
variable {P:Program}{w:World}{K:PySem.W.Frag}{mg:Str->Option Value}{base:Heap}
end
theorem yR {X:Cx}{K:PySem.W.Frag}{e:Expr}{f:Str}{ta:TE}{pos:Pos}(hk:X.K=K) (he:PE X e ta) (hb:attributeBase e f X.env (eval e X.env)=eval e X.env):PE X (.Attribute e f pos) (ir K ta f):=by
 subst hk
 exact rQ he hb
end L2
namespace L2
open PySem PySem.F PySem.Spec PyProof.Rows PySem.W
set_option maxRecDepth 100000
section
variable {prog:Program}{w:World}{A:Around}{E:Qq}{s:Shared}
end
section
variable {X:Cx}
end
section
variable {X:Cx}
end
section
variable {X:Cx}
end
end L2
namespace L2
open PySem PySem.Spec PyProof.Rows PySem.W
section
variable {X:Cx}
end
section
variable {X:Cx}{pins:List (Addr×Obj)}{σ:St}{H:Hp}{s:Shared}
end
section
variable {X:Cx}{k:Nat}{f C:Addr}{fd:FuncData}{ps:List Str}{sp:Sp}{x:Str}{p pos cpos:Pos}{e:Expr}{es:List Expr}{t:TA}
end
section
variable {X:Cx}
end
section
variable {X:Cx}
theorem zh:OpR X (compareOp .NotIn) (fun x y H Q=>∃a kvs k,y=.ref a/\H a=some (.dK kvs)/\x=kV k/\Q (.bl (!(bv kvs k).isSome)) H):=by
 intro pins s σ H x y v u Q I rx ry h
 obtain⟨a,kvs,k,rfl,hd,rfl,q⟩:=h
 cases ry
 obtain⟨_,ne,vs,rel,dd⟩:=jx I.hok hd
 refine wpAny_notIn_of (eR rx) ne dd.mapOf ⟨.bl _,H,I.tok _,?_,q⟩
 rw[<- (rel.val k).isSome_eq]
 rfl
end
section
variable {X:Cx}{e:Expr}{te:TE}{pos:Pos}
end
section
variable {X:Cx}{K:PySem.W.Frag}{o e:Expr}{es:List Expr}{to:TE}{t:TA}{name:Str}{apos cpos:Pos}{T id:String}{r:V->List V->Hp->VK->Prop}
end
end L2
namespace L2
open PySem PySem.Spec PyProof.Rows
section
variable {X:Cx}
end
section
variable {prog:Program}{w:World}{A:Around}{E:Qq}{s:Shared}{κ:KeyKind}
def KOk (κ:KeyKind) (p:Keyed):Prop:=∃z,κ.keyOf p.1=some z
def ky (κ:KeyKind) (p:Keyed):κ.α:=KK κ #[p] 0
theorem jd {p:Keyed}{z:κ.α}(h:κ.keyOf p.1=some z):ky κ p=z:=by
 unfold ky KK
 show(κ.keyOf p.1).getD _=z
 rw[h]
 rfl
theorem ie (hO:κ.OneLt) {x y:Keyed}{st:SortSt}{Q:Option Bool->SortSt->Prop}(hk:kindOf st=oneType') (hx:KOk κ x) (hy:KOk κ y) (h:Q (some (κ.blt (ky κ x) (ky κ y))) st):wpS (model prog w) A E s (lt' x y) Q st:=by
 obtain⟨p,hp⟩:=hx
 obtain⟨q,hq⟩:=hy
 rw[jd hp,jd hq]at h
 rw[lt'_eq]
 refine wpS_bind (wpS_get ?_)
 rw[hk,keyLt'_oneType]
 exact wpS_bind (wpS_lift (wpAny_attempt (hO prog w A _ s x.1 y.1 p q hp hq ⟨rfl,wpS_pure h⟩)))
theorem bG {arr:Array Keyed}{i:Nat}{p:Keyed}{st:SortSt}{Q:Keyed->SortSt->Prop}(e:arr[i]?=some p) (h:Q p st):wpS (model prog w) A E s (elem' arr i) Q st:=by
 rw[elem'_eq,e]
 exact wpS_pure h
def cB:Bool->Keyed->Array Keyed->Nat->Nat->Nat->StateT SortSt Sem (Option Nat):=sortPriv% PySem.Builtin.gallop
def byd (left:Bool) (key:Keyed) (arr:Array Keyed) (base i:Nat):StateT SortSt Sem (Option Bool):=do
 let x <- elem' arr (base+i)
 if left then lt' x key else return (<- lt' key x).map (!·)
theorem BD (left:Bool) (key:Keyed) (arr:Array Keyed) (base n hint:Nat):cB left key arr base n hint=(do
 let mut la:=0
 let mut ofs:=1
 let mut lo:=0
 let mut hi:=0
 let some rt <- byd left key arr base hint|return none
 if rt then
  let mx:=n-hint
  for _ in[0:n] do
   if ofs >= mx then break
   let some mo <- byd left key arr base (hint+ofs)|return none
   if !mo then break
   la:=ofs
   ofs:=2 * ofs+1
  lo:=hint+la+1
  hi:=hint+min ofs mx
 else
  let mx:=hint+1
  for _ in[0:n] do
   if ofs >= mx then break
   let some fo <- byd left key arr base (hint-ofs)|return none
   if fo then break
   la:=ofs
   ofs:=2 * ofs+1
  lo:=hint+1-min ofs mx
  hi:=hint-la
 for _ in[0:n] do
  if lo >= hi then break
  let m:=lo+(hi-lo) / 2
  let some mo <- byd left key arr base m|return none
  if mo then lo:=m+1 else hi:=m
 return some hi):=rfl
def jq (left:Bool) (key:Keyed) (arr:Array Keyed) (base n lo hi:Nat):StateT SortSt Sem (Option Nat):=do
 let mut lo:=lo
 let mut hi:=hi
 for _ in[0:n] do
  if lo >= hi then break
  let m:=lo+(hi-lo) / 2
  let some mo <- byd left key arr base m|return none
  if mo then lo:=m+1 else hi:=m
 return some hi
section
variable {left:Bool}{key:Keyed}{arr:Array Keyed}{base n hint:Nat}{st:SortSt}{Q:Option Nat->SortSt->Prop}
theorem nR {lo hi:Nat}(pr:Nat->Bool)
 (hp:∀i,i<n->∀Q:Option Bool->SortSt->Prop,Q (some (pr i)) st->wpS (model prog w) A E s (byd left key arr base i) Q st)
 (mono:∀i j,i<=j->j<n->pr j=true->pr i=true)
 (h:∀k,k<=n->(∀i,i<k->pr i=true)->(∀i,k<=i->i<n->pr i=false)->Q (some k) st) (h1:lo<=hi) (h2:hi<=n) (h3:∀i,i<lo->pr i=true) (h4:∀i,hi<=i->i<n->pr i=false):wpS (model prog w) A E s (jq left key arr base n lo hi) Q st:=by
 unfold jq
 refine wpS_bind (wpS_mono (wpS_forRange (I:=fun x c st'=>st'=st/\∃lo hi,c=(none,lo,hi)/\lo<=hi/\hi<=n/\hi-lo<=n-x/\(∀i,i<lo->pr i=true)/\∀i,hi<=i->i<n->pr i=false) (Q:=fun c st'=>st'=st/\∃k,c=(none,k,k)/\k<=n/\(∀i,i<k->pr i=true)/\∀i,k<=i->i<n->pr i=false) ?_ ?_ ⟨rfl,lo,hi,rfl,h1,h2,Qo,h3,h4⟩) ?_)
 ·rintro x c st' _ hx ⟨rfl,lo,hi,rfl,a1,a2,a3,a4,a5⟩
  dsimp only
  by_cases c1:lo >= hi
  ·rw[Q0 c1]
   obtain rfl:lo=hi:=Qo
   exact wpS_pure ⟨rfl,lo,rfl,a2,a4,a5⟩
  ·rw[qZ c1]
   refine wpS_bind (hp _ Qo _ ?_)
   dsimp only
   cases e:pr (lo+(hi-lo) / 2)with
   |true=>
    rw[Q0 rfl]
    exact wpS_pure ⟨rfl,_,_,rfl,Qo,a2,Qo,fun i hi'=>mono i _ Qo Qo e,a5⟩
   |false=>
    rw[qZ Qk]
    refine wpS_pure ⟨rfl,_,_,rfl,Qo,Qo,Qo,a4,fun i b1 b2=>?_⟩
    cases e2:pr i with
    |false=>rfl
    |true=>rw[mono _ i b1 b2 e2]at e;cases e
 ·rintro c st' ⟨rfl,lo,hi,rfl,a1,a2,a3,a4,a5⟩
  obtain rfl:lo=hi:=Qo
  exact⟨rfl,lo,rfl,a2,a4,a5⟩
 ·rintro c st' ⟨rfl,k,rfl,a1,a2,a3⟩
  exact wpS_pure (h k a1 a2 a3)
theorem vJ (pr:Nat->Bool)
 (hp:∀i,i<n->∀Q:Option Bool->SortSt->Prop,Q (some (pr i)) st->wpS (model prog w) A E s (byd left key arr base i) Q st)
 (mono:∀i j,i<=j->j<n->pr j=true->pr i=true) (hh:hint<n)
 (h:∀k,k<=n->(∀i,i<k->pr i=true)->(∀i,k<=i->i<n->pr i=false)->Q (some k) st):wpS (model prog w) A E s (cB left key arr base n hint) Q st:=by
 have mono2:∀i j,i<=j->j<n->pr i=false->pr j=false:=fun i j ij jn hi=>by
  cases e:pr j with
  |false=>rfl
  |true=>rw[mono i j ij jn e]at hi;cases hi
 rw[BD]
 refine wpS_bind (hp hint hh _ ?_)
 dsimp only
 cases e:pr hint with
 |true=>
  simp only[if_true]
  refine wpS_bind (wpS_mono (wpS_forRange (I:=fun x c st'=>st'=st/\∃la ofs,c=(none,la,ofs)/\la<ofs/\x<ofs/\hint+la<n/\pr (hint+la)=true) (Q:=fun c st'=>st'=st/\∃la ofs,c=(none,la,ofs)/\la<ofs/\hint+la<n/\pr (hint+la)=true/\(ofs >= n-hint\/pr (hint+ofs)=false)) ?_ ?_ ⟨rfl,0,1,rfl,Qo,Qo,Qo,e⟩) ?_)
  ·rintro x c st' _ hx ⟨rfl,la,ofs,rfl,a1,a2,a3,a4⟩
   dsimp only
   by_cases c1:ofs >= n-hint
   ·rw[Q0 c1]
    exact wpS_pure ⟨rfl,la,ofs,rfl,a1,a3,a4,.inl c1⟩
   ·rw[qZ c1]
    refine wpS_bind (hp _ Qo _ ?_)
    dsimp only
    cases e2:pr (hint+ofs)with
    |true=>
     rw[qZ Qk]
     exact wpS_pure ⟨rfl,ofs,_,rfl,Qo,Qo,Qo,e2⟩
    |false=>
     rw[Q0 Qk]
     exact wpS_pure ⟨rfl,la,ofs,rfl,a1,a3,a4,.inr e2⟩
  ·rintro c st' ⟨rfl,la,ofs,rfl,a1,a2,a3,a4⟩
   exact⟨rfl,la,ofs,rfl,a1,a3,a4,.inl Qo⟩
  ·rintro c st' ⟨rfl,la,ofs,rfl,a1,a3,a4,a5⟩
   show wpS (model prog w) A E s (jq left key arr base n (hint+la+1) (hint+min ofs (n-hint))) Q _
   refine nR pr hp mono h Qo Qo (fun i hi=>mono i _ Qo a3 a4) fun i b1 b2=>?_
   rcases a5 with a5|a5
   ·omega
   ·rcases Nat.lt_or_ge ofs (n-hint)with c2|c2
    ·exact mono2 _ i Qo b2 a5
    ·omega
 |false=>
  simp only[Bool.false_eq_true,if_false]
  refine wpS_bind (wpS_mono (wpS_forRange (I:=fun x c st'=>st'=st/\∃la ofs,c=(none,la,ofs)/\la<ofs/\x<ofs/\la<=hint/\pr (hint-la)=false) (Q:=fun c st'=>st'=st/\∃la ofs,c=(none,la,ofs)/\la<ofs/\la<=hint/\pr (hint-la)=false/\(ofs >= hint+1\/pr (hint-ofs)=true)) ?_ ?_ ⟨rfl,0,1,rfl,Qo,Qo,Qo,e⟩) ?_)
  ·rintro x c st' _ hx ⟨rfl,la,ofs,rfl,a1,a2,a3,a4⟩
   dsimp only
   by_cases c1:ofs >= hint+1
   ·rw[Q0 c1]
    exact wpS_pure ⟨rfl,la,ofs,rfl,a1,a3,a4,.inl c1⟩
   ·rw[qZ c1]
    refine wpS_bind (hp _ Qo _ ?_)
    dsimp only
    cases e2:pr (hint-ofs)with
    |true=>
     rw[Q0 rfl]
     exact wpS_pure ⟨rfl,la,ofs,rfl,a1,a3,a4,.inr e2⟩
    |false=>
     rw[qZ Qk]
     exact wpS_pure ⟨rfl,ofs,_,rfl,Qo,Qo,Qo,e2⟩
  ·rintro c st' ⟨rfl,la,ofs,rfl,a1,a2,a3,a4⟩
   exact⟨rfl,la,ofs,rfl,a1,a3,a4,.inl Qo⟩
  ·rintro c st' ⟨rfl,la,ofs,rfl,a1,a3,a4,a5⟩
   show wpS (model prog w) A E s (jq left key arr base n (hint+1-min ofs (hint+1)) (hint-la)) Q _
   refine nR pr hp mono h Qo Qo (fun i hi=>?_) fun i b1 b2=>mono2 _ i Qo b2 a4
   rcases a5 with a5|a5
   ·omega
   ·rcases Nat.lt_or_ge ofs (hint+1)with c2|c2
    ·exact mono i _ Qo Qo a5
    ·omega
end
theorem vL (hO:κ.OneLt) {left:Bool}{key:Keyed}{arr:Array Keyed}{base i:Nat}{p:Keyed}{st:SortSt}{Q:Option Bool->SortSt->Prop}(hk:kindOf st=oneType') (hx:KOk κ key) (e:arr[base+i]?=some p) (hy:KOk κ p) (h:Q (some (if left=true then κ.blt (ky κ p) (ky κ key)else !κ.blt (ky κ key) (ky κ p))) st):wpS (model prog w) A E s (byd left key arr base i) Q st:=by
 unfold byd
 refine wpS_bind (bG e ?_)
 cases left with
 |true=>exact ie hO hk hy hx h
 |false=>exact wpS_bind (ie hO hk hx hy (wpS_pure h))
end
section
variable {prog:Program}{w:World}{A:Around}{E:Qq}{s:Shared}{κ:KeyKind}
structure MS (r:Keyed->Keyed->Prop) (T o X Y:List Keyed):Prop where
 pm:(o++X++Y).Perm T
 sx:(o++X).Pairwise r
 sy:(o++Y).Pairwise r
section
variable {r:Keyed->Keyed->Prop}{T o X Y Z:List Keyed}
theorem MS.left (h:MS r T o (Z++X) Y) (k:∀x∈Z,∀y∈Y,r x y):MS r T (o++Z) X Y:=by
 refine⟨?_,?_,?_⟩
 ·have:=h.pm
  simpa[qM]using this
 ·rw[qM]
  exact h.sx
 ·have s1:=h.sx
  have s2:=h.sy
  rw[<- qM]at s1
  rw[List.pairwise_append]at s1 s2 ⊢
  refine⟨s1.1,s2.2.1,fun x hx y hy=>?_⟩
  rcases qg.mp hx with q|q
  ·exact s2.2.2 x q y hy
  ·exact k x q y hy
theorem MS.right (h:MS r T o X (Z++Y)) (k:∀y∈Z,∀x∈X,r y x):MS r T (o++Z) X Y:=by
 refine⟨?_,?_,?_⟩
 ·refine List.Perm.trans ?_ h.pm
  rw[qM,qM,qM]
  refine List.Perm.append_left _ ?_
  rw[<- qM,<- qM]
  exact List.perm_append_comm.append_right _
 ·have s1:=h.sx
  have s2:=h.sy
  rw[<- qM]at s2
  rw[List.pairwise_append]at s1 s2 ⊢
  refine⟨s2.1,s1.2.1,fun x hx y hy=>?_⟩
  rcases qg.mp hx with q|q
  ·exact s1.2.2 x q y hy
  ·exact k x q y hy
 ·rw[qM]
  exact h.sy
def Mgd (r:Keyed->Keyed->Prop) (T out:List Keyed):Prop:=out.Perm T/\out.Pairwise r
theorem MS.endY (h:MS r T o X []):Mgd r T (o++X):=⟨by have:=h.pm;rwa [qw]at this,h.sx⟩
theorem MS.endX (h:MS r T o [] Y):Mgd r T (o++Y):=⟨by have:=h.pm;rwa [qw]at this,h.sy⟩
theorem MS.lastX {z:Keyed}(h:MS r T o [z] Y) (k:∀y∈Y,r y z):Mgd r T (o++Y++[z]):=by
 refine⟨?_,?_⟩
 ·refine List.Perm.trans ?_ h.pm
  rw[qM,qM]
  exact List.Perm.append_left _ List.perm_append_comm
 ·have s1:=h.sx
  have s2:=h.sy
  rw[List.pairwise_append]at s1 s2 ⊢
  refine⟨List.pairwise_append.mpr s2,List.pairwise_singleton _ _,fun x hx y hy=>?_⟩
  rcases qg.mp hx with q|q
  ·exact s1.2.2 x q y hy
  ·obtain rfl:=qS.mp hy
   exact k x q
end
def kLe (κ:KeyKind) (p q:Keyed):Prop:=κ.kle (ky κ p) (ky κ q)
def kLt (κ:KeyKind) (p q:Keyed):Prop:=κ.klt (ky κ p) (ky κ q)
theorem kLt.le {p q:Keyed}(h:kLt κ p q):kLe κ p q:=KeyOrd.kle_of_klt h
def mi:Array Keyed->Array Keyed->StateT SortSt Sem (Array Keyed):=sortPriv% PySem.Builtin.mergeLo
def cY (g:Nat):StateT SortSt Sem Unit:=modify fun s=>SortSt.mk' (kindOf s) (arrOf s) (pendingOf s) g (failedOf s)
def dg (a b out:Array Keyed) (ia ib:Nat):Array Keyed:=out++a.extract ia a.size++b.extract ib b.size
def fJ (a b out:Array Keyed) (ia ib:Nat):Array Keyed:=out++b.extract ib b.size++a.extract ia a.size
abbrev L6:Type:=Option (Array Keyed)×Array Keyed×Nat×Nat×Nat×Nat
abbrev L7:Type:=Option (Array Keyed)×Array Keyed×Nat×Nat×Nat×Nat×Nat
def lo1 (a b:Array Keyed) (mg:Nat) (c:L6):StateT SortSt Sem (ForInStep L6):=do
 let y <- elem' b c.2.2.2.1
 let x <- elem' a c.2.2.1
 let t <- lt' y x
 match t with
 |some bw=>
  if bw=true then do
   let y <- elem' b c.2.2.2.1
   if(c.2.2.2.1+1 == b.size)=true then pure (.done (some (dg a b (c.2.1.push y) c.2.2.1 (c.2.2.2.1+1)),c.2.1.push y,c.2.2.1,c.2.2.2.1+1,0,c.2.2.2.2.2+1))
   else if c.2.2.2.2.2+1 >= mg then pure (.done (none,c.2.1.push y,c.2.2.1,c.2.2.2.1+1,0,c.2.2.2.2.2+1))
   else pure (.yield (none,c.2.1.push y,c.2.2.1,c.2.2.2.1+1,0,c.2.2.2.2.2+1))
  else do
   let x <- elem' a c.2.2.1
   if(c.2.2.1+1+1 == a.size)=true then pure (.done (some (fJ a b (c.2.1.push x) (c.2.2.1+1) c.2.2.2.1),c.2.1.push x,c.2.2.1+1,c.2.2.2.1,c.2.2.2.2.1+1,0))
   else if c.2.2.2.2.1+1 >= mg then pure (.done (none,c.2.1.push x,c.2.2.1+1,c.2.2.2.1,c.2.2.2.2.1+1,0))
   else pure (.yield (none,c.2.1.push x,c.2.2.1+1,c.2.2.2.1,c.2.2.2.2.1+1,0))
 |_=>pure (.done (some (dg a b c.2.1 c.2.2.1 c.2.2.2.1),c.2.1,c.2.2.1,c.2.2.2.1,c.2.2.2.2.1,c.2.2.2.2.2))
def j8 (a b out:Array Keyed) (ia ib mg ac bc:Nat):StateT SortSt Sem (ForInStep L7):=do
 let x <- elem' a ia
 if(ia+1+1 == a.size)=true then pure (.done (some (fJ a b (out.push x) (ia+1) ib),out.push x,ia+1,ib,mg,ac,bc))
 else if(decide (ac<7) && decide (bc<7))=true then pure (.done (none,out.push x,ia+1,ib,mg,ac,bc))
 else pure (.yield (none,out.push x,ia+1,ib,mg,ac,bc))
def j9 (a b out:Array Keyed) (ia ib mg ac bc:Nat):StateT SortSt Sem (ForInStep L7):=do
 let y <- elem' b ib
 if(ib+1 == b.size)=true then pure (.done (some (dg a b (out.push y) ia (ib+1)),out.push y,ia,ib+1,mg,ac,bc))
 else do
  let x <- elem' a ia
  let t <- cB true x b (ib+1) (b.size-(ib+1)) 0
  match t with
  |some k=>
   if k > 0 then
    if(ib+1+k == b.size)=true then pure (.done (some (dg a b (out.push y++b.extract (ib+1) (ib+1+k)) ia (ib+1+k)),out.push y++b.extract (ib+1) (ib+1+k),ia,ib+1+k,mg,ac,k))
    else j8 a b (out.push y++b.extract (ib+1) (ib+1+k)) ia (ib+1+k) mg ac k
   else j8 a b (out.push y) ia (ib+1) mg ac k
  |_=>pure (.done (some (dg a b (out.push y) ia (ib+1)),out.push y,ia,ib+1,mg,ac,bc))
def lo3 (a b out:Array Keyed) (ia ib mg ac bc:Nat):StateT SortSt Sem (ForInStep L7):=do
 cY mg
 let y <- elem' b ib
 let t <- cB false y a ia (a.size-ia) 0
 match t with
 |some k=>
  if k > 0 then
   if(ia+k+1 == a.size)=true then pure (.done (some (fJ a b (out++a.extract ia (ia+k)) (ia+k) ib),out++a.extract ia (ia+k),ia+k,ib,mg,k,bc))
   else if(ia+k == a.size)=true then pure (.done (some (dg a b (out++a.extract ia (ia+k)) (ia+k) ib),out++a.extract ia (ia+k),ia+k,ib,mg,k,bc))
   else j9 a b (out++a.extract ia (ia+k)) (ia+k) ib mg k bc
  else j9 a b out ia ib mg k bc
 |_=>pure (.done (some (dg a b out ia ib),out,ia,ib,mg,ac,bc))
theorem Aw (a b:Array Keyed):mi a b=(do
 rule "list.sort.merge-lo"
 let tot:=a.size+b.size
 let fin (out:Array Keyed) (ia ib:Nat):=out++a.extract ia a.size++b.extract ib b.size
 let lst (out:Array Keyed) (ia ib:Nat):=out++b.extract ib b.size++a.extract ia a.size
 let mut out:Array Keyed:=#[<- elem' b 0]
 let mut ia:=0
 let mut ib:=1
 if ib == b.size then return fin out ia ib
 if ia+1 == a.size then return lst out ia ib
 let mut mg:=gallopOf (<- get)
 for _ in[0:tot] do
  let mut ac:=0
  let mut bc:=0
  for _ in[0:tot] do
   let some bw <- lt' (<- elem' b ib) (<- elem' a ia)|return fin out ia ib
   if bw then
    out:=out.push (<- elem' b ib);ib:=ib+1;bc:=bc+1;ac:=0
    if ib == b.size then return fin out ia ib
    if bc >= mg then break
   else
    out:=out.push (<- elem' a ia);ia:=ia+1;ac:=ac+1;bc:=0
    if ia+1 == a.size then return lst out ia ib
    if ac >= mg then break
  rule "list.sort.gallop"
  mg:=mg+1
  for _ in[0:tot] do
   if mg > 1 then mg:=mg-1
   cY mg
   let some k <- cB false (<- elem' b ib) a ia (a.size-ia) 0|return fin out ia ib
   ac:=k
   if k > 0 then
    out:=out++a.extract ia (ia+k);ia:=ia+k
    if ia+1 == a.size then return lst out ia ib
    if ia == a.size then return fin out ia ib
   out:=out.push (<- elem' b ib);ib:=ib+1
   if ib == b.size then return fin out ia ib
   let some k <- cB true (<- elem' a ia) b ib (b.size-ib) 0|return fin out ia ib
   bc:=k
   if k > 0 then
    out:=out++b.extract ib (ib+k);ib:=ib+k
    if ib == b.size then return fin out ia ib
   out:=out.push (<- elem' a ia);ia:=ia+1
   if ia+1 == a.size then return lst out ia ib
   if ac<7 && bc<7 then break
  mg:=mg+1
  cY mg
 unsupported "internal:list.sort.merge-bound"):=rfl
def pb (κ:KeyKind) (left:Bool) (key p:Keyed):Bool:=if left=true then κ.blt (ky κ p) (ky κ key)else !κ.blt (ky κ key) (ky κ p)
theorem yV {left:Bool}{key p q:Keyed}(h:kLe κ p q) (e:pb κ left key q=true):pb κ left key p=true:=by
 unfold pb at *
 cases left with
 |true=>exact KeyOrd.klt_of_kle_of_klt h e
 |false=>
  have e:(!κ.blt (ky κ key) (ky κ q))=true:=e
  show(!κ.blt (ky κ key) (ky κ p))=true
  have e:κ.blt (ky κ key) (ky κ q)=false:=by simpa using e
  have:κ.kle (ky κ p) (ky κ key):=KeyOrd.kle_trans h e
  rw[show κ.blt (ky κ key) (ky κ p)=false from this]
  rfl
theorem fg (hO:κ.OneLt) {left:Bool}{key:Keyed}{arr:Array Keyed}{base n hint:Nat}{st:SortSt}{Q:Option Nat->SortSt->Prop}(hk:kindOf st=oneType') (kk:KOk κ key) (ok:∀p∈arr.toList,KOk κ p) (hb:base+n<=arr.size) (hh:hint<n) (so:((arr.toList.drop base).take n).Pairwise (kLe κ))
 (h:∀k,k<=n->(∀p∈((arr.toList.drop base).take n).take k,pb κ left key p=true)->(∀p∈((arr.toList.drop base).take n).drop k,pb κ left key p=false)->Q (some k) st):wpS (model prog w) A E s (cB left key arr base n hint) Q st:=by
 have ln:((arr.toList.drop base).take n).length=n:=by rw[qJ,qY,qL];omega
 have atL:∀i,i<n->arr[base+i]?=((arr.toList.drop base).take n)[i]?:=fun i hi=>by
  rw[List.getElem?_take_of_lt hi,List.getElem?_drop,qT]
 have mem:∀p∈(arr.toList.drop base).take n,p∈arr.toList:=fun p hp=>List.mem_of_mem_drop (List.mem_of_mem_take hp)
 generalize (arr.toList.drop base).take n=L at ln atL so h mem
 have get:∀i,i<n->∃p,L[i]?=some p/\p∈L:=fun i hi=>⟨L[i]' Qo,qb Qo,List.getElem_mem _⟩
 refine vJ (fun i=>match L[i]? with|some p=>pb κ left key p|none=>false) (fun i hi Q' hq=>?_) (fun i j ij jn e=>?_) hh (fun k kn h1 h2=>h k kn (fun p hp=>?_) (fun p hp=>?_))
 ·obtain⟨p,e,hp⟩:=get i hi
  rw[e]at hq
  exact vL hO hk kk (by rw[atL i hi];exact e) (ok p (mem p hp)) hq
 ·obtain⟨p,e1,_⟩:=get i Qo
  obtain⟨q,e2,_⟩:=get j jn
  rw[e2]at e
  rw[e1]
  rcases Nat.lt_or_eq_of_le ij with c|rfl
  ·refine yV ?_ e
   rw[List.pairwise_iff_getElem]at so
   have:=so i j Qo Qo c
   obtain⟨_,g1⟩:=qe.mp e1
   obtain⟨_,g2⟩:=qe.mp e2
   rwa [g1,g2]at this
  ·rw[e1]at e2
   cases e2
   exact e
 ·obtain⟨i,hi⟩:=List.getElem?_of_mem hp
  have il:=(qe.mp hi).1
  rw[qJ]at il
  rw[List.getElem?_take_of_lt Qo]at hi
  have:=h1 i Qo
  rwa [hi]at this
 ·obtain⟨i,hi⟩:=List.getElem?_of_mem hp
  have il:=(qe.mp hi).1
  rw[qY]at il
  rw[List.getElem?_drop]at hi
  have:=h2 (k+i) Qo Qo
  rwa [hi]at this
theorem drp {a:Array Keyed}{i:Nat}(h:i<a.size):∃x,a[i]?=some x/\a.toList.drop i=x::a.toList.drop (i+1)/\x∈a.toList:=by
 have hl:i<a.toList.length:=by rw[qL];exact h
 exact⟨a.toList[i],by rw[<- qT];exact qb hl,List.drop_eq_getElem_cons hl,List.getElem_mem _⟩
theorem ju (a:Array Keyed) (i:Nat):(a.extract i a.size).toList=a.toList.drop i:=by
 rw[Array.toList_extract,List.extract_eq_take_drop,List.take_of_length_le (by rw[qY,qL];omega)]
theorem ug (a:Array Keyed) (i k:Nat):(a.extract i (i+k)).toList=(a.toList.drop i).take k:=by
 rw[Array.toList_extract,List.extract_eq_take_drop,Nat.add_sub_cancel_left]
theorem BY (a b out:Array Keyed) (ia ib:Nat):(dg a b out ia ib).toList=out.toList++a.toList.drop ia++b.toList.drop ib:=by
 unfold dg
 rw[Array.toList_append,Array.toList_append,ju,ju]
theorem AG (a b out:Array Keyed) (ia ib:Nat):(fJ a b out ia ib).toList=out.toList++b.toList.drop ib++a.toList.drop ia:=by
 unfold fJ
 rw[Array.toList_append,Array.toList_append,ju,ju]
structure gg (κ:KeyKind) (a b:Array Keyed):Prop where
 ka:∀p∈a.toList,KOk κ p
 kb:∀p∈b.toList,KOk κ p
 za:0<a.size
 zb:0<b.size
 la:∀y∈b.toList,∀z,a[a.size-1]?=some z->kLt κ y z
structure LoI (κ:KeyKind) (a b:Array Keyed) (n:Nat) (out:Array Keyed) (ia ib:Nat):Prop where
 ms:MS (kLe κ) (a.toList++b.toList) out.toList (a.toList.drop ia) (b.toList.drop ib)
 ha:ia+1<a.size
 hb:ib<b.size
 hn:n<=out.size
def aY (st st':SortSt):Prop:=kindOf st'=kindOf st/\arrOf st'=arrOf st/\pendingOf st'=pendingOf st/\failedOf st'=failedOf st
theorem aY.refl (st:SortSt):aY st st:=⟨rfl,rfl,rfl,rfl⟩
theorem aY.trans {x y z:SortSt}(h:aY x y) (k:aY y z):aY x z:=⟨k.1.trans h.1,k.2.1.trans h.2.1,k.2.2.1.trans h.2.2.1,k.2.2.2.trans h.2.2.2⟩
def bu (κ:KeyKind) (a b r:Array Keyed):Prop:=Mgd (kLe κ) (a.toList++b.toList) r.toList
section
variable {a b out:Array Keyed}{ia ib n:Nat}
theorem mt {o X Y T:List Keyed}(h:MS (kLe κ) T o X Y):X.Pairwise (kLe κ)/\Y.Pairwise (kLe κ):=⟨(List.pairwise_append.mp h.sx).2.1,(List.pairwise_append.mp h.sy).2.1⟩
theorem gQ (h:MS (kLe κ) (a.toList++b.toList) out.toList (a.toList.drop ia) (b.toList.drop ib)) (e:ia=a.size\/ib=b.size):bu κ a b (dg a b out ia ib):=by
 unfold bu
 rw[BY]
 rcases e with rfl|rfl
 ·have e0:a.toList.drop a.size=[]:=List.drop_of_length_le (by rw[qL];exact qd _)
  rw[e0]at h ⊢
  rw[qw]
  exact h.endX
 ·have e0:b.toList.drop b.size=[]:=List.drop_of_length_le (by rw[qL];exact qd _)
  rw[e0]at h ⊢
  rw[qw]
  exact h.endY
theorem j7 (pre:gg κ a b) (h:MS (kLe κ) (a.toList++b.toList) out.toList (a.toList.drop ia) (b.toList.drop ib)) (e:ia+1=a.size):bu κ a b (fJ a b out ia ib):=by
 unfold bu
 rw[AG]
 obtain⟨z,ez,dz,_⟩:=drp (a:=a) (i:=ia) Qo
 have e0:a.toList.drop (ia+1)=[]:=List.drop_of_length_le (by rw[qL];omega)
 rw[e0]at dz
 rw[dz]at h ⊢
 refine h.lastX fun y hy=>(pre.la y (List.mem_of_mem_drop hy) z ?_).le
 rw[show a.size-1=ia by omega]
 exact ez
theorem mq (h:MS (kLe κ) (a.toList++b.toList) out.toList (a.toList.drop ia) (b.toList.drop ib)) {y:Keyed}(dy:b.toList.drop ib=y::b.toList.drop (ib+1)) (le:∀x∈a.toList.drop ia,kLe κ y x):MS (kLe κ) (a.toList++b.toList) (out.push y).toList (a.toList.drop ia) (b.toList.drop (ib+1)):=by
 rw[dy]at h
 rw[Array.toList_push]
 exact MS.right (Z:=[y]) h fun y' hy' x hx=>by obtain rfl:=qS.mp hy';exact le x hx
theorem sS (h:MS (kLe κ) (a.toList++b.toList) out.toList (a.toList.drop ia) (b.toList.drop ib)) {x:Keyed}(dx:a.toList.drop ia=x::a.toList.drop (ia+1)) (le:∀y∈b.toList.drop ib,kLe κ x y):MS (kLe κ) (a.toList++b.toList) (out.push x).toList (a.toList.drop (ia+1)) (b.toList.drop ib):=by
 rw[dx]at h
 rw[Array.toList_push]
 exact MS.left (Z:=[x]) h fun x' hx' y hy=>by obtain rfl:=qS.mp hx';exact le y hy
theorem gX {x:Keyed}{X:List Keyed}(h:(x::X).Pairwise (kLe κ)):∀z∈x::X,kLe κ x z:=fun z hz=>by
 rcases qt.mp hz with rfl|hz
 ·exact KeyOrd.kle_refl _
 ·exact(List.pairwise_cons.mp h).1 z hz
theorem vH (hO:κ.OneLt) {st:SortSt}(hk:kindOf st=oneType') (pre:gg κ a b) {mg ac bc:Nat}(h:LoI κ a b n out ia ib) {R:ForInStep L6->SortSt->Prop}
 (q1:∀r c,bu κ a b r->R (.done (some r,c)) st) (q2:∀out ia ib ac bc,LoI κ a b (n+1) out ia ib->R (.done (none,out,ia,ib,ac,bc)) st) (q3:∀out ia ib ac bc,LoI κ a b (n+1) out ia ib->R (.yield (none,out,ia,ib,ac,bc)) st):
 wpS (model prog w) A E s (lo1 a b mg (none,out,ia,ib,ac,bc)) R st:=by
 obtain⟨y,ey,dy,my⟩:=drp h.hb
 obtain⟨x,ex,dx,mx⟩:=drp (a:=a) (i:=ia) (by have:=h.ha;omega)
 obtain⟨sx,sy⟩:=mt h.ms
 unfold lo1
 refine wpS_bind (bG ey (wpS_bind (bG ex (wpS_bind (ie hO hk (pre.kb y my) (pre.ka x mx) ?_)))))
 dsimp only
 have hs:=h.hn
 cases e:κ.blt (ky κ y) (ky κ x)with
 |true=>
  rw[Q0 rfl]
  refine wpS_bind (bG ey ?_)
  have m2:=mq h.ms dy fun z hz=>by
   rw[dx]at hz sx
   exact KeyOrd.kle_trans (KeyOrd.kle_of_klt e) (gX sx z hz)
  have hs2:n+1<=(out.push y).size:=by rw[Array.size_push];omega
  by_cases c1:ib+1=b.size
  ·rw[Q0 (by simpa using c1)]
   exact wpS_pure (q1 _ _ (gQ m2 (.inr c1)))
  ·rw[qZ (by simpa using c1)]
   have I2:LoI κ a b (n+1) (out.push y) ia (ib+1):=⟨m2,h.ha,by have:=h.hb;omega,hs2⟩
   by_cases c2:bc+1 >= mg
   ·rw[Q0 c2]
    exact wpS_pure (q2 _ _ _ _ _ I2)
   ·rw[qZ c2]
    exact wpS_pure (q3 _ _ _ _ _ I2)
 |false=>
  rw[qZ Qk]
  refine wpS_bind (bG ex ?_)
  have m2:=sS h.ms dx fun z hz=>by
   rw[dy]at hz sy
   exact KeyOrd.kle_trans (show κ.kle (ky κ x) (ky κ y)from e) (gX sy z hz)
  have hs2:n+1<=(out.push x).size:=by rw[Array.size_push];omega
  by_cases c1:ia+1+1=a.size
  ·rw[Q0 (by simpa using c1)]
   exact wpS_pure (q1 _ _ (j7 pre m2 c1))
  ·rw[qZ (by simpa using c1)]
   have I2:LoI κ a b (n+1) (out.push x) (ia+1) ib:=⟨m2,by have:=h.ha;omega,h.hb,hs2⟩
   by_cases c2:ac+1 >= mg
   ·rw[Q0 c2]
    exact wpS_pure (q2 _ _ _ _ _ I2)
   ·rw[qZ c2]
    exact wpS_pure (q3 _ _ _ _ _ I2)
end
end
section
variable {prog:Program}{w:World}{A:Around}{E:Qq}{s:Shared}{κ:KeyKind}
section
variable {a b out:Array Keyed}{ia ib n:Nat}
theorem nJ {st:SortSt}(pre:gg κ a b) {mg ac bc:Nat}(ms:MS (kLe κ) (a.toList++b.toList) out.toList (a.toList.drop ia) (b.toList.drop ib)) (ha:ia+1<a.size) (hb:ib<b.size) (hn:n<=out.size) {x:Keyed}(ex:a[ia]?=some x) (le:∀y∈b.toList.drop ib,kLe κ x y) {R:ForInStep L7->SortSt->Prop}
 (q1:∀r c,bu κ a b r->R (.done (some r,c)) st) (q2:∀out ia ib mg ac bc,LoI κ a b n out ia ib->R (.done (none,out,ia,ib,mg,ac,bc)) st) (q3:∀out ia ib mg ac bc,LoI κ a b n out ia ib->R (.yield (none,out,ia,ib,mg,ac,bc)) st):
 wpS (model prog w) A E s (j8 a b out ia ib mg ac bc) R st:=by
 obtain⟨x',ex',dx,mx⟩:=drp (a:=a) (i:=ia) Qo
 rw[ex]at ex'
 obtain rfl:=qI ex'
 unfold j8
 refine wpS_bind (bG ex ?_)
 have m2:=sS ms dx le
 have hs2:n<=(out.push x).size:=by rw[Array.size_push];omega
 by_cases c1:ia+1+1=a.size
 ·rw[Q0 (by simpa using c1)]
  exact wpS_pure (q1 _ _ (j7 pre m2 c1))
 ·rw[qZ (by simpa using c1)]
  have I2:LoI κ a b n (out.push x) (ia+1) ib:=⟨m2,Qo,hb,hs2⟩
  by_cases c2:(decide (ac<7) && decide (bc<7))=true
  ·rw[Q0 c2]
   exact wpS_pure (q2 _ _ _ _ _ _ I2)
  ·rw[qZ c2]
   exact wpS_pure (q3 _ _ _ _ _ _ I2)
theorem iE (a:Array Keyed) (i:Nat):(a.toList.drop i).take (a.size-i)=a.toList.drop i:=List.take_of_length_le (by rw[qY,qL];omega)
theorem nK (hO:κ.OneLt) {st:SortSt}(hk:kindOf st=oneType') (pre:gg κ a b) {mg ac bc:Nat}(ms:MS (kLe κ) (a.toList++b.toList) out.toList (a.toList.drop ia) (b.toList.drop ib)) (ha:ia+1<a.size) (hb:ib<b.size) (hn:n<=out.size) {y:Keyed}(ey:b[ib]?=some y) (lt:∀x∈a.toList.drop ia,kLt κ y x) {R:ForInStep L7->SortSt->Prop}
 (q1:∀r c,bu κ a b r->R (.done (some r,c)) st) (q2:∀out ia ib mg ac bc,LoI κ a b n out ia ib->R (.done (none,out,ia,ib,mg,ac,bc)) st) (q3:∀out ia ib mg ac bc,LoI κ a b n out ia ib->R (.yield (none,out,ia,ib,mg,ac,bc)) st):
 wpS (model prog w) A E s (j9 a b out ia ib mg ac bc) R st:=by
 obtain⟨y',ey',dy,my⟩:=drp hb
 rw[ey]at ey'
 obtain rfl:=qI ey'
 obtain⟨x,ex,dx,mx⟩:=drp (a:=a) (i:=ia) Qo
 unfold j9
 refine wpS_bind (bG ey ?_)
 have m2:=mq ms dy fun z hz=>(lt z hz).le
 have hs2:n<=(out.push y).size:=by rw[Array.size_push];omega
 obtain⟨sx,sy⟩:=mt m2
 by_cases c1:ib+1=b.size
 ·rw[Q0 (by simpa using c1)]
  exact wpS_pure (q1 _ _ (gQ m2 (.inr c1)))
 ·rw[qZ (by simpa using c1)]
  refine wpS_bind (bG ex (wpS_bind (fg hO hk (pre.ka x mx) pre.kb Qo Qo (by rw[iE];exact sy) fun k kn h1 h2=>?_)))
  rw[iE]at h1 h2
  dsimp only
  have d2:(b.toList.drop (ib+1)).drop k=b.toList.drop (ib+1+k):=by rw[List.drop_drop]
  rw[d2]at h2
  have le2:∀y'∈b.toList.drop (ib+1+k),kLe κ x y':=fun y' hy'=>h2 y' hy'
  have m3:MS (kLe κ) (a.toList++b.toList) (out.push y++b.extract (ib+1) (ib+1+k)).toList (a.toList.drop ia) (b.toList.drop (ib+1+k)):=by
   rw[Array.toList_append,ug]
   refine MS.right (Z:=(b.toList.drop (ib+1)).take k) (by rw[<- d2,List.take_append_drop];exact m2) fun y' hy' x' hx'=>?_
   have l1:kLt κ y' x:=h1 y' hy'
   rw[dx]at hx' sx
   exact KeyOrd.kle_trans l1.le (gX sx x' hx')
  by_cases c2:k > 0
  ·rw[Q0 c2]
   by_cases c3:ib+1+k=b.size
   ·rw[Q0 (by simpa using c3)]
    exact wpS_pure (q1 _ _ (gQ m3 (.inr c3)))
   ·rw[qZ (by simpa using c3)]
    exact nJ pre m3 ha Qo (by rw[Array.size_append];omega) ex le2 q1 q2 q3
  ·rw[qZ c2]
   obtain rfl:k=0:=Qo
   exact nJ pre m2 ha Qo hs2 ex le2 q1 q2 q3
theorem nN (hO:κ.OneLt) {st:SortSt}(hk:kindOf st=oneType') (pre:gg κ a b) {mg ac bc:Nat}(h:LoI κ a b n out ia ib) {R:ForInStep L7->SortSt->Prop}
 (q1:∀r c st',aY st st'->bu κ a b r->R (.done (some r,c)) st') (q2:∀out ia ib mg ac bc st',aY st st'->LoI κ a b n out ia ib->R (.done (none,out,ia,ib,mg,ac,bc)) st') (q3:∀out ia ib mg ac bc st',aY st st'->LoI κ a b n out ia ib->R (.yield (none,out,ia,ib,mg,ac,bc)) st'):
 wpS (model prog w) A E s (lo3 a b out ia ib mg ac bc) R st:=by
 obtain⟨y,ey,dy,my⟩:=drp h.hb
 obtain⟨sx,sy⟩:=mt h.ms
 have ha:=h.ha
 unfold lo3 cY
 refine wpS_bind (wpS_modify ?_)
 have ss:aY st (SortSt.mk' (kindOf st) (arrOf st) (pendingOf st) mg (failedOf st)):=⟨rfl,rfl,rfl,rfl⟩
 have hk2:kindOf (SortSt.mk' (kindOf st) (arrOf st) (pendingOf st) mg (failedOf st))=oneType':=hk
 generalize SortSt.mk' (kindOf st) (arrOf st) (pendingOf st) mg (failedOf st)=st2 at ss hk2 ⊢
 refine wpS_bind (bG ey (wpS_bind (fg hO hk2 (pre.kb y my) pre.ka Qo Qo (by rw[iE];exact sx) fun k kn h1 h2=>?_)))
 rw[iE]at h1 h2
 dsimp only
 have d2:(a.toList.drop ia).drop k=a.toList.drop (ia+k):=by rw[List.drop_drop]
 rw[d2]at h2
 have lt2:∀x∈a.toList.drop (ia+k),kLt κ y x:=fun x hx=>by
  have:=h2 x hx
  have this:(!κ.blt (ky κ y) (ky κ x))=false:=this
  show κ.blt (ky κ y) (ky κ x)=true
  simpa using this
 have m3:MS (kLe κ) (a.toList++b.toList) (out++a.extract ia (ia+k)).toList (a.toList.drop (ia+k)) (b.toList.drop ib):=by
  rw[Array.toList_append,ug]
  refine MS.left (Z:=(a.toList.drop ia).take k) (by rw[<- d2,List.take_append_drop];exact h.ms) fun x' hx' y' hy'=>?_
  have l1:(!κ.blt (ky κ y) (ky κ x'))=true:=h1 x' hx'
  have l1:κ.blt (ky κ y) (ky κ x')=false:=by simpa using l1
  rw[dy]at hy' sy
  exact KeyOrd.kle_trans (show κ.kle (ky κ x') (ky κ y)from l1) (gX sy y' hy')
 by_cases c2:k > 0
 ·rw[Q0 c2]
  by_cases c3:ia+k+1=a.size
  ·rw[Q0 (by simpa using c3)]
   exact wpS_pure (q1 _ _ _ ss (j7 pre m3 c3))
  ·rw[qZ (by simpa using c3)]
   by_cases c4:ia+k=a.size
   ·rw[Q0 (by simpa using c4)]
    exact wpS_pure (q1 _ _ _ ss (gQ m3 (.inl c4)))
   ·rw[qZ (by simpa using c4)]
    exact nK hO hk2 pre m3 Qo h.hb (by have:=h.hn;rw[Array.size_append];omega) ey lt2 (fun r c=>q1 r c _ ss) (fun o i j g x y=>q2 o i j g x y _ ss) (fun o i j g x y=>q3 o i j g x y _ ss)
 ·rw[qZ c2]
  obtain rfl:k=0:=Qo
  exact nK hO hk2 pre h.ms ha h.hb h.hn ey lt2 (fun r c=>q1 r c _ ss) (fun o i j g x y=>q2 o i j g x y _ ss) (fun o i j g x y=>q3 o i j g x y _ ss)
theorem LoI.less {m:Nat}(h:LoI κ a b m out ia ib) (k:n<=m):LoI κ a b n out ia ib:=⟨h.ms,h.ha,h.hb,qx k h.hn⟩
theorem LoI.room (h:LoI κ a b n out ia ib):n<a.size+b.size:=by
 have l:=h.ms.pm.length_eq
 simp only[qa,qY,qL]at l
 have:=h.ha
 have:=h.hb
 have:=h.hn
 omega
theorem vE (hO:κ.OneLt) {st:SortSt}(hk:kindOf st=oneType') (pre:gg κ a b) (sa:a.toList.Pairwise (kLe κ)) (sb:b.toList.Pairwise (kLe κ)) (f0:∀y,b[0]?=some y->∀x∈a.toList,kLe κ y x) {Q:Array Keyed->SortSt->Prop}(q:∀r st',aY st st'->bu κ a b r->Q r st'):wpS (model prog w) A E s (mi a b) Q st:=by
 rw[Aw]
 refine wpS_bind (wpS_lift (wpAny_rule ⟨rfl,?_⟩))
 dsimp only
 obtain⟨y,ey,dy,my⟩:=drp pre.zb
 have za:=pre.za
 have zb:=pre.zb
 refine wpS_bind (bG ey ?_)
 have m0:MS (kLe κ) (a.toList++b.toList) (#[]:Array Keyed).toList (a.toList.drop 0) (b.toList.drop 0):=⟨List.Perm.refl _,sa,sb⟩
 have m1:=mq m0 dy (f0 y ey)
 have m1:MS (kLe κ) (a.toList++b.toList) (#[y]:Array Keyed).toList (a.toList.drop 0) (b.toList.drop 1):=m1
 by_cases c1:1=b.size
 ·rw[Q0 (by simpa using c1)]
  exact wpS_pure (q _ _ (aY.refl _) (gQ m1 (.inr c1)))
 ·rw[qZ (by simpa using c1)]
  by_cases c2:0+1=a.size
  ·rw[Q0 (by simpa using c2)]
   exact wpS_pure (q _ _ (aY.refl _) (j7 pre m1 c2))
  ·rw[qZ (by simpa using c2)]
   refine wpS_bind (wpS_get ?_)
   have I0:LoI κ a b 1 #[y] 0 1:=⟨m1,Qo,Qo,qd _⟩
   refine wpS_bind (wpS_mono (wpS_forRange (I:=fun x c st'=>aY st st'/\∃out ia ib mg,c=(none,out,ia,ib,mg)/\LoI κ a b (x+1) out ia ib) (Q:=fun c st'=>aY st st'/\∃r d,c=(some r,d)/\bu κ a b r) ?_ ?_ ⟨aY.refl _,_,_,_,_,rfl,I0⟩) ?_)
   ·rintro x c st' _ hx ⟨ss,out,ia,ib,mg,rfl,I⟩
    have hk':kindOf st'=oneType':=ss.1.trans hk
    refine wpS_bind (wpS_mono (wpS_forRange (I:=fun i c st2=>st2=st'/\∃out ia ib ac bc,c=(none,out,ia,ib,ac,bc)/\LoI κ a b (x+1+i) out ia ib) (Q:=fun c st2=>st2=st'/\((∃r d,c=(some r,d)/\bu κ a b r)\/∃out ia ib ac bc,c=(none,out,ia,ib,ac,bc)/\LoI κ a b (x+2) out ia ib)) ?_ ?_ ⟨rfl,_,_,_,_,_,rfl,I⟩) ?_)
    ·rintro i c st2 _ hi ⟨rfl,o,p,q',ac,bc,rfl,I⟩
     exact vH hO hk' pre I (fun r c h=>⟨rfl,.inl ⟨r,c,rfl,h⟩⟩) (fun o p q' ac bc h=>⟨rfl,.inr ⟨o,p,q',ac,bc,rfl,h.less Qo⟩⟩) (fun o p q' ac bc h=>⟨rfl,o,p,q',ac,bc,rfl,h.less Qo⟩)
    ·rintro c st2 ⟨rfl,o,p,q',ac,bc,rfl,I⟩
     exact⟨rfl,.inr ⟨o,p,q',ac,bc,rfl,I.less Qo⟩⟩
    ·rintro c st2 ⟨rfl,⟨r,d,rfl,h⟩|⟨o,p,q',ac,bc,rfl,I2⟩⟩
     ·exact wpS_pure ⟨ss,r,_,rfl,h⟩
     ·refine wpS_bind (wpS_lift (wpAny_rule ⟨rfl,?_⟩))
      refine wpS_bind (wpS_mono (wpS_forRange (I:=fun i c st3=>aY st2 st3/\∃out ia ib mg ac bc,c=(none,out,ia,ib,mg,ac,bc)/\LoI κ a b (x+2) out ia ib) (Q:=fun c st3=>aY st2 st3/\((∃r d,c=(some r,d)/\bu κ a b r)\/∃out ia ib mg ac bc,c=(none,out,ia,ib,mg,ac,bc)/\LoI κ a b (x+2) out ia ib)) ?_ ?_ ⟨aY.refl _,_,_,_,_,_,_,rfl,I2⟩) ?_)
      ·rintro i c st3 _ hi ⟨s3,o,p,q',g,ac,bc,rfl,I⟩
       have hk3:kindOf st3=oneType':=s3.1.trans hk'
       dsimp only
       by_cases cg:g > 1
       ·rw[Q0 cg]
        exact nN hO hk3 pre I (fun r c st4 s4 h=>⟨s3.trans s4,.inl ⟨r,c,rfl,h⟩⟩) (fun o p q' g ac bc st4 s4 h=>⟨s3.trans s4,.inr ⟨o,p,q',g,ac,bc,rfl,h⟩⟩) (fun o p q' g ac bc st4 s4 h=>⟨s3.trans s4,o,p,q',g,ac,bc,rfl,h⟩)
       ·rw[qZ cg]
        exact nN hO hk3 pre I (fun r c st4 s4 h=>⟨s3.trans s4,.inl ⟨r,c,rfl,h⟩⟩) (fun o p q' g ac bc st4 s4 h=>⟨s3.trans s4,.inr ⟨o,p,q',g,ac,bc,rfl,h⟩⟩) (fun o p q' g ac bc st4 s4 h=>⟨s3.trans s4,o,p,q',g,ac,bc,rfl,h⟩)
      ·rintro c st3 ⟨s3,o,p,q',g,ac,bc,rfl,I⟩
       exact⟨s3,.inr ⟨o,p,q',g,ac,bc,rfl,I⟩⟩
      ·rintro c st3 ⟨s3,⟨r,d,rfl,h⟩|⟨o,p,q',g,ac,bc,rfl,I3⟩⟩
       ·exact wpS_pure ⟨ss.trans s3,r,_,rfl,h⟩
       ·dsimp only
        unfold cY
        exact wpS_bind (wpS_modify (wpS_pure ⟨(ss.trans s3).trans ⟨rfl,rfl,rfl,rfl⟩,_,_,_,_,rfl,I3⟩))
   ·rintro c st' ⟨ss,out,ia,ib,mg,rfl,I⟩
    have:=I.room
    omega
   ·rintro c st' ⟨ss,r,d,rfl,h⟩
    exact wpS_pure (q r st' ss h)
end
end
section
variable {prog:Program}{w:World}{A:Around}{E:Qq}{s:Shared}{κ:KeyKind}
theorem MS.symm {r:Keyed->Keyed->Prop}{T o X Y:List Keyed}(h:MS r T o X Y):MS r T o Y X:=⟨by
 refine List.Perm.trans ?_ h.pm
 rw[qM,qM]
 exact List.Perm.append_left _ List.perm_append_comm,h.sy,h.sx⟩
def gLe (κ:KeyKind) (p q:Keyed):Prop:=kLe κ q p
theorem Mgd.rev {T l:List Keyed}(h:Mgd (gLe κ) T l):Mgd (kLe κ) T l.reverse:=⟨(List.reverse_perm _).trans h.1,List.pairwise_reverse.mpr h.2⟩
def mj:Array Keyed->Array Keyed->StateT SortSt Sem (Array Keyed):=sortPriv% PySem.Builtin.mergeHi
def df (a b out:Array Keyed) (na nb:Nat):Array Keyed:=a.extract 0 na++b.extract 0 nb++out.reverse
def fP (a b out:Array Keyed) (na nb:Nat):Array Keyed:=b.extract 0 nb++a.extract 0 na++out.reverse
abbrev H6:Type:=Option (Array Keyed)×Nat×Nat×Array Keyed×Nat×Nat
abbrev H7:Type:=Option (Array Keyed)×Nat×Nat×Array Keyed×Nat×Nat×Nat
def hi1 (a b:Array Keyed) (mg:Nat) (na nb:Nat) (out:Array Keyed) (ac bc:Nat):StateT SortSt Sem (ForInStep H6):=do
 let y <- elem' b (nb-1)
 let x <- elem' a (na-1)
 let t <- lt' y x
 match t with
 |some aw=>
  if aw=true then do
   let x <- elem' a (na-1)
   if(na-1 == 0)=true then pure (.done (some (df a b (out.push x) (na-1) nb),na-1,nb,out.push x,ac+1,0))
   else if ac+1 >= mg then pure (.done (none,na-1,nb,out.push x,ac+1,0))
   else pure (.yield (none,na-1,nb,out.push x,ac+1,0))
  else do
   let y <- elem' b (nb-1)
   if(nb-1 == 1)=true then pure (.done (some (fP a b (out.push y) na (nb-1)),na,nb-1,out.push y,0,bc+1))
   else if bc+1 >= mg then pure (.done (none,na,nb-1,out.push y,0,bc+1))
   else pure (.yield (none,na,nb-1,out.push y,0,bc+1))
 |_=>pure (.done (some (df a b out na nb),na,nb,out,ac,bc))
def jo (a b:Array Keyed) (na nb:Nat) (out:Array Keyed) (mg ac bc:Nat):StateT SortSt Sem (ForInStep H7):=do
 let x <- elem' a (na-1)
 if(na-1 == 0)=true then pure (.done (some (df a b (out.push x) (na-1) nb),na-1,nb,out.push x,mg,ac,bc))
 else if(decide (ac<7) && decide (bc<7))=true then pure (.done (none,na-1,nb,out.push x,mg,ac,bc))
 else pure (.yield (none,na-1,nb,out.push x,mg,ac,bc))
def jp (a b:Array Keyed) (na nb:Nat) (out:Array Keyed) (mg ac bc:Nat):StateT SortSt Sem (ForInStep H7):=do
 let y <- elem' b (nb-1)
 if(nb-1 == 1)=true then pure (.done (some (fP a b (out.push y) na (nb-1)),na,nb-1,out.push y,mg,ac,bc))
 else do
  let x <- elem' a (na-1)
  let t <- cB true x b 0 (nb-1) (nb-1-1)
  match t with
  |some k=>
   if nb-1-k > 0 then
    if(k == 1)=true then pure (.done (some (fP a b (out.push y++(b.extract k (nb-1)).reverse) na k),na,k,out.push y++(b.extract k (nb-1)).reverse,mg,ac,nb-1-k))
    else if(k == 0)=true then pure (.done (some (df a b (out.push y++(b.extract k (nb-1)).reverse) na k),na,k,out.push y++(b.extract k (nb-1)).reverse,mg,ac,nb-1-k))
    else jo a b na k (out.push y++(b.extract k (nb-1)).reverse) mg ac (nb-1-k)
   else jo a b na (nb-1) (out.push y) mg ac (nb-1-k)
  |_=>pure (.done (some (df a b (out.push y) na (nb-1)),na,nb-1,out.push y,mg,ac,bc))
def hi3 (a b:Array Keyed) (na nb:Nat) (out:Array Keyed) (mg ac bc:Nat):StateT SortSt Sem (ForInStep H7):=do
 cY mg
 let y <- elem' b (nb-1)
 let t <- cB false y a 0 na (na-1)
 match t with
 |some k=>
  if na-k > 0 then
   if(k == 0)=true then pure (.done (some (df a b (out++(a.extract k na).reverse) k nb),k,nb,out++(a.extract k na).reverse,mg,na-k,bc))
   else jp a b k nb (out++(a.extract k na).reverse) mg (na-k) bc
  else jp a b na nb out mg (na-k) bc
 |_=>pure (.done (some (df a b out na nb),na,nb,out,mg,ac,bc))
theorem Ax (a b:Array Keyed):mj a b=(do
 rule "list.sort.merge-hi"
 let tot:=a.size+b.size
 let fin (out:Array Keyed) (na nb:Nat):=a.extract 0 na++b.extract 0 nb++out.reverse
 let fst (out:Array Keyed) (na nb:Nat):=b.extract 0 nb++a.extract 0 na++out.reverse
 let mut na:=a.size-1
 let mut nb:=b.size
 let mut out:Array Keyed:=#[<- elem' a na]
 if na == 0 then return fin out na nb
 if nb == 1 then return fst out na nb
 let mut mg:=gallopOf (<- get)
 for _ in[0:tot] do
  let mut ac:=0
  let mut bc:=0
  for _ in[0:tot] do
   let some aw <- lt' (<- elem' b (nb-1)) (<- elem' a (na-1))|return fin out na nb
   if aw then
    na:=na-1;out:=out.push (<- elem' a na);ac:=ac+1;bc:=0
    if na == 0 then return fin out na nb
    if ac >= mg then break
   else
    nb:=nb-1;out:=out.push (<- elem' b nb);bc:=bc+1;ac:=0
    if nb == 1 then return fst out na nb
    if bc >= mg then break
  rule "list.sort.gallop"
  mg:=mg+1
  for _ in[0:tot] do
   if mg > 1 then mg:=mg-1
   cY mg
   let some at_ <- cB false (<- elem' b (nb-1)) a 0 na (na-1)|return fin out na nb
   let k:=na-at_
   ac:=k
   if k > 0 then
    out:=out++(a.extract at_ na).reverse;na:=at_
    if na == 0 then return fin out na nb
   nb:=nb-1;out:=out.push (<- elem' b nb)
   if nb == 1 then return fst out na nb
   let some at_ <- cB true (<- elem' a (na-1)) b 0 nb (nb-1)|return fin out na nb
   let k:=nb-at_
   bc:=k
   if k > 0 then
    out:=out++(b.extract at_ nb).reverse;nb:=at_
    if nb == 1 then return fst out na nb
    if nb == 0 then return fin out na nb
   na:=na-1;out:=out.push (<- elem' a na)
   if na == 0 then return fin out na nb
   if ac<7 && bc<7 then break
  mg:=mg+1
  cY mg
 unsupported "internal:list.sort.merge-bound"):=rfl
theorem tkp {a:Array Keyed}{i:Nat}(h0:0<i) (h:i<=a.size):∃x,a[i-1]?=some x/\(a.toList.take i).reverse=x::(a.toList.take (i-1)).reverse/\x∈a.toList:=by
 have hl:i-1<a.toList.length:=by rw[qL];omega
 refine⟨a.toList[i-1],by rw[<- qT];exact qb hl,?_,List.getElem_mem _⟩
 have e:a.toList.take i=a.toList.take (i-1)++[a.toList[i-1]]:=by
  have:=qq (l:=a.toList) (i:=i-1)
  rw[show i-1+1=i by omega,qb hl]at this
  exact this
 rw[e,List.reverse_append]
 rfl
theorem jv (a:Array Keyed) (k:Nat):(a.extract 0 k).toList=a.toList.take k:=by
 rw[Array.toList_extract,List.extract_eq_take_drop]
 rfl
theorem ue (a:Array Keyed) (i k:Nat):(a.extract i k).toList=(a.toList.take k).drop i:=by
 rw[Array.toList_extract,List.extract_eq_take_drop,List.drop_take]
theorem BX (a b out:Array Keyed) (na nb:Nat):(df a b out na nb).toList=a.toList.take na++b.toList.take nb++out.toList.reverse:=by
 unfold df
 rw[Array.toList_append,Array.toList_append,jv,jv,Array.toList_reverse]
theorem BK (a b out:Array Keyed) (na nb:Nat):(fP a b out na nb).toList=b.toList.take nb++a.toList.take na++out.toList.reverse:=by
 unfold fP
 rw[Array.toList_append,Array.toList_append,jv,jv,Array.toList_reverse]
structure i7 (κ:KeyKind) (a b:Array Keyed):Prop where
 ka:∀p∈a.toList,KOk κ p
 kb:∀p∈b.toList,KOk κ p
 za:0<a.size
 zb:0<b.size
 fb:∀x∈a.toList,∀z,b[0]?=some z->kLt κ z x
structure HiI (κ:KeyKind) (a b:Array Keyed) (n:Nat) (na nb:Nat) (out:Array Keyed):Prop where
 ms:MS (gLe κ) (a.toList++b.toList) out.toList (a.toList.take na).reverse (b.toList.take nb).reverse
 a0:0<na
 b0:1<nb
 az:na<=a.size
 bz:nb<=b.size
 hn:n<=out.size
section
variable {a b out:Array Keyed}{na nb n:Nat}
theorem gW (h:MS (gLe κ) (a.toList++b.toList) out.toList (a.toList.take na).reverse (b.toList.take nb).reverse) (e:na=0\/nb=0):bu κ a b (df a b out na nb):=by
 unfold bu
 rw[BX]
 rcases e with rfl|rfl
 ·have:=(MS.endX (show MS (gLe κ) (a.toList++b.toList) out.toList [] (b.toList.take nb).reverse from h)).rev
  rw[List.reverse_append,List.reverse_reverse]at this
  exact this
 ·have:=(MS.endY (show MS (gLe κ) (a.toList++b.toList) out.toList (a.toList.take na).reverse []from h)).rev
  rw[List.reverse_append,List.reverse_reverse]at this
  rw[List.take_zero,qw]
  exact this
theorem jj (pre:i7 κ a b) (h:MS (gLe κ) (a.toList++b.toList) out.toList (a.toList.take na).reverse (b.toList.take nb).reverse) (e:nb=1):bu κ a b (fP a b out na nb):=by
 unfold bu
 rw[BK]
 subst e
 obtain⟨z,ez,dz,_⟩:=tkp (a:=b) (i:=1) Qk pre.zb
 have dz:(b.toList.take 1).reverse=[z]:=dz
 rw[dz]at h
 have:=(h.symm.lastX fun x hx=>(pre.fb x (List.mem_of_mem_take (List.mem_reverse.mp hx)) z ez).le).rev
 have dz2:b.toList.take 1=[z]:=by rw[<- List.reverse_reverse (b.toList.take 1),dz];rfl
 rw[dz2]
 rw[List.reverse_append,List.reverse_append,List.reverse_reverse]at this
 rw[qM]
 exact this
theorem mN (h:MS (gLe κ) (a.toList++b.toList) out.toList (a.toList.take na).reverse (b.toList.take nb).reverse) {x:Keyed}(dx:(a.toList.take na).reverse=x::(a.toList.take (na-1)).reverse) (le:∀y∈b.toList.take nb,kLe κ y x):MS (gLe κ) (a.toList++b.toList) (out.push x).toList (a.toList.take (na-1)).reverse (b.toList.take nb).reverse:=by
 rw[dx]at h
 rw[Array.toList_push]
 exact MS.left (Z:=[x]) h fun x' hx' y hy=>by obtain rfl:=qS.mp hx';exact le y (List.mem_reverse.mp hy)
theorem tL (h:MS (gLe κ) (a.toList++b.toList) out.toList (a.toList.take na).reverse (b.toList.take nb).reverse) {y:Keyed}(dy:(b.toList.take nb).reverse=y::(b.toList.take (nb-1)).reverse) (le:∀x∈a.toList.take na,kLe κ x y):MS (gLe κ) (a.toList++b.toList) (out.push y).toList (a.toList.take na).reverse (b.toList.take (nb-1)).reverse:=by
 rw[dy]at h
 rw[Array.toList_push]
 exact MS.right (Z:=[y]) h fun y' hy' x hx=>by obtain rfl:=qS.mp hy';exact le x (List.mem_reverse.mp hx)
theorem mO {o X Y T:List Keyed}(h:MS (gLe κ) T o X.reverse Y.reverse):X.Pairwise (kLe κ)/\Y.Pairwise (kLe κ):=⟨List.pairwise_reverse.mp (List.pairwise_append.mp h.sx).2.1,List.pairwise_reverse.mp (List.pairwise_append.mp h.sy).2.1⟩
theorem jc {x:Keyed}{X X':List Keyed}(d:X.reverse=x::X'.reverse) (h:X.Pairwise (kLe κ)):∀z∈X,kLe κ z x:=fun z hz=>by
 have e:X=X'++[x]:=by rw[<- List.reverse_reverse X,d,List.reverse_cons,List.reverse_reverse]
 rw[e]at h hz
 rcases qg.mp hz with q|q
 ·exact(List.pairwise_append.mp h).2.2 z q x (by simp)
 ·obtain rfl:=qS.mp q
  exact KeyOrd.kle_refl _
theorem vI (hO:κ.OneLt) {st:SortSt}(hk:kindOf st=oneType') (pre:i7 κ a b) {mg ac bc:Nat}(h:HiI κ a b n na nb out) {R:ForInStep H6->SortSt->Prop}
 (q1:∀r c,bu κ a b r->R (.done (some r,c)) st) (q2:∀na nb out ac bc,HiI κ a b (n+1) na nb out->R (.done (none,na,nb,out,ac,bc)) st) (q3:∀na nb out ac bc,HiI κ a b (n+1) na nb out->R (.yield (none,na,nb,out,ac,bc)) st):
 wpS (model prog w) A E s (hi1 a b mg na nb out ac bc) R st:=by
 obtain⟨ms,a0,b0,az,bz,hs⟩:=h
 obtain⟨y,ey,dy,my⟩:=tkp (a:=b) (i:=nb) Qo bz
 obtain⟨x,ex,dx,mx⟩:=tkp (a:=a) (i:=na) a0 az
 obtain⟨sx,sy⟩:=mO ms
 unfold hi1
 refine wpS_bind (bG ey (wpS_bind (bG ex (wpS_bind (ie hO hk (pre.kb y my) (pre.ka x mx) ?_)))))
 dsimp only
 cases e:κ.blt (ky κ y) (ky κ x)with
 |true=>
  rw[Q0 rfl]
  refine wpS_bind (bG ex ?_)
  have m2:=mN ms dx fun z hz=>KeyOrd.kle_trans (jc dy sy z hz) (KeyOrd.kle_of_klt e)
  have hs2:n+1<=(out.push x).size:=by rw[Array.size_push];omega
  by_cases c1:na-1=0
  ·rw[Q0 (by simpa using c1)]
   exact wpS_pure (q1 _ _ (gW m2 (.inl c1)))
  ·rw[qZ (by simpa using c1)]
   have I2:HiI κ a b (n+1) (na-1) nb (out.push x):=⟨m2,Qo,b0,Qo,bz,hs2⟩
   by_cases c2:ac+1 >= mg
   ·rw[Q0 c2]
    exact wpS_pure (q2 _ _ _ _ _ I2)
   ·rw[qZ c2]
    exact wpS_pure (q3 _ _ _ _ _ I2)
 |false=>
  rw[qZ Qk]
  refine wpS_bind (bG ey ?_)
  have m2:=tL ms dy fun z hz=>KeyOrd.kle_trans (jc dx sx z hz) (show κ.kle (ky κ x) (ky κ y)from e)
  have hs2:n+1<=(out.push y).size:=by rw[Array.size_push];omega
  by_cases c1:nb-1=1
  ·rw[Q0 (by simpa using c1)]
   exact wpS_pure (q1 _ _ (jj pre m2 c1))
  ·rw[qZ (by simpa using c1)]
   have I2:HiI κ a b (n+1) na (nb-1) (out.push y):=⟨m2,a0,Qo,az,Qo,hs2⟩
   by_cases c2:bc+1 >= mg
   ·rw[Q0 c2]
    exact wpS_pure (q2 _ _ _ _ _ I2)
   ·rw[qZ c2]
    exact wpS_pure (q3 _ _ _ _ _ I2)
theorem nO {st:SortSt}{mg ac bc:Nat}(ms:MS (gLe κ) (a.toList++b.toList) out.toList (a.toList.take na).reverse (b.toList.take nb).reverse) (a0:0<na) (b0:1<nb) (az:na<=a.size) (bz:nb<=b.size) (hn:n<=out.size) {x:Keyed}(ex:a[na-1]?=some x) (le:∀y∈b.toList.take nb,kLe κ y x) {R:ForInStep H7->SortSt->Prop}
 (q1:∀r c,bu κ a b r->R (.done (some r,c)) st) (q2:∀na nb out mg ac bc,HiI κ a b n na nb out->R (.done (none,na,nb,out,mg,ac,bc)) st) (q3:∀na nb out mg ac bc,HiI κ a b n na nb out->R (.yield (none,na,nb,out,mg,ac,bc)) st):
 wpS (model prog w) A E s (jo a b na nb out mg ac bc) R st:=by
 obtain⟨x',ex',dx,mx⟩:=tkp (a:=a) (i:=na) a0 az
 rw[ex]at ex'
 obtain rfl:=qI ex'
 unfold jo
 refine wpS_bind (bG ex ?_)
 have m2:=mN ms dx le
 have hs2:n<=(out.push x).size:=by rw[Array.size_push];omega
 by_cases c1:na-1=0
 ·rw[Q0 (by simpa using c1)]
  exact wpS_pure (q1 _ _ (gW m2 (.inl c1)))
 ·rw[qZ (by simpa using c1)]
  have I2:HiI κ a b n (na-1) nb (out.push x):=⟨m2,Qo,b0,Qo,bz,hs2⟩
  by_cases c2:(decide (ac<7) && decide (bc<7))=true
  ·rw[Q0 c2]
   exact wpS_pure (q2 _ _ _ _ _ _ I2)
  ·rw[qZ c2]
   exact wpS_pure (q3 _ _ _ _ _ _ I2)
theorem iF (a:Array Keyed) (n:Nat):(a.toList.drop 0).take n=a.toList.take n:=rfl
theorem nP (hO:κ.OneLt) {st:SortSt}(hk:kindOf st=oneType') (pre:i7 κ a b) {mg ac bc:Nat}(ms:MS (gLe κ) (a.toList++b.toList) out.toList (a.toList.take na).reverse (b.toList.take nb).reverse) (a0:0<na) (b0:1<nb) (az:na<=a.size) (bz:nb<=b.size) (hn:n<=out.size) {y:Keyed}(ey:b[nb-1]?=some y) (le:∀x∈a.toList.take na,kLe κ x y) {R:ForInStep H7->SortSt->Prop}
 (q1:∀r c,bu κ a b r->R (.done (some r,c)) st) (q2:∀na nb out mg ac bc,HiI κ a b n na nb out->R (.done (none,na,nb,out,mg,ac,bc)) st) (q3:∀na nb out mg ac bc,HiI κ a b n na nb out->R (.yield (none,na,nb,out,mg,ac,bc)) st):
 wpS (model prog w) A E s (jp a b na nb out mg ac bc) R st:=by
 obtain⟨y',ey',dy,my⟩:=tkp (a:=b) (i:=nb) Qo bz
 rw[ey]at ey'
 obtain rfl:=qI ey'
 obtain⟨x,ex,dx,mx⟩:=tkp (a:=a) (i:=na) a0 az
 unfold jp
 refine wpS_bind (bG ey ?_)
 have m2:=tL ms dy le
 have hs2:n<=(out.push y).size:=by rw[Array.size_push];omega
 obtain⟨sx,sy⟩:=mO m2
 by_cases c1:nb-1=1
 ·rw[Q0 (by simpa using c1)]
  exact wpS_pure (q1 _ _ (jj pre m2 c1))
 ·rw[qZ (by simpa using c1)]
  refine wpS_bind (bG ex (wpS_bind (fg hO hk (pre.ka x mx) pre.kb Qo Qo (by rw[iF];exact sy) fun k kn h1 h2=>?_)))
  rw[iF]at h1 h2
  dsimp only
  have d2:(b.toList.take (nb-1)).take k=b.toList.take k:=by rw[List.take_take,Nat.min_eq_left kn]
  rw[d2]at h1
  have le2:∀y'∈b.toList.take k,kLe κ y' x:=fun y' hy'=>(show kLt κ y' x from h1 y' hy').le
  have m3:MS (gLe κ) (a.toList++b.toList) (out.push y++(b.extract k (nb-1)).reverse).toList (a.toList.take na).reverse (b.toList.take k).reverse:=by
   rw[Array.toList_append,Array.toList_reverse,ue]
   refine MS.right (Z:=((b.toList.take (nb-1)).drop k).reverse) (by rw[<- List.reverse_append,<- d2,List.take_append_drop];exact m2) fun y' hy' x' hx'=>?_
   have l1:kLe κ x y':=h2 y' (List.mem_reverse.mp hy')
   exact KeyOrd.kle_trans (jc dx sx x' (List.mem_reverse.mp hx')) l1
  by_cases c2:nb-1-k > 0
  ·rw[Q0 c2]
   by_cases c3:k=1
   ·rw[Q0 (by simpa using c3)]
    exact wpS_pure (q1 _ _ (jj pre m3 c3))
   ·rw[qZ (by simpa using c3)]
    by_cases c4:k=0
    ·rw[Q0 (by simpa using c4)]
     exact wpS_pure (q1 _ _ (gW m3 (.inr c4)))
    ·rw[qZ (by simpa using c4)]
     exact nO m3 a0 Qo az Qo (by rw[Array.size_append];omega) ex le2 q1 q2 q3
  ·rw[qZ c2]
   obtain rfl:k=nb-1:=Qo
   exact nO m2 a0 Qo az Qo hs2 ex le2 q1 q2 q3
theorem nQ (hO:κ.OneLt) {st:SortSt}(hk:kindOf st=oneType') (pre:i7 κ a b) {mg ac bc:Nat}(h:HiI κ a b n na nb out) {R:ForInStep H7->SortSt->Prop}
 (q1:∀r c st',aY st st'->bu κ a b r->R (.done (some r,c)) st') (q2:∀na nb out mg ac bc st',aY st st'->HiI κ a b n na nb out->R (.done (none,na,nb,out,mg,ac,bc)) st') (q3:∀na nb out mg ac bc st',aY st st'->HiI κ a b n na nb out->R (.yield (none,na,nb,out,mg,ac,bc)) st'):
 wpS (model prog w) A E s (hi3 a b na nb out mg ac bc) R st:=by
 obtain⟨ms,a0,b0,az,bz,hs⟩:=h
 obtain⟨y,ey,dy,my⟩:=tkp (a:=b) (i:=nb) Qo bz
 obtain⟨sx,sy⟩:=mO ms
 unfold hi3 cY
 refine wpS_bind (wpS_modify ?_)
 have ss:aY st (SortSt.mk' (kindOf st) (arrOf st) (pendingOf st) mg (failedOf st)):=⟨rfl,rfl,rfl,rfl⟩
 have hk2:kindOf (SortSt.mk' (kindOf st) (arrOf st) (pendingOf st) mg (failedOf st))=oneType':=hk
 generalize SortSt.mk' (kindOf st) (arrOf st) (pendingOf st) mg (failedOf st)=st2 at ss hk2 ⊢
 refine wpS_bind (bG ey (wpS_bind (fg hO hk2 (pre.kb y my) pre.ka Qo Qo (by rw[iF];exact sx) fun k kn h1 h2=>?_)))
 rw[iF]at h1 h2
 dsimp only
 have d2:(a.toList.take na).take k=a.toList.take k:=by rw[List.take_take,Nat.min_eq_left kn]
 rw[d2]at h1
 have le2:∀x∈a.toList.take k,kLe κ x y:=fun x hx=>by
  have this:(!κ.blt (ky κ y) (ky κ x))=true:=h1 x hx
  show κ.blt (ky κ y) (ky κ x)=false
  simpa using this
 have m3:MS (gLe κ) (a.toList++b.toList) (out++(a.extract k na).reverse).toList (a.toList.take k).reverse (b.toList.take nb).reverse:=by
  rw[Array.toList_append,Array.toList_reverse,ue]
  refine MS.left (Z:=((a.toList.take na).drop k).reverse) (by rw[<- List.reverse_append,<- d2,List.take_append_drop];exact ms) fun x' hx' y' hy'=>?_
  have l1:(!κ.blt (ky κ y) (ky κ x'))=false:=h2 x' (List.mem_reverse.mp hx')
  have l1:κ.blt (ky κ y) (ky κ x')=true:=by simpa using l1
  exact KeyOrd.kle_trans (jc dy sy y' (List.mem_reverse.mp hy')) (KeyOrd.kle_of_klt l1)
 by_cases c2:na-k > 0
 ·rw[Q0 c2]
  by_cases c4:k=0
  ·rw[Q0 (by simpa using c4)]
   exact wpS_pure (q1 _ _ _ ss (gW m3 (.inl c4)))
  ·rw[qZ (by simpa using c4)]
   exact nP hO hk2 pre m3 Qo b0 Qo bz (by rw[Array.size_append];omega) ey le2 (fun r c=>q1 r c _ ss) (fun o i j g x y=>q2 o i j g x y _ ss) (fun o i j g x y=>q3 o i j g x y _ ss)
 ·rw[qZ c2]
  obtain rfl:k=na:=Qo
  exact nP hO hk2 pre ms a0 b0 az bz hs ey le2 (fun r c=>q1 r c _ ss) (fun o i j g x y=>q2 o i j g x y _ ss) (fun o i j g x y=>q3 o i j g x y _ ss)
theorem HiI.less {m:Nat}(h:HiI κ a b m na nb out) (k:n<=m):HiI κ a b n na nb out:=⟨h.ms,h.a0,h.b0,h.az,h.bz,qx k h.hn⟩
theorem HiI.room (h:HiI κ a b n na nb out):n<a.size+b.size:=by
 have l:=h.ms.pm.length_eq
 simp only[qa,List.length_reverse,qJ,qL]at l
 have:=h.a0
 have:=h.b0
 have:=h.az
 have:=h.bz
 have:=h.hn
 omega
theorem vF (hO:κ.OneLt) {st:SortSt}(hk:kindOf st=oneType') (pre:i7 κ a b) (sa:a.toList.Pairwise (kLe κ)) (sb:b.toList.Pairwise (kLe κ)) (l0:∀x,a[a.size-1]?=some x->∀y∈b.toList,kLe κ y x) {Q:Array Keyed->SortSt->Prop}(q:∀r st',aY st st'->bu κ a b r->Q r st'):wpS (model prog w) A E s (mj a b) Q st:=by
 rw[Ax]
 refine wpS_bind (wpS_lift (wpAny_rule ⟨rfl,?_⟩))
 dsimp only
 have za:=pre.za
 have zb:=pre.zb
 obtain⟨x,ex,dx,mx⟩:=tkp (a:=a) (i:=a.size) za (qd _)
 refine wpS_bind (bG ex ?_)
 have ta:a.toList.take a.size=a.toList:=List.take_of_length_le (by rw[qL];exact qd _)
 have tb:b.toList.take b.size=b.toList:=List.take_of_length_le (by rw[qL];exact qd _)
 have m0:MS (gLe κ) (a.toList++b.toList) (#[]:Array Keyed).toList (a.toList.take a.size).reverse (b.toList.take b.size).reverse:=by
  rw[ta,tb]
  exact⟨((List.reverse_perm _).append (List.reverse_perm _)),List.pairwise_reverse.mpr sa,List.pairwise_reverse.mpr sb⟩
 have m1:=mN m0 dx (by rw[tb];exact l0 x ex)
 have m1:MS (gLe κ) (a.toList++b.toList) (#[x]:Array Keyed).toList (a.toList.take (a.size-1)).reverse (b.toList.take b.size).reverse:=m1
 by_cases c1:a.size-1=0
 ·rw[Q0 (by simpa using c1)]
  exact wpS_pure (q _ _ (aY.refl _) (gW m1 (.inl c1)))
 ·rw[qZ (by simpa using c1)]
  by_cases c2:b.size=1
  ·rw[Q0 (by simpa using c2)]
   exact wpS_pure (q _ _ (aY.refl _) (jj pre m1 c2))
  ·rw[qZ (by simpa using c2)]
   refine wpS_bind (wpS_get ?_)
   have I0:HiI κ a b 1 (a.size-1) b.size #[x]:=⟨m1,Qo,Qo,Qo,qd _,qd _⟩
   refine wpS_bind (wpS_mono (wpS_forRange (I:=fun x c st'=>aY st st'/\∃na nb out mg,c=(none,na,nb,out,mg)/\HiI κ a b (x+1) na nb out) (Q:=fun c st'=>aY st st'/\∃r d,c=(some r,d)/\bu κ a b r) ?_ ?_ ⟨aY.refl _,_,_,_,_,rfl,I0⟩) ?_)
   ·rintro x c st' _ hx ⟨ss,p,q',o,mg,rfl,I⟩
    have hk':kindOf st'=oneType':=ss.1.trans hk
    refine wpS_bind (wpS_mono (wpS_forRange (I:=fun i c st2=>st2=st'/\∃na nb out ac bc,c=(none,na,nb,out,ac,bc)/\HiI κ a b (x+1+i) na nb out) (Q:=fun c st2=>st2=st'/\((∃r d,c=(some r,d)/\bu κ a b r)\/∃na nb out ac bc,c=(none,na,nb,out,ac,bc)/\HiI κ a b (x+2) na nb out)) ?_ ?_ ⟨rfl,_,_,_,_,_,rfl,I⟩) ?_)
    ·rintro i c st2 _ hi ⟨rfl,p,q',o,ac,bc,rfl,I⟩
     exact vI hO hk' pre I (fun r c h=>⟨rfl,.inl ⟨r,c,rfl,h⟩⟩) (fun p q' o ac bc h=>⟨rfl,.inr ⟨p,q',o,ac,bc,rfl,h.less Qo⟩⟩) (fun p q' o ac bc h=>⟨rfl,p,q',o,ac,bc,rfl,h.less Qo⟩)
    ·rintro c st2 ⟨rfl,p,q',o,ac,bc,rfl,I⟩
     exact⟨rfl,.inr ⟨p,q',o,ac,bc,rfl,I.less Qo⟩⟩
    ·rintro c st2 ⟨rfl,⟨r,d,rfl,h⟩|⟨p,q',o,ac,bc,rfl,I2⟩⟩
     ·exact wpS_pure ⟨ss,r,_,rfl,h⟩
     ·refine wpS_bind (wpS_lift (wpAny_rule ⟨rfl,?_⟩))
      refine wpS_bind (wpS_mono (wpS_forRange (I:=fun i c st3=>aY st2 st3/\∃na nb out mg ac bc,c=(none,na,nb,out,mg,ac,bc)/\HiI κ a b (x+2) na nb out) (Q:=fun c st3=>aY st2 st3/\((∃r d,c=(some r,d)/\bu κ a b r)\/∃na nb out mg ac bc,c=(none,na,nb,out,mg,ac,bc)/\HiI κ a b (x+2) na nb out)) ?_ ?_ ⟨aY.refl _,_,_,_,_,_,_,rfl,I2⟩) ?_)
      ·rintro i c st3 _ hi ⟨s3,p,q',o,g,ac,bc,rfl,I⟩
       have hk3:kindOf st3=oneType':=s3.1.trans hk'
       dsimp only
       by_cases cg:g > 1
       ·rw[Q0 cg]
        exact nQ hO hk3 pre I (fun r c st4 s4 h=>⟨s3.trans s4,.inl ⟨r,c,rfl,h⟩⟩) (fun p q' o g ac bc st4 s4 h=>⟨s3.trans s4,.inr ⟨p,q',o,g,ac,bc,rfl,h⟩⟩) (fun p q' o g ac bc st4 s4 h=>⟨s3.trans s4,p,q',o,g,ac,bc,rfl,h⟩)
       ·rw[qZ cg]
        exact nQ hO hk3 pre I (fun r c st4 s4 h=>⟨s3.trans s4,.inl ⟨r,c,rfl,h⟩⟩) (fun p q' o g ac bc st4 s4 h=>⟨s3.trans s4,.inr ⟨p,q',o,g,ac,bc,rfl,h⟩⟩) (fun p q' o g ac bc st4 s4 h=>⟨s3.trans s4,p,q',o,g,ac,bc,rfl,h⟩)
      ·rintro c st3 ⟨s3,p,q',o,g,ac,bc,rfl,I⟩
       exact⟨s3,.inr ⟨p,q',o,g,ac,bc,rfl,I⟩⟩
      ·rintro c st3 ⟨s3,⟨r,d,rfl,h⟩|⟨p,q',o,g,ac,bc,rfl,I3⟩⟩
       ·exact wpS_pure ⟨ss.trans s3,r,_,rfl,h⟩
       ·dsimp only
        unfold cY
        exact wpS_bind (wpS_modify (wpS_pure ⟨(ss.trans s3).trans ⟨rfl,rfl,rfl,rfl⟩,_,_,_,_,rfl,I3⟩))
   ·rintro c st' ⟨ss,p,q',o,mg,rfl,I⟩
    have:=I.room
    omega
   ·rintro c st' ⟨ss,r,d,rfl,h⟩
    exact wpS_pure (q r st' ss h)
end
end
section
variable {prog:Program}{w:World}{A:Around}{E:Qq}{s:Shared}{κ:KeyKind}
theorem vD {st st2:SortSt}{Q:PUnit->SortSt->Prop}(h:Q ⟨⟩ st2):wpS (model prog w) A E s (set st2:StateT SortSt Sem PUnit) Q st:=by
 unfold wpS
 rw[StateT.run_set]
 exact qc ⟨rfl,h⟩
theorem Ay (i:Nat):mergeAt' i=(do
 let s <- get
 let (some (sa,na,pw),some (sb,nb,_)):=((pendingOf s)[i]?,(pendingOf s)[i+1]?)|unsupported "internal:list.sort.pending"
 set (SortSt.mk' (kindOf s) (arrOf s) (((pendingOf s).setIfInBounds i (sa,na+nb,pw)).eraseIdxIfInBounds (i+1)) (gallopOf s) (failedOf s))
 let some k <- cB false (<- elem' (arrOf s) sb) (arrOf s) sa na 0|return false
 let (sa,na):=(sa+k,na-k)
 if na == 0 then return true
 let some nb <- cB true (<- elem' (arrOf s) (sa+na-1)) (arrOf s) sb nb (nb-1)|return false
 if nb == 0 then return true
 let x:=(arrOf s).extract sa sb
 let y:=(arrOf s).extract sb (sb+nb)
 let mgd <- if na<=nb then mi x y else mj x y
 modify fun s=>setArr s (mgd.toList.zipIdx.foldl (fun a (p,j)=>a.setIfInBounds (sa+j) p) (arrOf s))
 return (failedOf (<- get)).isNone):=rfl
theorem rH {sa:Nat}:∀(M:List Keyed) (n:Nat) (arr:Array Keyed),sa+n+M.length<=arr.size->((M.zipIdx n).foldl (fun a (pj:Keyed×Nat)=>a.setIfInBounds (sa+pj.2) pj.1) arr).toList=arr.toList.take (sa+n)++M++arr.toList.drop (sa+n+M.length)
 |[],n,arr,_=>by simp
 |x::M,n,arr,h=>by
  rw[List.zipIdx_cons,List.foldl_cons]
  simp only[qz]at h
  have ih:=rH (sa:=sa) M (n+1) (arr.setIfInBounds (sa+n) x) (by rw[Array.size_setIfInBounds];omega)
  rw[ih,Array.toList_setIfInBounds,List.set_eq_take_append_cons_drop,Q0 (by rw[qL];omega)]
  have ll:(arr.toList.take (sa+n)).length=sa+n:=by rw[qJ,qL];omega
  have e1:(arr.toList.take (sa+n)++x::arr.toList.drop (sa+n+1)).take (sa+(n+1))=arr.toList.take (sa+n)++[x]:=by
   rw[List.take_append,ll,List.take_of_length_le Qo,show sa+(n+1)-(sa+n)=1 by omega]
   rfl
  have e2:(arr.toList.take (sa+n)++x::arr.toList.drop (sa+n+1)).drop (sa+(n+1)+M.length)=arr.toList.drop (sa+n+(M.length+1)):=by
   rw[List.drop_append,ll,List.drop_of_length_le Qo,show sa+(n+1)+M.length-(sa+n)=M.length+1 by omega]
   show[]++(arr.toList.drop (sa+n+1)).drop M.length=_
   rw[List.drop_drop,List.nil_append]
   congr 1
   omega
  rw[e1,e2,qz,qM,qM,qM]
  rfl
section
variable {arr:Array Keyed}{P X Y R:List Keyed}
theorem sN (e:arr.toList=P++(X++R)):(arr.toList.drop P.length).take X.length=X:=by
 rw[e,List.drop_left,List.take_left]
theorem sO (e:arr.toList=P++(X++R)) {i:Nat}(h:i<X.length):arr[P.length+i]?=X[i]?:=by
 rw[<- qT,e,qK Qo,Nat.add_sub_cancel_left,List.getElem?_append_left h]
theorem Au (e:arr.toList=P++(X++R)) (k:Nat):(arr.extract (P.length+k) (P.length+X.length)).toList=X.drop k:=by
 rw[Array.toList_extract,List.extract_eq_take_drop,e,List.drop_append,List.drop_of_length_le Qo,show P.length+k-P.length=k by omega,List.nil_append,List.drop_append]
 rw[List.take_append,List.take_of_length_le (by rw[qY];omega),qY]
 rw[show P.length+X.length-(P.length+k)-(X.length-k)=0 by omega,List.take_zero,qw]
theorem At (e:arr.toList=P++(X++R)) {k:Nat}(h:k<=X.length):(arr.extract P.length (P.length+k)).toList=X.take k:=by
 rw[Array.toList_extract,List.extract_eq_take_drop,e,List.drop_left,Nat.add_sub_cancel_left,List.take_append_of_le_length h]
end
theorem vG (hO:κ.OneLt) {st:SortSt}(hk:kindOf st=oneType') (ok:∀p∈(arrOf st).toList,KOk κ p) (hf:failedOf st=none) {i sa na pw sb nb pw2:Nat}(p1:(pendingOf st)[i]?=some (sa,na,pw)) (p2:(pendingOf st)[i+1]?=some (sb,nb,pw2)) {P X Y R:List Keyed}(eL:(arrOf st).toList=P++(X++(Y++R))) (lp:P.length=sa) (lx:X.length=na) (ly:Y.length=nb) (es:sb=sa+na) (x0:0<na) (y0:0<nb) (sX:X.Pairwise (kLe κ)) (sY:Y.Pairwise (kLe κ)) {Q:Bool->SortSt->Prop}
 (q:∀M st',Mgd (kLe κ) (X++Y) M->(arrOf st').toList=P++(M++R)->kindOf st'=oneType'->failedOf st'=none->pendingOf st'=((pendingOf st).setIfInBounds i (sa,na+nb,pw)).eraseIdxIfInBounds (i+1)->Q true st'):wpS (model prog w) A E s (mergeAt' i) Q st:=by
 have eL2:(arrOf st).toList=(P++X)++(Y++R):=by rw[eL,qM]
 have lpx:(P++X).length=sb:=by rw[qa,lp,lx,es]
 have lall:(arrOf st).size=sa+na+nb+R.length:=by
  rw[<- qL,eL]
  simp only[qa]
  omega
 have okX:∀p∈X,KOk κ p:=fun p hp=>ok p (by rw[eL];simp[hp])
 have okY:∀p∈Y,KOk κ p:=fun p hp=>ok p (by rw[eL];simp[hp])
 rw[Ay]
 refine wpS_bind (wpS_get ?_)
 rw[p1,p2]
 dsimp only
 refine wpS_bind (vD ?_)
 generalize hst:SortSt.mk' (kindOf st) (arrOf st) (((pendingOf st).setIfInBounds i (sa,na+nb,pw)).eraseIdxIfInBounds (i+1)) (gallopOf st) (failedOf st)=st2
 have k2:kindOf st2=oneType':=by rw[<- hst];exact hk
 have a2:arrOf st2=arrOf st:=by rw[<- hst]
 have f2:failedOf st2=none:=by rw[<- hst];exact hf
 have pd2:pendingOf st2=((pendingOf st).setIfInBounds i (sa,na+nb,pw)).eraseIdxIfInBounds (i+1):=by rw[<- hst]
 clear hst
 obtain⟨y,Y',eY⟩:∃y Y',Y=y::Y':=by
  cases Y with
  |nil=>simp at ly;omega
  |cons y Y'=>exact⟨y,Y',rfl⟩
 have ey:(arrOf st)[sb]?=some y:=by
  have:=sO eL2 (i:=0) Qo
  rw[lpx,Nat.add_zero]at this
  rw[this,eY]
  rfl
 have yY:∀z∈Y,kLe κ y z:=by rw[eY]at sY ⊢;exact gX sY
 have my:y∈Y:=by rw[eY];simp
 have segX:((arrOf st).toList.drop sa).take na=X:=by rw[<- lp,<- lx];exact sN eL
 have segY:((arrOf st).toList.drop sb).take nb=Y:=by rw[<- lpx,<- ly];exact sN eL2
 refine wpS_bind (bG ey (wpS_bind (fg hO k2 (okY y my) ok Qo x0 (by rw[segX];exact sX) fun k kn h1 h2=>?_)))
 rw[segX]at h1 h2
 dsimp only
 have le1:∀x∈X.take k,kLe κ x y:=fun x hx=>by
  have this:(!κ.blt (ky κ y) (ky κ x))=true:=h1 x hx
  show κ.blt (ky κ y) (ky κ x)=false
  simpa using this
 have lt1:∀x∈X.drop k,kLt κ y x:=fun x hx=>by
  have this:(!κ.blt (ky κ y) (ky κ x))=false:=h2 x hx
  show κ.blt (ky κ y) (ky κ x)=true
  simpa using this
 by_cases c1:na-k=0
 ·rw[Q0 (by simpa using c1)]
  refine wpS_pure (q (X++Y) st2 ⟨List.Perm.refl _,List.pairwise_append.mpr ⟨sX,sY,fun x hx z hz=>?_⟩⟩ (by rw[a2,eL,qM]) k2 f2 pd2)
  rw[List.take_of_length_le Qo]at le1
  exact KeyOrd.kle_trans (le1 x hx) (yY z hz)
 ·rw[qZ (by simpa using c1)]
  obtain⟨X',x,eX⟩:∃X' x,X=X'++[x]:=by
   rcases List.eq_nil_or_concat X with e|⟨X',x,e⟩
   ·rw[e]at lx;simp at lx;omega
   ·exact⟨X',x,by rw[e,List.concat_eq_append]⟩
  have lX':X'.length=na-1:=by rw[eX,qa]at lx;simp at lx;omega
  have ex:(arrOf st)[sa+k+(na-k)-1]?=some x:=by
   have:=sO eL (i:=na-1) Qo
   rw[show sa+k+(na-k)-1=P.length+(na-1)by omega,this,eX,qK (by omega),lX',Nat.sub_self]
   rfl
  have xX:∀z∈X,kLe κ z x:=fun z hz=>by
   rw[eX]at sX hz
   rcases qg.mp hz with c|c
   ·exact(List.pairwise_append.mp sX).2.2 z c x (by simp)
   ·obtain rfl:=qS.mp c
    exact KeyOrd.kle_refl _
  have mx:x∈X:=by rw[eX];simp
  refine wpS_bind (bG ex (wpS_bind (fg hO k2 (okX x mx) ok Qo Qo (by rw[segY];exact sY) fun m mn h3 h4=>?_)))
  rw[segY]at h3 h4
  dsimp only
  have lt2:∀z∈Y.take m,kLt κ z x:=fun z hz=>h3 z hz
  have le2:∀z∈Y.drop m,kLe κ x z:=fun z hz=>h4 z hz
  by_cases c2:m=0
  ·rw[Q0 (by simpa using c2)]
   refine wpS_pure (q (X++Y) st2 ⟨List.Perm.refl _,List.pairwise_append.mpr ⟨sX,sY,fun u hu z hz=>?_⟩⟩ (by rw[a2,eL,qM]) k2 f2 pd2)
   rw[c2]at le2
   exact KeyOrd.kle_trans (xX u hu) (le2 z hz)
  ·rw[qZ (by simpa using c2)]
   have xl:((arrOf st).extract (sa+k) sb).toList=X.drop k:=by
    have:=Au eL k
    rw[lp,lx,<- es]at this
    exact this
   have yl:((arrOf st).extract sb (sb+m)).toList=Y.take m:=by
    have:=At eL2 (k:=m) Qo
    rw[lpx]at this
    exact this
   generalize (arrOf st).extract (sa+k) sb=xa at xl ⊢
   generalize (arrOf st).extract sb (sb+m)=yb at yl ⊢
   have zx:xa.size=na-k:=by rw[<- qL,xl,qY,lx]
   have zy:yb.size=m:=by rw[<- qL,yl,qJ,ly];omega
   have fstY:∀z,yb[0]?=some z->z=y:=fun z hz=>by
    rw[<- qT,yl,eY]at hz
    cases m with
    |zero=>exact absurd rfl c2
    |succ m=>exact(qI hz).symm
   have lstX:∀z,xa[xa.size-1]?=some z->z=x:=fun z hz=>by
    rw[<- qT,xl,List.getElem?_drop,zx,show k+(na-k-1)=na-1 by omega,eX,qK (by omega),lX',Nat.sub_self]at hz
    exact(qI hz).symm
   have kxa:∀p∈xa.toList,KOk κ p:=fun p hp=>okX p (List.mem_of_mem_drop (xl▸hp))
   have kyb:∀p∈yb.toList,KOk κ p:=fun p hp=>okY p (List.mem_of_mem_take (yl▸hp))
   have sxa:xa.toList.Pairwise (kLe κ):=by rw[xl];exact sX.sublist (List.drop_sublist _ _)
   have syb:yb.toList.Pairwise (kLe κ):=by rw[yl];exact sY.sublist (List.take_sublist _ _)
   have cont:∀r st',aY st2 st'->bu κ xa yb r->wpS (model prog w) A E s (do
    modify fun s=>setArr s (r.toList.zipIdx.foldl (fun a (p,j)=>a.setIfInBounds (sa+k+j) p) (arrOf s))
    let s <- get
    pure (failedOf s).isNone) Q st':=fun r st' ss hr=>by
    have a3:arrOf st'=arrOf st:=ss.2.1.trans a2
    have hr2:Mgd (kLe κ) (X.drop k++Y.take m) r.toList:=by
     have hr:Mgd (kLe κ) (xa.toList++yb.toList) r.toList:=hr
     rwa [xl,yl]at hr
    have lr:r.toList.length=na-k+m:=by
     rw[hr2.1.length_eq,qa,qY,qJ]
     omega
    refine wpS_bind (wpS_modify (wpS_bind (wpS_get (wpS_pure ?_))))
    have f4:failedOf st'=none:=ss.2.2.2.trans f2
    show Q (failedOf st').isNone _
    rw[f4]
    have pl:=rH (sa:=sa+k) r.toList 0 (arrOf st) (by rw[lr];omega)
    refine q (X.take k++(r.toList++Y.drop m)) _ ?_ ?_ (ss.1.trans k2) f4 (ss.2.2.1.trans pd2)
    ·refine⟨?_,?_⟩
     ·have p0:(X.take k++(r.toList++Y.drop m)).Perm (X.take k++((X.drop k++Y.take m)++Y.drop m)):=List.Perm.append_left _ (hr2.1.append_right _)
      refine p0.trans ?_
      rw[qM,List.take_append_drop,<- qM,List.take_append_drop]
     ·refine List.pairwise_append.mpr ⟨sX.sublist (List.take_sublist _ _),List.pairwise_append.mpr ⟨hr2.2,sY.sublist (List.drop_sublist _ _),fun u hu z hz=>?_⟩,fun u hu z hz=>?_⟩
      ·have hu:=hr2.1.mem_iff.mp hu
       rcases qg.mp hu with c|c
       ·exact KeyOrd.kle_trans (xX u (List.mem_of_mem_drop c)) (le2 z hz)
       ·exact KeyOrd.kle_trans (lt2 u c).le (le2 z hz)
      ·have yz:kLe κ u y:=le1 u hu
       rcases qg.mp hz with c|c
       ·have c:=hr2.1.mem_iff.mp c
        rcases qg.mp c with c|c
        ·exact KeyOrd.kle_trans yz (lt1 z c).le
        ·exact KeyOrd.kle_trans yz (yY z (List.mem_of_mem_take c))
       ·exact KeyOrd.kle_trans yz (yY z (List.mem_of_mem_drop c))
    ·show(r.toList.zipIdx.foldl (fun a (p,j)=>a.setIfInBounds (sa+k+j) p) (arrOf st')).toList=_
     rw[a3]
     refine Eq.trans pl ?_
     rw[Nat.add_zero,lr,eL]
     have e1:(P++(X++(Y++R))).take (sa+k)=P++X.take k:=by
      rw[List.take_append,lp,List.take_of_length_le Qo,show sa+k-sa=k by omega,List.take_append_of_le_length (by omega)]
     have e2:(P++(X++(Y++R))).drop (sa+k+(na-k+m))=Y.drop m++R:=by
      rw[<- qM,List.drop_append,lpx,List.drop_of_length_le Qo,show sa+k+(na-k+m)-sb=m by omega,List.nil_append,List.drop_append_of_le_length (by omega)]
     rw[e1,e2]
     simp only[qM]
   by_cases c3:na-k<=m
   ·rw[Q0 c3]
    refine wpS_bind (vE hO k2 ⟨kxa,kyb,Qo,Qo,fun z hz u hu=>by rw[lstX u hu];exact lt2 z (yl▸hz)⟩ sxa syb (fun z hz u hu=>by rw[fstY z hz];exact(lt1 u (xl▸hu)).le) fun r st' ss hr=>?_)
    exact cont r st' ss hr
   ·rw[qZ c3]
    refine wpS_bind (vF hO k2 ⟨kxa,kyb,Qo,Qo,fun u hu z hz=>by rw[fstY z hz];exact lt1 u (xl▸hu)⟩ sxa syb (fun z hz u hu=>by rw[lstX z hz];exact(lt2 u (yl▸hu)).le) fun r st' ss hr=>?_)
    exact cont r st' ss hr
end
section
variable {prog:Program}{w:World}{A:Around}{E:Qq}{s:Shared}{κ:KeyKind}
structure SBL (st0:SortSt) (lo:Nat) (st:SortSt):Prop where
 pm:(arrOf st).Perm (arrOf st0)
 lw:∀i,i<lo->(arrOf st)[i]?=(arrOf st0)[i]?
 kd:kindOf st=oneType'
 fl:failedOf st=failedOf st0
 pd:pendingOf st=pendingOf st0
section
variable {st0 st:SortSt}{lo:Nat}
theorem SBL.size (h:SBL st0 lo st):(arrOf st).size=(arrOf st0).size:=h.pm.size_eq
theorem SBL.put (h:SBL st0 lo st) {xs:Array Keyed}(p:xs.Perm (arrOf st)) (l:∀i,i<lo->xs[i]?=(arrOf st)[i]?):SBL st0 lo (setArr st xs):=⟨p.trans h.pm,fun i hi=>(l i hi).trans (h.lw i hi),h.kd,h.fl,h.pd⟩
theorem SBL.at (h:SBL st0 lo st) (ok:∀p∈(arrOf st0).toList,KOk κ p) {i:Nat}(hi:i<(arrOf st0).size):∃p,(arrOf st)[i]?=some p/\KOk κ p/\KK κ (arrOf st) i=ky κ p:=by
 have hi':i<(arrOf st).size:=by rw[h.size];exact hi
 have e:(arrOf st)[i]?=some (arrOf st)[i]:=getElem?_pos _ i hi'
 refine⟨_,e,ok _ ((Array.perm_iff_toList_perm.mp h.pm).mem_iff.mp (by simp)),KK_congr (e.trans rfl)⟩
theorem ff (hO:κ.OneLt) (h:SBL st0 lo st) (ok:∀p∈(arrOf st0).toList,KOk κ p) {i j:Nat}(hi:i<(arrOf st0).size) (hj:j<(arrOf st0).size) {Q:Option Bool->SortSt->Prop}(q:Q (some (κ.blt (KK κ (arrOf st) i) (KK κ (arrOf st) j))) st):wpS (model prog w) A E s (ltAt' i j) Q st:=by
 obtain⟨p,ep,⟨z,hz⟩,kp⟩:=h.at ok hi
 obtain⟨p',ep',⟨z',hz'⟩,kp'⟩:=h.at ok hj
 rw[kp,kp',jd hz,jd hz']at q
 exact wpS_ltAtK hO h.kd ep ep' hz hz' q
def bK (κ:KeyKind) (xs:Array Keyed) (lo n:Nat):Prop:=∀i j,i<=j->j<n->κ.kle (KK κ xs (lo+i)) (KK κ xs (lo+j))
def cD (κ:KeyKind) (xs:Array Keyed) (lo n:Nat):Prop:=∀i j,i<=j->j<n->κ.kle (KK κ xs (lo+j)) (KK κ xs (lo+i))
theorem bK.one {xs:Array Keyed}:bK κ xs lo 1:=fun i j ij j1=>by
 obtain rfl:i=j:=Qo
 exact KeyOrd.kle_refl _
theorem bK.more {xs:Array Keyed}{n:Nat}(h:bK κ xs lo n) (n0:0<n) (k:κ.kle (KK κ xs (lo+n-1)) (KK κ xs (lo+n))):bK κ xs lo (n+1):=fun i j ij jn=>by
 by_cases c:j<n
 ·exact h i j ij c
 ·obtain rfl:j=n:=by omega
  by_cases d:i=j
  ·subst d;exact KeyOrd.kle_refl _
  ·have:=h i (j-1) Qo Qo
   rw[show lo+(j-1)=lo+j-1 by omega]at this
   exact KeyOrd.kle_trans this k
theorem cD.more {xs:Array Keyed}{n:Nat}(h:cD κ xs lo n) (n0:0<n) (k:κ.kle (KK κ xs (lo+n)) (KK κ xs (lo+n-1))):cD κ xs lo (n+1):=fun i j ij jn=>by
 by_cases c:j<n
 ·exact h i j ij c
 ·obtain rfl:j=n:=by omega
  by_cases d:i=j
  ·subst d;exact KeyOrd.kle_refl _
  ·have:=h i (j-1) Qo Qo
   rw[show lo+(j-1)=lo+j-1 by omega]at this
   exact KeyOrd.kle_trans k this
theorem SBL.flip (h:SBL st0 lo st) {i j:Nat}(li:lo<=i) (hj:j<=(arrOf st0).size):SBL st0 lo (setArr st (mirror (arrOf st) i j ((j-i) / 2))):=by
 refine h.put (mirror_perm _ _ _ _) fun k hk=>?_
 rw[getElem?_mirror_all (by rw[h.size];exact hj),qZ Qo]
theorem ic {i j:Nat}{Q:PUnit->SortSt->Prop}(q:Q ⟨⟩ (setArr st (mirror (arrOf st) i j ((j-i) / 2)))):wpS (model prog w) A E s (reverseSlice' i j) Q st:=by
 rw[reverseSlice'_eq]
 exact wpS_modify q
def ng (lo n nrem:Nat):StateT SortSt Sem (Option Nat):=do
 let mut n:=n
 reverseSlice' lo (lo+n)
 for _ in[n:nrem] do
  let some sm <- ltAt' (lo+n) (lo+n-1)|return none
  if sm then break
  n:=n+1
 return some n
theorem nS (hO:κ.OneLt) (h:SBL st0 lo st) (ok:∀p∈(arrOf st0).toList,KOk κ p) {n nrem:Nat}(n1:1<=n) (nn:n<=nrem) (hz:lo+nrem<=(arrOf st0).size) (sd:cD κ (arrOf st) lo n) {Q:Option Nat->SortSt->Prop}(q:∀m st',SBL st0 lo st'->1<=m->m<=nrem->bK κ (arrOf st') lo m->Q (some m) st'):wpS (model prog w) A E s (ng lo n nrem) Q st:=by
 unfold ng
 refine wpS_bind (ic ?_)
 have h2:=h.flip (i:=lo) (j:=lo+n) (qd _) Qo
 have s2:bK κ (mirror (arrOf st) lo (lo+n) ((lo+n-lo) / 2)) lo n:=fun i j ij jn=>by
  rw[KK_mirror (by rw[h.size];omega),KK_mirror (by rw[h.size];omega),Q0 Qo,Q0 Qo]
  have:=sd (n-1-j) (n-1-i) Qo Qo
  rw[show lo+(n-1-i)=lo+(lo+n)-1-(lo+i)by omega,show lo+(n-1-j)=lo+(lo+n)-1-(lo+j)by omega]at this
  exact this
 have s2:bK κ (arrOf (setArr st (mirror (arrOf st) lo (lo+n) ((lo+n-lo) / 2)))) lo n:=s2
 generalize setArr st (mirror (arrOf st) lo (lo+n) ((lo+n-lo) / 2))=st2 at h2 s2 ⊢
 refine wpS_bind (wpS_mono (wpS_forRange (I:=fun x c st3=>st3=st2/\c=(none,x)/\bK κ (arrOf st2) lo x) (Q:=fun c st3=>st3=st2/\∃m,c=(none,m)/\1<=m/\m<=nrem/\bK κ (arrOf st2) lo m) ?_ ?_ ⟨rfl,rfl,s2⟩) ?_)
 ·rintro x c st3 hx1 hx2 ⟨rfl,rfl,s3⟩
  refine wpS_bind (ff hO h2 ok Qo Qo ?_)
  dsimp only
  cases e:κ.blt (KK κ (arrOf st3) (lo+x)) (KK κ (arrOf st3) (lo+x-1))with
  |true=>exact wpS_pure ⟨rfl,x,rfl,Qo,Qo,s3⟩
  |false=>exact wpS_pure ⟨rfl,rfl,s3.more Qo e⟩
 ·rintro c st3 ⟨rfl,rfl,s3⟩
  rw[show max n nrem=nrem by omega]at s3 ⊢
  exact⟨rfl,nrem,rfl,Qo,qd _,s3⟩
 ·rintro c st3 ⟨rfl,m,rfl,m1,m2,s3⟩
  exact wpS_pure (q m st3 h2 m1 m2 s3)
def uN (lo n nrem:Nat):StateT SortSt Sem (Option Nat):=do
 let mut n:=n
 rule "list.sort.descending-run"
 n:=n+1
 let mut neq:=0
 for _ in[n:nrem] do
  let some sm <- ltAt' (lo+n) (lo+n-1)|return none
  if sm then
   if neq > 0 then reverseSlice' (lo+n-(neq+1)) (lo+n)
   neq:=0
  else
   let some lg <- ltAt' (lo+n-1) (lo+n)|return none
   if lg then break
   neq:=neq+1
  n:=n+1
 if neq > 0 then reverseSlice' (lo+n-(neq+1)) (lo+n)
 ng lo n nrem
theorem eC {xs:Array Keyed}{i j:Nat}(hj:j<=xs.size) (h:∀k,i<=k->k<j->KK κ xs k=KK κ xs (j-1)) (k:Nat):KK κ (mirror xs i j ((j-i) / 2)) k=KK κ xs k:=KK_mirror_equal hj h k
theorem nU (hO:κ.OneLt) (h:SBL st0 lo st) (ok:∀p∈(arrOf st0).toList,KOk κ p) {n nrem:Nat}(nn:n+1<=nrem) (hz:lo+nrem<=(arrOf st0).size) (sd:cD κ (arrOf st) lo (n+1)) {Q:Option Nat->SortSt->Prop}(q:∀m st',SBL st0 lo st'->1<=m->m<=nrem->bK κ (arrOf st') lo m->Q (some m) st'):wpS (model prog w) A E s (uN lo n nrem) Q st:=by
 unfold uN
 refine wpS_bind (wpS_lift (wpAny_rule ⟨rfl,?_⟩))
 have same:∀{st':SortSt}{m neq:Nat},SBL st0 lo st'->lo+m<=(arrOf st0).size->neq+1<=m->(∀i,lo+m-(neq+1)<=i->i<lo+m->KK κ (arrOf st') i=KK κ (arrOf st') (lo+m-1))->cD κ (arrOf st') lo m->cD κ (arrOf (setArr st' (mirror (arrOf st') (lo+m-(neq+1)) (lo+m) ((lo+m-(lo+m-(neq+1))) / 2)))) lo m:=fun h' hm hq he hd i j ij jm=>by
  show κ.kle (KK κ (mirror _ _ _ _) _) (KK κ (mirror _ _ _ _) _)
  rw[eC (by rw[h'.size];exact hm) he,eC (by rw[h'.size];exact hm) he]
  exact hd i j ij jm
 refine wpS_bind (wpS_mono (wpS_forRange (I:=fun x c st'=>∃neq,c=(none,x,neq)/\SBL st0 lo st'/\cD κ (arrOf st') lo x/\neq+1<=x/\∀i,lo+x-(neq+1)<=i->i<lo+x->KK κ (arrOf st') i=KK κ (arrOf st') (lo+x-1)) (Q:=fun c st'=>∃m neq,c=(none,m,neq)/\SBL st0 lo st'/\n+1<=m/\m<=nrem/\cD κ (arrOf st') lo m/\neq+1<=m/\∀i,lo+m-(neq+1)<=i->i<lo+m->KK κ (arrOf st') i=KK κ (arrOf st') (lo+m-1)) ?_ ?_ ⟨0,rfl,h,sd,Qo,fun i i1 i2=>by congr 1;omega⟩) ?_)
 ·rintro x c st' hx1 hx2 ⟨neq,rfl,h',d',hq,he⟩
  dsimp only
  refine wpS_bind (ff hO h' ok Qo Qo ?_)
  dsimp only
  cases e:κ.blt (KK κ (arrOf st') (lo+x)) (KK κ (arrOf st') (lo+x-1))with
  |true=>
   rw[Q0 rfl]
   by_cases cq:neq > 0
   ·rw[Q0 cq]
    refine wpS_bind (ic (wpS_pure ⟨0,rfl,h'.flip Qo Qo,?_,Qo,fun i i1 i2=>by congr 1;omega⟩))
    have d2:=same h' Qo hq he d'
    refine cD.more d2 Qo ?_
    show κ.kle (KK κ (mirror _ _ _ _) _) (KK κ (mirror _ _ _ _) _)
    rw[eC (by rw[h'.size];omega) he,eC (by rw[h'.size];omega) he]
    exact KeyOrd.kle_of_klt e
   ·rw[qZ cq]
    exact wpS_pure ⟨0,rfl,h',d'.more Qo (KeyOrd.kle_of_klt e),Qo,fun i i1 i2=>by congr 1;omega⟩
  |false=>
   rw[qZ Qk]
   refine wpS_bind (ff hO h' ok Qo Qo ?_)
   dsimp only
   cases e2:κ.blt (KK κ (arrOf st') (lo+x-1)) (KK κ (arrOf st') (lo+x))with
   |true=>exact wpS_pure ⟨x,neq,rfl,h',Qo,Qo,d',hq,he⟩
   |false=>
    have eqx:KK κ (arrOf st') (lo+x)=KK κ (arrOf st') (lo+x-1):=KeyOrd.kle_antisymm e2 e
    refine wpS_pure ⟨neq+1,rfl,h',d'.more Qo e2,Qo,fun i i1 i2=>?_⟩
    rw[show lo+(x+1)-1=lo+x by omega]
    by_cases ix:i=lo+x
    ·rw[ix]
    ·rw[eqx]
     exact he i Qo Qo
 ·rintro c st' ⟨neq,rfl,h',d',hq,he⟩
  rw[show max (n+1) nrem=nrem by omega]at d' hq he ⊢
  exact⟨nrem,neq,rfl,h',nn,qd _,d',hq,he⟩
 ·rintro c st' ⟨m,neq,rfl,h',m1,m2,d',hq,he⟩
  dsimp only
  by_cases cq:neq > 0
  ·rw[Q0 cq]
   exact wpS_bind (ic (nS hO (h'.flip Qo Qo) ok Qo m2 hz (same h' Qo hq he d') q))
  ·rw[qZ cq]
   exact nS hO h' ok Qo m2 hz d' q
theorem vK (hO:κ.OneLt) (h:SBL st0 lo st) (ok:∀p∈(arrOf st0).toList,KOk κ p) {nrem:Nat}(n1:1<=nrem) (hz:lo+nrem<=(arrOf st0).size) {Q:Option Nat->SortSt->Prop}(q:∀m st',SBL st0 lo st'->1<=m->m<=nrem->bK κ (arrOf st') lo m->Q (some m) st'):wpS (model prog w) A E s (countRun' lo nrem) Q st:=by
 rw[countRun'_eq]
 refine wpS_bind (wpS_mono (wpS_forRange (I:=fun x c st3=>st3=st/\c=(none,x)/\bK κ (arrOf st) lo x) (Q:=fun c st3=>st3=st/\∃m,c=(none,m)/\1<=m/\m<=nrem/\bK κ (arrOf st) lo m/\(m=nrem\/κ.klt (KK κ (arrOf st) (lo+m)) (KK κ (arrOf st) (lo+m-1)))) ?_ ?_ ⟨rfl,rfl,bK.one⟩) ?_)
 ·rintro x c st3 hx1 hx2 ⟨rfl,rfl,s3⟩
  refine wpS_bind (ff hO h ok Qo Qo ?_)
  dsimp only
  cases e:κ.blt (KK κ (arrOf st3) (lo+x)) (KK κ (arrOf st3) (lo+x-1))with
  |true=>exact wpS_pure ⟨rfl,x,rfl,Qo,Qo,s3,.inr e⟩
  |false=>exact wpS_pure ⟨rfl,rfl,s3.more Qo e⟩
 ·rintro c st3 ⟨rfl,rfl,s3⟩
  rw[show max 1 nrem=nrem by omega]at s3 ⊢
  exact⟨rfl,nrem,rfl,n1,qd _,s3,.inl rfl⟩
 ·rintro c st3 ⟨rfl,m,rfl,m1,m2,s3,or3⟩
  dsimp only
  by_cases c1:m=nrem
  ·rw[Q0 (by simpa using c1)]
   exact wpS_pure (q m st3 h m1 m2 s3)
  ·rw[qZ (by simpa using c1)]
   have lt:=or3.resolve_left c1
   by_cases c2:m > 1
   ·rw[Q0 c2]
    refine wpS_bind (ff hO h ok Qo Qo ?_)
    dsimp only
    cases e:κ.blt (KK κ (arrOf st3) lo) (KK κ (arrOf st3) (lo+m-1))with
    |true=>exact wpS_pure (q m st3 h m1 m2 s3)
    |false=>
     have all:∀k,lo<=k->k<lo+m->KK κ (arrOf st3) k=KK κ (arrOf st3) (lo+m-1):=fun k k1 k2=>by
      have b1:=s3 0 (k-lo) Qo Qo
      have b2:=s3 (k-lo) (m-1) Qo Qo
      rw[show lo+(k-lo)=k by omega]at b1 b2
      rw[show lo+(m-1)=lo+m-1 by omega]at b2
      exact KeyOrd.kle_antisymm b2 (KeyOrd.kle_trans e b1)
     have d2:cD κ (arrOf (setArr st3 (mirror (arrOf st3) lo (lo+m) ((lo+m-lo) / 2)))) lo (m+1):=by
      have hs:lo+m<=(arrOf st3).size:=by rw[h.size];omega
      refine cD.more (fun i j ij jm=>?_) Qo ?_
      ·show κ.kle (KK κ (mirror _ _ _ _) _) (KK κ (mirror _ _ _ _) _)
       rw[eC hs all,eC hs all,all (lo+i) Qo Qo,all (lo+j) Qo Qo]
       exact KeyOrd.kle_refl _
      ·show κ.kle (KK κ (mirror _ _ _ _) _) (KK κ (mirror _ _ _ _) _)
       rw[eC hs all,eC hs all]
       exact KeyOrd.kle_of_klt lt
     exact wpS_bind (ic (nU hO (h.flip (qd _) Qo) ok Qo hz d2 q))
   ·rw[qZ c2]
    obtain rfl:m=1:=Qo
    refine nU hO h ok Qo hz (cD.more (fun i j ij jm=>?_) Qo (KeyOrd.kle_of_klt lt)) q
    obtain rfl:i=j:=Qo
    exact KeyOrd.kle_refl _
theorem vM (hO:κ.OneLt) (h:SBL st0 lo st) (ok:∀p∈(arrOf st0).toList,KOk κ p) {n m:Nat}(mn:m<=n) (hz:lo+n<=(arrOf st0).size) (so:bK κ (arrOf st) lo m) {Q:Bool->SortSt->Prop}(q:∀st',SBL st0 lo st'->bK κ (arrOf st') lo n->Q true st'):wpS (model prog w) A E s (binarySort' lo n m) Q st:=by
 rw[binarySort'_eq]
 refine wpS_bind (wpS_mono (wpS_forRange (I:=fun k c st'=>c=(none,())/\SBL st0 lo st'/\bK κ (arrOf st') lo (min k n)) (Q:=fun c st'=>c=(none,())/\SBL st0 lo st'/\bK κ (arrOf st') lo n) ?_ ?_ ⟨rfl,h,fun i j ij jm=>?_⟩) ?_)
 ·rintro k c st' hk1 hk2 ⟨rfl,h',s'⟩
  rw[show min k n=k by omega]at s'
  refine wpS_bind (wpS_mono (wpS_forRange (I:=fun x c st2=>st2=st'/\∃l r,c=(none,l,r)/\l<=r/\r<=k/\r-l<=k-x/\(∀i,i<l->κ.kle (KK κ (arrOf st') (lo+i)) (KK κ (arrOf st') (lo+k)))/\∀i,r<=i->i<k->κ.klt (KK κ (arrOf st') (lo+k)) (KK κ (arrOf st') (lo+i))) (Q:=fun c st2=>st2=st'/\∃l,c=(none,l,l)/\l<=k/\(∀i,i<l->κ.kle (KK κ (arrOf st') (lo+i)) (KK κ (arrOf st') (lo+k)))/\∀i,l<=i->i<k->κ.klt (KK κ (arrOf st') (lo+k)) (KK κ (arrOf st') (lo+i))) ?_ ?_ ⟨rfl,0,k,rfl,Qo,Qo,Qo,fun i hi=>Qo,fun i i1 i2=>Qo⟩) ?_)
  ·rintro x c st2 _ hx ⟨rfl,l,r,rfl,a1,a2,a3,a4,a5⟩
   dsimp only
   by_cases c1:l >= r
   ·rw[Q0 c1]
    obtain rfl:l=r:=Qo
    exact wpS_pure ⟨rfl,l,rfl,a2,a4,a5⟩
   ·rw[qZ c1]
    refine wpS_bind (ff hO h' ok Qo Qo ?_)
    dsimp only
    cases e:κ.blt (KK κ (arrOf st2) (lo+k)) (KK κ (arrOf st2) (lo+(l+r) / 2))with
    |true=>
     rw[Q0 rfl]
     exact wpS_pure ⟨rfl,l,(l+r) / 2,rfl,Qo,Qo,Qo,a4,fun i i1 i2=>KeyOrd.klt_of_klt_of_kle e (s' _ _ i1 i2)⟩
    |false=>
     rw[qZ Qk]
     exact wpS_pure ⟨rfl,(l+r) / 2+1,r,rfl,Qo,Qo,Qo,fun i i1=>KeyOrd.kle_trans (s' i ((l+r) / 2) Qo Qo) (show κ.kle _ _ from e),a5⟩
  ·rintro c st2 ⟨rfl,l,r,rfl,a1,a2,a3,a4,a5⟩
   obtain rfl:l=r:=Qo
   exact⟨rfl,l,rfl,a2,a4,a5⟩
  ·rintro c st2 ⟨rfl,l,rfl,a2,a4,a5⟩
   dsimp only
   rw[moveDown'_eq]
   have hs:lo+k<(arrOf st2).size:=by rw[h'.size];omega
   refine wpS_bind (wpS_modify (wpS_pure ⟨rfl,h'.put (bubble_perm _ _ _) fun i hi=>?_,?_⟩))
   ·rw[getElem?_bubble hs _ Qo]
    rw[qZ Qo,qZ Qo]
   ·rw[show min (k+1) n=k+1 by omega]
    intro i j ij jk
    show κ.kle (KK κ (bubble (arrOf st2) (lo+k) (lo+k-(lo+l))) (lo+i)) (KK κ (bubble (arrOf st2) (lo+k) (lo+k-(lo+l))) (lo+j))
    rw[KK_bubble hs Qo,KK_bubble hs Qo,show lo+k-(lo+k-(lo+l))=lo+l by omega]
    have idx:∀z,lo+z-1=lo+(z-1)\/z=0:=fun z=>Qo
    repeat' split
    all_goals first
     |(exfalso;omega)
     |exact KeyOrd.kle_refl _
     |exact a4 _ Qo
     |exact KeyOrd.kle_of_klt (a5 _ Qo Qo)
     |exact s' _ _ Qo Qo
     |(rw[show lo+i-1=lo+(i-1)by omega,show lo+j-1=lo+(j-1)by omega];exact s' _ _ (by omega) (by omega))
     |(rw[show lo+j-1=lo+(j-1)by omega];first|exact s' _ _ (by omega) (by omega)|exact KeyOrd.kle_of_klt (a5 _ Qo Qo))
     |(rw[show lo+i-1=lo+(i-1)by omega];first|exact s' _ _ (by omega) (by omega)|exact a4 _ (by omega))
 ·rintro c st' ⟨hc,h',s'⟩
  refine⟨hc,h',?_⟩
  rwa [show min (max (max m 1) n) n=n by omega]at s'
 ·by_cases c:m=0
  ·obtain rfl:i=j:=by omega
   exact KeyOrd.kle_refl _
  ·exact so i j ij Qo
 ·rintro c st' ⟨rfl,h',s'⟩
  exact wpS_pure (q st' h' s')
end
end
section
variable {prog:Program}{w:World}{A:Around}{E:Qq}{s:Shared}{κ:KeyKind}
def bp (κ:KeyKind):Nat->List (Nat×Nat×Nat)->List (List Keyed)->Prop
 |_,[],[]=>True
 |b,t::r,X::Xs=>t.1=b/\t.2.1=X.length/\0<X.length/\X.Pairwise (kLe κ)/\bp κ (b+X.length) r Xs
 |_,_,_=>False
theorem bp.len:∀{b:Nat}{p:List (Nat×Nat×Nat)}{Xs:List (List Keyed)},bp κ b p Xs->p.length=Xs.length
 |_,[],[],_=>rfl
 |_,_::_,_::_,h=>congrArg (·+1) (bp.len h.2.2.2.2)
theorem bp.few:∀{b:Nat}{p:List (Nat×Nat×Nat)}{Xs:List (List Keyed)},bp κ b p Xs->Xs.length<=Xs.flatten.length
 |_,[],[],_=>qd _
 |_,_::_,X::Xs,h=>by
  have:=bp.few h.2.2.2.2
  have:=h.2.2.1
  rw[List.flatten_cons,qa,qz]
  omega
theorem bp.snoc {X:List Keyed}{n w:Nat}(h0:0<X.length) (hn:n=X.length) (hs:X.Pairwise (kLe κ)):∀{b:Nat}{p:List (Nat×Nat×Nat)}{Xs:List (List Keyed)}{lo:Nat},bp κ b p Xs->lo=b+Xs.flatten.length->bp κ b (p++[(lo,n,w)]) (Xs++[X])
 |b,[],[],lo,_,e=>⟨e,hn,h0,hs,trivial⟩
 |b,t::r,Y::Xs,lo,h,e=>⟨h.1,h.2.1,h.2.2.1,h.2.2.2.1,bp.snoc h0 hn hs h.2.2.2.2 (by rw[e,List.flatten_cons,qa];omega)⟩
theorem bp.alike:∀{b:Nat}{p p':List (Nat×Nat×Nat)}{Xs:List (List Keyed)},p.map (fun t=>(t.1,t.2.1))=p'.map (fun t=>(t.1,t.2.1))->bp κ b p Xs->bp κ b p' Xs
 |_,[],[],[],_,_=>trivial
 |_,t::r,t'::r',X::Xs,e,h=>by
  rw[qR,qR]at e
  obtain⟨e1,e2⟩:=List.cons.inj e
  have e3:t.1=t'.1:=congrArg (·.1) e1
  have e4:t.2.1=t'.2.1:=congrArg (·.2) e1
  exact⟨e3.symm.trans h.1,e4.symm.trans h.2.1,h.2.2.1,h.2.2.2.1,bp.alike e2 h.2.2.2.2⟩
theorem bp.two:∀{i b:Nat}{p:List (Nat×Nat×Nat)}{Xs:List (List Keyed)},bp κ b p Xs->i+1<p.length->∃pa sa na pw sb nb pw2 pb,∃(C:List (List Keyed)) (X Y:List Keyed) (D:List (List Keyed)),p=pa++(sa,na,pw)::(sb,nb,pw2)::pb/\pa.length=i/\Xs=C++X::Y::D/\sa=b+C.flatten.length/\na=X.length/\sb=sa+na/\nb=Y.length/\0<na/\0<nb/\X.Pairwise (kLe κ)/\Y.Pairwise (kLe κ)/\∀M:List Keyed,M.length=na+nb->M.Pairwise (kLe κ)->bp κ b (pa++(sa,na+nb,pw)::pb) (C++M::D)
 |0,b,(sa,na,pw)::(sb,nb,pw2)::pb,X::Y::D,h,_=>by
  obtain⟨h1,h2,h3,h4,g1,g2,g3,g4,g5⟩:=h
  have h1:sa=b:=h1
  have h2:na=X.length:=h2
  have g1:sb=b+X.length:=g1
  have g2:nb=Y.length:=g2
  refine⟨[],sa,na,pw,sb,nb,pw2,pb,[],X,Y,D,rfl,rfl,rfl,by rw[h1];rfl,h2,Qo,g2,Qo,Qo,h4,g4,fun M l sM=>⟨h1,l.symm,Qo,sM,?_⟩⟩
  rw[l,h2,g2,<- Nat.add_assoc]
  exact g5
 |0,_,[_],_,_,h=>by simp at h
 |0,_,(_::_::_),[_],h,_=>by
  exact absurd h.2.2.2.2 (by simp[bp])
 |i+1,b,t::r,Z::Xs,h,hi=>by
  obtain⟨h1,h2,h3,h4,h5⟩:=h
  obtain⟨pa,sa,na,pw,sb,nb,pw2,pb,C,X,Y,D,e1,e2,e3,e4,e5,e6,e7,e8,e9,e10,e11,e12⟩:=bp.two (i:=i) h5 (by simpa using hi)
  refine⟨t::pa,sa,na,pw,sb,nb,pw2,pb,Z::C,X,Y,D,by rw[e1];rfl,by rw[qz,e2],by rw[e3];rfl,by rw[e4,List.flatten_cons,qa];omega,e5,e6,e7,e8,e9,e10,e11,fun M l sM=>⟨h1,h2,h3,h4,e12 M l sM⟩⟩
structure SI (κ:KeyKind) (a₀:Array Keyed) (st:SortSt) (Xs:List (List Keyed)) (R:List Keyed):Prop where
 kd:kindOf st=oneType'
 fl:failedOf st=none
 pm:(arrOf st).toList.Perm a₀.toList
 eL:(arrOf st).toList=Xs.flatten++R
 ru:bp κ 0 (pendingOf st).toList Xs
section
variable {a₀:Array Keyed}{st:SortSt}{Xs:List (List Keyed)}{R:List Keyed}
theorem SI.size (h:SI κ a₀ st Xs R):Xs.flatten.length+R.length=a₀.size:=by
 have:=h.pm.length_eq
 rw[h.eL,qa,qL]at this
 exact this
theorem jI (hO:κ.OneLt) (ok:∀p∈a₀.toList,KOk κ p) (h:SI κ a₀ st Xs R) {i:Nat}(hi:i+1<(pendingOf st).size) {Q:Bool->SortSt->Prop}(q:∀st' Xs',SI κ a₀ st' Xs' R->Xs'.length+1=Xs.length->Xs'.flatten.length=Xs.flatten.length->Q true st'):wpS (model prog w) A E s (mergeAt' i) Q st:=by
 obtain⟨pa,sa,na,pw,sb,nb,pw2,pb,C,X,Y,D,e1,e2,e3,e4,e5,e6,e7,e8,e9,e10,e11,e12⟩:=h.ru.two (i:=i) (by rw[qL];exact hi)
 have p1:(pendingOf st)[i]?=some (sa,na,pw):=by
  rw[<- qT,e1,qK Qo,e2,Nat.sub_self]
  rfl
 have p2:(pendingOf st)[i+1]?=some (sb,nb,pw2):=by
  rw[<- qT,e1,qK Qo,e2,show i+1-i=1 by omega]
  rfl
 have eL:(arrOf st).toList=C.flatten++(X++(Y++(D.flatten++R))):=by
  rw[h.eL,e3]
  simp only[List.flatten_append,List.flatten_cons,qM]
 refine vG hO h.kd (fun p hp=>ok p (h.pm.mem_iff.mp hp)) h.fl p1 p2 eL (by rw[e4,Nat.zero_add]) e5.symm e7.symm e6 e8 e9 e10 e11 fun M st' hM eM kd' fl' pd'=>?_
 have lM:M.length=na+nb:=by rw[hM.1.length_eq,qa,e5,e7]
 refine q st' (C++M::D) ⟨kd',fl',?_,?_,?_⟩ ?_ ?_
 ·refine List.Perm.trans ?_ h.pm
  rw[eM,eL]
  refine List.Perm.append_left _ ?_
  rw[<- qM X Y]
  exact hM.1.append_right _
 ·rw[eM]
  simp only[List.flatten_append,List.flatten_cons,qM]
 ·have:(pendingOf st').toList=pa++(sa,na+nb,pw)::pb:=by
   rw[pd',Array.toList_eraseIdxIfInBounds,Array.toList_setIfInBounds,e1,<- e2,List.set_append_right _ _ (qd _),Nat.sub_self,List.eraseIdx_append_of_length_le Qo,show pa.length+1-pa.length=1 by omega]
   rfl
  rw[this]
  exact e12 M lM hM.2
 ·rw[e3]
  simp only[qa,qz]
  omega
 ·rw[e3]
  simp only[List.flatten_append,List.flatten_cons,qa,lM,e5,e7]
  omega
end
theorem xx {xs:Array Keyed}{lo n:Nat}(hz:lo+n<=xs.size) (h:bK κ xs lo n):((xs.toList.drop lo).take n).Pairwise (kLe κ):=by
 rw[List.pairwise_iff_getElem]
 intro i j hi hj ij
 rw[qJ,qY,qL]at hi hj
 rw[List.getElem_take,List.getElem_take,List.getElem_drop,List.getElem_drop]
 have:=h i j Qo Qo
 have k:∀i (hi:lo+i<xs.toList.length),KK κ xs (lo+i)=ky κ (xs.toList[lo+i]):=fun i hi=>KK_congr (by
  rw[<- qT,qb hi]
  rfl)
 rw[k i (by rw[qL];omega),k j (by rw[qL];omega)]at this
 exact this
theorem SBL.tail {st0 st:SortSt}{lo:Nat}(h:SBL st0 lo st) {P R:List Keyed}(e:(arrOf st0).toList=P++R) (l:P.length=lo):(arrOf st).toList=P++(arrOf st).toList.drop lo/\((arrOf st).toList.drop lo).Perm R:=by
 have t:(arrOf st).toList.take lo=P:=by
  apply List.ext_getElem?
  intro i
  by_cases c:i<lo
  ·rw[List.getElem?_take_of_lt c,qT,h.lw i c,<- qT,e,List.getElem?_append_left Qo]
  ·rw[List.getElem?_eq_none (by rw[qJ];omega),List.getElem?_eq_none Qo]
 have e2:(arrOf st).toList=P++(arrOf st).toList.drop lo:=by
  conv=>lhs;rw[<- List.take_append_drop lo (arrOf st).toList]
  rw[t]
 refine⟨e2,?_⟩
 have:=Array.perm_iff_toList_perm.mp h.pm
 rw[e,e2]at this
 exact(List.perm_append_left_iff P).mp this
theorem sL {p:Array (Nat×Nat×Nat)}{i w:Nat}:((p.modify i fun(st,len,_)=>(st,len,w)).toList).map (fun t=>(t.1,t.2.1))=p.toList.map (fun t=>(t.1,t.2.1)):=by
 rw[Array.toList_modify]
 apply List.ext_getElem?
 intro j
 rw[qD,qD,List.getElem?_modify]
 cases p.toList[j]? with
 |none=>rfl
 |some t=>
  by_cases c:i=j
  ·simp[c]
  ·simp[c]
theorem SBL.refl {st:SortSt}{lo:Nat}(h:kindOf st=oneType'):SBL st lo st:=⟨Array.Perm.refl _,fun _ _=>rfl,h,rfl,rfl⟩
section
variable {a₀:Array Keyed}{st:SortSt}{Xs:List (List Keyed)}{R:List Keyed}{lo n:Nat}
theorem SI.push (h:SI κ a₀ st Xs R) (el:Xs.flatten.length=lo) (n0:0<n) (nl:n<=R.length) (so:(R.take n).Pairwise (kLe κ)):SI κ a₀ (setPending st ((pendingOf st).push (lo,n,0))) (Xs++[R.take n]) (R.drop n)/\(Xs++[R.take n]).flatten.length=lo+n:=by
 have lt:(R.take n).length=n:=by rw[qJ];omega
 refine⟨⟨h.kd,h.fl,h.pm,?_,?_⟩,?_⟩
 ·show(arrOf st).toList=_
  rw[h.eL,List.flatten_append,qM]
  show _=Xs.flatten++((R.take n++[])++R.drop n)
  rw[qw,List.take_append_drop]
 ·show bp κ 0 ((pendingOf st).push (lo,n,0)).toList _
  rw[Array.toList_push]
  exact bp.snoc Qo lt.symm so h.ru (by rw[el,Nat.zero_add])
 ·rw[List.flatten_append,qa,el]
  show lo+(R.take n++[]).length=_
  rw[qw,lt]
end
theorem wT {xs:Array Keyed}(h:xs.toList.Pairwise (kLe κ)):SortedToK κ xs xs.size:=fun i j ij js=>by
 have k:∀i (hi:i<xs.toList.length),KK κ xs i=ky κ (xs.toList[i]):=fun i hi=>KK_congr (by
  rw[<- qT,qb hi]
  rfl)
 have lj:j<xs.toList.length:=by rw[qL];exact js
 rcases Nat.lt_or_eq_of_le ij with c|rfl
 ·rw[k i Qo,k j lj]
  exact List.pairwise_iff_getElem.mp h i j Qo lj c
 ·exact KeyOrd.kle_refl _
theorem vC {a₀:Array Keyed}{st:SortSt}{Q:Unit->SortSt->Prop}(hO:κ.OneLt) (ok:∀p∈a₀.toList,KOk κ p) (k0:kindOf st=oneType') (f0:failedOf st=none) (p0:pendingOf st=#[]) (e0:arrOf st=a₀) (h2:2<=a₀.size) (q:∀st',(arrOf st').Perm a₀->failedOf st'=none->SortedToK κ (arrOf st') a₀.size->Q () st'):wpS (model prog w) A E s sortRuns' Q st:=by
 rw[sortRuns'_eq]
 refine wpS_bind (wpS_get ?_)
 dsimp only
 rw[e0]
 refine wpS_bind (wpS_mono (wpS_forRange (I:=fun x c st'=>∃lo Xs R,c=(none,lo)/\SI κ a₀ st' Xs R/\Xs.flatten.length=lo/\x<=lo) (Q:=fun c st'=>∃lo Xs,c=(none,lo)/\SI κ a₀ st' Xs []) ?_ ?_ ⟨0,[],a₀.toList,rfl,⟨k0,f0,by rw[e0],by rw[e0];rfl,by rw[p0];trivial⟩,rfl,qd _⟩) ?_)
 ·rintro x c st' _ hx ⟨lo,Xs,R,rfl,h,el,xl⟩
  dsimp only
  have sz:=h.size
  by_cases c1:lo >= a₀.size
  ·rw[Q0 c1]
   obtain rfl:R=[]:=List.length_eq_zero_iff.mp Qo
   exact wpS_pure ⟨lo,Xs,rfl,h⟩
  ·rw[qZ c1]
   have za:(arrOf st').size=a₀.size:=by rw[<- qL,h.pm.length_eq,qL]
   refine wpS_bind (vK hO (SBL.refl h.kd) (fun p hp=>ok p (h.pm.mem_iff.mp hp)) Qo Qo fun m st2 b2 m1 m2 s2=>?_)
   dsimp only
   have cont:∀n st2,SBL st' lo st2->1<=n->n<=a₀.size-lo->bK κ (arrOf st2) lo n->SI κ a₀ st2 Xs ((arrOf st2).toList.drop lo)/\n<=((arrOf st2).toList.drop lo).length/\(((arrOf st2).toList.drop lo).take n).Pairwise (kLe κ):=fun n st2 b2 n1 n2 s2=>by
    obtain⟨t1,t2⟩:=b2.tail h.eL el
    have z2:(arrOf st2).size=a₀.size:=b2.size.trans za
    refine⟨⟨b2.kd,b2.fl.trans h.fl,(Array.perm_iff_toList_perm.mp b2.pm).trans h.pm,t1,by rw[b2.pd];exact h.ru⟩,by rw[qY,qL];omega,xx Qo s2⟩
   by_cases c2:m<minRun' a₀.size a₀.size 0
   ·rw[Q0 c2]
    refine wpS_bind (wpS_lift (wpAny_rule ⟨rfl,?_⟩))
    refine wpS_bind (vM hO b2 (fun p hp=>ok p (h.pm.mem_iff.mp hp)) Qo Qo s2 fun st3 b3 s3=>?_)
    rw[qZ Qk]
    obtain⟨h3,l3,p3⟩:=cont _ st3 b3 Qo Qo s3
    refine wpS_bind (wpS_get ?_)
    cases(pendingOf st3).back? with
    |none=>
     dsimp only
     obtain⟨h4,e4⟩:=h3.push el Qo l3 p3
     exact wpS_bind (wpS_modify (wpS_pure ⟨_,_,_,rfl,h4,e4,Qo⟩))
    |some t=>
     obtain⟨u,v,z⟩:=t
     dsimp only
     generalize power' a₀.size (2 * u+v) _ a₀.size=pw
     refine wpS_bind (wpS_mono (wpS_forRange (I:=fun _ c st4=>c=(none,())/\∃X4,SI κ a₀ st4 X4 ((arrOf st3).toList.drop lo)/\X4.flatten.length=lo) (Q:=fun c st4=>c=(none,())/\∃X4,SI κ a₀ st4 X4 ((arrOf st3).toList.drop lo)/\X4.flatten.length=lo) ?_ (fun c st4 hh=>hh) ⟨rfl,Xs,h3,el⟩) ?_)
     ·rintro y c st4 _ _ ⟨rfl,X4,h4,e4⟩
      refine wpS_bind (wpS_get ?_)
      by_cases c3:(pendingOf st4).size > 1
      ·rw[Q0 c3,getElem?_pos (pendingOf st4) ((pendingOf st4).size-2) Qo]
       dsimp only
       by_cases c4:((pendingOf st4)[(pendingOf st4).size-2]' Qo).2.2<=pw
       ·rw[Q0 c4]
        exact wpS_pure ⟨rfl,X4,h4,e4⟩
       ·rw[qZ c4]
        refine wpS_bind (jI hO ok h4 Qo fun st5 X5 h5 _ e5=>?_)
        exact wpS_pure ⟨rfl,X5,h5,e5.trans e4⟩
      ·rw[qZ c3]
       exact wpS_pure ⟨rfl,X4,h4,e4⟩
     ·rintro c st4 ⟨rfl,X4,h4,e4⟩
      dsimp only
      refine wpS_bind (wpS_modify ?_)
      have h5:SI κ a₀ (setPending st4 ((pendingOf st4).modify ((pendingOf st4).size-1) fun x=>(x.1,x.2.1,pw))) X4 ((arrOf st3).toList.drop lo):=⟨h4.kd,h4.fl,h4.pm,h4.eL,bp.alike sL.symm h4.ru⟩
      obtain⟨h6,e6⟩:=h5.push e4 Qo l3 p3
      exact wpS_bind (wpS_modify (wpS_pure ⟨_,_,_,rfl,h6,e6,Qo⟩))
   ·rw[qZ c2]
    obtain⟨h3,l3,p3⟩:=cont _ st2 b2 m1 m2 s2
    refine wpS_bind (wpS_get ?_)
    cases(pendingOf st2).back? with
    |none=>
     dsimp only
     obtain⟨h4,e4⟩:=h3.push el Qo l3 p3
     exact wpS_bind (wpS_modify (wpS_pure ⟨_,_,_,rfl,h4,e4,Qo⟩))
    |some t=>
     obtain⟨u,v,z⟩:=t
     dsimp only
     generalize power' a₀.size (2 * u+v) _ a₀.size=pw
     refine wpS_bind (wpS_mono (wpS_forRange (I:=fun _ c st4=>c=(none,())/\∃X4,SI κ a₀ st4 X4 ((arrOf st2).toList.drop lo)/\X4.flatten.length=lo) (Q:=fun c st4=>c=(none,())/\∃X4,SI κ a₀ st4 X4 ((arrOf st2).toList.drop lo)/\X4.flatten.length=lo) ?_ (fun c st4 hh=>hh) ⟨rfl,Xs,h3,el⟩) ?_)
     ·rintro y c st4 _ _ ⟨rfl,X4,h4,e4⟩
      refine wpS_bind (wpS_get ?_)
      by_cases c3:(pendingOf st4).size > 1
      ·rw[Q0 c3,getElem?_pos (pendingOf st4) ((pendingOf st4).size-2) Qo]
       dsimp only
       by_cases c4:((pendingOf st4)[(pendingOf st4).size-2]' Qo).2.2<=pw
       ·rw[Q0 c4]
        exact wpS_pure ⟨rfl,X4,h4,e4⟩
       ·rw[qZ c4]
        refine wpS_bind (jI hO ok h4 Qo fun st5 X5 h5 _ e5=>?_)
        exact wpS_pure ⟨rfl,X5,h5,e5.trans e4⟩
      ·rw[qZ c3]
       exact wpS_pure ⟨rfl,X4,h4,e4⟩
     ·rintro c st4 ⟨rfl,X4,h4,e4⟩
      dsimp only
      refine wpS_bind (wpS_modify ?_)
      have h5:SI κ a₀ (setPending st4 ((pendingOf st4).modify ((pendingOf st4).size-1) fun x=>(x.1,x.2.1,pw))) X4 ((arrOf st2).toList.drop lo):=⟨h4.kd,h4.fl,h4.pm,h4.eL,bp.alike sL.symm h4.ru⟩
      obtain⟨h6,e6⟩:=h5.push e4 Qo l3 p3
      exact wpS_bind (wpS_modify (wpS_pure ⟨_,_,_,rfl,h6,e6,Qo⟩))
 ·rintro c st' ⟨lo,Xs,R,rfl,h,el,xl⟩
  have sz:=h.size
  obtain rfl:R=[]:=List.length_eq_zero_iff.mp Qo
  exact⟨lo,Xs,rfl,h⟩
 ·rintro c st' ⟨lo,Xs,rfl,h⟩
  dsimp only
  have few:=h.ru.few
  have sz:=h.size
  rw[List.length_nil]at sz
  refine wpS_bind (wpS_mono (wpS_forRange (I:=fun x c st2=>c=(none,())/\∃Xs,SI κ a₀ st2 Xs []/\(Xs.length<=1\/Xs.length+x<=a₀.size)) (Q:=fun c st2=>c=(none,())/\∃Xs,SI κ a₀ st2 Xs []/\Xs.length<=1) ?_ ?_ ⟨rfl,Xs,h,.inr Qo⟩) ?_)
  ·rintro x c st2 _ hx ⟨rfl,X2,h2,or2⟩
   refine wpS_bind (wpS_get ?_)
   have l2:=h2.ru.len
   rw[qL]at l2
   by_cases c1:(pendingOf st2).size<=1
   ·rw[Q0 c1]
    exact wpS_pure ⟨rfl,X2,h2,Qo⟩
   ·rw[qZ c1]
    have iok:∀(c:Prop) [Decidable c],(if c then(pendingOf st2).size-2-1 else(pendingOf st2).size-2)+1<(pendingOf st2).size:=fun c _=>by split<;>omega
    refine wpS_bind (jI hO ok h2 (iok _) fun st3 X3 h3 e3 _=>?_)
    exact wpS_pure ⟨rfl,X3,h3,Qo⟩
  ·rintro c st2 ⟨rfl,X2,h2,or2⟩
   exact⟨rfl,X2,h2,Qo⟩
  ·rintro c st2 ⟨rfl,X2,h2,l2⟩
   refine wpS_pure (q st2 (Array.perm_iff_toList_perm.mpr h2.pm) h2.fl ?_)
   have z2:(arrOf st2).size=a₀.size:=by rw[<- qL,h2.pm.length_eq,qL]
   rw[<- z2]
   refine wT ?_
   rw[h2.eL,qw]
   match X2,h2,l2 with
   |[],_,_=>exact List.Pairwise.nil
   |[X],h2,_=>
    have r:=h2.ru
    cases ep:(pendingOf st2).toList with
    |nil=>rw[ep]at r;exact absurd r (by simp[bp])
    |cons t tr=>
     rw[ep]at r
     have:=r.2.2.2.1
     show(X++[]).Pairwise (kLe κ)
     rw[qw]
     exact this
end
section
variable {prog:Program}{w:World}{A:Around}{E:Qq}{s:Shared}
theorem wV {κ:KeyKind}(hO:κ.OneLt) {l:Addr}{us:List Value}{n:Nat}{P:Fin->Shared->Prop}(at0:s.heap.get? l=some (seqObj "list" us.toArray n)) (ks:KeysOf κ (pairsOf us)) (one:∀u v r,us=u::v::r->keyKind' (u::v::r).toArray=pure oneType') (lim:us.length<=100000)
 (fin:∀z:SortSt,(arrOf z).Perm (pairsOf us)->SortedToK κ (arrOf z) (pairsOf us).size->P (.done (.ret .none)) { s with heap:=sortedHeap s.heap l us ((arrOf z).map (·.2)) }):
 wpAny (model prog w) A (Builtin.«list.sort» ⟨[.ref l],[]⟩) P E s:=by
 have big:(100000:Nat)<=sizeLine:=Qk
 by_cases h64:us.length<64
 ·exact list_sort_treeK hO at0 ks one h64 fin
 have lt:=qp at0
 have sz:us.toArray.size=us.length:=qA
 rw[list_sort_plain]
 refine q4 (listItems_at at0 rfl (q4 (listUpdate_at at0 rfl ?_)))
 obtain⟨ep,at1⟩:∃ep,(s.heap.update l (Obj.mapSeq fun _=>#[])).get? l=some (seqObj "list" #[] ep):=⟨_,get?_update_seq at0 (fun _=>#[])⟩
 refine q4 (seqEpoch_at at1 rfl (q4 (wpAny_newTuple (q4 (wpAny_newList (wpAny_holding ?_)))) ))
 have at2:(((s.heap.update l (Obj.mapSeq fun _=>#[])).push (seqObj "tuple" us.toArray 0)).push (seqObj "list" #[] 0)).get? l=some (seqObj "list" #[] ep):=by
  rw[Heap.get?_push_ne _ _ _ (by rw[size_push',Heap.size_update];exact qF (Nat.lt_succ_of_lt lt)),Heap.get?_push_ne _ _ _ (by rw[Heap.size_update];exact qF lt)]
  exact at1
 show wpAny (model prog w) A _ P E { s with heap:=((s.heap.update l (Obj.mapSeq fun _=>#[])).push (seqObj "tuple" us.toArray 0)).push (seqObj "list" #[] 0) }
 dsimp only
 have two:¬ us.toArray.size<2:=Qo
 rw[qZ two,qZ two]
 obtain⟨u,v,r,rfl⟩:∃u v r,us=u::v::r:=by
  match us,sz,two with
  |[],_,h=>simp at h
  |[_],_,h=>simp at h
  |u::v::r,_,_=>exact⟨u,v,r,rfl⟩
 rw[one _ _ _ rfl]
 refine q4 (qc ?_)
 refine q4 (wpAny_mono (vC (κ:=κ) (a₀:=pairsOf (u::v::r)) (st:=SortSt.mk' oneType' ((u::v::r).toArray.zip (u::v::r).toArray) #[] 7 none) (Q:=fun _ z=>(arrOf z).Perm (pairsOf (u::v::r))/\failedOf z=none/\SortedToK κ (arrOf z) (pairsOf (u::v::r)).size)
  hO ks rfl rfl rfl rfl (by rw[pairsOf_size];simp) fun z z1 z2 z3=>⟨z1,z2,z3⟩) ?_ fun _ _ e=>e)
 rintro⟨⟨⟩,z⟩ s' ⟨rfl,zp,zf,zs⟩
 dsimp only
 refine q4 (seqEpoch_at at2 rfl (q4 (listUpdate_at at2 rfl ?_ (hsz2:=by
  refine qx (Nat.le_of_eq ((Array.size_map ..).trans (zp.size_eq.trans (pairsOf_size _)))) ?_
  omega))))
 rw[zf]
 simp only[bne_self_eq_false,Bool.false_eq_true,if_false]
 exact qc (fin z zp zs)
end
section
variable {P:Program}{w:World}{A:Around}{E:Qq}{s:Shared}
end
section
variable {X:Cx}
end
end L2
namespace L2
open PySem
def fn5:Nat->Nat->Nat
 |0,x=>x
 |n+1,x=>fn5 n (5 * x+1)
theorem u4:∀(a b x:Nat),fn5 (a+b) x=fn5 b (fn5 a x)
 |0,b,x=>by rw[Nat.zero_add];rfl
 |a+1,b,x=>by rw[Nat.succ_add];exact u4 a b _
theorem tZ:∀(n x:Nat),4 * fn5 n x+1=5 ^ n * (4 * x+1)
 |0,x=>by simp[fn5]
 |n+1,x=>by
  show 4 * fn5 n (5 * x+1)+1=_
  rw[tZ n,Nat.pow_succ,Nat.mul_assoc]
  congr 1
  omega
theorem uc:∀k:Nat,∃c,5 ^ (2 ^ k)=1+2 ^ (k+2) * (2 * c+1)
 |0=>⟨0,Qk⟩
 |k+1=>by
  obtain⟨c,hc⟩:=uc k
  refine⟨c+2 ^ k * ((2 * c+1) * (2 * c+1)),?_⟩
  have e:(5:Nat) ^ (2 ^ (k+1))=5 ^ (2 ^ k) * 5 ^ (2 ^ k):=by rw[<- Nat.pow_add];congr 1;rw[Nat.pow_succ];omega
  have p2:(2:Nat) ^ (k+2)=4 * 2 ^ k:=by rw[Nat.pow_add];omega
  have p3:(2:Nat) ^ (k+1+2)=8 * 2 ^ k:=by rw[Nat.pow_add,Nat.pow_add];omega
  rw[e,hc,p2,p3]
  generalize 2 ^ k=t
  generalize hd:2 * c+1=d
  have:2 * (c+t * (d * d))+1=d+2 * (t * (d * d)):=Qo
  rw[this]
  have q1:(1+4 * t * d) * (1+4 * t * d)=1+8 * (t * d)+16 * ((t * d) * (t * d)):=by
   rw[Nat.mul_assoc 4 t d]
   generalize t * d=z
   rw[Nat.add_mul,Nat.one_mul,Nat.mul_add,Nat.mul_one,show 4 * z * (4 * z)=16 * (z * z)by rw[Nat.mul_assoc,Nat.mul_left_comm z 4 z];omega]
   omega
  have q2:8 * t * (d+2 * (t * (d * d)))=8 * (t * d)+16 * ((t * d) * (t * d)):=by
   rw[Nat.mul_add,Nat.mul_assoc 8 t d,Nat.mul_assoc 8 t]
   have:t * (2 * (t * (d * d)))=2 * ((t * d) * (t * d)):=by
    rw[Nat.mul_left_comm t 2,Nat.mul_mul_mul_comm,Nat.mul_assoc t t]
   rw[this]
   omega
  rw[q1,q2]
  omega
theorem BR (k x:Nat):∃c,fn5 (2 ^ k) x=x+2 ^ k * (2 * c+1):=by
 obtain⟨c,hc⟩:=uc k
 have h:=tZ (2 ^ k) x
 have p2:(2:Nat) ^ (k+2)=4 * 2 ^ k:=by rw[Nat.pow_add];omega
 rw[hc,p2]at h
 refine⟨c * (4 * x+1)+2 * x,?_⟩
 have e:2 * (c * (4 * x+1)+2 * x)+1=(2 * c+1) * (4 * x+1):=by
  rw[Nat.add_mul,Nat.one_mul,Nat.mul_assoc]
  omega
 rw[e]
 rw[Nat.add_mul,Nat.one_mul,Nat.mul_assoc,Nat.mul_assoc]at h
 generalize 2 ^ k * ((2 * c+1) * (4 * x+1))=z at h ⊢
 omega
theorem u3:∀(k i j:Nat),∃m,m<2 ^ k/\fn5 m i % 2 ^ k=j % 2 ^ k
 |0,i,j=>⟨0,Qk,by simp[Nat.mod_one]⟩
 |k+1,i,j=>by
  obtain⟨m,hm,e⟩:=u3 k i j
  have p:(2:Nat) ^ (k+1)=2 ^ k * 2:=Nat.pow_succ _ _
  have t0:0<2 ^ k:=Nat.pow_pos Qk
  have two:∀x,x % (2 ^ k * 2)=x % 2 ^ k+2 ^ k * (x / 2 ^ k % 2):=fun x=>Nat.mod_mul
  by_cases c:fn5 m i % 2 ^ (k+1)=j % 2 ^ (k+1)
  ·exact⟨m,Qo,c⟩
  ·refine⟨m+2 ^ k,Qo,?_⟩
   rw[u4]
   obtain⟨z,hz⟩:=BR k (fn5 m i)
   rw[hz]
   generalize fn5 m i=a at e c ⊢
   rw[p,two a,two j,e]at c
   rw[p,two (a+2 ^ k * (2 * z+1)),two j,Nat.add_mul_mod_self_left,e,Nat.add_mul_div_left _ _ t0]
   have a2:=Nat.mod_lt (a / 2 ^ k) (show 0<2 by decide)
   have j2:=Nat.mod_lt (j / 2 ^ k) (show 0<2 by decide)
   have ne:a / 2 ^ k % 2≠j / 2 ^ k % 2:=fun h=>c (by rw[h])
   have:(a / 2 ^ k+(2 * z+1)) % 2=j / 2 ^ k % 2:=Qo
   rw[this]
theorem tE {mask:Nat}:∀(m i:Nat),i<=mask->itr mask m i 0=fn5 m i % (mask+1)
 |0,i,h=>by
  show i=i % (mask+1)
  rw[Nat.mod_eq_of_lt (Nat.lt_succ_of_le h)]
 |m+1,i,h=>by
  show itr mask m ((i * 5+1+0 / 32) % (mask+1)) (0 / 32)=fn5 m (5 * i+1) % (mask+1)
  rw[Nat.zero_div,Nat.add_zero,tE m _ (Nat.le_of_lt_succ (Nat.mod_lt _ (Nat.succ_pos _))),Nat.mul_comm i 5]
  have key:∀(m x:Nat),fn5 m (x % (mask+1)) % (mask+1)=fn5 m x % (mask+1):=fun m=>by
   induction m with
   |zero=>intro x;exact Nat.mod_mod _ _
   |succ m ih=>
    intro x
    show fn5 m (5 * (x % (mask+1))+1) % (mask+1)=fn5 m (5 * x+1) % (mask+1)
    rw[<- ih (5 * (x % (mask+1))+1),<- ih (5 * x+1)]
    congr 2
    rw[Nat.add_mod,Nat.mul_mod,Nat.mod_mod,<- Nat.mul_mod,<- Nat.add_mod]
  exact key m _
theorem Bb {mask k:Nat}(ek:mask+1=2 ^ k) {i j:Nat}(hi:i<=mask) (hj:j<=mask):∃m,m<=mask/\itr mask m i 0=j:=by
 obtain⟨m,hm,e⟩:=u3 k i j
 refine⟨m,Qo,?_⟩
 rw[tE m i hi,ek,e,<- ek,Nat.mod_eq_of_lt (Nat.lt_succ_of_le hj)]
theorem BL {mask:Nat}{ow:Array (Option Nat)}(hm:∃k,mask+1=2 ^ k) {j:Nat}(hj:j<=mask) (hn:(ow.getD j (some 0)).isNone=true) {i p:Nat}(hi:i<=mask) (hp:p<2 ^ 64):
 ∃k,SetTable.layClean.free mask ow (SetTable.turns mask) i p=some k:=by
 cases e:SetTable.layClean.free mask ow (SetTable.turns mask) i p with
 |some k=>exact⟨k,rfl⟩
 |none=>
  exfalso
  have key:=tQ _ _ _ hi e
  have l:=tD (mask:=mask) 13 i p hi
  obtain⟨k,ek⟩:=hm
  obtain⟨m,h1,h2⟩:=Bb ek l hj
  have:=key (13+m) (by unfold SetTable.turns;omega)
  rw[tF,Nat.div_eq_of_lt (Nat.lt_trans hp Qk),h2,hn]at this
  cases this
theorem Cp {mask:Nat}(hm:∃k,mask+1=2 ^ k) (hs:Array Int) (hl:hs.size<=mask):∃ow:Array (Option Nat),SetTable.layClean mask hs=some ow/\ow.size=mask+1/\(ow.toList.filterMap id).Perm (List.range hs.size):=by
 unfold SetTable.layClean
 rw[<- Array.foldl_toList]
 have key:∀(l:List Int) (ow:Array (Option Nat)) (k:Nat),ow.size=mask+1->(ow.toList.filterMap id).Perm (List.range k)->k+l.length<=mask->
  ∃ow',(l.foldl (fun(acc:Option (Array (Option Nat)×Nat)) h=>do
   let (owner,k) <- acc
   let j <- SetTable.layClean.free mask owner (SetTable.turns mask) (SetTable.bits h % (mask+1)) (SetTable.bits h)
   pure (owner.setIfInBounds j (some k),k+1)) (some (ow,k)))=some (ow',k+l.length)/\ow'.size=mask+1/\(ow'.toList.filterMap id).Perm (List.range (k+l.length)):=by
  intro l
  induction l with
  |nil=>intro ow k h1 h2 h3;exact⟨ow,rfl,h1,h2⟩
  |cons h l ih=>
   intro ow k h1 h2 h3
   rw[qz]at h3
   have len:=h2.length_eq
   rw[List.length_range]at len
   obtain⟨j,hj⟩:=ua ow.toList (by rw[len,qL,h1];omega)
   have jl:j<ow.size:=by
    have:=(qe.mp hj).1
    rwa [qL]at this
   have gn:∀j,(ow.getD j (some 0)).isNone=true↔ow.toList[j]?=some none:=fun j=>by
    rw[qT,Array.getD_eq_getD_getElem?]
    cases ow[j]? with
    |none=>simp
    |some y=>cases y<;>simp
   have bl:SetTable.bits h<2 ^ 64:=by
    unfold SetTable.bits
    omega
   obtain⟨q,hq⟩:=BL (ow:=ow) hm (j:=j) Qo ((gn j).mpr hj) (i:=SetTable.bits h % (mask+1)) (p:=SetTable.bits h) (Nat.le_of_lt_succ (Nat.mod_lt _ (Nat.succ_pos _))) bl
   have hq':=(gn q).mp (tR _ _ _ _ hq)
   have:=ih (ow.setIfInBounds q (some k)) (k+1) (by simpa using h1) (by
    rw[Array.toList_setIfInBounds,List.range_succ]
    refine(u7 _ _ _ hq').trans ?_
    refine(h2.cons k).trans ?_
    exact(List.perm_append_comm (l₁:=[k]) (l₂:=List.range k))) Qo
   obtain⟨ow',e1,e2,e3⟩:=this
   refine⟨ow',?_,e2,?_⟩
   ·rw[List.foldl_cons,qz,show k+(l.length+1)=k+1+l.length by omega,<- e1]
    congr 1
    show(SetTable.layClean.free mask ow (SetTable.turns mask) (SetTable.bits h % (mask+1)) (SetTable.bits h)).bind _=_
    rw[hq]
    rfl
   ·rw[qz,show k+(l.length+1)=k+1+l.length by omega]
    exact e3
 obtain⟨ow',e1,e2,e3⟩:=key hs.toList (Array.replicate (mask+1) none) 0 (by simp) (by simp) (by simpa using hl)
 refine⟨ow',?_,e2,by simpa using e3⟩
 rw[e1]
 rfl
theorem tm {mask:Nat}(hm:∃k,mask+1=2 ^ k) (f mv:Nat) (led pl:Bool) (hs:Array Int) (hl:hs.size<=mask):
 ∃t order,SetTable.laid mask f mv led pl hs=some (t,order)/\order.toList.Perm (List.range hs.size)/\t.mask=mask/\t.place.size=hs.size/\t.dummies=#[]/\t.led=led/\t.plain=pl:=by
 obtain⟨ow,e,sz,pm⟩:=Cp hm hs hl
 have live:((List.range (mask+1)).filterMap fun j=>(ow.getD j none).map (j,·)).map (·.2)=ow.toList.filterMap id:=by
  rw[List.map_filterMap]
  have:ow.toList=(List.range (mask+1)).map fun j=>ow.getD j none:=by
   refine List.ext_getElem (by simp[sz]) fun i h1 h2=>?_
   simp at h1
   simp[Array.getD_eq_getD_getElem?,h1]
  rw[this,List.filterMap_map]
  congr 1
  funext j
  show Option.map _ (Option.map _ (ow.getD j none))=ow.getD j none
  cases ow.getD j none<;>rfl
 have ll:((List.range (mask+1)).filterMap fun j=>(ow.getD j none).map (j,·)).length=hs.size:=by
  have:=congrArg List.length live
  rw[q5]at this
  rw[this,pm.length_eq,List.length_range]
 unfold SetTable.laid
 rw[e]
 refine⟨_,_,rfl,?_,rfl,?_,rfl,rfl,rfl⟩
 ·dsimp only
  rw[live]
  exact pm
 ·simpa using ll
theorem pI {n:Nat}:∀(fuel i:Nat),n<2 ^ (i+fuel)->∃k,SetTable.sizeAbove.go n fuel (2 ^ i)=2 ^ k/\n<2 ^ k/\(2 ^ k<=2 ^ i\/2 ^ k<=2 * n)
 |0,i,h=>⟨i,rfl,h,.inl (qd _)⟩
 |fuel+1,i,h=>by
  unfold SetTable.sizeAbove.go
  split
  ·rename_i hc
   rw[<- Nat.pow_succ]
   obtain⟨k,e,l,u⟩:=pI fuel (i+1) (by rw[show i+1+fuel=i+(fuel+1)by omega];exact h)
   refine⟨k,e,l,.inr ?_⟩
   have:(2:Nat) ^ (i+1)=2 ^ i * 2:=Nat.pow_succ _ _
   omega
  ·exact⟨i,rfl,Qo,.inl (qd _)⟩
theorem x8 {n:Nat}(h:n<2 ^ 60):∃k,SetTable.sizeAbove n=2 ^ k/\n<2 ^ k/\(2 ^ k<=8\/2 ^ k<=2 * n):=pI 64 3 (Nat.lt_trans h Qk)
section
variable {P:Program}{w:World}{A:Around}{E:Qq}{s:Shared}
theorem ud {t:SetTable}{n:Nat}(h:t.fits n=true):t.place.size=n:=by
 unfold SetTable.fits at h
 simp only[Bool.and_eq_true,beq_iff_eq]at h
 first
  |exact h.1.1.symm
  |exact h.1.1
  |exact h.1.symm
  |exact h.1
theorem pY {a:Addr}{es:Array (Int×Value)}{ep:Nat}{t:SetTable}{ys:List Str}{wanted:Nat}{Q:Unit->Shared->Prop}(ha:s.heap.get? a=some (aE es ep t)) (T:aK P w es t ys) (h1:es.size<=wanted) (h2:wanted<=20000)
 (h:∀h' es' ep' t',Heap.SameBut a s.heap h'->h'.get? a=some (aE es' ep' t')->aK P w es' t' ys->es'.size=es.size->t'.place.size=es.size->t'.dummies=#[]->wanted<=t'.mask->(∃k,t'.mask+1=2 ^ k)->Q () { s with heap:=h' }):wpAny (model P w) A (setRelay a wanted) Q E s:=by
 have big:(100000:Nat)<=sizeLine:=Qk
 obtain⟨k,ek,lk,uk⟩:=x8 (n:=wanted) (Nat.lt_of_le_of_lt h2 Qk)
 unfold setRelay
 refine q4 (qW ha rfl T.fit ?_)
 dsimp only
 obtain⟨t1,order,e1,pm,mk,pl,dm,ld,pp⟩:=tm (mask:=2 ^ k-1) ⟨k,Qo⟩ t.finger (t.movedTo (2 ^ k-1)) t.led t.plain (es.map (·.1)) (by rw[Array.size_map];omega)
 have e2:t.relaid (es.map (·.1)) wanted=some (t1,order):=by
  unfold SetTable.relaid
  rw[ek]
  exact e1
 rw[qZ (by rw[ek];omega),e2]
 rw[Array.size_map]at pm pl
 have pa:=rM es order pm
 have sz:(order.filterMap (es[·]?)).size=es.size:=by rw[<- qL,pa.length_eq,qL]
 refine q4 ?_
 show wpAny _ _ (if((order.filterMap (es[·]?)).size != es.size)=true then _ else _) _ _ _
 rw[qZ (by rw[sz];simp)]
 refine q4 (qc (qc ?_))
 dsimp only
 have fw:=T.few
 refine wpAny_storeSet_of ha rfl ?_ (by rw[sz];omega)
 have fit1:t1.fits (order.filterMap (es[·]?)).size=true:=by
  unfold SetTable.fits SetTable.fill
  rw[pl,dm,sz,mk]
  simp
  omega
 refine h _ _ _ t1 (Heap.SameBut.update _ a _) (eG (s:=s) ha) ?_ sz pl dm (by rw[mk];omega) ⟨k,by rw[mk];omega⟩
 exact⟨T.el.perm pa,(pa.map _).nodup_iff.mpr T.nd,fun k=>((pa.map _).mem_iff).trans (T.mem k),by rw[sz];exact T.few,fit1,ld.trans T.led,fun z=>pp.trans (T.pl Qo)⟩
theorem xY {a:Addr}{n:Nat}{Q:Unit->Shared->Prop}(ha:s.heap.get? a=some (bq w)) (few:n<=5000)
 (h:∀h1 ep1 t1,Heap.SameBut a s.heap h1->h1.get? a=some (aE #[] ep1 t1)->t1.place=#[]->t1.dummies=#[]->(∃k,t1.mask+1=2 ^ k)->n<=t1.mask->t1.led=(!w.params.followText "set-order")->Q () { s with heap:=h1 }):
 wpAny (model P w) A (setRoomFor a n) Q E s:=by
 have T0:aK P w #[] (SetTable.fresh 0 0 (!w.params.followText "set-order")) []:=iq
 unfold setRoomFor
 refine q4 (qW ha rfl T0.fit ?_)
 dsimp only
 have hr:(SetTable.fresh 0 0 (!w.params.followText "set-order")).roomFor n=if n * 5 >= 21 then some (n * 2)else none:=by
  unfold SetTable.roomFor SetTable.fresh SetTable.fill
  simp
 rw[hr]
 by_cases hn:n * 5 >= 21
 ·rw[Q0 hn]
  refine pY (wanted:=n * 2) ha T0 (qr _) Qo fun h' es' ep' t' sb g T' z pz dm wm pw=>?_
  obtain rfl:es'=#[]:=Array.eq_empty_of_size_eq_zero z
  exact h h' ep' t' sb g (Array.eq_empty_of_size_eq_zero pz) dm pw Qo T'.led
 ·rw[qZ hn]
  exact qc (h s.heap 0 _ (Heap.SameBut.refl a s.heap) ha rfl rfl ⟨3,rfl⟩ (by show n<=7;omega) rfl)
theorem sP {a o:Addr}{es:Array (Int×Value)}{ep:Nat}{t:SetTable}{zs:List Str}{each:Sem Unit}{Q:Unit->Shared->Prop}(ne:a≠o) (ha:s.heap.get? a=some (bq w)) (ho:s.heap.get? o=some (aE es ep t)) (T:aK P w es t zs) (few:es.size<=5000)
 (h:∀h' es' ep' t',Heap.SameBut a s.heap h'->h'.get? a=some (aE es' ep' t')->aK P w es' t' zs->(es.size=0->h'=s.heap)->Q () { s with heap:=h' }):wpAny (model P w) A (setMerge a o each) Q E s:=by
 have T0:aK P w #[] (SetTable.fresh 0 0 (!w.params.followText "set-order")) []:=iq
 unfold setMerge
 rw[qZ (by simpa using ne)]
 refine q4 (qW ho rfl T.fit ?_)
 dsimp only
 by_cases h0:es.isEmpty=true
 ·rw[Q0 h0]
  have e0:es=#[]:=by simpa using h0
  subst e0
  exact qc (h s.heap #[] 0 _ (Heap.SameBut.refl a s.heap) ha ⟨T0.el,T0.nd,T.mem,T0.few,T0.fit,T0.led,T0.pl⟩ fun _=>rfl)
 ·rw[qZ h0]
  have pos:0<es.size:=by
   rcases Nat.eq_zero_or_pos es.size with z|z
   ·exact absurd (by simpa using z) h0
   ·exact z
  have tpl:=T.pl pos
  have h1z:∀h':Heap,es.size=0->h'=s.heap:=fun _ z=>absurd z (Nat.ne_of_gt pos)
  refine q4 (xY ha few fun h1 ep1 t1 sb g1 p1 d1 mk le l1=>?_)
  have f1:t1.fits (#[]:Array (Int×Value)).size=true:=by
   unfold SetTable.fits SetTable.fill
   rw[p1,d1]
   simp
  refine q4 (qW (s:={ s with heap:=h1 }) g1 rfl f1 ?_)
  dsimp only
  have fz:¬ (t1.fill != 0)=true:=by
   unfold SetTable.fill
   rw[p1,d1]
   decide
  have ll:(t1.led && t.led)=t.led:=by
   rw[l1,T.led]
   simp
  have pp:(t1.plain && t.plain)=false:=by
   rw[tpl]
   simp
  unfold SetTable.road
  rw[qZ fz]
  by_cases hr:(t1.mask == t.mask && t.dummies.isEmpty)=true
  ·rw[Q0 hr]
   dsimp only
   refine wpAny_storeSet_of (s:={ s with heap:=h1 }) g1 rfl ?_ (qx few Qk)
   refine h _ es _ _ (sb.trans (Heap.SameBut.update _ a _)) (eG (s:={ s with heap:=h1 }) g1) (o9 T (.refl _) ?_ ll pp) (h1z _)
   exact T.fit
  ·rw[qZ hr]
   dsimp only
   obtain⟨t2,order,e1,pm,mk2,pl,dm,ld,pl2⟩:=tm mk t1.finger t1.moves (t1.led && t.led) (t1.plain && t.plain) (es.map (·.1)) (by simpa using le)
   rw[Array.size_map]at pm pl
   have pa:=rM es order pm
   have sz:(order.filterMap (es[·]?)).size=es.size:=by rw[<- qL,pa.length_eq,qL]
   rw[e1]
   refine q4 ?_
   show wpAny _ _ (if((order.filterMap (es[·]?)).size != es.size)=true then _ else _) _ _ _
   rw[qZ (by rw[sz];simp)]
   refine q4 (qc (qc ?_))
   dsimp only
   refine wpAny_storeSet_of (s:={ s with heap:=h1 }) g1 rfl ?_ (by rw[sz];exact qx few Qk)
   refine h _ _ _ _ (sb.trans (Heap.SameBut.update _ a _)) (eG (s:={ s with heap:=h1 }) g1) (o9 T pa ?_ (ld.trans ll) (pl2.trans pp)) (h1z _)
   unfold SetTable.fits SetTable.fill
   rw[pl,dm,sz,mk2]
   simpa using le
theorem xW {a:Addr}{es:Array (Int×Value)}{ep n:Nat}{t:SetTable}{ys:List Str}{Q:Unit->Shared->Prop}(ha:s.heap.get? a=some (aE es ep t)) (T:aK P w es t ys) (few:es.size+n<=10000)
 (h:∀h' es' ep' t',Heap.SameBut a s.heap h'->h'.get? a=some (aE es' ep' t')->aK P w es' t' ys->es'.size=es.size->Q () { s with heap:=h' }):wpAny (model P w) A (setRoomFor a n) Q E s:=by
 have pz:=ud T.fit
 unfold setRoomFor
 refine q4 (qW ha rfl T.fit ?_)
 dsimp only
 unfold SetTable.roomFor
 by_cases hn:(t.fill+n) * 5 >= t.mask * 3
 ·rw[Q0 hn]
  exact pY ha T (by rw[pz];omega) (by rw[pz];omega) fun h' es' ep' t' sb g T' z _ _ _ _=>h h' es' ep' t' sb g T' z
 ·rw[qZ hn]
  exact qc (h s.heap es ep t (Heap.SameBut.refl a s.heap) ha T rfl)
theorem vQ {a r:Addr}{es er':Array (Int×Value)}{ep epr:Nat}{t tr:SetTable}{ys zs:List Str}{Q:Array (Int×Value)->Shared->Prop}(hs:s.heap.get? a=some (aE es ep t)) (T:aK P w es t ys)
 (hr:s.heap.get? r=some (aE er' epr tr)) (Tr:aK P w er' tr zs) (er0:0<er'.size)
 (h:∀arr h' d ep2 t2,arr.toList.Perm es.toList->Heap.SameBut r s.heap h'->h'.get? r=some (aE er' ep2 t2)->aK P w er' t2 zs->Q arr { s with heap:=h',drawn:=d }):wpAny (model P w) A (setWalkUnseen a [r] (some r)) Q E s:=by
 have old:∀arr d,arr.toList.Perm es.toList->Q arr { s with drawn:=d }:=fun arr d hp=>h arr s.heap d epr tr hp (Heap.SameBut.refl r s.heap) hr Tr
 have fw:=Tr.few
 unfold setWalkUnseen
 refine q4 (qW hs rfl T.fit ?_)
 dsimp only
 refine q4 (dJ ?_)
 split
 ·exact nW hs T old
 ·refine q4 (rh (fun b hb=>?_) ?_)
  ·simp only[qt,qQ,or_false]at hb
   rcases hb with rfl|rfl
   ·exact⟨_,_,_,_,hs,T⟩
   ·exact⟨_,_,_,_,hr,Tr⟩
  ·simp only[Bool.not_true,Bool.false_eq_true,if_false]
   refine q4 (wpAny_rule ?_)
   refine q4 (qW hr rfl Tr.fit ?_)
   dsimp only
   split
   ·refine q4 (wpAny_storeSet_of hr rfl ?_ (by
     have:scanBound<=sizeLine:=Qk
     omega))
    refine qc (h es _ s.drawn _ _ (.refl _) (Heap.SameBut.update _ r _) (eG (s:=s) hr) ⟨Tr.el,Tr.nd,Tr.mem,Tr.few,Tr.fit,?_,fun _=>?_⟩)
    ·show(tr.led && t.led)=_
     rw[Tr.led,T.led]
     simp
    ·show(tr.plain && t.plain)=false
     rw[Tr.pl er0]
     rfl
   ·exact qc (old es s.drawn (.refl _))
theorem Av {a o:Addr}{ea es:Array (Int×Value)}{epa ep:Nat}{ta t:SetTable}{ys zs:List Str}{each:Sem Unit}{Q:Unit->Shared->Prop}(ne:a≠o) (ha:s.heap.get? a=some (aE ea epa ta)) (Ta:aK P w ea ta ys) (a0:0<ea.size) (ho:s.heap.get? o=some (aE es ep t)) (T:aK P w es t zs) (few:ea.size<=5000) (few2:es.size<=5000) (room:ea.size+es.size+1<scanBound)
 (he:∀(s':Shared) (R:Unit->Shared->Prop),s'.heap.get? o=some (aE es ep t)->R () s'->wpAny (model P w) A each R E s')
 (h:∀h' d es' ep' t',Heap.SameBut a s.heap h'->h'.get? a=some (aE es' ep' t')->aK P w es' t' (ys++zs)->Q () { s with heap:=h',drawn:=d }):wpAny (model P w) A (setMerge a o each) Q E s:=by
 unfold setMerge
 rw[qZ (by simpa using ne)]
 refine q4 (qW ho rfl T.fit ?_)
 dsimp only
 by_cases h0:es.isEmpty=true
 ·rw[Q0 h0]
  have e0:es=#[]:=by simpa using h0
  subst e0
  refine qc (h s.heap s.drawn ea epa ta (Heap.SameBut.refl a s.heap) ha ⟨Ta.el,Ta.nd,fun k=>?_,Ta.few,Ta.fit,Ta.led,Ta.pl⟩)
  rw[Ta.mem k,qg]
  have:k∉zs:=fun z=>by have:=(T.mem k).mpr z;simp at this
  simp[this]
 ·rw[qZ h0]
  refine q4 (xW ha Ta Qo fun h1 e1 ep1 t1 sb g1 T1 z1=>?_)
  refine q4 (qW (s:={ s with heap:=h1 }) g1 rfl T1.fit ?_)
  dsimp only
  have pz:=ud T1.fit
  have fz:(t1.fill != 0)=true:=by
   have:t1.fill≠0:=by
    unfold SetTable.fill
    omega
   simpa using this
  unfold SetTable.road
  rw[Q0 fz]
  dsimp only
  have ho1:h1.get? o=some (aE es ep t):=by rw[sb.2 _ (Ne.symm ne)];exact ho
  refine q4 (vQ (s:={ s with heap:=h1 }) ho1 T g1 T1 Qo fun arr h2 d ep2 t2 hp sb2 g2 T2=>?_)
  refine q4 (PySem.wpAny_forIn_array' _ (fun rest _ s'=>∃h3 e3 ep3 t3 past,past++rest=arr.toList/\s'={ s with heap:=h3,drawn:=d }/\Heap.SameBut a s.heap h3/\h3.get? a=some (aE e3 ep3 t3)/\aK P w e3 t3 (ys++past.map fun e:Int×Value=>txt e.2)/\e3.size<=e1.size+past.length) _ ?_ ?_ arr _ ⟨h2,e1,ep2,t2,[],rfl,rfl,sb.trans sb2,g2,by simpa using T2,qd _⟩)
  ·rintro x rest b s' ⟨h3,e3,ep3,t3,past,hpa,rfl,sb3,g3,T3,le3⟩
   have xm:x∈es.toList:=hp.mem_iff.mp (by rw[<- hpa];simp)
   obtain⟨k,tk,rfl,_⟩:=io T xm
   have pl:past.length+(rest.length+1)=es.size:=by
    have:=congrArg List.length hpa
    rw[hp.length_eq]at this
    simpa using this
   dsimp only
   refine q4 (wpAny_holding (nw (s:={ s with heap:=h3,drawn:=d }) g3 T3 Qo fun b h4 e4 ep4 t4 sb4 g4 T4 le4=>?_))
   have ho4:h4.get? o=some (aE es ep t):=by rw[(sb3.trans sb4).2 _ (Ne.symm ne)];exact ho
   refine q4 (he _ _ ho4 ?_)
   refine q4 (qW (s:={ s with heap:=h4,drawn:=d }) ho4 rfl T.fit ?_)
   simp only[bne_self_eq_false,Bool.false_eq_true,if_false]
   refine qc ⟨h4,e4,ep4,t4,past++[(hashStr w k,Value.str k tk)],by rw[<- hpa];simp,rfl,sb3.trans sb4,g4,?_,by rw[qa];show _<=_+(_+1);omega⟩
   rw[qO,<- qM]
   exact T4
  ·rintro b s' ⟨h3,e3,ep3,t3,past,hpa,rfl,sb3,g3,T3,le3⟩
   rw[qw]at hpa
   subst hpa
   refine qc (h h3 d e3 ep3 t3 sb3 g3 ⟨T3.el,T3.nd,fun k=>?_,T3.few,T3.fit,T3.led,T3.pl⟩)
   rw[T3.mem k,qg,qg,<- T.mem k]
   exact or_congr_right ((hp.map fun e:Int×Value=>txt e.2).mem_iff)
end
section
variable {P:Program}{w:World}{A:Around}{E:Qq}{s:Shared}
theorem yW {a o:Addr}{ep ep2:Nat}{t t2:SetTable}{es es2:Array (Int×Value)}{ys zs:List Str}{Q:Qq}(ne:a≠o) (hs:s.heap.get? a=some (aE es ep t)) (T:aK P w es t ys)
 (ho:s.heap.get? o=some (aE es2 ep2 t2)) (T2:aK P w es2 t2 zs) (few1:es.size<=1500) (few:es2.size<=1500)
 (h:∀h' d es' ep' t',h'.get? s.heap.objs.size=some (aE es' ep' t')->aK P w es' t' (ys++zs)->(∀b ob,s.heap.get? b=some ob->h'.get? b=some ob)->Q (.ref s.heap.objs.size) { s with heap:=h',drawn:=d }):wpAny (model P w) A (binaryOp .BitOr (.ref a) (.ref o)) Q E s:=by
 have ta:s.TypeIs (.ref a) "set":=⟨_,hs,rfl⟩
 have to:s.TypeIs (.ref o) "set":=⟨_,ho,rfl⟩
 refine wpAny_binaryOp_same (op:=.BitOr) (T:="set") ta to F.fills_set_or F.slot_set_or (wpAny_call_entry F.slot_set_or ta xq ?_ (F.args_set_or_2 _ _))
 unfold Builtin.«frozenset.__or__»
 refine q4 (m:=Builtin.Frozenset.slot1 "__or__" ⟨[.ref a,.ref o],[]⟩) (qc ?_)
 dsimp only
 simp only[Bool.false_eq_true,if_false]
 refine q4 (q4 (fZ ta (fZ to ?_)))
 simp only[Bool.not_true,Bool.false_eq_true,if_false]
 refine q4 (qc ?_)
 refine q4 ?_
 refine q4 (m:=Builtin.Frozenset.copyOf a) ?_
 unfold Builtin.Frozenset.copyOf Builtin.Frozenset.baseOf
 refine q4 (q4 (wpAny_isInstance (b:=true) ta gq (qc ?_)))
 simp only[if_true]
 refine q4 ?_
 unfold newSet
 refine q4 (dJ ?_)
 dsimp only
 refine wpAny_newObj_type ?_
 refine q4 (qc ?_)
 have ga:∀b ob,s.heap.get? b=some ob->(s.heap.push (bq w)).get? b=some ob:=fun b ob q=>q9 _ q
 have gr:(s.heap.push (bq w)).get? s.heap.objs.size=some (bq w):=qo _ rfl
 have na:∀b ob,s.heap.get? b=some ob->s.heap.objs.size≠b:=fun b ob q=>Nat.ne_of_gt (qp q)
 have sb0:scanBound=4096\/4000<=scanBound:=by unfold scanBound;omega
 have mm:∀e1 t1,aK P w e1 t1 ys->e1.size=es.size:=fun e1 t1 T1=>by
  have l1:=bS T1.nd fun x hx=>(T.mem x).mpr ((T1.mem x).mp hx)
  have l2:=bS T.nd fun x hx=>(T1.mem x).mpr ((T.mem x).mp hx)
  rw[q5,q5,qL,qL]at l1 l2
  omega
 refine q4 (sP (s:={ s with heap:=s.heap.push (bq w) }) (na _ _ hs) gr (ga _ _ hs) T Qo fun h1 es1 ep1 t1 sb1 g1 T1 z1=>?_)
 have sz1:=mm es1 t1 T1
 have na2:∀b ob,s.heap.get? b=some ob->h1.get? b=some ob:=fun b ob q=>(sb1.2 _ (na b ob q).symm).trans (ga b ob q)
 refine qc ?_
 show wpAny _ _ (if((Value.ref o:Value) != .ref a)=true then _ else _) _ _ _
 rw[Q0 (by
  have:(Value.ref o == Value.ref a)=false:=by
   rw[beq_eq_false_iff_ne]
   intro z
   cases z
   exact ne rfl
  rw[bne,this]
  rfl)]
 refine q4 (qc ?_)
 refine q4 (wpAny_holding ?_)
 unfold Builtin.Frozenset.updateFrom
 refine q4 (fZ (s:={ s with heap:=h1 }) ⟨_,na2 _ _ ho,rfl⟩ ?_)
 simp only[if_true]
 refine q4 (qc ?_)
 unfold Builtin.Frozenset.merge
 refine q4 (wpAny_setEpoch_of (s:={ s with heap:=h1 }) (na2 _ _ ho) rfl T2.fit ?_)
 by_cases z:es.size=0
 ·have e1:=z1 z
  subst e1
  have y0:∀k,k∉ys:=fun k hk=>by
   have:=(T.mem k).mpr hk
   rw[Array.eq_empty_of_size_eq_zero z]at this
   simp at this
  refine sP (s:={ s with heap:=s.heap.push (bq w) }) (na _ _ ho) gr (ga _ _ ho) T2 Qo fun h2 es3 ep3 t3 sb3 g3 T3 _=>?_
  exact qc (qc ⟨_,rfl,(fun z=>by cases z),h h2 s.drawn es3 ep3 t3 g3 ⟨T3.el,T3.nd,fun k=>by rw[T3.mem k,qg];simp[y0 k],T3.few,T3.fit,T3.led,T3.pl⟩ fun b ob q=>(sb3.2 _ (na b ob q).symm).trans (ga b ob q)⟩)
 ·refine Av (s:={ s with heap:=h1 }) (na _ _ ho) g1 T1 Qo (na2 _ _ ho) T2 Qo Qo Qo (fun s' R hs' hR=>?_) fun h2 d es3 ep3 t3 sb3 g3 T3=>?_
  ·unfold Builtin.Frozenset.unchanged
   refine q4 (wpAny_setEpoch_of hs' rfl T2.fit ?_)
   simp only[bne_self_eq_false,Bool.false_eq_true,if_false]
   exact qc hR
  ·exact qc (qc ⟨_,rfl,(fun z=>by cases z),h h2 d es3 ep3 t3 g3 T3 fun b ob q=>(sb3.2 _ (na b ob q).symm).trans (na2 b ob q)⟩)
end
end L2
namespace L2
open PySem PySem.Spec PyProof.Rows
section
variable {X:Cx}
def yc (P:Program) (w:World):R2:=fun x y H Q=>∃(a o:Addr) (ys zs ds fs:List Str),x=.ref a/\y=.ref o/\a≠o/\H a=some (bf P w a ys)/\H o=some (bf P w o zs)/\(∀k∈ys,k∈ds)/\ds.length<=1500/\(∀k∈zs,k∈fs)/\fs.length<=1500/\∀p,H p=none->Q (.ref p) (upd H p (bf P w p (ys++zs)))
theorem ze:OpR X (binaryOp .BitOr) (yc X.prog X.w):=by
 intro pins s σ H x y v u Q I rx ry h
 obtain⟨a,o,ys,zs,ds,fs,rfl,rfl,ne,hA,hO,hd,hl,hf,hl2,q⟩:=h
 cases rx
 cases ry
 obtain⟨⟨es,ep,t,e1,T1⟩,_,_⟩:=I.hok a _ hA
 obtain⟨⟨es2,ep2,t2,e2,T2⟩,_,_⟩:=I.hok o _ hO
 have l1:es.size<=1500:=by
  have:=bS T1.nd fun x hx=>hd x ((T1.mem x).mp hx)
  rw[q5,qL]at this
  omega
 have l2:es2.size<=1500:=by
  have:=bS T2.nd fun x hx=>hf x ((T2.mem x).mp hx)
  rw[q5,qL]at this
  omega
 refine yW ne e1 T1 e2 T2 l1 l2 fun h' d es' ep' t' g T' old=>?_
 have J:=I.laid (t':=s.toks) (h':=h') (a:=s.heap.objs.size) (o:=bf X.prog X.w s.heap.objs.size (ys++zs)) old (qd _) (bf.ok g T')
 exact⟨.ref s.heap.objs.size,_,Inv.redrawn (s:=s) J rfl rfl,rfl,q _ (I.hok.fresh (qd _))⟩
end
section
variable {P:Program}{w:World}{A:Around}{E:Qq}{s:Shared}
end
section
variable {X:Cx}
end
end L2
namespace Tr
open PySem PySem.Spec PyProof.Rows L2
set_option linter.all false
end Tr
namespace Tr
open PySem PySem.Spec PyProof.Rows L2
set_option linter.all false
def PlW (C S:List Str):a9->Prop
 |.set x a _ b=>x∈C/\eV C a/\eV C b
 |.put s x=>s∈S/\x∈C
 |.get s x=>s∈S/\x∈C
 |.give x=>x∈C
 |.cond x _ _=>x∈C
 |.whl x _=>x∈C
 |.rep n _=>0<=n/\n<=1000
end Tr
namespace Tr
open PySem PySem.Spec PyProof.Rows L2
set_option linter.all false
structure ZC (Hb H0 H:Hp) (own:List Addr) (z:List Fz):Prop where
 hb:aa Hb H0
 h0:aa H0 H
 fz:∀m∈own++z.flatMap Fz.muts,H0 m=none
 nd:(own++z.flatMap Fz.muts).Nodup
 ol:∀m∈own,∃vs,H m=some (.lst vs)
 zr:ZR H0 H z []
section
variable {Hb H0 H0' H H' H1:Hp}{own:List Addr}{z:List Fz}
theorem ZC.hbH (Z:ZC Hb H0 H own z):aa Hb H:=Z.hb.trans Z.h0
theorem ZC.top (Z:ZC Hb H0 H own z):∃x r vs,z=x::r/\H x.c=some (.lst vs)/\RDs H0 vs x.f.ds:=by
 have:=Z.zr
 match z,this with
 |x::r,⟨⟨vs,h1,h2⟩,_⟩=>exact⟨x,r,vs,rfl,by simpa using h1,h2⟩
theorem ZC.lsts (Z:ZC Hb H0 H own z):∀m∈own++z.flatMap Fz.muts,∃vs,H m=some (.lst vs):=fun m hm=>by
 rcases qg.mp hm with h|h
 ·exact Z.ol m h
 ·exact Z.zr.lsts m h
theorem ZC.ndz (Z:ZC Hb H0 H own z):(z.flatMap Fz.muts).Nodup:=(List.nodup_append.mp Z.nd).2.1
theorem ZC.off (Z:ZC Hb H0 H own z) {m:Addr}(h:m∈z.flatMap Fz.muts):m∉own:=fun ho=>(List.nodup_append.mp Z.nd).2.2 m ho m h rfl
theorem ZC.tup (Z:ZC Hb H0 H own z) {p:Addr}{xs:List V}(h:H p=some (.tup xs)):p∉own:=fun ho=>by
 obtain⟨vs,hv⟩:=Z.ol p ho
 rw[h]at hv
 cases hv
theorem ZC.same (Z:ZC Hb H0 H own z) (e:aa H H1):ZC Hb H0 H1 own z where
 hb:=Z.hb
 h0:=Z.h0.trans e
 fz:=Z.fz
 nd:=Z.nd
 ol:=fun m hm=>by obtain⟨vs,h⟩:=Z.ol m hm;exact⟨vs,e _ _ h⟩
 zr:=Z.zr.frame (fun m hm=>by obtain⟨vs,h⟩:=Z.zr.lsts m hm;rw[h];exact e _ _ h) fun p xs h=>e _ _ h
theorem ZC.push {x:Fz}{r:List Fz}{vs xs:List V}{p:Addr}{d:a9}(Z:ZC Hb H0 H own (x::r)) (hc:H x.c=some (.lst vs)) (hp:H p=some (.tup xs)) (hp0:H0 p=none) (hd:RD (upd H0 p (.tup xs)) (.ref p) d):
 ZC Hb (upd H0 p (.tup xs)) (upd H x.c (.lst (vs++[.ref p]))) own ({ x with f:=x.f.add d }::r):=by
 have pc:=cW hp hc
 have cz:H0 x.c=none:=Z.fz _ (qH _ dB)
 have g:aa H0 (upd H0 p (.tup xs)):=aa.new hp0 _
 have rest:=(Z.zr.rest (o:=.lst (vs++[.ref p])) Z.ndz hc)
 refine{ hb:=Z.hb.trans g,h0:=?_,fz:=?_,nd:=Z.nd,ol:=?_,zr:=?_ }
 ·intro b u q
  by_cases e:b=p
  ·subst e
   rw[ae]at q
   cases q
   rw[aj pc]
   exact hp
  ·rw[aj e]at q
   rw[aj (bJ q cz)]
   exact Z.h0 _ _ q
 ·intro m hm
  obtain⟨ws,hw⟩:=Z.lsts m hm
  rw[aj (Ne.symm (cW hp hw))]
  exact Z.fz m hm
 ·intro m hm
  have hn:m≠x.c:=fun e=>Z.off dB (e▸hm)
  rw[aj hn]
  exact Z.ol m hm
 ·obtain⟨⟨vs',h1,h2⟩,_,_⟩:=Z.zr
  rw[qw,hc]at h1
  cases h1
  refine⟨⟨vs++[.ref p],by rw[qw];exact ae,(h2.same g).app (.cons hd .nil)⟩,?_,?_⟩
  ·have q:=rest.1
   unfold Fz.side at q ⊢
   dsimp only[Fr.add]
   revert q
   cases x.f.op<;>intro q<;>first|exact q|exact RL.same g q
  ·rcases rest.2 with h4|⟨h4,h5,h6⟩
   ·exact .inl h4
   ·exact .inr ⟨h4,h5,h6.grow g⟩
theorem ZC.opened {x y:Fz}{r:List Fz}{vs vy:List V}(Z:ZC Hb H0 H own (x::r)) (hc:H x.c=some (.lst vs)) (g:aa H0 H0') (g':aa H0' H') (hf:∀m∈own++(x::r).flatMap Fz.muts,H0' m=none)
 (k:∀b u,b≠x.c->b∉own->H b=some u->H' b=some u) (ol:∀m∈own,∃vs,H' m=some (.lst vs)) (nm:∀m∈y.muts,H0' m=none/\m∉own++(x::r).flatMap Fz.muts) (ny:y.muts.Nodup)
 (hy:H' y.c=some (.lst vy)) (hds:RDs H0' vy y.f.ds) (hs:y.side H0' H') (hp:H' y.p=some (.tup y.tupV)) (hop:y.f.op≠.root) (kc:H' x.c=some (.lst (vs++[.ref y.p]))):ZC Hb H0' H' own (y::x::r):=by
 have am:own++(y::x::r).flatMap Fz.muts=own++(y.muts++(x::r).flatMap Fz.muts):=by rw[qE]
 have oth:∀m,m∈(x::r).flatMap Fz.muts->m≠x.c->H' m=H m:=fun m hm hmc=>by
  obtain⟨ws,hw⟩:=Z.zr.lsts m hm
  rw[hw]
  exact k m _ hmc (Z.off hm) hw
 have tp:∀p xs,H p=some (.tup xs)->H' p=some (.tup xs):=fun p xs h=>k p _ (cW h hc) (Z.tup h) h
 refine{ hb:=Z.hb.trans g,h0:=g',fz:=?_,nd:=?_,ol:=ol,zr:=?_ }
 ·intro m hm
  rw[am,qg,qg]at hm
  rcases hm with hm|hm|hm
  ·exact hf m (qV _ hm)
  ·exact(nm m hm).1
  ·exact hf m (qH _ hm)
 ·have a:=List.nodup_append.mp Z.nd
  rw[am,List.nodup_append,List.nodup_append]
  refine⟨a.1,⟨ny,a.2.1,fun m hm b hb e=>(nm m hm).2 (e▸qH _ hb)⟩,fun m hm b hb=>?_⟩
  rcases qg.mp hb with hb|hb
  ·exact fun e=>(nm b hb).2 (e▸qV _ hm)
  ·exact a.2.2 m hm b hb
 ·obtain⟨⟨vs',h1,h2⟩,h3,h4⟩:=Z.zr
  rw[qw,hc]at h1
  cases h1
  refine⟨⟨vy,by rw[qw];exact hy,hds⟩,hs,.inr ⟨hop,hp,⟨vs,kc,h2.same g⟩,?_,?_⟩⟩
  ·unfold Fz.side at h3 ⊢
   cases q:x.f.op with
   |ifT n=>
    rw[q]at h3
    have se:=ke Z.ndz q
    show H' x.e=some (.lst [])
    rw[oth x.e (by rw[qE];exact qV _ se.2.1) se.1]
    exact h3
   |ifO n t=>rw[q]at h3;exact RL.same g h3
   |root=>trivial
   |whl n=>trivial
   |rep n=>trivial
  ·rcases h4 with h4|⟨h4,h5,h6⟩
   ·exact .inl h4
   ·exact .inr ⟨h4,tp _ _ h5,(h6.frame (fun m hm=>oth m (me hm) (uM Z.ndz hm)) tp).grow g⟩
theorem ZC.elsed {x:Fz}{r:List Fz}{vs:List V}{n:Str}{t:Int}(Z:ZC Hb H0 H own (x::r)) (q:x.f.op=.ifT n) (hc:H x.c=some (.lst vs))
 (k:∀b u,b∉own->H b=some u->H' b=some u) (ol:∀m∈own,∃vs,H' m=some (.lst vs)):
 ZC Hb (upd H0 x.c (.lst vs)) H' own (⟨{ x.f with op:=.ifO n x.f.ds,ds:=[],times:=t },x.e,x.p,x.c⟩::r):=by
 have se:=ke Z.ndz q
 have em:x.e∈(x::r).flatMap Fz.muts:=by rw[qE];exact qV _ se.2.1
 have g:aa H0 (upd H0 x.c (.lst vs)):=aa.new (Z.fz _ (qH _ dB)) _
 have mx:x.muts=[x.c,x.e]:=by unfold Fz.muts;rw[q]
 have tp:∀p xs,H p=some (.tup xs)->H' p=some (.tup xs):=fun p xs h=>k p _ (Z.tup h) h
 have oth:∀m,m∈(x::r).flatMap Fz.muts->H' m=H m:=fun m hm=>by
  obtain⟨ws,hw⟩:=Z.zr.lsts m hm
  rw[hw]
  exact k m _ (Z.off hm) hw
 obtain⟨⟨vs',h1,h2⟩,h3,h4⟩:=Z.zr
 rw[qw,hc]at h1
 cases h1
 unfold Fz.side at h3
 rw[q]at h3
 have mz:(⟨{ x.f with op:=.ifO n x.f.ds,ds:=[],times:=t },x.e,x.p,x.c⟩::r:List Fz).flatMap Fz.muts=x.e::r.flatMap Fz.muts:=by rw[qE];rfl
 have m0:(x::r).flatMap Fz.muts=x.c::x.e::r.flatMap Fz.muts:=by rw[qE,mx];rfl
 have nd:=Z.nd
 rw[m0,List.nodup_append]at nd
 obtain⟨n1,n2,n3⟩:=nd
 rw[List.nodup_cons]at n2
 have sub:∀m,m∈own++x.e::r.flatMap Fz.muts->m∈own++(x::r).flatMap Fz.muts/\m≠x.c:=fun m hm=>by
  rw[m0]
  rcases qg.mp hm with h|h
  ·exact⟨qV _ h,n3 m h x.c qk⟩
  ·exact⟨qH _ (qj _ h),fun e=>n2.1 (e▸h)⟩
 refine{ hb:=Z.hb.trans g,h0:=?_,fz:=?_,nd:=?_,ol:=ol,zr:=?_ }
 ·intro b u hb
  by_cases e:b=x.c
  ·subst e
   rw[ae]at hb
   cases hb
   exact k _ _ (Z.off dB) hc
  ·rw[aj e]at hb
   exact k _ _ (fun ho=>by rw[Z.fz b (qV _ ho)]at hb;cases hb) (Z.h0 _ _ hb)
 ·intro m hm
  rw[mz]at hm
  rw[aj (sub m hm).2]
  exact Z.fz m (sub m hm).1
 ·rw[mz,List.nodup_append]
  exact⟨n1,n2.2,fun m hm b hb=>n3 m hm b (qj _ hb)⟩
 ·refine⟨⟨[],?_,.nil⟩,.mk ae (h2.same g),?_⟩
  ·show H' x.e=some (.lst ([]++[]))
   rw[oth x.e em]
   exact h3
  ·rcases h4 with⟨h4,_⟩|⟨h4,h5,h6⟩
   ·rw[q]at h4;cases h4
   ·refine .inr ⟨by simp,?_,(h6.frame (fun m hm=>oth m (me hm)) tp).grow g⟩
    have:=tp _ _ h5
    unfold Fz.tupV at this ⊢
    rw[q]at this
    exact this
theorem ZC.closed {x g:Fz}{r:List Fz}(Z:ZC Hb H0 H own (x::g::r)) (k:∀b u,b∉own->H b=some u->H' b=some u) (ol:∀m∈own,∃vs,H' m=some (.lst vs)):
 ∃H0',ZC Hb H0' H' own ({ g with f:=g.f.add x.f.deed }::r):=by
 obtain⟨⟨vs,h1,h2⟩,h3,h4⟩:=Z.zr
 rw[qw]at h1
 rcases h4 with⟨_,h4⟩|⟨h4,h5,h6⟩
 ·cases h4
 have tp:∀p xs,H p=some (.tup xs)->H' p=some (.tup xs):=fun p xs h=>k p _ (Z.tup h) h
 have oth:∀m,m∈(x::g::r).flatMap Fz.muts->H' m=H m:=fun m hm=>by
  obtain⟨ws,hw⟩:=Z.zr.lsts m hm
  rw[hw]
  exact k m _ (Z.off hm) hw
 have mx:∀m∈x.muts,m∈(x::g::r).flatMap Fz.muts:=fun m hm=>by rw[qE];exact qV _ hm
 let H0':Hp:=fun b=>if b∈x.muts\/b=x.p then H b else H0 b
 have e1:∀b,b∈x.muts\/b=x.p->H0' b=H b:=fun b hb=>Q0 hb
 have e2:∀b,¬ (b∈x.muts\/b=x.p)->H0' b=H0 b:=fun b hb=>qZ hb
 have gr:aa H0 H0':=fun b u hb=>by
  by_cases c:b∈x.muts\/b=x.p
  ·rw[e1 b c];exact Z.h0 _ _ hb
  ·rw[e2 b c];exact hb
 have hl:RL H0' x.c x.f.ds:=.mk ((e1 _ (.inl x.c_mem)).trans h1) (h2.same gr)
 have ht:H0' x.p=some (.tup x.tupV):=(e1 _ (.inr rfl)).trans h5
 have hd:RD H0' (.ref x.p) x.f.deed:=by
  unfold Fz.tupV at ht
  unfold Fz.side at h3
  unfold Fr.deed
  cases q:x.f.op with
  |root=>exact absurd q h4
  |ifT n=>
   rw[q]at ht h3
   exact .cond ht hl (.mk ((e1 _ (.inl (by unfold Fz.muts;rw[q];simp))).trans h3) .nil)
  |ifO n t=>
   rw[q]at ht h3
   exact .cond ht (RL.same gr h3) hl
  |whl n=>
   rw[q]at ht
   exact .whl ht hl
  |rep n=>
   rw[q]at ht
   exact .rep ht hl
 have am:own++(x::g::r).flatMap Fz.muts=own++(x.muts++(g::r).flatMap Fz.muts):=by rw[qE]
 have nd:=Z.nd
 rw[am,List.nodup_append,List.nodup_append]at nd
 obtain⟨n1,⟨n2,n3,n4⟩,n5⟩:=nd
 have up:∀m,m∈own++(g::r).flatMap Fz.muts->m∈own++(x::g::r).flatMap Fz.muts:=fun m hm=>by
  rw[am]
  rcases qg.mp hm with h|h
  ·exact qV _ h
  ·exact qH _ (qH _ h)
 have ex:∀m,m∈own++(g::r).flatMap Fz.muts->H0' m=none:=fun m hm=>by
  rw[e2 m ?_]
  ·exact Z.fz m (up m hm)
  ·rintro(hx|hx)
   ·rcases qg.mp hm with h|h
    ·exact n5 m h m (qV _ hx) rfl
    ·exact n4 m hx m h rfl
   ·obtain⟨ws,hw⟩:=Z.lsts m (up m hm)
    exact cW h5 hw hx.symm
 refine⟨H0',{ hb:=Z.hb.trans gr,h0:=?_,fz:=ex,nd:=?_,ol:=ol,zr:=?_ }⟩
 ·intro b u hb
  by_cases c:b∈x.muts\/b=x.p
  ·rw[e1 b c]at hb
   rcases c with c|c
   ·rw[oth b (mx b c)];exact hb
   ·subst c;rw[h5]at hb;cases hb;exact tp _ _ h5
  ·rw[e2 b c]at hb
   exact k _ _ (fun ho=>by rw[Z.fz b (qV _ ho)]at hb;cases hb) (Z.h0 _ _ hb)
 ·show(own++(g::r).flatMap Fz.muts).Nodup
  rw[List.nodup_append]
  exact⟨n1,n3,fun m hm b hb=>n5 m hm b (qH _ hb)⟩
 ·have h7:=(h6.frame (H':=H') (fun m hm=>oth m (me hm)) tp).grow gr
  obtain⟨⟨ws,w1,w2⟩,w3,w4⟩:=h7
  exact⟨⟨ws++[.ref x.p],by rw[qw];exact w1,w2.app (.cons hd .nil)⟩,w3,w4⟩
theorem ZC.whole (Z:ZC Hb H0 H own z):RL H (fW z) (wh (z.map (·.f)) []):=Z.zr.whole Z.h0 .nil
theorem ZC.begin {b:Addr}{f:Fr}(hf:f.op=.root) (hd:f.ds=[]) (nd:(own++[b]).Nodup) (hb:H b=some (.lst [])) (hn:∀m∈own++[b],H0 m=none) (hs:aa H0 H) (ol:∀m∈own,∃vs,H m=some (.lst vs)):ZC H0 H0 H own [⟨f,b,0,0⟩]:=by
 have e:([⟨f,b,0,0⟩]:List Fz).flatMap Fz.muts=[b]:=by
  simp[Fz.muts,hf]
 refine⟨aa.refl _,hs,by rw[e];exact hn,by rw[e];exact nd,ol,⟨[],hb,by rw[hd];exact .nil⟩,?_,.inl ⟨hf,rfl⟩⟩
 unfold Fz.side
 dsimp only
 rw[hf]
 trivial
end
end Tr
namespace Tr
open PySem PySem.Spec PyProof.Rows L2
set_option linter.all false
def Fr.sec (f:Fr):Option Str:=match f.op with
 |.ifT x=>if f.times=1 then some x else none
 |_=>none
def cH:List Fr:=[⟨.root,[],false,0⟩]
def PlX (C S:List Str) (d:a9):Prop:=PlW C S d/\match d with
 |.set _ _ sg _=>sg∈sgL
 |_=>True
def BlX (C S:List Str) (ds:List a9):Prop:=∀d∈ag ds,PlX C S d
theorem BlX.nil {C S:List Str}:BlX C S []:=fun d hd=>by simp[ag]at hd
theorem BlX.app {C S:List Str}{a b:List a9}(ha:BlX C S a) (hb:BlX C S b):BlX C S (a++b):=fun d hd=>by
 rw[cP,qg]at hd
 exact hd.elim (ha d) (hb d)
theorem BlX.one {C S:List Str}{d:a9}(h:PlX C S d) (hi:∀b∈d.inner,BlX C S b):BlX C S [d]:=fun e he=>by
 rw[ag,ag,qw,dE]at he
 rcases qt.mp he with rfl|he
 ·exact h
 ·obtain⟨b,hb,hm⟩:=List.mem_flatMap.mp he
  exact hi b hb e hm
def opX (C:List Str):Op->Prop
 |.root=>True
 |.ifT x|.ifO x _|.whl x=>x∈C
 |.rep n=>0<=n/\n<=1000
theorem uw {C S:List Str}{f:Fr}(h0:f.op≠.root) (h1:opX C f.op) (h2:BlX C S f.ds) (h3:BlX C S f.op.extra):BlX C S [f.deed]:=by
 unfold Fr.deed
 cases q:f.op with
 |root=>exact absurd q h0
 |ifT x=>
  rw[q]at h1 h3
  refine .one ⟨h1,trivial⟩ fun b hb=>?_
  simp[a9.inner]at hb
  rcases hb with rfl|rfl
  ·exact h2
  ·exact .nil
 |ifO x t=>
  rw[q]at h1 h3
  refine .one ⟨h1,trivial⟩ fun b hb=>?_
  simp[a9.inner]at hb
  rcases hb with rfl|rfl
  ·exact h3
  ·exact h2
 |whl x=>
  rw[q]at h1
  refine .one ⟨h1,trivial⟩ fun b hb=>?_
  simp[a9.inner]at hb
  subst hb
  exact h2
 |rep n=>
  rw[q]at h1
  refine .one ⟨h1,trivial⟩ fun b hb=>?_
  simp[a9.inner]at hb
  subst hb
  exact h2
def SX (C S:List Str):List Fr->Prop
 |[]=>False
 |[f]=>f.op=.root/\BlX C S f.ds/\av f.ds<=12
 |f::g::r=>f.op≠.root/\opX C f.op/\BlX C S f.ds/\BlX C S f.op.extra/\av f.ds+(r.length+1)<=12/\av f.op.extra+(r.length+1)<=12/\SX C S (g::r)
theorem SX.more {C S:List Str}{g:Fr}{r:List Fr}{ds:List a9}(h:SX C S (g::r)) (h1:BlX C S ds) (h2:av ds+r.length<=12):SX C S ({ g with ds:=g.ds++ds }::r):=by
 have hd:av (g.ds++ds)=max (av g.ds) (av ds):=eS _ _
 cases r with
 |nil=>exact⟨h.1,h.2.1.app h1,by show av (g.ds++ds)<=12;rw[hd];have:=h.2.2;simp at h2;omega⟩
 |cons g' r'=>
  obtain⟨a1,a2,a3,a4,a5,a6,a7⟩:=h
  simp only[qz]at h2
  exact⟨a1,a2,a3.app h1,a4,by show av (g.ds++ds)+_<=12;rw[hd];omega,a6,a7⟩
theorem SX.close {C S:List Str}{f g:Fr}{r:List Fr}(h:SX C S (f::g::r)):SX C S (jA (f::g::r)):=by
 obtain⟨a1,a2,a3,a4,a5,a6,a7⟩:=h
 refine a7.more (ds:=[f.deed]) (uw a1 a2 a3 a4) ?_
 have:=uu f
 omega
theorem nV {C S:List Str}:∀(st:List Fr) (dt:List a9),SX C S st->BlX C S dt->av dt+(st.length-1)<=12->BlX C S (wh st dt)/\av (wh st dt)<=12/\(ag (wh st dt)).length<=cnt st+(ag dt).length
 |[],_,h,_,_=>h.elim
 |[f],dt,h,hd,hp=>by
  refine⟨h.2.1.app hd,?_,?_⟩
  ·show av (f.ds++dt)<=12
   rw[eS]
   have:=h.2.2
   simp at hp
   omega
  ·show(ag (f.ds++dt)).length<=_
   rw[cP,qa]
   simp only[cnt]
   omega
 |f::g::r,dt,h,hd,hp=>by
  obtain⟨a1,a2,a3,a4,a5,a6,a7⟩:=h
  have hp':av dt+(r.length+1)<=12:=by simpa using hp
  have e1:av (f.ds++dt)=max (av f.ds) (av dt):=eS _ _
  have d1:=uu ({ f with ds:=f.ds++dt }:Fr)
  have d2:=uv (f:={ f with ds:=f.ds++dt }) a1
  have l1:(ag (f.ds++dt)).length=(ag f.ds).length+(ag dt).length:=by rw[cP,qa]
  obtain⟨b1,b2,b3⟩:=nV (g::r) [({ f with ds:=f.ds++dt }:Fr).deed] a7 (uw (f:={ f with ds:=f.ds++dt }) a1 a2 (a3.app hd) a4) (by dsimp only at d1;rw[e1]at d1;show _+r.length<=12;omega)
  refine⟨b1,b2,qx b3 ?_⟩
  dsimp only at d2
  have ec:cnt (f::g::r)=(ag f.ds).length+(ag f.op.extra).length+f.op.one+cnt (g::r):=rfl
  omega
theorem yF {C S:List Str}{x:Str}{a b:Val}{sg:Str}(hx:x∈C) (ha:eV C a) (hs:sg∈sgL) (hb:eV C b):PlX C S (.set x a sg b):=⟨⟨hx,ha,hb⟩,hs⟩
end Tr
namespace Tr
open PySem PySem.Spec PyProof.Rows L2
set_option linter.all false
def Fz.oJ (x:Fz):V:=match x.f.sec with
 |some _=>.ref x.e
 |none=>.non
structure GJ (Hb H0 H:Hp) (s0 s1 s2:Addr) (z:List Fz):Prop where
 zc:ZC Hb H0 H [s0,s1,s2] z
 c0:H s0=some (.lst ((z.map fun x=>V.ref x.c).reverse))
 c1:H s1=some (.lst ((z.map Fz.oJ).reverse))
 c2:H s2=some (.lst ((z.map fun x=>V.bl x.f.shut).reverse))
section
variable {Hb H0 H0' H H' H1:Hp}{s0 s1 s2:Addr}{z:List Fz}
theorem GJ.ss (G:GJ Hb H0 H s0 s1 s2 z):s0≠s1/\s0≠s2/\s1≠s2:=by
 have nd:=(List.nodup_append.mp G.zc.nd).1
 simp only[List.nodup_cons,qt,qQ,or_false,not_or]at nd
 exact⟨nd.1.1,nd.1.2,nd.2.1⟩
theorem ja {vs ws us:List V}(h0:H s0=some (.lst vs)) (h1:H s1=some (.lst ws)) (h2:H s2=some (.lst us)):∀m∈[s0,s1,s2],∃vs,H m=some (.lst vs):=fun m hm=>by
 simp only[qt,qQ,or_false]at hm
 rcases hm with rfl|rfl|rfl
 ·exact⟨_,h0⟩
 ·exact⟨_,h1⟩
 ·exact⟨_,h2⟩
end
end Tr
namespace L2
open PySem PySem.Spec PyProof.Rows PySem.W
section
variable {X:Cx}{k:Nat}{f C0:Addr}{fd:FuncData}{ps:List Str}{sp:Sp}{dvs:List V}{ds:List Value}{fx cx y m n:Str}{iy im inn:Nat}{p pos apos py cp pm pn pl pa hpos tpos:Pos}{e:Expr}{es:List Expr}{t:TA}
end
end L2
namespace Tr
open PySem PySem.Spec PyProof.Rows L2
set_option linter.all false
end Tr
namespace Tr
open PySem PySem.Spec PyProof.Rows L2
set_option linter.all false
end Tr
namespace L2
open PySem PySem.Spec PyProof.Rows
theorem tK:∀{ys:List Int}{its:List Value},au (ys.map V.int) its->IntsAre its ys
 |[],[],_=>.nil
 |y::ys,_::_,.cons h r=>by
  obtain⟨t,rfl⟩:=h
  exact .cons y t (tK r)
section
variable {X:Cx}
end
section
variable {P:Program}{w:World}{A:Around}{E:Qq}{s:Shared}
end
section
variable {X:Cx}
end
section
variable {P:Program}{w:World}{A:Around}{E:Qq}{s:Shared}
end
section
variable {X:Cx}
end
set_option linter.all false
theorem jJ {z:Str}:∀{zs:List Str}{us:List Value}{i:Nat},au (zs.map V.str) us->zs[i]?=some z->∃t,us[i]?=some (.str z t)
 |[],_,_,_,h=>by simp at h
 |y::r,_,0,.cons h _,e=>by
  obtain⟨t,rfl⟩:=h
  cases(by simpa using e:y=z)
  exact⟨t,rfl⟩
 |y::r,_,i+1,.cons _ h,e=>jJ (i:=i) h (by simpa using e)
theorem nX {zs:List Str}{us:List Value}{i:Nat}{u:Value}(h:au (zs.map V.str) us) (e:us[i]?=some u):∃z t,zs[i]?=some z/\u=.str z t:=by
 have l:=h.length
 rw[q5]at l
 have lt:i<zs.length:=by
  have:=(qe.mp e).1
  omega
 obtain⟨t,ht⟩:=jJ h (qb lt)
 rw[ht]at e
 cases e
 exact⟨_,t,qb lt,rfl⟩
def gm (x:Str):Value->Bool
 |.str y _=>y.cps.toList == x.cps.toList
 |_=>false
theorem wL {x:Str}{t:Tok}:gm x (.str x t)=true:=by simp[gm]
theorem wM {x y:Str}{t:Tok}(h:y≠x):gm x (.str y t)=false:=by
 simp only[gm,beq_eq_false_iff_ne]
 intro e
 apply h
 cases x with|mk x=>cases y with|mk y=>exact congrArg _ (Array.ext' e)
section
variable {X:Cx}
def yg:V->List V->Hp->VK->Prop:=fun v xs H Q=>∃(l:Addr) (zs:List Str) (x:Str),v=.ref l/\xs=[.str x]/\H l=some (.lst (zs.map V.str))/\x∈zs/\zs.length<=1000/\Q (.int (zs.idxOf x:Nat)) H
theorem mh:MtM X "list.index" yg:=by
 intro pins s σ H x vs v us Q I rx rv h
 obtain⟨l,zs,y,rfl,rfl,hH,hm,hz,q⟩:=h
 cases rx
 obtain⟨u,rfl,t,rfl⟩:=rv.one
 obtain⟨z,its,n,r,hl,e⟩:=I.lstM hH
 have il:its.length=zs.length:=by have:=r.length;rw[q5]at this;exact this.symm
 have lt:zs.idxOf y<zs.length:=List.idxOf_lt_length_iff.mpr hm
 have at1:zs[zs.idxOf y]?=some y:=by rw[qb lt,List.getElem_idxOf lt]
 refine call_meets PySem.F.slot_list_index ⟨_,e,rfl⟩ PySem.F.entry_list_index (PySem.F.args_list_index_2 _ _)
  (MeetsSeq.list_index l its.toArray n (.str y t) (gm y) (fun w hw=>?_) (zs.idxOf y) (by rw[qA];omega) Qo ?_ (fun m hm' hlt=>?_)) ⟨e,?_⟩
 ·obtain⟨i,hi⟩:=List.mem_iff_getElem?.mp (by simpa using hw)
  obtain⟨z,t',_,rfl⟩:=nX r hi
  exact PySem.SeqRoads2.EqGives.str z y t' t
 ·obtain⟨t',ht⟩:=jJ r at1
  have:its.toArray[zs.idxOf y]'(by rw[qA];omega)=.str y t':=by
   rw[List.getElem_toArray]
   exact qI ((qb Qo).symm.trans ht)
  rw[this]
  exact wL
 ·have lt':m<its.length:=by omega
  obtain⟨z,t',hz',ez⟩:=nX r (qb lt')
  have:its.toArray[m]=.str z t':=by rw[List.getElem_toArray];exact ez
  rw[this]
  refine wM fun ne=>?_
  subst ne
  have:=List.not_of_lt_findIdx hlt
  rw[qb Qo]at hz'
  rw[qI hz']at this
  simp at this
 ·exact⟨.int (zs.idxOf y),H,I.tok _,⟨_,rfl⟩,q⟩
end
end L2
namespace Tr
open PySem PySem.Spec PyProof.Rows L2
set_option linter.all false
structure LnD where
 lg:V
 on:List Int
inductive Sd
 |at(i:Int)
 |is (n:Int)
inductive PtD
 |pas (is os rt:List Int)
 |wrk (is:List Int) (o:Int) (sg:Str) (l r:Sd)
inductive R2s {α β:Type}(R:α->β->Prop):List α->List β->Prop
 |nil:R2s R [] []
 |cons {x:α}{y:β}{xs:List α}{ys:List β}:R x y->R2s R xs ys->R2s R (x::xs) (y::ys)
def dN:LnD:=⟨.int 1,[]⟩
def gu (zs:List Str):Val->Sd
 |.num n=>.is n
 |.nm x=>.at (zs.idxOf x:Nat)
def c9 (n:Nat) (k:Nat):List Int:=(List.range k).map fun i=>((n+2 * i:Nat):Int)
theorem R2s.len {α β:Type}{R:α->β->Prop}:∀{xs:List α}{ys:List β},R2s R xs ys->xs.length=ys.length
 |_,_,.nil=>rfl
 |_,_,.cons _ r=>congrArg (·+1) r.len
theorem R2s.app {α β:Type}{R:α->β->Prop}{us:List α}{ws:List β}(k:R2s R us ws):∀{xs:List α}{ys:List β},R2s R xs ys->R2s R (xs++us) (ys++ws)
 |_,_,.nil=>k
 |_,_,.cons h r=>.cons h (R2s.app k r)
theorem R2s.imp {α β:Type}{R S:α->β->Prop}(k:∀x y,R x y->S x y):∀{xs:List α}{ys:List β},R2s R xs ys->R2s S xs ys
 |_,_,.nil=>.nil
 |_,_,.cons h r=>.cons (k _ _ h) (R2s.imp k r)
theorem R2s.at {α β:Type}{R:α->β->Prop}:∀{xs:List α}{ys:List β},R2s R xs ys->∀{i:Nat}{x:α},xs[i]?=some x->∃y,ys[i]?=some y/\R x y
 |_,_,.nil,i,x,h=>by simp at h
 |_,_,.cons k r,0,x,h=>by
  cases(by simpa using h:_=x)
  exact⟨_,rfl,k⟩
 |_,_,.cons k r,i+1,x,h=>by
  obtain⟨y,hy,hr⟩:=r.at (i:=i) (by simpa using h)
  exact⟨y,by simpa using hy,hr⟩
end Tr
namespace Tr
open PySem PySem.Spec PyProof.Rows L2
set_option linter.all false
def PtD.ins:PtD->List Int
 |.pas is _ _=>is
 |.wrk is _ _ _ _=>is
def vf (ts:List Int):Sd->Prop
 |.at i=>∃j:Nat,i=j/\j<ts.length
 |.is n=>OnW n
theorem Am {α:Type}{a b:List α}(ha:a.Nodup) (hb:b.Nodup) (h:∀x∈a,x∉b):(a++b).Nodup:=List.nodup_append.mpr ⟨ha,hb,fun x hx y hy e=>h x hx (e▸hy)⟩
theorem tW (n k:Nat):(c9 n k).length=k:=by
 unfold c9
 rw[q5,List.length_range]
end Tr
namespace Tr
open PySem PySem.Spec PyProof.Rows L2
set_option linter.all false
theorem R2s.get {α β:Type}{R:α->β->Prop}:∀{xs:List α}{ys:List β},R2s R xs ys->∀{i:Nat}{y:β},ys[i]?=some y->∃x,xs[i]?=some x/\R x y
 |_,_,.nil,i,y,h=>by simp at h
 |_,_,.cons k r,0,y,h=>by
  cases(by simpa using h:_=y)
  exact⟨_,rfl,k⟩
 |_,_,.cons k r,i+1,y,h=>by
  obtain⟨x,hx,hr⟩:=r.get (i:=i) (by simpa using h)
  exact⟨x,by simpa using hx,hr⟩
theorem tJ:∀{a b:List Int},a.Perm b->List.Pairwise (fun x y=>x<=y) a->List.Pairwise (fun x y=>x<=y) b->a=b
 |[],b,h,_,_=>by rw[h.nil_eq]
 |x::a,[],h,_,_=>by simp at h
 |x::a,y::b,h,ha,hb=>by
  rw[List.pairwise_cons]at ha hb
  have e:x=y:=by
   have h1:y∈x::a:=h.mem_iff.mpr qk
   have h2:x∈y::b:=h.mem_iff.mp qk
   rcases qt.mp h1 with z|z
   ·exact z.symm
   ·rcases qt.mp h2 with z'|z'
    ·exact z'
    ·have:=ha.1 y z
     have:=hb.1 x z'
     omega
  subst e
  rw[tJ ((List.perm_cons x).mp h) ha.2 hb.2]
end Tr
namespace Tr
open PySem PySem.Spec PyProof.Rows L2
set_option linter.all false
def mB:List Nat:=[98,99,100,102,103,106,107,109,110,113,118,120,121,122]
def chN (i:Int):Str:=⟨#[mB.getD (i % 14).toNat 0]⟩
def nmN (c:Int):List Str:=
 if c / 126 % 3=1 then(List.range 6).map fun k:Nat=>Txt.mul (chN (c / 9+((0:Nat):Int))) ((k:Int)+1)
 else(List.range 6).map fun k:Nat=>Txt.mul ("q":Str) (c % 3)++chN (c / 9+k)++Txt.slice ("vz":Str) none (some (c / 3 % 3))
def pkN (c f p m:Int):Int:=c * f % p % m
def vaN (n:Int) (zs:List Str):Val:=if n % 9<6 then .nm (zs.getD (n % 9).toNat (">":Str))else if n % 9=6 then .num (n / 9 % 4)else .num (n * 12650793754653265942685193121 % 1000000000000000000000000000000)
def sgN (i:Int):Str:=⟨#[("+-*/<=&|^":Str).cps.toList.getD i.toNat 43]⟩
def fj (c:Int) (x:Str) (zs:List Str):a9:=.set x (vaN (c * 40692 % 40009) zs) (sgN (pkN c 16807 50021 9)) (vaN (c * 30323 % 60013) zs)
def dP (c:Int) (x q:Str) (zs:List Str) (hid:Bool):a9:=
 if pkN c 48271 10007 12=3 then .give x
 else if pkN c 48271 10007 12=4/\hid=false then .put q x
 else if pkN c 48271 10007 12=5/\hid=false then .get q x
 else fj c x zs
def kdN:Op->Str
 |.root=>""
 |.ifT _=>"if"
 |.ifO _ _=>"else"
 |.whl _=>"while"
 |.rep _=>"repeat"
def eA (st:List Fr):Bool:=st.any fun f=>decide (kdN f.op="if") || (decide (kdN f.op="else") || decide (kdN f.op="while"))
def opN (c:Int) (x:Str):Op:=if pkN c 48271 10007 12=6 then .ifT x else if pkN c 48271 10007 12=7 then .whl x else .rep (pkN c 16807 70001 100)
def Op.els (f:Fr):Fr:=match f.op with
 |.ifT y=>⟨.ifO y f.ds,[],f.shut,0⟩
 |_=>f
def xN (c:Int) (zs:List Str):Str:=zs.getD (pkN c 69621 20011 6).toNat (">":Str)
def qN (c:Int) (ss:List Str):Str:=ss.getD (pkN c 39373 30011 2).toNat (">":Str)
def cy (zs ss:List Str) (st:List Fr) (c:Int):List Fr:=match st with
 |[]=>[]
 |g::r=>
  if 5<pkN c 48271 10007 12/\pkN c 48271 10007 12<9/\r.length<5 then⟨opN c (xN c zs),[],false,0⟩::g::r
  else if 8<pkN c 48271 10007 12/\pkN c 48271 10007 12<11/\0<r.length then jA (g::r)
  else if pkN c 48271 10007 12=11/\kdN g.op="if" then Op.els g::r
  else g.add (dP c (xN c zs) (qN c ss) zs (eA (g::r)))::r
def fX (zs ss:List Str) (cells:List Int):List a9:=wh (cells.foldl (cy zs ss) cH) []
theorem dY {c f p m:Int}(h:0<m):0<=pkN c f p m:=Int.emod_nonneg _ Qo
theorem dZ {c f p m:Int}(h:0<m):pkN c f p m<m:=Int.emod_lt_of_pos _ h
theorem gY {zs:List Str}{i:Nat}(h:i<zs.length):zs.getD i (">":Str)∈zs:=by
 rw[qi,qb h]
 exact List.getElem_mem h
theorem vv {c:Int}{zs:List Str}(h:zs.length=6):xN c zs∈zs:=gY (by
 have h0:=dY (c:=c) (f:=69621) (p:=20011) (m:=6) Qk
 have h1:=dZ (c:=c) (f:=69621) (p:=20011) (m:=6) Qk
 omega)
theorem yr {c:Int}{ss:List Str}(h:ss.length=2):qN c ss∈ss:=gY (by
 have h0:=dY (c:=c) (f:=39373) (p:=30011) (m:=2) Qk
 have h1:=dZ (c:=c) (f:=39373) (p:=30011) (m:=2) Qk
 omega)
theorem nZ {n:Int}{zs:List Str}(h:zs.length=6):eV zs (vaN n zs):=by
 have m0:0<=n % 9:=Int.emod_nonneg _ Qk
 unfold vaN
 split
 ·exact gY Qo
 split
 ·exact⟨Qo,Qo⟩
 ·exact⟨Int.emod_nonneg _ Qk,Int.emod_lt_of_pos _ Qk⟩
theorem xj {i:Int}(h0:0<=i) (h1:i<9):sgN i∈sgL:=by
 have:i=0\/i=1\/i=2\/i=3\/i=4\/i=5\/i=6\/i=7\/i=8:=Qo
 rcases this with rfl|rfl|rfl|rfl|rfl|rfl|rfl|rfl|rfl<;>decide +kernel
theorem xh {zs ss:List Str}{c:Int}{x q:Str}{hid:Bool}(h:zs.length=6) (hx:x∈zs) (hq:q∈ss):BlX zs ss [dP c x q zs hid]/\av [dP c x q zs hid]=0/\(ag [dP c x q zs hid]).length=1:=by
 unfold dP
 split
 ·exact⟨.one ⟨hx,trivial⟩ (fun b hb=>by simp[a9.inner]at hb),rfl,rfl⟩
 split
 ·exact⟨.one ⟨⟨hq,hx⟩,trivial⟩ (fun b hb=>by simp[a9.inner]at hb),rfl,rfl⟩
 split
 ·exact⟨.one ⟨⟨hq,hx⟩,trivial⟩ (fun b hb=>by simp[a9.inner]at hb),rfl,rfl⟩
 ·exact⟨.one (yF hx (nZ h) (xj (dY Qk) (dZ Qk)) (nZ h)) (fun b hb=>by simp[a9.inner,fj]at hb),rfl,rfl⟩
theorem rY {zs:List Str}{c:Int}{x:Str}(h:x∈zs):opX zs (opN c x)/\opN c x≠.root/\(opN c x).extra=[]/\(opN c x).one=1:=by
 unfold opN
 split
 ·exact⟨h,by simp,rfl,rfl⟩
 split
 ·exact⟨h,by simp,rfl,rfl⟩
 ·have h0:=dY (c:=c) (f:=16807) (p:=70001) (m:=100) Qk
  have h1:=dZ (c:=c) (f:=16807) (p:=70001) (m:=100) Qk
  exact⟨⟨h0,Qo⟩,by simp,rfl,rfl⟩
theorem tq {o:Op}(h:kdN o="if"):∃y,o=.ifT y:=by
 cases o with
 |ifT y=>exact⟨y,rfl⟩
 |root=>exact absurd h (show ¬ (("":Str)="if")by decide +kernel)
 |ifO y t=>exact absurd h (show ¬ (("else":Str)="if")by decide +kernel)
 |whl y=>exact absurd h (show ¬ (("while":Str)="if")by decide +kernel)
 |rep n=>exact absurd h (show ¬ (("repeat":Str)="if")by decide +kernel)
theorem wN {zs ss:List Str}(h:zs.length=6) (h2:ss.length=2) {st:List Fr}{c:Int}(hs:SX zs ss st) (hl:st.length<=6):SX zs ss (cy zs ss st c)/\(cy zs ss st c).length<=6/\cnt (cy zs ss st c)<=cnt st+1:=by
 match st,hs,hl with
 |g::r,hs,hl=>
  have hx:=vv (c:=c) h
  have hq:=yr (c:=c) h2
  unfold cy
  dsimp only
  split
  ·rename_i co
   obtain⟨f1,f2,f3,f4⟩:=rY (c:=c) hx
   refine⟨⟨f2,f1,.nil,by rw[f3];exact .nil,by simp[av];omega,by rw[f3];simp[av];omega,hs⟩,by simp;omega,?_⟩
   rw[cnt,f3,f4]
   have e0:(ag ([]:List a9)).length=0:=rfl
   dsimp only
   rw[e0]
   omega
  split
  ·rename_i c6
   cases r with
   |nil=>exact absurd c6.2.2 (by simp)
   |cons g' r'=>exact⟨hs.close,by simp[jA]at hl ⊢;omega,qx (Cn hs.1) Qo⟩
  split
  ·rename_i c11
   obtain⟨y,q1⟩:=tq c11.2
   have e:Op.els g=⟨.ifO y g.ds,[],g.shut,0⟩:=by unfold Op.els;rw[q1]
   rw[e]
   cases r with
   |nil=>
    have:=hs.1
    rw[q1]at this
    cases this
   |cons g' r'=>
    obtain⟨a1,a2,a3,a4,a5,a6,a7⟩:=hs
    rw[q1]at a2
    refine⟨⟨by simp,a2,.nil,a3,by simp[av];simp at hl;omega,a5,a7⟩,hl,?_⟩
    simp[cnt,q1,Op.extra,Op.one,ag]
  ·obtain⟨s1,s2,s3⟩:=xh (ss:=ss) (c:=c) (hid:=eA (g::r)) h hx hq
   refine⟨hs.more (ds:=[dP c (xN c zs) (qN c ss) zs (eA (g::r))]) s1 (by rw[s2];simp at hl;omega),hl,?_⟩
   rw[uF,s3]
   exact qd _
theorem jT {zs ss:List Str}(h:zs.length=6) (h2:ss.length=2):∀(cells:List Int) (st:List Fr),SX zs ss st->st.length<=6->SX zs ss (cells.foldl (cy zs ss) st)/\(cells.foldl (cy zs ss) st).length<=6/\cnt (cells.foldl (cy zs ss) st)<=cnt st+cells.length
 |[],st,hs,hl=>⟨hs,hl,qd _⟩
 |c::cells,st,hs,hl=>by
  obtain⟨b1,b2,b3⟩:=wN (c:=c) h h2 hs hl
  obtain⟨d1,d2,d3⟩:=jT h h2 cells _ b1 b2
  refine⟨d1,d2,?_⟩
  rw[List.foldl_cons,qz]
  omega
theorem uP {zs ss:List Str}(h:zs.length=6) (h2:ss.length=2) (cells:List Int):BlX zs ss (fX zs ss cells)/\av (fX zs ss cells)<=12/\(ag (fX zs ss cells)).length<=cells.length:=by
 obtain⟨a1,a2,a3⟩:=jT h h2 cells cH ⟨rfl,.nil,by simp[av]⟩ (by simp[cH])
 obtain⟨b1,b2,b3⟩:=nV _ [] a1 .nil (by simp[av];omega)
 refine⟨b1,b2,?_⟩
 have e:(ag ([]:List a9)).length=0:=rfl
 have e1:cnt cH=0:=by simp[cH,cnt,ag,Op.extra,Op.one]
 unfold fX
 omega
end Tr
namespace Tr
open PySem PySem.Spec PyProof.Rows L2
set_option linter.all false
inductive PtG
 |pas (is os rt:List Int)
 |wrk (is:List Int) (o:Int) (sg:Str) (l r:Sd)
 |cho (is:List Int) (w:Int) (ons ofs:List Int) (t:Int)
 |mrg (t:Int) (ons ofs outs:List Int)
structure ah where
 ls:List LnD
 ps:List PtG
 cs:List Str
 fc:aS
def wid (n k:Nat):List Int:=(List.range k).map fun i=>((n+i:Nat):Int)
def ah.n (N:ah):Nat:=N.ls.length
def ah.wires (N:ah) (k:Nat):ah:={ N with ls:=N.ls++List.replicate k dN }
def ah.line (N:ah) (d:LnD):ah:={ N with ls:=N.ls++[d] }
def ah.part (N:ah) (p:PtG):ah:={ N with ps:=N.ps++[p] }
def ah.lead (N:ah) (zs:List Str) (ws:List Int):ah:={ N with cs:=zs.foldl bE N.cs,fc:=(zs.zip ws).foldl (fun f z=>bi f z.1 z.2) N.fc }
def ah.fork (N:ah) (x:Str):ah:=((N.wires 2).part (.pas [N.fc x] (wid N.n 2) [0,0])).lead [x] [((N.n+1:Nat):Int)]
def ah.set (N:ah) (x:Str) (va:Val) (sg:Str) (vb:Val) (rs:List Str):ah:=
 let M:=rs.foldl ah.fork N
 ((M.wires 1).part (.wrk (N.fc x::c9 N.n rs.length) M.n sg (gu (x::rs) va) (gu (x::rs) vb))).lead [x] [(M.n:Int)]
def ah.hand (N:ah) (card x:Str) (e:Int):ah:=
 let M:=N.fork x
 ((M.wires 1).part (.pas [N.fc card,(N.n:Int)] [(M.n:Int),e] [0,1])).lead [card] [(M.n:Int)]
def ah.get (N:ah) (card x:Str) (e:Int):ah:=((N.wires 2).part (.pas [N.fc card,N.fc x,e] (wid N.n 2) [0,2])).lead [card,x] (wid N.n 2)
def ah.ifA (N:ah) (zs:List Str) (x:Str):ah:=((((N.wires zs.length).wires zs.length).line dN).part (.cho (zs.map N.fc) (zs.idxOf x:Nat) (wid N.n zs.length) (wid (N.n+zs.length) zs.length) ((N.n+zs.length+zs.length:Nat):Int))).lead zs (wid N.n zs.length)
def ah.ifZ (N:ah) (zs:List Str) (told:Nat) (ons:List Int):ah:=((N.wires zs.length).part (.mrg (told:Int) ons (zs.map N.fc) (wid N.n zs.length))).lead zs (wid N.n zs.length)
def i8:LnD:=⟨.int 1,[0]⟩
def ah.loA (N:ah) (zs:List Str) (x:Str) (beh:List Int):ah:=((((N.line i8).wires zs.length).wires zs.length).part (.cho (wid (N.n+1) zs.length) (zs.idxOf x:Nat) (wid (N.n+1+zs.length) zs.length) beh (N.n:Int))).lead zs (wid (N.n+1+zs.length) zs.length)
def ah.loZ (N:ah) (zs:List Str) (n:Nat) (com beh:List Int):ah:=(N.part (.mrg (n:Int) (zs.map N.fc) com (wid (n+1) zs.length))).lead zs beh
def ctN (n:Nat):Str:=(toString (n:Int):String)
def ctD (n:Nat):a9:=.set (ctN n) (.nm (ctN n)) "-" (.num 1)
def ah.reA (N:ah) (k:Int):ah:=(((N.line i8).wires 1).part (.wrk [(N.n:Int)] ((N.n+1:Nat):Int) "+" (.is k) (.is 0))).lead [ctN N.n] [((N.n+1:Nat):Int)]
structure gh (ds:List a9) (zs:List Str):Prop where
 nd:zs.Nodup
 mem:∀k,k∈zs↔k∈cards ds
 so:sortedS zs=true
 few:zs.length<=20
structure gb (x:Str) (va vb:Val) (rs:List Str):Prop where
 nd:rs.Nodup
 mem:∀y,y∈rs↔(y∈va.names\/y∈vb.names)/\y≠x
 so:sortedS rs=true
inductive Lay (fe:aS):ah->List a9->ah->Prop
 |nil {N:ah}:Lay fe N [] N
 |set {N N':ah}{x:Str}{va:Val}{sg:Str}{vb:Val}{rs:List Str}{r:List a9}:gb x va vb rs->Lay fe (N.set x va sg vb rs) r N'->Lay fe N (.set x va sg vb::r) N'
 |put {N N':ah}{q x:Str}{r:List a9}:Lay fe (N.hand (q++(">":Str)) x (fe q)) r N'->Lay fe N (.put q x::r) N'
 |give {N N':ah}{x:Str}{r:List a9}:Lay fe (N.hand (">":Str) x (fe (">":Str))) r N'->Lay fe N (.give x::r) N'
 |get {N N':ah}{q x:Str}{r:List a9}:Lay fe (N.get (q++("<":Str)) x (fe q)) r N'->Lay fe N (.get q x::r) N'
 |cond {N N1 N2 N':ah}{x:Str}{t o:List a9}{zs:List Str}{r:List a9}:gh [.cond x t o] zs->Lay fe (N.ifA zs x) t N1->Lay fe (N1.lead zs (wid (N.n+zs.length) zs.length)) o N2->Lay fe (N2.ifZ zs (N.n+zs.length+zs.length) (zs.map N1.fc)) r N'->Lay fe N (.cond x t o::r) N'
 |whl {N N1 N':ah}{x:Str}{b:List a9}{zs:List Str}{r:List a9}:gh [.whl x b] zs->Lay fe ((N.wires zs.length).loA zs x (wid N.n zs.length)) b N1->Lay fe (N1.loZ zs (N.n+zs.length) (zs.map N.fc) (wid N.n zs.length)) r N'->Lay fe N (.whl x b::r) N'
 |rep0 {N N':ah}{k:Int}{b:List a9}{r:List a9}:cards b=[]->Lay fe N r N'->Lay fe N (.rep k b::r) N'
 |rep {N N1 N':ah}{k:Int}{b:List a9}{zs:List Str}{r:List a9}:gh b zs->zs≠[]->Lay fe (((N.reA k).wires zs.length).loA (zs++[ctN N.n]) (ctN N.n) (wid (N.n+2) zs.length++[(N.n:Int)])) (b++[ctD N.n]) N1->
  Lay fe (N1.loZ (zs++[ctN N.n]) (N.n+2+zs.length) ((zs++[ctN N.n]).map (N.reA k).fc) (wid (N.n+2) zs.length++[(N.n:Int)])) r N'->Lay fe N (.rep k b::r) N'
def wtD:a9->Nat
 |.cond _ _ _|.whl _ _|.rep _ _=>200
 |_=>20
def wts (ds:List a9):Nat:=((ag ds).map wtD).sum
theorem i9 (a b:List a9):wts (a++b)=wts a+wts b:=by
 unfold wts
 rw[cP,qO,List.sum_append]
theorem vA (d:a9) (r:List a9):wts (d::r)=wts [d]+wts r:=i9 [d] r
theorem vx (d:a9):wts [d]=wtD d+(d.inner.map wts).sum:=by
 unfold wts
 rw[ag,ag,qw,dE,qR,List.sum_cons,List.map_flatMap]
 congr 1
 have:∀l:List (List a9),(l.flatMap fun a=>(ag a).map wtD).sum=(l.map fun ds=>((ag ds).map wtD).sum).sum:=by
  intro l
  induction l with
  |nil=>rfl
  |cons a r ih=>rw[qE,List.sum_append,ih,qR,List.sum_cons]
 exact this _
theorem nH (ds:List a9):wts ds<=200 * (ag ds).length:=by
 unfold wts
 generalize ag ds=l
 induction l with
 |nil=>exact qd _
 |cons d r ih=>
  rw[qR,List.sum_cons,qz]
  have:wtD d<=200:=by cases d<;>simp[wtD]
  omega
structure Gr (N N':ah) (m:Nat):Prop where
 l1:N.ls.length<=N'.ls.length
 l2:N'.ls.length<=N.ls.length+m
 p2:N'.ps.length<=N.ps.length+m
 c2:N'.cs.length<=N.cs.length+m
 sub:∀x∈N.cs,x∈N'.cs
 nd:N.cs.Nodup->N'.cs.Nodup
theorem Gr.trans {A B C:ah}{m k:Nat}(h:Gr A B m) (h':Gr B C k):Gr A C (m+k):=⟨qx h.l1 h'.l1,by have:=h.l2;have:=h'.l2;omega,by have:=h.p2;have:=h'.p2;omega,by have:=h.c2;have:=h'.c2;omega,fun x hx=>h'.sub x (h.sub x hx),fun z=>h'.nd (h.nd z)⟩
theorem Gr.refl {N:ah}:Gr N N 0:=⟨qd _,qd _,qd _,qd _,fun _ h=>h,fun h=>h⟩
theorem Gr.le {N N':ah}{m k:Nat}(h:Gr N N' m) (l:m<=k):Gr N N' k:=⟨h.l1,by have:=h.l2;omega,by have:=h.p2;omega,by have:=h.c2;omega,h.sub,h.nd⟩
theorem CM (ks:List Str) (x:Str):(bE ks x).length<=ks.length+1:=by
 unfold bE
 split
 ·omega
 ·simp
theorem g9:∀(zs cs:List Str),(zs.foldl bE cs).length<=cs.length+zs.length/\(∀x,x∈zs.foldl bE cs↔x∈cs\/x∈zs)/\(cs.Nodup->(zs.foldl bE cs).Nodup)
 |[],cs=>⟨qd _,fun x=>by simp,fun h=>h⟩
 |z::zs,cs=>by
  obtain⟨a,b,c⟩:=g9 zs (bE cs z)
  have:=CM cs z
  refine⟨by rw[List.foldl_cons,qz];omega,fun x=>?_,fun h=>c (sH h)⟩
  rw[List.foldl_cons,b,Az,qt,or_assoc]
theorem aP {N:ah}{k:Nat}:Gr N (N.wires k) k:=⟨by show _<=(N.ls++_).length;rw[qa];omega,by show(N.ls++List.replicate k dN).length<=_;rw[qa,List.length_replicate];exact qd _,Nat.le_add_right _ _,Nat.le_add_right _ _,fun _ h=>h,fun h=>h⟩
theorem c7 {N:ah}{d:LnD}:Gr N (N.line d) 1:=⟨by show _<=(N.ls++_).length;rw[qa];omega,by show(N.ls++[d]).length<=_;rw[qa];exact qd _,Nat.le_add_right _ _,Nat.le_add_right _ _,fun _ h=>h,fun h=>h⟩
theorem bC {N:ah}{p:PtG}:Gr N (N.part p) 1:=⟨qd _,Nat.le_add_right _ _,by show(N.ps++[p]).length<=_;rw[qa];exact qd _,Nat.le_add_right _ _,fun _ h=>h,fun h=>h⟩
theorem c8 {N:ah}{zs:List Str}{ws:List Int}:Gr N (N.lead zs ws) zs.length:=by
 obtain⟨a,b,c⟩:=g9 zs N.cs
 exact⟨qd _,Nat.le_add_right _ _,Nat.le_add_right _ _,a,fun x hx=>(b x).mpr (.inl hx),c⟩
theorem mP {N:ah}{x:Str}:Gr N (N.fork x) 4:=(aP.trans bC).trans c8
theorem jt:∀(rs:List Str) (N:ah),Gr N (rs.foldl ah.fork N) (4 * rs.length)
 |[],N=>.refl
 |r::rs,N=>(mP.trans (jt rs (N.fork r))).le (by rw[qz];omega)
theorem gb.few {x:Str}{va vb:Val}{rs:List Str}(h:gb x va vb rs):rs.length<=2:=by
 have:=bS h.nd (ds:=va.names++vb.names) fun y hy=>qg.mpr ((h.mem y).mp hy).1
 refine qx this ?_
 rw[qa]
 cases va<;>cases vb<;>simp[Val.names]
theorem Bv {N:ah}{x:Str}{va:Val}{sg:Str}{vb:Val}{rs:List Str}(h:gb x va vb rs):Gr N (N.set x va sg vb rs) 11:=by
 have:=h.few
 unfold ah.set
 exact(((((jt rs N).trans aP).trans bC).trans c8)).le (by rw[List.length_singleton];omega)
theorem tN {N:ah}{c x:Str}{e:Int}:Gr N (N.hand c x e) 7:=((mP.trans aP).trans bC).trans c8
theorem Bz {N:ah}{c x:Str}{e:Int}:Gr N (N.get c x e) 5:=(aP.trans bC).trans c8
end Tr
namespace Tr
open PySem PySem.Spec PyProof.Rows L2
set_option linter.all false
theorem nD {x:Str}{n:Int}:∀{ak:List Str}{ms:List Int}{i:Nat},ak[i]?=some x->ms[i]?=some n->(ak.take (i+1)).zip ms=(ak.take i).zip ms++[(x,n)]
 |[],_,_,h,_=>by simp at h
 |_::_,[],_,_,h=>by simp at h
 |y::ak,m::ms,0,h,h'=>by
  simp at h h'
  simp[h,h']
 |y::ak,m::ms,i+1,h,h'=>by
  rw[List.take_succ_cons,List.take_succ_cons,List.zip_cons_cons,List.zip_cons_cons,nD (i:=i) (by simpa using h) (by simpa using h')]
  rfl
theorem Lay.app {fe:aS}{N N1 N2:ah}{a b:List a9}(h:Lay fe N a N1) (k:Lay fe N1 b N2):Lay fe N (a++b) N2:=by
 induction h with
 |nil=>exact k
 |set r _ ih=>exact .set r (ih k)
 |put _ ih=>exact .put (ih k)
 |give _ ih=>exact .give (ih k)
 |get _ ih=>exact .get (ih k)
 |cond r t o _ _ _ ih=>exact .cond r t o (ih k)
 |whl r t _ _ ih=>exact .whl r t (ih k)
 |rep0 r _ ih=>exact .rep0 r (ih k)
 |rep r n t _ _ ih=>exact .rep r n t (ih k)
theorem eO (N:ah) (k:Nat):(N.wires k).n=N.n+k:=by
 show(N.ls++List.replicate k dN).length=_
 rw[qa,List.length_replicate]
 rfl
theorem j4 (N:ah) (d:LnD):(N.line d).n=N.n+1:=by
 show(N.ls++[d]).length=_
 rw[qa]
 rfl
theorem An (N:ah) (p:PtG):(N.part p).n=N.n:=rfl
theorem Ao (N:ah) (zs:List Str) (ws:List Int):(N.lead zs ws).n=N.n:=rfl
theorem mT {ds:List a9}{d:a9}(h:d∈ds):(ag [d]).Sublist (ag ds):=by
 obtain⟨a,b,rfl⟩:=List.append_of_mem h
 rw[show a++d::b=a++([d]++b)from rfl,cP,cP]
 exact(List.sublist_append_left _ _).trans (List.sublist_append_right _ _)
theorem ut {ds:List a9}{d:a9}(h:d∈ds):av [d]<=av ds:=by
 obtain⟨a,b,rfl⟩:=List.append_of_mem h
 rw[show a++d::b=a++([d]++b)from rfl,eS,eS]
 omega
theorem mV {d:a9}{b:List a9}(h:b∈d.inner):(ag b).Sublist (ag [d]):=by
 rw[ag,ag,qw,dE]
 refine List.Sublist.cons _ ?_
 obtain⟨x,y,e⟩:=List.append_of_mem h
 rw[e,qU,qE]
 exact(List.sublist_append_left _ _).trans (List.sublist_append_right _ _)
theorem hU {d:a9}{b:List a9}(h:b∈d.inner):av b<av [d]:=by
 cases d<;>simp[a9.inner]at h
 ·rcases h with rfl|rfl<;>simp[av,a9.depth]<;>omega
 ·subst h;simp[av,a9.depth]
 ·subst h;simp[av,a9.depth]
end Tr
namespace Tr
open PySem PySem.Spec PyProof.Rows L2
set_option linter.all false
def esN (ss:List (Str×Int)):List Str:=ss.map (·.1)++[(">":Str)]
def feN (ss:List (Str×Int)):aS:=fun e=>((esN ss).idxOf e:Nat)
def cO (ss:List (Str×Int)) (zs:List Str) (f:aS):ah:=⟨(ss.map fun s=>⟨.int s.2,[]⟩)++[⟨.non,[]⟩]++zs.map (fun z=>⟨.int 1,[f z]⟩),[],zs,fun z=>((ss.length+1+zs.idxOf z:Nat):Int)⟩
theorem ji {zs:List Str}{i:Nat}{z:Str}(nd:zs.Nodup) (h:zs[i]?=some z):zs.idxOf z=i:=by
 have lt:=(qe.mp h).1
 rw[<- (qe.mp h).2]
 exact nd.idxOf_getElem i lt
theorem o7 {zs:List Str}{i:Nat}{z:Str}(nd:zs.Nodup) (h:zs[i]?=some z):z∉zs.take i:=fun hm=>by
 have lt:=(qe.mp h).1
 rw[<- List.take_append_drop i zs,List.drop_eq_getElem_cons lt,(qe.mp h).2]at nd
 exact(List.nodup_append.mp nd).2.2 z hm z qk rfl
theorem pL {f:aS}{x:Str}{v:Int}(h:f x=v):bi f x v=f:=by
 funext z
 unfold bi
 split
 ·subst_vars;rfl
 ·rfl
end Tr
namespace Tr
open PySem PySem.Spec PyProof.Rows L2
set_option linter.all false
abbrev OsN (os:List V) (z:List Fz):Prop:=R2s (fun v (x:Fz)=>∀y,x.f.op=.ifT y->v=.ref x.e) os z
structure GN (Hb H0 H:Hp) (s0 s1 s2:Addr) (z:List Fz) (os:List V):Prop where
 zc:ZC Hb H0 H [s0,s1,s2] z
 c0:H s0=some (.lst ((z.map fun x=>V.ref x.c).reverse))
 c1:H s1=some (.lst ((z.map fun x=>V.str (kdN x.f.op)).reverse))
 c2:H s2=some (.lst os.reverse)
 ro:OsN os z
section
variable {Hb H0 H0' H H' H1:Hp}{s0 s1 s2:Addr}{z:List Fz}{os:List V}
theorem GN.same (G:GN Hb H0 H s0 s1 s2 z os) (e:aa H H1):GN Hb H0 H1 s0 s1 s2 z os:=⟨G.zc.same e,e _ _ G.c0,e _ _ G.c1,e _ _ G.c2,G.ro⟩
theorem GN.ss (G:GN Hb H0 H s0 s1 s2 z os):s0≠s1/\s0≠s2/\s1≠s2:=by
 have nd:=(List.nodup_append.mp G.zc.nd).1
 simp only[List.nodup_cons,qt,qQ,or_false,not_or]at nd
 exact⟨nd.1.1,nd.1.2,nd.2.1⟩
theorem GN.ne (G:GN Hb H0 H s0 s1 s2 z os) {m:Addr}(h:m∈z.flatMap Fz.muts):m≠s0/\m≠s1/\m≠s2:=by
 have:=G.zc.off h
 simp only[qt,qQ,or_false,not_or]at this
 exact this
theorem GN.push {x:Fz}{r:List Fz}{vs xs:List V}{p:Addr}{d:a9}(G:GN Hb H0 H s0 s1 s2 (x::r) os) (hc:H x.c=some (.lst vs)) (hp:H p=some (.tup xs)) (hp0:H0 p=none) (hd:RD (upd H0 p (.tup xs)) (.ref p) d):
 GN Hb (upd H0 p (.tup xs)) (upd H x.c (.lst (vs++[.ref p]))) s0 s1 s2 ({ x with f:=x.f.add d }::r) os:=by
 have n:=G.ne (dB (x:=x) (r:=r))
 refine⟨G.zc.push hc hp hp0 hd,by rw[aj n.1.symm];exact G.c0,by rw[aj n.2.1.symm];exact G.c1,by rw[aj n.2.2.symm];exact G.c2,?_⟩
 match os,G.ro with
 |_::_,.cons h r=>exact .cons h r
theorem GN.elsed {x:Fz}{r:List Fz}{vs:List V}{n:Str}{v:V}{os:List V}(G:GN Hb H0 H s0 s1 s2 (x::r) (v::os)) (q:x.f.op=.ifT n) (hc:H x.c=some (.lst vs))
 (k:∀b u,b≠s0->b≠s1->H b=some u->H' b=some u) (k0:H' s0=some (.lst ((r.map fun x=>V.ref x.c).reverse++[.ref x.e]))) (k1:H' s1=some (.lst ((r.map fun x=>V.str (kdN x.f.op)).reverse++[.str "else"]))):
 GN Hb (upd H0 x.c (.lst vs)) H' s0 s1 s2 (⟨⟨.ifO n x.f.ds,[],x.f.shut,0⟩,x.e,x.p,x.c⟩::r) (v::os):=by
 have sn:=G.ss
 have h2:=k _ _ sn.2.1.symm sn.2.2.symm G.c2
 refine⟨G.zc.elsed (t:=0) q hc (fun b u hb h=>?_) (ja k0 k1 h2),?_,?_,h2,?_⟩
 ·simp only[qt,qQ,or_false,not_or]at hb
  exact k b u hb.1 hb.2.1 h
 ·rw[k0];simp
 ·rw[k1];simp[kdN]
 ·match G.ro with
  |.cons h r=>exact .cons (fun y e=>by cases e) r
theorem GN.closed {x g:Fz}{r:List Fz}{v:V}{os:List V}(G:GN Hb H0 H s0 s1 s2 (x::g::r) (v::os)) (k:∀b u,b≠s0->b≠s1->b≠s2->H b=some u->H' b=some u) (k0:H' s0=some (.lst (((g::r).map fun x=>V.ref x.c).reverse))) (k1:H' s1=some (.lst (((g::r).map fun x=>V.str (kdN x.f.op)).reverse))) (k2:H' s2=some (.lst os.reverse)):
 ∃H0',GN Hb H0' H' s0 s1 s2 ({ g with f:=g.f.add x.f.deed }::r) os:=by
 obtain⟨H0',Z⟩:=G.zc.closed (H':=H') (fun b u hb h=>by
  simp only[qt,qQ,or_false,not_or]at hb
  exact k b u hb.1 hb.2.1 hb.2.2 h) (ja k0 k1 k2)
 refine⟨H0',Z,k0,k1,k2,?_⟩
 match G.ro with
 |.cons _ (.cons h r)=>exact .cons h r
theorem GN.opened {x:Fz}{r:List Fz}{vs:List V}{op:Op}{c p e:Addr}{os:List V}(G:GN Hb H0 H s0 s1 s2 (x::r) os) (hx:H x.c=some (.lst vs)) (fc:H0 c=none/\c∉[s0,s1,s2]++(x::r).flatMap Fz.muts) (fe:H0 e=none/\e∉[s0,s1,s2]++(x::r).flatMap Fz.muts) (ec:e≠c) (he:H e=some (.lst []))
 (hc:H c=some (.lst [])) (hp:H p=some (.tup (⟨⟨op,[],false,0⟩,c,p,e⟩:Fz).tupV)) (noR:op≠.root) (noO:∀n t,op≠.ifO n t):
 GN Hb H0 (upd (upd (upd (upd H x.c (.lst (vs++[.ref p]))) s0 (.lst ((((x::r).map fun x=>V.ref x.c).reverse)++[.ref c]))) s2 (.lst (os.reverse++[.ref e]))) s1 (.lst ((((x::r).map fun x=>V.str (kdN x.f.op)).reverse)++[.str (kdN op)]))) s0 s1 s2 (⟨⟨op,[],false,0⟩,c,p,e⟩::x::r) (.ref e::os):=by
 obtain⟨n01,n02,n12⟩:=G.ss
 obtain⟨x0,x1,x2⟩:=G.ne (dB (x:=x) (r:=r))
 have pt:∀{q:Addr}{xs:List V},H q=some (.tup xs)->q≠x.c/\q≠s0/\q≠s1/\q≠s2:=fun h=>⟨cW h hx,cW h G.c0,cW h G.c1,cW h G.c2⟩
 have nin:∀{d:Addr},d∉[s0,s1,s2]++(x::r).flatMap Fz.muts->d≠x.c/\d≠s0/\d≠s1/\d≠s2:=fun h=>by
  simp only[qg,qt,qQ,or_false,not_or]at h
  exact⟨fun z=>h.2 (z▸dB),h.1.1,h.1.2.1,h.1.2.2⟩
 generalize hH':upd (upd (upd (upd H x.c (.lst (vs++[.ref p]))) s0 (.lst ((((x::r).map fun x=>V.ref x.c).reverse)++[.ref c]))) s2 (.lst (os.reverse++[.ref e]))) s1 (.lst ((((x::r).map fun x=>V.str (kdN x.f.op)).reverse)++[.str (kdN op)]))=H'
 have off:∀b,b≠x.c->b≠s0->b≠s1->b≠s2->H' b=H b:=fun b h1 h2 h3 h4=>by rw[<- hH',aj h3,aj h4,aj h2,aj h1]
 have k1:H' s1=some (.lst ((((x::r).map fun x=>V.str (kdN x.f.op)).reverse)++[.str (kdN op)])):=by rw[<- hH'];exact ae
 have k2:H' s2=some (.lst (os.reverse++[.ref e])):=by rw[<- hH',aj n12.symm];exact ae
 have k0:H' s0=some (.lst ((((x::r).map fun x=>V.ref x.c).reverse)++[.ref c])):=by rw[<- hH',aj n01,aj n02];exact ae
 have kx:H' x.c=some (.lst (vs++[.ref p])):=by rw[<- hH',aj x1,aj x2,aj x0];exact ae
 have tp:∀{q:Addr}{xs:List V},H q=some (.tup xs)->H' q=some (.tup xs):=fun h=>by
  obtain⟨a,b,c,d⟩:=pt h
  rw[off _ a b c d]
  exact h
 have lp:∀{d:Addr}{ws:List V},d∉[s0,s1,s2]++(x::r).flatMap Fz.muts->H d=some (.lst ws)->H' d=some (.lst ws):=fun hd h=>by
  obtain⟨a,b,c,e⟩:=nin hd
  rw[off _ a b c e]
  exact h
 have same0:aa H0 H':=fun b u hb=>by
  have nb:∀m∈[s0,s1,s2]++(x::r).flatMap Fz.muts,b≠m:=fun m hm=>bJ hb (G.zc.fz m hm)
  rw[off b (nb _ (qH _ dB)) (nb _ (by simp)) (nb _ (by simp)) (nb _ (by simp))]
  exact G.zc.h0 _ _ hb
 have mc:∀d∈(⟨⟨op,[],false,0⟩,c,p,e⟩:Fz).muts,d=c\/d=e:=fun d hd=>by
  unfold Fz.muts at hd
  dsimp only at hd
  split at hd
  ·simpa using hd
  ·simp at hd
   exact .inl hd
 refine⟨G.zc.opened (vy:=[]) hx (aa.refl _) same0 G.zc.fz (fun b u h1 h2 h=>?_) (ja k0 k1 k2) (fun d hd=>?_) ?_ (lp fc.2 hc) .nil ?_ (tp hp) noR kx,?_,?_,?_,?_⟩
 ·simp only[qt,qQ,or_false,not_or]at h2
  rw[off b h1 h2.1 h2.2.1 h2.2.2]
  exact h
 ·rcases mc d hd with rfl|rfl
  ·exact fc
  ·exact fe
 ·unfold Fz.muts
  dsimp only
  split
  ·simp
   exact ec.symm
  ·simp
 ·unfold Fz.side
  dsimp only
  split
  ·exact lp fe.2 he
  ·exact absurd rfl (noO _ _)
  ·trivial
 ·rw[k0];simp
 ·rw[k1];simp
 ·rw[k2];simp
 ·exact .cons (fun y _=>rfl) G.ro
theorem Br {st:List Fr}:(inV (.str "if") ((st.map fun f=>V.str (kdN f.op)).reverse) || (inV (.str "else") ((st.map fun f=>V.str (kdN f.op)).reverse) || inV (.str "while") ((st.map fun f=>V.str (kdN f.op)).reverse)))=eA st:=by
 have e:∀s:Str,inV (.str s) ((st.map fun f=>V.str (kdN f.op)).reverse)=st.any fun f=>decide (kdN f.op=s):=fun s=>by
  unfold inV
  rw[List.any_reverse,List.any_map]
  refine congrArg (List.any st) (funext fun f=>?_)
  show eqV (.str (kdN f.op)) (.str s)=_
  simp only[eqV]
  by_cases h:kdN f.op=s
  ·simp[h]
  ·simp[h]
 rw[e,e,e]
 clear e
 unfold eA
 induction st with
 |nil=>rfl
 |cons f r ih=>
  simp only[List.any_cons]
  rw[<- ih]
  cases decide (kdN f.op="if")<;>cases decide (kdN f.op="else")<;>cases decide (kdN f.op="while")<;>simp
end
end Tr
namespace L2
open PySem PySem.Spec PyProof.Rows
@[reducible] def intKey:KeyKind where
  α:=Int
  blt a b:=decide (a<b)
  irrefl a:=by simp
  trans a b c h1 h2:=by simp only[decide_eq_true_eq]at *;omega
  negTrans a b c h:=by simp only[decide_eq_true_eq]at *;omega
  total a b h1 h2:=by simp only[decide_eq_false_iff_not]at *;omega
  keyOf v:=match v with|.int n _=>some n|_=>none
  dflt:=0
theorem Bm:intKey.OneLt:=by
 intro prog w A E s x y a b Q ha hb h
 cases x<;>simp only[intKey,reduceCtorEq,Option.some.injEq]at ha
 cases y<;>simp only[intKey,reduceCtorEq,Option.some.injEq]at hb
 cases ha;cases hb
 exact oneLt_int h
theorem Bj {vs:List Value}{ns:List Int}(h:IntsAre vs ns):KeysOf intKey (pairsOf vs):=fun p hp=>by
 obtain⟨n,t,e⟩:=h.intKeys p hp
 rw[e]
 exact⟨n,rfl⟩
theorem vi {xs:Array Keyed}(h:IntKeys xs) {i:Nat}(hi:i<xs.size):KK intKey xs i=PyProof.Rows.K xs i:=by
 unfold KK PyProof.Rows.K
 rw[getElem?_pos xs i hi]
 obtain⟨n,t,e⟩:=h xs[i] (by simp)
 dsimp only
 rw[e]
 rfl
section
variable {prog:Program}{w:World}{A:Around}{E:Qq}{s:Shared}
theorem wU {l:Addr}{vs:List Value}{ns:List Int}{Q:Qq}(hl:s.heap.IsList l vs.toArray) (hS:IntsAre vs ns) (lim:vs.length<=100000)
 (q:∀(out:Array Value) (zs:List Int),IntsAre out.toList zs->zs.Perm ns->zs.Pairwise (·<=·)->Q (.ref (s.heap.objs.size+1)) { s with heap:=sortedAll s.heap vs out }):wpAny (model prog w) A (call (.builtin "sorted") [.ref l]) Q E s:=by
 refine Calls.call_function_entry kind_sorted plain_sorted entry_sorted (args_sorted1 _) ?_
 unfold Builtin.«sorted»
 refine q4 (m:=checkCount "sorted" 1 1 _) (qc (q4 (collect_list hl (q4 (wpAny_newList ?_)))))
 have n1:((s.heap.push (seqObj "list" #[] 0)).update s.heap.objs.size (Obj.mapSeq (·++vs.toArray))).objs.size=s.heap.objs.size+1:=by rw[Heap.size_update,size_push']
 have at1:(((s.heap.push (seqObj "list" #[] 0)).update s.heap.objs.size (Obj.mapSeq (·++vs.toArray))).push (seqObj "list" vs.toArray 0)).get? (s.heap.objs.size+1)=some (seqObj "list" vs.toArray 0):=by rw[<- n1];exact qo _ rfl
 show wpAny _ _ _ _ _ { s with heap:=((s.heap.push (seqObj "list" #[] 0)).update s.heap.objs.size (Obj.mapSeq (·++vs.toArray))).push (seqObj "list" vs.toArray 0) }
 rw[n1]
 refine q4 (wpAny_holding (wpAny_call_entry slot_list_sort ⟨_,at1,rfl⟩ entry_list_sort (wV Bm at1 (Bj hS) (fun u v r e=>keyKind_ints (by rw[<- e];exact hS)) lim fun z z1 z2=>⟨_,rfl,?_⟩) (args_list_sort _)))
 have ik:IntKeys (arrOf z):=fun p hp=>hS.intKeys p ((Array.perm_iff_toList_perm.mp z1).mem_iff.mp hp)
 have sz:(arrOf z).size=(pairsOf vs).size:=z1.size_eq
 obtain⟨zs,h1,h2,h3⟩:=sorted_out hS z1 (fun i j hij hj=>by
  have:=z2 i j hij hj
  rw[vi ik Qo,vi ik Qo]at this
  have this:decide (PyProof.Rows.K (arrOf z) j<PyProof.Rows.K (arrOf z) i)=false:=this
  simp only[decide_eq_false_iff_not]at this
  omega)
 exact qc ⟨_,rfl,q _ zs h1 h2 h3⟩
end
section
variable {X:Cx}
theorem uK (hc:X.calm=true):bF X (.builtin "sorted") (fun xs H Q=>∃(p:Addr) (ys:List Int),xs=[.ref p]/\SqL X.K H p (ys.map V.int)/\ys.length<=100000 /\
 ∀l zs,H l=none->zs.Perm ys->List.Pairwise (fun x1 x2=>x1<=x2) zs->Q (.ref l) (upd H l (.lst (zs.map V.int)))):=by
 intro pins s σ H xs us Q I r h
 obtain⟨p,ys,rfl,hq,hz,q⟩:=h
 obtain⟨u,rfl,rx⟩:=cR r
 cases rx
 obtain⟨its,r',pl,_⟩:=I.list hq
 have hlen:=r'.length
 rw[q5]at hlen
 refine wU (vs:=its) pl.isList (tK r') Qo fun out zs hS hp so=>?_
 obtain⟨n,at1⟩:=sortedAll_at s.heap its out
 have lz:zs.length<=sizeLine:=by rw[hp.length_eq];exact qx hz Qk
 have J:=I.laid (t':=s.toks) (h':=sortedAll s.heap its out) (a:=s.heap.objs.size+1) (o:=.lst (zs.map V.int)) (fun b o q=>sortedAll_old q) (Nat.le_succ _) ⟨by rw[q5];exact lz,out.toList,n,jK hS,at1⟩
 exact⟨.ref (s.heap.objs.size+1),_,J,rfl,q _ zs (I.hok.fresh (Nat.le_succ _)) hp so⟩
end
end L2
namespace Tr
open PySem PySem.Spec PyProof.Rows L2
set_option linter.all false
mutual
def a9.bare:a9->Bool
 |.rep _ b=>cn b
 |.set _ _ _ _=>false
 |.put _ _=>false
 |.get _ _=>false
 |.give _=>false
 |.cond _ _ _=>false
 |.whl _ _=>false
def cn:List a9->Bool
 |[]=>true
 |d::r=>d.bare && cn r
end
theorem uY:∀ds:List a9,cn ds=ds.all a9.bare
 |[]=>rfl
 |d::r=>by rw[cn,List.all_cons,uY r]
def zcD:a9->Nat
 |.whl _ _=>1
 |.rep _ b=>if cn b=true then 0 else 2
 |_=>0
def zc (ds:List a9):Nat:=((ag ds).map zcD).sum
theorem nF (a b:List a9):zc (a++b)=zc a+zc b:=by
 unfold zc
 rw[cP,qO,List.sum_append]
theorem dM (d:a9) (r:List a9):zc (d::r)=zc [d]+zc r:=nF [d] r
theorem dL (d:a9):zc [d]=zcD d+(d.inner.map zc).sum:=by
 unfold zc
 rw[ag,ag,qw,dE,qR,List.sum_cons,List.map_flatMap]
 congr 1
 have:∀l:List (List a9),(l.flatMap fun a=>(ag a).map zcD).sum=(l.map fun ds=>((ag ds).map zcD).sum).sum:=by
  intro l
  induction l with
  |nil=>rfl
  |cons a r ih=>rw[qE,List.sum_append,ih,qR,List.sum_cons]
 exact this _
theorem Cq (d:a9) (r:List a9):cards (d::r)=cards [d]++cards r:=Cr [d] r
mutual
theorem CF:∀d:a9,cards [d]=[]↔d.bare=true
 |.rep n b=>by
  rw[dI,a9.bare]
  simp only[a9.cards,a9.names,a9.others,a9.inner,qE,List.flatMap_nil,qw,List.nil_append]
  exact i0 b
 |.set x a sg b=>by rw[dI,a9.bare];simp[a9.cards,a9.names]
 |.put q x=>by rw[dI,a9.bare];simp[a9.cards,a9.names]
 |.get q x=>by rw[dI,a9.bare];simp[a9.cards,a9.names]
 |.give x=>by rw[dI,a9.bare];simp[a9.cards,a9.names]
 |.cond x t o=>by rw[dI,a9.bare];simp[a9.cards,a9.names]
 |.whl x b=>by rw[dI,a9.bare];simp[a9.cards,a9.names]
theorem i0:∀ds:List a9,cards ds=[]↔cn ds=true
 |[]=>by simp[cards,ag,cn]
 |d::r=>by rw[Cq,List.append_eq_nil_iff,CF d,i0 r,cn,Bool.and_eq_true]
end
mutual
theorem BS:∀(x:a9) {d e:a9},d∈x.flat->e∈d.flat->e∈x.flat
 |.set x a sg b,d,e,h,h'=>by rw[a9.flat]at h;rw[qS.mp h]at h';exact h'
 |.put q x,d,e,h,h'=>by rw[a9.flat]at h;rw[qS.mp h]at h';exact h'
 |.get q x,d,e,h,h'=>by rw[a9.flat]at h;rw[qS.mp h]at h';exact h'
 |.give x,d,e,h,h'=>by rw[a9.flat]at h;rw[qS.mp h]at h';exact h'
 |.cond x t o,d,e,h,h'=>by
  rw[a9.flat]at h ⊢
  rcases qt.mp h with rfl|h
  ·rw[a9.flat]at h';exact h'
  ·refine qj _ ?_
   rcases qg.mp h with h|h
   ·exact qg.mpr (.inl (fQ t h h'))
   ·exact qg.mpr (.inr (fQ o h h'))
 |.whl x b,d,e,h,h'=>by
  rw[a9.flat]at h ⊢
  rcases qt.mp h with rfl|h
  ·rw[a9.flat]at h';exact h'
  ·exact qj _ (fQ b h h')
 |.rep n b,d,e,h,h'=>by
  rw[a9.flat]at h ⊢
  rcases qt.mp h with rfl|h
  ·rw[a9.flat]at h';exact h'
  ·exact qj _ (fQ b h h')
theorem fQ:∀(b:List a9) {d e:a9},d∈ag b->e∈d.flat->e∈ag b
 |[],d,e,h,_=>by simp[ag]at h
 |x::r,d,e,h,h'=>by
  rw[ag]at h ⊢
  rcases qg.mp h with h|h
  ·exact qg.mpr (.inl (BS x h h'))
  ·exact qg.mpr (.inr (fQ r h h'))
end
structure Zl (new:List LnD) (k:Nat):Prop where
 lg:∀d∈new,d.lg=.int 1/\(d.on=[]\/d.on=[0])
 on:new.flatMap LnD.on=List.replicate k 0
theorem Zl.nil:Zl [] 0:=⟨fun d h=>by simp at h,rfl⟩
theorem Zl.app {a b:List LnD}{j k:Nat}(h:Zl a j) (h':Zl b k):Zl (a++b) (j+k):=⟨fun d hd=>(qg.mp hd).elim (h.lg d) (h'.lg d),by rw[qU,h.on,h'.on,List.replicate_append_replicate]⟩
theorem Zl.wires (k:Nat):Zl (List.replicate k dN) 0:=⟨fun d hd=>by rw[List.eq_of_mem_replicate hd];exact⟨rfl,.inl rfl⟩,by
 induction k with
 |zero=>rfl
 |succ k ih=>rw[List.replicate_succ,qE,ih];rfl⟩
theorem Zl.zero:Zl [i8] 1:=⟨fun d hd=>by rw[qS.mp hd];exact⟨rfl,.inr rfl⟩,rfl⟩
def Zg (N N':ah) (k:Nat):Prop:=∃new,N'.ls=N.ls++new/\Zl new k
theorem Zg.trans {A B C:ah}{j k:Nat}(h:Zg A B j) (h':Zg B C k):Zg A C (j+k):=by
 obtain⟨a,e1,z1⟩:=h
 obtain⟨b,e2,z2⟩:=h'
 exact⟨a++b,by rw[e2,e1,qM],z1.app z2⟩
theorem Zg.refl {N:ah}:Zg N N 0:=⟨[],(qw _).symm,Zl.nil⟩
theorem bY {N:ah}{k:Nat}:Zg N (N.wires k) 0:=⟨_,rfl,Zl.wires k⟩
theorem jG {N:ah}:Zg N (N.line i8) 1:=⟨_,rfl,Zl.zero⟩
theorem vt {N:ah}:Zg N (N.line dN) 0:=⟨_,rfl,Zl.wires 1⟩
theorem cG {N:ah}{p:PtG}:Zg N (N.part p) 0:=⟨[],(qw _).symm,Zl.nil⟩
theorem cw {N:ah}{zs:List Str}{ws:List Int}:Zg N (N.lead zs ws) 0:=⟨[],(qw _).symm,Zl.nil⟩
theorem Zg.cast {N N':ah}{j k:Nat}(h:Zg N N' j) (e:j=k):Zg N N' k:=e▸h
theorem jH {N:ah}{x:Str}:Zg N (N.fork x) 0:=(bY.trans cG).trans cw
theorem nE:∀(rs:List Str) (N:ah),Zg N (rs.foldl ah.fork N) 0
 |[],N=>.refl
 |r::rs,N=>jH.trans (nE rs (N.fork r))
theorem Lay.zg {fe:aS}{N N':ah}{ds:List a9}(h:Lay fe N ds N'):Zg N N' (zc ds):=by
 induction h with
 |nil=>exact .refl
 |set r _ ih=>
  rw[dM,dL]
  refine(Zg.trans (j:=0) ?_ ih).cast (by simp[zcD,a9.inner])
  unfold ah.set
  exact((nE _ _).trans bY |>.trans cG).trans cw
 |put _ ih=>
  rw[dM,dL]
  exact(Zg.trans (j:=0) (((jH.trans bY).trans cG).trans cw) ih).cast (by simp[zcD,a9.inner])
 |give _ ih=>
  rw[dM,dL]
  exact(Zg.trans (j:=0) (((jH.trans bY).trans cG).trans cw) ih).cast (by simp[zcD,a9.inner])
 |get _ ih=>
  rw[dM,dL]
  exact(Zg.trans (j:=0) ((bY.trans cG).trans cw) ih).cast (by simp[zcD,a9.inner])
 |cond r _ _ _ i1 i2 i3=>
  rw[dM,dL]
  have gA:∀{N:ah}{zs:List Str}{x:Str},Zg N (N.ifA zs x) 0:=(((bY.trans bY).trans vt).trans cG).trans cw
  have gZ:∀{N:ah}{zs:List Str}{n:Nat}{ons:List Int},Zg N (N.ifZ zs n ons) 0:=(bY.trans cG).trans cw
  exact((((gA.trans i1).trans (cw.trans i2)).trans gZ).trans i3).cast (by simp[zcD,a9.inner])
 |whl r _ _ i1 i2=>
  rw[dM,dL]
  have gA:∀{N:ah}{zs:List Str}{x:Str}{beh:List Int},Zg N (N.loA zs x beh) 1:=(((jG.trans bY).trans bY).trans cG).trans cw
  have gZ:∀{N:ah}{zs:List Str}{n:Nat}{com beh:List Int},Zg N (N.loZ zs n com beh) 0:=cG.trans cw
  exact((((bY.trans gA).trans i1).trans gZ).trans i2).cast (by simp[zcD,a9.inner])
 |@rep0 N N' k b r hc _ ih=>
  rw[dM,dL]
  have hb:cn b=true:=(i0 b).mp hc
  have z0:zc b=0:=by
   have:∀d∈ag b,zcD d=0:=fun d hd=>by
    cases d with
    |whl x c=>
     have:x∈cards b:=List.mem_flatMap.mpr ⟨_,hd,by simp[a9.cards,a9.names]⟩
     rw[hc]at this
     simp at this
    |rep m c=>
     have hc':cards c=[]:=by
      refine List.eq_nil_iff_forall_not_mem.mpr fun k hk=>?_
      obtain⟨e,he,hk⟩:=List.mem_flatMap.mp hk
      have:k∈cards b:=List.mem_flatMap.mpr ⟨e,fQ b hd (by rw[dE];simp[a9.inner,he]),hk⟩
      rw[hc]at this
      simp at this
     show(if cn c=true then 0 else 2)=0
     rw[Q0 ((i0 c).mp hc')]
    |_=>rfl
   unfold zc
   rw[List.map_congr_left (g:=fun _=>0) this]
   clear this
   induction ag b with
   |nil=>rfl
   |cons d r ih=>rw[qR,List.sum_cons,ih]
  refine ih.cast ?_
  simp[zcD,a9.inner,hb,z0]
 |@rep N N1 N' k b zs r co zn _ _ i1 i2=>
  rw[dM,dL]
  have nb:¬ cn b=true:=fun h=>zn (List.eq_nil_iff_forall_not_mem.mpr fun y hy=>by
   have:=(co.mem y).mp hy
   rw[(i0 b).mpr h]at this
   simp at this)
  have gR:∀{N:ah}{k:Int},Zg N (N.reA k) 1:=((jG.trans bY).trans cG).trans cw
  have gA:∀{N:ah}{zs:List Str}{x:Str}{beh:List Int},Zg N (N.loA zs x beh) 1:=(((jG.trans bY).trans bY).trans cG).trans cw
  have gZ:∀{N:ah}{zs:List Str}{n:Nat}{com beh:List Int},Zg N (N.loZ zs n com beh) 0:=cG.trans cw
  refine(((((gR.trans bY).trans gA).trans i1).trans gZ).trans i2).cast ?_
  rw[nF,show zc [ctD N.n]=0 from rfl]
  simp[zcD,a9.inner,nb]
mutual
theorem BU:∀(x:a9) {d:a9},d∈x.flat->d.flat.Sublist x.flat/\d.depth<=x.depth
 |.set x a sg b,d,h=>by rw[a9.flat]at h;rw[qS.mp h];exact⟨List.Sublist.refl _,qd _⟩
 |.put q x,d,h=>by rw[a9.flat]at h;rw[qS.mp h];exact⟨List.Sublist.refl _,qd _⟩
 |.get q x,d,h=>by rw[a9.flat]at h;rw[qS.mp h];exact⟨List.Sublist.refl _,qd _⟩
 |.give x,d,h=>by rw[a9.flat]at h;rw[qS.mp h];exact⟨List.Sublist.refl _,qd _⟩
 |.cond x t o,d,h=>by
  rw[a9.flat]at h
  rcases qt.mp h with rfl|h
  ·exact⟨List.Sublist.refl _,qd _⟩
  ·rw[a9.flat,a9.depth]
   rcases qg.mp h with h|h
   ·have:=fR t h
    exact⟨.cons _ (this.1.trans (List.sublist_append_left _ _)),Qo⟩
   ·have:=fR o h
    exact⟨.cons _ (this.1.trans (List.sublist_append_right _ _)),Qo⟩
 |.whl x b,d,h=>by
  rw[a9.flat]at h
  rcases qt.mp h with rfl|h
  ·exact⟨List.Sublist.refl _,qd _⟩
  ·rw[a9.flat,a9.depth]
   have:=fR b h
   exact⟨.cons _ this.1,Qo⟩
 |.rep n b,d,h=>by
  rw[a9.flat]at h
  rcases qt.mp h with rfl|h
  ·exact⟨List.Sublist.refl _,qd _⟩
  ·rw[a9.flat,a9.depth]
   have:=fR b h
   exact⟨.cons _ this.1,Qo⟩
theorem fR:∀(b:List a9) {d:a9},d∈ag b->d.flat.Sublist (ag b)/\d.depth<=av b
 |[],d,h=>by simp[ag]at h
 |x::r,d,h=>by
  rw[ag]at h
  rw[ag,av]
  rcases qg.mp h with h|h
  ·have:=BU x h
   exact⟨this.1.trans (List.sublist_append_left _ _),Qo⟩
  ·have:=fR r h
   exact⟨this.1.trans (List.sublist_append_right _ _),Qo⟩
end
end Tr
namespace L2
open PySem PySem.Spec PyProof.Rows
section
variable {P:Program}{w:World}{A:Around}{E:Qq}{s:Shared}{κ:Type} [DecidableEq κ] {knd:PySem.KeyKind P w κ}
end
section
variable {X:Cx}
end
end L2
namespace Tr
open PySem PySem.Spec PyProof.Rows L2
set_option linter.all false
def PtG.key:PtG->Str
 |.pas _ _ rt=>(PyData.list (rt.map PyData.int)).shown
 |.wrk _ _ _ _ _=>"work"
 |.cho _ _ _ _ _=>"choose"
 |.mrg _ _ _ _=>"merge"
def PtG.gd:PtG->Prop
 |.pas _ _ rt=>rt=[]\/rt=[0,0]\/rt=[0,1]\/rt=[0,2]
 |.wrk is _ _ l r=>vf is l/\vf is r
 |_=>True
end Tr
set_option Elab.async false
set_option maxRecDepth 100000
set_option maxHeartbeats 4000000
namespace K33
open PySem L2 Tr
seal PE PT PW PA PS PSs PG PGs PI PTs PO OpR UnR bF CO IxR SlR
local macro_rules|`(tactic| walk_at "rds")=>`(tactic| first|assumption|decide|omega)
local macro_rules|`(tactic| walk_at "rd")=>`(tactic| repeat (first|refine⟨_,rfl,?_⟩|refine⟨_,_,rfl,rfl,?_⟩|refine⟨rfl,_,rfl,?_⟩|refine⟨_,_,rfl,rfl,by walk_at "rds",?_⟩|refine And.intro (by walk_at "rds") ?_))
local macro_rules|`(tactic| walk_at "yes")=>`(tactic| refine bR (by decide +kernel) ?_)
local macro_rules|`(tactic| walk_at "no")=>`(tactic| refine aZ (by decide +kernel) ?_)
abbrev kC:Stmt:=top 3
abbrev kq:Stmt:=top 4
abbrev kR:Stmt:=top 5
abbrev kP:Stmt:=top 6
abbrev iL:Stmt:=top 7
abbrev ku:Stmt:=top 8
abbrev kr:Stmt:=top 12
abbrev kA:Stmt:=top 13
abbrev kz:Stmt:=top 14
abbrev kN:Stmt:=top 15
abbrev kO:Stmt:=top 16
abbrev iN:Stmt:=top 19
abbrev lB:Stmt:=inClass (top 21) 0
abbrev lA:Stmt:=inClass (top 21) 1
abbrev iT:Stmt:=inClass (top 21) 2
abbrev lq:Stmt:=inClass (top 21) 3
abbrev iS:Stmt:=inClass (top 21) 4
abbrev lm:Stmt:=inClass (top 21) 5
abbrev kQ:Stmt:=top 22
abbrev kF:Stmt:=top 24
abbrev kL:Stmt:=top 25
abbrev iM:Stmt:=top 26
abbrev kt:Stmt:=top 27
abbrev kJ:Stmt:=top 28
abbrev kK:Stmt:=top 29
abbrev kB:Stmt:=top 31
abbrev kM:Stmt:=top 32
abbrev kE:Stmt:=top 33
abbrev kI:Stmt:=top 34
abbrev kD:Stmt:=top 35
abbrev kG:Stmt:=top 36
abbrev kH:Stmt:=top 37
abbrev fB:Stmt:=top 39
abbrev kX:Stmt:=top 40
abbrev kT:Stmt:=top 41
abbrev kW:Stmt:=top 42
abbrev kU:Stmt:=top 43
abbrev lh:Stmt:=top 44
abbrev iO:Stmt:=top 45
abbrev iP:Stmt:=top 46
abbrev kY:Stmt:=top 47
abbrev iR:Stmt:=top 48
abbrev kS:Stmt:=top 49
abbrev iQ:Stmt:=top 50
abbrev kZ:Stmt:=top 51
abbrev dR:Stmt:=top 52
theorem kh:aN ["block","names","deed"] ["block"] (aC kC):=⟨rfl,rfl,rfl,Qd,rfl,Qd,Qd⟩
theorem xB:aN ["program"] ["program"] (aC kq):=⟨rfl,rfl,rfl,Qd,rfl,Qd,Qd⟩
theorem gx:aN ["block","found","deed","inner"] ["block"] (aC kR):=⟨rfl,rfl,rfl,Qd,rfl,Qd,Qd⟩
theorem xI:aN ["deed"] ["deed"] (aC kP):=⟨rfl,rfl,rfl,Qd,rfl,Qd,Qd⟩
theorem pO:aN ["deed","kind"] ["deed"] (aC iL):=⟨rfl,rfl,rfl,Qd,rfl,Qd,Qd⟩
theorem xD:aN ["deed"] ["deed"] (aC ku):=⟨rfl,rfl,rfl,Qd,rfl,Qd,Qd⟩
theorem kg:aN ["block","cards","deed"] ["block"] (aC kr):=⟨rfl,rfl,rfl,Qd,rfl,Qd,Qd⟩
theorem xF:aN ["deed"] ["deed"] (aC kA):=⟨rfl,rfl,rfl,Qd,rfl,Qd,Qd⟩
theorem xE:aN ["store"] ["store"] (aC kz):=⟨rfl,rfl,rfl,Qd,rfl,Qd,Qd⟩
theorem xH:aN ["store"] ["store"] (aC kN):=⟨rfl,rfl,rfl,Qd,rfl,Qd,Qd⟩
theorem iI:aN ["program","cards","store","length"] ["program"] (aC kO):=⟨rfl,rfl,rfl,Qd,rfl,Qd,Qd⟩
theorem iJ:aN ["program","numbers","begun","name","number"] ["program","numbers"] (aC iN):=⟨rfl,rfl,rfl,Qd,rfl,Qd,Qd⟩
theorem xR:aN ["self"] ["self"] (aC lB):=⟨rfl,rfl,rfl,Qd,rfl,Qd,Qd⟩
theorem xQ:aN ["self","length","first"] ["self","length","first"] (aC lA):=⟨rfl,rfl,rfl,Qd,rfl,Qd,Qd⟩
theorem xO:aN ["self","count"] ["self","count"] (aC iT):=⟨rfl,rfl,rfl,Qd,rfl,Qd,Qd⟩
theorem xP:aN ["self","part"] ["self","part"] (aC lq):=⟨rfl,rfl,rfl,Qd,rfl,Qd,Qd⟩
theorem xM:aN ["self","cards"] ["self","cards"] (aC iS):=⟨rfl,rfl,rfl,Qd,rfl,Qd,Qd⟩
theorem ko:aN ["self","cards","wires","card","wire"] ["self","cards","wires"] (aC lm):=⟨rfl,rfl,rfl,Qd,rfl,Qd,Qd⟩
theorem ft:aN ["program","numbers","bench","store","length","begun","card"] ["program","numbers"] (aC kQ):=⟨rfl,rfl,rfl,Qd,rfl,Qd,Qd⟩
theorem pQ:aN ["bench","deed","kind"] ["bench","deed"] (aC kF):=⟨rfl,rfl,rfl,Qd,rfl,Qd,Qd⟩
theorem pR:aN ["bench","name","wires"] ["bench","name"] (aC kL):=⟨rfl,rfl,rfl,Qd,rfl,Qd,Qd⟩
theorem fk:aN ["bench","deed","name","reads","ins","outs","sources"] ["bench","deed"] (aC iM):=⟨rfl,rfl,rfl,Qd,rfl,Qd,Qd⟩
theorem xC:aN ["value","sources"] ["value","sources"] (aC kt):=⟨rfl,rfl,rfl,Qd,rfl,Qd,Qd⟩
theorem ki:aN ["bench","card","name","end","ins","wires"] ["bench","card","name","end"] (aC kJ):=⟨rfl,rfl,rfl,Qd,rfl,Qd,Qd⟩
theorem iH:aN ["bench","store","name","cards","ins","wires"] ["bench","store","name"] (aC kK):=⟨rfl,rfl,rfl,Qd,rfl,Qd,Qd⟩
theorem pN:aN ["program","numbers","bench"] ["program","numbers"] (aC kB):=⟨rfl,rfl,rfl,Qd,rfl,Qd,Qd⟩
theorem kj:aN ["bench","block","deed"] ["bench","block"] (aC kM):=⟨rfl,rfl,rfl,Qd,rfl,Qd,Qd⟩
theorem xG:aN ["bench","block","cards","wires"] ["bench","block","cards","wires"] (aC kE):=⟨rfl,rfl,rfl,Qd,rfl,Qd,Qd⟩
theorem dr:aN ["bench","deed","cards","ins","ones","noughts","told","ones_behind","noughts_behind","outs"] ["bench","deed"] (aC kI):=⟨rfl,rfl,rfl,Qd,rfl,Qd,Qd⟩
theorem pP:aN ["bench","deed","cards"] ["bench","deed"] (aC kD):=⟨rfl,rfl,rfl,Qd,rfl,Qd,Qd⟩
theorem fq:aN ["bench","rounds","body","cards","rest","counter","wires","counting"] ["bench","rounds","body"] (aC kG):=⟨rfl,rfl,rfl,Qd,rfl,Qd,Qd⟩
theorem gw:aN ["bench","cards","name","body","behind","coming","told","ins","ones"] ["bench","cards","name","body","behind"] (aC kH):=⟨rfl,rfl,rfl,Qd,rfl,Qd,Qd⟩
theorem km:aN ["_law_cell","_law_letters","_law_some"] ["_law_cell"] (aC fB):=⟨rfl,rfl,rfl,Qd,rfl,Qd,Qd⟩
theorem xK:aN ["_law_cell","_law_factor","_law_prime","_law_many"] ["_law_cell","_law_factor","_law_prime","_law_many"] (aC kX):=⟨rfl,rfl,rfl,Qd,rfl,Qd,Qd⟩
theorem pS:aN ["_law_number","_law_names_here","_law_at"] ["_law_number","_law_names_here"] (aC kT):=⟨rfl,rfl,rfl,Qd,rfl,Qd,Qd⟩
theorem iK:aN ["_law_cell","_law_x","_law_names_here","_law_signs","_law_left","_law_right"] ["_law_cell","_law_x","_law_names_here"] (aC kW):=⟨rfl,rfl,rfl,Qd,rfl,Qd,Qd⟩
theorem pU:aN ["_law_cell","_law_x","_law_q","_law_names_here","_law_hidden","_law_kind"] ["_law_cell","_law_x","_law_q","_law_names_here","_law_hidden"] (aC kU):=⟨rfl,rfl,rfl,Qd,rfl,Qd,Qd⟩
theorem cI:aN ["_law_cells","_law_names_here","_law_stores","_law_top","_law_here","_law_kinds","_law_others","_law_cell","_law_kind","_law_x","_law_q","_law_hidden","_law_inner","_law_other"] ["_law_cells","_law_names_here","_law_stores"] (aC lh):=⟨rfl,rfl,rfl,Qd,rfl,Qd,Qd⟩
theorem fu:aN ["_law_script","_law_cell","_law_names_here","_law_asks","_law_stores","_law_body_here"] ["_law_script"] (aC iO):=⟨rfl,rfl,rfl,Qd,rfl,Qd,Qd⟩
theorem xL:aN ["_law_script"] ["_law_script"] (aC iP):=⟨rfl,rfl,rfl,Qd,rfl,Qd,Qd⟩
theorem fA:aN ["_law_block","_law_found","_law_deed"] ["_law_block"] (aC kY):=⟨rfl,rfl,rfl,Qd,rfl,Qd,Qd⟩
theorem pV:aN ["_law_block"] ["_law_block"] (aC iR):=⟨rfl,rfl,rfl,Qd,rfl,Qd,Qd⟩
theorem xJ:aN ["_law_found"] ["_law_found"] (aC kS):=⟨rfl,rfl,rfl,Qd,rfl,Qd,Qd⟩
theorem eI:aN ["_law_program_here","_law_cards_here","_law_name","_law_length","_law_deed"] ["_law_program_here"] (aC iQ):=⟨rfl,rfl,rfl,Qd,rfl,Qd,Qd⟩
theorem gy:aN ["_law_program_here","_law_numbers_here","_law_due_here","_law_k","_law_deed"] ["_law_program_here","_law_numbers_here"] (aC kZ):=⟨rfl,rfl,rfl,Qd,rfl,Qd,Qd⟩
theorem cS:aN ["_law_script","_law_program_here","_law_numbers_here","_law_net","_law_ends","_law_pair","_law_told","_law_found","_law_k","_law_line"] ["_law_script"] (aC dR):=⟨rfl,rfl,rfl,Qd,rfl,Qd,Qd⟩
set_option genInjectivity false in
structure Adr where
 named:Addr
 fd_named:FuncData
 variables_of:Addr
 fd_variables_of:FuncData
 all_deeds:Addr
 fd_all_deeds:FuncData
 blocks_within:Addr
 fd_blocks_within:FuncData
 names_in:Addr
 fd_names_in:FuncData
 read_by_set:Addr
 fd_read_by_set:FuncData
 touched:Addr
 fd_touched:FuncData
 other_cards_in:Addr
 fd_other_cards_in:FuncData
 put_card:Addr
 fd_put_card:FuncData
 get_card:Addr
 fd_get_card:FuncData
 cards_of:Addr
 fd_cards_of:FuncData
 beginnings:Addr
 fd_beginnings:FuncData
 Bench___init__:Addr
 fd_Bench___init__:FuncData
 Bench_add_line:Addr
 fd_Bench_add_line:FuncData
 Bench_add_wires:Addr
 fd_Bench_add_wires:FuncData
 Bench_add_part:Addr
 fd_Bench_add_part:FuncData
 Bench_wires_of:Addr
 fd_Bench_wires_of:FuncData
 Bench_lead:Addr
 fd_Bench_lead:FuncData
 bench_for:Addr
 fd_bench_for:FuncData
 lay_single:Addr
 fd_lay_single:FuncData
 lay_fork:Addr
 fd_lay_fork:FuncData
 lay_set:Addr
 fd_lay_set:FuncData
 side_of:Addr
 fd_side_of:FuncData
 lay_handing:Addr
 fd_lay_handing:FuncData
 lay_get:Addr
 fd_lay_get:FuncData
 net_of:Addr
 fd_net_of:FuncData
 lay_block:Addr
 fd_lay_block:FuncData
 lay_through:Addr
 fd_lay_through:FuncData
 lay_if:Addr
 fd_lay_if:FuncData
 lay_while:Addr
 fd_lay_while:FuncData
 lay_repeat:Addr
 fd_lay_repeat:FuncData
 lay_loop:Addr
 fd_lay_loop:FuncData
 _law_names:Addr
 fd__law_names:FuncData
 _law_pick:Addr
 fd__law_pick:FuncData
 _law_value:Addr
 fd__law_value:FuncData
 _law_set:Addr
 fd__law_set:FuncData
 _law_simple:Addr
 fd__law_simple:FuncData
 _law_body:Addr
 fd__law_body:FuncData
 _law_program:Addr
 fd__law_program:FuncData
 _law_numbers:Addr
 fd__law_numbers:FuncData
 _law_flat:Addr
 fd__law_flat:FuncData
 _law_bare:Addr
 fd__law_bare:FuncData
 _law_whole:Addr
 fd__law_whole:FuncData
 _law_cards:Addr
 fd__law_cards:FuncData
 _law_due:Addr
 fd__law_due:FuncData
 law:Addr
 fd_law:FuncData
 LOOPS:Addr
 LOOKERS:Addr
 tk_OUTLET:Tok
 OUTLET_KEEPERS:Addr
 tk_WHEEL:Tok
 C_Bench:Addr
structure Tx (P:Program) (w:World) (K:W.Frag) (mg:Str->Option Value) (a:Adr):Prop where
 F_named:Fun K "named" "named" kC a.named a.fd_named
 b_named:aG K a.fd_named ["block"] []
 m_named:mg "named"=some (.ref a.named)
 F_variables_of:Fun K "variables_of" "variables_of" kq a.variables_of a.fd_variables_of
 b_variables_of:aG K a.fd_variables_of ["program"] []
 m_variables_of:mg "variables_of"=some (.ref a.variables_of)
 F_all_deeds:Fun K "all_deeds" "all_deeds" kR a.all_deeds a.fd_all_deeds
 b_all_deeds:aG K a.fd_all_deeds ["block"] []
 m_all_deeds:mg "all_deeds"=some (.ref a.all_deeds)
 F_blocks_within:Fun K "blocks_within" "blocks_within" kP a.blocks_within a.fd_blocks_within
 b_blocks_within:aG K a.fd_blocks_within ["deed"] []
 m_blocks_within:mg "blocks_within"=some (.ref a.blocks_within)
 F_names_in:Fun K "names_in" "names_in" iL a.names_in a.fd_names_in
 b_names_in:aG K a.fd_names_in ["deed"] []
 m_names_in:mg "names_in"=some (.ref a.names_in)
 F_read_by_set:Fun K "read_by_set" "read_by_set" ku a.read_by_set a.fd_read_by_set
 b_read_by_set:aG K a.fd_read_by_set ["deed"] []
 m_read_by_set:mg "read_by_set"=some (.ref a.read_by_set)
 F_touched:Fun K "touched" "touched" kr a.touched a.fd_touched
 b_touched:aG K a.fd_touched ["block"] []
 m_touched:mg "touched"=some (.ref a.touched)
 F_other_cards_in:Fun K "other_cards_in" "other_cards_in" kA a.other_cards_in a.fd_other_cards_in
 b_other_cards_in:aG K a.fd_other_cards_in ["deed"] []
 m_other_cards_in:mg "other_cards_in"=some (.ref a.other_cards_in)
 F_put_card:Fun K "put_card" "put_card" kz a.put_card a.fd_put_card
 b_put_card:aG K a.fd_put_card ["store"] []
 m_put_card:mg "put_card"=some (.ref a.put_card)
 F_get_card:Fun K "get_card" "get_card" kN a.get_card a.fd_get_card
 b_get_card:aG K a.fd_get_card ["store"] []
 m_get_card:mg "get_card"=some (.ref a.get_card)
 F_cards_of:Fun K "cards_of" "cards_of" kO a.cards_of a.fd_cards_of
 b_cards_of:aG K a.fd_cards_of ["program"] []
 m_cards_of:mg "cards_of"=some (.ref a.cards_of)
 F_beginnings:Fun K "beginnings" "beginnings" iN a.beginnings a.fd_beginnings
 b_beginnings:aG K a.fd_beginnings ["program","numbers"] []
 m_beginnings:mg "beginnings"=some (.ref a.beginnings)
 F_Bench___init__:Fun K "__init__" "Bench.__init__" lB a.Bench___init__ a.fd_Bench___init__
 b_Bench___init__:aG K a.fd_Bench___init__ ["self"] []
 F_Bench_add_line:Fun K "add_line" "Bench.add_line" lA a.Bench_add_line a.fd_Bench_add_line
 b_Bench_add_line:aG K a.fd_Bench_add_line ["self","length","first"] []
 F_Bench_add_wires:Fun K "add_wires" "Bench.add_wires" iT a.Bench_add_wires a.fd_Bench_add_wires
 b_Bench_add_wires:aG K a.fd_Bench_add_wires ["self","count"] []
 F_Bench_add_part:Fun K "add_part" "Bench.add_part" lq a.Bench_add_part a.fd_Bench_add_part
 b_Bench_add_part:aG K a.fd_Bench_add_part ["self","part"] []
 F_Bench_wires_of:Fun K "wires_of" "Bench.wires_of" iS a.Bench_wires_of a.fd_Bench_wires_of
 b_Bench_wires_of:aG K a.fd_Bench_wires_of ["self","cards"] []
 F_Bench_lead:Fun K "lead" "Bench.lead" lm a.Bench_lead a.fd_Bench_lead
 b_Bench_lead:aG K a.fd_Bench_lead ["self","cards","wires"] []
 F_bench_for:Fun K "bench_for" "bench_for" kQ a.bench_for a.fd_bench_for
 b_bench_for:aG K a.fd_bench_for ["program","numbers"] []
 m_bench_for:mg "bench_for"=some (.ref a.bench_for)
 F_lay_single:Fun K "lay_single" "lay_single" kF a.lay_single a.fd_lay_single
 b_lay_single:aG K a.fd_lay_single ["bench","deed"] []
 m_lay_single:mg "lay_single"=some (.ref a.lay_single)
 F_lay_fork:Fun K "lay_fork" "lay_fork" kL a.lay_fork a.fd_lay_fork
 b_lay_fork:aG K a.fd_lay_fork ["bench","name"] []
 m_lay_fork:mg "lay_fork"=some (.ref a.lay_fork)
 F_lay_set:Fun K "lay_set" "lay_set" iM a.lay_set a.fd_lay_set
 b_lay_set:aG K a.fd_lay_set ["bench","deed"] []
 m_lay_set:mg "lay_set"=some (.ref a.lay_set)
 F_side_of:Fun K "side_of" "side_of" kt a.side_of a.fd_side_of
 b_side_of:aG K a.fd_side_of ["value","sources"] []
 m_side_of:mg "side_of"=some (.ref a.side_of)
 F_lay_handing:Fun K "lay_handing" "lay_handing" kJ a.lay_handing a.fd_lay_handing
 b_lay_handing:aG K a.fd_lay_handing ["bench","card","name","end"] []
 m_lay_handing:mg "lay_handing"=some (.ref a.lay_handing)
 F_lay_get:Fun K "lay_get" "lay_get" kK a.lay_get a.fd_lay_get
 b_lay_get:aG K a.fd_lay_get ["bench","store","name"] []
 m_lay_get:mg "lay_get"=some (.ref a.lay_get)
 F_net_of:Fun K "net_of" "net_of" kB a.net_of a.fd_net_of
 b_net_of:aG K a.fd_net_of ["program","numbers"] []
 m_net_of:mg "net_of"=some (.ref a.net_of)
 F_lay_block:Fun K "lay_block" "lay_block" kM a.lay_block a.fd_lay_block
 b_lay_block:aG K a.fd_lay_block ["bench","block"] []
 m_lay_block:mg "lay_block"=some (.ref a.lay_block)
 F_lay_through:Fun K "lay_through" "lay_through" kE a.lay_through a.fd_lay_through
 b_lay_through:aG K a.fd_lay_through ["bench","block","cards","wires"] []
 m_lay_through:mg "lay_through"=some (.ref a.lay_through)
 F_lay_if:Fun K "lay_if" "lay_if" kI a.lay_if a.fd_lay_if
 b_lay_if:aG K a.fd_lay_if ["bench","deed"] []
 m_lay_if:mg "lay_if"=some (.ref a.lay_if)
 F_lay_while:Fun K "lay_while" "lay_while" kD a.lay_while a.fd_lay_while
 b_lay_while:aG K a.fd_lay_while ["bench","deed"] []
 m_lay_while:mg "lay_while"=some (.ref a.lay_while)
 F_lay_repeat:Fun K "lay_repeat" "lay_repeat" kG a.lay_repeat a.fd_lay_repeat
 b_lay_repeat:aG K a.fd_lay_repeat ["bench","rounds","body"] []
 m_lay_repeat:mg "lay_repeat"=some (.ref a.lay_repeat)
 F_lay_loop:Fun K "lay_loop" "lay_loop" kH a.lay_loop a.fd_lay_loop
 b_lay_loop:aG K a.fd_lay_loop ["bench","cards","name","body","behind"] []
 m_lay_loop:mg "lay_loop"=some (.ref a.lay_loop)
 F__law_names:Fun K "_law_names" "_law_names" fB a._law_names a.fd__law_names
 b__law_names:aG K a.fd__law_names ["_law_cell"] []
 m__law_names:mg "_law_names"=some (.ref a._law_names)
 F__law_pick:Fun K "_law_pick" "_law_pick" kX a._law_pick a.fd__law_pick
 b__law_pick:aG K a.fd__law_pick ["_law_cell","_law_factor","_law_prime","_law_many"] []
 m__law_pick:mg "_law_pick"=some (.ref a._law_pick)
 F__law_value:Fun K "_law_value" "_law_value" kT a._law_value a.fd__law_value
 b__law_value:aG K a.fd__law_value ["_law_number","_law_names_here"] []
 m__law_value:mg "_law_value"=some (.ref a._law_value)
 F__law_set:Fun K "_law_set" "_law_set" kW a._law_set a.fd__law_set
 b__law_set:aG K a.fd__law_set ["_law_cell","_law_x","_law_names_here"] []
 m__law_set:mg "_law_set"=some (.ref a._law_set)
 F__law_simple:Fun K "_law_simple" "_law_simple" kU a._law_simple a.fd__law_simple
 b__law_simple:aG K a.fd__law_simple ["_law_cell","_law_x","_law_q","_law_names_here","_law_hidden"] []
 m__law_simple:mg "_law_simple"=some (.ref a._law_simple)
 F__law_body:Fun K "_law_body" "_law_body" lh a._law_body a.fd__law_body
 b__law_body:aG K a.fd__law_body ["_law_cells","_law_names_here","_law_stores"] []
 m__law_body:mg "_law_body"=some (.ref a._law_body)
 F__law_program:Fun K "_law_program" "_law_program" iO a._law_program a.fd__law_program
 b__law_program:aG K a.fd__law_program ["_law_script"] []
 m__law_program:mg "_law_program"=some (.ref a._law_program)
 F__law_numbers:Fun K "_law_numbers" "_law_numbers" iP a._law_numbers a.fd__law_numbers
 b__law_numbers:aG K a.fd__law_numbers ["_law_script"] []
 m__law_numbers:mg "_law_numbers"=some (.ref a._law_numbers)
 F__law_flat:Fun K "_law_flat" "_law_flat" kY a._law_flat a.fd__law_flat
 b__law_flat:aG K a.fd__law_flat ["_law_block"] []
 m__law_flat:mg "_law_flat"=some (.ref a._law_flat)
 F__law_bare:Fun K "_law_bare" "_law_bare" iR a._law_bare a.fd__law_bare
 b__law_bare:aG K a.fd__law_bare ["_law_block"] []
 m__law_bare:mg "_law_bare"=some (.ref a._law_bare)
 F__law_whole:Fun K "_law_whole" "_law_whole" kS a._law_whole a.fd__law_whole
 b__law_whole:aG K a.fd__law_whole ["_law_found"] []
 m__law_whole:mg "_law_whole"=some (.ref a._law_whole)
 F__law_cards:Fun K "_law_cards" "_law_cards" iQ a._law_cards a.fd__law_cards
 b__law_cards:aG K a.fd__law_cards ["_law_program_here"] []
 m__law_cards:mg "_law_cards"=some (.ref a._law_cards)
 F__law_due:Fun K "_law_due" "_law_due" kZ a._law_due a.fd__law_due
 b__law_due:aG K a.fd__law_due ["_law_program_here","_law_numbers_here"] []
 m__law_due:mg "_law_due"=some (.ref a._law_due)
 F_law:Fun K "law" "law" dR a.law a.fd_law
 b_law:aG K a.fd_law ["_law_script"] []
 m_law:mg "law"=some (.ref a.law)
 z_all:mg "all"=none
 z_bool:mg "bool"=none
 z_dict:mg "dict"=none
 z_enumerate:mg "enumerate"=none
 z_int:mg "int"=none
 z_isinstance:mg "isinstance"=none
 z_len:mg "len"=none
 z_list:mg "list"=none
 z_min:mg "min"=none
 z_range:mg "range"=none
 z_set:mg "set"=none
 z_sorted:mg "sorted"=none
 z_str:mg "str"=none
 z_tuple:mg "tuple"=none
 z_zip:mg "zip"=none
 c_LOOPS:mg "LOOPS"=some (.ref a.LOOPS)
 t_LOOPS:∀H:Hp,SqT K H a.LOOPS [.str "while",.str "repeat"]
 c_LOOKERS:mg "LOOKERS"=some (.ref a.LOOKERS)
 t_LOOKERS:∀H:Hp,SqT K H a.LOOKERS [.str "if",.str "while"]
 c_OUTLET:mg "OUTLET"=some (.str ">" a.tk_OUTLET)
 c_OUTLET_KEEPERS:mg "OUTLET_KEEPERS"=some (.ref a.OUTLET_KEEPERS)
 t_OUTLET_KEEPERS:∀H:Hp,SqT K H a.OUTLET_KEEPERS [.str "give",.str "while"]
 c_WHEEL:mg "WHEEL"=some (.int 1000000000000000000000000000000 a.tk_WHEEL)
 m_Bench:mg "Bench"=some (.ref a.C_Bench)
 cl_Bench:Cls K a.C_Bench
 k_Bench:Mk K a.C_Bench a.Bench___init__
 mt_Bench_add_line:cF K a.C_Bench "add_line" a.Bench_add_line
 mt_Bench_add_wires:cF K a.C_Bench "add_wires" a.Bench_add_wires
 mt_Bench_add_part:cF K a.C_Bench "add_part" a.Bench_add_part
 mt_Bench_wires_of:cF K a.C_Bench "wires_of" a.Bench_wires_of
 mt_Bench_lead:cF K a.C_Bench "lead" a.Bench_lead
 nf_Bench_lines:cE K a.C_Bench "lines"
 nf_Bench_parts:cE K a.C_Bench "parts"
 nf_Bench_ends:cE K a.C_Bench "ends"
 nf_Bench_coming:cE K a.C_Bench "coming"
theorem Tx.r_LOOPS {P:Program}{w:World}{K:W.Frag}{mg:Str->Option Value}{a:Adr}(_:Tx P w K mg a):ay (.ref a.LOOPS) (.ref a.LOOPS):=rfl
theorem Tx.r_LOOKERS {P:Program}{w:World}{K:W.Frag}{mg:Str->Option Value}{a:Adr}(_:Tx P w K mg a):ay (.ref a.LOOKERS) (.ref a.LOOKERS):=rfl
theorem Tx.r_OUTLET {P:Program}{w:World}{K:W.Frag}{mg:Str->Option Value}{a:Adr}(_:Tx P w K mg a):ay (.str ">") (.str ">" a.tk_OUTLET):=⟨_,rfl⟩
theorem Tx.r_OUTLET_KEEPERS {P:Program}{w:World}{K:W.Frag}{mg:Str->Option Value}{a:Adr}(_:Tx P w K mg a):ay (.ref a.OUTLET_KEEPERS) (.ref a.OUTLET_KEEPERS):=rfl
theorem Tx.r_WHEEL {P:Program}{w:World}{K:W.Frag}{mg:Str->Option Value}{a:Adr}(_:Tx P w K mg a):ay (.int 1000000000000000000000000000000) (.int 1000000000000000000000000000000 a.tk_WHEEL):=⟨_,rfl⟩
theorem p30:(10:Int) ^ (30:Int).toNat=1000000000000000000000000000000:=Qd
inductive oC (vs:List V) (H:Hp) (Q:VK) (E:XK):Prop
 |mk (q:Str) (h0_:vs=[.str q]) (h1_:q.length<=1000) (h2_:Q (.str (q++(">":Str))) H):oC vs H Q E
inductive oQ (vs:List V) (H:Hp) (Q:VK) (E:XK):Prop
 |mk (q:Str) (h0_:vs=[.str q]) (h1_:q.length<=1000) (h2_:Q (.str (q++("<":Str))) H):oQ vs H Q E
inductive oG (vs:List V) (H:Hp) (Q:VK) (E:XK):Prop
 |mk (H0:Hp) (v:V) (d:a9) (h0_:vs=[v]) (h1_:aa H0 H) (h2_:RD H0 v d) (h3_:∀H' l,aa H H'->H l=none->H' l=some (.lst (d.names.map V.str))->Q (.ref l) H'):oG vs H Q E
inductive oS (vs:List V) (H:Hp) (Q:VK) (E:XK):Prop
 |mk (H0:Hp) (v:V) (d:a9) (h0_:vs=[v]) (h1_:aa H0 H) (h2_:RD H0 v d) (h3_:∀H' l bs,aa H H'->H l=none->H' l=some (.lst (bs.map V.ref))->RLs H0 bs d.inner->Q (.ref l) H'):oS vs H Q E
inductive oE (vs:List V) (H:Hp) (Q:VK) (E:XK):Prop
 |mk (H0:Hp) (v:V) (d:a9) (h0_:vs=[v]) (h1_:aa H0 H) (h2_:RD H0 v d) (h3_:(∀k∈d.others,k.length<=1000)) (h4_:∀H' l,aa H H'->H l=none->H' l=some (.lst (d.others.map V.str))->Q (.ref l) H'):oE vs H Q E
inductive oV (n:Nat) (vs:List V) (H:Hp) (Q:VK) (E:XK):Prop
 |mk (H0:Hp) (b:Addr) (ds:List a9) (h0_:vs=[.ref b]) (h1_:aa H0 H) (h2_:RL H0 b ds) (h3_:av ds<n) (h4_:(ag ds).length<=1000) (h5_:∀H' l us,aa H H'->H l=none->H' l=some (.lst us)->RDs H0 us (ag ds)->Q (.ref l) H'):oV n vs H Q E
inductive oz (vs:List V) (H:Hp) (Q:VK) (E:XK):Prop
 |mk (H0:Hp) (b:Addr) (ds:List a9) (C:List Str) (h0_:vs=[.ref b]) (h1_:aa H0 H) (h2_:RL H0 b ds) (h3_:av ds<=12) (h4_:(ag ds).length<=1000) (h5_:(∀k∈cards ds,k∈C)) (h6_:C.length<64) (h7_:(∀k∈C,k.length<=1000) /\
 ∀H' l zs,aa H H'->H l=none->H' l=some (.lst (zs.map V.str))->zs.Nodup->(∀k,k∈zs↔k∈cards ds)->PyProof.Rows.sortedS zs=true->Q (.ref l) H'):oz vs H Q E
inductive oH (vs:List V) (H:Hp) (Q:VK) (E:XK):Prop
 |mk (b:Addr) (ds:List a9) (C:List Str) (h0_:vs=[.ref b]) (h1_:RL H b ds) (h2_:av ds<=12) (h3_:(ag ds).length<=300) (h4_:(∀k∈(ag ds).flatMap a9.names,k∈C)) (h5_:C.length<64) (h6_:∀H' l zs,aa H H'->H l=none->H' l=some (.lst (zs.map V.str))->zs.Nodup->(∀k,k∈zs↔k∈(ag ds).flatMap a9.names)->PyProof.Rows.sortedS zs=true->Q (.ref l) H'):oH vs H Q E
structure Vrs (ak:List Str) (ds:List a9) (zs:List Str):Prop where
 nd:zs.Nodup
 mem:∀k,k∈zs↔k∈ak\/k∈(ag ds).flatMap a9.names
 so:PyProof.Rows.sortedS zs=true
 few:zs.length<=2000
inductive oy (vs:List V) (H:Hp) (Q:VK) (E:XK):Prop
 |mk (p a0 a1 b:Addr) (ak:List Str) (ds:List a9) (C:List Str) (h0_:vs=[.ref p]) (h1_:H p=some (.tup [.ref a0,.ref a1,.ref b])) (h2_:H a0=some (.lst (ak.map V.str))) (h3_:RL H b ds) (h4_:av ds<=12) (h5_:(ag ds).length<=300) (h6_:ak.length<=300) (h7_:(∀x∈ak,x∈C)) (h8_:(∀k∈(ag ds).flatMap a9.names,k∈C)) (h9_:C.length<64) (h10_:∀H' l zs,aa H H'->H l=none->H' l=some (.lst (zs.map V.str))->Vrs ak ds zs->Q (.ref l) H'):oy vs H Q E
def ba (ps:List (Str×Int)):aS:=ps.foldl (fun f p=>bi f p.1 (p.2 % 1000000000000000000000000000000)) fun _=>0
inductive oU (vs:List V) (H:Hp) (Q:VK) (E:XK):Prop
 |mk (p a0 a1 b ln:Addr) (ak:List Str) (ns:List Int) (ds:List a9) (C:List Str) (h0_:vs=[.ref p,.ref ln]) (h1_:H p=some (.tup [.ref a0,.ref a1,.ref b])) (h2_:H a0=some (.lst (ak.map V.str))) (h3_:H ln=some (.lst (ns.map V.int))) (h4_:RL H b ds) (h5_:av ds<=12) (h6_:(ag ds).length<=300) (h7_:ak.length<=300) (h8_:ns.length<=300) (h9_:(∀x∈ak,x∈C)) (h10_:(∀k∈(ag ds).flatMap a9.names,k∈C)) (h11_:C.length<64) (h12_:∀H' d zs,aa H H'->H d=none->H' d=some (.dK (tab zs (ba (ak.zip ns))))->Vrs ak ds zs->Q (.ref d) H'):oU vs H Q E
inductive oR (vs:List V) (H:Hp) (Q:VK) (E:XK):Prop
 |mk (p la ls lb:Addr) (asks:List Str) (ss:List (Str×Int)) (ds:List a9) (us:List V) (C:List Str) (h0_:vs=[.ref p]) (h1_:RP H p asks ss ds la ls lb us) (h2_:av ds<=12) (h3_:(ag ds).length<=1000) (h4_:asks.length<=100) (h5_:ss.length<=100) (h6_:(∀s∈ss,s.1.length<=1000)) (h7_:(∀k∈bT asks ss ds,k∈C)) (h8_:C.length<64) (h9_:(∀k∈C,k.length<=1000) /\
 ∀H' l zs,aa H H'->H' l=some (.lst (zs.map V.str))->zs.Nodup->(∀k,k∈zs↔k∈bT asks ss ds)->PyProof.Rows.sortedS zs=true->Q (.ref l) H'):oR vs H Q E
structure BAd where
 p:Addr
 dx:Addr
 ll:Addr
 lp:Addr
 de:Addr
 dc:Addr
def jF (a:Adr) (dx ll lp de dc:Addr):HO:=.ins a.C_Bench dx [("lines",.ref ll),("parts",.ref lp),("ends",.ref de),("coming",.ref dc)]
def TK (H H':Hp):Prop:=∀b xs,H b=some (.tup xs)->H' b=some (.tup xs)
def Ln (H:Hp) (v lv:V) (fs:List Int):Prop:=∃u f,v=.ref u/\H u=some (.tup [lv,.ref f])/\H f=some (.tup (fs.map V.int))
def SdH (H:Hp) (v:V):Sd->Prop
 |.at i=>∃u,v=.ref u/\H u=some (.tup [.str "in",.int i])
 |.is n=>∃u,v=.ref u/\H u=some (.tup [.str "is",.int n])
def PgH (H:Hp) (v:V):PtG->Prop
 |.pas is os rt=>∃u i o r,v=.ref u/\H u=some (.tup [.str "pass",.ref i,.ref o,.ref r])/\H i=some (.tup (is.map V.int))/\H o=some (.tup (os.map V.int))/\H r=some (.tup (rt.map V.int))
 |.wrk is o sg l r=>∃u i x y,v=.ref u/\H u=some (.tup [.str "work",.ref i,.int o,.str sg,x,y])/\H i=some (.tup (is.map V.int))/\SdH H x l/\SdH H y r
 |.cho is w ons ofs t=>∃u i o f,v=.ref u/\H u=some (.tup [.str "choose",.ref i,.int w,.ref o,.ref f,.int t])/\H i=some (.tup (is.map V.int))/\H o=some (.tup (ons.map V.int))/\H f=some (.tup (ofs.map V.int))
 |.mrg t ons ofs outs=>∃u o f r,v=.ref u/\H u=some (.tup [.str "merge",.int t,.ref o,.ref f,.ref r])/\H o=some (.tup (ons.map V.int))/\H f=some (.tup (ofs.map V.int))/\H r=some (.tup (outs.map V.int))
structure BG (a:Adr) (H:Hp) (c:BAd) (es:List Str) (fe:aS) (N:ah):Prop where
 ro:H c.p=some (jF a c.dx c.ll c.lp c.de c.dc)
 eo:H c.de=some (.dK (tab es fe))
 co:H c.dc=some (.dK (tab N.cs N.fc))
 ne:c.ll≠c.lp
 de:c.de≠c.dc
 nd:N.cs.Nodup
 ln:∃ls,H c.ll=some (.lst ls)/\R2s (fun v d=>Ln H v d.lg d.on) ls N.ls
 pt:∃ps,H c.lp=some (.lst ps)/\R2s (PgH H) ps N.ps
def Fb (c:BAd) (H H':Hp):Prop:=∀b o,b≠c.ll->b≠c.lp->b≠c.dc->H b=some o->H' b=some o
structure Lt (c:BAd) (H0 H:Hp):Prop where
 e0:aa H0 H
 n1:H0 c.ll=none
 n2:H0 c.lp=none
 n3:H0 c.dc=none
structure Sm (N:ah) (m:Nat):Prop where
 l:N.ls.length+m<=100000
 p:N.ps.length+m<=100000
 c:N.cs.length+m<=100000
inductive pF (a:Adr) (vs:List V) (H:Hp) (Q:VK) (E:XK):Prop
 |mk (p dx:Addr) (h0_:vs=[.ref p]) (h1_:H p=some (.ins a.C_Bench dx [])) (h2_:∀H' ll lp de dc,(∀b o,b≠p->H b=some o->H' b=some o)->H' p=some (jF a dx ll lp de dc)->H' ll=some (.lst [])->H' lp=some (.lst [])->H' de=some (.dK [])->H' dc=some (.dK [])->H ll=none->H lp=none->H de=none->H dc=none->ll≠lp->de≠dc->Q .non H'):pF a vs H Q E
inductive pE (a:Adr) (vs:List V) (H:Hp) (Q:VK) (E:XK):Prop
 |mk (c:BAd) (es:List Str) (fe:aS) (N:ah) (x:V) (f:Addr) (on:List Int) (h0_:vs=[.ref c.p,x,.ref f]) (h1_:BG a H c es fe N) (h2_:H f=some (.tup (on.map V.int))) (h3_:Sm N 1) (h4_:∀H' (m:Int),m=N.n->Fb c H H'->BG a H' c es fe (N.line ⟨x,on⟩)->Q (.int m) H'):pE a vs H Q E
inductive pC (a:Adr) (vs:List V) (H:Hp) (Q:VK) (E:XK):Prop
 |mk (c:BAd) (es:List Str) (fe:aS) (N:ah) (k:Nat) (h0_:vs=[.ref c.p,.int k]) (h1_:BG a H c es fe N) (h2_:k<=1000) (h3_:Sm N k) (h4_:∀H' t,Fb c H H'->BG a H' c es fe (N.wires k)->H t=none->H' t=some (.tup ((wid N.n k).map V.int))->Q (.ref t) H'):pC a vs H Q E
inductive pD (a:Adr) (vs:List V) (H:Hp) (Q:VK) (E:XK):Prop
 |mk (c:BAd) (es:List Str) (fe:aS) (N:ah) (v:V) (p:PtG) (h0_:vs=[.ref c.p,v]) (h1_:BG a H c es fe N) (h2_:PgH H v p) (h3_:Sm N 1) (h4_:∀H',Fb c H H'->BG a H' c es fe (N.part p)->Q .non H'):pD a vs H Q E
inductive pA (a:Adr) (vs:List V) (H:Hp) (Q:VK) (E:XK):Prop
 |mk (c:BAd) (es:List Str) (fe:aS) (N:ah) (lc:Addr) (zs:List Str) (h0_:vs=[.ref c.p,.ref lc]) (h1_:BG a H c es fe N) (h2_:H lc=some (.lst (zs.map V.str))) (h3_:zs.length<=1000) (h4_:(∀x∈zs,x∈N.cs)) (h5_:∀H' t,aa H H'->H t=none->H' t=some (.tup ((zs.map N.fc).map V.int))->Q (.ref t) H'):pA a vs H Q E
inductive pB (a:Adr) (vs:List V) (H:Hp) (Q:VK) (E:XK):Prop
 |mk (c:BAd) (es:List Str) (fe:aS) (N:ah) (lc t:Addr) (zs:List Str) (ws:List Int) (h0_:vs=[.ref c.p,.ref lc,.ref t]) (h1_:BG a H c es fe N) (h2_:H lc=some (.lst (zs.map V.str))) (h3_:H t=some (.tup (ws.map V.int))) (h4_:zs.length=ws.length) (h5_:Sm N zs.length) (h6_:∀H',Fb c H H'->BG a H' c es fe (N.lead zs ws)->Q .non H'):pB a vs H Q E
inductive oP (a:Adr) (vs:List V) (H:Hp) (Q:VK) (E:XK):Prop
 |mk (c:BAd) (es:List Str) (fe:aS) (N:ah) (x:Str) (h0_:vs=[.ref c.p,.str x]) (h1_:BG a H c es fe N) (h2_:x∈N.cs) (h3_:Sm N 4) (h4_:∀H',Fb c H H'->BG a H' c es fe (N.fork x)->Q (.int N.n) H'):oP a vs H Q E
inductive oA (vs:List V) (H:Hp) (Q:VK) (E:XK):Prop
 |mk (l:Addr) (zs:List Str) (va:Val) (h0_:vs=[va.v,.ref l]) (h1_:H l=some (.lst (zs.map V.str))) (h2_:(∀x∈va.names,x∈zs)) (h3_:zs.length<=100) (h4_:∀H' v,aa H H'->SdH H' v (gu zs va)->Q v H'):oA vs H Q E
inductive oB (vs:List V) (H:Hp) (Q:VK) (E:XK):Prop
 |mk (p:Addr) (x sg:Str) (va vb:Val) (h0_:vs=[.ref p]) (h1_:H p=some (.tup [.str "set",.str x,va.v,.str sg,vb.v])) (h2_:∀H' l rs,aa H H'->H l=none->H' l=some (.lst (rs.map V.str))->gb x va vb rs->Q (.ref l) H'):oB vs H Q E
inductive oK (a:Adr) (vs:List V) (H:Hp) (Q:VK) (E:XK):Prop
 |mk (c:BAd) (es:List Str) (fe:aS) (N:ah) (t:Addr) (x sg:Str) (va vb:Val) (h0_:vs=[.ref c.p,.ref t]) (h1_:BG a H c es fe N) (h2_:H t=some (.tup [.str "set",.str x,va.v,.str sg,vb.v])) (h3_:(∀k∈(a9.set x va sg vb).names,k∈N.cs)) (h4_:Sm N 20) (h5_:∀H' rs,gb x va vb rs->Fb c H H'->BG a H' c es fe (N.set x va sg vb rs)->Q .non H'):oK a vs H Q E
inductive oN (a:Adr) (vs:List V) (H:Hp) (Q:VK) (E:XK):Prop
 |mk (c:BAd) (es:List Str) (fe:aS) (N:ah) (d x e:Str) (h0_:vs=[.ref c.p,.str d,.str x,.str e]) (h1_:BG a H c es fe N) (h2_:d∈N.cs) (h3_:x∈N.cs) (h4_:e∈es) (h5_:Sm N 20) (h6_:∀H',Fb c H H'->BG a H' c es fe (N.hand d x (fe e))->Q .non H'):oN a vs H Q E
inductive oO (a:Adr) (vs:List V) (H:Hp) (Q:VK) (E:XK):Prop
 |mk (c:BAd) (es:List Str) (fe:aS) (N:ah) (q x:Str) (h0_:vs=[.ref c.p,.str q,.str x]) (h1_:BG a H c es fe N) (h2_:q.length<=1000) (h3_:(q++("<":Str))∈N.cs) (h4_:x∈N.cs) (h5_:q∈es) (h6_:Sm N 20) (h7_:∀H',Fb c H H'->BG a H' c es fe (N.get (q++("<":Str)) x (fe q))->Q .non H'):oO a vs H Q E
structure EO (C es:List Str) (d:a9):Prop where
 cd:∀k∈d.cards,k∈C
 st:∀q x,d=.put q x\/d=.get q x->q∈es/\q.length<=1000
structure BO (C es:List Str) (ds:List a9):Prop where
 all:∀d∈ag ds,EO C es d
 dp:av ds<=12
 fl:(ag ds).length<=1000
def DO (C es cs:List Str) (d:a9):Prop:=BO C es [d]\/∃n,ctN n∈cs/\d=ctD n
inductive oI (a:Adr) (vs:List V) (H:Hp) (Q:VK) (E:XK):Prop
 |mk (c:BAd) (C es:List Str) (fe:aS) (N:ah) (v:V) (d:a9) (h0_:vs=[.ref c.p,v]) (h1_:BG a H c es fe N) (h2_:RD H v d) (h3_:d.inner=[]) (h4_:(∀k b,d≠.rep k b)) (h5_:DO C es N.cs d) (h6_:(∀x∈C,x∈N.cs)) (h7_:(">":Str)∈es) (h8_:Sm N 20) (h9_:∀H' N',Fb c H H'->BG a H' c es fe N'->Lay fe N [d] N'->Gr N N' 20->Q .non H'):oI a vs H Q E
def i6 (a:Adr) (c:BAd) (es:List Str) (fe:aS) (H0 H:Hp) (N:ah) (ds:List a9) (Q:ah->Hp->Prop):Prop:=∀H' N',Fb c H H'->BG a H' c es fe N'->Lay fe N ds N'->Gr N N' (wts ds)->Q N' H'
structure bV (a:Adr) (c:BAd) (C es:List Str) (fe:aS) (H0 H:Hp) (N:ah):Prop where
 bg:BG a H c es fe N
 lt:Lt c H0 H
 sub:∀x∈C,x∈N.cs
 gt:(">":Str)∈es
 c20:C.length<=20
 c1:∀k∈C,k.length<=1000
inductive iz (a:Adr) (n:Nat) (vs:List V) (H:Hp) (Q:VK) (E:XK):Prop
 |mk (c:BAd) (C es:List Str) (fe:aS) (H0:Hp) (N:ah) (b:Addr) (ds:List a9) (h0_:vs=[.ref c.p,.ref b]) (h1_:bV a c C es fe H0 H N) (h2_:RL H0 b ds) (h3_:(∀d∈ds,DO C es N.cs d)) (h4_:av ds<n) (h5_:Sm N (wts ds)) (h6_:i6 a c es fe H0 H N ds fun _ H'=>Q .non H'):iz a n vs H Q E
inductive iu (a:Adr) (n:Nat) (vs:List V) (H:Hp) (Q:VK) (E:XK):Prop
 |mk (c:BAd) (C es:List Str) (fe:aS) (H0:Hp) (N:ah) (b lc t:Addr) (ds:List a9) (zs:List Str) (ws:List Int) (h0_:vs=[.ref c.p,.ref b,.ref lc,.ref t]) (h1_:bV a c C es fe H0 H N) (h2_:RL H0 b ds) (h3_:H0 lc=some (.lst (zs.map V.str))) (h4_:H t=some (.tup (ws.map V.int))) (h5_:zs.length=ws.length) (h6_:zs.length<=30) (h7_:(∀d∈ds,DO C es (N.lead zs ws).cs d)) (h8_:av ds<n) (h9_:Sm N (zs.length+wts ds)) (h10_:i6 a c es fe H0 H (N.lead zs ws) ds fun N' H'=>∀H2 t2,aa H' H2->H' t2=none->H2 t2=some (.tup ((zs.map N'.fc).map V.int))->Q (.ref t2) H2):iu a n vs H Q E
inductive jW (a:Adr) (n:Nat) (vs:List V) (H:Hp) (Q:VK) (E:XK):Prop
 |mk (c:BAd) (C es:List Str) (fe:aS) (H0:Hp) (N:ah) (v:V) (x:Str) (t o:List a9) (h0_:vs=[.ref c.p,v]) (h1_:bV a c C es fe H0 H N) (h2_:RD H0 v (.cond x t o)) (h3_:BO C es [.cond x t o]) (h4_:av [.cond x t o]<n) (h5_:Sm N (wts [.cond x t o])) (h6_:i6 a c es fe H0 H N [.cond x t o] fun _ H'=>Q .non H'):jW a n vs H Q E
inductive jU (a:Adr) (n:Nat) (vs:List V) (H:Hp) (Q:VK) (E:XK):Prop
 |mk (c:BAd) (C es:List Str) (fe:aS) (H0:Hp) (N:ah) (v:V) (x:Str) (b:List a9) (h0_:vs=[.ref c.p,v]) (h1_:bV a c C es fe H0 H N) (h2_:RD H0 v (.whl x b)) (h3_:BO C es [.whl x b]) (h4_:av [.whl x b]<n) (h5_:Sm N (wts [.whl x b])) (h6_:i6 a c es fe H0 H N [.whl x b] fun _ H'=>Q .non H'):jU a n vs H Q E
inductive jV (a:Adr) (n:Nat) (vs:List V) (H:Hp) (Q:VK) (E:XK):Prop
 |mk (c:BAd) (C es:List Str) (fe:aS) (H0:Hp) (N:ah) (k:Int) (l:Addr) (b:List a9) (h0_:vs=[.ref c.p,.int k,.ref l]) (h1_:bV a c C es fe H0 H N) (h2_:RL H0 l b) (h3_:BO C es [.rep k b]) (h4_:av [.rep k b]<n) (h5_:Sm N (wts [.rep k b])) (h6_:i6 a c es fe H0 H N [.rep k b] fun _ H'=>Q .non H'):jV a n vs H Q E
inductive iw (a:Adr) (n:Nat) (vs:List V) (H:Hp) (Q:VK) (E:XK):Prop
 |mk (c:BAd) (C es:List Str) (fe:aS) (H0:Hp) (N:ah) (lc b t:Addr) (zs:List Str) (x:Str) (ds:List a9) (beh:List Int) (h0_:vs=[.ref c.p,.ref lc,.str x,.ref b,.ref t]) (h1_:bV a c C es fe H0 H N) (h2_:H0 lc=some (.lst (zs.map V.str))) (h3_:RL H0 b ds) (h4_:H t=some (.tup (beh.map V.int))) (h5_:zs.length=beh.length) (h6_:zs.length<=21) (h7_:(∀y∈zs,y∈N.cs)) (h8_:x∈zs) (h9_:(∀d∈ds,DO C es N.cs d)) (h10_:av ds<n) (h11_:Sm N (110+wts ds) /\
 ∀H' N1,Fb c H H'->BG a H' c es fe (N1.loZ zs N.n (zs.map N.fc) beh)->Lay fe (N.loA zs x beh) ds N1->Gr (N.loA zs x beh) N1 (wts ds)->Q .non H'):iw a n vs H Q E
structure nB (H:Hp) (pr la ls lb ln:Addr) (ak:List Str) (ss:List (Str×Int)) (ns:List Int) (ds:List a9) (us:List V) (C:List Str):Prop where
 rp:RP H pr ak ss ds la ls lb us
 hn:H ln=some (.lst (ns.map V.int))
 dp:av ds<=12
 fl:(ag ds).length<=300
 al:ak.length<=100
 sl:ss.length<=100
 nl:ns.length<=300
 akC:∀k∈bT ak ss ds,k∈C
 c20:C.length<=20
 c1:∀k∈C,k.length<=1000
 snd:(esN ss).Nodup
 s1:∀s∈ss,s.1.length<=1000
 st:∀d∈ag ds,∀q x,d=.put q x\/d=.get q x->q∈esN ss
structure jE (ak:List Str) (ss:List (Str×Int)) (ds:List a9) (zs:List Str):Prop where
 nd:zs.Nodup
 mem:∀k,k∈zs↔k∈bT ak ss ds
 so:PyProof.Rows.sortedS zs=true
def Prs (H:Hp) (l:Addr) (zs:List Str) (f:aS):Prop:=∃ts:List Addr,H l=some (.lst (ts.map V.ref))/\ts.length=zs.length/\∀(j:Nat) (t:Addr) (z:Str),ts[j]?=some t->zs[j]?=some z->H t=some (.tup [.str z,.int (f z)])
inductive oT (a:Adr) (vs:List V) (H:Hp) (Q:VK) (E:XK):Prop
 |mk (pr la ls lb ln:Addr) (ak:List Str) (ss:List (Str×Int)) (ns:List Int) (ds:List a9) (us:List V) (C:List Str) (h0_:vs=[.ref pr,.ref ln]) (h1_:nB H pr la ls lb ln ak ss ns ds us C /\
 ∀H' c zs,Lt c H H'->BG a H' c (esN ss) (feN ss) (cO ss zs (ba (ak.zip ns)))->jE ak ss ds zs->Q (.ref c.p) H'):oT a vs H Q E
inductive oF (a:Adr) (vs:List V) (H:Hp) (Q:VK) (E:XK):Prop
 |mk (pr la ls lb ln:Addr) (ak:List Str) (ss:List (Str×Int)) (ns:List Int) (ds:List a9) (us:List V) (C:List Str) (h0_:vs=[.ref pr,.ref ln]) (h1_:nB H pr la ls lb ln ak ss ns ds us C /\
 ∀H' t c le zs N,aa H H'->H t=none->H' t=some (.tup [.ref c.ll,.ref c.lp,.ref le])->BG a H' c (esN ss) (feN ss) (N.part (.pas (zs.map N.fc) [] []))->Prs H' le (esN ss) (feN ss)->jE ak ss ds zs->Lay (feN ss) (cO ss zs (ba (ak.zip ns))) ds N->Gr (cO ss zs (ba (ak.zip ns))) N (wts ds)->Q (.ref t) H'):oF a vs H Q E
inductive pe (vs:List V) (H:Hp) (Q:VK) (E:XK):Prop
 |mk (c:Int) (h0_:vs=[.int c]) (h1_:(0<=c/\c<1000000000)) (h2_:∀H' l,aa H H'->H l=none->H' l=some (.lst ((nmN c).map V.str))->Q (.ref l) H'):pe vs H Q E
inductive p7 (vs:List V) (H:Hp) (Q:VK) (E:XK):Prop
 |mk (c f p m:Int) (h0_:vs=[.int c,.int f,.int p,.int m]) (h1_:Builtin.Int.intBits c<=2 ^ 20) (h2_:(0<f/\f<1000000)) (h3_:(0<p/\p<1000000)) (h4_:(0<m/\m<1000000)) (h5_:Q (.int (pkN c f p m)) H):p7 vs H Q E
inductive oX (vs:List V) (H:Hp) (Q:VK) (E:XK):Prop
 |mk (n:Int) (l:Addr) (zs:List Str) (h0_:vs=[.int n,.ref l]) (h1_:(0<=n/\n<1000000)) (h2_:H l=some (.lst (zs.map V.str))) (h3_:zs.length=6) (h4_:Q (vaN n zs).v H):oX vs H Q E
def jD (H:Hp) (d:a9) (Q:VK):Prop:=∀p xs,H p=none->(∀H',H' p=some (.tup xs)->RD H' (.ref p) d)->Q (.ref p) (upd H p (.tup xs))
inductive jX (vs:List V) (H:Hp) (Q:VK) (E:XK):Prop
 |mk (c:Int) (x:Str) (l:Addr) (zs:List Str) (h0_:vs=[.int c,.str x,.ref l]) (h1_:Builtin.Int.intBits c<=2 ^ 20) (h2_:H l=some (.lst (zs.map V.str))) (h3_:zs.length=6) (h4_:jD H (fj c x zs) Q):jX vs H Q E
inductive oY (vs:List V) (H:Hp) (Q:VK) (E:XK):Prop
 |mk (c:Int) (x q:Str) (l:Addr) (zs:List Str) (hid:Bool) (h0_:vs=[.int c,.str x,.str q,.ref l,.bl hid]) (h1_:Builtin.Int.intBits c<=2 ^ 20) (h2_:H l=some (.lst (zs.map V.str))) (h3_:zs.length=6) (h4_:jD H (dP c x q zs hid) Q):oY vs H Q E
inductive pk (vs:List V) (H:Hp) (Q:VK) (E:XK):Prop
 |mk (lc ln lr:Addr) (cells:List Int) (zs ss:List Str) (h0_:vs=[.ref lc,.ref ln,.ref lr]) (h1_:H lc=some (.lst (cells.map V.int))) (h2_:cells.length<=79) (h3_:(∀n∈cells,Builtin.Int.intBits n<=2 ^ 20)) (h4_:H ln=some (.lst (zs.map V.str))) (h5_:H lr=some (.lst (ss.map V.str))) (h6_:zs.length=6) (h7_:ss.length=2) (h8_:∀H' b,aa H H'->H b=none->RL H' b (fX zs ss cells)->Q (.ref b) H'):pk vs H Q E
inductive oW (vs:List V) (H:Hp) (Q:VK) (E:XK):Prop
 |mk (n:Int) (h0_:vs=[.int n]) (h1_:Q (.bl true) H):oW vs H Q E
inductive gp (K:W.Frag) (vs:List V) (H:Hp) (Q:VK) (E:XK):Prop
 |mk (a:Addr) (ns:List Int) (h0_:vs=[.ref a]) (h1_:SqL K H a (ns.map V.int)) (h2_:ns.length<=63) (h3_:(∀n∈ns,Builtin.Int.intBits n<=2 ^ 20)) (h4_:jC H) (h5_:∀H',Q (.bl true) H'):gp K vs H Q E
def cN (ns:List Int):Int:=ns.headD 0 % 1000000000
def akN (c:Int):List Str:=(List.range (c / 7 % 7).toNat).map fun k:Nat=>(nmN c).getD ((c / 5+5 * (k:Int)) % 6).toNat (">":Str)
def ssN (c:Int):List (Str×Int):=[((nmN c).getD 1 (">":Str),1+c / 11 % 2000),(("w":Str),1+c / 13 % 3)]
def bU (ns:List Int):List Int:=(ns.drop 1).take 79
def bdN (ns:List Int):List a9:=fX (nmN (cN ns)) [(nmN (cN ns)).getD 1 (">":Str),("w":Str)] (bU ns)
def cU (ns:List Int):List Int:=(ns.take 7).map fun n=>n % 10000000000000000000000000000000-1000000000000000000000000000000
inductive oZ (K:W.Frag) (vs:List V) (H:Hp) (Q:VK) (E:XK):Prop
 |mk (sa:Addr) (ns:List Int) (h0_:vs=[.ref sa]) (h1_:SqL K H sa (ns.map V.int)) (h2_:ns.length<=63) (h3_:(∀n∈ns,Builtin.Int.intBits n<=2 ^ 20)) (h4_:∀H' p la ls lb us,aa H H'->H p=none->RP H' p (akN (cN ns)) (ssN (cN ns)) (bdN ns) la ls lb us->Q (.ref p) H'):oZ K vs H Q E
inductive p8 (K:W.Frag) (vs:List V) (H:Hp) (Q:VK) (E:XK):Prop
 |mk (sa:Addr) (ns:List Int) (h0_:vs=[.ref sa]) (h1_:SqL K H sa (ns.map V.int)) (h2_:ns.length<=63) (h3_:∀H' l,aa H H'->H l=none->H' l=some (.lst ((cU ns).map V.int))->Q (.ref l) H'):p8 K vs H Q E
inductive pf (n:Nat) (vs:List V) (H:Hp) (Q:VK) (E:XK):Prop
 |mk (H0:Hp) (b:Addr) (ds:List a9) (h0_:vs=[.ref b]) (h1_:aa H0 H) (h2_:RL H0 b ds) (h3_:av ds<n) (h4_:(ag ds).length<=1000) (h5_:∀H' l us,aa H H'->H l=none->H' l=some (.lst us)->RDs H0 us (ag ds)->Q (.ref l) H'):pf n vs H Q E
inductive pv (n:Nat) (vs:List V) (H:Hp) (Q:VK) (E:XK):Prop
 |mk (H0:Hp) (b:Addr) (ds:List a9) (h0_:vs=[.ref b]) (h1_:aa H0 H) (h2_:RL H0 b ds) (h3_:av ds<n) (h4_:(ag ds).length<=1000) (h5_:∀H',aa H H'->Q (.bl (cn ds)) H'):pv n vs H Q E
inductive pi (vs:List V) (H:Hp) (Q:VK) (E:XK):Prop
 |mk (p la ls lb:Addr) (ak:List Str) (ss:List (Str×Int)) (ds:List a9) (us:List V) (C:List Str) (h0_:vs=[.ref p]) (h1_:RP H p ak ss ds la ls lb us) (h2_:av ds<=12) (h3_:(ag ds).length<=300) (h4_:ak.length<=100) (h5_:ss.length<=100) (h6_:(∀s∈ss,s.1.length<=1000)) (h7_:(∀k∈bT ak ss ds,k∈C)) (h8_:C.length<=20) (h9_:(∀d∈ag ds,∀q x,d=.put q x\/d=.get q x->q∈ss.map (·.1)) /\
 ∀H' l zs,aa H H'->H l=none->H' l=some (.lst (zs.map V.str))->jE ak ss ds zs->Q (.ref l) H'):pi vs H Q E
def um (ak:List Str) (zs:List Str) (nn:List Int) (ds:List a9):List Int:=(nn.take (min nn.length ak.length)).map (fun n=>n % 1000000000000000000000000000000)++List.replicate (zs.length-min nn.length ak.length) 0++List.replicate (zc ds) 0
inductive ph (vs:List V) (H:Hp) (Q:VK) (E:XK):Prop
 |mk (p la ls lb ln:Addr) (ak:List Str) (ss:List (Str×Int)) (ds:List a9) (us:List V) (C:List Str) (nn:List Int) (h0_:vs=[.ref p,.ref ln]) (h1_:RP H p ak ss ds la ls lb us) (h2_:H ln=some (.lst (nn.map V.int))) (h3_:ak.Nodup) (h4_:av ds<=12) (h5_:(ag ds).length<=300) (h6_:ak.length<=100) (h7_:ss.length<=100) (h8_:nn.length<=100) (h9_:(∀s∈ss,s.1.length<=1000)) (h10_:(∀k∈bT ak ss ds,k∈C)) (h11_:C.length<=20) (h12_:(∀d∈ag ds,∀q x,d=.put q x\/d=.get q x->q∈ss.map (·.1)) /\
 ∀H' l zs rs,aa H H'->H l=none->H' l=some (.lst (rs.map V.int))->jE ak ss ds zs->rs.Perm (um ak zs nn ds)->List.Pairwise (fun x y=>x<=y) rs->Q (.ref l) H'):ph vs H Q E
theorem ln1:1<=sizeLine:=Qk
theorem ln2:2<=sizeLine:=Qk
theorem sT:2<=sizeLine:=Qk
theorem ln3:3<=sizeLine:=Qk
theorem ln4:4<=sizeLine:=Qk
theorem ln5:5<=sizeLine:=Qk
theorem ln6:6<=sizeLine:=Qk
theorem i4 {x:V}{r:List V}:atI (x::r) 0=some x:=show atI (x::r) ((0:Nat):Int)=some x from fY rfl
theorem CI {x y:V}{r:List V}:atI (x::y::r) 1=some y:=show atI (x::y::r) ((1:Nat):Int)=some y from fY rfl
theorem vc {x y z:V}{r:List V}:atI (x::y::z::r) 2=some z:=show atI (x::y::z::r) ((2:Nat):Int)=some z from fY rfl
theorem ni {x y z u:V}:List.lookup ("lines":Str) [(("lines":Str),x),("parts",y),("ends",z),("coming",u)]=some x:=j6
theorem uU {x y z u:V}:List.lookup ("parts":Str) [(("lines":Str),x),("parts",y),("ends",z),("coming",u)]=some y:=(d0 Qd).trans j6
theorem hZ {x y z u:V}:List.lookup ("ends":Str) [(("lines":Str),x),("parts",y),("ends",z),("coming",u)]=some z:=(d0 Qd).trans ((d0 Qd).trans j6)
theorem nj {x y z u:V}:List.lookup ("coming":Str) [(("lines":Str),x),("parts",y),("ends",z),("coming",u)]=some u:=(d0 Qd).trans ((d0 Qd).trans ((d0 Qd).trans j6))
theorem aR {k:Str}{x y z u:V}(h:((k == ("lines":Str)) || (k == ("parts":Str)) || (k == ("ends":Str)) || (k == ("coming":Str)))=false):List.lookup k [(("lines":Str),x),("parts",y),("ends",z),("coming",u)]=none:=by
 simp only[Bool.or_eq_false_iff]at h
 rw[d0 h.1.1.1,d0 h.1.1.2,d0 h.1.2,d0 h.2]
 rfl
section
variable {P:Program}{w:World}{K:W.Frag}{mg:Str->Option Value}{base:Heap}{a:Adr}
theorem m5 (T:Tx P w K mg a):aD P w K mg base CX0 1 a.put_card a.fd_put_card ["store"] oC:=by
 refine T.F_put_card.ok xE (fun vs H Q E h=>?_) (fun cdv A outer s H vs Q E hr h=>?_)
 ·obtain⟨_,rfl,_⟩:=h
  rfl
 obtain⟨q,rfl,hq,k⟩:=h
 refine⟨_,(ao (aH (ax fD (pq 0) aF))),?_⟩
 exact⟨_,rfl,_,_,rfl,rfl,aM (m:=1001) (by show q.length+1<=1001;omega),k⟩
theorem m8 (T:Tx P w K mg a):aD P w K mg base CX0 1 a.get_card a.fd_get_card ["store"] oQ:=by
 refine T.F_get_card.ok xH (fun vs H Q E h=>?_) (fun cdv A outer s H vs Q E hr h=>?_)
 ·obtain⟨_,rfl,_⟩:=h
  rfl
 obtain⟨q,rfl,hq,k⟩:=h
 refine⟨_,(ao (aH (ax fD (pq 0) aF))),?_⟩
 exact⟨_,rfl,_,_,rfl,rfl,aM (m:=1001) (by show q.length+1<=1001;omega),k⟩
theorem zT (T:Tx P w K mg a):aD P w K mg base CX0 1 a.blocks_within a.fd_blocks_within ["deed"] oS:=by
 refine T.F_blocks_within.ok xI (fun vs H Q E h=>?_) (fun cdv A outer s H vs Q E hr h=>?_)
 ·obtain⟨_,_,_,rfl,_⟩:=h
  rfl
 obtain⟨H0,v,d,rfl,e0,hd,k⟩:=h
 refine⟨_,(ai (aU (aO bn (aq ar (pq 0) af (fun _ _=>rfl)) aF (aT _)) (ao (aH (aJ (a8 (aq ar (pq 0) af (fun _ _=>rfl)) (a8 (aq ar (pq 0) af (fun _ _=>rfl)) ad))))) bA)
  (ai (aU (aO ef (aq ar (pq 0) af (fun _ _=>rfl)) (dw rfl T.c_LOOPS T.r_LOOPS) (by with_unfolding_all rfl)) (ao (aH (aJ (a8 (aq ar (pq 0) af (fun _ _=>rfl)) ad)))) bA)
  (ao (aH (aJ ad))))),?_⟩
 have nil:∀p,H p=none->d.inner=[]->Q (.ref p) (upd H p (.lst [])):=fun p hp z=>k _ p [] (aa.new hp _) hp ae (by rw[z];exact .nil)
 have one:∀p b bs,H p=none->d.inner=[bs]->RL H0 b bs->Q (.ref p) (upd H p (.lst [.ref b])):=fun p b bs hp z hb=>k _ p [b] (aa.new hp _) hp ae (by rw[z];exact .cons hb .nil)
 cases hd with
 |cond h h1 h2=>
  refine⟨_,rfl,_,_,_,_,rfl,rfl,SqT.of (e0 _ _ h),rfl,rfl,_,rfl,?_⟩
  walk_at "yes"
  refine⟨_,rfl,_,_,_,_,rfl,rfl,SqT.of (e0 _ _ h),rfl,_,rfl,_,_,_,_,rfl,rfl,SqT.of (e0 _ _ h),rfl,ln2,fun p hp=>?_⟩
  exact k _ p [_,_] (aa.new hp _) hp ae (.cons h1 (.cons h2 .nil))
 |whl h h1=>
  refine⟨_,rfl,_,_,_,_,rfl,rfl,SqT.of (e0 _ _ h),rfl,rfl,_,rfl,?_⟩
  walk_at "no"
  refine⟨_,rfl,_,_,_,_,rfl,rfl,SqT.of (e0 _ _ h),rfl,_,_,rfl,.inr (T.t_LOOPS _),rfl,rfl,_,rfl,?_⟩
  walk_at "yes"
  exact⟨_,rfl,_,_,_,_,rfl,rfl,SqT.of (e0 _ _ h),rfl,ln1,fun p hp=>one p _ _ hp rfl h1⟩
 |rep h h1=>
  refine⟨_,rfl,_,_,_,_,rfl,rfl,SqT.of (e0 _ _ h),rfl,rfl,_,rfl,?_⟩
  walk_at "no"
  refine⟨_,rfl,_,_,_,_,rfl,rfl,SqT.of (e0 _ _ h),rfl,_,_,rfl,.inr (T.t_LOOPS _),rfl,rfl,_,rfl,?_⟩
  walk_at "yes"
  exact⟨_,rfl,_,_,_,_,rfl,rfl,SqT.of (e0 _ _ h),rfl,ln1,fun p hp=>one p _ _ hp rfl h1⟩
 |set h=>
  refine⟨_,rfl,_,_,_,_,rfl,rfl,SqT.of (e0 _ _ h),rfl,rfl,_,rfl,?_⟩
  walk_at "no"
  refine⟨_,rfl,_,_,_,_,rfl,rfl,SqT.of (e0 _ _ h),rfl,_,_,rfl,.inr (T.t_LOOPS _),rfl,rfl,_,rfl,?_⟩
  walk_at "no"
  exact⟨qr _,fun p hp=>nil p hp rfl⟩
 |put h=>
  refine⟨_,rfl,_,_,_,_,rfl,rfl,SqT.of (e0 _ _ h),rfl,rfl,_,rfl,?_⟩
  walk_at "no"
  refine⟨_,rfl,_,_,_,_,rfl,rfl,SqT.of (e0 _ _ h),rfl,_,_,rfl,.inr (T.t_LOOPS _),rfl,rfl,_,rfl,?_⟩
  walk_at "no"
  exact⟨qr _,fun p hp=>nil p hp rfl⟩
 |get h=>
  refine⟨_,rfl,_,_,_,_,rfl,rfl,SqT.of (e0 _ _ h),rfl,rfl,_,rfl,?_⟩
  walk_at "no"
  refine⟨_,rfl,_,_,_,_,rfl,rfl,SqT.of (e0 _ _ h),rfl,_,_,rfl,.inr (T.t_LOOPS _),rfl,rfl,_,rfl,?_⟩
  walk_at "no"
  exact⟨qr _,fun p hp=>nil p hp rfl⟩
 |give h=>
  refine⟨_,rfl,_,_,_,_,rfl,rfl,SqT.of (e0 _ _ h),rfl,rfl,_,rfl,?_⟩
  walk_at "no"
  refine⟨_,rfl,_,_,_,_,rfl,rfl,SqT.of (e0 _ _ h),rfl,_,_,rfl,.inr (T.t_LOOPS _),rfl,rfl,_,rfl,?_⟩
  walk_at "no"
  exact⟨qr _,fun p hp=>nil p hp rfl⟩
theorem zG (T:Tx P w K mg a):aD P w K mg base CX0 2 a.other_cards_in a.fd_other_cards_in ["deed"] oE:=by
 refine T.F_other_cards_in.ok xF (fun vs H Q E h=>?_) (fun cdv A outer s H vs Q E hr h=>?_)
 ·obtain⟨_,_,_,rfl,_⟩:=h
  rfl
 obtain⟨H0,v,d,rfl,e0,hd,hk,k⟩:=h
 refine⟨_,(ai (aU (aO bn (aq ar (pq 0) af (fun _ _=>rfl)) aF (aT _)) (ao (aH (aJ (a8 (aB (m5 T) (hr.mono Qk) rfl T.m_put_card T.F_put_card.kp T.b_put_card .nil ap (a8 (aq ar (pq 0) af (fun _ _=>rfl)) ad)) ad)))) bA)
  (ai (aU (aO bn (aq ar (pq 0) af (fun _ _=>rfl)) aF (aT _)) (ao (aH (aJ (a8 (aB (m8 T) (hr.mono Qk) rfl T.m_get_card T.F_get_card.kp T.b_get_card .nil ap (a8 (aq ar (pq 0) af (fun _ _=>rfl)) ad)) ad)))) bA)
  (ao (aH (rP (aO ef (aq ar (pq 0) af (fun _ _=>rfl)) (dw rfl T.c_OUTLET_KEEPERS T.r_OUTLET_KEEPERS) (by with_unfolding_all rfl)) (aJ (a8 (dw rfl T.c_OUTLET T.r_OUTLET) ad)) (aJ ad)))))),?_⟩
 have fin:∀p xs,H p=none->d.others.map V.str=xs->Q (.ref p) (upd H p (.lst xs)):=fun p xs hp z=>by
  subst z
  exact k _ p (aa.new hp _) hp ae
 have bB:∀q z:Str,q++z∈d.others->q.length<=1000:=fun q z hq=>by
  have:=hk _ hq
  rw[wK]at this
  omega
 cases hd with
 |put h=>
  refine⟨_,rfl,_,_,_,_,rfl,rfl,SqT.of (e0 _ _ h),rfl,rfl,_,rfl,?_⟩
  walk_at "yes"
  exact⟨_,rfl,_,_,_,_,rfl,rfl,SqT.of (e0 _ _ h),rfl,_,rfl,bB _ ">" (by simp[a9.others]),ln1,fun p hp=>fin p _ hp rfl⟩
 |get h=>
  refine⟨_,rfl,_,_,_,_,rfl,rfl,SqT.of (e0 _ _ h),rfl,rfl,_,rfl,?_⟩
  walk_at "no"
  refine⟨_,rfl,_,_,_,_,rfl,rfl,SqT.of (e0 _ _ h),rfl,rfl,_,rfl,?_⟩
  walk_at "yes"
  exact⟨_,rfl,_,_,_,_,rfl,rfl,SqT.of (e0 _ _ h),rfl,_,rfl,bB _ "<" (by simp[a9.others]),ln1,fun p hp=>fin p _ hp rfl⟩
 |give h=>
  refine⟨_,rfl,_,_,_,_,rfl,rfl,SqT.of (e0 _ _ h),rfl,rfl,_,rfl,?_⟩
  walk_at "no"
  refine⟨_,rfl,_,_,_,_,rfl,rfl,SqT.of (e0 _ _ h),rfl,rfl,_,rfl,?_⟩
  walk_at "no"
  refine⟨_,rfl,_,_,_,_,rfl,rfl,SqT.of (e0 _ _ h),rfl,_,_,rfl,.inr (T.t_OUTLET_KEEPERS _),rfl,rfl,_,rfl,?_⟩
  walk_at "yes"
  exact⟨Qk,fun p hp=>fin p _ hp rfl⟩
 |whl h h1=>
  refine⟨_,rfl,_,_,_,_,rfl,rfl,SqT.of (e0 _ _ h),rfl,rfl,_,rfl,?_⟩
  walk_at "no"
  refine⟨_,rfl,_,_,_,_,rfl,rfl,SqT.of (e0 _ _ h),rfl,rfl,_,rfl,?_⟩
  walk_at "no"
  refine⟨_,rfl,_,_,_,_,rfl,rfl,SqT.of (e0 _ _ h),rfl,_,_,rfl,.inr (T.t_OUTLET_KEEPERS _),rfl,rfl,_,rfl,?_⟩
  walk_at "yes"
  exact⟨Qk,fun p hp=>fin p _ hp rfl⟩
 |set h=>
  refine⟨_,rfl,_,_,_,_,rfl,rfl,SqT.of (e0 _ _ h),rfl,rfl,_,rfl,?_⟩
  walk_at "no"
  refine⟨_,rfl,_,_,_,_,rfl,rfl,SqT.of (e0 _ _ h),rfl,rfl,_,rfl,?_⟩
  walk_at "no"
  refine⟨_,rfl,_,_,_,_,rfl,rfl,SqT.of (e0 _ _ h),rfl,_,_,rfl,.inr (T.t_OUTLET_KEEPERS _),rfl,rfl,_,rfl,?_⟩
  walk_at "no"
  exact⟨Qk,fun p hp=>fin p _ hp rfl⟩
 |cond h h1 h2=>
  refine⟨_,rfl,_,_,_,_,rfl,rfl,SqT.of (e0 _ _ h),rfl,rfl,_,rfl,?_⟩
  walk_at "no"
  refine⟨_,rfl,_,_,_,_,rfl,rfl,SqT.of (e0 _ _ h),rfl,rfl,_,rfl,?_⟩
  walk_at "no"
  refine⟨_,rfl,_,_,_,_,rfl,rfl,SqT.of (e0 _ _ h),rfl,_,_,rfl,.inr (T.t_OUTLET_KEEPERS _),rfl,rfl,_,rfl,?_⟩
  walk_at "no"
  exact⟨Qk,fun p hp=>fin p _ hp rfl⟩
 |rep h h1=>
  refine⟨_,rfl,_,_,_,_,rfl,rfl,SqT.of (e0 _ _ h),rfl,rfl,_,rfl,?_⟩
  walk_at "no"
  refine⟨_,rfl,_,_,_,_,rfl,rfl,SqT.of (e0 _ _ h),rfl,rfl,_,rfl,?_⟩
  walk_at "no"
  refine⟨_,rfl,_,_,_,_,rfl,rfl,SqT.of (e0 _ _ h),rfl,_,_,rfl,.inr (T.t_OUTLET_KEEPERS _),rfl,rfl,_,rfl,?_⟩
  walk_at "no"
  exact⟨Qk,fun p hp=>fin p _ hp rfl⟩
def jS (vs:List V):List V:=vs.filter fun v=>match v with|.str _=>true|_=>false
theorem m6 (T:Tx P w K mg a):aD P w K mg base CX0 1 a.names_in a.fd_names_in ["deed"] oG:=by
 refine T.F_names_in.ok pO (fun vs H Q E h=>?_) (fun cdv A outer s H vs Q E hr h=>?_)
 ·obtain⟨_,_,_,rfl,_⟩:=h
  rfl
 obtain⟨H0,v,d,rfl,e0,hd,k⟩:=h
 refine⟨_,(ai (aA (i:=1) pO.nd rfl (Or.inl rfl) (aq ar (pq 0) af (fun _ _=>rfl)))
  (ai (aU (aO bn (pq 1) aF (aT _)) (ao (aH (cL (k:=1) (Nc:=["word"]) (js:=[]) (show aX (aC iL) ["deed","kind"] _ 1 ["word"] []from aX.mk rfl (by decide +kernel) (by decide +kernel) (by decide +kernel) rfl (by decide +kernel)) rfl (yI (aL (a8 (aq ar (pq 0) af (fun _ _=>rfl)) (a8 (aq ar (pq 0) af (fun _ _=>rfl)) (a8 (aq ar (pq 0) af (fun _ _=>rfl)) ad))))) (fun _ _ _ _ _=>(aW (i:=0) (show List.Nodup (["word"]:List Str)from by decide +kernel) rfl (Or.inl rfl))) (fun _ _ _ _ _=>(rJ (cJ (aV (rk (K:=K) rfl) rfl T.z_isinstance PyProof.Rows.Boot.«isinstance» (a8 (pq 0) (a8 (dA (v:=.ty "str") rfl T.z_str PyProof.Rows.Boot.«str» rfl) ad)))))) (fun _ _ _ _ _=>(pq 0))))) bA)
  (ai (aU (aO bn (pq 1) aF (aT _)) (ao (aH (aJ ad))) bA)
  (ao (aH (rP (aO ef (pq 1) (dw rfl T.c_LOOKERS T.r_LOOKERS) (by with_unfolding_all rfl)) (aJ (a8 (aq ar (pq 0) af (fun _ _=>rfl)) ad)) (aJ (a8 (aq ar (pq 0) (dv dq af) (fun _ _=>rfl)) ad)))))))),?_⟩
 have fin:∀H1 p xs,aa H H1->H1 p=none->d.names.map V.str=xs->Q (.ref p) (upd H1 p (.lst xs)):=fun H1 p xs h1 hp z=>by
  subst z
  refine k _ p (h1.trans (aa.new hp _)) ?_ ae
  cases q:H p with
  |none=>rfl
  |some o=>rw[h1 _ _ q]at hp;cases hp
 cases hd with
 |set h=>
  rename_i p x va sg vb
  refine⟨_,rfl,_,_,_,_,rfl,rfl,SqT.of (e0 _ _ h),rfl,?_⟩
  refine⟨_,rfl,rfl,_,rfl,?_⟩
  walk_at "yes"
  refine⟨_,rfl,_,_,_,_,rfl,rfl,SqT.of (e0 _ _ h),rfl,_,rfl,_,_,_,_,rfl,rfl,SqT.of (e0 _ _ h),rfl,_,rfl,_,_,_,_,rfl,rfl,SqT.of (e0 _ _ h),rfl,ln3,fun t ht=>⟨t,rfl,⟨_,SqT.of ae⟩,?_⟩⟩
  refine Cg (K:=K) (a:=t) (xs:=[.str x,va.v,vb.v]) (fun i ys σ H2=>H2=upd H t (.tup [.str x,va.v,vb.v])/\(∃u,σ=[u])/\ys=jS (([.str x,va.v,vb.v]:List V).take i)) ⟨rfl,⟨_,rfl⟩,rfl⟩ ?_ ln3 ?_ ?_ ?_
  ·rintro i ys σ H2 hi ⟨_,_,rfl⟩
   refine qx (List.length_filter_le _ _) ?_
   rw[qJ]
   omega
  ·rintro i ys σ H2 ⟨rfl,_⟩
   exact SqT.of ae
  ·rintro i z ys σ H2 hz ⟨rfl,⟨u,rfl⟩,rfl⟩
   have hz':z=.str x\/z=va.v\/z=vb.v:=by simpa using qy hz
   have kind:(∃y,z=.str y)\/∃n,z=.int n:=by
    rcases hz' with rfl|rfl|rfl
    ·exact .inl ⟨_,rfl⟩
    ·cases va<;>simp[Val.v]
    ·cases vb<;>simp[Val.v]
   rcases kind with⟨y,rfl⟩|⟨n,rfl⟩
   ·refine⟨_,rfl,_,_,_,true,rfl,.str y,rfl,_,rfl,?_⟩
    refine Bd ⟨_,rfl,rfl,⟨_,rfl⟩,?_⟩
    rw[qq,hz]
    simp[jS]
   ·refine⟨_,rfl,_,_,_,false,rfl,.int n,rfl,_,rfl,?_⟩
    refine jf ⟨rfl,⟨_,rfl⟩,?_⟩
    rw[qq,hz]
    simp[jS]
  ·rintro ys σ H2 ⟨rfl,_,rfl⟩ D hD
   refine fin _ D _ (aa.new ht _) hD ?_
   cases va<;>cases vb<;>rfl
 |rep h h1=>
  refine⟨_,rfl,_,_,_,_,rfl,rfl,SqT.of (e0 _ _ h),rfl,?_⟩
  refine⟨_,rfl,rfl,_,rfl,?_⟩
  walk_at "no"
  refine⟨_,rfl,rfl,_,rfl,?_⟩
  walk_at "yes"
  exact⟨qr _,fun p hp=>fin H p _ (aa.refl H) hp rfl⟩
 |cond h h1 h2=>
  refine⟨_,rfl,_,_,_,_,rfl,rfl,SqT.of (e0 _ _ h),rfl,?_⟩
  refine⟨_,rfl,rfl,_,rfl,?_⟩
  walk_at "no"
  refine⟨_,rfl,rfl,_,rfl,?_⟩
  walk_at "no"
  refine⟨_,rfl,_,_,rfl,.inr (T.t_LOOKERS _),rfl,rfl,_,rfl,?_⟩
  walk_at "yes"
  exact⟨_,rfl,_,_,_,_,rfl,rfl,SqT.of (e0 _ _ h),rfl,ln1,fun p hp=>fin H p _ (aa.refl H) hp rfl⟩
 |whl h h1=>
  refine⟨_,rfl,_,_,_,_,rfl,rfl,SqT.of (e0 _ _ h),rfl,?_⟩
  refine⟨_,rfl,rfl,_,rfl,?_⟩
  walk_at "no"
  refine⟨_,rfl,rfl,_,rfl,?_⟩
  walk_at "no"
  refine⟨_,rfl,_,_,rfl,.inr (T.t_LOOKERS _),rfl,rfl,_,rfl,?_⟩
  walk_at "yes"
  exact⟨_,rfl,_,_,_,_,rfl,rfl,SqT.of (e0 _ _ h),rfl,ln1,fun p hp=>fin H p _ (aa.refl H) hp rfl⟩
 |put h=>
  refine⟨_,rfl,_,_,_,_,rfl,rfl,SqT.of (e0 _ _ h),rfl,?_⟩
  refine⟨_,rfl,rfl,_,rfl,?_⟩
  walk_at "no"
  refine⟨_,rfl,rfl,_,rfl,?_⟩
  walk_at "no"
  refine⟨_,rfl,_,_,rfl,.inr (T.t_LOOKERS _),rfl,rfl,_,rfl,?_⟩
  walk_at "no"
  exact⟨_,rfl,_,rfl,_,_,_,_,rfl,rfl,SqT.of (e0 _ _ h),rfl,ln1,fun p hp=>fin H p _ (aa.refl H) hp rfl⟩
 |get h=>
  refine⟨_,rfl,_,_,_,_,rfl,rfl,SqT.of (e0 _ _ h),rfl,?_⟩
  refine⟨_,rfl,rfl,_,rfl,?_⟩
  walk_at "no"
  refine⟨_,rfl,rfl,_,rfl,?_⟩
  walk_at "no"
  refine⟨_,rfl,_,_,rfl,.inr (T.t_LOOKERS _),rfl,rfl,_,rfl,?_⟩
  walk_at "no"
  exact⟨_,rfl,_,rfl,_,_,_,_,rfl,rfl,SqT.of (e0 _ _ h),rfl,ln1,fun p hp=>fin H p _ (aa.refl H) hp rfl⟩
 |give h=>
  refine⟨_,rfl,_,_,_,_,rfl,rfl,SqT.of (e0 _ _ h),rfl,?_⟩
  refine⟨_,rfl,rfl,_,rfl,?_⟩
  walk_at "no"
  refine⟨_,rfl,rfl,_,rfl,?_⟩
  walk_at "no"
  refine⟨_,rfl,_,_,rfl,.inr (T.t_LOOKERS _),rfl,rfl,_,rfl,?_⟩
  walk_at "no"
  exact⟨_,rfl,_,rfl,_,_,_,_,rfl,rfl,SqT.of (e0 _ _ h),rfl,ln1,fun p hp=>fin H p _ (aa.refl H) hp rfl⟩
theorem ub {ds:List a9}{i:Nat}{d:a9}(h:ds[i]?=some d):ag (ds.take (i+1))=ag (ds.take i)++(d::d.inner.flatMap ag):=by
 rw[qq,h,cP]
 show _++ag [d]=_
 rw[ag,ag,qw,dE]
theorem jy:∀{ds:List a9}{i:Nat}{d:a9},ds[i]?=some d->d.depth<=av ds
 |[],i,d,h=>by simp at h
 |x::r,0,d,h=>by simp at h;subst h;rw[av];omega
 |x::r,i+1,d,h=>by
  simp only[List.getElem?_cons_succ]at h
  have:=jy h
  rw[av]
  omega
theorem fO {d:a9}{j:Nat}{b:List a9}(h:d.inner[j]?=some b):av b<d.depth:=by
 have hm:=qy h
 cases d<;>simp[a9.inner]at hm
 ·rcases hm with rfl|rfl<;>rw[a9.depth]<;>omega
 ·subst hm;rw[a9.depth];omega
 ·subst hm;rw[a9.depth];omega
theorem mU {ds:List a9}{i:Nat}:(ag (ds.take i)).length<=(ag ds).length:=by
 have:ag ds=ag (ds.take i)++ag (ds.drop i):=by rw[<- cP,List.take_append_drop]
 rw[this,qa]
 omega
theorem sr (T:Tx P w K mg a):∀n:Nat,aD P w K mg base CX0 (n+2) a.all_deeds a.fd_all_deeds ["block"] (oV n):=by
 intro n
 induction n with
 |zero=>
  refine T.F_all_deeds.ok gx (fun vs H Q E h=>?_) (fun cdv A outer s H vs Q E hr h=>?_)
  ·obtain⟨_,_,_,rfl,_⟩:=h
   rfl
  ·obtain⟨_,_,_,_,_,_,h0,_⟩:=h
   exact absurd h0 (Nat.not_lt_zero _)
 |succ n ih=>
  refine T.F_all_deeds.ok gx (fun vs H Q E h=>?_) (fun cdv A outer s H vs Q E hr h=>?_)
  ·obtain⟨_,_,_,rfl,_⟩:=h
   rfl
  obtain⟨H0,b,ds,rfl,e0,hb,hdp,hfl,k⟩:=h
  refine⟨_,(ai (aA (i:=1) gx.nd rfl (Or.inl rfl) (aJ ad))
   (ai (bQ PassesOwn.never rfl (bH (pq 0)) (aW (i:=2) gx.nd rfl (Or.inl rfl))
   (ai (aI (bD qf qu qv ce (pq 1) (a8 (pq 2) ad)))
   (ao (bQ PassesOwn.never rfl (bH (aB (zT T) (hr.mono Qo) rfl T.m_blocks_within T.F_blocks_within.kp T.b_blocks_within .nil ap (a8 (pq 2) ad))) (aW (i:=3) gx.nd rfl (Or.inl rfl))
   (ao (aI (bD qf PySem.F.slot_list_extend PySem.F.type_list_extend gP (pq 1) (a8 (aB ih (hr.mono Qo) rfl T.m_all_deeds T.F_all_deeds.kp T.b_all_deeds .nil ap (a8 (pq 3) ad)) ad))))))))
   (ao (aH (pq 1))))),?_⟩
  obtain⟨hb1,hds⟩:=hb
  rename_i vs
  refine⟨qr _,fun f hf=>?_⟩
  have hf0:=aa.none e0 hf
  refine⟨_,rfl,b,rfl,⟨_,SqL.of ((aa.new hf _) _ _ (e0 _ _ hb1))⟩,?_⟩
  refine cC (K:=K) (a:=b) (xs:=vs) (fun i σ H2=>∃us v2 v3,σ=[some (.ref b),some (.ref f),v2,v3]/\aa H H2/\H2 f=some (.lst us)/\RDs H0 us (ag (ds.take i))) ⟨[],_,_,rfl,aa.new hf _,ae,.nil⟩ ?_ ?_ ?_
  ·rintro i σ H2 _ ⟨us,v2,v3,_,s2,_,_⟩
   exact SqL.of (s2 _ _ (e0 _ _ hb1))
  ·rintro i x σ H2 hx ⟨us,v2,v3,rfl,s2,hf2,hus⟩
   obtain⟨d,hd,hrd⟩:=hds.at i x hx
   have lu:us.length<=1000:=by rw[hus.len];exact qx mU hfl
   refine⟨_,rfl,.inl ⟨rfl,_,SqL.of hf2⟩,_,rfl,f,_,_,rfl,rfl,hf2,aM (m:=1001) Qo,?_⟩
   have s3:aa H0 (upd H2 f (.lst (us++[x]))):=aa.over (e0.trans s2) hf0
   refine⟨_,rfl,H0,x,d,rfl,s3,hrd,fun H4 l bs s4 nl hl hbs=>⟨l,rfl,⟨_,SqL.of hl⟩,?_⟩⟩
   have lf:l≠f:=fun z=>by rw[z,ae]at nl;cases nl
   have all:ag (ds.take (i+1))=ag (ds.take i)++([d]++d.inner.flatMap ag):=ub hd
   refine cC (K:=K) (a:=l) (xs:=bs.map V.ref) (fun j σ H5=>∃us' v3,σ=[some (.ref b),some (.ref f),some x,v3]/\aa H H5/\H5 f=some (.lst us')/\H5 l=some (.lst (bs.map V.ref))/\RDs H0 us' (ag (ds.take i)++([d]++(d.inner.take j).flatMap ag)))
    ⟨us++[x],_,rfl,(aa.over s2 hf).trans s4,s4 _ _ ae,hl,hus.app (.cons hrd .nil)⟩ ?_ ?_ ?_
   ·rintro j σ H5 _ ⟨us',v3,_,_,_,hl5,_⟩
    exact SqL.of hl5
   ·rintro j z σ H5 hz ⟨us',v3,rfl,s5,hf5,hl5,hus'⟩
    rw[qD]at hz
    obtain⟨bj,hbj,rfl⟩:=qP.mp hz
    obtain⟨dj,hdj,hrj⟩:=hbs.at j bj hbj
    have dd:=jy hd
    have di:=fO hdj
    have st:(d.inner.take (j+1)).flatMap ag=(d.inner.take j).flatMap ag++ag dj:=by
     rw[qq,hdj,qU]
     simp
    have pre:(ag (ds.take i)++([d]++(d.inner.take (j+1)).flatMap ag)).length<=1000:=by
     have e:d.inner.flatMap ag=(d.inner.take (j+1)).flatMap ag++(d.inner.drop (j+1)).flatMap ag:=by rw[<- qU,List.take_append_drop]
     have:=mU (ds:=ds) (i:=i+1)
     rw[all,e]at this
     simp only[qa]at this ⊢
     omega
    rw[st]at pre
    simp only[qa]at pre
    have lu':us'.length<=1000:=by rw[hus'.len];simp only[qa];omega
    refine⟨_,rfl,.inl ⟨rfl,_,SqL.of hf5⟩,_,rfl,H0,bj,dj,rfl,e0.trans s5,hrj,Qo,Qo,fun H6 l6 us6 s6 n6 h6 r6=>?_⟩
    have f6:l6≠f:=fun z=>by rw[z,hf5]at n6;cases n6
    refine⟨f,l6,_,_,rfl,rfl,s6 _ _ hf5,h6,aM (m:=2000) (by rw[r6.len];omega),?_⟩
    refine⟨us'++us6,_,rfl,aa.over (s5.trans s6) hf,ae,?_,?_⟩
    ·rw[aj lf]
     exact s6 _ _ hl5
    ·rw[st,<- qM,<- qM]
     rw[<- qM]at hus'
     exact hus'.app r6
   ·rintro σ H5 ⟨us',v3,rfl,s5,hf5,hl5,hus'⟩
    refine⟨us',_,_,rfl,s5,hf5,?_⟩
    rw[all]
    rw[q5,hbs.len,qG]at hus'
    exact hus'
  ·rintro σ H2 ⟨us,v2,v3,rfl,s2,hf2,hus⟩
   rw[hds.len,qG]at hus
   exact⟨_,rfl,k H2 f us s2 hf hf2 hus⟩
theorem md:∀(l:List a9),(l.flatMap a9.names).length<=3 * l.length
 |[]=>by simp
 |d::r=>by
  have h1:d.names.length<=3:=by
   cases d with
   |set x a sg b=>cases a<;>cases b<;>simp[a9.names,Val.names]
   |_=>simp[a9.names]
  have h2:=md r
  rw[qE,qa,qz]
  omega
theorem zI (T:Tx P w K mg a):aD P w K mg base CX0 16 a.named a.fd_named ["block"] oH:=by
 refine T.F_named.ok kh (fun vs H Q E h=>?_) (fun cdv A outer s H vs Q E hr h=>?_)
 ·obtain⟨_,_,_,rfl,_⟩:=h
  rfl
 obtain⟨b,ds,C,rfl,hb,dp,hln,nC,c64,k⟩:=h
 refine⟨_,(ai (aA (i:=1) kh.nd rfl (Or.inl rfl) (aJ ad))
  (ai (bQ PassesOwn.never rfl (bH (aB (sr T 13) (hr.mono Qk) rfl T.m_all_deeds T.F_all_deeds.kp T.b_all_deeds .nil ap (a8 (pq 0) ad))) (aW (i:=2) kh.nd rfl (Or.inl rfl))
  (ao (aI (bD qf PySem.F.slot_list_extend PySem.F.type_list_extend gP (pq 1) (a8 (aB (m6 T) (hr.mono Qk) rfl T.m_names_in T.F_names_in.kp T.b_names_in .nil ap (a8 (pq 2) ad)) ad)))))
  (ao (aH (aV (fV rfl) rfl T.z_sorted PyProof.Rows.Boot.«sorted» (a8 (cj (eF rfl) rfl T.z_set PyProof.Rows.Boot.«set» (a8 (pq 1) ad)) ad)))))),?_⟩
 refine⟨qr _,fun c hc=>?_⟩
 refine⟨_,rfl,H,b,ds,rfl,aa.new hc _,hb,Qo,Qo,fun H2 l us s2 nl hl hus=>⟨l,rfl,⟨_,SqL.of hl⟩,?_⟩⟩
 generalize hfl:ag ds=fl at *
 have lc:l≠c:=fun z=>by rw[z,ae]at nl;cases nl
 have few:∀i,((fl.take i).flatMap a9.names).length<=900:=fun i=>by
  have:=md (fl.take i)
  rw[qJ]at this
  omega
 refine cC (K:=K) (a:=l) (xs:=us) (fun i σ H3=>∃v,σ=[some (.ref b),some (.ref c),v]/\aa H H3/\H3 c=some (.lst (((fl.take i).flatMap a9.names).map V.str))/\H3 l=some (.lst us)) ⟨_,rfl,(aa.new hc _).trans s2,s2 _ _ ae,hl⟩ ?_ ?_ ?_
 ·rintro i σ H3 _ ⟨v,_,_,_,h⟩
  exact SqL.of h
 ·rintro i x σ H3 hx ⟨v,rfl,s3,hc3,hl3⟩
  obtain⟨d,hd,hrd⟩:=hus.at i x hx
  have f1:=few (i+1)
  rw[qq,hd]at f1
  have f1':((fl.take i).flatMap a9.names).length+d.names.length<=900:=by
   simpa[qU]using f1
  refine⟨_,rfl,.inl ⟨rfl,_,SqL.of hc3⟩,_,rfl,H,x,d,rfl,s3,hrd,fun H4 l4 s4 n4 h4=>?_⟩
  refine⟨c,l4,_,_,rfl,rfl,s4 _ _ hc3,h4,aM (m:=3000) (by rw[q5,q5];omega),?_⟩
  refine⟨_,rfl,aa.over (s3.trans s4) hc,?_,?_⟩
  ·rw[ae,qq,hd]
   simp[qU]
  ·rw[aj lc]
   exact s4 _ _ hl3
 ·rintro σ H3 ⟨v,rfl,s3,hc3,hl3⟩
  rw[hus.len,qG]at hc3
  have f1:=few fl.length
  rw[qG]at f1
  refine⟨_,rfl,c,fl.flatMap a9.names,rfl,SqL.of hc3,Qo,fun p hp=>?_⟩
  refine⟨p,fl.flatMap a9.names,C,rfl,ae,nC,c64,fun r zs hr' nd hm so=>?_⟩
  have p0:=aa.none s3 hp
  have r0:H r=none:=by
   refine aa.none s3 ?_
   cases q:H3 r with
   |none=>rfl
   |some o=>
    have:r≠p:=bJ q hp
    rw[aj this,q]at hr'
    cases hr'
  exact k _ r zs (aa.over (aa.over s3 p0) r0) r0 ae nd hm so
theorem zE (T:Tx P w K mg a):aD P w K mg base CX0 17 a.variables_of a.fd_variables_of ["program"] oy:=by
 refine T.F_variables_of.ok xB (fun vs H Q E h=>?_) (fun cdv A outer s H vs Q E hr h=>?_)
 ·obtain⟨_,_,_,_,_,_,_,rfl,_⟩:=h
  rfl
 obtain⟨p,a0,a1,b,ak,ds,C,rfl,hp,h0,hb,dp,hl,al,akC,nC,c64,q⟩:=h
 refine⟨_,(ao (aH (aV (fV rfl) rfl T.z_sorted PyProof.Rows.Boot.«sorted» (a8 (ax ze (cj (eF rfl) rfl T.z_set PyProof.Rows.Boot.«set» (a8 (aq ar (pq 0) af (fun _ _=>rfl)) ad)) (cj (eF rfl) rfl T.z_set PyProof.Rows.Boot.«set» (a8 (aB (zI T) (hr.mono Qk) rfl T.m_named T.F_named.kp T.b_named .nil ap (a8 (aq ar (pq 0) af (fun _ _=>rfl)) ad)) ad))) ad)))),?_⟩
 refine⟨_,rfl,p,_,_,_,rfl,rfl,SqT.of hp,i4,a0,ak,rfl,SqL.of h0,Qo,fun s1 hs1=>?_⟩
 have m1:=aa.new hs1 (bf P w s1 ak)
 have o1:upd H s1 (bf P w s1 ak) s1=some (bf P w s1 ak):=ae
 refine⟨_,rfl,p,_,_,_,rfl,rfl,SqT.of (m1 _ _ hp),vc,b,ds,C,rfl,RL.same m1 hb,dp,hl,nC,c64,fun H2 l2 zs m2 n2 o2 nd mem so=>?_⟩
 have nf:zs.length<=900:=by
  have l1:=bS nd fun x hx=>(mem x).mp hx
  have:=md (ag ds)
  omega
 refine⟨l2,zs,rfl,SqL.of o2,Qo,fun s2 hs2=>?_⟩
 have m3:=aa.new hs2 (bf P w s2 zs)
 have o3:upd H2 s2 (bf P w s2 zs) s2=some (bf P w s2 zs):=ae
 have n3:s1≠s2:=fun z=>by rw[<- z,m2 _ _ o1]at hs2;cases hs2
 refine⟨s1,s2,ak,zs,ak,zs,rfl,rfl,n3,m3 _ _ (m2 _ _ o1),o3,fun k hk=>hk,Qo,fun k hk=>hk,Qo,fun s3 hs3=>?_⟩
 have m4:=aa.new hs3 (bf P w s3 (ak++zs))
 have o4:upd (upd H2 s2 (bf P w s2 zs)) s3 (bf P w s3 (ak++zs)) s3=some (bf P w s3 (ak++zs)):=ae
 have m14:=m1.trans (m2.trans (m3.trans m4))
 refine⟨s3,ak++zs,C,rfl,o4,fun k hk=>(qg.mp hk).elim (akC k) (fun h=>nC k ((mem k).mp h)),c64,fun l5 ys hl5 nd5 mem5 so5=>?_⟩
 have few5:ys.length<=2000:=by
  have:=bS nd5 fun x hx=>(mem5 x).mp hx
  rw[qa]at this
  omega
 exact q _ l5 ys (m14.trans (aa.new hl5 _)) (aa.none m14 hl5) ae ⟨nd5,fun k=>by rw[mem5 k,qg,mem k],so5,few5⟩
theorem bh {H:Hp}{x b:Addr}{o:HO}(h:upd H x o b=none):H b=none:=by
 by_cases e:b=x
 ·rw[e,ae]at h;cases h
 ·rwa [aj e]at h
theorem CD (ps:List (Str×Int)) (p:Str×Int):ba (ps++[p])=bi (ba ps) p.1 (p.2 % 1000000000000000000000000000000):=by
 unfold ba
 rw[List.foldl_append]
 rfl
theorem zW (T:Tx P w K mg a):aD P w K mg base CX0 18 a.beginnings a.fd_beginnings ["program","numbers"] oU:=by
 refine T.F_beginnings.ok iJ (fun vs H Q E h=>?_) (fun cdv A outer s H vs Q E hr h=>?_)
 ·obtain⟨_,_,_,_,_,_,_,_,_,rfl,_⟩:=h
  rfl
 obtain⟨p,a0,a1,b,ln,ak,ns,ds,C,rfl,hp,h0,hn,hb,dp,hln,al,nl',akC,nC,c64,q⟩:=h
 refine⟨_,(ai (aA (i:=2) iJ.nd rfl (Or.inl rfl) (cj (CB rfl) rfl T.z_dict PyProof.Rows.Boot.«dict» (a8 (cL (k:=1) (Nc:=["name"]) (js:=[]) (show aX (aC iN) ["program","numbers","begun","name","number"] _ 1 ["name"] []from aX.mk rfl (by decide +kernel) (by decide +kernel) (by decide +kernel) rfl (by decide +kernel)) rfl (bH (aB (zE T) (hr.mono Qk) rfl T.m_variables_of T.F_variables_of.kp T.b_variables_of .nil ap (a8 (pq 0) ad))) (fun _ _ _ _ _=>(aW (i:=0) (show List.Nodup (["name"]:List Str)from by decide +kernel) rfl (Or.inl rfl))) (fun _ _ _ _ _=>cT) (fun _ _ _ _ _=>(aL (a8 (pq 0) (a8 af ad))))) ad)))
  (ai (bQ PassesOwn.never rfl (lU rfl T.z_zip (a8 (aq ar (pq 0) af (fun _ _=>rfl)) (a8 (pq 1) ad))) (eK rfl (cf (aW (i:=3) iJ.nd rfl (Or.inl rfl)) (cf (aW (i:=4) iJ.nd rfl (Or.inl rfl)) eJ)))
  (ao (fG (hr.one) (pq 2) (pq 3) (ax bM (pq 4) (dw rfl T.c_WHEEL T.r_WHEEL)) rfl)))
  (ao (aH (pq 2))))),?_⟩
 refine⟨_,rfl,p,a0,a1,b,ak,ds,C,rfl,hp,h0,hb,dp,hln,al,akC,nC,c64,fun H2 l zs m2 nl hl vr=>⟨l,rfl,⟨_,SqL.of hl⟩,?_⟩⟩
 refine eT (K:=K) (a:=l) (xs:=zs.map V.str) (fun i ys σ H3=>(∃v,σ=[v])/\aa H2 H3/\∃ts:List Addr,ys=ts.map V.ref/\ts.length=i/\∀(j:Nat) (t:Addr) (z:Str),ts[j]?=some t->zs[j]?=some z->H3 t=some (.tup [.str z,.int 0])) ⟨⟨_,rfl⟩,aa.refl _,[],rfl,rfl,fun j t z h=>by simp at h⟩ ?_ (aM (m:=2000) (by rw[q5];exact vr.few)) ?_ ?_ ?_
 ·rintro i ys σ H3 _ ⟨_,_,ts,rfl,h,_⟩
  rw[q5,h]
  exact qd _
 ·rintro i ys σ H3 ⟨_,s3,_⟩
  exact SqL.of (s3 _ _ hl)
 ·rintro i x ys σ H3 hx ⟨⟨v,rfl⟩,s3,ts,rfl,hl3,ht⟩
  rw[qD]at hx
  obtain⟨z,hzi,rfl⟩:=qP.mp hx
  refine⟨_,rfl,ln2,fun p4 hp4=>?_⟩
  refine⟨⟨_,rfl⟩,s3.trans (aa.new hp4 _),ts++[p4],by rw[qO];rfl,by rw[qa,hl3];rfl,fun j t y hj hy=>?_⟩
  rcases Nat.lt_or_ge j ts.length with lt|ge
  ·rw[List.getElem?_append_left lt]at hj
   exact aa.new hp4 _ _ _ (ht j t y hj hy)
  ·rw[qK ge]at hj
   have e0:j-ts.length=0:=by
    have:=(qe.mp hj).1
    simpa using this
   rw[e0]at hj
   obtain rfl:p4=t:=by simpa using hj
   have:j=i:=Qo
   subst this
   rw[hzi]at hy
   cases hy
   exact ae
 ·rintro ys σ H3 ⟨_,s3,ts,rfl,hl3,ht⟩ lc hlc
  rw[q5]at hl3
  have mH:=m2.trans s3
  have nlc:=aa.none mH hlc
  refine⟨lc,ts.map V.ref,zs.map fun z=>(.inr z,.int 0),rfl,ae,by rw[q5,q5,hl3],aM (m:=2000) (by rw[q5];exact vr.few),fun i p hp'=>?_,fun d hd=>?_⟩
  ·rw[qD]at hp'
   obtain⟨z,hzi,rfl⟩:=qP.mp hp'
   have lt:i<ts.length:=by
    have:=(qe.mp hzi).1
    omega
   exact⟨ts[i],by rw[qD,qb lt];rfl,aa.new hlc _ _ _ (ht i _ z (qb lt) hzi)⟩
  rw[yw vr.nd]
  have nd0:H d=none:=aa.none mH (bh hd)
  have mD:aa H (upd (upd H3 lc (.lst (ts.map V.ref))) d (.dK (tab zs fun _=>0))):=aa.over (aa.over mH nlc) nd0
  refine⟨_,rfl,_,_,_,_,rfl,rfl,SqT.of (mD _ _ hp),rfl,_,rfl,false,false,a0,ln,ak.map V.str,ns.map V.int,rfl,SqL.of (mD _ _ h0),SqL.of (mD _ _ hn),?_⟩
  have o8:upd (upd H3 lc (.lst (ts.map V.ref))) d (.dK (tab zs fun _=>0)) d=some (.dK (tab zs fun _=>0)):=ae
  generalize upd (upd H3 lc (.lst (ts.map V.ref))) d (.dK (tab zs fun _=>0))=H8 at mD o8 ⊢
  refine mR (K:=K) (b1:=false) (b2:=false) (l1:=a0) (l2:=ln) (xs:=ak.map V.str) (ys:=ns.map V.int) (fun i σ H4=>(∃v3 v4,σ=[some (.ref p),some (.ref ln),some (.ref d),v3,v4])/\aa H H4/\H4 d=some (.dK (tab zs (ba ((ak.zip ns).take i))))) ⟨⟨_,_,rfl⟩,mD,o8⟩ ?_ ?_ ?_
  ·rintro i σ H4 ⟨_,s4,_⟩
   exact⟨SqL.of (s4 _ _ h0),SqL.of (s4 _ _ hn)⟩
  ·rintro i x y σ H4 p5 hx hy ⟨⟨v3,v4,rfl⟩,s4,d4⟩ hp5
   rw[qD]at hx hy
   obtain⟨x,hx',rfl⟩:=qP.mp hx
   obtain⟨y,hy',rfl⟩:=qP.mp hy
   have xz:x∈zs:=(vr.mem x).mpr (.inl (qy hx'))
   have hzip:(ak.zip ns)[i]?=some (x,y):=by rw[List.getElem?_zip_eq_some];exact⟨hx',hy'⟩
   have n5:d≠p5:=fun z=>by rw[<- z,d4]at hp5;cases hp5
   have s5:=s4.trans (aa.new hp5 (.tup [.str x,.int y]))
   have d5:upd H4 p5 (.tup [.str x,.int y]) d=some (.dK (tab zs (ba ((ak.zip ns).take i)))):=by rw[aj n5];exact d4
   have p5':upd H4 p5 (.tup [.str x,.int y]) p5=some (.tup [.str x,.int y]):=ae
   generalize upd H4 p5 (.tup [.str x,.int y])=H5 at s5 d5 p5' ⊢
   refine⟨p5,_,rfl,.inl (.inl p5'),rfl,_,_,rfl,_,_,rfl,rfl,?_⟩
   refine⟨_,rfl,_,_,rfl,rfl,Qk,_,rfl,_,rfl,d,_,rfl,.inl ⟨_,.inr x,d5,rfl,qC (show _<1000000 by rw[fh];have:=vr.few;omega) (by decide),rfl⟩,?_⟩
   rw[ip vr.nd,show bE zs x=zs from Q0 xz]
   refine⟨⟨_,_,rfl⟩,aa.over s5 nd0,?_⟩
   rw[ae,qq,hzip]
   show some (HO.dK (tab zs (bi _ x (y % _))))=some (HO.dK (tab zs (ba (_++[(x,y)]))))
   rw[CD]
  ·rintro σ H4 ⟨⟨v3,v4,rfl⟩,s4,d4⟩
   rw[q5,q5,List.take_of_length_le (by rw[List.length_zip];exact qd _)]at d4
   exact⟨_,rfl,q _ d zs s4 nd0 d4 vr⟩
theorem C9 (d:a9):d.cards.length<=3:=by
 cases d with
 |set x a sg b=>cases a<;>cases b<;>simp[a9.cards,a9.names,a9.others,Val.names]
 |_=>simp[a9.cards,a9.names,a9.others]
theorem uJ:∀(l:List a9),(l.flatMap a9.cards).length<=3 * l.length
 |[]=>by simp
 |d::r=>by
  have h1:=C9 d
  have h2:=uJ r
  rw[qE,qa,qz]
  omega
theorem iZ (T:Tx P w K mg a):aD P w K mg base CX0 16 a.touched a.fd_touched ["block"] oz:=by
 refine T.F_touched.ok kg (fun vs H Q E h=>?_) (fun cdv A outer s H vs Q E hr h=>?_)
 ·obtain⟨_,_,_,_,rfl,_⟩:=h
  rfl
 obtain⟨H0,b,ds,C,rfl,e0,hb,hdp,hfl,hC,h64,hlen,k⟩:=h
 refine⟨_,(ai (aA (i:=1) kg.nd rfl (Or.inl rfl) (aJ ad))
  (ai (bQ PassesOwn.never rfl (bH (aB (sr T 13) (hr.mono Qk) rfl T.m_all_deeds T.F_all_deeds.kp T.b_all_deeds .nil ap (a8 (pq 0) ad))) (aW (i:=2) kg.nd rfl (Or.inl rfl))
  (ai (aI (bD qf PySem.F.slot_list_extend PySem.F.type_list_extend gP (pq 1) (a8 (aB (m6 T) (hr.mono Qk) rfl T.m_names_in T.F_names_in.kp T.b_names_in .nil ap (a8 (pq 2) ad)) ad)))
  (ao (aI (bD qf PySem.F.slot_list_extend PySem.F.type_list_extend gP (pq 1) (a8 (aB (zG T) (hr.mono Qk) rfl T.m_other_cards_in T.F_other_cards_in.kp T.b_other_cards_in .nil ap (a8 (pq 2) ad)) ad))))))
  (ao (aH (aV (fV rfl) rfl T.z_sorted PyProof.Rows.Boot.«sorted» (a8 (cj (eF rfl) rfl T.z_set PyProof.Rows.Boot.«set» (a8 (pq 1) ad)) ad)))))),?_⟩
 refine⟨qr _,fun c hc=>?_⟩
 have c0:=aa.none e0 hc
 refine⟨_,rfl,H0,b,ds,rfl,aa.over e0 c0,hb,Qo,hfl,fun H2 l us s2 nl hl hus=>⟨l,rfl,⟨_,SqL.of hl⟩,?_⟩⟩
 have lc:l≠c:=fun z=>by rw[z,ae]at nl;cases nl
 have few:∀i,(((ag ds).take i).flatMap a9.cards).length<=3000:=fun i=>by
  have:=uJ ((ag ds).take i)
  rw[qJ]at this
  omega
 refine cC (K:=K) (a:=l) (xs:=us) (fun i σ H3=>∃v,σ=[some (.ref b),some (.ref c),v]/\aa H H3/\H3 c=some (.lst ((((ag ds).take i).flatMap a9.cards).map V.str))/\H3 l=some (.lst us)) ⟨_,rfl,(aa.new hc _).trans s2,s2 _ _ ae,hl⟩ ?_ ?_ ?_
 ·rintro i σ H3 _ ⟨v,_,_,_,h⟩
  exact SqL.of h
 ·rintro i x σ H3 hx ⟨v,rfl,s3,hc3,hl3⟩
  obtain⟨d,hd,hrd⟩:=hus.at i x hx
  have dm:d∈ag ds:=qy hd
  have f1:=few (i+1)
  rw[qq,hd]at f1
  have f1':(((ag ds).take i).flatMap a9.cards).length+(d.names.length+d.others.length)<=3000:=by
   simpa[qU,a9.cards]using f1
  refine⟨_,rfl,.inl ⟨rfl,_,SqL.of hc3⟩,_,rfl,H0,x,d,rfl,e0.trans s3,hrd,fun H4 l4 s4 n4 h4=>?_⟩
  refine⟨c,l4,_,_,rfl,rfl,s4 _ _ hc3,h4,aM (m:=3000) (by rw[q5,q5];omega),?_⟩
  have s5:aa H (upd H4 c (.lst ((((ag ds).take i).flatMap a9.cards).map V.str++d.names.map V.str))):=aa.over (s3.trans s4) hc
  refine⟨_,rfl,.inl ⟨rfl,_,SqL.of ae⟩,_,rfl,H0,x,d,rfl,e0.trans s5,hrd,fun z hz=>hlen _ (hC _ (List.mem_flatMap.mpr ⟨d,dm,qH _ hz⟩)),fun H6 l6 s6 n6 h6=>?_⟩
  refine⟨c,l6,_,_,rfl,rfl,s6 _ _ ae,h6,aM (m:=3000) (by rw[qa,q5,q5,q5];omega),?_⟩
  refine⟨_,rfl,aa.over (s5.trans s6) hc,?_,?_⟩
  ·rw[ae,qq,hd]
   simp[qU,a9.cards]
  ·rw[aj lc]
   refine s6 _ _ ?_
   rw[aj lc]
   exact s4 _ _ hl3
 ·rintro σ H3 ⟨v,rfl,s3,hc3,hl3⟩
  rw[hus.len,qG]at hc3
  have f1:=few (ag ds).length
  rw[qG]at f1
  refine⟨_,rfl,c,(ag ds).flatMap a9.cards,rfl,SqL.of hc3,Qo,fun p hp=>?_⟩
  refine⟨p,(ag ds).flatMap a9.cards,C,rfl,ae,hC,h64,fun r zs hr' nd hm so=>?_⟩
  have p0:=aa.none s3 hp
  have r0:H r=none:=by
   refine aa.none s3 ?_
   cases q:H3 r with
   |none=>rfl
   |some o=>
    have:r≠p:=bJ q hp
    rw[aj this,q]at hr'
    cases hr'
  exact k _ r zs (aa.over (aa.over s3 p0) r0) r0 ae nd hm so
theorem sq (T:Tx P w K mg a):aD P w K mg base CX0 17 a.cards_of a.fd_cards_of ["program"] oR:=by
 refine T.F_cards_of.ok iI (fun vs H Q E h=>?_) (fun cdv A outer s H vs Q E hr h=>?_)
 ·obtain⟨_,_,_,_,_,_,_,_,_,rfl,_⟩:=h
  rfl
 obtain⟨p,la,ls,lb,asks,ss,ds,us,C,rfl,rp,hdp,hfl,ha,hs,hsl,hC,h64,hlen,k⟩:=h
 refine⟨_,(ai (aA (i:=1) iI.nd rfl (Or.inl rfl) (ax bZ (ax bZ (aq ar (pq 0) af (fun _ _=>rfl)) (aB (iZ T) (hr.mono Qk) rfl T.m_touched T.F_touched.kp T.b_touched .nil ap (a8 (aq ar (pq 0) af (fun _ _=>rfl)) ad))) (aJ (a8 (dw rfl T.c_OUTLET T.r_OUTLET) ad))))
  (ai (bQ PassesOwn.never rfl (bH (aq ar (pq 0) af (fun _ _=>rfl))) (eK rfl (cf (aW (i:=2) iI.nd rfl (Or.inl rfl)) (cf (aW (i:=3) iI.nd rfl (Or.inl rfl)) eJ)))
  (ao (aI (bD qf PySem.F.slot_list_extend PySem.F.type_list_extend gP (pq 1) (a8 (aJ (a8 (aB (m5 T) (hr.mono Qk) rfl T.m_put_card T.F_put_card.kp T.b_put_card .nil ap (a8 (pq 2) ad)) (a8 (aB (m8 T) (hr.mono Qk) rfl T.m_get_card T.F_get_card.kp T.b_get_card .nil ap (a8 (pq 2) ad)) ad))) ad)))))
  (ao (aH (aV (fV rfl) rfl T.z_sorted PyProof.Rows.Boot.«sorted» (a8 (cj (eF rfl) rfl T.z_set PyProof.Rows.Boot.«set» (a8 (pq 1) ad)) ad)))))),?_⟩
 have hcC:∀q∈cards ds,q∈C:=fun q hq=>hC q (by unfold bT;simp[hq])
 refine⟨_,rfl,p,_,_,_,rfl,rfl,SqT.of rp.top,rfl,?_⟩
 refine⟨_,rfl,p,_,_,_,rfl,rfl,SqT.of rp.top,rfl,H,lb,ds,C,rfl,aa.refl H,rp.bo,hdp,hfl,hcC,h64,hlen,fun H1 l1 zs1 s1 n1 h1 nd1 hm1 so1=>?_⟩
 have z64:zs1.length<64:=Nat.lt_of_le_of_lt (bS nd1 fun q hq=>hcC q ((hm1 q).mp hq)) h64
 refine⟨la,l1,_,_,rfl,rfl,SqL.of (s1 _ _ rp.as),SqL.of h1,aM (m:=3000) (by rw[q5,q5];omega),fun p1 hp1=>?_⟩
 refine⟨ln1,fun p2 hp2=>?_⟩
 refine⟨p1,p2,_,_,rfl,rfl,SqL.of (aa.new hp2 _ _ _ ae),SqL.of ae,aM (m:=3000) (by rw[qa,q5,q5,List.length_singleton];omega),fun p3 hp3=>?_⟩
 have s2:=s1.trans (aa.new hp1 (.lst (asks.map V.str++zs1.map V.str)))
 have s3:=s2.trans (aa.new hp2 (.lst [V.str (">":Str)]))
 have n3:=aa.none s3 hp3
 have s4:aa H (upd (upd (upd H1 p1 (.lst (asks.map V.str++zs1.map V.str))) p2 (.lst [V.str (">":Str)])) p3 (.lst (asks.map V.str++zs1.map V.str++[V.str (">":Str)]))):=aa.over s3 n3
 refine⟨_,rfl,p,_,_,_,rfl,rfl,SqT.of (s4 _ _ rp.top),rfl,ls,rfl,⟨_,SqL.of (s4 _ _ rp.st)⟩,?_⟩
 have ul:=rp.ro.len
 have fl:∀i,((ss.take i).flatMap fun s=>[s.1++(">":Str),s.1++("<":Str)]).length=2 * (ss.take i).length:=fun i=>by
  induction ss.take i with
  |nil=>rfl
  |cons x r ih=>rw[qE,qa,ih,qz];simp;omega
 refine cC (K:=K) (a:=ls) (xs:=us) (fun i σ H5=>∃v v',σ=[some (.ref p),some (.ref p3),v,v']/\aa H H5/\H5 p3=some (.lst ((asks++zs1++[(">":Str)]++(ss.take i).flatMap fun s=>[s.1++(">":Str),s.1++("<":Str)]).map V.str))) ⟨_,_,rfl,s4,?_⟩ ?_ ?_ ?_
 ·rw[ae]
  simp
 ·rintro i σ H5 _ ⟨v,v',_,s5,h5⟩
  exact SqL.of (s5 _ _ rp.st)
 ·rintro i x σ H5 hx ⟨v,v',rfl,s5,h5⟩
  obtain⟨px,q,n,rfl,hi,hpx⟩:=rp.ro.at i x hx
  have qm:q.length<=1000:=hsl _ (qy hi)
  refine⟨px,_,rfl,SqT.of (s5 _ _ hpx),rfl,_,_,rfl,_,_,rfl,rfl,?_⟩
  refine⟨_,rfl,.inl ⟨rfl,_,SqL.of h5⟩,_,rfl,q,rfl,qm,_,rfl,q,rfl,qm,ln2,fun p4 hp4=>?_⟩
  have lt:(ss.take i).length<=100:=by rw[qJ];omega
  refine⟨p3,p4,_,_,rfl,rfl,aa.new hp4 _ _ _ h5,ae,aM (m:=3000) ?_,?_⟩
  ·rw[q5,qa,fl,qa,qa]
   simp
   omega
  refine⟨_,_,rfl,aa.over (s5.trans (aa.new hp4 _)) n3,?_⟩
  rw[ae,qq,hi]
  simp
 ·rintro σ H5 ⟨v,v',rfl,s5,h5⟩
  rw[ul,qG]at h5
  have f1:=fl ss.length
  rw[qG]at f1
  have mm:∀x,x∈asks++zs1++[(">":Str)]++(ss.flatMap fun s=>[s.1++(">":Str),s.1++("<":Str)])↔x∈bT asks ss ds:=fun x=>by
   unfold bT
   simp only[qg,hm1 x]
  refine⟨_,rfl,p3,_,rfl,SqL.of h5,?_,fun p6 hp6=>?_⟩
  ·rw[qa,f1,qa,qa,List.length_singleton]
   omega
  refine⟨p6,_,C,rfl,ae,fun x hx=>hC x ((mm x).mp hx),h64,fun r zs hr' nd hm so=>?_⟩
  have s6:aa H5 (upd H5 p6 (bf P w p6 (asks++zs1++[(">":Str)]++(ss.flatMap fun s=>[s.1++(">":Str),s.1++("<":Str)])))):=aa.new hp6 _
  exact k _ r zs ((s5.trans s6).trans (aa.new hr' _)) ae nd (fun x=>(hm x).trans (mm x)) so
theorem Ln.keep {H H':Hp}(k:TK H H') {v lv:V}{fs:List Int}(h:Ln H v lv fs):Ln H' v lv fs:=by
 obtain⟨u,f,e,h1,h2⟩:=h
 exact⟨u,f,e,k _ _ h1,k _ _ h2⟩
theorem SdH.keep {H H':Hp}(k:TK H H') {v:V}:∀{s:Sd},SdH H v s->SdH H' v s
 |.at _,⟨u,e,h⟩=>⟨u,e,k _ _ h⟩
 |.is _,⟨u,e,h⟩=>⟨u,e,k _ _ h⟩
theorem PgH.keep {H H':Hp}(k:TK H H') {v:V}:∀{p:PtG},PgH H v p->PgH H' v p
 |.pas ..,⟨u,i,o,r,e,h1,h2,h3,h4⟩=>⟨u,i,o,r,e,k _ _ h1,k _ _ h2,k _ _ h3,k _ _ h4⟩
 |.wrk ..,⟨u,i,x,y,e,h1,h2,h3,h4⟩=>⟨u,i,x,y,e,k _ _ h1,k _ _ h2,h3.keep k,h4.keep k⟩
 |.cho ..,⟨u,i,o,r,e,h1,h2,h3,h4⟩=>⟨u,i,o,r,e,k _ _ h1,k _ _ h2,k _ _ h3,k _ _ h4⟩
 |.mrg ..,⟨u,i,o,r,e,h1,h2,h3,h4⟩=>⟨u,i,o,r,e,k _ _ h1,k _ _ h2,k _ _ h3,k _ _ h4⟩
section
variable {H H' H2 H0:Hp}{c:BAd}{es:List Str}{fe:aS}{N:ah}
theorem Fb.refl:Fb c H H:=fun _ _ _ _ _ h=>h
theorem Fb.trans (h:Fb c H H') (h':Fb c H' H2):Fb c H H2:=fun b o a1 a2 a3 h3=>h' b o a1 a2 a3 (h b o a1 a2 a3 h3)
theorem Fb.of (h:aa H H'):Fb c H H':=fun b o _ _ _ h3=>h b o h3
theorem Fb.more (h:Fb c H H') (h':aa H' H2):Fb c H H2:=h.trans (.of h')
theorem aa.fb (h:aa H H') (h':Fb c H' H2):Fb c H H2:=(Fb.of h).trans h'
theorem BG.tk (B:BG a H c es fe N) (k:Fb c H H'):TK H H':=fun b xs h=>by
 obtain⟨ls,hl,_⟩:=B.ln
 obtain⟨ps,hp,_⟩:=B.pt
 exact k b _ (fun z=>by rw[z,hl]at h;cases h) (fun z=>by rw[z,hp]at h;cases h) (fun z=>by rw[z,B.co]at h;cases h) h
theorem BG.same (B:BG a H c es fe N) (k:aa H H'):BG a H' c es fe N:=by
 obtain⟨ls,hl,rl⟩:=B.ln
 obtain⟨ps,hp,rp⟩:=B.pt
 have tk:TK H H':=fun b xs h=>k _ _ h
 exact⟨k _ _ B.ro,k _ _ B.eo,k _ _ B.co,B.ne,B.de,B.nd,⟨ls,k _ _ hl,rl.imp fun v d h=>h.keep tk⟩,⟨ps,k _ _ hp,rp.imp fun v d h=>h.keep tk⟩⟩
theorem BG.off {b:Addr}{o:HO}(B:BG a H c es fe N) (h:H b=none):b≠c.ll/\b≠c.lp/\b≠c.dc/\b≠c.de/\b≠c.p:=by
 obtain⟨ls,hl,_⟩:=B.ln
 obtain⟨ps,hp,_⟩:=B.pt
 refine⟨fun z=>?_,fun z=>?_,fun z=>?_,fun z=>?_,fun z=>?_⟩
 ·rw[z,hl]at h;cases h
 ·rw[z,hp]at h;cases h
 ·rw[z,B.co]at h;cases h
 ·rw[z,B.eo]at h;cases h
 ·rw[z,B.ro]at h;cases h
theorem BG.ads (B:BG a H c es fe N):c.p≠c.ll/\c.p≠c.lp/\c.p≠c.dc/\c.de≠c.ll/\c.de≠c.lp/\c.dc≠c.ll/\c.dc≠c.lp:=by
 obtain⟨ls,hl,_⟩:=B.ln
 obtain⟨ps,hp,_⟩:=B.pt
 have h1:=B.ro
 have h2:=B.eo
 have h3:=B.co
 refine⟨fun z=>?_,fun z=>?_,fun z=>?_,fun z=>?_,fun z=>?_,fun z=>?_,fun z=>?_⟩
 ·rw[z,hl]at h1;cases h1
 ·rw[z,hp]at h1;cases h1
 ·rw[z,h3]at h1;cases h1
 ·rw[z,hl]at h2;cases h2
 ·rw[z,hp]at h2;cases h2
 ·rw[z,hl]at h3;cases h3
 ·rw[z,hp]at h3;cases h3
theorem Lt.next (L:Lt c H0 H) (k:Fb c H H'):Lt c H0 H':=⟨fun b o h=>k b o (fun z=>by rw[z,L.n1]at h;cases h) (fun z=>by rw[z,L.n2]at h;cases h) (fun z=>by rw[z,L.n3]at h;cases h) (L.e0 _ _ h),L.n1,L.n2,L.n3⟩
theorem Lt.grow {b:Addr}{o:HO}(B:BG a H c es fe N) (L:Lt c H0 H) (hb:H0 b=none) (h:H b=some o) (n1:b≠c.ll) (n2:b≠c.lp) (n3:b≠c.dc):Lt c (upd H0 b o) H:=by
 refine⟨fun d u hu=>?_,?_,?_,?_⟩
 ·by_cases e:d=b
  ·subst e
   rw[ae]at hu
   cases hu
   exact h
  ·rw[aj e]at hu
   exact L.e0 _ _ hu
 ·rw[aj n1.symm];exact L.n1
 ·rw[aj n2.symm];exact L.n2
 ·rw[aj n3.symm];exact L.n3
theorem Sm.le {m k:Nat}(h:Sm N m) (l:k<=m):Sm N k:=⟨by have:=h.l;omega,by have:=h.p;omega,by have:=h.c;omega⟩
theorem Sm.next {N':ah}{m k:Nat}(h:Sm N m) (g:Gr N N' k) (l:k<=m):Sm N' (m-k):=⟨by have:=h.l;have:=g.l2;omega,by have:=h.p;have:=g.p2;omega,by have:=h.c;have:=g.c2;omega⟩
end
theorem dn (n k:Nat):(wid n k).length=k:=by unfold wid;rw[q5,List.length_range]
theorem vN (n k:Nat):wid n (k+1)=wid n k++[((n+k:Nat):Int)]:=by unfold wid;rw[List.range_succ,qO];rfl
theorem jb {n m:Nat}(h:n<=m) (hm:m<=200000:=by decide):n<=sizeLine:=aM (m:=200000) Qo
theorem mw {n:Nat}(h:n<=200000):n<sizeLine:=Nat.lt_of_le_of_lt h (by rw[sizeLine_eq];decide)
theorem eN (T:Tx P w K mg a):aD P w K mg base CX0 1 a.Bench_add_line a.fd_Bench_add_line ["self","length","first"] (pE a):=by
 refine T.F_Bench_add_line.ok xQ (fun vs H Q E h=>?_) (fun cdv A outer s H vs Q E hr h=>?_)
 ·obtain⟨_,_,_,_,_,_,_,rfl,_⟩:=h
  rfl
 obtain⟨c,es,fe,N,x,f,on,rfl,B,hf,sm,q⟩:=h
 refine⟨_,(ai (aI (bD qf qu qv ce (cK (pq 0) rfl) (a8 (aL (a8 (pq 1) (a8 (pq 2) ad))) ad)))
  (ao (aH (ax lD (aV bO rfl T.z_len PySem.boot_len (a8 (cK (pq 0) rfl) ad)) af)))),?_⟩
 obtain⟨us,hl,rl⟩:=B.ln
 obtain⟨ps,hp,rp⟩:=B.pt
 obtain⟨a1,a2,a3,a4,a5,a6,a7⟩:=B.ads
 have le:=rl.len
 have sl:=sm.l
 refine⟨_,rfl,c.p,_,_,_,_,rfl,B.ro,T.cl_Bench,T.nf_Bench_lines,ni,.inl ⟨rfl,_,SqL.of hl⟩,_,rfl,_,rfl,ln2,fun t ht=>?_⟩
 have e1:=aa.new ht (.tup [x,.ref f])
 refine⟨c.ll,_,_,rfl,rfl,e1 _ _ hl,jb (m:=200000) Qo,?_⟩
 have B1:=B.same e1
 have t1:upd H t (.tup [x,.ref f]) t=_:=ae
 have f1:=e1 _ _ hf
 obtain⟨us1,hl1,rl1⟩:=B1.ln
 obtain⟨ps1,hp1,rp1⟩:=B1.pt
 have hl':=e1 _ _ hl
 generalize upd H t (.tup [x,.ref f])=H1 at e1 B1 t1 f1 hl1 rl1 hp1 rp1 hl' ⊢
 rw[hl']at hl1
 cases hl1
 have k2:Fb c H1 (upd H1 c.ll (.lst (us++[.ref t]))):=fun b o h1 _ _ h=>by rw[aj h1];exact h
 have l2:upd H1 c.ll (.lst (us++[.ref t])) c.ll=some (.lst (us++[.ref t])):=ae
 have tk:=B1.tk k2
 have k0:∀b o,b≠c.ll->H1 b=some o->upd H1 c.ll (.lst (us++[.ref t])) b=some o:=fun b o h1 h=>by rw[aj h1];exact h
 generalize upd H1 c.ll (.lst (us++[.ref t]))=H2 at k2 l2 tk k0 ⊢
 have B2:BG a H2 c es fe (N.line ⟨x,on⟩):=⟨k0 _ _ a1 B1.ro,k0 _ _ a4 B1.eo,k0 _ _ a6 B1.co,B.ne,B.de,B.nd,⟨_,l2,R2s.app (.cons (y:=(⟨x,on⟩:LnD)) ⟨t,f,rfl,tk _ _ t1,tk _ _ f1⟩ .nil) (rl1.imp fun v d h=>h.keep tk)⟩,⟨ps1,k0 _ _ B.ne.symm hp1,rp1.imp fun v d h=>h.keep tk⟩⟩
 refine⟨_,rfl,c.p,_,_,_,_,rfl,B2.ro,T.cl_Bench,T.nf_Bench_lines,ni,c.ll,_,rfl,.inl (SqL.of l2),_,_,rfl,rfl,?_⟩
 rw[show(((us++[V.ref t]).length:Nat):Int)-1=(N.n:Int)by rw[qa,le];show(((N.ls.length+1:Nat):Int))-1=(N.ls.length:Int);omega]
 exact q H2 _ rfl (aa.fb e1 k2) B2
theorem cZ (T:Tx P w K mg a):aD P w K mg base CX0 1 a.Bench_add_part a.fd_Bench_add_part ["self","part"] (pD a):=by
 refine T.F_Bench_add_part.ok xP (fun vs H Q E h=>?_) (fun cdv A outer s H vs Q E hr h=>?_)
 ·obtain⟨_,_,_,_,_,_,rfl,_⟩:=h
  rfl
 obtain⟨c,es,fe,N,v,p,rfl,B,hv,sm,q⟩:=h
 refine⟨_,(ao (aI (bD qf qu qv ce (cK (pq 0) rfl) (a8 (pq 1) ad)))),?_⟩
 obtain⟨us,hl,rl⟩:=B.ln
 obtain⟨ps,hp,rp⟩:=B.pt
 obtain⟨a1,a2,a3,a4,a5,a6,a7⟩:=B.ads
 have le:=rp.len
 have sl:=sm.p
 refine⟨_,rfl,c.p,_,_,_,_,rfl,B.ro,T.cl_Bench,T.nf_Bench_parts,uU,.inl ⟨rfl,_,SqL.of hp⟩,_,rfl,c.lp,_,_,rfl,rfl,hp,jb (m:=200000) Qo,?_⟩
 have k2:Fb c H (upd H c.lp (.lst (ps++[v]))):=fun b o _ h1 _ h=>by rw[aj h1];exact h
 have tk:=B.tk k2
 have k0:∀b o,b≠c.lp->H b=some o->upd H c.lp (.lst (ps++[v])) b=some o:=fun b o h1 h=>by rw[aj h1];exact h
 exact q _ k2 ⟨k0 _ _ a2 B.ro,k0 _ _ a5 B.eo,k0 _ _ a7 B.co,B.ne,B.de,B.nd,⟨us,k0 _ _ B.ne hl,rl.imp fun v d h=>h.keep tk⟩,⟨_,ae,R2s.app (.cons (hv.keep tk) .nil) (rp.imp fun v d h=>h.keep tk)⟩⟩
theorem eh (T:Tx P w K mg a):aD P w K mg base CX0 1 a.Bench_wires_of a.fd_Bench_wires_of ["self","cards"] (pA a):=by
 refine T.F_Bench_wires_of.ok xM (fun vs H Q E h=>?_) (fun cdv A outer s H vs Q E hr h=>?_)
 ·obtain⟨_,_,_,_,_,_,rfl,_⟩:=h
  rfl
 obtain⟨c,es,fe,N,lc,zs,rfl,B,hc,c1,sub,q⟩:=h
 refine⟨_,(ao (aH (cj mZ rfl T.z_tuple PyProof.Rows.Boot.«tuple» (a8 (cL (k:=1) (Nc:=["card","self"]) (js:=[0]) (show aX (aC iS) ["self","cards"] _ 1 ["card","self"] [0]from aX.mk rfl (by decide +kernel) (by decide +kernel) (by decide +kernel) rfl (by decide +kernel)) rfl (bH (pq 1)) (fun _ _ _ _ _=>(aW (i:=0) (show List.Nodup (["card","self"]:List Str)from by decide +kernel) rfl (Or.inl rfl))) (fun _ _ _ _ _=>cT) (fun _ _ _ _ _=>(aq Ba (yR (K:=K) rfl (pq 1) rfl) (pq 0) (fun _ _=>rfl)))) ad)))),?_⟩
 refine⟨_,rfl,lc,rfl,⟨_,SqL.of hc⟩,?_⟩
 refine eT (K:=K) (a:=lc) (xs:=zs.map V.str) (fun i ys σ H2=>(∃v,σ=[v,some (.ref c.p)])/\H2=H/\ys=((zs.take i).map N.fc).map V.int) ⟨⟨_,rfl⟩,rfl,rfl⟩ ?_ (aM (m:=2000) (by rw[q5];omega)) ?_ ?_ ?_
 ·rintro i ys σ H2 _ ⟨_,_,rfl⟩
  rw[q5,q5,qJ]
  omega
 ·rintro i ys σ H2 ⟨_,rfl,_⟩
  exact SqL.of hc
 ·rintro i x ys σ H2 hx ⟨⟨v,rfl⟩,rfl,rfl⟩
  rw[qD]at hx
  obtain⟨z,hz,rfl⟩:=qP.mp hx
  refine⟨_,rfl,c.p,_,_,_,_,rfl,B.ro,T.cl_Bench,T.nf_Bench_coming,nj,_,rfl,c.dc,_,.inr z,_,rfl,B.co,rfl,gi (sub z (qy hz)),⟨_,rfl⟩,rfl,?_⟩
  rw[qq,hz,qO,qO]
  rfl
 rintro ys σ H2 ⟨_,rfl,rfl⟩ l hl
 rw[q5,qG]
 have e1:=aa.new hl (.lst ((zs.map N.fc).map V.int))
 refine⟨l,_,rfl,.inl ⟨SqL.of ae,fun t ht=>?_⟩⟩
 have e2:=aa.new ht (.tup ((zs.map N.fc).map V.int))
 exact q _ t (e1.trans e2) (bh ht) ae
theorem ei (T:Tx P w K mg a):aD P w K mg base CX0 1 a.Bench_lead a.fd_Bench_lead ["self","cards","wires"] (pB a):=by
 refine T.F_Bench_lead.ok ko (fun vs H Q E h=>?_) (fun cdv A outer s H vs Q E hr h=>?_)
 ·obtain⟨_,_,_,_,_,_,_,_,rfl,_⟩:=h
  rfl
 obtain⟨c,es,fe,N,lc,t,zs,ws,rfl,B,hc,ht,len,sm,q⟩:=h
 refine⟨_,(ao (bQ PassesOwn.never rfl (lU rfl T.z_zip (a8 (pq 1) (a8 (pq 2) ad))) (eK rfl (cf (aW (i:=3) ko.nd rfl (Or.inl rfl)) (cf (aW (i:=4) ko.nd rfl (Or.inl rfl)) eJ)))
  (ao (fG (hr.one) (cK (pq 0) rfl) (pq 3) (pq 4) rfl)))),?_⟩
 have n1:lc≠c.dc:=fun z=>by rw[z,B.co]at hc;cases hc
 have n2:t≠c.dc:=fun z=>by rw[z,B.co]at ht;cases ht
 obtain⟨a1,a2,a3,a4,a5,a6,a7⟩:=B.ads
 have sc:=sm.c
 refine⟨_,rfl,_,rfl,false,true,lc,t,zs.map V.str,ws.map V.int,rfl,SqL.of hc,SqT.of ht,?_⟩
 refine mR (K:=K) (b1:=false) (b2:=true) (l1:=lc) (l2:=t) (xs:=zs.map V.str) (ys:=ws.map V.int) (fun i σ H2=>(∃v3 v4,σ=[some (.ref c.p),some (.ref lc),some (.ref t),v3,v4])/\(∀b o,b≠c.dc->H b=some o->H2 b=some o)/\H2 c.dc=some (.dK (tab ((zs.take i).foldl bE N.cs) (((zs.take i).zip ws).foldl (fun f z=>bi f z.1 z.2) N.fc)))) ⟨⟨_,_,rfl⟩,fun _ _ _ h=>h,B.co⟩ ?_ ?_ ?_
 ·rintro i σ H2 ⟨_,k2,_⟩
  exact⟨SqL.of (k2 _ _ n1 hc),SqT.of (k2 _ _ n2 ht)⟩
 ·rintro i x y σ H2 p5 hx hy ⟨⟨v3,v4,rfl⟩,k2,d2⟩ hp5
  rw[qD]at hx hy
  obtain⟨x,hx',rfl⟩:=qP.mp hx
  obtain⟨y,hy',rfl⟩:=qP.mp hy
  have e5:=aa.new hp5 (.tup [.str x,.int y])
  have p5':upd H2 p5 (.tup [.str x,.int y]) p5=some (.tup [.str x,.int y]):=ae
  have k5:∀b o,b≠c.dc->H b=some o->upd H2 p5 (.tup [.str x,.int y]) b=some o:=fun b o hb h=>e5 _ _ (k2 b o hb h)
  have d5:=e5 _ _ d2
  generalize upd H2 p5 (.tup [.str x,.int y])=H5 at p5' k5 d5 ⊢
  refine⟨p5,_,rfl,.inl (.inl p5'),rfl,_,_,rfl,_,_,rfl,rfl,?_⟩
  obtain⟨ka,_,kc⟩:=g9 (zs.take i) N.cs
  have tl:(zs.take i).length<=zs.length:=by rw[qJ];omega
  refine⟨_,rfl,_,rfl,c.p,_,_,_,_,rfl,k5 _ _ a3 B.ro,T.cl_Bench,T.nf_Bench_coming,nj,_,rfl,c.dc,_,rfl,.inl ⟨_,.inr x,d5,rfl,by rw[fh];exact mw Qo,rfl⟩,?_⟩
  rw[ip (kc B.nd)]
  refine⟨⟨_,_,rfl⟩,fun b o hb h=>by rw[aj hb];exact k5 b o hb h,?_⟩
  rw[ae,nD hx' hy',List.foldl_append,qq,hx',List.foldl_append]
  rfl
 ·rintro σ H2 ⟨_,k2,d2⟩
  rw[q5,q5,<- len,Nat.min_self,qG]at d2
  obtain⟨us,hl,rl⟩:=B.ln
  obtain⟨ps,hp,rp⟩:=B.pt
  have k3:Fb c H H2:=fun b o _ _ h=>k2 b o h
  have tk:=B.tk k3
  exact q H2 k3 ⟨k2 _ _ a3 B.ro,k2 _ _ B.de B.eo,d2,B.ne,B.de,(g9 zs N.cs).2.2 B.nd,⟨us,k2 _ _ a6.symm hl,rl.imp fun v d h=>h.keep tk⟩,⟨ps,k2 _ _ a7.symm hp,rp.imp fun v d h=>h.keep tk⟩⟩
theorem cM (T:Tx P w K mg a):aD P w K mg base CX0 2 a.Bench_add_wires a.fd_Bench_add_wires ["self","count"] (pC a):=by
 refine T.F_Bench_add_wires.ok xO (fun vs H Q E h=>?_) (fun cdv A outer s H vs Q E hr h=>?_)
 ·obtain⟨_,_,_,_,_,rfl,_⟩:=h
  rfl
 obtain⟨c,es,fe,N,k,rfl,B,k1,sm,q⟩:=h
 refine⟨_,(ao (aH (cj mZ rfl T.z_tuple PyProof.Rows.Boot.«tuple» (a8 (cL (k:=1) (Nc:=["wire","self"]) (js:=[0]) (show aX (aC iT) ["self","count"] _ 1 ["wire","self"] [0]from aX.mk rfl (by decide +kernel) (by decide +kernel) (by decide +kernel) rfl (by decide +kernel)) rfl (gJ rfl T.z_range (a8 (pq 1) ad)) (fun _ _ _ _ _=>(aW (i:=0) (show List.Nodup (["wire","self"]:List Str)from by decide +kernel) rfl (Or.inl rfl))) (fun _ _ _ _ _=>cT) (fun _ _ _ _ _=>(aQ (pq 1) T.cl_Bench T.mt_Bench_add_line (eN T) (hr.mono Qk) T.b_Bench_add_line .nil ap (a8 af (a8 (aL ad) ad))))) ad)))),?_⟩
 refine⟨_,rfl,(k:Int),rfl,Qo,Qo,?_⟩
 refine jz (fun i ys σ H2=>(∃v,σ=[v,some (.ref c.p)])/\Fb c H H2/\BG a H2 c es fe (N.wires i)/\ys=(wid N.n i).map V.int) ⟨⟨_,rfl⟩,Fb.refl,by rw[show N.wires 0=N from by unfold ah.wires;simp];exact B,rfl⟩ ?_ (aM (m:=2000) Qo) ?_ ?_
 ·rintro i ys σ H2 _ ⟨_,_,_,rfl⟩
  rw[q5,dn]
  exact qd _
 ·rintro i ys σ H2 hi ⟨⟨v,rfl⟩,k2,B2,rfl⟩
  refine⟨_,rfl,c.p,_,_,rfl,B2.ro,aR Qd,qr _,fun f hf=>?_⟩
  have e3:=aa.new hf (.tup [])
  have f3:upd H2 f (.tup []) f=some (.tup (([]:List Int).map V.int)):=ae
  have hi':i<k:=by simpa using hi
  refine⟨c,es,fe,N.wires i,.int 1,f,[],rfl,B2.same e3,f3,(sm.next aP Qo).le Qo,fun H4 m4 em4 k4 B4=>?_⟩
  subst em4
  have ew:(N.wires i).line ⟨.int 1,[]⟩=N.wires (i+1):=by
   unfold ah.line ah.wires
   rw[List.replicate_succ',<- qM]
   rfl
  rw[ew]at B4
  refine⟨⟨_,rfl⟩,k2.trans (aa.fb e3 k4),B4,?_⟩
  rw[vN,qO]
  show _++[V.int ((N.wires i).ls.length:Int)]=_
  rw[show(N.wires i).ls.length=N.n+i by show(N.ls++List.replicate i dN).length=_;rw[qa,List.length_replicate];rfl]
  rfl
 ·rintro ys σ H2 ⟨_,k2,B2,rfl⟩ l hl'
  have ek:(k:Int).toNat=k:=qX k
  rw[ek]at B2
  rw[ek]
  have e3:=aa.new hl' (.lst ((wid N.n k).map V.int))
  refine⟨l,_,rfl,.inl ⟨SqL.of ae,fun t ht=>?_⟩⟩
  have e4:=aa.new ht (.tup ((wid N.n k).map V.int))
  have s4:=e3.trans e4
  refine q _ t (k2.more s4) (B2.same s4) ?_ ae
  have t2:=bh ht
  cases e:H t with
  |none=>rfl
  |some o=>
   obtain⟨m1,m2,m3,_,_⟩:=B2.off (o:=o) t2
   rw[k2 t o m1 m2 m3 e]at t2
   cases t2
theorem BG.put {H:Hp}{c:BAd}{es:List Str}{fe:aS}{N:ah}{z:Str}{v:Int}(B:BG a H c es fe N):BG a (upd H c.dc (.dK (bd (tab N.cs N.fc) (.inr z) (.int v)))) c es fe { N with cs:=bE N.cs z,fc:=bi N.fc z v }/\Fb c H (upd H c.dc (.dK (bd (tab N.cs N.fc) (.inr z) (.int v)))):=by
 obtain⟨a1,a2,a3,a4,a5,a6,a7⟩:=B.ads
 obtain⟨us,hl,rl⟩:=B.ln
 obtain⟨ps,hp,rp⟩:=B.pt
 have k0:∀b o,b≠c.dc->H b=some o->upd H c.dc (.dK (bd (tab N.cs N.fc) (.inr z) (.int v))) b=some o:=fun b o hb h=>by rw[aj hb];exact h
 have k3:Fb c H (upd H c.dc (.dK (bd (tab N.cs N.fc) (.inr z) (.int v)))):=fun b o _ _ h=>k0 b o h
 have tk:=B.tk k3
 exact⟨⟨k0 _ _ a3 B.ro,k0 _ _ B.de B.eo,by rw[ae,ip B.nd],B.ne,B.de,sH B.nd,⟨us,k0 _ _ a6.symm hl,rl.imp fun v d h=>h.keep tk⟩,⟨ps,k0 _ _ a7.symm hp,rp.imp fun v d h=>h.keep tk⟩⟩,k3⟩
theorem sk (T:Tx P w K mg a):aD P w K mg base CX0 3 a.lay_fork a.fd_lay_fork ["bench","name"] (oP a):=by
 refine T.F_lay_fork.ok pR (fun vs H Q E h=>?_) (fun cdv A outer s H vs Q E hr h=>?_)
 ·obtain⟨_,_,_,_,_,rfl,_⟩:=h
  rfl
 obtain⟨c,es,fe,N,x,rfl,B,xc,sm,q⟩:=h
 refine⟨_,(ai (aA (i:=2) pR.nd rfl (Or.inl rfl) (aQ (pq 0) T.cl_Bench T.mt_Bench_add_wires (cM T) (hr.mono Qk) T.b_Bench_add_wires .nil ap (a8 af ad)))
  (ai (aI (aQ (pq 0) T.cl_Bench T.mt_Bench_add_part (cZ T) (hr.mono Qk) T.b_Bench_add_part .nil ap (a8 (aL (a8 aF (a8 (aQ (pq 0) T.cl_Bench T.mt_Bench_wires_of (eh T) (hr.mono Qk) T.b_Bench_wires_of .nil ap (a8 (aJ (a8 (pq 1) ad)) ad)) (a8 (pq 2) (a8 (aL (a8 af (a8 af ad))) ad))))) ad)))
  (ai (aI (aQ (pq 0) T.cl_Bench T.mt_Bench_lead (ei T) (hr.mono Qk) T.b_Bench_lead .nil ap (a8 (aJ (a8 (pq 1) ad)) (a8 (iY wZ (pq 2) (gI af) lT) ad))))
  (ao (aH (aq ar (pq 2) af (fun _ _=>rfl))))))),?_⟩
 refine⟨_,rfl,c.p,_,_,rfl,B.ro,aR Qd,c,es,fe,N,2,rfl,B,Qk,sm.le Qk,fun H1 t1 k1 B1 nt1 ht1=>?_⟩
 refine⟨_,rfl,c.p,_,_,rfl,B1.ro,aR Qd,_,rfl,c.p,_,_,rfl,B1.ro,aR Qd,_,rfl,ln1,fun l2 hl2=>?_⟩
 have e2:=aa.new hl2 (.lst [.str x])
 refine⟨c,es,fe,N.wires 2,l2,[x],rfl,B1.same e2,ae,by show 1<=1000;decide,fun y hy=>by rw[qS.mp hy];exact xc,fun H3 t3 s3 n3 ht3=>⟨_,rfl,ln2,fun r4 hr4=>⟨ln4,fun u5 hu5=>?_⟩⟩⟩
 have e4:=aa.new hr4 (.tup [.int 0,.int 0])
 have e5:=aa.new hu5 (.tup [.str "pass",.ref t3,.ref t1,.ref r4])
 have s15:=e2.trans (s3.trans (e4.trans e5))
 have e45:=e4.trans e5
 have r5:=e5 _ _ (ae (H:=H3) (a:=r4) (o:=.tup [.int 0,.int 0]))
 have u5':upd (upd H3 r4 (.tup [.int 0,.int 0])) u5 (.tup [.str "pass",.ref t3,.ref t1,.ref r4]) u5=_:=ae
 generalize upd (upd H3 r4 (.tup [.int 0,.int 0])) u5 (.tup [.str "pass",.ref t3,.ref t1,.ref r4])=H5 at s15 e45 r5 u5' ⊢
 clear e4 e5
 refine⟨c,es,fe,N.wires 2,.ref u5,.pas [N.fc x] (wid N.n 2) [0,0],rfl,B1.same s15,⟨u5,t3,t1,r4,rfl,u5',e45 _ _ ht3,s15 _ _ ht1,r5⟩,(sm.next aP Qk).le Qk,fun H6 k6 B6=>?_⟩
 have tk6:=(B1.same s15).tk k6
 refine⟨_,rfl,c.p,_,_,rfl,B6.ro,aR Qd,_,rfl,ln1,fun l7 hl7=>?_⟩
 have e7:=aa.new hl7 (.lst [.str x])
 have l7':upd H6 l7 (.lst [.str x]) l7=_:=ae
 have t17:upd H6 l7 (.lst [.str x]) t1=some (.tup [.int ((N.n+0:Nat):Int),.int ((N.n+1:Nat):Int)]):=e7 _ _ (tk6 _ _ (s15 _ _ ht1))
 generalize upd H6 l7 (.lst [.str x])=H7 at e7 l7' t17 ⊢
 refine⟨_,rfl,1,rfl,t1,_,rfl,SqT.of t17,by show ¬ (HT.sIx 2 0 (some 1)=0/\HT.sIx 2 2 none=2);decide,fun t8 ht8=>?_⟩
 have e8:=aa.new ht8 (.tup [.int ((N.n+1:Nat):Int)])
 refine⟨c,es,fe,_,l7,t8,[x],[((N.n+1:Nat):Int)],rfl,(B6.same e7).same e8,e8 _ _ l7',ae,rfl,(sm.next (aP.trans bC) Qk).le (by show 1<=_;decide),fun H9 k9 B9=>?_⟩
 have f69:Fb c H6 H9:=aa.fb (e7.trans e8) k9
 have t19:=B6.tk f69 _ _ (tk6 _ _ (s15 _ _ ht1))
 have t19':H9 t1=some (.tup [.int ((N.n+0:Nat):Int),.int ((N.n+1:Nat):Int)]):=t19
 refine⟨_,rfl,t1,_,0,_,rfl,rfl,SqT.of t19',rfl,?_⟩
 exact q H9 (k1.trans ((aa.fb s15 k6).trans f69)) B9
theorem si (T:Tx P w K mg a):aD P w K mg base CX0 1 a.side_of a.fd_side_of ["value","sources"] oA:=by
 refine T.F_side_of.ok xC (fun vs H Q E h=>?_) (fun cdv A outer s H vs Q E hr h=>?_)
 ·obtain⟨_,_,_,rfl,_⟩:=h
  rfl
 obtain⟨l,zs,va,rfl,hl,sub,z1,q⟩:=h
 refine⟨_,(ai (aU (cJ (aV dU rfl T.z_isinstance PyProof.Rows.Boot.«isinstance» (a8 (pq 0) (a8 (dA (v:=.ty "str") rfl T.z_str PyProof.Rows.Boot.«str» rfl) ad)))) (ao (aH (aL (a8 aF (a8 (bD qf PySem.F.slot_list_index PySem.F.type_list_index mh (pq 1) (a8 (pq 0) ad)) ad))))) bA)
  (ao (aH (aL (a8 aF (a8 (pq 0) ad)))))),?_⟩
 cases va with
 |num n=>
  refine⟨_,rfl,_,_,_,false,rfl,.int n,rfl,_,rfl,aZ rfl ⟨_,rfl,ln2,fun u hu=>?_⟩⟩
  exact q _ _ (aa.new hu _) ⟨u,rfl,ae⟩
 |nm x=>
  refine⟨_,rfl,_,_,_,true,rfl,.str x,rfl,_,rfl,bR rfl ⟨_,rfl,.inl ⟨rfl,_,SqL.of hl⟩,_,rfl,l,zs,x,rfl,rfl,hl,sub x (by simp[Val.names]),Qo,ln2,fun u hu=>?_⟩⟩
  exact q _ _ (aa.new hu _) ⟨u,rfl,ae⟩
theorem zF (T:Tx P w K mg a):aD P w K mg base CX0 2 a.read_by_set a.fd_read_by_set ["deed"] oB:=by
 refine T.F_read_by_set.ok xD (fun vs H Q E h=>?_) (fun cdv A outer s H vs Q E hr h=>?_)
 ·obtain⟨_,_,_,_,_,rfl,_⟩:=h
  rfl
 obtain⟨p,x,sg,va,vb,rfl,h,k⟩:=h
 refine⟨_,(ao (aH (aV (fV rfl) rfl T.z_sorted PyProof.Rows.Boot.«sorted» (a8 (ax yX (cj (eF rfl) rfl T.z_set PyProof.Rows.Boot.«set» (a8 (aB (m6 T) (hr.mono Qk) rfl T.m_names_in T.F_names_in.kp T.b_names_in .nil ap (a8 (pq 0) ad)) ad)) (cj (eF rfl) rfl T.z_set PyProof.Rows.Boot.«set» (a8 (aJ (a8 (aq ar (pq 0) af (fun _ _=>rfl)) ad)) ad))) ad)))),?_⟩
 refine⟨_,rfl,H,_,_,rfl,aa.refl _,.set h,fun H1 l1 s1 n1 h1=>?_⟩
 have nf:(a9.set x va sg vb).names.length<4:=by cases va<;>cases vb<;>simp[a9.names,Val.names]
 refine⟨l1,_,rfl,SqL.of h1,Qo,fun p2 hp2=>?_⟩
 have s2:=s1.trans (aa.new hp2 (bf P w p2 (a9.set x va sg vb).names))
 refine⟨_,rfl,_,_,_,_,rfl,rfl,SqT.of (s2 _ _ h),rfl,ln1,fun p3 hp3=>?_⟩
 have s3:=s2.trans (aa.new hp3 (.lst [V.str x]))
 refine⟨p3,[x],rfl,SqL.of ae,by simp,fun p4 hp4=>?_⟩
 have s34:=(aa.new hp3 (.lst [V.str x])).trans (aa.new hp4 (bf P w p4 [x]))
 have s4:=s2.trans s34
 refine⟨p2,p4,_,_,rfl,rfl,s34 _ _ ae,ae,nf,fun p5 hp5=>?_⟩
 have s5:=s4.trans (aa.new hp5 (bf P w p5 ((a9.set x va sg vb).names.filter fun k=>!decide (k∈[x]))))
 refine⟨p5,_,_,rfl,ae,fun q hq=>(List.mem_filter.mp hq).1,Qo,fun p6 zs hp6 nd hm so=>?_⟩
 exact k _ _ zs (s5.trans (aa.new hp6 _)) (aa.none s5 hp6) ae ⟨nd,fun y=>(hm y).trans (by simp[a9.names,or_and_right]),so⟩
theorem hX {H:Hp}{c b:Addr}{xs ys:List V}{Q:VK}(hc:H c=some (.tup xs)) (hb:H b=some (.tup ys)) (ne:xs≠[]) (l:xs.length+ys.length<=1000) (k:∀p H',aa H H'->H' p=some (.tup (xs++ys))->Q (.ref p) H'):ra K (.ref c) (.ref b) H Q:=
 ⟨c,b,xs,ys,rfl,rfl,SqT.of hc,SqT.of hb,ne,aM (m:=1000) l,fun e=>k c H (aa.refl _) (by rw[e,qw];exact hc),fun _ p hp=>k p _ (aa.new hp _) ae⟩
theorem BM (n i:Nat):c9 n (i+1)=c9 n i++[((n+2 * i:Nat):Int)]:=by
 unfold c9
 rw[List.range_succ,qO]
 rfl
theorem tV:∀(rs:List Str) (N:ah),(rs.foldl ah.fork N).n=N.n+2 * rs.length
 |[],N=>rfl
 |r::rs,N=>by
  rw[List.foldl_cons,tV rs (N.fork r),qz]
  show(N.ls++List.replicate 2 dN).length+_=N.ls.length+_
  rw[qa,List.length_replicate]
  omega
theorem zM (T:Tx P w K mg a):aD P w K mg base CX0 4 a.lay_set a.fd_lay_set ["bench","deed"] (oK a):=by
 refine T.F_lay_set.ok fk (fun vs H Q E h=>?_) (fun cdv A outer s H vs Q E hr h=>?_)
 ·obtain⟨_,_,_,_,_,_,_,_,_,rfl,_⟩:=h
  rfl
 obtain⟨c,es,fe,N,t,x,sg,va,vb,rfl,B,ht,sub,sm,q⟩:=h
 refine⟨_,(ai (aA (i:=2) fk.nd rfl (Or.inl rfl) (aq ar (pq 1) af (fun _ _=>rfl)))
  (ai (aA (i:=3) fk.nd rfl (Or.inl rfl) (aB (zF T) (hr.mono Qk) rfl T.m_read_by_set T.F_read_by_set.kp T.b_read_by_set .nil ap (a8 (pq 1) ad)))
  (ai (aA (i:=4) fk.nd rfl (Or.inl rfl) (ax gN (aQ (pq 0) T.cl_Bench T.mt_Bench_wires_of (eh T) (hr.mono Qk) T.b_Bench_wires_of .nil ap (a8 (aJ (a8 (pq 2) ad)) ad)) (cj mZ rfl T.z_tuple PyProof.Rows.Boot.«tuple» (a8 (cL (k:=1) (Nc:=["other","bench"]) (js:=[0]) (show aX (aC iM) ["bench","deed","name","reads","ins","outs","sources"] _ 1 ["other","bench"] [0]from aX.mk rfl (by decide +kernel) (by decide +kernel) (by decide +kernel) rfl (by decide +kernel)) rfl (bH (pq 3)) (fun _ _ _ _ _=>(aW (i:=0) (show List.Nodup (["other","bench"]:List Str)from by decide +kernel) rfl (Or.inl rfl))) (fun _ _ _ _ _=>cT) (fun _ _ _ _ _=>(aB (sk T) (hr.mono Qk) rfl T.m_lay_fork T.F_lay_fork.kp T.b_lay_fork .nil ap (a8 (pq 1) (a8 (pq 0) ad))))) ad))))
  (ai (aA (i:=5) fk.nd rfl (Or.inl rfl) (aQ (pq 0) T.cl_Bench T.mt_Bench_add_wires (cM T) (hr.mono Qk) T.b_Bench_add_wires .nil ap (a8 af ad)))
  (ai (aA (i:=6) fk.nd rfl (Or.inl rfl) (ax bZ (aJ (a8 (pq 2) ad)) (pq 3)))
  (ai (aI (aQ (pq 0) T.cl_Bench T.mt_Bench_add_part (cZ T) (hr.mono Qk) T.b_Bench_add_part .nil ap (a8 (aL (a8 aF (a8 (pq 4) (a8 (aq ar (pq 5) af (fun _ _=>rfl)) (a8 (aq ar (pq 1) af (fun _ _=>rfl)) (a8 (aB (si T) (hr.mono Qk) rfl T.m_side_of T.F_side_of.kp T.b_side_of .nil ap (a8 (aq ar (pq 1) af (fun _ _=>rfl)) (a8 (pq 6) ad))) (a8 (aB (si T) (hr.mono Qk) rfl T.m_side_of T.F_side_of.kp T.b_side_of .nil ap (a8 (aq ar (pq 1) af (fun _ _=>rfl)) (a8 (pq 6) ad))) ad))))))) ad)))
  (ao (aI (aQ (pq 0) T.cl_Bench T.mt_Bench_lead (ei T) (hr.mono Qk) T.b_Bench_lead .nil ap (a8 (aJ (a8 (pq 2) ad)) (a8 (pq 5) ad))))))))))),?_⟩
 have xc:x∈N.cs:=sub x (by simp[a9.names])
 refine⟨_,rfl,t,_,1,_,rfl,rfl,SqT.of ht,rfl,?_⟩
 refine⟨_,rfl,t,x,sg,va,vb,rfl,ht,fun H1 l1 rs s1 n1 h1 ro=>?_⟩
 have rfew:=ro.few
 have rin:∀y∈rs,y∈N.cs:=fun y hy=>sub y (by
  have:=((ro.mem y).mp hy).1
  simp only[a9.names,qt,qg]
  exact .inr this)
 have B1:=B.same s1
 refine⟨_,rfl,c.p,_,_,rfl,B1.ro,aR Qd,_,rfl,ln1,fun l2 hl2=>?_⟩
 have e2:=aa.new hl2 (.lst [.str x])
 refine⟨c,es,fe,N,l2,[x],rfl,B1.same e2,ae,by show 1<=1000;decide,fun y hy=>by rw[qS.mp hy];exact xc,fun H3 t3 s3 n3 ht3=>?_⟩
 have s13:=e2.trans s3
 have B3:=B1.same s13
 have h13:=s13 _ _ h1
 obtain⟨m1,m2,m3,_,_⟩:=B.off (o:=.lst []) n1
 refine⟨_,rfl,l1,rfl,⟨_,SqL.of h13⟩,?_⟩
 refine eT (K:=K) (a:=l1) (xs:=rs.map V.str) (fun i ys σ H4=>(∃v,σ=[v,some (.ref c.p)])/\Fb c H3 H4/\BG a H4 c es fe ((rs.take i).foldl ah.fork N)/\ys=(c9 N.n i).map V.int) ⟨⟨_,rfl⟩,Fb.refl,B3,rfl⟩ ?_ (aM (m:=2000) (by rw[q5];omega)) ?_ ?_ ?_
 ·rintro i ys σ H4 _ ⟨_,_,_,rfl⟩
  rw[q5,tW]
  exact qd _
 ·rintro i ys σ H4 ⟨_,k4,_⟩
  exact SqL.of (k4 _ _ m1 m2 m3 h13)
 ·rintro i y ys σ H4 hx ⟨⟨v,rfl⟩,k4,B4,rfl⟩
  rw[qD]at hx
  obtain⟨z,hz,rfl⟩:=qP.mp hx
  have i2:i<rs.length:=(qe.mp hz).1
  have tl:(rs.take i).length=i:=by rw[qJ];omega
  have gf:=jt (rs.take i) N
  rw[tl]at gf
  refine⟨_,rfl,_,rfl,c,es,fe,_,z,rfl,B4,gf.sub z (rin z (qy hz)),(sm.next gf Qo).le Qo,fun H5 k5 B5=>?_⟩
  refine⟨⟨_,rfl⟩,k4.trans k5,?_,?_⟩
  ·rw[qq,hz,Option.toList,List.foldl_append]
   exact B5
  ·rw[BM,qO,tV,tl]
   rfl
 rintro ys σ H4 ⟨_,k4,B4,rfl⟩ l5 hl5
 rw[q5,qG]at B4
 rw[q5]
 have e5:=aa.new hl5 (.lst ((c9 N.n rs.length).map V.int))
 refine⟨l5,_,rfl,.inl ⟨SqL.of ae,fun t6 ht6=>?_⟩⟩
 have e6:=aa.new ht6 (.tup ((c9 N.n rs.length).map V.int))
 have t6':upd (upd H4 l5 (.lst ((c9 N.n rs.length).map V.int))) t6 (.tup ((c9 N.n rs.length).map V.int)) t6=_:=ae
 have e46:=e5.trans e6
 generalize upd (upd H4 l5 (.lst ((c9 N.n rs.length).map V.int))) t6 (.tup ((c9 N.n rs.length).map V.int))=H6 at e46 t6' ⊢
 have tk34:=B3.tk k4
 refine hX (xs:=[V.int (N.fc x)]) (e46 _ _ (tk34 _ _ ht3)) t6' (by simp) (by rw[q5,tW];show 1+_<=_;omega) fun t7 H7 s7 h7=>?_
 have gM:=jt rs N
 generalize hM:rs.foldl ah.fork N=M at *
 have B7:=B4.same (e46.trans s7)
 refine⟨_,rfl,c.p,_,_,rfl,B7.ro,aR Qd,c,es,fe,M,1,rfl,B7,Qk,(sm.next gM Qo).le Qo,fun H8 t8 k8 B8 nt8 ht8=>?_⟩
 have hl8:H8 l1=_:=k8 _ _ m1 m2 m3 (s7 _ _ (e46 _ _ (k4 _ _ m1 m2 m3 h13)))
 have tk78:=B7.tk k8
 have tk18:TK H H8:=fun b xs h=>tk78 _ _ (s7 _ _ (e46 _ _ (tk34 _ _ (s13 _ _ (s1 _ _ h)))))
 refine⟨_,rfl,ln1,fun l9 hl9=>?_⟩
 have e9:=aa.new hl9 (.lst [.str x])
 refine⟨_,rfl,l9,l1,[.str x],rs.map V.str,rfl,rfl,SqL.of ae,SqL.of (e9 _ _ hl8),aM (m:=1000) (by rw[q5];show 1+_<=_;omega),fun l10 hl10=>?_⟩
 have e10:=aa.new hl10 (.lst ([.str x]++rs.map V.str))
 have e89:=e9.trans e10
 have l10':upd (upd H8 l9 (.lst [.str x])) l10 (.lst ([.str x]++rs.map V.str)) l10=some (.lst ((x::rs).map V.str)):=ae
 generalize upd (upd H8 l9 (.lst [.str x])) l10 (.lst ([.str x]++rs.map V.str))=H10 at e89 l10' ⊢
 have B10:=B8.same e89
 have ht10:H10 t=some _:=e89 _ _ (tk18 _ _ ht)
 have t810:H10 t8=some (.tup [.int ((M.n+0:Nat):Int)]):=e89 _ _ ht8
 have t710:H10 t7=some (.tup ((N.fc x::c9 N.n rs.length).map V.int)):=e89 _ _ (tk78 _ _ h7)
 have srcs:∀v∈[va,vb],∀y∈v.names,y∈x::rs:=by
  intro v hv y hy
  by_cases e:y=x
  ·exact e▸qk
  ·refine qj _ ((ro.mem y).mpr ⟨?_,e⟩)
   rcases qt.mp hv with z|z
   ·exact .inl (z▸hy)
   ·exact .inr (qS.mp z▸hy)
 have rl1:(x::rs).length<=100:=by rw[qz];omega
 refine⟨_,rfl,c.p,_,_,rfl,B10.ro,aR Qd,_,rfl,_,rfl,t8,_,0,_,rfl,rfl,SqT.of t810,rfl,_,rfl,t,_,3,_,rfl,rfl,SqT.of ht10,rfl,?_⟩
 refine⟨_,rfl,t,_,2,_,rfl,rfl,SqT.of ht10,rfl,_,rfl,l10,x::rs,va,rfl,l10',srcs va (by simp),rl1,fun H11 v11 s11 d11=>?_⟩
 refine⟨_,rfl,t,_,4,_,rfl,rfl,SqT.of (s11 _ _ ht10),rfl,_,rfl,l10,x::rs,vb,rfl,s11 _ _ l10',srcs vb (by simp),rl1,fun H12 v12 s12 d12=>?_⟩
 refine⟨ln6,fun t13 ht13=>?_⟩
 have e13:=aa.new ht13 (.tup [.str "work",.ref t7,.int ((M.n+0:Nat):Int),.str sg,v11,v12])
 have t13':upd H12 t13 (.tup [.str "work",.ref t7,.int ((M.n+0:Nat):Int),.str sg,v11,v12]) t13=_:=ae
 have d13:=d11.keep (fun b xs h=>e13 _ _ (s12 _ _ h):TK H11 (upd H12 t13 (.tup [.str "work",.ref t7,.int ((M.n+0:Nat):Int),.str sg,v11,v12])))
 have d13':=d12.keep (fun b xs h=>e13 _ _ h:TK H12 (upd H12 t13 (.tup [.str "work",.ref t7,.int ((M.n+0:Nat):Int),.str sg,v11,v12])))
 have e1013:=(s11.trans s12).trans e13
 generalize upd H12 t13 (.tup [.str "work",.ref t7,.int ((M.n+0:Nat):Int),.str sg,v11,v12])=H13 at e1013 t13' d13 d13' ⊢
 refine⟨c,es,fe,M.wires 1,.ref t13,.wrk (N.fc x::c9 N.n rs.length) M.n sg (gu (x::rs) va) (gu (x::rs) vb),rfl,B10.same e1013,⟨t13,t7,v11,v12,rfl,t13',e1013 _ _ t710,d13,d13'⟩,(sm.next (gM.trans aP) Qo).le Qo,fun H14 k14 B14=>?_⟩
 refine⟨_,rfl,c.p,_,_,rfl,B14.ro,aR Qd,_,rfl,ln1,fun l15 hl15=>?_⟩
 have e15:=aa.new hl15 (.lst [.str x])
 have t815:=e15 _ _ ((B10.same e1013).tk k14 _ _ (e1013 _ _ t810))
 refine⟨_,rfl,c,es,fe,_,l15,t8,[x],[(M.n:Int)],rfl,B14.same e15,ae,t815,rfl,(sm.next ((gM.trans aP).trans bC) Qo).le (by show 1<=_;omega),fun H16 k16 B16=>?_⟩
 subst hM
 refine q H16 rs ro ?_ B16
 exact((Fb.of (s1.trans s13)).trans k4).trans ((Fb.of (e46.trans s7)).trans (k8.trans ((Fb.of (e89.trans e1013)).trans (k14.trans (aa.fb e15 k16)))))
theorem sj (T:Tx P w K mg a):aD P w K mg base CX0 4 a.lay_handing a.fd_lay_handing ["bench","card","name","end"] (oN a):=by
 refine T.F_lay_handing.ok ki (fun vs H Q E h=>?_) (fun cdv A outer s H vs Q E hr h=>?_)
 ·obtain⟨_,_,_,_,_,_,_,rfl,_⟩:=h
  rfl
 obtain⟨c,es,fe,N,d,x,e,rfl,B,dc,xc,ec,sm,q⟩:=h
 refine⟨_,(ai (aA (i:=4) ki.nd rfl (Or.inl rfl) (ax gN (aQ (pq 0) T.cl_Bench T.mt_Bench_wires_of (eh T) (hr.mono Qk) T.b_Bench_wires_of .nil ap (a8 (aJ (a8 (pq 1) ad)) ad)) (aL (a8 (aB (sk T) (hr.mono Qk) rfl T.m_lay_fork T.F_lay_fork.kp T.b_lay_fork .nil ap (a8 (pq 0) (a8 (pq 2) ad))) ad))))
  (ai (aA (i:=5) ki.nd rfl (Or.inl rfl) (aQ (pq 0) T.cl_Bench T.mt_Bench_add_wires (cM T) (hr.mono Qk) T.b_Bench_add_wires .nil ap (a8 af ad)))
  (ai (aI (aQ (pq 0) T.cl_Bench T.mt_Bench_add_part (cZ T) (hr.mono Qk) T.b_Bench_add_part .nil ap (a8 (aL (a8 aF (a8 (pq 4) (a8 (ax gN (pq 5) (aL (a8 (rR hr.one (cK (pq 0) rfl) (pq 3) (fun _ _=>rfl)) ad))) (a8 (aL (a8 af (a8 af ad))) ad))))) ad)))
  (ao (aI (aQ (pq 0) T.cl_Bench T.mt_Bench_lead (ei T) (hr.mono Qk) T.b_Bench_lead .nil ap (a8 (aJ (a8 (pq 1) ad)) (a8 (pq 5) ad)))))))),?_⟩
 refine⟨_,rfl,c.p,_,_,rfl,B.ro,aR Qd,_,rfl,ln1,fun l2 hl2=>?_⟩
 have e2:=aa.new hl2 (.lst [.str d])
 refine⟨c,es,fe,N,l2,[d],rfl,B.same e2,ae,by show 1<=1000;decide,fun y hy=>by rw[qS.mp hy];exact dc,fun H3 t3 s3 n3 ht3=>?_⟩
 have B3:=(B.same e2).same s3
 refine⟨_,rfl,_,rfl,c,es,fe,N,x,rfl,B3,xc,sm.le Qk,fun H4 k4 B4=>⟨ln1,fun t5 ht5=>?_⟩⟩
 have e5:=aa.new ht5 (.tup [.int (N.n:Int)])
 refine hX (xs:=[V.int (N.fc d)]) (e5 _ _ (B3.tk k4 _ _ ht3)) ae (by simp) (by show 1+1<=1000;decide) fun t6 H6 s6 h6=>?_
 have e46:=e5.trans s6
 have B6:=B4.same e46
 have gM:=mP (N:=N) (x:=x)
 generalize hM:N.fork x=M at *
 refine⟨_,rfl,c.p,_,_,rfl,B6.ro,aR Qd,c,es,fe,M,1,rfl,B6,Qk,(sm.next gM Qk).le Qk,fun H7 t7 k7 B7 nt7 ht7=>?_⟩
 refine⟨_,rfl,c.p,_,_,rfl,B7.ro,aR Qd,_,rfl,_,rfl,_,rfl,c.p,_,_,_,_,rfl,B7.ro,T.cl_Bench,T.nf_Bench_ends,hZ,_,rfl,c.de,_,rfl,(by have:=dk.k (k:=.inr e) B7.eo;rw[gi ec]at this;exact this),ln1,fun t8 ht8=>?_⟩
 have e8:=aa.new ht8 (.tup [.int (fe e)])
 refine hX (xs:=[V.int ((M.n+0:Nat):Int)]) (e8 _ _ ht7) ae (by simp) (by show 1+1<=1000;decide) fun t9 H9 s9 h9=>⟨ln2,fun r10 hr10=>⟨ln4,fun u11 hu11=>?_⟩⟩
 have e10:=aa.new hr10 (.tup [.int 0,.int 1])
 have e11:=aa.new hu11 (.tup [.str "pass",.ref t6,.ref t9,.ref r10])
 have s711:=(e8.trans s9).trans (e10.trans e11)
 have B11:=B7.same s711
 have e911:=e10.trans e11
 refine⟨c,es,fe,M.wires 1,.ref u11,.pas [N.fc d,(N.n:Int)] [(M.n:Int),fe e] [0,1],rfl,B11,⟨u11,t6,t9,r10,rfl,ae,s711 _ _ (B6.tk k7 _ _ h6),e911 _ _ h9,e11 _ _ ae⟩,(sm.next (gM.trans aP) Qk).le Qk,fun H12 k12 B12=>?_⟩
 refine⟨_,rfl,c.p,_,_,rfl,B12.ro,aR Qd,_,rfl,ln1,fun l13 hl13=>?_⟩
 have e13:=aa.new hl13 (.lst [.str d])
 refine⟨_,rfl,c,es,fe,_,l13,t7,[d],[(M.n:Int)],rfl,B12.same e13,ae,e13 _ _ (B11.tk k12 _ _ (s711 _ _ ht7)),rfl,(sm.next ((gM.trans aP).trans bC) Qk).le (by show 1<=_;decide),fun H14 k14 B14=>?_⟩
 subst hM
 refine q H14 ?_ B14
 exact((Fb.of (e2.trans s3)).trans k4).trans ((Fb.of e46).trans (k7.trans ((Fb.of s711).trans (k12.trans (aa.fb e13 k14)))))
theorem zQ (T:Tx P w K mg a):aD P w K mg base CX0 4 a.lay_get a.fd_lay_get ["bench","store","name"] (oO a):=by
 refine T.F_lay_get.ok iH (fun vs H Q E h=>?_) (fun cdv A outer s H vs Q E hr h=>?_)
 ·obtain⟨_,_,_,_,_,_,rfl,_⟩:=h
  rfl
 obtain⟨c,es,fe,N,s,x,rfl,B,sl,sc,xc,se,sm,q⟩:=h
 refine⟨_,(ai (aA (i:=3) iH.nd rfl (Or.inl rfl) (aJ (a8 (aB (m8 T) (hr.mono Qk) rfl T.m_get_card T.F_get_card.kp T.b_get_card .nil ap (a8 (pq 1) ad)) (a8 (pq 2) ad))))
  (ai (aA (i:=4) iH.nd rfl (Or.inl rfl) (ax gN (aQ (pq 0) T.cl_Bench T.mt_Bench_wires_of (eh T) (hr.mono Qk) T.b_Bench_wires_of .nil ap (a8 (pq 3) ad)) (aL (a8 (rR hr.one (cK (pq 0) rfl) (pq 1) (fun _ _=>rfl)) ad))))
  (ai (aA (i:=5) iH.nd rfl (Or.inl rfl) (aQ (pq 0) T.cl_Bench T.mt_Bench_add_wires (cM T) (hr.mono Qk) T.b_Bench_add_wires .nil ap (a8 af ad)))
  (ai (aI (aQ (pq 0) T.cl_Bench T.mt_Bench_add_part (cZ T) (hr.mono Qk) T.b_Bench_add_part .nil ap (a8 (aL (a8 aF (a8 (pq 4) (a8 (pq 5) (a8 (aL (a8 af (a8 af ad))) ad))))) ad)))
  (ao (aI (aQ (pq 0) T.cl_Bench T.mt_Bench_lead (ei T) (hr.mono Qk) T.b_Bench_lead .nil ap (a8 (pq 3) (a8 (pq 5) ad))))))))),?_⟩
 refine⟨_,rfl,s,rfl,sl,_,rfl,ln2,fun l1 hl1=>?_⟩
 have e1:=aa.new hl1 (.lst [.str (s++("<":Str)),.str x])
 have l1':upd H l1 (.lst [.str (s++("<":Str)),.str x]) l1=some (.lst ([s++("<":Str),x].map V.str)):=ae
 have B1:=B.same e1
 generalize upd H l1 (.lst [.str (s++("<":Str)),.str x])=H1 at e1 l1' B1 ⊢
 refine⟨_,rfl,c.p,_,_,rfl,B1.ro,aR Qd,_,rfl,c,es,fe,N,l1,[s++("<":Str),x],rfl,B1,l1',by show 2<=1000;decide,fun y hy=>?_,fun H3 t3 s3 n3 ht3=>?_⟩
 ·simp only[qt,qQ,or_false]at hy
  rcases hy with rfl|rfl
  ·exact sc
  ·exact xc
 have B3:=B1.same s3
 refine⟨_,rfl,c.p,_,_,_,_,rfl,B3.ro,T.cl_Bench,T.nf_Bench_ends,hZ,_,rfl,c.de,_,rfl,(by have:=dk.k (k:=.inr s) B3.eo;rw[gi se]at this;exact this),ln1,fun t4 ht4=>?_⟩
 have e4:=aa.new ht4 (.tup [.int (fe s)])
 refine hX (e4 _ _ ht3) ae (by simp) (by show 2+1<=1000;decide) fun t5 H5 s5 h5=>?_
 have e35:=e4.trans s5
 have B5:=B3.same e35
 refine⟨_,rfl,c.p,_,_,rfl,B5.ro,aR Qd,c,es,fe,N,2,rfl,B5,Qk,sm.le Qk,fun H6 t6 k6 B6 nt6 ht6=>?_⟩
 have tk56:=B5.tk k6
 have n1:l1≠c.ll/\l1≠c.lp/\l1≠c.dc:=by
  obtain⟨m1,m2,m3,_,_⟩:=B.off (o:=.lst []) hl1
  exact⟨m1,m2,m3⟩
 have l6:=k6 _ _ n1.1 n1.2.1 n1.2.2 (e35 _ _ (s3 _ _ l1'))
 refine⟨_,rfl,c.p,_,_,rfl,B6.ro,aR Qd,_,rfl,_,rfl,ln2,fun r7 hr7=>⟨ln4,fun u8 hu8=>?_⟩⟩
 have e7:=aa.new hr7 (.tup [.int 0,.int 2])
 have e8:=aa.new hu8 (.tup [.str "pass",.ref t5,.ref t6,.ref r7])
 have e68:=e7.trans e8
 have B8:=B6.same e68
 refine⟨c,es,fe,N.wires 2,.ref u8,.pas [N.fc (s++("<":Str)),N.fc x,fe s] (wid N.n 2) [0,2],rfl,B8,⟨u8,t5,t6,r7,rfl,ae,e68 _ _ (tk56 _ _ h5),e68 _ _ ht6,e8 _ _ ae⟩,(sm.next aP Qk).le Qk,fun H9 k9 B9=>?_⟩
 have l9:=k9 _ _ n1.1 n1.2.1 n1.2.2 (e68 _ _ l6)
 refine⟨_,rfl,c.p,_,_,rfl,B9.ro,aR Qd,_,rfl,_,rfl,c,es,fe,_,l1,t6,[s++("<":Str),x],wid N.n 2,rfl,B9,l9,B8.tk k9 _ _ (e68 _ _ ht6),rfl,(sm.next (aP.trans bC) Qk).le (by show 2<=_;decide),fun H10 k10 B10=>?_⟩
 refine q H10 ?_ B10
 exact(Fb.of (e1.trans (s3.trans e35))).trans (k6.trans ((Fb.of e68).trans (k9.trans k10)))
theorem EO.head {C es:List Str}{d:a9}(h:BO C es [d]):EO C es d:=h.all d (by rw[ag,ag,qw,dE];exact qk)
theorem BO.mem {C es:List Str}{ds:List a9}{d:a9}(h:BO C es ds) (hd:d∈ds):BO C es [d]:=⟨fun e he=>h.all e ((mT hd).mem he),qx (ut hd) h.dp,qx (mT hd).length_le h.fl⟩
theorem BO.inner {C es:List Str}{d:a9}{b:List a9}(h:BO C es [d]) (hb:b∈d.inner):BO C es b:=⟨fun e he=>h.all e ((mV hb).mem he),qx (Nat.le_of_lt (hU hb)) h.dp,qx (mV hb).length_le h.fl⟩
theorem BO.cards {C es:List Str}{ds:List a9}(h:BO C es ds):∀k∈cards ds,k∈C:=fun k hk=>by
 obtain⟨d,hd,hk⟩:=List.mem_flatMap.mp hk
 exact(h.all d hd).cd k hk
theorem DO.mono {C es cs cs':List Str}{d:a9}(h:DO C es cs d) (k:∀x∈cs,x∈cs'):DO C es cs' d:=h.imp id fun⟨n,h1,h2⟩=>⟨n,k _ h1,h2⟩
theorem DO.plain {C es cs:List Str}{d:a9}(h:DO C es cs d) (hi:∀n,d≠ctD n):BO C es [d]:=h.resolve_right fun⟨n,_,e⟩=>hi n e
theorem zL (T:Tx P w K mg a):aD P w K mg base CX0 5 a.lay_single a.fd_lay_single ["bench","deed"] (oI a):=by
 refine T.F_lay_single.ok pQ (fun vs H Q E h=>?_) (fun cdv A outer s H vs Q E hr h=>?_)
 ·obtain⟨_,_,_,_,_,_,_,rfl,_⟩:=h
  rfl
 obtain⟨c,C,es,fe,N,v,d,rfl,B,rd,inn,nrep,dok,sub,gt,sm,q⟩:=h
 refine⟨_,(ai (aA (i:=2) pQ.nd rfl (Or.inl rfl) (aq ar (pq 1) af (fun _ _=>rfl)))
  (ao (aU (aO bn (pq 2) aF (aT _)) (ao (aI (aB (zM T) (hr.mono Qk) rfl T.m_lay_set T.F_lay_set.kp T.b_lay_set .nil ap (a8 (pq 0) (a8 (pq 1) ad))))) (ao (aU (aO bn (pq 2) aF (aT _)) (ao (aI (aB (sj T) (hr.mono Qk) rfl T.m_lay_handing T.F_lay_handing.kp T.b_lay_handing .nil ap (a8 (pq 0) (a8 (aB (m5 T) (hr.mono Qk) rfl T.m_put_card T.F_put_card.kp T.b_put_card .nil ap (a8 (aq ar (pq 1) af (fun _ _=>rfl)) ad)) (a8 (aq ar (pq 1) af (fun _ _=>rfl)) (a8 (aq ar (pq 1) af (fun _ _=>rfl)) ad))))))) (ao (aU (aO bn (pq 2) aF (aT _)) (ao (aI (aB (sj T) (hr.mono Qk) rfl T.m_lay_handing T.F_lay_handing.kp T.b_lay_handing .nil ap (a8 (pq 0) (a8 (dw rfl T.c_OUTLET T.r_OUTLET) (a8 (aq ar (pq 1) af (fun _ _=>rfl)) (a8 (dw rfl T.c_OUTLET T.r_OUTLET) ad))))))) (ao (aI (aB (zQ T) (hr.mono Qk) rfl T.m_lay_get T.F_lay_get.kp T.b_lay_get .nil ap (a8 (pq 0) (a8 (aq ar (pq 1) af (fun _ _=>rfl)) (a8 (aq ar (pq 1) af (fun _ _=>rfl)) ad))))))))))))),?_⟩
 cases rd with
 |set h=>
  rename_i t x va sg vb
  have nm:∀k∈(a9.set x va sg vb).names,k∈N.cs:=fun k hk=>by
   rcases dok with h'|⟨n,hn,e⟩
   ·exact sub k ((EO.head h').cd k (by unfold a9.cards;simp[hk]))
   ·rw[e]at hk
    simp[ctD,a9.names,Val.names]at hk
    rw[hk]
    exact hn
  refine⟨_,rfl,t,_,0,_,rfl,rfl,SqT.of h,rfl,?_⟩
  refine⟨_,rfl,rfl,_,rfl,?_⟩
  walk_at "yes"
  exact⟨_,rfl,_,rfl,c,es,fe,N,t,x,sg,va,vb,rfl,B,h,nm,sm,fun H' rs ro k' B'=>q H' _ k' B' (.set ro .nil) ((Bv ro).le Qk)⟩
 |put h=>
  rename_i t s x
  have eo:=EO.head (dok.plain fun n e=>by cases e)
  obtain⟨se,sl⟩:=eo.st s x (.inl rfl)
  refine⟨_,rfl,t,_,0,_,rfl,rfl,SqT.of h,rfl,?_⟩
  refine⟨_,rfl,rfl,_,rfl,?_⟩
  walk_at "no"
  refine⟨_,rfl,rfl,_,rfl,?_⟩
  walk_at "yes"
  refine⟨_,rfl,_,rfl,t,_,1,_,rfl,rfl,SqT.of h,rfl,s,rfl,sl,_,rfl,t,_,2,_,rfl,rfl,SqT.of h,rfl,_,rfl,t,_,1,_,rfl,rfl,SqT.of h,rfl,c,es,fe,N,_,x,s,rfl,B,sub _ (eo.cd _ (by simp[a9.cards,a9.others])),sub _ (eo.cd _ (by simp[a9.cards,a9.names])),se,sm,fun H' k' B'=>q H' _ k' B' (.put .nil) (tN.le Qk)⟩
 |give h=>
  rename_i t x
  have eo:=EO.head (dok.plain fun n e=>by cases e)
  refine⟨_,rfl,t,_,0,_,rfl,rfl,SqT.of h,rfl,?_⟩
  refine⟨_,rfl,rfl,_,rfl,?_⟩
  walk_at "no"
  refine⟨_,rfl,rfl,_,rfl,?_⟩
  walk_at "no"
  refine⟨_,rfl,rfl,_,rfl,?_⟩
  walk_at "yes"
  refine⟨_,rfl,_,rfl,t,_,1,_,rfl,rfl,SqT.of h,rfl,c,es,fe,N,_,x,(">":Str),rfl,B,sub _ (eo.cd _ (by simp[a9.cards,a9.others])),sub _ (eo.cd _ (by simp[a9.cards,a9.names])),gt,sm,fun H' k' B'=>q H' _ k' B' (.give .nil) (tN.le Qk)⟩
 |get h=>
  rename_i t s x
  have eo:=EO.head (dok.plain fun n e=>by cases e)
  obtain⟨se,sl⟩:=eo.st s x (.inr rfl)
  refine⟨_,rfl,t,_,0,_,rfl,rfl,SqT.of h,rfl,?_⟩
  refine⟨_,rfl,rfl,_,rfl,?_⟩
  walk_at "no"
  refine⟨_,rfl,rfl,_,rfl,?_⟩
  walk_at "no"
  refine⟨_,rfl,rfl,_,rfl,?_⟩
  walk_at "no"
  refine⟨_,rfl,_,rfl,t,_,1,_,rfl,rfl,SqT.of h,rfl,_,rfl,t,_,2,_,rfl,rfl,SqT.of h,rfl,c,es,fe,N,s,x,rfl,B,sl,sub _ (eo.cd _ (by simp[a9.cards,a9.others])),sub _ (eo.cd _ (by simp[a9.cards,a9.names])),se,sm,fun H' k' B'=>q H' _ k' B' (.get .nil) (Bz.le Qk)⟩
 |cond h h1 h2=>simp[a9.inner]at inn
 |whl h h1=>simp[a9.inner]at inn
 |rep h h1=>exact absurd rfl (nrep _ _)
section
variable {H H' H2 H0:Hp}{c:BAd}{C es:List Str}{fe:aS}{N N':ah}{m:Nat}
theorem bV.next (n:bV a c C es fe H0 H N) (k:Fb c H H') (B:BG a H' c es fe N') (g:Gr N N' m):bV a c C es fe H0 H' N':=⟨B,n.lt.next k,fun x hx=>g.sub x (n.sub x hx),n.gt,n.c20,n.c1⟩
theorem bV.same (n:bV a c C es fe H0 H N) (k:aa H H'):bV a c C es fe H0 H' N:=n.next (.of k) (n.bg.same k) Gr.refl
theorem bV.grow {b:Addr}{o:HO}(n:bV a c C es fe H0 H N) (hb:H0 b=none) (h:H b=some o) (n1:b≠c.ll) (n2:b≠c.lp) (n3:b≠c.dc):bV a c C es fe (upd H0 b o) H N:=⟨n.bg,n.lt.grow n.bg hb h n1 n2 n3,n.sub,n.gt,n.c20,n.c1⟩
theorem Lt.none {b:Addr}(L:Lt c H0 H) (h:H b=none):H0 b=none:=aa.none L.e0 h
end
theorem zR (T:Tx P w K mg a) {n L:Nat}(l5:5<=L) (hI:aD P w K mg base CX0 L a.lay_if a.fd_lay_if ["bench","deed"] (jW a n)) (hW:aD P w K mg base CX0 L a.lay_while a.fd_lay_while ["bench","deed"] (jU a n)) (hR:aD P w K mg base CX0 L a.lay_repeat a.fd_lay_repeat ["bench","rounds","body"] (jV a n)):aD P w K mg base CX0 (L+1) a.lay_block a.fd_lay_block ["bench","block"] (iz a n):=by
 refine T.F_lay_block.ok kj (fun vs H Q E h=>?_) (fun cdv A outer s H vs Q E hr h=>?_)
 ·obtain⟨_,_,_,_,_,_,_,_,rfl,_⟩:=h
  rfl
 obtain⟨c,C,es,fe,H0,N,b,ds,rfl,nd,hb,dok,dp,sm,q⟩:=h
 refine⟨_,(ao (bQ PassesOwn.never rfl (bH (pq 1)) (aW (i:=2) kj.nd rfl (Or.inl rfl))
  (ao (aU (aO bn (aq ar (pq 2) af (fun _ _=>rfl)) aF (aT _)) (ao (aI (aB hI (hr.mono Qo) rfl T.m_lay_if T.F_lay_if.kp T.b_lay_if .nil ap (a8 (pq 0) (a8 (pq 2) ad))))) (ao (aU (aO bn (aq ar (pq 2) af (fun _ _=>rfl)) aF (aT _)) (ao (aI (aB hW (hr.mono Qo) rfl T.m_lay_while T.F_lay_while.kp T.b_lay_while .nil ap (a8 (pq 0) (a8 (pq 2) ad))))) (ao (aU (aO bn (aq ar (pq 2) af (fun _ _=>rfl)) aF (aT _)) (ao (aI (aB hR (hr.mono Qo) rfl T.m_lay_repeat T.F_lay_repeat.kp T.b_lay_repeat .nil ap (a8 (pq 0) (a8 (aq ar (pq 2) af (fun _ _=>rfl)) (a8 (aq ar (pq 2) af (fun _ _=>rfl)) ad)))))) (ao (aI (aB (zL T) (hr.mono Qo) rfl T.m_lay_single T.F_lay_single.kp T.b_lay_single .nil ap (a8 (pq 0) (a8 (pq 2) ad))))))))))))),?_⟩
 obtain⟨hb1,hds⟩:=hb
 rename_i us
 refine⟨_,rfl,b,rfl,⟨_,SqL.of (nd.lt.e0 _ _ hb1)⟩,?_⟩
 refine cC (K:=K) (a:=b) (xs:=us) (fun i σ H2=>∃v N2,σ=[some (.ref c.p),some (.ref b),v]/\Fb c H H2/\BG a H2 c es fe N2/\Lay fe N (ds.take i) N2/\Gr N N2 (wts (ds.take i))) ⟨_,N,rfl,Fb.refl,nd.bg,.nil,Gr.refl⟩ ?_ ?_ ?_
 ·rintro i σ H2 _ ⟨_,_,_,k2,_⟩
  exact SqL.of ((nd.lt.next k2).e0 _ _ hb1)
 ·rintro i x σ H2 hx ⟨v,N2,rfl,k2,B2,lay,gr⟩
  obtain⟨d,hd,hrd⟩:=hds.at i x hx
  have il:i<ds.length:=(qe.mp hd).1
  have dm:=qy hd
  have nd2:=nd.next k2 B2 gr
  have do2:=(dok d dm).mono gr.sub
  have tk:ds.take (i+1)=ds.take i++[d]:=by rw[qq,hd];rfl
  have w1:wts ds=wts (ds.take i)+(wts [d]+wts (ds.drop (i+1))):=by
   conv=>lhs;rw[<- List.take_append_drop i ds]
   rw[i9,List.drop_eq_getElem_cons il,(qe.mp hd).2,vA]
  have sm2:Sm N2 (wts [d]):=(sm.next gr Qo).le Qo
  have dd:av [d]<n:=Nat.lt_of_le_of_lt (ut dm) dp
  have hrd2:RD H2 x d:=RD.same nd2.lt.e0 hrd
  have fin:∀(H':Hp) (N':ah) (v':Option V),Fb c H2 H'->BG a H' c es fe N'->Lay fe N2 [d] N'->Gr N2 N' (wts [d])->∃v N2,[some (V.ref c.p),some (.ref b),v']=[some (.ref c.p),some (.ref b),v]/\Fb c H H'/\BG a H' c es fe N2/\Lay fe N (ds.take (i+1)) N2/\Gr N N2 (wts (ds.take (i+1))):=fun H' N' v' k' B' l' g'=>⟨v',N',rfl,k2.trans k',B',by rw[tk];exact lay.app l',by rw[tk,i9];exact gr.trans g'⟩
  have simp1:∀(t:Addr) (xs:List V) (kd:Str),x=.ref t->H2 t=some (.tup (.str kd::xs))->(kd == ("if":Str))=false->(kd == ("while":Str))=false->(kd == ("repeat":Str))=false->d.inner=[]->(∀k b,d≠.rep k b)->wtD d=20->True:=fun _ _ _ _ _ _ _ _ _ _ _=>trivial
  clear simp1
  cases hrd with
  |cond h h1 h2=>
   rename_i t t1 t2 xn ts os
   have ht:=nd2.lt.e0 _ _ h
   have bo:BO C es [.cond xn ts os]:=do2.plain fun n e=>by cases e
   refine⟨_,rfl,t,_,0,_,rfl,rfl,SqT.of ht,rfl,rfl,_,rfl,?_⟩
   walk_at "yes"
   exact⟨_,rfl,_,rfl,c,C,es,fe,H0,N2,.ref t,xn,ts,os,rfl,nd2,.cond h h1 h2,bo,dd,sm2,fun H' N' k' B' l' g'=>fin H' N' _ k' B' l' g'⟩
  |whl h h1=>
   rename_i t t1 xn bs
   have ht:=nd2.lt.e0 _ _ h
   have bo:BO C es [.whl xn bs]:=do2.plain fun n e=>by cases e
   refine⟨_,rfl,t,_,0,_,rfl,rfl,SqT.of ht,rfl,rfl,_,rfl,?_⟩
   walk_at "no"
   refine⟨_,rfl,t,_,0,_,rfl,rfl,SqT.of ht,rfl,rfl,_,rfl,?_⟩
   walk_at "yes"
   exact⟨_,rfl,_,rfl,c,C,es,fe,H0,N2,.ref t,xn,bs,rfl,nd2,.whl h h1,bo,dd,sm2,fun H' N' k' B' l' g'=>fin H' N' _ k' B' l' g'⟩
  |rep h h1=>
   rename_i t t1 kk bs
   have ht:=nd2.lt.e0 _ _ h
   have bo:BO C es [.rep kk bs]:=do2.plain fun n e=>by cases e
   refine⟨_,rfl,t,_,0,_,rfl,rfl,SqT.of ht,rfl,rfl,_,rfl,?_⟩
   walk_at "no"
   refine⟨_,rfl,t,_,0,_,rfl,rfl,SqT.of ht,rfl,rfl,_,rfl,?_⟩
   walk_at "no"
   refine⟨_,rfl,t,_,0,_,rfl,rfl,SqT.of ht,rfl,rfl,_,rfl,?_⟩
   walk_at "yes"
   exact⟨_,rfl,_,rfl,t,_,1,_,rfl,rfl,SqT.of ht,rfl,_,rfl,t,_,2,_,rfl,rfl,SqT.of ht,rfl,c,C,es,fe,H0,N2,kk,t1,bs,rfl,nd2,h1,bo,dd,sm2,fun H' N' k' B' l' g'=>fin H' N' _ k' B' l' g'⟩
  |set h=>
   rename_i t x va sg vb
   have ht:=nd2.lt.e0 _ _ h
   refine⟨_,rfl,t,_,0,_,rfl,rfl,SqT.of ht,rfl,rfl,_,rfl,?_⟩
   walk_at "no"
   refine⟨_,rfl,t,_,0,_,rfl,rfl,SqT.of ht,rfl,rfl,_,rfl,?_⟩
   walk_at "no"
   refine⟨_,rfl,t,_,0,_,rfl,rfl,SqT.of ht,rfl,rfl,_,rfl,?_⟩
   walk_at "no"
   exact⟨_,rfl,_,rfl,c,C,es,fe,N2,.ref t,.set x va sg vb,rfl,B2,hrd2,rfl,(fun _ _ e=>by cases e),do2,nd2.sub,nd2.gt,sm2,fun H' N' k' B' l' g'=>fin H' N' _ k' B' l' g'⟩
  |put h=>
   rename_i t s x
   have ht:=nd2.lt.e0 _ _ h
   refine⟨_,rfl,t,_,0,_,rfl,rfl,SqT.of ht,rfl,rfl,_,rfl,?_⟩
   walk_at "no"
   refine⟨_,rfl,t,_,0,_,rfl,rfl,SqT.of ht,rfl,rfl,_,rfl,?_⟩
   walk_at "no"
   refine⟨_,rfl,t,_,0,_,rfl,rfl,SqT.of ht,rfl,rfl,_,rfl,?_⟩
   walk_at "no"
   exact⟨_,rfl,_,rfl,c,C,es,fe,N2,.ref t,.put s x,rfl,B2,hrd2,rfl,(fun _ _ e=>by cases e),do2,nd2.sub,nd2.gt,sm2,fun H' N' k' B' l' g'=>fin H' N' _ k' B' l' g'⟩
  |get h=>
   rename_i t s x
   have ht:=nd2.lt.e0 _ _ h
   refine⟨_,rfl,t,_,0,_,rfl,rfl,SqT.of ht,rfl,rfl,_,rfl,?_⟩
   walk_at "no"
   refine⟨_,rfl,t,_,0,_,rfl,rfl,SqT.of ht,rfl,rfl,_,rfl,?_⟩
   walk_at "no"
   refine⟨_,rfl,t,_,0,_,rfl,rfl,SqT.of ht,rfl,rfl,_,rfl,?_⟩
   walk_at "no"
   exact⟨_,rfl,_,rfl,c,C,es,fe,N2,.ref t,.get s x,rfl,B2,hrd2,rfl,(fun _ _ e=>by cases e),do2,nd2.sub,nd2.gt,sm2,fun H' N' k' B' l' g'=>fin H' N' _ k' B' l' g'⟩
  |give h=>
   rename_i t x
   have ht:=nd2.lt.e0 _ _ h
   refine⟨_,rfl,t,_,0,_,rfl,rfl,SqT.of ht,rfl,rfl,_,rfl,?_⟩
   walk_at "no"
   refine⟨_,rfl,t,_,0,_,rfl,rfl,SqT.of ht,rfl,rfl,_,rfl,?_⟩
   walk_at "no"
   refine⟨_,rfl,t,_,0,_,rfl,rfl,SqT.of ht,rfl,rfl,_,rfl,?_⟩
   walk_at "no"
   exact⟨_,rfl,_,rfl,c,C,es,fe,N2,.ref t,.give x,rfl,B2,hrd2,rfl,(fun _ _ e=>by cases e),do2,nd2.sub,nd2.gt,sm2,fun H' N' k' B' l' g'=>fin H' N' _ k' B' l' g'⟩
 ·rintro σ H2 ⟨v,N2,rfl,k2,B2,lay,gr⟩
  rw[hds.len,qG]at lay gr
  exact q H2 N2 k2 B2 lay gr
theorem zK (T:Tx P w K mg a) {n L:Nat}(l5:5<=L) (hB:aD P w K mg base CX0 L a.lay_block a.fd_lay_block ["bench","block"] (iz a n)):aD P w K mg base CX0 (L+1) a.lay_through a.fd_lay_through ["bench","block","cards","wires"] (iu a n):=by
 refine T.F_lay_through.ok xG (fun vs H Q E h=>?_) (fun cdv A outer s H vs Q E hr h=>?_)
 ·obtain⟨_,_,_,_,_,_,_,_,_,_,_,_,rfl,_⟩:=h
  rfl
 obtain⟨c,C,es,fe,H0,N,b,lc,t,ds,zs,ws,rfl,nd,hb,hlc,ht,len,z30,dok,dp,sm,q⟩:=h
 refine⟨_,(ai (aI (aQ (pq 0) T.cl_Bench T.mt_Bench_lead (ei T) (hr.mono Qo) T.b_Bench_lead .nil ap (a8 (pq 2) (a8 (pq 3) ad))))
  (ai (aI (aB hB (hr.mono Qo) rfl T.m_lay_block T.F_lay_block.kp T.b_lay_block .nil ap (a8 (pq 0) (a8 (pq 1) ad))))
  (ao (aH (aQ (pq 0) T.cl_Bench T.mt_Bench_wires_of (eh T) (hr.mono Qo) T.b_Bench_wires_of .nil ap (a8 (pq 2) ad)))))),?_⟩
 refine⟨_,rfl,c.p,_,_,rfl,nd.bg.ro,aR Qd,_,rfl,_,rfl,c,es,fe,N,lc,t,zs,ws,rfl,nd.bg,nd.lt.e0 _ _ hlc,ht,len,sm.le Qo,fun H1 k1 B1=>?_⟩
 have nd1:=nd.next k1 B1 c8
 refine⟨_,rfl,_,rfl,c,C,es,fe,H0,_,b,ds,rfl,nd1,hb,dok,dp,(sm.next c8 Qo).le Qo,fun H2 N2 k2 B2 lay gr=>?_⟩
 have nd2:=nd1.next k2 B2 gr
 refine⟨_,rfl,c.p,_,_,rfl,B2.ro,aR Qd,_,rfl,c,es,fe,N2,lc,zs,rfl,B2,nd2.lt.e0 _ _ hlc,Qo,fun x hx=>gr.sub x (((g9 zs N.cs).2.1 x).mpr (.inr hx)),fun H3 t3 s3 n3 h3=>?_⟩
 exact q H2 N2 (k1.trans k2) B2 lay gr H3 t3 s3 n3 h3
theorem By {N:ah}{zs:List Str}{x:Str}:Gr N (N.ifA zs x) (zs.length+zs.length+1+1+zs.length):=(((aP.trans aP).trans c7).trans bC).trans c8
theorem Bx {N:ah}{zs:List Str}{n:Nat}{ons:List Int}:Gr N (N.ifZ zs n ons) (zs.length+1+zs.length):=(aP.trans bC).trans c8
theorem jr {N:ah}{zs:List Str}{x:Str}{beh:List Int}:Gr N (N.loA zs x beh) (1+zs.length+zs.length+1+zs.length):=(((c7.trans aP).trans aP).trans bC).trans c8
theorem tM {N:ah}{zs:List Str}{n:Nat}{com beh:List Int}:Gr N (N.loZ zs n com beh) (1+zs.length):=bC.trans c8
theorem Bw {N:ah}{k:Int}:Gr N (N.reA k) 4:=((c7.trans aP).trans bC).trans c8
theorem mK {d:a9}:wts [d]=wtD d+(d.inner.map wts).sum:=vx d
theorem zP (T:Tx P w K mg a) {n L:Nat}(l16:16<=L) (hT:aD P w K mg base CX0 L a.lay_through a.fd_lay_through ["bench","block","cards","wires"] (iu a n)):aD P w K mg base CX0 (L+1) a.lay_if a.fd_lay_if ["bench","deed"] (jW a (n+1)):=by
 refine T.F_lay_if.ok dr (fun vs H Q E h=>?_) (fun cdv A outer s H vs Q E hr h=>?_)
 ·obtain⟨_,_,_,_,_,_,_,_,_,_,rfl,_⟩:=h
  rfl
 obtain⟨c,C,es,fe,H0,N,v,x,ts,os,rfl,nd,rd,bo,dp,sm,q⟩:=h
 refine⟨_,(ai (aA (i:=2) dr.nd rfl (Or.inl rfl) (aB (iZ T) (hr.mono Qo) rfl T.m_touched T.F_touched.kp T.b_touched .nil ap (a8 (aJ (a8 (pq 1) ad)) ad)))
  (ai (aA (i:=3) dr.nd rfl (Or.inl rfl) (aQ (pq 0) T.cl_Bench T.mt_Bench_wires_of (eh T) (hr.mono Qo) T.b_Bench_wires_of .nil ap (a8 (pq 2) ad)))
  (ai (aA (i:=4) dr.nd rfl (Or.inl rfl) (aQ (pq 0) T.cl_Bench T.mt_Bench_add_wires (cM T) (hr.mono Qo) T.b_Bench_add_wires .nil ap (a8 (aV bO rfl T.z_len PySem.boot_len (a8 (pq 2) ad)) ad)))
  (ai (aA (i:=5) dr.nd rfl (Or.inl rfl) (aQ (pq 0) T.cl_Bench T.mt_Bench_add_wires (cM T) (hr.mono Qo) T.b_Bench_add_wires .nil ap (a8 (aV bO rfl T.z_len PySem.boot_len (a8 (pq 2) ad)) ad)))
  (ai (aA (i:=6) dr.nd rfl (Or.inl rfl) (aQ (pq 0) T.cl_Bench T.mt_Bench_add_line (eN T) (hr.mono Qo) T.b_Bench_add_line .nil ap (a8 af (a8 (aL ad) ad))))
  (ai (aI (aQ (pq 0) T.cl_Bench T.mt_Bench_add_part (cZ T) (hr.mono Qo) T.b_Bench_add_part .nil ap (a8 (aL (a8 aF (a8 (pq 3) (a8 (bD qf PySem.F.slot_list_index PySem.F.type_list_index mh (pq 2) (a8 (aq ar (pq 1) af (fun _ _=>rfl)) ad)) (a8 (pq 4) (a8 (pq 5) (a8 (pq 6) ad))))))) ad)))
  (ai (aA (i:=7) dr.nd rfl (Or.inl rfl) (aB hT (hr.mono Qo) rfl T.m_lay_through T.F_lay_through.kp T.b_lay_through .nil ap (a8 (pq 0) (a8 (aq ar (pq 1) af (fun _ _=>rfl)) (a8 (pq 2) (a8 (pq 4) ad))))))
  (ai (aA (i:=8) dr.nd rfl (Or.inl rfl) (aB hT (hr.mono Qo) rfl T.m_lay_through T.F_lay_through.kp T.b_lay_through .nil ap (a8 (pq 0) (a8 (aq ar (pq 1) af (fun _ _=>rfl)) (a8 (pq 2) (a8 (pq 5) ad))))))
  (ai (aA (i:=9) dr.nd rfl (Or.inl rfl) (aQ (pq 0) T.cl_Bench T.mt_Bench_add_wires (cM T) (hr.mono Qo) T.b_Bench_add_wires .nil ap (a8 (aV bO rfl T.z_len PySem.boot_len (a8 (pq 2) ad)) ad)))
  (ai (aI (aQ (pq 0) T.cl_Bench T.mt_Bench_add_part (cZ T) (hr.mono Qo) T.b_Bench_add_part .nil ap (a8 (aL (a8 aF (a8 (pq 6) (a8 (pq 7) (a8 (pq 8) (a8 (pq 9) ad)))))) ad)))
  (ao (aI (aQ (pq 0) T.cl_Bench T.mt_Bench_lead (ei T) (hr.mono Qo) T.b_Bench_lead .nil ap (a8 (pq 2) (a8 (pq 9) ad))))))))))))))),?_⟩
 have dp1:av ts<n:=qC (hU (d:=.cond x ts os) (by simp[a9.inner])) (Nat.le_of_lt_succ dp)
 have dp2:av os<n:=qC (hU (d:=.cond x ts os) (by simp[a9.inner])) (Nat.le_of_lt_succ dp)
 have bo1:=bo.inner (b:=ts) (by simp[a9.inner])
 have bo2:=bo.inner (b:=os) (by simp[a9.inner])
 have wt:wts [.cond x ts os]=200+(wts ts+wts os):=by rw[mK];simp[wtD,a9.inner]
 have rd0:=rd
 cases rd with
 |cond h h1 h2=>
  rename_i t t1 t2
  have h0:=nd.lt.e0 _ _ h
  refine⟨_,rfl,ln1,fun l0 hl0=>?_⟩
  have e0:=aa.new hl0 (.lst [.ref t])
  have nd0:=nd.same e0
  have rl0:RL (upd H l0 (.lst [.ref t])) l0 [.cond x ts os]:=.mk ae (.cons (RD.same (nd.lt.e0.trans e0) rd0) .nil)
  have h01:=e0 _ _ h0
  generalize upd H l0 (.lst [.ref t])=H1 at e0 nd0 rl0 h01 ⊢
  have c20:=nd.c20
  refine⟨H1,l0,_,C,rfl,aa.refl _,rl0,bo.dp,bo.fl,bo.cards,Qo,nd.c1,fun H2 lc zs s2 nlc hlc znd zm zso=>?_⟩
  have zC:∀y∈zs,y∈C:=fun y hy=>bo.cards y ((zm y).mp hy)
  have zf:zs.length<=20:=qx (bS znd zC) c20
  have co:gh [.cond x ts os] zs:=⟨znd,zm,zso,zf⟩
  have xz:x∈zs:=(zm x).mpr (by rw[dI];simp[a9.cards,a9.names])
  obtain⟨m1,m2,m3,_,_⟩:=nd0.bg.off (o:=.lst []) nlc
  have nd2:=nd0.same s2
  refine⟨_,rfl,c.p,_,_,rfl,nd2.bg.ro,aR Qd,_,rfl,c,es,fe,N,lc,zs,rfl,nd2.bg,hlc,Qo,fun y hy=>nd.sub y (zC y hy),fun H3 t3 s3 n3 ht3=>?_⟩
  have nd3:=nd2.same s3
  have lc3:=s3 _ _ hlc
  have h3:=s3 _ _ (s2 _ _ h01)
  refine⟨_,rfl,c.p,_,_,rfl,nd3.bg.ro,aR Qd,_,rfl,lc,_,rfl,.inl (SqL.of lc3),c,es,fe,N,zs.length,by rw[q5];rfl,nd3.bg,Qo,sm.le Qo,fun H4 t4 k4 B4 nt4 ht4=>?_⟩
  have nd4:=nd3.next k4 B4 aP
  have lc4:=k4 _ _ m1 m2 m3 lc3
  have tk4:=nd3.bg.tk k4
  refine⟨_,rfl,c.p,_,_,rfl,B4.ro,aR Qd,_,rfl,lc,_,rfl,.inl (SqL.of lc4),c,es,fe,_,zs.length,by rw[q5];rfl,B4,Qo,(sm.next aP Qo).le Qo,fun H5 t5 k5 B5 nt5 ht5=>?_⟩
  have nd5:=nd4.next k5 B5 aP
  have lc5:=k5 _ _ m1 m2 m3 lc4
  have tk5:=B4.tk k5
  refine⟨_,rfl,c.p,_,_,rfl,B5.ro,aR Qd,qr _,fun f6 hf6=>?_⟩
  have e6:=aa.new hf6 (.tup [])
  refine⟨c,es,fe,_,.int 1,f6,[],rfl,B5.same e6,ae,(sm.next (aP.trans aP) Qo).le Qo,fun H7 m7 em7 k7 B7=>?_⟩
  rw[eO,eO]at em7
  rw[eO]at ht5
  subst em7
  have k57:Fb c H5 H7:=aa.fb e6 k7
  have nd7:=nd5.next k57 B7 c7
  have lc7:=k57 _ _ m1 m2 m3 lc5
  have tk7:=B5.tk k57
  have h7:=tk7 _ _ (tk5 _ _ (tk4 _ _ h3))
  refine⟨_,rfl,c.p,_,_,rfl,B7.ro,aR Qd,_,rfl,_,rfl,.inl ⟨rfl,_,SqL.of lc7⟩,_,rfl,t,_,1,_,rfl,rfl,SqT.of h7,rfl,lc,zs,x,rfl,rfl,lc7,xz,Qo,_,rfl,_,rfl,_,rfl,ln6,fun u8 hu8=>?_⟩
  have e8:=aa.new hu8 (.tup [.str "choose",.ref t3,.int ((zs.idxOf x:Nat):Int),.ref t4,.ref t5,.int ((N.n+zs.length+zs.length:Nat):Int)])
  have u8':upd H7 u8 (.tup [.str "choose",.ref t3,.int ((zs.idxOf x:Nat):Int),.ref t4,.ref t5,.int ((N.n+zs.length+zs.length:Nat):Int)]) u8=_:=ae
  generalize upd H7 u8 (.tup [.str "choose",.ref t3,.int ((zs.idxOf x:Nat):Int),.ref t4,.ref t5,.int ((N.n+zs.length+zs.length:Nat):Int)])=H8 at e8 u8' ⊢
  refine⟨c,es,fe,_,.ref u8,.cho (zs.map N.fc) (zs.idxOf x:Nat) (wid N.n zs.length) (wid (N.n+zs.length) zs.length) ((N.n+zs.length+zs.length:Nat):Int),rfl,B7.same e8,⟨u8,t3,t4,t5,rfl,u8',e8 _ _ (tk7 _ _ (tk5 _ _ (tk4 _ _ ht3))),e8 _ _ (tk7 _ _ (tk5 _ _ ht4)),e8 _ _ (tk7 _ _ ht5)⟩,(sm.next ((aP.trans aP).trans c7) Qo).le Qo,fun H9 k9 B9=>?_⟩
  have k79:Fb c H7 H9:=aa.fb e8 k9
  have nd9:=nd7.next k79 B9 bC
  have lc9:=k79 _ _ m1 m2 m3 lc7
  have tk9:=B7.tk k79
  have h9:=tk9 _ _ h7
  have t49:=tk9 _ _ (tk7 _ _ (tk5 _ _ ht4))
  have t59:=tk9 _ _ (tk7 _ _ ht5)
  have f09:Fb c H H9:=(Fb.of (e0.trans (s2.trans s3))).trans (k4.trans (k5.trans (k57.trans k79)))
  have n0:H0 lc=none:=aa.none (nd.lt.e0.trans e0) nlc
  have g0:=aa.new n0 (.lst (zs.map V.str))
  have ndg:=nd9.grow n0 lc9 m1 m2 m3
  have lcg:upd H0 lc (.lst (zs.map V.str)) lc=some (.lst (zs.map V.str)):=ae
  generalize upd H0 lc (.lst (zs.map V.str))=G0 at g0 ndg lcg ⊢
  have gA:Gr N (N.ifA zs x) (zs.length+zs.length+1+1+zs.length):=By
  refine⟨_,rfl,_,rfl,t,_,2,_,rfl,rfl,SqT.of h9,rfl,_,rfl,_,rfl,c,C,es,fe,G0,_,t1,lc,t4,ts,zs,wid N.n zs.length,rfl,ndg,RL.same g0 h1,lcg,t49,(dn _ _).symm,Qo,fun d hd=>.inl (bo1.mem hd),dp1,(sm.next (((aP.trans aP).trans c7).trans bC) Qo).le Qo,fun H10 N1 k10 B10 lay1 gr1 H11 t11 s11 n11 ht11=>?_⟩
  have nd10:=ndg.next (k10.more s11) (B10.same s11) (c8.trans gr1)
  have k911:=k10.more s11
  have tk11:TK H9 H11:=B9.tk k911
  have lc11:=k911 _ _ m1 m2 m3 lc9
  refine⟨_,rfl,_,rfl,t,_,3,_,rfl,rfl,SqT.of (tk11 _ _ h9),rfl,_,rfl,_,rfl,c,C,es,fe,G0,N1,t2,lc,t5,os,zs,wid (N.n+zs.length) zs.length,rfl,nd10,RL.same g0 h2,lcg,tk11 _ _ t59,(dn _ _).symm,Qo,fun d hd=>.inl (bo2.mem hd),dp2,(sm.next (gA.trans gr1) Qo).le Qo,fun H12 N2 k12 B12 lay2 gr2 H13 t13 s13 n13 ht13=>?_⟩
  have B13:=B12.same s13
  have k1113:=k12.more s13
  have tk13:TK H11 H13:=(B10.same s11).tk k1113
  have lc13:=k1113 _ _ m1 m2 m3 lc11
  have gB:=(gA.trans gr1).trans ((c8 (N:=N1) (zs:=zs) (ws:=wid (N.n+zs.length) zs.length)).trans gr2)
  refine⟨_,rfl,c.p,_,_,rfl,B13.ro,aR Qd,_,rfl,lc,_,rfl,.inl (SqL.of lc13),c,es,fe,N2,zs.length,by rw[q5];rfl,B13,Qo,(sm.next gB Qo).le Qo,fun H14 t14 k14 B14 nt14 ht14=>?_⟩
  have tk14:=B13.tk k14
  refine⟨_,rfl,c.p,_,_,rfl,B14.ro,aR Qd,_,rfl,_,rfl,_,rfl,_,rfl,ln5,fun u15 hu15=>?_⟩
  have e15:=aa.new hu15 (.tup [.str "merge",.int ((N.n+zs.length+zs.length:Nat):Int),.ref t11,.ref t13,.ref t14])
  refine⟨c,es,fe,_,.ref u15,.mrg ((N.n+zs.length+zs.length:Nat):Int) (zs.map N1.fc) (zs.map N2.fc) (wid N2.n zs.length),rfl,B14.same e15,⟨u15,t11,t13,t14,rfl,ae,e15 _ _ (tk14 _ _ (tk13 _ _ ht11)),e15 _ _ (tk14 _ _ ht13),e15 _ _ ht14⟩,(sm.next (gB.trans aP) Qo).le Qo,fun H16 k16 B16=>?_⟩
  have k1416:Fb c H14 H16:=aa.fb e15 k16
  have lc16:=k1416 _ _ m1 m2 m3 (k14 _ _ m1 m2 m3 lc13)
  refine⟨_,rfl,c.p,_,_,rfl,B16.ro,aR Qd,_,rfl,_,rfl,c,es,fe,_,lc,t14,zs,wid N2.n zs.length,rfl,B16,lc16,(B14.tk k1416) _ _ ht14,(dn _ _).symm,(sm.next ((gB.trans aP).trans bC) Qo).le Qo,fun H17 k17 B17=>?_⟩
  exact q H17 _ (f09.trans (k911.trans (k1113.trans (k14.trans (k1416.trans k17))))) B17 (.cond co lay1 lay2 .nil) ((gB.trans Bx).le Qo)
theorem zO (T:Tx P w K mg a) {n L:Nat}(l16:16<=L) (hT:aD P w K mg base CX0 L a.lay_through a.fd_lay_through ["bench","block","cards","wires"] (iu a n)):aD P w K mg base CX0 (L+1) a.lay_loop a.fd_lay_loop ["bench","cards","name","body","behind"] (iw a n):=by
 refine T.F_lay_loop.ok gw (fun vs H Q E h=>?_) (fun cdv A outer s H vs Q E hr h=>?_)
 ·obtain⟨_,_,_,_,_,_,_,_,_,_,_,_,_,rfl,_⟩:=h
  rfl
 obtain⟨c,C,es,fe,H0,N,lc,b,t,zs,x,ds,beh,rfl,nd,hlc,hb,ht,len,z30,zin,xz,dok,dp,sm,q⟩:=h
 refine⟨_,(ai (aA (i:=5) gw.nd rfl (Or.inl rfl) (aQ (pq 0) T.cl_Bench T.mt_Bench_wires_of (eh T) (hr.mono Qo) T.b_Bench_wires_of .nil ap (a8 (pq 1) ad)))
  (ai (aA (i:=6) gw.nd rfl (Or.inl rfl) (aQ (pq 0) T.cl_Bench T.mt_Bench_add_line (eN T) (hr.mono Qo) T.b_Bench_add_line .nil ap (a8 af (a8 (aL (a8 af ad)) ad))))
  (ai (aA (i:=7) gw.nd rfl (Or.inl rfl) (aQ (pq 0) T.cl_Bench T.mt_Bench_add_wires (cM T) (hr.mono Qo) T.b_Bench_add_wires .nil ap (a8 (aV bO rfl T.z_len PySem.boot_len (a8 (pq 1) ad)) ad)))
  (ai (aA (i:=8) gw.nd rfl (Or.inl rfl) (aQ (pq 0) T.cl_Bench T.mt_Bench_add_wires (cM T) (hr.mono Qo) T.b_Bench_add_wires .nil ap (a8 (aV bO rfl T.z_len PySem.boot_len (a8 (pq 1) ad)) ad)))
  (ai (aI (aQ (pq 0) T.cl_Bench T.mt_Bench_add_part (cZ T) (hr.mono Qo) T.b_Bench_add_part .nil ap (a8 (aL (a8 aF (a8 (pq 7) (a8 (bD qf PySem.F.slot_list_index PySem.F.type_list_index mh (pq 1) (a8 (pq 2) ad)) (a8 (pq 8) (a8 (pq 4) (a8 (pq 6) ad))))))) ad)))
  (ai (aI (aQ (pq 0) T.cl_Bench T.mt_Bench_add_part (cZ T) (hr.mono Qo) T.b_Bench_add_part .nil ap (a8 (aL (a8 aF (a8 (pq 6) (a8 (aB hT (hr.mono Qo) rfl T.m_lay_through T.F_lay_through.kp T.b_lay_through .nil ap (a8 (pq 0) (a8 (pq 3) (a8 (pq 1) (a8 (pq 8) ad))))) (a8 (pq 5) (a8 (pq 7) ad)))))) ad)))
  (ao (aI (aQ (pq 0) T.cl_Bench T.mt_Bench_lead (ei T) (hr.mono Qo) T.b_Bench_lead .nil ap (a8 (pq 1) (a8 (pq 4) ad))))))))))),?_⟩
 have B:=nd.bg
 have lcH:=nd.lt.e0 _ _ hlc
 refine⟨_,rfl,c.p,_,_,rfl,B.ro,aR Qd,_,rfl,c,es,fe,N,lc,zs,rfl,B,lcH,Qo,zin,fun H1 t1 s1 n1 ht1=>?_⟩
 have nd1:=nd.same s1
 refine⟨_,rfl,c.p,_,_,rfl,nd1.bg.ro,aR Qd,ln1,fun f2 hf2=>?_⟩
 have e2:=aa.new hf2 (.tup [.int 0])
 have f2':upd H1 f2 (.tup [.int 0]) f2=some (.tup ([(0:Int)].map V.int)):=ae
 refine⟨c,es,fe,N,.int 1,f2,[0],rfl,nd1.bg.same e2,f2',sm.le Qo,fun H3 m3 em3 k3 B3=>?_⟩
 subst em3
 have nd3:=(nd1.same e2).next k3 B3 c7
 have lc3:=nd3.lt.e0 _ _ hlc
 refine⟨_,rfl,c.p,_,_,rfl,B3.ro,aR Qd,_,rfl,lc,_,rfl,.inl (SqL.of lc3),c,es,fe,_,zs.length,by rw[q5];rfl,B3,Qo,(sm.next c7 Qo).le Qo,fun H4 t4 k4 B4 nt4 ht4=>?_⟩
 rw[j4]at ht4
 have nd4:=nd3.next k4 B4 aP
 have lc4:=nd4.lt.e0 _ _ hlc
 refine⟨_,rfl,c.p,_,_,rfl,B4.ro,aR Qd,_,rfl,lc,_,rfl,.inl (SqL.of lc4),c,es,fe,_,zs.length,by rw[q5];rfl,B4,Qo,(sm.next (c7.trans aP) Qo).le Qo,fun H5 t5 k5 B5 nt5 ht5=>?_⟩
 rw[eO,j4]at ht5
 have nd5:=nd4.next k5 B5 aP
 have lc5:=nd5.lt.e0 _ _ hlc
 have tk13:TK H1 H3:=fun b xs h=>(nd1.bg.same e2).tk k3 _ _ (e2 _ _ h)
 have tk4:=B3.tk k4
 have tk5:=B4.tk k5
 have ht5':H5 t=_:=tk5 _ _ (tk4 _ _ (tk13 _ _ (s1 _ _ ht)))
 refine⟨_,rfl,c.p,_,_,rfl,B5.ro,aR Qd,_,rfl,_,rfl,.inl ⟨rfl,_,SqL.of lc5⟩,_,rfl,lc,zs,x,rfl,rfl,lc5,xz,Qo,_,rfl,_,rfl,_,rfl,ln6,fun u6 hu6=>?_⟩
 have e6:=aa.new hu6 (.tup [.str "choose",.ref t4,.int ((zs.idxOf x:Nat):Int),.ref t5,.ref t,.int (N.n:Int)])
 refine⟨c,es,fe,_,.ref u6,.cho (wid (N.n+1) zs.length) (zs.idxOf x:Nat) (wid (N.n+1+zs.length) zs.length) beh (N.n:Int),rfl,B5.same e6,⟨u6,t4,t5,t,rfl,ae,e6 _ _ (tk5 _ _ ht4),e6 _ _ ht5,e6 _ _ ht5'⟩,(sm.next ((c7.trans aP).trans aP) Qo).le Qo,fun H7 k7 B7=>?_⟩
 have k57:Fb c H5 H7:=aa.fb e6 k7
 have nd7:=nd5.next k57 B7 bC
 have tk7:=B5.tk k57
 have f07:Fb c H H7:=(Fb.of (s1.trans e2)).trans (k3.trans (k4.trans (k5.trans k57)))
 refine⟨_,rfl,c.p,_,_,rfl,B7.ro,aR Qd,_,rfl,_,rfl,_,rfl,_,rfl,_,rfl,c,C,es,fe,H0,_,b,lc,t5,ds,zs,wid (N.n+1+zs.length) zs.length,rfl,nd7,hb,hlc,tk7 _ _ ht5,(dn _ _).symm,Qo,fun d hd=>(dok d hd).mono (jr (N:=N) (zs:=zs) (x:=x) (beh:=beh)).sub,dp,(sm.next (((c7.trans aP).trans aP).trans bC) Qo).le Qo,fun H8 N1 k8 B8 lay gr H9 t9 s9 n9 ht9=>?_⟩
 have B9:=B8.same s9
 have k79:Fb c H7 H9:=k8.more s9
 have tk9:TK H7 H9:=B7.tk k79
 refine⟨_,rfl,_,rfl,ln5,fun u10 hu10=>?_⟩
 have e10:=aa.new hu10 (.tup [.str "merge",.int (N.n:Int),.ref t9,.ref t1,.ref t4])
 have t19:H9 t1=_:=tk9 _ _ (tk7 _ _ (tk5 _ _ (tk4 _ _ (tk13 _ _ ht1))))
 have t49:H9 t4=_:=tk9 _ _ (tk7 _ _ (tk5 _ _ ht4))
 have t9':H9 t=_:=tk9 _ _ (tk7 _ _ ht5')
 have gA:Gr N (N.loA zs x beh) (1+zs.length+zs.length+1+zs.length):=jr
 refine⟨c,es,fe,N1,.ref u10,.mrg (N.n:Int) (zs.map N1.fc) (zs.map N.fc) (wid (N.n+1) zs.length),rfl,B9.same e10,⟨u10,t9,t1,t4,rfl,ae,e10 _ _ ht9,e10 _ _ t19,e10 _ _ t49⟩,(sm.next (gA.trans gr) Qo).le Qo,fun H11 k11 B11=>?_⟩
 have k911:Fb c H9 H11:=aa.fb e10 k11
 have nd11:=nd7.next (k79.trans k911) B11 ((c8.trans gr).trans bC)
 refine⟨_,rfl,c.p,_,_,rfl,B11.ro,aR Qd,_,rfl,_,rfl,c,es,fe,_,lc,t,zs,beh,rfl,B11,nd11.lt.e0 _ _ hlc,B9.tk k911 _ _ t9',len,(sm.next ((gA.trans gr).trans bC) Qo).le Qo,fun H12 k12 B12=>?_⟩
 exact q H12 N1 (f07.trans (k79.trans (k911.trans k12))) B12 lay gr
theorem zJ (T:Tx P w K mg a) {n L:Nat}(l16:16<=L) (hP:aD P w K mg base CX0 L a.lay_loop a.fd_lay_loop ["bench","cards","name","body","behind"] (iw a n)):aD P w K mg base CX0 (L+1) a.lay_while a.fd_lay_while ["bench","deed"] (jU a (n+1)):=by
 refine T.F_lay_while.ok pP (fun vs H Q E h=>?_) (fun cdv A outer s H vs Q E hr h=>?_)
 ·obtain⟨_,_,_,_,_,_,_,_,_,rfl,_⟩:=h
  rfl
 obtain⟨c,C,es,fe,H0,N,v,x,bs,rfl,nd,rd,bo,dp,sm,q⟩:=h
 refine⟨_,(ai (aA (i:=2) pP.nd rfl (Or.inl rfl) (aB (iZ T) (hr.mono Qo) rfl T.m_touched T.F_touched.kp T.b_touched .nil ap (a8 (aJ (a8 (pq 1) ad)) ad)))
  (ao (aI (aB hP (hr.mono Qo) rfl T.m_lay_loop T.F_lay_loop.kp T.b_lay_loop .nil ap (a8 (pq 0) (a8 (pq 2) (a8 (aq ar (pq 1) af (fun _ _=>rfl)) (a8 (aq ar (pq 1) af (fun _ _=>rfl)) (a8 (aQ (pq 0) T.cl_Bench T.mt_Bench_add_wires (cM T) (hr.mono Qo) T.b_Bench_add_wires .nil ap (a8 (aV bO rfl T.z_len PySem.boot_len (a8 (pq 2) ad)) ad)) ad))))))))),?_⟩
 have dp1:av bs<n:=qC (hU (d:=.whl x bs) (by simp[a9.inner])) (Nat.le_of_lt_succ dp)
 have bo1:=bo.inner (b:=bs) (by simp[a9.inner])
 have wt:wts [.whl x bs]=200+wts bs:=by rw[mK];simp[wtD,a9.inner]
 have rd0:=rd
 cases rd with
 |whl h h1=>
  rename_i t t1
  have h0:=nd.lt.e0 _ _ h
  refine⟨_,rfl,ln1,fun l0 hl0=>?_⟩
  have e0:=aa.new hl0 (.lst [.ref t])
  have nd0:=nd.same e0
  have rl0:RL (upd H l0 (.lst [.ref t])) l0 [.whl x bs]:=.mk ae (.cons (RD.same (nd.lt.e0.trans e0) rd0) .nil)
  have h01:=e0 _ _ h0
  generalize upd H l0 (.lst [.ref t])=H1 at e0 nd0 rl0 h01 ⊢
  have c20:=nd.c20
  refine⟨H1,l0,_,C,rfl,aa.refl _,rl0,bo.dp,bo.fl,bo.cards,Qo,nd.c1,fun H2 lc zs s2 nlc hlc znd zm zso=>?_⟩
  have zC:∀y∈zs,y∈C:=fun y hy=>bo.cards y ((zm y).mp hy)
  have zf:zs.length<=20:=qx (bS znd zC) c20
  have co:gh [.whl x bs] zs:=⟨znd,zm,zso,zf⟩
  have xz:x∈zs:=(zm x).mpr (by rw[dI];simp[a9.cards,a9.names])
  obtain⟨m1,m2,m3,_,_⟩:=nd0.bg.off (o:=.lst []) nlc
  have nd2:=nd0.same s2
  have h2:=s2 _ _ h01
  refine⟨_,rfl,_,rfl,_,rfl,t,_,1,_,rfl,rfl,SqT.of h2,rfl,_,rfl,t,_,2,_,rfl,rfl,SqT.of h2,rfl,_,rfl,c.p,_,_,rfl,nd2.bg.ro,aR Qd,_,rfl,lc,_,rfl,.inl (SqL.of hlc),c,es,fe,N,zs.length,by rw[q5];rfl,nd2.bg,Qo,sm.le Qo,fun H4 t4 k4 B4 nt4 ht4=>?_⟩
  have nd4:=nd2.next k4 B4 aP
  have lc4:=k4 _ _ m1 m2 m3 hlc
  have n0:H0 lc=none:=aa.none (nd.lt.e0.trans e0) nlc
  have g0:=aa.new n0 (.lst (zs.map V.str))
  have ndg:=nd4.grow n0 lc4 m1 m2 m3
  have lcg:upd H0 lc (.lst (zs.map V.str)) lc=some (.lst (zs.map V.str)):=ae
  generalize upd H0 lc (.lst (zs.map V.str))=G0 at g0 ndg lcg ⊢
  have en:=eO N zs.length
  refine⟨c,C,es,fe,G0,_,lc,t1,t4,zs,x,bs,wid N.n zs.length,rfl,ndg,lcg,RL.same g0 h1,ht4,(dn _ _).symm,Qo,fun y hy=>nd.sub y (zC y hy),xz,fun d hd=>.inl (bo1.mem hd),dp1,(sm.next aP Qo).le Qo,fun H5 N1 k5 B5 lay gr=>?_⟩
  rw[en]at B5
  exact q H5 _ ((Fb.of (e0.trans s2)).trans (k4.trans k5)) B5 (.whl co lay .nil) (((aP.trans jr).trans (gr.trans tM)).le Qo)
theorem sI (N:ah) (k:Int):(N.reA k).n=N.n+2:=by
 unfold ah.reA
 rw[Ao,An,eO,j4]
theorem zN (T:Tx P w K mg a) {n L:Nat}(l16:16<=L) (hP:aD P w K mg base CX0 L a.lay_loop a.fd_lay_loop ["bench","cards","name","body","behind"] (iw a n)):aD P w K mg base CX0 (L+1) a.lay_repeat a.fd_lay_repeat ["bench","rounds","body"] (jV a (n+1)):=by
 refine T.F_lay_repeat.ok fq (fun vs H Q E h=>?_) (fun cdv A outer s H vs Q E hr h=>?_)
 ·obtain⟨_,_,_,_,_,_,_,_,_,rfl,_⟩:=h
  rfl
 obtain⟨c,C,es,fe,H0,N,k,l,bs,rfl,nd,rl,bo,dp,sm,q⟩:=h
 refine⟨_,(ai (aA (i:=3) fq.nd rfl (Or.inl rfl) (aB (iZ T) (hr.mono Qo) rfl T.m_touched T.F_touched.kp T.b_touched .nil ap (a8 (pq 2) ad)))
  (ai (aU (aO bn (aV bO rfl T.z_len PySem.boot_len (a8 (pq 3) ad)) af (aT _)) (ao yC) bA)
  (ai (aA (i:=4) fq.nd rfl (Or.inl rfl) (aQ (pq 0) T.cl_Bench T.mt_Bench_add_line (eN T) (hr.mono Qo) T.b_Bench_add_line .nil ap (a8 af (a8 (aL (a8 af ad)) ad))))
  (ai (aA (i:=5) fq.nd rfl (Or.inl rfl) (cj Ct rfl T.z_str PyProof.Rows.Boot.«str» (a8 (pq 4) ad)))
  (ai (aA (i:=6) fq.nd rfl (Or.inl rfl) (aQ (pq 0) T.cl_Bench T.mt_Bench_add_wires (cM T) (hr.mono Qo) T.b_Bench_add_wires .nil ap (a8 af ad)))
  (ai (aI (aQ (pq 0) T.cl_Bench T.mt_Bench_add_part (cZ T) (hr.mono Qo) T.b_Bench_add_part .nil ap (a8 (aL (a8 aF (a8 (aL (a8 (pq 4) ad)) (a8 (aq ar (pq 6) af (fun _ _=>rfl)) (a8 aF (a8 (aL (a8 aF (a8 (pq 1) ad))) (a8 (aL (a8 aF (a8 af ad))) ad))))))) ad)))
  (ai (aI (aQ (pq 0) T.cl_Bench T.mt_Bench_lead (ei T) (hr.mono Qo) T.b_Bench_lead .nil ap (a8 (aJ (a8 (pq 5) ad)) (a8 (pq 6) ad))))
  (ai (aA (i:=7) fq.nd rfl (Or.inl rfl) (ax bZ (pq 2) (aJ (a8 (aL (a8 aF (a8 (pq 5) (a8 (pq 5) (a8 aF (a8 af ad)))))) ad))))
  (ao (aI (aB hP (hr.mono Qo) rfl T.m_lay_loop T.F_lay_loop.kp T.b_lay_loop .nil ap (a8 (pq 0) (a8 (ax bZ (pq 3) (aJ (a8 (pq 5) ad))) (a8 (pq 5) (a8 (pq 7) (a8 (ax gN (aQ (pq 0) T.cl_Bench T.mt_Bench_add_wires (cM T) (hr.mono Qo) T.b_Bench_add_wires .nil ap (a8 (aV bO rfl T.z_len PySem.boot_len (a8 (pq 3) ad)) ad)) (aL (a8 (pq 4) ad))) ad)))))))))))))))),?_⟩
 have dp1:av bs<n:=qC (hU (d:=.rep k bs) (by simp[a9.inner])) (Nat.le_of_lt_succ dp)
 have bo1:=bo.inner (b:=bs) (by simp[a9.inner])
 have wt:wts [.rep k bs]=200+wts bs:=by rw[mK];simp[wtD,a9.inner]
 have c20:=nd.c20
 refine⟨_,rfl,H0,l,bs,C,rfl,nd.lt.e0,rl,bo1.dp,bo1.fl,bo1.cards,Qo,nd.c1,fun H2 lc zs s2 nlc hlc znd zm zso=>?_⟩
 have zC:∀y∈zs,y∈C:=fun y hy=>bo1.cards y ((zm y).mp hy)
 have zf:zs.length<=20:=qx (bS znd zC) c20
 have co:gh bs zs:=⟨znd,zm,zso,zf⟩
 have nd2:=nd.same s2
 refine⟨_,rfl,lc,_,rfl,.inl (SqL.of hlc),rfl,_,rfl,?_⟩
 rw[q5]
 by_cases z0:zs=[]
 ·subst z0
  refine bR rfl ?_
  refine q H2 N (Fb.of s2) nd2.bg (.rep0 ?_ .nil) (Gr.refl.le (qr _))
  refine List.eq_nil_iff_forall_not_mem.mpr fun k hk=>?_
  have:=(zm k).mpr hk
  simp at this
 refine aZ (by
  have:zs.length≠0:=fun h=>z0 (List.length_eq_zero_iff.mp h)
  simp
  omega) ?_
 refine⟨_,rfl,c.p,_,_,rfl,nd2.bg.ro,aR Qd,ln1,fun f3 hf3=>?_⟩
 have e3:=aa.new hf3 (.tup [.int 0])
 have f3':upd H2 f3 (.tup [.int 0]) f3=some (.tup ([(0:Int)].map V.int)):=ae
 have sl:=sm.l
 refine⟨c,es,fe,N,.int 1,f3,[0],rfl,nd2.bg.same e3,f3',sm.le Qo,fun H4 m4 em4 k4 B4=>?_⟩
 subst em4
 have nd4:=(nd2.same e3).next k4 B4 c7
 have nn:N.n<=100000:=by
  show N.ls.length<=100000
  omega
 refine⟨_,rfl,(N.n:Int),rfl,AI (by rw[Int.natAbs_natCast];exact Nat.lt_of_le_of_lt nn Qk),?_⟩
 rw[show(Str.ofString (toString (N.n:Int)):Str)=ctN N.n from rfl]
 refine⟨_,rfl,c.p,_,_,rfl,B4.ro,aR Qd,c,es,fe,_,1,rfl,B4,Qk,(sm.next c7 Qo).le Qo,fun H5 t5 k5 B5 nt5 ht5=>?_⟩
 rw[j4]at ht5
 have ht5':H5 t5=some (.tup [.int ((N.n+1+0:Nat):Int)]):=ht5
 have nd5:=nd4.next k5 B5 aP
 refine⟨_,rfl,c.p,_,_,rfl,B5.ro,aR Qd,_,rfl,ln1,fun t6 ht6=>?_⟩
 have e6:=aa.new ht6 (.tup [.int (N.n:Int)])
 have t6':upd H5 t6 (.tup [.int (N.n:Int)]) t6=some (.tup ([(N.n:Int)].map V.int)):=ae
 generalize upd H5 t6 (.tup [.int (N.n:Int)])=H6 at e6 t6' ⊢
 refine⟨_,rfl,t5,_,0,_,rfl,rfl,SqT.of (e6 _ _ ht5'),rfl,_,rfl,ln2,fun t7 ht7=>⟨ln2,fun t8 ht8=>⟨ln6,fun u9 hu9=>?_⟩⟩⟩
 have e7:=aa.new ht7 (.tup [.str "is",.int k])
 have e8:=aa.new ht8 (.tup [.str "is",.int 0])
 have e9:=aa.new hu9 (.tup [.str "work",.ref t6,.int ((N.n+1+0:Nat):Int),.str "+",.ref t7,.ref t8])
 have s9:=(e7.trans e8).trans e9
 have t79:=e9 _ _ (e8 _ _ (ae (H:=H6) (a:=t7) (o:=.tup [.str "is",.int k])))
 have t89:=e9 _ _ (ae (H:=upd H6 t7 (.tup [.str "is",.int k])) (a:=t8) (o:=.tup [.str "is",.int 0]))
 have u9':upd (upd (upd H6 t7 (.tup [.str "is",.int k])) t8 (.tup [.str "is",.int 0])) u9 (.tup [.str "work",.ref t6,.int ((N.n+1+0:Nat):Int),.str "+",.ref t7,.ref t8]) u9=_:=ae
 generalize upd (upd (upd H6 t7 (.tup [.str "is",.int k])) t8 (.tup [.str "is",.int 0])) u9 (.tup [.str "work",.ref t6,.int ((N.n+1+0:Nat):Int),.str "+",.ref t7,.ref t8])=H9 at s9 t79 t89 u9' ⊢
 clear e7 e8 e9
 have nd9:=(nd5.same e6).same s9
 refine⟨c,es,fe,_,.ref u9,.wrk [(N.n:Int)] ((N.n+1:Nat):Int) "+" (.is k) (.is 0),rfl,nd9.bg,⟨u9,t6,.ref t7,.ref t8,rfl,u9',s9 _ _ t6',⟨t7,rfl,t79⟩,⟨t8,rfl,t89⟩⟩,(sm.next (c7.trans aP) Qo).le Qo,fun H10 k10 B10=>?_⟩
 have nd10:=nd9.next k10 B10 bC
 have t510:=nd9.bg.tk k10 _ _ (s9 _ _ (e6 _ _ ht5'))
 refine⟨_,rfl,c.p,_,_,rfl,B10.ro,aR Qd,_,rfl,ln1,fun l11 hl11=>?_⟩
 have e11:=aa.new hl11 (.lst [.str (ctN N.n)])
 refine⟨_,rfl,c,es,fe,_,l11,t5,[ctN N.n],[((N.n+1:Nat):Int)],rfl,B10.same e11,ae,e11 _ _ t510,rfl,(sm.next ((c7.trans aP).trans bC) Qo).le (by show 1<=_;omega),fun H12 k12 B12=>?_⟩
 have gR:Gr N (N.reA k) 4:=Bw
 have nd12:bV a c C es fe H0 H12 (N.reA k):=(nd10.same e11).next k12 B12 c8
 have f12:Fb c H H12:=(Fb.of s2).trans ((aa.fb e3 k4).trans (k5.trans ((aa.fb (e6.trans s9) k10).trans (aa.fb e11 k12))))
 obtain⟨hl1,hds⟩:=rl
 rename_i us
 have ul:=hds.len
 have ufew:=jw bs
 have bfl:=bo1.fl
 have lH12:=nd12.lt.e0 _ _ hl1
 have lc12:H12 lc=some (.lst (zs.map V.str)):=by
  obtain⟨m1,m2,m3,_,_⟩:=nd.bg.off (o:=.lst []) nlc
  exact(((aa.fb e3 k4).trans (k5.trans ((aa.fb (e6.trans s9) k10).trans (aa.fb e11 k12)))) _ _ m1 m2 m3 hlc)
 refine⟨_,rfl,_,rfl,_,rfl,ln5,fun t13 ht13=>⟨ln1,fun l14 hl14=>⟨l,l14,us,_,rfl,rfl,SqL.of ((aa.new ht13 _).trans (aa.new hl14 _) _ _ lH12),SqL.of ae,aM (m:=10000) (by show us.length+1<=_;omega),fun l15 hl15=>?_⟩⟩⟩
 have e13:=aa.new ht13 (.tup [.str "set",.str (ctN N.n),.str (ctN N.n),.str "-",.int 1])
 have n13:=Lt.none nd12.lt ht13
 have o13:=B12.off (o:=.lst []) ht13
 have g13:=aa.new n13 (.tup [.str "set",.str (ctN N.n),.str (ctN N.n),.str "-",.int 1])
 have nd13:=(nd12.same e13).grow n13 ae o13.1 o13.2.1 o13.2.2.1
 have r13:upd H0 t13 (.tup [.str "set",.str (ctN N.n),.str (ctN N.n),.str "-",.int 1]) t13=some (.tup [.str "set",.str (ctN N.n),(Val.nm (ctN N.n)).v,.str "-",(Val.num 1).v]):=ae
 have e14:=aa.new hl14 (.lst [.ref t13])
 have nd14:=nd13.same e14
 have s14:aa H12 _:=e13.trans e14
 have hl15':upd (upd H12 t13 (.tup [.str "set",.str (ctN N.n),.str (ctN N.n),.str "-",.int 1])) l14 (.lst [.ref t13]) l15=none:=hl15
 have e15:=aa.new hl15' (.lst (us++[.ref t13]))
 have n15:=Lt.none nd14.lt hl15'
 have o15:=nd14.bg.off (o:=.lst []) hl15'
 have nd15:=(nd14.same e15).grow n15 ae o15.1 o15.2.1 o15.2.2.1
 have g15:=g13.trans (aa.new n15 (.lst (us++[.ref t13])))
 have r15:RL (upd (upd H0 t13 (.tup [.str "set",.str (ctN N.n),.str (ctN N.n),.str "-",.int 1])) l15 (.lst (us++[.ref t13]))) l15 (bs++[ctD N.n]):=.mk ae ((hds.same g15).app (.cons (.set (aa.new n15 _ _ _ r13)) .nil))
 have s15:=s14.trans e15
 have lc15:=s15 _ _ lc12
 generalize upd (upd (upd H12 t13 (.tup [.str "set",.str (ctN N.n),.str (ctN N.n),.str "-",.int 1])) l14 (.lst [.ref t13])) l15 (.lst (us++[.ref t13]))=H15 at nd15 s15 lc15 ⊢
 generalize upd (upd H0 t13 (.tup [.str "set",.str (ctN N.n),.str (ctN N.n),.str "-",.int 1])) l15 (.lst (us++[.ref t13]))=G2 at nd15 g15 r15
 clear nd14 nd13 e14 e15 s14 hl15 hl15' n15 o15 g13 r13
 refine⟨_,rfl,_,rfl,_,rfl,ln1,fun l16 hl16=>?_⟩
 have e16:=aa.new hl16 (.lst [.str (ctN N.n)])
 refine⟨lc,l16,_,_,rfl,rfl,SqL.of (e16 _ _ lc15),SqL.of ae,aM (m:=10000) (by rw[q5];show _+1<=_;omega),fun l17 hl17=>?_⟩
 have nd16:=nd15.same e16
 have e17:=aa.new hl17 (.lst (zs.map V.str++[.str (ctN N.n)]))
 have n17:=Lt.none nd16.lt hl17
 have o17:=nd16.bg.off (o:=.lst []) hl17
 have nd17:=(nd16.same e17).grow n17 ae o17.1 o17.2.1 o17.2.2.1
 have g17:=aa.new n17 (.lst (zs.map V.str++[.str (ctN N.n)]))
 have r17:upd G2 l17 (.lst (zs.map V.str++[.str (ctN N.n)])) l17=some (.lst ((zs++[ctN N.n]).map V.str)):=by rw[ae,qO];rfl
 have s17:=e16.trans e17
 have lc17:=s17 _ _ lc15
 generalize upd (upd H15 l16 (.lst [.str (ctN N.n)])) l17 (.lst (zs.map V.str++[.str (ctN N.n)]))=H17 at nd17 s17 lc17 ⊢
 generalize upd G2 l17 (.lst (zs.map V.str++[.str (ctN N.n)]))=G3 at nd17 g17 r17
 refine⟨_,rfl,_,rfl,_,rfl,c.p,_,_,rfl,nd17.bg.ro,aR Qd,_,rfl,lc,_,rfl,.inl (SqL.of lc17),c,es,fe,N.reA k,zs.length,by rw[q5];rfl,nd17.bg,Qo,(sm.next gR Qo).le Qo,fun H18 t18 k18 B18 nt18 ht18=>⟨_,rfl,ln1,fun t19 ht19=>?_⟩⟩
 rw[sI]at ht18
 have e19:=aa.new ht19 (.tup [.int (N.n:Int)])
 have zl:0<zs.length:=Nat.pos_of_ne_zero fun h=>z0 (List.length_eq_zero_iff.mp h)
 refine hX (e19 _ _ ht18) ae (fun h=>by have:=congrArg List.length h;rw[q5,dn,List.length_nil]at this;omega) (by rw[q5,dn];show _+1<=1000;omega) fun t20 H20 s20 h20=>?_
 have nd20:=(nd17.next k18 B18 aP).same (e19.trans s20)
 have h20':H20 t20=some (.tup ((wid (N.n+2) zs.length++[(N.n:Int)]).map V.int)):=by rw[h20,qO];rfl
 have ctin:ctN N.n∈(N.reA k).cs:=((g9 [ctN N.n] N.cs).2.1 _).mpr (.inr (by simp))
 have wb:wts (bs++[ctD N.n])=wts bs+20:=by rw[i9];rfl
 refine⟨c,C,es,fe,G3,_,l17,l15,t20,zs++[ctN N.n],ctN N.n,bs++[ctD N.n],wid (N.n+2) zs.length++[(N.n:Int)],rfl,nd20,r17,RL.same g17 r15,h20',by rw[qa,qa,dn];rfl,by rw[qa,List.length_singleton];omega,fun y hy=>?_,by simp,fun d hd=>?_,?_,(sm.next (gR.trans aP) Qo).le Qo,fun H21 N1 k21 B21 lay gr=>?_⟩
 ·rcases qg.mp hy with h|h
  ·exact gR.sub y (nd.sub y (zC y h))
  ·rw[qS.mp h]
   exact ctin
 ·rcases qg.mp hd with h|h
  ·exact .inl (bo1.mem h)
  ·exact .inr ⟨N.n,ctin,qS.mp h⟩
 ·rw[eS]
  show max (av bs) 0<n
  omega
 rw[eO,sI]at B21
 refine q H21 _ (f12.trans ((Fb.of (s15.trans s17)).trans (k18.trans (aa.fb (e19.trans s20) k21)))) B21 (.rep co z0 lay .nil) (((gR.trans aP).trans (jr.trans (gr.trans tM))).le ?_)
 rw[qa,List.length_singleton,wb]
 omega
theorem zU (T:Tx P w K mg a):∀n:Nat,aD P w K mg base CX0 (4 * n+16) a.lay_block a.fd_lay_block ["bench","block"] (iz a n):=by
 intro n
 induction n with
 |zero=>
  refine T.F_lay_block.ok kj (fun vs H Q E h=>?_) (fun cdv A outer s H vs Q E hr h=>?_)
  ·obtain⟨_,_,_,_,_,_,_,_,rfl,_⟩:=h
   rfl
  obtain⟨_,_,_,_,_,_,_,_,_,_,_,_,dp,_⟩:=h
  exact absurd dp (Nat.not_lt_zero _)
 |succ n ih=>
  have hT:=zK T Qo ih
  have hP:=zO T Qo hT
  exact zR T Qo ((zP T Qo hT).mono Qo) (zJ T Qo hP) (zN T Qo hP)
theorem A8 (T:Tx P w K mg a):aD P w K mg base CX0 1 a.Bench___init__ a.fd_Bench___init__ ["self"] (pF a):=by
 refine T.F_Bench___init__.ok xR (fun vs H Q E h=>?_) (fun cdv A outer s H vs Q E hr h=>?_)
 ·obtain⟨_,_,rfl,_⟩:=h
  rfl
 obtain⟨p,dx,rfl,hp,q⟩:=h
 refine⟨_,(ai (iW (pq 0) (aJ ad) rfl)
  (ai (iW (pq 0) (aJ ad) rfl)
  (ai (iW (pq 0) lY rfl)
  (ao (iW (pq 0) lY rfl))))),?_⟩
 refine⟨qr _,fun ll hll=>⟨_,rfl,p,a.C_Bench,dx,[],rfl,aa.new hll _ _ _ hp,T.cl_Bench,T.nf_Bench_lines,by simp,?_⟩⟩
 rw[gG [] rfl Qd,List.nil_append]
 have nl:ll≠p:=fun z=>by rw[z,hp]at hll;cases hll
 have g1:upd (upd H ll (.lst [])) p (.ins a.C_Bench dx [("lines",.ref ll)]) p=_:=ae
 have g2:upd (upd H ll (.lst [])) p (.ins a.C_Bench dx [("lines",.ref ll)]) ll=some (.lst []):=by rw[aj nl];exact ae
 have gk:∀b o,b≠p->H b=some o->upd (upd H ll (.lst [])) p (.ins a.C_Bench dx [("lines",.ref ll)]) b=some o:=fun b o hb h=>by rw[aj hb];exact aa.new hll _ _ _ h
 have gn:∀b,upd (upd H ll (.lst [])) p (.ins a.C_Bench dx [("lines",.ref ll)]) b=none->H b=none:=fun b hb=>bh (bh hb)
 generalize upd (upd H ll (.lst [])) p (.ins a.C_Bench dx [("lines",.ref ll)])=H1 at g1 g2 gk gn ⊢
 refine⟨qr _,fun lp hlp=>⟨_,rfl,p,a.C_Bench,dx,_,rfl,aa.new hlp _ _ _ g1,T.cl_Bench,T.nf_Bench_parts,by simp,?_⟩⟩
 rw[gG ["lines"] rfl Qd]
 have np:lp≠p:=fun z=>by rw[z,g1]at hlp;cases hlp
 have h1:upd (upd H1 lp (.lst [])) p (.ins a.C_Bench dx ([(("lines":Str),V.ref ll)]++[(("parts":Str),V.ref lp)])) p=_:=ae
 have h2:upd (upd H1 lp (.lst [])) p (.ins a.C_Bench dx ([(("lines":Str),V.ref ll)]++[(("parts":Str),V.ref lp)])) lp=some (.lst []):=by rw[aj np];exact ae
 have hk:∀b o,b≠p->H1 b=some o->upd (upd H1 lp (.lst [])) p (.ins a.C_Bench dx ([(("lines":Str),V.ref ll)]++[(("parts":Str),V.ref lp)])) b=some o:=fun b o hb h=>by rw[aj hb];exact aa.new hlp _ _ _ h
 have hn:∀b,upd (upd H1 lp (.lst [])) p (.ins a.C_Bench dx ([(("lines":Str),V.ref ll)]++[(("parts":Str),V.ref lp)])) b=none->H b=none:=fun b hb=>gn _ (bh (bh hb))
 generalize upd (upd H1 lp (.lst [])) p (.ins a.C_Bench dx ([(("lines":Str),V.ref ll)]++[(("parts":Str),V.ref lp)]))=H2 at h1 h2 hk hn ⊢
 refine fun de hde=>⟨_,rfl,p,a.C_Bench,dx,_,rfl,aa.new hde _ _ _ h1,T.cl_Bench,T.nf_Bench_ends,by simp,?_⟩
 rw[gG ["lines","parts"] rfl Qd]
 have ne:de≠p:=fun z=>by rw[z,h1]at hde;cases hde
 have i1:upd (upd H2 de (.dK [])) p (.ins a.C_Bench dx ([(("lines":Str),V.ref ll)]++[(("parts":Str),V.ref lp)]++[(("ends":Str),V.ref de)])) p=_:=ae
 have i2:upd (upd H2 de (.dK [])) p (.ins a.C_Bench dx ([(("lines":Str),V.ref ll)]++[(("parts":Str),V.ref lp)]++[(("ends":Str),V.ref de)])) de=some (.dK []):=by rw[aj ne];exact ae
 have ik:∀b o,b≠p->H2 b=some o->upd (upd H2 de (.dK [])) p (.ins a.C_Bench dx ([(("lines":Str),V.ref ll)]++[(("parts":Str),V.ref lp)]++[(("ends":Str),V.ref de)])) b=some o:=fun b o hb h=>by rw[aj hb];exact aa.new hde _ _ _ h
 have jn:∀b,upd (upd H2 de (.dK [])) p (.ins a.C_Bench dx ([(("lines":Str),V.ref ll)]++[(("parts":Str),V.ref lp)]++[(("ends":Str),V.ref de)])) b=none->H b=none:=fun b hb=>hn _ (bh (bh hb))
 generalize upd (upd H2 de (.dK [])) p (.ins a.C_Bench dx ([(("lines":Str),V.ref ll)]++[(("parts":Str),V.ref lp)]++[(("ends":Str),V.ref de)]))=H3 at i1 i2 ik jn ⊢
 refine fun dc hdc=>⟨_,rfl,p,a.C_Bench,dx,_,rfl,aa.new hdc _ _ _ i1,T.cl_Bench,T.nf_Bench_coming,by simp,?_⟩
 rw[gG ["lines","parts","ends"] rfl Qd]
 have nc:dc≠p:=fun z=>by rw[z,i1]at hdc;cases hdc
 have ij:∀b o,b≠p->H3 b=some o->upd (upd H3 dc (.dK [])) p (jF a dx ll lp de dc) b=some o:=fun b o hb h=>by rw[aj hb];exact aa.new hdc _ _ _ h
 refine q _ ll lp de dc (fun b o hb h=>ij b o hb (ik b o hb (hk b o hb (gk b o hb h)))) ae (ij _ _ nl (ik _ _ nl (hk _ _ nl g2))) (ij _ _ np (ik _ _ np h2)) (ij _ _ ne i2) ?_ hll (gn _ hlp) (hn _ hde) (jn _ hdc) (fun z=>by rw[<- z,g2]at hlp;cases hlp) (fun z=>by rw[<- z,i2]at hdc;cases hdc)
 show upd (upd H3 dc (.dK [])) p (jF a dx ll lp de dc) dc=_
 rw[aj nc]
 exact ae
theorem uX {x:Str}{ps:List (Str×Int)}(h:x∉ps.map (·.1)):ba ps x=0:=by
 have:∀(ps:List (Str×Int)) (f:aS),x∉ps.map (·.1)->f x=0->ps.foldl (fun f p=>bi f p.1 (p.2 % 1000000000000000000000000000000)) f x=0:=by
  intro ps
  induction ps with
  |nil=>intro f _ h;exact h
  |cons p r ih=>
   intro f h hf
   rw[qR,qt,not_or]at h
   refine ih _ h.2 ?_
   show bi _ _ _ x=0
   unfold bi
   rw[qZ h.1]
   exact hf
 exact this ps _ h rfl
theorem zV (T:Tx P w K mg a):aD P w K mg base CX0 19 a.bench_for a.fd_bench_for ["program","numbers"] (oT a):=by
 refine T.F_bench_for.ok ft (fun vs H Q E h=>?_) (fun cdv A outer s H vs Q E hr h=>?_)
 ·obtain⟨_,_,_,_,_,_,_,_,_,_,_,rfl,_⟩:=h
  rfl
 obtain⟨pr,la,ls,lb,ln,ak,ss,ns,ds,us,C,rfl,PO,q⟩:=h
 refine⟨_,(ai (aA (i:=2) ft.nd rfl (Or.inl rfl) (yO T.k_Bench (A8 T) (hr.mono Qk) rfl T.m_Bench T.b_Bench___init__ .nil ap))
  (ai (bQ PassesOwn.never rfl (bH (aq ar (pq 0) af (fun _ _=>rfl))) (eK rfl (cf (aW (i:=3) ft.nd rfl (Or.inl rfl)) (cf (aW (i:=4) ft.nd rfl (Or.inl rfl)) eJ)))
  (ao (fG (hr.one) (cK (pq 2) rfl) (pq 3) (aQ (pq 2) T.cl_Bench T.mt_Bench_add_line (eN T) (hr.mono Qk) T.b_Bench_add_line .nil ap (a8 (pq 4) (a8 (aL ad) ad))) rfl)))
  (ai (fG (hr.one) (cK (pq 2) rfl) (dw rfl T.c_OUTLET T.r_OUTLET) (aQ (pq 2) T.cl_Bench T.mt_Bench_add_line (eN T) (hr.mono Qk) T.b_Bench_add_line .nil ap (a8 lX (a8 (aL ad) ad))) rfl)
  (ai (aA (i:=5) ft.nd rfl (Or.inl rfl) (aB (zW T) (hr.mono Qk) rfl T.m_beginnings T.F_beginnings.kp T.b_beginnings .nil ap (a8 (pq 0) (a8 (pq 1) ad))))
  (ai (bQ PassesOwn.never rfl (bH (aB (sq T) (hr.mono Qk) rfl T.m_cards_of T.F_cards_of.kp T.b_cards_of .nil ap (a8 (pq 0) ad))) (aW (i:=6) ft.nd rfl (Or.inl rfl))
  (ao (fG (hr.one) (cK (pq 2) rfl) (pq 6) (aQ (pq 2) T.cl_Bench T.mt_Bench_add_line (eN T) (hr.mono Qk) T.b_Bench_add_line .nil ap (a8 af (a8 (aL (a8 (yS hr.one (pq 5) (pq 6) af ⟨rfl,rfl,rfl,rfl⟩) ad)) ad))) rfl)))
  (ao (aH (pq 2)))))))),?_⟩
 refine fun p dx hp hdx ndx=>⟨p,dx,rfl,ae,fun H1 ll lp de dc k1 ho hll hlp hde hdc m1 m2 m3 m4 nlp ndc=>⟨rfl,?_⟩⟩
 have s1:aa H H1:=fun b o h=>by
  have nb:b≠p:=fun z=>by rw[z,hp]at h;cases h
  have nd:b≠dx:=fun z=>by rw[z,hdx]at h;cases h
  exact k1 b o nb (by rw[aj nb,aj nd];exact h)
 have n1:=bh (bh m1)
 have n2:=bh (bh m2)
 have n3:=bh (bh m3)
 have n4:=bh (bh m4)
 have RP:=PO.rp
 have sl:=PO.sl
 have snd:=PO.snd
 let c:BAd:=⟨p,dx,ll,lp,de,dc⟩
 have B1:∀g,BG a H1 c [] (feN ss) ⟨[],[],[],g⟩:=fun g=>⟨ho,hde,hdc,nlp,ndc,List.nodup_nil,⟨[],hll,.nil⟩,⟨[],hlp,.nil⟩⟩
 refine⟨_,rfl,pr,_,1,_,rfl,rfl,SqT.of (s1 _ _ RP.top),rfl,ls,rfl,⟨_,SqL.of (s1 _ _ RP.st)⟩,?_⟩
 have ul:=RP.ro.len
 have esat:∀(i:Nat) (s:Str) (n:Int),ss[i]?=some (s,n)->(esN ss)[i]?=some s:=fun i s n h=>by
  have lt:=(qe.mp h).1
  unfold esN
  rw[List.getElem?_append_left (by rw[q5];exact lt),qD,h]
  rfl
 have keepE:∀{H2 H3:Hp}{es:List Str}{N:ah}{x:Str}{v:Int},BG a H2 c es (feN ss) N->feN ss x=v->es.Nodup->(H3=upd H2 de (.dK (bd (tab es (feN ss)) (.inr x) (.int v))))->BG a H3 c (bE es x) (feN ss) N:=fun{H2 H3 es N x v} B hv nde e3=>by
  subst e3
  obtain⟨a1,a2,a3,a4,a5,a6,a7⟩:=B.ads
  obtain⟨xl,hl,rl⟩:=B.ln
  obtain⟨xp,hp',rp⟩:=B.pt
  have npde:p≠de:=fun z=>by have h1:=B.ro;have h2:=B.eo;rw[show c.p=de from z]at h1;rw[show c.de=de from rfl,h1]at h2;cases h2
  have kk:∀b o,b≠de->H2 b=some o->upd H2 de (.dK (bd (tab es (feN ss)) (.inr x) (.int v))) b=some o:=fun b o hb h=>by rw[aj hb];exact h
  have tk:TK H2 (upd H2 de (.dK (bd (tab es (feN ss)) (.inr x) (.int v)))):=fun b xs h=>kk b _ (fun z=>by have:=B.eo;rw[show c.de=de from rfl,<- z,h]at this;cases this) h
  exact⟨kk _ _ npde B.ro,by show upd H2 de _ de=_;rw[ae,ip nde,pL hv],kk _ _ B.de.symm B.co,B.ne,B.de,B.nd,⟨xl,kk _ _ a4.symm hl,rl.imp fun v d h=>h.keep tk⟩,⟨xp,kk _ _ a5.symm hp',rp.imp fun v d h=>h.keep tk⟩⟩
 refine cC (K:=K) (a:=ls) (xs:=us) (fun i σ H2=>(∃v3 v4,σ=[some (.ref pr),some (.ref ln),some (.ref p),v3,v4,none,none])/\aa H H2/\∀g,BG a H2 c ((esN ss).take i) (feN ss) ⟨(ss.take i).map (fun s=>⟨.int s.2,[]⟩),[],[],g⟩) ⟨⟨_,_,rfl⟩,s1,B1⟩ ?_ ?_ ?_
 ·rintro i σ H2 _ ⟨_,s2,_⟩
  exact SqL.of (s2 _ _ RP.st)
 ·rintro i y σ H2 hx ⟨⟨v3,v4,rfl⟩,s2,B2⟩
  obtain⟨ps,sn,sz,rfl,hss,hps⟩:=RP.ro.at i y hx
  have il:=(qe.mp hss).1
  refine⟨ps,_,rfl,SqT.of (s2 _ _ hps),rfl,_,_,rfl,_,_,rfl,rfl,?_⟩
  refine⟨_,rfl,p,_,_,rfl,(B2 fun _=>0).ro,aR Qd,_,rfl,qr _,fun f hf=>?_⟩
  have e3:=aa.new hf (.tup [])
  have nn:(ah.mk ((ss.take i).map fun s=>(⟨.int s.2,[]⟩:LnD)) [] [] fun _=>0).n=i:=by
   show((ss.take i).map _).length=i
   rw[q5,qJ]
   omega
  refine⟨c,_,_,_,.int sz,f,[],rfl,(B2 fun _=>0).same e3,ae,⟨by show((ss.take i).map _).length+1<=_;rw[q5,qJ];omega,by show 0+1<=100000;decide,by show 0+1<=100000;decide⟩,fun H4 m4 em4 k4 B4=>?_⟩
  rw[nn]at em4
  subst em4
  have esi:=esat i sn sz hss
  have B4':∀g,BG a H4 c ((esN ss).take i) (feN ss) ⟨(ss.take (i+1)).map (fun s=>⟨.int s.2,[]⟩),[],[],g⟩:=fun g=>by
   refine⟨B4.ro,B4.eo,B4.co,B4.ne,B4.de,B4.nd,?_,B4.pt⟩
   rw[qq,hss,Option.toList,qO]
   exact B4.ln
  have few:((esN ss).take i).length<=200:=by rw[qJ];omega
  refine⟨_,rfl,p,_,_,_,_,rfl,B4.ro,T.cl_Bench,T.nf_Bench_ends,hZ,_,rfl,de,_,rfl,.inl ⟨_,.inr sn,B4.eo,rfl,by rw[fh];exact iA Qo,rfl⟩,⟨_,_,rfl⟩,?_,fun g=>?_⟩
  ·exact aa.over (fun b o h=>k4 b o (fun z=>by rw[z,n1]at h;cases h) (fun z=>by rw[z,n2]at h;cases h) (fun z=>by rw[z,n4]at h;cases h) (e3 _ _ (s2 _ _ h))) n3
  ·have:=keepE (B4' g) (v:=(i:Int)) (x:=sn) (by show(((esN ss).idxOf sn:Nat):Int)=_;rw[ji snd esi]) (snd.sublist (List.take_sublist _ _)) rfl
   rw[show bE ((esN ss).take i) sn=(esN ss).take (i+1)by rw[show bE ((esN ss).take i) sn=(esN ss).take i++[sn]from qZ (o7 snd esi),qq,esi];rfl]at this
   exact this
 rintro σ H2 ⟨⟨v3,v4,rfl⟩,s2,B2⟩
 have et:(esN ss).take ss.length=ss.map (·.1):=by unfold esN;rw[List.take_left' (by rw[q5])]
 rw[ul,qG,et]at B2
 have gtn:(">":Str)∉ss.map (·.1):=fun h=>(List.nodup_append.mp snd).2.2 _ h _ (by simp) rfl
 have ggt:(esN ss)[ss.length]?=some (">":Str):=by unfold esN;rw[qK (by rw[q5];exact qd _),q5,Nat.sub_self];rfl
 refine⟨_,rfl,p,_,_,rfl,(B2 fun _=>0).ro,aR Qd,qr _,fun f hf=>?_⟩
 have e3:=aa.new hf (.tup [])
 have nn:(ah.mk (ss.map fun s=>(⟨.int s.2,[]⟩:LnD)) [] [] fun _=>0).n=ss.length:=by
  show(ss.map _).length=_
  rw[q5]
 refine⟨c,_,_,_,.non,f,[],rfl,(B2 fun _=>0).same e3,ae,⟨by show(ss.map _).length+1<=_;rw[q5];omega,by show 0+1<=100000;decide,by show 0+1<=100000;decide⟩,fun H4 m4 em4 k4 B4=>?_⟩
 rw[nn]at em4
 subst em4
 have B4':∀g,BG a H4 c (ss.map (·.1)) (feN ss) ⟨(ss.map fun s=>(⟨.int s.2,[]⟩:LnD))++[⟨.non,[]⟩],[],[],g⟩:=fun g=>⟨B4.ro,B4.eo,B4.co,B4.ne,B4.de,B4.nd,B4.ln,B4.pt⟩
 refine⟨_,rfl,p,_,_,_,_,rfl,B4.ro,T.cl_Bench,T.nf_Bench_ends,hZ,de,_,rfl,.inl ⟨_,.inr (">":Str),B4.eo,rfl,by rw[fh,q5];exact iA Qo,rfl⟩,?_⟩
 have s4:aa H H4:=fun b o h=>k4 b o (fun z=>by rw[z,n1]at h;cases h) (fun z=>by rw[z,n2]at h;cases h) (fun z=>by rw[z,n4]at h;cases h) (e3 _ _ (s2 _ _ h))
 have B5:∀g,BG a (upd H4 de (.dK (bd (tab (ss.map (·.1)) (feN ss)) (.inr (">":Str)) (.int ss.length)))) c (esN ss) (feN ss) ⟨(ss.map fun s=>(⟨.int s.2,[]⟩:LnD))++[⟨.non,[]⟩],[],[],g⟩:=fun g=>by
  have:=keepE (B4' g) (v:=(ss.length:Int)) (x:=(">":Str)) (by show(((esN ss).idxOf (">":Str):Nat):Int)=_;rw[ji snd ggt]) (List.nodup_append.mp snd).1 rfl
  rw[show bE (ss.map (·.1)) (">":Str)=esN ss from qZ gtn]at this
  exact this
 have s5:aa H (upd H4 de (.dK (bd (tab (ss.map (·.1)) (feN ss)) (.inr (">":Str)) (.int ss.length)))):=aa.over s4 n3
 generalize upd H4 de (.dK (bd (tab (ss.map (·.1)) (feN ss)) (.inr (">":Str)) (.int ss.length)))=H6 at B5 s5 ⊢
 clear B4 B4' B2 k4 s4
 have inC:∀k,k∈ak\/k∈(ag ds).flatMap a9.names->k∈C:=fun k hk=>PO.akC k (by
  unfold bT
  rcases hk with h|h
  ·simp[h]
  ·obtain⟨d,hd,hk⟩:=List.mem_flatMap.mp h
   have:k∈cards ds:=List.mem_flatMap.mpr ⟨d,hd,by unfold a9.cards;simp[hk]⟩
   simp[this])
 have al:=PO.al
 have fl:=PO.fl
 have c20:=PO.c20
 refine⟨_,rfl,_,rfl,pr,la,ls,lb,ln,ak,ns,ds,C,rfl,s5 _ _ RP.top,s5 _ _ RP.as,s5 _ _ PO.hn,RL.same s5 RP.bo,PO.dp,PO.fl,Qo,PO.nl,fun k hk=>inC k (.inl hk),fun k hk=>inC k (.inr hk),Qo,fun H7 d zv m7 nd7 d7 vr=>?_⟩
 have s7:=s5.trans m7
 refine⟨_,rfl,pr,la,ls,lb,ak,ss,ds,us,C,rfl,RP.same s7,PO.dp,Qo,al,sl,PO.s1,PO.akC,Qo,PO.c1,fun H8 l8 zs s8 h8 nd hm so=>⟨l8,rfl,⟨_,SqL.of h8⟩,?_⟩⟩
 have B8:=fun g=>((B5 g).same m7).same s8
 have d8:=s8 _ _ d7
 have s08:=s7.trans s8
 obtain⟨o1,o2,o3,_,_⟩:=(B5 fun _=>0).off (o:=.lst []) nd7
 have zfew:zs.length<=20:=qx (bS nd fun q hq=>PO.akC q ((hm q).mp hq)) c20
 have gt:(">":Str)∈zs:=(hm _).mpr (by unfold bT;simp)
 have o8:l8≠ll/\l8≠lp/\l8≠dc:=by
  obtain⟨xl,hl,rl⟩:=(B8 fun _=>0).ln
  obtain⟨xp,hp',rp⟩:=(B8 fun _=>0).pt
  have hl:H8 ll=some (.lst xl):=hl
  have hp':H8 lp=some (.lst xp):=hp'
  have co:H8 dc=some (.dK _):=(B8 fun _=>0).co
  refine⟨fun z=>?_,fun z=>?_,fun z=>?_⟩
  ·rw[z,hl]at h8
   injection h8 with h8
   injection h8 with h8
   cases zs with
   |nil=>simp at gt
   |cons y r=>
    cases xl with
    |nil=>simp at h8
    |cons v xl=>
     obtain⟨dl,hdl,u,f',ev,_⟩:=rl.at (i:=0) (x:=v) rfl
     rw[qR]at h8
     injection h8 with h8
     rw[ev]at h8
     cases h8
  ·rw[z,hp']at h8
   have e0:=rp.len
   injection h8 with h8
   injection h8 with h8
   rw[h8]at e0
   simp at e0
   rw[e0]at gt
   simp at gt
  ·rw[z,co]at h8;cases h8
 generalize hg:(fun z:Str=>((ss.length+1+zs.idxOf z:Nat):Int))=g
 have gz:∀i z,zs[i]?=some z->g z=((ss.length+1+i:Nat):Int):=fun i z hz=>by
  rw[<- hg]
  show((ss.length+1+zs.idxOf z:Nat):Int)=_
  rw[ji nd hz]
 have begz:∀z,(bv (tab zv (ba (ak.zip ns))) (.inr z)).getD (.int 0)=.int (ba (ak.zip ns) z):=fun z=>by
  by_cases h:z∈zv
  ·rw[gi h]
   rfl
  ·rw[jN h]
   have:z∉ak:=fun h'=>h ((vr.mem z).mpr (.inl h'))
   have:z∉(ak.zip ns).map (·.1):=fun h'=>by
    obtain⟨⟨u,v⟩,hu,rfl⟩:=List.mem_map.mp h'
    exact this (List.of_mem_zip hu).1
   rw[uX this]
   rfl
 refine cC (K:=K) (a:=l8) (xs:=zs.map V.str) (fun i σ H9=>(∃v6,σ=[some (.ref pr),some (.ref ln),some (.ref p),v3,v4,some (.ref d),v6])/\Fb c H8 H9/\BG a H9 c (esN ss) (feN ss) ⟨(ss.map fun s=>(⟨.int s.2,[]⟩:LnD))++[⟨.non,[]⟩]++(zs.take i).map (fun z=>⟨.int 1,[ba (ak.zip ns) z]⟩),[],zs.take i,g⟩) ⟨⟨_,rfl⟩,Fb.refl,by simpa using B8 g⟩ ?_ ?_ ?_
 ·rintro i σ H9 _ ⟨_,k9,_⟩
  exact SqL.of (k9 _ _ o8.1 o8.2.1 o8.2.2 h8)
 ·rintro i y σ H9 hx ⟨⟨v6,rfl⟩,k9,B9⟩
  rw[qD]at hx
  obtain⟨z,hz,rfl⟩:=qP.mp hx
  have i2:i<zs.length:=(qe.mp hz).1
  have d9:=k9 _ _ o1 o2 o3 d8
  have n9:(ah.mk ((ss.map fun s=>(⟨.int s.2,[]⟩:LnD))++[⟨.non,[]⟩]++(zs.take i).map (fun z=>⟨.int 1,[ba (ak.zip ns) z]⟩)) [] (zs.take i) g).n=ss.length+1+i:=by
   show List.length (_++_)=_
   rw[qa,qa,q5,q5,qJ,List.length_singleton]
   omega
  refine⟨_,rfl,p,_,_,rfl,B9.ro,aR Qd,_,rfl,d,rfl,.inl ⟨_,.inl d9⟩,_,rfl,_,dk.k (k:=.inr z) d9,ln1,?_⟩
  rw[begz]
  refine fun f9 hf9=>?_
  have e10:=aa.new hf9 (.tup [.int (ba (ak.zip ns) z)])
  have f10:upd H9 f9 (.tup [.int (ba (ak.zip ns) z)]) f9=some (.tup ([ba (ak.zip ns) z].map V.int)):=ae
  refine⟨c,_,_,_,.int 1,f9,[ba (ak.zip ns) z],rfl,B9.same e10,f10,⟨by show ah.n _+1<=_;rw[n9];omega,by show 0+1<=100000;decide,by show(zs.take i).length+1<=_;rw[qJ];omega⟩,fun H11 m11 em11 k11 B11=>?_⟩
  rw[n9,<- gz i z hz]at em11
  subst em11
  refine⟨_,rfl,p,_,_,_,_,rfl,B11.ro,T.cl_Bench,T.nf_Bench_coming,nj,_,rfl,dc,_,rfl,.inl ⟨_,.inr z,B11.co,rfl,by rw[fh];exact iA (by show(zs.take i).length<=_;rw[qJ];omega),rfl⟩,?_⟩
  obtain⟨B12,k12⟩:=B11.put (z:=z) (v:=g z)
  refine⟨⟨_,rfl⟩,k9.trans ((aa.fb e10 k11).trans k12),?_⟩
  have e13:zs.take (i+1)=zs.take i++[z]:=by rw[qq,hz];rfl
  rw[e13,qO,<- qM]
  have:bE (zs.take i) z=zs.take i++[z]:=qZ (o7 nd hz)
  rw[<- this]
  have eg:bi g z (g z)=g:=pL rfl
  have B12':BG a _ c (esN ss) (feN ss) ⟨_,[],bE (zs.take i) z,bi g z (g z)⟩:=B12
  rw[eg]at B12'
  exact B12'
 ·rintro σ H9 ⟨⟨v6,rfl⟩,k9,B9⟩
  rw[q5,qG]at B9
  refine⟨_,rfl,q H9 c zs ((⟨s08,n1,n2,n4⟩:Lt c H H8).next k9) ?_ ⟨nd,hm,so⟩⟩
  rw[<- hg]at B9
  exact B9
theorem zH (T:Tx P w K mg a):aD P w K mg base CX0 72 a.net_of a.fd_net_of ["program","numbers"] (oF a):=by
 have hB:=zU (base:=base) T 13
 refine T.F_net_of.ok pN (fun vs H Q E h=>?_) (fun cdv A outer s H vs Q E hr h=>?_)
 ·obtain⟨_,_,_,_,_,_,_,_,_,_,_,rfl,_⟩:=h
  rfl
 obtain⟨pr,la,ls,lb,ln,ak,ss,ns,ds,us,C,rfl,PO,q⟩:=h
 refine⟨_,(ai (aA (i:=2) pN.nd rfl (Or.inl rfl) (aB (zV T) (hr.mono Qk) rfl T.m_bench_for T.F_bench_for.kp T.b_bench_for .nil ap (a8 (pq 0) (a8 (pq 1) ad))))
  (ai (aI (aB hB (hr.mono Qk) rfl T.m_lay_block T.F_lay_block.kp T.b_lay_block .nil ap (a8 (pq 2) (a8 (aq ar (pq 0) af (fun _ _=>rfl)) ad))))
  (ai (aI (aQ (pq 2) T.cl_Bench T.mt_Bench_add_part (cZ T) (hr.mono Qk) T.b_Bench_add_part .nil ap (a8 (aL (a8 aF (a8 (aQ (pq 2) T.cl_Bench T.mt_Bench_wires_of (eh T) (hr.mono Qk) T.b_Bench_wires_of .nil ap (a8 (aB (sq T) (hr.mono Qk) rfl T.m_cards_of T.F_cards_of.kp T.b_cards_of .nil ap (a8 (pq 0) ad)) ad)) (a8 (aL ad) (a8 (aL ad) ad))))) ad)))
  (ao (aH (aL (a8 (cK (pq 2) rfl) (a8 (cK (pq 2) rfl) (a8 (yQ rfl rfl T.z_list (cK (pq 2) rfl)) ad))))))))),?_⟩
 have RP:=PO.rp
 have fl:=PO.fl
 have c20:=PO.c20
 have sl:=PO.sl
 refine⟨_,rfl,_,rfl,pr,la,ls,lb,ln,ak,ss,ns,ds,us,C,rfl,PO,fun H1 c zs lt B cr=>?_⟩
 have zC:∀z∈zs,z∈C:=fun z hz=>PO.akC z ((cr.mem z).mp hz)
 have zf:zs.length<=20:=qx (bS cr.nd zC) c20
 have cz:∀x,x∈cards ds->x∈zs:=fun x h=>(cr.mem x).mpr (by unfold bT;simp[h])
 have bo:BO zs (esN ss) ds:=by
  refine⟨fun d hd=>⟨fun k hk=>cz k (List.mem_flatMap.mpr ⟨d,hd,hk⟩),fun s x h=>?_⟩,PO.dp,Qo⟩
  have hs:=PO.st d hd s x h
  refine⟨hs,?_⟩
  unfold esN at hs
  rcases qg.mp hs with h|h
  ·obtain⟨p,hp,rfl⟩:=List.mem_map.mp h
   exact PO.s1 p hp
  ·rw[qS.mp h]
   decide
 have nd1:bV a c zs (esN ss) (feN ss) H H1 (cO ss zs (ba (ak.zip ns))):=⟨B,lt,fun x hx=>hx,by unfold esN;simp,zf,fun k hk=>PO.c1 k (zC k hk)⟩
 have wl:=nH ds
 have ln0:(cO ss zs (ba (ak.zip ns))).ls.length=ss.length+1+zs.length:=by
  show List.length (_++_)=_
  rw[qa,qa,q5,q5,List.length_singleton]
 have pn0:(cO ss zs (ba (ak.zip ns))).ps.length=0:=rfl
 have cn0:(cO ss zs (ba (ak.zip ns))).cs.length=zs.length:=rfl
 have sm:Sm (cO ss zs (ba (ak.zip ns))) (1+wts ds):=⟨Qo,Qo,Qo⟩
 refine⟨_,rfl,_,rfl,pr,_,2,_,rfl,rfl,SqT.of (lt.e0 _ _ RP.top),rfl,c,zs,_,_,H,_,lb,ds,rfl,nd1,RP.bo,fun d hd=>.inl (bo.mem hd),by have:=PO.dp;omega,sm.le Qo,fun H2 N2 k2 B2 lay gr=>?_⟩
 have nd2:=nd1.next k2 B2 gr
 refine⟨_,rfl,c.p,_,_,rfl,B2.ro,aR Qd,_,rfl,c.p,_,_,rfl,B2.ro,aR Qd,_,rfl,pr,la,ls,lb,ak,ss,ds,us,C,rfl,RP.same nd2.lt.e0,PO.dp,Qo,PO.al,PO.sl,PO.s1,PO.akC,Qo,PO.c1,fun H3 l3 zs3 s3 h3 nd3 hm3 so3=>?_⟩
 have ez:zs3=zs:=jY nd3 cr.nd so3 cr.so fun k=>(hm3 k).trans (cr.mem k).symm
 subst ez
 refine⟨c,_,_,N2,l3,zs3,rfl,B2.same s3,h3,Qo,fun x hx=>nd2.sub x hx,fun H4 t4 s4 n4 h4=>?_⟩
 refine⟨qr _,fun t5 ht5=>⟨qr _,fun t6 ht6=>⟨ln4,fun t7 ht7=>?_⟩⟩⟩
 have e5:=aa.new ht5 (.tup [])
 have e6:=aa.new ht6 (.tup [])
 have e7:=aa.new ht7 (.tup [.str "pass",.ref t4,.ref t5,.ref t6])
 have s47:=e5.trans (e6.trans e7)
 have s27:=s3.trans (s4.trans s47)
 refine⟨c,_,_,N2,.ref t7,.pas (zs3.map N2.fc) [] [],rfl,B2.same s27,⟨t7,t4,t5,t6,rfl,ae,s47 _ _ h4,e7 _ _ (e6 _ _ ae),e7 _ _ ae⟩,(sm.next gr Qo).le Qo,fun H8 k8 B8=>?_⟩
 have nd8:=(nd2.same s27).next k8 B8 bC
 refine⟨_,rfl,c.p,_,_,_,_,rfl,B8.ro,T.cl_Bench,T.nf_Bench_lines,ni,_,rfl,c.p,_,_,_,_,rfl,B8.ro,T.cl_Bench,T.nf_Bench_parts,uU,_,rfl,c.p,_,_,_,_,rfl,B8.ro,T.cl_Bench,T.nf_Bench_ends,hZ,c.de,_,rfl,B8.eo,fun H9 l9 ts s9 n9 h9 tl hts=>⟨ln3,fun t10 ht10=>?_⟩⟩
 have e10:=aa.new ht10 (.tup [.ref c.ll,.ref c.lp,.ref l9])
 have s810:=s9.trans e10
 refine q _ t10 c l9 zs3 N2 (nd8.lt.e0.trans s810) (aa.none (nd8.lt.e0.trans s9) ht10) ae (B8.same s810) ?_ cr lay gr
 refine⟨ts,e10 _ _ h9,by rw[tl,fh],fun j u z hu hz=>?_⟩
 refine e10 _ _ (hts j u (.inr z,.int (feN ss z)) hu ?_).1
 unfold tab
 rw[qD,hz]
 rfl
theorem fH (T:Tx P w K mg a):aD P w K mg base CX0 1 a._law_pick a.fd__law_pick ["_law_cell","_law_factor","_law_prime","_law_many"] p7:=by
 refine T.F__law_pick.ok xK (fun vs H Q E h=>?_) (fun cdv A outer s H vs Q E hr h=>?_)
 ·obtain⟨_,_,_,_,rfl,_⟩:=h
  rfl
 obtain⟨c,f,p,m,rfl,cb,hf,hp,hm,q⟩:=h
 refine⟨_,(ao (aH (ax bM (ax bM (ax gO (pq 0) (pq 1)) (pq 2)) (pq 3)))),?_⟩
 exact⟨_,rfl,_,rfl,_,_,rfl,rfl,IntMulOk.of_right (intBits_le_64 Qo Qo),_,rfl,_,_,rfl,rfl,hp.1,_,rfl,_,_,rfl,rfl,hm.1,q⟩
theorem AK (i:Int) (h0:0<=i) (h1:i<14):atI ("bcdfgjkmnqvxyz":Str).cps.toList i=some (mB.getD i.toNat 0):=by
 obtain⟨n,rfl⟩:∃n:Nat,i=n:=⟨i.toNat,Qo⟩
 have:∀n:Fin 14,atI ("bcdfgjkmnqvxyz":Str).cps.toList ((n.val:Nat):Int)=some (mB.getD ((n.val:Nat):Int).toNat 0):=Qd
 exact this ⟨n,Qo⟩
theorem jB (i:Int):(chN i).length=1:=rfl
theorem sK {z:Str}(h:z.length=1) {n:Int}(h0:0<=n):(Txt.mul z n).length=n.toNat:=by rw[Ap z h0,h,Nat.one_mul]
theorem nr (x y:Str):(x++y).length=x.length+y.length:=by
 show(x.cps++y.cps).size=_
 rw[Array.size_append]
 rfl
def nm2 (r u v:Int):List Str:=(List.range 6).map fun k:Nat=>Txt.mul ("q":Str) u++chN (r+k)++Txt.slice ("vz":Str) none (some v)
theorem Aj:∀(r:Fin 14) (u v:Fin 3),(nm2 (r.val:Nat) (u.val:Nat) (v.val:Nat)).Nodup/\∀z∈nm2 (r.val:Nat) (u.val:Nat) (v.val:Nat),z.length<=100/\PyData.strOk z=true/\z≠("w":Str)/\z≠(">":Str):=Qd
theorem Ak:∀(r:Fin 14) (k:Fin 6),PyData.strOk (Txt.mul (chN ((r.val:Nat):Int)) (((k.val:Nat):Int)+1))=true/\Txt.mul (chN ((r.val:Nat):Int)) (((k.val:Nat):Int)+1)≠("w":Str)/\Txt.mul (chN ((r.val:Nat):Int)) (((k.val:Nat):Int)+1)≠(">":Str):=Qd
theorem j3 (c:Int):(nmN c).length=6/\(nmN c).Nodup/\∀z∈nmN c,z.length<=100/\PyData.strOk z=true/\z≠("w":Str)/\z≠(">":Str):=by
 have r0:0<=c / 9 % 14:=Int.emod_nonneg _ Qk
 have r1:c / 9 % 14<14:=Int.emod_lt_of_pos _ Qk
 unfold nmN
 split
 ·have lens:∀k:Nat,(Txt.mul (chN (c / 9+(0:Nat))) (((k:Nat):Int)+1)).length=k+1:=fun k=>by
   rw[sK (jB _) Qo]
   omega
  refine⟨by rw[q5,List.length_range],?_,fun z hz=>?_⟩
  ·refine List.nodup_iff_pairwise_ne.mpr ?_
   rw[List.pairwise_map]
   refine List.Pairwise.imp ?_ (List.nodup_range (n:=6))
   intro x y h e
   have:=congrArg Str.length e
   rw[lens,lens]at this
   omega
  ·obtain⟨k,hk,rfl⟩:=List.mem_map.mp hz
   have hk:=List.mem_range.mp hk
   refine⟨by rw[lens];omega,?_⟩
   have ok:=Ak ⟨(c / 9 % 14).toNat,Qo⟩ ⟨k,hk⟩
   dsimp only at ok
   rw[show(((c / 9 % 14).toNat:Nat):Int)=c / 9 % 14 by omega]at ok
   have:chN (c / 9+(0:Nat))=chN (c / 9 % 14):=by
    unfold chN
    rw[show(c / 9+((0:Nat):Int)) % 14=c / 9 % 14 % 14 by omega]
   rw[this]
   exact ok
 ·have u0:0<=c % 3:=Int.emod_nonneg _ Qk
  have u1:c % 3<3:=Int.emod_lt_of_pos _ Qk
  have v0:0<=c / 3 % 3:=Int.emod_nonneg _ Qk
  have v1:c / 3 % 3<3:=Int.emod_lt_of_pos _ Qk
  have en:((List.range 6).map fun k:Nat=>Txt.mul ("q":Str) (c % 3)++chN (c / 9+k)++Txt.slice ("vz":Str) none (some (c / 3 % 3)))=nm2 (c / 9 % 14) (c % 3) (c / 3 % 3):=by
   unfold nm2
   refine List.map_congr_left fun k _=>?_
   have:chN (c / 9+k)=chN (c / 9 % 14+k):=by
    unfold chN
    rw[show(c / 9+(k:Int)) % 14=(c / 9 % 14+(k:Int)) % 14 by omega]
   rw[this]
  have ok:=Aj ⟨(c / 9 % 14).toNat,Qo⟩ ⟨(c % 3).toNat,Qo⟩ ⟨(c / 3 % 3).toNat,Qo⟩
  dsimp only at ok
  rw[show(((c / 9 % 14).toNat:Nat):Int)=c / 9 % 14 by omega,show(((c % 3).toNat:Nat):Int)=c % 3 by omega,show(((c / 3 % 3).toNat:Nat):Int)=c / 3 % 3 by omega,<- en]at ok
  exact⟨by rw[q5,List.length_range],ok.1,ok.2⟩
theorem A0 (T:Tx P w K mg a):aD P w K mg base CX0 1 a._law_names a.fd__law_names ["_law_cell"] pe:=by
 refine T.F__law_names.ok km (fun vs H Q E h=>?_) (fun cdv A outer s H vs Q E hr h=>?_)
 ·obtain⟨_,rfl,_⟩:=h
  rfl
 obtain⟨c,rfl,cb,q⟩:=h
 refine⟨_,(ai (aA (i:=1) km.nd rfl (Or.inr rfl) aF)
  (ai (aA (i:=2) km.nd rfl (Or.inr rfl) (cL (k:=1) (Nc:=["_law_k","_law_letters","_law_cell"]) (js:=[1,0]) (show aX (aC fB) ["_law_cell","_law_letters","_law_some"] _ 1 ["_law_k","_law_letters","_law_cell"] [1,0]from aX.mk rfl (by decide +kernel) (by decide +kernel) (by decide +kernel) rfl (by decide +kernel)) rfl (gJ rfl T.z_range (a8 af ad)) (fun _ _ _ _ _=>(aW (i:=0) (show List.Nodup (["_law_k","_law_letters","_law_cell"]:List Str)from by decide +kernel) rfl (Or.inl rfl))) (fun _ _ _ _ _=>cT) (fun _ _ _ _ _=>(aq tu (pq 1) (ax bM (ax gE (ax dS (pq 2) af) (pq 0)) af) (fun _ _=>rfl)))))
  (ai (aU (aO bn (ax bM (ax dS (pq 0) af) af) af (aT _)) (ao (aH (cL (k:=1) (Nc:=["_law_k","_law_some"]) (js:=[2]) (show aX (aC fB) ["_law_cell","_law_letters","_law_some"] _ 1 ["_law_k","_law_some"] [2]from aX.mk rfl (by decide +kernel) (by decide +kernel) (by decide +kernel) rfl (by decide +kernel)) rfl (gJ rfl T.z_range (a8 af ad)) (fun _ _ _ _ _=>(aW (i:=0) (show List.Nodup (["_law_k","_law_some"]:List Str)from by decide +kernel) rfl (Or.inl rfl))) (fun _ _ _ _ _=>cT) (fun _ _ _ _ _=>(ax rX (aq (rg (K:=K) rfl) (pq 1) af (fun _ _=>rfl)) (ax gE (pq 0) af)))))) bA)
  (ao (aH (cL (k:=1) (Nc:=["_law_sign","_law_cell"]) (js:=[0]) (show aX (aC fB) ["_law_cell","_law_letters","_law_some"] _ 1 ["_law_sign","_law_cell"] [0]from aX.mk rfl (by decide +kernel) (by decide +kernel) (by decide +kernel) rfl (by decide +kernel)) rfl (bH (pq 2)) (fun _ _ _ _ _=>(aW (i:=0) (show List.Nodup (["_law_sign","_law_cell"]:List Str)from by decide +kernel) rfl (Or.inl rfl))) (fun _ _ _ _ _=>cT) (fun _ _ _ _ _=>(ax fD (ax fD (ax rX aF (ax bM (pq 1) af)) (pq 0)) (iY x5 aF lT (gI (ax bM (ax dS (pq 1) af) af))))))))))),?_⟩
 refine⟨6,rfl,Qk,Qk,?_⟩
 refine jz (fun i ys σ H2=>(∃v,σ=[v,some (.str "bcdfgjkmnqvxyz"),some (.int c)])/\H2=H/\ys=(List.range i).map fun k:Nat=>V.str (chN (c / 9+k))) ⟨⟨_,rfl⟩,rfl,rfl⟩ ?_ Qk ?_ ?_
 ·rintro i ys σ H2 _ ⟨_,_,rfl⟩
  rw[q5,List.length_range]
  exact qd _
 ·rintro i ys σ H2 hi ⟨⟨v,rfl⟩,rfl,rfl⟩
  refine⟨_,rfl,_,rfl,_,_,rfl,rfl,⟨Qk,Qk⟩,_,rfl,_,_,rfl,rfl,_,_,rfl,rfl,Qk,_,_,_,rfl,rfl,Qd,AK _ (Int.emod_nonneg _ Qk) (Int.emod_lt_of_pos _ Qk),⟨_,rfl⟩,rfl,?_⟩
  rw[List.range_succ,qO]
  rfl
 rintro ys σ H2 ⟨_,rfl,rfl⟩ l1 hl1
 have e1:=aa.new hl1 (.lst ((List.range (6:Int).toNat).map fun k:Nat=>V.str (chN (c / 9+k))))
 have l1':upd H2 l1 (.lst ((List.range (6:Int).toNat).map fun k:Nat=>V.str (chN (c / 9+k)))) l1=some (.lst (((List.range 6).map fun k:Nat=>chN (c / 9+k)).map V.str)):=by
  rw[ae,List.map_map]
  rfl
 generalize upd H2 l1 (.lst ((List.range (6:Int).toNat).map fun k:Nat=>V.str (chN (c / 9+k))))=H3 at e1 l1' ⊢
 refine⟨_,rfl,_,_,rfl,rfl,⟨Qk,Qk⟩,_,_,rfl,rfl,Qk,rfl,_,rfl,fN (fun c1=>?_) (fun c1=>?_)⟩
 ·have c1:c / 126 % 3=1:=by simpa using c1
  have en:(nmN c).map V.str=(List.range 6).map fun k:Nat=>V.str (Txt.mul (chN (c / 9+(0:Nat))) (((k:Nat):Int)+1)):=by
   unfold nmN
   rw[Q0 c1,List.map_map]
   rfl
  refine⟨6,rfl,Qk,Qk,?_⟩
  refine jz (fun i ys σ H4=>(∃v,σ=[v,some (.ref l1)])/\H4=H3/\ys=(List.range i).map fun k:Nat=>V.str (Txt.mul (chN (c / 9+(0:Nat))) (((k:Nat):Int)+1))) ⟨⟨_,rfl⟩,rfl,rfl⟩ ?_ Qk ?_ ?_
  ·rintro i ys σ H4 _ ⟨_,_,rfl⟩
   rw[q5,List.length_range]
   exact qd _
  ·rintro i ys σ H4 hi ⟨⟨v,rfl⟩,rfl,rfl⟩
   have hi:i<6:=hi
   refine⟨_,rfl,l1,_,0,_,rfl,rfl,SqL.of l1',i4,_,rfl,_,_,rfl,rfl,_,_,rfl,rfl,sJ (by rw[jB];decide) Qo Qo,⟨_,rfl⟩,rfl,?_⟩
   rw[List.range_succ,qO]
   rfl
  rintro ys σ H4 ⟨_,rfl,rfl⟩ l5 hl5
  exact q _ l5 (e1.trans (aa.new hl5 _)) (aa.none e1 hl5) (by rw[ae,en];rfl)
 ·have c1:¬ c / 126 % 3=1:=by simpa using c1
  have en:(nmN c).map V.str=(List.range 6).map fun k:Nat=>V.str (Txt.mul ("q":Str) (c % 3)++chN (c / 9+k)++Txt.slice ("vz":Str) none (some (c / 3 % 3))):=by
   unfold nmN
   rw[qZ c1,List.map_map]
   rfl
  refine⟨_,rfl,l1,rfl,⟨_,SqL.of l1'⟩,?_⟩
  have u0:0<=c % 3:=Int.emod_nonneg _ Qk
  have u1:c % 3<3:=Int.emod_lt_of_pos _ Qk
  have v0:0<=c / 3 % 3:=Int.emod_nonneg _ Qk
  have v1:c / 3 % 3<3:=Int.emod_lt_of_pos _ Qk
  refine eT (K:=K) (a:=l1) (xs:=((List.range 6).map fun k:Nat=>chN (c / 9+k)).map V.str) (fun i ys σ H4=>(∃v,σ=[v,some (.int c)])/\H4=H3/\ys=(List.range i).map fun k:Nat=>V.str (Txt.mul ("q":Str) (c % 3)++chN (c / 9+k)++Txt.slice ("vz":Str) none (some (c / 3 % 3)))) ⟨⟨_,rfl⟩,rfl,rfl⟩ ?_ (by rw[q5,q5,List.length_range];decide) ?_ ?_ ?_
  ·rintro i ys σ H4 _ ⟨_,_,rfl⟩
   rw[q5,List.length_range]
   exact qd _
  ·rintro i ys σ H4 ⟨_,rfl,_⟩
   exact SqL.of l1'
  ·rintro i x ys σ H4 hx ⟨⟨v,rfl⟩,rfl,rfl⟩
   rw[qD,qD]at hx
   obtain⟨z,hz,rfl⟩:=qP.mp hx
   obtain⟨k,hk,rfl⟩:=qP.mp hz
   have hk':k=i:=by
    have lt:=(qe.mp hk).1
    have e:=(qe.mp hk).2
    rw[List.getElem_range]at e
    exact e.symm
   subst hk'
   have ql:(Txt.mul ("q":Str) (c % 3)).length=(c % 3).toNat:=sK rfl u0
   refine⟨_,rfl,_,_,rfl,rfl,Qk,_,_,rfl,rfl,sJ Qk Qo Qo,_,rfl,_,_,rfl,rfl,aM (m:=1000) (by rw[ql,jB];omega),?_⟩
   have sl:(Txt.slice ("vz":Str) none (some (c / 3 % 3))).length<=2:=by
    have:∀n:Fin 3,(Txt.slice ("vz":Str) none (some ((n.val:Nat):Int))).length<=2:=Qd
    have h:=this ⟨(c / 3 % 3).toNat,Qo⟩
    rwa [show(((c / 3 % 3).toNat:Nat):Int)=c / 3 % 3 by omega]at h
   refine⟨_,rfl,_,_,rfl,rfl,⟨Qk,Qk⟩,_,_,rfl,rfl,Qk,_,rfl,_,rfl,Qk,_,_,rfl,rfl,aM (m:=1000) (by rw[nr,ql,jB];omega),⟨_,rfl⟩,rfl,?_⟩
   rw[List.range_succ,qO]
   rfl
  rintro ys σ H4 ⟨_,rfl,rfl⟩ l5 hl5
  rw[q5,q5,List.length_range]
  exact q _ l5 (e1.trans (aa.new hl5 _)) (aa.none e1 hl5) (by rw[ae,en])
theorem sv (T:Tx P w K mg a):aD P w K mg base CX0 1 a._law_value a.fd__law_value ["_law_number","_law_names_here"] oX:=by
 refine T.F__law_value.ok pS (fun vs H Q E h=>?_) (fun cdv A outer s H vs Q E hr h=>?_)
 ·obtain⟨_,_,_,rfl,_⟩:=h
  rfl
 obtain⟨n,l,zs,rfl,hn,hl,z6,q⟩:=h
 refine⟨_,(ai (aA (i:=2) pS.nd rfl (Or.inl rfl) (ax bM (pq 0) af))
  (ai (aU (aO gD (pq 2) (aV bO rfl T.z_len PySem.boot_len (a8 (pq 1) ad)) (aT _)) (ao (aH (aq bX (pq 1) (pq 2) (fun _ _=>rfl)))) bA)
  (ai (aU (aO bn (pq 2) af (aT _)) (ao (aH (ax bM (ax dS (pq 0) af) af))) bA)
  (ao (aH (ax bM (ax gO (pq 0) (ax fI af af)) (ax fI af af))))))),?_⟩
 have m0:0<=n % 9:=Int.emod_nonneg _ Qk
 have m1:n % 9<9:=Int.emod_lt_of_pos _ Qk
 refine⟨_,rfl,_,_,rfl,rfl,Qk,?_⟩
 refine⟨_,rfl,_,rfl,l,_,rfl,.inl (SqL.of hl),_,_,rfl,rfl,_,rfl,?_⟩
 rw[q5,z6]
 unfold vaN at q
 by_cases h6:n % 9<6
 ·refine bR (decide_eq_true h6) ?_
  rw[Q0 h6]at q
  have lt:(n % 9).toNat<zs.length:=Qo
  rw[qi,qb lt]at q
  exact⟨_,rfl,_,rfl,l,_,_,_,rfl,rfl,SqL.of hl,uZ m0 (by rw[qD,qb lt];rfl),q⟩
 ·refine aZ (decide_eq_false h6) ?_
  rw[qZ h6]at q
  refine⟨_,rfl,rfl,_,rfl,?_⟩
  by_cases h7:n % 9=6
  ·refine bR (by simp[h7]) ?_
   rw[Q0 h7]at q
   exact⟨_,rfl,_,_,rfl,rfl,⟨Qk,Qk⟩,_,_,rfl,rfl,Qk,q⟩
  ·refine aZ (by simp[h7]) ?_
   rw[qZ h7]at q
   refine⟨_,rfl,_,_,rfl,rfl,⟨Qk,Qk,Qk⟩,_,_,rfl,rfl,IntMulOk.of_left (intBits_le_64 Qo Qo),_,_,rfl,rfl,⟨Qk,Qk,Qk⟩,_,_,rfl,rfl,by rw[p30];decide,?_⟩
   rw[p30,show(48271:Int) ^ (6:Int).toNat=12650793754653265942685193121 by decide +kernel]
   exact q
theorem xi (i:Int) (h0:0<=i) (h1:i<9):∃c,atI ("+-*/<=&|^":Str).cps.toList i=some c/\(⟨#[c]⟩:Str)=sgN i:=by
 have:i=0\/i=1\/i=2\/i=3\/i=4\/i=5\/i=6\/i=7\/i=8:=Qo
 rcases this with rfl|rfl|rfl|rfl|rfl|rfl|rfl|rfl|rfl<;>exact⟨_,rfl,Qd⟩
theorem zY (T:Tx P w K mg a):aD P w K mg base CX0 2 a._law_set a.fd__law_set ["_law_cell","_law_x","_law_names_here"] jX:=by
 refine T.F__law_set.ok iK (fun vs H Q E h=>?_) (fun cdv A outer s H vs Q E hr h=>?_)
 ·obtain⟨_,_,_,_,rfl,_⟩:=h
  rfl
 obtain⟨c,x,l,zs,rfl,cb,hl,z6,q⟩:=h
 refine⟨_,(ai (aA (i:=3) iK.nd rfl (Or.inl rfl) aF)
  (ai (aA (i:=4) iK.nd rfl (Or.inl rfl) (aB (sv T) (hr.mono Qk) rfl T.m__law_value T.F__law_value.kp T.b__law_value .nil ap (a8 (ax bM (ax gO (pq 0) af) af) (a8 (pq 2) ad))))
  (ai (aA (i:=5) iK.nd rfl (Or.inl rfl) (aB (sv T) (hr.mono Qk) rfl T.m__law_value T.F__law_value.kp T.b__law_value .nil ap (a8 (ax bM (ax gO (pq 0) af) af) (a8 (pq 2) ad))))
  (ao (aH (aL (a8 aF (a8 (pq 1) (a8 (pq 4) (a8 (aq tu (pq 3) (aB (fH T) (hr.mono Qk) rfl T.m__law_pick T.F__law_pick.kp T.b__law_pick .nil ap (a8 (pq 0) (a8 af (a8 af (a8 af ad))))) (fun _ _=>rfl)) (a8 (pq 5) ad))))))))))),?_⟩
 have a0:0<=c * 40692 % 40009:=Int.emod_nonneg _ Qk
 have a1:c * 40692 % 40009<40009:=Int.emod_lt_of_pos _ Qk
 have b0:0<=c * 30323 % 60013:=Int.emod_nonneg _ Qk
 have b1:c * 30323 % 60013<60013:=Int.emod_lt_of_pos _ Qk
 refine⟨_,rfl,_,_,rfl,rfl,IntMulOk.of_right (intBits_le_64 Qk Qk),_,_,rfl,rfl,Qk,_,rfl,_,l,zs,rfl,⟨a0,Qo⟩,hl,z6,?_⟩
 refine⟨_,rfl,_,_,rfl,rfl,IntMulOk.of_right (intBits_le_64 Qk Qk),_,_,rfl,rfl,Qk,_,rfl,_,l,zs,rfl,⟨b0,Qo⟩,hl,z6,?_⟩
 refine⟨_,rfl,_,rfl,_,rfl,_,rfl,_,_,_,_,rfl,cb,⟨Qk,Qk⟩,⟨Qk,Qk⟩,⟨Qk,Qk⟩,?_⟩
 obtain⟨ch,ec,hc⟩:=xi (pkN c 16807 50021 9) (dY Qk) (dZ Qk)
 refine⟨_,_,ch,rfl,rfl,Qd,ec,_,rfl,ln5,fun p hp=>?_⟩
 unfold fj at q
 rw[<- hc]at q
 exact q p _ hp fun H' h=>.set h
theorem zX (T:Tx P w K mg a):aD P w K mg base CX0 3 a._law_simple a.fd__law_simple ["_law_cell","_law_x","_law_q","_law_names_here","_law_hidden"] oY:=by
 refine T.F__law_simple.ok pU (fun vs H Q E h=>?_) (fun cdv A outer s H vs Q E hr h=>?_)
 ·obtain⟨_,_,_,_,_,_,rfl,_⟩:=h
  rfl
 obtain⟨c,x,qs,l,zs,hid,rfl,cb,hl,z6,q⟩:=h
 refine⟨_,(ai (aA (i:=5) pU.nd rfl (Or.inl rfl) (aB (fH T) (hr.mono Qk) rfl T.m__law_pick T.F__law_pick.kp T.b__law_pick .nil ap (a8 (pq 0) (a8 af (a8 af (a8 af ad))))))
  (ai (aU (aO bn (pq 5) af (aT _)) (ao (aH (aL (a8 aF (a8 (pq 1) ad))))) bA)
  (ai (aU (PW.pt (dX (aO bn (pq 5) af (aT _)) (fF (du (cJ (pq 4)))))) (ao (aH (aL (a8 aF (a8 (pq 2) (a8 (pq 1) ad)))))) bA)
  (ai (aU (PW.pt (dX (aO bn (pq 5) af (aT _)) (fF (du (cJ (pq 4)))))) (ao (aH (aL (a8 aF (a8 (pq 2) (a8 (pq 1) ad)))))) bA)
  (ao (aH (aB (zY T) (hr.mono Qk) rfl T.m__law_set T.F__law_set.kp T.b__law_set .nil ap (a8 (pq 0) (a8 (pq 1) (a8 (pq 3) ad)))))))))),?_⟩
 refine⟨_,rfl,_,_,_,_,rfl,cb,⟨Qk,Qk⟩,⟨Qk,Qk⟩,⟨Qk,Qk⟩,?_⟩
 unfold dP at q
 generalize pkN c 48271 10007 12=k at q ⊢
 refine⟨_,rfl,rfl,_,rfl,?_⟩
 by_cases k3:k=3
 ·refine bR (by simp[k3]) ?_
  rw[Q0 k3]at q
  exact⟨_,rfl,ln2,fun p hp=>q p _ hp fun H' h=>.give h⟩
 refine aZ (by simp[k3]) ?_
 rw[qZ k3]at q
 refine⟨_,rfl,rfl,_,rfl,?_⟩
 have go:¬ (k=4/\hid=false)->¬ (k=5/\hid=false)->jD H (fj c x zs) Q:=fun h4 h5=>by
  rw[qZ h4,qZ h5]at q
  exact q
 have set':∀{E':XK},jD H (fj c x zs) Q->jX [.int c,.str x,.ref l] H Q E':=fun h=>⟨c,x,l,zs,rfl,cb,hl,z6,h⟩
 by_cases k4:k=4
 ·refine bR (by simp[k4]) ?_
  cases hid with
  |false=>
   rw[Q0 ⟨k4,rfl⟩]at q
   exact⟨_,rfl,_,rfl,bR rfl ⟨_,rfl,_,rfl,ln3,fun p hp=>q p _ hp fun H' h=>.put h⟩⟩
  |true=>
   refine⟨_,rfl,_,rfl,aZ rfl ?_⟩
   refine⟨_,rfl,rfl,_,rfl,aZ (by simp[k4]) ?_⟩
   exact⟨_,rfl,_,rfl,_,rfl,set' (go (by simp) (by simp))⟩
 refine aZ (by simp[k4]) ?_
 refine⟨_,rfl,rfl,_,rfl,?_⟩
 by_cases k5:k=5
 ·refine bR (by simp[k5]) ?_
  cases hid with
  |false=>
   rw[qZ (fun h=>k4 h.1),Q0 ⟨k5,rfl⟩]at q
   exact⟨_,rfl,_,rfl,bR rfl ⟨_,rfl,_,rfl,ln3,fun p hp=>q p _ hp fun H' h=>.get h⟩⟩
  |true=>
   refine⟨_,rfl,_,rfl,aZ rfl ?_⟩
   exact⟨_,rfl,_,rfl,_,rfl,set' (go (by simp) (by simp))⟩
 refine aZ (by simp[k5]) ?_
 exact⟨_,rfl,_,rfl,_,rfl,set' (go (fun h=>k4 h.1) fun h=>k5 h.1)⟩
theorem pM {A' B':TS}{D:dh}{σ:St}{H:Hp}(Pv:St->Hp->Prop) (hb:∀σ' H',Pv σ' H'->B' D σ' H') (ha:∀N:St->Hp->Prop,(∀σ' H',Pv σ' H'->N σ' H')->A' { D with nx:=N } σ H):og A' B' D σ H:=ha _ hb
theorem j0 {zs:List Str}{i:Int}(h0:0<=i) (h1:i.toNat<zs.length):atI (zs.map V.str) i=some (.str (zs.getD i.toNat (">":Str))):=uZ h0 (by rw[qD,qb h1,qi,qb h1];rfl)
theorem A6 (T:Tx P w K mg a):aD P w K mg base CX0 4 a._law_body a.fd__law_body ["_law_cells","_law_names_here","_law_stores"] pk:=by
 refine T.F__law_body.ok cI (fun vs H Q E h=>?_) (fun cdv A outer s H vs Q E hr h=>?_)
 ·obtain⟨_,_,_,_,_,_,rfl,_⟩:=h
  rfl
 obtain⟨lc,ln,lr,cells,zs,ss,rfl,hc,c79,cb,hn,hs,z6,s2l,q⟩:=h
 refine⟨_,(ai (aA (i:=3) cI.nd rfl (Or.inl rfl) (aJ ad))
  (ai (aA (i:=4) cI.nd rfl (Or.inl rfl) (aJ (a8 (pq 3) ad)))
  (ai (aA (i:=5) cI.nd rfl (Or.inl rfl) (aJ (a8 aF ad)))
  (ai (aA (i:=6) cI.nd rfl (Or.inl rfl) (aJ (a8 (aJ ad) ad)))
  (ai (bQ PassesOwn.never rfl (bH (pq 0)) (aW (i:=7) cI.nd rfl (Or.inl rfl))
  (ai (aA (i:=8) cI.nd rfl (Or.inl rfl) (aB (fH T) (hr.mono Qk) rfl T.m__law_pick T.F__law_pick.kp T.b__law_pick .nil ap (a8 (pq 7) (a8 af (a8 af (a8 af ad))))))
  (ai (aA (i:=9) cI.nd rfl (Or.inl rfl) (aq bX (pq 1) (aB (fH T) (hr.mono Qk) rfl T.m__law_pick T.F__law_pick.kp T.b__law_pick .nil ap (a8 (pq 7) (a8 af (a8 af (a8 af ad))))) (fun _ _=>rfl)))
  (ai (aA (i:=10) cI.nd rfl (Or.inl rfl) (aq bX (pq 2) (aB (fH T) (hr.mono Qk) rfl T.m__law_pick T.F__law_pick.kp T.b__law_pick .nil ap (a8 (pq 7) (a8 af (a8 af (a8 af ad))))) (fun _ _=>rfl)))
  (ai (aA (i:=11) cI.nd rfl (Or.inl rfl) (rO (gL ef aF (pq 5) (by with_unfolding_all rfl)) (rO (gL ef aF (pq 5) (by with_unfolding_all rfl)) (lW (gL ef aF (pq 5) (by with_unfolding_all rfl))))))
  (ao (aU (PW.pt (dX (aO iU (pq 8) af (aT _)) (dX (aO gD (pq 8) af (aT _)) (fF (aO gD (aV bO rfl T.z_len PySem.boot_len (a8 (pq 4) ad)) af (aT _)))))) (ai (aA (i:=12) cI.nd rfl (Or.inl rfl) (aJ ad))
  (ai (aA (i:=13) cI.nd rfl (Or.inl rfl) (aJ ad))
  (ai (aU (aO bn (pq 8) af (aT _)) (ao (aI (bD qf qu qv ce (aq bX (pq 4) (dv dq af) (fun _ _=>rfl)) (a8 (aL (a8 aF (a8 (pq 9) (a8 (pq 12) (a8 (pq 13) ad))))) ad)))) (ao (aU (aO bn (pq 8) af (aT _)) (ao (aI (bD qf qu qv ce (aq bX (pq 4) (dv dq af) (fun _ _=>rfl)) (a8 (aL (a8 aF (a8 (pq 9) (a8 (pq 12) ad)))) ad)))) (ao (aI (bD qf qu qv ce (aq bX (pq 4) (dv dq af) (fun _ _=>rfl)) (a8 (aL (a8 aF (a8 (aB (fH T) (hr.mono Qk) rfl T.m__law_pick T.F__law_pick.kp T.b__law_pick .nil ap (a8 (pq 7) (a8 af (a8 af (a8 af ad))))) (a8 (pq 12) ad)))) ad)))))))
  (ai (aI (bD qf qu qv ce (pq 4) (a8 (pq 12) ad)))
  (ai (aI (bD qf qu qv ce (pq 6) (a8 (pq 13) ad)))
  (ao (aI (bD qf qu qv ce (pq 5) (a8 (aq bX (aJ (rV rfl)) (ax lD (pq 8) af) (fun _ _=>rfl)) ad))))))))) (ao (aU (PW.pt (dX (aO iU (pq 8) af (aT _)) (dX (aO gD (pq 8) af (aT _)) (fF (aO iU (aV bO rfl T.z_len PySem.boot_len (a8 (pq 4) ad)) af (aT _)))))) (ai (aI (lZ qf PySem.F.slot_list_pop PySem.F.type_list_pop mf (pq 4)))
  (ai (aI (lZ qf PySem.F.slot_list_pop PySem.F.type_list_pop mf (pq 5)))
  (ao (aI (lZ qf PySem.F.slot_list_pop PySem.F.type_list_pop mf (pq 6)))))) (ao (aU (PW.pt (dX (aO bn (pq 8) af (aT _)) (fF (aO bn (aq bX (pq 5) (dv dq af) (fun _ _=>rfl)) aF (aT _))))) (ai (lR (aq bX (pq 6) (dv dq af) (fun _ _=>rfl)) (lV (pq 4) (dv dq af) kf))
  (ao (lR aF (lV (pq 5) (dv dq af) kf)))) (ao (aI (bD qf qu qv ce (aq bX (pq 4) (dv dq af) (fun _ _=>rfl)) (a8 (aB (zX T) (hr.mono Qk) rfl T.m__law_simple T.F__law_simple.kp T.b__law_simple .nil ap (a8 (pq 7) (a8 (pq 9) (a8 (pq 10) (a8 (pq 1) (a8 (pq 11) ad)))))) ad)))))))))))))))
  (ao (aH (pq 3)))))))),?_⟩
 refine⟨qr _,fun b hb=>⟨_,rfl,ln1,fun s0 hs0=>⟨ln1,fun s1 hs1=>⟨qr _,fun e0 he0=>⟨ln1,fun s2 hs2=>?_⟩⟩⟩⟩⟩
 have n0b:s0≠b:=fun z=>by rw[z,ae]at hs0;cases hs0
 have hs1':=bh hs1
 have n10:s1≠s0:=fun z=>by rw[z,ae]at hs1;cases hs1
 have n1b:s1≠b:=fun z=>by rw[z,ae]at hs1';cases hs1'
 have he1:=bh he0
 have he2:=bh he1
 have hs2':=bh hs2
 have hs2'':=bh hs2'
 have hs2''':=bh hs2''
 have n21:s2≠s1:=fun z=>by rw[z,ae]at hs2';cases hs2'
 have n20:s2≠s0:=fun z=>by rw[z,ae]at hs2'';cases hs2''
 have n2b:s2≠b:=fun z=>by rw[z,ae]at hs2''';cases hs2'''
 have ne1:e0≠s1:=fun z=>by rw[z,ae]at he0;cases he0
 have ne0:e0≠s0:=fun z=>by rw[z,ae]at he1;cases he1
 have neb:e0≠b:=fun z=>by rw[z,ae]at he2;cases he2
 have e1:=((((aa.new hb (.lst [])).trans (aa.new hs0 (.lst [.ref b]))).trans (aa.new hs1 (.lst [.str ""]))).trans (aa.new he0 (.lst []))).trans (aa.new hs2 (.lst [.ref e0]))
 have k0:upd (upd (upd (upd (upd H b (.lst [])) s0 (.lst [.ref b])) s1 (.lst [.str ""])) e0 (.lst [])) s2 (.lst [.ref e0]) s0=some (.lst [.ref b]):=by rw[aj n20.symm,aj ne0.symm,aj n10.symm];exact ae
 have k1:upd (upd (upd (upd (upd H b (.lst [])) s0 (.lst [.ref b])) s1 (.lst [.str ""])) e0 (.lst [])) s2 (.lst [.ref e0]) s1=some (.lst [.str ""]):=by rw[aj n21.symm,aj ne1.symm];exact ae
 have k2:upd (upd (upd (upd (upd H b (.lst [])) s0 (.lst [.ref b])) s1 (.lst [.str ""])) e0 (.lst [])) s2 (.lst [.ref e0]) s2=some (.lst [.ref e0]):=ae
 have kb:upd (upd (upd (upd (upd H b (.lst [])) s0 (.lst [.ref b])) s1 (.lst [.str ""])) e0 (.lst [])) s2 (.lst [.ref e0]) b=some (.lst []):=by rw[aj n2b.symm,aj neb.symm,aj n1b.symm,aj n0b.symm];exact ae
 generalize upd (upd (upd (upd (upd H b (.lst [])) s0 (.lst [.ref b])) s1 (.lst [.str ""])) e0 (.lst [])) s2 (.lst [.ref e0])=H1 at e1 k0 k1 k2 kb ⊢
 have G0:GN H H H1 s0 s1 s2 [⟨⟨.root,[],false,0⟩,b,0,0⟩] [.ref e0]:=by
  refine⟨ZC.begin rfl rfl ?_ kb (fun m hm=>?_) e1 (ja k0 k1 k2),k0,k1,k2,.cons (fun y e=>by cases e) .nil⟩
  ·simp only[List.cons_append,List.nil_append,List.nodup_cons,qt,qQ,or_false,not_or]
   exact⟨⟨n10.symm,n20.symm,n0b⟩,⟨n21.symm,n1b⟩,n2b,by simp,List.nodup_nil⟩
  ·simp only[List.cons_append,List.nil_append,qt,qQ,or_false]at hm
   rcases hm with rfl|rfl|rfl|rfl
   ·exact bh hs0
   ·exact bh hs1'
   ·exact bh hs2'''
   ·exact hb
 refine⟨_,rfl,lc,rfl,⟨_,SqL.of (e1 _ _ hc)⟩,?_⟩
 refine cC (K:=K) (a:=lc) (xs:=cells.map V.int) (fun i σ H3=>∃H0 z os v7 v8 v9 v10 v11 v12 v13,σ=[some (.ref lc),some (.ref ln),some (.ref lr),some (.ref b),some (.ref s0),some (.ref s1),some (.ref s2),v7,v8,v9,v10,v11,v12,v13]/\GN H H0 H3 s0 s1 s2 z os/\z.map (·.f)=(cells.take i).foldl (cy zs ss) cH/\fW z=b) ⟨H,_,_,_,_,_,_,_,_,_,rfl,G0,rfl,rfl⟩ ?_ ?_ ?_
 ·rintro i σ H3 _ ⟨_,_,_,_,_,_,_,_,_,_,_,G,_⟩
  exact SqL.of (G.zc.hbH _ _ hc)
 ·rintro i x σ H3 hx ⟨H0,z,os,v7,v8,v9,v10,v11,v12,v13,rfl,G,hz,hbt⟩
  rw[qD]at hx
  obtain⟨c,hci,rfl⟩:=qP.mp hx
  have il:=(qe.mp hci).1
  have bits:=cb c (qy hci)
  obtain⟨x,r,vs,rfl,hxc,hrd⟩:=G.zc.top
  obtain⟨ok1,ok2,ok3⟩:=jT (ss:=ss) z6 s2l (cells.take i) cH ⟨rfl,.nil,by simp[av]⟩ (by simp[cH])
  have nxt:(cells.take (i+1)).foldl (cy zs ss) cH=cy zs ss (x.f::r.map (·.f)) c:=by rw[qq,hci,Option.toList,List.foldl_append,<- hz];rfl
  generalize (cells.take (i+1)).foldl (cy zs ss) cH=st' at nxt ⊢
  rw[<- hz]at ok1 ok2 ok3
  have rl:r.length<=5:=by
   simp at ok2
   omega
  have rml:(r.map (·.f)).length=r.length:=q5 _
  have vl:vs.length<=200:=by
   have:=vX (f:=x.f) (r:=r.map (·.f))
   have e1:cnt cH=0:=by simp[cH,cnt,ag,Op.extra,Op.one]
   rw[hrd.len]
   simp only[qR,qJ]at ok3
   omega
  clear hz ok1 ok2 ok3
  have hn3:=G.zc.hbH _ _ hn
  have hs3:=G.zc.hbH _ _ hs
  refine⟨_,rfl,_,_,_,_,rfl,bits,⟨Qk,Qk⟩,⟨Qk,Qk⟩,⟨Qk,Qk⟩,?_⟩
  have x0:=dY (c:=c) (f:=69621) (p:=20011) (m:=6) Qk
  have x1:=dZ (c:=c) (f:=69621) (p:=20011) (m:=6) Qk
  have q0:=dY (c:=c) (f:=39373) (p:=30011) (m:=2) Qk
  have q1:=dZ (c:=c) (f:=39373) (p:=30011) (m:=2) Qk
  refine⟨_,rfl,_,rfl,_,_,_,_,rfl,bits,⟨Qk,Qk⟩,⟨Qk,Qk⟩,⟨Qk,Qk⟩,ln,_,_,_,rfl,rfl,SqL.of hn3,j0 x0 Qo,?_⟩
  refine⟨_,rfl,_,rfl,_,_,_,_,rfl,bits,⟨Qk,Qk⟩,⟨Qk,Qk⟩,⟨Qk,Qk⟩,lr,_,_,_,rfl,rfl,SqL.of hs3,j0 q0 Qo,?_⟩
  unfold cy at nxt
  dsimp only at nxt
  rw[rml]at nxt
  have exN:zs.getD (pkN c 69621 20011 6).toNat (">":Str)=xN c zs:=rfl
  have eqN:ss.getD (pkN c 39373 30011 2).toNat (">":Str)=qN c ss:=rfl
  rw[exN,eqN]
  generalize hxn:xN c zs=xn at nxt ⊢
  generalize hqn:qN c ss=qn at nxt ⊢
  have k0:=dY (c:=c) (f:=48271) (p:=10007) (m:=12) Qk
  have k1:=dZ (c:=c) (f:=48271) (p:=10007) (m:=12) Qk
  have flt:((((x::r).map fun x=>V.str (kdN x.f.op)).reverse).all dF)=true:=by
   rw[List.all_reverse,List.all_map,List.all_eq_true]
   exact fun _ _=>rfl
  have hh:=Br (st:=(x::r).map (·.f))
  rw[List.map_map]at hh
  have hh:(inV (.str "if") (((x::r).map fun x=>V.str (kdN x.f.op)).reverse) || (inV (.str "else") (((x::r).map fun x=>V.str (kdN x.f.op)).reverse) || inV (.str "while") (((x::r).map fun x=>V.str (kdN x.f.op)).reverse)))=eA (x.f::r.map (·.f)):=hh
  dsimp only[hE]
  refine pM (fun σ H4=>H4=H3/\σ=[some (.ref lc),some (.ref ln),some (.ref lr),some (.ref b),some (.ref s0),some (.ref s1),some (.ref s2),some (.int c),some (.int (pkN c 48271 10007 12)),some (.str xn),some (.str qn),some (.bl (eA (x.f::r.map (·.f)))),v12,v13]) ?_ ?_
  ·rintro σ H4 ⟨e4,rfl⟩
   have e4:=e4.symm
   subst e4
   generalize eA (x.f::r.map (·.f))=hid at nxt hh ⊢
   clear hh
   refine⟨_,rfl,_,_,rfl,rfl,_,rfl,?_⟩
   have l0:((((x::r).map fun x=>V.ref x.c).reverse).length:Int)=(r.length:Int)+1:=by simp
   refine mI (Pc:=¬ (5<pkN c 48271 10007 12/\pkN c 48271 10007 12<9/\r.length<5)) (fun cc z=>cc (decide_eq_true z.1)) ?_ fun cc go=>?_
   ·intro n1
    refine jf ?_
    rw[qZ n1]at nxt
    refine⟨_,rfl,_,_,rfl,rfl,_,rfl,?_⟩
    refine mI (Pc:=¬ (8<pkN c 48271 10007 12/\pkN c 48271 10007 12<11/\0<r.length)) (fun cc z=>cc (decide_eq_true z.1)) ?_ fun cc go=>?_
    ·intro n2
     refine jf ?_
     rw[qZ n2]at nxt
     refine⟨_,rfl,rfl,_,rfl,?_⟩
     refine mI (Pc:=¬ (pkN c 48271 10007 12=11/\kdN x.f.op="if")) (fun cc z=>cc (decide_eq_true (by rw[z.1]))) ?_ fun cc go=>?_
     ·intro n3
      refine jf ?_
      rw[qZ n3]at nxt
      refine⟨_,rfl,_,rfl,s0,_,_,_,rfl,rfl,SqL.of G.c0,gT,.inl ⟨rfl,_,SqL.of hxc⟩,_,rfl,_,rfl,_,rfl,_,rfl,_,rfl,c,xn,qn,ln,zs,hid,rfl,bits,hn3,z6,fun p5 xs hp5 hd=>?_⟩
      have e5:=aa.new hp5 (.tup xs)
      refine⟨x.c,_,_,rfl,rfl,e5 _ _ hxc,aM (m:=1000) Qo,?_⟩
      exact⟨_,_,os,_,_,_,_,_,_,_,rfl,(G.same e5).push (e5 _ _ hxc) ae (aa.none G.zc.h0 hp5) (hd _ ae),by rw[nxt];rfl,by rw[<- hbt];exact uO rfl⟩
     ·refine⟨_,rfl,_,rfl,s1,_,_,_,rfl,rfl,SqL.of G.c1,gT,rfl,_,rfl,?_⟩
      refine fN (fun c2=>?_) (fun c2=>by have h:=go fun z=>c2 (by rw[z.2];decide +kernel);exact h)
      have kif:kdN x.f.op="if":=wI c2
      have k11:pkN c 48271 10007 12=11:=Bl cc
      rw[Q0 ⟨k11,kif⟩]at nxt
      obtain⟨y,q1⟩:=tq kif
      obtain⟨n01,n02,n12⟩:=G.ss
      obtain⟨v,os',rfl⟩:∃v os',os=v::os':=by
       have:=G.ro.len
       match os,this with
       |v::os',_=>exact⟨v,os',rfl⟩
      have ve:v=.ref x.e:=by
       match G.ro with
       |.cons h _=>exact h y q1
      subst ve
      have c2':H3 s2=some (.lst (os'.reverse++[.ref x.e])):=by rw[G.c2,List.reverse_cons]
      have c0':H3 s0=some (.lst ((r.map fun x=>V.ref x.c).reverse++[.ref x.c])):=by rw[G.c0,qR,List.reverse_cons]
      refine⟨_,rfl,_,rfl,s2,_,_,_,rfl,rfl,SqL.of c2',tf,_,rfl,_,rfl,s0,_,_,_,rfl,rfl,c0',tw,?_⟩
      rw[show((r.map fun x=>V.ref x.c).reverse++[V.ref x.c]).set ((r.map fun x=>V.ref x.c).reverse).length (.ref x.e)=(r.map fun x=>V.ref x.c).reverse++[.ref x.e]by rw[List.set_append_right _ _ (qd _),Nat.sub_self];rfl]
      have c1':upd H3 s0 (.lst ((r.map fun x=>V.ref x.c).reverse++[.ref x.e])) s1=some (.lst ((r.map fun x=>V.str (kdN x.f.op)).reverse++[.str (kdN x.f.op)])):=by rw[aj n01.symm,G.c1,qR,List.reverse_cons]
      refine⟨_,rfl,_,rfl,s1,_,_,_,rfl,rfl,c1',tw,?_⟩
      rw[show((r.map fun x=>V.str (kdN x.f.op)).reverse++[V.str (kdN x.f.op)]).set ((r.map fun x=>V.str (kdN x.f.op)).reverse).length (.str "else")=(r.map fun x=>V.str (kdN x.f.op)).reverse++[.str "else"]by rw[List.set_append_right _ _ (qd _),Nat.sub_self];rfl]
      refine⟨_,_,_,_,_,_,_,_,_,_,rfl,G.elsed q1 hxc (fun b u h1 h2 h=>by rw[aj h2,aj h1];exact h) (by rw[aj n01];exact ae) ae,?_,?_⟩
      ·rw[nxt]
       unfold Op.els
       rw[q1]
       rfl
      ·cases r with
       |nil=>
        obtain⟨_,_,h4⟩:=G.zc.zr
        rcases h4 with⟨h,_⟩|⟨_,_,h⟩
        ·rw[q1]at h;cases h
        ·exact h.elim
       |cons g r=>exact hbt
    ·refine⟨_,rfl,_,_,rfl,rfl,_,rfl,?_⟩
     refine fN (fun c2=>?_) (fun c2=>by have h:=go fun z=>c2 (decide_eq_true z.2.1);exact h)
     refine⟨_,rfl,s0,_,rfl,.inl (SqL.of G.c0),_,_,rfl,rfl,_,rfl,?_⟩
     rw[l0]
     refine fN (fun c3=>?_) (fun c3=>by have h:=go fun z=>c3 (decide_eq_true (by have:=z.2.2;omega));exact h)
     have r0:0<r.length:=by
      have:=of_decide_eq_true c3
      omega
     rw[Q0 ⟨of_decide_eq_true cc,of_decide_eq_true c2,r0⟩]at nxt
     cases r with
     |nil=>exact absurd r0 (by simp)
     |cons g r=>
     obtain⟨n01,n02,n12⟩:=G.ss
     obtain⟨v,os',rfl⟩:∃v os',os=v::os':=by
      have:=G.ro.len
      match os,this with
      |v::os',_=>exact⟨v,os',rfl⟩
     refine⟨_,rfl,.inl ⟨rfl,_,SqL.of G.c0⟩,s0,_,_,rfl,rfl,G.c0,sZ,?_⟩
     rw[uo]
     generalize hA:upd H3 s0 (.lst (((g::r).map fun x=>V.ref x.c).reverse))=A1
     have a0:A1 s0=some (.lst (((g::r).map fun x=>V.ref x.c).reverse)):=by rw[<- hA];exact ae
     have a1:A1 s1=some (.lst (((x::g::r).map fun x=>V.str (kdN x.f.op)).reverse)):=by rw[<- hA,aj n01.symm];exact G.c1
     have a2:A1 s2=some (.lst (os'.reverse++[v])):=by rw[<- hA,aj n02.symm,G.c2,List.reverse_cons]
     refine⟨_,rfl,.inl ⟨rfl,_,SqL.of a1⟩,s1,_,_,rfl,rfl,a1,sZ,?_⟩
     rw[uo]
     generalize hB:upd A1 s1 (.lst (((g::r).map fun x=>V.str (kdN x.f.op)).reverse))=A2
     have b0:A2 s0=some (.lst (((g::r).map fun x=>V.ref x.c).reverse)):=by rw[<- hB,aj n01];exact a0
     have b1:A2 s1=some (.lst (((g::r).map fun x=>V.str (kdN x.f.op)).reverse)):=by rw[<- hB];exact ae
     have b2:A2 s2=some (.lst (os'.reverse++[v])):=by rw[<- hB,aj n12.symm];exact a2
     refine⟨_,rfl,.inl ⟨rfl,_,SqL.of b2⟩,s2,_,_,rfl,rfl,b2,by rw[qa,List.length_singleton,Nat.add_sub_cancel,qK (qd _),Nat.sub_self];rfl,?_⟩
     rw[List.dropLast_concat]
     obtain⟨H0',G'⟩:=G.closed (H':=upd A2 s2 (.lst os'.reverse)) (fun b u h1 h2 h3 h=>by rw[aj h3,<- hB,aj h2,<- hA,aj h1];exact h) (by rw[aj n02];exact b0) (by rw[aj n12];exact b1) ae
     exact⟨H0',_,os',_,_,_,_,_,_,_,rfl,G',by rw[nxt];rfl,by rw[<- hbt];exact uO rfl⟩
   ·refine⟨_,rfl,_,_,rfl,rfl,_,rfl,?_⟩
    refine fN (fun c2=>?_) (fun c2=>by have h:=go fun z=>c2 (decide_eq_true z.2.1);exact h)
    refine⟨_,rfl,s0,_,rfl,.inl (SqL.of G.c0),_,_,rfl,rfl,_,rfl,?_⟩
    rw[l0]
    refine fN (fun c3=>?_) (fun c3=>by have h:=go fun z=>c3 (decide_eq_true (by have:=z.2.2;omega));exact h)
    have r5:r.length<5:=by
     have:=of_decide_eq_true c3
     omega
    have k5:=of_decide_eq_true cc
    have k9:=of_decide_eq_true c2
    rw[Q0 ⟨k5,k9,r5⟩]at nxt
    refine⟨qr _,fun ci hci=>?_⟩
    refine⟨qr _,fun eo heo=>?_⟩
    have e5:=(aa.new hci (.lst [])).trans (aa.new heo (.lst []))
    have nec:eo≠ci:=fun z=>by rw[z,ae]at heo;cases heo
    have heo':=bh heo
    have hc5:upd (upd H3 ci (.lst [])) eo (.lst []) ci=some (.lst []):=aa.new heo _ _ _ ae
    have he5:upd (upd H3 ci (.lst [])) eo (.lst []) eo=some (.lst []):=ae
    have G5:=G.same e5
    have hx5:=e5 _ _ hxc
    generalize upd (upd H3 ci (.lst [])) eo (.lst [])=H5 at e5 hc5 he5 G5 hx5 ⊢
    have nf:∀d,H3 d=none->H0 d=none/\d∉[s0,s1,s2]++(x::r).flatMap Fz.muts:=fun d hd=>⟨aa.none G.zc.h0 hd,fun hm=>by
     obtain⟨ws,hw⟩:=G.zc.lsts d hm
     rw[hd]at hw
     cases hw⟩
    obtain⟨n01,n02,n12⟩:=G.ss
    obtain⟨x0',x1',x2'⟩:=G.ne (dB (x:=x) (r:=r))
    dsimp only[hE]
    refine pM (fun σ H6=>σ=[some (.ref lc),some (.ref ln),some (.ref lr),some (.ref b),some (.ref s0),some (.ref s1),some (.ref s2),some (.int c),some (.int (pkN c 48271 10007 12)),some (.str xn),some (.str qn),some (.bl hid),some (.ref ci),some (.ref eo)]/\∃p,H5 p=none/\H6=upd (upd H5 p (.tup (⟨⟨opN c xn,[],false,0⟩,ci,p,eo⟩:Fz).tupV)) x.c (.lst (vs++[.ref p]))) ?_ ?_
    ·rintro σ H6 ⟨rfl,p,np,rfl⟩
     have e6:=aa.new np (.tup (⟨⟨opN c xn,[],false,0⟩,ci,p,eo⟩:Fz).tupV)
     have G6:=G5.same e6
     have hx6:=e6 _ _ hx5
     have hp6:upd H5 p (.tup (⟨⟨opN c xn,[],false,0⟩,ci,p,eo⟩:Fz).tupV) p=_:=ae
     have hc6:=e6 _ _ hc5
     have he6:=e6 _ _ he5
     generalize upd H5 p (.tup (⟨⟨opN c xn,[],false,0⟩,ci,p,eo⟩:Fz).tupV)=H6 at e6 G6 hx6 hp6 hc6 he6 ⊢
     have G7:=G6.opened (op:=opN c xn) (c:=ci) (p:=p) (e:=eo) hx6 (nf _ hci) (nf _ heo') nec he6 hc6 hp6 (rY (zs:=[xn]) (by simp)).2.1 (fun n t h=>by
      unfold opN at h
      split at h
      ·cases h
      ·split at h<;>cases h)
     have a0:upd H6 x.c (.lst (vs++[.ref p])) s0=some (.lst (((x::r).map fun x=>V.ref x.c).reverse)):=by rw[aj x0'.symm];exact G6.c0
     have a1:upd H6 x.c (.lst (vs++[.ref p])) s1=some (.lst (((x::r).map fun x=>V.str (kdN x.f.op)).reverse)):=by rw[aj x1'.symm];exact G6.c1
     have a2:upd H6 x.c (.lst (vs++[.ref p])) s2=some (.lst os.reverse):=by rw[aj x2'.symm];exact G6.c2
     generalize upd H6 x.c (.lst (vs++[.ref p]))=A1 at a0 a1 a2 G7 ⊢
     have rlen:∀{β:Type}(f:Fz->β),(((x::r).map f).reverse).length<sizeLine:=fun f=>by
      rw[List.length_reverse,q5]
      exact mw (by rw[qz];omega)
     have olen:os.reverse.length<sizeLine:=by
      have:=G.ro.len
      rw[List.length_reverse,this]
      exact mw (by rw[qz];omega)
     refine⟨_,rfl,.inl ⟨rfl,_,SqL.of a0⟩,_,rfl,s0,_,_,rfl,rfl,a0,rlen _,?_⟩
     have b1:upd A1 s0 (.lst (((x::r).map fun x=>V.ref x.c).reverse++[.ref ci])) s1=_:=(aj n01.symm).trans a1
     have b2:upd A1 s0 (.lst (((x::r).map fun x=>V.ref x.c).reverse++[.ref ci])) s2=_:=(aj n02.symm).trans a2
     generalize upd A1 s0 (.lst (((x::r).map fun x=>V.ref x.c).reverse++[.ref ci]))=A2 at b1 b2 G7 ⊢
     refine⟨_,rfl,.inl ⟨rfl,_,SqL.of b2⟩,_,rfl,s2,_,_,rfl,rfl,b2,olen,?_⟩
     have d1:upd A2 s2 (.lst (os.reverse++[.ref eo])) s1=_:=(aj n12).trans b1
     generalize upd A2 s2 (.lst (os.reverse++[.ref eo]))=A3 at d1 G7 ⊢
     refine⟨_,rfl,.inl ⟨rfl,_,SqL.of d1⟩,ln3,fun l8 hl8=>?_⟩
     have e8:=aa.new hl8 (.lst [.str "if",.str "while",.str "repeat"])
     have kd:atI [V.str "if",V.str "while",V.str "repeat"] (pkN c 48271 10007 12-6)=some (.str (kdN (opN c xn))):=by
      have:pkN c 48271 10007 12=6\/pkN c 48271 10007 12=7\/pkN c 48271 10007 12=8:=Qo
      unfold opN
      rcases this with h|h|h
      ·rw[h];exact i4
      ·rw[h];exact CI
      ·rw[h];exact vc
     refine⟨_,rfl,_,_,rfl,rfl,l8,_,_,_,rfl,rfl,SqL.of ae,kd,s1,_,_,rfl,rfl,e8 _ _ d1,rlen _,?_⟩
     have n8:l8≠s1:=fun z=>by rw[z,d1]at hl8;cases hl8
     have cm:upd (upd A3 l8 (.lst [.str "if",.str "while",.str "repeat"])) s1 (.lst (((x::r).map fun x=>V.str (kdN x.f.op)).reverse++[.str (kdN (opN c xn))]))=upd (upd A3 s1 (.lst (((x::r).map fun x=>V.str (kdN x.f.op)).reverse++[.str (kdN (opN c xn))]))) l8 (.lst [.str "if",.str "while",.str "repeat"]):=by
      funext d
      by_cases h1:d=s1
      ·subst h1
       rw[ae,aj n8.symm,ae]
      ·rw[aj h1]
       by_cases h2:d=l8
       ·subst h2
        rw[ae,ae]
       ·rw[aj h2,aj h2,aj h1]
     rw[cm]
     exact⟨_,_,_,_,_,_,_,_,_,_,rfl,G7.same (aa.new (by rw[aj n8];exact hl8) _),by rw[nxt];rfl,hbt⟩
    ·intro N hN
     have x6:H5 s0=some _:=G5.c0
     refine⟨_,rfl,rfl,_,rfl,?_⟩
     by_cases k6:pkN c 48271 10007 12=6
     ·refine bR (by simp[k6]) ?_
      have eo':opN c xn=.ifT xn:=by unfold opN;rw[Q0 k6]
      refine⟨_,rfl,_,rfl,s0,_,_,_,rfl,rfl,SqL.of x6,gT,.inl ⟨rfl,_,SqL.of hx5⟩,_,rfl,_,rfl,_,rfl,ln4,fun p hp=>⟨x.c,_,_,rfl,rfl,aa.new hp _ _ _ hx5,aM (m:=1000) Qo,hN _ _ ⟨rfl,p,hp,?_⟩⟩⟩
      rw[eo']
      rfl
     ·refine aZ (by simp[k6]) ?_
      refine⟨_,rfl,rfl,_,rfl,?_⟩
      by_cases k7:pkN c 48271 10007 12=7
      ·refine bR (by simp[k7]) ?_
       have eo':opN c xn=.whl xn:=by unfold opN;rw[qZ k6,Q0 k7]
       refine⟨_,rfl,_,rfl,s0,_,_,_,rfl,rfl,SqL.of x6,gT,.inl ⟨rfl,_,SqL.of hx5⟩,_,rfl,_,rfl,ln3,fun p hp=>⟨x.c,_,_,rfl,rfl,aa.new hp _ _ _ hx5,aM (m:=1000) Qo,hN _ _ ⟨rfl,p,hp,?_⟩⟩⟩
       rw[eo']
       rfl
      ·refine aZ (by simp[k7]) ?_
       have eo':opN c xn=.rep (pkN c 16807 70001 100):=by unfold opN;rw[qZ k6,qZ k7]
       refine⟨_,rfl,_,rfl,s0,_,_,_,rfl,rfl,SqL.of x6,gT,.inl ⟨rfl,_,SqL.of hx5⟩,_,rfl,_,_,_,_,rfl,bits,⟨Qk,Qk⟩,⟨Qk,Qk⟩,⟨Qk,Qk⟩,_,rfl,ln3,fun p hp=>⟨x.c,_,_,rfl,rfl,aa.new hp _ _ _ hx5,aM (m:=1000) Qo,hN _ _ ⟨rfl,p,hp,?_⟩⟩⟩
       rw[eo']
       rfl
  ·intro N hN
   refine⟨_,rfl,s1,_,rfl,.inl (SqL.of G.c1),rfl,flt,_,rfl,?_⟩
   rcases Bool.eq_false_or_eq_true (inV (.str "if") (((x::r).map fun x=>V.str (kdN x.f.op)).reverse))with h1|h1
   ·exact bR h1 (hN _ _ ⟨rfl,by rw[<- hh,h1];rfl⟩)
   refine aZ h1 ?_
   refine⟨_,rfl,s1,_,rfl,.inl (SqL.of G.c1),rfl,flt,_,rfl,?_⟩
   rcases Bool.eq_false_or_eq_true (inV (.str "else") (((x::r).map fun x=>V.str (kdN x.f.op)).reverse))with h2|h2
   ·exact bR h2 (hN _ _ ⟨rfl,by rw[<- hh,h1,h2];rfl⟩)
   refine aZ h2 ?_
   refine⟨_,rfl,s1,_,rfl,.inl (SqL.of G.c1),rfl,flt,hN _ _ ⟨rfl,by rw[<- hh,h1,h2];rfl⟩⟩
 ·rintro σ H3 ⟨H0,z,os,v7,v8,v9,v10,v11,v12,v13,rfl,G,hz,hbt⟩
  rw[q5,qG]at hz
  refine⟨_,rfl,q H3 b G.zc.hbH hb ?_⟩
  have:=G.zc.whole
  rw[hz,hbt]at this
  exact this
theorem uV {x:Str}:∀(ps:List (Str×Int)) (f:aS),x∉ps.map (·.1)->ps.foldl (fun f p=>bi f p.1 (p.2 % 1000000000000000000000000000000)) f x=f x
 |[],f,_=>rfl
 |p::r,f,h=>by
  rw[qR,qt,not_or]at h
  rw[List.foldl_cons,uV r _ h.2]
  show bi f p.1 _ x=f x
  unfold bi
  rw[qZ h.1]
theorem uW:∀(ak:List Str) (nn:List Int) (f:aS),ak.Nodup->(∀x∈ak,f x=0)->
 ak.map ((ak.zip nn).foldl (fun f p=>bi f p.1 (p.2 % 1000000000000000000000000000000)) f)=(nn.take (min nn.length ak.length)).map (fun n=>n % 1000000000000000000000000000000)++List.replicate (ak.length-nn.length) 0
 |[],nn,f,_,_=>by simp
 |x::ak,[],f,_,h=>by
  rw[List.zip_nil_right,List.foldl_nil]
  show _=List.replicate (x::ak).length 0
  refine List.eq_replicate_iff.mpr ⟨q5 _,fun b hb=>?_⟩
  obtain⟨y,hy,rfl⟩:=List.mem_map.mp hb
  exact h y hy
 |x::ak,n::nn,f,nd,h=>by
  rw[List.nodup_cons]at nd
  have xn:x∉(ak.zip nn).map (·.1):=fun hm=>by
   obtain⟨⟨u,v⟩,hu,e⟩:=List.mem_map.mp hm
   have e:u=x:=e
   subst e
   exact nd.1 (List.of_mem_zip hu).1
  rw[List.zip_cons_cons,List.foldl_cons,qR,uV _ _ xn,uW ak nn _ nd.2 fun y hy=>by
   show bi f x _ y=0
   unfold bi
   rw[qZ (fun e:y=x=>nd.1 (e▸hy))]
   exact h y (qj _ hy)]
  rw[qz,qz,Nat.add_min_add_right,List.take_succ_cons,qR,Nat.add_sub_add_right]
  show bi f x _ x::_=_
  unfold bi
  rw[Q0 rfl]
  rfl
theorem CC {ak zs:List Str}{nn:List Int}(na:ak.Nodup) (nz:zs.Nodup) (sub:∀x∈ak,x∈zs):
 (zs.map (ba (ak.zip nn))).Perm ((nn.take (min nn.length ak.length)).map (fun n=>n % 1000000000000000000000000000000)++List.replicate (zs.length-min nn.length ak.length) 0):=by
 have p:zs.Perm (ak++zs.filter fun z=>!decide (z∈ak)):=by
  refine(List.perm_ext_iff_of_nodup nz (Am na (nz.sublist List.filter_sublist) fun x hx hx'=>?_)).mpr fun z=>?_
  ·have:=(List.mem_filter.mp hx').2
   simp[hx]at this
  ·rw[qg,List.mem_filter]
   constructor
   ·intro h
    by_cases h':z∈ak
    ·exact .inl h'
    ·exact .inr ⟨h,by simp[h']⟩
   ·rintro(h|h)
    ·exact sub z h
    ·exact h.1
 have rest:((zs.filter fun z=>!decide (z∈ak)).map (ba (ak.zip nn)))=List.replicate (zs.filter fun z=>!decide (z∈ak)).length 0:=by
  refine List.eq_replicate_iff.mpr ⟨q5 _,fun b hb=>?_⟩
  obtain⟨y,hy,rfl⟩:=List.mem_map.mp hb
  have hy:=(List.mem_filter.mp hy).2
  refine uX fun hm=>?_
  obtain⟨⟨u,v⟩,hu,e⟩:=List.mem_map.mp hm
  have e:u=y:=e
  subst e
  simp[(List.of_mem_zip hu).1]at hy
 have pl:=p.length_eq
 rw[qa]at pl
 have q:=p.map (ba (ak.zip nn))
 rw[qO,rest]at q
 have a:=uW ak nn (fun _=>0) na fun _ _=>rfl
 have a:ak.map (ba (ak.zip nn))=_:=a
 rw[a,qM,List.replicate_append_replicate]at q
 have e:ak.length-nn.length+(zs.filter fun z=>!decide (z∈ak)).length=zs.length-min nn.length ak.length:=Qo
 rw[e]at q
 exact q
theorem Cf (xs:List Int) (lo hi:Nat) (h:lo<=hi):cQ (xs.map V.int) (some (lo:Int)) (some (hi:Int))=((xs.drop lo).take (hi-lo)).map V.int:=by
 unfold cQ
 rw[HT.sIx_nat,HT.sIx_nat,q5,<- List.map_drop,<- List.map_take]
 congr 1
 by_cases h1:lo<=xs.length
 ·rw[Nat.min_eq_left h1]
  by_cases h2:hi<=xs.length
  ·rw[Nat.min_eq_left h2]
  ·rw[Nat.min_eq_right Qo,List.take_of_length_le (by rw[qY];exact qd _),List.take_of_length_le (by rw[qY];omega)]
 ·rw[List.drop_of_length_le (by omega:xs.length<=lo),List.drop_of_length_le (show xs.length<=min lo xs.length by omega),List.take_nil,List.take_nil]
theorem Ce (xs:List Int) (hi:Nat):cQ (xs.map V.int) none (some (hi:Int))=(xs.take hi).map V.int:=by
 unfold cQ
 rw[HT.sIx_none,HT.sIx_nat,q5,List.drop_zero,Nat.sub_zero,<- List.map_take]
 congr 1
 by_cases h2:hi<=xs.length
 ·rw[Nat.min_eq_left h2]
 ·rw[Nat.min_eq_right Qo,List.take_of_length_le (qd _),List.take_of_length_le Qo]
theorem vd (c:Int):(akN c).Nodup/\(akN c).length<=6/\∀x∈akN c,x∈nmN c:=by
 obtain⟨z6,znd,_⟩:=j3 c
 have m0:0<=c / 7 % 7:=Int.emod_nonneg _ Qk
 have m1:c / 7 % 7<7:=Int.emod_lt_of_pos _ Qk
 have lt:∀k:Nat,((c / 5+5 * (k:Int)) % 6).toNat<(nmN c).length:=fun k=>Qo
 unfold akN
 refine⟨?_,by rw[q5,List.length_range];omega,fun x hx=>?_⟩
 ·refine List.nodup_iff_pairwise_ne.mpr ?_
  rw[List.pairwise_map]
  refine List.Pairwise.imp_of_mem (R:=fun a b:Nat=>a≠b) (fun{x y} hx hy h e=>?_) (List.nodup_iff_pairwise_ne.mp List.nodup_range)
  have hx:=List.mem_range.mp hx
  have hy:=List.mem_range.mp hy
  have l1:=lt x
  have l2:=lt y
  rw[qi,qi,qb l1,qb l2]at e
  have e:(nmN c)[((c / 5+5 * (x:Int)) % 6).toNat]=(nmN c)[((c / 5+5 * (y:Int)) % 6).toNat]:=e
  have i1:=znd.idxOf_getElem _ l1
  have i2:=znd.idxOf_getElem _ l2
  rw[e,i2]at i1
  omega
 ·obtain⟨k,_,rfl⟩:=List.mem_map.mp hx
  exact gY (lt k)
theorem sw (T:Tx P w K mg a):aD P w K mg base CX0 1 a._law_numbers a.fd__law_numbers ["_law_script"] (p8 K):=by
 refine T.F__law_numbers.ok xL (fun vs H Q E h=>?_) (fun cdv A outer s H vs Q E hr h=>?_)
 ·obtain⟨_,_,rfl,_⟩:=h
  rfl
 obtain⟨sa,ns,rfl,hS,l63,q⟩:=h
 refine⟨_,(ao (aH (cL (k:=1) (Nc:=["_law_cell"]) (js:=[]) (show aX (aC iP) ["_law_script"] _ 1 ["_law_cell"] []from aX.mk rfl (by decide +kernel) (by decide +kernel) (by decide +kernel) rfl (by decide +kernel)) rfl (bH (iY pH (pq 0) lT (gI af))) (fun _ _ _ _ _=>(aW (i:=0) (show List.Nodup (["_law_cell"]:List Str)from by decide +kernel) rfl (Or.inl rfl))) (fun _ _ _ _ _=>cT) (fun _ _ _ _ _=>(ax lD (ax bM (pq 0) (ax fI af af)) (ax fI af af)))))),?_⟩
 have p31:(0:Int)<(10:Int) ^ (31:Int).toNat:=Qd
 refine⟨_,rfl,_,rfl,sa,_,rfl,hS,fun l5 hl5=>?_⟩
 rw[show cQ (ns.map V.int) none (some 7)=(ns.take 7).map V.int from Ce ns 7]
 have e5:=aa.new hl5 (.lst ((ns.take 7).map V.int))
 have l5':upd H l5 (.lst ((ns.take 7).map V.int)) l5=some (.lst ((ns.take 7).map V.int)):=ae
 generalize upd H l5 (.lst ((ns.take 7).map V.int))=H5 at e5 l5' ⊢
 refine⟨l5,rfl,⟨_,SqL.of l5'⟩,?_⟩
 refine eT (K:=K) (a:=l5) (xs:=(ns.take 7).map V.int) (fun i ys σ H6=>(∃v,σ=[v])/\H6=H5/\ys=(((ns.take 7).take i).map fun n=>n % 10000000000000000000000000000000-1000000000000000000000000000000).map V.int) ⟨⟨_,rfl⟩,rfl,rfl⟩ ?_ (aM (m:=100) (by rw[q5,qJ];omega)) ?_ ?_ ?_
 ·rintro i ys σ H6 _ ⟨_,_,rfl⟩
  rw[q5,q5,qJ]
  omega
 ·rintro i ys σ H6 ⟨_,rfl,_⟩
  exact SqL.of l5'
 ·rintro i x ys σ H6 hx ⟨⟨v,rfl⟩,rfl,rfl⟩
  rw[qD]at hx
  obtain⟨n,hn,rfl⟩:=qP.mp hx
  refine⟨_,rfl,_,_,rfl,rfl,⟨Qk,Qk,Qk⟩,_,_,rfl,rfl,p31,_,_,rfl,rfl,⟨Qk,Qk,Qk⟩,_,_,rfl,rfl,⟨_,rfl⟩,rfl,?_⟩
  rw[qq (i:=i),hn,qO,qO,p30,show(10:Int) ^ (31:Int).toNat=10000000000000000000000000000000 by decide +kernel]
  rfl
 rintro ys σ H6 ⟨_,rfl,rfl⟩ ln hln
 rw[q5,qG]
 exact q _ ln (e5.trans (aa.new hln _)) (aa.none e5 hln) ae
theorem zZ (T:Tx P w K mg a):aD P w K mg base CX0 5 a._law_program a.fd__law_program ["_law_script"] (oZ K):=by
 refine T.F__law_program.ok fu (fun vs H Q E h=>?_) (fun cdv A outer s H vs Q E hr h=>?_)
 ·obtain⟨_,_,rfl,_⟩:=h
  rfl
 obtain⟨sa,ns,rfl,hS,l63,hbits,q⟩:=h
 refine⟨_,(ai (aA (i:=1) fu.nd rfl (Or.inr rfl) (ax bM (aq bX (ax bZ (pq 0) (aJ (a8 af ad))) af (fun _ _=>rfl)) (ax fI af af)))
  (ai (aA (i:=2) fu.nd rfl (Or.inr rfl) (aB (A0 T) (hr.mono Qk) rfl T.m__law_names T.F__law_names.kp T.b__law_names .nil ap (a8 (pq 1) ad)))
  (ai (yB (i:=3) fu.nd rfl (Or.inl rfl) (k:=1) (Nc:=["_law_k","_law_names_here","_law_cell"]) (js:=[2,1]) (show aX (aC iO) ["_law_script","_law_cell","_law_names_here","_law_asks","_law_stores","_law_body_here"] _ 1 ["_law_k","_law_names_here","_law_cell"] [2,1]from aX.mk rfl (by decide +kernel) (by decide +kernel) (by decide +kernel) rfl (by decide +kernel)) rfl (gJ rfl T.z_range (a8 (ax bM (ax dS (pq 1) af) af) ad)) (fun _ _ _ _ _=>(aW (i:=0) (show List.Nodup (["_law_k","_law_names_here","_law_cell"]:List Str)from by decide +kernel) rfl (Or.inl rfl))) (fun _ _ _ _ _=>cT) (fun _ _ _ _ _=>(aq (rg (K:=K) rfl) (pq 1) (ax bM (ax gE (ax dS (pq 2) af) (ax gO af (pq 0))) af) (fun _ _=>rfl))))
  (ai (aA (i:=4) fu.nd rfl (Or.inl rfl) (aJ (a8 (aL (a8 (aq bX (pq 2) af (fun _ _=>rfl)) (a8 (ax gE af (ax bM (ax dS (pq 1) af) af)) ad))) (a8 (aL (a8 aF (a8 (ax gE af (ax bM (ax dS (pq 1) af) af)) ad))) ad))))
  (ai (aA (i:=5) fu.nd rfl (Or.inl rfl) (aB (A6 T) (hr.mono Qk) rfl T.m__law_body T.F__law_body.kp T.b__law_body .nil ap (a8 (iY pH (pq 0) (gI af) (gI af)) (a8 (pq 2) (a8 (aJ (a8 (aq bX (pq 2) af (fun _ _=>rfl)) (a8 aF ad))) ad)))))
  (ao (aH (aL (a8 (pq 3) (a8 (pq 4) (a8 (pq 5) ad))))))))))),?_⟩
 refine⟨_,rfl,ln1,fun l0 h0=>⟨sa,l0,_,_,rfl,rfl,(aa.new h0 _).seq hS,SqL.of ae,aM (m:=100) (by rw[q5];show _+1<=100;omega),fun l1 h1=>?_⟩⟩
 have hc0:atI (ns.map V.int++[V.int 0]) 0=some (.int (ns.headD 0)):=by
  cases ns with
  |nil=>exact i4
  |cons x r=>exact i4
 refine⟨l1,_,0,_,rfl,rfl,SqL.of ae,hc0,_,_,rfl,rfl,⟨Qk,Qk,Qk⟩,_,_,rfl,rfl,Qk,?_⟩
 have s1:=(aa.new h0 (.lst [.int 0])).trans (aa.new h1 (.lst (ns.map V.int++[V.int 0])))
 generalize upd (upd H l0 (.lst [.int 0])) l1 (.lst (ns.map V.int++[V.int 0]))=H1 at s1 ⊢
 rw[show(10:Int) ^ (9:Int).toNat=1000000000 by decide +kernel]
 have c1:0<=ns.headD 0 % 1000000000:=Int.emod_nonneg _ Qk
 have c2:ns.headD 0 % 1000000000<1000000000:=Int.emod_lt_of_pos _ Qk
 have ec:cN ns=ns.headD 0 % 1000000000:=rfl
 unfold bdN at q
 rw[ec]at q
 generalize ns.headD 0 % 1000000000=c at c1 c2 q ⊢
 obtain⟨z6,znd,zok⟩:=j3 c
 refine⟨_,rfl,c,rfl,⟨c1,c2⟩,fun H2 lz s2 nlz hlz=>?_⟩
 have eak:akN c=(List.range (c / 7 % 7).toNat).map fun k:Nat=>(nmN c).getD ((c / 5+5 * (k:Int)) % 6).toNat (">":Str):=rfl
 have ess:ssN c=[((nmN c).getD 1 (">":Str),1+c / 11 % 2000),(("w":Str),1+c / 13 % 3)]:=rfl
 generalize nmN c=zs at *
 have s12:=s1.trans s2
 have m0:0<=c / 7 % 7:=Int.emod_nonneg _ Qk
 have m1:c / 7 % 7<7:=Int.emod_lt_of_pos _ Qk
 refine⟨_,rfl,_,_,rfl,rfl,⟨Qk,Qk⟩,_,_,rfl,rfl,Qk,_,rfl,Qo,Qo,?_⟩
 refine jz (fun i ys σ H3=>(∃v,σ=[v,some (.ref lz),some (.int c)])/\H3=H2/\ys=((List.range i).map fun k:Nat=>zs.getD ((c / 5+5 * (k:Int)) % 6).toNat (">":Str)).map V.str) ⟨⟨_,rfl⟩,rfl,rfl⟩ ?_ (aM (m:=10) Qo) ?_ ?_
 ·rintro i ys σ H3 _ ⟨_,_,rfl⟩
  rw[q5,q5,List.length_range]
  exact qd _
 ·rintro i ys σ H3 hi ⟨⟨v,rfl⟩,rfl,rfl⟩
  have lt:((c / 5+5 * (i:Int)) % 6).toNat<zs.length:=Qo
  refine⟨_,rfl,_,rfl,_,_,rfl,rfl,⟨Qk,Qk⟩,_,rfl,_,_,rfl,rfl,IntMulOk.of_left (intBits_le_64 Qk Qk),_,_,rfl,rfl,_,_,rfl,rfl,Qk,lz,_,_,_,rfl,rfl,SqL.of hlz,j0 Qo lt,⟨_,rfl⟩,rfl,?_⟩
  rw[List.range_succ,qO,qO]
  rfl
 rintro ys σ H3 ⟨_,rfl,rfl⟩ la hla
 rw[<- eak]
 have e3:=aa.new hla (.lst ((akN c).map V.str))
 have la3:upd H3 la (.lst ((akN c).map V.str)) la=some (.lst ((akN c).map V.str)):=ae
 have s3:=s12.trans e3
 have lz3:=e3 _ _ hlz
 generalize upd H3 la (.lst ((akN c).map V.str))=H4 at e3 la3 s3 lz3 ⊢
 have at1:atI (zs.map V.str) 1=some (.str (zs.getD 1 (">":Str))):=j0 (i:=1) Qk (by show 1<_;omega)
 refine⟨_,rfl,lz,_,1,_,rfl,rfl,SqL.of lz3,at1,_,rfl,_,_,rfl,rfl,⟨Qk,Qk⟩,_,_,rfl,rfl,Qk,_,_,rfl,rfl,ln2,fun t5 ht5=>?_⟩
 refine⟨_,rfl,_,_,rfl,rfl,⟨Qk,Qk⟩,_,_,rfl,rfl,Qk,_,_,rfl,rfl,ln2,fun t6 ht6=>⟨ln2,fun l7 hl7=>?_⟩⟩
 have e5:=aa.new ht5 (.tup [.str (zs.getD 1 (">":Str)),.int (1+c / 11 % 2000)])
 have e6:=aa.new ht6 (.tup [.str "w",.int (1+c / 13 % 3)])
 have e7:=aa.new hl7 (.lst [.ref t5,.ref t6])
 have s47:=e5.trans (e6.trans e7)
 have g5:=e7 _ _ (e6 _ _ (ae (H:=H4) (a:=t5) (o:=.tup [.str (zs.getD 1 (">":Str)),.int (1+c / 11 % 2000)])))
 have g6:=e7 _ _ (ae (H:=upd H4 t5 (.tup [.str (zs.getD 1 (">":Str)),.int (1+c / 11 % 2000)])) (a:=t6) (o:=.tup [.str "w",.int (1+c / 13 % 3)]))
 have g7:upd (upd (upd H4 t5 (.tup [.str (zs.getD 1 (">":Str)),.int (1+c / 11 % 2000)])) t6 (.tup [.str "w",.int (1+c / 13 % 3)])) l7 (.lst [.ref t5,.ref t6]) l7=_:=ae
 generalize upd (upd (upd H4 t5 (.tup [.str (zs.getD 1 (">":Str)),.int (1+c / 11 % 2000)])) t6 (.tup [.str "w",.int (1+c / 13 % 3)])) l7 (.lst [.ref t5,.ref t6])=H7 at s47 g5 g6 g7 ⊢
 clear e5 e6 e7
 have s7:=s3.trans s47
 have lz7:=s47 _ _ lz3
 refine⟨_,rfl,_,rfl,_,rfl,sa,_,rfl,s7.seq hS,fun l8 hl8=>?_⟩
 rw[show cQ (ns.map V.int) (some 1) (some 80)=(bU ns).map V.int from Cf ns 1 80 (by decide)]
 have e8:=aa.new hl8 (.lst ((bU ns).map V.int))
 have l8':upd H7 l8 (.lst ((bU ns).map V.int)) l8=some (.lst ((bU ns).map V.int)):=ae
 generalize upd H7 l8 (.lst ((bU ns).map V.int))=H8 at e8 l8' ⊢
 have lz8:=e8 _ _ lz7
 refine⟨_,rfl,_,rfl,lz,_,1,_,rfl,rfl,SqL.of lz8,at1,ln2,fun l9 hl9=>?_⟩
 have e9:=aa.new hl9 (.lst [.str (zs.getD 1 (">":Str)),.str "w"])
 have l9':upd H8 l9 (.lst [.str (zs.getD 1 (">":Str)),.str "w"]) l9=some (.lst ([zs.getD 1 (">":Str),("w":Str)].map V.str)):=ae
 have cel:(bU ns).length<=79:=by unfold bU;rw[qJ];omega
 have celb:∀n∈bU ns,Builtin.Int.intBits n<=2 ^ 20:=fun n hn=>hbits n (List.mem_of_mem_drop (List.mem_of_mem_take hn))
 refine⟨l8,lz,l9,bU ns,zs,_,rfl,e9 _ _ l8',cel,celb,e9 _ _ lz8,l9',z6,rfl,fun H10 b s10 nb rb=>?_⟩
 have s710:=(e8.trans e9).trans s10
 refine⟨_,rfl,_,rfl,_,rfl,ln3,fun p hp=>?_⟩
 have e11:=aa.new hp (.tup [.ref la,.ref l7,.ref b])
 have s11:=s710.trans e11
 refine q _ p la l7 b [.ref t5,.ref t6] (s7.trans s11) (aa.none (s7.trans s710) hp) ⟨ae,s11 _ _ (s47 _ _ la3),s11 _ _ g7,?_,RL.same e11 rb⟩
 rw[ess]
 exact .cons (s11 _ _ g5) (.cons (s11 _ _ g6) .nil)
theorem sA (T:Tx P w K mg a):∀n:Nat,aD P w K mg base CX0 (n+1) a._law_flat a.fd__law_flat ["_law_block"] (pf n):=by
 intro n
 induction n with
 |zero=>
  refine T.F__law_flat.ok fA (fun vs H Q E h=>?_) (fun cdv A outer s H vs Q E hr h=>?_)
  ·obtain⟨_,_,_,rfl,_⟩:=h
   rfl
  ·obtain⟨_,_,_,_,_,_,h0,_⟩:=h
   exact absurd h0 (Nat.not_lt_zero _)
 |succ n ih=>
  refine T.F__law_flat.ok fA (fun vs H Q E h=>?_) (fun cdv A outer s H vs Q E hr h=>?_)
  ·obtain⟨_,_,_,rfl,_⟩:=h
   rfl
  obtain⟨H0,b,ds,rfl,e0,hb,hdp,hfl,k⟩:=h
  refine⟨_,(ai (aA (i:=1) fA.nd rfl (Or.inl rfl) (aJ ad))
   (ai (bQ PassesOwn.never rfl (bH (pq 0)) (aW (i:=2) fA.nd rfl (Or.inl rfl))
   (ai (aI (bD qf qu qv ce (pq 1) (a8 (pq 2) ad)))
   (ao (aU (aO bn (aq ar (pq 2) af (fun _ _=>rfl)) aF (aT _)) (ao (aA (i:=1) fA.nd rfl (Or.inl rfl) (ax bZ (ax bZ (pq 1) (aB ih (hr.mono Qo) rfl T.m__law_flat T.F__law_flat.kp T.b__law_flat .nil ap (a8 (aq ar (pq 2) af (fun _ _=>rfl)) ad))) (aB ih (hr.mono Qo) rfl T.m__law_flat T.F__law_flat.kp T.b__law_flat .nil ap (a8 (aq ar (pq 2) af (fun _ _=>rfl)) ad))))) (ao (aU (aO ef (aq ar (pq 2) af (fun _ _=>rfl)) (aJ (a8 aF (a8 aF ad))) (by with_unfolding_all rfl)) (ao (aA (i:=1) fA.nd rfl (Or.inl rfl) (ax bZ (pq 1) (aB ih (hr.mono Qo) rfl T.m__law_flat T.F__law_flat.kp T.b__law_flat .nil ap (a8 (aq ar (pq 2) af (fun _ _=>rfl)) ad))))) bA))))))
   (ao (aH (pq 1))))),?_⟩
  obtain⟨hb1,hds⟩:=hb
  rename_i vs
  refine⟨qr _,fun f0 hf0=>?_⟩
  refine⟨_,rfl,b,rfl,⟨_,SqL.of ((aa.new hf0 _) _ _ (e0 _ _ hb1))⟩,?_⟩
  refine cC (K:=K) (a:=b) (xs:=vs) (fun i σ H2=>∃f us v2,σ=[some (.ref b),some (.ref f),v2]/\aa H H2/\H f=none/\H2 f=some (.lst us)/\RDs H0 us (ag (ds.take i))) ⟨f0,[],_,rfl,aa.new hf0 _,hf0,ae,.nil⟩ ?_ ?_ ?_
  ·rintro i σ H2 _ ⟨f,us,v2,_,s2,_⟩
   exact SqL.of (s2 _ _ (e0 _ _ hb1))
  ·rintro i x σ H2 hx ⟨f,us,v2,rfl,s2,nf,hf2,hus⟩
   obtain⟨d,hd,hrd⟩:=hds.at i x hx
   have all:ag (ds.take (i+1))=ag (ds.take i)++([d]++d.inner.flatMap ag):=ub hd
   have lall:(ag (ds.take (i+1))).length<=1000:=qx mU hfl
   rw[all]at lall
   simp only[qa,List.length_singleton]at lall
   have ul:=hus.len
   refine⟨_,rfl,.inl ⟨rfl,_,SqL.of hf2⟩,_,rfl,f,_,_,rfl,rfl,hf2,aM (m:=1001) Qo,?_⟩
   have s3:aa H (upd H2 f (.lst (us++[x]))):=aa.over s2 nf
   have f3:upd H2 f (.lst (us++[x])) f=some (.lst (us++[x])):=ae
   have r3:RDs H0 (us++[x]) (ag (ds.take i)++[d]):=hus.app (.cons hrd .nil)
   generalize upd H2 f (.lst (us++[x]))=H3 at s3 f3 ⊢
   have s03:=e0.trans s3
   have dd:=jy hd
   have one:∀v,d.inner=[]->∃f us v2,[some (V.ref b),some (.ref f),v]=[some (.ref b),some (.ref f),v2]/\aa H H3/\H f=none/\H3 f=some (.lst us)/\RDs H0 us (ag (ds.take (i+1))):=fun v h=>⟨f,_,v,rfl,s3,nf,f3,by rw[all,h];simpa using r3⟩
   cases hrd with
   |cond h h1 h2=>
    rename_i t t1 t2 xn ts os
    have ht:=s03 _ _ h
    have il:(ag ts).length+(ag os).length<=1000:=by simp[a9.inner]at lall;omega
    have d1:av ts<n:=by have:=fO (d:=.cond xn ts os) (j:=0) (b:=ts) rfl;omega
    have d2:av os<n:=by have:=fO (d:=.cond xn ts os) (j:=1) (b:=os) rfl;omega
    refine⟨_,rfl,t,_,0,_,rfl,rfl,SqT.of ht,rfl,rfl,_,rfl,?_⟩
    walk_at "yes"
    refine⟨_,rfl,_,rfl,t,_,2,_,rfl,rfl,SqT.of ht,rfl,H0,t1,ts,rfl,s03,h1,d1,Qo,fun H4 l4 us4 s4 n4 h4 r4=>?_⟩
    refine⟨f,l4,_,_,rfl,rfl,SqL.of (s4 _ _ f3),SqL.of h4,aM (m:=10000) (by rw[qa,r4.len];show _+1+_<=_;omega),fun l5 hl5=>?_⟩
    have e5:=aa.new hl5 (.lst (us++[.ref t]++us4))
    have s45:=s4.trans e5
    have l5':upd H4 l5 (.lst (us++[.ref t]++us4)) l5=some (.lst (us++[.ref t]++us4)):=ae
    generalize upd H4 l5 (.lst (us++[.ref t]++us4))=H5 at e5 s45 l5' ⊢
    have s05:=s03.trans s45
    refine⟨_,rfl,t,_,3,_,rfl,rfl,SqT.of (s45 _ _ ht),rfl,H0,t2,os,rfl,s05,h2,d2,Qo,fun H6 l6 us6 s6 n6 h6 r6=>?_⟩
    refine⟨l5,l6,_,_,rfl,rfl,SqL.of (s6 _ _ l5'),SqL.of h6,aM (m:=10000) (by rw[qa,qa,r4.len,r6.len];show _+1+_+_<=_;omega),fun l7 hl7=>?_⟩
    have s37:=(s45.trans s6).trans (aa.new hl7 (.lst (us++[.ref t]++us4++us6)))
    refine⟨l7,_,_,rfl,s3.trans s37,aa.none (s3.trans (s45.trans s6)) hl7,ae,?_⟩
    rw[all]
    have:=(r3.app r4).app r6
    simpa[a9.inner,qM]using this
   |whl h h1=>
    rename_i t t1 xn bs
    have ht:=s03 _ _ h
    have il:(ag bs).length<=1000:=by simp[a9.inner]at lall;omega
    have d1:av bs<n:=by have:=fO (d:=.whl xn bs) (j:=0) (b:=bs) rfl;omega
    refine⟨_,rfl,t,_,0,_,rfl,rfl,SqT.of ht,rfl,rfl,_,rfl,?_⟩
    walk_at "no"
    refine⟨_,rfl,t,_,0,_,rfl,rfl,SqT.of ht,rfl,ln2,fun l3 hl3=>?_⟩
    have e3:=aa.new hl3 (.lst [.str "while",.str "repeat"])
    refine⟨l3,_,rfl,.inl (SqL.of ae),rfl,rfl,_,rfl,?_⟩
    walk_at "yes"
    have s3':=s3.trans e3
    have f3':=e3 _ _ f3
    have ht':=e3 _ _ ht
    generalize upd H3 l3 (.lst [.str "while",.str "repeat"])=G3 at e3 s3' f3' ht' ⊢
    refine⟨_,rfl,_,rfl,t,_,2,_,rfl,rfl,SqT.of ht',rfl,H0,t1,bs,rfl,e0.trans s3',h1,d1,Qo,fun H4 l4 us4 s4 n4 h4 r4=>?_⟩
    refine⟨f,l4,_,_,rfl,rfl,SqL.of (s4 _ _ f3'),SqL.of h4,aM (m:=10000) (by rw[qa,r4.len];show _+1+_<=_;omega),fun l7 hl7=>?_⟩
    refine⟨l7,_,_,rfl,(s3'.trans s4).trans (aa.new hl7 _),aa.none (s3'.trans s4) hl7,ae,?_⟩
    rw[all]
    have:=r3.app r4
    simpa[a9.inner,qM]using this
   |rep h h1=>
    rename_i t t1 kk bs
    have ht:=s03 _ _ h
    have il:(ag bs).length<=1000:=by simp[a9.inner]at lall;omega
    have d1:av bs<n:=by have:=fO (d:=.rep kk bs) (j:=0) (b:=bs) rfl;omega
    refine⟨_,rfl,t,_,0,_,rfl,rfl,SqT.of ht,rfl,rfl,_,rfl,?_⟩
    walk_at "no"
    refine⟨_,rfl,t,_,0,_,rfl,rfl,SqT.of ht,rfl,ln2,fun l3 hl3=>?_⟩
    have e3:=aa.new hl3 (.lst [.str "while",.str "repeat"])
    refine⟨l3,_,rfl,.inl (SqL.of ae),rfl,rfl,_,rfl,?_⟩
    walk_at "yes"
    have s3':=s3.trans e3
    have f3':=e3 _ _ f3
    have ht':=e3 _ _ ht
    generalize upd H3 l3 (.lst [.str "while",.str "repeat"])=G3 at e3 s3' f3' ht' ⊢
    refine⟨_,rfl,_,rfl,t,_,2,_,rfl,rfl,SqT.of ht',rfl,H0,t1,bs,rfl,e0.trans s3',h1,d1,Qo,fun H4 l4 us4 s4 n4 h4 r4=>?_⟩
    refine⟨f,l4,_,_,rfl,rfl,SqL.of (s4 _ _ f3'),SqL.of h4,aM (m:=10000) (by rw[qa,r4.len];show _+1+_<=_;omega),fun l7 hl7=>?_⟩
    refine⟨l7,_,_,rfl,(s3'.trans s4).trans (aa.new hl7 _),aa.none (s3'.trans s4) hl7,ae,?_⟩
    rw[all]
    have:=r3.app r4
    simpa[a9.inner,qM]using this
   |set h=>
    have ht:=s03 _ _ h
    rename_i t _ _ _ _
    refine⟨_,rfl,t,_,0,_,rfl,rfl,SqT.of ht,rfl,rfl,_,rfl,?_⟩
    walk_at "no"
    refine⟨_,rfl,t,_,0,_,rfl,rfl,SqT.of ht,rfl,ln2,fun l3 hl3=>?_⟩
    have e3:=aa.new hl3 (.lst [.str "while",.str "repeat"])
    refine⟨l3,_,rfl,.inl (SqL.of ae),rfl,rfl,_,rfl,?_⟩
    walk_at "no"
    exact⟨f,_,_,rfl,s3.trans e3,nf,e3 _ _ f3,by rw[all];simpa[a9.inner]using r3⟩
   |put h=>
    have ht:=s03 _ _ h
    rename_i t _ _
    refine⟨_,rfl,t,_,0,_,rfl,rfl,SqT.of ht,rfl,rfl,_,rfl,?_⟩
    walk_at "no"
    refine⟨_,rfl,t,_,0,_,rfl,rfl,SqT.of ht,rfl,ln2,fun l3 hl3=>?_⟩
    have e3:=aa.new hl3 (.lst [.str "while",.str "repeat"])
    refine⟨l3,_,rfl,.inl (SqL.of ae),rfl,rfl,_,rfl,?_⟩
    walk_at "no"
    exact⟨f,_,_,rfl,s3.trans e3,nf,e3 _ _ f3,by rw[all];simpa[a9.inner]using r3⟩
   |get h=>
    have ht:=s03 _ _ h
    rename_i t _ _
    refine⟨_,rfl,t,_,0,_,rfl,rfl,SqT.of ht,rfl,rfl,_,rfl,?_⟩
    walk_at "no"
    refine⟨_,rfl,t,_,0,_,rfl,rfl,SqT.of ht,rfl,ln2,fun l3 hl3=>?_⟩
    have e3:=aa.new hl3 (.lst [.str "while",.str "repeat"])
    refine⟨l3,_,rfl,.inl (SqL.of ae),rfl,rfl,_,rfl,?_⟩
    walk_at "no"
    exact⟨f,_,_,rfl,s3.trans e3,nf,e3 _ _ f3,by rw[all];simpa[a9.inner]using r3⟩
   |give h=>
    have ht:=s03 _ _ h
    rename_i t _
    refine⟨_,rfl,t,_,0,_,rfl,rfl,SqT.of ht,rfl,rfl,_,rfl,?_⟩
    walk_at "no"
    refine⟨_,rfl,t,_,0,_,rfl,rfl,SqT.of ht,rfl,ln2,fun l3 hl3=>?_⟩
    have e3:=aa.new hl3 (.lst [.str "while",.str "repeat"])
    refine⟨l3,_,rfl,.inl (SqL.of ae),rfl,rfl,_,rfl,?_⟩
    walk_at "no"
    exact⟨f,_,_,rfl,s3.trans e3,nf,e3 _ _ f3,by rw[all];simpa[a9.inner]using r3⟩
  ·rintro σ H2 ⟨f,us,v2,rfl,s2,nf,hf2,hus⟩
   rw[hds.len,qG]at hus
   exact⟨_,rfl,k H2 f us s2 nf hf2 hus⟩
theorem A7 (T:Tx P w K mg a):∀n:Nat,aD P w K mg base CX0 (n+1) a._law_bare a.fd__law_bare ["_law_block"] (pv n):=by
 intro n
 induction n with
 |zero=>
  refine T.F__law_bare.ok pV (fun vs H Q E h=>?_) (fun cdv A outer s H vs Q E hr h=>?_)
  ·obtain⟨_,_,_,rfl,_⟩:=h
   rfl
  ·obtain⟨_,_,_,_,_,_,h0,_⟩:=h
   exact absurd h0 (Nat.not_lt_zero _)
 |succ n ih=>
  refine T.F__law_bare.ok pV (fun vs H Q E h=>?_) (fun cdv A outer s H vs Q E hr h=>?_)
  ·obtain⟨_,_,_,rfl,_⟩:=h
   rfl
  obtain⟨H0,b,ds,rfl,e0,hb,hdp,hfl,k⟩:=h
  refine⟨_,(ao (aH (aV (uL rfl) rfl T.z_all PyProof.Rows.Boot.«all» (a8 (cL (k:=1) (Nc:=["_law_deed"]) (js:=[]) (show aX (aC iR) ["_law_block"] _ 1 ["_law_deed"] []from aX.mk rfl (by decide +kernel) (by decide +kernel) (by decide +kernel) rfl (by decide +kernel)) rfl (bH (pq 0)) (fun _ _ _ _ _=>(aW (i:=0) (show List.Nodup (["_law_deed"]:List Str)from by decide +kernel) rfl (Or.inl rfl))) (fun _ _ _ _ _=>cT) (fun _ _ _ _ _=>(rS (gL bn (aq (re (K:=K) rfl) (pq 0) af (fun _ _=>rfl)) aF (aT _)) (lW (aB ih (hr.mono Qo) rfl T.m__law_bare T.F__law_bare.kp T.b__law_bare .nil ap (a8 (aq (re (K:=K) rfl) (pq 0) af (fun _ _=>rfl)) ad)))))) ad)))),?_⟩
  obtain⟨hb1,hds⟩:=hb
  rename_i vs
  have vl:=hds.len
  have dl:=jw ds
  refine⟨_,rfl,b,rfl,⟨_,SqL.of (e0 _ _ hb1)⟩,?_⟩
  refine eT (K:=K) (a:=b) (xs:=vs) (fun i ys σ H2=>(∃v,σ=[v])/\aa H H2/\ys=((ds.take i).map a9.bare).map V.bl) ⟨⟨_,rfl⟩,aa.refl _,rfl⟩ ?_ (aM (m:=1000) Qo) ?_ ?_ ?_
  ·rintro i ys σ H2 _ ⟨_,_,rfl⟩
   rw[q5,q5,qJ]
   omega
  ·rintro i ys σ H2 ⟨_,s2,_⟩
   exact SqL.of (s2 _ _ (e0 _ _ hb1))
  ·rintro i x ys σ H2 hx ⟨⟨v,rfl⟩,s2,rfl⟩
   obtain⟨d,hd,hrd⟩:=hds.at i x hx
   have s02:=e0.trans s2
   have st:(((ds.take (i+1)).map a9.bare).map V.bl)=((ds.take i).map a9.bare).map V.bl++[V.bl d.bare]:=by rw[qq,hd,qO,qO];rfl
   have dd:=jy hd
   rw[st]
   cases hrd with
   |rep h h1=>
    rename_i t t1 kk bs
    have ht:=s02 _ _ h
    have fl:(ag bs).length<=(ag ds).length:=((mV (d:=.rep kk bs) (b:=bs) (by simp[a9.inner])).trans (mT (qy hd))).length_le
    have d1:av bs<n:=by have:=fO (d:=.rep kk bs) (j:=0) (b:=bs) rfl;omega
    refine⟨_,rfl,t,_,0,_,rfl,rfl,SqT.of ht,rfl,rfl,_,rfl,?_⟩
    walk_at "yes"
    refine⟨_,rfl,t,_,2,_,rfl,rfl,SqT.of ht,rfl,H0,t1,bs,rfl,s02,h1,d1,Qo,fun H3 s3=>?_⟩
    exact⟨⟨_,rfl⟩,s2.trans s3,by rw[a9.bare]⟩
   |set h=>
    have ht:=s02 _ _ h
    rename_i t _ _ _ _
    refine⟨_,rfl,t,_,0,_,rfl,rfl,SqT.of ht,rfl,rfl,_,rfl,?_⟩
    walk_at "no"
    exact⟨⟨_,rfl⟩,s2,by rw[a9.bare]⟩
   |put h=>
    have ht:=s02 _ _ h
    rename_i t _ _
    refine⟨_,rfl,t,_,0,_,rfl,rfl,SqT.of ht,rfl,rfl,_,rfl,?_⟩
    walk_at "no"
    exact⟨⟨_,rfl⟩,s2,by rw[a9.bare]⟩
   |get h=>
    have ht:=s02 _ _ h
    rename_i t _ _
    refine⟨_,rfl,t,_,0,_,rfl,rfl,SqT.of ht,rfl,rfl,_,rfl,?_⟩
    walk_at "no"
    exact⟨⟨_,rfl⟩,s2,by rw[a9.bare]⟩
   |give h=>
    have ht:=s02 _ _ h
    rename_i t _
    refine⟨_,rfl,t,_,0,_,rfl,rfl,SqT.of ht,rfl,rfl,_,rfl,?_⟩
    walk_at "no"
    exact⟨⟨_,rfl⟩,s2,by rw[a9.bare]⟩
   |cond h h1 h2=>
    have ht:=s02 _ _ h
    rename_i t _ _ _ _ _
    refine⟨_,rfl,t,_,0,_,rfl,rfl,SqT.of ht,rfl,rfl,_,rfl,?_⟩
    walk_at "no"
    exact⟨⟨_,rfl⟩,s2,by rw[a9.bare]⟩
   |whl h h1=>
    have ht:=s02 _ _ h
    rename_i t _ _ _
    refine⟨_,rfl,t,_,0,_,rfl,rfl,SqT.of ht,rfl,rfl,_,rfl,?_⟩
    walk_at "no"
    exact⟨⟨_,rfl⟩,s2,by rw[a9.bare]⟩
  rintro ys σ H2 ⟨_,s2,rfl⟩ l hl
  rw[vl,qG]
  refine⟨l,_,rfl,SqL.of ae,?_⟩
  rw[List.all_map,show ds.all (id ∘ a9.bare)=cn ds from(uY ds).symm]
  exact k _ (s2.trans (aa.new hl _))
theorem uI {ak:List Str}{ss:List (Str×Int)}{ds:List a9}(st:∀d∈ag ds,∀q x,d=.put q x\/d=.get q x->q∈ss.map (·.1)) (k:Str):
 k∈bT ak ss ds↔k∈[(">":Str)]++ak++(ss.flatMap fun s=>[s.1++(">":Str),s.1++("<":Str)])++(ag ds).flatMap a9.names:=by
 unfold bT
 simp only[qg,qS]
 constructor
 ·rintro(((h|h)|h)|h)
  ·exact .inl (.inl (.inr h))
  ·obtain⟨d,hd,hk⟩:=List.mem_flatMap.mp h
   unfold a9.cards at hk
   rcases qg.mp hk with h'|h'
   ·exact .inr (List.mem_flatMap.mpr ⟨d,hd,h'⟩)
   ·cases d with
    |put q x=>
     simp[a9.others]at h'
     obtain⟨s,hs,e⟩:=List.mem_map.mp (st _ hd q x (.inl rfl))
     exact .inl (.inr (List.mem_flatMap.mpr ⟨s,hs,by rw[h',e];simp⟩))
    |get q x=>
     simp[a9.others]at h'
     obtain⟨s,hs,e⟩:=List.mem_map.mp (st _ hd q x (.inr rfl))
     exact .inl (.inr (List.mem_flatMap.mpr ⟨s,hs,by rw[h',e];simp⟩))
    |give x=>simp[a9.others]at h';exact .inl (.inl (.inl h'))
    |whl x b=>simp[a9.others]at h';exact .inl (.inl (.inl h'))
    |set x a sg b=>simp[a9.others]at h'
    |cond x t o=>simp[a9.others]at h'
    |rep n b=>simp[a9.others]at h'
  ·exact .inl (.inl (.inl h))
  ·exact .inl (.inr h)
 ·rintro(((h|h)|h)|h)
  ·exact .inl (.inr h)
  ·exact .inl (.inl (.inl h))
  ·exact .inr h
  ·obtain⟨d,hd,hk⟩:=List.mem_flatMap.mp h
   exact .inl (.inl (.inr (List.mem_flatMap.mpr ⟨d,hd,by unfold a9.cards;simp[hk]⟩)))
theorem A5 (T:Tx P w K mg a):aD P w K mg base CX0 15 a._law_cards a.fd__law_cards ["_law_program_here"] pi:=by
 refine T.F__law_cards.ok eI (fun vs H Q E h=>?_) (fun cdv A outer s H vs Q E hr h=>?_)
 ·obtain⟨_,_,_,_,_,_,_,_,_,rfl,_⟩:=h
  rfl
 obtain⟨p,la,ls,lb,ak,ss,ds,us,C,rfl,RP,dp,fl,al,sl,s1,akC,c20,st,q⟩:=h
 refine⟨_,(ai (aA (i:=1) eI.nd rfl (Or.inl rfl) (ax bZ (aJ (a8 aF ad)) (aq ar (pq 0) af (fun _ _=>rfl))))
  (ai (bQ PassesOwn.never rfl (bH (aq ar (pq 0) af (fun _ _=>rfl))) (eK rfl (cf (aW (i:=2) eI.nd rfl (Or.inl rfl)) (cf (aW (i:=3) eI.nd rfl (Or.inl rfl)) eJ)))
  (ao (aA (i:=1) eI.nd rfl (Or.inl rfl) (ax bZ (pq 1) (aJ (a8 (ax fD (pq 2) aF) (a8 (ax fD (pq 2) aF) ad)))))))
  (ai (bQ PassesOwn.never rfl (bH (aB (sA T 13) (hr.mono Qk) rfl T.m__law_flat T.F__law_flat.kp T.b__law_flat .nil ap (a8 (aq ar (pq 0) af (fun _ _=>rfl)) ad))) (aW (i:=4) eI.nd rfl (Or.inl rfl))
  (ao (aU (aO bn (aq ar (pq 4) af (fun _ _=>rfl)) aF (aT _)) (ao (aA (i:=1) eI.nd rfl (Or.inl rfl) (ax bZ (pq 1) (cL (k:=1) (Nc:=["_law_x"]) (js:=[]) (show aX (aC iQ) ["_law_program_here","_law_cards_here","_law_name","_law_length","_law_deed"] _ 1 ["_law_x"] []from aX.mk rfl (by decide +kernel) (by decide +kernel) (by decide +kernel) rfl (by decide +kernel)) rfl (bH (aJ (a8 (aq ar (pq 4) af (fun _ _=>rfl)) (a8 (aq ar (pq 4) af (fun _ _=>rfl)) (a8 (aq ar (pq 4) af (fun _ _=>rfl)) ad))))) (fun _ _ _ _ _=>(aW (i:=0) (show List.Nodup (["_law_x"]:List Str)from by decide +kernel) rfl (Or.inl rfl))) (fun _ _ _ _ _=>(rJ (cJ (aV (rk (K:=K) rfl) rfl T.z_isinstance PyProof.Rows.Boot.«isinstance» (a8 (pq 0) (a8 (dA (v:=.ty "str") rfl T.z_str PyProof.Rows.Boot.«str» rfl) ad)))))) (fun _ _ _ _ _=>(pq 0)))))) (ao (aU (aO ef (aq ar (pq 4) af (fun _ _=>rfl)) (aJ (a8 aF (a8 aF ad))) (by with_unfolding_all rfl)) (ao (aI (bD qf qu qv ce (pq 1) (a8 (aq ar (pq 4) af (fun _ _=>rfl)) ad)))) (ao (aU (aO gC (aq ar (pq 4) af (fun _ _=>rfl)) aF (aT _)) (ao (aI (bD qf qu qv ce (pq 1) (a8 (aq ar (pq 4) af (fun _ _=>rfl)) ad)))) bA)))))))
  (ao (aH (aV (fV rfl) rfl T.z_sorted PyProof.Rows.Boot.«sorted» (a8 (cj (eF rfl) rfl T.z_set PyProof.Rows.Boot.«set» (a8 (pq 1) ad)) ad))))))),?_⟩
 refine⟨ln1,fun l0 hl0=>?_⟩
 have e0:=aa.new hl0 (.lst [.str ">"])
 refine⟨_,rfl,p,_,0,_,rfl,rfl,SqT.of (e0 _ _ RP.top),rfl,l0,la,_,_,rfl,rfl,SqL.of ae,SqL.of (e0 _ _ RP.as),aM (m:=1000) (by rw[q5];show 1+_<=_;omega),fun l1 hl1=>?_⟩
 have e1:=e0.trans (aa.new hl1 (.lst ([.str ">"]++ak.map V.str)))
 have n1:=aa.none e0 hl1
 have l1':upd (upd H l0 (.lst [.str ">"])) l1 (.lst ([.str ">"]++ak.map V.str)) l1=some (.lst (([(">":Str)]++ak).map V.str)):=ae
 generalize upd (upd H l0 (.lst [.str ">"])) l1 (.lst ([.str ">"]++ak.map V.str))=H1 at e1 l1' ⊢
 have ul:=RP.ro.len
 refine⟨_,rfl,p,_,1,_,rfl,rfl,SqT.of (e1 _ _ RP.top),rfl,ls,rfl,⟨_,SqL.of (e1 _ _ RP.st)⟩,?_⟩
 refine cC (K:=K) (a:=ls) (xs:=us) (fun i σ H2=>(∃l v2 v3,σ=[some (.ref p),some (.ref l),v2,v3,none]/\H l=none/\H2 l=some (.lst (([(">":Str)]++ak++(ss.take i).flatMap fun s=>[s.1++(">":Str),s.1++("<":Str)]).map V.str)))/\aa H H2) ⟨⟨l1,_,_,rfl,n1,by simpa using l1'⟩,e1⟩ ?_ ?_ ?_
 ·rintro i σ H2 _ ⟨_,s2⟩
  exact SqL.of (s2 _ _ RP.st)
 ·rintro i x σ H2 hx ⟨⟨l,v2,v3,rfl,nl,hl⟩,s2⟩
  obtain⟨ps,sn,sz,rfl,hss,hps⟩:=RP.ro.at i x hx
  have il:=(qe.mp hss).1
  have sn1:=s1 _ (qy hss)
  refine⟨ps,_,rfl,SqT.of (s2 _ _ hps),rfl,_,_,rfl,_,_,rfl,rfl,?_⟩
  have sn1:sn.length<=1000:=sn1
  refine⟨_,rfl,_,rfl,_,_,rfl,rfl,aM (m:=2000) (by show _+1<=_;omega),_,rfl,_,_,rfl,rfl,aM (m:=2000) (by show _+1<=_;omega),ln2,fun l3 hl3=>?_⟩
  have e3:=aa.new hl3 (.lst [.str (sn++(">":Str)),.str (sn++("<":Str))])
  have fm:∀l:List (Str×Int),(l.flatMap fun s=>[s.1++(">":Str),s.1++("<":Str)]).length=2 * l.length:=fun l=>by
   induction l with
   |nil=>rfl
   |cons a r ih=>
    have e2:[a.1++(">":Str),a.1++("<":Str)].length=2:=rfl
    rw[qE,qa,ih,e2,qz]
    omega
  refine⟨l,l3,_,_,rfl,rfl,SqL.of (e3 _ _ hl),SqL.of ae,aM (m:=1000) (by rw[q5,qa,qa,fm,qJ];show 1+_+_+2<=_;omega),fun l4 hl4=>?_⟩
  have s4:=(s2.trans e3).trans (aa.new hl4 (.lst (([(">":Str)]++ak++(ss.take i).flatMap fun s=>[s.1++(">":Str),s.1++("<":Str)]).map V.str++[.str (sn++(">":Str)),.str (sn++("<":Str))])))
  refine⟨⟨l4,_,_,rfl,aa.none (s2.trans e3) hl4,?_⟩,s4⟩
  rw[ae,qq,hss,Option.toList,qU,<- qM,qO (l₁:=[(">":Str)]++ak++(ss.take i).flatMap _)]
  rfl
 rintro σ H2 ⟨⟨l2,v2,v3,rfl,nl2,hl2⟩,s2⟩
 rw[ul,qG]at hl2
 generalize hB0:[(">":Str)]++ak++ss.flatMap (fun s=>[s.1++(">":Str),s.1++("<":Str)])=B0 at hl2
 have b0l:B0.length<=400:=by
  have fm:∀l:List (Str×Int),(l.flatMap fun s=>[s.1++(">":Str),s.1++("<":Str)]).length=2 * l.length:=fun l=>by
   induction l with
   |nil=>rfl
   |cons a r ih=>
    have e2:[a.1++(">":Str),a.1++("<":Str)].length=2:=rfl
    rw[qE,qa,ih,e2,qz]
    omega
  rw[<- hB0,qa,qa,fm]
  show 1+_+_<=_
  omega
 refine⟨_,rfl,p,_,2,_,rfl,rfl,SqT.of (s2 _ _ RP.top),rfl,H,lb,ds,rfl,s2,RP.bo,Qo,Qo,fun H3 lf uf s3 nf hf rf=>⟨lf,rfl,⟨_,SqL.of hf⟩,?_⟩⟩
 have s23:=s2.trans s3
 have fl3:=rf.len
 have nm3:∀d:a9,d.names.length<=3:=fun d=>by
  cases d with
  |set x va sg vb=>cases va<;>cases vb<;>simp[a9.names,Val.names]
  |_=>simp[a9.names]
 have nml:∀i:Nat,(((ag ds).take i).flatMap a9.names).length<=3 * i:=fun i=>by
  have:∀l:List a9,(l.flatMap a9.names).length<=3 * l.length:=fun l=>by
   induction l with
   |nil=>exact qd _
   |cons d r ih=>rw[qE,qa,qz];have:=nm3 d;omega
  have h1:=this ((ag ds).take i)
  rw[qJ]at h1
  omega
 have n2:l2≠lf:=fun z=>by rw[z,nf]at hl2;cases hl2
 refine cC (K:=K) (a:=lf) (xs:=uf) (fun i σ H4=>∃l v4,σ=[some (.ref p),some (.ref l),v2,v3,v4]/\H l=none/\l≠lf/\H4 l=some (.lst ((B0++((ag ds).take i).flatMap a9.names).map V.str))/\aa H H4/\H4 lf=some (.lst uf)) ⟨l2,_,rfl,nl2,n2,by simpa using s3 _ _ hl2,s23,hf⟩ ?_ ?_ ?_
 ·rintro i σ H4 _ ⟨_,_,_,_,_,_,_,h4⟩
  exact SqL.of h4
 ·rintro i x σ H4 hx ⟨l,v4,rfl,nl,nlf,hl,s4,h4⟩
  obtain⟨d,hd,hrd⟩:=rf.at i x hx
  have il:=(qe.mp hd).1
  have tk:(B0++((ag ds).take (i+1)).flatMap a9.names).map V.str=(B0++((ag ds).take i).flatMap a9.names).map V.str++d.names.map V.str:=by
   rw[qq,hd,Option.toList,qU,<- qM,qO (l₁:=B0++_)]
   simp
  have lb:((B0++((ag ds).take i).flatMap a9.names).map V.str).length<=1400:=by
   have:=nml i
   rw[q5,qa]
   omega
  generalize (B0++((ag ds).take i).flatMap a9.names).map V.str=Bi at hl tk lb
  have app:∀(G:Hp) (xn:Str) (v:Option V),aa H4 G->d.names=[xn]->∃l' v4,[some (V.ref p),some (.ref l),v2,v3,v]=[some (.ref p),some (.ref l'),v2,v3,v4]/\H l'=none/\l'≠lf/\upd G l (.lst (Bi++[.str xn])) l'=some (.lst ((B0++((ag ds).take (i+1)).flatMap a9.names).map V.str))/\aa H (upd G l (.lst (Bi++[.str xn])))/\upd G l (.lst (Bi++[.str xn])) lf=some (.lst uf):=fun G xn v sg en=>⟨l,v,rfl,nl,nlf,by rw[ae,tk,en];rfl,aa.over (s4.trans sg) nl,by rw[aj nlf.symm];exact sg _ _ h4⟩
  cases hrd with
  |set h=>
   rename_i t xn va sg vb
   have ht:=s4 _ _ h
   refine⟨_,rfl,t,_,0,_,rfl,rfl,SqT.of ht,rfl,rfl,_,rfl,?_⟩
   walk_at "yes"
   refine⟨_,rfl,_,rfl,t,_,1,_,rfl,rfl,SqT.of ht,rfl,_,rfl,t,_,2,_,rfl,rfl,SqT.of ht,rfl,_,rfl,t,_,4,_,rfl,rfl,SqT.of ht,rfl,ln3,fun l5 hl5=>⟨l5,rfl,⟨_,SqL.of ae⟩,?_⟩⟩
   have e5:=aa.new hl5 (.lst [.str xn,va.v,vb.v])
   have l5':upd H4 l5 (.lst [.str xn,va.v,vb.v]) l5=some (.lst ([Val.nm xn,va,vb].map Val.v)):=ae
   have hl5:=e5 _ _ hl
   have s5:=s4.trans e5
   have h5:=e5 _ _ h4
   generalize upd H4 l5 (.lst [.str xn,va.v,vb.v])=H5 at e5 l5' hl5 s5 h5 ⊢
   have v3l:∀j,((([Val.nm xn,va,vb].take j).flatMap Val.names).map V.str).length<=j:=fun j=>by
    rw[q5]
    have:∀l:List Val,(l.flatMap Val.names).length<=l.length:=fun l=>by
     induction l with
     |nil=>exact qd _
     |cons v r ih=>
      have:v.names.length<=1:=by cases v<;>simp[Val.names]
      rw[qE,qa,qz]
      omega
    have:=this ([Val.nm xn,va,vb].take j)
    rw[qJ]at this
    omega
   refine uD (K:=K) (a:=l5) (xs:=[Val.nm xn,va,vb].map Val.v) (fun j ys σ H6=>(∃v,σ=[v])/\H6=H5/\ys=(([Val.nm xn,va,vb].take j).flatMap Val.names).map V.str) ⟨⟨_,rfl⟩,rfl,rfl⟩ ?_ (by exact ln3) ?_ ?_ ?_
   ·rintro j ys σ H6 _ ⟨_,_,rfl⟩
    exact v3l j
   ·rintro j ys σ H6 ⟨_,rfl,_⟩
    exact SqL.of l5'
   ·rintro j z ys σ H6 hz ⟨⟨v0,rfl⟩,rfl,rfl⟩
    rw[qD]at hz
    obtain⟨v,hv,rfl⟩:=qP.mp hz
    have tk2:(([Val.nm xn,va,vb].take (j+1)).flatMap Val.names).map V.str=(([Val.nm xn,va,vb].take j).flatMap Val.names).map V.str++v.names.map V.str:=by
     rw[qq,hv,Option.toList,qU,qO]
     simp
    cases v with
    |num n=>
     refine⟨_,rfl,_,_,_,false,rfl,.int n,rfl,_,rfl,aZ rfl ?_⟩
     exact⟨⟨_,rfl⟩,rfl,by rw[tk2];simp[Val.names]⟩
    |nm y=>
     refine⟨_,rfl,_,_,_,true,rfl,.str y,rfl,_,rfl,bR rfl ?_⟩
     exact⟨_,rfl,⟨_,rfl⟩,rfl,by rw[tk2];rfl⟩
   rintro ys σ H6 ⟨_,rfl,rfl⟩ l7 hl7
   have e7:=aa.new hl7 (.lst ((([Val.nm xn,va,vb].take ([Val.nm xn,va,vb].map Val.v).length).flatMap Val.names).map V.str))
   have v3n:=v3l 3
   refine⟨l,l7,_,_,rfl,rfl,SqL.of (e7 _ _ hl5),SqL.of ae,aM (m:=10000) (by show _+List.length (List.map V.str (([Val.nm xn,va,vb].take 3).flatMap Val.names))<=_;omega),fun l8 hl8=>?_⟩
   have s8:=(s5.trans e7).trans (aa.new hl8 (.lst (Bi++(([Val.nm xn,va,vb].take ([Val.nm xn,va,vb].map Val.v).length).flatMap Val.names).map V.str)))
   refine⟨l8,_,rfl,aa.none (s5.trans e7) hl8,fun z=>?_,?_,s8,aa.new hl8 _ _ _ (e7 _ _ h5)⟩
   ·rw[z,e7 _ _ h5]at hl8
    cases hl8
   ·rw[ae,tk]
    simp[a9.names,Val.names]
  |put h=>
   rename_i t sn xn
   have ht:=s4 _ _ h
   refine⟨_,rfl,t,_,0,_,rfl,rfl,SqT.of ht,rfl,rfl,_,rfl,?_⟩
   walk_at "no"
   refine⟨_,rfl,t,_,0,_,rfl,rfl,SqT.of ht,rfl,ln2,fun l5 hl5=>?_⟩
   have e5:=aa.new hl5 (.lst [.str "put",.str "get"])
   refine⟨l5,_,rfl,.inl (SqL.of ae),rfl,rfl,_,rfl,?_⟩
   walk_at "yes"
   exact⟨_,rfl,.inl ⟨rfl,_,SqL.of (e5 _ _ hl)⟩,_,rfl,t,_,2,_,rfl,rfl,SqT.of (e5 _ _ ht),rfl,l,_,_,rfl,rfl,e5 _ _ hl,aM (m:=10000) Qo,app _ xn _ e5 rfl⟩
  |get h=>
   rename_i t sn xn
   have ht:=s4 _ _ h
   refine⟨_,rfl,t,_,0,_,rfl,rfl,SqT.of ht,rfl,rfl,_,rfl,?_⟩
   walk_at "no"
   refine⟨_,rfl,t,_,0,_,rfl,rfl,SqT.of ht,rfl,ln2,fun l5 hl5=>?_⟩
   have e5:=aa.new hl5 (.lst [.str "put",.str "get"])
   refine⟨l5,_,rfl,.inl (SqL.of ae),rfl,rfl,_,rfl,?_⟩
   walk_at "yes"
   exact⟨_,rfl,.inl ⟨rfl,_,SqL.of (e5 _ _ hl)⟩,_,rfl,t,_,2,_,rfl,rfl,SqT.of (e5 _ _ ht),rfl,l,_,_,rfl,rfl,e5 _ _ hl,aM (m:=10000) Qo,app _ xn _ e5 rfl⟩
  |give h=>
   rename_i t xn
   have ht:=s4 _ _ h
   refine⟨_,rfl,t,_,0,_,rfl,rfl,SqT.of ht,rfl,rfl,_,rfl,?_⟩
   walk_at "no"
   refine⟨_,rfl,t,_,0,_,rfl,rfl,SqT.of ht,rfl,ln2,fun l5 hl5=>?_⟩
   have e5:=aa.new hl5 (.lst [.str "put",.str "get"])
   refine⟨l5,_,rfl,.inl (SqL.of ae),rfl,rfl,_,rfl,?_⟩
   walk_at "no"
   have ht5:=e5 _ _ ht
   refine⟨_,rfl,t,_,0,_,rfl,rfl,SqT.of ht5,rfl,rfl,_,rfl,?_⟩
   walk_at "yes"
   exact⟨_,rfl,.inl ⟨rfl,_,SqL.of (e5 _ _ hl)⟩,_,rfl,t,_,1,_,rfl,rfl,SqT.of ht5,rfl,l,_,_,rfl,rfl,e5 _ _ hl,aM (m:=10000) Qo,app _ xn _ e5 rfl⟩
  |cond h h1 h2=>
   rename_i t t1 t2 xn ts os
   have ht:=s4 _ _ h
   refine⟨_,rfl,t,_,0,_,rfl,rfl,SqT.of ht,rfl,rfl,_,rfl,?_⟩
   walk_at "no"
   refine⟨_,rfl,t,_,0,_,rfl,rfl,SqT.of ht,rfl,ln2,fun l5 hl5=>?_⟩
   have e5:=aa.new hl5 (.lst [.str "put",.str "get"])
   refine⟨l5,_,rfl,.inl (SqL.of ae),rfl,rfl,_,rfl,?_⟩
   walk_at "no"
   have ht5:=e5 _ _ ht
   refine⟨_,rfl,t,_,0,_,rfl,rfl,SqT.of ht5,rfl,rfl,_,rfl,?_⟩
   walk_at "yes"
   exact⟨_,rfl,.inl ⟨rfl,_,SqL.of (e5 _ _ hl)⟩,_,rfl,t,_,1,_,rfl,rfl,SqT.of ht5,rfl,l,_,_,rfl,rfl,e5 _ _ hl,aM (m:=10000) Qo,app _ xn _ e5 rfl⟩
  |whl h h1=>
   rename_i t t1 xn bs
   have ht:=s4 _ _ h
   refine⟨_,rfl,t,_,0,_,rfl,rfl,SqT.of ht,rfl,rfl,_,rfl,?_⟩
   walk_at "no"
   refine⟨_,rfl,t,_,0,_,rfl,rfl,SqT.of ht,rfl,ln2,fun l5 hl5=>?_⟩
   have e5:=aa.new hl5 (.lst [.str "put",.str "get"])
   refine⟨l5,_,rfl,.inl (SqL.of ae),rfl,rfl,_,rfl,?_⟩
   walk_at "no"
   have ht5:=e5 _ _ ht
   refine⟨_,rfl,t,_,0,_,rfl,rfl,SqT.of ht5,rfl,rfl,_,rfl,?_⟩
   walk_at "yes"
   exact⟨_,rfl,.inl ⟨rfl,_,SqL.of (e5 _ _ hl)⟩,_,rfl,t,_,1,_,rfl,rfl,SqT.of ht5,rfl,l,_,_,rfl,rfl,e5 _ _ hl,aM (m:=10000) Qo,app _ xn _ e5 rfl⟩
  |rep h h1=>
   rename_i t t1 kk bs
   have ht:=s4 _ _ h
   refine⟨_,rfl,t,_,0,_,rfl,rfl,SqT.of ht,rfl,rfl,_,rfl,?_⟩
   walk_at "no"
   refine⟨_,rfl,t,_,0,_,rfl,rfl,SqT.of ht,rfl,ln2,fun l5 hl5=>?_⟩
   have e5:=aa.new hl5 (.lst [.str "put",.str "get"])
   refine⟨l5,_,rfl,.inl (SqL.of ae),rfl,rfl,_,rfl,?_⟩
   walk_at "no"
   refine⟨_,rfl,t,_,0,_,rfl,rfl,SqT.of (e5 _ _ ht),rfl,rfl,_,rfl,?_⟩
   walk_at "no"
   exact⟨l,_,rfl,nl,nlf,by rw[e5 _ _ hl,tk];simp[a9.names],s4.trans e5,e5 _ _ h4⟩
 ·rintro σ H4 ⟨l,v4,rfl,nl,nlf,hl,s4,h4⟩
  rw[fl3,qG]at hl
  have lb:(B0++(ag ds).flatMap a9.names).length<=1400:=by
   have:=nml (ag ds).length
   rw[qG]at this
   rw[qa]
   omega
  have mem:∀k,k∈B0++(ag ds).flatMap a9.names↔k∈bT ak ss ds:=fun k=>by rw[uI st,<- hB0]
  refine⟨_,rfl,l,_,rfl,SqL.of hl,Qo,fun p5 hp5=>?_⟩
  have e5:=aa.new hp5 (bf P w p5 (B0++(ag ds).flatMap a9.names))
  refine⟨p5,_,C,rfl,ae,fun k hk=>akC k ((mem k).mp hk),Qo,fun l6 zs hl6 nd hm so=>?_⟩
  exact q _ l6 zs ((s4.trans e5).trans (aa.new hl6 _)) (aa.none (s4.trans e5) hl6) ae ⟨nd,fun k=>(hm k).trans (mem k),so⟩
theorem A4 (T:Tx P w K mg a):aD P w K mg base CX0 16 a._law_due a.fd__law_due ["_law_program_here","_law_numbers_here"] ph:=by
 refine T.F__law_due.ok gy (fun vs H Q E h=>?_) (fun cdv A outer s H vs Q E hr h=>?_)
 ·obtain⟨_,_,_,_,_,_,_,_,_,_,_,rfl,_⟩:=h
  rfl
 obtain⟨p,la,ls,lb,ln,ak,ss,ds,us,C,nn,rfl,RP,hn,na,dp,fl,al,sl,nl,s1,akC,c20,st,q⟩:=h
 refine⟨_,(ai (aA (i:=2) gy.nd rfl (Or.inl rfl) (ax z9 (aJ (a8 af ad)) (aV bO rfl T.z_len PySem.boot_len (a8 (aB (A5 T) (hr.mono Qk) rfl T.m__law_cards T.F__law_cards.kp T.b__law_cards .nil ap (a8 (pq 0) ad)) ad))))
  (ai (bQ PassesOwn.never rfl (gJ rfl T.z_range (a8 (aV (Cv rfl) rfl T.z_min PyProof.Rows.Boot.«min» (a8 (aV bO rfl T.z_len PySem.boot_len (a8 (pq 1) ad)) (a8 (aV bO rfl T.z_len PySem.boot_len (a8 (aq ar (pq 0) af (fun _ _=>rfl)) ad)) ad))) ad)) (aW (i:=3) gy.nd rfl (Or.inl rfl))
  (ao (lR (ax bM (aq bX (pq 1) (pq 3) (fun _ _=>rfl)) (ax fI af af)) (lV (pq 2) (pq 3) kf))))
  (ai (bQ PassesOwn.never rfl (bH (aB (sA T 13) (hr.mono Qk) rfl T.m__law_flat T.F__law_flat.kp T.b__law_flat .nil ap (a8 (aq ar (pq 0) af (fun _ _=>rfl)) ad))) (aW (i:=4) gy.nd rfl (Or.inl rfl))
  (ao (aU (aO bn (aq ar (pq 4) af (fun _ _=>rfl)) aF (aT _)) (ao (aI (bD qf qu qv ce (pq 2) (a8 af ad)))) (ao (aU (PW.pt (dX (aO bn (aq ar (pq 4) af (fun _ _=>rfl)) aF (aT _)) (fF (du (cJ (aB (A7 T 13) (hr.mono Qk) rfl T.m__law_bare T.F__law_bare.kp T.b__law_bare .nil ap (a8 (aq ar (pq 4) af (fun _ _=>rfl)) ad))))))) (ao (aA (i:=2) gy.nd rfl (Or.inl rfl) (ax bZ (pq 2) (aJ (a8 af (a8 af ad)))))) bA)))))
  (ao (aH (aV (uK rfl) rfl T.z_sorted PyProof.Rows.Boot.«sorted» (a8 (pq 2) ad))))))),?_⟩
 refine⟨ln1,fun l0 hl0=>?_⟩
 have e0:=aa.new hl0 (.lst [.int 0])
 have l0':upd H l0 (.lst [.int 0]) l0=some (.lst [.int 0]):=ae
 generalize upd H l0 (.lst [.int 0])=H0 at e0 l0' ⊢
 refine⟨_,rfl,p,la,ls,lb,ak,ss,ds,us,C,rfl,RP.same e0,dp,fl,al,sl,s1,akC,c20,st,fun H1 l1 zs s1' n1 h1 cr=>?_⟩
 have zf:zs.length<=20:=qx (bS cr.nd fun z hz=>akC z ((cr.mem z).mp hz)) c20
 have az:ak.length<=zs.length:=bS na fun x hx=>(cr.mem x).mpr (by unfold bT;simp[hx])
 refine⟨l1,_,rfl,.inl (SqL.of h1),l0,_,_,rfl,rfl,s1' _ _ l0',?_,?_,?_,fun l2 hl2=>?_⟩
 ·rw[q5];omega
 ·rw[q5];omega
 ·rw[q5];exact aM (m:=100) (by show 1 * _<=_;omega)
 have e2:=aa.new hl2 (.lst (List.replicate ((zs.map V.str).length:Int).toNat [V.int 0]).flatten)
 have n2:H l2=none:=aa.none (e0.trans s1') hl2
 have l2':upd H1 l2 (.lst (List.replicate ((zs.map V.str).length:Int).toNat [V.int 0]).flatten) l2=some (.lst ((List.replicate zs.length (0:Int)).map V.int)):=by
  rw[ae,q5,qX,List.map_replicate]
  have:∀n:Nat,(List.replicate n [V.int 0]).flatten=List.replicate n (V.int 0):=fun n=>by
   induction n with
   |zero=>rfl
   |succ n ih=>rw[List.replicate_succ,List.flatten_cons,ih,List.replicate_succ];rfl
  rw[this]
 have s2:=(e0.trans s1').trans e2
 generalize upd H1 l2 (.lst (List.replicate ((zs.map V.str).length:Int).toNat [V.int 0]).flatten)=H2 at e2 l2' s2 ⊢
 have nl2:l2≠ln:=fun z=>by rw[z,hn]at n2;cases n2
 generalize hm:min nn.length ak.length=m at *
 refine⟨_,rfl,ln,_,rfl,.inl (SqL.of (s2 _ _ hn)),_,rfl,p,_,0,_,rfl,rfl,SqT.of (s2 _ _ RP.top),rfl,la,_,rfl,.inl (SqL.of (s2 _ _ RP.as)),_,_,rfl,?_⟩
 rw[show(if((ak.map V.str).length:Int)<((nn.map V.int).length:Int)then((ak.map V.str).length:Int)else((nn.map V.int).length:Int))=(m:Int)by rw[q5,q5];split<;>omega]
 refine⟨(m:Int),rfl,Qo,Qo,?_⟩
 have mz:m<=zs.length:=Qo
 refine BN (fun i σ H3=>(∃v3,σ=[some (.ref p),some (.ref ln),some (.ref l2),v3,none])/\aa H H3/\H3 l2=some (.lst (((nn.take i).map (fun n=>n % 1000000000000000000000000000000)++List.replicate (zs.length-i) 0).map V.int))) ⟨⟨_,rfl⟩,s2,by simpa using l2'⟩ ?_ ?_
 ·rintro i σ H3 hi ⟨⟨v3,rfl⟩,s3,h3⟩
  have hi:i<m:=by simpa using hi
  have iln:i<nn.length:=Qo
  refine⟨_,rfl,_,rfl,ln,_,((i:Nat):Int),_,rfl,by simp,SqL.of (s3 _ _ hn),fY (by rw[qD,qb iln];rfl),_,_,rfl,rfl,⟨Qk,Qk,Qk⟩,_,_,rfl,rfl,by rw[p30];decide,?_⟩
  rw[p30]
  refine⟨_,rfl,_,rfl,l2,_,((i:Nat):Int),i,rfl,by simp,h3,?_,⟨_,rfl⟩,aa.over s3 n2,?_⟩
  ·unfold ixN
   rw[Q0 Qo,q5,qa,q5,qJ,List.length_replicate]
   simp
   omega
  ·rw[ae]
   have tl:((nn.take i).map fun n=>n % 1000000000000000000000000000000).length=i:=by rw[q5,qJ];omega
   rw[qO,List.set_append_right _ _ (by rw[q5,tl];exact qd _),q5,tl,Nat.sub_self,show zs.length-i=(zs.length-(i+1))+1 by omega,List.replicate_succ,qR,List.set_cons_zero]
   have e2:nn.take (i+1)=nn.take i++[nn[i]]:=by rw[qq,qb iln];rfl
   simp only[e2,qO,qR,List.map_nil,qM,List.cons_append,List.nil_append]
 rintro σ H3 ⟨⟨v3,rfl⟩,s3,h3⟩
 rw[show((m:Nat):Int).toNat=m from qX m]at h3
 generalize hV0:(nn.take m).map (fun n=>n % 1000000000000000000000000000000)++List.replicate (zs.length-m) 0=V0 at h3
 have v0l:V0.length=zs.length:=by rw[<- hV0,qa,q5,qJ,List.length_replicate];omega
 refine⟨_,rfl,p,_,2,_,rfl,rfl,SqT.of (s3 _ _ RP.top),rfl,H,lb,ds,rfl,s3,RP.bo,Qo,Qo,fun H4 lf uf s4 nf hf rf=>⟨lf,rfl,⟨_,SqL.of hf⟩,?_⟩⟩
 have s34:=s3.trans s4
 have fl3:=rf.len
 have nlf:l2≠lf:=fun z=>by rw[z,nf]at h3;cases h3
 have zcl:∀i,(((ag ds).take i).map zcD).sum<=2 * i:=fun i=>by
  have:∀l:List a9,(l.map zcD).sum<=2 * l.length:=fun l=>by
   induction l with
   |nil=>exact qd _
   |cons d r ih=>
    have:zcD d<=2:=by
     cases d<;>simp[zcD]
     split<;>omega
    rw[qR,List.sum_cons,qz]
    omega
  have h1:=this ((ag ds).take i)
  rw[qJ]at h1
  omega
 refine cC (K:=K) (a:=lf) (xs:=uf) (fun i σ H5=>∃l v4,σ=[some (.ref p),some (.ref ln),some (.ref l),v3,v4]/\H l=none/\l≠lf/\H5 l=some (.lst ((V0++List.replicate (((ag ds).take i).map zcD).sum 0).map V.int))/\aa H H5/\H5 lf=some (.lst uf)) ⟨l2,_,rfl,n2,nlf,by simpa using s4 _ _ h3,s34,hf⟩ ?_ ?_ ?_
 ·rintro i σ H5 _ ⟨_,_,_,_,_,_,_,h5⟩
  exact SqL.of h5
 ·rintro i x σ H5 hx ⟨l,v4,rfl,nl,nlf,hl,s5,h5⟩
  obtain⟨d,hd,hrd⟩:=rf.at i x hx
  have il:=(qe.mp hd).1
  have zi:=zcl i
  have tk:(V0++List.replicate (((ag ds).take (i+1)).map zcD).sum 0).map V.int=(V0++List.replicate (((ag ds).take i).map zcD).sum 0).map V.int++(List.replicate (zcD d) 0).map V.int:=by
   have e1:(((ag ds).take (i+1)).map zcD).sum=(((ag ds).take i).map zcD).sum+zcD d:=by rw[qq,hd];simp
   rw[e1,<- List.replicate_append_replicate,<- qM,qO (l₁:=V0++_)]
  have lbd:((V0++List.replicate (((ag ds).take i).map zcD).sum 0).map V.int).length<=1000:=by
   rw[q5,qa,List.length_replicate]
   omega
  generalize (V0++List.replicate (((ag ds).take i).map zcD).sum 0).map V.int=Bi at hl tk lbd
  have same:∀v,zcD d=0->∃l' v4,[some (V.ref p),some (.ref ln),some (.ref l),v3,v]=[some (.ref p),some (.ref ln),some (.ref l'),v3,v4]/\H l'=none/\l'≠lf/\H5 l'=some (.lst ((V0++List.replicate (((ag ds).take (i+1)).map zcD).sum 0).map V.int))/\aa H H5/\H5 lf=some (.lst uf):=fun v h=>⟨l,v,rfl,nl,nlf,by rw[hl,tk,h];simp,s5,h5⟩
  cases hrd with
  |whl h h1=>
   rename_i t t1 xn bs
   have ht:=s5 _ _ h
   refine⟨_,rfl,t,_,0,_,rfl,rfl,SqT.of ht,rfl,rfl,_,rfl,?_⟩
   walk_at "yes"
   exact⟨_,rfl,.inl ⟨rfl,_,SqL.of hl⟩,l,_,_,rfl,rfl,hl,aM (m:=10000) Qo,l,_,rfl,nl,nlf,by rw[ae,tk];rfl,aa.over s5 nl,by rw[aj nlf.symm];exact h5⟩
  |rep h h1=>
   rename_i t t1 kk bs
   have ht:=s5 _ _ h
   refine⟨_,rfl,t,_,0,_,rfl,rfl,SqT.of ht,rfl,rfl,_,rfl,?_⟩
   walk_at "no"
   refine⟨_,rfl,t,_,0,_,rfl,rfl,SqT.of ht,rfl,rfl,_,rfl,?_⟩
   walk_at "yes"
   have le:=fR ds (qy hd)
   have fb:(ag bs).length<=1000:=by
    have:=le.1.length_le
    rw[a9.flat,qz]at this
    omega
   have db:av bs<13:=by
    have:=le.2
    rw[a9.depth]at this
    omega
   refine⟨_,rfl,t,_,2,_,rfl,rfl,SqT.of ht,rfl,H,t1,bs,rfl,s5,h1,db,fb,fun H6 s6=>⟨_,rfl,?_⟩⟩
   cases hb:cn bs with
   |true=>
    refine aZ rfl ?_
    exact⟨l,_,rfl,nl,nlf,by rw[s6 _ _ hl,tk];simp[zcD,hb],s5.trans s6,s6 _ _ h5⟩
   |false=>
    refine bR rfl ?_
    refine⟨_,rfl,ln2,fun l7 hl7=>?_⟩
    have e7:=aa.new hl7 (.lst [.int 0,.int 0])
    refine⟨l,l7,_,_,rfl,rfl,SqL.of (e7 _ _ (s6 _ _ hl)),SqL.of ae,aM (m:=10000) (by show _+2<=_;omega),fun l8 hl8=>?_⟩
    have s8:=((s5.trans s6).trans e7).trans (aa.new hl8 (.lst (Bi++[.int 0,.int 0])))
    refine⟨l8,_,rfl,aa.none ((s5.trans s6).trans e7) hl8,fun z=>?_,?_,s8,aa.new hl8 _ _ _ (e7 _ _ (s6 _ _ h5))⟩
    ·rw[z,e7 _ _ (s6 _ _ h5)]at hl8
     cases hl8
    ·rw[ae,tk]
     simp[zcD,hb]
  |set h=>
   rename_i t xn va sg vb
   have ht:=s5 _ _ h
   refine⟨_,rfl,t,_,0,_,rfl,rfl,SqT.of ht,rfl,rfl,_,rfl,?_⟩
   walk_at "no"
   refine⟨_,rfl,t,_,0,_,rfl,rfl,SqT.of ht,rfl,rfl,_,rfl,?_⟩
   walk_at "no"
   exact same _ rfl
  |put h=>
   rename_i t sn xn
   have ht:=s5 _ _ h
   refine⟨_,rfl,t,_,0,_,rfl,rfl,SqT.of ht,rfl,rfl,_,rfl,?_⟩
   walk_at "no"
   refine⟨_,rfl,t,_,0,_,rfl,rfl,SqT.of ht,rfl,rfl,_,rfl,?_⟩
   walk_at "no"
   exact same _ rfl
  |get h=>
   rename_i t sn xn
   have ht:=s5 _ _ h
   refine⟨_,rfl,t,_,0,_,rfl,rfl,SqT.of ht,rfl,rfl,_,rfl,?_⟩
   walk_at "no"
   refine⟨_,rfl,t,_,0,_,rfl,rfl,SqT.of ht,rfl,rfl,_,rfl,?_⟩
   walk_at "no"
   exact same _ rfl
  |give h=>
   rename_i t xn
   have ht:=s5 _ _ h
   refine⟨_,rfl,t,_,0,_,rfl,rfl,SqT.of ht,rfl,rfl,_,rfl,?_⟩
   walk_at "no"
   refine⟨_,rfl,t,_,0,_,rfl,rfl,SqT.of ht,rfl,rfl,_,rfl,?_⟩
   walk_at "no"
   exact same _ rfl
  |cond h h1 h2=>
   rename_i t t1 t2 xn ts os
   have ht:=s5 _ _ h
   refine⟨_,rfl,t,_,0,_,rfl,rfl,SqT.of ht,rfl,rfl,_,rfl,?_⟩
   walk_at "no"
   refine⟨_,rfl,t,_,0,_,rfl,rfl,SqT.of ht,rfl,rfl,_,rfl,?_⟩
   walk_at "no"
   exact same _ rfl
 ·rintro σ H5 ⟨l,v4,rfl,nl,nlf,hl,s5,h5⟩
  rw[fl3,qG]at hl
  have zl:=zcl (ag ds).length
  rw[qG]at zl
  have ez:((ag ds).map zcD).sum=zc ds:=rfl
  rw[ez]at hl zl
  refine⟨_,rfl,l,_,rfl,SqL.of hl,by rw[qa,List.length_replicate];omega,fun l6 rs hl6 hp so=>?_⟩
  refine q _ l6 zs rs (s5.trans (aa.new hl6 _)) (aa.none s5 hl6) ae cr ?_ so
  unfold um
  rw[hm,hV0]
  exact hp
theorem sW:∀xs:List Int,PyData.canLayAll0 (xs.map PyData.int)=true/\PyData.depthAll (xs.map PyData.int)<=1
 |[]=>by simp[PyData.canLayAll0,PyData.depthAll]
 |x::r=>by
  obtain⟨h1,h2⟩:=sW r
  simp[PyData.canLayAll0,PyData.depthAll,PyData.canLay0,PyData.depth,h1]
  omega
theorem gU {K:W.Frag}{H:Hp}:∀xs:List Int,cV K H (xs.map V.int) (xs.map PyData.int)
 |[]=>.nil
 |x::r=>.cons (.int _) (gU r)
theorem fi (xs:List Int):SeqAt.shaped (.list (xs.map PyData.int))=true:=by
 obtain⟨h1,h2⟩:=sW xs
 unfold SeqAt.shaped
 simp[PyData.canLay0,PyData.depth,h1]
 omega
def crN (c:Int):List Str:=(">":Str)::nmN c++[(nmN c).getD 1 (">":Str)++(">":Str),(nmN c).getD 1 (">":Str)++("<":Str),("w>":Str),("w<":Str)]
theorem yD {H:Hp}{p la ls lb ln:Addr}{us:List V}{ns:List Int}(l63:ns.length<=63) (RP:RP H p (akN (cN ns)) (ssN (cN ns)) (bdN ns) la ls lb us) (hn:H ln=some (.lst ((cU ns).map V.int))):
 nB H p la ls lb ln (akN (cN ns)) (ssN (cN ns)) (cU ns) (bdN ns) us (crN (cN ns))/\∀d∈ag (bdN ns),∀q x,d=.put q x\/d=.get q x->q∈(ssN (cN ns)).map (·.1):=by
 obtain⟨z6,znd,zok⟩:=j3 (cN ns)
 obtain⟨and,al,ain⟩:=vd (cN ns)
 have ss2:[(nmN (cN ns)).getD 1 (">":Str),("w":Str)].length=2:=rfl
 obtain⟨bx,dp,fl⟩:=uP (ss:=[(nmN (cN ns)).getD 1 (">":Str),("w":Str)]) z6 ss2 (bU ns)
 have bx:BlX (nmN (cN ns)) [(nmN (cN ns)).getD 1 (">":Str),("w":Str)] (bdN ns):=bx
 have dp:av (bdN ns)<=12:=dp
 have fl:(ag (bdN ns)).length<=(bU ns).length:=fl
 have cl:(bU ns).length<=79:=by unfold bU;rw[qJ];omega
 have in1:(nmN (cN ns)).getD 1 (">":Str)∈nmN (cN ns):=gY Qo
 have st:∀d∈ag (bdN ns),∀q x,d=.put q x\/d=.get q x->q∈(ssN (cN ns)).map (·.1):=fun d hd q x h=>by
  have:=(bx d hd).1
  rcases h with rfl|rfl
  ·exact this.1
  ·exact this.1
 have nmc:∀d∈ag (bdN ns),∀x∈d.names,x∈nmN (cN ns):=fun d hd x hx=>by
  have h:=(bx d hd).1
  cases d with
  |set y va sg vb=>
   simp only[a9.names,qt,qg]at hx
   rcases hx with rfl|hx|hx
   ·exact h.1
   ·exact h.2.1.names _ hx
   ·exact h.2.2.names _ hx
  |put s y=>simp[a9.names]at hx;rw[hx];exact h.2
  |get s y=>simp[a9.names]at hx;rw[hx];exact h.2
  |give y=>simp[a9.names]at hx;rw[hx];exact h
  |cond y t o=>simp[a9.names]at hx;rw[hx];exact h
  |whl y b=>simp[a9.names]at hx;rw[hx];exact h
  |rep n b=>simp[a9.names]at hx
 refine⟨⟨RP,hn,dp,Qo,Qo,by show 2<=100;decide,by unfold cU;rw[q5,qJ];omega,fun k hk=>?_,by unfold crN;rw[qa,qz,z6];show 6+1+4<=20;decide,fun k hk=>?_,?_,fun s hs=>?_,fun d hd q x h=>?_⟩,st⟩
 ·have hk:=(uI st k).mp hk
  unfold crN
  simp only[qg,qt,qQ,or_false]at hk ⊢
  rcases hk with((h|h)|h)|h
  ·exact .inl (.inl h)
  ·exact .inl (.inr (ain k h))
  ·obtain⟨s,hs,h⟩:=List.mem_flatMap.mp h
   unfold ssN at hs
   simp only[qt,qQ,or_false]at hs h
   rcases hs with rfl|rfl
   ·rcases h with h|h
    ·exact .inr (.inl h)
    ·exact .inr (.inr (.inl h))
   ·rcases h with h|h
    ·exact .inr (.inr (.inr (.inl (h.trans (show("w":Str)++(">":Str)="w>" by decide +kernel)))))
    ·exact .inr (.inr (.inr (.inr (h.trans (show("w":Str)++("<":Str)="w<" by decide +kernel)))))
  ·obtain⟨d,hd,h⟩:=List.mem_flatMap.mp h
   exact .inl (.inr (nmc d hd k h))
 ·unfold crN at hk
  have l1:=(zok _ in1).1
  simp only[qg,qt,qQ,or_false]at hk
  rcases hk with(rfl|h)|rfl|rfl|rfl|rfl
  ·decide
  ·have:=(zok k h).1;omega
  ·rw[nr];show _+1<=1000;omega
  ·rw[nr];show _+1<=1000;omega
  ·decide
  ·decide
 ·have h1:=(zok _ in1).2.2
  unfold esN ssN
  simp only[qR,List.map_nil,List.cons_append,List.nil_append,List.nodup_cons,qt,qQ,or_false,not_or]
  exact⟨⟨h1.1,h1.2⟩,Qd,by simp,List.nodup_nil⟩
 ·unfold ssN at hs
  simp only[qt,qQ,or_false]at hs
  rcases hs with rfl|rfl
  ·have:=(zok _ in1).1
   show((nmN (cN ns)).getD 1 (">":Str)).length<=1000
   omega
  ·show(("w":Str)).length<=1000
   decide
 ·unfold esN
  exact qg.mpr (.inl (st d hd q x h))
def dG (i:Nat):List (Key×V):=(List.range i).map fun j:Nat=>(.inl (j:Int),.bl true)
theorem uj {i:Nat}{j:Nat}(h:i<=j):bv (dG i) (.inl (j:Int))=none:=by
 cases e:bv (dG i) (.inl (j:Int))with
 |none=>rfl
 |some v=>
  have:=nY e
  unfold dG at this
  rw[List.map_map]at this
  obtain⟨k,hk,ek⟩:=List.mem_map.mp this
  have hk:=List.mem_range.mp hk
  have:(k:Int)=j:=Sum.inl.inj ek
  omega
theorem C3 {j:Nat}(h:j<3):(bv (dG 3) (.inl (j:Int))).isSome=true:=by
 have:j=0\/j=1\/j=2:=Qo
 rcases this with rfl|rfl|rfl<;>decide +kernel
def lgD:V->PyData
 |.int n=>.int n
 |_=>.none
inductive LgV:V->Prop
 |int (n:Int):LgV (.int n)
 |non:LgV .non
theorem LgV.dt {K:W.Frag}{H:Hp}{v:V}(h:LgV v):Dt K H v (lgD v):=by
 cases h with
 |int n=>exact .int n
 |non=>exact .non
theorem LgV.sh {v:V}(h:LgV v):SeqAt.shaped (.tuple [lgD v,.tuple []])=true:=by
 cases h with
 |int n=>simp[lgD,SeqAt.shaped,PyData.canLay0,PyData.canLayAll0,PyData.depth,PyData.depthAll]
 |non=>decide +kernel
theorem su (T:Tx P w K mg a):aD P w K mg base CX0 1 a._law_whole a.fd__law_whole ["_law_found"] oW:=by
 refine T.F__law_whole.ok xJ (fun vs H Q E h=>?_) (fun cdv A outer s H vs Q E hr h=>?_)
 ·obtain⟨_,rfl,_⟩:=h
  rfl
 obtain⟨n,rfl,q⟩:=h
 refine⟨_,(ao (aH (rS (aV dU rfl T.z_isinstance PyProof.Rows.Boot.«isinstance» (a8 (pq 0) (a8 (dA (v:=.ty "int") rfl T.z_int PyProof.Rows.Boot.«int» rfl) ad))) (lW (yN (aV dU rfl T.z_isinstance PyProof.Rows.Boot.«isinstance» (a8 (pq 0) (a8 (dA (v:=.ty "bool") rfl T.z_bool PyProof.Rows.Boot.«bool» rfl) ad)))))))),?_⟩
 refine⟨_,rfl,_,_,_,true,rfl,.int n,rfl,_,rfl,bR rfl ?_⟩
 exact⟨_,rfl,_,_,_,false,rfl,.int n,rfl,_,rfl,q⟩
theorem mS (g:Str->Int):∀l:List Str,(l.map fun z=>(⟨.int 1,[g z]⟩:LnD)).flatMap LnD.on=l.map g
 |[]=>rfl
 |z::r=>by
  rw[qR,qR,qE,mS g r]
  rfl
theorem zS (T:Tx P w K mg a):aD P w K mg base CX0 76 a.law a.fd_law ["_law_script"] (gp K):=by
 refine T.F_law.ok cS (fun vs H Q E h=>?_) (fun cdv A outer s H vs Q E hr h=>?_)
 ·obtain⟨_,_,rfl,_⟩:=h
  rfl
 obtain⟨sa,ns,rfl,hS,l63,hbits,only,q⟩:=h
 refine⟨_,(ai (aA (i:=1) cS.nd rfl (Or.inl rfl) (aB (zZ T) (hr.mono Qk) rfl T.m__law_program T.F__law_program.kp T.b__law_program .nil ap (a8 (pq 0) ad)))
  (ai (aA (i:=2) cS.nd rfl (Or.inl rfl) (aB (sw T) (hr.mono Qk) rfl T.m__law_numbers T.F__law_numbers.kp T.b__law_numbers .nil ap (a8 (pq 0) ad)))
  (ai (aA (i:=3) cS.nd rfl (Or.inl rfl) (aB (zH T) (hr.mono Qk) rfl T.m_net_of T.F_net_of.kp T.b_net_of .nil ap (a8 (pq 1) (a8 (pq 2) ad))))
  (ai (aU (PW.pt (dW (aO (rW hr.units) (pq 2) (aB (sw T) (hr.mono Qk) rfl T.m__law_numbers T.F__law_numbers.kp T.b__law_numbers .nil ap (a8 (pq 0) ad)) (aT _)) (dW (du (cJ (aV dU rfl T.z_isinstance PyProof.Rows.Boot.«isinstance» (a8 (aq ar (pq 3) af (fun _ _=>rfl)) (a8 (dA (v:=.ty "list") rfl T.z_list PyProof.Rows.Boot.«list» rfl) ad))))) (iV (aO gC (aV bO rfl T.z_len PySem.boot_len (a8 (aq ar (pq 3) af (fun _ _=>rfl)) ad)) af (aT _)))))) (ao (aH ee)) bA)
  (ai (aA (i:=4) cS.nd rfl (Or.inl rfl) lY)
  (ai (bQ PassesOwn.never rfl (lU rfl T.z_zip (a8 (ax bZ (aq ar (pq 1) af (fun _ _=>rfl)) (aJ (a8 (aL (a8 aF (a8 lX ad))) ad))) (a8 (aq ar (pq 3) af (fun _ _=>rfl)) ad))) (eK rfl (cf (aW (i:=5) cS.nd rfl (Or.inl rfl)) (cf (aW (i:=6) cS.nd rfl (Or.inl rfl)) eJ)))
  (ai (aU (PW.pt (dW (du (cJ (aV dU rfl T.z_isinstance PyProof.Rows.Boot.«isinstance» (a8 (pq 6) (a8 (dA (v:=.ty "tuple") rfl T.z_tuple PyProof.Rows.Boot.«tuple» rfl) ad))))) (dW (aO gC (aq ar (pq 6) af (fun _ _=>rfl)) (aq ar (pq 5) af (fun _ _=>rfl)) (aT _)) (iV (aO (rW hr.units) (aq bX (aq ar (pq 3) af (fun _ _=>rfl)) (aq ar (pq 6) af (fun _ _=>rfl)) (fun _ _=>rfl)) (aL (a8 (aq ar (pq 5) af (fun _ _=>rfl)) (a8 (aL ad) ad))) (aT _)))))) (ao (aH ee)) bA)
  (ao (fG (hr.one) (pq 4) (aq ar (pq 6) af (fun _ _=>rfl)) ee rfl))))
  (ai (aU (aO gD (aV Cz rfl T.z_len PySem.boot_len (a8 (pq 4) ad)) af (aT _)) (ao (aH ee)) bA)
  (ai (aA (i:=7) cS.nd rfl (Or.inl rfl) (aJ ad))
  (ai (bQ PassesOwn.never rfl (yK rfl T.z_enumerate (a8 (aq ar (pq 3) af (fun _ _=>rfl)) ad)) (eK rfl (cf (aW (i:=8) cS.nd rfl (Or.inl rfl)) (cf (aW (i:=9) cS.nd rfl (Or.inl rfl)) eJ)))
  (ai (aU (PW.pt (dW (du (cJ (aV dU rfl T.z_isinstance PyProof.Rows.Boot.«isinstance» (a8 (pq 9) (a8 (dA (v:=.ty "tuple") rfl T.z_tuple PyProof.Rows.Boot.«tuple» rfl) ad))))) (dW (aO gC (aV bO rfl T.z_len PySem.boot_len (a8 (pq 9) ad)) af (aT _)) (iV (du (cJ (aV dU rfl T.z_isinstance PyProof.Rows.Boot.«isinstance» (a8 (aq ar (pq 9) af (fun _ _=>rfl)) (a8 (dA (v:=.ty "tuple") rfl T.z_tuple PyProof.Rows.Boot.«tuple» rfl) ad))))))))) (ao (aH ee)) bA)
  (ao (aU (aO zh (pq 8) (pq 4) (by with_unfolding_all rfl)) (ai (aU (PW.pt (dW (du (cJ (aB (su T) (hr.mono Qk) rfl T.m__law_whole T.F__law_whole.kp T.b__law_whole .nil ap (a8 (aq ar (pq 9) af (fun _ _=>rfl)) ad)))) (dW (aO gC (aq ar (pq 9) af (fun _ _=>rfl)) af (aT _)) (iV (aO iU (aV bO rfl T.z_len PySem.boot_len (a8 (aq ar (pq 9) af (fun _ _=>rfl)) ad)) af (aT _)))))) (ao (aH ee)) bA)
  (ao (aA (i:=7) cS.nd rfl (Or.inl rfl) (ax bZ (pq 7) (cj ym rfl T.z_list PyProof.Rows.Boot.«list» (a8 (aq ar (pq 9) af (fun _ _=>rfl)) ad)))))) bA))))
  (ai (aU (du (cJ (aV (uL rfl) rfl T.z_all PyProof.Rows.Boot.«all» (a8 (cL (k:=1) (Nc:=["_law_thing"]) (js:=[]) (show aX (aC dR) ["_law_script","_law_program_here","_law_numbers_here","_law_net","_law_ends","_law_pair","_law_told","_law_found","_law_k","_law_line"] _ 1 ["_law_thing"] []from aX.mk rfl (by decide +kernel) (by decide +kernel) (by decide +kernel) rfl (by decide +kernel)) rfl (bH (pq 7)) (fun _ _ _ _ _=>(aW (i:=0) (show List.Nodup (["_law_thing"]:List Str)from by decide +kernel) rfl (Or.inl rfl))) (fun _ _ _ _ _=>cT) (fun _ _ _ _ _=>(aB (su T) (hr.mono Qk) rfl T.m__law_whole T.F__law_whole.kp T.b__law_whole .nil ap (a8 (pq 0) ad)))) ad)))) (ao (aH ee)) bA)
  (ao (aH (gL (zw hr.units) (aV (uK rfl) rfl T.z_sorted PyProof.Rows.Boot.«sorted» (a8 (pq 7) ad)) (aB (A4 T) (hr.mono Qk) rfl T.m__law_due T.F__law_due.kp T.b__law_due .nil ap (a8 (pq 1) (a8 (pq 2) ad))) (aT _)))))))))))))),?_⟩
 refine⟨_,rfl,sa,ns,rfl,hS,l63,hbits,fun H1 pr la ls lb us s1 npr RP=>?_⟩
 refine⟨_,rfl,sa,ns,rfl,s1.seq hS,l63,fun H2 ln s2 nln hln=>?_⟩
 obtain⟨PO,st⟩:=yD l63 (RP.same s2) hln
 refine⟨_,rfl,_,rfl,pr,la,ls,lb,ln,_,_,_,_,us,_,rfl,PO,fun H3 t c le zs N s3 nt ht B prs cr lay gr=>?_⟩
 have s13:=s1.trans (s2.trans s3)
 refine⟨_,rfl,_,rfl,sa,ns,rfl,s13.seq hS,l63,fun H4 ln2 s4 nln2 hln2=>?_⟩
 have ln4:=s4 _ _ (s3 _ _ hln)
 refine⟨_,_,.lst (SqL.of ln4) (gU _),.lst (SqL.of hln2) (gU _),fi _,fi _,_,rfl,?_⟩
 rw[SeqAt.eqv_refl _ (SeqAt.canLay_of_shaped (fi _))]
 refine aZ rfl ?_
 have ht4:=s4 _ _ ht
 obtain⟨ts,hle,tl,hts⟩:=prs
 have le4:=s4 _ _ hle
 refine⟨_,rfl,t,_,2,_,rfl,rfl,SqT.of ht4,rfl,_,_,_,true,rfl,.lst le4,rfl,_,rfl,aZ rfl ?_⟩
 refine⟨_,rfl,t,_,2,_,rfl,rfl,SqT.of ht4,rfl,le,_,rfl,.inl (SqL.of le4),rfl,_,rfl,aZ (by rw[q5,tl];rfl) ?_⟩
 obtain⟨lv,hlv,rl⟩:=B.ln
 have hlv4:=s4 _ _ hlv
 have tk4:TK H3 H4:=fun b xs h=>s4 _ _ h
 have rl4:=rl.imp fun v d h=>h.keep tk4
 have el:(N.part (.pas (zs.map N.fc) [] [])).ls=N.ls:=rfl
 rw[el]at rl4
 obtain⟨new,eL,zl⟩:=lay.zg
 have top4:=(s2.trans (s3.trans s4)) _ _ RP.top
 have st4:=(s2.trans (s3.trans s4)) _ _ RP.st
 have ro4:=RP.ro.same (s2.trans (s3.trans s4))
 have s14:=s13.trans s4
 generalize hss:ssN (cN ns)=ss at *
 have ss2:ss.length=2:=by rw[<- hss];rfl
 have esl:(esN ss).length=3:=by unfold esN;rw[qa,q5,ss2];rfl
 have snd:=PO.snd
 have L3:∀j:Nat,j<3->∃e lg,(esN ss)[j]?=some e/\LgV lg/\N.ls[j]?=some ⟨lg,[]⟩/\(∀s n,ss[j]?=some (s,n)->s=e/\lg=.int n)/\(j=2->e=(">":Str)/\lg=.non):=fun j hj=>by
  have lsl:(ss.map fun s=>(⟨.int s.2,[]⟩:LnD)).length=2:=by rw[q5,ss2]
  by_cases h2:j<2
  ·have lt:j<ss.length:=by omega
   refine⟨ss[j].1,.int ss[j].2,?_,.int _,?_,fun s n h=>?_,fun h=>Qo⟩
   ·unfold esN
    rw[List.getElem?_append_left (by rw[q5];exact lt),qD,qb lt]
    rfl
   ·rw[eL]
    unfold cO
    dsimp only
    rw[qM,qM,List.getElem?_append_left Qo,qD,qb lt]
    rfl
   ·rw[qb lt]at h
    rw[qI h]
    exact⟨rfl,rfl⟩
  ·have j2:j=2:=by omega
   subst j2
   refine⟨(">":Str),.non,?_,.non,?_,fun s n h=>?_,fun _=>⟨rfl,rfl⟩⟩
   ·unfold esN
    rw[qK (by rw[q5];omega),q5,ss2]
    rfl
   ·rw[eL]
    unfold cO
    dsimp only
    rw[qM,qM,qK Qo,lsl]
    rfl
   ·rw[List.getElem?_eq_none Qo]at h
    cases h
 refine fun de hde=>?_
 have e5:=aa.new hde (.dK [])
 have nde:H de=none:=aa.none s14 hde
 have d5:upd H4 de (.dK []) de=some (.dK (dG 0)):=ae
 have s5:=s14.trans e5
 generalize upd H4 de (.dK [])=H5 at e5 d5 s5 ⊢
 refine⟨_,rfl,pr,_,1,_,rfl,rfl,SqT.of (e5 _ _ top4),rfl,sT,fun t5 ht5=>⟨ln1,fun l6 hl6=>?_⟩⟩
 have e6:=(aa.new ht5 (.tup [.str ">",.non])).trans (aa.new hl6 (.lst [.ref t5]))
 have t56:=aa.new hl6 (.lst [.ref t5]) _ _ (ae (H:=H5) (a:=t5) (o:=.tup [.str ">",.non]))
 have ul:=RP.ro.len
 refine⟨ls,l6,us,_,rfl,rfl,SqL.of (e6 _ _ (e5 _ _ st4)),SqL.of ae,aM (m:=100) (by show us.length+1<=_;omega),fun l7 hl7=>?_⟩
 have e7:=e6.trans (aa.new hl7 (.lst (us++[.ref t5])))
 have t57:=aa.new hl7 (.lst (us++[.ref t5])) _ _ t56
 have l7':upd (upd (upd H5 t5 (.tup [.str ">",.non])) l6 (.lst [.ref t5])) l7 (.lst (us++[.ref t5])) l7=some (.lst (us++[.ref t5])):=ae
 have d7:=e7 _ _ d5
 generalize upd (upd (upd H5 t5 (.tup [.str ">",.non])) l6 (.lst [.ref t5])) l7 (.lst (us++[.ref t5]))=H7 at e7 t57 l7' d7 ⊢
 have s57:=e5.trans e7
 have s7:=s14.trans s57
 have ht7:=s57 _ _ ht4
 have le7:=s57 _ _ le4
 refine⟨_,rfl,t,_,2,_,rfl,rfl,SqT.of ht7,rfl,false,false,l7,le,us++[.ref t5],ts.map V.ref,rfl,SqL.of l7',SqL.of le7,?_⟩
 have ntd:∀{b:Addr}{xs:List V},H7 b=some (.tup xs)->b≠de:=fun h z=>by rw[z,d7]at h;cases h
 have nld:∀{b:Addr}{xs:List V},H7 b=some (.lst xs)->b≠de:=fun h z=>by rw[z,d7]at h;cases h
 refine mR (K:=K) (b1:=false) (b2:=false) (l1:=l7) (l2:=le) (xs:=us++[.ref t5]) (ys:=ts.map V.ref) (fun i σ H8=>(∃v5 v6,σ=[some (.ref sa),some (.ref pr),some (.ref ln),some (.ref t),some (.ref de),v5,v6,none,none,none])/\(∀b o,b≠de->H7 b=some o->H8 b=some o)/\H8 de=some (.dK (dG i))) ⟨⟨_,_,rfl⟩,fun _ _ _ h=>h,d7⟩ ?_ ?_ ?_
 ·rintro i σ H8 ⟨_,k8,_⟩
  exact⟨SqL.of (k8 _ _ (nld l7') l7'),SqL.of (k8 _ _ (nld le7) le7)⟩
 ·rintro i x y σ H8 p9 hx hy ⟨⟨v5,v6,rfl⟩,k8,d8⟩ hp9
  rw[qD]at hy
  obtain⟨tt,htt,rfl⟩:=qP.mp hy
  have i3:i<3:=by
   have:=(qe.mp htt).1
   omega
  obtain⟨e,lg,he,lgv,hln',hpair,h2⟩:=L3 i i3
  obtain⟨pt,rfl,hpt⟩:∃pt,x=.ref pt/\H7 pt=some (.tup [.str e,lg]):=by
   by_cases hi2:i<2
   ·rw[List.getElem?_append_left Qo]at hx
    obtain⟨ps,sn,sz,rfl,hs,hps⟩:=ro4.at i x hx
    obtain⟨rfl,rfl⟩:=hpair sn sz hs
    exact⟨ps,rfl,s57 _ _ hps⟩
   ·have:i=2:=by omega
    subst this
    rw[qK Qo,show 2-us.length=0 by omega]at hx
    cases hx
    obtain⟨rfl,rfl⟩:=h2 rfl
    exact⟨t5,rfl,t57⟩
  have htl:=s57 _ _ (s4 _ _ (hts i tt e htt he))
  have fe:feN ss e=(i:Int):=by
   show(((esN ss).idxOf e:Nat):Int)=_
   rw[ji snd he]
  rw[fe]at htl
  obtain⟨lvv,hlvv,u,f,rfl,hu,hf⟩:=rl4.get hln'
  have e9:=aa.new hp9 (.tup [.ref pt,.ref tt])
  refine⟨p9,_,rfl,SqT.of ae,rfl,_,_,rfl,_,_,rfl,rfl,?_⟩
  have k9:∀b o,b≠de->H7 b=some o->upd H8 p9 (.tup [.ref pt,.ref tt]) b=some o:=fun b o hb h=>e9 _ _ (k8 b o hb h)
  have d9:=e9 _ _ d8
  generalize upd H8 p9 (.tup [.ref pt,.ref tt])=H9 at k9 d9 ⊢
  have htl9:=k9 _ _ (ntd htl) htl
  have hpt9:=k9 _ _ (ntd hpt) hpt
  have ht9:=k9 _ _ (ntd ht7) ht7
  have hlv7:=s57 _ _ hlv4
  have hlv9:=k9 _ _ (nld hlv7) hlv7
  have hu7:=s57 _ _ hu
  have hu9:=k9 _ _ (ntd hu7) hu7
  have hf7:=s57 _ _ hf
  have hf9:=k9 _ _ (ntd hf7) hf7
  refine⟨_,rfl,_,_,_,true,rfl,.tup htl9,rfl,_,rfl,aZ rfl ?_⟩
  refine⟨_,rfl,tt,_,0,_,rfl,rfl,SqT.of htl9,rfl,_,rfl,pt,_,0,_,rfl,rfl,SqT.of hpt9,rfl,rfl,_,rfl,aZ (by simp) ?_⟩
  refine⟨_,rfl,t,_,0,_,rfl,rfl,SqT.of ht9,rfl,_,rfl,tt,_,1,_,rfl,rfl,SqT.of htl9,rfl,c.ll,_,_,_,rfl,rfl,SqL.of hlv9,fY hlvv,?_⟩
  refine⟨_,rfl,pt,_,1,_,rfl,rfl,SqT.of hpt9,rfl,qr _,fun q1 hq1=>⟨sT,fun q2 hq2=>?_⟩⟩
  have g1:=aa.new hq1 (.tup [])
  have g2:=aa.new hq2 (.tup [lg,.ref q1])
  have g:=g1.trans g2
  have q1':=g2 _ _ (ae (H:=H9) (a:=q1) (o:=.tup []))
  refine⟨.tuple [lgD lg,.tuple []],.tuple [lgD lg,.tuple []],.tup (SqT.of (g _ _ hu9)) (.cons lgv.dt (.cons (.tup (SqT.of (g _ _ hf9)) .nil) .nil)),.tup (SqT.of ae) (.cons lgv.dt (.cons (.tup (SqT.of q1') .nil) .nil)),lgv.sh,lgv.sh,_,rfl,?_⟩
  rw[SeqAt.eqv_refl _ (SeqAt.canLay_of_shaped lgv.sh)]
  refine aZ rfl ?_
  have d11:=g _ _ d9
  refine⟨_,rfl,_,rfl,tt,_,1,_,rfl,rfl,SqT.of (g _ _ htl9),rfl,de,_,rfl,.inl ⟨_,.inl (i:Int),d11,rfl,by unfold dG;rw[q5,List.length_range];exact iA Qo,rfl⟩,⟨_,_,rfl⟩,fun b o hb h=>by rw[aj hb];exact g _ _ (k9 b o hb h),?_⟩
  rw[ae,lQ _ (uj (qd i))]
  unfold dG
  rw[List.range_succ,qO]
  rfl
 rintro σ H8 ⟨⟨v5,v6,rfl⟩,k8,d8⟩
 rw[qa,q5,tl,esl,ul,ss2]at d8
 have d8:H8 de=some (.dK (dG 3)):=d8
 refine⟨_,rfl,de,_,rfl,d8,_,_,rfl,rfl,_,rfl,aZ Qk ?_⟩
 have s8:aa H H8:=fun b o h=>k8 b o (fun z=>by rw[z,nde]at h;cases h) (s7 _ _ h)
 have ht8:=k8 _ _ (ntd ht7) ht7
 have hlv7:=s57 _ _ hlv4
 have hlv8:=k8 _ _ (nld hlv7) hlv7
 have tk8:TK H4 H8:=fun b xs h=>k8 _ _ (ntd (s57 _ _ h)) (s57 _ _ h)
 have rl8:=rl4.imp fun v d h=>Ln.keep tk8 h
 have s18:∀b o,b≠de->H1 b=some o->H8 b=some o:=fun b o hb h=>k8 b o hb (s57 _ _ (s4 _ _ (s3 _ _ (s2 _ _ h))))
 have eD:N.ls.drop 3=(zs.map fun z=>(⟨.int 1,[ba ((akN (cN ns)).zip (cU ns)) z]⟩:LnD))++new:=by
  rw[eL]
  unfold cO
  dsimp only
  rw[qM (List.map _ ss++_),List.drop_append_of_le_length (by rw[qa,q5,ss2];exact qd _),List.drop_of_length_le (by rw[qa,q5,ss2];exact qd _),List.nil_append]
 have one:∀d∈N.ls.drop 3,d.lg=.int 1/\d.on.length<=1:=fun d hd=>by
  rw[eD]at hd
  rcases qg.mp hd with h|h
  ·obtain⟨z,_,rfl⟩:=List.mem_map.mp h
   exact⟨rfl,qd _⟩
  ·obtain⟨h1,h2⟩:=zl.lg d h
   refine⟨h1,?_⟩
   rcases h2 with h2|h2<;>rw[h2]<;>simp
 have nlen:N.ls.length<=50000:=by
  have g2:=gr.l2
  have wl:=nH (bdN ns)
  have fl:=PO.fl
  have c20:=PO.c20
  have zf:zs.length<=(crN (cN ns)).length:=bS cr.nd fun z hz=>PO.akC z ((cr.mem z).mp hz)
  have:(cO ss zs (ba ((akN (cN ns)).zip (cU ns)))).ls.length=ss.length+1+zs.length:=by
   show List.length (_++_)=_
   rw[qa,qa,q5,q5,List.length_singleton]
  have fl2:(ag (bdN ns)).length<=79:=by
   obtain⟨z6,_,_⟩:=j3 (cN ns)
   obtain⟨_,_,fl⟩:=uP (ss:=[(nmN (cN ns)).getD 1 (">":Str),("w":Str)]) z6 rfl (bU ns)
   have cl:(bU ns).length<=79:=by unfold bU;rw[qJ];omega
   exact qx fl cl
  omega
 have flen:∀l:List LnD,(∀d∈l,d.on.length<=1)->(l.flatMap LnD.on).length<=l.length:=fun l=>by
  induction l with
  |nil=>intro _;exact qd _
  |cons d r ih=>
   intro h
   have h1:=h d qk
   have h2:=ih fun e he=>h e (qj _ he)
   rw[qE,qa,qz]
   omega
 refine⟨qr _,fun f0 hf0=>?_⟩
 have e9:=aa.new hf0 (.lst [])
 refine⟨_,rfl,t,_,0,_,rfl,rfl,SqT.of (e9 _ _ ht8),rfl,c.ll,_,rfl,SqL.of (e9 _ _ hlv8),?_⟩
 refine BP (K:=K) (l:=c.ll) (xs:=lv) (fun i σ H10=>∃f v8 v9,σ=[some (.ref sa),some (.ref pr),some (.ref ln),some (.ref t),some (.ref de),v5,v6,some (.ref f),v8,v9]/\aa H8 H10/\H10 f=some (.lst ((((N.ls.take i).drop 3).flatMap LnD.on).map V.int))) ⟨f0,_,_,rfl,e9,by rw[List.take_zero,List.drop_nil];exact ae⟩ ?_ ?_ ?_
 ·rintro i σ H10 ⟨_,_,_,_,s10,_⟩
  exact SqL.of (s10 _ _ hlv8)
 ·rintro i x σ H10 p hx ⟨f,v8,v9,rfl,s10,hf⟩ hp
  obtain⟨d,hd,u,f',rfl,hu,hf'⟩:=rl8.at hx
  have il:=(qe.mp hd).1
  have e11:=aa.new hp (.tup [.int i,.ref u])
  refine⟨p,_,rfl,SqT.of ae,rfl,_,_,rfl,_,_,rfl,rfl,?_⟩
  have s11:=s10.trans e11
  have hf11:=e11 _ _ hf
  generalize upd H10 p (.tup [.int i,.ref u])=H11 at e11 s11 hf11 ⊢
  have hu11:=s11 _ _ hu
  have hf'11:=s11 _ _ hf'
  have d11:=s11 _ _ d8
  refine⟨_,rfl,_,_,_,true,rfl,.tup hu11,rfl,_,rfl,aZ rfl ?_⟩
  refine⟨_,rfl,u,_,rfl,.inr (SqT.of hu11),rfl,_,rfl,aZ rfl ?_⟩
  refine⟨_,rfl,u,_,1,_,rfl,rfl,SqT.of hu11,rfl,_,_,_,true,rfl,.tup hf'11,rfl,_,rfl,aZ rfl ?_⟩
  refine⟨_,rfl,_,rfl,de,_,.inl (i:Int),rfl,d11,rfl,_,rfl,?_⟩
  by_cases i3:i<3
  ·refine aZ (by rw[C3 i3];rfl) ?_
   refine⟨f,_,_,rfl,s11,?_⟩
   rw[hf11,List.drop_of_length_le (by rw[qJ];omega),List.drop_of_length_le (by rw[qJ];omega)]
  ·refine bR (by rw[uj (show 3<=i by omega)];rfl) ?_
   have dm:d∈N.ls.drop 3:=by
    have:(N.ls.drop 3)[i-3]?=some d:=by rw[List.getElem?_drop,show 3+(i-3)=i by omega];exact hd
    exact qy this
   obtain⟨lg1,on1⟩:=one d dm
   rw[lg1]at hu11
   have tk:((N.ls.take (i+1)).drop 3).flatMap LnD.on=((N.ls.take i).drop 3).flatMap LnD.on++d.on:=by
    rw[qq,hd,Option.toList,List.drop_append_of_le_length (by rw[qJ];omega),qU]
    simp
   have fl:(((N.ls.take i).drop 3).flatMap LnD.on).length<=50000:=by
    have h1:=flen ((N.ls.take i).drop 3) fun e he=>by
     rw[List.drop_take]at he
     exact(one e (List.mem_of_mem_take he)).2
    rw[qY,qJ]at h1
    omega
   refine⟨_,rfl,u,_,0,_,rfl,rfl,SqT.of hu11,rfl,1,rfl,_,rfl,aZ rfl ?_⟩
   refine⟨_,rfl,u,_,0,_,rfl,rfl,SqT.of hu11,rfl,rfl,_,rfl,aZ rfl ?_⟩
   refine⟨_,rfl,u,_,1,_,rfl,rfl,SqT.of hu11,rfl,f',_,rfl,.inr (SqT.of hf'11),_,_,rfl,rfl,_,rfl,aZ (decide_eq_false (by rw[q5];omega)) ?_⟩
   refine⟨_,rfl,_,rfl,u,_,1,_,rfl,rfl,SqT.of hu11,rfl,f',_,rfl,.inr (SqT.of hf'11),fun l12 hl12=>?_⟩
   have e12:=aa.new hl12 (.lst (d.on.map V.int))
   refine⟨f,l12,_,_,rfl,rfl,SqL.of (e12 _ _ hf11),SqL.of ae,jb (m:=200000) (by rw[q5,q5];omega),fun l13 hl13=>?_⟩
   refine⟨l13,_,_,rfl,(s11.trans e12).trans (aa.new hl13 _),?_⟩
   rw[ae,tk,qO]
 rintro σ H10 ⟨f,v8,v9,rfl,s10,hf⟩
 have lvl:=rl8.len
 rw[lvl,qG,eD,qU,zl.on]at hf
 rw[mS]at hf
 have lz:(zs.map (ba ((akN (cN ns)).zip (cU ns)))++List.replicate (zc (bdN ns)) 0).length<=50000:=by
  have h1:=flen (N.ls.drop 3) fun e he=>(one e he).2
  rw[eD,qU,zl.on,mS,<- eD,qY]at h1
  omega
 generalize hrs:zs.map (ba ((akN (cN ns)).zip (cU ns)))++List.replicate (zc (bdN ns)) 0=xs at hf lz
 refine⟨_,rfl,f,rfl,⟨_,SqL.of hf⟩,?_⟩
 refine eT (K:=K) (a:=f) (xs:=xs.map V.int) (fun i ys σ H11=>(∃v,σ=[v])/\H11=H10/\ys=(List.replicate i true).map V.bl) ⟨⟨_,rfl⟩,rfl,rfl⟩ ?_ (jb (m:=200000) (by rw[q5];omega)) ?_ ?_ ?_
 ·rintro i ys σ H11 _ ⟨_,_,rfl⟩
  rw[q5,List.length_replicate]
  omega
 ·rintro i ys σ H11 ⟨_,rfl,_⟩
  exact SqL.of hf
 ·rintro i x ys σ H11 hx ⟨⟨v,rfl⟩,rfl,rfl⟩
  rw[qD]at hx
  obtain⟨n,hn,rfl⟩:=qP.mp hx
  refine⟨_,rfl,n,rfl,⟨_,rfl⟩,rfl,?_⟩
  rw[List.replicate_succ',qO]
  rfl
 rintro ys σ H11 ⟨_,rfl,rfl⟩ l12 hl12
 have e12:=aa.new hl12 (.lst ((List.replicate (xs.map V.int).length true).map V.bl))
 refine⟨l12,_,rfl,SqL.of ae,_,rfl,aZ (by simp) ?_⟩
 have hf12:=e12 _ _ hf
 have s12:=s10.trans e12
 generalize upd H11 l12 (.lst ((List.replicate (xs.map V.int).length true).map V.bl))=H12 at e12 hf12 s12 ⊢
 have n1de:H1 de=none:=aa.none (s2.trans (s3.trans s4)) hde
 have sm18:aa H1 H8:=fun b o h=>s18 b o (fun z=>by rw[z,n1de]at h;cases h) h
 have sm112:=sm18.trans s12
 have n2de:H2 de=none:=aa.none (s3.trans s4) hde
 have hln8:H8 ln=some (.lst ((cU ns).map V.int)):=k8 ln _ (fun z=>by rw[z,n2de]at hln;cases hln) (s57 _ _ ln4)
 refine⟨_,rfl,f,xs,rfl,SqL.of hf12,Qo,fun l13 rs hl13 hp so=>?_⟩
 have e13:=aa.new hl13 (.lst (rs.map V.int))
 have l13':upd H12 l13 (.lst (rs.map V.int)) l13=some (.lst (rs.map V.int)):=ae
 have s13':=s12.trans e13
 generalize upd H12 l13 (.lst (rs.map V.int))=H13 at e13 l13' s13' ⊢
 obtain⟨and,al,ain⟩:=vd (cN ns)
 refine⟨_,rfl,_,rfl,pr,la,ls,lb,ln,_,ss,_,us,_,cU ns,rfl,RP.same (sm18.trans s13'),s13' _ _ hln8,and,PO.dp,PO.fl,PO.al,PO.sl,?_,PO.s1,PO.akC,PO.c20,st,fun H14 l14 zs2 rs2 s14' nl14 hl14 cr2 hp2 so2=>?_⟩
 ·unfold cU;rw[q5,qJ];omega
 have ez:zs2=zs:=jY cr2.nd cr.nd cr2.so cr.so fun k=>(cr2.mem k).trans (cr.mem k).symm
 subst ez
 have sub:∀x∈akN (cN ns),x∈zs2:=fun x hx=>(cr.mem x).mpr (by unfold bT;simp[hx])
 have er:rs=rs2:=by
  refine tJ ((hp.trans ?_).trans hp2.symm) so so2
  rw[<- hrs]
  exact(CC and cr.nd sub).append_right _
 subst er
 refine⟨_,_,.lst (SqL.of (s14' _ _ l13')) (gU _),.lst (SqL.of hl14) (gU _),fi _,fi _,?_⟩
 rw[SeqAt.eqv_refl _ (SeqAt.canLay_of_shaped (fi _))]
 exact q _
end
theorem fM (P:Params) (f:Addr) (st:Stmt) {x qual:Str}{oc:Value}{od an:Option Addr}{osl:Array (Option Value)}{kV doc pm cdv ct:Value}(l:(hk P).lookup f=some ⟨oc,od,.func (W.fnOf x qual (eE st) (dH st) (aC st) .none kV doc pm an cdv ct),osl⟩:=by k_is)
 (c:W.codeIn (hk P) cdv qual=true:=by k_is) (k:W.keepIn (hk P) (.ref f)=true:=by k_is):Fun (hk P) x qual st f (W.fnOf x qual (eE st) (dH st) (aC st) .none kV doc pm an cdv ct):=BJ l c k
theorem bB {R:List Value->Prop}(h:∀x0,R [x0]):∀us:List Value,us.length=1->R us
 |[_],_=>h _
theorem c5 {R:List Value->Prop}(h:∀x0 x1,R [x0,x1]):∀us:List Value,us.length=2->R us
 |[_,_],_=>h _ _
theorem fK {R:List Value->Prop}(h:∀x0 x1 x2,R [x0,x1,x2]):∀us:List Value,us.length=3->R us
 |[_,_,_],_=>h _ _ _
theorem mE {R:List Value->Prop}(h:∀x0 x1 x2 x3,R [x0,x1,x2,x3]):∀us:List Value,us.length=4->R us
 |[_,_,_,_],_=>h _ _ _ _
theorem sV {R:List Value->Prop}(h:∀x0 x1 x2 x3 x4,R [x0,x1,x2,x3,x4]):∀us:List Value,us.length=5->R us
 |[_,_,_,_,_],_=>h _ _ _ _ _
theorem mM {P:Params}{h:Heap}{mg:Str->Option Value}{x:Str}{v:Value}(X:(hk P).In h) (G:h.Ns mainGlobals mg) (e:W.nsIn (hk P) mainGlobals x=some (some v):=by k_is):mg x=some v:=W.mg_of X G e
theorem nM {P:Params}{h:Heap}{mg:Str->Option Value}{x:Str}(X:(hk P).In h) (G:h.Ns mainGlobals mg) (e:W.nsIn (hk P) mainGlobals x=some none:=by k_is):mg x=none:=W.mg_none_of X G e
theorem oM {P:Params}{C:Addr}{f:Str}(e:W.findIn (hk P) (.ref C) f=some none:=by k_is):cE (hk P) C f:=e
set_option maxHeartbeats 0 in
theorem CJ {w:World}{h:Heap}{mg:Str->Option Value}{fa:Addr}(X:(hk w.params).In h) (G:h.Ns mainGlobals mg) (hfa:mg "law"=some (.ref fa)):
 ∃fd:FuncData,(∀(s:Shared) (v:Value),BindsTo s fd ⟨[v],[]⟩ [("_law_script",v)])/\∀base:Heap,(hk w.params).In base->base.Ns mainGlobals mg->aD PySem.Challenge.rw_handflow_k33_how_lines_begin.prog w (hk w.params) mg base CX0 76 fa fd ["_law_script"] (gp (hk w.params)):=by
 k_fill
 cases hfa.symm.trans (mM (v:=.ref 331) X G)
 have F0:=fM w.params 23 kC
 have b0:=F0.binds (ps:=["block"]) fun _ _ _ _ _ _=>bB fun _=>rfl
 have F1:=fM w.params 30 kq
 have b1:=F1.binds (ps:=["program"]) fun _ _ _ _ _ _=>bB fun _=>rfl
 have F2:=fM w.params 37 kR
 have b2:=F2.binds (ps:=["block"]) fun _ _ _ _ _ _=>bB fun _=>rfl
 have F3:=fM w.params 44 kP
 have b3:=F3.binds (ps:=["deed"]) fun _ _ _ _ _ _=>bB fun _=>rfl
 have F4:=fM w.params 49 iL
 have b4:=F4.binds (ps:=["deed"]) fun _ _ _ _ _ _=>bB fun _=>rfl
 have F5:=fM w.params 56 ku
 have b5:=F5.binds (ps:=["deed"]) fun _ _ _ _ _ _=>bB fun _=>rfl
 have F6:=fM w.params 64 kr
 have b6:=F6.binds (ps:=["block"]) fun _ _ _ _ _ _=>bB fun _=>rfl
 have F7:=fM w.params 71 kA
 have b7:=F7.binds (ps:=["deed"]) fun _ _ _ _ _ _=>bB fun _=>rfl
 have F8:=fM w.params 78 kz
 have b8:=F8.binds (ps:=["store"]) fun _ _ _ _ _ _=>bB fun _=>rfl
 have F9:=fM w.params 85 kN
 have b9:=F9.binds (ps:=["store"]) fun _ _ _ _ _ _=>bB fun _=>rfl
 have F10:=fM w.params 92 kO
 have b10:=F10.binds (ps:=["program"]) fun _ _ _ _ _ _=>bB fun _=>rfl
 have F11:=fM w.params 97 iN
 have b11:=F11.binds (ps:=["program","numbers"]) fun _ _ _ _ _ _=>c5 fun _ _=>rfl
 have F12:=fM w.params 111 lB
 have b12:=F12.binds (ps:=["self"]) fun _ _ _ _ _ _=>bB fun _=>rfl
 have F13:=fM w.params 118 lA
 have b13:=F13.binds (ps:=["self","length","first"]) fun _ _ _ _ _ _=>fK fun _ _ _=>rfl
 have F14:=fM w.params 123 iT
 have b14:=F14.binds (ps:=["self","count"]) fun _ _ _ _ _ _=>c5 fun _ _=>rfl
 have F15:=fM w.params 130 lq
 have b15:=F15.binds (ps:=["self","part"]) fun _ _ _ _ _ _=>c5 fun _ _=>rfl
 have F16:=fM w.params 135 iS
 have b16:=F16.binds (ps:=["self","cards"]) fun _ _ _ _ _ _=>c5 fun _ _=>rfl
 have F17:=fM w.params 142 lm
 have b17:=F17.binds (ps:=["self","cards","wires"]) fun _ _ _ _ _ _=>fK fun _ _ _=>rfl
 have F18:=fM w.params 156 kQ
 have b18:=F18.binds (ps:=["program","numbers"]) fun _ _ _ _ _ _=>c5 fun _ _=>rfl
 have F19:=fM w.params 163 kF
 have b19:=F19.binds (ps:=["bench","deed"]) fun _ _ _ _ _ _=>c5 fun _ _=>rfl
 have F20:=fM w.params 170 kL
 have b20:=F20.binds (ps:=["bench","name"]) fun _ _ _ _ _ _=>c5 fun _ _=>rfl
 have F21:=fM w.params 175 iM
 have b21:=F21.binds (ps:=["bench","deed"]) fun _ _ _ _ _ _=>c5 fun _ _=>rfl
 have F22:=fM w.params 182 kt
 have b22:=F22.binds (ps:=["value","sources"]) fun _ _ _ _ _ _=>c5 fun _ _=>rfl
 have F23:=fM w.params 189 kJ
 have b23:=F23.binds (ps:=["bench","card","name","end"]) fun _ _ _ _ _ _=>mE fun _ _ _ _=>rfl
 have F24:=fM w.params 196 kK
 have b24:=F24.binds (ps:=["bench","store","name"]) fun _ _ _ _ _ _=>fK fun _ _ _=>rfl
 have F25:=fM w.params 203 kB
 have b25:=F25.binds (ps:=["program","numbers"]) fun _ _ _ _ _ _=>c5 fun _ _=>rfl
 have F26:=fM w.params 210 kM
 have b26:=F26.binds (ps:=["bench","block"]) fun _ _ _ _ _ _=>c5 fun _ _=>rfl
 have F27:=fM w.params 217 kE
 have b27:=F27.binds (ps:=["bench","block","cards","wires"]) fun _ _ _ _ _ _=>mE fun _ _ _ _=>rfl
 have F28:=fM w.params 224 kI
 have b28:=F28.binds (ps:=["bench","deed"]) fun _ _ _ _ _ _=>c5 fun _ _=>rfl
 have F29:=fM w.params 231 kD
 have b29:=F29.binds (ps:=["bench","deed"]) fun _ _ _ _ _ _=>c5 fun _ _=>rfl
 have F30:=fM w.params 238 kG
 have b30:=F30.binds (ps:=["bench","rounds","body"]) fun _ _ _ _ _ _=>fK fun _ _ _=>rfl
 have F31:=fM w.params 245 kH
 have b31:=F31.binds (ps:=["bench","cards","name","body","behind"]) fun _ _ _ _ _ _=>sV fun _ _ _ _ _=>rfl
 have F32:=fM w.params 250 fB
 have b32:=F32.binds (ps:=["_law_cell"]) fun _ _ _ _ _ _=>bB fun _=>rfl
 have F33:=fM w.params 257 kX
 have b33:=F33.binds (ps:=["_law_cell","_law_factor","_law_prime","_law_many"]) fun _ _ _ _ _ _=>mE fun _ _ _ _=>rfl
 have F34:=fM w.params 264 kT
 have b34:=F34.binds (ps:=["_law_number","_law_names_here"]) fun _ _ _ _ _ _=>c5 fun _ _=>rfl
 have F35:=fM w.params 271 kW
 have b35:=F35.binds (ps:=["_law_cell","_law_x","_law_names_here"]) fun _ _ _ _ _ _=>fK fun _ _ _=>rfl
 have F36:=fM w.params 278 kU
 have b36:=F36.binds (ps:=["_law_cell","_law_x","_law_q","_law_names_here","_law_hidden"]) fun _ _ _ _ _ _=>sV fun _ _ _ _ _=>rfl
 have F37:=fM w.params 285 lh
 have b37:=F37.binds (ps:=["_law_cells","_law_names_here","_law_stores"]) fun _ _ _ _ _ _=>fK fun _ _ _=>rfl
 have F38:=fM w.params 290 iO
 have b38:=F38.binds (ps:=["_law_script"]) fun _ _ _ _ _ _=>bB fun _=>rfl
 have F39:=fM w.params 295 iP
 have b39:=F39.binds (ps:=["_law_script"]) fun _ _ _ _ _ _=>bB fun _=>rfl
 have F40:=fM w.params 302 kY
 have b40:=F40.binds (ps:=["_law_block"]) fun _ _ _ _ _ _=>bB fun _=>rfl
 have F41:=fM w.params 307 iR
 have b41:=F41.binds (ps:=["_law_block"]) fun _ _ _ _ _ _=>bB fun _=>rfl
 have F42:=fM w.params 314 kS
 have b42:=F42.binds (ps:=["_law_found"]) fun _ _ _ _ _ _=>bB fun _=>rfl
 have F43:=fM w.params 319 iQ
 have b43:=F43.binds (ps:=["_law_program_here"]) fun _ _ _ _ _ _=>bB fun _=>rfl
 have F44:=fM w.params 326 kZ
 have b44:=F44.binds (ps:=["_law_program_here","_law_numbers_here"]) fun _ _ _ _ _ _=>c5 fun _ _=>rfl
 have F45:=fM w.params 331 dR
 have b45:=F45.binds (ps:=["_law_script"]) fun _ _ _ _ _ _=>bB fun _=>rfl
 have t_LOOPS:(hk w.params).lookup 15=some ⟨.type "tuple",none,.seq #[vs "while" 189,vs "repeat" 190],#[]⟩:=by k_is
 have t_LOOKERS:(hk w.params).lookup 16=some ⟨.type "tuple",none,.seq #[vs "if" 192,vs "while" 193],#[]⟩:=by k_is
 have t_OUTLET_KEEPERS:(hk w.params).lookup 57=some ⟨.type "tuple",none,.seq #[vs "give" 245,vs "while" 246],#[]⟩:=by k_is
 have T:Tx PySem.Challenge.rw_handflow_k33_how_lines_begin.prog w (hk w.params) mg (Adr.mk 23 _ 30 _ 37 _ 44 _ 49 _ 56 _ 64 _ 71 _ 78 _ 85 _ 92 _ 97 _ 111 _ 118 _ 123 _ 130 _ 135 _ 142 _ 156 _ 163 _ 170 _ 175 _ 182 _ 189 _ 196 _ 203 _ 210 _ 217 _ 224 _ 231 _ 238 _ 245 _ 250 _ 257 _ 264 _ 271 _ 278 _ 285 _ 290 _ 295 _ 302 _ 307 _ 314 _ 319 _ 326 _ 331 _ 15 16 243 57 290 145):=Tx.mk F0 b0 (mM X G) F1 b1 (mM X G) F2 b2 (mM X G) F3 b3 (mM X G) F4 b4 (mM X G) F5 b5 (mM X G) F6 b6 (mM X G) F7 b7 (mM X G) F8 b8 (mM X G) F9 b9 (mM X G) F10 b10 (mM X G) F11 b11 (mM X G) F12 b12 F13 b13 F14 b14 F15 b15 F16 b16 F17 b17 F18 b18 (mM X G) F19 b19 (mM X G) F20 b20 (mM X G) F21 b21 (mM X G) F22 b22 (mM X G) F23 b23 (mM X G) F24 b24 (mM X G) F25 b25 (mM X G) F26 b26 (mM X G) F27 b27 (mM X G) F28 b28 (mM X G) F29 b29 (mM X G) F30 b30 (mM X G) F31 b31 (mM X G) F32 b32 (mM X G) F33 b33 (mM X G) F34 b34 (mM X G) F35 b35 (mM X G) F36 b36 (mM X G) F37 b37 (mM X G) F38 b38 (mM X G) F39 b39 (mM X G) F40 b40 (mM X G) F41 b41 (mM X G) F42 b42 (mM X G) F43 b43 (mM X G) F44 b44 (mM X G) F45 b45 (mM X G) (nM X G) (nM X G) (nM X G) (nM X G) (nM X G) (nM X G) (nM X G) (nM X G) (nM X G) (nM X G) (nM X G) (nM X G) (nM X G) (nM X G) (nM X G) (mM X G) (fun _=>.inr ⟨_,_,_,t_LOOPS,rfl,rfl,Qk,.cons ⟨_,rfl⟩ (.cons ⟨_,rfl⟩ (.nil))⟩) (mM X G) (fun _=>.inr ⟨_,_,_,t_LOOKERS,rfl,rfl,Qk,.cons ⟨_,rfl⟩ (.cons ⟨_,rfl⟩ (.nil))⟩) (mM X G) (mM X G) (fun _=>.inr ⟨_,_,_,t_OUTLET_KEEPERS,rfl,rfl,Qk,.cons ⟨_,rfl⟩ (.cons ⟨_,rfl⟩ (.nil))⟩) (mM X G) (mM X G) (Cls.mk (by k_is) (by k_is) (by k_is) (by k_is)) (Mk.mk (by k_is) (by k_is) (by k_is) (by k_is)) (cF.mk (by k_is) (by k_is) (by k_is)) (cF.mk (by k_is) (by k_is) (by k_is)) (cF.mk (by k_is) (by k_is) (by k_is)) (cF.mk (by k_is) (by k_is) (by k_is)) (cF.mk (by k_is) (by k_is) (by k_is)) oM oM oM oM
 exact⟨_,fun s v=>.of_eq rfl,fun base _ _=>zS T⟩
theorem vR {l:W.OpenLaw}{q:Program}{loose:List Str}{XP:(Str->Option Value)->Heap->Prop}{YP:World->Heap->Prop}{d:DefRec}{K:Params->W.Frag}(hn:l.most=some 63) (hdf:d.params.defaults=[])
 (hY:∀(w:World) (h:Heap),YP w h->(K w.params).In h)
 (F:∀(w:World) (mg:Str->Option Value) (fa:Addr) (h:Heap),(K w.params).In h->h.Ns mainGlobals mg->mg d.name=some (.ref fa)->
  ∃fd:FuncData,(∀(s:Shared) (u:Value),BindsTo s fd ⟨[u],[]⟩ [("_law_script",u)])/\∀base:Heap,(K w.params).In base->base.Ns mainGlobals mg->aD l.prog w (K w.params) mg base CX0 76 fa fd ["_law_script"] (gp (K w.params))):
 W.WalkO q loose XP YP l.row.toRowW d [] (fun f vs=>PySem.call f vs):=
 L2.vP (n:=63) (k:=76) (x:="_law_script") (CX:=fun _=>CX0) (sp:=fun w=>gp (K w.params)) hn Qk hdf ⟨rfl,Qk,Qk,rfl⟩ hY F (fun _ _ a ns hl hb hO hS=>⟨a,ns,rfl,hS,hl,hb,hO,fun _=>rfl⟩) fun _ _ _ _ _ z=>z
noncomputable def C5:PySem.DefRec:=⟨"law",eE dR,dH dR,aC dR,defPos dR⟩
theorem tO {p:Program}{w:World}{A:Option Value}:∀{m:Nat}{x x':W.SharedT}{y:Thread},goT p w A m x y=some x'->W.topRun PySem.treeTable p w 11 A m x.abs y=some x'.abs
 |0,_,_,_,h=>nomatch h
 |m+1,x,x',y,h=>by
  unfold goT at h;unfold W.topRun
  cases a:W.through y with
  |true=>rw[a]at h;cases h;rfl
  |false=>
   rw[a]at h
   cases b:W.stepOk 11 A y with
   |false=>rw[b]at h;cases h
   |true=>
    rw[b]at h
    cases c:W.stepT (denote PySem.treeTable) p w x y with
    |none=>rw[c]at h;cases h
    |some z=>rw[c]at h;rw[W.stepT_spec c];exact tO h
theorem AM {p q:Program}{loose:List Str}{Xt:Shared->Bool}{α:Type}{Yf:Shared->α}{Ya:World->α}{N:Nat}(e:W.opening p=W.plainProg p.main.scope.names) (hN:Nat.ble 600 N=true) (f:∀s,fenceModules? p s=some s)
 (H:∀w,EndsT p q loose Xt Yf Ya N w):W.LeftO p q loose Xt Yf Ya N:=fun w=>by
 obtain⟨⟨h,gs,d,k,os⟩,u,u'⟩:=qP.mp (W.boot_open e hN f w)
 obtain⟨rfl,rfl,rfl,rfl⟩:h=W.boot_heap w.params/\gs=#[]/\d=W.boot_drawn/\k=W.boot_toks:=by simpa using u'
 obtain⟨s,r,l⟩:=qP.mp (H w os)
 have r:=tO r
 rw[bs_is]at r
 obtain⟨l1,l2,l3⟩:_/\_/\_:=by simpa only[Prod.mk.injEq]using l
 have z1:((W.boot_heap w.params).isNs mainGlobals && (#[]:Array GenState).size == 0)=true:=by kernel_rfl
 have z2:(W.boot_heap w.params).objs.size=11:=by kernel_rfl
 have t:W.topFrom PySem.treeTable p w N ⟨W.boot_heap w.params,#[],W.boot_drawn,W.boot_toks,os⟩=some s.abs:=by
  unfold W.topFrom
  dsimp only
  rw[z1,z2,r]
  show(match W.staticsOk (PySem.importedModules p.main.body) (W.boot_heap w.params) s.abs.heap && W.namesBound p s.abs.heap && W.gensDone s.abs && W.laidKept (W.boot_heap w.params) s.abs.heap with|true=>_|false=>_)=_
  rw[l1]
 unfold W.openEnds
 rw[u]
 show(W.topFrom PySem.treeTable p w N _).map _=_
 rw[t]
 exact congrArg some (Prod.ext l2 l3)
set_option maxHeartbeats 0 in
theorem left:W.LeftO PySem.Challenge.pw_handflow_k33_how_lines_begin vw [] xt hkH.obs hkH.val 3582:=AM (by kernel_rfl) Qk (fun _=>by kernel_rfl) leftF
set_option maxHeartbeats 0 in
theorem said:W.OpenLaw.wellSaid PySem.Challenge.rw_handflow_k33_how_lines_begin=true:=by kernel_rfl
end K33
open PySem PySem.W PyProof.Rows
set_option maxRecDepth 100000 in
set_option maxHeartbeats 0 in
theorem PySem.Challenge.cw_handflow_k33_how_lines_begin_holds : PySem.Challenge.rw_handflow_k33_how_lines_begin.Holds := by
 w_on;refine holds_law K33.said fun said=>?_
 refine holds_open (q:=K33.vw) (loose:=[]) (Xt:=K33.xt) (XP:=XL K33.vw []) (Yf:=Hook.obs K33.hkH) (Ya:=Hook.val K33.hkH) (YP:=Hook.says K33.hkH) (d:=K33.C5) (kwd:=[]) (N:=3582) K33.left (Hook.of K33.hkH) (Hook.keeps K33.hkH) (fun s e=>xl_of s (Bool.and_eq_true_iff.mp e).1) XL.keeps (by kernel_rfl) (by kernel_rfl) (by kernel_rfl) (fun s e=>recFacts_of (Bool.and_eq_true_iff.mp e).2) (by rfl) (by first|assumption|decide +kernel) (by decide +kernel) ⟨rfl,rfl,rfl,rfl,rfl,by decide +kernel⟩ ?hw ?hc
 (case hw=>w_witness2)
 refine K33.vR (l:=PySem.Challenge.rw_handflow_k33_how_lines_begin) rfl (by kernel_rfl) (K:=K33.hk) (fun w h Y=>PySem.W.kIn_of (K:=K33.hk) (as:=K33.hks) (e:=K33.hk_as) Y) ?F
 case F=>exact fun w mg fa h X G e=>K33.CJ X G e
