import PyProof.Rows.All
import Wide.All
import OpenK.AllK
import Wide.FinOn
import Lean
import PyProof.EqAt
import PyProof.EqKinds
import PyProof.TupleCall
import PySem.Challenge.RW_handflow_k35_whole_cards_go_through
set_option Elab.async false
set_option maxRecDepth 100000
variable {α κ:Type}{C I a b dx f it l:PySem.Addr}{u:PySem.Value}{P prog:PySem.Program}{w:PySem.World}{base h h':PySem.Heap}{name nm q qual sg x z:PySem.Str}{e tg:PySem.Expr}{ζ pins':List (PySem.Addr×PySem.Obj)}{s s':PySem.Shared}{g g':Array PySem.GenState}{ac bc ep i j lo m mask t':Nat}{ch fp:List PySem.Addr}{M:PySem.Model}{A:PySem.Around}{E Q:PySem.Value->PySem.Shared->Prop}{t:PySem.SetTable}{R:List PySem.Value->Prop}{μ θ pos:PySem.Pos}{c:Int}{items xs:Array PySem.Value}{Nc S Z ks loose ps rs sn ys zs:List PySem.Str}{K:PySem.W.Frag}{st:PySem.Stmt}{es es2:Array (Int×PySem.Value)}{body:List PySem.Stmt}{bm η sub us:List PySem.Value}{mA mg:PySem.Str->Option PySem.Value}{L beh ns ξ ws:List Int}{kw:List (PySem.Str×PySem.Value)}{env:PySem.Env}{outer:List PySem.Env}{fd:PySem.FuncData}{scope:PySem.Scope}{osl sl:Array (Option PySem.Value)}{cells:List (PySem.Str×PySem.Addr)}{ifs:List PySem.Expr}{js:List Nat}{XP:(PySem.Str->Option PySem.Value)->PySem.Heap->Prop}{YP:PySem.World->PySem.Heap->Prop}{ab b1 b2 hdct:Bool}{k0 k1 k2 k3 k5:Option PySem.Value}{col:Option Bool}{dd:Option PySem.Addr}{newId:String}{oe:PySem.Obj}{G:Array PySem.GenState->Array PySem.GenState->Prop}
abbrev LS:=List PySem.Str
abbrev LI:=List Int
abbrev LL:=List PySem.Value
abbrev LD:=Array PySem.Value
abbrev LO:=Option PySem.Value
abbrev LK:=List PySem.Addr
abbrev LG:=List (PySem.Str×Int)
abbrev LF:=PySem.Value->PySem.Shared->Prop
abbrev LP:=List PySem.Expr
set_option linter.all false
set_option genSizeOf false
local macro_rules|`(tactic|exists $x,*)=>`(tactic|refine⟨$x,*, ?_⟩)
theorem U{b:Sort u}{a:b}:a=a:=rfl
theorem Oi{p:Prop}{b:Sort u}{a:b}:a=a\/p:=.inl rfl
theorem Oy{e:Sort u}{d:Sort v}{c:Sort w}{f:e->d->c}:∀a b,f a b=f a b:=λ_ _=>rfl
section
open PySem PySem.Spec PyProof.Rows PySem.W
theorem Yd{p:Prop}(h:p:=by decide +kernel):p:=h
theorem Yk{p:Prop}(h:p:=by decide):p:=h
theorem Yo{p:Prop}(h:p:=by lia):p:=h
abbrev Yq:=Value->Shared->Prop
def q4:=@wpAny_bind
def q5:=@List.length_map
def q9:=@Heap.get?_push_of_some
def qa:=@List.length_append
def qb:=@List.getElem?_eq_getElem
def qc:=@wpAny_pure
def qd:=@Nat.le_refl
def qe:=@List.getElem?_eq_some_iff
def qf:=@PySem.F.plainAttrs_list
def qg:=@List.mem_append
def qh:=@Bool.false_ne_true
def qi:=@List.getD_eq_getElem?_getD
def qj:=@List.mem_cons_of_mem
def qk:=@List.mem_cons_self
def qo:=@Heap.get?_push_size
def qp:=@Heap.lt_size
def qq:=@List.take_add_one
def qr:=@Nat.zero_le
def qt:=@List.mem_cons
def qu:=@PySem.F.slot_list_append
def qv:=@PySem.F.type_list_append
def qw:=@List.append_nil
def qx:=@Nat.le_trans
def qy:=@List.mem_of_getElem?
def qz:=@List.length_cons
def qA:=@List.size_toArray
def qC:=@Nat.lt_of_lt_of_le
def qD:=@List.getElem?_map
def qE:=@List.flatMap_cons
def qF:=@Nat.ne_of_lt
def qG:=@List.take_length
def qH:=@List.mem_append_right
def qI:=@Option.some.inj
def qJ:=@List.length_take
def qK:=@List.getElem?_append_right
def qL:=@Array.length_toList
def qM:=@List.append_assoc
def qO:=@List.map_append
def qP:=@Option.map_eq_some_iff
def qQ:=@List.not_mem_nil
def qR:=@List.map_cons
def qS:=@List.mem_singleton
def qT:=@Array.getElem?_toList
def qU:=@List.flatMap_append
def qV:=@List.mem_append_left
def qW:=@wpAny_setState_of
def qX:=@Int.toNat_natCast
def qY:=@List.length_drop
def qZ:=@if_neg
def Q0:=@if_pos
def Q3:=@decide_eq_true
def Q4:=@decide_eq_false
def Q5:=@absurd
def Q6:=@List.getElem?_append_left
def Q7:=@List.length_singleton
def Q8:=@PySem.boot_len
def Q9:=@List.find?_cons
def Qa:=@Int.emod_nonneg
def Qb:=@Nat.lt_succ_self
def Qc:=@Nat.lt_irrefl
def Qd:=@of_decide_eq_true
def Qe:=@List.length_range
def Qf:=@Int.emod_lt_of_pos
def Qg:=@Heap.size_push
def Qh:=@Heap.get?_update_self
def Qi:=@PySem.mem_of_lookup
def Qj:=@wpAny_call_entry
def Qk:=@Bool.false_eq_true
def Ql:=@List.nil_append
def Qm:=@List.cons_append
def Qn:=@PySem.F.type_list_extend
def Qo:=@PySem.F.slot_list_extend
def Qp:=@List.getElem?_eq_none
def Qq:=@Nat.lt_succ_of_lt
def Qs:=@List.filter_append
def Qt:=@Heap.get?_update_other
def Qu:=@List.take_append_drop
def Qv:=@wpAny_holding
def Qw:=@wpAny_seqItems
def Qx:=@PySem.W.kia_one
def Qy:=@Nat.not_lt_zero
def Qz:=@List.foldl_cons
end
namespace L2
open PySem PySem.Spec PyProof.Rows PySem.W
def inClass(s:Stmt)(j:Nat):Stmt:=match s with
 |.ClassDef _ _ _ body _ _ _ _ _ _ _=>body.getD j (.Pass ⟨0,0,0,0⟩)
 |_=>.Pass ⟨0,0,0,0⟩
def fG(s:Stmt):Arguments:=match s with
 |.FunctionDef _ a _ _ _ _ _ _ _ _=>a
 |_=>{ posonlyargs:=[],args:=[],vararg:=none,kwonlyargs:=[],kw_defaults:=[],kwarg:=none,defaults:=[] }
def eP(s:Stmt):List Stmt:=match s with
 |.FunctionDef _ _ b _ _ _ _ _ _ _=>b
 |_=>[]
def aE(s:Stmt):Scope:=match s with
 |.FunctionDef _ _ _ _ _ _ B _ _ _=>B
 |_=>{ kind:=.function,names:=[],isGenerator:=false,isCoroutine:=false }
end L2
namespace K35
open PySem L2
set_option maxHeartbeats 0 in
def said:PySem.W.OpenLaw.wellSaid PySem.Challenge.rw_handflow_k35_whole_cards_go_through=true:=by kernel_rfl
def top(i:Nat):Stmt:=PySem.Challenge.pw_handflow_k35_whole_cards_go_through.main.body.getD i (.Pass ⟨0,0,0,0⟩)
noncomputable def defPos(s:Stmt):Pos:=match s with
 |.FunctionDef _ _ _ _ _ _ _ _ _ p=>p
 |_=>⟨0,0,0,0⟩
abbrev vs(x:String)(t:Nat):Value:=.str (Str.ofString x) t
abbrev de(P:Params)(x:String)(t:Nat)(v:Value):DictEntry:=⟨PyData.keyHash P (Str.ofString x),vs x t,v⟩
abbrev co(a b:String)(t l n r:Nat)(x y z u:Value)(m:Nat):Obj:=Obj.mk (.type "code") none (Data.fields #[vs a t,vs b (t+1),vs "/claim/cut.py" (t+2),.int l 0,.int n 0,.int 0 0,.int 0 0,.int 3 0,.ref r,.bool true,.int 181 0,.ref (r+1),x,y,z,u,.int m 0,.int l 0,vs "/claim/cut.py" (m+1)]) #[]
abbrev fo(a b:String)(s:Stmt)(m:String)(t c:Nat):Obj:=Obj.mk (.type "function") none (.func (PySem.W.fnOf a b (fG s) (eP s) (aE s) .none .none .none (vs m t) none (.ref c) .none)) #[]
noncomputable def hk:Params->PySem.W.Frag:=λP=>
 (nat_lit 2,Obj.mk .none none (Data.dict #[]) #[]) ::
 (nat_lit 3,Obj.mk (.type "dict") none (Data.dict #[de P "__name__" 165 (vs "law_handflow_k35_whole_cards_go_through" 526),de P "__doc__" 166 .none,de P "__package__" 167 .none,de P "__loader__" 168 (.builtin "__main__.__loader__#opaque"),de P "__spec__" 169 .none,de P "__annotations__" 170 (.ref 6),de P "__builtins__" 171 (.ref 4),de P "__file__" 173 (vs "/claim/cut.py" 172),de P "__cached__" 174 .none,de P "LOOPS" 191 (.ref 15),de P "LOOKERS" 194 (.ref 16),de P "named" 203 (.ref 23),de P "variables_of" 210 (.ref 30),de P "all_deeds" 220 (.ref 37),de P "blocks_within" 227 (.ref 44),de P "names_in" 233 (.ref 49),de P "read_by_set" 240 (.ref 56),de P "OUTLET" 244 (vs ">" 243),de P "OUTLET_KEEPERS" 247 (.ref 57),de P "touched" 256 (.ref 64),de P "other_cards_in" 263 (.ref 71),de P "put_card" 270 (.ref 78),de P "get_card" 277 (.ref 85),de P "cards_of" 287 (.ref 92),de P "WHEEL" 291 (.int 1000000000000000000000000000000 290),de P "beginnings" 297 (.ref 97),de P "Bench" 370 (.ref 145),de P "bench_for" 383 (.ref 156),de P "lay_single" 394 (.ref 163),de P "lay_fork" 403 (.ref 170),de P "lay_set" 409 (.ref 175),de P "side_of" 417 (.ref 182),de P "lay_handing" 429 (.ref 189),de P "lay_get" 441 (.ref 196),de P "net_of" 452 (.ref 203),de P "lay_block" 461 (.ref 210),de P "lay_through" 471 (.ref 217),de P "lay_if" 487 (.ref 224),de P "lay_while" 496 (.ref 231),de P "lay_repeat" 510 (.ref 238),de P "lay_loop" 525 (.ref 245),de P "_law_names" 533 (.ref 250),de P "_law_pick" 543 (.ref 257),de P "_law_value" 552 (.ref 264),de P "_law_set" 564 (.ref 271),de P "_law_simple" 576 (.ref 278),de P "_law_body" 596 (.ref 285),de P "_law_program" 602 (.ref 290),de P "_law_numbers" 608 (.ref 295),de P "_law_flat" 617 (.ref 302),de P "_law_bare" 623 (.ref 307),de P "_law_cards" 629 (.ref 312),de P "_law_back" 639 (.ref 319),de P "_law_givers" 650 (.ref 326),de P "_law_coloured" 666 (.ref 333),de P "_law_side" 677 (.ref 340),de P "_law_found" 683 (.ref 345),de P "_law_due" 693 (.ref 352),de P "law" 710 (.ref 359)] 59) #[]) ::
 (nat_lit 15,Obj.mk (.type "tuple") none (Data.seq #[vs "while" 189,vs "repeat" 190]) #[]) ::
 (nat_lit 16,Obj.mk (.type "tuple") none (Data.seq #[vs "if" 192,vs "while" 193]) #[]) ::
 (nat_lit 22,co "named" "named" 195 4 1 17 .none (.ref 19) (.ref 20) (.ref 21) 201) ::
 (nat_lit 23,fo "named" "named" (top 3) "handflow.tree" 187 22) ::
 (nat_lit 29,co "variables_of" "variables_of" 204 9 1 24 .none (.ref 26) (.ref 27) (.ref 28) 208) ::
 (nat_lit 30,fo "variables_of" "variables_of" (top 4) "handflow.tree" 187 29) ::
 (nat_lit 36,co "all_deeds" "all_deeds" 211 11 1 31 .none (.ref 33) (.ref 34) (.ref 35) 218) ::
 (nat_lit 37,fo "all_deeds" "all_deeds" (top 5) "handflow.tree" 187 36) ::
 (nat_lit 43,co "blocks_within" "blocks_within" 221 18 1 38 .none (.ref 40) (.ref 41) (.ref 42) 225) ::
 (nat_lit 44,fo "blocks_within" "blocks_within" (top 6) "handflow.tree" 187 43) ::
 (nat_lit 48,co "names_in" "names_in" 228 24 1 45 .none .none .none (.ref 47) 231) ::
 (nat_lit 49,fo "names_in" "names_in" (top 7) "handflow.tree" 187 48) ::
 (nat_lit 55,co "read_by_set" "read_by_set" 234 31 1 50 .none (.ref 52) (.ref 53) (.ref 54) 238) ::
 (nat_lit 56,fo "read_by_set" "read_by_set" (top 8) "handflow.tree" 187 55) ::
 (nat_lit 57,Obj.mk (.type "tuple") none (Data.seq #[vs "give" 245,vs "while" 246]) #[]) ::
 (nat_lit 63,co "touched" "touched" 248 36 1 58 .none (.ref 60) (.ref 61) (.ref 62) 254) ::
 (nat_lit 64,fo "touched" "touched" (top 12) "handflow.cards" 241 63) ::
 (nat_lit 70,co "other_cards_in" "other_cards_in" 257 42 1 65 .none (.ref 67) (.ref 68) (.ref 69) 261) ::
 (nat_lit 71,fo "other_cards_in" "other_cards_in" (top 13) "handflow.cards" 241 70) ::
 (nat_lit 77,co "put_card" "put_card" 264 48 1 72 .none (.ref 74) (.ref 75) (.ref 76) 268) ::
 (nat_lit 78,fo "put_card" "put_card" (top 14) "handflow.cards" 241 77) ::
 (nat_lit 84,co "get_card" "get_card" 271 50 1 79 .none (.ref 81) (.ref 82) (.ref 83) 275) ::
 (nat_lit 85,fo "get_card" "get_card" (top 15) "handflow.cards" 241 84) ::
 (nat_lit 91,co "cards_of" "cards_of" 278 52 1 86 .none (.ref 88) (.ref 89) (.ref 90) 285) ::
 (nat_lit 92,fo "cards_of" "cards_of" (top 16) "handflow.cards" 241 91) ::
 (nat_lit 96,co "beginnings" "beginnings" 292 59 2 93 .none .none .none (.ref 95) 295) ::
 (nat_lit 97,fo "beginnings" "beginnings" (top 19) "handflow.wheel" 288 96) ::
 (nat_lit 110,co "__init__" "Bench.__init__" 312 67 1 105 .none (.ref 107) (.ref 108) (.ref 109) 316) ::
 (nat_lit 111,fo "__init__" "Bench.__init__" (inClass (top 21) 0) "handflow.bench" 298 110) ::
 (nat_lit 117,co "add_line" "Bench.add_line" 319 73 3 112 .none (.ref 114) (.ref 115) (.ref 116) 325) ::
 (nat_lit 118,fo "add_line" "Bench.add_line" (inClass (top 21) 1) "handflow.bench" 298 117) ::
 (nat_lit 122,co "add_wires" "Bench.add_wires" 328 77 2 119 .none .none .none (.ref 121) 331) ::
 (nat_lit 123,fo "add_wires" "Bench.add_wires" (inClass (top 21) 2) "handflow.bench" 298 122) ::
 (nat_lit 129,co "add_part" "Bench.add_part" 334 80 2 124 .none (.ref 126) (.ref 127) (.ref 128) 339) ::
 (nat_lit 130,fo "add_part" "Bench.add_part" (inClass (top 21) 3) "handflow.bench" 298 129) ::
 (nat_lit 134,co "wires_of" "Bench.wires_of" 342 83 2 131 .none .none .none (.ref 133) 345) ::
 (nat_lit 135,fo "wires_of" "Bench.wires_of" (inClass (top 21) 4) "handflow.bench" 298 134) ::
 (nat_lit 141,co "lead" "Bench.lead" 348 86 3 136 .none (.ref 138) (.ref 139) (.ref 140) 356) ::
 (nat_lit 142,fo "lead" "Bench.lead" (inClass (top 21) 5) "handflow.bench" 298 141) ::
 (nat_lit 143,Obj.mk (.type "tuple") none (Data.seq #[vs "coming" 359,vs "ends" 360,vs "lines" 361,vs "parts" 362]) #[]) ::
 (nat_lit 144,Obj.mk (.type "dict") none (Data.dict #[de P "__module__" 307 (vs "handflow.bench" 298),de P "__firstlineno__" 311 (.int 65 310),de P "__init__" 318 (.ref 111),de P "add_line" 327 (.ref 118),de P "add_wires" 333 (.ref 123),de P "add_part" 341 (.ref 130),de P "wires_of" 347 (.ref 135),de P "lead" 358 (.ref 142),de P "__static_attributes__" 363 (.ref 143),de P "__dict__" 365 (.ref 146),de P "__weakref__" 367 (.ref 147),de P "__doc__" 368 .none] 4) #[]) ::
 (nat_lit 145,Obj.mk (.type "type") none (Data.cls (ClassData.mk (Str.ofString "Bench") [.type "object"] [.ref 145,.type "object"] 144 (Str.ofString "Bench") true [] [] false none false)) #[none,none,some (vs "Bench" 300),some (vs "Bench" 308),some (.builtin "object.__new__"),some (.bool true)]) ::
 (nat_lit 146,Obj.mk (.type "getset_descriptor") none (Data.fields #[vs "__dict__" 364,.ref 145,.builtin "function.__dict__",.builtin "function.__dict__#set"]) #[]) ::
 (nat_lit 147,Obj.mk (.type "getset_descriptor") none (Data.fields #[vs "__weakref__" 366,.ref 145,.builtin "ExceptionGroup.__weakref__",.none]) #[]) ::
 (nat_lit 155,co "bench_for" "bench_for" 371 89 2 150 .none (.ref 152) (.ref 153) (.ref 154) 381) ::
 (nat_lit 156,fo "bench_for" "bench_for" (top 22) "handflow.bench" 298 155) ::
 (nat_lit 162,co "lay_single" "lay_single" 386 99 2 157 .none (.ref 159) (.ref 160) (.ref 161) 392) ::
 (nat_lit 163,fo "lay_single" "lay_single" (top 24) "handflow.single" 384 162) ::
 (nat_lit 169,co "lay_fork" "lay_fork" 395 109 2 164 .none (.ref 166) (.ref 167) (.ref 168) 401) ::
 (nat_lit 170,fo "lay_fork" "lay_fork" (top 25) "handflow.single" 384 169) ::
 (nat_lit 174,co "lay_set" "lay_set" 404 114 2 171 .none .none .none (.ref 173) 407) ::
 (nat_lit 175,fo "lay_set" "lay_set" (top 26) "handflow.single" 384 174) ::
 (nat_lit 181,co "side_of" "side_of" 410 122 2 176 .none (.ref 178) (.ref 179) (.ref 180) 415) ::
 (nat_lit 182,fo "side_of" "side_of" (top 27) "handflow.single" 384 181) ::
 (nat_lit 188,co "lay_handing" "lay_handing" 418 126 4 183 .none (.ref 185) (.ref 186) (.ref 187) 427) ::
 (nat_lit 189,fo "lay_handing" "lay_handing" (top 28) "handflow.single" 384 188) ::
 (nat_lit 195,co "lay_get" "lay_get" 430 131 3 190 .none (.ref 192) (.ref 193) (.ref 194) 439) ::
 (nat_lit 196,fo "lay_get" "lay_get" (top 29) "handflow.single" 384 195) ::
 (nat_lit 202,co "net_of" "net_of" 444 138 2 197 .none (.ref 199) (.ref 200) (.ref 201) 450) ::
 (nat_lit 203,fo "net_of" "net_of" (top 31) "handflow.netmaker" 442 202) ::
 (nat_lit 209,co "lay_block" "lay_block" 453 143 2 204 .none (.ref 206) (.ref 207) (.ref 208) 459) ::
 (nat_lit 210,fo "lay_block" "lay_block" (top 32) "handflow.netmaker" 442 209) ::
 (nat_lit 216,co "lay_through" "lay_through" 462 153 4 211 .none (.ref 213) (.ref 214) (.ref 215) 469) ::
 (nat_lit 217,fo "lay_through" "lay_through" (top 33) "handflow.netmaker" 442 216) ::
 (nat_lit 223,co "lay_if" "lay_if" 472 157 2 218 .none (.ref 220) (.ref 221) (.ref 222) 485) ::
 (nat_lit 224,fo "lay_if" "lay_if" (top 34) "handflow.netmaker" 442 223) ::
 (nat_lit 230,co "lay_while" "lay_while" 488 169 2 225 .none (.ref 227) (.ref 228) (.ref 229) 494) ::
 (nat_lit 231,fo "lay_while" "lay_while" (top 35) "handflow.netmaker" 442 230) ::
 (nat_lit 237,co "lay_repeat" "lay_repeat" 497 172 3 232 .none (.ref 234) (.ref 235) (.ref 236) 508) ::
 (nat_lit 238,fo "lay_repeat" "lay_repeat" (top 36) "handflow.netmaker" 442 237) ::
 (nat_lit 244,co "lay_loop" "lay_loop" 511 183 5 239 .none (.ref 241) (.ref 242) (.ref 243) 523) ::
 (nat_lit 245,fo "lay_loop" "lay_loop" (top 37) "handflow.netmaker" 442 244) ::
 (nat_lit 249,co "_law_names" "_law_names" 528 192 1 246 .none .none .none (.ref 248) 531) ::
 (nat_lit 250,fo "_law_names" "_law_names" (top 39) "law_handflow_k35_whole_cards_go_through" 526 249) ::
 (nat_lit 256,co "_law_pick" "_law_pick" 534 198 4 251 .none (.ref 253) (.ref 254) (.ref 255) 541) ::
 (nat_lit 257,fo "_law_pick" "_law_pick" (top 40) "law_handflow_k35_whole_cards_go_through" 526 256) ::
 (nat_lit 263,co "_law_value" "_law_value" 544 200 2 258 .none (.ref 260) (.ref 261) (.ref 262) 550) ::
 (nat_lit 264,fo "_law_value" "_law_value" (top 41) "law_handflow_k35_whole_cards_go_through" 526 263) ::
 (nat_lit 270,co "_law_set" "_law_set" 553 207 3 265 .none (.ref 267) (.ref 268) (.ref 269) 562) ::
 (nat_lit 271,fo "_law_set" "_law_set" (top 42) "law_handflow_k35_whole_cards_go_through" 526 270) ::
 (nat_lit 277,co "_law_simple" "_law_simple" 565 212 5 272 .none (.ref 274) (.ref 275) (.ref 276) 574) ::
 (nat_lit 278,fo "_law_simple" "_law_simple" (top 43) "law_handflow_k35_whole_cards_go_through" 526 277) ::
 (nat_lit 284,co "_law_body" "_law_body" 577 221 3 279 .none (.ref 281) (.ref 282) (.ref 283) 594) ::
 (nat_lit 285,fo "_law_body" "_law_body" (top 44) "law_handflow_k35_whole_cards_go_through" 526 284) ::
 (nat_lit 289,co "_law_program" "_law_program" 597 253 1 286 .none .none .none (.ref 288) 600) ::
 (nat_lit 290,fo "_law_program" "_law_program" (top 45) "law_handflow_k35_whole_cards_go_through" 526 289) ::
 (nat_lit 294,co "_law_numbers" "_law_numbers" 603 260 1 291 .none .none .none (.ref 293) 606) ::
 (nat_lit 295,fo "_law_numbers" "_law_numbers" (top 46) "law_handflow_k35_whole_cards_go_through" 526 294) ::
 (nat_lit 301,co "_law_flat" "_law_flat" 609 262 1 296 .none (.ref 298) (.ref 299) (.ref 300) 615) ::
 (nat_lit 302,fo "_law_flat" "_law_flat" (top 47) "law_handflow_k35_whole_cards_go_through" 526 301) ::
 (nat_lit 306,co "_law_bare" "_law_bare" 618 271 1 303 .none .none .none (.ref 305) 621) ::
 (nat_lit 307,fo "_law_bare" "_law_bare" (top 48) "law_handflow_k35_whole_cards_go_through" 526 306) ::
 (nat_lit 311,co "_law_cards" "_law_cards" 624 273 1 308 .none .none .none (.ref 310) 627) ::
 (nat_lit 312,fo "_law_cards" "_law_cards" (top 49) "law_handflow_k35_whole_cards_go_through" 526 311) ::
 (nat_lit 318,co "_law_back" "_law_back" 630 290 2 313 .none (.ref 315) (.ref 316) (.ref 317) 637) ::
 (nat_lit 319,fo "_law_back" "_law_back" (top 50) "law_handflow_k35_whole_cards_go_through" 526 318) ::
 (nat_lit 325,co "_law_givers" "_law_givers" 640 300 1 320 .none (.ref 322) (.ref 323) (.ref 324) 648) ::
 (nat_lit 326,fo "_law_givers" "_law_givers" (top 51) "law_handflow_k35_whole_cards_go_through" 526 325) ::
 (nat_lit 332,co "_law_coloured" "_law_coloured" 651 311 4 327 .none (.ref 329) (.ref 330) (.ref 331) 664) ::
 (nat_lit 333,fo "_law_coloured" "_law_coloured" (top 52) "law_handflow_k35_whole_cards_go_through" 526 332) ::
 (nat_lit 339,co "_law_side" "_law_side" 667 329 4 334 .none (.ref 336) (.ref 337) (.ref 338) 675) ::
 (nat_lit 340,fo "_law_side" "_law_side" (top 53) "law_handflow_k35_whole_cards_go_through" 526 339) ::
 (nat_lit 344,co "_law_found" "_law_found" 678 336 3 341 .none .none .none (.ref 343) 681) ::
 (nat_lit 345,fo "_law_found" "_law_found" (top 54) "law_handflow_k35_whole_cards_go_through" 526 344) ::
 (nat_lit 351,co "_law_due" "_law_due" 684 349 1 346 .none (.ref 348) (.ref 349) (.ref 350) 691) ::
 (nat_lit 352,fo "_law_due" "_law_due" (top 55) "law_handflow_k35_whole_cards_go_through" 526 351) ::
 (nat_lit 358,co "law" "law" 694 363 1 353 .none (.ref 355) (.ref 356) (.ref 357) 708) ::
 (nat_lit 359,fo "law" "law" (top 56) "law_handflow_k35_whole_cards_go_through" 526 358) ::
 []
def hks:LK:=[2,3,15,16,22,23,29,30,36,37,43,44,48,49,55,56,57,63,64,70,71,77,78,84,85,91,92,96,97,110,111,117,118,122,123,129,130,134,135,141,142,143,144,145,146,147,155,156,162,163,169,170,174,175,181,182,188,189,195,196,202,203,209,210,216,217,223,224,230,231,237,238,244,245,249,250,256,257,263,264,270,271,277,278,284,285,289,290,294,295,301,302,306,307,311,312,318,319,325,326,332,333,339,340,344,345,351,352,358,359]
def hk_as:∀P,hks=(hk P).map (·.1):=λ_=>by kernel_rfl
def vw:Program:=PySem.W.view PySem.Challenge.pw_handflow_k35_whole_cards_go_through [1,2,3,4,5,6,7,8,10,11,12,13,14,15,16,18,19,21,22,24,25,26,27,28,29,31,32,33,34,35,36,37,39,40,41,42,43,44,45,46,47,48,49,50,51,52,53,54,55,56]
noncomputable def hkH:PySem.W.Hook:=PySem.W.kHook hk hks hk_as
noncomputable def xt(s:Shared):Bool:=PySem.W.xlAt vw [] s && PySem.W.recOk (PySem.W.RowW.records (PySem.W.OpenRow.toRowW (PySem.W.OpenLaw.row PySem.Challenge.rw_handflow_k35_whole_cards_go_through))) s
noncomputable def bt(P:Params):PySem.W.BT:=(.node (PySem.W.boot_o_0 P) (.node (PySem.W.boot_o_1 P) (.node (PySem.W.boot_o_3 P) (.node (PySem.W.boot_o_7 P) .nil .nil) .nil) (.node (PySem.W.boot_o_5 P) (.node (PySem.W.boot_o_9 P) .nil .nil) .nil)) (.node (PySem.W.boot_o_2 P) (.node (PySem.W.boot_o_4 P) (.node (PySem.W.boot_o_8 P) .nil .nil) .nil) (.node (PySem.W.boot_o_6 P) (.node (PySem.W.boot_o_10 P) .nil .nil) .nil)))
def bt_is(P:Params):PySem.W.absHeap (bt P) 11 {}=PySem.W.boot_heap P:=by kernel_rfl
noncomputable def bs(P:Params)(os:OsState):PySem.W.SharedT:=⟨bt P,11,{},#[],PySem.W.boot_drawn,PySem.W.boot_toks,os⟩
def bs_is(P:Params)(os:OsState):(bs P os).abs=⟨PySem.W.boot_heap P,#[],PySem.W.boot_drawn,PySem.W.boot_toks,os⟩:=by
 unfold bs PySem.W.SharedT.abs;rw[bt_is]
def goT(p:Program)(w:World)(A:LO):Nat->PySem.W.SharedT->Thread->Option PySem.W.SharedT
 |0,_,_=>none
 |m+1,x,y=>match PySem.W.through y with
  |true=>some x
  |false=>match PySem.W.stepOk 11 A y with
   |false=>none
   |true=>match PySem.W.stepT (denote PySem.treeTable) p w x y with
    |none=>none
    |some (x',y')=>goT p w A m x' y'
noncomputable abbrev annB(w:World):LO:=(PySem.W.boot_heap w.params).nsMap mainGlobals "__annotations__"
def EndsT(p q:Program)(loose:LS)(Xt:Shared->Bool)(Yf:Shared->α)(Ya:World->α)(N:Nat)(w:World):Prop:=
 ∀os:OsState,(goT p w (annB w) N (bs w.params os) (PySem.W.topStub p)).map (λs=>(PySem.W.staticsOk (PySem.importedModules p.main.body) (PySem.W.boot_heap w.params) s.abs.heap && PySem.W.namesBound p s.abs.heap && PySem.W.gensDone s.abs && PySem.W.laidKept (PySem.W.boot_heap w.params) s.abs.heap,PySem.W.openSeen q loose (PySem.importedModules p.main.body) Xt true s.abs,Yf s.abs))=some (true,PySem.W.openGood q loose,Ya w)
set_option maxHeartbeats 0 in
def leftF:∀w:World,EndsT PySem.Challenge.pw_handflow_k35_whole_cards_go_through vw [] xt hkH.obs hkH.val 3872 w:=λw os=>by kernel_rfl
end K35
namespace L2
open PySem PySem.Spec PyProof.Rows
abbrev Key:=Sum Int Str
noncomputable def fu:Key->Value->Bool
 |.inl k,v=>Value.isInt k v
 |.inr x,v=>Value.isStrOf x v
noncomputable def E8(w:World):Key->Int
 |.inl k=>hashInt k
 |.inr x=>hashStr w x
def dR:∀{k:Key}{v:Value},fu k v=true->(∃i t,k=Sum.inl i/\v=Value.int i t)\/(∃x t,k=Sum.inr x/\v=Value.str x t)
 |.inl i,v,h=>by
  obtain⟨t,e⟩:=Value.isInt_shape (k:=i) (v:=v) h;exact .inl ⟨i,t,U,e⟩
 |.inr x,v,h=>by
  obtain⟨t,e⟩:=Value.isStrOf_shape (x:=x) (v:=v) h;exact .inr ⟨x,t,U,e⟩
def E7(i:Int)(t:Tok):fu (.inl i) (.int i t)=true:=by simp[fu,Value.isInt]
def E6(x:Str)(t:Tok):fu (.inr x) (.str x t)=true:=by simp[fu,Value.isStrOf]
def E5(a b:Int):decide ((Sum.inl a:Key)=Sum.inl b)=(a == b):=by
 by_cases e:a=b
 .subst e;simp
 .have h:¬ (Sum.inl a:Key)=Sum.inl b:=λq=>e (Sum.inl.inj q);rw[Q4 h];exact(beq_eq_false_iff_ne.mpr e).symm
def E1(a b:Str):decide ((Sum.inr a:Key)=Sum.inr b)=decide (a=b):=by
 by_cases e:a=b
 .subst e;simp
 .have h:¬ (Sum.inr a:Key)=Sum.inr b:=λq=>e (Sum.inr.inj q);rw[Q4 h,Q4 e]
def E4(a:Int)(b:Str):decide ((Sum.inl a:Key)=Sum.inr b)=false:=Q4 (λq=>nomatch q)
def E3(a:Str)(b:Int):decide ((Sum.inr a:Key)=Sum.inl b)=false:=Q4 (λq=>nomatch q)
noncomputable def bd(prog:Program)(w:World):PySem.KeyKind prog w Key where
 is:=fu
 hash:=E8 w
 inj:=λv a b ha hb=>by
  rcases dR ha with⟨i,t,rfl,rfl⟩|⟨x,t,rfl,rfl⟩
  .rcases dR hb with⟨j,u,rfl,e⟩|⟨y,u,rfl,e⟩
   .injection e with e1 _;rw[e1]
   .exact nomatch e
  .rcases dR hb with⟨j,u,rfl,e⟩|⟨y,u,rfl,e⟩
   .exact nomatch e
   .injection e with e1 _;rw[e1]
 byValue:=λk v h=>by
  rcases dR h with⟨i,t,rfl,rfl⟩|⟨x,t,rfl,rfl⟩<;>rfl
 pyHash:=λB h=>by
  rcases dR B with⟨i,t,rfl,rfl⟩|⟨x,t,rfl,rfl⟩
  .exact wpAny_pyHash_int h
  .exact wpAny_pyHash_str h
 eqBool:=λhu B h=>by
  rcases dR hu with⟨i,t,rfl,rfl⟩|⟨x,t,rfl,rfl⟩
  .rcases dR B with⟨j,u,rfl,rfl⟩|⟨y,u,rfl,rfl⟩
   .rw[E5]at h;exact wpAny_eqBool_int h
   .rw[E4]at h;exact SeqAt.EqAt.int_str i t y u _ _ _ _ h
  .rcases dR B with⟨j,u,rfl,rfl⟩|⟨y,u,rfl,rfl⟩
   .rw[E3]at h;exact SeqAt.EqAt.str_int x t j u _ _ _ _ h
   .rw[E1]at h;exact wpAny_eqBool_str h
 «strs»:=λk x t v h=>by
  rcases dR h with⟨i,u,rfl,e⟩|⟨y,u,rfl,e⟩
  .exact nomatch e
  .injection e with e1 _;subst e1;cases v<;>rfl
def DB(prog:Program)(w:World)(i:Int)(t:Tok):(bd prog w).is (.inl i) (.int i t)=true:=E7 i t
def DA(prog:Program)(w:World)(x:Str)(t:Tok):(bd prog w).is (.inr x) (.str x t)=true:=E6 x t
inductive V where
 |non|bl (b:Bool)|int (i:Int)|str (x:Str)|byt (b:Array UInt8)|flt (b:UInt64)|ref (a:Addr)|ty (n:String)
 deriving DecidableEq
def aC:V->Value->Prop
 |.non,u=>u=Value.none
 |.bl b,u=>u=Value.bool b
 |.int i,u=>∃t,u=Value.int i t
 |.str x,u=>∃t,u=Value.str x t
 |.byt b,u=>∃t,u=Value.bytes b t
 |.flt b,u=>∃t,u=Value.float b t
 |.ref a,u=>u=Value.ref a
 |.ty n,u=>u=Value.type n
abbrev aB:List V->LL->Prop:=Paired aC
def aB.length{xs:List V}{us:LL}(r:aB xs us):xs.length=us.length:=Paired.length r
def aB.get:∀{xs:List V}{us:LL}{i:Nat}{x:V},aB xs us->xs[i]?=some x->∃u,us[i]?=some u/\aC x u
 |_,_,_,_,.nil,e=>by simp at e
 |_,_,0,_,.cons r _,e=>by simp at e;subst e;exact⟨_,U,r⟩
 |_,_,i+1,x,.cons _ t,e=>by
  obtain⟨u,h1,h2⟩:=aB.get (i:=i) (x:=x) t (by simpa using e);exact⟨u,by simpa using h1,h2⟩
def aB.set{x:V}{u:Value}(r:aC x u):∀{xs:List V}{us:LL}(i:Nat),aB xs us->aB (xs.set i x) (us.set i u)
 |_,_,_,.nil=>.nil
 |_,_,0,.cons _ t=>.cons r t
 |_,_,i+1,.cons q t=>.cons q (aB.set r i t)
def aB.append:∀{xs ys:List V}{us ws:LL},aB xs us->aB ys ws->aB (xs++ys) (us++ws)
 |_,_,_,_,.nil,s=>s
 |_,_,_,_,.cons r t,s=>.cons r (aB.append t s)
def aB.take:∀{xs:List V}{us:LL}(n:Nat),aB xs us->aB (xs.take n) (us.take n)
 |_,_,0,_=>.nil
 |_,_,_+1,.nil=>.nil
 |_,_,n+1,.cons r t=>.cons r (aB.take n t)
def aB.drop:∀{xs:List V}{us:LL}(n:Nat),aB xs us->aB (xs.drop n) (us.drop n)
 |_,_,0,r=>r
 |_,_,_+1,.nil=>.nil
 |_,_,n+1,.cons _ t=>aB.drop n t
def bU:Option V->LO->Prop
 |some v,some u=>aC v u
 |none,none=>True
 |_,_=>False
def KV:List (κ×V)->List (κ×Value)->Prop:=Paired λ(p:κ×V)(q:κ×Value)=>p.1=q.1/\aC p.2 q.2
noncomputable def kV:Key->V
 |.inl i=>.int i
 |.inr x=>.str x
inductive HO where
 |lst (xs:List V)
 |tup (xs:List V)
 |dK (kvs:List (Key×V))|dT (kvs:List (List Key×V))
 |set (S:Int->Bool) (n:Nat)
 |ins (C dx:Addr) (fs:List (Str×V))
 |own (x:Addr)
 |xd (fs:List (Str×V))
 |met (f x:Addr)
 |rng (lo hi:Int)
 |frz (o:Obj) (u:HO)
 |tbl (ps:LD)
 |ext (φ:Heap->Prop)
abbrev Hp:=Addr->Option HO
noncomputable def upd(H:Hp)(a:Addr)(o:HO):Hp:=λb=>if b=a then some o else H b
def ah{H:Hp}{o:HO}:upd H a o a=some o:=by unfold upd;rw[Q0 U]
def au{H:Hp}{o:HO}(h:b≠a):upd H a o b=H b:=by unfold upd;rw[qZ h]
def zj{H:Hp}{o u:HO}:upd (upd H a o) a u=upd H a u:=by
 funext b;unfold upd;split<;>rfl
def vY{H:Hp}{o u:HO}(h:H a=some o)(h':H b=some u)(d:o≠u):a≠b:=by
 intro e;subst e;rw[h]at h';exact d (qI h')
def bP{H:Hp}{o:HO}(h:H a=some o)(h':H b=none):a≠b:=by
 intro e;subst e;rw[h]at h';cases h'
section
variable (P:Program) (w:World)
def bb(H:Hp)(h:Heap)(a:Addr):HO->Prop
 |.lst xs=>xs.length<=sizeLine/\∃(η:LL)(n:Nat),aB xs η/\h.get? a=some { cls:=.type "list",data:=.seq η.toArray n }
 |.tup xs=>(xs.length<=sizeLine/\∃F,h.get? a=some F/\F.dict=none)/\∃η:LL,aB xs η/\IsTup h a η.toArray
 |.dK kvs=>kvs.length<=sizeLine/\(a == sysModules)=false/\∃vs,KV kvs vs/\h.DictOf (bd P w) a vs
 |.dT kvs=>kvs.length<=sizeLine/\(a == sysModules)=false/\∃xs:List (List Key×Addr×Value),
  Paired (λ(p:List Key×V)(q:List Key×Addr×Value)=>p.1=q.1/\H q.2.1=some (.tup (p.1.map kV))/\aC p.2 q.2.2) kvs xs /\
  ∃o es ep,h.get? a=some o/\o.ExactDict/\o.data=.dict es ep/\es.toList=xs.map (entryOfKey (tupleKind (bd P w)))/\(xs.map (·.1)).Nodup
 |.set S n=>h.SetOf (intKind P w) a S n
 |.ins C dx fs=>H dx=some (.own a)/\fs.length<=1000/\dx≠a/\h.get? a=some (PySem.W.instObj C dx) /\
  ∃mA,h.Ns1 dx mA/\(∀f,bU (fs.lookup f) (mA f))/\PySem.Within mA (fs.map (·.1))
 |.own _=>∃o,h.get? a=some o
 |.xd fs=>∃mA,h.Ns1 a mA/\∀f,bU (fs.lookup f) (mA f)
 |.rng lo hi=>∃t u v,h.get? a=some { cls:=.type "range",data:=.fields #[.int lo t,.int hi u,.int 1 v] }
 |.frz o u=>h.get? a=some o/\bb H h a u
 |.tbl ps=>h.get? a=some { cls:=.none,data:=.fields ps }
 |.met f x=>h.get? a=some (PySem.W.methodObj (.ref f) (.ref x))
 |.ext B=>B h/\(∃o,h.get? a=some o)/\∀h1 h2:Heap,B h1->(∀o,h1.get? a=some o->h2.get? a=some o)->B h2
def HOk(H:Hp)(h:Heap):Prop:=∀a o,H a=some o->bb P w H h a o
end
section
variable {H H':Hp}{o:HO}
def bb.lt(x:bb P w H h a o):a<h.objs.size:=by
 cases o with
 |lst xs=>obtain⟨_,_,_,_,e⟩:=x;exact qp e
 |tup xs=>obtain⟨_,_,_,p⟩:=x;exact p.lt
 |dK kvs=>obtain⟨_,_,_,_,o,_,_,e,_⟩:=x;exact qp e
 |dT kvs=>obtain⟨_,_,_,_,o,_,_,e,_⟩:=x;exact qp e
 |set S n=>obtain⟨o,_,_,_,e,_⟩:=x;exact qp e
 |ins C dx fs=>obtain⟨_,_,_,e,_⟩:=x;exact qp e
 |own y=>obtain⟨_,e⟩:=x;exact qp e
 |xd fs=>obtain⟨_,⟨_,_,_,e,_⟩,_⟩:=x;exact qp e
 |rng lo hi=>obtain⟨_,_,_,e⟩:=x;exact qp e
 |frz _ u=>obtain⟨e,_⟩:=x;exact qp e
 |tbl ps=>exact qp (show h.get? a=some _ from x)
 |met f y=>exact qp (show h.get? a=some _ from x)
 |ext _=>obtain⟨_,⟨_,e⟩,_⟩:=x;exact qp e
def Paired.mapP{d c:Type}{F G:d->c->Prop}:∀{l₁:List d}{l₂:List c},Paired F l₁ l₂->(∀a b,F a b->G a b)->Paired G l₁ l₂
 |_,_,.nil,_=>.nil
 |_,_,.cons r t,f=>.cons (f _ _ r) (Paired.mapP t f)
def bb.stay(x:bb P w H h a o)(k:∀b u,(b=a\/H b=some (.own a))->h.get? b=some u->h'.get? b=some u)
 (A:∀b,H b=some (.own a)->H' b=some (.own a)) (ht:∀b xs,H b=some (.tup xs)->H' b=some (.tup xs)):bb P w H' h' a o:=by
 induction o with
 |lst xs=>obtain⟨z,j,n,r,e⟩:=x;exact⟨z,j,n,r,k _ _ (.inl U) e⟩
 |tup xs=>obtain⟨⟨z,l,s,nd⟩,j,r,g,e,c⟩:=x;exact⟨⟨z,l,k _ _ (.inl U) s,nd⟩,j,r,g,k _ _ (.inl U) e,c⟩
 |dK kvs=>obtain⟨z,y,vs,r,g,i,ep,e,c⟩:=x;exact⟨z,y,vs,r,g,i,ep,k _ _ (.inl U) e,c⟩
 |dT kvs=>
  obtain⟨z,y,xs,r,g,i,ep,e,c⟩:=x;exact⟨z,y,xs,Paired.mapP r λp q z=>⟨z.1,ht _ _ z.2.1,z.2.2⟩,g,i,ep,k _ _ (.inl U) e,c⟩
 |set S n=>obtain⟨g,i,ep,t,e,c⟩:=x;exact⟨g,i,ep,t,k _ _ (.inl U) e,c⟩
 |ins C dx fs=>
  obtain⟨d,z,ne,e,m,⟨l,i,ep,B,c⟩,r⟩:=x;exact⟨A _ d,z,ne,k _ _ (.inl U) e,m,⟨l,i,ep,k _ _ (.inr d) B,c⟩,r⟩
 |own y=>obtain⟨g,e⟩:=x;exact⟨g,k _ _ (.inl U) e⟩
 |xd fs=>obtain⟨m,⟨l,i,ep,e,c⟩,r⟩:=x;exact⟨m,⟨l,i,ep,k _ _ (.inl U) e,c⟩,r⟩
 |rng lo hi=>obtain⟨t,u,v,e⟩:=x;exact⟨t,u,v,k _ _ (.inl U) e⟩
 |frz g u D=>obtain⟨e,q⟩:=x;exact⟨k _ _ (.inl U) e,D q⟩
 |tbl ps=>
  have e:h.get? a=some { cls:=.none,data:=.fields ps }:=x;show h'.get? a=some { cls:=.none,data:=.fields ps };exact k a _ (.inl U) e
 |met f y=>
  have e:h.get? a=some (PySem.W.methodObj (.ref f) (.ref y)):=x;show h'.get? a=some (PySem.W.methodObj (.ref f) (.ref y));exact k a _ (.inl U) e
 |ext _=>obtain⟨p,⟨o,e⟩,st⟩:=x;exact⟨st _ _ p λo q=>k _ _ (.inl U) q,⟨o,k _ _ (.inl U) e⟩,st⟩
def HOk.lt(x:HOk P w H h)(e:H a=some o):a<h.objs.size:=(x a o e).lt
def HOk.fresh(x:HOk P w H h)(e:h.objs.size<=a):H a=none:=by
 cases q:H a with
 |none=>rfl
 |some u=>exact Q5 (qC (x.lt q) e) (Qc _)
def HOk.kept(x:HOk P w H h)(k:∀b u,h.get? b=some u->h'.get? b=some u):HOk P w H h':=λa o e=>
 (x a o e).stay (λb u _ q=>k b u q) (λ_ q=>q) λ_ _ q=>q
def HOk.laid(x:HOk P w H h)(k:∀b u,h.get? b=some u->h'.get? b=some u)(hp:h.objs.size<=a)(new:bb P w (upd H a o) h' a o):HOk P w (upd H a o) h':=λb u e=>by
 have hn:=x.fresh hp;by_cases hb:b=a
 .subst hb;rw[ah]at e;cases e;exact new
 .rw[au hb]at e;exact(x b u e).stay (λc v _ q=>k c v q) (λc q=>by rwa[au (bP q hn)]) λc xs q=>by rwa[au (bP q hn)]
end
def Rd(H:Hp)(a:Addr)(u:HO):Prop:=H a=some u\/∃o,H a=some (.frz o u)
def Rd.ok{H:Hp}{u:HO}(r:Rd H a u)(x:HOk P w H h):bb P w H h a u:=by
 rcases r with r|⟨o,r⟩
 .exact x a u r
 .obtain⟨_,q⟩:=x a _ r;exact q
def Mut:Option HO->Prop
 |some (.lst _)=>True
 |some (.dK _)=>True
 |some (.dT _)=>True
 |some (.set _ _)=>True
 |some (.ins _ _ _)=>True
 |some (.ext _)=>True
 |_=>False
section
variable {H:Hp}{x e:Addr}{o':HO}
def HOk.write(ok:HOk P w H h)(d:Mut (H x))(l:e=x\/H e=some (.own x))(k:∀b u,b≠e->h.get? b=some u->h'.get? b=some u)(i:∃u,h'.get? e=some u)
 (new:bb P w (upd H x o') h' x o'):HOk P w (upd H x o') h':=λb u q=>by
 have a:∀c y,H c=some (.own y)->c≠x:=λc y r z=>by subst z;rw[r]at d;exact d
 have g:∀c xs,H c=some (.tup xs)->c≠x:=λc xs r z=>by subst z;rw[r]at d;exact d
 by_cases hb:b=x
 .subst hb;rw[ah]at q;cases q;exact new
 .rw[au hb]at q;by_cases hbe:b=e
  .have j:H b=some (.own x):=by
    rcases l with z|z
    .exact Q5 (hbe.trans z) hb
    .rwa[hbe]
   rw[q]at j;cases j;obtain⟨v,m⟩:=i;exact⟨v,by rwa[hbe]⟩
  .refine(ok b u q).stay (λc v f r=>k c v ?_ r) (λc r=>by rwa[au (a c b r)]) λc xs r=>by rwa[au (g c xs r)]
   rcases f with rfl|f
   .exact hbe
   .rintro rfl;rcases l with z|z
    .exact a c b f z
    .rw[f]at z;cases z;exact hb U
end
structure Un(fs ex:LK)(H H':Hp)(h h':Heap):Prop where
 keep:∀b o,h.get? b=some o->H b=none->b∉fs->b∉ex->h'.get? b=some o
 slot:∀b o,h.get? b=some o->H b=none->b∈fs->b∉ex->∃sl,h'.get? b=some { o with slots:=sl }
 free:∀b o,h.get? b=some o->H b=none->b∉ex->H' b=none
 there:∀b o,h.get? b=some o->b∉ex->∃o',h'.get? b=some o'
 tups:∀b xs,H b=some (.tup xs)->H' b=some (.tup xs)
 frzs:∀b o u,H b=some (.frz o u)->H' b=some (.frz o u)
 tbls:∀b ps,H b=some (.tbl ps)->∃more,H' b=some (.tbl (ps++more))
section
variable {fs fs' ex ex':LK}{H H1 H2:Hp}{h1 h2:Heap}{x e:Addr}{o:HO}
def Un.any(u:Un fs ex H H1 h h1){a:Obj}(q:h.get? b=some a)(n:H b=none)(c:b∉ex):∃sl,h1.get? b=some { a with slots:=sl }:=by
 by_cases hb:b∈fs
 .exact u.slot b a q n hb c
 .exact⟨a.slots,u.keep b a q n hb c⟩
def Un.kept(k:∀b u,h.get? b=some u->h'.get? b=some u):Un fs ex H H h h':=
 ⟨λb a q _ _ _=>k b a q,λb a q _ _ _=>⟨a.slots,k b a q⟩,λ_ _ _ n _=>n,λb a q _=>⟨a,k b a q⟩,λ_ _ q=>q,λ_ _ _ q=>q,λ_ ps q=>⟨#[],by rw[q];simp⟩⟩
def Un.refl:Un fs ex H H h h:=Un.kept λ_ _ q=>q
def Un.laid(k:∀b u,h.get? b=some u->h'.get? b=some u)(hp:h.objs.size<=a)(hn:H a=none):Un fs ex H (upd H a o) h h' where
 keep:=λb u q _ _ _=>k b u q
 slot:=λb u q _ _ _=>⟨u.slots,k b u q⟩
 free:=λb u q n _=>by rwa[au (qF (qC (qp q) hp))]
 there:=λb u q _=>⟨u,k b u q⟩
 tups:=λb xs q=>by rwa[au (bP q hn)]
 frzs:=λb u xs q=>by rwa[au (bP q hn)]
 tbls:=λb ps q=>⟨#[],by rw[au (bP q hn),q];simp⟩
def Un.write(a:Mut (H x))(g:e=x\/H e=some (.own x))(k:∀b u,b≠e->h.get? b=some u->h'.get? b=some u)(d:∃u,h'.get? e=some u):Un fs ex H (upd H x o) h h':=by
 have f:∀b,H b=none->b≠x:=λb n z=>by subst z;rw[n]at a;exact a
 have hb:∀b,H b=none->b≠e:=λb n z=>by
  subst z;rcases g with r|r
  .exact f b n r
  .rw[n]at r;cases r
 have c:∀b u,H b=some u->¬ Mut (some u)->b≠x:=λb u q nm z=>by subst z;rw[q]at a;exact nm a
 refine⟨λb u q n _ _=>k b u (hb b n) q,λb u q n _ _=>⟨u.slots,k b u (hb b n) q⟩,λb u q n _=>by rwa[au (f b n)],λb u q _=>?_,
  λb xs q=>by rwa[au (c b _ q λz=>z)],λb u xs q=>by rwa[au (c b _ q λz=>z)],λb ps q=>⟨#[],by rw[au (c b _ q λz=>z),q];simp⟩⟩
 by_cases hbe:b=e
 .subst hbe;exact d
 .exact⟨u,k b u hbe q⟩
end
def trk(h:Heap)(H:Hp):LK:=(List.range h.objs.size).filter λa=>(H a).isSome
noncomputable def eO(h:Heap)(H:Hp):Heap:=PySem.W.hideAll h (trk h H)
def Eo(h:Heap)(H:Hp):(eO h H).objs.size=h.objs.size:=PySem.W.hideAll_size _ _
def Ep{H:Hp}{o:Obj}(e:h.get? b=some o)(n:H b=none):(eO h H).get? b=some o:=
 PySem.W.hideAll_get _ e λa=>by
  have q:(H b).isSome=true:=(List.mem_filter.mp a).2;rw[n]at q;simp at q
def Dk{H:Hp}{o:Obj}(e:(eO h H).get? b=some o):h.get? b=some o/\H b=none:=by
 have a:h.get? b=some o:=PySem.W.of_hideAll (trk h H) e;exists a
 cases q:H b with
 |none=>rfl
 |some x=>
  have c:b∈trk h H:=List.mem_filter.mpr ⟨List.mem_range.mpr (qp a),by simp[q]⟩;have z:(eO h H).get? b=none:=PySem.W.hideAll_none (trk h H) c;rw[z]at e;cases e
end L2
variable {H H' H0:L2.Hp}{kvs:List (L2.Key×L2.V)}{y:L2.V}{dvs:List L2.V}
abbrev LV:=List L2.V
abbrev LN:=List (L2.Key×L2.V)
abbrev LB:=Option L2.V
namespace L2
open PySem PySem.Spec PyProof.Rows
structure Mod(K:W.Frag)(mg:Str->LO)(base:Heap):Prop where
 kin:K.In base
 glob:base.Ns mainGlobals mg
 blt:∃mb,base.Ns builtinsNs mb/\∀x:Str,x≠"__name__"->mb x=bootBuiltins x
 nolimit:base.NoLimit
structure Cx where
 prog:Program
 w:World
 K:W.Frag
 mg:Str->LO
 base:Heap
 A:Around
 N:LS
 s₀:Shared
 H₀:Hp
 env:Env
 outer:List Env
 stack:List Env
 ex:LK
 fn:Str->Bool
 calm:Bool
 pn:List (Addr×Obj)
 xe:LF
def frs(l:List Env):LK:=l.filterMap (·.frame)
noncomputable abbrev Cx.fs(X:Cx):LK:=frs X.outer
def Vis(B:Scope)(x:Str):Prop:=B.names.lookup x=some .local\/B.names.lookup x=some .cell\/B.names.lookup x=some .free
def Loc(B:Scope)(x:Str):Prop:=B.names.lookup x=some .local\/B.names.lookup x=some .cell
def Gd(env:Env)(h:Heap)(m:Str->LO)(x:Str)(u:Value):Prop:=
 (env.kindOf x=some .local/\m x=some u)\/((env.kindOf x=some .cell\/env.kindOf x=some .free)/\∃c,env.cells.lookup x=some c/\h.IsCell c (some u))
structure Cx.Ok(X:Cx):Prop where
 mod:Mod X.K X.mg X.base
 kind:X.env.scope.kind=.function
 glob:X.env.globals=mainGlobals
 blt:X.env.builtins=builtinsNs
 above:X.s₀.heap.objs.size<=X.env.locals
 inj:∀x y c,X.env.cells.lookup x=some c->X.env.cells.lookup y=some c->x=y
 has:∀x,(X.env.kindOf x=some .cell\/X.env.kindOf x=some .free)->∃c,X.env.cells.lookup x=some c
 cab:∀x c,X.fn x=true->X.env.cells.lookup x=some c->X.s₀.heap.objs.size<=c
 hd:X.calm=true->X.A.handled=none
 frames:X.A.frames=some X.stack
 stk:X.stack=X.outer\/(X.stack=X.env::X.outer/\X.env.frame=some X.env.locals)
 exf:∀b∈X.ex,b≠X.env.locals/\∀x c,X.env.cells.lookup x=some c->c≠b
 bs:∀b o,X.base.get? b=some o->X.s₀.heap.get? b=some o/\X.H₀ b=none
 bsz:X.base.objs.size<=X.s₀.heap.objs.size
 noex:∀b o,X.base.get? b=some o->b∉X.ex
 exfs:∀b∈X.ex,b∉X.fs
 funs:X.s₀.heap.FunFrames X.base X.outer
 frf:∀b∈X.fs,X.H₀ b=none
structure Inv(X:Cx)(ζ:List (Addr×Obj))(O:List LB)(H:Hp)(s:Shared):Prop where
 ok:X.Ok
 os:s.os=X.s₀.os
 bare:AllBare s.gens
 base:Un X.fs X.ex X.H₀ H X.s₀.heap s.heap
 loc:∃m,s.heap.Ns X.env.locals m/\∀(i:Nat)(x:Str)(v:V),X.N[i]?=some x->O[i]?=some (some v)->Vis X.env.scope x->∃u,aC v u/\Gd X.env s.heap m x u
 cell:∀x c,X.env.cells.lookup x=some c->∃v,s.heap.IsCell c v
 free:H X.env.locals=none
 freeC:∀x c,X.env.cells.lookup x=some c->H c=none
 pin:∀p∈X.pn++ζ,s.heap.get? p.1=some p.2/\H p.1=none/\p.1≠X.env.locals/\p.1∉X.fs/\∀v,p.2.data≠.cell v
 hok:HOk X.prog X.w H s.heap
 len:O.length=X.N.length
section
variable {X:Cx}{O:List LB}
def Cx.Ok.nofr(ok:X.Ok){o:Obj}(e:X.base.get? b=some o):b∉X.fs:=λhb=>by
 have:=(ok.funs.mem hb).1;rw[e]at this;cases this
def Inv.bs(I:Inv X ζ O H s):∀b o,X.base.get? b=some o->s.heap.get? b=some o/\H b=none:=λb o e=>
 ⟨I.base.keep b o (I.ok.bs b o e).1 (I.ok.bs b o e).2 (I.ok.nofr e) (I.ok.noex b o e),I.base.free b o (I.ok.bs b o e).1 (I.ok.bs b o e).2 (I.ok.noex b o e)⟩
def Inv.bk(I:Inv X ζ O H s):∀b o,X.base.get? b=some o->s.heap.get? b=some o:=λb o e=>(I.bs b o e).1
def Inv.mod(I:Inv X ζ O H s):Mod X.K X.mg X.base:=I.ok.mod
def Inv.kIn(I:Inv X ζ O H s):X.K.In s.heap:=I.ok.mod.kin.keeps I.bk
def Inv.lt(I:Inv X ζ O H s):X.env.locals<s.heap.objs.size:=let ⟨_,hn,_⟩:=I.loc;hn.lt
def Inv.sz(I:Inv X ζ O H s):X.s₀.heap.objs.size<=s.heap.objs.size:=qx I.ok.above (Nat.le_of_lt I.lt)
def Inv.nofs(I:Inv X ζ O H s)(h:s.heap.objs.size<=a):a∉X.fs:=λhb=>by
 obtain⟨_,o,b,_⟩:=I.ok.funs.mem hb;exact Q5 (qC (qp b) (qx I.sz h)) (Qc _)
def Inv.cne(I:Inv X ζ O H s):∀x c,X.env.cells.lookup x=some c->c≠X.env.locals:=λx c e z=>by
 obtain⟨v,o,b,hd⟩:=I.cell x c e;obtain⟨m,⟨_,_,ep,a,d,_⟩,_⟩:=I.loc;rw[z,a]at b;cases b;rw[d]at hd;cases hd
def Inv.funs(I:Inv X ζ O H s):s.heap.FunFrames X.base X.outer:=by
 have all:∀(l:List Env),(∀b∈frs l,b∈X.fs)->X.s₀.heap.FunFrames X.base l->s.heap.FunFrames X.base l:=by
  intro l
  induction l with
  |nil=>intro _ _;trivial
  |cons env r h=>
   intro d hl;obtain⟨hk,⟨L,o,c,hn,g,hd⟩,f⟩:=hl;have a:L∈X.fs:=d L (by unfold frs;rw[List.filterMap_cons,c];exact qk);obtain⟨sl,e⟩:=I.base.slot L o g (I.ok.frf L a) a λz=>I.ok.exfs L z a;exact⟨hk,⟨L,_,c,hn,e,hd⟩,h (λb hb=>d b (by unfold frs;rw[List.filterMap_cons,c];exact qj _ hb)) f⟩
 exact all X.outer (λ_ hb=>hb) I.ok.funs
def Inv.stack(I:Inv X ζ O H s):s.heap.FunFrames X.base X.stack:=by
 rcases I.ok.stk with e|⟨e,a⟩
 .rw[e];exact I.funs
 .rw[e];obtain⟨m,hn,_⟩:=I.loc;refine .cons (by rw[I.ok.kind];decide) a hn ?_ I.funs;exact Heap.get?_none_of_le (qx I.ok.bsz I.ok.above)
def Inv.stkSub(I:Inv X ζ O H s):∀b∈frs X.stack,b∈X.env.locals::X.fs:=λb hb=>by
 rcases I.ok.stk with e|⟨e,a⟩
 .rw[e]at hb;exact qj _ hb
 .rw[e]at hb;unfold frs at hb;rw[List.filterMap_cons,a]at hb;exact hb
def Inv.stkFree(I:Inv X ζ O H s):∀b∈frs X.stack,H b=none:=λb hb=>by
 rcases qt.mp (I.stkSub b hb)with e|hb
 .rw[e];exact I.free
 .obtain⟨_,o,a,_⟩:=I.ok.funs.mem hb;exact I.base.free b o a (I.ok.frf b hb) λz=>I.ok.exfs b z hb
def Inv.step{d':Drawn}(I:Inv X ζ O H s)
 (g:∀b∈ch,(b∈X.ex\/X.s₀.heap.objs.size<=b)/\b≠X.env.locals/\(∀x c,X.env.cells.lookup x=some c->c≠b)/\∀p∈X.pn++ζ,p.1≠b)
 (keep:∀b o,b≠X.env.locals->b∉X.fs->b∉ch->s.heap.get? b=some o->H b=none->h'.get? b=some o)
 (slot:∀b o,b≠X.env.locals->b∈X.fs->b∉ch->s.heap.get? b=some o->H b=none->∃sl,h'.get? b=some { o with slots:=sl }) (free:∀b o,b∉ch->s.heap.get? b=some o->H b=none->H' b=none)
 (there:∀b o,b∉ch->s.heap.get? b=some o->∃o',h'.get? b=some o')
 (tups:∀b xs,H b=some (.tup xs)->H' b=some (.tup xs)) (frzs:∀b o u,H b=some (.frz o u)->H' b=some (.frz o u)) (tbls:∀b ps,H b=some (.tbl ps)->∃more,H' b=some (.tbl (ps++more)))
 (ns:∀m,s.heap.Ns X.env.locals m->h'.Ns X.env.locals m) (hok:HOk X.prog X.w H' h') (hg:AllBare g'):
 Inv X ζ O H' { s with heap:=h',gens:=g',drawn:=d',toks:=t' }:=by
 have B:∀b o,X.s₀.heap.get? b=some o->b≠X.env.locals:=λb o e=>qF (qC (qp e) I.ok.above)
 have t:∀b o,X.s₀.heap.get? b=some o->b∉X.ex->b∉ch:=λb o e a hb=>by
  rcases(g b hb).1 with z|z
  .exact a z
  .exact Q5 (qC (qp e) z) (Qc _)
 have j:∀x c,X.env.cells.lookup x=some c->∀v,s.heap.IsCell c v->h'.IsCell c v:=λx c e v ⟨o,y,hd⟩=>by
  have h:c∉ch:=λz=>(g c z).2.2.1 x c e U;by_cases hc:c∈X.fs
  .obtain⟨sl,q⟩:=slot c o (I.cne x c e) hc h y (I.freeC x c e);exact⟨_,q,hd⟩
  .exact⟨o,keep c o (I.cne x c e) hc h y (I.freeC x c e),hd⟩
 refine⟨I.ok,I.os,hg,⟨λb o e n hb a=>?_,λb o e n hb a=>?_,λb o e n a=>?_,λb o e a=>?_,λb xs e=>tups b xs (I.base.tups b xs e),λb o xs e=>frzs b o xs (I.base.frzs b o xs e),λb ps e=>?_⟩,?_,λx c e=>?_,?_,λx c e=>?_,λp hp=>?_,hok,I.len⟩
 .exact keep b o (B b o e) hb (t b o e a) (I.base.keep b o e n hb a) (I.base.free b o e n a)
 .obtain⟨sl,f⟩:=I.base.slot b o e n hb a;obtain⟨sl',A⟩:=slot b _ (B b o e) hb (t b o e a) f (I.base.free b o e n a);exact⟨sl',A⟩
 .obtain⟨o',f⟩:=I.base.there b o e a;exact free b o' (t b o e a) f (I.base.free b o e n a)
 .obtain⟨o',f⟩:=I.base.there b o e a;exact there b o' (t b o e a) f
 .obtain⟨F,f⟩:=I.base.tbls b ps e;obtain⟨D,A⟩:=tbls b _ f;exact⟨F++D,by rw[A,Array.append_assoc]⟩
 .obtain⟨m,hn,hl⟩:=I.loc;refine⟨m,ns m hn,λi x v f A E=>?_⟩;obtain⟨u,r,l⟩:=hl i x v f A E;exists u,r;rcases l with l|⟨k,c,e,z⟩
  .exact .inl l
  .exact .inr ⟨k,c,e,j x c e _ z⟩
 .obtain⟨v,z⟩:=I.cell x c e;exact⟨v,j x c e v z⟩
 .obtain⟨m,⟨o,_,_,y,_⟩,_⟩:=I.loc;exact free _ o (λz=>(g _ z).2.1 U) y I.free
 .obtain⟨v,o,y,hd⟩:=I.cell x c e;exact free c o (λz=>(g c z).2.2.1 x c e U) y (I.freeC x c e)
 .obtain⟨e,n,ne,C,d⟩:=I.pin p hp;have h:p.1∉ch:=λz=>(g p.1 z).2.2.2 p hp U;exact⟨keep p.1 p.2 ne C h e n,free p.1 p.2 h e n,ne,C,d⟩
def Inv.un(I:Inv X ζ O H s)(u:Un X.fs [] H H' s.heap h')(hok:HOk X.prog X.w H' h'):Inv X ζ O H' { s with heap:=h',toks:=t' }:=by
 obtain⟨m,⟨o,_,ep,c,r⟩,_⟩:=id I.loc;obtain⟨sl,f⟩:=u.any c I.free (by simp)
 exact I.step (g':=s.gens) (d':=s.drawn) (ch:=[]) (λ_ z=>nomatch z) (λb o _ hb _ e n=>u.keep b o e n hb (by simp)) (λb o _ hb _ e n=>u.slot b o e n hb (by simp)) (λb o _ e n=>u.free b o e n (by simp)) (λb o _ e=>u.there b o e (by simp)) u.tups u.frzs u.tbls (λ_ g=>by
  obtain⟨_,es',d,a,h⟩:=g;rw[c]at a;cases a
  exact⟨_,es',d,f,h⟩) hok I.bare
def Inv.call{d':Drawn}(I:Inv X ζ O H s)(u:Un (frs X.stack) ch H H' s.heap h')(hok:HOk X.prog X.w H' h')(hg:AllBare g')
 (f:∀b∈ch,(b∈X.ex\/X.s₀.heap.objs.size<=b)/\b≠X.env.locals/\(∀x c,X.env.cells.lookup x=some c->c≠b)/\∀p∈X.pn++ζ,p.1≠b):
 Inv X ζ O H' { s with heap:=h',gens:=g',drawn:=d',toks:=t' }:=by
 obtain⟨m,⟨o,_,ep,h,r⟩,_⟩:=id I.loc;obtain⟨sl,g⟩:=u.any h I.free λz=>(f _ z).2.1 U
 exact I.step (ch:=ch) f (λb o g hb a e n=>u.keep b o e n (λz=>(qt.mp (I.stkSub b z)).elim g hb) a) (λb o _ _ a e n=>u.any e n a) (λb o a e n=>u.free b o e n a) (λb o a e=>u.there b o e a) u.tups u.frzs u.tbls (λ_ j=>by
  obtain⟨_,es',i,d,k⟩:=j;rw[h]at d;cases d
  exact⟨_,es',i,g,k⟩) hok hg
def Inv.turned(I:Inv X ζ O H s)(k:∀b o,b≠it->s.heap.get? b=some o->h'.get? b=some o)(hn:H it=none)(f:it≠X.env.locals)
 (h:it∈X.ex\/X.s₀.heap.objs.size<=it) (g:∀x c,X.env.cells.lookup x=some c->c≠it) (l:∀p∈X.pn++ζ,p.1≠it):Inv X ζ O H { s with heap:=h',toks:=t' }:=by
 have d:∀b u,H b=some u->b≠it:=λb u e z=>by rw[z,hn]at e;cases e
 refine I.step (g':=s.gens) (d':=s.drawn) (ch:=[it]) (λb hb=>?_) (λb o _ _ a e _=>k b o (λz=>a (by simp[z])) e) (λb o _ _ a e _=>⟨o.slots,k b o (λz=>a (by simp[z])) e⟩) (λ_ _ _ _ n=>n)
  (λb o a e=>⟨o,k b o (λz=>a (by simp[z])) e⟩) (λ_ _ e=>e) (λ_ _ _ e=>e) (λb ps e=>⟨#[],by rw[e];simp⟩) (λm j=>?_) (λb u e=>?_) I.bare
 .have e:b=it:=by simpa using hb
  subst e;exact⟨h,f,g,l⟩
 .obtain⟨o,t,ep,i,r⟩:=j;exact⟨o,t,ep,k _ o (Ne.symm f) i,r⟩
 .refine(I.hok b u e).stay (λc v a q=>k c v ?_ q) (λ_ q=>q) λ_ _ q=>q;rcases a with z|z
  .rw[z];exact d b u e
  .exact d c _ z
def Inv.tok(I:Inv X ζ O H s)(t:Nat):Inv X ζ O H { s with toks:=t }:=I.un (h':=s.heap) (t':=t) Un.refl I.hok
def Inv.kept{t':Nat}(I:Inv X ζ O H s)(k:∀b u,s.heap.get? b=some u->h'.get? b=some u):Inv X ζ O H { s with heap:=h',toks:=t' }:=I.un (Un.kept k) (I.hok.kept k)
def Inv.laid{a:Addr}{o:HO}{t':Nat}(I:Inv X ζ O H s)(k:∀b u,s.heap.get? b=some u->h'.get? b=some u)(hp:s.heap.objs.size<=a)(new:bb X.prog X.w (upd H a o) h' a o):
 Inv X ζ O (upd H a o) { s with heap:=h',toks:=t' }:=I.un (Un.laid k hp (I.hok.fresh hp)) (I.hok.laid k hp new)
def Inv.write{x e:Addr}{o:HO}{t':Nat}(I:Inv X ζ O H s)(d:Mut (H x))(c:e=x\/H e=some (.own x))(k:∀b u,b≠e->s.heap.get? b=some u->h'.get? b=some u)(a:∃u,h'.get? e=some u)
 (new:bb X.prog X.w (upd H x o) h' x o):Inv X ζ O (upd H x o) { s with heap:=h',toks:=t' }:=I.un (Un.write d c k a) (I.hok.write d c k a new)
def Inv.pins_of(I:Inv X ζ O H s)(h:∀p∈pins',s.heap.get? p.1=some p.2/\H p.1=none/\p.1≠X.env.locals/\p.1∉X.fs/\∀v,p.2.data≠.cell v):Inv X pins' O H s:=
 ⟨I.ok,I.os,I.bare,I.base,I.loc,I.cell,I.free,I.freeC,λp hp=>(qg.mp hp).elim (λz=>I.pin p (qV _ z)) (h p),I.hok,I.len⟩
def vX{N:LS}(d:N.Nodup)(a:N[i]?=some x)(b:N[j]?=some x):i=j:=by
 obtain⟨_,e⟩:=qe.mp a;obtain⟨_,c⟩:=qe.mp b;exact(List.getElem_inj d).mp (e.trans c.symm)
def sZ{v:V}{Q:Unit->Shared->Prop}(I:Inv X ζ O H s)(hN:X.N.Nodup)(hi:X.N[i]?=some x)(t:Loc X.env.scope x)(r:aC v u)
 (h:∀s',Inv X ζ (O.set i (some v)) H s'->(∃a,Heap.SameBut a s.heap s'.heap/\(a=X.env.locals\/X.env.cells.lookup x=some a))->Q () s') (hf:X.fn x=true\/X.env.scope.names.lookup x=some .local:=by first|exact .inl U|exact .inr U|assumption):wpAny M A (storeName X.env x u) Q E s:=by
 obtain⟨m,hn,hl⟩:=id I.loc;have Y:(X.env.scope.kind == .class || (X.env.scope.kind == .module && X.env.locals != X.env.globals))=false:=by rw[I.ok.kind];rfl
 have G:i<O.length:=by rw[I.len];exact(qe.mp hi).1
 have cne:=I.cne
 have B:∀{a:Addr}{h':Heap},(∃o,s.heap.get? a=some o/\H a=none)->Heap.SameBut a s.heap h'->HOk X.prog X.w H h':=λ{a h'} ha f b ob e=>by
  obtain⟨_,_,D⟩:=ha;refine(I.hok b ob e).stay (λc J l q=>(f.2 c ?_).trans q) (λ_ q=>q) λ_ _ q=>q;rintro rfl;rcases l with rfl|l
  .rw[D]at e;cases e
  .rw[D]at l;cases l
 rcases t with hk|hk
 .refine wpAny_storeName_local hk hn (λh' a1 f=>?_) Y;obtain⟨oL,_,_,a0,_⟩:=id hn;refine h _ ⟨I.ok,I.os,I.bare,⟨λb o e n hb t=>?_,λb o e n hb t=>?_,I.base.free,λb o e t=>?_,I.base.tups,I.base.frzs,I.base.tbls⟩,⟨_,a1,λj y T g C W=>?_⟩,λy c e=>?_,I.free,I.freeC,λp hp=>?_,B ⟨oL,a0,I.free⟩ f,by simpa using I.len⟩ ⟨_,f,.inl U⟩
  .exact(f.2 b (qF (qC (qp e) I.ok.above))).trans (I.base.keep b o e n hb t)
  .obtain⟨sl,g⟩:=I.base.slot b o e n hb t;exact⟨sl,(f.2 b (qF (qC (qp e) I.ok.above))).trans g⟩
  .obtain⟨R,g⟩:=I.base.there b o e t;exact⟨R,(f.2 b (qF (qC (qp e) I.ok.above))).trans g⟩
  .by_cases hj:j=i
   .subst hj;rw[hi]at g;cases g;rw[List.getElem?_set_self G]at C;cases C;exact⟨u,r,.inl ⟨hk,by simp⟩⟩
   .rw[List.getElem?_set_ne (Ne.symm hj)]at C;obtain⟨S,r',q⟩:=hl j y T g C W;exists S,r';rcases q with⟨k,e⟩|⟨k,c,e,z⟩
    .refine .inl ⟨k,?_⟩;have:y≠x:=λe=>hj (vX hN g (e▸hi));simp[this,e]
    .exact .inr ⟨k,c,e,z.sameBut f (cne y c e)⟩
  .obtain⟨J,z⟩:=I.cell y c e;exact⟨J,z.sameBut f (cne y c e)⟩
  .obtain⟨e,n,ne,Z,d⟩:=I.pin p hp;exact⟨(f.2 p.1 ne).trans e,n,ne,Z,d⟩
 .have F:X.fn x=true:=by
   rcases hf with z|z
   .exact z
   .rw[z]at hk;cases hk
  obtain⟨c,l⟩:=I.ok.has x (.inl hk);obtain⟨J,z⟩:=I.cell x c l;refine wpAny_storeName_cell I.ok.kind hk l z (λh' L f=>?_);obtain⟨oc,K0,P⟩:=id z;refine h { s with heap:=h' } ⟨I.ok,I.os,I.bare,⟨λb o e n hb t=>?_,λb o e n hb t=>?_,I.base.free,λb o e t=>?_,I.base.tups,I.base.frzs,I.base.tbls⟩,⟨m,hn.sameBut f (Ne.symm (cne x c l)),λj y T g C W=>?_⟩,λy K e=>?_,I.free,I.freeC,λp hp=>?_,B ⟨oc,K0,I.freeC x c l⟩ f,by simpa using I.len⟩ ⟨c,f,.inr l⟩
  .exact(f.2 b (qF (qC (qp e) (I.ok.cab x c F l)))).trans (I.base.keep b o e n hb t)
  .obtain⟨sl,g⟩:=I.base.slot b o e n hb t;exact⟨sl,(f.2 b (qF (qC (qp e) (I.ok.cab x c F l)))).trans g⟩
  .obtain⟨R,g⟩:=I.base.there b o e t;exact⟨R,(f.2 b (qF (qC (qp e) (I.ok.cab x c F l)))).trans g⟩
  .by_cases hj:j=i
   .subst hj;rw[hi]at g;cases g;rw[List.getElem?_set_self G]at C;cases C;exact⟨u,r,.inr ⟨.inl hk,c,l,L⟩⟩
   .rw[List.getElem?_set_ne (Ne.symm hj)]at C;obtain⟨S,r',q⟩:=hl j y T g C W;exists S,r';rcases q with q|⟨k,K,e,z'⟩
    .exact .inl q
    .refine .inr ⟨k,K,e,z'.sameBut f ?_⟩;rintro rfl;exact hj (vX hN g (I.ok.inj _ _ _ e l▸hi))
  .by_cases hcc:K=c
   .subst hcc;exact⟨_,L⟩
   .obtain⟨w2,z2⟩:=I.cell y K e;exact⟨w2,z2.sameBut f hcc⟩
  .obtain⟨e,n,ne,Z,d⟩:=I.pin p hp;refine⟨(f.2 p.1 ?_).trans e,n,ne,Z,d⟩;intro q;rw[q,K0]at e;have q':oc=p.2:=qI e;exact d J (by rw[<- q'];exact P)
def tf{v:V}{Q:Unit->Shared->Prop}(I:Inv X ζ O H s)(a:X.N.Nodup)(hi:X.N[i]?=some x)(b:Loc X.env.scope x)(r:aC v u)
 (h:∀s',Inv X ζ (O.set i (some v)) H s'->Q () s') (d:X.fn x=true\/X.env.scope.names.lookup x=some .local:=by first|exact .inl U|exact .inr U|assumption):wpAny M A (storeName X.env x u) Q E s:=
 sZ I a hi b r (λs' c _=>h s' c) d
def Inv.call'(I:Inv X ζ O H s)(f:s'.os=s.os)(u:Un (frs X.stack) ch H H' s.heap s'.heap)(hok:HOk X.prog X.w H' s'.heap)(hg:AllBare s'.gens)
 (a:∀b∈ch,(b∈X.ex\/X.s₀.heap.objs.size<=b)/\b≠X.env.locals/\(∀x c,X.env.cells.lookup x=some c->c≠b)/\∀p∈X.pn++ζ,p.1≠b):Inv X ζ O H' s':=by
 obtain⟨h',g',d',t',d⟩:=s';have e:d=s.os:=f;subst e;exact I.call (g':=g') (t':=t') (d':=d') u hok hg a
end
abbrev XK:=Value->Option Addr->Hp->Prop
abbrev St:=List LB
abbrev VK:=V->Hp->Prop
abbrev TE:=St->Hp->VK->Prop
abbrev TT:=St->Hp->(Bool->Hp->Prop)->Prop
abbrev TA:=St->Hp->(LV->Hp->Prop)->Prop
structure cJ where
 nx:St->Hp->Prop
 rt:VK
 bk:St->Hp->Prop:=λ_ _=>False
 ct:St->Hp->Prop:=λ_ _=>False
abbrev TS:=cJ->St->Hp->Prop
def EP(X:Cx)(ζ:List (Addr×Obj))(O:St)(Q:VK)(u:Value)(s':Shared):Prop:=∃v H',Inv X ζ O H' s'/\aC v u/\Q v H'
def TP(X:Cx)(ζ:List (Addr×Obj))(O:St)(Q:Bool->Hp->Prop)(b:Bool)(s':Shared):Prop:=∃H',Inv X ζ O H' s'/\Q b H'
def AP(X:Cx)(ζ:List (Addr×Obj))(O:St)(Q:LV->Hp->Prop)(us:LL)(s':Shared):Prop:=∃vs H',Inv X ζ O H' s'/\aB vs us/\Q vs H'
def SP(X:Cx)(ζ:List (Addr×Obj))(D:cJ)(f:Flow)(s':Shared):Prop:=
 match f with
 |.next=>∃B H',Inv X ζ B H' s'/\D.nx B H'
 |.brk=>∃B H',Inv X ζ B H' s'/\D.bk B H'
 |.cont=>∃B H',Inv X ζ B H' s'/\D.ct B H'
 |.ret u=>∃v B H',Inv X ζ B H' s'/\aC v u/\D.rt v H'
def PE(X:Cx)(e:Expr)(t:TE):Prop:=
 ∀(ζ:List (Addr×Obj))(s:Shared)(O:St)(H:Hp)(Q:VK),Inv X ζ O H s->t O H Q->wpAny (model X.prog X.w) X.A (eval e X.env) (EP X ζ O Q) X.xe s
def PT(X:Cx)(e:Expr)(t:TT):Prop:=
 ∀(ζ:List (Addr×Obj))(s:Shared)(O:St)(H:Hp)(Q:Bool->Hp->Prop),Inv X ζ O H s->t O H Q->wpAny (model X.prog X.w) X.A (isTrue e X.env (eval e X.env)) (TP X ζ O Q) X.xe s
def PW(X:Cx)(e:Expr)(t:TT):Prop:=
 ∀(whole:Sem Value)(ζ:List (Addr×Obj))(s:Shared)(O:St)(H:Hp)(Q:Bool->Hp->Prop),Inv X ζ O H s->t O H Q->wpAny (model X.prog X.w) X.A (isTrue e X.env whole) (TP X ζ O Q) X.xe s
def PW.pt{X:Cx}{t:TT}(h:PW X e t):PT X e t:=h _
def PA(X:Cx)(es:LP)(t:TA):Prop:=
 ∀(pos:Pos)(ζ:List (Addr×Obj))(s:Shared)(O:St)(H:Hp)(Q:LV->Hp->Prop),Inv X ζ O H s->t O H Q->wpAny (model X.prog X.w) X.A (spliced (backTo pos (starEach es X.env))) (AP X ζ O Q) X.xe s
def PS(X:Cx)(st:Stmt)(t:TS):Prop:=
 ∀(ζ:List (Addr×Obj))(s:Shared)(O:St)(H:Hp)(D:cJ),Inv X ζ O H s->t D O H->wpAny (model X.prog X.w) X.A (exec st X.env) (SP X ζ D) X.xe s
def PSs(X:Cx)(st:List Stmt)(t:TS):Prop:=
 ∀(ζ:List (Addr×Obj))(s:Shared)(O:St)(H:Hp)(D:cJ),Inv X ζ O H s->t D O H->wpAny (model X.prog X.w) X.A (execs st X.env) (SP X ζ D) X.xe s
def thn{t:Sem α}{Q b:α->Shared->Prop}(h:wpAny M A t Q E s)(c:∀a s,Q a s->b a s):wpAny M A t b E s:=wpAny_mono h c λ_ _ x=>x
end L2
variable {X:L2.Cx}{O:L2.St}{ta td te:L2.TE}{tb:L2.TS}{r':List L2.V->L2.Hp->L2.VK->Prop}{trs:List (L2.TE×L2.TE)}{tt:L2.TT}
namespace L2
open PySem PySem.Spec PyProof.Rows
section
def bin{a b:Expr}{e:TE}(ha:PE X a ta)(hb:PE X b e){R:V->V->Hp->Prop}(I:Inv X ζ O H s)(h:ta O H λx H1=>e O H1 λy H2=>R x y H2)
 {Q:α->Shared->Prop}{f:Value->Value->Sem α}
  (k:∀v u s2 x y H2,Inv X ζ O H2 s2->aC x v->aC y u->R x y H2->wpAny (model X.prog X.w) X.A (f v u) Q X.xe s2):
  wpAny (model X.prog X.w) X.A (eval a X.env) (λv d=>wpAny (model X.prog X.w) X.A (eval b X.env) (λu c=>wpAny (model X.prog X.w) X.A (f v u) Q X.xe c) X.xe d) X.xe s:=by
  refine thn (ha ζ s O H _ I h) λv s1 ⟨x,H1,i,g,l⟩=>?_;refine thn (hb ζ s1 O H1 _ i l) λu s2 ⟨y,H2,j,m,n⟩=>?_;exact k v u s2 x y H2 j g m n
def sN(i:Nat):TE:=λO H Q=>∃v,O[i]?=some (some v)/\Q v H
def tC(v:V):TE:=λ_ H Q=>Q v H
def C5(j:X.N[i]?=some x)(n:Vis X.env.scope x)(hd:(x == ("__debug__":Str))=false:=by decide)(f:(x == ("__classdict__":Str))=false:=by decide):PE X (.Name x pos) (sN i):=by
 intro b s g H Q I h;obtain⟨v,e,h⟩:=h;obtain⟨m,hn,hl⟩:=I.loc;obtain⟨u,r,l⟩:=hl i x v j e n;have fin:EP X b g Q u s:=⟨v,H,I,r,h⟩;rcases l with⟨hk,k⟩|⟨hk,c,d,a⟩
 .exact wpAny_Name (wpAny_loadName_local I.ok.kind hk hn k fin) hd
 .rcases hk with hk|hk
  .exact wpAny_Name (wpAny_loadName_cell I.ok.kind hk d a fin) hd
  .exact wpAny_Name (wpAny_loadName_free I.ok.kind hk d a fin f) hd
def af{i j a}:PE X (.Constant (.int i) j a) (tC (.int i)):=λ_ _ _ H _ I h=>wpAny_Constant_int ⟨.int i,H,I.tok _,⟨_,U⟩,h⟩
def iW{b j a}:PE X (.Constant (.bool b) j a) (tC (.bl b)):=λ_ _ _ H _ I h=>Constant_bool ⟨.bl b,H,I,U,h⟩
def iU{j a}:PE X (.Constant .none j a) (tC .non):=λ_ _ _ H _ I h=>Constant_none ⟨.non,H,I,U,h⟩
def av{x j a}:PE X (.Constant (.str x) j a) (tC (.str x)):=λ_ _ _ H _ I h=>Calls.Constant_str ⟨.str x,H,I.tok _,⟨_,U⟩,h⟩
def Gl(X:Cx)(x:Str):Prop:=X.env.kindOf x=some .globalImplicit
def pH(I:Inv X ζ O H s)(hg:Gl X x)(a:X.mg x=some u)(h:Q u s)
 (hd:(x == ("__debug__":Str))=false:=by decide):wpAny (model X.prog X.w) X.A (eval (.Name x pos) X.env) Q E s:=
 Calls.Name_function_global I.ok.kind hg (Calls.loadGlobal_global (by rw[I.ok.glob];exact I.mod.glob.keeps I.bk) a h) hd
def fQ(I:Inv X ζ O H s)(hg:Gl X x)(c:X.mg x=none)(d:bootBuiltins x=some u)(h:Q u s)
 (hn:x≠"__name__":=by decide) (hd:(x == ("__debug__":Str))=false:=by decide):wpAny (model X.prog X.w) X.A (eval (.Name x pos) X.env) Q E s:=by
 obtain⟨_,b,a⟩:=I.mod.blt;exact Calls.Name_function_global I.ok.kind hg (Calls.loadGlobal_builtin (by rw[I.ok.glob];exact I.mod.glob.keeps I.bk) c (by rw[I.ok.blt];exact b.keeps I.bk) ((a x hn).trans d) h) hd
def eD{v:V}(hg:Gl X x)(a:X.mg x=some u)(r:aC v u)(hd:(x == ("__debug__":Str))=false:=by decide):PE X (.Name x pos) (tC v):=
 λ_ _ _ H _ I h=>pH I hg a ⟨v,H,I,r,h⟩ hd
def oP{v:V}(hg:Gl X x)(a:X.mg x=none)(b:bootBuiltins x=some u)(r:aC v u)(hn:x≠"__name__":=by decide)(hd:(x == ("__debug__":Str))=false:=by decide):PE X (.Name x pos) (tC v):=
 λ_ _ _ H _ I h=>fQ I hg a b ⟨v,H,I,r,h⟩ hn hd
variable {a b:Expr}{tb:TE}
def PC(X:Cx)(op:CmpOp)(a b:Expr)(t:TE):Prop:=
 ∀(ζ:List (Addr×Obj))(s:Shared)(O:St)(H:Hp)(Q:VK),Inv X ζ O H s->t O H Q->
  wpAny (model X.prog X.w) X.A (eval a X.env) (λv F=>wpAny (model X.prog X.w) X.A (eval b X.env) (λu B=>wpAny (model X.prog X.w) X.A (compareOp op v u) (EP X ζ O Q) X.xe B) X.xe F) X.xe s
def tB(t:TE):TT:=λO H Q=>t O H λx H1=>∃c,x=.bl c/\Q c H1
def Gh{op:CmpOp}{t:TE}(h:PC X op a b t)(f:behindInMarks op b=false:=by first|exact nobehind _ Yk Yk|rfl):PT X (.Compare a [op] [b] pos) (tB t):=by
 intro e s k H Q I hw;refine wpAny_isTrue_Compare1 (thn (h e s k H _ I hw) λv s1 f=>thn f λu _ g=>thn g λc _ ⟨x,m,i,j,l⟩=>?_) f;obtain⟨d,rfl,q⟩:=l;cases j;exact wpAny_truthy_bool ⟨m,i,q⟩
def BR{t:TE}(h:PE X e t)(j:∀whole,isTrue e X.env whole=(do let v <- whole;standAt e.pos;holding [v] (truthy v)):=by intro _;rfl):PT X e (tB t):=by
 intro a s f H Q I hw;refine isTrue_plain (thn (h a s f H _ I hw) λv s1 ⟨x,i,c,b,g⟩=>?_) (j _);obtain⟨d,rfl,q⟩:=g;cases b;exact wpAny_truthy_bool ⟨i,c,q⟩
variable {tA tB':TT}{rest:LP}
def A0(t u:TT):TT:=λO H Q=>t O H λc H1=>if c=true then u O H1 Q else Q false H1
def zL(t:TT):TT:=λO H Q=>t O H λc H1=>Q (!c) H1
def f7(ha:PT X a tA):PW X (.BoolOp .And [a] pos) tA:=by
 intro wh b s d H Q I h;refine isTrue_and (thn (ha b s d H Q I h) λc s1 e=>?_)
 cases c with
 |true=>exact isTrue_and_nil e
 |false=>exact e
def dJ(ha:PT X a tA)(hb:PW X (.BoolOp .And (b::rest) pos) tB'):PW X (.BoolOp .And (a::b::rest) pos) (A0 tA tB'):=by
 intro wh d s f H Q I h;refine isTrue_and (thn (ha d s f H _ I h) λc s1 ⟨i,e,g⟩=>?_)
 cases c with
 |true=>exact hb wh d s1 f i Q e g
 |false=>exact⟨i,e,g⟩
def oG(ha:PT X a tA):PT X (.UnaryOp .Not a pos) (zL tA):=by
 intro b s e H Q I h;exact isTrue_not (ha b s e H (λc d=>Q (!c) d) I h)
def zY(ta tb:TE):TE:=λO H Q=>ta O H λx H1=>∃c,x=.bl c/\if c=true then tb O H1 Q else Q (.bl false) H1
def zK(ta tb:TE):TE:=λO H Q=>ta O H λx H1=>∃c,x=.bl c/\if c=true then Q (.bl true) H1 else tb O H1 Q
def vG{op}{t:TE}(h:PE X a t):PE X (.BoolOp op [a] pos) t:=λb s c H Q I hw=>BoolOp_one (h b s c H Q I hw)
def Cf(ha:PE X a ta)(hb:PE X (.BoolOp .And (b::rest) pos) tb):PE X (.BoolOp .And (a::b::rest) pos) (zY ta tb):=by
 intro d s g H Q I h;refine BoolOp_and (thn (ha d s g H _ I h) λv s1 ⟨x,i,f,j,e⟩=>?_);obtain⟨c,rfl,e⟩:=e;cases j;refine wpAny_truthy_bool ?_
 cases c with
 |true=>exact hb d s1 g i Q f e
 |false=>exact⟨.bl false,i,f,U,e⟩
def vF(ha:PE X a ta)(hb:PE X (.BoolOp .Or (b::rest) pos) tb):PE X (.BoolOp .Or (a::b::rest) pos) (zK ta tb):=by
 intro d s g H Q I h;refine BoolOp_or (thn (ha d s g H _ I h) λv s1 ⟨x,i,f,j,e⟩=>?_);obtain⟨c,rfl,e⟩:=e;cases j;refine wpAny_truthy_bool ?_
 cases c with
 |false=>exact hb d s1 g i Q f e
 |true=>exact⟨.bl true,i,f,U,e⟩
def tIf(t:TT)(ta tb:TE):TE:=λO H Q=>t O H λc H1=>if c=true then ta O H1 Q else tb O H1 Q
def oN{c:Expr}(k:PT X c tA)(ha:PE X a ta)(hb:PE X b tb):PE X (.IfExp c a b pos) (tIf tA ta tb):=by
 intro e s f H Q I h;refine wpAny_IfExp (thn (k e s f H _ I h) λd s1 ⟨j,g,i⟩=>?_)
 cases d with
 |true=>exact ha e s1 f j Q g i
 |false=>exact hb e s1 f j Q g i
end
def SqL(K:W.Frag)(H:Hp)(a:Addr)(xs:LV):Prop:=
 Rd H a (.lst xs) \/
  ∃(o:Obj)(η:LD)(n:Nat),K.lookup a=some o/\o.cls=.type "list"/\o.dict=none/\o.data=.seq η n/\η.size<=sizeLine/\aB xs η.toList
def SqT(K:W.Frag)(H:Hp)(a:Addr)(xs:LV):Prop:=
 Rd H a (.tup xs) \/
  ∃(o:Obj)(η:LD)(n:Nat),K.lookup a=some o/\o.cls=.type "tuple"/\o.data=.seq η n/\η.size<=sizeLine/\aB xs η.toList
noncomputable def Ga:Value->LB
 |.none=>some .non
 |.bool b=>some (.bl b)
 |.int i _=>some (.int i)
 |.str x _=>some (.str x)
 |.bytes b _=>some (.byt b)
 |.float b _=>some (.flt b)
 |.ref a=>some (.ref a)
 |.type n=>some (.ty n)
 |_=>none
def aC.abs{x:V}(r:aC x u):Ga u=some x:=by
 cases x with
 |non=>cases r;rfl
 |bl _=>cases r;rfl
 |int _=>obtain⟨t,rfl⟩:=r;rfl
 |str _=>obtain⟨t,rfl⟩:=r;rfl
 |byt _=>obtain⟨t,rfl⟩:=r;rfl
 |flt _=>obtain⟨t,rfl⟩:=r;rfl
 |ref _=>cases r;rfl
 |ty _=>cases r;rfl
def aC.inj{x y:V}{u:Value}(r:aC x u)(q:aC y u):x=y:=qI (r.abs.symm.trans q.abs)
def aB.inj:∀{xs ys:LV}{us:LL},aB xs us->aB ys us->xs=ys
 |_,_,_,.nil,.nil=>rfl
 |_,_,_,.cons r t,.cons r' t'=>by rw[r.inj r',aB.inj t t']
section
variable {xs ys:LV}
def SqL.of(h:H a=some (.lst xs)):SqL K H a xs:=.inl (.inl h)
def SqT.of(h:H a=some (.tup xs)):SqT K H a xs:=.inl (.inl h)
def Inv.list(I:Inv X ζ O H s)(h:SqL X.K H a xs):∃η:LL,aB xs η/\PlainL s.heap a η.toArray/\xs.length<=sizeLine:=by
 rcases h with h|⟨o,η,n,hk,c,hd,b,hz,r⟩
 .obtain⟨z,η,n,r,e⟩:=h.ok I.hok;exact⟨η,r,⟨_,n,e,U,U,U⟩,z⟩
 .exists η.toList,r,⟨o,n,I.kIn a o hk,c,hd,by simpa using b⟩;have e:=r.length;simp only[qL]at e;lia
def Inv.tuple(I:Inv X ζ O H s)(h:SqT X.K H a xs):∃η:LL,aB xs η/\IsTup s.heap a η.toArray/\xs.length<=sizeLine:=by
 rcases h with h|⟨o,η,n,hk,c,b,hz,r⟩
 .obtain⟨z,η,r,p⟩:=h.ok I.hok;exact⟨η,r,p,z.1⟩
 .exists η.toList,r,⟨o,I.kIn a o hk,c,n,by simpa using b⟩;have e:=r.length;simp only[qL]at e;lia
def Inv.list_inj(I:Inv X ζ O H s)(h:SqL X.K H a xs)(h':SqL X.K H a ys):xs=ys:=by
 obtain⟨b,r,⟨o,n,e,_,_,d⟩,_⟩:=I.list h;obtain⟨its',f,⟨_,_,c,_,_,d'⟩,_⟩:=I.list h';rw[e]at c;cases c;rw[d]at d';injection d' with d1 _;have:b=its':=by simpa using congrArg Array.toList d1
 subst this;exact r.inj f
def Inv.tuple_inj(I:Inv X ζ O H s)(h:SqT X.K H a xs)(h':SqT X.K H a ys):xs=ys:=by
 obtain⟨b,r,⟨o,e,_,n,d⟩,_⟩:=I.tuple h;obtain⟨its',f,⟨_,c,_,_,d'⟩,_⟩:=I.tuple h';rw[e]at c;cases c;rw[d]at d';injection d' with d1 _;have:b=its':=by simpa using congrArg Array.toList d1
 subst this;exact r.inj f
end
abbrev Cx.wish(X:Cx)(E:LF):Cx:={ X with xe:=E }
noncomputable abbrev Cx.nox(X:Cx):Cx:=X.wish λ_ _=>False
def Cx.Ok.wish{X:Cx}(ok:X.Ok)(E:LF):(X.wish E).Ok:=
 ⟨ok.mod,ok.kind,ok.glob,ok.blt,ok.above,ok.inj,ok.has,ok.cab,ok.hd,ok.frames,ok.stk,ok.exf,ok.bs,ok.bsz,ok.noex,ok.exfs,ok.funs,ok.frf⟩
def Cx.Ok.unwish(ok:(X.wish E).Ok):X.Ok:=
 ⟨ok.mod,ok.kind,ok.glob,ok.blt,ok.above,ok.inj,ok.has,ok.cab,ok.hd,ok.frames,ok.stk,ok.exf,ok.bs,ok.bsz,ok.noex,ok.exfs,ok.funs,ok.frf⟩
def Inv.wish(I:Inv X ζ O H s)(E:LF):Inv (X.wish E) ζ O H s:=⟨I.ok.wish E,I.os,I.bare,I.base,I.loc,I.cell,I.free,I.freeC,I.pin,I.hok,I.len⟩
def Inv.unwish(I:Inv (X.wish E) ζ O H s):Inv X ζ O H s:=⟨I.ok.unwish,I.os,I.bare,I.base,I.loc,I.cell,I.free,I.freeC,I.pin,I.hok,I.len⟩
def SP.unwish{D:cJ}{f:Flow}{b:Shared}(h:SP (X.wish E) ζ D f b):SP X ζ D f b:=by
 cases f with
 |next=>obtain⟨a,H',I,q⟩:=h;exact⟨a,H',I.unwish,q⟩
 |brk=>obtain⟨a,H',I,q⟩:=h;exact⟨a,H',I.unwish,q⟩
 |cont=>obtain⟨a,H',I,q⟩:=h;exact⟨a,H',I.unwish,q⟩
 |ret u=>obtain⟨v,a,H',I,r,q⟩:=h;exact⟨v,a,H',I.unwish,r,q⟩
def PSs.nox{st:List Stmt}{t:TS}(h:PSs X.nox st t):PSs X st t:=λa s b H D I hw=>
 wpAny_mono (h a s b H D (I.wish _) hw) (λ_ _ q=>q.unwish) λ_ _ z=>False.elim z
section
variable {rest:List Stmt}{t u:TS}
def zN:TS:=λD O H=>D.nx O H
def iA(t u:TS):TS:=λD O H=>t { D with nx:=u D } O H
def bh:PSs X [] zN:=λ_ _ a H _ I h=>wpAny_execs_nil ⟨a,H,I,h⟩
def ao(d:PS X st t)(c:PSs X rest u):PSs X (st::rest) (iA t u):=by
 intro a s g H D I h;refine wpAny_execs_cons (thn (d a s g H { D with nx:=u D } I h) λf s1 q=>?_)
 cases f with
 |next=>
  obtain⟨b,H',e,q⟩:=q;exact c a s1 b H' D e q
 |ret v=>exact q
 |brk=>exact q
 |cont=>exact q
def aq(b:PS X st t):PSs X [st] t:=by
 intro a s c H D I h;refine wpAny_execs_cons (thn (b a s c H D I h) λf s1 q=>?_)
 cases f with
 |next=>exact wpAny_execs_nil q
 |ret v=>exact q
 |brk=>exact q
 |cont=>exact q
def Inv.quiet(I:Inv X ζ O H s):interactive X.env=false:=by simp[interactive,I.ok.kind]
def zS(te:TE):TS:=λD O H=>te O H λ_ H1=>D.nx O H1
def aL(i:PE X e te)(d:swapsWith e none pos.line X.env=pure false:=by rfl):PS X (.Expr e pos) (zS te):=by
 intro a s b H D I h;exact wpAny_Expr_any (thn (i a s b H _ I h) λv s1 ⟨x,g,c,_,f⟩=>⟨b,g,c,f⟩) I.quiet d
def zI(te:TE):TS:=λD O H=>te O H D.rt
def aK(i:PE X e te):PS X (.Return (some e) pos) (zI te):=by
 intro a s b H D I h;exact wpAny_Return_some (thn (i a s b H _ I h) λv s1 ⟨x,g,d,c,f⟩=>⟨x,b,g,d,c,f⟩)
def zH:TS:=λD _ H=>D.rt .non H
def BW:PS X (.Return none pos) zH:=λ_ _ a H _ I h=>wpAny_Return_none ⟨.non,a,H,I,U,h⟩
def zR(c:TT)(t u:TS):TS:=λD O H=>c O H λb H1=>if b=true then t D O H1 else u D O H1
def aO{c:Expr}{a b:List Stmt}{g:TT}(l:PT X c g)(ha:PSs X a t)(hb:PSs X b u):PS X (.If c a b pos) (zR g t u):=by
 intro e s f H D I h;refine wpAny_If (thn (l e s f H _ I h) λd s1 ⟨k,i,j⟩=>?_)
 cases d with
 |true=>exact ha e s1 f k D i j
 |false=>exact hb e s1 f k D i j
end
abbrev TG:=V->St->Hp->(St->Hp->Prop)->Prop
abbrev TGs:=LV->St->Hp->(St->Hp->Prop)->Prop
def PG(X:Cx)(B:Expr)(t:TG):Prop:=
 ∀(ζ:List (Addr×Obj))(s:Shared)(O:St)(H:Hp)(v:V)(u:Value)(Q:St->Hp->Prop),Inv X ζ O H s->aC v u->t v O H Q->
  wpAny (model X.prog X.w) X.A (assign B X.env u) (λ_ s'=>∃F H',Inv X ζ F H' s'/\Q F H') X.xe s
def PGs(X:Cx)(F:LP)(t:TGs):Prop:=
 ∀(ζ:List (Addr×Obj))(s:Shared)(O:St)(H:Hp)(vs:LV)(us:LL)(Q:St->Hp->Prop),Inv X ζ O H s->aB vs us->t vs O H Q->
  wpAny (model X.prog X.w) X.A (assignInOrder ((assignEach F X.env).map (·.2)) us) (λ_ s'=>∃B H',Inv X ζ B H' s'/\Q B H') X.xe s
abbrev rQ:=V->V->V->Hp->(Hp->Prop)->Prop
def yv(X:Cx)(t:rQ):Prop:=
 ∀(ζ:List (Addr×Obj))(s:Shared)(O:St)(H:Hp)(o i v:V)(B F u:Value)(Q:Hp->Prop),Inv X ζ O H s->aC o B->aC i F->aC v u->t o i v H Q->
  wpAny (model X.prog X.w) X.A (setItem B F u) (λ_ s'=>∃H',Inv X ζ O H' s'/\Q H') X.xe s
def dD(i:Nat):TG:=λv O H Q=>Q (O.set i (some v)) H
def aY(b:X.N.Nodup)(hi:X.N[i]?=some x)(c:Loc X.env.scope x)(d:X.fn x=true\/X.env.scope.names.lookup x=some .local:=by first|exact .inl U|exact .inr U|assumption):PG X (.Name x pos) (dD i):=by
 intro _ s _ H v u Q I r h;exact wpAny_assign_Name (tf I b hi c r (λ_ a=>⟨_,H,a,h⟩) d)
def EE:TGs:=λvs O H Q=>vs=[]/\Q O H
def EF(t:TG)(u:TGs):TGs:=λvs O H Q=>∃v r,vs=v::r/\t v O H λB H'=>u r B H' Q
def gN:PGs X [] EE:=by
 intro _ s a H vs us Q I r h;obtain⟨e,h⟩:=h;subst e;cases r;exact assignInOrder_nil ⟨a,H,I,h⟩
def cZ{b:LP}{t:TG}{u:TGs}(f:PG X e t)(d:PGs X b u)
 (k:(assignEach (e::b) X.env).map (·.2)=assign e X.env::(assignEach b X.env).map (·.2):=by rfl):PGs X (e::b) (EF t u):=by
 intro a s j H vs us Q I r h;obtain⟨v,_,n,h⟩:=h;subst n
 cases r with
 |cons r m=>
  rw[k];refine assignInOrder_cons (thn (f a s j H _ _ _ I r h) λ_ s1 ⟨c,g,i,l⟩=>?_);exact d a s1 c g _ _ Q i m l
def EC(K:W.Frag)(n:Nat)(t:TGs):TG:=λv O H Q=>∃a xs,v=.ref a/\SqT K H a xs/\xs.length=n/\t xs O H Q
def gO{d:LP}{k:Nat}{t:TGs}{n:Nat}(l:X.calm=true)(h:PGs X d t)
 (hn:(assignEach d X.env).length=n:=by rfl) (i:(assignEach d X.env).findIdx? (·.1)=none:=by rfl):PG X (.Tuple d k pos) (EC X.K n t):=by
 intro c s g H v u Q I r hw;obtain⟨a,xs,q,j,hl,hw⟩:=hw;subst q;cases r;obtain⟨_,f,ht,hz⟩:=I.tuple j;refine assign_Tuple_tuple (I.ok.hd l) ht (by simp[hn,<- hl,f.length]) i λh' p=>?_;have m:Inv X c g H { s with heap:=h' }:=I.kept (t':=s.toks) λb o e=>p b o (qF (qp e)) e;exact h c _ g H xs _ Q m (by simpa using f) hw
def ED(to B:TE)(t:rQ):TG:=λv O H Q=>to O H λo H1=>B O H1 λi H2=>t o i v H2 λF=>Q O F
def vD{o i:Expr}{f e:TE}{t:rQ}(m:PE X o f)(hi:PE X i e)(j:yv X t)
 (ha:∀v,assign (.Subscript o i pos) X.env v=(do
  let b <- holding [v] (eval o X.env)
  let c <- holding [v,b] (eval i X.env)
  standAt pos
  holding [v,b,c] (setItem b c v)
  release [v,b,c] []):=by intro _;rfl):PG X (.Subscript o i pos) (ED f e t):=by
 intro a s d H v u Q I r h;rw[ha];refine q4 (Qv (thn (m a s d H _ I h) λb s1 ⟨x,p,A,z,C⟩=>?_));refine q4 (Qv (thn (hi a s1 d p _ A C) λc B ⟨y,l,n,k,D⟩=>?_));refine q4 (wpAny_standAt (q4 (Qv (thn (j a B d l x y v b c u _ n z k r D) λ_ _ ⟨w,g,q⟩=>?_))));exact wpAny_release ⟨d,w,g,q⟩
def iD(te:TE)(g:TG):TS:=λD O H=>te O H λx H1=>g x O H1 D.nx
def vv{g:TG}(l:PE X e te)(hg:PG X tg g)(i:swapsWithSole [tg] e pos.line X.env=pure false:=by rfl)(hw:swappedStores [tg] e X.env=pure none:=by rfl)
 (c:(assignEach [tg] X.env).map (·.2)=[assign tg X.env]:=by rfl):PS X (.Assign [tg] e pos) (iD te g):=by
 intro a s b H D I h;refine wpAny_Assign_stores (thn (l a s b H _ I h) λv s1 ⟨x,k,d,f,j⟩=>?_) i hw;rw[c];exact thn (hg a s1 b k x v _ d f j) λ_ _ q=>q
def ax{a:Pos}(k:X.N.Nodup)(hi:X.N[i]?=some x)(l:Loc X.env.scope x)(p:PE X e te)(g:swapsWith e (some (.Name x a)) pos.line X.env=pure false:=by rfl)(m:X.fn x=true\/X.env.scope.names.lookup x=some .local:=by first|exact .inl U|exact .inr U|assumption):
 PS X (.Assign [.Name x a] e pos) (iD te (dD i)):=by
 intro b s f H D I h;refine wpAny_Assign_Name (thn (p b s f H _ I h) λv s1 ⟨y,o,d,c,n⟩=>?_) g;exact tf d k hi l c (λ_ j=>⟨_,o,j,n⟩) m
def sL(c:TT)(tb:TS):TS:=λD O H=>∃W:Nat->St->Hp->Prop,(∃m,W m O H)/\∀m O H,W m O H->
 c O H λb H1=>if b=true then ∃N:St->Hp->Prop,(∀B H',N B H'->∃F,F<m/\W F B H')/\tb { D with nx:=N,ct:=N,bk:=D.nx } O H1 else D.nx O H1
def BV{c:Expr}{x:TT}(hp:PassesOwn (model X.prog X.w) X.A X.env X.xe)(B:PT X c x)(hb:PSs X body tb):PS X (.While c body [] pos) (sL x tb):=by
 intro d s C H D I h;obtain⟨W,⟨F,z⟩,turn⟩:=h;refine wpAny_While (codeAny_whileLoop (λn y=>∃k H',Inv X d k H' y/\W n k H') ?_ F ⟨C,H,I,z⟩);rintro n s1 ⟨e,u,J,E⟩;refine wpAny_passesOwn hp (thn (B d s1 e u _ J (turn n e u E)) λb G ⟨q,t,j⟩=>?_)
 cases b with
 |true=>
  obtain⟨N,r,j⟩:=j;rw[Q0 U];refine wpAny_passesOwn hp (thn (hb d G e q _ t j) λf _ i=>?_)
  cases f with
  |next=>
   obtain⟨a,g,m,n3⟩:=i;obtain⟨l,o,p⟩:=r a g n3;exact⟨l,o,a,g,m,p⟩
  |cont=>
   obtain⟨a,g,m,n3⟩:=i;obtain⟨l,o,p⟩:=r a g n3;exact⟨l,o,a,g,m,p⟩
  |brk=>exact i
  |ret v=>exact i
 |false=>
  rw[qZ qh];exact wpAny_execs_nil ⟨e,q,t,j⟩
structure It where
 go:Nat->Hp->Prop
 yld:Nat->Hp->V->Hp->Prop
 stop:Nat->Hp->Prop
def ce(X:Cx)(ζ:List (Addr×Obj))(H:Hp)(b:Addr):Prop:=
 H b=none/\b≠X.env.locals/\b∉X.fs/\(b∈X.ex\/X.s₀.heap.objs.size<=b)/\(∀x c,X.env.cells.lookup x=some c->c≠b)/\∀p∈X.pn++ζ,p.1≠b
def Inv.fpOk(I:Inv X ζ O H s)(hb:s.heap.objs.size<=b)(hn:H' b=none):ce X ζ H' b:=by
 refine⟨hn,Nat.ne_of_gt (qC I.lt hb),I.nofs hb,.inr (qx I.sz hb),λx c e z=>?_,λp hp z=>?_⟩
 .obtain⟨v,q⟩:=I.cell x c e;exact Q5 (qC q.lt (by rwa[z])) (Qc _)
 .exact Q5 (qC (qp (I.pin p hp).1) (by rwa[z])) (Qc _)
structure iq(P:Program)(w:World)(K:W.Frag)(tg:Expr)(J:It)(fp:LK)(it:Addr)(tn:Nat->Heap->Prop):Prop where
 mem:it∈fp
 obj:∀i h,tn i h->∀b∈fp,∃o,h.get? b=some o/\∀v,o.data≠.cell v
 keep:∀i h h',tn i h->(∀b∈fp,∀o,h.get? b=some o->h'.get? b=some o)->tn i h'
 item:∀(X:Cx),X.prog=P->X.w=w->X.K=K->X.calm=true->∀(i:Nat)(ζ:List (Addr×Obj))(s:Shared)(O:St)(H:Hp)(E:LF),Inv X ζ O H s->(∀b∈fp,ce X ζ H b)->tn i s.heap->J.go i H->
  wpAny (model P w) X.A (pyNext (.ref it)) (λr s1=>∃u,r=some u /\
   wpAny (model P w) X.A (letOwnedTupleGo tg (.ref it) u) (λ_ s2=>∃x H',Inv X ζ O H' s2/\aC x u/\J.yld i H x H'/\tn (i+1) s2.heap/\∀b∈fp,H' b=none) E s1) E s
 done:∀(X:Cx),X.prog=P->X.w=w->X.K=K->X.calm=true->∀(i:Nat)(ζ:List (Addr×Obj))(s:Shared)(O:St)(H:Hp)(E:LF),Inv X ζ O H s->(∀b∈fp,ce X ζ H b)->tn i s.heap->J.stop i H->
  wpAny (model P w) X.A (pyNext (.ref it)) (λr s1=>r=none/\Inv X ζ O H s1) E s
 self:∀(A:Around)(i:Nat)(s:Shared)(Q:LF)(E:LF),tn i s.heap->Q (.ref it) s->wpAny (model P w) A (pyIter (.ref it)) Q E s
abbrev TI:=St->Hp->(It->Hp->Prop)->Prop
def PIE(X:Cx)(ζ:List (Addr×Obj))(O:St)(tg:Expr)(R:It->Hp->Prop)(B:Value)(s2:Shared):Prop:=
 ∃(it:Addr)(fp:LK)(F:Nat->Heap->Prop)(J:It)(H':Hp),B=.ref it/\Inv X ζ O H' s2/\iq X.prog X.w X.K tg J fp it F/\F 0 s2.heap/\(∀b∈fp,ce X ζ H' b)/\R J H'
def PI(X:Cx)(tg π:Expr)(B:TI):Prop:=
 ∀(ζ:List (Addr×Obj))(s:Shared)(O:St)(H:Hp)(R:It->Hp->Prop),Inv X ζ O H s->B O H R->
  wpAny (model X.prog X.w) X.A (eval π X.env) (λv s1=>wpAny (model X.prog X.w) X.A (pyIter v) (PIE X ζ O tg R) X.xe s1) X.xe s
def pV{o:Obj}{n:String}{vs:LD}{Q:Unit->Shared->Prop}(c:s.heap.get? it=some o)(b:o.cls=.type n)(hd:o.data=.fields vs)
 (hn:["enumerate","zip","dict_itemiterator","dict_reverseitemiterator","odict_iterator","itertools.zip_longest","itertools.pairwise"].contains n=false) (a:Q () s):wpAny M A (letOwnedTupleGo tg (.ref it) u) Q E s:=by
 unfold letOwnedTupleGo
 cases tg<;>first
  |exact qc a
  |(cases u<;>first
   |exact qc a
   |(refine q4 (wpAny_load c ?_)
     rw[b,hd];show wpAny M A (if(["enumerate","zip","dict_itemiterator","dict_reverseitemiterator","odict_iterator","itertools.zip_longest","itertools.pairwise"].contains n && vs[0]? == some (rawInt _))=true then _ else _) Q E s;rw[qZ (by intro h;rw[hn,Bool.false_and]at h;cases h)]
     exact qc a))
noncomputable def Itl(K:W.Frag)(a:Addr):It:=
 ⟨λi H=>∃xs x,SqL K H a xs/\xs[i]?=some x,λi H x H'=>H'=H/\∀xs,SqL K H a xs->xs[i]?=some x,λi H=>∃xs,SqL K H a xs/\xs.length<=i⟩
noncomputable def Itt(K:W.Frag)(a:Addr):It:=
 ⟨λi H=>∃xs x,SqT K H a xs/\xs[i]?=some x,λi H x H'=>H'=H/\∀xs,SqT K H a xs->xs[i]?=some x,λi H=>∃xs,SqT K H a xs/\xs.length<=i⟩
def Itr(lo:Int)(n:Nat):It:=⟨λi _=>i<n,λi H x H'=>H'=H/\x=.int (lo+i),λi _=>n<=i⟩
def zu(a it:Addr):iq P w K tg (Itl K a) [it] it (λi h=>h.IsListIter it a i) where
 mem:=by simp
 obj:=λi h st b hb=>by
  have e:b=it:=by simpa using hb
  subst e;obtain⟨o,e,c,d⟩:=st;exact⟨o,e,λv z=>by rw[d]at z;cases z⟩
 keep:=λi h h' st k=>st.at λo e=>k it (by simp) o e
 item:=by
  intro X r hw B D i f s F H E I j st hg;subst r hw B;obtain⟨xs,x,g,A⟩:=hg;obtain⟨C,t,p,hz⟩:=I.list g;obtain⟨u,hu,ru⟩:=t.get A;obtain⟨f0,m,J,q,y,n⟩:=j it (by simp);refine wpAny_pyNext_list_item st p.isList (x:=u) (by simpa using hu) λh' l G=>?_;have M:Inv X f F H { s with heap:=h' }:=I.turned (t':=s.toks) (λb o hb e=>(G.2 b hb).trans e) f0 m q y n;obtain⟨o,e,c,d⟩:=id l;exact⟨u,U,pV (s:={ s with heap:=h' }) e c d Yk ⟨x,H,M,ru,⟨U,λys L=>by rw[I.list_inj L g];exact A⟩,l,λb hb=>(j b hb).1⟩⟩
 done:=by
  intro X r hw B D i f s F H E I j st hg;subst r hw B;obtain⟨xs,g,A⟩:=hg;obtain⟨C,t,p,hz⟩:=I.list g;obtain⟨f0,m,J,q,y,n⟩:=j it (by simp);have hl:=t.length;exact wpAny_pyNext_list_end (I.ok.hd D) st p.isList (by simp;lia) λh' N=>⟨U,I.turned (t':=s.toks) (λb o hb e=>N b o hb e) f0 m q y n⟩
 self:=λ_ _ _ _ _ st h=>wpAny_pyIter_listiter st h
def zn(a it:Addr):iq P w K tg (Itt K a) [it] it (λi h=>h.IsTupleIter it a i) where
 mem:=by simp
 obj:=λi h st b hb=>by
  have e:b=it:=by simpa using hb
  subst e;obtain⟨o,e,c,d⟩:=st;exact⟨o,e,λv z=>by rw[d]at z;cases z⟩
 keep:=λi h h' st k=>st.at λo e=>k it (by simp) o e
 item:=by
  intro X t hw C D i g s F H E I l st hg;subst t hw C;obtain⟨xs,x,j,B⟩:=hg;obtain⟨f,y,p,hz⟩:=I.tuple j;obtain⟨u,hu,ru⟩:=y.get B;obtain⟨f0,n,J,r,A,q⟩:=l it (by simp);refine wpAny_pyNext_tuple_item st (show s.heap.IsTuple a f.toArray from p) (x:=u) (by simpa using hu) λh' m G=>?_;have M:Inv X g F H { s with heap:=h' }:=I.turned (t':=s.toks) (λb o hb e=>(G.2 b hb).trans e) f0 n r A q;obtain⟨o,e,c,d⟩:=id m;exact⟨u,U,pV (s:={ s with heap:=h' }) e c d Yk ⟨x,H,M,ru,⟨U,λys L=>by rw[I.tuple_inj L j];exact B⟩,m,λb hb=>(l b hb).1⟩⟩
 done:=by
  intro X t hw C D i g s F H E I l st hg;subst t hw C;obtain⟨xs,j,B⟩:=hg;obtain⟨f,y,p,hz⟩:=I.tuple j;obtain⟨f0,n,J,r,A,q⟩:=l it (by simp);have hl:=y.length;exact wpAny_pyNext_tuple_end (I.ok.hd D) st (show s.heap.IsTuple a f.toArray from p) (by simp;lia) λh' N=>⟨U,I.turned (t':=s.toks) (λb o hb e=>N b o hb e) f0 n r A q⟩
 self:=λ_ _ _ _ _ st h=>wpAny_pyIter_tupleiter st h
def zq(it:Addr)(lo:Int)(n:Nat):iq P w K tg (Itr lo n) [it] it (λi h=>IsRangeIter h it (lo+(i:Nat) * 1) ((n:Int)-(i:Nat)) 1) where
 mem:=by simp
 obj:=λi h st b hb=>by
  have e:b=it:=by simpa using hb
  subst e
  exact⟨_,st,λv z=>by
   have y:Data.fields _=Data.cell v:=z
   cases y⟩
 keep:=λi h h' st k=>k it (by simp) _ st
 item:=by
  intro X q hw p l i a s r H E I c st hg;subst q hw p;obtain⟨f0,g,u,m,f,j⟩:=c it (by simp);have W:=Walks.range (prog:=X.prog) (w:=X.w) (I.ok.hd l) it lo 1 n;refine W.item i s _ _ hg st λv h' tk C d x=>?_;obtain⟨t,rfl⟩:=C;have A:Inv X a r H { s with heap:=h',toks:=tk }:=I.turned (λb o hb e=>x b o (by simpa using hb) e) f0 g m f j;refine⟨_,U,pV (s:={ s with heap:=h',toks:=tk }) (n:="range_iterator") d U U Yk ⟨.int (lo+i),H,A,⟨t,?_⟩,⟨U,U⟩,d,λb hb=>(c b hb).1⟩⟩;rw[Int.mul_one]
 done:=by
  intro X q hw p l i a s r H E I c st hg;subst q hw p;obtain⟨f0,g,u,m,f,j⟩:=c it (by simp);exact wpAny_pyNext_range_end (I.ok.hd l) st (by have:n<=i:=hg;lia) λh' B=>⟨U,I.turned (t':=s.toks) (λb o hb e=>B b o hb e) f0 g m f j⟩
 self:=λ_ _ _ _ _ st h=>wpAny_pyIter_rangeiter st h
def pQ(K:W.Frag)(tl:TE):TI:=λO H R=>tl O H λx H1=>∃a,x=.ref a/\(∃xs,SqL K H1 a xs)/\R (Itl K a) H1
def pO(K:W.Frag)(tl:TE):TI:=λO H R=>tl O H λx H1=>∃a,x=.ref a/\(∃xs,SqT K H1 a xs)/\R (Itt K a) H1
def bJ{l:Expr}{f:TE}(hl:PE X l f):PI X tg l (pQ X.K f):=by
 intro d s j H R I h;refine thn (hl d s j H _ I h) λv s1 ⟨x,m,c,i,k⟩=>?_;obtain⟨a,e,⟨xs,g⟩,q⟩:=k;subst e;cases i;obtain⟨_,_,p,hz⟩:=c.list g;refine wpAny_pyIter_list p.isList ?_;refine⟨s1.heap.objs.size,[s1.heap.objs.size],_,_,m,U,c.kept (t':=s1.toks) λb o e=>q9 _ e,zu a _,⟨_,qo _ U,U,U⟩,λb hb=>?_,q⟩;have e:b=s1.heap.objs.size:=by simpa using hb
 subst e;exact c.fpOk (qd _) (c.hok.fresh (qd _))
def oJ{l:Expr}{f:TE}(hl:PE X l f):PI X tg l (pO X.K f):=by
 intro d s k H R I h;refine thn (hl d s k H _ I h) λv s1 ⟨x,n,c,j,m⟩=>?_;obtain⟨a,e,⟨xs,i⟩,q⟩:=m;subst e;cases j;obtain⟨g,_,p,hz⟩:=c.tuple i;refine wpAny_pyIter_tuple (show s1.heap.IsTuple a g.toArray from p) ?_;refine⟨s1.heap.objs.size,[s1.heap.objs.size],_,_,n,U,c.kept (t':=s1.toks) λb o e=>q9 _ e,zn a _,⟨_,qo _ U,U,U⟩,λb hb=>?_,q⟩;have e:b=s1.heap.objs.size:=by simpa using hb
 subst e;exact c.fpOk (qd _) (c.hok.fresh (qd _))
def Bm{R:It->Hp->Prop}{lo hi:Int}{t u v:Tok}{tk:Nat}(I:Inv X ζ O H s)(d:-(2 ^ 62)<=lo)(c:lo<2 ^ 62)(g:-(2 ^ 62)<=hi)(h:hi<2 ^ 62)
 (q:R (Itr lo (hi-lo).toNat) H):wpAny (model X.prog X.w) X.A (pyIter (.ref s.heap.objs.size)) (PIE X ζ O tg R) E { s with heap:=s.heap.push { cls:=.type "range",data:=.fields #[.int lo t,.int hi u,.int 1 v] },toks:=tk }:=by
 refine wpAny_pyIter_range (IsRange.new ..) (small_one d c g h) ?_;have a:Inv X ζ O H { s with heap:=s.heap.push { cls:=.type "range",data:=.fields #[.int lo t,.int hi u,.int 1 v] },toks:=tk }:=I.kept λb o e=>q9 _ e
 refine⟨(s.heap.push { cls:=.type "range",data:=.fields #[.int lo t,.int hi u,.int 1 v] }).objs.size,[(s.heap.push { cls:=.type "range",data:=.fields #[.int lo t,.int hi u,.int 1 v] }).objs.size],_,_,H,U,
  a.kept (t':=tk) λb o e=>q9 _ e,zq _ lo (hi-lo).toNat,?_,λb hb=>?_,q⟩
 .have i:lo+((0:Nat):Int) * 1=lo:=by simp
  have f:(((hi-lo).toNat:Nat):Int)-((0:Nat):Int)=Builtin.Range.rangeSize lo hi 1:=by rw[rangeSize_one];split<;>lia
  show IsRangeIter _ _ (lo+((0:Nat):Int) * 1) ((((hi-lo).toNat:Nat):Int)-((0:Nat):Int)) 1;rw[i,f];exact qo _ U
 .have e:b=(s.heap.push { cls:=.type "range",data:=.fields #[.int lo t,.int hi u,.int 1 v] }).objs.size:=by simpa using hb
  subst e;exact a.fpOk (qd _) (a.hok.fresh (qd _))
def pP(ta:TA):TI:=λO H R=>ta O H λvs H1=>∃j:Int,vs=[.int j]/\-(2 ^ 62)<=j/\j<2 ^ 62/\R (Itr 0 j.toNat) H1
def C4{a:Expr}{d:TA}{p:Pos}(hg:Gl X "range")(m:X.mg "range"=none)(ha:PA X [a] d)(l:starEach [a] X.env=[(false,eval a X.env)]:=by rfl):PI X tg (.Call (.Name "range" p) [a] [] pos) (pP d):=by
 intro b s k H R I h;refine Call_ (fQ I hg m boot_range (PyProof.Rows.callWith_type1 (thn (ha pos b s k H _ I h) λus s1 ⟨vs,_,i,f,c⟩=>?_) l U));obtain⟨j,e,c,n,q⟩:=c;subst e
 cases f with
 |cons r g=>
  cases g;obtain⟨t,rfl⟩:=r;exact call_range_1 (Bm i Yo Yo c n (by simpa using q))
def iC(V:TI)(g:TG)(tb:TS):TS:=λD O H=>V O H λJ H1=>∃W:Nat->Nat->St->Hp->Prop,(∃m,W 0 m O H1)/\∀i m O H,W i m O H->
 (J.stop i H/\D.nx O H)\/(J.go i H/\∃N:St->Hp->Prop,(∀B H',N B H'->∃F,F<m/\W (i+1) F B H')/\∀x H',J.yld i H x H'->g x O H' λK0 H2=>tb { D with nx:=N,ct:=N,bk:=D.nx } K0 H2)
noncomputable def iT(fp:LK)(h:Heap):List (Addr×Obj):=fp.filterMap λb=>(h.get? b).map λo=>(b,o)
def kI{o:Obj}(hb:b∈fp)(e:h.get? b=some o):(b,o)∈iT fp h:=List.mem_filterMap.mpr ⟨b,hb,by rw[e];rfl⟩
def Dj{p:Addr×Obj}(hp:p∈iT fp h):p.1∈fp/\h.get? p.1=some p.2:=by
 obtain⟨b,hb,e⟩:=List.mem_filterMap.mp hp
 cases q:h.get? b with
 |none=>rw[q]at e;cases e
 |some o=>
  rw[q]at e;have a:(b,o)=p:=qI e;subst a;exact⟨hb,q⟩
def Inv.pinned(I:Inv X ζ O H s)(h:∀b∈fp,ce X ζ H b)(g:∀b∈fp,∃o,s.heap.get? b=some o/\∀v,o.data≠.cell v):Inv X (ζ++iT fp s.heap) O H s:=
 I.pins_of λp hp=>(qg.mp hp).elim (λz=>I.pin p (qH _ z)) λz=>by
  obtain⟨hb,e⟩:=Dj z;obtain⟨f0,f,c,_⟩:=h p.1 hb;obtain⟨o,a,d⟩:=g p.1 hb;rw[e]at a;cases a;exact⟨e,f0,f,c,d⟩
def Inv.unpinned{pl:List (Addr×Obj)}(I:Inv X (ζ++pl) O H s):Inv X ζ O H s:=I.pins_of λp hp=>I.pin p (qH _ (qV _ hp))
def bO{q:Expr}{Z:TI}{g:TG}(hp:PassesOwn (model X.prog X.w) X.A X.env X.xe)(Q:X.calm=true)(hi:PI X tg q Z)(hg:PG X tg g)(hb:PSs X body tb)
 (hs:∀x,foldedSetIterable q X.env x=pure x:=by intro _;rfl):PS X (.For tg q body [] pos) (iC Z g tb):=by
 intro c s Y H D I h;refine wpAny_For (thn (hi c s Y H _ I h) λv s1 h1=>thn h1 λ_ _ h2=>?_) hs;obtain⟨it,B,tn,J,H2,e,I2,T,a0,f2,W,⟨m0,w0⟩,turn⟩:=h2;subst e;have t:∀{H':Hp},(∀b∈B,H' b=none)->∀b∈B,ce X c H' b:=λhn b hb=>⟨hn b hb,(f2 b hb).2⟩;refine codeAny_forLoop_any (λn P=>∃i p H',Inv X c p H' P/\tn i P.heap/\(∀b∈B,H' b=none)/\W i n p H') ?_ m0 ⟨0,Y,H2,I2,a0,λb hb=>(f2 b hb).1,w0⟩;rintro n M ⟨i,k,E,K0,G,F,w3⟩;rcases turn i n k E w3 with⟨stop,qn⟩|⟨go,N,hN,step⟩
 .refine wpAny_passesOwn hp (thn (T.done X U U U Q i c M k E X.xe K0 (t F) G stop) λr s4 ⟨K,I4⟩=>?_);subst K;exact wpAny_execs_nil ⟨k,E,I4,qn⟩
 .refine wpAny_passesOwn hp (thn (T.item X U U U Q i c M k E X.xe K0 (t F) G go) λr s4 ⟨u,K,h4⟩=>?_);subst K;refine wpAny_passesOwn hp (thn h4 λ_ V ⟨x,H5,I5,r5,y5,z,R⟩=>?_);have S:=I5.pinned (t R) (T.obj _ _ z);refine wpAny_passesOwn hp (thn (hg _ V k H5 x u _ S r5 (step x H5 y5)) λ_ s6 ⟨a1,H6,I6,q6⟩=>?_);refine wpAny_passesOwn hp (thn (hb _ s6 a1 H6 _ I6 q6) λf L l=>?_)
  have y:∀{a:St}{H7:Hp},Inv X (c++iT B V.heap) a H7 L->N a H7->∃m,m<n/\∃i p H',Inv X c p H' L/\tn i L.heap/\(∀b∈B,H' b=none)/\W i m p H':=λ{a H7} j C=>by
   obtain⟨m',hm,w7⟩:=hN a H7 C;refine⟨m',hm,i+1,a,H7,j.unpinned,T.keep _ _ _ z λb hb o e=>(j.pin (b,o) (qH _ (qH _ (kI hb e)))).1,λb hb=>?_,w7⟩;obtain⟨o,e,d⟩:=T.obj _ _ z b hb;exact(j.pin (b,o) (qH _ (qH _ (kI hb e)))).2.1
  cases f with
  |next=>obtain⟨a,H7,j,C⟩:=l;exact y j C
  |cont=>obtain⟨a,H7,j,C⟩:=l;exact y j C
  |brk=>obtain⟨a,H7,j,l⟩:=l;exact⟨a,H7,j.unpinned,l⟩
  |ret v=>obtain⟨x7,a,H7,j,r7,l⟩:=l;exact⟨x7,a,H7,j.unpinned,r7,l⟩
def c9{xs:LV}{g:TG}{D:cJ}(b:Nat->St->Hp->Prop)(h0:b 0 O H)(hl:∀i O H,i<=xs.length->b i O H->SqL K H a xs)
 (h:∀i x O H,xs[i]?=some x->b i O H->g x O H λd H2=>tb { D with nx:=b (i+1),ct:=b (i+1),bk:=D.nx } d H2) (hd:∀O H,b xs.length O H->D.nx O H):
 ∃W:Nat->Nat->St->Hp->Prop,(∃m,W 0 m O H)/\∀i m O H,W i m O H->
  ((Itl K a).stop i H/\D.nx O H)\/((Itl K a).go i H/\∃N:St->Hp->Prop,(∀c H',N c H'->∃f,f<m/\W (i+1) f c H')/\∀x H',(Itl K a).yld i H x H'->g x O H' λd H2=>tb { D with nx:=N,ct:=N,bk:=D.nx } d H2):=by
 exists λi m O H=>m=xs.length-i/\i<=xs.length/\b i O H,⟨xs.length,by simp,qr _,h0⟩;rintro i m O H ⟨rfl,hi,p⟩;have q:=hl i O H hi p;by_cases hlt:i<xs.length
 .refine .inr ⟨⟨xs,xs[i],q,by simp[hlt]⟩,b (i+1),λc H' j=>⟨xs.length-(i+1),Yo,U,hlt,j⟩,λx H' y=>?_⟩;obtain⟨e,y⟩:=y;subst e;exact h i x O _ (y xs q) p
 .have e:i=xs.length:=by lia
  subst e;exact .inl ⟨⟨xs,q,qd _⟩,hd O H p⟩
def EK{xs:LV}{g:TG}{D:cJ}(b:Nat->St->Hp->Prop)(h0:b 0 O H)(hl:∀i O H,i<=xs.length->b i O H->SqT K H a xs)
 (h:∀i x O H,xs[i]?=some x->b i O H->g x O H λd H2=>tb { D with nx:=b (i+1),ct:=b (i+1),bk:=D.nx } d H2) (hd:∀O H,b xs.length O H->D.nx O H):
 ∃W:Nat->Nat->St->Hp->Prop,(∃m,W 0 m O H)/\∀i m O H,W i m O H->
  ((Itt K a).stop i H/\D.nx O H)\/((Itt K a).go i H/\∃N:St->Hp->Prop,(∀c H',N c H'->∃f,f<m/\W (i+1) f c H')/\∀x H',(Itt K a).yld i H x H'->g x O H' λd H2=>tb { D with nx:=N,ct:=N,bk:=D.nx } d H2):=by
 exists λi m O H=>m=xs.length-i/\i<=xs.length/\b i O H,⟨xs.length,by simp,qr _,h0⟩;rintro i m O H ⟨rfl,hi,p⟩;have q:=hl i O H hi p;by_cases hlt:i<xs.length
 .refine .inr ⟨⟨xs,xs[i],q,by simp[hlt]⟩,b (i+1),λc H' j=>⟨xs.length-(i+1),Yo,U,hlt,j⟩,λx H' y=>?_⟩;obtain⟨e,y⟩:=y;subst e;exact h i x O _ (y xs q) p
 .have e:i=xs.length:=by lia
  subst e;exact .inl ⟨⟨xs,q,qd _⟩,hd O H p⟩
def yZ{c:TT}{D:cJ}(d:St->Hp->Prop)(e:St->Hp->Nat)(h0:d O H)
 (g:∀O H,d O H->c O H λb H1=>if b=true then tb { D with nx:=λa H'=>d a H'/\e a H'<e O H,ct:=λa H'=>d a H'/\e a H'<e O H,bk:=D.nx } O H1 else D.nx O H1)
 (mono:∀O H Q f,(∀b H1,Q b H1->f b H1)->c O H Q->c O H f):sL c tb D O H:=by
 exists λm O H=>m=e O H/\d O H,⟨_,U,h0⟩;rintro m O H ⟨rfl,p⟩;refine mono O H _ _ (λb H1 q=>?_) (g O H p)
 cases b with
 |true=>exact⟨_,λa H' ⟨h,l⟩=>⟨_,l,U,h⟩,q⟩
 |false=>exact q
abbrev R2:=V->V->Hp->VK->Prop
def OpR(X:Cx)(f:Value->Value->Sem Value)(r:R2):Prop:=
 ∀(ζ:List (Addr×Obj))(s:Shared)(O:St)(H:Hp)(x y:V)(v u:Value)(Q:VK),Inv X ζ O H s->aC x v->aC y u->r x y H Q->
  wpAny (model X.prog X.w) X.A (f v u) (EP X ζ O Q) X.xe s
def UnR(X:Cx)(f:Value->Sem Value)(r:V->Hp->VK->Prop):Prop:=
 ∀(ζ:List (Addr×Obj))(s:Shared)(O:St)(H:Hp)(x:V)(v:Value)(Q:VK),Inv X ζ O H s->aC x v->r x H Q->
  wpAny (model X.prog X.w) X.A (f v) (EP X ζ O Q) X.xe s
def bf(X:Cx)(f:Value)(r:LV->Hp->VK->Prop):Prop:=
 ∀(ζ:List (Addr×Obj))(s:Shared)(O:St)(H:Hp)(xs:LV)(us:LL)(Q:VK),Inv X ζ O H s->aB xs us->r xs H Q->
  wpAny (model X.prog X.w) X.A (call f us) (EP X ζ O Q) X.xe s
def TruR(X:Cx)(r:V->Hp->(Bool->Hp->Prop)->Prop):Prop:=
 ∀(ζ:List (Addr×Obj))(s:Shared)(O:St)(H:Hp)(x:V)(v:Value)(Q:Bool->Hp->Prop),Inv X ζ O H s->aC x v->r x H Q->
  wpAny (model X.prog X.w) X.A (truthy v) (TP X ζ O Q) X.xe s
def tOp(r:R2)(ta tb:TE):TE:=λO H Q=>ta O H λx H1=>tb O H1 λy H2=>r x y H2 Q
def tUn(r:V->Hp->VK->Prop)(ta:TE):TE:=λO H Q=>ta O H λx H1=>r x H1 Q
def rI(C:Int->Int->Prop)(g:Int->Int->V):R2:=λx y H Q=>∃i j,x=.int i/\y=.int j/\C i j/\Q (g i j) H
def rI0(g:Int->Int->V):R2:=λx y H Q=>∃i j,x=.int i/\y=.int j/\Q (g i j) H
def rU(g:Int->V):V->Hp->VK->Prop:=λx H Q=>∃i,x=.int i/\Q (g i) H
section
variable {a b c:Expr}{tb tc:TE}
def rJ(ha:PE X a ta)(hb:PE X b tb){R:V->V->Hp->Prop}(I:Inv X ζ O H s)
 (h:ta O H λx H1=>tb O H1 λy H2=>R x y H2) {f:Value->Value->Sem Value}
 (j:∀v u s2 x y H2,Inv X ζ O H2 s2->aC x v->aC y u->R x y H2->wpAny (model X.prog X.w) X.A (f v u) Q X.xe s2):
 wpAny (model X.prog X.w) X.A (eval a X.env) (λv d=>wpAny (model X.prog X.w) X.A (eval b X.env) (λu c=>wpAny (model X.prog X.w) X.A (f v u) Q X.xe c) X.xe d) X.xe s:=by
 refine thn (ha ζ s O H _ I h) λv s1 ⟨x,H1,g,e,k⟩=>?_;refine thn (hb ζ s1 O H1 _ g k) λu s2 ⟨y,H2,i,l,m⟩=>?_;exact j v u s2 x y H2 i e l m
def ay{op:Operator}{r:R2}(f:OpR X (binaryOp op) r)(ha:PE X a ta)(hb:PE X b tb):PE X (.BinOp a op b pos) (tOp r ta tb):=by
 intro c s g H Q I h;exact wpAny_BinOp (rJ ha hb I h λv u d x y k i e j q=>f c d g k x y v u Q i e j q)
def d6{op:UnaryOp}{r:V->Hp->VK->Prop}(f:UnR X (unaryOp op) r)(ha:PE X a ta):PE X (.UnaryOp op a pos) (tUn r ta):=by
 intro b s c H Q I h;exact UnaryOp_ (thn (ha b s c H _ I h) λv s1 ⟨x,i,e,d,g⟩=>f b s1 c i x v Q e d g)
def opI{f:Value->Value->Sem Value}{C:Int->Int->Prop}{g:Int->Int->Int}
 (a:∀(i j:Int)(t u:Tok)(s:Shared)(Q:LF)(E:LF),C i j->Q (.int (g i j) s.toks) { s with toks:=s.toks+1 }->wpAny (model X.prog X.w) X.A (f (.int i t) (.int j u)) Q E s):
 OpR X f (rI C λi j=>.int (g i j)):=by
 intro _ s _ H x y v u Q I b d h;obtain⟨i,j,rfl,rfl,c,q⟩:=h;obtain⟨t,rfl⟩:=b;obtain⟨t',rfl⟩:=d;exact a i j t t' s _ _ c ⟨.int (g i j),H,I.tok _,⟨_,U⟩,q⟩
def vM{f:Value->Value->Sem Value}{g:Int->Int->Int}
 (a:∀(i j:Int)(t u:Tok)(s:Shared)(Q:LF)(E:LF),Q (.int (g i j) s.toks) { s with toks:=s.toks+1 }->wpAny (model X.prog X.w) X.A (f (.int i t) (.int j u)) Q E s):
 OpR X f (rI0 λi j=>.int (g i j)):=by
 intro _ s _ H x y v u Q I b c h;obtain⟨i,j,rfl,rfl,q⟩:=h;obtain⟨t,rfl⟩:=b;obtain⟨t',rfl⟩:=c;exact a i j t t' s _ _ ⟨.int (g i j),H,I.tok _,⟨_,U⟩,q⟩
def vN{f:Value->Value->Sem Value}{g:Int->Int->Bool}
 (a:∀(i j:Int)(t u:Tok)(s:Shared)(Q:LF)(E:LF),Q (.bool (g i j)) s->wpAny (model X.prog X.w) X.A (f (.int i t) (.int j u)) Q E s):
 OpR X f (rI0 λi j=>.bl (g i j)):=by
 intro _ s _ H x y v u Q I b c h;obtain⟨i,j,rfl,rfl,q⟩:=h;obtain⟨t,rfl⟩:=b;obtain⟨t',rfl⟩:=c;exact a i j t t' s _ _ ⟨.bl (g i j),H,I,U,q⟩
def Gf(i j:Int):Prop:=0<j/\j<1073741824
def Ge(i j:Int):Prop:=0<=j/\j<=1000000/\i.natAbs<2 ^ 64
def CD:OpR X (binaryOp .Add) (rI0 λi j=>.int (i+j)):=vM λ_ _ _ _ _ _ _ q=>add_int q
def Ck:OpR X (binaryOp .Sub) (rI0 λi j=>.int (i-j)):=vM λ_ _ _ _ _ _ _ q=>sub_int q
def Cy:OpR X (binaryOp .FloorDiv) (rI Gf λi j=>.int (i / j)):=opI λi j _ _ _ _ _ a q=>by
 have c:(0:Int)<j:=a.1;have b:j<1073741824:=a.2;exact floordiv_int Yo (by rwa[Int.fdiv_eq_ediv_of_nonneg i Yo]) (.inl (PyProof.noPylong_small Yo))
def Ct:OpR X (binaryOp .Mod) (rI (λ_ j=>0<j) λi j=>.int (i % j)):=opI λi j _ _ _ _ _ a q=>by
 have b:(0:Int)<j:=a;exact mod_int' Yo (by rwa[Int.fmod_eq_emod_of_nonneg i Yo])
def Cm:OpR X (binaryOp .Pow) (rI Ge λi j=>.int (i ^ j.toNat)):=opI λ_ _ _ _ _ _ _ a q=>pow_int_small a.1 a.2.1 a.2.2 q
def unI{f:Value->Sem Value}{g:Int->Int}
 (a:∀(i:Int)(t:Tok)(s:Shared)(Q:LF)(E:LF),Q (.int (g i) s.toks) { s with toks:=s.toks+1 }->wpAny (model X.prog X.w) X.A (f (.int i t)) Q E s):
 UnR X f (rU λi=>.int (g i)):=by
 intro _ s _ H x v Q I b h;obtain⟨i,rfl,q⟩:=h;obtain⟨t,rfl⟩:=b;exact a i t s _ _ ⟨.int (g i),H,I.tok _,⟨_,U⟩,q⟩
def cW:UnR X (unaryOp .USub) (rU λi=>.int (-i)):=unI λ_ _ _ _ _ q=>neg_int q
end
noncomputable def jK:V->V->Bool
 |.non,.non=>true|.non,.int _=>true|.int _,.non=>true|.non,.bl _=>true|.bl _,.non=>true|.non,.str _=>true|.str _,.non=>true
 |.int _,.int _=>true|.bl _,.bl _=>true|.str _,.str _=>true|.byt _,.byt _=>true
 |.int _,.str _=>true|.str _,.int _=>true|.bl _,.str _=>true|.str _,.bl _=>true
 |_,_=>false
def rEq:R2:=λx y H Q=>jK x y=true/\Q (.bl (decide (x=y))) H
def rNe:R2:=λx y H Q=>jK x y=true/\Q (.bl (!decide (x=y))) H
def xO{i j:Int}:decide (V.int i=V.int j)=(i == j):=by
 rw[Bool.eq_iff_iff];simp
def xQ{i j:Bool}:decide (V.bl i=V.bl j)=(i == j):=by
 rw[Bool.eq_iff_iff];simp
def xM{i j:Str}:decide (V.str i=V.str j)=(i == j):=by
 rw[Bool.eq_iff_iff];simp
def xP{i j:Array UInt8}:decide (V.byt i=V.byt j)=(i.toList == j.toList):=by
 rw[Bool.eq_iff_iff];cases i;cases j;simp
section
variable {a b c:Expr}{tb tc:TE}
def be{Q:VK}{k a:Bool}(I:Inv X ζ O H s)(q:Q (.bl k) H)(e:k=a):EP X ζ O Q (.bool a) s:=by
 subst e;exact⟨.bl k,H,I,U,q⟩
def CA:OpR X (compareOp .Eq) rEq:=by
 intro _ s _ H x y v u Q I c a h;obtain⟨b,q⟩:=h
 cases x with
 |non=>
  cases c
  cases y with
  |non=>cases a;exact PySem.EqNone.eq_none_none (be I q (by simp))
  |bl j=>cases a;exact PySem.EqNone.eq_none_bool (be I q (by simp))
  |int j=>obtain⟨t',rfl⟩:=a;exact PySem.EqNone.eq_none_int (be I q (by simp))
  |str j=>obtain⟨t',rfl⟩:=a;exact PySem.EqNone.eq_none_str (be I q (by simp))
  |_=>exact Q5 (show false=true from b) qh
 |bl i=>
  cases c
  cases y with
  |non=>cases a;exact PySem.EqNone.eq_bool_none (be I q (by simp))
  |bl j=>cases a;exact eq_bool (be I q xQ)
  |str j=>obtain⟨t',rfl⟩:=a;exact PySem.EqMixed.eq_bool_str (be I q (by simp))
  |_=>exact Q5 (show false=true from b) qh
 |int i=>
  obtain⟨t,rfl⟩:=c
  cases y with
  |non=>cases a;exact PySem.EqNone.eq_int_none (be I q (by simp))
  |int j=>obtain⟨t',rfl⟩:=a;exact eq_int (be I q xO)
  |str j=>obtain⟨t',rfl⟩:=a;exact PySem.EqMixed.eq_int_str (be I q (by simp))
  |_=>exact Q5 (show false=true from b) qh
 |str i=>
  obtain⟨t,rfl⟩:=c
  cases y with
  |non=>cases a;exact PySem.EqNone.eq_str_none (be I q (by simp))
  |bl j=>cases a;exact PySem.EqMixed.eq_str_bool (be I q (by simp))
  |int j=>obtain⟨t',rfl⟩:=a;exact PySem.EqMixed.eq_str_int (be I q (by simp))
  |str j=>obtain⟨t',rfl⟩:=a;exact eq_str (be I q xM)
  |_=>exact Q5 (show false=true from b) qh
 |byt i=>
  obtain⟨t,rfl⟩:=c
  cases y with
  |byt j=>obtain⟨t',rfl⟩:=a;exact PySem.W.eq_bytes (be I q xP)
  |_=>exact Q5 (show false=true from b) qh
 |_=>cases y<;>exact Q5 (show false=true from b) qh
def Cr:OpR X (compareOp .NotEq) rNe:=by
 intro _ s _ H x y v u Q I c a h;obtain⟨b,q⟩:=h
 cases x with
 |non=>
  cases c
  cases y with
  |non=>cases a;exact PySem.EqNone.ne_none_none (be I q (by simp))
  |bl j=>cases a;exact PySem.EqNone.ne_none_bool (be I q (by simp))
  |int j=>obtain⟨t',rfl⟩:=a;exact PySem.EqNone.ne_none_int (be I q (by simp))
  |str j=>obtain⟨t',rfl⟩:=a;exact PySem.EqNone.ne_none_str (be I q (by simp))
  |_=>exact Q5 (show false=true from b) qh
 |bl i=>
  cases c
  cases y with
  |non=>cases a;exact PySem.EqNone.ne_bool_none (be I q (by simp))
  |bl j=>cases a;exact ne_bool (be I q (congrArg not xQ))
  |str j=>obtain⟨t',rfl⟩:=a;exact PySem.EqMixed.ne_bool_str (be I q (by simp))
  |_=>exact Q5 (show false=true from b) qh
 |int i=>
  obtain⟨t,rfl⟩:=c
  cases y with
  |non=>cases a;exact PySem.EqNone.ne_int_none (be I q (by simp))
  |int j=>obtain⟨t',rfl⟩:=a;exact ne_int (be I q (congrArg not xO))
  |str j=>obtain⟨t',rfl⟩:=a;exact PySem.EqMixed.ne_int_str (be I q (by simp))
  |_=>exact Q5 (show false=true from b) qh
 |str i=>
  obtain⟨t,rfl⟩:=c
  cases y with
  |non=>cases a;exact PySem.EqNone.ne_str_none (be I q (by simp))
  |bl j=>cases a;exact PySem.EqMixed.ne_str_bool (be I q (by simp))
  |int j=>obtain⟨t',rfl⟩:=a;exact PySem.EqMixed.ne_str_int (be I q (by simp))
  |str j=>obtain⟨t',rfl⟩:=a;exact ne_str (be I q (congrArg not xM))
  |_=>exact Q5 (show false=true from b) qh
 |byt i=>
  obtain⟨t,rfl⟩:=c
  cases y with
  |byt j=>obtain⟨t',rfl⟩:=a;exact PySem.W.ne_bytes (be I q (congrArg not xP))
  |_=>exact Q5 (show false=true from b) qh
 |_=>cases y<;>exact Q5 (show false=true from b) qh
def Cu:OpR X (compareOp .Lt) (rI0 λi j=>.bl (decide (i<j))):=vN λ_ _ _ _ _ _ _ q=>lt_int q
def Cw:OpR X (compareOp .Gt) (rI0 λi j=>.bl (decide (j<i))):=vN λ_ _ _ _ _ _ _ q=>gt_int q
def Cv:OpR X (compareOp .Is) (λx y H Q=>y=.non/\Q (.bl (decide (x=.non))) H):=by
 intro _ s _ H x y v u Q I a b h;obtain⟨rfl,q⟩:=h;cases b;refine is_none_gen (be I q ?_)
 cases x<;>first
  |(cases a;rfl)
  |(obtain⟨t,rfl⟩:=a;rfl)
def aP(b:Expr){op:CmpOp}(h:op≠.In:=by decide)(a:op≠.NotIn:=by decide):behindInMarks op b=false:=by
 have d:(op == CmpOp.In)=false:=by cases op<;>first|rfl|exact Q5 U h
 have c:(op == CmpOp.NotIn)=false:=by cases op<;>first|rfl|exact Q5 U a
 cases b<;>simp[behindInMarks,d,c]
def iV{op:CmpOp}{r:R2}(f:OpR X (compareOp op) r)(ha:PE X a ta)(hb:PE X b tb)(j:behindInMarks op b=false):PE X (.Compare a [op] [b] pos) (tOp r ta tb):=by
 intro c s g H Q I h;exact wpAny_Compare1 (rJ ha hb I h λv u d x y l i e k q=>f c d g l x y v u Q i e k q) j
def lY(t:TE):TT:=λO H Q=>t O H λx H'=>∃k,x=.bl k/\Q k H'
def BU{op:CmpOp}{r:R2}(n:OpR X (compareOp op) r)(ha:PE X a ta)(hb:PE X b tb)(q:behindInMarks op b=false):PT X (.Compare a [op] [b] pos) (lY (tOp r ta tb)):=by
 intro d s f H Q I h
 refine wpAny_isTrue_Compare1 (thn (ha d s f H _ I h) λv s1 ⟨x,A,m,j,t⟩=>thn (hb d s1 f A _ m t) λu l ⟨y,D,p,w,C⟩=>
  thn (n d l f D x y v u _ p j w C) λc _ ⟨z,i,o,g,k,e,B⟩=>?_) q
 subst e;cases g;exact wpAny_truthy_bool ⟨i,o,B⟩
def yu(K:W.Frag)(x:V)(H:Hp)(k:Bool):Prop:=
 match x with
 |.non=>k=false
 |.bl b=>k=b
 |.int i=>k=(i != 0)
 |.str y=>y.length<=sizeLine/\k=((y.length:Int) != 0)
 |.byt y=>y.size<=sizeLine/\k=((y.size:Int) != 0)
 |.ref p=>(∃xs,SqL K H p xs/\k=!xs.isEmpty)\/(∃xs,SqT K H p xs/\k=!xs.isEmpty)\/∃kvs,H p=some (.dK kvs)/\k=!kvs.isEmpty
 |_=>False
def Ei{kvs:List (κ×V)}{vs:List (κ×Value)}(r:KV kvs vs):(!vs.isEmpty)=!kvs.isEmpty:=by
 cases r<;>rfl
def wO{xs:LV}(r:aB xs η):(!η.toArray.isEmpty)=!xs.isEmpty:=by
 cases r<;>simp
def hU:(sizeLine:Nat)<2 ^ 63:=by rw[sizeLine_eq];decide
def zA:TruR X (λx H Q=>∃k,yu X.K x H k/\Q k H):=by
 intro _ s _ H x v Q I c h;obtain⟨k,e,q⟩:=h;have hl:=hU;have n:sizeLine=16777216:=sizeLine_eq
 cases x with
 |non=>
  cases c;have a:k=false:=e;subst a;exact truthy_none ⟨H,I,q⟩
 |bl b=>
  cases c;have a:k=b:=e;subst a;exact wpAny_truthy_bool ⟨H,I,q⟩
 |int i=>
  obtain⟨t,rfl⟩:=c;have a:k=(i != 0):=e;subst a;exact PySem.P.truthy_int ⟨H,I,q⟩
 |str y=>
  obtain⟨t,rfl⟩:=c;obtain⟨j,a⟩:y.length<=sizeLine/\k=((y.length:Int) != 0):=e;subst a;exact PySem.P.truthy_str Yo ⟨H,I.tok _,q⟩
 |byt y=>
  obtain⟨t,rfl⟩:=c;obtain⟨j,a⟩:y.size<=sizeLine/\k=((y.size:Int) != 0):=e;subst a;exact PySem.W.truthy_bytes Yo ⟨H,I.tok _,q⟩
 |ref p=>
  cases c;have a:(∃xs,SqL X.K H p xs/\k=!xs.isEmpty)\/(∃xs,SqT X.K H p xs/\k=!xs.isEmpty)\/∃kvs,H p=some (.dK kvs)/\k=!kvs.isEmpty:=e;rcases a with⟨xs,f,a⟩|⟨xs,f,a⟩|⟨kvs,f,a⟩
  .subst a;obtain⟨g,r,pl,hz⟩:=I.list f;have d:=r.length;exact wpAny_truthy_list pl.isList (by simp only[qA];lia) ⟨H,I.tok _,by rwa[wO r]⟩
  .subst a;obtain⟨g,r,pl,hz⟩:=I.tuple f;have d:=r.length;exact truthy_tuple pl (by simp only[qA];lia) ⟨H,I.tok _,by rwa[wO r]⟩
  .subst a;obtain⟨hz,l,vs,r,m⟩:kvs.length<=sizeLine/\(p == sysModules)=false/\∃vs,KV kvs vs/\s.heap.DictOf (bd X.prog X.w) p vs:=I.hok p _ f;have d:kvs.length=vs.length:=Paired.length r;exact wpAny_truthy_dict l m Yo ⟨H,I.tok _,by rwa[Ei r]⟩
 |_=>exact(show False from e).elim
def BS(ha:PE X a ta)(g:∀whole,isTrue a X.env whole=(do let v <- whole;standAt a.pos;holding [v] (truthy v))):
 PT X a (λO H Q=>ta O H λx H'=>∃k,yu X.K x H' k/\Q k H'):=by
 intro b s O H Q I h;exact isTrue_plain (thn (ha b s O H _ I h) λv s1 ⟨x,f,d,c,e⟩=>zA b s1 O f x v Q d c e) (g _)
def CC:OpR X (binaryOp .Add) (λx y H Q=>∃i j,x=.str i/\y=.str j/\i.length+j.length<=sizeLine/\Q (.str (i++j)) H):=by
 intro _ s _ H x y v u Q I b a h;obtain⟨i,j,rfl,rfl,hz,q⟩:=h;obtain⟨t,rfl⟩:=b;obtain⟨t',rfl⟩:=a;exact add_str (λt' tk=>⟨.str (i++j),H,I.tok _,⟨_,U⟩,q⟩) hz
def cK{x:V}(r:aB [x] us):∃u,us=[u]/\aC x u:=by
 cases r with
 |cons a b=>cases b;exact⟨_,U,a⟩
def ju{x:V}(r:aB [x,y] us):∃u a,us=[u,a]/\aC x u/\aC y a:=by
 cases r with
 |cons c e=>
  cases e with
  |cons b d=>cases d;exact⟨_,_,U,c,b⟩
def FJ(a:X.calm=true):bf X (.builtin "min") (λxs H Q=>∃i j,xs=[.int i,.int j]/\Q (.int (if j<i then j else i)) H):=by
 intro _ s _ H xs us Q I r h;obtain⟨i,j,rfl,q⟩:=h;obtain⟨u,_,rfl,⟨t,rfl⟩,⟨t',rfl⟩⟩:=ju r;refine min_two_ints (I.ok.hd a) λh' tk k=>⟨_,H,I.kept k,?_,q⟩;by_cases hj:j<i
 .rw[Q0 hj,Q0 hj];exact⟨_,U⟩
 .rw[qZ hj,qZ hj];exact⟨_,U⟩
def rF:bf X (.type "str") (λxs H Q=>∃i,xs=[.int i]/\i.natAbs.log2<1920/\Q (.str (toString i)) H):=by
 intro _ s _ H xs us Q I r h;obtain⟨i,rfl,hz,q⟩:=h;obtain⟨u,rfl,t,rfl⟩:=cK r;exact PySem.P.str_of_int hz ⟨.str _,H,I.tok _,⟨_,U⟩,q⟩
end
structure gi(h:Heap)(x dx C:Addr)(mA:Str->LO):Prop where
 obj:h.get? x=some (PySem.W.instObj C dx)
 ns:h.Ns1 dx mA
 ne:dx≠x
def DR(n:h.Ns1 dx mA):∃c,h.get? dx=some c/\∀name,PySem.W.lookIn name c=some (mA name):=by
 obtain⟨o,d,ep,g,hd,hk,_,i⟩:=n;refine⟨o,g,λname=>?_⟩;have e:=i name;unfold nsFind findBy at e;rw[<- Array.find?_toList]at e;unfold PySem.W.lookIn;rw[hd];dsimp only;split
 .rename_i y q;rw[q]at e;exact congrArg some e
 .rename_i q;rw[q]at e
  have a:d.toList.any (·.refKey)=false:=by
   rw[List.any_eq_false];intro y f;obtain⟨z,t,b⟩:=hk y (Array.mem_toList_iff.mp f);simp[DictEntry.refKey,b]
  have j:¬ d.toList.any (·.refKey)=true:=by rw[a];exact qh
  rw[qZ j];exact congrArg some e
def gi.look{x:Addr}(I:gi h x dx C mA):∃a,PySem.W.InstAt h x (PySem.W.instObj C dx) C (some a)/\∀name,PySem.W.lookIn name a=some (mA name):=
 let ⟨a,b,hl⟩:=DR I.ns
 ⟨a,⟨I.obj,U,U,b⟩,hl⟩
section
variable {x:Addr}{v:Value}
def EA{a:Bool}(X:K.In s.heap)(I:gi s.heap x dx C mA)(hg:PySem.W.plainGet K C name=true)(c:PySem.W.hasDictIn K C=true)
 (ha:PySem.W.findIn K (.ref C) name=some none) (d:mA name=some v) (b:PySem.W.handedIn v=true) (h:Q v { s with toks:=s.toks+1 }):
 wpAny (model prog w) A (getAttr (.ref x) name a) Q E s:=by
 obtain⟨_,J,hl⟩:=I.look;exact PySem.W.get_value X J (PySem.W.plainGet_of hg).1 (PySem.W.findObj_own c ha U (by rw[hl,d])) b h
def Ez{pl:Sem Bool}{Q:Value×LL->Shared->Prop}(X:K.In s.heap)(I:gi s.heap x dx C mA)(hg:PySem.W.plainGet K C name=true)
 (b:PySem.W.findIn K (.ref C) name=some (some (.ref f))) (ht:PySem.W.isFn K (.ref f)=true) (c:mA name=none) (h:Q (.ref f,[.ref x]) s):
 wpAny (model prog w) A (getMethod (.ref x) name pl) Q E s:=by
 obtain⟨a,J,hl⟩:=I.look;exact PySem.W.method_fn X J (PySem.W.plainGet_of hg).1 (PySem.W.plainGet_of hg).2 b (beq_iff_eq.mp ht) (by show(PySem.W.lookIn name a).map (·.isSome)=some false;rw[hl,c];rfl) h
def AJ{ns:LS}{Q:Unit->Shared->Prop}(X:K.In s.heap)(I:gi s.heap x dx C mA)
 (k:PySem.W.findIn K (.ref C) "__setattr__"=some (some (.builtin "object.__setattr__"))) (hp:PySem.W.plainOver K C=true) (ht:PySem.W.takerIn K C name=some none) (m:PySem.W.hasDictIn K C=true)
 (hw:PySem.Within mA ns) (hsz:ns.length<=sizeLine)
 (h:∀h',gi h' x dx C (λy=>if y=name then some v else mA y)->Heap.SameBut dx s.heap h'->Q () { s with heap:=h',toks:=s.toks+2 }):
 wpAny (model prog w) A (setAttr (.ref x) name v) Q E s:=by
 obtain⟨_,J,hl⟩:=I.look;refine PySem.W.set_plain X J k (PySem.W.osa_open (s:={ s with toks:=s.toks+1 }) (r:=none) X J hp ht λb=>?_);obtain⟨cd,j,i⟩:=PySem.W.any_some m;have l:s.heap.get? x=some ⟨.ref C,some dx,.plain,#[]⟩:=I.obj;refine q4 (qc (q4 (q4 (wpAny_loadPart l (q4 (PySem.W.Looks.here (s:={ s with toks:=s.toks+1 }) (PySem.W.looks_clsIn X j) ?_))))));rw[i];refine qc (a:=some dx) (q4 (qc (q4 ?_)));refine wpAny_nsSet1 (s:={ s with toks:=s.toks+1 }) I.ns λh' c d=>?_;obtain⟨_,_,_,f,e,g⟩:=c.count (PySem.Within.cons name v hw);refine q4 (wpAny_lookBehind f (by rw[e];exact pastItsLine_dict (qx g (by rw[qz];lia))) ?_);exact qc (h _ ⟨(d.2 _ (Ne.symm I.ne)).trans I.obj,c,I.ne⟩ d)
def DL{R:Result->Shared->Prop}{vs:LL}(X:K.In s.heap)(a:PySem.W.makesIn K C=true)
 (hi:PySem.W.findIn K (.ref C) "__init__"=some (some (.ref f))) (b:PySem.W.typeIn K (.ref f)=some (.type "function"))
 (h:codeAny (model prog w) (A.under (.builtin "type.__call__" ⟨.ref C::vs,kw⟩)) (.call (.ref f) ⟨.ref (s.heap.objs.size+1)::vs,kw⟩) (PySem.W.InitBack (s.heap.objs.size+1) R)
  { s with heap:=(s.heap.push PySem.W.emptyDict).push (PySem.W.instObj C s.heap.objs.size) }):
 codeAny (model prog w) A (.call (.ref C) ⟨vs,kw⟩) R s:=by
 obtain⟨_,g,d,t,os⟩:=s;exact PySem.W.make_core (PySem.W.makes_of X a) (PySem.W.looks_findIn X hi) (λself=>PySem.W.bind_fn X self b) (.inl U) h
end
noncomputable def bW(f:Str)(v:V):List (Str×V)->List (Str×V)
 |[]=>[(f,v)]
 |(g,x)::r=>if g=f then(g,v)::r else(g,x)::bW f v r
def wn(f g:Str)(v:V):∀fs:List (Str×V),(bW f v fs).lookup g=if g=f then some v else fs.lookup g
 |[]=>by
  show List.lookup g [(f,v)]=_;by_cases h:g=f
  .have hb:(g == f)=true:=beq_iff_eq.mpr h;simp only[List.lookup,hb,Q0 h]
  .have hb:(g == f)=false:=beq_eq_false_iff_ne.mpr h;simp only[List.lookup,hb,qZ h]
 |(k,x)::r=>by
  have a:=wn f g v r;rw[show bW f v ((k,x)::r)=(if k=f then(k,v)::r else(k,x)::bW f v r)from rfl];by_cases hk:k=f
  .rw[Q0 hk];by_cases h:g=k
   .have hb:(g == k)=true:=beq_iff_eq.mpr h;simp only[List.lookup,hb,Q0 (h.trans hk)]
   .have hb:(g == k)=false:=beq_eq_false_iff_ne.mpr h;simp only[List.lookup,hb,qZ (λe:g=f=>h (e.trans hk.symm))]
  .rw[qZ hk];by_cases h:g=k
   .have hb:(g == k)=true:=beq_iff_eq.mpr h;simp only[List.lookup,hb,qZ (λe:g=f=>hk (h.symm.trans e))]
   .have hb:(g == k)=false:=beq_eq_false_iff_ne.mpr h;simp only[List.lookup,hb];exact a
def pI(f:Str)(v:V):∀fs:List (Str×V),f∈(bW f v fs).map (·.1)/\∀g,g∈fs.map (·.1)->g∈(bW f v fs).map (·.1)
 |[]=>⟨by simp[bW],λg h=>by simp at h⟩
 |(k,x)::r=>by
  obtain⟨b,a⟩:=pI f v r;rw[show bW f v ((k,x)::r)=(if k=f then(k,v)::r else(k,x)::bW f v r)from rfl];by_cases hk:k=f
  .rw[Q0 hk];subst hk;exact⟨by simp,λg h=>by simpa using h⟩
  .rw[qZ hk];refine⟨?_,λg h=>?_⟩
   .rw[qR];exact qj _ b
   .rw[qR]at h ⊢;rcases qt.mp h with e|e
    .exact qt.mpr (.inl e)
    .exact qj _ (a g e)
def wu(f:Str)(v:V):∀fs:List (Str×V),(bW f v fs).length<=fs.length+1
 |[]=>by simp[bW]
 |(k,x)::r=>by
  have a:=wu f v r;rw[show bW f v ((k,x)::r)=(if k=f then(k,v)::r else(k,x)::bW f v r)from rfl];by_cases hk:k=f
  .rw[Q0 hk,qz,qz];lia
  .rw[qZ hk,qz,qz];lia
def bU.some_of{v:V}{o:LO}(r:bU (some v) o):∃u,o=some u/\aC v u:=by
 cases o with
 |none=>exact(show False from r).elim
 |some u=>exact⟨u,U,r⟩
def bU.none_of{o:LO}(r:bU none o):o=none:=by
 cases o with
 |none=>rfl
 |some u=>exact(show False from r).elim
def Er{v:V}(r:aC v u):PySem.W.handedIn u=true:=by
 cases v with
 |non=>cases(show u=Value.none from r);rfl
 |bl b=>cases(show u=Value.bool b from r);rfl
 |int i=>obtain⟨t,e⟩:=(show ∃t,u=Value.int i t from r);cases e;rfl
 |str x=>obtain⟨t,e⟩:=(show ∃t,u=Value.str x t from r);cases e;rfl
 |byt b=>obtain⟨t,e⟩:=(show ∃t,u=Value.bytes b t from r);cases e;rfl
 |flt b=>obtain⟨t,e⟩:=(show ∃t,u=Value.float b t from r);cases e;rfl
 |ref a=>cases(show u=Value.ref a from r);rfl
 |ty n=>cases(show u=Value.type n from r);rfl
section
variable {fs fs':List (Str×V)}
def kU(hok:HOk P w H h)(e:H a=some (.ins C dx fs)):∃mA,gi h a dx C mA/\(∀f,bU (fs.lookup f) (mA f))/\PySem.Within mA (fs.map (·.1))/\fs.length<=1000/\H dx=some (.own a):=by
 obtain⟨d,z,ne,b,mA,n,r,q⟩:=(show bb P w H h a (.ins C dx fs)from hok a _ e);exact⟨mA,⟨b,n,ne⟩,r,q,z,d⟩
end
structure Cls(K:W.Frag)(C:Addr):Prop where
 pg:PySem.W.plainGet K C Str.empty=true
 hd:PySem.W.hasDictIn K C=true
 po:PySem.W.plainOver K C=true
 sa:PySem.W.findIn K (.ref C) "__setattr__"=some (some (.builtin "object.__setattr__"))
def Cls.get(c:Cls K C)(f:Str):PySem.W.plainGet K C f=true:=c.pg
def cU(K:W.Frag)(C:Addr)(f:Str):Prop:=PySem.W.findIn K (.ref C) f=some none
def cU.taker{f:Str}(n:cU K C f):PySem.W.takerIn K C f=some none:=by
 unfold PySem.W.takerIn;rw[show PySem.W.findIn K (.ref C) f=some none from n]
 rfl
structure cV(K:W.Frag)(C:Addr)(m:Str)(f:Addr):Prop where
 at_:PySem.W.findIn K (.ref C) m=some (some (.ref f))
 fn:PySem.W.isFn K (.ref f)=true
 kp:PySem.W.keepIn K (.ref f)=true
section
variable {fs:List (Str×V)}{f:Str}{v:V}
def Ey{b:Bool}(I:Inv X ζ O H s)(e:H a=some (.ins C dx fs))(c:Cls X.K C)(n:cU X.K C f)(l:fs.lookup f=some v)
 (h:∀u s',Inv X ζ O H s'->aC v u->Q u s'):wpAny (model X.prog X.w) A (getAttr (.ref a) f b) Q E s:=by
 obtain⟨d,K0,r,_,_,_⟩:=kU I.hok e;obtain⟨u,hu,ru⟩:=bU.some_of (v:=v) (o:=d f) (by rw[<- l];exact r f);exact EA I.kIn K0 (c.get f) c.hd n hu (Er ru) (h u _ (I.tok _) ru)
def wY{m:Str}{g:Addr}{pl:Sem Bool}{Q:Value×LL->Shared->Prop}(I:Inv X ζ O H s)(e:H a=some (.ins C dx fs))(c:Cls X.K C)(k:cV X.K C m g)(l:fs.lookup m=none)
 (h:Q (.ref g,[.ref a]) s):wpAny (model X.prog X.w) A (getMethod (.ref a) m pl) Q E s:=by
 obtain⟨b,K0,r,_,_,_⟩:=kU I.hok e;have hn:b m=none:=bU.none_of (by rw[<- l];exact r m);exact Ez I.kIn K0 (c.get m) k.at_ k.fn hn h
def AG{Q:Unit->Shared->Prop}(I:Inv X ζ O H s)(e:H a=some (.ins C dx fs))(c:Cls X.K C)(n:cU X.K C f)(hl:fs.length<1000)(m:aC y u)
 (h:∀s',Inv X ζ O (upd H a (.ins C dx (bW f y fs))) s'->Q () s'):wpAny (model X.prog X.w) A (setAttr (.ref a) f u) Q E s:=by
 obtain⟨j,K0,r,k,_,i⟩:=kU I.hok e;have hz:(fs.map (·.1)).length<=sizeLine:=by rw[q5,sizeLine_eq];lia
 refine AJ I.kIn K0 c.sa c.po n.taker c.hd k hz λh' d l=>h _ ?_;have hd:∃o,h'.get? dx=some o:=let ⟨o,_,_,p,_⟩:=d.ns;⟨o,p⟩;refine I.write (x:=a) (e:=dx) (by rw[e];exact True.intro) (.inr i) (λb q hb z=>(l.2 b hb).trans z) hd ?_;refine⟨by rwa[au K0.ne],?_,K0.ne,d.obj,_,d.ns,λg=>?_,λg hg=>?_⟩
 .have:=wu f y fs;lia
 .show bU ((bW f y fs).lookup g) (if g=f then some u else j g);rw[wn];by_cases q:g=f
  .rwa[Q0 q,Q0 q]
  .rw[qZ q,qZ q];exact r g
 .by_cases q:g=f
  .rw[q];exact(pI f y fs).1
  .refine(pI f y fs).2 g (k g λz=>hg ?_);show(if g=f then some u else j g)=none;rwa[qZ q]
def Inv.made(I:Inv X ζ O H s):Inv X ζ O (upd (upd H s.heap.objs.size (.own (s.heap.objs.size+1))) (s.heap.objs.size+1) (.ins C s.heap.objs.size []))
 { s with heap:=(s.heap.push PySem.W.emptyDict).push (PySem.W.instObj C s.heap.objs.size) }:=by
 have c:(s.heap.push PySem.W.emptyDict).get? s.heap.objs.size=some PySem.W.emptyDict:=qo s.heap U
 have g:((s.heap.push PySem.W.emptyDict).push (PySem.W.instObj C s.heap.objs.size)).get? (s.heap.objs.size+1)=some (PySem.W.instObj C s.heap.objs.size):=by
  have:=qo (s.heap.push PySem.W.emptyDict) (o:=PySem.W.instObj C s.heap.objs.size) U
  rwa [Qg]at this
 have i:(s.heap.push PySem.W.emptyDict).Ns s.heap.objs.size (λ_=>none):=⟨PySem.W.emptyDict,#[],_,c,U,(λe h=>Q5 h (by simp)),λ_=>U⟩;have f:=I.laid (a:=s.heap.objs.size) (o:=.own (s.heap.objs.size+1)) (h':=s.heap.push PySem.W.emptyDict) (t':=s.toks) (λb u q=>q9 _ q) (qd _) ⟨_,c⟩;refine f.laid (a:=s.heap.objs.size+1) (o:=.ins C s.heap.objs.size []) (t':=s.toks) (λb u q=>q9 _ q) (Nat.le_of_eq (Qg _ _)) ?_;have ne:s.heap.objs.size≠s.heap.objs.size+1:=qF (Qb _);refine⟨by rw[au ne,ah],qr _,ne,g,λ_=>none,(Heap.Ns1.of_empty i).at λo q=>q9 _ q,λ_=>True.intro,λy d=>Q5 U d⟩
def FW{f:Str}(hb:attributeBase e f env (eval e env)=eval e env)
 (h:wpAny (model prog w) A (eval e env) (λo a=>wpAny (model prog w) A (getAttr o f true) Q E a) E s):wpAny (model prog w) A (eval (.Attribute e f pos) env) Q E s:=
 Attribute_any_ h (by rw[arm_eval_Attribute,hb])
end
def jz(K:W.Frag)(ta:TE)(f:Str):TE:=λO H Q=>ta O H λx H1=>∃a C dx fs v,x=.ref a/\H1 a=some (.ins C dx fs)/\Cls K C/\cU K C f/\fs.lookup f=some v/\Q v H1
def Bf(K:W.Frag)(ta tv:TE)(f:Str):TS:=λD O H=>tv O H λy H1=>ta O H1 λx H2=>∃a C dx fs,x=.ref a/\H2 a=some (.ins C dx fs)/\Cls K C/\cU K C f/\fs.length<1000 /\
 D.nx O (upd H2 a (.ins C dx (bW f y fs)))
section
variable {o value:Expr}{f:Str}{pos' tpos:Pos}{tv:TE}
def vH(o:PE X e ta)(hb:attributeBase e f X.env (eval e X.env)=eval e X.env):PE X (.Attribute e f pos) (jz X.K ta f):=by
 intro b s j H Q I h;refine FW hb (thn (o b s j H _ I h) λu s1 ⟨x,m,g,i,a,C,dx,fs,v,ex,d,c,n,l,q⟩=>?_);subst ex;obtain rfl:u=Value.ref a:=i;exact Ey g d c n l λ_ _ k ru=>⟨v,m,k,ru,q⟩
def kj(ha:PE X o ta)(w:PE X value tv)(i:swapsWith value (some (.Attribute o f pos')) pos.line X.env=pure false):PS X (.Assign [.Attribute o f pos'] value pos) (Bf X.K ta tv f):=by
 intro b s d H D I h;refine plainObj_wpAny_Assign_Attribute (thn (w b s d H _ I h) λu s1 ⟨y,t,g,k,q⟩=>thn (ha b s1 d t _ g q) λe _ ⟨x,_,j,m,a,C,dx,fs,ex,p,c,n,l,v⟩=>?_) i;subst ex;obtain rfl:e=Value.ref a:=m;exact AG j p c n l k λ_ r=>⟨d,_,r,v⟩
def Gi{pl:Sem Bool}{m:Str}{b:LP}(o:PE X e te)(I:Inv X ζ O H s)
 (h:te O H λx H1=>∃a C dx fs g,x=.ref a/\H1 a=some (.ins C dx fs)/\Cls X.K C/\cV X.K C m g/\fs.lookup m=none /\
  ∀s1,Inv X ζ O H1 s1->wpAny (model X.prog X.w) X.A (callWith pos (.ref g) [.ref a] (backTo pos (starEach b X.env)) (backToKw pos (keywordEach [] X.env))) Q X.xe s1)
 (ht:eval (.Call (.Attribute e m μ) b [] pos) X.env=(do
  let d <- eval e X.env
  standAt μ.atName
  let (f,first) <- holding [d] (getMethod d m pl)
  callWith pos f first (backTo pos (starEach b X.env)) (backToKw pos (keywordEach [] X.env)))):
 wpAny (model X.prog X.w) X.A (eval (.Call (.Attribute e m μ) b [] pos) X.env) Q X.xe s:=by
 refine PySem.W.methodCall_KW (pl:=pl) (thn (o ζ s O H _ I h) λu s1 ⟨x,H1,i,n,a,C,dx,fs,g,ex,j,c,k,l,q⟩=>?_) ht;subst ex;obtain rfl:u=Value.ref a:=n;exact wY i j c k l (q s1 i)
end
section
variable {c:Value}{b:Bool}
inductive cI(K:W.Frag)(H:Hp):V->Value->Prop where
 |non:cI K H .non (.type "NoneType")
 |bl (x:Bool):cI K H (.bl x) (.type "bool")
 |int (i:Int):cI K H (.int i) (.type "int")
 |str (x:Str):cI K H (.str x) (.type "str")
 |flt (x:UInt64):cI K H (.flt x) (.type "float")
 |lst {a:Addr}{xs:LV}(e:H a=some (.lst xs)):cI K H (.ref a) (.type "list")
 |frz {a:Addr}{o:Obj}{xs:LV}(e:H a=some (.frz o (.lst xs))):cI K H (.ref a) (.type "list")
 |tup {a:Addr}{xs:LV}(e:H a=some (.tup xs)):cI K H (.ref a) (.type "tuple")
 |dK {a:Addr}{kvs:LN}(e:H a=some (.dK kvs)):cI K H (.ref a) (.type "dict")
 |dT {a:Addr}{kvs:List (List Key×V)}(e:H a=some (.dT kvs)):cI K H (.ref a) (.type "dict")
 |ins {a C dx:Addr}{fs:List (Str×V)}(e:H a=some (.ins C dx fs)) (cl:Cls K C) (ha:PySem.W.findIn K (.ref C) "__class__"=some (some (.builtin "object.__class__")))
  (hn:PySem.W.specialIn K (.builtin "object.__class__") "__get__"=some (some (.builtin "getset_descriptor.__get__"))) (htk:PySem.W.takesIn K (.builtin "object.__class__")=some true)
  (hm:PySem.W.mroIn K C (.type "object")=some true):cI K H (.ref a) (.ref C)
def Eg{x:V}{t:Value}(I:Inv X ζ O H s)(f:aC x u)(ty:cI X.K H x t)(e:PySem.W.kitOne X.K t c=some b)(h:∀tk,Q (.bool b) { s with toks:=tk }):
 wpAny (model X.prog X.w) A (call (.builtin "isinstance") [u,c]) Q E s:=by
 cases ty with
 |non=>cases(show u=Value.none from f);exact Qx PySem.W.kitx_none I.kIn True.intro e (λz=>nomatch z) h
 |bl y=>cases(show u=Value.bool y from f);exact Qx PySem.W.kitx_bool I.kIn True.intro e (λz=>nomatch z) h
 |int i=>obtain⟨t,q⟩:=(show ∃t,u=Value.int i t from f);cases q;exact Qx PySem.W.kitx_int I.kIn True.intro e (λz=>nomatch z) h
 |str y=>obtain⟨t,q⟩:=(show ∃t,u=Value.str y t from f);cases q;exact Qx PySem.W.kitx_str I.kIn True.intro e (λz=>nomatch z) h
 |flt y=>obtain⟨t,q⟩:=(show ∃t,u=Value.float y t from f);cases q;exact Qx PySem.W.kitx_float I.kIn True.intro e (λz=>nomatch z) h
 |@lst a xs d=>
  cases(show u=Value.ref a from f);obtain⟨_,_,n,_,g⟩:=(show bb X.prog X.w H s.heap a (.lst xs)from I.hok a _ d);exact Qx PySem.W.kitx_list I.kIn ⟨_,g,U⟩ e (λz=>nomatch z) h
 |@frz a r xs d=>
  cases(show u=Value.ref a from f);obtain⟨_,_,_,n,_,g⟩:=(show bb X.prog X.w H s.heap a (.frz r (.lst xs))from I.hok a _ d);exact Qx PySem.W.kitx_list I.kIn ⟨_,g,U⟩ e (λz=>nomatch z) h
 |@tup a xs d=>
  cases(show u=Value.ref a from f);obtain⟨_,_,_,p⟩:=(show bb X.prog X.w H s.heap a (.tup xs)from I.hok a _ d);obtain⟨o,g,j,_⟩:=p;exact Qx PySem.W.kitx_tuple I.kIn ⟨o,g,j⟩ e (λz=>nomatch z) h
 |@dK a kvs d=>
  cases(show u=Value.ref a from f);obtain⟨_,_,vs,_,p⟩:=(show bb X.prog X.w H s.heap a (.dK kvs)from I.hok a _ d);obtain⟨o,m,ep,g,j,_⟩:=p;exact Qx PySem.W.kitx_dict I.kIn ⟨o,g,j.1⟩ e (λz=>nomatch z) h
 |@dT a kvs d=>
  cases(show u=Value.ref a from f);obtain⟨_,_,xs,_,o,m,ep,g,j,_⟩:=(show bb X.prog X.w H s.heap a (.dT kvs)from I.hok a _ d);exact Qx PySem.W.kitx_dict I.kIn ⟨o,g,j.1⟩ e (λz=>nomatch z) h
 |@ins a C dx fs d cl ha hn k l=>
  cases(show u=Value.ref a from f);obtain⟨_,K0,_⟩:=kU I.hok d;obtain⟨_,J,_⟩:=K0.look;exact Qx (PySem.W.kitx_own (cl.get _) cl.hd ha hn k l) I.kIn J e (λz=>nomatch z) h
end
structure bp(k:Nat)(A:Around):Prop where
 hd:A.handled=none
 dp:A.depth+3 * k+5<recursionLimit
 un:A.units+16 * k+200<cLine
 gd:A.guards=some []
def bp.mono{k:Nat}(r:bp k A)(h:j<=k):bp j A:=⟨r.hd,by have:=r.dp;lia,by have:=r.un;lia,r.gd⟩
def bp.deeper{k:Nat}{A:Around}(r:bp (k+1) A)(env:Env):bp k (A.deeper env):=
 ⟨r.hd,by have:=r.dp;show A.depth+1+3 * k+5<_;lia,by have:=r.un;show A.units+3+16 * k+200<_;lia,r.gd⟩
def DN:(A.under (.builtin "type.__call__" ⟨.ref C::us,kw⟩)).depth=A.depth+1:=by
 first|rfl|simp[Around.under,Code.weight,Code.isCreation,Code.isGuard,Code.isCaller,Code.frames,Code.isFrame,guardIds]
def DK:(A.under (.builtin "type.__call__" ⟨.ref C::us,kw⟩)).units=A.units+1:=by
 first|rfl|simp[Around.under,Code.cUnits,Code.frames,Code.isFrame]
def DM:(A.under (.builtin "type.__call__" ⟨.ref C::us,kw⟩)).guards=A.guards:=by
 first|rfl|simp[Around.under,Code.guards,Code.isGuard,guardIds,Around.pushGuards]
def bp.make{k:Nat}(r:bp (k+1) A)(C:Addr)(us:LL)(a:List (Str×Value)):bp k (A.under (.builtin "type.__call__" ⟨.ref C::us,a⟩)):=
 ⟨r.hd,by have:=r.dp;rw[DN];lia,by have:=r.un;rw[DK];lia,by rw[DM];exact r.gd⟩
def bp.depth{k:Nat}{A:Around}(r:bp k A):A.depth<recursionLimit:=by have:=r.dp;lia
def bp.units{k:Nat}{A:Around}(r:bp k A):A.units+64<cLine:=by have:=r.un;lia
def iB:TA:=λ_ H Q=>Q [] H
def jA(ta:TE)(B:TA):TA:=λO H Q=>ta O H λx H1=>B O H1 λxs H2=>Q (x::xs) H2
section
variable {es:LP}{t:TA}
def ae:PA X [] iB:=λ_ _ _ _ H Q I h=>Calls.spliced_nil ⟨[],H,I,.nil,h⟩
def a8(ha:PE X e te)(d:PA X es t)(i:starEach (e::es) X.env=(false,eval e X.env)::starEach es X.env:=by rfl):PA X (e::es) (jA te t):=by
 intro b a s c H Q I h;rw[i];show wpAny _ _ (spliced ((false,eval e X.env)::backTo b (starEach es X.env))) _ _ s;refine Calls.spliced_cons (thn (ha a s c H _ I h) λu s1 ⟨x,m,g,f,k⟩=>?_);exact thn (d b a s1 c m _ g k) λus _ ⟨xs,o,j,l,n⟩=>⟨x::xs,o,j,.cons f l,n⟩
def lX(t:TA):TE:=λO H Q=>t O H λxs H1=>xs.length<=sizeLine/\∀p,H1 p=none->Q (.ref p) (upd H1 p (.tup xs))
def ma(t:TA):TE:=λO H Q=>t O H λxs H1=>xs.length<=sizeLine/\∀p,H1 p=none->Q (.ref p) (upd H1 p (.lst xs))
def C6{i}(h:PA X es t):PE X (.Tuple es i pos) (lX t):=by
 intro a s g H Q I f;refine wpAny_Tuple_spliced (thn (h pos a s g H _ I f) λus s1 ⟨xs,d,c,r,z,q⟩=>⟨by rwa[<- r.length],?_⟩);have j:d s1.heap.objs.size=none:=c.hok.fresh (qd _);refine⟨.ref s1.heap.objs.size,upd d s1.heap.objs.size (.tup xs),c.laid (t':=s1.toks) (λb u e=>q9 _ e) (qd _) ?_,U,q _ j⟩;exact⟨⟨z,_,qo _ U,U⟩,us,r,⟨_,qo _ U,U,_,U⟩⟩
def C8(h:PA X es t):PE X (.List es pos) (ma t):=by
 intro a s g H Q I f;refine wpAny_List_spliced (thn (h pos a s g H _ I f) λus s1 ⟨xs,d,c,r,z,q⟩=>⟨by rwa[<- r.length],?_⟩);have i:d s1.heap.objs.size=none:=c.hok.fresh (qd _);refine⟨.ref s1.heap.objs.size,upd d s1.heap.objs.size (.lst xs),c.laid (t':=s1.toks) (λb u e=>q9 _ e) (qd _) ?_,U,q _ i⟩;exact⟨z,us,0,r,qo _ U⟩
end
abbrev Sp:=LV->Hp->VK->XK->Prop
abbrev CXT:=List Env->Hp->Shared->XK->LF
structure gm(P:Program)(w:World)(K:W.Frag)(mg:Str->LO)(base:Heap)(A:Around)(outer:List Env)(s:Shared)(H:Hp):Prop where
 frames:A.frames=some outer
 mod:Mod K mg base
 bs:∀b o,base.get? b=some o->s.heap.get? b=some o/\H b=none
 bsz:base.objs.size<=s.heap.objs.size
 funs:s.heap.FunFrames base outer
 frf:∀b∈frs outer,H b=none
 hok:HOk P w H s.heap
 bare:AllBare s.gens
def CE(outer:List Env)(P:Program)(w:World)(H:Hp)(s:Shared)(Q:VK)(u:Value)(s':Shared):Prop:=
 ∃v H',s'.os=s.os/\AllBare s'.gens/\Un (frs outer) [] H H' s.heap s'.heap/\HOk P w H' s'.heap/\aC v u/\Q v H'
def CR(CX:CXT)(outer:List Env)(P:Program)(w:World)(H:Hp)(s:Shared)(Q:VK)(E:XK)(r:Result)(s':Shared):Prop:=
 match r with
 |.ok (.ret u)=>CE outer P w H s Q u s'
 |.ok _=>False
 |.error e=>CX outer H s E e s'
structure aF(P:Program)(w:World)(K:W.Frag)(mg:Str->LO)(base:Heap)(CX:CXT)(k:Nat)(f:Addr)(fd:FuncData)(ps:LS)(sp:Sp):Prop where
 len:∀vs H Q E,sp vs H Q E->vs.length=ps.length
 run:∀(A:Around)(outer:List Env)(s:Shared)(H:Hp)(args:Args)(us:LL)(vs:LV)(Q:VK)(E:XK),bp k A->gm P w K mg base A outer s H->BindsTo s fd args (ps.zip us)->aB vs us->sp vs H Q E->
  codeAny (model P w) A (.call (.ref f) args) (CR CX outer P w H s Q E) s
def aF.mono{P:Program}{w:World}{K:W.Frag}{mg:Str->LO}{base:Heap}{CX:CXT}{j k:Nat}{f:Addr}{b:FuncData}{ps:LS}{sp:Sp}(F:aF P w K mg base CX j f b ps sp)(h:j<=k):
 aF P w K mg base CX k f b ps sp:=⟨F.len,λA outer s H a us vs Q E c=>F.run A outer s H a us vs Q E (c.mono h)⟩
def gm.make(e:gm P w K mg base A outer s H)(C:Addr)(us:LL)(a:List (Str×Value)):
 gm P w K mg base (A.under (.builtin "type.__call__" ⟨.ref C::us,a⟩)) outer s H:=⟨by first|exact e.frames|(simpa[Around.under,Code.envs,Code.isFrame,pushEnvs]using e.frames),e.mod,e.bs,e.bsz,e.funs,e.frf,e.hok,e.bare⟩
def Inv.env0(I:Inv X ζ O H s):gm X.prog X.w X.K X.mg X.base X.A X.stack s H:=
 ⟨I.ok.frames,I.ok.mod,I.bs,qx I.ok.bsz I.sz,I.stack,I.stkFree,I.hok,I.bare⟩
def Inv.after{Q:VK}(I:Inv X ζ O H s)(h:CE X.stack X.prog X.w H s Q u s'):EP X ζ O Q u s':=by
 obtain⟨v,H',os,bare,un,hok,r,q⟩:=h;obtain⟨c,g,d,t,a⟩:=s';obtain rfl:a=s.os:=os;exact⟨v,H',I.call (h':=c) (g':=g) (d':=d) (t':=t) (ch:=[]) un hok bare (λb z=>Q5 z (by simp)),r,q⟩
def jB(sp:Sp)(dvs:LV)(E:XK)(t:TA):TE:=λO H Q=>t O H λvs H1=>sp (vs++dvs) H1 Q E
def zO(C:Addr)(m:Str)(sp:Sp)(dvs:LV)(E:XK)(ta:TE)(t:TA):TE:=λO H Q=>ta O H λx H1=>∃a dx fs,x=.ref a/\H1 a=some (.ins C dx fs)/\fs.lookup m=none /\
 t O H1 λvs H2=>sp (x::(vs++dvs)) H2 Q E
def zP(C:Addr)(sp:Sp)(dvs:LV)(E:XK)(t:TA):TE:=λO H Q=>t O H λvs H1=>∀x dx,H1 x=none->H1 dx=none->dx≠x->
 sp (.ref x::(vs++dvs)) (upd (upd H1 dx (.own x)) x (.ins C dx [])) (λv H2=>v=.non/\Q (.ref x) H2) E
def cC(K:W.Frag)(fd:FuncData)(ps:LS)(ds:LL):Prop:=
 ∀(s:Shared)(us:LL),K.In s.heap->(us++ds).length=ps.length->BindsTo s fd ⟨us,[]⟩ (ps.zip (us++ds))
def cC.all(h:∀us:LL,us.length=ps.length->bindArgs fd ⟨us,[]⟩=pure (ps.zip us)):cC K fd ps []:=λs us _ hl=>by
 rw[qw]at hl ⊢;exact .of_eq (h us hl)
def gh(CX:CXT)(X:Cx)(E:XK):Prop:=∀(ζ:List (Addr×Obj))(O:St)(H:Hp)(s:Shared)(e:Value)(s':Shared),Inv X ζ O H s->CX X.stack H s E e s'->X.xe e s'
section
variable {CX:CXT}{k:Nat}{sp:Sp}{ds:LL}{E:XK}{m:Str}{p:Pos}{o:Expr}{es:LP}{t:TA}
def uN{Q:VK}{vs:LV}(F:aF X.prog X.w X.K X.mg X.base CX k f fd ps sp)(c:bp k X.A)(hb:cC X.K fd ps ds)(hd:aB dvs ds)(d:gh CX X E)
 (I:Inv X ζ O H s) (r:aB vs us) (h:sp (vs++dvs) H Q E):wpAny (model X.prog X.w) X.A (call (.ref f) us) (EP X ζ O Q) X.xe s:=by
 have b:aB (vs++dvs) (us++ds):=r.append hd;have hl:(us++ds).length=ps.length:=by rw[<- b.length];exact F.len _ _ _ _ h
 refine wpAny_call (codeAny_mono (F.run X.A X.stack s H ⟨us,[]⟩ (us++ds) (vs++dvs) Q E c I.env0 (hb s us I.kIn hl) b h) λr g a=>?_)
 cases r with
 |error e=>exact d ζ O H s e g I a
 |ok fl=>
  cases fl with
  |ret u=>exact I.after a
  |next=>exact False.elim a
  |brk=>exact False.elim a
  |cont=>exact False.elim a
def Cd(F:aF X.prog X.w X.K X.mg X.base CX k f fd ps sp)(g:bp k X.A)(hg:Gl X x)(j:X.mg x=some (.ref f))(hk:PySem.W.keepIn X.K (.ref f)=true)(hb:cC X.K fd ps ds)(hd:aB dvs ds)(l:gh CX X E)
 (ha:PA X (e::es) t) (d:(x == ("__debug__":Str))=false:=by decide) (m:starEach (e::es) X.env=(false,eval e X.env)::starEach es X.env:=by rfl) (c:(backTo pos (starEach es X.env)).any (·.1)=false:=by rfl):
 PE X (.Call (.Name x p) (e::es) [] pos) (jB sp dvs E t):=by
 intro a s i H Q I h;refine wpAny_Call_Name_kw (pH I hg j ?_ d);refine PySem.W.callWith_K (h₀:=X.base) I.ok.mod.kin hk (thn (ha pos a s i H _ I h) λus s1 ⟨vs,_,b,r,q⟩=>⟨b.kIn,?_⟩) m c;exact uN F g hb hd l b r q
def aW{pl:Sem Bool}(J:PE X o ta)(c:Cls X.K C)(n:cV X.K C m f)(F:aF X.prog X.w X.K X.mg X.base CX k f fd ps sp)(y:bp k X.A)(hb:cC X.K fd ps ds)(hd:aB dvs ds)(D:gh CX X E)(ha:PA X (e::es) t)
 (p:starEach (e::es) X.env=(false,eval e X.env)::starEach es X.env:=by rfl) (v:(backTo pos (starEach es X.env)).any (·.1)=false:=by rfl)
 (ht:eval (.Call (.Attribute o m μ) (e::es) [] pos) X.env=(do
  let d <- eval o X.env
  standAt μ.atName
  let (f,first) <- holding [d] (getMethod d m pl)
  callWith pos f first (backTo pos (starEach (e::es) X.env)) (backToKw pos (keywordEach [] X.env))):=by rfl):
 PE X (.Call (.Attribute o m μ) (e::es) [] pos) (zO C m sp dvs E ta t):=by
 intro b s i H Q I h;refine PySem.W.methodCall_KW (pl:=pl) (thn (J b s i H _ I h) λu s1 ⟨x,G,g,B,a,dx,fs,ex,z,l,q⟩=>?_) ht;subst ex;obtain rfl:u=Value.ref a:=B;refine wY g z c n l ?_;refine PySem.W.callWith_K (first:=[.ref a]) (h₀:=X.base) I.ok.mod.kin n.kp (thn (ha pos b s1 i G _ g q) λus _ ⟨vs,_,j,r,L⟩=>⟨j.kIn,?_⟩) p v;exact uN (us:=.ref a::us) (vs:=.ref a::vs) F y hb hd D j (.cons U r) L
structure Mk(K:W.Frag)(C f:Addr):Prop where
 makes:PySem.W.makesIn K C=true
 init:PySem.W.findIn K (.ref C) "__init__"=some (some (.ref f))
 fn:PySem.W.isFn K (.ref f)=true
 kp:PySem.W.keepIn K (.ref C)=true
def Bg{Q:VK}{vs:LV}(M:Mk X.K C f)(F:aF X.prog X.w X.K X.mg X.base CX k f fd ps sp)(i:bp (k+1) X.A)(hb:cC X.K fd ps ds)(hd:aB dvs ds)
 (m:gh CX X E) (I:Inv X ζ O H s) (r:aB vs us)
 (h:∀x dx,H x=none->H dx=none->dx≠x->sp (.ref x::(vs++dvs)) (upd (upd H dx (.own x)) x (.ins C dx [])) (λv H2=>v=.non/\Q (.ref x) H2) E):
 wpAny (model X.prog X.w) X.A (call (.ref C) us) (EP X ζ O Q) X.xe s:=by
 have c:=h (s.heap.objs.size+1) s.heap.objs.size (I.hok.fresh (Nat.le_succ _)) (I.hok.fresh (qd _)) (qF (Qb _));have b:=Inv.made (C:=C) I;have d:aB (V.ref (s.heap.objs.size+1)::(vs++dvs)) (Value.ref (s.heap.objs.size+1)::(us++ds)):=.cons U (r.append hd)
 have hl:(Value.ref (s.heap.objs.size+1)::us++ds).length=ps.length:=by
  have e:=d.length;rw[F.len _ _ _ _ c]at e;exact e.symm
 refine wpAny_call (DL (f:=f) I.kIn M.makes M.init (beq_iff_eq.mp M.fn) (codeAny_mono (F.run _ X.stack _ _ ⟨Value.ref (s.heap.objs.size+1)::us,[]⟩ (Value.ref (s.heap.objs.size+1)::(us++ds)) _ _ E (i.make C us [])
  (b.env0.make C us []) (hb _ (Value.ref (s.heap.objs.size+1)::us) b.kIn hl) d c) λr o a=>?_))
 cases r with
 |error e=>exact m ζ O _ _ e o b a
 |ok fl=>
  cases fl with
  |ret u=>
   obtain⟨v,H',j,g,l,n⟩:=b.after a;subst l;exact⟨g,⟨V.ref (s.heap.objs.size+1),H',j,U,n⟩⟩
  |next=>exact False.elim a
  |brk=>exact False.elim a
  |cont=>exact False.elim a
def C7(M:Mk X.K C f)(F:aF X.prog X.w X.K X.mg X.base CX k f fd ps sp)(b:bp (k+1) X.A)(hg:Gl X x)(c:X.mg x=some (.ref C))(hb:cC X.K fd ps ds)(hd:aB dvs ds)(d:gh CX X E)
 (a:(x == ("__debug__":Str))=false:=by decide):PE X (.Call (.Name x p) [] [] pos) (zP C sp dvs E iB):=by
 intro _ s _ H Q I h;refine wpAny_Call_Name_kw (pH I hg c ?_ a);exact PySem.W.callWith_K0 I.kIn M.kp (Bg (us:=[]) M F b hb hd d I .nil h)
end
section
variable {CX:CXT}{k:Nat}{sp:Sp}{E:XK}{m:Str}{p kpos:Pos}{o:Expr}{es:LP}{kws:List Keyword}{t tk:TA}{nm:Option Str}
variable {g:LL->LL->LL}{gV:LV->LV->LV}
end
structure aM(N P:LS)(sc:Scope):Prop where
 kind:sc.kind=.function
 co:sc.isCoroutine=false
 gen:sc.isGenerator=false
 nd:N.Nodup
 pre:N.take P.length=P
 par:∀x∈P,sc.names.lookup x=some .local\/sc.names.lookup x=some .cell
 nofree:∀y∈sc.names,y.2≠.free
def ye{a:Str->Option NameKind}{x:Str}:∀{binds:List (Str×Value)}{m:Str->LO},(∀v,(x,v)∉binds)->bindL a binds m x=m x
 |[],_,_=>rfl
 |(n,v)::r,m,h=>by
  unfold bindL;rw[ye λw hw=>h w (qj _ hw)];split
  .have:x≠n:=by rintro rfl;exact h v qk
   simp[this]
  .rfl
theorem yg{a:Str->Option NameKind}{x:Str}:∀{binds:List (Str×Value)}{m:Str->LO},(∀v,(x,v)∉binds)->bindC a binds m x=m x
 |[],_,_=>rfl
 |(n,v)::r,m,h=>by
  unfold bindC;rw[yg λw hw=>h w (qj _ hw)];split
  .rfl
  .have:x≠n:=by rintro rfl;exact h v qk
   simp[this]
theorem yf{a:Str->Option NameKind}{x:Str}{v:Value}:∀{P:LS}{vs:LL}{i:Nat}{m:Str->LO},P.Nodup->P[i]?=some x->vs[i]?=some v->a x=some .local->
 bindL a (P.zip vs) m x=some v
 |[],_,_,_,_,h,_,_=>by simp at h
 |_::_,[],_,_,_,_,h,_=>by simp at h
 |p::P,w::vs,0,m,nd,h1,h2,hk=>by
  simp at h1 h2;subst h1;subst h2;show bindL a ((p,w)::P.zip vs) m p=_;unfold bindL;rw[ye λv b=>(List.nodup_cons.mp nd).1 (List.of_mem_zip b).1,Q0 hk];simp
 |p::P,w::vs,i+1,m,nd,h1,h2,hk=>by
  show bindL a ((p,w)::P.zip vs) m x=_;unfold bindL;exact yf (i:=i) (List.nodup_cons.mp nd).2 (by simpa using h1) (by simpa using h2) hk
theorem yh{a:Str->Option NameKind}{x:Str}{v:Value}:∀{P:LS}{vs:LL}{i:Nat}{m:Str->LO},P.Nodup->P[i]?=some x->vs[i]?=some v->a x≠some .local->
 bindC a (P.zip vs) m x=some v
 |[],_,_,_,_,h,_,_=>by simp at h
 |_::_,[],_,_,_,_,h,_=>by simp at h
 |p::P,w::vs,0,m,nd,h1,h2,hk=>by
  simp at h1 h2;subst h1;subst h2;show bindC a ((p,w)::P.zip vs) m p=_;unfold bindC;rw[yg λv b=>(List.nodup_cons.mp nd).1 (List.of_mem_zip b).1,qZ hk];simp
 |p::P,w::vs,i+1,m,nd,h1,h2,hk=>by
  show bindC a ((p,w)::P.zip vs) m x=_;unfold bindC;exact yh (i:=i) (List.nodup_cons.mp nd).2 (by simpa using h1) (by simpa using h2) hk
def eU(N:LS)(vs:LV):St:=vs.map some++List.replicate (N.length-vs.length) none
noncomputable def fY(CX:CXT)(P:Program)(w:World)(K:W.Frag)(mg:Str->LO)(base:Heap)(N:LS)(qual:Str)(scope:Scope)(f:Addr)(cd:Value)(A:Around)(outer:List Env)(s:Shared)(H:Hp)(E:XK):Cx where
 prog:=P
 w:=w
 K:=K
 mg:=mg
 base:=base
 A:=A.deeper (envOfC qual scope s.heap.objs.size f cd)
 N:=N
 s₀:=s
 H₀:=H
 env:=envOfC qual scope s.heap.objs.size f cd
 outer:=outer
 stack:=envOfC qual scope s.heap.objs.size f cd::outer
 ex:=[]
 calm:=true
 fn:=λ_=>true
 pn:=[]
 xe:=λe s'=>wpAny (model P w) (A.deeper (envOfC qual scope s.heap.objs.size f cd)) (leaving (envOfC qual scope s.heap.objs.size f cd) e) (λ_ B=>CX outer H s E e B) (λF B=>CX outer H s E F B) s'
theorem y3{a:Scope}{n:Nat}(h:a.names.lookup x=some .cell):∃c,(cellsFrom n a.names []).lookup x=some c:=by
 have q:=PySem.W.cellsFrom_some a.names n [] (.inl h);exact Option.isSome_iff_exists.mp q
theorem Ej{CX:CXT}{N:LS}{cd:Value}{s1:Shared}{E:XK}{vs:LV}
 (S:aM N ps scope) (hd:A.handled=none) (e0:gm P w K mg base A outer s H) (hl:vs.length=ps.length) (r:aB vs us)
 (x:InCallC s s.heap.objs.size (bindL (envOfC qual scope s.heap.objs.size f cd).kindOf (ps.zip us) λ_=>none) (cellsFrom (s.heap.objs.size+1) scope.names []) (bindC (envOfC qual scope s.heap.objs.size f cd).kindOf (ps.zip us) λ_=>none) s1):
 Inv (fY CX P w K mg base N qual scope f cd A outer s H E) [] (eU N vs) H s1:=by
 have t:ps.length<=N.length:=by have:=congrArg List.length S.pre;rw[qJ]at this;lia
 obtain⟨l,tk,rfl,hk⟩:=x.done;have j:∀b:Addr,b∉(fY CX P w K mg base N qual scope f cd A outer s H E).ex:=λb z=>Q5 (show b∈([]:LK)from z) (by simp)
 refine⟨⟨e0.mod,S.kind,U,U,qd _,λy z c l d=>?_,λy g=>?_,λy c _ h=>?_,λ_=>hd,Around.frames_deeper e0.frames,.inr ⟨U,U⟩,λb z=>Q5 z (j b),e0.bs,e0.bsz,λb _ _=>j b,λb z=>Q5 z (j b),e0.funs,e0.frf⟩,
  rfl,e0.bare,Un.kept hk,⟨_,x.toInCall.ns,λi y v l d _=>?_⟩,λy c h=>⟨_,x.cell y c h⟩,e0.hok.fresh (qd _),λy c h=>?_,λp hp=>Q5 (show p∈([]:List (Addr×Obj))from hp) (by simp),e0.hok.kept hk,?_⟩
 .exact name_of_addr x.apart (Qi l) (Qi d)
 .have g:scope.names.lookup y=some .cell\/scope.names.lookup y=some .free:=g;rcases g with g|g
  .exact y3 g
  .exact Q5 U (S.nofree _ (Qi g))
 .exact Nat.le_of_lt (x.above y c (Qi h))
 .have hi:i<vs.length:=by
   unfold eU at d;by_cases hi:i<vs.length
   .exact hi
   .rw[qK (by simpa using hi)]at d;rw[List.getElem?_replicate]at d;split at d<;>cases d
  have ha:vs[i]?=some v:=by
   unfold eU at d;rw[Q6 (by simpa using hi),qD]at d
   cases e:vs[i]? with
   |none=>rw[e]at d;cases d
   |some a=>rw[e]at d;cases d;rfl
  obtain⟨u,hu,o⟩:=r.get ha
  have hp:ps[i]?=some y:=by
   rwa[<- S.pre,List.getElem?_take_of_lt Yo]
  have m:ps.Nodup:=by rw[<- S.pre];exact S.nd.sublist (List.take_sublist _ _)
  exists u,o;rcases S.par y (qy hp)with k|k
  .exact .inl ⟨k,yf m hp hu k⟩
  .obtain⟨c,e⟩:=y3 (n:=s.heap.objs.size+1) k;refine .inr ⟨.inl k,c,e,?_⟩;have q:=x.cell y c e;rw[yh m hp hu (by show scope.names.lookup y≠_;rw[k];decide)]at q;exact q
 .exact e0.hok.fresh (Nat.le_of_lt (x.above y c (Qi h)))
 .unfold eU;show _=N.length;rw[qa,q5,List.length_replicate];lia
theorem EL{CX:CXT}{k:Nat}{c:Arguments}{B kV j pm a ct X:Value}{F M:Option Addr}
 {N:LS}{sp:Sp}(L:K.lookup f=some ⟨X,M,.func (PySem.W.fnOf name qual c body scope B kV j pm F a ct),osl⟩) (C:PySem.W.codeIn K a qual=true) (S:aM N ps scope)
  (len:∀vs H Q E,sp vs H Q E->vs.length=ps.length)
  (i:∀(A:Around)(outer:List Env)(s:Shared)(H:Hp)(vs:LV)(Q:VK)(E:XK),bp k (A.deeper (envOfC qual scope s.heap.objs.size f a))->sp vs H Q E->
   ∃t,PSs (fY CX P w K mg base N qual scope f a A outer s H E) body t/\t { nx:=λ_ H'=>Q .non H',rt:=Q } (eU N vs) H):
  aF P w K mg base CX (k+1) f (PySem.W.fnOf name qual c body scope B kV j pm F a ct) ps sp:=by
  refine⟨len,λA outer s H _ us vs Q E m e0 hb r l=>?_⟩;have hl:=len _ _ _ _ l;have D:K.In s.heap:=e0.mod.kin.keeps λb o e=>(e0.bs b o e).1;have G:s.heap.NoLimit:=e0.mod.nolimit.keeps λb o e=>(e0.bs b o e).1
  have h:∀y∈ps.zip us,scope.names.lookup y.1=some .local\/(scope.names.lookup y.1=some .cell/\((cellsFrom (s.heap.objs.size+1) scope.names []).lookup y.1).isSome=true):=λ⟨n,v⟩ T=>by
   rcases S.par n (List.of_mem_zip T).1 with q|q
   .exact .inl q
   .exact .inr ⟨q,PySem.W.cellsFrom_some _ _ _ (.inl q)⟩
  refine codeAny_call_function m.depth (D _ _ L) U S.co S.gen U (PySem.W.codeRec_of D C) (hb _ _ _ _ ?_);refine wpAny_newFunctionEnv_cells S.kind h λenv R s1 x=>?_;subst R;refine⟨G.keeps x.toInCall.keep,codeAny_func ?_⟩;obtain⟨t,ht,K0⟩:=i A outer s H vs Q E (m.deeper _) l;have I:Inv (fY CX P w K mg base N qual scope f a A outer s H E) [] (eU N vs) H s1:=Ej S m.hd e0 hl r x;refine wpAny_mono (ht [] s1 (eU N vs) H _ I K0) (λfl p g=>?_) λe p g=>g
  have fin:∀{d:St}{H':Hp}{v:V}{u:Value},Inv (fY CX P w K mg base N qual scope f a A outer s H E) [] d H' p->aC v u->Q v H'->CE outer P w H s Q u p:=
   λ{d H' v u} J z q=>⟨v,H',J.os,J.bare,J.base,J.hok,z,q⟩
  cases fl with
  |ret u=>
   obtain⟨v,d,H',J,z,q⟩:=g;exact fin J z q
  |next=>
   obtain⟨d,H',J,q⟩:=g;exact fin (v:=V.non) (u:=Value.none) J U q
  |brk=>
   obtain⟨_,_,_,q⟩:=g;exact False.elim q
  |cont=>
   obtain⟨_,_,_,q⟩:=g;exact False.elim q
end L2
variable {sp:L2.Sp}
namespace L2
open PySem PySem.Spec PyProof.Rows
section
variable {p:Pos}{es:LP}{t:TA}{id T:String}{r:LV->Hp->VK->Prop}
def tCB(r:LV->Hp->VK->Prop)(t:TA):TE:=λO H Q=>t O H λvs H1=>r vs H1 Q
theorem bv(g:bf X (.builtin id) r)(hg:Gl X x)(j:X.mg x=none)(n:bootBuiltins x=some (.builtin id))(ha:PA X (e::es) t)(hn:x≠"__name__":=by decide)(d:(x == ("__debug__":Str))=false:=by decide)
 (m:starEach (e::es) X.env=(false,eval e X.env)::starEach es X.env:=by rfl) (c:(backTo pos (starEach es X.env)).any (·.1)=false:=by rfl):PE X (.Call (.Name x p) (e::es) [] pos) (tCB r t):=by
 intro a s b H Q I h;refine wpAny_Call_Name_kw (fQ I hg j n ?_ hn d);exact PyProof.Rows.callWith_builtin1 (thn (ha pos a s b H _ I h) λus s1 ⟨vs,l,i,f,k⟩=>g a s1 b l vs us Q i f k) m c
theorem bF(g:bf X (.type T) r)(hg:Gl X x)(j:X.mg x=none)(n:bootBuiltins x=some (.type T))(ha:PA X (e::es) t)(hn:x≠"__name__":=by decide)(d:(x == ("__debug__":Str))=false:=by decide)
 (m:starEach (e::es) X.env=(false,eval e X.env)::starEach es X.env:=by rfl) (c:(backTo pos (starEach es X.env)).any (·.1)=false:=by rfl):PE X (.Call (.Name x p) (e::es) [] pos) (tCB r t):=by
 intro a s b H Q I h;refine wpAny_Call_Name_kw (fQ I hg j n ?_ hn d);exact PyProof.Rows.callWith_type1 (thn (ha pos a s b H _ I h) λus s1 ⟨vs,l,i,f,k⟩=>g a s1 b l vs us Q i f k) m c
end
end L2
namespace HT
open PySem PyProof.Rows
section
open PySem.SeqAt
open PySem.AutoSeq1 (wpAny_loadPart')
open PySem.MeetsSeq PySem.MeetsSeq2 PySem.MeetsSeq3
end
theorem cat_tup{t:Addr}{vs ws:LL}(ht:IsTup s.heap t vs.toArray)(hb:IsTup s.heap b ws.toArray)(k:vs≠[])
 (m:ws=[]->Q (.ref t) s) (l:ws≠[]->Q (.ref s.heap.objs.size) { s with heap:=s.heap.push { cls:=.type "tuple",data:=.seq (vs++ws).toArray } })
 (hsz:vs.length+ws.length<=sizeLine):wpAny (model prog w) A (binaryOp .Add (.ref t) (.ref b)) Q E s:=by
 obtain⟨⟨_,i,_,sl⟩,c,j,n,hd⟩:=id ht;obtain⟨⟨_,h,_,d⟩,a,f,n2,g⟩:=id hb;simp only at j hd f g;subst j hd f g;have e:vs.toArray++ws.toArray=(vs++ws).toArray:=by simp
 by_cases hw:ws=[]
 .exact concat_meets ⟨_,c,U⟩ ⟨_,a,U⟩ noFill_tuple_add seq_tuple_add PySem.F.slot_tuple_add PySem.F.entry_tuple_add (PySem.F.args_tuple_add_2 _ _)
   (tuple_addW1 t b vs.toArray ws.toArray n n2 i h sl d (by simpa using k) (by simp[hw])) ⟨c,a,m hw⟩
 .refine concat_meets ⟨_,c,U⟩ ⟨_,a,U⟩ noFill_tuple_add seq_tuple_add PySem.F.slot_tuple_add PySem.F.entry_tuple_add (PySem.F.args_tuple_add_2 _ _)
   (tuple_addW2 t b vs.toArray ws.toArray n n2 i h sl d (by simpa using k) (by simpa using hw) (by rwa[qA,qA])) ⟨c,a,?_⟩
  rw[e];exact l hw
noncomputable def sIx(n d:Nat):Option Int->Nat
 |none=>d
 |some v=>if v<0 then(v+(n:Int)).toNat else min v.toNat n
theorem sIx_none(n d:Nat):sIx n d none=d:=U
theorem sIx_nat(n d k:Nat):sIx n d (some (k:Int))=min k n:=by
 show(if(k:Int)<0 then((k:Int)+(n:Int)).toNat else min (k:Int).toNat n)=min k n;rw[qZ Yo,qX]
theorem Be(n d:Nat)(hd:d<=n)(o:Option Int):sIx n d o<=n:=by
 cases o with
 |none=>exact hd
 |some v=>
  show(if v<0 then(v+(n:Int)).toNat else min v.toNat n)<=n;by_cases hv:v<0
  .rw[Q0 hv];lia
  .rw[qZ hv];exact Nat.min_le_right _ _
theorem y1(v:Int)(n d:Nat):(if v<0 then max (v+(n:Int)) 0 else min v (n:Int))=((sIx n d (some v):Nat):Int):=by
 show(if v<0 then max (v+(n:Int)) 0 else min v (n:Int))=(((if v<0 then(v+(n:Int)).toNat else min v.toNat n):Nat):Int);by_cases hv:v<0
 .simp only[Q0 hv];lia
 .simp only[qZ hv];lia
theorem FZ(lo hi:Option Int)(n:Nat):Builtin.Slice.sliceAdjust lo hi 1 (n:Int)=(((sIx n 0 lo:Nat):Int),((sIx n n hi:Nat):Int)):=by
 have a:¬ ((1:Int)<0):=Yo;unfold Builtin.Slice.sliceAdjust;simp only[a,if_false];refine Prod.ext ?_ ?_
 .cases lo with
  |none=>rfl
  |some v=>exact y1 v n 0
 .cases hi with
  |none=>rfl
  |some v=>exact y1 v n n
theorem C2(i j:Nat):Builtin.Slice.slicePlaces (i:Int) (j:Int) 1=j-i:=by
 unfold Builtin.Slice.slicePlaces;have a:(1:Int) > 0:=Yo;simp only[a,if_true,Int.ediv_one];split<;>lia
theorem ut{v:Value}{o:Option Int}{Q:Option Int->Shared->Prop}(p:IsPart v o)(h:Q o s):wpAny (model prog w) A (Builtin.Slice.slicePartIndex v) Q E s:=by
 cases p with
 |none=>exact slicePart_none h
 |int i t=>exact slicePart_int h
theorem Ap{sl:Addr}{c d:Value}{lo hi:Option Int}{n:Nat}{Q:Int×Int×Nat->Shared->Prop}(e:s.heap.IsSliceOf sl c d .none)(pl:IsPart c lo)(f:IsPart d hi)
 (h:Q (((sIx n 0 lo:Nat):Int),1,sIx n n hi-sIx n 0 lo) s):wpAny (model prog w) A (Builtin.Slice.sliceApplied (.ref sl) (pure (n:Int))) Q E s:=by
 obtain⟨os,a,_,b⟩:=id e;unfold Builtin.Slice.sliceApplied Builtin.Slice.sliceFields;refine q4 (q4 (wpAny_field a b (x:=c) U (q4 (wpAny_field a b (x:=d) U (q4 (wpAny_field a b (x:=.none) U (qc ?_)))))));refine q4 (slicePart_none ?_);show wpAny _ _ (if((1:Int) == 0)=true then _ else _) _ _ s;rw[qZ Yk];refine q4 (ut pl (q4 (ut f (q4 (qc ?_)))));show wpAny _ _ (match Builtin.Slice.sliceAdjust lo hi 1 (n:Int)with|(lo,hi)=>pure (lo,(1:Int),Builtin.Slice.slicePlaces lo hi 1)) _ _ s;rw[FZ lo hi n];show wpAny _ _ (pure (((sIx n 0 lo:Nat):Int),(1:Int),Builtin.Slice.slicePlaces ((sIx n 0 lo:Nat):Int) ((sIx n n hi:Nat):Int) 1)) _ _ s;rw[C2];exact qc h
theorem C3(xs:LD)(i k:Nat):((List.range k).filterMap λ(m:Nat)=>xs[((i:Int)+(m:Int) * 1).toNat]?).toArray=((xs.toList.drop i).take k).toArray:=by
 have e:(λ(m:Nat)=>xs[((i:Int)+(m:Int) * 1).toNat]?)=λm=>xs[i+m]?:=by
  funext m
  have:((i:Int)+(m:Int) * 1).toNat=i+m:=Yo;rw[this]
 rw[e];have:=pick_run xs i k;rw[List.filterMap_map]at this;have a:((λx=>xs[x]?) ∘ λx=>i+x)=λm=>xs[i+m]?:=U;rw[a]at this;rw[this]
theorem getItem_tuple_cut{t sl:Addr}{c i:Value}{lo hi:Option Int}(ht:IsTup s.heap t items)(d:s.heap.IsSliceOf sl c i .none)(pl:IsPart c lo)(j:IsPart i hi)
 (hw:¬ (sIx items.size 0 lo=0/\sIx items.size items.size hi=items.size))
 (h:Q (.ref s.heap.objs.size) { s with heap:=s.heap.push { cls:=.type "tuple",data:=.seq ((items.toList.drop (sIx items.size 0 lo)).take (sIx items.size items.size hi-sIx items.size 0 lo)).toArray } })
 (hsz:items.size<=sizeLine):wpAny (model prog w) A (getItem (.ref t) (.ref sl)) Q E s:=by
 have a:sizeOk (.seq ((items.toList.drop (sIx items.size 0 lo)).take (sIx items.size items.size hi-sIx items.size 0 lo)).toArray):=by
  show((items.toList.drop (sIx items.size 0 lo)).take (sIx items.size items.size hi-sIx items.size 0 lo)).toArray.size<=sizeLine;rw[qA,qJ,qY,qL];lia
 have k:sIx items.size items.size hi<=items.size:=Be _ _ (qd _) hi;obtain⟨os,e,f,_⟩:=id d;have g:s.TypeIs (.ref sl) "slice":=⟨os,e,f⟩;unfold getItem
 try with_reducible refine Qv ?_
 first|refine q4 (qc ?_)|skip
 refine q4 (wpAny_sequenceKey ht.typeIs Yk ?_)
 refine q4 (wpAny_callSpecial?_slot (name:=Str.ofString "__getitem__") ht.typeIs PyProof.Rows.slot_tuple_getitem
  (Qj PyProof.Rows.slot_tuple_getitem ht.typeIs entry_tuple_getitem ?_ (args_tuple_getitem _ _)))
 show wpAny _ _ (Builtin.Tuple.tupleItemsOf (.ref t) >>= _) _ _ s;refine q4 (tupleItemsOf_ ht ?_);refine q4 (wpAny_typeOf g ?_);rw[Q0 Yk];refine q4 (Ap d pl j ?_)
 have b:¬ ((((sIx items.size 0 lo:Nat):Int) == 0 && (1:Int) == 1 && (sIx items.size items.size hi-sIx items.size 0 lo) == items.size)=true):=by
  intro q;rw[Bool.and_eq_true,Bool.and_eq_true]at q;have l:((sIx items.size 0 lo:Nat):Int)=0:=eq_of_beq q.1.1;have n:sIx items.size items.size hi-sIx items.size 0 lo=items.size:=eq_of_beq q.2;exact hw ⟨Yo,Yo⟩
 show wpAny _ _ (if(((sIx items.size 0 lo:Nat):Int) == 0 && (1:Int) == 1 && (sIx items.size items.size hi-sIx items.size 0 lo) == items.size)=true then _ else _) _ _ s;rw[qZ b,C3]
 first
  |exact q4 (m:=Builtin.Tuple.tupleExact _) (wpAny_newObj_type (qc ⟨_,rfl,qc h⟩) a)
  |exact q4 (m:=Builtin.Tuple.tupleExact _) (wpAny_newObj_type (q4 (qc (qc ⟨_,rfl,qc h⟩))) a)
  |exact q4 (q4 (m:=Builtin.Tuple.tupleExact _) (wpAny_newObj_type (qc (qc ⟨_,rfl,qc h⟩)) a))
  |exact q4 (q4 (m:=Builtin.Tuple.tupleExact _) (wpAny_newObj_type (qc ⟨_,rfl,qc h⟩) a))
end HT
namespace L2
open PySem PySem.Spec PyProof.Rows
abbrev TO:=St->Hp->(Option Int->Hp->Prop)->Prop
def PO(X:Cx)(e:Option Expr)(t:TO):Prop:=
 ∀(ζ:List (Addr×Obj))(s:Shared)(O:St)(H:Hp)(Q:Option Int->Hp->Prop),Inv X ζ O H s->t O H Q->
  wpAny (model X.prog X.w) X.A (evalPart e X.env) (λu s'=>∃o H',Inv X ζ O H' s'/\IsPart u o/\Q o H') X.xe s
def zM:TO:=λ_ H Q=>Q none H
def zJ(t:TE):TO:=λO H Q=>t O H λx H1=>∃i,x=.int i/\Q (some i) H1
section
variable {lo hi:Option Expr}{tl th:TO}{p2:Pos}
theorem oI:PO X none zM:=by
 intro _ s _ H Q I h;rw[evalPart_none];exact qc ⟨none,H,I,.none,h⟩
theorem iS(h:PE X e te):PO X (some e) (zJ te):=by
 intro a s d H Q I hw;rw[evalPart_some];refine thn (h a s d H _ I hw) λu s1 ⟨x,g,c,b,f⟩=>?_;obtain⟨i,rfl,q⟩:=f;obtain⟨t,rfl⟩:=b;exact⟨some i,g,c,.int i t,q⟩
def SlR(X:Cx)(r:V->Option Int->Option Int->Hp->VK->Prop):Prop:=
 ∀(ζ:List (Addr×Obj))(s:Shared)(O:St)(H:Hp)(x:V)(v F B:Value)(lo hi:Option Int)(sl:Addr)(Q:VK),Inv X ζ O H s->aC x v->s.heap.IsSliceOf sl F B .none->IsPart F lo->IsPart B hi->r x lo hi H Q->
  ∃T id,typeLookup (.type T) "__getitem__"=pure (some (.builtin id))/\s.TypeIs v T/\wpAny (model X.prog X.w) X.A (getItem v (.ref sl)) (EP X ζ O Q) X.xe s
def tSl(r:V->Option Int->Option Int->Hp->VK->Prop)(te:TE)(tl th:TO):TE:=λO H Q=>te O H λx H1=>tl O H1 λl H2=>th O H2 λu B=>r x l u B Q
theorem ku{r:V->Option Int->Option Int->Hp->VK->Prop}(j:SlR X r)(z:PE X e te)(hl:PO X lo tl)(hu:PO X hi th):PE X (.Subscript e (.Slice lo hi none p2) pos) (tSl r te tl th):=by
 intro a s d H Q I h;refine Subscript_ (thn (z a s d H _ I h) λv s1 ⟨x,y,E,C,F⟩=>?_);refine wpAny_Slice (thn (hl a s1 d y _ E F) λg D ⟨l,o,t,pl,G⟩=>thn (hu a D d o _ t G) λf c ⟨u,i,k,n,B⟩=>?_);rw[evalPart_none];refine qc ?_;have p:Inv X a d i { c with heap:=c.heap.push { cls:=.type "slice",data:=.fields #[g,f,.none] } }:=k.kept (t':=c.toks) λb _ q=>q9 _ q;obtain⟨T,_,m,ht,hg⟩:=j a { c with heap:=c.heap.push { cls:=.type "slice",data:=.fields #[g,f,.none] } } d i x v g f l u c.heap.objs.size Q p C (Heap.IsSliceOf.new ..) pl n B;show wpAny (model X.prog X.w) X.A (subscriptTail e (.Slice lo hi none p2) v (.ref c.heap.objs.size)) (EP X a d Q) X.xe { c with heap:=c.heap.push { cls:=.type "slice",data:=.fields #[g,f,.none] } };exact tail_any (ops:=[.ref c.heap.objs.size,v]) ht m hg (by with_unfolding_all rfl)
noncomputable def dq(xs:LV)(lo hi:Option Int):LV:=(xs.drop (HT.sIx xs.length 0 lo)).take (HT.sIx xs.length xs.length hi-HT.sIx xs.length 0 lo)
theorem xR(xs:LV)(lo hi:Option Int):(dq xs lo hi).length<=xs.length:=by
 unfold dq;rw[qJ,qY];lia
def Bo(K:W.Frag):V->Option Int->Option Int->Hp->VK->Prop:=λx lo hi H Q=>∃a xs,x=.ref a/\SqT K H a xs /\
 ¬ (HT.sIx xs.length 0 lo=0/\HT.sIx xs.length xs.length hi=xs.length)/\∀p,H p=none->Q (.ref p) (upd H p (.tup (dq xs lo hi)))
theorem Aq:SlR X (Bo X.K):=by
 intro _ s _ H x v _ _ lo hi sl Q I e f pl i h;obtain⟨a,xs,rfl,g,hw,q⟩:=h;cases e;obtain⟨d,r,ht,hz⟩:=I.tuple g;have c:d.toArray.size=xs.length:=by rw[qA];exact r.length.symm
 exists "tuple",_,PyProof.Rows.slot_tuple_getitem.lookup,ht.typeIs;refine HT.getItem_tuple_cut ht f pl i (by rwa[c]) ?_ (by rw[c];exact hz);rw[c];refine⟨.ref s.heap.objs.size,_,I.laid (t':=s.toks) (o:=.tup (dq xs lo hi)) (λb _ q=>q9 _ q) (qd _) ?_,U,q _ (I.hok.fresh (qd _))⟩;exact⟨⟨qx (xR xs lo hi) hz,_,qo _ U,U⟩,_,(r.drop (HT.sIx xs.length 0 lo)).take (HT.sIx xs.length xs.length hi-HT.sIx xs.length 0 lo),IsTup.new _ _⟩
def uT(K:W.Frag):R2:=λx y H Q=>∃a b xs ys,x=.ref a/\y=.ref b/\SqT K H a xs/\SqT K H b ys/\xs≠[]/\xs.length+ys.length<=sizeLine /\
 (ys=[]->Q (.ref a) H)/\(ys≠[]->∀p,H p=none->Q (.ref p) (upd H p (.tup (xs++ys))))
theorem aB.nil_iff{xs:LV}(r:aB xs us):us=[]↔xs=[]:=by
 cases r with
 |nil=>simp
 |cons _ _=>simp
theorem gQ:OpR X (binaryOp .Add) (uT X.K):=by
 intro _ s _ H x y v u Q I e f h;obtain⟨a,b,xs,ys,rfl,rfl,ha,hb,g,hz,i,k⟩:=h;cases e;cases f;obtain⟨_,d,j,_⟩:=I.tuple ha;obtain⟨_,c,p2,_⟩:=I.tuple hb;refine HT.cat_tup j p2 (λz=>g (d.nil_iff.mp z)) (λz=>⟨.ref a,H,I,U,i (c.nil_iff.mp z)⟩) (λz=>?_) (by rwa[<- d.length,<- c.length]);refine⟨.ref s.heap.objs.size,_,I.laid (t':=s.toks) (o:=.tup (xs++ys)) (λb _ q=>q9 _ q) (qd _) ?_,U,k (λw=>z (c.nil_iff.mpr w)) _ (I.hok.fresh (qd _))⟩;exact⟨⟨by rwa[qa],_,qo _ U,U⟩,_,d.append c,IsTup.new _ _⟩
end
def ixN(n:Nat)(i:Int):Option Nat:=if 0<=i then(if i<n then some i.toNat else none)else if -(n:Int)<=i then some (i+n).toNat else none
noncomputable def atI(xs:List α)(i:Int):Option α:=(ixN xs.length i).bind λj=>xs[j]?
theorem wI{n:Nat}{i:Int}(h:ixN n i=some j):seqIndex? i n=some j/\j<n/\-(n:Int)<=i/\i<n:=by
 unfold ixN at h;by_cases h0:0<=i
 .rw[Q0 h0]at h;by_cases h1:i<n
  .rw[Q0 h1]at h;have e:i.toNat=j:=qI h;exact⟨by rw[seqIndex_of h0 h1,e],Yo,Yo,h1⟩
  .rw[qZ h1]at h;cases h
 .rw[qZ h0]at h;by_cases h1:-(n:Int)<=i
  .rw[Q0 h1]at h;have e:(i+n).toNat=j:=qI h;exact⟨by rw[seqIndex_neg Yo h1,e],Yo,h1,Yo⟩
  .rw[qZ h1]at h;cases h
theorem rM{xs:List α}{i:Int}{v:α}(h:atI xs i=some v):∃j,seqIndex? i xs.length=some j/\xs[j]?=some v/\j<xs.length/\-(xs.length:Int)<=i/\i<xs.length:=by
 unfold atI at h
 cases e:ixN xs.length i with
 |none=>rw[e]at h;cases h
 |some j=>
  rw[e]at h;obtain⟨c,a,b,d⟩:=wI e;exact⟨j,c,h,a,b,d⟩
theorem gc{xs:List α}{v:α}(h:xs[j]?=some v):atI xs (j:Int)=some v:=by
 have a:j<xs.length:=(qe.mp h).1
 have e:ixN xs.length (j:Int)=some j:=by
  unfold ixN;rw[Q0 Yo,Q0 Yo];simp
 unfold atI;rw[e];exact h
theorem yp(xs:List α)(v:α):atI (xs++[v]) (-1)=some v:=by
 have hl:(xs++[v]).length=xs.length+1:=by simp
 have e:ixN (xs++[v]).length (-1)=some xs.length:=by
  unfold ixN;rw[hl,qZ Yk,Q0 Yo]
  congr 1
  lia
 unfold atI;rw[e];show(xs++[v])[xs.length]?=some v;simp
def Gc(b:Expr):Prop:=∀o i,subscripted b false o i=operate [o,i] (getItem o i)
def IxR(X:Cx)(r:R2):Prop:=
 ∀(value B:Expr)(ζ:List (Addr×Obj))(s:Shared)(O:St)(H:Hp)(x y:V)(v u:Value)(Q:VK),Inv X ζ O H s->aC x v->aC y u->r x y H Q->
  subscripted B false v u=operate [v,u] (getItem v u)->wpAny (model X.prog X.w) X.A (subscriptTail value B v u) (EP X ζ O Q) X.xe s
def MtR(X:Cx)(id:String)(r:V->LV->Hp->VK->Prop):Prop:=
 ∀(ζ:List (Addr×Obj))(s:Shared)(O:St)(H:Hp)(x:V)(xs:LV)(v:Value)(us:LL)(Q:VK),Inv X ζ O H s->aC x v->aB xs us->r x xs H Q->
  wpAny (model X.prog X.w) X.A (call (.builtin id) (v::us)) (EP X ζ O Q) X.xe s
section
variable {a b:Expr}{tb:TE}
theorem aj{r:R2}(d:IxR X r)(ha:PE X a ta)(hb:PE X b tb)(i:Gc b):PE X (.Subscript a b pos) (tOp r ta tb):=by
 intro c s g H Q I h;exact Subscript_ (rJ ha hb I h λv u e x y l j f k q=>d a b c e g l x y v u Q j f k q (i _ _))
def Bw(K:W.Frag):R2:=λx y H Q=>∃p xs i v,x=.ref p/\y=.int i/\SqL K H p xs/\atI xs i=some v/\Q v H
def Bu(K:W.Frag):R2:=λx y H Q=>∃p xs i v,x=.ref p/\y=.int i/\SqT K H p xs/\atI xs i=some v/\Q v H
def Bv:R2:=λx y H Q=>∃z i c,x=.str z/\y=.int i/\z.length<=sizeLine/\atI z.cps.toList i=some c/\Q (.str ⟨#[c]⟩) H
theorem Eb:IxR X (Bw X.K):=by
 intro _ _ a s k H x y v u Q I B n h d;obtain⟨p,xs,i,z,rfl,rfl,m,D,q⟩:=h;cases B;obtain⟨t,rfl⟩:=n;obtain⟨e,r,pl,hz⟩:=I.list m;obtain⟨j,b,A,_,o,C⟩:=rM D;obtain⟨w,g,f⟩:=r.get A;have hl:=r.length;have hn:=hU;have fin:EP X a k Q w s:=⟨z,H,I,f,q⟩;by_cases h0:0<=i
 .have c:i.toNat=j:=by
   rw[seqIndex_of h0 C]at b;exact qI b
  exact item_listR pl.isList h0 Yo (by rw[c];simpa using g) fin d
 .have c:(i+(e.toArray.size:Int)).toNat=j:=by
   rw[seqIndex_neg Yo o]at b;rw[qA,<- hl];exact qI b
  exact subscriptTail_builtinR (x:=w) pl.isList.typeIs slot_list_getitem.lookup
   (wpAny_getItem_list_neg (Q:=λr l=>r=w/\EP X a k Q r l) pl.isList Yo (by rw[qA]<;>lia) Yo (by rw[c];simpa using g) ⟨U,fin⟩) d
theorem Ea:IxR X (Bu X.K):=by
 intro _ _ a s c H x y v u Q I g l h k;obtain⟨p,xs,i,z,rfl,rfl,d,n,q⟩:=h;cases g;obtain⟨t,rfl⟩:=l;obtain⟨_,r,pl,hz⟩:=I.tuple d;obtain⟨j,f,e,_,_,_⟩:=rM n;obtain⟨w,m,b⟩:=r.get e;have hl:=r.length;have hn:=hU;have fin:EP X a c Q w s:=⟨z,H,I,b,q⟩
 exact subscriptTail_builtinR (x:=w) pl.typeIs slot_tuple_getitem.lookup
  (getItem_tuple (j:=j) (Q:=λr o=>r=w/\EP X a c Q r o) pl Yo Yo (by rwa[qA,<- hl]) (by simpa using m) ⟨U,fin⟩) k
theorem wG:IxR X Bv:=by
 intro _ _ _ s _ H x y v u Q I d k h f;obtain⟨z,i,c,rfl,rfl,hz,l,q⟩:=h;obtain⟨t,rfl⟩:=d;obtain⟨t',rfl⟩:=k;obtain⟨j,a,b,_,m,e⟩:=rM l;have hl:z.cps.toList.length=z.length:=by simp[Str.length]
 rw[hl]at a m e;have hn:=hU
 exact tail_any (typeIs_str s z t) slot_str_getitem.lookup (getItem_str (c:=c) (by
  have n:decide (i < -(2 ^ 63:Int))=false:=Q4 Yo;have g:decide (i >= 2 ^ 63)=false:=Q4 Yo
  rw[n,g,Bool.or_false]) (by rw[a];simpa using b) ⟨.str ⟨#[c]⟩,H,I.tok _,⟨_,U⟩,q⟩) f
theorem DJ(a:LL)(n j:Nat)(u:Value):Obj.mapSeq (·.setIfInBounds j u) { cls:=.type "list",data:=.seq a.toArray n }={ cls:=.type "list",data:=.seq (a.set j u).toArray n }:=by
 simp[Obj.mapSeq]
theorem Inv.lst{a:List (Addr×Obj)}{b:St}{H:Hp}{s:Shared}{p:Addr}{xs:LV}(I:Inv X a b H s)(h:H p=some (.lst xs)):
 ∃(η:LL)(n:Nat),aB xs η/\s.heap.get? p=some { cls:=.type "list",data:=.seq η.toArray n }/\xs.length<=sizeLine:=by
 obtain⟨z,η,n,r,e⟩:=I.hok p _ h;exact⟨η,n,r,e,z⟩
theorem Inv.lstUpd{p:Addr}{xs ys:LV}{its':LL}{n a:Nat}{f:Obj->Obj}(I:Inv X ζ O H s)(h:H p=some (.lst xs))
 (d:s.heap.get? p=some { cls:=.type "list",data:=.seq η.toArray n }) (c:f { cls:=.type "list",data:=.seq η.toArray n }={ cls:=.type "list",data:=.seq its'.toArray a }) (r:aB ys its') (hz:ys.length<=sizeLine) (t:Nat):
 Inv X ζ O (upd H p (.lst ys)) { s with heap:=s.heap.update p f,toks:=t }:=by
 have e:(s.heap.update p f).get? p=some { cls:=.type "list",data:=.seq its'.toArray a }:=by
  rw[Qh f d (by rw[c]<;>rfl),c]
 refine I.write (x:=p) (e:=p) (by rw[h];trivial) (.inl U) (λb u hb q=>(Qt _ _ (Ne.symm hb)).trans q) ⟨_,e⟩ ?_;exact⟨hz,its',a,r,e⟩
def Br:V->V->V->Hp->(Hp->Prop)->Prop:=λo i v H Q=>∃p xs k j,o=.ref p/\i=.int k/\H p=some (.lst xs)/\ixN xs.length k=some j/\Q (upd H p (.lst (xs.set j v)))
theorem uA:yv X Br:=by
 intro c s m H o i v _ _ u Q I ro w l h;obtain⟨p,xs,k,j,rfl,rfl,hp,x,q⟩:=h;cases ro;obtain⟨t,rfl⟩:=w;obtain⟨b,n,r,d,hz⟩:=I.lst hp;obtain⟨a,_,f,g⟩:=wI x;have hl:=r.length;have hn:=hU
 have e:Inv X c m (upd H p (.lst (xs.set j v))) { s with heap:=s.heap.update p (Obj.mapSeq (·.setIfInBounds j u)) }:=
  I.lstUpd hp d (DJ b n j u) (r.set l j) (by rwa[List.length_set]) s.toks
 by_cases h0:0<=k
 .have hk:k.toNat=j:=by
   rw[seqIndex_of h0 g]at a;exact qI a
  exact PySem.W.ki_setAt d h0 Yo (by rwa[qA,<- hl]) (by rw[hk];exact⟨_,e,q⟩)
 .have hk:(k+(b.toArray.size:Int)).toNat=j:=by
   rw[seqIndex_neg Yo f]at a;rw[qA,<- hl];exact qI a
  exact PySem.W.ki_setBack d Yo (by rwa[qA,<- hl]) Yo (by rw[hk];exact⟨_,e,q⟩)
theorem An(lo hi:Option Int)(n:Nat):(sliceBounds lo hi none n).1=((HT.sIx n 0 lo:Nat):Int)/\(sliceBounds lo hi none n).2.1=((HT.sIx n n hi:Nat):Int)/\(sliceBounds lo hi none n).2.2=1:=by
 refine⟨?_,?_,U⟩
 .cases lo with
  |none=>simp[sliceBounds,HT.sIx]
  |some i=>
   simp only[sliceBounds,HT.sIx,Option.getD_none,show(1:Int) > 0 by decide,if_true];by_cases h:i<0
   .simp only[h,if_true]<;>lia
   .simp only[h,if_false]<;>lia
 .cases hi with
  |none=>simp[sliceBounds,HT.sIx]
  |some i=>
   simp only[sliceBounds,HT.sIx,Option.getD_none,show(1:Int) > 0 by decide,if_true];by_cases h:i<0
   .simp only[h,if_true]<;>lia
   .simp only[h,if_false]<;>lia
theorem Ao(a:LL)(lo hi:Option Int):slicePick a.toArray lo hi none=((a.drop (HT.sIx a.length 0 lo)).take (HT.sIx a.length a.length hi-HT.sIx a.length 0 lo)).toArray:=by
 obtain⟨d,b,c⟩:=An lo hi a.toArray.size;unfold slicePick;rw[d,b,c];simp only[sliceRange_one,pick_run,qA]<;>rfl
def Bq(K:W.Frag):V->Option Int->Option Int->Hp->VK->Prop:=λx lo hi H Q=>∃a xs,x=.ref a/\SqL K H a xs/\∀p,H p=none->Q (.ref p) (upd H p (.lst (dq xs lo hi)))
theorem uu:SlR X (Bq X.K):=by
 intro _ s _ H x v _ _ lo hi sl Q I d e pl g h;obtain⟨a,xs,rfl,f,q⟩:=h;cases d;obtain⟨_,r,ht,hz⟩:=I.list f;have c:=r.length;exists "list",_,slot_list_getitem.lookup,ht.isList.typeIs;refine wpAny_getItem_list_slice ht.isList e pl g .none (by simp) ?_ (by rw[qA]<;>lia);rw[Ao,<- c];refine⟨.ref s.heap.objs.size,_,I.laid (t':=s.toks) (o:=.lst (dq xs lo hi)) (λb _ q=>q9 _ q) (qd _) ?_,U,q _ (I.hok.fresh (qd _))⟩;exact⟨qx (xR xs lo hi) hz,_,0,(r.drop (HT.sIx xs.length 0 lo)).take (HT.sIx xs.length xs.length hi-HT.sIx xs.length 0 lo),qo _ U⟩
noncomputable def dU:V->Bool
 |.non=>true
 |.bl _=>true
 |.int _=>true
 |.str _=>true
 |_=>false
noncomputable def eqV:V->V->Bool
 |.non,.non=>true
 |.bl a,.bl b=>a == b
 |.bl a,.int b=>(if a then 1 else 0) == b
 |.int a,.bl b=>a == (if b then 1 else 0)
 |.int a,.int b=>a == b
 |.str a,.str b=>a == b
 |_,_=>false
theorem EZ{x:V}{v:Value}(e:aC y u)(c:aC x v)(f:dU y=true)(d:dU x=true):SeqAt.EqAt A s u v (eqV y x):=by
 cases y with
 |non=>
  cases e
  cases x with
  |non=>cases c;exact SeqAt.EqAt.same _
  |bl b=>cases c;exact SeqAt.EqAt.none_bool b
  |int b=>obtain⟨t,rfl⟩:=c;exact SeqAt.EqAt.none_int b t
  |str b=>obtain⟨t,rfl⟩:=c;exact SeqAt.EqAt.none_str b t
  |_=>exact Q5 (show false=true from d) qh
 |bl a=>
  cases e
  cases x with
  |non=>cases c;exact SeqAt.EqAt.bool_none a
  |bl b=>cases c;exact SeqAt.EqAt.bool_bool a b
  |int b=>obtain⟨t,rfl⟩:=c;exact SeqAt.EqAt.bool_int a b t
  |str b=>obtain⟨t,rfl⟩:=c;exact SeqAt.EqAt.bool_str a b t
  |_=>exact Q5 (show false=true from d) qh
 |int a=>
  obtain⟨t',rfl⟩:=e
  cases x with
  |non=>cases c;exact SeqAt.EqAt.int_none a t'
  |bl b=>cases c;exact SeqAt.EqAt.int_bool a t' b
  |int b=>obtain⟨t,rfl⟩:=c;exact SeqAt.EqAt.int_int a t' b t
  |str b=>obtain⟨t,rfl⟩:=c;exact SeqAt.EqAt.int_str a t' b t
  |_=>exact Q5 (show false=true from d) qh
 |str a=>
  obtain⟨t',rfl⟩:=e
  cases x with
  |non=>cases c;exact SeqAt.EqAt.str_none a t'
  |bl b=>cases c;exact SeqAt.EqAt.str_bool a t' b
  |int b=>obtain⟨t,rfl⟩:=c;exact SeqAt.EqAt.str_int a t' b t
  |str b=>obtain⟨t,rfl⟩:=c;exact SeqAt.EqAt.str_str a t' b t
  |_=>exact Q5 (show false=true from d) qh
 |_=>exact Q5 (show false=true from f) qh
noncomputable def eqU(x:V)(u:Value):Bool:=match u with
 |.none=>eqV .non x
 |.bool b=>eqV (.bl b) x
 |.int i _=>eqV (.int i) x
 |.str z _=>eqV (.str z) x
 |_=>false
theorem xE{x:V}(r:aC y u)(f:dU y=true):eqU x u=eqV y x:=by
 cases y with
 |non=>cases r;rfl
 |bl b=>cases r;rfl
 |int i=>obtain⟨t,rfl⟩:=r;rfl
 |str z=>obtain⟨t,rfl⟩:=r;rfl
 |_=>exact Q5 (show false=true from f) qh
theorem rN{x:V}:∀{xs:LV}{us:LL},aB xs us->xs.all dU=true->us.any (eqU x)=xs.any λy=>eqV y x
 |_,_,.nil,_=>rfl
 |y::xs,u::us,.cons r t,f=>by
  rw[List.all_cons,Bool.and_eq_true]at f;rw[List.any_cons,List.any_cons,xE r f.1,rN t f.2]
theorem pv{A:Around}{s:Shared}{x:V}{v:Value}(b:aC x v)(a:dU x=true):∀{xs:LV}{us:LL},aB xs us->xs.all dU=true->∀u∈us,SeqAt.EqAt A s u v (eqU x u)
 |_,_,.nil,_=>λu hu=>by cases hu
 |y::xs,u::us,.cons r t,f=>λc hu=>by
  rw[List.all_cons,Bool.and_eq_true]at f;rcases qt.mp hu with rfl|hu
  .rw[xE r f.1];exact EZ r b f.1 a
  .exact pv b a t f.2 c hu
noncomputable def inV(x:V)(xs:LV):Bool:=xs.any λy=>eqV y x
def rIn(K:W.Frag)(B:Bool):R2:=λx y H Q=>∃p xs,y=.ref p/\(SqL K H p xs\/SqT K H p xs)/\dU x=true/\xs.all dU=true/\Q (.bl (if B then !inV x xs else inV x xs)) H
theorem dN:OpR X (compareOp .In) (rIn X.K false):=by
 intro _ s _ H x y v u Q I c e h;obtain⟨p,xs,rfl,b,d,fs,q⟩:=h;cases e;rcases b with b|b
 .obtain⟨a,r,pl,hz⟩:=I.list b;refine SeqAt.in_listAt (eqU x) pl.isList (λw hw=>pv c d r fs w (by simpa using hw)) ⟨.bl _,H,I,U,?_⟩;rwa[show a.toArray.any (eqU x)=a.any (eqU x)by simp,rN r fs]
 .obtain⟨a,r,pl,hz⟩:=I.tuple b;refine SeqAt.in_tupleAt (eqU x) pl (λw hw=>pv c d r fs w (by simpa using hw)) ⟨.bl _,H,I,U,?_⟩;rwa[show a.toArray.any (eqU x)=a.any (eqU x)by simp,rN r fs]
theorem FL:bf X (.builtin "len") (λxs H Q=>∃p ys,xs=[.ref p]/\(SqL X.K H p ys\/SqT X.K H p ys)/\Q (.int ys.length) H):=by
 intro _ s _ H xs us Q I r h;obtain⟨p,ys,rfl,b,q⟩:=h;obtain⟨u,rfl,e⟩:=cK r;cases e;have hn:=hU;rcases b with b|b
 .obtain⟨d,c,pl,hz⟩:=I.list b;have a:=c.length;exact Calls.call_len_list pl.isList (by simp only[qA]<;>lia) ⟨.int ys.length,H,I.tok _,⟨s.toks+1,by rw[qA,a]⟩,q⟩
 .obtain⟨d,c,pl,hz⟩:=I.tuple b;have a:=c.length;exact len_tuple pl (by simp only[qA]<;>lia) ⟨.int ys.length,H,I.tok _,⟨s.toks+1,by rw[qA,a]⟩,q⟩
theorem bf.or{f:Value}{r:LV->Hp->VK->Prop}(h:bf X f r)(h':bf X f r'):bf X f (λxs H Q=>r xs H Q\/r' xs H Q):=by
 intro a s c H xs us Q I b q;rcases q with q|q
 .exact h a s c H xs us Q I b q
 .exact h' a s c H xs us Q I b q
theorem FK:bf X (.type "list") (λxs H Q=>∃p ys,xs=[.ref p]/\(SqL X.K H p ys\/SqT X.K H p ys)/\∀l,H l=none->Q (.ref l) (upd H l (.lst ys))):=by
 intro g s v H xs us Q I r h;obtain⟨p,ys,rfl,f,q⟩:=h;obtain⟨u,rfl,t⟩:=cK r;cases t
 have fin:∀(a:LL),aB ys a->ys.length<=sizeLine->∀(h':Heap)(c:Nat),(∀b m,s.heap.get? b=some m->h'.get? b=some m)->
  h'.get? s.heap.objs.size=some { cls:=.type "list",dict:=none,data:=.seq a.toArray c,slots:=#[] }->EP X g v Q (.ref s.heap.objs.size) { s with heap:=h' }:=λa d hz h' c kp e=>
  ⟨.ref s.heap.objs.size,_,I.laid (t':=s.toks) kp (qd _) (show bb X.prog X.w _ h' _ (.lst ys)from⟨hz,a,c,d,e⟩),U,q _ (I.hok.fresh (qd _))⟩
 rcases f with f|f
 .obtain⟨a,d,pl,hz⟩:=I.list f;have i:=d.length;obtain⟨o,j,k,n,hd⟩:=pl.isList;exact call_list_seq p (.inl U) j k hd (λh' c kp e=>fin a d hz h' c kp e) (by simp only[qA]<;>lia)
 .obtain⟨a,d,pl,hz⟩:=I.tuple f;have i:=d.length;obtain⟨o,j,k,n,hd⟩:=pl;exact call_list_seq p (.inr U) j k hd (λh' c kp e=>fin a d hz h' c kp e) (by simp only[qA]<;>lia)
theorem rE:bf X (.type "tuple") (λxs H Q=>∃p ys,xs=[.ref p]/\((SqL X.K H p ys/\∀l,H l=none->Q (.ref l) (upd H l (.tup ys)))\/(SqT X.K H p ys/\Q (.ref p) H))):=by
 intro a s g H xs us Q I r h;obtain⟨p,ys,rfl,h⟩:=h;obtain⟨u,rfl,j⟩:=cK r;cases j;rcases h with⟨d,q⟩|⟨d,q⟩
 .obtain⟨c,f,pl,hz⟩:=I.list d;have k:=f.length;refine call_tuple_list pl.isList (λh' kp=>?_) (by simp only[qA]<;>lia);have i:Inv X a g H { s with heap:=h' }:=I.kept (t':=s.toks) kp
  have m:Inv X a g (upd H h'.objs.size (.tup ys)) { s with heap:=h'.push { cls:=.type "tuple",data:=.seq c.toArray } }:=
   i.laid (t':=s.toks) (λb o e=>q9 _ e) (qd _) (show bb X.prog X.w _ _ _ (.tup ys)from⟨⟨hz,_,qo _ U,U⟩,c,f,IsTup.new _ _⟩)
  exact⟨.ref h'.objs.size,_,m,U,q _ (i.hok.fresh (qd _))⟩
 .obtain⟨c,f,pl,hz⟩:=I.tuple d;exact call_tuple_same pl ⟨.ref p,H,I,U,q⟩
def tyV(K:W.Frag)(T:String)(x:V)(H:Hp):Prop:=match x with
 |.str _=>T="str"
 |.int _=>T="int"
 |.ref p=>(T="list"/\∃xs,SqL K H p xs)\/(T="tuple"/\((∃o,K.lookup p=some o/\o.cls=.type "tuple"/\o.dict=none)\/∃xs,H p=some (.tup xs))) \/
  (T="dict"/\((∃kvs,H p=some (.dK kvs))\/∃kvs,H p=some (.dT kvs)))\/(T="set"/\∃S n,H p=some (.set S n))
 |_=>False
theorem sD{T:String}{x:V}{v:Value}(I:Inv X ζ O H s)(r:aC x v)(ty:tyV X.K T x H):
 s.TypeIs v T/\∀a,v=.ref a->∃b,s.heap.get? a=some b/\b.dict=none:=by
 cases x with
 |str z=>
  obtain⟨t,rfl⟩:=r;cases(show T="str" from ty);exact⟨typeIs_str s z t,λ_ e=>nomatch e⟩
 |int i=>
  obtain⟨t,rfl⟩:=r;cases(show T="int" from ty);exact⟨typeIs_int s i t,λ_ e=>nomatch e⟩
 |ref p=>
  cases r;rcases ty with⟨rfl,xs,g⟩|⟨rfl,⟨o,hk,h,hd⟩|⟨xs,j⟩⟩|⟨rfl,hk⟩|⟨rfl,S,n,hk⟩
  .obtain⟨f,_,pl,_⟩:=I.list g;refine⟨pl.isList.typeIs,λa e=>?_⟩;cases e;obtain⟨o,n,e,c,hd,_⟩:=pl;exact⟨o,e,hd⟩
  .refine⟨⟨o,I.kIn p o hk,h⟩,λa e=>?_⟩;cases e;exact⟨o,I.kIn _ o hk,hd⟩
  .obtain⟨⟨_,b,e,nd⟩,f,_,p⟩:=I.hok p _ j;exact⟨p.typeIs,λa k=>by cases k;exact⟨b,e,nd⟩⟩
  .have z:∃o,s.heap.get? p=some o/\o.ExactDict:=by
    rcases hk with⟨kvs,hk⟩|⟨kvs,hk⟩
    .obtain⟨_,_,_,_,o,_,_,e,ex,_⟩:=I.hok p _ hk;exact⟨o,e,ex⟩
    .obtain⟨_,_,_,_,o,_,_,e,ex,_⟩:=I.hok p _ hk;exact⟨o,e,ex⟩
   obtain⟨o,e,ex⟩:=z;refine⟨⟨o,e,ex.1⟩,λa d=>?_⟩;cases d;exact⟨o,e,ex.2.1⟩
  .obtain⟨o,_,_,_,e,ex,_⟩:=I.hok p _ hk;refine⟨⟨o,e,ex.1⟩,λa d=>?_⟩;cases d;exact⟨o,e,ex.2.1⟩
 |_=>exact False.elim ty
def zX(K:W.Frag)(T:String)(r:V->LV->Hp->VK->Prop)(to:TE):TE:=λO H Q=>to O H λx H1=>tyV K T x H1/\r x [] H1 Q
def tBM(K:W.Frag)(T:String)(r:V->LV->Hp->VK->Prop)(to:TE)(t:TA):TE:=λO H Q=>to O H λx H1=>tyV K T x H1/\t O H1 λxs H2=>r x xs H2 Q
variable {o:Expr}{es:LP}{to:TE}{t:TA}{T id:String}{r:V->LV->Hp->VK->Prop}
theorem kz(n:PlainAttrs T)(slot:Slot T name id)(g:typeOf (.builtin id)=pure (.type "method_descriptor"))(l:MtR X id r)(k:PE X o to)
 (c:attributeBase o name X.env (eval o X.env)=eval o X.env:=by rfl) (b:(μ.endLine == θ.line)=true:=by rfl):PE X (.Call (.Attribute o name μ) [] [] θ) (zX X.K T r to):=by
 intro a s f H Q I h;refine wpAny_Call_method0_late c b (thn (k a s f H _ I h) λv s1 ⟨x,p,e,d,ty,m⟩=>?_);obtain⟨j,i⟩:=sD e d ty;exact⟨T,id,n,slot,g,j,i,Calls.callWith_builtin U (PySem.evalArgs_none (l a s1 f p x [] v [] Q e d .nil m))⟩
theorem Ce(u:PlainAttrs T)(slot:Slot T name id)(i:typeOf (.builtin id)=pure (.type "method_descriptor"))(q:MtR X id r)(z:PE X o to)(ha:PA X (e::es) t)
 (d:attributeBase o name X.env (eval o X.env)=eval o X.env:=by rfl)
 (f:((backTo θ (starEach (e::es) X.env)).all (λx=>!x.1) && (backToKw θ (keywordEach [] X.env)).all (λx=>x.1.isSome)
  && decide ((e::es).length+([]:List Keyword).length+(if([]:List Keyword).isEmpty then 0 else 1)<30))=true:=by rfl)
 (c:(μ.endLine == θ.line)=true:=by rfl) (m:starEach (e::es) X.env=(false,eval e X.env)::starEach es X.env:=by rfl) (b:(backTo θ (starEach es X.env)).any (·.1)=false:=by rfl):
 PE X (.Call (.Attribute o name μ) (e::es) [] θ) (tBM X.K T r to t):=by
 intro a s g H Q I h;refine wpAny_Call_method_late d f c U (thn (z a s g H _ I h) λv s1 ⟨x,B,l,k,ty,D⟩=>?_);obtain⟨y,w⟩:=sD l k ty;exists T,id,u,slot,i,y,w;have j:=ha θ a s1 g B _ l D;rw[m]at j ⊢;refine Calls.callWith_builtin (by show(false || (backTo θ (starEach es X.env)).any (·.1))=false;rw[b]<;>rfl) (Calls.evalArgs_plain ?_);exact thn j λus C ⟨vs,p,A,n,E⟩=>q a C g p x vs v us Q A k n E
end
def MtM(X:Cx)(id:String)(r:V->LV->Hp->VK->Prop):Prop:=
 ∀(ζ:List (Addr×Obj))(s:Shared)(O:St)(H:Hp)(x:V)(xs:LV)(v:Value)(us:LL)(Q:VK),Inv X ζ O H s->aC x v->aB xs us->r x xs H Q->
  wpAny (model X.prog X.w) X.A (call (.builtin id) (v::us)) (EP X ζ O Q) X.xe s
theorem aB.one:∀{x:V}{us:LL},aB [x] us->∃u,us=[u]/\aC x u
 |_,_,.cons r .nil=>⟨_,U,r⟩
theorem aB.zero:∀{us:LL},aB [] us->us=[]
 |_,.nil=>rfl
theorem aB.dropLast{xs:LV}{us:LL}(h:aB xs us):aB xs.dropLast us.dropLast:=by
 induction h with
 |nil=>exact .nil
 |cons r t a=>
  cases t with
  |nil=>exact .nil
  |cons q t'=>exact .cons r a
theorem EY(l:List α):l.eraseIdx (l.length-1)=l.dropLast:=by
 induction l with
 |nil=>rfl
 |cons a r c=>
  cases r with
  |nil=>rfl
  |cons b r=>
   have e:(a::b::r).length-1=((b::r).length-1)+1:=by
    have f:(a::b::r).length=r.length+2:=U;have d:(b::r).length=r.length+1:=U;lia
   rw[e,List.eraseIdx_cons_succ,c]
   all_goals rfl
section
variable {xs ys zs:LV}
theorem Inv.lset{its':LL}{n:Nat}{f:LD->LD}(I:Inv X ζ O H s)(a:H l=some (.lst xs))
 (e:s.heap.get? l=some { cls:=.type "list",data:=.seq η.toArray n }) (b:f η.toArray=its'.toArray) (c:aB ys its') (hz:ys.length<=sizeLine):
 Inv X ζ O (upd H l (.lst ys)) { s with heap:=s.heap.update l (Obj.mapSeq f),toks:=t' }:=by
 have q:=PySem.IsL.update e f;rw[b]at q;refine I.write (x:=l) (e:=l) (by rw[a];exact trivial) (.inl U) (λ_ u hb hu=>(Qt s.heap (Obj.mapSeq f) (Ne.symm hb)).trans hu) ⟨_,q⟩ ?_;exact⟨hz,its',_,c,q⟩
theorem Inv.lnew(I:Inv X ζ O H s)(a:aB ys η)(hz:ys.length<=sizeLine):
 Inv X ζ O (upd H s.heap.objs.size (.lst ys)) { s with heap:=s.heap.push { cls:=.type "list",data:=.seq η.toArray },toks:=t' }:=
 I.laid (λ_ _ q=>q9 _ q) (qd _) ⟨hz,η,0,a,qo _ U⟩
theorem Inv.fresh(I:Inv X ζ O H s):H s.heap.objs.size=none:=I.hok.fresh (qd _)
theorem Inv.lstM(I:Inv X ζ O H s)(a:H l=some (.lst xs)):xs.length<=sizeLine/\∃(η:LL)(n:Nat),aB xs η/\xs.length=η.length/\s.heap.get? l=some { cls:=.type "list",data:=.seq η.toArray n }:=by
 obtain⟨z,η,n,r,e⟩:=I.hok l _ a;exact⟨z,η,n,r,r.length,e⟩
theorem Dp{n:Nat}(h:n<=sizeLine):Builtin.List.listTooLong n=false:=by
 unfold Builtin.List.listTooLong;exact Q4 Yo
end
def BC:V->LV->Hp->VK->Prop:=λx vs H Q=>∃l xs y,x=.ref l/\vs=[y]/\H l=some (.lst xs)/\xs.length<sizeLine/\Q .non (upd H l (.lst (xs++[y])))
theorem Dz:MtM X "list.append" BC:=by
 intro _ s _ H x vs v us Q I d c h;obtain⟨l,xs,y,rfl,rfl,b,hz,q⟩:=h;cases d;obtain⟨u,rfl,ru⟩:=c.one;obtain⟨z,a,n,r,hl,e⟩:=I.lstM b;refine call_meets F.slot_list_append ⟨_,e,U⟩ F.entry_list_append (F.args_list_append_2 _ _) (PySem.list_append l a.toArray n u (by rw[qA];lia)) ⟨e,?_⟩;refine⟨.non,_,I.lset (its':=a++[u]) b e (by simp) (r.append (.cons ru .nil)) ?_,U,q⟩;rw[qa,Q7];lia
def Bz:V->LV->Hp->VK->Prop:=λx vs H Q=>∃l b xs zs,x=.ref l/\vs=[.ref b]/\H l=some (.lst xs)/\H b=some (.lst zs)/\xs.length+zs.length<=sizeLine/\Q .non (upd H l (.lst (xs++zs)))
theorem iY:MtM X "list.extend" Bz:=by
 intro _ s _ H x vs v us Q I j g h;obtain⟨l,b,xs,zs,rfl,rfl,f,i,hz,q⟩:=h;cases j;obtain⟨u,rfl,ru⟩:=g.one;cases ru;obtain⟨z,c,n,r,hl,e⟩:=I.lstM f;obtain⟨_,a,n2,m,_,k⟩:=I.lstM i;have hsz:c.toArray.size+a.toArray.size<=sizeLine:=by rw[qA,qA];lia
 have d:¬ (!c.toArray.isEmpty && Builtin.List.listTooLong (c.toArray.size+a.toArray.size))=true:=by
  rw[Dp hsz,Bool.and_false];exact qh
 refine call_meets F.slot_list_extend ⟨_,e,U⟩ F.entry_list_extend (F.args_list_extend_2 _ _)
  (AutoSeq1.list_extend_list_list_0 l c.toArray n b a.toArray n2 d (by rw[qA];lia) Yo) ⟨e,k,?_⟩
 refine⟨.non,_,I.lset (its':=c++a) f e (by simp) (r.append m) ?_,U,q⟩;rw[qa];lia
def Bs:V->LV->Hp->VK->Prop:=λx vs H Q=>∃l xs y,x=.ref l/\vs=[]/\H l=some (.lst xs)/\xs[xs.length-1]?=some y/\Q y (upd H l (.lst xs.dropLast))
theorem kH:MtM X "list.pop" Bs:=by
 intro _ s _ H x vs v us Q I i f h;obtain⟨l,xs,y,rfl,rfl,b,g,q⟩:=h;cases i;have d:=f.zero;subst d;obtain⟨z,a,n,r,hl,e⟩:=I.lstM b;obtain⟨u,hu,ru⟩:=r.get g
 have c:a.toArray[a.toArray.size-1]?=some u:=by
  show a.toArray[a.length-1]?=some u;rwa[<- qT,<- hl]
 refine call_meets F.slot_list_pop ⟨_,e,U⟩ F.entry_list_pop (F.args_list_pop_1 _) (MeetsSeq.list_pop_last l a.toArray n u c (by rw[qA];lia)) ⟨e,?_⟩;refine⟨y,_,I.lset (its':=a.dropLast) b e ?_ r.dropLast ?_,ru,q⟩
 .show a.toArray.eraseIdxIfInBounds (a.toArray.size-1)=a.dropLast.toArray;rw[qA,List.eraseIdxIfInBounds_toArray,EY]
 .rw[List.length_dropLast];lia
set_option maxRecDepth 100000 in
section
variable [DecidableEq κ]
def aR(kvs:List (κ×V))(k:κ):LB:=(kvs.find? λB=>decide (B.1=k)).map (·.2)
noncomputable def aU(kvs:List (κ×V))(k:κ)(v:V):List (κ×V):=
 if(kvs.any λB=>decide (B.1=k))=true then kvs.map (λB=>if B.1=k then(B.1,v)else B)else kvs++[(k,v)]
theorem cL{p:κ×V}{r:List (κ×V)}{k:κ}(e:p.1=k):aR (p::r) k=some p.2:=by simp[aR,Q9,e]
theorem cD{p:κ×V}{r:List (κ×V)}{k:κ}(e:¬ p.1=k):aR (p::r) k=aR r k:=by simp[aR,Q9,e]
theorem gw(k:κ):∀kvs:List (κ×V),(kvs.any λa=>decide (a.1=k))=(aR kvs k).isSome
 |[]=>rfl
 |p::r=>by
  rw[List.any_cons];by_cases e:p.1=k
  .simp only[cL e,Q3 e,Bool.true_or,Option.isSome_some]
  .rw[cD e,Q4 e,Bool.false_or];exact gw k r
theorem sB(k j:κ)(y:V):∀kvs:List (κ×V),aR (kvs.map λa=>if a.1=k then(a.1,y)else a) j=(aR kvs j).map λx=>if j=k then y else x
 |[]=>rfl
 |p::r=>by
  have b:=sB k j y r;rw[qR];by_cases h:p.1=k
  .rw[Q0 h];by_cases e:p.1=j
   .rw[cL (p:=(p.1,y)) e,cL e,Option.map_some,Q0 (e.symm.trans h)]
   .rw[cD (p:=(p.1,y)) e,cD e,b]
  .rw[qZ h];by_cases e:p.1=j
   .rw[cL (p:=p) e,cL e,Option.map_some,qZ (λz=>h (e.trans z))]
   .rw[cD (p:=p) e,cD e,b]
theorem sA(k j:κ)(y:V):∀kvs:List (κ×V),aR kvs k=none->aR (kvs++[(k,y)]) j=if j=k then some y else aR kvs j
 |[],_=>by
  by_cases e:k=j
  .rw[Q0 e.symm];exact cL (p:=(k,y)) e
  .rw[qZ (λz=>e z.symm)];exact cD (p:=(k,y)) e
 |p::r,hn=>by
  rw[Qm];have hk:¬ p.1=k:=λz=>by rw[cL z]at hn;cases hn
  rw[cD hk]at hn;have a:=sA k j y r hn;by_cases e:p.1=j
  .rw[cL e,cL e,qZ (λz=>hk (e.trans z))]
  .rw[cD e,cD e,a]
theorem zh(kvs:List (κ×V))(k j:κ)(y:V):aR (aU kvs k y) j=if j=k then some y else aR kvs j:=by
 unfold aU;by_cases a:(kvs.any λb=>decide (b.1=k))=true
 .rw[Q0 a,sB];rw[gw]at a;by_cases e:j=k
  .obtain⟨x,c⟩:=Option.isSome_iff_exists.mp a;rw[Q0 e,e,c,Option.map_some,Q0 U]
  .rw[qZ e]
   cases aR kvs j with
   |none=>rfl
   |some x=>rw[Option.map_some,qZ e]
 .rw[qZ a];refine sA k j y kvs ?_;rw[gw]at a
  cases q:aR kvs k with
  |none=>rfl
  |some x=>rw[q]at a;exact(a U).elim
theorem j4(kvs:List (κ×V))(k:κ)(v:V):(aU kvs k v).length<=kvs.length+1:=by
 unfold aU;split
 .rw[q5];lia
 .rw[qa,qz,List.length_nil];lia
theorem ki{kvs:List (κ×V)}{k:κ}(v:V)(h:aR kvs k=none):aU kvs k v=kvs++[(k,v)]:=by
 unfold aU;rw[gw,h];exact qZ Yk
theorem bU.isSome_eq{o:LB}{u:LO}(r:bU o u):o.isSome=u.isSome:=by
 cases o with
 |none=>cases u with
  |none=>rfl
  |some _=>exact(show False from r).elim
 |some _=>cases u with
  |none=>exact(show False from r).elim
  |some _=>rfl
theorem bU.getD{o:LB}{u:LO}{d:V}{d':Value}(r:bU o u)(a:aC d d'):aC (o.getD d) (u.getD d'):=by
 cases o with
 |none=>cases u with
  |none=>exact a
  |some _=>exact(show False from r).elim
 |some _=>cases u with
  |none=>exact(show False from r).elim
  |some _=>exact r
theorem KV.val{kvs:List (κ×V)}{vs:List (κ×Value)}(r:KV kvs vs)(k:κ):bU (aR kvs k) (valueAt vs k):=by
 unfold KV at r
 induction r with
 |nil=>exact True.intro
 |@cons p q ps c h t g=>
  obtain⟨d,f⟩:=h;by_cases e:p.1=k
  .have a:q.1=k:=d.symm.trans e;have b:valueAt (q::c) k=some q.2:=by simp[valueAt,Q9,a]
   rwa[cL e,b]
  .have a:¬ q.1=k:=λz=>e (d.trans z);have b:valueAt (q::c) k=valueAt c k:=by simp[valueAt,Q9,a]
   rwa[cD e,b]
theorem KV.any{kvs:List (κ×V)}{vs:List (κ×Value)}(r:KV kvs vs)(k:κ):(kvs.any λa=>decide (a.1=k))=vs.any λa=>decide (a.1=k):=by
 unfold KV at r
 induction r with
 |nil=>rfl
 |cons h t b=>rw[List.any_cons,List.any_cons,b,h.1]
theorem KV.repl{kvs:List (κ×V)}{vs:List (κ×Value)}(r:KV kvs vs)(k:κ)(d:aC y u):
 KV (kvs.map λa=>if a.1=k then(a.1,y)else a) (vs.map λa=>if a.1=k then(a.1,u)else a):=by
 unfold KV at r ⊢
 induction r with
 |nil=>exact .nil
 |@cons p q ps _ h t f=>
  rw[qR,qR];refine .cons ?_ f;obtain⟨b,c⟩:=h;by_cases e:p.1=k
  .rw[Q0 e,Q0 (b.symm.trans e)];exact⟨b,d⟩
  .rw[qZ e,qZ (λz=>e (b.trans z))];exact⟨b,c⟩
theorem KV.put{kvs:List (κ×V)}{vs:List (κ×Value)}(r:KV kvs vs)(k:κ)(a:aC y u):KV (aU kvs k y) (stored vs k u):=by
 unfold aU stored;rw[r.any k];by_cases e:(vs.any λb=>decide (b.1=k))=true
 .rw[Q0 e,Q0 e];exact r.repl k a
 .rw[qZ e,qZ e];exact Paired.snoc r ⟨U,a⟩
theorem KV.keys{kvs:List (κ×V)}{vs:List (κ×Value)}(r:KV kvs vs):kvs.map (·.1)=vs.map (·.1):=by
 unfold KV at r
 induction r with
 |nil=>rfl
 |cons h t a=>rw[qR,qR,a,h.1]
theorem KV.length{kvs:List (κ×V)}{vs:List (κ×Value)}(r:KV kvs vs):kvs.length=vs.length:=Paired.length r
end
theorem eJ{k:Key}(r:aC (kV k) u):(bd P w).is k u=true:=by
 cases k with
 |inl i=>obtain⟨t,e⟩:=(show ∃t,u=Value.int i t from r);subst e;exact DB P w i t
 |inr x=>obtain⟨t,e⟩:=(show ∃t,u=Value.str x t from r);subst e;exact DA P w x t
theorem wN{P:Program}{w:World}:∀{ks:List Key}{us:LL},aB (ks.map kV) us->ItemsAre (bd P w) ks us
 |[],_,r=>by rw[List.map_nil]at r;cases r;exact .nil
 |k::ks,_,r=>by
  rw[qR]at r
  cases r with
  |cons h t=>exact .cons (eJ h) (wN t)
abbrev KT(H:Hp):List (List Key×V)->List (List Key×Addr×Value)->Prop:=Paired λp q=>p.1=q.1/\H q.2.1=some (.tup (p.1.map kV))/\aC p.2 q.2.2
theorem KT.val{kvs:List (List Key×V)}{xs:List (List Key×Addr×Value)}(r:KT H kvs xs)(k:List Key):bU (aR kvs k) ((atKey xs k).map (·.2)):=by
 induction r with
 |nil=>exact True.intro
 |@cons p q ps c h t g=>
  obtain⟨d,_,f⟩:=h;by_cases e:p.1=k
  .have a:q.1=k:=d.symm.trans e;have b:atKey (q::c) k=some q.2:=by simp[atKey,Q9,a]
   rwa[cL e,b]
  .have a:¬ q.1=k:=λz=>e (d.trans z);have b:atKey (q::c) k=atKey c k:=by simp[atKey,Q9,a]
   rwa[cD e,b]
theorem KT.repl{kvs:List (List Key×V)}{xs:List (List Key×Addr×Value)}(r:KT H kvs xs)(k:List Key)(d:aC y u):
 KT H (kvs.map λb=>if b.1=k then(b.1,y)else b) (xs.map (putAt k u)):=by
 induction r with
 |nil=>exact .nil
 |@cons p q ps _ h t f=>
  rw[qR,qR];refine .cons ?_ f;obtain⟨a,c,g⟩:=h;unfold putAt;by_cases e:p.1=k
  .rw[Q0 e,Q0 (a.symm.trans e)];exact⟨a,c,d⟩
  .rw[qZ e,qZ (λz=>e (a.trans z))];exact⟨a,c,g⟩
theorem KT.put{kvs:List (List Key×V)}{xs:List (List Key×Addr×Value)}(r:KT H kvs xs)(k:List Key)(hb:H b=some (.tup (k.map kV)))(a:aC y u):
 KT H (aU kvs k y) (storedH xs k b u):=by
 have e:(kvs.any λc=>decide (c.1=k))=(atKey xs k).isSome:=by
  rw[gw,(r.val k).isSome_eq,Option.isSome_map]
 unfold aU storedH;rw[e];by_cases q:(atKey xs k).isSome=true
 .rw[Q0 q,Q0 q];exact r.repl k a
 .rw[qZ q,qZ q];exact Paired.snoc r ⟨U,hb,a⟩
theorem KT.keeps{kvs:List (List Key×V)}{xs:List (List Key×Addr×Value)}(r:KT H kvs xs)(ht:∀b ys,H b=some (.tup ys)->H' b=some (.tup ys)):KT H' kvs xs:=
 Paired.mapP r λ_ _ z=>⟨z.1,ht _ _ z.2.1,z.2.2⟩
theorem uS{u:HO}(ok:HOk P w H h)(e:Rd H a u):bb P w H h a u:=e.ok ok
theorem i9(ok:HOk P w H h)(e:Rd H a (.dK kvs)):kvs.length<=sizeLine/\(a == sysModules)=false/\∃vs,KV kvs vs/\h.DictOf (bd P w) a vs:=
 show bb P w H h a (.dK kvs)from uS ok e
theorem fW(ok:HOk P w H h)(e:H a=some (.dK kvs)):kvs.length<=sizeLine/\(a == sysModules)=false/\∃vs,KV kvs vs/\h.DictOf (bd P w) a vs:=i9 ok (.inl e)
theorem kQ{b:List Key}(ok:HOk P w H h)(e:H a=some (.tup (b.map kV))):(tupleKind (bd P w)).is h b a:=by
 obtain⟨_,c,r,o,g,f,n,d⟩:=(show bb P w H h a (.tup (b.map kV))from ok a _ e);exact⟨o,c.toArray,n,g,f,d,by simpa using wN r⟩
theorem jc{kvs:List (List Key×V)}(ok:HOk P w H h)(e:Rd H a (.dT kvs)):kvs.length<=sizeLine/\(a == sysModules)=false /\
 ∃xs,KT H kvs xs/\h.DictOfH (tupleKind (bd P w)) a xs:=by
 obtain⟨z,y,xs,r,o,k,ep,g,f,d,n,i⟩:=(show bb P w H h a (.dT kvs)from uS ok e);refine⟨z,y,xs,r,o,k,ep,g,f,d,n,λx b=>?_,i⟩
 have all:∀{l:List (List Key×V)}{m:List (List Key×Addr×Value)},KT H l m->∀x∈m,(tupleKind (bd P w)).is h x.1 x.2.1:=by
  intro l m q
  induction q with
  |nil=>intro x b;exact nomatch b
  |@cons p q ps _ c t j=>
   intro x b;rcases qt.mp b with e|b
   .subst e;exact kQ ok (by rw[<- c.1];exact c.2.1)
   .exact j x b
 exact all r x b
theorem Fc{kvs:List (List Key×V)}(ok:HOk P w H h)(e:H a=some (.dT kvs)):kvs.length<=sizeLine/\(a == sysModules)=false /\
 ∃xs,KT H kvs xs/\h.DictOfH (tupleKind (bd P w)) a xs:=jc ok (.inl e)
def ee(H:Hp)(a:Addr)(y:V)(r:LB):Prop:=
 (∃kvs k,Rd H a (.dK kvs)/\y=kV k/\r=aR kvs k)\/∃kvs k b,Rd H a (.dT kvs)/\y=.ref b/\H b=some (.tup (k.map kV))/\r=aR kvs k
def yx(H:Hp)(a:Addr)(y v:V)(H':Hp):Prop:=
 (∃kvs k,H a=some (.dK kvs)/\y=kV k/\kvs.length<sizeLine/\H'=upd H a (.dK (aU kvs k v))) \/
 ∃kvs k b,H a=some (.dT kvs)/\y=.ref b/\H b=some (.tup (k.map kV))/\kvs.length<sizeLine/\H'=upd H a (.dT (aU kvs k v))
theorem ee.k{k:Key}(e:H a=some (.dK kvs)):ee H a (kV k) (aR kvs k):=.inl ⟨kvs,k,.inl e,U,U⟩
section
variable {v:V}{r:Value}{o:LB}
theorem Inv.big(I:Inv X ζ O H s):sysModules<s.heap.objs.size:=by
 have h:mainGlobals<s.heap.objs.size:=(I.mod.glob.keeps I.bk).lt;exact Nat.lt_trans Yk h
theorem Fk(hu:A.units+1<cLine)(I:Inv X ζ O H s)(g:ee H a y (some v))(n:aC y u)(h:∀c s',Inv X ζ O H s'->aC v c->Q c s'):
 wpAny (model X.prog X.w) A (getItem (.ref a) u) Q E s:=by
 rcases g with⟨kvs,k,e,j,l⟩|⟨kvs,k,b,e,j,q,l⟩
 .subst j;obtain⟨z,hd,vs,f,i⟩:=i9 I.hok e;obtain⟨c,hw,d⟩:=bU.some_of (v:=v) (o:=valueAt vs k) (by rw[l];exact f.val k);exact wpAny_getItem_of (eJ n) i.mapOf hw (h c _ (I.tok _) d)
 .subst j;cases(show u=Value.ref b from n);obtain⟨z,hd,xs,f,i⟩:=jc I.hok e;obtain⟨c,hw,d⟩:=bU.some_of (v:=v) (o:=(atKey xs k).map (·.2)) (by rw[l];exact f.val k);obtain⟨p,hp,m⟩:=qP.mp hw;refine wpAny_getItem_heap (tupleKind_room_in1 hu) (kQ I.hok q) i hp ?_;rw[m];exact h c _ (I.tok _) d
theorem rh{c:HO}(I:Inv X ζ O H s)(g:Mut (H a))(d:Heap.SameBut a s.heap h')(f:∃q,h'.get? a=some q)(new:bb X.prog X.w (upd H a c) h' a c):
 Inv X ζ O (upd H a c) { s with heap:=h',toks:=t' }:=
 I.write (x:=a) (e:=a) g (.inl U) (λb q hb z=>(d.2 b hb).trans z) f new
theorem re{vs:List (Key×Value)}(z:kvs.length<=sizeLine)(hd:(a == sysModules)=false)(b:KV kvs vs)(c:h'.DictOf (bd P w) a vs):
 bb P w H' h' a (.dK kvs):=⟨z,hd,vs,b,c⟩
theorem Fi{Q:Unit->Shared->Prop}(hu:A.units+1<cLine)(I:Inv X ζ O H s)(g:yx H a y v H')(x:aC y u)(p:aC v r)(h:∀s',Inv X ζ O H' s'->Q () s'):
 wpAny (model X.prog X.w) A (setItem (.ref a) u r) Q E s:=by
 rcases g with⟨kvs,k,e,o,l,n⟩|⟨kvs,k,b,e,o,t,l,n⟩
 .subst o n;obtain⟨z,hd,vs,d,j⟩:=fW I.hok e;have hz:vs.length<=sizeLine:=by rwa[<- d.length]
  have hl:(aU kvs k v).length<=sizeLine:=by have:=j4 kvs k v;lia
  refine wpAny_setItem_pairs (hsz:=hz) (eJ x) j λh' f m=>h _ ?_;have K:∃q,h'.get? a=some q:=let ⟨q,_,_,i,_⟩:=f;⟨q,i⟩;exact rh I (by rw[e];exact True.intro) m K (re hl hd (d.put k p) f)
 .subst o n;cases(show u=Value.ref b from x);obtain⟨z,hd,xs,d,j⟩:=Fc I.hok e;have hz:xs.length<=sizeLine:=by rwa[<- Paired.length d]
  have hl:(aU kvs k v).length<=sizeLine:=by have:=j4 kvs k v;lia
  refine wpAny_setItem_heap (hsz:=hz) (tupleKind_room_in1 hu) (kQ I.hok t) j λh' f m=>h _ ?_;obtain⟨q,G,ep,i,D,C,J,_,F⟩:=f;refine rh I (by rw[e];exact True.intro) m ⟨q,i⟩ ⟨hl,hd,_,(d.put k t p).keeps λc ys B=>?_,q,G,ep,i,D,C,J,F⟩;rw[au (vY B e (λz=>nomatch z))];exact B
end
section
variable {k:Key}
theorem Fj(I:Inv X ζ O H s)(e:Rd H a (.dK kvs))(h:∀t s',Inv X ζ O H s'->Q (.int kvs.length t) s'):wpAny (model X.prog X.w) A (call (.builtin "len") [.ref a]) Q E s:=by
 obtain⟨z,hd,vs,b,c⟩:=i9 I.hok e;refine call_len_dict hd c (by rw[<- b.length];rw[sizeLine_eq]at z;lia) ?_;rw[<- b.length];exact h _ _ (I.tok _)
end
def yw(i:Expr):Prop:=∀B F,subscripted i false B F=operate [B,F] (getItem B F)
theorem A5{b a:Expr}{T m:String}
 (hl:typeLookup (.type T) "__getitem__"=pure (some (.builtin m))) (l:yw a)
 (h:wpAny (model prog w) A (eval b env) (λo f=>wpAny (model prog w) A (eval a env) (λi c=>c.TypeIs o T/\wpAny (model prog w) A (getItem o i) Q E c) E f) E s):
 wpAny (model prog w) A (eval (.Subscript b a pos) env) Q E s:=by
 refine Subscript_ (wpAny_mono h (λo f g=>wpAny_mono g (λi c d=>?_) λ_ _ x=>x) λ_ _ x=>x);obtain⟨k,d⟩:=d;unfold subscriptTail;refine q4 ?_;rw[getitemInPython_of_ne k.not_modules];refine q4 (wpAny_specialOf k hl ?_)
 have fin:wpAny (model prog w) A (subscripted a false o i) (λr e=>wpAny (model prog w) A (letTemporaryGo b o r >>= λ_=>pure r) Q E e) E c:=by
  rw[l o i];exact wpAny_operating (wpAny_mono d (λr e j=>q4 (wpAny_letTemporaryGo (qc j))) λ_ _ x=>x)
 first
  |exact qc (q4 fin)
  |exact q4 (qc (q4 fin))
  |exact q4 fin
theorem Fe{o:LB}(I:Inv X ζ O H s)(g:ee H a y o):s.TypeIs (.ref a) "dict":=by
 rcases g with⟨kvs,k,e,_,_⟩|⟨kvs,k,b,e,_,_,_⟩
 .obtain⟨_,_,vs,_,c⟩:=i9 I.hok e;exact c.typeIs
 .obtain⟨_,_,xs,_,c⟩:=jc I.hok e;exact c.typeIs
def zW(td ty:TE):TE:=λO H Q=>td O H λx H1=>ty O H1 λy H2=>∃a v,x=.ref a/\ee H2 a y (some v)/\Q v H2
def iM(td ty tv:TE):TS:=λD O H=>tv O H λv H1=>td O H1 λx H2=>ty O H2 λy B=>∃a H4,x=.ref a/\yx B a y v H4/\D.nx O H4
section
variable {o i value:Expr}{pos' tpos:Pos}{ty tv:TE}
theorem fi(hu:X.A.units+1<cLine)(n:PE X o td)(hi:PE X i ty)(j:yw i):PE X (.Subscript o i pos) (zW td ty):=by
 intro b s d H Q I h;refine A5 PySem.F.slot_dict_getitem.lookup j (thn (n b s d H _ I h) λu s1 ⟨x,p,q,m,r⟩=>thn (hi b s1 d p _ q r) λ_ _ ⟨y,k,e,l,a,v,ex,g,t⟩=>?_);subst ex;obtain rfl:u=Value.ref a:=m;exact⟨Fe e g,Fk hu e g l λ_ _ f c=>⟨v,k,f,c,t⟩⟩
theorem dL(hu:X.A.units+1<cLine)(p:PE X o td)(hi:PE X i ty)(z:PE X value tv)(e:swapsWith value (some (.Subscript o i pos')) pos.line X.env=pure false):
 PS X (.Assign [.Subscript o i pos'] value pos) (iM td ty tv):=by
 intro b s c H D I h;refine wpAny_Assign_Subscript (thn (z b s c H _ I h) λr s1 ⟨v,t,C,k,E⟩=>thn (p b s1 c t _ C E) λu B ⟨x,j,q,n,F⟩=>thn (hi b B c j _ q F) λ_ _ ⟨y,_,d,l,a,f,ex,g,w⟩=>?_) e;subst ex;obtain rfl:u=Value.ref a:=n;exact Fi hu d g l k λ_ m=>⟨c,f,m,w⟩
end
theorem rg(h:Heap)(hb:sysModules<h.objs.size):bb P w H (h.push { cls:=.type "dict",data:=.dict #[] }) h.objs.size (.dK []):=
 ⟨qr _,beq_eq_false_iff_ne.mpr (Ne.symm (qF hb)),[],.nil,Heap.DictOf.new h⟩
def zU:TE:=λ_ H Q=>∀p,H p=none->Q (.ref p) (upd H p (.dK []))
theorem gP:PE X (.Dict [] [] pos) zU:=λ_ s _ H Q I h=>
 wpAny_Dict_empty ⟨.ref s.heap.objs.size,_,I.laid (a:=s.heap.objs.size) (o:=.dK []) (t':=s.toks) (λ_ _ q=>q9 _ q) (qd _) (rg s.heap I.big),U,h _ (I.hok.fresh (qd _))⟩
def lZ:List (TE×TE)->St->Hp->(List (V×V)->Hp->Prop)->Prop
 |[],_,H,Q=>Q [] H
 |(tk,tv)::r,O,H,Q=>tk O H λx H1=>tv O H1 λy H2=>lZ r O H2 λps B=>Q ((x,y)::ps) B
abbrev VV:List (V×V)->List (Value×Value)->Prop:=Paired λp q=>aC p.1 q.1/\aC p.2 q.2
def PPs(X:Cx)(pos:Pos)(keys:List (Option Expr))(B:LP)(trs:List (TE×TE)):Prop:=
 ∀(ζ:List (Addr×Obj))(s:Shared)(O:St)(H:Hp)(Q:List (V×V)->Hp->Prop),Inv X ζ O H s->lZ trs O H Q->
  wpAny (model X.prog X.w) X.A (evalPairs (pairTrees keys B X.env pos)) (λvs s'=>∃ps H',Inv X ζ O H' s'/\VV ps vs/\Q ps H') X.xe s
theorem BY:PPs X pos [] [] []:=λ_ s _ H Q I h=>pairTrees_nil_walk ⟨[],H,I,.nil,h⟩
theorem ko{k v:Expr}{e:List (Option Expr)}{vs:LP}{tk c:TE}(hk:PE X k tk)(p:PE X v c)(f:PPs X pos e vs trs):
 PPs X pos (some k::e) (v::vs) ((tk,c)::trs):=λa s b H Q I h=>
 pairTrees_cons_walk (thn (hk a s b H _ I h) λu s1 ⟨x,n,t,l,w⟩=>thn (p a s1 b n _ t w) λ_ r ⟨y,i,m,j,z⟩=>
  thn (f a r b i _ m z) λws _ ⟨ps,q,g,d,o⟩=>⟨(x,y)::ps,q,g,.cons ⟨l,j⟩ d,o⟩)
noncomputable def eF(kvs more:LN):LN:=more.foldl (λF B=>aU F B.1 B.2) kvs
theorem KV.merge:∀{more:LN}{rs:List (Key×Value)}{kvs:LN}{vs:List (Key×Value)},KV more rs->KV kvs vs->KV (eF kvs more) (merged vs rs):=by
 intro more rs kvs vs r;unfold KV at r
 induction r generalizing kvs vs with
 |nil=>intro q;exact q
 |@cons p q ps _ h t a=>
  intro b
  have e:KV (aU kvs p.1 p.2) (stored vs q.1 q.2):=by
   have:=b.put p.1 h.2;rwa[<- h.1]
  exact a e
theorem wv:∀(more kvs:LN),(eF kvs more).length<=kvs.length+more.length
 |[],kvs=>by show kvs.length<=kvs.length+0;lia
 |p::r,kvs=>by
  have h1:=wv r (aU kvs p.1 p.2);have a:=j4 kvs p.1 p.2;show(eF (aU kvs p.1 p.2) r).length<=_;rw[qz];lia
theorem y4{P:Program}{w:World}:∀{kvs:LN}{ws:List (Value×Value)},VV (kvs.map λd=>(kV d.1,d.2)) ws->∃rs,Carries (bd P w) ws rs/\KV kvs rs
 |[],_,r=>by rw[List.map_nil]at r;cases r;exact⟨[],True.intro,.nil⟩
 |p::kvs,_,r=>by
  rw[qR]at r
  cases r with
  |@cons a b as bs h t=>
   obtain⟨rs,c,q⟩:=y4 (P:=P) (w:=w) t;obtain⟨b1,b2⟩:=b;exact⟨(p.1,b2)::rs,⟨eJ h.1,U,c⟩,.cons ⟨U,h.2⟩ q⟩
def zT(trs:List (TE×TE)):TE:=λO H Q=>∀p,H p=none->lZ trs O (upd H p (.dK [])) λps H2=>H2 p=some (.dK [])/\∃kvs:LN,ps=kvs.map (λB=>(kV B.1,B.2))/\kvs.length<=15/\Q (.ref p) (upd H2 p (.dK (eF [] kvs)))
theorem Cb{keys:List (Option Expr)}{b:LP}(h:PPs X pos keys b trs)(f:keys.all (·.isSome)=true)(hl:keys.length=b.length)(h0:keys≠[])
 (k:keys.length<=15):PE X (.Dict keys b pos) (zT trs):=by
 intro g s r H Q I q;have hn:=I.hok.fresh (qd s.heap.objs.size);have v:=I.laid (a:=s.heap.objs.size) (o:=.dK []) (h':=s.heap.push { cls:=.type "dict",data:=.dict #[] }) (t':=s.toks) (λ_ _ q=>q9 _ q) (qd _) (rg s.heap I.big);refine wpAny_Dict_walk (knd:=bd X.prog X.w) f hl h0 k (thn (h g _ r _ _ v (q _ hn)) λws _ ⟨ps,_,j,i,e,kvs,ep,_,y⟩=>?_);subst ep;obtain⟨x,c,rk⟩:=y4 (P:=X.prog) (w:=X.w) i;obtain⟨z,hd,_,n,u⟩:=fW j.hok e;cases n;refine⟨x,c,u,λh' d l=>⟨.ref s.heap.objs.size,_,?_,U,y⟩⟩
 have hz:(eF [] kvs).length<=sizeLine:=by
  have p:=wv kvs [];rw[List.length_nil]at p;rw[sizeLine_eq];lia
 have t:∃q,h'.get? s.heap.objs.size=some q:=let ⟨q,_,_,m,_⟩:=d;⟨q,m⟩;exact rh j (by rw[e];exact True.intro) l t (re hz hd (rk.merge .nil) d)
structure M2(X:Cx)(o:Expr)(m:Str)(μ:Pos)(e f:Expr)(θ:Pos):Prop where
 base:attributeBase o m X.env (eval o X.env)=eval o X.env
 few:((backTo θ (starEach [e,f] X.env)).all (λx=>!x.1) && (backToKw θ (keywordEach [] X.env)).all (λx=>x.1.isSome)
  && decide (([e,f]:LP).length+([]:List Keyword).length+(if([]:List Keyword).isEmpty then 0 else 1)<30))=true
 line:(μ.endLine == θ.line)=true
 trees:backTo θ (starEach [e,f] X.env)=[(false,eval e X.env),(false,eval f X.env)]
def IsD(H:Hp)(a:Addr):Prop:=(∃kvs,Rd H a (.dK kvs))\/∃kvs,Rd H a (.dT kvs)
theorem pL(I:Inv X ζ O H s)(d:IsD H a):
 s.TypeIs (.ref a) "dict"/\(∀b,Value.ref a=.ref b->∃c,s.heap.get? b=some c/\c.dict=none)/\(a == sysModules)=false:=by
 rcases d with⟨kvs,e⟩|⟨kvs,e⟩
 .obtain⟨_,hd,vs,_,f⟩:=i9 I.hok e;refine⟨f.typeIs,λb q=>?_,hd⟩;cases q;obtain⟨c,_,_,h,g,_⟩:=f;exact⟨c,h,g.2.1⟩
 .obtain⟨_,hd,xs,_,f⟩:=jc I.hok e;refine⟨f.typeIs,λb q=>?_,hd⟩;cases q;obtain⟨c,_,_,h,g,_⟩:=f;exact⟨c,h,g.2.1⟩
section
variable {d:V}{r:Value}{o:LB}
theorem Fl(hu:A.units+1<cLine)(I:Inv X ζ O H s)(g:ee H a y o)(n:aC y u)(j:aC d r)(h:∀m s',Inv X ζ O H s'->aC (o.getD d) m->Q m s'):
 wpAny (model X.prog X.w) A (call (.builtin "dict.get") [.ref a,u,r]) Q E s:=by
 rcases g with⟨kvs,k,e,i,l⟩|⟨kvs,k,b,e,i,p,l⟩
 .subst i;obtain⟨z,hd,vs,f,c⟩:=i9 I.hok e;refine call_meetsIn PySem.F.slot_dict_get c.typeIs PySem.F.entry_dict_get (PySem.F.args_dict_get_3 _ _ _) (meets_dict_get_default (bd X.prog X.w) a (eJ n) hd r) ⟨_,c.mapOf,h _ _ (I.tok _) ?_⟩;rw[l];exact(f.val k).getD j
 .subst i;cases(show u=Value.ref b from n);obtain⟨z,hd,xs,f,c⟩:=jc I.hok e;refine call_meetsIn PySem.F.slot_dict_get c.typeIs PySem.F.entry_dict_get (PySem.F.args_dict_get_3 _ _ _) (meetsH_dict_get_default (tupleKind (bd X.prog X.w)) a b hd r) ⟨tupleKind_room_in1 hu,k,xs,kQ I.hok p,c,h _ _ (I.tok _) ?_⟩;rw[l];exact(f.val k).getD j
end
def zV(td ty tx:TE):TE:=λO H Q=>td O H λx H1=>∃a,x=.ref a/\IsD H1 a/\ty O H1 λy H2=>tx O H2 λz B=>∃o,ee B a y o/\Q (o.getD z) B
section
variable {o f:Expr}{ty tx:TE}
theorem oO(hu:X.A.units+1<cLine)(t:PE X o td)(D:PE X e ty)(w:PE X f tx)(m:M2 X o "get" μ e f θ):PE X (.Call (.Attribute o "get" μ) [e,f] [] θ) (zV td ty tx):=by
 intro b s c H Q I h;refine wpAny_Call_method m.base m.few m.line PySem.F.plainAttrs_dict PySem.F.slot_dict_get PySem.F.type_dict_get (thn (t b s c H _ I h) λu s1 ⟨x,C,j,r,a,ex,d,L⟩=>?_);subst ex;obtain rfl:u=Value.ref a:=r;obtain⟨K,B,_⟩:=pL j d;exists K,B;rw[m.trees]
 refine Calls.callWith_builtin U (Calls.evalArgs_plain (Calls.spliced_cons (thn (D b s1 c C _ j L) λ_ J ⟨y,l,v,p,M⟩=>
  Calls.spliced_cons (thn (w b J c l _ v M) λ_ _ ⟨z,G,k,n,_,g,E⟩=>Calls.spliced_nil ?_))))
 exact Fl hu k g p n λ_ _ q i=>⟨_,G,q,i,E⟩
end
end L2
namespace Att
open PySem PySem.W PySem.Calls PyProof.Rows
theorem Ek{P:Params}:∀(ns:LI)(vs:LL),WellAll P h vs (ns.map WData.int)->IntsAre vs ns:=by
 intro ns
 induction ns with
 |nil=>
  intro vs w;rw[List.map_nil]at w;cases w;exact .nil
 |cons n ns c=>
  intro vs w;rw[qR]at w
  cases w with
  |cons a b=>
   cases a;exact .cons _ _ (c _ b)
theorem AN{l:OpenLaw}{n:Nat}(hn:l.most=some n){P:Params}{b:List WData}{e:LL}
 (c:l.row.toRowW.claim.pre b=true) (o:WellAll P h e b):
 ∃a vs ns,e=[Value.ref a]/\b=[WData.list (ns.map WData.int)]/\h.get? a=some { cls:=.type "list",data:=.seq vs.toArray }/\IntsAre vs ns/\ns.length<=n:=by
 have k:WShape.hasAll [] b [.list .int]=true:=(pre_splitW c).1;have m:l.pre.holds [] { args:=b }=true:=(pre_splitW c).2;obtain⟨d,r,rfl,s,p⟩:=hasAllW_cons k;obtain rfl:=hasAllW_nil p;obtain⟨xs,rfl,x⟩:=hasW_list s;obtain⟨ns,rfl⟩:=items_int x
 have j:ns.length<=n:=by
  unfold OpenLaw.pre at m
  have g:(WTm.not (.lt (.lit (.int (n:Int))) (.len (.arg 0)))).holds [] { args:=[.list (ns.map .int)] }=true:=by
   have g:=(holds_andW m).1;rw[hn]at g;exact g
  have f:=condW_of g (w_not (w_lt w_lit (w_len_list (w_arg U))));rw[q5]at f;refine Nat.le_of_not_lt λq=>?_;have t:(n:Int)<((ns.length:Nat):Int):=Yo
  first
   |(rw[Q3 t]at f;exact Q5 f Yk)
   |(simp at f;lia)
 cases o with
 |cons u v=>
  cases v
  cases u with
  |list w i=>exact⟨_,_,ns,U,U,w,Ek ns _ i,j⟩
theorem BZ(l:OpenLaw)(a:List WData):l.row.toRowW.claim.post a (.bool true) a=true:=
 postW_of (r:=l.row.toRowW) (X:=(true == true))
  (show WShape.has [] (.bool true) .bool=true by first|rfl|decide|simp[WShape.has,WShape.arms,WShape.armsAll])
  (show(WTm.eq .res (.lit (.bool true))).value [] { args:=a,res:=some (.bool true),after:=a }=some (.bool (true == true))from w_eq_bool (w_res U) w_lit) U
section
variable {K:Frag}
end
end Att
namespace L2
open PySem PySem.Spec PyProof.Rows
theorem su:∀{vs:LL}{ns:LI},IntsAre vs ns->aB (ns.map V.int) vs
 |_,_,.nil=>.nil
 |_,_,.cons n t h=>.cons ⟨t,U⟩ (su h)
def lO(H:Hp):Prop:=∀b,H b=none\/∃o xs,H b=some (.frz o (.lst xs))
theorem DZ{C:Str->LO}{CX:CXT}{k:Nat}{G:Addr}{c:Shared}{vs:LL}
 (S:K.In c.heap) (y:c.heap.Ns mainGlobals mg) (hb:c.heap.Ns builtinsNs C) (K0:∀x:Str,x≠"__name__"->C x=bootBuiltins x) (D:c.heap.NoLimit) (hg:c.gens=#[])
 (ha:c.heap.get? a=some { cls:=.type "list",data:=.seq vs.toArray }) (hi:IntsAre vs ns) (hl:ns.length<=sizeLine) (W:bp k callerA)
 (F:∀base:Heap,K.In base->base.Ns mainGlobals mg->aF P w K mg base CX k G fd [x] sp) (p:∀(s:Shared)(u:Value),BindsTo s fd ⟨[u],[]⟩ [(x,u)])
 (R:∀H:Hp,lO H->SqL K H a (ns.map V.int)->sp [.ref a] H (λv _=>v=.bl true) λ_ _ _=>False)
 (M:∀H e s',CX [] H c (λ_ _ _=>False) e s'->False):
 codeAny (model P w) callerA (.call (.ref G) ⟨[.ref a],[]⟩) (λr s'=>r=.ok (.ret (.bool true))/\OldK c.heap s'.heap/\s'.os=c.os/\AllBare s'.gens) c:=by
 have J:=su hi;have B:=hi.length
 have i:∀H:Hp,lO H->SqL K H a (ns.map V.int)->HOk P w H c.heap->(∀b,H b≠none->b=a)->(H a≠none->K.lookup a=none)->
  codeAny (model P w) callerA (.call (.ref G) ⟨[.ref a],[]⟩) (λr s'=>r=.ok (.ret (.bool true))/\OldK c.heap s'.heap/\s'.os=c.os/\AllBare s'.gens) c:=by
  intro H Q X hok I hK;have f:∀{b:Addr}{o:Obj},c.heap.get? b=some o->H b=none->(eO c.heap H).get? b=some o:=λe n=>Ep e n
  have L:∀{b:Addr}{o:Obj}{j:Array DictEntry}{ep:Nat},c.heap.get? b=some o->o.data=.dict j ep->H b=none:=λ{b o j ep} e d=>by
   cases q:H b with
   |none=>rfl
   |some u=>
    have A:b=a:=I b (by rw[q];simp);subst A;rw[ha]at e;cases e;have d':Data.seq vs.toArray _=Data.dict j ep:=d;cases d'
  have g:∀{b:Addr}{m:Str->LO},c.heap.Ns b m->(eO c.heap H).Ns b m:=λ{b m}⟨o,j,ep,e,d,r⟩=>⟨o,j,ep,f e (L e d),d,r⟩
  have t:K.In (eO c.heap H):=λb o e=>f (S b o e) (by
   cases q:H b with
   |none=>rfl
   |some u=>
    have A:b=a:=I b (by rw[q];simp);subst A
    rw[hK (by rw[q];simp)]at e;cases e)
  have Y:Mod K mg (eO c.heap H):=⟨t,g y,⟨C,g hb,K0⟩,let ⟨T,h1,Z⟩:=D;⟨T,g h1,Z⟩⟩;have e0:gm P w K mg (eO c.heap H) callerA [] c H:=⟨U,Y,λb o e=>Dk e,Nat.le_of_eq (Eo _ _),trivial,λb hb=>Q5 (show b∈([]:LK)from hb) (by simp),hok,.of_eq hg⟩;refine codeAny_mono ((F _ t (g y)).run callerA [] c H ⟨[.ref a],[]⟩ [.ref a] [.ref a] _ _ W e0 (p c (.ref a)) (.cons U .nil) (R H Q X)) λr s' h=>?_
  cases r with
  |error e=>exact(M H e s' h).elim
  |ok fl=>
   cases fl with
   |next=>exact False.elim h
   |brk=>exact False.elim h
   |cont=>exact False.elim h
   |ret u=>
    obtain⟨v,H',os,bare,un,E,r',q⟩:=h;have q':v=.bl true:=q;subst q';obtain rfl:u=Value.bool true:=r';refine⟨U,OldK.of_keep λb o e=>?_,os,bare⟩
    cases q:H b with
    |none=>exact un.keep b o e q (by intro z;exact Q5 (show b∈([]:LK)from z) (by simp)) (by simp)
    |some u=>
     rcases Q b with z|⟨ob,xs,z⟩
     .rw[q]at z;cases z
     .have z2:=un.frzs b ob _ z;obtain⟨N,_⟩:=hok b _ z;obtain⟨e2,_⟩:=E b _ z2;rw[e]at N;cases N;exact e2
 cases hk:K.lookup a with
 |some o=>
  have e:=S a o hk;rw[ha]at e;cases e;refine i (λ_=>none) (λ_=>.inl U) (.inr ⟨_,vs.toArray,_,hk,U,U,U,by rwa[qA,B],by simpa using J⟩) (λb u z=>by have l:(none:Option HO)=some u:=z;cases l) (λb z=>Q5 U z) λz=>Q5 U z
 |none=>
  refine i (λb=>if b=a then some (.frz { cls:=.type "list",data:=.seq vs.toArray } (.lst (ns.map V.int)))else none) (λb=>?_) (.inl (.inr ⟨{ cls:=.type "list",data:=.seq vs.toArray },Q0 U⟩)) (λb u z=>?_) (λb z=>?_) λ_=>hk
  .by_cases hb:b=a
   .exact .inr ⟨_,_,Q0 hb⟩
   .exact .inl (qZ hb)
  .by_cases hb:b=a
   .have l:=(Q0 hb).symm.trans z;cases l;subst hb;exact⟨ha,by rwa[q5],vs,_,J,ha⟩
   .have l:=(qZ hb).symm.trans z;cases l
  .by_cases hb:b=a
   .exact hb
   .exact Q5 (qZ hb) z
abbrev CX0:CXT:=λ_ _ _ _ _ _=>False
abbrev E0:XK:=λ_ _ _=>False
theorem aT:gh CX0 X E0:=λ_ _ _ _ _ _ _ h=>h.elim
structure Fun(K:W.Frag)(x qual:Str)(st:Stmt)(f:Addr)(fd:FuncData):Prop where
 ex:∃(oc:Value)(od:Option Addr)(kV doc pm:Value)(an:Option Addr)(cdv ct:Value)(osl:Array LO),
  fd=PySem.W.fnOf x qual (fG st) (eP st) (aE st) .none kV doc pm an cdv ct/\K.lookup f=some ⟨oc,od,.func fd,osl⟩/\PySem.W.codeIn K cdv qual=true
 kp:PySem.W.keepIn K (.ref f)=true
theorem Fun.ok{N:LS}{k:Nat}(F:Fun K x qual st f fd)(S:aM N ps (aE st))(len:∀vs H Q E,sp vs H Q E->vs.length=ps.length)
 (a:∀(cdv:Value)(A:Around)(outer:List Env)(s:Shared)(H:Hp)(vs:LV)(Q:VK)(E:XK),bp k (A.deeper (envOfC qual (aE st) s.heap.objs.size f cdv))->sp vs H Q E->
  ∃t,PSs (fY CX0 P w K mg base N qual (aE st) f cdv A outer s H E).nox (eP st) t/\t { nx:=λ_ H'=>Q .non H',rt:=Q } (eU N vs) H):aF P w K mg base CX0 (k+1) f fd ps sp:=by
 obtain⟨_,_,kV,_,pm,_,cdv,ct,_,rfl,d,b⟩:=F.ex;refine EL d b S len λA outer s H vs Q E e c=>?_;obtain⟨t,h,q⟩:=a cdv A outer s H vs Q E e c;exact⟨t,h.nox,q⟩
theorem Fun.binds(F:Fun K x qual st f fd)
 (h:∀(kV a pm:Value)(b:Option Addr)(cdv ct:Value)(us:LL),us.length=ps.length->bindArgs (PySem.W.fnOf x qual (fG st) (eP st) (aE st) .none kV a pm b cdv ct) ⟨us,[]⟩=pure (ps.zip us)):cC K fd ps []:=by
 obtain⟨_,_,kV,a,pm,b,cdv,ct,_,rfl,_,_⟩:=F.ex;exact .all (h kV a pm b cdv ct)
theorem EG{e:Value}{g d:Option Addr}{kV b pm a ct:Value}(l:K.lookup f=some ⟨e,g,.func (PySem.W.fnOf x qual (fG st) (eP st) (aE st) .none kV b pm d a ct),osl⟩)
 (c:PySem.W.codeIn K a qual=true) (k:PySem.W.keepIn K (.ref f)=true):Fun K x qual st f (PySem.W.fnOf x qual (fG st) (eP st) (aE st) .none kV b pm d a ct):=⟨⟨e,g,kV,b,pm,d,a,ct,osl,U,l,c⟩,k⟩
theorem mF{n:Nat}(h:n<=1000):n<sizeLine:=Nat.lt_of_le_of_lt h Yk
theorem kS{A B:Prop}(h:B):if false=true then A else B:=by
 rwa[qZ qh]
theorem Ef{A B:Prop}(h:A):if true=true then A else B:=by
 rwa[Q0 U]
theorem i4{c A B:Prop}[Decidable c](b:c->A)(a:¬ c->B):if c then A else B:=by
 by_cases h:c
 .rw[Q0 h];exact b h
 .rw[qZ h];exact a h
def a9(H H':Hp):Prop:=∀b o,H b=some o->H' b=some o
theorem a9.refl(H:Hp):a9 H H:=λ_ _ h=>h
theorem a9.trans{d e:Hp}(a:a9 H d)(b:a9 d e):a9 H e:=λc o h=>b c o (a c o h)
theorem a9.seq{xs:LV}(e:a9 H H')(h:SqL K H a xs):SqL K H' a xs:=by
 rcases h with(h|⟨o,h⟩)|h
 .exact .inl (.inl (e _ _ h))
 .exact .inl (.inr ⟨o,e _ _ h⟩)
 .exact .inr h
theorem FM:bf X (.builtin "len") (λxs H Q=>∃a kvs,xs=[V.ref a]/\H a=some (.dK kvs)/\Q (.int kvs.length) H):=by
 intro _ s _ H xs us Q I r h;obtain⟨a,kvs,rfl,ha,q⟩:=h;obtain⟨u,rfl,ru⟩:=cK r;cases ru;exact Fj I (.inl ha) λt _ b=>⟨.int kvs.length,H,b,⟨t,U⟩,q⟩
section
variable [DecidableEq κ]
theorem zi{kvs:List (κ×V)}{k:κ}{v:V}(h:aR kvs k=some v):k∈kvs.map (·.1):=by
 have q:(kvs.any λa=>decide (a.1=k))=true:=by
  rw[gw,h]
  all_goals rfl
 obtain⟨p,hp,e⟩:=List.any_eq_true.mp q;exact List.mem_map.mpr ⟨p,hp,Qd e⟩
theorem vZ:∀{l:List κ}{k:κ},l.Nodup->¬ k∈l->(l++[k]).Nodup
 |[],k,_,_=>by simp
 |a::r,k,h,hk=>by
  obtain⟨h1,h2⟩:=List.nodup_cons.mp h;show(a::(r++[k])).Nodup;refine List.nodup_cons.mpr ⟨λm=>?_,vZ h2 λm=>hk (qt.mpr (Or.inr m))⟩;rcases qg.mp m with q|q
  .exact h1 q
  .exact hk (qt.mpr (Or.inl (qS.mp q).symm))
end
noncomputable def cG(cells:List (Str×Addr)):List (Str×NameKind)->List (Str×Addr)->List (Str×Addr)
 |[],acc=>acc
 |(n,k)::r,acc=>cG cells r (if k == .free then(match cells.lookup n with|some c=>(n,c)::acc|none=>acc)else acc)
theorem FD(h:∀y∈scope.names,y.2=.free->∃c,env.cells.lookup y.1=some c):closureFor scope env=pure (cG env.cells scope.names []):=by
 simp only[closureFor];generalize ([]:List (Str×Addr))=d
 revert h
 generalize scope.names=l;intro h
 induction l generalizing d with
 |nil=>simp[cG]
 |cons x r f=>
  obtain⟨n,k⟩:=x;rw[List.forIn_cons];have b:∀y∈r,y.2=NameKind.free->∃c,env.cells.lookup y.1=some c:=λy g=>h y (qj _ g);by_cases hk:k=.free
  .subst hk;obtain⟨c,e⟩:=h (n,.free) qk U;have a:List.lookup n env.cells=some c:=e;have i:cellOf env n=pure c:=by unfold cellOf;rw[a]
   simp only[beq_self_eq_true,if_true,i,pure_bind,cG,a];exact f _ b
  .have hb:(k == NameKind.free)=false:=by simpa using hk
   simp only[hb,Qk,if_false,pure_bind,cG];exact f _ b
theorem x8(a:List (Str×Addr)):∀(l:List (Str×NameKind))(b:List (Str×Addr))(p:Str×Addr),p∈cG a l b->p∈b\/(p.1,NameKind.free)∈l/\a.lookup p.1=some p.2
 |[],_,_,h=>.inl h
 |(n,k)::r,b,p,h=>by
  have h':p∈cG a r (if k == .free then(match a.lookup n with|some c=>(n,c)::b|none=>b)else b):=h;rcases x8 a r _ p h' with q|⟨d,f⟩
  .by_cases hk:k=.free
   .subst hk;simp only[beq_self_eq_true,if_true]at q
    cases e:a.lookup n with
    |none=>rw[e]at q;exact .inl q
    |some c=>
     rw[e]at q;rcases qt.mp q with rfl|q
     .exact .inr ⟨qk,e⟩
     .exact .inl q
   .have hb:(k == NameKind.free)=false:=by simpa using hk
    simp only[hb,Qk,if_false]at q;exact .inl q
  .exact .inr ⟨qj _ d,f⟩
theorem wj{f g:Type}[BEq f][LawfulBEq f]{x:f}:∀{l:List (f×g)}{c:g},(x,c)∈l->∃d,l.lookup x=some d
 |(a,b)::r,c,h=>by
  by_cases e:x=a
  .subst e;exact⟨b,by simp⟩
  .rcases qt.mp h with q|q
   .cases q;exact Q5 U e
   .obtain⟨d,hd⟩:=wj q;exists d;have i:(x == a)=false:=by simpa using e
    simp only[List.lookup_cons,i];exact hd
theorem x9(a:List (Str×Addr))(x:Str)(c:Addr)(e:a.lookup x=some c):∀(l:List (Str×NameKind))(b:List (Str×Addr)),((x,NameKind.free)∈l\/(x,c)∈b)->(x,c)∈cG a l b
 |[],_,h=>h.elim (λq=>nomatch q) id
 |(n,k)::r,b,h=>by
  refine x9 a x c e r _ ?_;rcases h with h|h
  .rcases qt.mp h with q|q
   .cases q;refine .inr ?_;rw[e];exact qk
   .exact .inl q
  .refine .inr ?_;by_cases hk:(k == NameKind.free)=true
   .rw[Q0 hk]
    cases a.lookup n with
    |none=>exact h
    |some _=>exact qj _ h
   .rwa[qZ hk]
theorem fD{names:List (Str×NameKind)}{c:Addr}(h:(cG cells names []).lookup x=some c):cells.lookup x=some c:=by
 have a:=Qi h;rcases x8 cells names [] _ a with q|⟨_,q⟩
 .exact nomatch q
 .exact q
theorem xb{names:List (Str×NameKind)}{c:Addr}(a:(x,NameKind.free)∈names)(e:cells.lookup x=some c):(cG cells names []).lookup x=some c:=by
 obtain⟨d,hd⟩:=wj (x9 cells x c e names [] (.inl a));have:=fD hd;rw[e]at this;rw[hd,this]
theorem uR{k:NameKind}(h:(relabel scope env).names.lookup x=some k):∃a,scope.names.lookup x=some a/\(a=k\/(a=.free/\k=.cell)):=by
 have go:∀(l:List (Str×NameKind)),(l.map λ(n,k)=>if(k == NameKind.free && env.scope.kind == .function && env.kindOf n == some .cell)then(n,NameKind.cell)else(n,k)).lookup x=some k->∃a,l.lookup x=some a/\(a=k\/(a=.free/\k=.cell)):=by
  intro l
  induction l with
  |nil=>intro h;simp at h
  |cons p r g=>
   obtain⟨n,c⟩:=p;intro h;simp only[qR]at h;by_cases hx:x=n
   .subst hx;by_cases hc:(c == NameKind.free && env.scope.kind == .function && env.kindOf x == some .cell)=true
    .rw[Q0 hc]at h;simp at h
     have:c=.free:=by
      simp only[Bool.and_eq_true,beq_iff_eq]at hc;exact hc.1.1
     exact⟨c,by simp,.inr ⟨this,h.symm⟩⟩
    .rw[qZ hc]at h;simp at h;exact⟨c,by simp,.inl h⟩
   .have d:(x == n)=false:=by simpa using hx
    have:∀b:Bool,(if b=true then(n,NameKind.cell)else(n,c)).1=n:=λb=>by cases b<;>rfl
    rw[List.lookup_cons,this,d]at h;obtain⟨a,f,e⟩:=g h;exact⟨a,by rwa[List.lookup_cons,d],e⟩
 exact go scope.names h
theorem Bk(h:scope.names.lookup x=some .free):(relabel scope env).names.lookup x=some .cell\/(relabel scope env).names.lookup x=some .free:=by
 have go:∀(l:List (Str×NameKind)),l.lookup x=some .free->(l.map λ(n,k)=>if(k == NameKind.free && env.scope.kind == .function && env.kindOf n == some .cell)then(n,NameKind.cell)else(n,k)).lookup x=some .cell\/(l.map λ(n,k)=>if(k == NameKind.free && env.scope.kind == .function && env.kindOf n == some .cell)then(n,NameKind.cell)else(n,k)).lookup x=some .free:=by
  intro l
  induction l with
  |nil=>intro h;simp at h
  |cons p r d=>
   obtain⟨n,c⟩:=p;intro h;simp only[qR];by_cases hx:x=n
   .subst hx;simp at h;by_cases hc:(c == NameKind.free && env.scope.kind == .function && env.kindOf x == some .cell)=true
    .rw[Q0 hc];simp
    .rw[qZ hc];simp[h]
   .have a:(x == n)=false:=by simpa using hx
    have t:∀b:Bool,(if b=true then(n,NameKind.cell)else(n,c)).1=n:=λb=>by cases b<;>rfl
    rw[List.lookup_cons,a]at h;rw[List.lookup_cons,t,a];exact d h
 exact go scope.names h
section
variable {R:Result->Shared->Prop}
theorem Fx{p a o:Expr}{it g:Value}(I:Nat->Shared->Prop)
 (turn:∀n s,I n s->wpAny (model prog w) A (pyNext it) (λr d=>match r with
  |none=>R (.ok .next) d
  |some v=>wpAny (model prog w) A (letOwnedTupleGo a it v) (λ_ e=>wpAny (model prog w) A (assign a env v) (λ_ j=>
   wpAny (model prog w) A (forIn ifs true λc r=>if r=true then do let ok <- isTrue c env (eval c env);pure (ForInStep.yield ok)else pure (ForInStep.yield r)) (λok b=>
    if ok=true then wpAny (model prog w) A (eval p env) (λx k=>
     wpAny (model prog w) A (call (.builtin "list.append") [g,x]) (λ_ i=>∃m,m<n/\I m i) (λ_ _=>False) k) (λ_ _=>False) b
    else ∃m,m<n/\I m b) (λ_ _=>False) j) (λ_ _=>False) e) (λ_ _=>False) d) (λ_ _=>False) s)
 (n:Nat) (h:I n s):
 codeAny (model prog w) A (.compLoop (.ListComp p [⟨a,o,ifs,0⟩] scope pos) 0 it g env) R s:=by
 refine codeAny_loop U I (λn s z=>?_) n h;show wpAny _ A ((compTurn (.ListComp p [⟨a,o,ifs,0⟩] scope pos) 0 it g env).onRaise (λx=>do noteFrame x env;theTreesLotGoes x)) _ _ s;refine wpAny_noted ?_;rw[compTurn_list];refine q4 (wpAny_standAt (q4 (wpAny_mono (turn n s z) (λr d f=>?_) λ_ _ h'=>h'.elim)))
 cases r with
 |none=>exact qc f
 |some v=>
  refine q4 (wpAny_mono f (λ_ e q=>?_) λ_ _ h'=>h'.elim);refine q4 (wpAny_mono q (λ_ j u=>q4 (wpAny_mono u (λok b l=>?_) λ_ _ h'=>h'.elim)) λ_ _ h'=>h'.elim)
  cases ok with
  |false=>exact qc ⟨U,l⟩
  |true=>
   exact q4 (q4 (wpAny_mono l (λx k y=>q4 (wpAny_mono y (λ_ i t=>qc (qc ⟨U,t⟩)) λ_ _ h'=>h'.elim)) λ_ _ h'=>h'.elim))
end
structure b5(esc:Scope)(N:LS)(scope:Scope)(k:Nat)(Nc:LS)(js:List Nat):Prop where
 kind:scope.kind=.function
 cell:∀y∈scope.names,y.2≠.cell
 names:∀y∈scope.names,y.2=.local->scope.names.lookup y.1=some .local
 free:∀y∈scope.names,y.2=.free->esc.names.lookup y.1=some .cell\/esc.names.lookup y.1=some .free
 len:Nc.length=k+js.length
 out:∀p∈(Nc.drop k).zip js,N[p.2]?=some p.1/\scope.names.lookup p.1=some .free
def fZ(k:Nat)(js:List Nat)(O:St):St:=List.replicate k none++js.map λj=>(O[j]?).join
noncomputable def Cx.comp(X:Cx)(ζ:List (Addr×Obj))(Nc:LS)(scope:Scope)(fp:LK)(s:Shared)(H:Hp)(C:Addr):Cx:=
 { X with N:=Nc,s₀:=s,H₀:=H,env:=compEnvC scope (cG X.env.cells scope.names []) C X.env,outer:=X.stack,stack:=X.stack,ex:=fp,fn:=λ_=>false,pn:=X.pn++ζ,xe:=λ_ _=>False }
section
variable {k:Nat}
theorem b5.some(S:b5 X.env.scope X.N scope k Nc js)(I:Inv X ζ O H s):∀y∈scope.names,y.2=.free->∃c,X.env.cells.lookup y.1=some c:=λy a hk=>I.ok.has y.1 (S.free y a hk)
theorem b5.clos(S:b5 X.env.scope X.N scope k Nc js)(I:Inv X ζ O H s):closureFor scope X.env=pure (cG X.env.cells scope.names []):=FD (S.some I)
theorem Fu(S:b5 X.env.scope X.N scope k Nc js)(I:Inv X ζ O H s)(i:∀b∈fp,ce X ζ H b)(m:∀b∈fp,b<s.heap.objs.size)(n:s.heap.objs.size<=C):(X.comp ζ Nc scope fp s H C).Ok:=by
 have j:∀b,b<s.heap.objs.size->b≠C:=λb hb=>qF (qC hb n)
 have g:∀b∈fp,b∉frs X.stack:=λb hb z=>by
  rcases qt.mp (I.stkSub b z)with e|e
  .exact(i b hb).2.1 e
  .exact(i b hb).2.2.1 e
 refine⟨I.ok.mod,S.kind,I.ok.glob,I.ok.blt,n,λx y c a f=>I.ok.inj x y c (fD a) (fD f),λx t=>?_,λx c h=>?_,I.ok.hd,I.ok.frames,.inl U,λb hb=>⟨?_,λx c e=>(i b hb).2.2.2.2.1 x c (fD e)⟩,
  λb o e=>⟨(I.bs b o e).1,(I.bs b o e).2⟩,qx I.ok.bsz I.sz,λb o e hb=>?_,g,I.stack,I.stkFree⟩
 .have l:(relabel scope X.env).names.lookup x=some .cell\/(relabel scope X.env).names.lookup x=some .free:=t
  have d:(x,NameKind.free)∈scope.names:=by
   rcases l with h|h
   .obtain⟨p,a,f⟩:=uR h;rcases f with rfl|⟨rfl,_⟩
    .exact Q5 U (S.cell _ (Qi a))
    .exact Qi a
   .obtain⟨p,a,f⟩:=uR h;rcases f with rfl|⟨rfl,_⟩
    .exact Qi a
    .exact Qi a
  obtain⟨c,r⟩:=S.some I (x,.free) d U;exact⟨c,xb d r⟩
 .exact Q5 (show false=true from h) qh
 .exact j b (m b hb)
 .rcases(i b hb).2.2.2.1 with q|q
  .exact I.ok.noex b o e q
  .exact Q5 (qC (qp e) (qx I.ok.bsz q)) (Qc _)
theorem Fv(S:b5 X.env.scope X.N scope k Nc js)(I:Inv X ζ O H s)(R:∀b∈fp,ce X ζ H b)(F:∀b∈fp,b<s.heap.objs.size)(y:s.heap.objs.size<=C){s1:Shared}
 (os:s1.os=s.os) (bare:AllBare s1.gens) (kept:∀b o,s.heap.get? b=some o->s1.heap.get? b=some o) (ns:∃m,s1.heap.Ns C m):Inv (X.comp ζ Nc scope fp s H C) [] (fZ k js O) H s1:=by
 have D:∀b,b<s.heap.objs.size->b≠C:=λb hb=>qF (qC hb y);refine⟨Fu S I R F y,os,bare,Un.kept kept,?_,λx c e=>?_,I.hok.fresh y,λx c e=>I.freeC x c (fD e),λp hp=>?_,I.hok.kept kept,?_⟩
 .obtain⟨K,E⟩:=ns;refine⟨K,E,λi x v Q a _=>?_⟩;have J:Nc[i]?=some x:=Q;by_cases hi:i<k
  .unfold fZ at a;rw[Q6 (by simpa using hi),List.getElem?_replicate,Q0 hi]at a;cases a
  .obtain⟨h,rfl⟩:∃h,i=k+h:=⟨i-k,Yo⟩;unfold fZ at a;rw[qK (by simp),List.length_replicate,Nat.add_sub_cancel_left,qD]at a
   cases ej:js[h]? with
   |none=>rw[ej]at a;cases a
   |some j=>
    rw[ej]at a;have g:(O[j]?).join=some v:=qI a
    have L:O[j]?=some (some v):=by
     cases q:O[j]? with
     |none=>rw[q]at g;cases g
     |some z=>rw[q]at g;cases z with
      |none=>cases g
      |some z=>cases g;rfl
    have K0:(x,j)∈(Nc.drop k).zip js:=qy (i:=h) (List.getElem?_zip_eq_some.mpr ⟨by rw[List.getElem?_drop];exact J,ej⟩);obtain⟨P,t⟩:=S.out _ K0;have w:(x,NameKind.free)∈scope.names:=Qi t;have hk:=S.free _ w U;obtain⟨m,hn,hl⟩:=I.loc;obtain⟨u,r,l⟩:=hl j x v P L (.inr hk);exists u,r;rcases l with⟨B,_⟩|⟨_,c,M,o,A,hd⟩
    .have f:X.env.scope.names.lookup x=some .local:=B;rcases hk with hk|hk
     .rw[hk]at f;cases f
     .rw[hk]at f;cases f
    .exact .inr ⟨Bk t,c,xb w M,o,kept _ _ A,hd⟩
 .obtain⟨v,o,A,hd⟩:=I.cell x c (fD e);exact⟨v,o,kept _ _ A,hd⟩
 .have G:p∈X.pn++ζ:=by
   rcases qg.mp hp with z|z
   .exact z
   .exact nomatch z
  obtain⟨e,n,ne,T,d⟩:=I.pin p G;refine⟨kept _ _ e,n,D _ (qp e),λz=>?_,d⟩;rcases qt.mp (I.stkSub _ z)with q|q
  .exact ne q
  .exact T q
 .show(fZ k js O).length=Nc.length;unfold fZ;rw[qa,List.length_replicate,q5,S.len]
theorem Fw(I:Inv X ζ O H s)(d:∀b∈fp,ce X ζ H b){D:Addr}(h:s.heap.objs.size<=D){g:St}{ys:LV}{n:Nat}
 (J:Inv (X.comp ζ Nc scope fp s H C) pins' g H' s') (a:H' D=none) (hz:ys.length<=sizeLine) (k:aB ys η) (i:s'.heap.get? D=some { cls:=.type "list",data:=.seq η.toArray n }):
 Inv X ζ O (upd H' D (.lst ys)) s':=by
 have B:Un (frs X.stack) fp H H' s.heap s'.heap:=J.base;have f:∀b o,s.heap.get? b=some o->b≠D:=λb o e=>qF (qC (qp e) h);refine I.call' (ch:=fp) J.os ⟨B.keep,B.slot,λb o e n j=>?_,B.there,λb xs e=>?_,λb o u e=>?_,λb ps e=>?_⟩ (λb o e=>?_) J.bare λb hb=>⟨(d b hb).2.2.2.1,(d b hb).2.1,(d b hb).2.2.2.2.1,(d b hb).2.2.2.2.2⟩
 .rw[au (f b o e)];exact B.free b o e n j
 .rw[au (bP (B.tups b xs e) a)];exact B.tups b xs e
 .rw[au (bP (B.frzs b o u e) a)];exact B.frzs b o u e
 .obtain⟨more,q⟩:=B.tbls b ps e;exact⟨more,by rwa[au (bP q a)]⟩
 .by_cases hb:b=D
  .subst hb;rw[ah]at e;cases e;exact⟨hz,η,n,k,i⟩
  .rw[au hb]at e;exact(J.hok b o e).stay (λc v _ q=>q) (λc q=>by rwa[au (bP q a)]) λc xs q=>by rwa[au (bP q a)]
end
def PTs(Y:Cx)(ifs:LP)(t:TT):Prop:=
 ∀(ζ:List (Addr×Obj))(s:Shared)(O:St)(H:Hp)(Q:Bool->Hp->Prop),Inv Y ζ O H s->t O H Q->
  wpAny (model Y.prog Y.w) Y.A (forIn ifs true λc r=>if r=true then do let ok <- isTrue c Y.env (eval c Y.env);pure (ForInStep.yield ok)else pure (ForInStep.yield r)) (TP Y ζ O Q) Y.xe s
def gy:TT:=λ_ H Q=>Q true H
theorem dB{Y:Cx}:PTs Y [] gy:=λ_ _ _ H _ I h=>wpAny_tests_nil ⟨H,I,h⟩
theorem vt{Y:Cx}{c:Expr}{t:TT}(h:PT Y c t):PTs Y [c] t:=λa s d H Q I b=>wpAny_tests_one (h a s d H Q I b)
def gp(J:It)(g:TG)(tt:TT)(te:TE)(a0:LV->Hp->Prop)(W:Nat->Nat->LV->St->Hp->Prop):Prop:=
 ∀i m ys O H,W i m ys O H->(J.stop i H/\ys.length<=sizeLine/\a0 ys H)\/(J.go i H/\ys.length<sizeLine/\∃N:LV->St->Hp->Prop,(∀K0 F H',N K0 F H'->∃m',m'<m/\W (i+1) m' K0 F H') /\
  ∀x H',J.yld i H x H'->g x O H' λB H2=>tt B H2 λb V=>if b=true then te B V λy H4=>N (ys++[y]) B H4 else N ys B V)
section
variable {k:Nat}{π elt:Expr}{g:TG}
theorem xW{J:It}{tn:Nat->Heap->Prop}{a9:LV->Hp->Prop}{W:Nat->Nat->LV->St->Hp->Prop}{RR:Value->Addr->Result->Shared->Prop}{m0:Nat}
 (S:b5 X.env.scope X.N scope k Nc js) (hc:X.calm=true) (I:Inv X ζ O H s) (T:iq X.prog X.w X.K tg J fp it tn) (st:tn 0 s.heap) (M:∀b∈fp,ce X ζ H b)
 (hg:∀ζ fp s H C,PG (X.comp ζ Nc scope fp s H C) tg g) (ht:∀ζ fp s H C,PTs (X.comp ζ Nc scope fp s H C) ifs tt) (he:∀ζ fp s H C,PE (X.comp ζ Nc scope fp s H C) elt te)
 (w0:W 0 m0 [] (fZ k js O) H) (turn:gp J g tt te a9 W)
 (b7:∀D C s' ys H',Inv X ζ O (upd H' D (.lst ys)) s'->ce X ζ (upd H' D (.lst ys)) C->(∃m,s'.heap.Ns C m)->H' D=none->a9 ys H'->RR (.ref D) C (.ok .next) s'):
 wpAny (model X.prog X.w) X.A (newList []) (λa7 h=>wpAny (model X.prog X.w) X.A (newFunctionEnv scope X.env.globals (cG X.env.cells scope.names []) [] X.env.qual none .none (some X.env)) (λZ b4=>
  codeAny (model X.prog X.w) X.A (.compStart (.ListComp elt [⟨tg,π,ifs,0⟩] scope pos) 0 (.ref it) a7 { Z with scope:=relabel scope X.env }) (RR a7 Z.locals) b4) E h) E s:=by
 refine wpAny_newObj_type (wpAny_newFunctionEnv S.cell (by intro y hy;simp at hy) (λG j d=>?_) S.kind);dsimp only at j d ⊢;generalize hH2:s.heap.push { cls:=.type "list",dict:=none,data:=.seq ([]:LL).toArray }=H2 at j d ⊢;have hC:H2.objs.size=s.heap.objs.size+1:=by rw[<- hH2,Qg]
 have t:s.heap.objs.size<=H2.objs.size:=by rw[hC];exact Nat.le_succ _
 have P:s.heap.objs.size≠H2.objs.size:=by rw[hC];exact qF (Qb _)
 have old:∀b o,s.heap.get? b=some o->G.get? b=some o:=λb o e=>
  d.extBut b o (qF (qC (qp e) t)) (q9 _ (hH2▸q9 _ e))
 have b6:G.get? s.heap.objs.size=some { cls:=.type "list",data:=.seq ([]:LL).toArray 0 }:=d.extBut _ _ P (q9 _ (hH2▸qo _ U));have b':∀b∈fp,∃o,s.heap.get? b=some o:=λb hb=>let ⟨o,e,_⟩:=T.obj 0 _ st b hb;⟨o,e⟩;have V:∀b∈fp,b<s.heap.objs.size:=λb hb=>let ⟨_,e⟩:=b' b hb;qp e
 have a3:∀b∈fp,b∉frs X.stack:=λb hb z=>by
  rcases qt.mp (I.stkSub b z)with e|e
  .exact(M b hb).2.1 e
  .exact(M b hb).2.2.1 e
 have a6:s.heap.objs.size∉frs X.stack:=λz=>by
  rcases qt.mp (I.stkSub _ z)with e|e
  .have:=I.lt;rw[<- e]at this;exact Qc _ this
  .exact I.nofs (qd _) e
 let f:LL->Nat->List (Addr×Obj):=λa n=>[(s.heap.objs.size,{ cls:=.type "list",data:=.seq a.toArray n })]
 have L:∀{H':Hp}{a:LL}{n:Nat},(∀b∈fp,H' b=none)->∀b∈fp,ce (X.comp ζ Nc scope fp s H H2.objs.size) (f a n) H' b:=λ{H' a n} hn b hb=>
  ⟨hn b hb,qF (qC (V b hb) t),a3 b hb,.inl hb,λx c e=>(M b hb).2.2.2.2.1 x c (fD e),λp hp z=>by
   rcases qg.mp hp with q|q
   .exact(M b hb).2.2.2.2.2 p q z
   .have e:p=(s.heap.objs.size,_):=qS.mp q;rw[e]at z
    exact Q5 (V b hb) (by rw[<- z];exact Qc _)⟩
 have a2:∀h:Shared,h={ s with heap:=G,toks:=s.toks+([]:List (Str×Value)).length }->
  codeAny (model X.prog X.w) X.A (.compLoop (.ListComp elt [⟨tg,π,ifs,0⟩] scope pos) 0 (.ref it) (.ref s.heap.objs.size) (compEnvC scope (cG X.env.cells scope.names []) H2.objs.size X.env)) (RR (.ref s.heap.objs.size) H2.objs.size) h:=by
  rintro h rfl
  refine Fx (λn s'=>∃i ys a nn b0 H',Inv (X.comp ζ Nc scope fp s H H2.objs.size) [] b0 H' s'/\tn i s'.heap/\(∀b∈fp,H' b=none)/\H' s.heap.objs.size=none/\aB ys a /\
   s'.heap.get? s.heap.objs.size=some { cls:=.type "list",data:=.seq a.toArray nn }/\W i n ys b0 H') ?_ m0 ?_
  .rintro n s3 ⟨i,ys,a,nn,B,Y,I3,a8,b2,a0,R,c4,w3⟩
   have b3:Inv (X.comp ζ Nc scope fp s H H2.objs.size) (f a nn) B Y s3:=I3.pins_of λp hp=>by
    have e:p=(s.heap.objs.size,_):=qS.mp hp;subst e;exact⟨c4,a0,P,a6,λv z=>by cases z⟩
   rcases turn i n ys B Y w3 with⟨stop,hz,fin⟩|⟨go,hz,N,hN,step⟩
   .refine thn (T.done (X.comp ζ Nc scope fp s H H2.objs.size) U U U hc i (f a nn) s3 B Y (λ_ _=>False) b3 (L b2) a8 stop) λr s4 ⟨hr,I4⟩=>?_;subst hr;have c1:=(I4.pin _ (qH _ (qS.mpr U))).1;obtain⟨m4,c5,_⟩:=I4.loc;refine b7 _ _ s4 ys Y (Fw I M (qd _) I4 a0 hz R c1) (I.fpOk t ?_) ⟨m4,c5⟩ a0 fin;rw[au (Ne.symm P)];exact I4.free
   .refine thn (T.item (X.comp ζ Nc scope fp s H H2.objs.size) U U U hc i (f a nn) s3 B Y (λ_ _=>False) b3 (L b2) a8 go) λr s4 ⟨u,hr,h4⟩=>?_;subst hr;refine thn h4 λ_ s5 ⟨x,H5,I5,r5,y5,Q,c2⟩=>?_;have c3:=I5.pinned (L c2) (T.obj _ _ Q);refine thn (hg ζ fp s H H2.objs.size _ s5 B H5 x u _ c3 r5 (step x H5 y5)) λ_ s6 ⟨l,H6,I6,q6⟩=>?_;refine thn (ht ζ fp s H H2.objs.size _ s6 l H6 _ I6 q6) λok s7 ⟨H7,I7,q7⟩=>?_
    have F:∀{b1:St}{H':Hp}{s':Shared},Inv (X.comp ζ Nc scope fp s H H2.objs.size) (f a nn++iT fp s5.heap) b1 H' s'->
     s'.heap.get? s.heap.objs.size=some { cls:=.type "list",data:=.seq a.toArray nn }/\H' s.heap.objs.size=none/\(∀b∈fp,H' b=none)/\(∀b∈fp,∀o,s5.heap.get? b=some o->s'.heap.get? b=some o):=λ{b1 H' s'} J=>by
     have p1:=J.pin (s.heap.objs.size,_) (qH _ (qV _ (qS.mpr U)));refine⟨p1.1,p1.2.1,λb hb=>?_,λb hb o e=>(J.pin (b,o) (qH _ (qH _ (kI hb e)))).1⟩;obtain⟨o,e,_⟩:=T.obj _ _ Q b hb;exact(J.pin (b,o) (qH _ (qH _ (kI hb e)))).2.1
    cases ok with
    |true=>
     rw[Q0 U]at q7 ⊢;refine thn (he ζ fp s H H2.objs.size _ s7 l H7 _ I7 q7) λy s8 ⟨v,H8,I8,r8,q8⟩=>?_;obtain⟨a4,K0,a1,k8⟩:=F I8;refine append_at (hsz:=by have:=R.length;show a.toArray.size<=sizeLine;rw[qA,<- this];exact Nat.le_of_lt hz) a4 λh9 a' b9=>?_;obtain⟨m',a5,w9⟩:=hN _ _ _ q8;have b8:Inv (X.comp ζ Nc scope fp s H H2.objs.size) [] l H8 s8:=I8.pins_of λp hp=>nomatch hp
     have I9:Inv (X.comp ζ Nc scope fp s H H2.objs.size) [] l H8 { s8 with heap:=h9 }:=b8.turned (t':=s8.toks) (it:=s.heap.objs.size) (λb o hb e=>(a'.2 b hb).trans e) K0 P (.inr (qd _)) (λx c e z=>by
      obtain⟨v,q⟩:=I.cell x c (fD e)
      exact Q5 q.lt (by rw[z];exact Qc _)) λp hp z=>by
       have c0:p∈X.pn++ζ:=by
        rcases qg.mp hp with q|q
        .exact q
        .exact nomatch q
       exact Q5 (qp (I.pin p c0).1) (by rw[z];exact Qc _)
     refine⟨m',a5,i+1,ys++[v],a++[y],nn+1,l,H8,I9,T.keep _ _ _ Q λb hb o e=>(a'.2 b (qF (V b hb))).trans (k8 b hb o e),a1,K0,R.append (.cons r8 .nil),?_,w9⟩;show h9.get? s.heap.objs.size=_;rw[b9];simp
    |false=>
     rw[qZ qh]at q7 ⊢;obtain⟨a4,K0,a1,k8⟩:=F I7;obtain⟨m',a5,w9⟩:=hN _ _ _ q7;exact⟨m',a5,i+1,ys,a,nn,l,H7,I7.pins_of λp hp=>(nomatch hp),T.keep _ _ _ Q k8,a1,K0,R,a4,w9⟩
  .exact⟨0,[],[],0,_,H,Fv S I M V t U I.bare old ⟨_,j⟩,T.keep _ _ _ st λb _ o e=>old b o e,λb hb=>(M b hb).1,I.hok.fresh (qd _),.nil,b6,w0⟩
 exact codeAny_compStart_list (a2 _ U) (T.self X.A 0 _ _ _ (T.keep _ _ _ st λb _ o e=>old b o e) (a2 _ U))
def sP(B:TI)(k:Nat)(js:List Nat)(g:TG)(tt:TT)(te:TE):TE:=λO H Q=>B O H λJ H1=>∃W:Nat->Nat->LV->St->Hp->Prop,(∃m,W 0 m [] (fZ k js O) H1) /\
 gp J g tt te (λys H=>∀D,H D=none->Q (.ref D) (upd H D (.lst ys))) W
theorem dM{i:TI}(S:b5 X.env.scope X.N scope k Nc js)(t:X.calm=true)(hi:PI X tg π i)
 (hg:∀ζ fp s H C,PG (X.comp ζ Nc scope fp s H C) tg g) (ht:∀ζ fp s H C,PTs (X.comp ζ Nc scope fp s H C) ifs tt) (z:∀ζ fp s H C,PE (X.comp ζ Nc scope fp s H C) elt te)
 (p:∀x,foldedSetIterable π X.env x=pure x:=by intro _;rfl):PE X (.ListComp elt [⟨tg,π,ifs,0⟩] scope pos) (sP i k js g tt te):=by
 intro ζ s f H Q I h;rw[eval_ListComp];refine wpAny_comprehension_free (use:=none) U p (S.clos I) S.kind S.names (thn (hi ζ s f H _ I h) λ_ s1 v=>thn v λ_ _ u=>?_);obtain⟨it,fp,_,J,_,e,y,T,j,B,W,⟨_,r⟩,turn⟩:=u;subst e;refine xW (RR:=λd C=>compPost (model X.prog X.w) X.A X.xe none (EP X ζ f Q) d C) S t y T j B hg ht z r turn λD C q ys H' n a ns l fin=>?_;obtain⟨m,hn⟩:=ns;exact⟨m,hn,λh' c=>⟨.ref D,_,n.turned (t':=q.toks) (λb o hb e=>(c.2 b hb).trans e) a.1 a.2.1 a.2.2.2.1 a.2.2.2.2.1 a.2.2.2.2.2,U,fin D l⟩⟩
theorem oH{u:TI}{d f:Pos}(P:X.N.Nodup)(r:X.N[i]?=some x)(hx:Loc X.env.scope x)(S:b5 X.env.scope X.N scope k Nc js)(K0:X.calm=true)(hi:PI X tg π u)
 (hg:∀ζ fp s H C,PG (X.comp ζ Nc scope fp s H C) tg g) (ht:∀ζ fp s H C,PTs (X.comp ζ Nc scope fp s H C) ifs tt) (he:∀ζ fp s H C,PE (X.comp ζ Nc scope fp s H C) elt te)
 (t:swapsWith (.ListComp elt [⟨tg,π,ifs,0⟩] scope pos) (some (.Name x d)) f.line X.env=pure true:=by rfl)
 (K:∀x,foldedSetIterable π X.env x=pure x:=by intro _;rfl) (hf:X.fn x=true\/X.env.scope.names.lookup x=some .local:=by first|exact .inl U|exact .inr U|assumption):
 PS X (.Assign [.Name x d] (.ListComp elt [⟨tg,π,ifs,0⟩] scope pos) f) (iD (sP u k js g tt te) (dD i)):=by
 intro ζ s Y H D I h;rw[exec_Assign_Name_used _ _ _ _ t];refine q4 (wpAny_standAt (q4 ?_));show wpAny _ X.A (do let _ <- comprehension (.ListComp elt [⟨tg,π,ifs,0⟩] scope pos) scope X.env _ (newList []) false (eval π X.env) (some (assign (.Name x d) X.env))) _ _ s
 refine q4 (wpAny_mono (wpAny_comprehension_free (use:=some (assign (.Name x d) X.env)) (Q:=λ_ j=>SP X ζ D .next j) U K (S.clos I) S.kind S.names
  (thn (hi ζ s Y H _ I h) λ_ s1 V=>thn V λ_ _ R=>?_)) (λ_ j L=>qc (qc L)) λ_ _ e=>e)
 obtain⟨it,fp,_,J,_,e,Z,T,y,f2,W,⟨_,M⟩,turn⟩:=R;subst e;refine xW (RR:=λp C=>compPost (model X.prog X.w) X.A X.xe (some (assign (.Name x d) X.env)) (λ_ j=>SP X ζ D .next j) p C) S K0 Z T y f2 hg ht he M turn λA C j ys H' G c ns E fin=>?_;obtain⟨m,hn⟩:=ns;show wpAny _ X.A (assign (.Name x d) X.env (.ref A)) _ _ _;refine wpAny_assign_Name (sZ G P r hx (v:=.ref A) U (λq n ⟨a,F,ha⟩=>?_) hf)
 have B:C≠a:=by
  rcases ha with ha|ha
  .rw[ha];exact c.2.1
  .exact λz=>c.2.2.2.2.1 x a ha z.symm
 exact⟨m,hn.sameBut F B,λh' l=>⟨_,_,n.turned (t':=q.toks) (λb o hb e=>(l.2 b hb).trans e) c.1 c.2.1 c.2.2.2.1 c.2.2.2.2.1 c.2.2.2.2.2,fin A E⟩⟩
end
def Bp:V->Option Int->Option Int->Hp->VK->Prop:=λx lo hi H Q=>∃z,x=.str z/\z.length<=sizeLine/\Q (.str (Txt.slice z lo hi)) H
theorem Ar:SlR X Bp:=by
 intro b s g H x v _ _ lo hi sl Q I f a pl e h;obtain⟨z,rfl,hz,q⟩:=h;obtain⟨t,rfl⟩:=f;exists "str",_,PySem.F.slot_str_getitem.lookup,typeIs_str _ _ _;have fin:∀t' k,EP X b g Q (.str (Txt.slice z lo hi) t') { s with toks:=k }:=λt' k=>⟨.str _,H,I.tok k,⟨t',U⟩,q⟩
 cases pl with
 |none=>
  cases e with
  |none=>exact wpAny_getItem_str_slice (l:=none) (u:=none) (st:=none) a U (post_val_or_str ⟨qx (Txt.slice_le z _ _) hz,fin⟩)
  |int j c=>exact wpAny_getItem_str_slice (l:=none) (u:=some (j,c)) (st:=none) a U (post_val_or_str ⟨qx (Txt.slice_le z _ _) hz,fin⟩)
 |int i d=>
  cases e with
  |none=>exact wpAny_getItem_str_slice (l:=some (i,d)) (u:=none) (st:=none) a U (post_val_or_str ⟨qx (Txt.slice_le z _ _) hz,fin⟩)
  |int j c=>exact wpAny_getItem_str_slice (l:=some (i,d)) (u:=some (j,c)) (st:=none) a U (post_val_or_str ⟨qx (Txt.slice_le z _ _) hz,fin⟩)
theorem vK:OpR X (binaryOp .Mult) (λx y H Q=>∃z n,x=.str z/\y=.int n/\MulOk z n/\Q (.str (Txt.mul z n)) H):=by
 intro _ s _ H x y v u Q I a b h;obtain⟨z,n,rfl,rfl,c,q⟩:=h;obtain⟨t,rfl⟩:=a;obtain⟨t',rfl⟩:=b;exact PySem.SB.mul c λt' k=>⟨.str _,H,I.tok k,⟨t',U⟩,q⟩
theorem Cs:OpR X (binaryOp .Mult) (rI IntMulOk λi j=>.int (i * j)):=opI λ_ _ _ _ _ _ _ a q=>mul_int q a
theorem FP(m:X.calm=true):bf X (.builtin "all") (λxs H Q=>∃(p:Addr)(bs:List Bool),xs=[.ref p]/\SqL X.K H p (bs.map V.bl)/\Q (.bl (bs.all id)) H):=by
 intro _ s _ H xs us Q I r h;obtain⟨p,bs,rfl,k,q⟩:=h;obtain⟨u,rfl,l⟩:=cK r;cases l;obtain⟨a,f,pl,hz⟩:=I.list k;have hl:=pl.isList;have j:p<s.heap.objs.size:=by obtain⟨_,e,_⟩:=hl;exact qp e
 have c:bs.length=a.length:=by have:=f.length;rwa [q5]at this
 refine call_all_walk (wpAny_pyIter_list hl ?_)
 refine⟨s.heap.objs.size,[s.heap.objs.size,p],[s.heap.objs.size],a.toArray.size,_,_,λi=>(bs[i]?).getD true,U,Walks.list (A:=X.A.in1) (I.ok.hd m) _ p (qF j) a.toArray,
  ⟨⟨_,qo _ U,U,U⟩,hl.push _⟩,λi v _ _ _ n g=>?_,λh' tk hk=>?_⟩
 .have d:a[i]?=some v:=by simpa using n
  have hi:i<bs.length:=by rw[c];exact(qe.mp d).1
  obtain⟨_,hu,ru⟩:=f.get (i:=i) (x:=.bl bs[i]) (by rw[qD,qb hi];rfl);rw[d]at hu;cases hu;have e:v=.bool bs[i]:=ru;subst e;simp only[qb hi,Option.getD_some]at g;exact wpAny_truthy_bool g
 .have e:((List.range a.toArray.size).all λi=>(bs[i]?).getD true)=bs.all id:=by
   rw[qA,<- c];exact PyProof.Rows.LSm.range_all bs
  rw[e];exact⟨.bl _,H,I.kept (h':=h') (t':=tk) (λb o e=>hk b o (λt=>by rw[qS.mp t]at e;exact Qc _ (qp e)) (q9 _ e)),U,q⟩
theorem FN:bf X (.builtin "isinstance") (λxs H Q=>∃x t T b,xs=[x,.ty T]/\cI X.K H x t/\PySem.W.kitOne X.K t (.type T)=some b/\Q (.bl b) H):=by
 intro _ s _ H xs us Q I r h;obtain⟨x,t,T,b,rfl,ty,e,q⟩:=h;obtain⟨u,c,rfl,ru,rc⟩:=ju r;have a:c=.type T:=rc;subst a;exact Eg I ru ty e λtk=>⟨.bl b,H,I.tok tk,U,q⟩
def BB(K:W.Frag):R2:=λx y H Q=>∃l b xs zs,x=.ref l/\y=.ref b/\SqL K H l xs/\SqL K H b zs/\xs.length+zs.length<=sizeLine/\∀p,H p=none->Q (.ref p) (upd H p (.lst (xs++zs)))
theorem CB:OpR X (binaryOp .Add) (BB X.K):=by
 intro _ s _ H x y v u Q I w t h;obtain⟨l,b,xs,zs,rfl,rfl,B,A,hz,q⟩:=h;cases w;cases t;obtain⟨c,r,pl,_⟩:=I.list B;obtain⟨a,g,o,_⟩:=I.list A;have D:=r.length;have C:=g.length;obtain⟨⟨_,z,_,sl⟩,n,k,j,_,hd⟩:=pl;obtain⟨⟨_,i,_,m⟩,n2,f,d,_,e⟩:=o;simp only at j hd d e;subst j hd d e;refine concat_meets ⟨_,k,U⟩ ⟨_,f,U⟩ noFill_list_add seq_list_add PySem.F.slot_list_add PySem.F.entry_list_add (PySem.F.args_list_add_2 _ _) (list_addW l b c.toArray a.toArray n n2 z i sl m (by rw[qA,qA];lia)) ⟨k,f,?_⟩;have p:c.toArray++a.toArray=(c++a).toArray:=by simp
 rw[p];exact⟨.ref _,_,I.lnew (t':=s.toks) (r.append g) (by rw[qa];lia),U,q _ I.fresh⟩
theorem rS{N N':V->St->Hp->Prop}{M:St->Hp->Prop}:(λ(a:St)(H2:Hp)=>gy a H2 λb c=>if b=true then te a c λy H4=>N y a H4 else M a c)=λa H2=>te a H2 λy H4=>N y a H4:=by
 funext a H2
 unfold gy;dsimp only;rw[Q0 U]
noncomputable def rA(e:Expr):LB:=match e with
 |.Constant (.str x) _ _=>some (.str x)
 |.Constant (.int i) _ _=>some (.int i)
 |.Constant (.bool b) _ _=>some (.bl b)
 |.Constant .none _ _=>some .non
 |_=>none
noncomputable def rq:LP->Option LV
 |[]=>some []
 |e::es=>match rA e,rq es with
  |some v,some vs=>some (v::vs)
  |_,_=>none
def zG(vs:LV):TA:=λ_ H Q=>Q vs H
theorem Cc{v:V}(h:rA e=some v):PE X e (tC v)/\∀es,starEach (e::es) X.env=(false,eval e X.env)::starEach es X.env:=by
 unfold rA at h;split at h
 .cases h;exact⟨av,λ_=>U⟩
 .cases h;exact⟨af,λ_=>U⟩
 .cases h;exact⟨iW,λ_=>U⟩
 .cases h;exact⟨iU,λ_=>U⟩
 .cases h
theorem vJ{X:Cx}:∀{es:LP}{vs:LV},rq es=some vs->PA X es (zG vs)
 |[],vs,h=>by cases h;exact ae
 |e::es,vs,h=>by
  unfold rq at h;split at h
  .rename_i v ws h1 h2;cases h;obtain⟨p,s⟩:=Cc (X:=X) h1;exact a8 p (vJ h2) (s es)
  .cases h
theorem Di:OpR X (binaryOp .Add) (λx y H Q=>∃i j,x=.int i/\y=.int j/\Q (.int (i+j)) H):=CD
theorem Dd:OpR X (binaryOp .Sub) (λx y H Q=>∃i j,x=.int i/\y=.int j/\Q (.int (i-j)) H):=Ck
theorem iX:OpR X (binaryOp .Mult) (λx y H Q=>∃i j,x=.int i/\y=.int j/\IntMulOk i j/\Q (.int (i * j)) H):=Cs
theorem Dh:OpR X (binaryOp .FloorDiv) (λx y H Q=>∃i j,x=.int i/\y=.int j/\(0<j/\j<1073741824)/\Q (.int (i / j)) H):=Cy
theorem De:OpR X (binaryOp .Mod) (λx y H Q=>∃i j,x=.int i/\y=.int j/\0<j/\Q (.int (i % j)) H):=Ct
theorem gW:OpR X (binaryOp .Pow) (λx y H Q=>∃i j,x=.int i/\y=.int j/\(0<=j/\j<=1000000/\i.natAbs<2 ^ 64)/\Q (.int (i ^ j.toNat)) H):=Cm
theorem Df:OpR X (compareOp .Lt) (λx y H Q=>∃i j,x=.int i/\y=.int j/\Q (.bl (decide (i<j))) H):=Cu
theorem Dg:OpR X (compareOp .Gt) (λx y H Q=>∃i j,x=.int i/\y=.int j/\Q (.bl (decide (j<i))) H):=Cw
end L2
namespace Att
open PySem PySem.W PySem.Calls PyProof.Rows
theorem AO(h:WData.layableAll [WData.list (ns.map WData.int)]=true):∀n∈ns,Builtin.Int.intBits n<=2 ^ 20:=λn hn=>by
 have b:=layableW_arg h _ (qS.mpr U);have a:=layableW_item b (WData.int n) (List.mem_map.mpr ⟨n,hn,U⟩);exact PyData.bits_of_layable (layable0_of_all (lay0_int a))
theorem attach_callB{l:OpenLaw}{n:Nat}{q:Program}{d:DefRec}
 (hn:l.most=some n) (t:d.params.defaults=[])
 (call:∀(w:World)(s₀ b:Shared)(mg i:Str->LO)(e:Addr)(o:Obj)(pm cd c:Value)(a:Addr)(vs:LL)(ns:LI),
  Ground q loose [] XP w s₀ mg i b.heap->YP w b.heap->
  b.heap.get? e=some o->o.data=.func (docDef d.name d.params d.body d.scope pm cd c)->b.heap.CodeRec cd d.name->mg d.name=some (.ref e)->
  b.heap.get? a=some { cls:=.type "list",data:=.seq vs.toArray }->IntsAre vs ns->ns.length<=n->(∀k∈ns,Builtin.Int.intBits k<=2 ^ 20)->b.gens=#[]->
  codeAny (model l.prog w) callerA (.call (.ref e) ⟨[.ref a],[]⟩) (λr s'=>r=.ok (.ret (.bool true))/\OldK b.heap s'.heap/\s'.os=b.os/\AllBare s'.gens) b):
 WalkO q loose XP YP l.row.toRowW d [] (λf vs=>PySem.call f vs):=by
 intro w s₀ b mg i G Y e o pm cd c y kV D hd x s u hg _ _ as j m _ v _;obtain rfl:y=.none:=Dflts.none s t;obtain rfl:kV=.none:=Dflts.noKw s;obtain⟨a,vs,ns,rfl,rfl,h,g,p⟩:=AN hn j v;refine enter_call (codeAny_mono (call w s₀ b mg i e o pm cd c a vs ns G Y D (fd_plain hd) x u h g p (AO m) hg) λr s' z=>?_);obtain⟨rfl,C,E,B⟩:=z;exact⟨.inl ⟨.bool true,.bool true,[],U,λ_=>U,.bool true,BZ l _,λ_=>⟨List.Pairwise.nil,λ_ A=>(nomatch A)⟩⟩,C,E,B⟩
end Att
namespace L2
open PySem PySem.Spec PyProof.Rows
theorem zd{l:PySem.W.OpenLaw}{n k:Nat}{q:Program}{d:DefRec}{K:Params->PySem.W.Frag}{CX:World->CXT}{sp:World->Sp}
 (hn:l.most=some n) (A:n<=sizeLine) (t:d.params.defaults=[]) (D:bp k callerA)
 (J:∀(w:World)(h:Heap),YP w h->(K w.params).In h)
 (F:∀(w:World)(mg:Str->LO)(m:Addr)(h:Heap),(K w.params).In h->h.Ns mainGlobals mg->mg d.name=some (.ref m)->
  ∃fd:FuncData,(∀(s:Shared)(u:Value),BindsTo s fd ⟨[u],[]⟩ [(x,u)]) /\
   ∀base:Heap,(K w.params).In base->base.Ns mainGlobals mg->aF l.prog w (K w.params) mg base (CX w) k m fd [x] (sp w))
 (B:∀(w:World)(H:Hp)(a:Addr)(ns:LI),ns.length<=n->(∀k∈ns,Builtin.Int.intBits k<=2 ^ 20)->lO H->SqL (K w.params) H a (ns.map V.int)->sp w [.ref a] H (λv _=>v=.bl true) λ_ _ _=>False)
 (z:∀(w:World)(H:Hp)(s:Shared)(e:Value)(s':Shared),CX w [] H s (λ_ _ _=>False) e s'->False):
 PySem.W.WalkO q loose XP YP l.row.toRowW d [] (λf vs=>PySem.call f vs):=by
 refine Att.attach_callB hn t λw s₀ r mg _ m o pm cd _ a vs ns G Y _ hd _ y p j c i hg=>?_;have C:=J w _ Y;obtain⟨fd,hb,I⟩:=F w mg m _ C G.T.g y;exact DZ C G.T.g G.T.b G.T.builtins G.T.nolimit hg p j (qx c A) D I hb (λH L E=>B w H a ns c i L E) λH e s'=>z w H r e s'
theorem a9.new{p:Addr}(h:H p=none)(o:HO):a9 H (upd H p o):=λb u q=>by rwa[au (bP q h)]
theorem aJ{n:Nat}(h:n<=m)(a:m<=1000000:=by decide):n<=sizeLine:=qx h (qx a (by rw[sizeLine_eq];decide))
theorem A7(x y:Str):(x++y).length=x.length+y.length:=strLen_append x y
theorem pJ{L Pc c A B:Prop}{a:Decidable c}(hw:¬ c->Pc)(rest:Pc->L)(h:c->(Pc->L)->A)(e:B=L:=by rfl):@ite Prop c a A B:=by
 subst e;by_cases hc:c
 .rw[Q0 hc];exact h hc rest
 .rw[qZ hc];exact rest (hw hc)
theorem j0{i:Int}(h:i.natAbs<2 ^ 1000):i.natAbs.log2<1920:=by
 by_cases h0:i.natAbs=0
 .rw[h0];decide
 .exact Nat.lt_trans ((Nat.log2_lt h0).mpr h) Yk
theorem oY{i:Int}(h:i.natAbs<2 ^ 1000):(Str.ofString (toString i)).length<=1921:=int_text_len_1921 (j0 h)
theorem xh(c:Array Nat):∀(k:Nat)(a:Array Nat),((List.replicate k c).foldl (·++·) a).size=a.size+k * c.size
 |0,a=>by simp
 |k+1,a=>by
  rw[List.replicate_succ,Qz,xh c k,Array.size_append,Nat.succ_mul];lia
theorem Dy(z:Str){n:Int}(h0:0<=n):(Txt.mul z n).length=z.length * n.toNat:=by
 unfold Txt.mul;by_cases h1:n<1
 .rw[Q0 h1];have e:n.toNat=0:=Yo;rw[e,Nat.mul_zero]
  rfl
 .rw[qZ h1];by_cases a:(n == 1 || z.length == 0)=true
  .rw[Q0 a];simp only[Bool.or_eq_true,beq_iff_eq]at a;rcases a with rfl|a
   .simp
   .rw[a];simp
  .rw[qZ a];show((List.replicate n.toNat z.cps).foldl (·++·) #[]).size=z.cps.size * n.toNat;rw[xh];simp[Nat.mul_comm]
theorem w8{n:Int}(hz:z.length<=1000)(h0:0<=n)(b:n<=1000):MulOk z n:=by
 refine⟨?_,λ_ _=>?_,λ_ _=>?_⟩
 .rw[Q4 Yo,Q4 Yo]
  rfl
 .have a:(1000:Int)<=(2 ^ 63-1) / n:=by
   rw[Int.le_ediv_iff_mul_le Yo];lia
  lia
 .have c:z.length * n.toNat<=1000 * 1000:=Nat.mul_le_mul hz Yo;unfold Builtin.Str.tooLong;have:=sizeLine_eq;simp;lia
def SIt(h:Heap):Bool->Addr->Addr->Nat->Prop
 |false,it,l,k=>h.IsListIter it l k
 |true,it,l,k=>h.IsTupleIter it l k
def SSq(h:Heap):Bool->Addr->LD->Prop
 |false,l,xs=>h.IsList l xs
 |true,l,xs=>h.IsTuple l xs
theorem SIt.obj:∀{b:Bool}{it l:Addr}{k:Nat},SIt h b it l k->∃o,h.get? it=some o/\∃vs,o.data=.fields vs
 |false,_,_,_,⟨o,e,_,d⟩=>⟨o,e,_,d⟩
 |true,_,_,_,⟨o,e,_,d⟩=>⟨o,e,_,d⟩
theorem SIt.keep:∀{b:Bool}{it l:Addr}{k:Nat},SIt h b it l k->(∀o,h.get? it=some o->h'.get? it=some o)->SIt h' b it l k
 |false,_,_,_,⟨o,e,r⟩,f=>⟨o,f o e,r⟩
 |true,_,_,_,⟨o,e,r⟩,f=>⟨o,f o e,r⟩
theorem SSq.keep:∀{b:Bool}{l:Addr}{xs:LD},SSq h b l xs->(∀o,h.get? l=some o->h'.get? l=some o)->SSq h' b l xs
 |false,_,_,⟨o,e,r⟩,f=>⟨o,f o e,r⟩
 |true,_,_,⟨o,e,r⟩,f=>⟨o,f o e,r⟩
theorem SSq.obj:∀{b:Bool}{l:Addr}{xs:LD},SSq h b l xs->∃o,h.get? l=some o/\∃n,o.data=.seq xs n
 |false,_,_,⟨o,e,_,n,d⟩=>⟨o,e,n,d⟩
 |true,_,_,⟨o,e,_,n,d⟩=>⟨o,e,n,d⟩
theorem Dl{t:Addr}{k:Nat}{x:Value}(hi:s.heap.IsTupleIter it t k)(ht:s.heap.IsTuple t xs)(f:xs[k]?=some x)
 (q:∀g,g.IsTupleIter it t (k+1)->Heap.SameBut it s.heap g->Q x { s with heap:=g }):wpAny (model prog w) A (Builtin.SmallTypes.nextOf (.ref it)) Q E s:=by
 obtain⟨o,e,c,d⟩:=id hi;obtain⟨_,a,_,_,b⟩:=ht;unfold Builtin.SmallTypes.nextOf;refine q4 (wpAny_callSpecial?_slot (name:=Str.ofString "__next__") hi.typeIs PySem.F.slot_tuple_iterator_next (Qj PySem.F.slot_tuple_iterator_next hi.typeIs PySem.F.entry_tuple_iterator_next ?_ (PySem.F.args_tuple_iterator_next_1 _)));show wpAny _ _ (field (.ref it) 0 >>= _) _ _ _;refine q4 (wpAny_field e d (x:=.ref t) U ?_);show wpAny _ _ (if(Value.ref t == Value.none)=true then _ else _) _ _ _;rw[qZ (show ¬ (Value.ref t == Value.none)=true from qh)];show wpAny _ _ (field (.ref it) 1 >>= _) _ _ _;refine q4 (wpAny_field e d (x:=.int k 0) U ?_);show wpAny _ _ (seqItems? (.ref t) >>= _) _ _ _;refine q4 (Qw a b ?_);simp only[qX,f];refine q4 (wpAny_setField e d (by simp) (qc ⟨x,U,qc (q _ ?_ (Heap.SameBut.update ..))⟩));exact⟨_,Qh _ e (Obj.isFreed_of_fields (Obj.data_mapFields d _)),(Obj.cls_mapFields ..).trans c,by rw[Obj.data_mapFields d];simp[rawInt]⟩
theorem Dm{t:Addr}{k:Nat}(b:A.handled=none)(hi:s.heap.IsTupleIter it t k)(ht:s.heap.IsTuple t xs)(i:xs[k]?=none)
 (q:∀g x,Heap.ExtBut it s.heap g->(∃o,g.get? x=some o/\o.cls=.type "StopIteration")->E (.ref x) { s with heap:=g }):wpAny (model prog w) A (Builtin.SmallTypes.nextOf (.ref it)) Q E s:=by
 obtain⟨o,e,c,d⟩:=id hi;obtain⟨_,f,_,_,h⟩:=ht;unfold Builtin.SmallTypes.nextOf;refine q4 (wpAny_callSpecial?_slot (name:=Str.ofString "__next__") hi.typeIs PySem.F.slot_tuple_iterator_next (Qj PySem.F.slot_tuple_iterator_next hi.typeIs PySem.F.entry_tuple_iterator_next ?_ (PySem.F.args_tuple_iterator_next_1 _)));show wpAny _ _ (field (.ref it) 0 >>= _) _ _ _;refine q4 (wpAny_field e d (x:=.ref t) U ?_);show wpAny _ _ (if(Value.ref t == Value.none)=true then _ else _) _ _ _;rw[qZ (show ¬ (Value.ref t == Value.none)=true from qh)];show wpAny _ _ (field (.ref it) 1 >>= _) _ _ _;refine q4 (wpAny_field e d (x:=.int k 0) U ?_);show wpAny _ _ (seqItems? (.ref t) >>= _) _ _ _;refine q4 (Qw f h ?_);simp only[qX,i];refine q4 (wpAny_rule (q4 (wpAny_setField e d (by simp) ?_)));show wpAny _ _ (newExc (.type "StopIteration") [] >>= _) _ _ _;refine q4 ?_;simp only[newExc,newTuple];refine q4 (wpAny_newObj_type ?_ (by size_fits));refine q4 (m:=firstArgMember _ _) (wpAny_of_eq (a:=Value.none) (by first|rfl|(simp only[firstArgMember];rfl)) (wpAny_newObj_type ?_ (by size_fits)));simp only[raiseNew];refine q4 (wpAny_handled ?_);first|rw[show A.in1.handled=none from b]|rw[b]
 refine q4 (qc (wpAny_throw (q _ _ (((Heap.SameBut.update ..).extBut.push _).push _) ⟨_,qo _ U,U⟩)))
theorem oX{k:Nat}{x:Value}:∀{b:Bool},SIt s.heap b it l k->SSq s.heap b l xs->xs[k]?=some x->
 (∀g,SIt g b it l (k+1)->Heap.SameBut it s.heap g->Q x { s with heap:=g })->wpAny (model prog w) A (Builtin.SmallTypes.nextOf (.ref it)) Q E s
 |false,a,c,d,q=>wpAny_nextOf_list_item a c d q
 |true,a,c,d,q=>Dl a c d q
theorem vW{k:Nat}(e:A.handled=none):∀{b:Bool},SIt s.heap b it l k->SSq s.heap b l xs->xs[k]?=none->
 (∀g x,Heap.ExtBut it s.heap g->(∃o,g.get? x=some o/\o.cls=.type "StopIteration")->E (.ref x) { s with heap:=g })->wpAny (model prog w) A (Builtin.SmallTypes.nextOf (.ref it)) Q E s
 |false,a,c,d,q=>wpAny_nextOf_list_end e a c d q
 |true,a,c,d,q=>Dm e a c d q
structure ZAp(z TI TO i1 i2 l1 l2:Addr):Prop where
 a:TI≠z/\TO≠z/\i1≠z/\i2≠z/\TI≠TO/\TI≠i1/\TI≠i2/\TO≠i1/\TO≠i2/\i1≠i2
 l:∀c,c=l1\/c=l2->c≠z/\c≠TO/\c≠i1/\c≠i2/\c≠TI
theorem yD{z TI TO f h l1 l2:Addr}{F J:Nat}{ys:LD}{x y a b:Value}(D:ZAp z TI TO f h l1 l2)
 (hz:IsZip s.heap z TI TO .none) (hI:IsPair s.heap TI (.ref f) (.ref h)) (hO:IsPair s.heap TO a b) (t1:SIt s.heap b1 f l1 F) (t2:SIt s.heap b2 h l2 J) (q1:SSq s.heap b1 l1 xs) (q2:SSq s.heap b2 l2 ys) (ex:xs[F]?=some x) (ey:ys[J]?=some y)
 (q:∀g,IsZip g z TI TO (rawInt s.heap.objs.size)->IsPair g TO x y->SIt g b1 f l1 (F+1)->SIt g b2 h l2 (J+1)->IsPair g s.heap.objs.size x y->(∀c o,c≠z->c≠TO->c≠f->c≠h->s.heap.get? c=some o->g.get? c=some o)->Q (.ref s.heap.objs.size) { s with heap:=g }):
 wpAny (model prog w) A (Builtin.«zip.__next__» ⟨[.ref z],[]⟩) (λfin s'=>∃v,fin=.done (.ret v)/\Q v s') E s:=by
 obtain⟨⟨_,j,m,t,_,_,_,u,n,K⟩,L⟩:=D;obtain⟨V,_,_,_,_⟩:=L l1 (.inl U);obtain⟨X,a0,W,_,_⟩:=L l2 (.inr U);show wpAny _ _ (field (.ref z) 2 >>= _) _ _ _;refine q4 (wpAny_field hz U (x:=.bool false) U ?_);show wpAny _ _ (field (.ref z) 3 >>= _) _ _ _;refine q4 (wpAny_field hz U (x:=.ref TI) U (q4 (Qw hI U ?_)));show wpAny _ _ (Builtin.SmallTypes.ownedTupleIsFree (.ref z) >>= _) _ _ _;refine q4 ?_;unfold Builtin.SmallTypes.ownedTupleIsFree;refine q4 (wpAny_field hz U (x:=.none) U (qc ?_));simp only[if_true];refine q4 (wpAny_rule (q4 (wpAny_field hz U (x:=.ref TO) U (q4 (wpAny_setField_rec hz (by simp) λg1 P s1=>?_)))));replace P:IsZip g1 z TI TO .ellipsis:=P;refine q4 ?_;simp only[List.zipIdx_cons,List.zipIdx_nil,List.forIn_cons,List.forIn_nil];refine q4 (q4 (wpAny_onRaise ?_));show wpAny _ _ (Builtin.SmallTypes.nextOf (.ref f) >>= _) _ _ _;refine q4 (oX (b:=b1) (t1.keep λo e=>s1.extBut _ _ m e) (q1.keep λo e=>s1.extBut _ _ V e) ex λg2 u1 l=>qc ?_);have T:IsPair g2 TO a b:=l.extBut _ _ u (s1.extBut _ _ j hO);refine q4 (Qw T U (q4 (wpAny_updateSeq_pair T λg3 K0 k=>q4 (wpAny_letGo (qc ?_)))));replace K0:IsPair g3 TO x b:=K0;refine q4 (q4 (wpAny_onRaise ?_));show wpAny _ _ (Builtin.SmallTypes.nextOf (.ref h) >>= _) _ _ _;refine q4 (oX (b:=b2) (t2.keep λo e=>k.extBut _ _ n.symm (l.extBut _ _ K.symm (s1.extBut _ _ t e))) (q2.keep λo e=>k.extBut _ _ a0 (l.extBut _ _ W (s1.extBut _ _ X e))) ey λg4 u2 r=>qc ?_);have o4:IsPair g4 TO x b:=r.extBut _ _ n K0;refine q4 (Qw o4 U (q4 (wpAny_updateSeq_pair o4 λd C p=>q4 (wpAny_letGo (qc (qc ?_))))));replace C:IsPair d TO x y:=C;refine q4 (Qw C U (q4 (wpAny_newTuple ?_)));have sz:d.objs.size=s.heap.objs.size:=by rw[p.1,r.1,k.1,l.1,s1.1]
 have Z:IsZip d z TI TO .ellipsis:=p.extBut _ _ j.symm (r.extBut _ _ t.symm (k.extBut _ _ j.symm (l.extBut _ _ m.symm P)));have k5:∀c o,c≠z->c≠TO->c≠f->c≠h->s.heap.get? c=some o->d.get? c=some o:=λc o i G S N e=>p.extBut _ _ G (r.extBut _ _ N (k.extBut _ _ G (l.extBut _ _ S (s1.extBut _ _ i e))));have v1:SIt d b1 f l1 (F+1):=u1.keep λo e=>p.extBut _ _ u.symm (r.extBut _ _ K (k.extBut _ _ u.symm e));have v2:SIt d b2 h l2 (J+1):=u2.keep λo e=>p.extBut _ _ n.symm e;have M:z<d.objs.size:=qp Z;show wpAny _ _ (Builtin.SmallTypes.ownedTupleHandOut (.ref z) (.ref d.objs.size) >>= _) _ _ _;refine q4 ?_;unfold Builtin.SmallTypes.ownedTupleHandOut;have z6:IsZip (d.push { cls:=.type "tuple",data:=.seq #[x,y] }) z TI TO .ellipsis:=q9 _ Z;refine q4 (wpAny_setField_rec z6 (by simp) λg7 R Y=>?_);replace R:IsZip g7 z TI TO (rawInt d.objs.size):=R;refine wpAny_setField_rec R (by simp) λB H s8=>?_;replace H:IsZip B z TI TO (rawInt d.objs.size):=H;have I:∀c o,c≠z->d.get? c=some o->B.get? c=some o:=λc o i e=>s8.extBut _ _ i (Y.extBut _ _ i (q9 _ e));have t8:IsPair B d.objs.size x y:=s8.extBut _ _ (Nat.ne_of_gt M) (Y.extBut _ _ (Nat.ne_of_gt M) (qo _ U));rw[sz]at H t8;refine qc ⟨_,U,?_⟩;show Q (.ref d.objs.size) _;rw[sz];exact q B H (I _ _ j C) (v1.keep λo e=>I _ o m e) (v2.keep λo e=>I _ o t e) t8 λc o i G S N e=>I c o i (k5 c o i G S N e)
theorem yE{z TI TO l m l1 l2:Addr}{F I:Nat}{ys:LD}{a b:Value}{Q:Fin->Shared->Prop}(R:A.handled=none)(D:ZAp z TI TO l m l1 l2)
 (hz:IsZip s.heap z TI TO .none) (hI:IsPair s.heap TI (.ref l) (.ref m)) (hO:IsPair s.heap TO a b) (Z:SIt s.heap b1 l l1 F) (t2:SIt s.heap b2 m l2 I) (q1:SSq s.heap b1 l1 xs) (q2:SSq s.heap b2 l2 ys) (K:xs[F]?=none\/ys[I]?=none)
 (q:∀g e,(∀c o,c≠z->c≠TO->c≠l->c≠m->s.heap.get? c=some o->g.get? c=some o)->(∃o,g.get? e=some o/\o.cls=.type "StopIteration")->E (.ref e) { s with heap:=g }):
 wpAny (model prog w) A (Builtin.«zip.__next__» ⟨[.ref z],[]⟩) Q E s:=by
 obtain⟨⟨_,u,j,y,_,_,_,a0,S,N⟩,t⟩:=D;obtain⟨r,_,_,_,_⟩:=t l1 (.inl U);obtain⟨K0,W,M,_,_⟩:=t l2 (.inr U);show wpAny _ _ (field (.ref z) 2 >>= _) _ _ _;refine q4 (wpAny_field hz U (x:=.bool false) U ?_);show wpAny _ _ (field (.ref z) 3 >>= _) _ _ _;refine q4 (wpAny_field hz U (x:=.ref TI) U (q4 (Qw hI U ?_)));show wpAny _ _ (Builtin.SmallTypes.ownedTupleIsFree (.ref z) >>= _) _ _ _;refine q4 ?_;unfold Builtin.SmallTypes.ownedTupleIsFree;refine q4 (wpAny_field hz U (x:=.none) U (qc ?_));simp only[if_true];refine q4 (wpAny_rule (q4 (wpAny_field hz U (x:=.ref TO) U (q4 (wpAny_setField_rec hz (by simp) λg1 p s1=>?_)))));replace p:IsZip g1 z TI TO .ellipsis:=p;refine q4 ?_;simp only[List.zipIdx_cons,List.zipIdx_nil,List.forIn_cons,List.forIn_nil];refine q4 (q4 (wpAny_onRaise ?_));show wpAny _ _ (Builtin.SmallTypes.nextOf (.ref l) >>= _) _ _ _
 cases ex:xs[F]? with
 |none=>
  refine q4 (vW (b:=b1) R (Z.keep λo e=>s1.extBut _ _ j e) (q1.keep λo e=>s1.extBut _ _ r e) ex λB v d J=>?_);obtain⟨G,i,n⟩:=J;have Y:IsZip B z TI TO .ellipsis:=d _ _ j.symm p;have H:v≠z:=λh=>by subst h;rw[Y]at i;cases i;simp at n
  exact wpAny_setField_rec Y (by simp) λP _ f=>q P v (λc o k _ C _ e=>f.extBut _ _ k (d _ _ C (s1.extBut _ _ k e))) ⟨G,f.extBut _ _ H i,n⟩
 |some x=>
  have ey:ys[I]?=none:=by rcases K with h|h;rw[ex]at h;cases h;exact h
  refine q4 (oX (b:=b1) (Z.keep λo e=>s1.extBut _ _ j e) (q1.keep λo e=>s1.extBut _ _ r e) ex λB _ d=>qc ?_);have L:IsPair B TO a b:=d.extBut _ _ a0 (s1.extBut _ _ u hO);refine q4 (Qw L U (q4 (wpAny_updateSeq_pair L λP _ f=>q4 (wpAny_letGo (qc ?_)))));refine q4 (q4 (wpAny_onRaise ?_));show wpAny _ _ (Builtin.SmallTypes.nextOf (.ref m) >>= _) _ _ _;refine q4 (vW (b:=b2) R (t2.keep λo e=>f.extBut _ _ S.symm (d.extBut _ _ N.symm (s1.extBut _ _ y e))) (q2.keep λo e=>f.extBut _ _ W (d.extBut _ _ M (s1.extBut _ _ K0 e))) ey λg4 v V J=>?_);obtain⟨G,i,n⟩:=J;have X:IsZip g4 z TI TO .ellipsis:=V _ _ y.symm (f.extBut _ _ u.symm (d.extBut _ _ j.symm p));have H:v≠z:=λh=>by subst h;rw[X]at i;cases i;simp at n
  exact wpAny_setField_rec X (by simp) λg5 _ T=>q g5 v (λc o k h2 C h4 e=>T.extBut _ _ k (V _ _ h4 (f.extBut _ _ h2 (d.extBut _ _ C (s1.extBut _ _ k e))))) ⟨G,T.extBut _ _ H i,n⟩
theorem Inv.turnedL(I:Inv X ζ O H s)(k:∀b o,b∉ch->s.heap.get? b=some o->h'.get? b=some o)(d:∀b∈ch,ce X ζ H b):Inv X ζ O H { s with heap:=h',toks:=t' }:=by
 have f:∀b u,H b=some u->b∉ch:=λb u e z=>by rw[(d b z).1]at e;cases e
 have g:X.env.locals∉ch:=λz=>(d _ z).2.1 U
 refine I.step (g':=s.gens) (d':=s.drawn) (ch:=ch) (λb hb=>⟨(d b hb).2.2.2.1,(d b hb).2.1,(d b hb).2.2.2.2.1,(d b hb).2.2.2.2.2⟩) (λb o _ _ a e _=>k b o a e) (λb o _ _ a e _=>⟨o.slots,k b o a e⟩) (λ_ _ _ _ n=>n)
  (λb o a e=>⟨o,k b o a e⟩) (λ_ _ e=>e) (λ_ _ _ e=>e) (λb ps e=>⟨#[],by rw[e];simp⟩) (λm i=>?_) (λb u e=>?_) I.bare
 .obtain⟨o,j,ep,h,r⟩:=i;exact⟨o,j,ep,k _ o g h,r⟩
 .refine(I.hok b u e).stay (λc v a q=>k c v ?_ q) (λ_ q=>q) λ_ _ q=>q;rcases a with z|z
  .rw[z];exact f b u e
  .exact f c _ z
theorem Inv.track{T:Addr}{o:HO}(I:Inv X ζ O H s)(f:ce X ζ H T)(i:X.s₀.heap.objs.size<=T)(new:bb X.prog X.w (upd H T o) s.heap T o):Inv X ζ O (upd H T o) s:=by
 obtain⟨f0,g,_,_,a,h⟩:=f;have old:∀b u,X.s₀.heap.get? b=some u->b≠T:=λb u e=>qF (qC (qp e) i);refine⟨I.ok,I.os,I.bare,⟨I.base.keep,I.base.slot,λb u e n j=>?_,I.base.there,λb xs e=>?_,λb u v e=>?_,λb ps e=>?_⟩,I.loc,I.cell,?_,λx c e=>?_,λp hp=>?_,λb u e=>?_,I.len⟩
 .rw[au (old b u e)];exact I.base.free b u e n j
 .rw[au (bP (I.base.tups b xs e) f0)];exact I.base.tups b xs e
 .rw[au (bP (I.base.frzs b u v e) f0)];exact I.base.frzs b u v e
 .obtain⟨more,q⟩:=I.base.tbls b ps e;exact⟨more,by rwa[au (bP q f0)]⟩
 .rw[au (Ne.symm g)];exact I.free
 .rw[au (a x c e)];exact I.freeC x c e
 .obtain⟨e,n,ne,k,d⟩:=I.pin p hp;exact⟨e,by rwa[au (h p hp)],ne,k,d⟩
 .by_cases hb:b=T
  .subst hb;rw[ah]at e;cases e;exact new
  .rw[au hb]at e;exact(I.hok b u e).stay (λc v _ q=>q) (λc q=>by rwa[au (bP q f0)]) λc xs q=>by rwa[au (bP q f0)]
def SqB(K:W.Frag)(H:Hp):Bool->Addr->LV->Prop
 |false,a,xs=>SqL K H a xs
 |true,a,xs=>SqT K H a xs
theorem SqB.at(I:Inv X ζ O H s):∀{b:Bool}{a:Addr}{xs:LV},SqB X.K H b a xs->∃η:LL,aB xs η/\SSq s.heap b a η.toArray/\xs.length<=sizeLine
 |false,_,_,h=>let ⟨η,r,p,z⟩:=I.list h;⟨η,r,p.isList,z⟩
 |true,_,_,h=>let ⟨η,r,p,z⟩:=I.tuple h;⟨η,r,p,z⟩
theorem SqB.inj(I:Inv X ζ O H s):∀{b:Bool}{a:Addr}{xs ys:LV},SqB X.K H b a xs->SqB X.K H b a ys->xs=ys
 |false,_,_,_,h,h'=>I.list_inj h h'
 |true,_,_,_,h,h'=>I.tuple_inj h h'
noncomputable def Itz(K:W.Frag)(b1 b2:Bool)(l1 l2:Addr):It:=
 ⟨λi H=>∃xs ys x y,SqB K H b1 l1 xs/\SqB K H b2 l2 ys/\xs[i]?=some x/\ys[i]?=some y,
  λi H v H'=>∃p x y,H p=none/\v=.ref p/\H'=upd H p (.tup [x,y])/\(∀xs,SqB K H b1 l1 xs->xs[i]?=some x)/\∀ys,SqB K H b2 l2 ys->ys[i]?=some y,
  λi H=>∃xs ys,SqB K H b1 l1 xs/\SqB K H b2 l2 ys/\(xs.length<=i\/ys.length<=i)⟩
theorem yB{z TI TO d e l1 l2:Addr}{h f:Nat}{ys:LD}{x y a b:Value}{Q:LO->Shared->Prop}(D:ZAp z TI TO d e l1 l2)
 (hz:IsZip s.heap z TI TO .none) (p:IsPair s.heap TI (.ref d) (.ref e)) (k:IsPair s.heap TO a b) (n:SIt s.heap b1 d l1 h) (B:SIt s.heap b2 e l2 f) (u:SSq s.heap b1 l1 xs) (C:SSq s.heap b2 l2 ys) (ex:xs[h]?=some x) (r:ys[f]?=some y)
 (q:∀g,IsZip g z TI TO (rawInt s.heap.objs.size)->IsPair g TO x y->SIt g b1 d l1 (h+1)->SIt g b2 e l2 (f+1)->IsPair g s.heap.objs.size x y->(∀c o,c≠z->c≠TO->c≠d->c≠e->s.heap.get? c=some o->g.get? c=some o)->Q (some (.ref s.heap.objs.size)) { s with heap:=g }):
 wpAny (model prog w) A (pyNext (.ref z)) Q E s:=by
 have ty:s.TypeIs (.ref z) "zip":=⟨_,hz,U⟩;unfold pyNext;exact q4 (wpAny_attempt (wpAny_callSpecial?_slot (name:=Str.ofString "__next__") ty PySem.F.slot_zip_next (Qj PySem.F.slot_zip_next ty PySem.F.entry_zip_next (yD D hz p k n B u C ex r λg i j m t v l=>qc (q g i j m t v l)) (PySem.F.args_zip_next_1 _))))
theorem yC{z TI TO d f l1 l2:Addr}{j i:Nat}{ys:LD}{a b:Value}{Q:LO->Shared->Prop}(v:A.handled=none)(D:ZAp z TI TO d f l1 l2)
 (hz:IsZip s.heap z TI TO .none) (p:IsPair s.heap TI (.ref d) (.ref f)) (k:IsPair s.heap TO a b) (n:SIt s.heap b1 d l1 j) (u:SIt s.heap b2 f l2 i) (t:SSq s.heap b1 l1 xs) (x:SSq s.heap b2 l2 ys) (h:xs[j]?=none\/ys[i]?=none)
 (q:∀g,(∀c o,c≠z->c≠TO->c≠d->c≠f->s.heap.get? c=some o->g.get? c=some o)->Q none { s with heap:=g }):wpAny (model prog w) A (pyNext (.ref z)) Q E s:=by
 have ty:s.TypeIs (.ref z) "zip":=⟨_,hz,U⟩;unfold pyNext;refine q4 (wpAny_attempt (wpAny_callSpecial?_slot (name:=Str.ofString "__next__") ty PySem.F.slot_zip_next (Qj PySem.F.slot_zip_next ty PySem.F.entry_zip_next (yE v D hz p k n u t x h λg e hk l=>?_) (PySem.F.args_zip_next_1 _))));obtain⟨o,m,r⟩:=l;exact q4 (wpAny_isInstance (T:="StopIteration") (b:=true) ⟨o,m,r⟩ isSubtype_stop (qc (q _ hk)))
theorem zk{K0:LP}{M:Nat}{tp:Pos}(z TI TO l m l1 l2:Addr)(D:ZAp z TI TO l m l1 l2):
 iq P w K (.Tuple K0 M tp) (Itz K b1 b2 l1 l2) [z,TI,TO,l,m] z (λi h=>IsZip h z TI TO .none/\IsPair h TI (.ref l) (.ref m)/\(∃a b,IsPair h TO a b)/\SIt h b1 l l1 i/\SIt h b2 m l2 i) where
 mem:=by simp
 obj:=λi h st b hb=>by
  obtain⟨hz,j,⟨a,c,p⟩,r,n⟩:=st;simp only[qt,qQ,or_false]at hb;rcases hb with rfl|rfl|rfl|rfl|rfl
  .exact⟨_,hz,λv q=>by cases q⟩
  .exact⟨_,j,λv q=>by cases q⟩
  .exact⟨_,p,λv q=>by cases q⟩
  .obtain⟨o,e,vs,d⟩:=r.obj;exact⟨o,e,λv q=>by rw[d]at q;cases q⟩
  .obtain⟨o,e,vs,d⟩:=n.obj;exact⟨o,e,λv q=>by rw[d]at q;cases q⟩
 keep:=λi h h' st k=>by
  obtain⟨hz,j,⟨a,c,p⟩,r,n⟩:=st;exact⟨k z (by simp) _ hz,k TI (by simp) _ j,⟨a,c,k TO (by simp) _ p⟩,r.keep λo e=>k l (by simp) o e,n.keep λo e=>k m (by simp) o e⟩
 item:=by
  intro X J hw Q hc i f s N H E I C st hg;subst J hw Q;obtain⟨hz,j,⟨a,c,p⟩,r,n⟩:=st;obtain⟨xs,ys,x,y,B,F,ex,ey⟩:=hg;obtain⟨Y,L,R,z1⟩:=SqB.at I B;obtain⟨a0,A,T,z2⟩:=SqB.at I F;obtain⟨u,hu,ru⟩:=L.get ex;obtain⟨v,hv,Z⟩:=A.get ey;refine yB D hz j p r n R T (x:=u) (y:=v) (by simpa using hu) (by simpa using hv) λg a1 a2 a3 a4 a5 a6=>⟨_,U,?_⟩;refine wpAny_letOwnedTupleGo_zip a1 λg' a7 t=>?_;obtain⟨⟨G,b0,V,b3,a8,a9,a',_,_,_⟩,_⟩:=id D
  have W:∀b∈[z,TI,TO,l,m],s.heap.objs.size≠b:=λb hb=>by
   have:∃o,s.heap.get? b=some o:=by
    simp only[qt,qQ,or_false]at hb;rcases hb with rfl|rfl|rfl|rfl|rfl
    .exact⟨_,hz⟩
    .exact⟨_,j⟩
    .exact⟨_,p⟩
    .obtain⟨o,e,_⟩:=r.obj;exact⟨o,e⟩
    .obtain⟨o,e,_⟩:=n.obj;exact⟨o,e⟩
   obtain⟨o,e⟩:=this;exact Nat.ne_of_gt (qp e)
  have M:∀b o,b∉[z,TI,TO,l,m]->s.heap.get? b=some o->g'.get? b=some o:=λb o hb e=>by
   simp only[qt,qQ,or_false,not_or]at hb;exact t.extBut _ _ hb.1 (a6 b o hb.1 hb.2.2.1 hb.2.2.2.1 hb.2.2.2.2 e)
  have I1:Inv X f N H { s with heap:=g' }:=I.turnedL (t':=s.toks) M C;have pT:IsPair g' s.heap.objs.size u v:=t.extBut _ _ (W z (by simp)) a5;have fT:ce X f H s.heap.objs.size:=I.fpOk (qd _) (I.hok.fresh (qd _));have I2:Inv X f N (upd H s.heap.objs.size (.tup [x,y])) { s with heap:=g' }:=I1.track fT I.sz ⟨⟨by show 2<=sizeLine;decide,_,pT,U⟩,[u,v],.cons ru (.cons Z .nil),⟨_,pT,U,_,U⟩⟩;refine⟨.ref s.heap.objs.size,_,I2,U,⟨_,x,y,I.hok.fresh (qd _),U,U,λ_ h=>by rwa[SqB.inj I h B],λ_ h=>by rwa[SqB.inj I h F]⟩,?_,λb hb=>?_⟩
  .exact⟨a7,t.extBut _ _ G (a6 TI _ G a8 a9 a' j),⟨u,v,t.extBut _ _ b0 a2⟩,a3.keep λo e=>t.extBut _ _ V e,a4.keep λo e=>t.extBut _ _ b3 e⟩
  .rw[au (Ne.symm (W b hb))];exact(C b hb).1
 done:=by
  intro X J hw Q hc i f s N H E I C st hg;subst J hw Q;obtain⟨hz,j,⟨a,c,p⟩,r,n⟩:=st;obtain⟨xs,ys,B,F,S⟩:=hg;obtain⟨Y,L,R,z1⟩:=SqB.at I B;obtain⟨a0,A,T,z2⟩:=SqB.at I F;have e1:=L.length;have e2:=A.length
  refine yC (I.ok.hd hc) D hz j p r n R T (by
   rcases S with h|h
   .exact .inl (by simp;lia)
   .exact .inr (by simp;lia)) λg k=>⟨U,I.turnedL (t':=s.toks) (ch:=[z,TI,TO,l,m]) (λb o hb e=>?_) C⟩
  simp only[qt,qQ,or_false,not_or]at hb;exact k b o hb.1 hb.2.2.1 hb.2.2.2.1 hb.2.2.2.2 e
 self:=λ_ _ _ _ _ st h=>wpAny_pyIter_zip st.1 h
def eK(b:Bool)(l:Addr):Obj:={ cls:=.type (if b=true then "tuple_iterator" else "list_iterator"),data:=.fields #[.ref l,.int 0 0] }
theorem SIt.new:∀{b:Bool}{it l:Addr},h.get? it=some (eK b l)->SIt h b it l 0
 |false,_,_,e=>⟨_,e,U,U⟩
 |true,_,_,e=>⟨_,e,U,U⟩
noncomputable def zg2(h:Heap)(b1 b2:Bool)(l1 l2:Addr):Heap:=(h.push (eK b1 l1)).push (eK b2 l2)
noncomputable def zg3(h:Heap)(b1 b2:Bool)(l1 l2:Addr):Heap:=(zg2 h b1 b2 l1 l2).push { cls:=.type "tuple",data:=.seq #[.ref h.objs.size,.ref (h.push (eK b1 l1)).objs.size] }
noncomputable def zg4(h:Heap)(b1 b2:Bool)(l1 l2:Addr):Heap:=(zg3 h b1 b2 l1 l2).push { cls:=.type "tuple",data:=.seq #[.none,.none] }
noncomputable def zg5(h:Heap)(b1 b2:Bool)(l1 l2:Addr):Heap:=(zg4 h b1 b2 l1 l2).push { cls:=.type "zip",data:=.fields #[.none,.bool false,.bool false,.ref (zg2 h b1 b2 l1 l2).objs.size,.ref (zg3 h b1 b2 l1 l2).objs.size] }
theorem wM:∀{b:Bool},SSq s.heap b l xs->Q (.ref s.heap.objs.size) { s with heap:=s.heap.push (eK b l) }->wpAny (model prog w) A (pyIter (.ref l)) Q E s
 |false,h,q=>wpAny_pyIter_list h q
 |true,h,q=>wpAny_pyIter_tuple h q
theorem SSq.push{h:Heap}{b:Bool}{l:Addr}{xs:LD}(x:SSq h b l xs)(o:Obj):SSq (h.push o) b l xs:=x.keep λ_ e=>q9 _ e
set_option maxHeartbeats 8000000 in
theorem yA(b1 b2:Bool)(l1 l2:Addr)(xs ys:LD):
 Meets (Builtin.«zip.__new__» ⟨[.type "zip",.ref l1,.ref l2],[]⟩) (λ_ R s=>SSq s.heap b1 l1 xs/\SSq s.heap b2 l2 ys/\R (.ok (.ret (.ref (zg4 s.heap b1 b2 l1 l2).objs.size))) { s with heap:=zg5 s.heap b1 b2 l1 l2 }):=
 .of_wp λprog w A R s h=>by
  obtain⟨hp,g,d,tk,os⟩:=s;obtain⟨b,a,h⟩:=h;have e:=PySem.sub_zip;have f:SSq (Shared.heap ⟨hp,g,d,tk,os⟩) b1 l1 xs:=b;have c:SSq (Shared.heap ⟨hp.push (eK b1 l1),g,d,tk,os⟩) b2 l2 ys:=SSq.push a _
  wp_walk using wM f,wM c
  exact⟨_,U,h⟩
theorem FG{l1 l2:Addr}{ys:LD}(t:SSq s.heap b1 l1 xs)(r:SSq s.heap b2 l2 ys)
 (h:∀g n,n=s.heap.objs.size->IsZip g (n+4) (n+2) (n+3) .none->IsPair g (n+2) (.ref n) (.ref (n+1))->IsPair g (n+3) .none .none->SIt g b1 n l1 0->SIt g b2 (n+1) l2 0->
  (∀c o,s.heap.get? c=some o->g.get? c=some o)->Q (.ref (n+4)) { s with heap:=g }):wpAny (model prog w) A (call (.type "zip") [.ref l1,.ref l2]) Q E s:=by
 refine callType_new PySem.F.called_zip Yk (PySem.F.typeCall_zip_2 _ _) (PySem.F.newCall_zip_2 _ _) (λobj=>PySem.F.args_object_init_3 obj _ _) PySem.F.entry_zip_new (yA b1 b2 l1 l2 xs ys) ⟨t,r,?_⟩;have i:(s.heap.push (eK b1 l1)).objs.size=s.heap.objs.size+1:=Qg ..;have d:(zg2 s.heap b1 b2 l1 l2).objs.size=s.heap.objs.size+2:=by unfold zg2;rw[Qg,i]
 have f:(zg3 s.heap b1 b2 l1 l2).objs.size=s.heap.objs.size+3:=by unfold zg3;rw[Qg,d]
 have j:(zg4 s.heap b1 b2 l1 l2).objs.size=s.heap.objs.size+4:=by unfold zg4;rw[Qg,f]
 have p:∀{c:Addr}{o:Obj},(zg4 s.heap b1 b2 l1 l2).get? c=some o->(zg5 s.heap b1 b2 l1 l2).get? c=some o:=λq=>q9 _ q;have a:∀{c:Addr}{o:Obj},(zg3 s.heap b1 b2 l1 l2).get? c=some o->(zg4 s.heap b1 b2 l1 l2).get? c=some o:=λq=>q9 _ q;have e:∀{c:Addr}{o:Obj},(zg2 s.heap b1 b2 l1 l2).get? c=some o->(zg3 s.heap b1 b2 l1 l2).get? c=some o:=λq=>q9 _ q;have p2:∀{c:Addr}{o:Obj},(s.heap.push (eK b1 l1)).get? c=some o->(zg2 s.heap b1 b2 l1 l2).get? c=some o:=λq=>q9 _ q;have b:(zg5 s.heap b1 b2 l1 l2).get? (zg4 s.heap b1 b2 l1 l2).objs.size=some _:=qo _ U;have k:(zg5 s.heap b1 b2 l1 l2).get? (zg3 s.heap b1 b2 l1 l2).objs.size=some _:=p (qo _ U);have l:(zg5 s.heap b1 b2 l1 l2).get? (zg2 s.heap b1 b2 l1 l2).objs.size=some _:=p (a (qo _ U));have m:(zg5 s.heap b1 b2 l1 l2).get? (s.heap.push (eK b1 l1)).objs.size=some _:=p (a (e (qo _ U)));have u:(zg5 s.heap b1 b2 l1 l2).get? s.heap.objs.size=some _:=p (a (e (p2 (qo _ U))));show _/\_;rw[d,f,j]at b;rw[i,d]at l;rw[f]at k;rw[i]at m;rw[j];exact⟨⟨_,b,U⟩,h _ _ U b l k (SIt.new u) (SIt.new m) λc o x=>p (a (e (p2 (q9 _ x))))⟩
def Em(K:W.Frag)(ta:TA):TI:=λO H R=>ta O H λvs H1=>∃b1 b2 l1 l2 xs ys,vs=[.ref l1,.ref l2]/\SqB K H1 b1 l1 xs/\SqB K H1 b2 l2 ys/\R (Itz K b1 b2 l1 l2) H1
theorem kt{a b:Expr}{w:TA}{p Q:Pos}{v:LP}{J:Nat}(hg:Gl X "zip")(F:X.mg "zip"=none)(ha:PA X [a,b] w)(B:starEach [a,b] X.env=[(false,eval a X.env),(false,eval b X.env)]:=by rfl)(r:starEach [b] X.env=[(false,eval b X.env)]:=by rfl):
 PI X (.Tuple v J Q) (.Call (.Name "zip" p) [a,b] [] pos) (Em X.K w):=by
 intro d s G H R I h;refine Call_ (fQ I hg F PyProof.Rows.Boot.«zip» (PyProof.Rows.callWith_type1 (thn (ha pos d s G H _ I h) λus s1 ⟨vs,A,f,K0,P⟩=>?_) (by rw[B,r]) (by rw[r];rfl)));obtain⟨b1,b2,l1,l2,xs,ys,rfl,L,N,q⟩:=P;obtain⟨u,_,rfl,ru,y⟩:=ju K0;cases ru;cases y;obtain⟨_,_,m,_⟩:=SqB.at f L;obtain⟨_,_,l,_⟩:=SqB.at f N;refine FG m l λg n hn x D E C M k=>?_
 have lt:∀c,c=l1\/c=l2->c<n:=λc t=>by
  rw[hn];rcases t with rfl|rfl
  .obtain⟨o,e,_⟩:=m.obj;exact qp e
  .obtain⟨o,e,_⟩:=l.obj;exact qp e
 refine wpAny_pyIter_zip x ⟨n+4,[n+4,n+2,n+3,n,n+1],_,_,A,U,f.kept (t':=s1.toks) k,zk (n+4) (n+2) (n+3) n (n+1) l1 l2 ⟨?_,λc t=>?_⟩,⟨x,D,⟨_,_,E⟩,C,M⟩,λb hb=>?_,q⟩
 .have e:∀i j:Nat,i≠j->n+i≠n+j:=λi j h z=>h (Nat.add_left_cancel z);exact⟨e 2 4 Yk,e 3 4 Yk,e 0 4 Yk,e 1 4 Yk,e 2 3 Yk,e 2 0 Yk,e 2 1 Yk,e 3 0 Yk,e 3 1 Yk,e 0 1 Yk⟩
 .have q:=lt c t;have e:∀i:Nat,c≠n+i:=λi=>qF (qC q (Nat.le_add_right _ _));exact⟨e 4,e 3,e 0,e 1,e 2⟩
 .have e:∀i:Nat,ce X d A (n+i):=λi=>f.fpOk (by rw[hn];exact Nat.le_add_right _ _) (f.hok.fresh (by rw[hn];exact Nat.le_add_right _ _));simp only[qt,qQ,or_false]at hb;rcases hb with rfl|rfl|rfl|rfl|rfl
  .exact e 4
  .exact e 2
  .exact e 3
  .exact e 0
  .exact e 1
open PySem.Builtin.Str in
@[irreducible] def rStrAny:LV->Hp->VK->Prop:=λxs H Q=>(∃z:Str,xs=[.str z]/\Q (.str z) H)\/∃i:Int,xs=[.int i]/\i.natAbs.log2<1920/\Q (.str (toString i)) H
theorem FH:bf X (.type "str") (λxs H Q=>∃z:Str,xs=[.str z]/\Q (.str z) H):=by
 intro _ s _ H xs us Q I r h;obtain⟨z,rfl,q⟩:=h;obtain⟨u,rfl,t,rfl⟩:=cK r;exact PySem.P.str_of_str ⟨.str z,H,I,⟨t,U⟩,q⟩
theorem y8:bf X (.type "str") rStrAny:=by
 unfold rStrAny;exact bf.or FH rF
mutual
inductive Dt(K:W.Frag)(H:Hp):V->PyData->Prop
 |non:Dt K H .non .none
 |bl (b:Bool):Dt K H (.bl b) (.bool b)
 |int (i:Int):Dt K H (.int i) (.int i)
 |str (x:Str):Dt K H (.str x) (.str x)
 |lst {a:Addr}{xs:LV}{ds:List PyData}:SqL K H a xs->dv K H xs ds->Dt K H (.ref a) (.list ds)
 |tup {a:Addr}{xs:LV}{ds:List PyData}:SqT K H a xs->dv K H xs ds->Dt K H (.ref a) (.tuple ds)
inductive dv(K:W.Frag)(H:Hp):LV->List PyData->Prop
 |nil:dv K H [] []
 |cons {v:V}{vs:LV}{d:PyData}{ds:List PyData}:Dt K H v d->dv K H vs ds->dv K H (v::vs) (d::ds)
end
mutual
theorem Dt.reads(I:Inv X ζ O H s):∀{v:V}{d:PyData},Dt X.K H v d->∀{u:Value},aC v u->∃as,Reads s.heap u d as
 |_,_,.non,_,r=>by cases r;exact⟨_,.none⟩
 |_,_,.bl b,_,r=>by cases r;exact⟨_,.bool b⟩
 |_,_,.int i,_,r=>by obtain⟨t,rfl⟩:=r;exact⟨_,.int i t⟩
 |_,_,.str x,_,r=>by obtain⟨t,rfl⟩:=r;exact⟨_,.str x t⟩
 |_,_,.lst hq ha,_,r=>by
  cases r;obtain⟨f,a,⟨o,n,e,c,_,d⟩,_⟩:=I.list hq;obtain⟨as,z⟩:=dv.reads I ha a;exact⟨_,.list e c d (by simpa using z)⟩
 |_,_,.tup hq ha,_,r=>by
  cases r;obtain⟨f,a,⟨o,e,c,n,d⟩,_⟩:=I.tuple hq;obtain⟨as,z⟩:=dv.reads I ha a;exact⟨_,.tuple e c d (by simpa using z)⟩
theorem dv.reads(I:Inv X ζ O H s):∀{vs:LV}{ds:List PyData},dv X.K H vs ds->∀{us:LL},aB vs us->∃as,ReadsAll s.heap us ds as
 |_,_,.nil,_,r=>by cases r;exact⟨_,.nil⟩
 |_,_,.cons h t,_,r=>by
  cases r with
  |cons a c=>
   obtain⟨as,z⟩:=Dt.reads I h a;obtain⟨bs,b⟩:=dv.reads I t c;exact⟨_,.cons z b⟩
end
theorem Cz(hu:X.A.units+64<cLine):OpR X (compareOp .Eq) (λx y H Q=>∃d e,Dt X.K H x d/\Dt X.K H y e/\SeqAt.shaped d=true/\SeqAt.shaped e=true/\Q (.bl (PyData.eqv d e)) H):=by
 intro _ s _ H x y v u Q I f i h;obtain⟨d,e,c,a,s1,b,q⟩:=h;obtain⟨as,g⟩:=c.reads I f;obtain⟨bs,j⟩:=a.reads I i;exact eq_dataH g j s1 b hu ⟨.bl _,H,I,U,q⟩
theorem Cq(hu:X.A.units+64<cLine):OpR X (compareOp .NotEq) (λx y H Q=>∃d e,Dt X.K H x d/\Dt X.K H y e/\SeqAt.shaped d=true/\SeqAt.shaped e=true/\Q (.bl (!PyData.eqv d e)) H):=by
 intro _ s _ H x y v u Q I f i h;obtain⟨d,e,c,a,s1,b,q⟩:=h;obtain⟨as,g⟩:=c.reads I f;obtain⟨bs,j⟩:=a.reads I i;exact ne_dataH g j s1 b hu ⟨.bl _,H,I,U,q⟩
theorem lC{l1 l2:Addr}{xs ys:LV}{g:TG}{D:cJ}(b:Nat->St->Hp->Prop)(h0:b 0 O H)(hl:∀i O H,b i O H->SqB K H b1 l1 xs/\SqB K H b2 l2 ys)
 (q:∀i x y O H p,xs[i]?=some x->ys[i]?=some y->b i O H->H p=none->g (.ref p) O (upd H p (.tup [x,y])) λd H2=>tb { D with nx:=b (i+1),ct:=b (i+1),bk:=D.nx } d H2) (hd:∀O H,b (min xs.length ys.length) O H->D.nx O H):
 ∃W:Nat->Nat->St->Hp->Prop,(∃m,W 0 m O H)/\∀i m O H,W i m O H->
  ((Itz K b1 b2 l1 l2).stop i H/\D.nx O H)\/((Itz K b1 b2 l1 l2).go i H/\∃N:St->Hp->Prop,(∀c H',N c H'->∃j,j<m/\W (i+1) j c H')/\∀x H',(Itz K b1 b2 l1 l2).yld i H x H'->g x O H' λd H2=>tb { D with nx:=N,ct:=N,bk:=D.nx } d H2):=by
 exists λi m O H=>m=min xs.length ys.length-i/\i<=min xs.length ys.length/\b i O H,⟨_,U,qr _,h0⟩;rintro i m O H ⟨rfl,hi,p⟩;obtain⟨f,h⟩:=hl i O H p;by_cases hlt:i<min xs.length ys.length
 .have n:i<xs.length:=by lia
  have l:i<ys.length:=Yo;refine .inr ⟨⟨xs,ys,xs[i],ys[i],f,h,by simp[n],by simp[l]⟩,b (i+1),λc H' r=>⟨_,Yo,U,hlt,r⟩,λv H' y=>?_⟩;obtain⟨a,x,y,hn,rfl,rfl,k,o⟩:=y;exact q i x y O H a (k xs f) (o ys h) p hn
 .have e:i=min xs.length ys.length:=by lia
  subst e;exact .inl ⟨⟨xs,ys,f,h,Yo⟩,hd O H p⟩
theorem xV{xs:LV}{g:TG}{f:LV->Hp->Prop}(c:Nat->LV->St->Hp->Prop)(h0:c 0 [] O H)(hz:∀i ys O H,i<=xs.length->c i ys O H->ys.length<=i)(n:xs.length<=sizeLine)(hl:∀i ys O H,c i ys O H->SqL K H a xs)
 (j:∀i x ys O H,xs[i]?=some x->c i ys O H->g x O H λd H2=>tt d H2 λb h=>if b=true then te d h λy H4=>c (i+1) (ys++[y]) d H4 else c (i+1) ys d h)
 (hd:∀ys O H,c xs.length ys O H->f ys H):∃W:Nat->Nat->LV->St->Hp->Prop,(∃m,W 0 m [] O H)/\gp (Itl K a) g tt te f W:=by
 exists λi m ys O H=>m=xs.length-i/\i<=xs.length/\c i ys O H,⟨_,U,qr _,h0⟩;rintro i m ys O H ⟨rfl,hi,p⟩;have l:=hz i ys O H hi p;have q:=hl i ys O H p;by_cases hlt:i<xs.length
 .refine .inr ⟨⟨xs,xs[i],q,by simp[hlt]⟩,Yo,c (i+1),λ_ _ H' k=>⟨_,Yo,U,hlt,k⟩,λv H' y=>?_⟩;obtain⟨e,y⟩:=y;subst e;exact j i v ys O _ (y xs q) p
 .have e:i=xs.length:=by lia
  subst e;exact .inl ⟨⟨xs,q,qd _⟩,Yo,hd ys O H p⟩
end L2
namespace L2
open PySem PySem.Spec PyProof.Rows
end L2
namespace L2
open PySem PySem.Spec PyProof.Rows PySem.NumText
end L2
namespace L2
open PySem PySem.Spec PyProof.Rows PySem.W
section
variable {R:Result->Shared->Prop}{d:Drawn}{t:Nat}{os:OsState}
variable {N:Addr}{bs:LL}
end
section
variable {R:Result->Shared->Prop}{d:Drawn}{t:Nat}{os:OsState}
variable {N x:Addr}{bs:LL}{v:Value}{o:Obj}{fs:LD}
end
section
variable {R:Result->Shared->Prop}{d:Drawn}{t:Nat}{os:OsState}
variable {N e:Addr}{bs:LL}
end
section
variable {L e:Addr}{vs:LD}
end
section
variable {N:LS}{cdv:Value}{s0:Shared}{E:XK}
end
section
variable {N:Addr}{bs:LL}
end
section
variable {CX:CXT}{k:Nat}{p:Pos}{es:LP}{t:TA}
end
section
variable {d:Drawn}{t:Nat}{os:OsState}{e:Addr}
variable {N:Addr}{bs:LL}
variable {nm' q':Str}{C' N':Addr}{bs' bm':LL}{hdct':Bool}{sn':LS}{sub':LL}{ab':Bool}{col':Option Bool}{dd':Option Addr}{k0' k1' k2' k3' k5':LO}{newId':String}
end
section
variable {vs:LD}{ex:LK}{fl:Value}
end
section
variable {k:Nat}{C0:Addr}{ds:LL}{fx cx y m n:Str}{iy im inn:Nat}{p py cp pm pn pa hpos tpos:Pos}{es:LP}{t:TA}
end
section
variable {d:Drawn}{t:Nat}{os:OsState}{o:Obj}{vs:LD}
 {N:Addr}{bs:LL}{v:Value}
end
section
variable {d:Drawn}{t:Nat}{os:OsState}{o:Obj}{vs:LD}
 {N:Addr}{bs:LL}
end
theorem A6{y:Str}(c:decide (V.str x=V.str y)=true):x=y:=by injection (Qd c)
theorem El{x y:Int}(c:decide (V.int x=V.int y)=true):x=y:=by injection (Qd c)
noncomputable def txt(v:Value):Str:=match v with|.str x _=>x|_=>""
structure aQ(P:Program)(w:World)(es:Array (Int×Value))(t:SetTable)(ys:LS):Prop where
 el:ElemsOf (strKind P w) es.toList
 nd:(es.toList.map λe=>txt e.2).Nodup
 mem:∀k,k∈(es.toList.map λe=>txt e.2)↔k∈ys
 few:es.size<scanBound
 fit:t.fits es.size=true
 led:t.led=!w.params.followText "set-order"
 pl:0<es.size->t.plain=false
theorem kT{k:Str}{v:Value}(h:(strKind P w).is k v=true):txt v=k:=by
 obtain⟨t,rfl⟩:=Value.isStrOf_shape h
 rfl
theorem Ae(t:SetTable)(n:Nat):(t.orStandIn n).led=t.led/\(t.plain=false->(t.orStandIn n).plain=false):=by
 unfold SetTable.orStandIn;split
 .exact⟨U,λz=>z⟩
 .exact⟨U,λ_=>U⟩
theorem DY(t:SetTable)(a:Array (Int×Value))(h:Int)(x:Value):(layNew t a h x).2.1.led=t.led/\(t.plain=false->(layNew t a h x).2.1.plain=false):=by
 unfold layNew;split
 .exact Ae (t.put _).1 _
 .exact⟨U,λ_=>U⟩
theorem Bj(t:SetTable)(b:Array (Int×Value))(n:Nat):(relayAll t b n).2.1.led=t.led/\(t.plain=false->(relayAll t b n).2.1.plain=false):=by
 unfold relayAll SetTable.standIn;split
 .rename_i t' c a;unfold SetTable.relaid SetTable.laid at a
  have:t'.led=t.led/\t'.plain=t.plain:=by
   simp only[Option.bind_eq_bind,Option.bind_eq_some_iff]at a;obtain⟨ow,_,a⟩:=a;injection a with a;injection a with h1 h2;rw[<- h1];exact⟨U,U⟩
  dsimp only;split
  .exact⟨this.1,λz=>this.2.trans z⟩
  .exact⟨U,λ_=>U⟩
 .exact⟨U,λ_=>U⟩
noncomputable def aH(es:Array (Int×Value))(ep:Nat)(t:SetTable):Obj:={ cls:=.type "set",dict:=none,data:=.set es ep t }
theorem fI{es':Array (Int×Value)}{t':SetTable}(b:s.heap.get? a=some (aH es ep t)):
 (s.heap.update a (Obj.putSet es' t')).get? a=some (aH es' (ep+1) t'):=by
 have hd:(aH es ep t).data=.set es ep t:=U;have:=Qh (Obj.putSet es' t') b (by rw[putSet_of es' t' hd];rfl);rw[putSet_of es' t' hd]at this;exact this
theorem rP{k:Str}{tk:Tok}{Q:Bool->Shared->Prop}
 (D:s.heap.get? a=some (aH es ep t)) (T:aQ P w es t ys) (room:es.size+1<scanBound)
 (h:∀(b:Bool) h' es' l t',Heap.SameBut a s.heap h'->h'.get? a=some (aH es' l t')->aQ P w es' t' (ys++[k])->es'.size<=es.size+1->Q b { s with heap:=h' }):
 wpAny (model P w) A (setAddHashed a (.str k tk) (hashStr w k)) Q E s:=by
 have u:(strKind P w).is k (.str k tk)=true:=by
  show Value.isStrOf k (.str k tk)=true;simp[Value.isStrOf]
 have B:(Value.str k tk).scannable=true:=U;have hd:(aH es ep t).data=.set es ep t:=U;unfold setAddHashed setAddHashedIn;refine Qv (q4 (qW D hd T.fit ?_));dsimp only;rw[byScan_of B T.few T.el];simp only[↓reduceIte];unfold setAddByScan;refine q4 ?_;refine q4 (wpAny_rule ?_);refine q4 (wpAny_setScan_of (knd:=strKind P w) (k:=k) u D hd T.fit T.el ?_)
 cases hr:List.findIdx? (λe=>(strKind P w).is k e.2) es.toList with
 |some j=>
  dsimp only;obtain⟨hj,W,_⟩:=List.findIdx?_eq_some_iff_getElem.mp hr;refine qc (qc ?_);have:=h false s.heap es ep t (Heap.SameBut.refl a s.heap) D ⟨T.el,T.nd,λF=>?_,T.few,T.fit,T.led,T.pl⟩ Yo
  .exact this
  .rw[T.mem F,qg,qS];refine⟨.inl,λz=>z.elim id λe=>?_⟩;rw[<- T.mem,e,<- kT W];exact List.mem_map.mpr ⟨_,List.getElem_mem hj,U⟩
 |none=>
  dsimp only
  have K:k∉es.toList.map λe=>txt e.2:=by
   intro hm;obtain⟨e,he,hk⟩:=List.mem_map.mp hm;have hn:=List.findIdx?_eq_none_iff.mp hr e he;obtain⟨⟨F,G,_⟩,_⟩:=T.el e he;rw[kT G]at hk;subst hk;rw[G]at hn;cases hn
  have I:∀(b:Bool){o:Shared}{V:Unit->Shared->Prop},V () o->wpAny (model P w) A (match b with|true=>rule "set.scan.the-table-gave-way"|false=>pure ()) V E o:=by
   intro b o V X;cases b
   .exact qc X
   .exact wpAny_rule X
  have f:=layNew_perm t es (hashStr w k) (.str k tk);have i:=layNew_fits t es (hashStr w k) (.str k tk);have n:=DY t es (hashStr w k) (.str k tk);show wpAny _ _ (match layNew t es (hashStr w k) (.str k tk)with|(es,t,wasDummy,gave)=>_) _ _ _;generalize layNew t es (hashStr w k) (.str k tk)=Ln at f i n ⊢;obtain⟨c,t1,wd,gv⟩:=Ln;dsimp only at f i n ⊢;rw[Array.toList_push]at f;have K0:c.size=es.size+1:=by rw[<- qL,f.length_eq,qa,qL];rfl
  have tab:∀(g:Array (Int×Value))(d:SetTable),g.toList.Perm c.toList->d.fits g.size=true->d.led=t.led->d.plain=false->aQ P w g d (ys++[k]):=λg d hp S hl m=>by
   have r:=hp.trans f;refine⟨(T.el.push u B).perm r,?_,λF=>?_,?_,S,hl.trans T.led,λ_=>m⟩
   .refine(r.map _).nodup_iff.mpr ?_;rw[qO,List.nodup_append];refine⟨T.nd,by simp,λx Z y hy=>?_⟩;simp only[qR,List.map_nil,qS]at hy;rintro rfl;rw[hy]at Z;exact K Z
   .rw[(r.map _).mem_iff,qO,qg,T.mem F,qg]
    rfl
   .rwa[<- qL,r.length_eq,qa,qL]
  refine q4 (I _ ?_)
  have tail:∀d:SetTable,d.fits c.size=true->d.led=t.led->d.plain=false->∀R:Option Bool->Shared->Prop,(∀h' es' l t',Heap.SameBut a s.heap h'->h'.get? a=some (aH es' l t')->aQ P w es' t' (ys++[k])->es'.size<=es.size+1->R (some true) { s with heap:=h' })->
   wpAny (model P w) A (do
    storeSet a c d
    if(!wd && d.tooFull)=true then do
     (match(relayAll d c (SetTable.grown c.size)).2.2 with|true=>rule "set.scan.the-table-gave-way"|false=>pure ())
     storeSet a (relayAll d c (SetTable.grown c.size)).1 (relayAll d c (SetTable.grown c.size)).2.1
     pure (some true)
    else pure (some true)) R E s:=λd S hl m R Y=>by
   have p:c.size<=sizeLine:=fits_of_scanBound (by rwa[K0]);refine q4 (wpAny_storeSet_of D hd ?_ p);have C:=fI (s:=s) (es':=c) (t':=d) D;have H:=Heap.SameBut.update s.heap a (Obj.putSet c d);split
   .have hp:=relayAll_perm d c (SetTable.grown c.size);have v:=relayAll_fits d c (SetTable.grown c.size);have q:=Bj d c (SetTable.grown c.size);generalize relayAll d c (SetTable.grown c.size)=Rl at hp v q ⊢;obtain⟨g,t3,g2⟩:=Rl;dsimp only at hp v q ⊢;have hsz2:g.size=c.size:=by rw[<- qL,hp.length_eq,qL]
    refine q4 (I _ ?_);refine q4 (wpAny_storeSet_of (s:={ s with heap:=s.heap.update a (Obj.putSet c d) }) C U ?_ (by rwa[hsz2]));exact qc (Y _ g _ t3 (H.trans (Heap.SameBut.update _ a _)) (fI (s:={ s with heap:=s.heap.update a (Obj.putSet c d) }) C) (tab g t3 hp v (q.1.trans hl) (q.2 m)) Yo)
   .exact qc (Y _ c _ d H C (tab c d (.refl _) S hl m) Yo)
  split
  .refine q4 ?_;rw[hashByValue_scannable 8 B];refine qc ?_;refine tail _ (SetTable.fits_plain_off i) n.1 U _ λh' es' l t' N L M J=>?_;exact qc (h true h' es' l t' N L M J)
  .rename_i m;refine q4 (qc ?_);simp only[↓reduceIte];refine tail _ i n.1 (by simpa using m) _ λh' es' l t' N L M J=>?_;exact qc (h true h' es' l t' N L M J)
theorem EV{R:Result->Shared->Prop}{d:LK}{n:Nat}{PI:Nat->Value->Prop}{St:Nat->Shared->Prop}
 (W:WalksS P w A.in1 I fp d G n PI St) (S:Addr) (f:S∉fp) (zs:LS) (hz:∀i v,PI i v->∃k t,zs[i]?=some k/\v=.str k t) (hb:n+1<scanBound):
 ∀(k i:Nat)(s:Shared),n-i=k->i<=n->St i s->
  (∃es ep t,s.heap.get? S=some (aH es ep t)/\aQ P w es t (zs.take i)/\es.size<=i)->
  (∀s',Moved (S::d) G s s'->(∃es ep t,s'.heap.get? S=some (aH es ep t)/\aQ P w es t (zs.take n)/\es.size<=n)->R (.ok (.ret .none)) s')->
  codeAny (model P w) A (.builtin "set.update.loop" ⟨[.ref S,.ref I],[]⟩) R s:=by
 have g:S∉d:=λz=>f (W.sub _ z);have y:∀b∈d,b∈S::d:=λb z=>qj _ z;intro k
 induction k with
 |zero=>
  intro i s hk hi a h m;obtain rfl:i=n:=Yo;refine codeAny_builtin PyProof.Rows.F.entry_set_update_loop ?_;rw[Around.under_plainId PyProof.Rows.F.plain_set_update_loop _];show wpAny _ A.in1 (pyNext (.ref I) >>= _) _ _ s;refine q4 (W.done s _ _ a λs' c=>?_);show wpAny _ A.in1 (ret Value.none) _ _ s';obtain⟨es,ep,t,l,j,C⟩:=h;exact qc (m s' (c.mono y) ⟨es,ep,t,c.heap S _ g l,j,C⟩)
 |succ k K=>
  intro i s hk hi a h m;have lt:i<n:=Yo;refine codeAny_builtin PyProof.Rows.F.entry_set_update_loop ?_;rw[Around.under_plainId PyProof.Rows.F.plain_set_update_loop _];show wpAny _ A.in1 (pyNext (.ref I) >>= _) _ _ s;refine q4 (W.item i s _ _ lt a λv s' E p c=>?_);obtain⟨z,t,x,rfl⟩:=hz i v E;obtain⟨es,ep,_,l,j,C⟩:=h;have B:=c.heap S _ g l;show wpAny _ A.in1 (holding [Value.str z t] (setAdd S (.str z t)) >>= _) _ _ s';refine q4 (Qv ?_);unfold setAdd;refine Qv ?_;refine q4 (wpAny_pyHash_str ?_);refine rP (s:={ s' with toks:=s'.toks+1 }) B j Yo λb h' es' u t' r J H _=>?_;have e:zs.take (i+1)=zs.take i++[z]:=by rw[qq,x];rfl
  refine qc ⟨plainId_quiet PyProof.Rows.F.plain_set_update_loop _,K (i+1) _ Yo lt (W.frame _ s' _ _ p (Nat.le_succ _) λb hb o q=>?_) ⟨es',u,t',J,by rw[e];exact H,Yo⟩ λL D M=>?_⟩
  .rw[r.2 b λz:b=S=>f (by rwa[<- z])];exact q
  .refine m L (Moved.trans W.gtrans ((c.mono y).then_heap (Nat.le_succ _) λb o hb q=>?_) D) M;rw[r.2 b λz:b=S=>hb (by rw[z];exact qk)];exact q
theorem dG:Slot "set_iterator" "__next__" "set_iterator.__next__":=
 .of (owner:="set_iterator") (n:="__next__") (by rw[typeLookup_type,builtinLookup_eq_fast];kernel_rfl) Yd Yd Yd (.inl Yd) (by rw[isSubtype_type];kernel_rfl)
theorem jG:entryFor table "set_iterator.__next__"=some Builtin.«set_iterator.__next__»:=entryFor_of_tree (by kernel_rfl)
theorem jH(a:Value):argsOk "set_iterator.__next__" ⟨[a],[]⟩:=by unfold argsOk;kernel_rfl
theorem ux:Slot "set_iterator" "__iter__" "set_iterator.__iter__":=
 .of (owner:="set_iterator") (n:="__iter__") (by rw[typeLookup_type,builtinLookup_eq_fast];kernel_rfl) Yd Yd Yd (by first|exact .inl Yd|exact .inr Yd) (by rw[isSubtype_type];kernel_rfl)
theorem Au:entryFor table "set_iterator.__iter__"=some Builtin.«dict_keyiterator.__iter__»:=entryFor_alias (id':="dict_keyiterator.__iter__") (by kernel_rfl) U Yd (by kernel_rfl)
theorem Av(a:Value):argsOk "set_iterator.__iter__" ⟨[a],[]⟩:=by unfold argsOk;kernel_rfl
theorem AL:entryFor table "set.__iter__"=some Builtin.«frozenset.__iter__»:=entryFor_alias (id':="frozenset.__iter__") (by kernel_rfl) U Yd (by kernel_rfl)
def cE(fst:Value)(i:Nat)(a:Addr)(n ep:Nat):Obj:={ cls:=.type "set_iterator",data:=.fields #[fst,.int i 0,.ref a,.int n 0,.int ep 0] }
theorem eW{Q:Array (Int×Value)->Shared->Prop}(c:s.heap.get? a=some (aH es ep t))(b:t.fits es.size=true)(h:Q es s):
 wpAny (model P w) A (setEntries a) Q E s:=by
 unfold setEntries;exact q4 (qW c U b (qc h))
theorem Ax{c:Addr}{p n:Nat}{b:LD}{x:Int×Value}{nn:Nat}{e:Obj}{tk:Tok}{Q:LO->Shared->Prop}
 (hi:s.heap.get? I=some (cE (.ref c) i a n ep)) (d:s.heap.get? a=some (aH es ep t)) (f:t.fits es.size=true) (hn:es.size=n)
 (ht:s.heap.get? c=some e) (j:e.data=.seq b nn) (hp:b[i]?=some (.int (p:Int) tk)) (k:es[p]?=some x)
 (h:∀h',h'.get? I=some (cE (.ref c) (i+1) a n ep)->Heap.SameBut I s.heap h'->Q (some x.2) { s with heap:=h' }):
 wpAny (model P w) A (pyNext (.ref I)) Q E s:=by
 have ty:s.TypeIs (.ref I) "set_iterator":=⟨_,hi,U⟩;unfold pyNext;refine q4 (wpAny_attempt (wpAny_callSpecial?_slot (name:=Str.ofString "__next__") ty dG (Qj dG ty jG ?_ (jH _))));unfold Builtin.«set_iterator.__next__»;refine q4 (qc ?_);refine q4 (wpAny_fieldsOf hi U ?_);dsimp only;refine q4 (eW d f ?_);have ne:((es.size:Int) != (n:Int))=false:=by rw[hn];simp
 rw[ne,qZ qh];refine q4 (Qw ht j ?_);dsimp only;rw[qX,hp];dsimp only;refine q4 ?_;unfold setNextDrawn;refine q4 (qW d U f ?_);dsimp only;have g:(ep != (ep:Int).toNat)=false:=by rw[qX];simp
 rw[g,qZ qh,qX,k];dsimp only;refine qc ?_;refine q4 (wpAny_setField hi U (by simp) (qc ⟨_,U,qc (h _ ?_ (Heap.SameBut.update ..))⟩));have:=Qh (Obj.mapFields (·.setIfInBounds 1 (rawInt ((i:Int)+1)))) hi U;exact this
theorem tm{Q:LO->Shared->Prop}(d:A.handled=none)(h:∀h',(∀b o,s.heap.get? b=some o->h'.get? b=some o)->Q none { s with heap:=h' }):
 wpAny (model P w) A.in1 (newExc (.type "StopIteration") [] >>= λx=>(raiseNew x:Sem Fin)) (λfin s'=>∃v,fin=Fin.done (Flow.ret v)/\wpAny (model P w) A (pure (some v)) Q E s')
  (λe s'=>wpAny (model P w) A (do if <- isInstance e (Value.type "StopIteration")then pure none else throw e) Q E s') s:=by
 refine q4 ?_;simp only[newExc,newTuple];refine q4 (wpAny_newObj_type ?_ (by size_fits));refine q4 (m:=firstArgMember _ _) (wpAny_of_eq (a:=Value.none) (by first|rfl|(simp only[firstArgMember];rfl)) ?_);refine wpAny_newObj_type ?_ (by size_fits);simp only[raiseNew];refine q4 (wpAny_handled ?_);have c:A.in1.handled=none:=d;rw[c];refine q4 (qc (wpAny_throw ?_));refine q4 (wpAny_isInstance (T:="StopIteration") (b:=true) ⟨_,qo _ U,U⟩ isSubtype_stop ?_);exact qc (h _ λb o e=>q9 _ (q9 _ e))
theorem Aw{f:Addr}{n:Nat}{c:LD}{nn:Nat}{d:Obj}{Q:LO->Shared->Prop}(p:A.handled=none)
 (hi:s.heap.get? I=some (cE (.ref f) i a n ep)) (j:s.heap.get? a=some (aH es ep t)) (l:t.fits es.size=true) (hn:es.size=n)
 (ht:s.heap.get? f=some d) (g:d.data=.seq c nn) (hp:c[i]?=none)
 (h:∀h',(∀b o,b≠I->s.heap.get? b=some o->h'.get? b=some o)->Q none { s with heap:=h' }):
 wpAny (model P w) A (pyNext (.ref I)) Q E s:=by
 have ty:s.TypeIs (.ref I) "set_iterator":=⟨_,hi,U⟩;unfold pyNext;refine q4 (wpAny_attempt (wpAny_callSpecial?_slot (name:=Str.ofString "__next__") ty dG (Qj dG ty jG ?_ (jH _))));unfold Builtin.«set_iterator.__next__»;refine q4 (qc ?_);refine q4 (wpAny_fieldsOf hi U ?_);dsimp only;refine q4 (eW j l ?_);have ne:((es.size:Int) != (n:Int))=false:=by rw[hn];simp
 rw[ne,qZ qh];refine q4 (Qw ht g ?_);dsimp only;rw[qX,hp];dsimp only;refine q4 (wpAny_setField hi U (by simp) ?_);have m:=Qh (Obj.mapFields (·.setIfInBounds 0 (rawInt 0))) hi U;refine q4 (wpAny_setField m U (by simp) ?_);refine tm p λh' k=>h h' λb o hb e=>k b o ?_;exact(Qt _ _ (Ne.symm hb)).trans ((Qt _ _ (Ne.symm hb)).trans e)
theorem uw{n sl sl':Nat}{x:Value}{Q:LO->Shared->Prop}
 (hi:s.heap.get? I=some (cE (.int (sl:Int) 0) i a n ep)) (e:s.heap.get? a=some (aH es ep t)) (g:t.fits es.size=true) (hn:es.size=n)
 (f:∀c:Option (Value×Nat)->Shared->Prop,∀d,c (some (x,sl')) s->wpAny (model P w) A.in1 (setNext a sl i ep) c d s)
 (h:∀h',h'.get? I=some (cE (.int (sl':Int) 0) (i+1) a n ep)->Heap.SameBut I s.heap h'->Q (some x) { s with heap:=h' }):
 wpAny (model P w) A (pyNext (.ref I)) Q E s:=by
 have ty:s.TypeIs (.ref I) "set_iterator":=⟨_,hi,U⟩;unfold pyNext;refine q4 (wpAny_attempt (wpAny_callSpecial?_slot (name:=Str.ofString "__next__") ty dG (Qj dG ty jG ?_ (jH _))));unfold Builtin.«set_iterator.__next__»;refine q4 (qc ?_);refine q4 (wpAny_fieldsOf hi U ?_);dsimp only;refine q4 (eW e g ?_);have ne:((es.size:Int) != (n:Int))=false:=by rw[hn];simp
 rw[ne,qZ qh,qX,qX,qX];refine q4 (f _ _ ?_);dsimp only;refine q4 (wpAny_setField hi U (by simp) ?_);have b:=Qh (Obj.mapFields (·.setIfInBounds 0 (rawInt (sl':Int)))) hi U;refine q4 (wpAny_setField b U (by simp) (qc ⟨_,U,qc (h _ ?_ ((Heap.SameBut.update ..).trans (Heap.SameBut.update ..)))⟩));exact Qh (Obj.mapFields (·.setIfInBounds 1 (rawInt ((i:Int)+1)))) b U
theorem mG{n sl:Nat}{Q:LO->Shared->Prop}(l:A.handled=none)
 (hi:s.heap.get? I=some (cE (.int (sl:Int) 0) i a n ep)) (f:s.heap.get? a=some (aH es ep t)) (j:t.fits es.size=true) (hn:es.size=n)
 (g:∀c:Option (Value×Nat)->Shared->Prop,∀d,c none s->wpAny (model P w) A.in1 (setNext a sl i ep) c d s)
 (h:∀h',(∀b o,b≠I->s.heap.get? b=some o->h'.get? b=some o)->Q none { s with heap:=h' }):
 wpAny (model P w) A (pyNext (.ref I)) Q E s:=by
 have ty:s.TypeIs (.ref I) "set_iterator":=⟨_,hi,U⟩;unfold pyNext;refine q4 (wpAny_attempt (wpAny_callSpecial?_slot (name:=Str.ofString "__next__") ty dG (Qj dG ty jG ?_ (jH _))));unfold Builtin.«set_iterator.__next__»;refine q4 (qc ?_);refine q4 (wpAny_fieldsOf hi U ?_);dsimp only;refine q4 (eW f j ?_);have ne:((es.size:Int) != (n:Int))=false:=by rw[hn];simp
 rw[ne,qZ qh,qX,qX,qX];refine q4 (g _ _ ?_);dsimp only;refine q4 (wpAny_setField hi U (by simp) ?_);refine tm l λh' k=>h h' λb o hb e=>k b o ?_;exact(Qt _ _ (Ne.symm hb)).trans e
theorem jF{fst:Value}{n:Nat}(hi:s.heap.get? I=some (cE fst i a n ep))(h:Q (.ref I) s):wpAny (model P w) A (pyIter (.ref I)) Q E s:=by
 have ty:s.TypeIs (.ref I) "set_iterator":=⟨_,hi,U⟩;refine wpAny_pyIter_slot ty ux (Qj ux ty Au ?_ (Av _));show wpAny _ _ (ret (.ref I)) _ _ s;exact qc ⟨_,U,"set_iterator",_,ty,dG.lookup,h⟩
theorem yI{a:Source}{n:Nat}{Q:Nat->Shared->Prop}(hn:n≠0)(h:∀i d,i<n->Q i { s with drawn:=d }):wpAny (model P w) A (choose a n) Q E s:=λΓ p _=>by
 show Sem.wp _ _ (.choose a n .pure) _ _ _ _;rw[Sem.wp_choose];exists hn;have:=h ((model P w).w.draws a (s.drawn.get a) % n) (s.drawn.bump a) (Nat.mod_lt _ (Nat.pos_of_ne_zero hn));simpa using this
theorem vE{xs:List α}{x:α}(h:xs[i]?=some x):(x::xs.eraseIdx i).Perm xs:=by
 induction xs generalizing i with
 |nil=>simp at h
 |cons y r a=>
  cases i with
  |zero=>simp at h;subst h;exact .refl _
  |succ j=>
   simp only[List.getElem?_cons_succ]at h;exact(List.Perm.swap y x _).trans ((a h).cons y)
theorem ra{a:Type}:∀(n:Nat)(xs:List a)(s:Shared)(Q:List a->Shared->Prop),xs.length=n->(∀ys d,ys.Perm xs->Q ys { s with drawn:=d })->wpAny (model P w) A (drawOrder n xs) Q E s
 |0,xs,s,Q,hn,h=>by
  obtain rfl:=List.length_eq_zero_iff.mp hn;exact qc (h [] s.drawn (.refl _))
 |n+1,[],s,Q,hn,h=>by cases hn
 |n+1,x::r,s,Q,hn,h=>by
  unfold drawOrder;refine q4 (yI (by simp) λi d hi=>?_);have e:(x::r)[i]?=some (x::r)[i]:=qb hi;rw[e];dsimp only;refine q4 (ra n _ _ _ (by rw[List.length_eraseIdx_of_lt hi];lia) λys d' hp=>qc ?_);exact h _ d' ((hp.cons _).trans (vE e))
theorem vB{b:Type}(next:Nat->Nat):∀(a k:Nat)(left:List b)(out:Array b),left.length=a->(pickOrder.go next a k left out).toList.Perm (out.toList++left)
 |0,k,left,out,h=>by
  obtain rfl:=List.length_eq_zero_iff.mp h;unfold pickOrder.go;rw[qw]
 |a+1,k,left,out,h=>by
  unfold pickOrder.go;have hi:next k % left.length<left.length:=Nat.mod_lt _ Yo
  have e:=qb hi;rw[e];dsimp only;refine(vB next a (k+1) _ _ (by rw[List.length_eraseIdx_of_lt hi];lia)).trans ?_;rw[Array.toList_push,qM];exact(List.Perm.refl _).append (vE e)
theorem vA(next:Nat->Nat)(xs:Array α):(pickOrder next xs).toList.Perm xs.toList:=by
 have:=vB next xs.size 0 xs.toList #[] qL
 simpa[pickOrder]using this
theorem eT{Q:Bool->Shared->Prop}(h:Q (w.params.followText "set-order") s):wpAny (model P w) A setsByText Q E s:=by
 unfold setsByText;exact q4 (wpAny_askSetting (qc h))
structure Gb(P:Program)(w:World)(es:Array (Int×Value))(a:Addr)(s s':Shared)(I:Addr):Prop where
 ex:∃(fp:LK)(vs:LL)(St:Nat->Heap->Prop),vs.Perm (es.toList.map (·.2))/\(∀A:Around,A.handled=none->Walks P w A I fp [I] vs.length (λi v=>vs[i]?=some v) St)/\St 0 s'.heap/\(∀b∈fp,b<s'.heap.objs.size/\(b=a\/s.heap.get? b=none))/\I∈fp
 old:∀b o,s.heap.get? b=some o->s'.heap.get? b=some o
 new:s.heap.get? I=none
 gens:s'.gens=s.gens
 os:s'.os=s.os
 toks:s'.toks=s.toks
theorem ER{n:Nat}(h:t.fits n=true):t.place.size=n:=by
 simp only[SetTable.fits,Bool.and_eq_true,beq_iff_eq]at h;exact h.1
theorem fq(k:h.objs.size<=b):h.get? b=none:=by
 cases q:h.get? b with
 |none=>rfl
 |some o=>exact Q5 (qC (qp q) k) (Qc _)
theorem Ee(n:s.heap.get? a=some (aH es ep t))(T:aQ P w es t ys)
 (h:∀s' I,Gb P w es a s s' I->Q (.ref I) s'):wpAny (model P w) A (pyIter (.ref a)) Q E s:=by
 have ty:s.TypeIs (.ref a) "set":=⟨_,n,U⟩;have u:a<s.heap.objs.size:=qp n;refine wpAny_pyIter_slot ty F.slot_set_iter (Qj F.slot_set_iter ty AL ?_ (F.args_set_iter_1 _));unfold Builtin.«frozenset.__iter__»;refine q4 (qc ?_);refine q4 ?_;unfold Builtin.Frozenset.sizeOf;refine q4 (eW n T.fit (qc ?_));refine q4 ?_;unfold setDrawn;refine q4 (qW n U T.fit ?_);dsimp only;refine q4 (eT (qc ?_))
 have two:∀(fst:Value)(s1:Shared),s1.heap.get? a=some (aH es ep t)->(∀it s',it=.ref s1.heap.objs.size->s'={ s1 with heap:=s1.heap.push (cE fst 0 a es.size ep) }->Q it s')->
  wpAny (model P w) A.in1 (do
   let e <- setEpoch a
   let x <- newFields "set_iterator" [fst,rawInt 0,.ref a,rawInt (es.size:Int),rawInt (e:Int)]
   ret x) (λfin s'=>∃v,fin=Fin.done (Flow.ret v)/\∃T' r,s'.TypeIs v T'/\typeLookup (Value.type T') (Str.ofString "__next__")=pure (some r)/\Q v s') E s1:=λfst s1 l hq=>by
  refine q4 (wpAny_setEpoch_of l U T.fit ?_);unfold newFields;refine q4 (wpAny_newObj_type ?_);refine qc ⟨_,U,"set_iterator",_,⟨_,qo _ U,U⟩,dG.lookup,hq _ _ U U⟩
 show wpAny _ _ (if(!w.params.followText "set-order" && (!t.plain && decide (es.size > 1)))=true then _ else _) _ _ _;have N:=ER T.fit;by_cases hb:w.params.followText "set-order"=true
 .rw[hb];simp only[Bool.not_true,Bool.false_and,Qk,if_false];refine q4 (qc ?_);refine two _ s n λit s' J M=>?_;subst J M;have pp:=vA (w.params.setOrder a ep) es;have pl:((pickOrder (w.params.setOrder a ep) es).toList.map (·.2)).length=es.size:=by rw[q5,pp.length_eq,qL]
  have nx:∀(y:Around)(i:Nat)(s1:Shared)(c:Option (Value×Nat)->Shared->Prop) f,s1.heap.get? a=some (aH es ep t)->c (((pickOrder (w.params.setOrder a ep) es)[i]?).map λe=>(e.2,0)) s1->wpAny (model P w) y (setNext a 0 i ep) c f s1:=λy i s1 c f l q=>by
   unfold setNext;refine q4 (qW l U T.fit ?_);dsimp only;refine q4 (eT ?_);rw[hb,Q0 U];have ne:(ep != ep)=false:=by simp
   rw[ne,qZ qh];refine q4 ?_;unfold setWalk;refine q4 (qW l U T.fit ?_);dsimp only;refine q4 (eT ?_);rw[hb,Q0 U];refine q4 (wpAny_askSetting (qc ?_));exact qc q
  have H:a≠s.heap.objs.size:=qF u;refine h _ _ ⟨⟨[s.heap.objs.size,a],(pickOrder (w.params.setOrder a ep) es).toList.map (·.2),λi h'=>h'.get? s.heap.objs.size=some (cE (.int 0 0) i a es.size ep)/\h'.get? a=some (aH es ep t),pp.map _,λy C=>?_,⟨qo _ U,q9 _ n⟩,?_,by simp⟩,λb o e=>q9 _ e,?_,U,U,U⟩
  .refine⟨λb hb=>by simp at hb;simp[hb],λi l K st k=>⟨k _ (by simp) _ st.1,k _ (by simp) _ st.2⟩,λi s1 c f hi st q=>?_,λs1 c f st q=>?_,λi s1 c f st q=>jF st.1 q⟩
   .have m:i<(pickOrder (w.params.setOrder a ep) es).size:=by rw[q5,qL]at hi;exact hi
    refine uw (sl:=0) (sl':=0) (x:=(pickOrder (w.params.setOrder a ep) es)[i].2) st.1 st.2 T.fit U (λX S B=>nx _ _ _ _ _ st.2 (by rw[Array.getElem?_eq_getElem m];exact B)) λh' K0 z=>q _ h' s1.toks ?_ ⟨K0,?_⟩ λb o hb e=>?_
    .simp[m]
    .rw[z.2 _ H];exact st.2
    .rwa[z.2 _ (by simpa using hb)]
   .have m:(pickOrder (w.params.setOrder a ep) es)[((pickOrder (w.params.setOrder a ep) es).toList.map (·.2)).length]?=none:=by simp
    exact mG (sl:=0) C st.1 st.2 T.fit U (λX S B=>nx _ _ _ _ _ st.2 (by rw[m];exact B)) λh' g=>q h' s1.toks λb o hb e=>g b o (by simpa using hb) e
  .intro b hb;simp only[qt,qQ,or_false]at hb;rw[Qg];rcases hb with rfl|rfl
   .exact⟨Qb _,.inr (fq (qd _))⟩
   .exact⟨Qq u,.inl U⟩
  .exact fq (qd _)
 .have L:w.params.followText "set-order"=false:=by simpa using hb
  rw[L];have led:t.led=true:=by rw[T.led,L];rfl
  by_cases hz:es.size > 1
  .have hp:=T.pl Yo;rw[hp];simp only[Bool.not_false,Bool.true_and,hz,decide_true,if_true];refine q4 (ra _ _ _ _ (by simp) λps d R=>?_);refine q4 (wpAny_newTuple ?_ (by rw[q5,R.length_eq,Qe];exact fits_of_scanBound T.few));refine two _ _ (q9 _ n) λit s' J M=>?_;subst J M;dsimp only;have lt:∀p∈ps,p<es.size:=λp hm=>List.mem_range.mp (R.mem_iff.mp hm);have sz:(s.heap.push { cls:=.type "tuple",data:=.seq (ps.map λi:Nat=>rawInt i).toArray }).objs.size=s.heap.objs.size+1:=Qg ..
   have vp:(ps.map λp=>(es.toList.map (·.2)).getD p .none).Perm (es.toList.map (·.2)):=by
    refine(R.map _).trans ?_
    have e:(List.range es.size).map (λp=>(es.toList.map (·.2)).getD p .none)=es.toList.map (·.2):=by
     refine List.ext_getElem (by simp) λi l K=>?_;simp only[List.getElem_map,List.getElem_range];rw[qi,qb K];simp
    rw[e]
   have H:a≠(s.heap.push { cls:=.type "tuple",data:=.seq (ps.map λi:Nat=>rawInt i).toArray }).objs.size:=by rw[sz];exact qF (Qq u)
   have nT:s.heap.objs.size≠(s.heap.push { cls:=.type "tuple",data:=.seq (ps.map λi:Nat=>rawInt i).toArray }).objs.size:=by rw[sz];exact qF (Qb _)
   refine h _ _ ⟨⟨[(s.heap.push { cls:=.type "tuple",data:=.seq (ps.map λi:Nat=>rawInt i).toArray }).objs.size,a,s.heap.objs.size],ps.map λp=>(es.toList.map (·.2)).getD p .none,
    λi h'=>h'.get? (s.heap.push { cls:=.type "tuple",data:=.seq (ps.map λi:Nat=>rawInt i).toArray }).objs.size=some (cE (.ref s.heap.objs.size) i a es.size ep)/\h'.get? a=some (aH es ep t)/\h'.get? s.heap.objs.size=some { cls:=.type "tuple",data:=.seq (ps.map λi:Nat=>rawInt i).toArray },
    vp,λy C=>?_,⟨qo _ U,q9 _ (q9 _ n),q9 _ (qo _ U)⟩,?_,by simp⟩,λb o e=>q9 _ (q9 _ e),?_,U,U,U⟩
   .refine⟨λb hb=>by simp at hb;simp[hb],λi l K st k=>⟨k _ (by simp) _ st.1,k _ (by simp) _ st.2.1,k _ (by simp) _ st.2.2⟩,λi s1 c f hi st q=>?_,λs1 c f st q=>?_,λi s1 c f st q=>jF st.1 q⟩
    .have m:i<ps.length:=by rw[q5]at hi;exact hi
     have pl:=lt _ (List.getElem_mem m);refine Ax (p:=ps[i]) (tk:=0) (x:=es[ps[i]]) st.1 st.2.1 T.fit U st.2.2 U (by simp[m,rawInt]) (Array.getElem?_eq_getElem pl) λh' K0 z=>q _ h' s1.toks ?_ ⟨K0,?_,?_⟩ λb o hb e=>?_
     .simp[m,pl]
     .rw[z.2 _ H];exact st.2.1
     .rw[z.2 _ nT];exact st.2.2
     .rwa[z.2 _ (by simpa using hb)]
    .exact Aw C st.1 st.2.1 T.fit U st.2.2 U (by simp) λh' g=>q h' s1.toks λb o hb e=>g b o (by simpa using hb) e
   .intro b hb;simp only[qt,qQ,or_false]at hb;rw[Qg,sz];rcases hb with rfl|rfl|rfl
    .rw[sz];exact⟨Qb _,.inr (fq (Nat.le_succ _))⟩
    .exact⟨Qq (Qq u),.inl U⟩
    .exact⟨Qq (Qb _),.inr (fq (qd _))⟩
   .rw[sz];exact fq (Nat.le_succ _)
  .have Y:decide (es.size > 1)=false:=Q4 hz;rw[Y,Bool.and_false,Bool.and_false,qZ qh];refine q4 (qc ?_);refine two _ s n λit s' J M=>?_;subst J M;have H:a≠s.heap.objs.size:=qF u
   have nx:∀(y:Around)(i sl:Nat)(s1:Shared)(c:Option (Value×Nat)->Shared->Prop) f,s1.heap.get? a=some (aH es ep t)->c (match es[SetTable.below t.place sl]?,t.place[SetTable.below t.place sl]? with|some (_,x),some j=>some (x,j+1)|_,_=>none) s1->wpAny (model P w) y (setNext a sl i ep) c f s1:=λy i sl s1 c f l q=>by
    unfold setNext;refine q4 (qW l U T.fit ?_);dsimp only;refine q4 (eT ?_);rw[L,qZ qh];show wpAny _ _ (if(!t.plain && decide (es.size > 1))=true then _ else _) _ _ _;rw[Y,Bool.and_false,qZ qh];refine q4 ?_;show wpAny _ _ (if(!t.led && !es.isEmpty)=true then _ else _) _ _ _;rw[led,Bool.not_true,Bool.false_and,qZ qh];exact qc (qc q)
   have W:∀sl:Nat,es.size=0->SetTable.below t.place sl=0:=λsl h0=>by
    unfold SetTable.below;rw[N,h0]
    rfl
   have G:∀j sl:Nat,t.place=#[j]->SetTable.below t.place sl=if j<sl then 1 else 0:=λj sl e=>by
    rw[e];simp[SetTable.below,SetTable.below.go]
   have old:∀b o,s.heap.get? b=some o->(s.heap.push (cE (rawInt 0) 0 a es.size ep)).get? b=some o:=λb o e=>q9 _ e
   have Z:∀b∈[s.heap.objs.size,a],b<(s.heap.push (cE (rawInt 0) 0 a es.size ep)).objs.size/\(b=a\/s.heap.get? b=none):=by
    intro b hb;simp only[qt,qQ,or_false]at hb;rw[Qg];rcases hb with rfl|rfl
    .exact⟨Qb _,.inr (fq (qd _))⟩
    .exact⟨Qq u,.inl U⟩
   by_cases h0:es.size=0
   .have e0:es=#[]:=Array.eq_empty_of_size_eq_zero h0;refine h _ _ ⟨⟨[s.heap.objs.size,a],[],λi h'=>h'.get? s.heap.objs.size=some (cE (.int ((0:Nat):Int) 0) i a es.size ep)/\h'.get? a=some (aH es ep t),by rw[e0];exact .refl _,λy C=>?_,⟨qo _ U,old _ _ n⟩,Z,by simp⟩,old,fq (qd _),U,U,U⟩;refine⟨λb hb=>by simp at hb;simp[hb],λi l K st k=>⟨k _ (by simp) _ st.1,k _ (by simp) _ st.2⟩,λi s1 c f hi st q=>Q5 hi (Qy _),λs1 c f st q=>?_,λi s1 c f st q=>jF st.1 q⟩;exact mG (sl:=0) C st.1 st.2 T.fit U (λX S B=>nx _ _ _ _ _ _ st.2 (by rw[W 0 h0,e0];exact B)) λh' g=>q h' s1.toks λb o hb e=>g b o (by simpa using hb) e
   .have l:es.size=1:=by lia
    obtain⟨x,ex⟩:∃x,es=#[x]:=⟨es[0],by
     refine Array.ext (by simpa using l) λi hi D=>?_;have:i=0:=by simp at D;exact D
     subst this
     rfl⟩
    obtain⟨j,V⟩:∃j,t.place=#[j]:=⟨t.place[0]'(by rw[N,l];decide),by
     refine Array.ext (by simp[N,l]) λi hi D=>?_;have:i=0:=by simp at D;exact D
     subst this
     rfl⟩
    refine h _ _ ⟨⟨[s.heap.objs.size,a],[x.2],λi h'=>h'.get? s.heap.objs.size=some (cE (.int ((if i=0 then 0 else j+1:Nat):Int) 0) i a es.size ep)/\h'.get? a=some (aH es ep t),by rw[ex];exact .refl _,λy C=>?_,⟨qo _ U,old _ _ n⟩,Z,by simp⟩,old,fq (qd _),U,U,U⟩;refine⟨λb hb=>by simp at hb;simp[hb],λi l K st k=>⟨k _ (by simp) _ st.1,k _ (by simp) _ st.2⟩,λi s1 c f hi st q=>?_,λs1 c f st q=>?_,λi s1 c f st q=>jF st.1 q⟩
    .obtain rfl:i=0:=by simp at hi;exact hi
     refine uw (sl:=0) (sl':=j+1) (x:=x.2) st.1 st.2 T.fit U (λX S B=>nx _ _ _ _ _ _ st.2 ?_) λh' K0 z=>q _ h' s1.toks U ⟨K0,?_⟩ λb o hb e=>?_
     .rw[G j 0 V,V,ex];exact B
     .rw[z.2 _ H];exact st.2
     .rwa[z.2 _ (by simpa using hb)]
    .refine mG (sl:=j+1) C st.1 st.2 T.fit U (λX S B=>nx _ _ _ _ _ _ st.2 ?_) λh' g=>q h' s1.toks λb o hb e=>g b o (by simpa using hb) e;rw[G j (j+1) V,Q0 (Qb j),V,ex];exact B
theorem AK:typeLookup (.type "set") "__len__"=pure (some (.builtin "set.__len__")):=by rw[typeLookup_type,builtinLookup_eq_fast];kernel_rfl
theorem iH:isSubtype (.type "set") (.type "set")=pure true:=by rw[isSubtype_type];kernel_rfl
theorem Fy{Q:LL->Shared->Prop}(G:A.handled=none)(u:s.heap.get? a=some (aH es ep t))(T:aQ P w es t ys)
 (h:∀s' vs,vs.Perm (es.toList.map (·.2))->(∀b o,s.heap.get? b=some o->s'.heap.get? b=some o)->s'.gens=s.gens->s'.os=s.os->s.heap.objs.size<s'.heap.objs.size->Q vs s'):wpAny (model P w) A (collect (.ref a)) Q E s:=by
 unfold collect;refine q4 (wpAny_runValue (codeAny_builtin F.entry_proto_collect ?_));rw[Around.under_plainId F.plain_proto_collect _];show wpAny _ A.in1 (newList [] >>= λl=>again (.builtin "list.__iadd__" ⟨[l,.ref a],[]⟩)) _ _ s;refine q4 (wpAny_newObj_type ?_);refine qc ⟨plainId_quiet F.plain_list_iadd _,codeAny_builtin F.entry_list_iadd ?_⟩;rw[Around.under_plainId F.plain_list_iadd _];have q:a<s.heap.objs.size:=qp u;have f:(s.heap.push { cls:=.type "list",data:=.seq ([]:LL).toArray }).get? a=some (aH es ep t):=q9 _ u;show wpAny _ A.in1 (Builtin.List.listExtendWith (.ref s.heap.objs.size) (.ref a) (.ref s.heap.objs.size)) _ _ _;unfold Builtin.List.listExtendWith;refine q4 (wpAny_typeOf (T:="set") ⟨_,f,U⟩ ?_)
 have K:Builtin.List.listSameRef (.ref s.heap.objs.size) (.ref a)=false:=by
  simp only[Builtin.List.listSameRef,beq_eq_false_iff_ne];exact Nat.ne_of_gt q
 rw[qZ (by rw[K];decide)];refine q4 (Ee (A:=A.in1) (s:={ s with heap:=s.heap.push { cls:=.type "list",data:=.seq ([]:LL).toArray } }) f T λj I W=>?_);obtain⟨⟨M,vs,St,hp,J,B,x,_⟩,old,new,H,eo,_⟩:=W;have r:=old _ _ f;have l2:=old _ _ (show(s.heap.push { cls:=.type "list",data:=.seq ([]:LL).toArray }).get? s.heap.objs.size=some { cls:=.type "list",data:=.seq ([]:LL).toArray }from qo _ U);refine q4 (Qv ?_);unfold Builtin.List.listLengthHint;refine q4 (wpAny_specialOf (T:="set") ⟨_,r,U⟩ AK ?_);have m:j.TypeIs (.ref a) "set":=⟨_,r,U⟩
 (generalize hid:("set.__len__":String)=id0;(fail_if_success (clear hid id0));wp_delta;rw[show splitId id0=some ("set","__len__")from by subst hid;decide +kernel];subst hid)
 refine q4 (wpAny_isInstance (b:=true) m iH ?_);rw[qZ Yk];show wpAny _ _ (if _=true then _ else _) _ _ _;rw[Q0 Yk];refine q4 (wpAny_typeOf m ?_);refine qc ?_;rw[Q0 Yk];refine q4 (wpAny_rule ?_);refine q4 ?_;show wpAny _ A.in1 (updateSeq s.heap.objs.size (·.push .none) >>= λ_=>updateSeq s.heap.objs.size (·.pop)) _ _ _;refine q4 (wpAny_updateSeq l2 U ?_);have y:=Qh (Obj.mapSeq (·.push Value.none)) l2 U;refine wpAny_updateSeq y U ?_;have N:=Qh (Obj.mapSeq (·.pop)) y U
 have n:∀b o,b≠s.heap.objs.size->j.heap.get? b=some o->((j.heap.update s.heap.objs.size (Obj.mapSeq (·.push Value.none))).update s.heap.objs.size (Obj.mapSeq (·.pop))).get? b=some o:=λb o hb e=>
  (Qt _ _ (Ne.symm hb)).trans ((Qt _ _ (Ne.symm hb)).trans e)
 have c:s.heap.objs.size∉M:=λg=>by
  rcases(x _ g).2 with z|z
  .exact Qc _ (z▸q)
  .rw[show({ s with heap:=s.heap.push { cls:=.type "list",data:=.seq ([]:LL).toArray } }:Shared).heap.get? s.heap.objs.size=some { cls:=.type "list",data:=.seq ([]:LL).toArray }from qo _ U]at z;cases z
 have hn:vs.length<=sizeLine:=by rw[hp.length_eq,q5,qL];exact fits_of_scanBound T.few
 have W:=(J A.in1 (by simp[G])).toS
 refine qc ⟨plainId_quiet F.plain_extend_loop _,codeAny_extend_loopS W hn _ c _ vs.length 0 _ _ _ U (qr _)
  (W.frame 0 j _ j.toks B (qd _) λb hb o e=>n b o (λz=>c (z▸hb)) e) N (ItemsOf.nil _) λs' k _ g p d=>?_⟩
 show wpAny _ A (load s.heap.objs.size >>= _) _ _ s';refine q4 (wpAny_load p (qc ?_))
 have C:k.toList=vs:=by
  refine List.ext_getElem? λi=>?_;rw[qT];by_cases hi:i<k.size
  .rw[Array.getElem?_eq_getElem hi];exact(d.2 i _ (Array.getElem?_eq_getElem hi)).symm
  .rw[Array.getElem?_eq_none (Nat.not_lt.mp hi),Qp (by have:=d.1;lia)]
 rw[C];refine h s' vs hp (λb o e=>?_) (g.gens.trans H) (g.os.trans eo) (qp p);have v:b≠s.heap.objs.size:=λz=>by rw[z]at e;exact Qc _ (qp e)
 have D:b≠I:=λz=>by
  rw[z]at e;have L:(s.heap.push { cls:=.type "list",data:=.seq ([]:LL).toArray }).get? I=some o:=q9 _ e;exact Q5 (L.symm.trans new) (by simp)
 exact g.heap b o (by simp[v,D]) (n b o v (old b o (q9 _ e)))
theorem Aj(B:A.handled=none)(y:s.heap.get? a=some (aH es ep t))(T:aQ P w es t ys)(few:es.size<64)
 (h:∀s' l n (zs:LS) (out:LL),s.heap.objs.size<=l->s'.heap.get? l=some { cls:=.type "list",data:=.seq out.toArray n }->PyProof.Rows.StrsAre out zs->zs.Nodup->(∀k,k∈zs↔k∈ys)->PyProof.Rows.sortedS zs=true->zs.length=es.size->
  (∀b o,s.heap.get? b=some o->s'.heap.get? b=some o)->s'.gens=s.gens->s'.os=s.os->Q (.ref l) s'):wpAny (model P w) A (call (.builtin "sorted") [.ref a]) Q E s:=by
 refine Calls.call_function_entry PyProof.Rows.kind_sorted PyProof.Rows.plain_sorted PyProof.Rows.entry_sorted (PyProof.Rows.args_sorted1 _) ?_;unfold Builtin.«sorted»;refine q4 (m:=checkCount "sorted" 1 1 _) (qc ?_);refine q4 (Fy (A:=A.in1) (by simpa using B) y T λs1 vs hp old C eo p=>?_)
 have str:∀us:LL,(∀v∈us,∃k tk,v=Value.str k tk)->PyProof.Rows.StrsAre us (us.map txt):=by
  intro us
  induction us with
  |nil=>intro _;exact .nil
  |cons v r H=>
   intro d;obtain⟨k,tk,rfl⟩:=d _ qk;exact .cons k tk (H λu hu=>d u (qj _ hu))
 have all:∀v∈vs,∃k tk,v=Value.str k tk:=λv d=>by
  obtain⟨e,I,rfl⟩:=List.mem_map.mp (hp.mem_iff.mp d);obtain⟨⟨k,hk,_⟩,_⟩:=T.el e I;obtain⟨tk,i⟩:=Value.isStrOf_shape hk;exact⟨k,tk,i⟩
 have g:=str vs all;have len:vs.length=es.size:=by rw[hp.length_eq,q5,qL]
 refine q4 (wpAny_newList ?_ (by rw[len];exact fits_of_scanBound T.few));have j:(s1.heap.push { cls:=.type "list",data:=.seq vs.toArray }).get? s1.heap.objs.size=some (PyProof.Rows.seqObj "list" vs.toArray 0):=qo _ U;refine q4 (Qv (Qj PyProof.Rows.slot_list_sort ⟨_,j,U⟩ PyProof.Rows.entry_list_sort (PyProof.Rows.list_sort_treeK PyProof.Rows.strKind_oneLt j g.keysOf (λv1 v2 rest e=>PyProof.Rows.keyKind_strs (by rwa[<- e])) Yo λc D z=>⟨_,U,?_⟩) (PyProof.Rows.args_list_sort _)));obtain⟨zs,G,F,J⟩:=PyProof.Rows.sorted_out_str g D z;obtain⟨n,x⟩:=PyProof.Rows.sortedHeap_at (out:=(PyProof.Rows.arrOf c).map (·.2)) j
 have f:zs.Perm (es.toList.map λe=>txt e.2):=by
  refine F.trans ((hp.map txt).trans ?_);rw[List.map_map];exact .refl _
 refine qc ⟨_,U,h _ s1.heap.objs.size n zs ((PyProof.Rows.arrOf c).map (·.2)).toList (Nat.le_of_lt p) ?_ G (f.nodup_iff.mpr T.nd) (λk=>(f.mem_iff).trans (T.mem k)) J (by rw[f.length_eq,q5,qL]) (λb o e=>?_) C eo⟩
 .exact x
 .have q:=old b o e;have lt:=qp q;have i:=(PyProof.Rows.sortedHeap_old (h:=s1.heap.push { cls:=.type "list",data:=.seq vs.toArray }) (a:=s1.heap.objs.size) (vs:=vs) (out:=(PyProof.Rows.arrOf c).map (·.2)) (qF lt) (by rw[Qg];exact Qq lt));exact i.trans (q9 _ q)
noncomputable def bB(w:World):Obj:=aH #[] 0 (.fresh 0 0 (!w.params.followText "set-order"))
theorem Dv(v:Value){Q1:LF}(h:Q1 (.ref s.heap.objs.size) { s with heap:=s.heap.push (bB w) }):
 codeAny (model P w) A (.call (.builtin "set.__new__") ⟨[.type "set",v],[]⟩) (wants Q1 E) s:=by
 refine codeAny_of_tree ?_;show wpAny _ A.in1 (do checkBuiltinCall "set.__new__" ⟨[.type "set",v],[]⟩;again (.builtin "set.__new__" ⟨[.type "set",v],[]⟩)) _ _ s;have a:=F.entry_set_new;have pl:=F.plain_set_new;refine q4 (wpAny_of_eq (F.newCall_set_1 v) (qc ⟨plainId_quiet pl _,codeAny_builtin a ?_⟩));rw[Around.under_plainId pl _];unfold Builtin.«set.__new__» Builtin.Frozenset.newClass;have sub:=sub_set_self;obtain⟨hp,g,d,tk,os⟩:=s;dsimp only
 wp_walk
 refine wpAny_askSetting (qc ?_);dsimp only;simp only[newObj];refine q4 (wpAny_alloc (qc ?_));exact qc h
theorem sS:∀{vs:LL}{zs:LS},PyProof.Rows.StrsAre vs zs->zs.length=vs.length
 |_,_,.nil=>rfl
 |_,_,.cons _ _ r=>by rw[qz,qz,sS r]
theorem sU:∀{vs:LL}{zs:LS},PyProof.Rows.StrsAre vs zs->∀(i:Nat)(v:Value),vs[i]?=some v->∃k t,zs[i]?=some k/\v=.str k t
 |_,_,.nil,i,v,h=>by simp at h
 |_,_,.cons x t r,0,v,h=>by simp at h;exact⟨x,t,U,h.symm⟩
 |_,_,.cons x t r,i+1,v,h=>by
  simp only[List.getElem?_cons_succ]at h ⊢;exact sU r i v h
theorem jy:aQ P w #[] (.fresh 0 0 (!w.params.followText "set-order")) []:=
 { el:=(λe a=>by cases a),nd:=List.nodup_nil,mem:=λ_=>Iff.rfl,few:=(by unfold scanBound;decide),fit:=U,led:=U,pl:=λz=>Q5 z (Qc 0) }
set_option maxHeartbeats 3200000 in
theorem FI(X:A.handled=none)(hl:s.heap.IsList l items)(hi:PyProof.Rows.StrsAre items.toList zs)(hb:items.size+1<scanBound)
 (h:∀(h':Heap)(tk:Nat) es ep t,h'.get? s.heap.objs.size=some (aH es ep t)->aQ P w es t zs->
  (∀b o,b<s.heap.objs.size->s.heap.get? b=some o->h'.get? b=some o)->Q (.ref s.heap.objs.size) { s with heap:=h',toks:=tk }):
 wpAny (model P w) A (call (.type "set") [.ref l]) Q E s:=by
 obtain⟨c,_,_⟩:=F.called_set.mro;have N:=F.called_set.made;have V:=F.called_set.sub;refine wpAny_call (codeAny_of_tree ?_);show wpAny _ _ (callAny (.type "set") _) _ _ _;refine qc ⟨Code.quiet_builtin _ Yd,codeAny_builtin F.entry_type_call ?_⟩;rw[Around.under_plain (weight_type_call_type "set" [.ref l] []) U];have h1:=F.called_set.notType;have h2:=F.called_set.canCreate;have a0:=F.typeCall_set_1 (.ref l)
 repeat (any_goals (first|assumption|wp_step))
 refine codeAny_mono (Dv (P:=P) (w:=w) (E:=E) (s:=s) (.ref l) (Q1:=λM s1=>M=.ref s.heap.objs.size/\s1={ s with heap:=s.heap.push (bB w) }) ⟨U,U⟩) λr s1 u=>?_
 cases r with
 |error e=>exact u
 |ok fl=>
  cases fl with
  |ret M=>
   obtain⟨rfl,rfl⟩:=u;have C:(s.heap.push (bB w)).get? s.heap.objs.size=some (bB w):=qo _ U;have S:Shared.TypeIs { s with heap:=s.heap.push (bB w) } (.ref s.heap.objs.size) "set":=⟨_,C,U⟩;have a1:=F.called_set.init.lookup;have a2:=F.called_set.init.bind (.ref s.heap.objs.size)
   repeat (any_goals (first|assumption|wp_step))
   refine codeAny_mono (codeAny_call_builtin (R:=wants (λr K=>r=.none/\∃h' tk,K={ s with heap:=h',toks:=tk }/\(∃es ep t,h'.get? s.heap.objs.size=some (aH es ep t)/\aQ P w es t zs) /\
    (∀b o,b<s.heap.objs.size->s.heap.get? b=some o->h'.get? b=some o)) E) F.called_set.init.plain F.entry_set_init (check_set_init_1 S ?_)) λT K a=>?_
   .obtain⟨ol,p,m,nl,n⟩:=hl;obtain⟨_,j,_,d⟩:=ol;simp only at m n;subst m n;have y:(s.heap.push (bB w)).get? l=some { cls:=.type "list",dict:=j,data:=.seq items nl,slots:=d }:=q9 _ p;have k1:=F.sub_list_set;have k2:=F.sub_list_frozenset;have k3:(Value.type "list" == Value.type "dict")=false:=Yk;have q:(s.heap.push (bB w)).IsList l items:=⟨_,y,U,nl,U⟩;unfold Builtin.«set.__init__» noKeywords Builtin.Frozenset.updateFrom;generalize hPI:pyIter=PI
    wp_walk
    subst hPI;refine wpAny_pyIter_list q ?_;refine q4 (wpAny_runValue ?_);have z:l<s.heap.objs.size:=qp p;have D:A.in1.in1.in1.handled=none:=by simp[X]
    have H:l≠(s.heap.push (bB w)).objs.size:=by rw[Qg];exact qF (Qq z)
    have J:s.heap.objs.size∉[(s.heap.push (bB w)).objs.size,l]:=by
     rw[Qg];simp only[qt,qQ,or_false,not_or];exact⟨qF (Qb _),Nat.ne_of_gt z⟩
    have hz:∀(i:Nat)(v:Value),items[i]?=some v->∃k t,zs[i]?=some k/\v=.str k t:=λi v Z=>sU hi i v (by rw[qT];exact Z);have lz:zs.length=items.size:=by rw[<- qL];exact sS hi
    refine EV ((Walks.list D _ l H items).toS) s.heap.objs.size J zs hz hb (items.size-0) 0 _ Yo (qr _) ⟨⟨_,qo _ U,U,U⟩,(q.push _)⟩ ⟨#[],0,_,q9 _ C,jy,qd _⟩ λW g G=>?_;obtain⟨es,ep,t,x,f,_⟩:=G;obtain⟨h',g',d',B,I⟩:=W;have Y:g'=s.gens:=g.gens;have K0:d'=s.drawn:=g.drawn;have eo:I=s.os:=g.os;subst Y K0 eo;refine qc ?_;rw[<- lz,qG]at f;refine qc ⟨U,h',B,U,⟨es,ep,t,x,f⟩,λb o hb e=>?_⟩;have n1:b≠s.heap.objs.size:=qF hb;have n2:b≠(s.heap.push (bB w)).objs.size:=by rw[Qg];exact qF (Qq hb)
    exact g.heap b o (by simp only[qt,qQ,or_false,not_or];exact⟨n1,n2⟩) (q9 _ (q9 _ e))
   .cases T with
    |error e=>exact a
    |ok L=>
     cases L with
     |ret r=>
      obtain⟨rfl,h',tk,rfl,⟨es,ep,t,x,f⟩,hk⟩:=a
      repeat (any_goals (first|assumption|wp_step))
      exact h _ _ _ _ _ x f hk
     |_=>exact a.elim
  |_=>exact u.elim
noncomputable def bi(P:Program)(w:World)(a:Addr)(ys:LS):HO:=.ext λh=>∃es ep t,h.get? a=some (aH es ep t)/\aQ P w es t ys
theorem bi.ok(e:h.get? a=some (aH es ep t))(T:aQ P w es t ys):bb P w H h a (bi P w a ys):=
 ⟨⟨es,ep,t,e,T⟩,⟨_,e⟩,λ_ _ ⟨es,ep,t,q,T⟩ k=>⟨es,ep,t,k _ q,T⟩⟩
theorem md:∀{ys:LS}{η:LL},aB (ys.map V.str) η->StrsAre η ys
 |[],_,.nil=>.nil
 |y::ys,_,.cons r t=>by
  obtain⟨k,rfl⟩:=r;exact .cons y k (md t)
theorem kB:∀{ys:LS}{η:LL},StrsAre η ys->aB (ys.map V.str) η
 |_,_,.nil=>.nil
 |_,_,.cons x t r=>.cons ⟨t,U⟩ (kB r)
theorem bX{ds:LS}(h:zs.Nodup)(k:∀x∈zs,x∈ds):zs.length<=ds.length:=by
 induction zs generalizing ds with
 |nil=>exact qr _
 |cons x r c=>
  have b:=k x qk;have h':=List.nodup_cons.mp h;have:=c (ds:=ds.erase x) h'.2 λy a=>(List.mem_erase_of_ne (by rintro rfl;exact h'.1 a)).mpr (k y (qj _ a));rw[List.length_erase_of_mem b]at this;have:0<ds.length:=List.length_pos_of_mem b;simp only[qz];lia
theorem Inv.redrawn(I:Inv X ζ O H { s with heap:=s'.heap })(hg:s'.gens=s.gens)(a:s'.os=s.os):Inv X ζ O H s':=
 ⟨I.ok,a.trans I.os,by rw[hg];exact I.bare,I.base,I.loc,I.cell,I.free,I.freeC,I.pin,I.hok,I.len⟩
theorem g9(g:X.calm=true):bf X (.type "set") (λxs H Q=>∃p ys,xs=[.ref p]/\SqL X.K H p (ys.map V.str)/\ys.length<4000/\∀l,H l=none->Q (.ref l) (upd H l (bi X.prog X.w l ys))):=by
 intro _ s _ H xs us Q I r h;obtain⟨p,ys,rfl,d,hz,q⟩:=h;obtain⟨u,rfl,f⟩:=cK r;cases f;obtain⟨_,c,pl,_⟩:=I.list d;have a:=c.length;rw[q5]at a;refine FI (I.ok.hd g) pl.isList (zs:=ys) (by simpa using md c) (by simp only[qA];unfold scanBound;lia) λh' tk _ ep t e T k=>?_;have kp:∀b o,s.heap.get? b=some o->h'.get? b=some o:=λb o q=>k b o (qp q) q;exact⟨.ref s.heap.objs.size,_,I.laid (t':=tk) kp (qd _) (bi.ok e T),U,q _ (I.hok.fresh (qd _))⟩
theorem jf(f:X.calm=true):bf X (.builtin "sorted") (λxs H Q=>∃(p:Addr)(ys ds:LS),xs=[.ref p]/\H p=some (bi X.prog X.w p ys)/\(∀k∈ys,k∈ds)/\ds.length<64 /\
 ∀l zs,H l=none->zs.Nodup->(∀k,k∈zs↔k∈ys)->sortedS zs=true->Q (.ref l) (upd H l (.lst (zs.map V.str)))):=by
 intro _ s _ H xs us Q I r h;obtain⟨p,ys,ds,rfl,d,hd,_,q⟩:=h;obtain⟨u,rfl,g⟩:=cK r;cases g;obtain⟨⟨y,ep,t,e,T⟩,_,_⟩:=I.hok p _ d
 have few:y.size<64:=by
  have:=bX T.nd λx v=>hd x ((T.mem x).mp v);rw[q5,qL]at this;lia
 refine Aj (I.ok.hd f) e T few λA l n zs out hl i j nd m so b kp hg c=>?_;have z:zs.length<=sizeLine:=by rw[b];exact fits_of_scanBound T.few
 have J:=I.laid (t':=s.toks) (h':=A.heap) (a:=l) (o:=.lst (zs.map V.str)) kp hl ⟨by rwa[q5],out,n,kB j,i⟩;exact⟨.ref l,_,Inv.redrawn (s:=s) J hg c,U,q l zs (I.hok.fresh hl) nd m so⟩
theorem xU{xs:LV}{g:TG}{f:LV->Hp->Prop}(c:Nat->LV->St->Hp->Prop)(h0:c 0 [] O H)(hz:∀i ys O H,i<=xs.length->c i ys O H->ys.length<=i)(l:xs.length<=sizeLine)(hl:∀i ys O H,c i ys O H->SqT K H a xs)
 (j:∀i x ys O H,xs[i]?=some x->c i ys O H->g x O H λd H2=>tt d H2 λb h=>if b=true then te d h λy H4=>c (i+1) (ys++[y]) d H4 else c (i+1) ys d h)
 (hd:∀ys O H,c xs.length ys O H->f ys H):∃W:Nat->Nat->LV->St->Hp->Prop,(∃m,W 0 m [] O H)/\gp (Itt K a) g tt te f W:=by
 exists λi m ys O H=>m=xs.length-i/\i<=xs.length/\c i ys O H,⟨_,U,qr _,h0⟩;rintro i m ys O H ⟨rfl,hi,p⟩;have few:=hz i ys O H hi p;have q:=hl i ys O H p;by_cases lt:i<xs.length
 .refine .inr ⟨⟨xs,xs[i],q,by simp[lt]⟩,Yo,c (i+1),λ_ _ H' k=>⟨_,Yo,U,lt,k⟩,λv H' y=>?_⟩;obtain⟨e,y⟩:=y;subst e;exact j i v ys O _ (y xs q) p
 .obtain rfl:i=xs.length:=by lia
  exact .inl ⟨⟨xs,q,qd _⟩,Yo,hd ys O H p⟩
theorem bK{b:Bool}{A B:Prop}(h:b=true)(x:A):if b=true then A else B:=by rwa[Q0 h]
theorem bn{b:Bool}{A B:Prop}(h:b=false)(x:B):if b=true then A else B:=by rw[qZ (by rw[h];decide)];exact x
end L2
namespace Tr
open PySem PySem.Spec PyProof.Rows L2
inductive Val
 |num (n:Int)
 |nm (x:Str)
inductive aa
 |set (x:Str) (a:Val) (sg:Str) (b:Val)
 |put (q x:Str)
 |get (q x:Str)
 |give (x:Str)
 |cond (x:Str) (t o:List aa)
 |whl (x:Str) (b:List aa)
 |rep (n:Int) (b:List aa)
noncomputable def Val.names:Val->LS
 |.num _=>[]
 |.nm x=>[x]
noncomputable def aa.names:aa->LS
 |.set x a _ b=>x::(a.names++b.names)
 |.put _ x|.get _ x|.give x|.cond x _ _|.whl x _=>[x]
 |.rep _ _=>[]
noncomputable def aa.inner:aa->List (List aa)
 |.cond _ t o=>[t,o]
 |.whl _ b|.rep _ b=>[b]
 |_=>[]
noncomputable def aa.others:aa->LS
 |.put q _=>[q++(">":Str)]
 |.get q _=>[q++("<":Str)]
 |.give _|.whl _ _=>[(">":Str)]
 |_=>[]
mutual
noncomputable def aa.flat:aa->List aa
 |.cond x t o=>.cond x t o::(ai t++ai o)
 |.whl x b=>.whl x b::ai b
 |.rep n b=>.rep n b::ai b
 |.set x a sg b=>[.set x a sg b]
 |.put q x=>[.put q x]
 |.get q x=>[.get q x]
 |.give x=>[.give x]
noncomputable def ai:List aa->List aa
 |[]=>[]
 |d::r=>d.flat++ai r
end
mutual
noncomputable def aa.depth:aa->Nat
 |.cond _ t o=>max (aA t) (aA o)+1
 |.whl _ b=>aA b+1
 |.rep _ b=>aA b+1
 |_=>0
noncomputable def aA:List aa->Nat
 |[]=>0
 |d::r=>max d.depth (aA r)
end
noncomputable def aa.cards(d:aa):LS:=d.names++d.others
noncomputable def cards(b:List aa):LS:=(ai b).flatMap aa.cards
theorem dk:∀(a b:List aa),ai (a++b)=ai a++ai b
 |[],b=>rfl
 |d::a,b=>by rw[Qm,ai,ai,dk a b,qM]
theorem y7(a b:List aa):cards (a++b)=cards a++cards b:=by unfold cards;rw[dk,qU]
theorem fX:∀(a b:List aa),aA (a++b)=max (aA a) (aA b)
 |[],b=>by rw[Ql,aA,Nat.zero_max]
 |d::a,b=>by rw[Qm,aA,aA,fX a b,Nat.max_assoc]
theorem dE(d:aa):d.flat=d::d.inner.flatMap ai:=by
 cases d<;>simp[aa.flat,aa.inner]
theorem cB(d:aa):cards [d]=d.cards++d.inner.flatMap cards:=by
 unfold cards;rw[ai,ai,qw,dE,qE]
 congr 1
 rw[List.flatMap_assoc]
inductive Op
 |root
 |ifT (x:Str)
 |ifO (x:Str) (t:List aa)
 |whl (x:Str)
 |rep (n:Int)
structure Fr where
 op:Op
 ds:List aa
 shut:Bool
 times:Int
noncomputable def Fr.deed(f:Fr):aa:=match f.op with
 |.root=>.rep 0 f.ds
 |.ifT x=>.cond x f.ds []
 |.ifO x t=>.cond x t f.ds
 |.whl x=>.whl x f.ds
 |.rep n=>.rep n f.ds
def Fr.add(g:Fr)(d:aa):Fr:={ g with ds:=g.ds++[d] }
noncomputable def lJ:List Fr->List Fr
 |f::g::r=>g.add f.deed::r
 |st=>st
noncomputable def Op.extra:Op->List aa
 |.ifO _ t=>t
 |_=>[]
noncomputable def Op.one:Op->Nat
 |.root=>0
 |_=>1
noncomputable def cnt:List Fr->Nat
 |[]=>0
 |f::r=>(ai f.ds).length+(ai f.op.extra).length+f.op.one+cnt r
theorem xJ(f:Fr):aA [f.deed]<=max (aA f.ds) (aA f.op.extra)+1:=by
 unfold Fr.deed;cases e:f.op<;>simp only[aA,aa.depth,Op.extra]<;>lia
theorem xK{f:Fr}(h0:f.op≠.root):(ai [f.deed]).length<=(ai f.ds).length+(ai f.op.extra).length+f.op.one:=by
 unfold Fr.deed
 cases e:f.op with
 |root=>exact Q5 e h0
 |_=>simp[ai,aa.flat,Op.extra,Op.one]<;>lia
theorem xY(g:Fr)(r:List Fr)(d:aa):cnt (g.add d::r)=cnt (g::r)+(ai [d]).length:=by
 simp only[cnt,Fr.add,dk,qa];lia
theorem FC{f g:Fr}{r:List Fr}(h0:f.op≠.root):cnt (lJ (f::g::r))<=cnt (f::g::r):=by
 show cnt (g.add f.deed::r)<=_;rw[xY];have:=xK h0;simp only[cnt];lia
noncomputable def Val.v:Val->V
 |.num n=>.int n
 |.nm x=>.str x
mutual
inductive RD(H:Hp):V->aa->Prop
 |set {p:Addr}{x:Str}{a:Val}{sg:Str}{b:Val}:H p=some (.tup [.str "set",.str x,a.v,.str sg,b.v])->RD H (.ref p) (.set x a sg b)
 |put {p:Addr}{q x:Str}:H p=some (.tup [.str "put",.str q,.str x])->RD H (.ref p) (.put q x)
 |get {p:Addr}{q x:Str}:H p=some (.tup [.str "get",.str q,.str x])->RD H (.ref p) (.get q x)
 |give {p:Addr}{x:Str}:H p=some (.tup [.str "give",.str x])->RD H (.ref p) (.give x)
 |cond {p t o:Addr}{x:Str}{ts os:List aa}:H p=some (.tup [.str "if",.str x,.ref t,.ref o])->RL H t ts->RL H o os->RD H (.ref p) (.cond x ts os)
 |whl {p b:Addr}{x:Str}{bs:List aa}:H p=some (.tup [.str "while",.str x,.ref b])->RL H b bs->RD H (.ref p) (.whl x bs)
 |rep {p b:Addr}{n:Int}{bs:List aa}:H p=some (.tup [.str "repeat",.int n,.ref b])->RL H b bs->RD H (.ref p) (.rep n bs)
inductive RL(H:Hp):Addr->List aa->Prop
 |mk {l:Addr}{vs:LV}{ds:List aa}:H l=some (.lst vs)->RDs H vs ds->RL H l ds
inductive RDs(H:Hp):LV->List aa->Prop
 |nil:RDs H [] []
 |cons {v:V}{vs:LV}{d:aa}{ds:List aa}:RD H v d->RDs H vs ds->RDs H (v::vs) (d::ds)
end
mutual
theorem RD.same{H H':Hp}(e:a9 H H'):∀{v:V}{d:aa},RD H v d->RD H' v d
 |_,_,.set h=>.set (e _ _ h)
 |_,_,.put h=>.put (e _ _ h)
 |_,_,.get h=>.get (e _ _ h)
 |_,_,.give h=>.give (e _ _ h)
 |_,_,.cond h a b=>.cond (e _ _ h) (RL.same e a) (RL.same e b)
 |_,_,.whl h a=>.whl (e _ _ h) (RL.same e a)
 |_,_,.rep h a=>.rep (e _ _ h) (RL.same e a)
theorem RL.same{H H':Hp}(e:a9 H H'):∀{l:Addr}{ds:List aa},RL H l ds->RL H' l ds
 |_,_,.mk h a=>.mk (e _ _ h) (RDs.same e a)
theorem RDs.same{H H':Hp}(e:a9 H H'):∀{vs:LV}{ds:List aa},RDs H vs ds->RDs H' vs ds
 |_,_,.nil=>.nil
 |_,_,.cons a b=>.cons (RD.same e a) (RDs.same e b)
end
theorem RDs.app{H:Hp}:∀{us vs:LV}{a b:List aa},RDs H us a->RDs H vs b->RDs H (us++vs) (a++b)
 |_,_,_,_,.nil,h=>h
 |_,_,_,_,.cons x r,h=>.cons x (RDs.app r h)
theorem RDs.len{H:Hp}:∀{vs:LV}{ds:List aa},RDs H vs ds->vs.length=ds.length
 |_,_,.nil=>rfl
 |_,_,.cons _ r=>by rw[qz,qz,RDs.len r]
theorem RDs.at{H:Hp}:∀{vs:LV}{ds:List aa},RDs H vs ds->∀(i:Nat)(v:V),vs[i]?=some v->∃d,ds[i]?=some d/\RD H v d
 |_,_,.nil,i,v,h=>by simp at h
 |_,_,.cons x r,0,v,h=>by simp at h;subst h;exact⟨_,U,x⟩
 |_,_,.cons x r,i+1,v,h=>by
  simp only[List.getElem?_cons_succ]at h ⊢;exact RDs.at r i v h
inductive RLs(H:Hp):LK->List (List aa)->Prop
 |nil:RLs H [] []
 |cons {l:Addr}{ls:LK}{d:List aa}{ds:List (List aa)}:RL H l d->RLs H ls ds->RLs H (l::ls) (d::ds)
theorem RLs.same{H H':Hp}(e:a9 H H'):∀{ls:LK}{ds:List (List aa)},RLs H ls ds->RLs H' ls ds
 |_,_,.nil=>.nil
 |_,_,.cons a b=>.cons (RL.same e a) (RLs.same e b)
theorem RLs.len{H:Hp}:∀{ls:LK}{ds:List (List aa)},RLs H ls ds->ls.length=ds.length
 |_,_,.nil=>rfl
 |_,_,.cons _ r=>by rw[qz,qz,RLs.len r]
theorem RLs.at{H:Hp}:∀{ls:LK}{ds:List (List aa)},RLs H ls ds->∀(i:Nat)(l:Addr),ls[i]?=some l->∃d,ds[i]?=some d/\RL H l d
 |_,_,.nil,i,v,h=>by simp at h
 |_,_,.cons x r,0,v,h=>by simp at h;subst h;exact⟨_,U,x⟩
 |_,_,.cons x r,i+1,v,h=>by
  simp only[List.getElem?_cons_succ]at h ⊢;exact RLs.at r i v h
theorem iN:∀(r:LS)(x:Str),risingS x r=true->∀y∈r,x.cps.toList<=y.cps.toList
 |[],_,_,_,h=>nomatch h
 |z::r,x,h,y,a=>by
  have h':(!ltCps z.cps.toList x.cps.toList && risingS z r)=true:=h;rw[Bool.and_eq_true,Bool.not_eq_true',ltCps_eq,decide_eq_false_iff_not]at h';have b:x.cps.toList<=z.cps.toList:=List.not_lt.mp h'.1;rcases qt.mp a with rfl|a
  .exact b
  .exact List.le_trans b (iN r z h'.2 y a)
theorem jZ:∀{r:LS},risingS x r=true->sortedS r=true
 |[],_=>rfl
 |z::r,h=>by
  have h':(!ltCps z.cps.toList x.cps.toList && risingS z r)=true:=h;exact(Bool.and_eq_true_iff.mp h').2
theorem sW{y:Str}(h:x.cps.toList=y.cps.toList):x=y:=PyProof.Rows.ext_toList h
theorem mE:∀{a b:LS},a.Nodup->b.Nodup->sortedS a=true->sortedS b=true->(∀k,k∈a↔k∈b)->a=b
 |[],[],_,_,_,_,_=>rfl
 |[],y::s,_,_,_,_,h=>Q5 ((h y).mpr qk) (by simp)
 |x::r,[],_,_,_,_,h=>Q5 ((h x).mp qk) (by simp)
 |x::r,y::s,ha,hb,sa,sb,h=>by
  have d:=List.nodup_cons.mp ha;have c:=List.nodup_cons.mp hb
  have e:x=y:=by
   rcases qt.mp ((h x).mp qk)with e|g
   .exact e
   rcases qt.mp ((h y).mpr qk)with e|f
   .exact e.symm
   exact sW (List.le_antisymm (iN r x sa y f) (iN s y sb x g))
  subst e;rw[mE d.2 c.2 (jZ sa) (jZ sb) λk=>?_];constructor
  .intro hk;rcases qt.mp ((h k).mp (qj _ hk))with e|z
   .subst e;exact Q5 hk d.1
   .exact z
  .intro hk;rcases qt.mp ((h k).mpr (qj _ hk))with e|z
   .subst e;exact Q5 hk c.1
   .exact z
end Tr
variable {ds:List Tr.aa}{d:Tr.aa}
abbrev LA:=List Tr.aa
namespace Tr
open PySem PySem.Spec PyProof.Rows L2
theorem a9.over{o:HO}(h:a9 H0 H)(a:H0 f=none):a9 H0 (upd H f o):=λb u q=>by
 rw[au (bP q a)];exact h b u q
theorem a9.none(h:a9 H0 H)(a:H f=none):H0 f=none:=by
 cases q:H0 f with
 |none=>rfl
 |some o=>rw[h _ _ q]at a;cases a
structure Fz where
 f:Fr
 c:Addr
 p:Addr
 e:Addr
noncomputable def Fz.tupV(x:Fz):LV:=match x.f.op with
 |.root=>[]
 |.ifT n=>[.str "if",.str n,.ref x.c,.ref x.e]
 |.ifO n _=>[.str "if",.str n,.ref x.e,.ref x.c]
 |.whl n=>[.str "while",.str n,.ref x.c]
 |.rep n=>[.str "repeat",.int n,.ref x.c]
noncomputable def Fz.o(x:Fz):V:=match x.f.op with
 |.ifT _=>.ref x.e
 |_=>.non
noncomputable def Fz.muts(x:Fz):LK:=match x.f.op with
 |.ifT _=>[x.c,x.e]
 |_=>[x.c]
def Fz.side(x:Fz)(H0 H:Hp):Prop:=match x.f.op with
 |.ifT _=>H x.e=some (.lst [])
 |.ifO _ t=>RL H0 x.e t
 |_=>True
def ZR(H0 H:Hp):List Fz->LV->Prop
 |[],_=>False
 |x::r,tl=>(∃vs,H x.c=some (.lst (vs++tl))/\RDs H0 vs x.f.ds)/\x.side H0 H/\((x.f.op=.root/\r=[])\/(x.f.op≠.root/\H x.p=some (.tup x.tupV)/\ZR H0 H r [.ref x.p]))
theorem Fz.c_mem(x:Fz):x.c∈x.muts:=by unfold Fz.muts;split<;>simp
theorem ZR.frame{c H H':Hp}:∀{z:List Fz}{tl:LV},ZR c H z tl->(∀m∈z.flatMap Fz.muts,H' m=H m)->(∀p xs,H p=some (.tup xs)->H' p=some (.tup xs))->ZR c H' z tl
 |[],_,h,_,_=>h
 |x::r,tl,⟨⟨vs,h1,h2⟩,h3,b⟩,hm,ht=>by
  have d:∀m∈x.muts,H' m=H m:=λm a=>hm m (by simp[a]);have f:∀m∈r.flatMap Fz.muts,H' m=H m:=λm a=>hm m (by rw[qE];exact qH _ a);refine⟨⟨vs,by rwa[d _ x.c_mem],h2⟩,?_,?_⟩
  .unfold Fz.side at h3 ⊢;split
   .rename_i e;rw[e]at h3;rw[d x.e (by unfold Fz.muts;rw[e];simp)];exact h3
   .rename_i e;rw[e]at h3;exact h3
   .trivial
  .rcases b with b|⟨b,g,i⟩
   .exact .inl b
   .exact .inr ⟨b,ht _ _ g,ZR.frame i f ht⟩
theorem ZR.grow{d c H:Hp}(e:a9 d c):∀{z:List Fz}{tl:LV},ZR d H z tl->ZR c H z tl
 |[],_,h=>h
 |x::r,tl,⟨⟨vs,h1,h2⟩,a,b⟩=>by
  refine⟨⟨vs,h1,h2.same e⟩,?_,?_⟩
  .unfold Fz.side at a ⊢
   revert a
   cases x.f.op<;>intro a<;>first|exact a|exact RL.same e a
  .rcases b with b|⟨b,g,i⟩
   .exact .inl b
   .exact .inr ⟨b,g,ZR.grow e i⟩
noncomputable def wh:List Fr->LA->LA
 |[],_=>[]
 |[f],dt=>f.ds++dt
 |f::g::r,dt=>wh (g::r) [({ f with ds:=f.ds++dt }:Fr).deed]
noncomputable def ii:List Fz->Addr
 |[]=>0
 |[x]=>x.c
 |_::y::r=>ii (y::r)
theorem ZR.whole{g H:Hp}(e:a9 g H):∀{z:List Fz}{tl:LV}{b:LA},ZR g H z tl->RDs H tl b->RL H (ii z) (wh (z.map (·.f)) b)
 |[],_,_,h,_=>h.elim
 |[x],tl,b,⟨⟨vs,h1,h2⟩,_,_⟩,ht=>.mk h1 ((h2.same e).app ht)
 |x::y::r,tl,b,⟨⟨vs,h1,h2⟩,h3,d⟩,ht=>by
  rcases d with⟨_,d⟩|⟨d,a,i⟩
  .cases d
  refine ZR.whole (z:=y::r) e i (.cons ?_ .nil);have hl:RL H x.c (x.f.ds++b):=.mk h1 ((h2.same e).app ht);unfold Fz.tupV at a;unfold Fz.side at h3;unfold Fr.deed
  cases q:x.f.op with
  |root=>exact Q5 q d
  |ifT n=>
   rw[q]at a h3;exact .cond a hl (.mk h3 .nil)
  |ifO n t=>
   rw[q]at a h3;exact .cond a (RL.same e h3) hl
  |whl n=>
   rw[q]at a;exact .whl a hl
  |rep n=>
   rw[q]at a;exact .rep a hl
section
variable {Hb H1:Hp}{S s0 s1 s2 s3:Addr}{z:List Fz}
theorem ZR.lsts{e:LV}:∀{z:List Fz},ZR H0 H z e->∀m∈z.flatMap Fz.muts,∃vs,H m=some (.lst vs):=by
 intro z
 induction z generalizing e with
 |nil=>intro h;exact h.elim
 |cons x r f=>
  rintro⟨⟨vs,d,_⟩,b,c⟩ m a;rw[qE]at a;rcases qg.mp a with a|a
  .unfold Fz.muts at a;unfold Fz.side at b;split at a<;>rename_i q
   .rw[q]at b;simp at a;rcases a with rfl|rfl
    .exact⟨_,d⟩
    .exact⟨_,b⟩
   .simp at a;subst a;exact⟨_,d⟩
  .rcases c with⟨_,c⟩|⟨_,_,g⟩
   .subst c;simp at a
   .exact f g m a
end
end Tr
variable {r:List Tr.Fz}
abbrev LQ:=List Tr.Fz
namespace Tr
open PySem PySem.Spec PyProof.Rows L2
section
variable {Hb H1:Hp}{S s0 s1 s2 s3:Addr}{z:LQ}
theorem dF{p m:Addr}{xs vs:LV}(b:H p=some (.tup xs))(a:H m=some (.lst vs)):p≠m:=vY b a (by intro z;cases z)
theorem eE{x:Fz}:x.c∈(x::r).flatMap Fz.muts:=by rw[qE];exact qV _ x.c_mem
theorem p7{x:Fz}{m:Addr}(h:m∈r.flatMap Fz.muts):m∈(x::r).flatMap Fz.muts:=by rw[qE];exact qH _ h
theorem ya{x:Fz}(nd:((x::r).flatMap Fz.muts).Nodup){m:Addr}(h:m∈r.flatMap Fz.muts):m≠x.c:=by
 rw[qE]at nd;intro e;exact(List.nodup_append.mp nd).2.2 x.c x.c_mem m h e.symm
theorem mI{x:Fz}(nd:((x::r).flatMap Fz.muts).Nodup){n:Str}(q:x.f.op=.ifT n):x.e≠x.c/\x.e∈x.muts/\∀m∈r.flatMap Fz.muts,m≠x.e:=by
 rw[qE]at nd;have h:=List.nodup_append.mp nd;have e:x.muts=[x.c,x.e]:=by unfold Fz.muts;rw[q]
 rw[e]at h;refine⟨?_,by rw[e];simp,λm a z=>h.2.2 x.e (by simp) m a z.symm⟩;have:=h.1;simp at this;exact λz=>this z.symm
theorem ZR.rest{x:Fz}{i:LV}{o:HO}(zr:ZR H0 H (x::r) i)(nd:((x::r).flatMap Fz.muts).Nodup){vs:LV}(d:H x.c=some (.lst vs)):
 x.side H0 (upd H x.c o)/\((x.f.op=.root/\r=[])\/(x.f.op≠.root/\(upd H x.c o) x.p=some (.tup x.tupV)/\ZR H0 (upd H x.c o) r [.ref x.p])):=by
 obtain⟨_,a,b⟩:=zr;refine⟨?_,?_⟩
 .unfold Fz.side at a ⊢
  cases q:x.f.op with
  |ifT n=>
   rw[q]at a;show(upd H x.c o) x.e=some (.lst []);rwa[au (mI nd q).1]
  |ifO n t=>rw[q]at a;exact a
  |root=>trivial
  |whl n=>trivial
  |rep n=>trivial
 .rcases b with b|⟨b,g,k⟩
  .exact .inl b
  .refine .inr ⟨b,by rwa[au (dF g d)],k.frame (λm j=>au (ya nd j)) λp xs h=>by rwa[au (dF h d)]⟩
end
section
variable {Hb:Hp}{S s0 s1 s2 s3:Addr}{z:LQ}
end
section
variable {Hb H4:Hp}{S s0 s1 s2 s3:Addr}
theorem wA{l:List α}{v:α}:atI (l++[v]) (-1)=some v:=by
 unfold atI
 have e:ixN (l++[v]).length (-1)=some l.length:=by
  unfold ixN;simp;lia
 rw[e];simp
theorem j6{a:Type}{f:α->a}{x:α}{r:List α}:atI (((x::r).map f).reverse) (-1)=some (f x):=by
 rw[qR,List.reverse_cons];exact wA
end
theorem lG:∀ds:LA,ds.length<=(ai ds).length
 |[]=>qd _
 |d::r=>by
  have:=lG r;rw[ai,qa,qz,dE,qz];lia
theorem zB{f:Fr}{r:List Fr}:f.ds.length<=cnt (f::r):=by
 have:=lG f.ds;rw[cnt];lia
theorem yd{x a:Fz}(h:a.c=x.c):ii (a::r)=ii (x::r):=by
 cases r with
 |nil=>exact h
 |cons y r=>rfl
theorem wH{l:List α}{v:α}:ixN (l++[v]).length (-1)=some l.length:=by
 unfold ixN;simp;lia
end Tr
namespace Tr
theorem xH{a:Type}{f:α->a}{x:α}{r:List α}:(((x::r).map f).reverse).dropLast=(r.map f).reverse:=by
 rw[qR,List.reverse_cons,List.dropLast_concat]
theorem wz{a:Type}{f:α->a}{x:α}{r:List α}:(((x::r).map f).reverse)[(((x::r).map f).reverse).length-1]?=some (f x):=by
 rw[qR,List.reverse_cons];simp
end Tr
namespace Tr
open PySem PySem.Spec PyProof.Rows L2
noncomputable def aa.strs:aa->LS
 |.set x a sg b=>x::sg::(a.names++b.names)
 |.put q x|.get q x=>[q,x]
 |.give x|.cond x _ _|.whl x _=>[x]
 |.rep _ _=>[]
end Tr
namespace L2
open PySem PySem.Spec PyProof.Rows
theorem Ft{n:Nat}{g:TG}{d:LV->Hp->Prop}(a:Nat->LV->St->Hp->Prop)(h0:a 0 [] O H)(hz:∀i ys O H,i<=n->a i ys O H->ys.length<=i)(k:n<=sizeLine)
 (h:∀i ys O H,i<n->a i ys O H->g (.int i) O H λc H2=>tt c H2 λb f=>if b=true then te c f λy H4=>a (i+1) (ys++[y]) c H4 else a (i+1) ys c f)
 (hd:∀ys O H,a n ys O H->d ys H):∃W:Nat->Nat->LV->St->Hp->Prop,(∃m,W 0 m [] O H)/\gp (Itr 0 n) g tt te d W:=by
 exists λi m ys O H=>m=n-i/\i<=n/\a i ys O H,⟨_,U,qr _,h0⟩;rintro i m ys O H ⟨rfl,hi,p⟩;have few:=hz i ys O H hi p;by_cases lt:i<n
 .refine .inr ⟨lt,Yo,a (i+1),λ_ _ H' j=>⟨_,Yo,U,lt,j⟩,λv H' y=>?_⟩;obtain⟨e,y⟩:=y;rw[Int.zero_add]at y;subst e y;exact h i ys O _ lt p
 .obtain rfl:i=n:=by lia
  exact .inl ⟨qd _,Yo,hd ys O H p⟩
theorem lI{n:Nat}{g:TG}{b:LV->Hp->Prop}(a:Nat->LV->St->Hp->Prop)(h0:a 0 [] O H)(hz:∀i ys O H,i<=n->a i ys O H->ys.length<=i)(e:n<=sizeLine)
 (d:∀i ys O H,i<n->a i ys O H->g (.int i) O H λc H2=>te c H2 λy H4=>a (i+1) (ys++[y]) c H4)
 (hd:∀ys O H,a n ys O H->b ys H):∃W:Nat->Nat->LV->St->Hp->Prop,(∃m,W 0 m [] O H)/\gp (Itr 0 n) g gy te b W:=
 Ft a h0 hz e (λi ys O H lt p=>by
  rw[rS (N':=λ_ _ _=>True)]
  exact d i ys O H lt p) hd
theorem ic{xs:LV}{g:TG}{c:LV->Hp->Prop}(b:Nat->LV->St->Hp->Prop)(h0:b 0 [] O H)(hz:∀i ys O H,i<=xs.length->b i ys O H->ys.length<=i)(e:xs.length<=sizeLine)(hl:∀i ys O H,b i ys O H->SqL K H a xs)
 (f:∀i x ys O H,xs[i]?=some x->b i ys O H->g x O H λd H2=>te d H2 λy H4=>b (i+1) (ys++[y]) d H4)
 (hd:∀ys O H,b xs.length ys O H->c ys H):∃W:Nat->Nat->LV->St->Hp->Prop,(∃m,W 0 m [] O H)/\gp (Itl K a) g gy te c W:=
 xV b h0 hz e hl (λi x ys O H e p=>by
  rw[rS (N':=λ_ _ _=>True)]
  exact f i x ys O H e p) hd
end L2
namespace Tr
open PySem PySem.Spec PyProof.Rows L2
inductive RSs(H:Hp):LV->LG->Prop
 |nil:RSs H [] []
 |cons {p:Addr}{vs:LV}{q:Str}{n:Int}{ss:LG}:H p=some (.tup [.str q,.int n])->RSs H vs ss->RSs H (.ref p::vs) ((q,n)::ss)
theorem RSs.same{H H':Hp}(e:a9 H H'):∀{vs:LV}{ss:LG},RSs H vs ss->RSs H' vs ss
 |_,_,.nil=>.nil
 |_,_,.cons h r=>.cons (e _ _ h) (RSs.same e r)
theorem RSs.len{H:Hp}:∀{vs:LV}{ss:LG},RSs H vs ss->vs.length=ss.length
 |_,_,.nil=>rfl
 |_,_,.cons _ r=>congrArg (·+1) (RSs.len r)
theorem RSs.at{H:Hp}:∀{vs:LV}{ss:LG},RSs H vs ss->∀(i:Nat)(v:V),vs[i]?=some v->∃p q n,v=.ref p/\ss[i]?=some (q,n)/\H p=some (.tup [.str q,.int n])
 |_,_,.nil,i,v,h=>by simp at h
 |_,_,.cons (p:=p) (q:=q) (n:=n) h' r,0,v,h=>by
  simp at h;exact⟨p,q,n,h.symm,U,h'⟩
 |_,_,.cons h' r,i+1,v,h=>RSs.at r i v (by simpa using h)
theorem me{K:W.Frag}{H:Hp}:∀xs:LS,dv K H (xs.map V.str) (xs.map PyData.str)
 |[]=>.nil
 |x::r=>.cons (.str x) (me r)
theorem wx:∀xs:LS,(∀s∈xs,PyData.strOk s=true)->PyData.canLayAll0 (xs.map PyData.str)=true/\PyData.depthAll (xs.map PyData.str)<=1
 |[],_=>by simp[PyData.canLayAll0,PyData.depthAll]
 |x::r,h=>by
  have h1:=h x qk;have a:=wx r λs b=>h s (qj _ b);simp[PyData.canLayAll0,PyData.canLay0,PyData.depthAll,PyData.depth,h1,a]
structure RP(H:Hp)(p:Addr)(asks:LS)(ss:LG)(ds:LA)(la ls lb:Addr)(us:LV):Prop where
 top:H p=some (.tup [.ref la,.ref ls,.ref lb])
 as:H la=some (.lst (asks.map V.str))
 st:H ls=some (.lst us)
 ro:RSs H us ss
 bo:RL H lb ds
theorem RP.same{H H':Hp}{p:Addr}{a:LS}{ss:LG}{ds:LA}{la ls b:Addr}{us:LV}(e:a9 H H')(h:RP H p a ss ds la ls b us):RP H' p a ss ds la ls b us:=
 ⟨e _ _ h.top,e _ _ h.as,e _ _ h.st,h.ro.same e,RL.same e h.bo⟩
noncomputable def cF(B:LS)(ss:LG)(ds:LA):LS:=B++cards ds++[(">":Str)]++ss.flatMap λs=>[s.1++(">":Str),s.1++("<":Str)]
end Tr
namespace L2
open PySem
theorem jw(T:aQ P w es t ys){e:Int×Value}(a:e∈es.toList):∃k tk,e=(hashStr w k,.str k tk)/\k∈ys:=by
 obtain⟨⟨k,hk,b⟩,_⟩:=T.el e a;obtain⟨tk,c⟩:=Value.isStrOf_shape hk;refine⟨k,tk,Prod.ext b c,(T.mem k).mp (List.mem_map.mpr ⟨e,a,kT hk⟩)⟩
theorem uW{c:LK}{Q:Bool->Shared->Prop}(h:∀b∈c,∃es ep t ys,s.heap.get? b=some (aH es ep t)/\aQ P w es t ys)(q:Q true s):wpAny (model P w) A (setsQuiet c) Q E s:=by
 unfold setsQuiet;refine q4 (wpAny_forIn_list _ (λrest b d=>b.1=none/\s=d/\∀x∈rest,x∈c) _ ?_ ?_ c _ ⟨U,U,λ_ h=>h⟩)
 .rintro x rest b d ⟨hb,rfl,i⟩;obtain⟨es,ep,t,ys,j,T⟩:=h x (i x qk);refine q4 (eW j T.fit ?_);refine q4 (PySem.wpAny_forIn_array' _ (λrest b d=>b.1=none/\s=d/\∀e∈rest,e∈es.toList) _ ?_ ?_ es _ ⟨U,U,λ_ h=>h⟩)
  .rintro e _ b2 g ⟨a,rfl,f⟩;obtain⟨k,tk,rfl,_⟩:=jw T (f e qk);refine qc ⟨U,U,λz hz=>f z (qj _ hz)⟩
  .rintro⟨b1,b2⟩ g ⟨a,rfl,_⟩;dsimp only at a;subst a;refine qc ⟨U,U,λz hz=>i z (qj _ hz)⟩
 .rintro⟨b1,b2⟩ g ⟨a,rfl,_⟩;dsimp only at a;subst a;exact qc q
theorem sq{Q:Array (Int×Value)->Shared->Prop}(b:s.heap.get? a=some (aH es ep t))(T:aQ P w es t ys)
 (h:∀arr d,arr.toList.Perm es.toList->Q arr { s with drawn:=d }):wpAny (model P w) A (setWalk a) Q E s:=by
 unfold setWalk;refine q4 (qW b U T.fit ?_);dsimp only;refine q4 (eT ?_);by_cases hb:w.params.followText "set-order"=true
 .rw[Q0 hb];exact q4 (wpAny_askSetting (qc (h _ s.drawn (vA _ es))))
 .rw[qZ hb];show wpAny _ _ (if(!t.plain && decide (es.size > 1))=true then _ else _) _ _ _;split
  .refine q4 (ra es.size es.toList s _ (by simp) λzs d hp=>qc ?_);exact h _ d (by simpa using hp)
  .have hl:t.led=true:=by rw[T.led];simpa using hb
   show wpAny _ _ ((if(!t.led && decide (es.size > 1))=true then _ else _) >>= _) _ _ _;rw[hl];refine q4 ?_;simp only[Bool.not_true,Bool.false_and,Qk,if_false];exact qc (qc (h es s.drawn (.refl _)))
theorem AH:entryFor table "set.__sub__"=some Builtin.«frozenset.__sub__»:=entryFor_alias (id':="frozenset.__sub__") (by kernel_rfl) U Yd (by kernel_rfl)
theorem zD{l p:Bool}(T:aQ P w #[] t [])(hl:l=t.led):aQ P w #[] { t with led:=l,plain:=p } []:=
 ⟨T.el,T.nd,T.mem,T.few,T.fit,hl.trans T.led,λz=>Q5 z (Qc 0)⟩
theorem z9{o r:Addr}{j k:Nat}{m i:SetTable}{Q:Array (Int×Value)->Shared->Prop}(g:s.heap.get? a=some (aH es ep t))(T:aQ P w es t ys)
 (n:s.heap.get? o=some (aH es2 j m)) (p:aQ P w es2 m zs) (c:s.heap.get? r=some (aH #[] k i)) (e:aQ P w #[] i [])
 (h:∀arr h' d l f,arr.toList.Perm es.toList->Heap.SameBut r s.heap h'->h'.get? r=some (aH #[] l f)->aQ P w #[] f []->Q arr { s with heap:=h',drawn:=d }):wpAny (model P w) A (setWalkUnseen a [o,r] (some r)) Q E s:=by
 have old:∀arr d,arr.toList.Perm es.toList->Q arr { s with drawn:=d }:=λarr d hp=>h arr s.heap d k i hp (Heap.SameBut.refl r s.heap) c e;unfold setWalkUnseen;refine q4 (qW g U T.fit ?_);dsimp only;refine q4 (eT ?_);split
 .exact sq g T old
 .refine q4 (uW (λb hb=>?_) ?_)
  .simp only[qt,qQ,or_false]at hb;rcases hb with rfl|rfl|rfl
   .exact⟨_,_,_,_,g,T⟩
   .exact⟨_,_,_,_,n,p⟩
   .exact⟨_,_,_,_,c,e⟩
  .simp only[Bool.not_true,Qk,if_false];refine q4 (wpAny_rule ?_);refine q4 (qW c U e.fit ?_);dsimp only;split
   .refine q4 (wpAny_storeSet_of c U ?_ Yk);refine qc (h es _ s.drawn _ _ (.refl _) (Heap.SameBut.update _ r _) (fI (s:=s) c) (zD e ?_));rw[e.led,T.led];simp
   .exact qc (old es s.drawn (.refl _))
theorem ES{o:Addr}{k:Str}{tk:Tok}{Q:Option Nat->Shared->Prop}(b:s.heap.get? o=some (aH es ep t))(T:aQ P w es t zs)
 (h:∀r:Option Nat,r.isSome=decide (k∈zs)->Q r s):wpAny (model P w) A (setFind o (.str k tk) (hashStr w k)) Q E s:=by
 refine wpAny_setFind_of (knd:=strKind P w) (k:=k) (S:=λk=>decide (k∈zs)) (n:=es.size) (by show Value.isStrOf k (.str k tk)=true;simp[Value.isStrOf]) U ⟨_,es,ep,t,b,?_,U,T.el,λ_=>?_,T.few,T.fit,U⟩ h
 .exact⟨U,U,U⟩
 .rw[decide_eq_true_iff,<- T.mem,List.mem_map];constructor
  .rintro⟨e,a,rfl⟩;obtain⟨k,tk,rfl,_⟩:=jw T a;exact⟨_,a,by show Value.isStrOf k (.str k tk)=true;simp[Value.isStrOf]⟩
  .rintro⟨e,a,hk⟩;exact⟨e,a,kT hk⟩
theorem ip{v:Value}{Q:Bool->Shared->Prop}(ty:s.TypeIs v "set")(h:Q true s):wpAny (model P w) A (Builtin.Frozenset.isAnySet v) Q E s:=by
 unfold Builtin.Frozenset.isAnySet;exact q4 (wpAny_isInstance (b:=true) ty iH (qc h))
set_option maxHeartbeats 3200000 in
theorem A4{o:Addr}{Y:Nat}{Z:SetTable}(G:s.heap.get? a=some (aH es ep t))(T:aQ P w es t ys)
 (N:s.heap.get? o=some (aH es2 Y Z)) (R:aQ P w es2 Z zs) (few:es.size<4)
 (h:∀h' d es' i t',h'.get? s.heap.objs.size=some (aH es' i t')->aQ P w es' t' (ys.filter λk=>!decide (k∈zs))->
  (∀b f,s.heap.get? b=some f->h'.get? b=some f)->Q (.ref s.heap.objs.size) { s with heap:=h',drawn:=d }):wpAny (model P w) A (binaryOp .Sub (.ref a) (.ref o)) Q E s:=by
 have M:s.TypeIs (.ref a) "set":=⟨_,G,U⟩;have W:s.TypeIs (.ref o) "set":=⟨_,N,U⟩;have k1:=iH;refine wpAny_binaryOp_same (op:=.Sub) (T:="set") M W F.fills_set_sub F.slot_set_sub (Qj F.slot_set_sub M AH ?_ (F.args_set_sub_2 _ _));unfold Builtin.«frozenset.__sub__»;refine q4 (m:=Builtin.Frozenset.slot1 "__sub__" ⟨[.ref a,.ref o],[]⟩) (qc ?_);dsimp only;simp only[Qk,if_false];refine q4 (q4 (ip M (ip W ?_)));simp only[Bool.not_true,Qk,if_false];refine q4 (qc ?_);refine q4 ?_;unfold Builtin.Frozenset.difference;refine q4 (ip W ?_);simp only[Bool.not_true,Qk,if_false];refine q4 (qc ?_);simp only[Bool.false_and,Qk,if_false,if_true];unfold Builtin.Frozenset.sizeOf;refine q4 (q4 (eW N R.fit (qc ?_)));refine q4 (q4 (eW G T.fit (qc ?_)));rw[qZ Yo];unfold Builtin.Frozenset.baseOf;refine q4 (q4 (wpAny_isInstance (b:=true) M iH (qc ?_)));simp only[if_true];refine q4 ?_;unfold newSet;refine q4 (eT ?_);dsimp only;refine wpAny_newObj_type ?_;refine q4 (qc ?_);have I:∀b f,s.heap.get? b=some f->(s.heap.push (bB w)).get? b=some f:=λb f q=>q9 _ q;have gr:(s.heap.push (bB w)).get? s.heap.objs.size=some (bB w):=qo _ U;have K0:∀b f,s.heap.get? b=some f->b≠s.heap.objs.size:=λb f q=>qF (qp q);refine q4 (wpAny_setEpoch_of (s:={ s with heap:=s.heap.push (bB w) }) (I _ _ G) U T.fit ?_);refine q4 (Qv ?_);refine q4 (z9 (s:={ s with heap:=s.heap.push (bB w) }) (I _ _ G) T (I _ _ N) R gr jy λL h1 d er tr hp sb p Tr=>?_);refine q4 (PySem.wpAny_forIn_array' _ (λrest _ B=>∃j es' i t' c,c++rest=L.toList/\B={ s with heap:=j,drawn:=d }/\Heap.SameBut s.heap.objs.size (s.heap.push (bB w)) j/\j.get? s.heap.objs.size=some (aH es' i t')/\aQ P w es' t' ((c.map λe:Int×Value=>txt e.2).filter λk=>!decide (k∈zs))/\es'.size<=c.length) _ ?_ ?_ L _ ⟨h1,#[],er,tr,[],U,U,sb,p,Tr,qd _⟩)
 .rintro x rest b B ⟨j,es',i,t',c,n,rfl,y,C,g,X⟩;have xm:x∈es.toList:=hp.mem_iff.mp (by rw[<- n];simp);obtain⟨k,tk,rfl,_⟩:=jw T xm
  have pl:c.length+(rest.length+1)=es.size:=by
   have:=congrArg List.length n;rw[hp.length_eq]at this;simpa using this
  have V:∀b f,s.heap.get? b=some f->j.get? b=some f:=λb f q=>by
   rw[y.2 _ (K0 b f q)];exact I b f q
  refine q4 (Qv ?_);refine q4 (ES (s:={ s with heap:=j,drawn:=d }) (V _ _ N) R λr p=>?_);refine q4 (qc ?_);rw[p]
  have fin:∀u l v H,Heap.SameBut s.heap.objs.size (s.heap.push (bB w)) u->u.get? s.heap.objs.size=some (aH l v H)->aQ P w l H (((c++[(hashStr w k,Value.str k tk)]).map λe:Int×Value=>txt e.2).filter λk=>!decide (k∈zs))->l.size<=c.length+1->
   wpAny (model P w) A.in1 (do
    Builtin.Frozenset.unchanged (toString "frozenset."++toString "__sub__") a ep
    pure (ForInStep.yield PUnit.unit)) (λr B=>match r with
     |.yield b'=>∃j es' i t' c,c++rest=L.toList/\B={ s with heap:=j,drawn:=d }/\Heap.SameBut s.heap.objs.size (s.heap.push (bB w)) j/\j.get? s.heap.objs.size=some (aH es' i t')/\aQ P w es' t' ((c.map λe:Int×Value=>txt e.2).filter λk=>!decide (k∈zs))/\es'.size<=c.length
     |.done b'=>False) E { s with heap:=u,drawn:=d }:=λu l v H D J K S=>by
   unfold Builtin.Frozenset.unchanged;have g3:u.get? a=some (aH es ep t):=by rw[D.2 _ (K0 _ _ G)];exact I _ _ G
   refine q4 (q4 (wpAny_setEpoch_of (s:={ s with heap:=u,drawn:=d }) g3 U T.fit ?_));simp only[bne_self_eq_false,Qk,if_false];refine qc (qc ⟨u,l,v,H,c++[(hashStr w k,Value.str k tk)],by rw[<- n];simp,U,D,J,K,by simpa using S⟩)
  by_cases hk:k∈zs
  .rw[Q3 hk];simp only[Bool.not_true,Qk,if_false];refine qc (wpAny_mono (fin j es' i t' y C ?_ Yo) (λr B p=>?_) λ_ _ h=>h)
   .rw[qO,Qs];have:([(hashStr w k,Value.str k tk)].map λe:Int×Value=>txt e.2).filter (λk=>!decide (k∈zs))=[]:=by simp[txt,hk]
    rwa[this,qw]
   .cases r with
    |done _=>exact p.elim
    |yield _=>exact p
  .rw[Q4 hk];simp only[Bool.not_false,if_true];refine q4 (rP (s:={ s with heap:=j,drawn:=d }) C g (by unfold scanBound;lia) λb u l v H D J K _=>qc ?_);refine wpAny_mono (fin u l v H (y.trans D) J ?_ Yo) (λr B p=>?_) λ_ _ h=>h
   .rw[qO,Qs];have:([(hashStr w k,Value.str k tk)].map λe:Int×Value=>txt e.2).filter (λk=>!decide (k∈zs))=[k]:=by simp[txt,hk]
    rw[this];exact K
   .cases r with
    |done _=>exact p.elim
    |yield _=>exact p
 .rintro b B ⟨j,es',i,t',c,n,rfl,y,C,g,X⟩;rw[qw]at n;subst n;refine qc (qc (qc ⟨_,U,(λz=>by cases z),h j d es' i t' C ⟨g.el,g.nd,λk=>?_,g.few,g.fit,g.led,g.pl⟩ λb f q=>?_⟩))
  .rw[g.mem k,List.mem_filter,List.mem_filter,<- T.mem k];exact and_congr_left' ((hp.map λe:Int×Value=>txt e.2).mem_iff)
  .rw[y.2 _ (K0 b f q)];exact I b f q
end L2
namespace L2
open PySem PySem.Spec PyProof.Rows
def Bn(P:Program)(w:World):R2:=λx y H Q=>∃(a o:Addr)(ys zs:LS),x=.ref a/\y=.ref o/\H a=some (bi P w a ys)/\H o=some (bi P w o zs)/\ys.length<4/\∀p,H p=none->Q (.ref p) (upd H p (bi P w p (ys.filter λk=>!decide (k∈zs))))
theorem Cj:OpR X (binaryOp .Sub) (Bn X.prog X.w):=by
 intro _ s _ H x y v u Q I l f h;obtain⟨a,o,ys,zs,rfl,rfl,e,r,hz,q⟩:=h;cases l;cases f;obtain⟨⟨i,ep,t,j,b⟩,_,_⟩:=I.hok a _ e;obtain⟨⟨_,_,_,m,c⟩,_,_⟩:=I.hok o _ r
 have few:i.size<4:=by
  have:=bX b.nd λx n=>(b.mem x).mp n;rw[q5,qL]at this;lia
 refine A4 j b m c few λh' d es' _ t' g p old=>?_;have J:=I.laid (t':=s.toks) (h':=h') (a:=s.heap.objs.size) (o:=bi X.prog X.w s.heap.objs.size (ys.filter λk=>!decide (k∈zs))) old (qd _) (bi.ok g p);exact⟨.ref s.heap.objs.size,_,Inv.redrawn (s:=s) J U U,U,q _ (I.hok.fresh (qd _))⟩
end L2
namespace L2
theorem bp.one{n:Nat}{A:PySem.Around}(h:bp n A):A.units+1<PySem.cLine:=by
 have:=h.units;lia
end L2
namespace Tr
open PySem PySem.Spec PyProof.Rows L2
theorem mC:∀{a b:LS},a.Perm b->sortedS a=true->sortedS b=true->a=b
 |[],b,h,_,_=>(List.nil_perm.mp h).symm
 |x::r,[],h,_,_=>Q5 h.length_eq (by simp)
 |x::r,y::s,h,sa,sb=>by
  have e:x=y:=by
   rcases qt.mp (h.mem_iff.mp (qk (a:=x)))with e|d
   .exact e
   rcases qt.mp (h.mem_iff.mpr (qk (a:=y)))with e|c
   .exact e.symm
   exact sW (List.le_antisymm (iN r x sa y c) (iN s y sb x d))
  subst e;rw[mC ((List.perm_cons x).mp h) (jZ sa) (jZ sb)]
end Tr
namespace L2
open PySem PySem.Spec PyProof.Rows
end L2
namespace Tr
open PySem PySem.Spec PyProof.Rows L2
end Tr
namespace L2
open PySem PySem.Spec PyProof.Rows
section
variable {CX:CXT}{k:Nat}{E:XK}{m:Str}{p:Pos}{o:Expr}{es:LP}{t:TA}{ds:LL}
end
theorem iQ{f:Str}{v:V}:∀{fs:List (Str×V)}(ks:LS),fs.map (·.1)=ks->(ks.all λg=>!decide (g=f))=true->bW f v fs=fs++[(f,v)]
 |[],_,_,_=>rfl
 |(g,x)::r,ks,e,h=>by
  subst e;simp only[qR,List.all_cons,Bool.and_eq_true,Bool.not_eq_true',decide_eq_false_iff_not]at h;rw[bW,qZ h.1,iQ (r.map (·.1)) U h.2]
  rfl
theorem kJ{k:Str}{v:V}{r:List (Str×V)}:List.lookup k ((k,v)::r)=some v:=by simp[List.lookup]
theorem dQ{k g:Str}{v:V}{r:List (Str×V)}(h:(k == g)=false):List.lookup k ((g,v)::r)=List.lookup k r:=by simp[List.lookup,h]
theorem yo{xs:List α}{i:Int}{v:α}(h:0<=i)(e:xs[i.toNat]?=some v):atI xs i=some v:=by
 have:=gc (xs:=xs) (j:=i.toNat) (v:=v) e
 rwa [Int.toNat_of_nonneg h]at this
inductive bV(i:Nat)(O:St)(H:Hp)(Q:VK):Prop
 |mk (v:V) (h:O[i]?=some (some v)) (q:Q v H):bV i O H Q
theorem BE(i:Nat):bV i=sN i:=by
 funext O H Q
 exact propext ⟨λ⟨v,h,q⟩=>⟨v,h,q⟩,λ⟨v,h,q⟩=>⟨v,h,q⟩⟩
inductive qB(x:V)(H:Hp)(Q:Bool->Hp->Prop):Prop
 |mk (k:Bool) (h:x=.bl k) (q:Q k H):qB x H Q
theorem vk(Q:Bool->Hp->Prop):(λx H=>qB x H Q)=λx H=>∃k,x=V.bl k/\Q k H:=by
 funext x H
 exact propext ⟨λ⟨v,h,q⟩=>⟨v,h,q⟩,λ⟨v,h,q⟩=>⟨v,h,q⟩⟩
def gK(t:TE):TT:=λO H Q=>t O H λx H'=>qB x H' Q
theorem BI(t:TE):gK t=lY t:=by
 funext O H Q
 unfold gK lY;rw[vk]
theorem BH(t:TE):gK t=tB t:=by
 funext O H Q
 unfold gK tB;rw[vk]
inductive vo(x y:V)(H:Hp)(Q:VK):Prop
 |mk (i j:Int) (h1:x=.int i) (h2:y=.int j) (q:Q (.int (i+j)) H):vo x y H Q
inductive vc(x y:V)(H:Hp)(Q:VK):Prop
 |mk (i j:Int) (h1:x=.int i) (h2:y=.int j) (q:Q (.int (i-j)) H):vc x y H Q
inductive vi(x y:V)(H:Hp)(Q:VK):Prop
 |mk (i j:Int) (h1:x=.int i) (h2:y=.int j) (c:0<j/\j<1073741824) (q:Q (.int (i / j)) H):vi x y H Q
inductive vd(x y:V)(H:Hp)(Q:VK):Prop
 |mk (i j:Int) (h1:x=.int i) (h2:y=.int j) (c:0<j) (q:Q (.int (i % j)) H):vd x y H Q
inductive qLt(x y:V)(H:Hp)(Q:VK):Prop
 |mk (i j:Int) (h1:x=.int i) (h2:y=.int j) (q:Q (.bl (decide (i<j))) H):qLt x y H Q
inductive qGt(x y:V)(H:Hp)(Q:VK):Prop
 |mk (i j:Int) (h1:x=.int i) (h2:y=.int j) (q:Q (.bl (decide (j<i))) H):qGt x y H Q
inductive qEq(x y:V)(H:Hp)(Q:VK):Prop
 |mk (c:jK x y=true) (q:Q (.bl (decide (x=y))) H):qEq x y H Q
inductive qNe(x y:V)(H:Hp)(Q:VK):Prop
 |mk (c:jK x y=true) (q:Q (.bl (!decide (x=y))) H):qNe x y H Q
inductive vh(x y:V)(H:Hp)(Q:VK):Prop
 |mk (c:y=.non) (q:Q (.bl (decide (x=.non))) H):vh x y H Q
inductive oA(K:W.Frag)(x y:V)(H:Hp)(Q:VK):Prop
 |mk (p:Addr) (xs:LV) (i:Int) (v:V) (h1:x=.ref p) (h2:y=.int i) (h3:SqL K H p xs) (h4:atI xs i=some v) (q:Q v H):oA K x y H Q
inductive oz(K:W.Frag)(x y:V)(H:Hp)(Q:VK):Prop
 |mk (p:Addr) (xs:LV) (i:Int) (v:V) (h1:x=.ref p) (h2:y=.int i) (h3:SqT K H p xs) (h4:atI xs i=some v) (q:Q v H):oz K x y H Q
inductive vn(x y:V)(H:Hp)(Q:VK):Prop
 |mk (i j:Str) (h1:x=.str i) (h2:y=.str j) (c:i.length+j.length<=sizeLine) (q:Q (.str (i++j)) H):vn x y H Q
inductive vg(K:W.Frag)(xs:LV)(H:Hp)(Q:VK):Prop
 |mk (p:Addr) (ys:LV) (h1:xs=[.ref p]) (h2:SqL K H p ys\/SqT K H p ys) (q:Q (.int ys.length) H):vg K xs H Q
inductive oB(K:W.Frag)(xs:LV)(H:Hp)(Q:VK):Prop
 |mk (x:V) (t:Value) (T:String) (b:Bool) (h1:xs=[x,.ty T]) (h2:cI K H x t) (h3:PySem.W.kitOne K t (.type T)=some b) (q:Q (.bl b) H):oB K xs H Q
inductive vf(K:W.Frag)(xs:LV)(H:Hp)(Q:VK):Prop
 |mk (p:Addr) (ys:LV) (h1:xs=[.ref p]) (h2:SqL K H p ys\/SqT K H p ys) (q:∀l,H l=none->Q (.ref l) (upd H l (.lst ys))):vf K xs H Q
inductive vm(x:V)(vs:LV)(H:Hp)(Q:VK):Prop
 |mk (l:Addr) (xs:LV) (y:V) (h1:x=.ref l) (h2:vs=[y]) (h3:H l=some (.lst xs)) (h4:xs.length<sizeLine) (q:Q .non (upd H l (.lst (xs++[y])))):vm x vs H Q
inductive vj(K:W.Frag)(x y:V)(H:Hp)(Q:VK):Prop
 |mk (l b:Addr) (xs zs:LV) (h1:x=.ref l) (h2:y=.ref b) (h3:SqL K H l xs) (h4:SqL K H b zs) (h5:xs.length+zs.length<=sizeLine) (q:∀p,H p=none->Q (.ref p) (upd H p (.lst (xs++zs)))):vj K x y H Q
inductive iP(A B:Prop):Prop
 |mk (h:A) (q:B):iP A B
theorem oF(A B:Prop):iP A B=(A/\B):=propext ⟨λ⟨a,b⟩=>⟨a,b⟩,λ⟨a,b⟩=>⟨a,b⟩⟩
theorem pq(i:Nat)(b:X.N[i]?=some x:=by rfl)(c:Vis X.env.scope x:=by first|exact Or.inl U|exact Or.inr Oi|exact Or.inr (Or.inr U))(hd:(x == ("__debug__":Str))=false:=by decide)
 (a:(x == ("__classdict__":Str))=false:=by decide):PE X (.Name x pos) (bV i):=by
 rw[BE];exact C5 b c hd a
theorem aI{op:CmpOp}{r:R2}{a b:Expr}{c:TE}(e:OpR X (compareOp op) r)(ha:PE X a ta)(hb:PE X b c)(d:behindInMarks op b=false):PT X (.Compare a [op] [b] pos) (gK (tOp r ta c)):=by
 rw[BI];exact BU e ha hb d
theorem gL{t:TE}(h:PE X e t)(a:∀whole,isTrue e X.env whole=(do let v <- whole;standAt e.pos;holding [v] (truthy v)):=by intro _;rfl):PT X e (gK t):=by
 rw[BH];exact BR h a
theorem OpR.as{f:Value->Value->Sem Value}{r b:R2}(h:OpR X f r)(e:∀x y H Q,b x y H Q->r x y H Q):OpR X f b:=λa s d H x y v u Q I c g q=>h a s d H x y v u Q I c g (e _ _ _ _ q)
theorem bf.as{f:Value}{r:LV->Hp->VK->Prop}(h:bf X f r)(e:∀x H Q,r' x H Q->r x H Q):bf X f r':=λa s c H x u Q I b q=>h a s c H x u Q I b (e _ _ _ q)
theorem IxR.as{r d:R2}(h:IxR X r)(e:∀x y H Q,d x y H Q->r x y H Q):IxR X d:=λa b c s g H x y v u Q I f i q=>h a b c s g H x y v u Q I f i (e _ _ _ _ q)
theorem iO:OpR X (binaryOp .Add) vo:=Di.as λ_ _ _ _ ⟨i,j,a,b,q⟩=>⟨i,j,a,b,q⟩
theorem oq:OpR X (binaryOp .Sub) vc:=Dd.as λ_ _ _ _ ⟨i,j,a,b,q⟩=>⟨i,j,a,b,q⟩
theorem eZ:OpR X (binaryOp .FloorDiv) vi:=Dh.as λ_ _ _ _ ⟨i,j,a,b,c,q⟩=>⟨i,j,a,b,c,q⟩
theorem bT:OpR X (binaryOp .Mod) vd:=De.as λ_ _ _ _ ⟨i,j,a,b,c,q⟩=>⟨i,j,a,b,c,q⟩
theorem ke:OpR X (compareOp .Lt) qLt:=Df.as λ_ _ _ _ ⟨i,j,a,b,q⟩=>⟨i,j,a,b,q⟩
theorem kf:OpR X (compareOp .Gt) qGt:=Dg.as λ_ _ _ _ ⟨i,j,a,b,q⟩=>⟨i,j,a,b,q⟩
theorem aZ:OpR X (compareOp .Eq) qEq:=CA.as λ_ _ _ _ ⟨c,q⟩=>⟨c,q⟩
theorem uX:OpR X (compareOp .NotEq) qNe:=Cr.as λ_ _ _ _ ⟨c,q⟩=>⟨c,q⟩
theorem BD:OpR X (compareOp .Is) vh:=Cv.as λ_ _ _ _ ⟨c,q⟩=>⟨c,q⟩
theorem bY:OpR X (binaryOp .Add) vn:=CC.as λ_ _ _ _ ⟨i,j,a,b,c,q⟩=>⟨i,j,a,b,c,q⟩
theorem cQ:OpR X (binaryOp .Add) (vj X.K):=CB.as λ_ _ _ _ ⟨l,b,xs,zs,c,a,e,f,d,q⟩=>⟨l,b,xs,zs,c,a,e,f,d,q⟩
theorem bR:IxR X (oA X.K):=Eb.as λ_ _ _ _ ⟨p,xs,i,v,a,b,c,d,q⟩=>⟨p,xs,i,v,a,b,c,d,q⟩
theorem ar:IxR X (oz X.K):=Ea.as λ_ _ _ _ ⟨p,xs,i,v,a,b,c,d,q⟩=>⟨p,xs,i,v,a,b,c,d,q⟩
theorem uV(e:X.K=K):IxR X (oA K):=by
 subst e;exact bR
theorem uU(e:X.K=K):IxR X (oz K):=by
 subst e;exact ar
theorem cR:bf X (.builtin "len") (vg X.K):=FL.as λ_ _ _ ⟨p,ys,a,b,q⟩=>⟨p,ys,a,b,q⟩
theorem uZ:bf X (.builtin "isinstance") (oB X.K):=FN.as λ_ _ _ ⟨x,t,T,b,d,a,c,q⟩=>⟨x,t,T,b,d,a,c,q⟩
theorem uY(e:X.K=K):bf X (.builtin "isinstance") (oB K):=by
 subst e;exact uZ
theorem ou:bf X (.type "list") (vf X.K):=FK.as λ_ _ _ ⟨p,ys,a,b,q⟩=>⟨p,ys,a,b,q⟩
theorem bS:MtM X "list.append" vm:=λa s f H x xs v us Q I e b ⟨l,ys,y,d,c,g,h,q⟩=>Dz a s f H x xs v us Q I e b ⟨l,ys,y,d,c,g,h,q⟩
inductive oC(K:W.Frag)(f:Str)(x:V)(H:Hp)(Q:VK):Prop
 |mk (a C dx:Addr) (fs:List (Str×V)) (v:V) (h1:x=.ref a) (h2:H a=some (.ins C dx fs)) (h3:Cls K C) (h4:cU K C f) (h5:fs.lookup f=some v) (q:Q v H):oC K f x H Q
def oE(K:W.Frag)(ta:TE)(f:Str):TE:=λO H Q=>ta O H λx H1=>oC K f x H1 Q
theorem BL(K:W.Frag)(i:TE)(f:Str):oE K i f=jz K i f:=by
 funext O H Q
 unfold oE jz
 have:(λx b=>oC K f x b Q)=λx b=>∃a C dx fs v,x=V.ref a/\b a=some (.ins C dx fs)/\Cls K C/\cU K C f/\fs.lookup f=some v/\Q v b:=by
  funext x b
  exact propext ⟨λ⟨a,C,dx,fs,v,d,c,g,h,e,q⟩=>⟨a,C,dx,fs,v,d,c,g,h,e,q⟩,λ⟨a,C,dx,fs,v,d,c,g,h,e,q⟩=>⟨a,C,dx,fs,v,d,c,g,h,e,q⟩⟩
 rw[this]
theorem df{f:Str}(a:PE X e ta)(hb:attributeBase e f X.env (eval e X.env)=eval e X.env):PE X (.Attribute e f pos) (oE X.K ta f):=by
 rw[BL];exact vH a hb
def ox(t:TA):TE:=λO H Q=>t O H λxs H1=>iP (xs.length<=sizeLine) (∀p,H1 p=none->Q (.ref p) (upd H1 p (.tup xs)))
def kh(t:TA):TE:=λO H Q=>t O H λxs H1=>iP (xs.length<=sizeLine) (∀p,H1 p=none->Q (.ref p) (upd H1 p (.lst xs)))
theorem BF(t:TA):ox t=lX t:=by
 funext O H Q
 unfold ox lX;simp only[oF]
theorem BK(t:TA):kh t=ma t:=by
 funext O H Q
 unfold kh ma;simp only[oF]
theorem aS{b}{a:LP}{t:TA}(h:PA X a t):PE X (.Tuple a b pos) (ox t):=by
 rw[BF];exact C6 h
theorem aG{a:LP}{t:TA}(h:PA X a t):PE X (.List a pos) (kh t):=by
 rw[BK];exact C8 h
inductive oy(vs:LV)(H:Hp)(R:It->Hp->Prop):Prop
 |mk (j:Int) (h:vs=[.int j]) (h1:-(2 ^ 62)<=j) (h2:j<2 ^ 62) (q:R (Itr 0 j.toNat) H):oy vs H R
def pK(ta:TA):TI:=λO H R=>ta O H λvs H1=>oy vs H1 R
theorem E9(d:TA):pK d=pP d:=by
 funext O H R
 unfold pK pP
 have:(λvs a=>oy vs a R)=λvs a=>∃j:Int,vs=[V.int j]/\-(2 ^ 62)<=j/\j<2 ^ 62/\R (Itr 0 j.toNat) a:=by
  funext vs a
  exact propext ⟨λ⟨j,h,c,b,q⟩=>⟨j,h,c,b,q⟩,λ⟨j,h,c,b,q⟩=>⟨j,h,c,b,q⟩⟩
 rw[this]
theorem kr{a:Expr}{b:TA}{p:Pos}(hg:Gl X "range")(c:X.mg "range"=none)(ha:PA X [a] b)(d:starEach [a] X.env=[(false,eval a X.env)]:=by rfl):PI X tg (.Call (.Name "range" p) [a] [] pos) (pK b):=by
 rw[E9];exact C4 hg c ha d
def qBM(K:W.Frag)(T:String)(r:V->LV->Hp->VK->Prop)(to:TE)(t:TA):TE:=λO H Q=>to O H λx H1=>iP (tyV K T x H1) (t O H1 λxs H2=>r x xs H2 Q)
theorem BM(K:W.Frag)(T:String)(r:V->LV->Hp->VK->Prop)(a:TE)(t:TA):qBM K T r a t=tBM K T r a t:=by
 funext O H Q
 unfold qBM tBM;simp only[oF]
theorem b4{o:Expr}{a:LP}{h:TE}{t:TA}{T g:String}{r:V->LV->Hp->VK->Prop}(m:PlainAttrs T)(slot:Slot T name g)(i:typeOf (.builtin g)=pure (.type "method_descriptor"))(l:MtR X g r)(j:PE X o h)(ha:PA X (e::a) t)
 (d:attributeBase o name X.env (eval o X.env)=eval o X.env:=by rfl)
 (f:((backTo θ (starEach (e::a) X.env)).all (λx=>!x.1) && (backToKw θ (keywordEach [] X.env)).all (λx=>x.1.isSome)
  && decide ((e::a).length+([]:List Keyword).length+(if([]:List Keyword).isEmpty then 0 else 1)<30))=true:=by rfl)
 (c:(μ.endLine == θ.line)=true:=by rfl) (k:starEach (e::a) X.env=(false,eval e X.env)::starEach a X.env:=by rfl) (b:(backTo θ (starEach a X.env)).any (·.1)=false:=by rfl):
 PE X (.Call (.Attribute o name μ) (e::a) [] θ) (qBM X.K T r h t):=by
 rw[BM];exact Ce m slot i l j ha d f c k b
theorem sI{y:Hp}{k s:Shared}(f:Inv X ζ O y k):∀(a:LK)(ps:List (V×V))(H:Hp),Inv X ζ O H s->a.length=ps.length->a.Pairwise (·<·)->(∀t∈a,k.heap.objs.size<=t/\H t=none)->
 (∀(j:Nat)(t:Addr)(p:V×V),a[j]?=some t->ps[j]?=some p->∃u v,aC p.1 u/\aC p.2 v/\IsPair s.heap t u v)->
 ∃H',Inv X ζ O H' s/\a9 H H'/\(∀b,b∉a->H' b=H b)/\∀(j:Nat)(t:Addr)(p:V×V),a[j]?=some t->ps[j]?=some p->H' t=some (.tup [p.1,p.2])
 |[],_,H,I,_,_,_,_=>⟨H,I,a9.refl _,λ_ _=>rfl,λj t p h=>by simp at h⟩
 |t::a,[],_,_,hl,_,_,_=>by simp at hl
 |t::a,p::ps,H,I,hl,pw,fr,ob=>by
  obtain⟨u,v,ru,q,m⟩:=ob 0 t p U U;obtain⟨ht,hn⟩:=fr t qk;obtain⟨l,n⟩:=List.pairwise_cons.mp pw;have A:Inv X ζ O (upd H t (.tup [p.1,p.2])) s:=I.track (f.fpOk ht hn) (qx f.sz ht) ⟨⟨by show 2<=sizeLine;decide,_,m,U⟩,[u,v],.cons ru (.cons q .nil),⟨_,m,U,_,U⟩⟩;obtain⟨H',w,i,r,x⟩:=sI f a ps _ A (by simpa using hl) n (λt' c=>⟨(fr t' (qj _ c)).1,by rw[au (Nat.ne_of_gt (l t' c))];exact(fr t' (qj _ c)).2⟩) λj t' g e d=>ob (j+1) t' g (by simpa using e) (by simpa using d);refine⟨H',w,(a9.new hn _).trans i,λb hb=>?_,λj t' g e d=>?_⟩
  .have o:b≠t:=λz=>hb (by rw[z];exact qk);rw[r b λz=>hb (qj _ z),au o]
  .cases j with
   |zero=>
    simp at e d;subst e;subst d;exact i _ _ ah
   |succ j=>exact x j t' g (by simpa using e) (by simpa using d)
section
variable {k:Key}{z:V}{r:Value}
end
section
variable {o f:Expr}{ty tx:TE}
end
theorem DP:typeLookup (.type "list") "keys"=pure none:=by rw[typeLookup_type,builtinLookup_eq_fast];kernel_rfl
theorem DS{k:Nat}{Q:LO->Shared->Prop}(l:A.handled=none)(j:s.heap.get? a=some { cls:=.type "list",dict:=none,data:=.seq xs k,slots:=sl })
 (h:∀h' tk,(∀b o,s.heap.get? b=some o->h'.get? b=some o)->Q none { s with heap:=h',toks:=tk }):wpAny (model prog w) A (getAttr? (.ref a) "keys") Q E s:=by
 obtain⟨hp,g,d,tk,os⟩:=s;have i:∀c,(⟨hp,g,d,c,os⟩:Shared).TypeIs (.ref a) "list":=λ_=>⟨_,j,U⟩;have n:=sub_AttributeError;have q:=F.slot_list_getattribute.lookup;have m:=F.slot_list_getattribute.bind (.ref a);have p:=am_list_getattr_none;unfold getAttr? getAttrBy? getAttrBy
 repeat (any_goals (first|assumption|exact i _|((with_reducible show wpAny _ _ (call (Value.builtin "list.__getattribute__") _ _) _ _ _);refine call_meets F.slot_list_getattribute (i _) am_entry_list_getattribute (F.args_list_getattribute_2 _ _) (meets_getattribute_miss_list a xs k sl "keys" _ DP Yd) ⟨j,l,λh' c e f=>?_⟩)|wp_step))
 obtain⟨t',_,_⟩:=f.there;show wpAny _ _ (getattributeRaised _ _ _ _ _ _ _) _ _ _;unfold getattributeRaised
 repeat (any_goals (first|assumption|wp_step))
 exact h _ _ f.keeps
theorem kq:plainId "dict.update.loop"=true:=Yd
theorem xF:entryFor table "dict.update.loop"=some Builtin.«dict.update.loop»:=entryFor_of_fast (by kernel_rfl)
def cP{K:Type}[DecidableEq K](ps:List (K×Value)):List (K×Value):=ps.foldl (λkvs p=>stored kvs p.1 p.2) []
theorem Ac{K:Type}[DecidableEq K](ps:List (K×Value))(p:K×Value):cP (ps++[p])=stored (cP ps) p.1 p.2:=by
 unfold cP;rw[List.foldl_append]
 rfl
section
variable {R:Result->Shared->Prop}{K:Type} [DecidableEq K] {knd:KeyKind prog w K}
def jj(knd:KeyKind prog w K)(h:Heap)(items:LD)(ps:List (K×Value)):Prop:=
 items.size=ps.length/\∀(i:Nat)(p:K×Value),ps[i]?=some p->∃t key,items[i]?=some (.ref t)/\h.IsTuple t #[key,p.2]/\knd.is p.1 key=true
theorem jj.keep{ps:List (K×Value)}(x:jj knd h items ps)(e:∀t o,h.get? t=some o->o.cls=.type "tuple"->h'.get? t=some o):jj knd h' items ps:=
 ⟨x.1,λi p hp=>let ⟨t,d,a,b,c⟩:=x.2 i p hp;⟨t,d,a,(let ⟨o,g,f,r⟩:=b;⟨o,e t o g f,f,r⟩),c⟩⟩
theorem Fg{d:Addr}{ps:List (K×Value)}{x:Value}(V:A.handled=none)(y:it≠l)(u:it≠d)(M:l≠d)(few:ps.length<=sizeLine)
 (v:∀I,I.length<=ps.length->(cP (I:List (K×Value))).length<=I.length):
 ∀(m i:Nat)(s:Shared)(tk:Tok),ps.length-i=m->i<=ps.length->s.heap.IsListIter it l i->s.heap.IsList l items->s.heap.DictOf knd d (cP (ps.take i))->jj knd s.heap items ps->
 (∀h' p,(∀b o,b≠it->b≠d->s.heap.get? b=some o->h'.get? b=some o)->h'.DictOf knd d (cP ps)->R (.ok (.ret x)) { s with heap:=h',toks:=p })->
 codeAny (model prog w) A (.builtin "dict.update.loop" ⟨[.ref d,.ref it,.int i tk,x],[]⟩) R s:=by
 intro m
 induction m with
 |zero=>
  intro i s tk S hi c hl hd hp E;have e:i=ps.length:=Yo;subst e;rw[qG]at hd;refine codeAny_builtin xF ?_;rw[Around.under_plainId kq _];show wpAny _ A.in1 (pyNext (.ref it) >>= _) _ _ s;refine q4 (wpAny_pyNext_list_end (by simpa using V) c hl (Array.getElem?_eq_none (by rw[hp.1];exact qd _)) λh' ex=>?_);show wpAny _ _ (Builtin.Dict.addKeywords d [] >>= _) _ _ _;refine q4 (qc (qc (E h' s.toks (λb o nb _ q=>ex b o nb q) ?_)));obtain⟨o,T,ep,Z,r⟩:=hd;exact⟨o,T,ep,ex d o (Ne.symm u) Z,r⟩
 |succ m ih=>
  intro i s tk S hi c hl hd hp E;have lt:i<ps.length:=Yo;obtain⟨t,_,X,e2,W⟩:=hp.2 i ps[i] (qb lt);refine codeAny_builtin xF ?_;rw[Around.under_plainId kq _];show wpAny _ A.in1 (pyNext (.ref it) >>= _) _ _ s;refine q4 (wpAny_pyNext_list_item c hl X λD F f=>?_);obtain⟨ot,h,g,_,K0⟩:=e2
  have G:t≠it:=λz=>by
   obtain⟨Y,a,j,_⟩:=c;rw[z,a]at h;cases h;rw[j]at g;exact Q5 (Value.type.inj g) Yk
  have a0:t≠d:=λz=>by
   obtain⟨Q,a,j⟩:=(show s.TypeIs (.ref d) "dict" from hd.typeIs);rw[z,a]at h;cases h;rw[j]at g;exact Q5 (Value.type.inj g) Yk
  have n:D.get? t=some ot:=(f.2 t G).trans h;have J:D.DictOf knd d (cP (ps.take i)):=hd.sameBut f (Ne.symm u);refine q4 (Qv (q4 (wpAny_tryCatch ?_)));unfold Builtin.Dict.pairItems;refine q4 (wpAny_typeOf_ref n ?_);rw[g];refine q4 (Qw n K0 (qc ?_));refine Qv (wpAny_dictSet_pairs W J (λC P k=>?_) ?_)
  .refine qc ⟨plainId_quiet kq _,ih (i+1) { s with heap:=C,toks:=s.toks+1 } 0 Yo Yo ?_ ?_ ?_ ?_ λh' p kp dd=>E h' p (λb o n1 n2 q=>kp b o n1 n2 ((k.2 b n2).trans ((f.2 b n1).trans q))) dd⟩
   .obtain⟨o,a,r⟩:=F;exact⟨o,(k.2 it u).trans a,r⟩
   .obtain⟨o,a,r⟩:=hl;exact⟨o,(k.2 l M).trans ((f.2 l (Ne.symm y)).trans a),r⟩
   .rw[qq,qb lt];show C.DictOf knd d (cP (ps.take i++[ps[i]]));rw[Ac];exact P
   .refine hp.keep λb o a j=>?_
    have N:b≠it:=λz=>by
     obtain⟨Y,H,B,_⟩:=c;rw[z,H]at a;cases a;rw[B]at j;exact Q5 (Value.type.inj j) Yk
    have L:b≠d:=λz=>by
     obtain⟨Q,H,B⟩:=(show s.TypeIs (.ref d) "dict" from hd.typeIs);rw[z,H]at a;cases a;rw[B]at j;exact Q5 (Value.type.inj j) Yk
    exact(k.2 b L).trans ((f.2 b N).trans a)
  .have D:=v (ps.take i) (by rw[qJ];lia);have C:(ps.take i).length<=ps.length:=by rw[qJ];lia
   lia
end
section
variable {K:Type} [DecidableEq K] {knd:KeyKind prog w K}
theorem Ff{k:Nat}{ps:List (K×Value)}(v:A.handled=none)(hl:s.heap.get? l=some { cls:=.type "list",dict:=none,data:=.seq xs k,slots:=sl })(hp:jj knd s.heap xs ps)(few:ps.length<=sizeLine)
 (g:∀n,n.length<=ps.length->(cP (n:List (K×Value))).length<=n.length)
 (h:∀h' tk,(∀b o,s.heap.get? b=some o->h'.get? b=some o)->h'.DictOf knd s.heap.objs.size (cP ps)->Q (.ref s.heap.objs.size) { s with heap:=h',toks:=tk }):
 wpAny (model prog w) A (call (.type "dict") [.ref l]) Q E s:=by
 refine callType_codes (Q₁:=λobj f=>obj=.ref s.heap.objs.size/\f={ s with heap:=s.heap.push { cls:=.type "dict",data:=.dict #[] } }) PySem.F.kt_called_dict (PySem.F.kt_typeCall_dict_1 _) PySem.F.entry_dict_init (kt_code_dict_new _ ⟨U,U⟩) ?_;rintro obj f ⟨rfl,rfl⟩;have a:(s.heap.push { cls:=.type "dict",data:=.dict #[] }).DictOf knd s.heap.objs.size []:=Heap.DictOf.new s.heap;exists a.typeIs,PySem.F.args_dict_init_2 _ _;unfold Builtin.«dict.__init__»;refine q4 ?_;unfold Builtin.Dict.selfAndRest;refine q4 (wpAny_notOrdered_dict a.typeIs ?_);show wpAny _ _ (pure (s.heap.objs.size,[Value.ref l])) _ _ _;refine qc ?_;show wpAny _ _ (Builtin.Dict.updateFrom "dict.__init__" s.heap.objs.size (.ref l) [] .none) _ _ _;unfold Builtin.Dict.updateFrom;have d:(s.heap.push { cls:=.type "dict",data:=.dict #[] }).get? l=some { cls:=.type "list",dict:=none,data:=.seq xs k,slots:=sl }:=q9 _ hl;refine q4 (wpAny_typeOf_ref d ?_);rw[Q0 (show((Value.type "list":Value) != Value.type "dict")=true by decide)];refine q4 (DS (by simpa using v) d λj _ c=>?_);rw[Q0 (show(none:LO).isNone=true from rfl)];refine q4 (wpAny_rule ?_);have e:=c _ _ d
 have i:j.DictOf knd s.heap.objs.size []:=by
  obtain⟨o,y,ep,m,r⟩:=a;exact⟨o,y,ep,c _ _ m,r⟩
 refine q4 (wpAny_pyIter_list (items:=xs) ⟨_,e,U,_,U⟩ ?_);have nl:l≠s.heap.objs.size:=λz=>Q5 (qp hl) (by rw[z];exact Qc _)
 have sz:s.heap.objs.size<j.objs.size:=by
  obtain⟨o,_,_,m,_⟩:=i;exact qp m
 have u:j.objs.size≠l:=λz=>Q5 (qp e) (by rw[<- z];exact Qc _);refine qc ⟨plainId_quiet kq _,Fg (knd:=knd) (items:=xs) (ps:=ps) (by simpa using v) u (Nat.ne_of_gt sz) nl few g ps.length 0 _ 0 (Nat.sub_zero _) (qr _) ?_ ?_ ?_ ?_ λh' p kp x=>?_⟩
 .exact⟨_,qo _ U,U,U⟩
 .exact⟨_,q9 _ e,U,_,U⟩
 .exact i.push _
 .exact(hp.keep λt o q _=>c _ _ (q9 _ q)).keep λt o q _=>q9 _ q
 .refine⟨U,h h' p (λb o q=>?_) x⟩;have lt:=qp q;exact kp b o (qF (Nat.lt_trans lt sz)) (qF lt) (q9 _ (c _ _ (q9 _ q)))
end
noncomputable def iR(ps:LN):LN:=ps.foldl (λkvs p=>aU kvs p.1 p.2) []
theorem BQ(ps:LN):(iR ps).length<=ps.length:=by
 have:∀(ps kvs:LN),(ps.foldl (λkvs p=>aU kvs p.1 p.2) kvs).length<=kvs.length+ps.length:=by
  intro ps
  induction ps with
  |nil=>intro kvs;simp
  |cons p r a=>
   intro kvs;have c:=a (aU kvs p.1 p.2);have b:=j4 kvs p.1 p.2;rw[Qz,qz];lia
 have:=this ps [];simpa[iR]using this
theorem Ab{K:Type}[DecidableEq K](kvs:List (K×Value))(k:K)(v:Value):(stored kvs k v).length<=kvs.length+1:=by
 unfold stored;split<;>simp
theorem Ad{K:Type}[DecidableEq K](a:List (K×Value)):(cP a).length<=a.length:=by
 have:∀(ps kvs:List (K×Value)),(ps.foldl (λkvs p=>stored kvs p.1 p.2) kvs).length<=kvs.length+ps.length:=by
  intro ps
  induction ps with
  |nil=>intro kvs;simp
  |cons p r b=>
   intro kvs;have d:=b (stored kvs p.1 p.2);have c:=Ab kvs p.1 p.2;rw[Qz,qz];lia
 have:=this a [];simpa[cP]using this
def BA(K:W.Frag):LV->Hp->VK->Prop:=λvs H Q=>∃l us ps,vs=[.ref l]/\H l=some (.lst us)/\us.length=ps.length/\ps.length<=sizeLine/\(∀(i:Nat)(p:Key×V),ps[i]?=some p->∃t,us[i]?=some (.ref t)/\H t=some (.tup [kV p.1,p.2]))/\∀d,H d=none->Q (.ref d) (upd H d (.dK (iR ps)))
theorem vI{h:Heap}(ok:HOk X.prog X.w H h):∀(us:LV)(η:LL)(ps:LN),aB us η->us.length=ps.length->(∀(i:Nat)(p:Key×V),ps[i]?=some p->∃t,us[i]?=some (.ref t)/\H t=some (.tup [kV p.1,p.2]))->
 ∃c:List (Key×Value),KV ps c/\η.length=c.length/\∀(i:Nat)(q:Key×Value),c[i]?=some q->∃t key,η[i]?=some (.ref t)/\h.IsTuple t #[key,q.2]/\(bd X.prog X.w).is q.1 key=true
 |[],_,[],.nil,_,_=>⟨[],.nil,U,λi q d=>by simp at d⟩
 |u::us,_,[],_,hl,_=>by simp at hl
 |[],_,p::ps,_,hl,_=>by simp at hl
 |u::us,_,p::ps,@Paired.cons _ _ _ _ y _ ys rx r,hl,hp=>by
  obtain⟨t,A,m⟩:=hp 0 p U;obtain rfl:u=.ref t:=by simpa using A
  obtain⟨c,j,ln,d⟩:=vI ok us ys ps r (by simpa using hl) λi s h'=>by
   obtain⟨t',a,b⟩:=hp (i+1) s (by simpa using h');exact⟨t',by simpa using a,b⟩
  obtain⟨_,_,f,o,l,g,n,z⟩:=(show bb X.prog X.w H h t (.tup [kV p.1,p.2])from ok t _ m);obtain⟨x,v1,rfl,k,v⟩:=ju f;cases rx;refine⟨(p.1,v1)::c,.cons ⟨U,v⟩ j,by simp[ln],λi q h'=>?_⟩
  cases i with
  |zero=>
   have e:(p.1,v1)=q:=by simpa using h'
   subst e;exact⟨t,x,U,⟨o,l,g,n,z⟩,eJ k⟩
  |succ i=>exact d i q (by simpa using h')
theorem KV.all:∀{ps:LN}{c:List (Key×Value)},KV ps c->KV (iR ps) (cP c):=by
 have:∀{ps:LN}{c:List (Key×Value)},KV ps c->∀{a:LN}{b:List (Key×Value)},KV a b->KV (ps.foldl (λkvs p=>aU kvs p.1 p.2) a) (c.foldl (λkvs p=>stored kvs p.1 p.2) b):=by
  intro ps c h
  induction h with
  |nil=>intro a b h;exact h
  |cons e _ f=>
   intro a b h;obtain⟨g,d⟩:=e;rw[Qz,Qz,<- g];exact f (h.put _ d)
 intro ps c h;exact this h .nil
theorem FO(v:X.calm=true):bf X (.type "dict") (BA X.K):=by
 intro _ s _ H xs us Q I r h;obtain⟨l,ys,ps,rfl,hl,ln,few,hp,q⟩:=h;obtain⟨u,rfl,o⟩:=cK r;cases o;obtain⟨hz,k,_,x,e⟩:=(show bb X.prog X.w H s.heap l (.lst ys)from I.hok l _ hl);obtain⟨d,g,j,n⟩:=vI I.hok ys k ps x ln hp;have y:=g.length;refine Ff (knd:=bd X.prog X.w) (ps:=d) (I.ok.hd v) e ⟨by simpa using j,λi p hp=>?_⟩ Yo (λd _=>Ad d) λh' tk kp m=>?_
 .obtain⟨t,f,a,b,c⟩:=n i p hp;exact⟨t,f,by simpa using a,b,c⟩
 .have len:=BQ ps;refine⟨.ref s.heap.objs.size,_,I.laid (t':=tk) kp (qd _) (re Yo ?_ g.all m),U,q _ (I.hok.fresh (qd _))⟩;exact(rg s.heap I.big:bb X.prog X.w H _ s.heap.objs.size (.dK [])).2.1
end L2
namespace Tr
open PySem PySem.Spec PyProof.Rows L2
end Tr
namespace L2
open PySem PySem.Spec PyProof.Rows
theorem oQ:OpR X (compareOp .In) (λx y H Q=>∃a kvs k,y=.ref a/\H a=some (.dK kvs)/\x=kV k/\Q (.bl (aR kvs k).isSome) H):=by
 intro _ s _ H x y v u Q I d e h;obtain⟨a,kvs,k,rfl,hd,rfl,q⟩:=h;cases e;obtain⟨_,ne,vs,b,c⟩:=fW I.hok hd;refine wpAny_in_of (eJ d) ne c.mapOf ⟨.bl _,H,I.tok _,?_,q⟩;rw[<- (b.val k).isSome_eq]
 rfl
theorem Ec:IxR X (λx y H Q=>∃a kvs k v,x=.ref a/\H a=some (.dK kvs)/\y=kV k/\aR kvs k=some v/\Q v H):=by
 intro _ _ _ s _ H x y v u Q I f i h g;obtain⟨a,kvs,k,z,rfl,hd,rfl,e,q⟩:=h;cases f;obtain⟨_,ne,vs,d,b⟩:=fW I.hok hd;obtain⟨_,hw,c⟩:=bU.some_of (v:=z) (o:=valueAt vs k) (by rw[<- e];exact d.val k);exact tail_any b.typeIs PySem.F.slot_dict_getitem.lookup (wpAny_getItem_of (eJ i) b.mapOf hw ⟨z,H,I.tok _,c,q⟩) g
end L2
namespace Tr
open PySem PySem.Spec PyProof.Rows L2
end Tr
namespace L2
open PySem
noncomputable def itr(mask:Nat):Nat->Nat->Nat->Nat
 |0,i,_=>i
 |m+1,i,p=>itr mask m (SetTable.leap mask i p).1 (SetTable.leap mask i p).2
theorem wZ{mask:Nat}{ow:Array (Option Nat)}:∀(a i p:Nat),i<=mask->SetTable.layClean.free mask ow a i p=none->∀m,m<a->(ow.getD (itr mask m i p) (some 0)).isNone=false
 |0,_,_,_,_,m,hm=>Q5 hm (Qy m)
 |a+1,i,p,hi,h,m,hm=>by
  unfold SetTable.layClean.free at h;split at h
  .cases h
  .rename_i b
   cases m with
   |zero=>
    have:=List.find?_eq_none.mp b 0 (by
     rw[List.mem_range];unfold SetTable.runEnd
     split<;>lia)
    show(ow.getD i (some 0)).isNone=false;simpa only[Nat.add_zero,Bool.not_eq_true]using this
   |succ m=>exact wZ a _ _ (Nat.le_of_lt_succ (Nat.mod_lt _ (Nat.succ_pos _))) h m Yo
theorem x5{mask:Nat}{ow:Array (Option Nat)}:∀(a i p j:Nat),SetTable.layClean.free mask ow a i p=some j->(ow.getD j (some 0)).isNone=true
 |0,_,_,_,h=>by unfold SetTable.layClean.free at h;cases h
 |a+1,i,p,j,h=>by
  unfold SetTable.layClean.free at h;split at h
  .rename_i k hk;cases h;exact List.find?_some (p:=λk=>(ow.getD (i+k) (some 0)).isNone) hk
  .exact x5 a _ _ j h
theorem wL(mask:Nat):∀(a b i p:Nat),itr mask (a+b) i p=itr mask b (itr mask a i p) (p / 32 ^ a)
 |0,b,i,p=>by simp[itr]
 |a+1,b,i,p=>by
  rw[Nat.succ_add];show itr mask (a+b) _ _=itr mask b (itr mask a _ _) _;rw[wL mask a b];unfold SetTable.leap;rw[Nat.div_div_eq_div_mul,Nat.pow_succ,Nat.mul_comm (32 ^ a) 32]
theorem wJ{mask:Nat}:∀(a i p:Nat),i<=mask->itr mask a i p<=mask
 |0,i,p,h=>h
 |a+1,i,p,h=>wJ a _ _ (by unfold SetTable.leap;exact Nat.le_of_lt_succ (Nat.mod_lt _ (Nat.succ_pos _)))
theorem xo:∀(l:List (Option Nat))(j k:Nat),l[j]?=some none->((l.set j (some k)).filterMap id).Perm (k::l.filterMap id)
 |[],j,k,h=>by simp at h
 |x::l,0,k,h=>by
  obtain rfl:x=none:=by simpa using h
  exact .refl _
 |x::l,j+1,k,h=>by
  have a:=xo l j k (by simpa using h)
  cases x with
  |none=>simpa using a
  |some y=>
   show(y::(l.set j (some k)).filterMap id).Perm (k::y::l.filterMap id);exact(a.cons y).trans (.swap _ _ _)
theorem xq:∀(l:List (Option Nat)),(l.filterMap id).length<l.length->∃j:Nat,l[j]?=some none
 |[],h=>Q5 h (Qc _)
 |none::l,_=>⟨0,U⟩
 |some y::l,h=>by
  obtain⟨j,q⟩:=xq l (by simpa using h);exact⟨j+1,by simpa using q⟩
theorem vC(b:Array α)(a:Array Nat)(h:a.toList.Perm (List.range b.size)):(a.filterMap (b[·]?)).toList.Perm b.toList:=by
 rw[Array.toList_filterMap];refine(h.filterMap _).trans ?_
 have:∀l:List α,(List.range l.length).filterMap (l[·]?)=l:=λl=>by
  induction l with
  |nil=>rfl
  |cons x l c=>
   rw[qz,List.range_succ_eq_map,List.filterMap_cons,List.filterMap_map];exact congrArg (x::·) c
 have q:=this b.toList;rw[qL]at q;simp only[qT]at q;rw[q]
theorem AI:entryFor table "set.__or__"=some Builtin.«frozenset.__or__»:=entryFor_alias (id':="frozenset.__or__") (by kernel_rfl) U Yd (by kernel_rfl)
theorem sK{es':Array (Int×Value)}{t':SetTable}(T:aQ P w es t ys)(hp:es'.toList.Perm es.toList)(b:t'.fits es'.size=true)(hl:t'.led=t.led)(a:t'.plain=false):aQ P w es' t' ys:=by
 have sz:es'.size=es.size:=by rw[<- qL,hp.length_eq,qL]
 exact⟨T.el.perm hp,(hp.map _).nodup_iff.mpr T.nd,λk=>((hp.map _).mem_iff).trans (T.mem k),by rw[sz];exact T.few,b,hl.trans T.led,λ_=>a⟩
end L2
namespace L2
open PySem PySem.Spec PyProof.Rows
theorem sT:∀(kvs:List (Key×Value))(ks:LS)(vs:LL),kvs.map (·.1)=ks.map Sum.inr->vs.length=kvs.length->(∀(j:Nat)(v:Value),vs[j]?=some v->∃k x,kvs[j]?=some (k,x)/\(bd P w).is k v=true)->StrsAre vs ks
 |[],[],[],_,_,_=>.nil
 |p::kvs,k::ks,v::vs,hk,hl,hv=>by
  simp only[qR,List.cons.injEq]at hk;obtain⟨q,x,e,a⟩:=hv 0 v U;simp only[List.getElem?_cons_zero,Option.some.injEq]at e;subst e;obtain⟨b,c⟩:=hk;have a:fu q v=true:=a;rw[show q=.inr k from b]at a;obtain⟨t,rfl⟩:=Value.isStrOf_shape a;exact .cons k t (sT kvs ks vs c (by simpa using hl) λj u hu=>by simpa using hv (j+1) u (by simpa using hu))
 |[],_::_,_,hk,_,_=>by simp at hk
 |_::_,[],_,hk,_,_=>by simp at hk
 |[],[],_::_,_,hl,_=>by simp at hl
 |_::_,_::_,[],_,hl,_=>by simp at hl
theorem KV.get:∀{ps:LN}{a:List (Key×Value)}{i:Nat}{p:Key×V},KV ps a->ps[i]?=some p->∃q,a[i]?=some q/\p.1=q.1/\aC p.2 q.2
 |_,_,_,_,.nil,h=>by simp at h
 |_,_,0,_,.cons hx _,h=>by
  simp only[List.getElem?_cons_zero,Option.some.injEq]at h;subst h;exact⟨_,U,hx.1,hx.2⟩
 |_,_,i+1,_,.cons _ r,h=>by
  obtain⟨q,e,z⟩:=KV.get r (by simpa using h);exact⟨q,by simpa using e,z⟩
def zQ(td:TE):TE:=λO H Q=>td O H λx H1=>∃a kvs,x=.ref a/\H1 a=some (.dK kvs) /\
 ∀H' l (B:LK),a9 H1 H'->H1 l=none->H' l=some (.lst (B.map V.ref))->B.length=kvs.length->(∀(j:Nat)(t:Addr)(p:Key×V),B[j]?=some t->kvs[j]?=some p->H' t=some (.tup [kV p.1,p.2])/\H1 t=none)->Q (.ref l) H'
theorem Eh{k:Key}(h:(bd P w).is k u=true):aC (kV k) u:=by
 have h:fu k u=true:=h;rcases dR h with⟨i,t,rfl,rfl⟩|⟨x,t,rfl,rfl⟩
 .exact⟨t,U⟩
 .exact⟨t,U⟩
theorem C9{o:Expr}{p1 m:Pos}(hc:X.calm=true)(hg:Gl X "list")(G:X.mg "list"=none)(ho:PE X o td)
 (A:attributeBase o "items" X.env (eval o X.env)=eval o X.env:=by rfl) (n:(μ.endLine == θ.line)=true:=by rfl)
 (E:starEach [.Call (.Attribute o "items" μ) [] [] θ] X.env=[(false,eval (.Call (.Attribute o "items" μ) [] [] θ) X.env)]:=by rfl):
 PE X (.Call (.Name "list" p1) [.Call (.Attribute o "items" μ) [] [] θ] [] m) (zQ td):=by
 intro g s K H Q I h;refine wpAny_Call_Name_kw (fQ I hg G PyProof.Rows.Boot.«list» ?_);refine PyProof.Rows.callWith_type1 ?_ (by rw[E];rfl) U;rw[E];show wpAny _ _ (spliced ((false,eval (.Call (.Attribute o "items" μ) [] [] θ) X.env)::backTo m [])) _ _ s;refine Calls.spliced_cons ?_;refine wpAny_Call_method0_late A n (thn (ho g s K H _ I h) λv s1 ⟨x,M,f,r1,a,kvs,ex,eH,q⟩=>?_);subst ex;obtain rfl:v=Value.ref a:=r1;obtain⟨z,hd,vs,C,N⟩:=fW f.hok eH;obtain⟨t1,t2,_⟩:=pL f (.inl ⟨kvs,.inl eH⟩);refine⟨"dict","dict.items",PySem.F.plainAttrs_dict,PySem.F.slot_dict_items,PySem.F.type_dict_items,t1,t2,Calls.callWith_builtin U (PySem.evalArgs_none ?_)⟩;refine call_meetsIn PySem.F.slot_dict_items N.typeIs PySem.F.entry_dict_items (PySem.F.args_dict_items_1 _) (meets_dict_items (bd X.prog X.w) a hd) ⟨⟨vs,N⟩,?_⟩;refine Calls.spliced_nil ?_;obtain⟨ep,da⟩:=N.dictAt;have kl:=C.length;refine PySem.W.kdx_call (s:={ s1 with heap:=s1.heap.push { cls:=.type "dict_items",data:=.fields #[.ref a] } }) (knd:=bd X.prog X.w) (kvs:=vs) (ep:=ep) (f.ok.hd hc) ⟨_,qo _ U,U,U⟩ (da.push _) Yo λh' tk _ c d kp R _ l P=>?_;have keep:∀b o,s1.heap.get? b=some o->h'.get? b=some o:=λb o e=>kp b o (q9 _ e);have J:Inv X g K M { s1 with heap:=h',toks:=tk }:=f.kept keep;have D:(s1.heap.push ({ cls:=.type "dict_items",data:=.fields #[.ref a] }:Obj)).objs.size=s1.heap.objs.size+1:=Qg _ _
 have old:∀t∈d,s1.heap.objs.size<=t:=λt ht=>by
  have:=l.above t ht;have z:s1.heap.objs.size<=(s1.heap.push ({ cls:=.type "dict_items",data:=.fields #[.ref a] }:Obj)).objs.size:=by rw[D];exact Nat.le_succ _
  exact qx z (Nat.le_of_lt this)
 obtain⟨H',I3,s3,o3,a3⟩:=sI (s:={ s1 with heap:=h',toks:=tk }) f d (kvs.map λp=>(kV p.1,p.2)) M J (by rw[q5];lia) l.rise (λt ht=>⟨old t ht,f.hok.fresh (old t ht)⟩) λj t p y u=>by
  obtain⟨S,k,x,e1,e2,e3⟩:=l.pairs j t y;rw[qD]at u;obtain⟨p',T,rfl⟩:=qP.mp u;obtain⟨_,B,i,Y⟩:=KV.get C T;rw[e1]at B;cases B;have i:p'.1=k:=i;subst i;exact⟨S,x,Eh e2,Y,e3⟩
 have r:s1.heap.objs.size<=(s1.heap.push ({ cls:=.type "dict_items",data:=.fields #[.ref a] }:Obj)).objs.size:=by rw[D];lia
 generalize (s1.heap.push ({ cls:=.type "dict_items",data:=.fields #[.ref a] }:Obj)).objs.size=L at R l r ⊢;have nL:L∉d:=λG=>Qc _ (l.above _ G);have Z:M L=none:=f.hok.fresh r;have K0:H' L=none:=by rw[o3 _ nL];exact Z
 have vr:∀d:LK,aB (d.map V.ref) (d.map Value.ref):=λd=>by
  induction d with
  |nil=>exact .nil
  |cons t d ih=>exact .cons U ih
 have I4:Inv X g K (upd H' L (.lst (d.map V.ref))) { s1 with heap:=h',toks:=tk }:=I3.track (f.fpOk r K0) (qx f.sz r) ⟨by rw[q5];lia,d.map Value.ref,c,vr d,by rw[<- P];simpa using R⟩;refine⟨.ref L,_,I4,U,q _ L d (s3.trans (a9.new K0 _)) Z ah Yo λj t p y u=>⟨?_,f.hok.fresh (old t (qy y))⟩⟩;exact a9.new K0 _ _ _ (a3 j t (kV p.1,p.2) y (by rw[qD,u];rfl))
end L2
namespace Tr
open PySem PySem.Spec PyProof.Rows L2
structure OnW(x:Int):Prop where
 lo:0<=x
 hi:x<1000000000000000000000000000000
abbrev aN:=Str->Int
noncomputable def Gg(f:aN):Val->Int
 |.num n=>n
 |.nm x=>f x
noncomputable def b6(f:aN)(x:Str)(v:Int):aN:=λz=>if z=x then v else f z
def sgL:LS:=["+","-","*","/","<","=","&","|","^"]
def fH(C:LS):Val->Prop
 |.num n=>OnW n
 |.nm x=>x∈C
theorem fH.names{C:LS}{a:Val}(h:fH C a):∀x∈a.names,x∈C:=by
 cases a with
 |num n=>intro x b;simp[Val.names]at b
 |nm y=>intro x b;simp[Val.names]at b;rwa[b]
def tab(ks:LS)(f:aN):LN:=ks.map λz=>(.inr z,.int (f z))
def b7(ks:LS)(x:Str):LS:=if x∈ks then ks else ks++[x]
theorem DI{k:Str}:k∈b7 ks x↔k∈ks\/k=x:=by
 unfold b7;split
 .rename_i h;exact⟨.inl,λz=>z.elim id λe=>e▸h⟩
 .simp
theorem w5(h:ks.Nodup):(b7 ks x).Nodup:=by
 unfold b7;split
 .exact h
 .rename_i a;exact vZ h a
theorem zF(a:LS)(f:aN):(tab a f).map (·.1)=a.map Sum.inr:=by
 unfold tab;rw[List.map_map]
 rfl
theorem gx(a:LS)(f:aN):(tab a f).length=a.length:=q5 _
theorem iw{f:aN}{x:Str}:∀{ks:LS},x∈ks->aR (tab ks f) (.inr x)=some (.int (f x))
 |[],h=>by simp at h
 |k::ks,h=>by
  unfold tab aR;rw[qR,Q9];by_cases e:k=x
  .subst e;simp
  .have h':x∈ks:=by
    rcases qt.mp h with z|z
    .exact Q5 z.symm e
    .exact z
   have:=iw (f:=f) h';unfold tab aR at this;simp only[Sum.inr.injEq,e,decide_false];exact this
theorem lW{f:aN}(h:x∉ks):aR (tab ks f) (.inr x)=none:=by
 cases e:aR (tab ks f) (.inr x)with
 |none=>rfl
 |some v=>
  have:=zi e;rw[zF]at this;obtain⟨z,hz,a⟩:=List.mem_map.mp this;cases a;exact Q5 hz h
theorem zE{f:aN}{v:Int}(h:x∉ks):tab ks (b6 f x v)=tab ks f:=by
 unfold tab;refine List.map_congr_left λz hz=>?_;show(_,V.int (if z=x then v else f z))=_;rw[qZ (λe:z=x=>h (e▸hz))]
theorem jx{f:aN}{v:Int}(hn:ks.Nodup):aU (tab ks f) (.inr x) (.int v)=tab (b7 ks x) (b6 f x v):=by
 unfold b7;split
 .rename_i h;unfold aU
  rw[Q0 (by
   rw[List.any_eq_true]
   exact⟨(.inr x,.int (f x)),List.mem_map.mpr ⟨x,h,U⟩,by simp⟩)]
  unfold tab;rw[List.map_map];refine List.map_congr_left λz hz=>?_;show(if _ then _ else _)=_;unfold b6;by_cases e:z=x
  .subst e;simp
  .simp[e]
 .rename_i h;rw[ki _ (lW h)];show _=tab (ks++[x]) (b6 f x v);unfold tab;rw[qO];have:=zE (f:=f) (v:=v) h;unfold tab at this;rw[this];simp[b6]
theorem BP(hn:ks.Nodup):iR (ks.map λz=>((.inr z:Key),V.int 0))=tab ks λ_=>0:=by
 have:∀(ks pre:LS),(pre++ks).Nodup->(ks.map λz=>((.inr z:Key),V.int 0)).foldl (λkvs p=>aU kvs p.1 p.2) (tab pre λ_=>0)=tab (pre++ks) λ_=>0:=by
  intro ks
  induction ks with
  |nil=>intro pre _;simp
  |cons k r a=>
   intro pre h;have h':((pre++[k])++r).Nodup:=by simpa using h
   have c:k∉pre:=λb=>by
    rw[List.nodup_append]at h;exact h.2.2 k b k (by simp) U
   rw[qR,Qz]
   have e:aU (tab pre λ_=>0) (.inr k) (V.int 0)=tab (pre++[k]) λ_=>0:=by
    rw[ki _ (lW c)];simp[tab]
   rw[show aU (tab pre λ_=>0) ((.inr k:Key),V.int 0).1 ((.inr k:Key),V.int 0).2=tab (pre++[k]) λ_=>0 from e,a _ h'];simp
 exact this ks [] (by simpa using hn)
end Tr
variable {fe:Tr.aN}
namespace L2
open PySem PySem.Spec PyProof.Rows
end L2
namespace L2
open PySem PySem.Spec PyProof.Rows PySem.W
section
variable {k:Nat}{C0:Addr}{ds:LL}{fx cx y m n:Str}{iy im inn:Nat}{p py cp pm pn pa hpos:Pos}{es:LP}{t:TA}
end
end L2
namespace Tr
open PySem PySem.Spec PyProof.Rows L2
end Tr
namespace L2
open PySem PySem.Spec PyProof.Rows PySem.W
theorem Ca{f:Str}(hk:X.K=K)(a:PE X e ta)(hb:attributeBase e f X.env (eval e X.env)=eval e X.env):PE X (.Attribute e f pos) (jz K ta f):=by
 subst hk;exact vH a hb
end L2
namespace L2
open PySem PySem.F PySem.Spec PyProof.Rows PySem.W
set_option maxRecDepth 100000
theorem sQ:∀{ys:LS}{η:LL},aB (ys.map V.str) η->∃l:List (Str×Tok),η=strValues l/\l.map (·.1)=ys
 |[],_,h=>by cases h;exact⟨[],U,U⟩
 |y::ys,_,h=>by
  cases h with
  |cons r h=>
   obtain⟨t,rfl⟩:=r;obtain⟨l,rfl,e⟩:=sQ h;exact⟨(y,t)::l,U,by rw[qR,e]⟩
theorem gY:MtR X "str.join" (λv xs H Q=>∃(z:Str)(p:Addr)(ws:LS),v=.str z/\xs=[.ref p]/\SqL X.K H p (ws.map V.str)/\JoinOk z ws=true/\Q (.str (Str.join z ws)) H):=by
 intro _ s _ H x xs v us Q I b r h;obtain⟨z,p,ws,rfl,rfl,hp,c,q⟩:=h;obtain⟨t,rfl⟩:=b;obtain⟨u,rfl,ru⟩:=cK r;cases ru;obtain⟨_,a,pl,_⟩:=I.list hp;obtain⟨l,rfl,e⟩:=sQ a;exact PySem.SC.join pl.isList e c λt' k=>⟨.str _,H,I.tok k,⟨t',U⟩,by rwa[show Txt.join z ws=Str.join z ws from StrLaws.glued_eq_join z ws]⟩
theorem hX{ws:LS}(h:∀w∈ws,w.length+z.length<=m)(g:m * ws.length<=1000000):JoinOk z ws=true:=by
 have c:∀(ws:LS)(b:Nat),(∀w∈ws,w.length+z.length<=m)->ws.foldl (λa w=>a+w.length+z.length) b<=b+m * ws.length:=by
  intro ws
  induction ws with
  |nil=>intro b _;simp
  |cons w r d=>
   intro b h;have:=d (b+w.length+z.length) λu hu=>h u (by simp[hu]);have e:=h w (by simp);rw[Qz,qz,Nat.mul_succ];lia
 unfold JoinOk;rw[List.foldl_toArray,Bool.not_eq_true'];have:=c ws 0 h;unfold Builtin.Str.tooLong;refine Q4 ?_;have f:(1000000:Nat)<=sizeLine:=Yk;lia
section
variable {k:Nat}{p:Pos}{es:LP}{t:TA}
end
theorem Cp:OpR X (compareOp .NotIn) (λx y H Q=>∃a kvs k,y=.ref a/\H a=some (.dK kvs)/\x=kV k/\Q (.bl (!(aR kvs k).isSome)) H):=by
 intro _ s _ H x y v u Q I d e h;obtain⟨a,kvs,k,rfl,hd,rfl,q⟩:=h;cases e;obtain⟨_,ne,vs,b,c⟩:=fW I.hok hd;refine wpAny_notIn_of (eJ d) ne c.mapOf ⟨.bl _,H,I.tok _,?_,q⟩;rw[<- (b.val k).isSome_eq]
 rfl
section
variable {o:Expr}{es:LP}{to:TE}{t:TA}{T id:String}{r:V->LV->Hp->VK->Prop}
end
section
variable {κ:KeyKind}
def KOk(κ:KeyKind)(p:Keyed):Prop:=∃z,κ.keyOf p.1=some z
def ky(κ:KeyKind)(p:Keyed):κ.α:=KK κ #[p] 0
theorem kP{p:Keyed}{z:κ.α}(h:κ.keyOf p.1=some z):ky κ p=z:=by
 unfold ky KK;show(κ.keyOf p.1).getD _=z;rw[h]
 rfl
theorem jt(c:κ.OneLt){x y:Keyed}{st:SortSt}{Q:Option Bool->SortSt->Prop}(hk:kindOf st=oneType')(d:KOk κ x)(b:KOk κ y)(h:Q (some (κ.blt (ky κ x) (ky κ y))) st):wpS (model prog w) A E s (lt' x y) Q st:=by
 obtain⟨p,hp⟩:=d;obtain⟨q,a⟩:=b;rw[kP hp,kP a]at h;rw[lt'_eq];refine wpS_bind (wpS_get ?_);rw[hk,keyLt'_oneType];exact wpS_bind (wpS_lift (wpAny_attempt (c prog w A _ s x.1 y.1 p q hp a ⟨U,wpS_pure h⟩)))
theorem bM{a:Array Keyed}{p:Keyed}{st:SortSt}{Q:Keyed->SortSt->Prop}(e:a[i]?=some p)(h:Q p st):wpS (model prog w) A E s (elem' a i) Q st:=by
 rw[elem'_eq,e];exact wpS_pure h
def cS:Bool->Keyed->Array Keyed->Nat->Nat->Nat->StateT SortSt Sem (Option Nat):=sortPriv% PySem.Builtin.gallop
noncomputable def byd(left:Bool)(key:Keyed)(arr:Array Keyed)(base i:Nat):StateT SortSt Sem (Option Bool):=do
 let x <- elem' arr (base+i)
 if left then lt' x key else return (<- lt' key x).map (!·)
theorem EB(left:Bool)(d:Keyed)(c:Array Keyed)(base n a:Nat):cS left d c base n a=(do
 let mut la:=0
 let mut b:=1
 let mut lo:=0
 let mut hi:=0
 let some rt <- byd left d c base a|return none
 if rt then
  let e:=n-a
  for _ in[0:n] do
   if b >= e then break
   let some f <- byd left d c base (a+b)|return none
   if !f then break
   la:=b
   b:=2 * b+1
  lo:=a+la+1
  hi:=a+min b e
 else
  let e:=a+1
  for _ in[0:n] do
   if b >= e then break
   let some fo <- byd left d c base (a-b)|return none
   if fo then break
   la:=b
   b:=2 * b+1
  lo:=a+1-min b e
  hi:=a-la
 for _ in[0:n] do
  if lo >= hi then break
  let m:=lo+(hi-lo) / 2
  let some f <- byd left d c base m|return none
  if f then lo:=m+1 else hi:=m
 return some hi):=U
noncomputable def lm(left:Bool)(key:Keyed)(arr:Array Keyed)(base n lo hi:Nat):StateT SortSt Sem (Option Nat):=do
 let mut lo:=lo
 let mut hi:=hi
 for _ in[0:n] do
  if lo >= hi then break
  let m:=lo+(hi-lo) / 2
  let some B <- byd left key arr base m|return none
  if B then lo:=m+1 else hi:=m
 return some hi
section
variable {left:Bool}{key:Keyed}{arr:Array Keyed}{base n ι:Nat}{st:SortSt}{Q:Option Nat->SortSt->Prop}
theorem sh{hi:Nat}(a:Nat->Bool)
 (hp:∀i,i<n->∀Q:Option Bool->SortSt->Prop,Q (some (a i)) st->wpS (model prog w) A E s (byd left key arr base i) Q st)
 (mono:∀i j,i<=j->j<n->a j=true->a i=true)
 (h:∀k,k<=n->(∀i,i<k->a i=true)->(∀i,k<=i->i<n->a i=false)->Q (some k) st) (p:lo<=hi) (o:hi<=n) (q:∀i,i<lo->a i=true) (r:∀i,hi<=i->i<n->a i=false):wpS (model prog w) A E s (lm left key arr base n lo hi) Q st:=by
 unfold lm;refine wpS_bind (wpS_mono (wpS_forRange (I:=λx c b=>b=st/\∃lo hi,c=(none,lo,hi)/\lo<=hi/\hi<=n/\hi-lo<=n-x/\(∀i,i<lo->a i=true)/\∀i,hi<=i->i<n->a i=false) (Q:=λc b=>b=st/\∃k,c=(none,k,k)/\k<=n/\(∀i,i<k->a i=true)/\∀i,k<=i->i<n->a i=false) ?_ ?_ ⟨U,lo,hi,U,p,o,Yo,q,r⟩) ?_)
 .rintro x c b _ _ ⟨rfl,lo,hi,rfl,l,d,m,f,g⟩;dsimp only;by_cases c1:lo >= hi
  .rw[Q0 c1];obtain rfl:lo=hi:=Yo;exact wpS_pure ⟨U,lo,U,d,f,g⟩
  .rw[qZ c1];refine wpS_bind (hp _ Yo _ ?_);dsimp only
   cases e:a (lo+(hi-lo) / 2)with
   |true=>
    rw[Q0 U];exact wpS_pure ⟨U,_,_,U,Yo,d,Yo,λi _=>mono i _ Yo Yo e,g⟩
   |false=>
    rw[qZ Yk];refine wpS_pure ⟨U,_,_,U,Yo,Yo,Yo,f,λi b1 b2=>?_⟩
    cases e2:a i with
    |false=>rfl
    |true=>rw[mono _ i b1 b2 e2]at e;cases e
 .rintro c b ⟨rfl,lo,hi,rfl,l,d,m,f,g⟩;obtain rfl:lo=hi:=Yo;exact⟨U,lo,U,d,f,g⟩
 .rintro c b ⟨rfl,k,rfl,l,d,m⟩;exact wpS_pure (h k l d m)
theorem yR(d:Nat->Bool)
 (hp:∀i,i<n->∀Q:Option Bool->SortSt->Prop,Q (some (d i)) st->wpS (model prog w) A E s (byd left key arr base i) Q st)
 (mono:∀i j,i<=j->j<n->d j=true->d i=true) (t:ι<n)
 (h:∀k,k<=n->(∀i,i<k->d i=true)->(∀i,k<=i->i<n->d i=false)->Q (some k) st):wpS (model prog w) A E s (cS left key arr base n ι) Q st:=by
 have o:∀i j,i<=j->j<n->d i=false->d j=false:=λi j u q hi=>by
  cases e:d j with
  |false=>rfl
  |true=>rw[mono i j u q e]at hi;cases hi
 rw[EB];refine wpS_bind (hp ι t _ ?_);dsimp only
 cases e:d ι with
 |true=>
  simp only[if_true];refine wpS_bind (wpS_mono (wpS_forRange (I:=λx c b=>b=st/\∃la a,c=(none,la,a)/\la<a/\x<a/\ι+la<n/\d (ι+la)=true) (Q:=λc b=>b=st/\∃la a,c=(none,la,a)/\la<a/\ι+la<n/\d (ι+la)=true/\(a >= n-ι\/d (ι+a)=false)) ?_ ?_ ⟨U,0,1,U,Yo,Yo,Yo,e⟩) ?_)
  .rintro x c b _ r ⟨rfl,la,a,rfl,l,p,g,f⟩;dsimp only;by_cases c1:a >= n-ι
   .rw[Q0 c1];exact wpS_pure ⟨U,la,a,U,l,g,f,.inl c1⟩
   .rw[qZ c1];refine wpS_bind (hp _ Yo _ ?_);dsimp only
    cases e2:d (ι+a)with
    |true=>
     rw[qZ Yk];exact wpS_pure ⟨U,a,_,U,Yo,Yo,Yo,e2⟩
    |false=>
     rw[Q0 Yk];exact wpS_pure ⟨U,la,a,U,l,g,f,.inr e2⟩
  .rintro c b ⟨rfl,la,a,rfl,l,p,g,f⟩;exact⟨U,la,a,U,l,g,f,.inl Yo⟩
  .rintro c b ⟨rfl,la,a,rfl,l,g,f,m⟩;show wpS (model prog w) A E s (lm left key arr base n (ι+la+1) (ι+min a (n-ι))) Q _;refine sh d hp mono h Yo Yo (λi hi=>mono i _ Yo g f) λi b1 b2=>?_;rcases m with m|m
   .omega
   .rcases Nat.lt_or_ge a (n-ι)with c2|c2
    .exact o _ i Yo b2 m
    .omega
 |false=>
  simp only[Qk,if_false];refine wpS_bind (wpS_mono (wpS_forRange (I:=λx c b=>b=st/\∃la a,c=(none,la,a)/\la<a/\x<a/\la<=ι/\d (ι-la)=false) (Q:=λc b=>b=st/\∃la a,c=(none,la,a)/\la<a/\la<=ι/\d (ι-la)=false/\(a >= ι+1\/d (ι-a)=true)) ?_ ?_ ⟨U,0,1,U,Yo,Yo,Yo,e⟩) ?_)
  .rintro x c b _ r ⟨rfl,la,a,rfl,l,p,g,f⟩;dsimp only;by_cases c1:a >= ι+1
   .rw[Q0 c1];exact wpS_pure ⟨U,la,a,U,l,g,f,.inl c1⟩
   .rw[qZ c1];refine wpS_bind (hp _ Yo _ ?_);dsimp only
    cases e2:d (ι-a)with
    |true=>
     rw[Q0 U];exact wpS_pure ⟨U,la,a,U,l,g,f,.inr e2⟩
    |false=>
     rw[qZ Yk];exact wpS_pure ⟨U,a,_,U,Yo,Yo,Yo,e2⟩
  .rintro c b ⟨rfl,la,a,rfl,l,p,g,f⟩;exact⟨U,la,a,U,l,g,f,.inl Yo⟩
  .rintro c b ⟨rfl,la,a,rfl,l,g,f,m⟩;show wpS (model prog w) A E s (lm left key arr base n (ι+1-min a (ι+1)) (ι-la)) Q _;refine sh d hp mono h Yo Yo (λi hi=>?_) λi b1 b2=>o _ i Yo b2 f;rcases m with m|m
   .omega
   .rcases Nat.lt_or_ge a (ι+1)with c2|c2
    .exact mono i _ Yo Yo m
    .omega
end
theorem yT(d:κ.OneLt){left:Bool}{a:Keyed}{b:Array Keyed}{base:Nat}{p:Keyed}{st:SortSt}{Q:Option Bool->SortSt->Prop}(hk:kindOf st=oneType')(f:KOk κ a)(e:b[base+i]?=some p)(c:KOk κ p)(h:Q (some (if left=true then κ.blt (ky κ p) (ky κ a)else !κ.blt (ky κ a) (ky κ p))) st):wpS (model prog w) A E s (byd left a b base i) Q st:=by
 unfold byd;refine wpS_bind (bM e ?_)
 cases left with
 |true=>exact jt d hk c f h
 |false=>exact wpS_bind (jt d hk f c (wpS_pure h))
end
section
variable {κ:KeyKind}
structure MS(r:Keyed->Keyed->Prop)(T o X Y:List Keyed):Prop where
 pm:(o++X++Y).Perm T
 sx:(o++X).Pairwise r
 sy:(o++Y).Pairwise r
section
variable {r:Keyed->Keyed->Prop}{T o X Y Z:List Keyed}
theorem MS.left(h:MS r T o (Z++X) Y)(k:∀x∈Z,∀y∈Y,r x y):MS r T (o++Z) X Y:=by
 refine⟨?_,?_,?_⟩
 .have:=h.pm;simpa[qM]using this
 .rw[qM];exact h.sx
 .have s1:=h.sx;have a:=h.sy;rw[<- qM]at s1;rw[List.pairwise_append]at s1 a ⊢;refine⟨s1.1,a.2.1,λx c y b=>?_⟩;rcases qg.mp c with q|q
  .exact a.2.2 x q y b
  .exact k x q y b
theorem MS.right(h:MS r T o X (Z++Y))(k:∀y∈Z,∀x∈X,r y x):MS r T (o++Z) X Y:=by
 refine⟨?_,?_,?_⟩
 .refine List.Perm.trans ?_ h.pm;rw[qM,qM,qM];refine List.Perm.append_left _ ?_;rw[<- qM,<- qM];exact List.perm_append_comm.append_right _
 .have s1:=h.sx;have a:=h.sy;rw[<- qM]at a;rw[List.pairwise_append]at s1 a ⊢;refine⟨a.1,s1.2.1,λx c y b=>?_⟩;rcases qg.mp c with q|q
  .exact s1.2.2 x q y b
  .exact k x q y b
 .rw[qM];exact h.sy
def Mgd(r:Keyed->Keyed->Prop)(T out:List Keyed):Prop:=out.Perm T/\out.Pairwise r
theorem MS.endY(h:MS r T o X []):Mgd r T (o++X):=⟨by have:=h.pm;rwa [qw]at this,h.sx⟩
theorem MS.endX(h:MS r T o [] Y):Mgd r T (o++Y):=⟨by have:=h.pm;rwa [qw]at this,h.sy⟩
theorem MS.lastX{z:Keyed}(h:MS r T o [z] Y)(k:∀y∈Y,r y z):Mgd r T (o++Y++[z]):=by
 refine⟨?_,?_⟩
 .refine List.Perm.trans ?_ h.pm;rw[qM,qM];exact List.Perm.append_left _ List.perm_append_comm
 .have s1:=h.sx;have b:=h.sy;rw[List.pairwise_append]at s1 b ⊢;refine⟨List.pairwise_append.mpr b,List.pairwise_singleton _ _,λx c y a=>?_⟩;rcases qg.mp c with q|q
  .exact s1.2.2 x q y a
  .obtain rfl:=qS.mp a;exact k x q
end
def kLe(κ:KeyKind)(p q:Keyed):Prop:=κ.kle (ky κ p) (ky κ q)
def kLt(κ:KeyKind)(p q:Keyed):Prop:=κ.klt (ky κ p) (ky κ q)
theorem kLt.le{p q:Keyed}(h:kLt κ p q):kLe κ p q:=KeyOrd.kle_of_klt h
def pf:Array Keyed->Array Keyed->StateT SortSt Sem (Array Keyed):=sortPriv% PySem.Builtin.mergeLo
def dH(g:Nat):StateT SortSt Sem Unit:=modify λs=>SortSt.mk' (kindOf s) (arrOf s) (pendingOf s) g (failedOf s)
def dX(a b out:Array Keyed)(ia ib:Nat):Array Keyed:=out++a.extract ia a.size++b.extract ib b.size
def hJ(a b out:Array Keyed)(ia ib:Nat):Array Keyed:=out++b.extract ib b.size++a.extract ia a.size
abbrev L6:Type:=Option (Array Keyed)×Array Keyed×Nat×Nat×Nat×Nat
abbrev L7:Type:=Option (Array Keyed)×Array Keyed×Nat×Nat×Nat×Nat×Nat
noncomputable def lo1(a b:Array Keyed)(mg:Nat)(c:L6):StateT SortSt Sem (ForInStep L6):=do
 let y <- elem' b c.2.2.2.1
 let x <- elem' a c.2.2.1
 let t <- lt' y x
 match t with
 |some B=>
  if B=true then do
   let y <- elem' b c.2.2.2.1
   if(c.2.2.2.1+1 == b.size)=true then pure (.done (some (dX a b (c.2.1.push y) c.2.2.1 (c.2.2.2.1+1)),c.2.1.push y,c.2.2.1,c.2.2.2.1+1,0,c.2.2.2.2.2+1))
   else if c.2.2.2.2.2+1 >= mg then pure (.done (none,c.2.1.push y,c.2.2.1,c.2.2.2.1+1,0,c.2.2.2.2.2+1))
   else pure (.yield (none,c.2.1.push y,c.2.2.1,c.2.2.2.1+1,0,c.2.2.2.2.2+1))
  else do
   let x <- elem' a c.2.2.1
   if(c.2.2.1+1+1 == a.size)=true then pure (.done (some (hJ a b (c.2.1.push x) (c.2.2.1+1) c.2.2.2.1),c.2.1.push x,c.2.2.1+1,c.2.2.2.1,c.2.2.2.2.1+1,0))
   else if c.2.2.2.2.1+1 >= mg then pure (.done (none,c.2.1.push x,c.2.2.1+1,c.2.2.2.1,c.2.2.2.2.1+1,0))
   else pure (.yield (none,c.2.1.push x,c.2.2.1+1,c.2.2.2.1,c.2.2.2.2.1+1,0))
 |_=>pure (.done (some (dX a b c.2.1 c.2.2.1 c.2.2.2.1),c.2.1,c.2.2.1,c.2.2.2.1,c.2.2.2.2.1,c.2.2.2.2.2))
noncomputable def kL(a b out:Array Keyed)(ia ib mg ac bc:Nat):StateT SortSt Sem (ForInStep L7):=do
 let x <- elem' a ia
 if(ia+1+1 == a.size)=true then pure (.done (some (hJ a b (out.push x) (ia+1) ib),out.push x,ia+1,ib,mg,ac,bc))
 else if(decide (ac<7) && decide (bc<7))=true then pure (.done (none,out.push x,ia+1,ib,mg,ac,bc))
 else pure (.yield (none,out.push x,ia+1,ib,mg,ac,bc))
noncomputable def kM(a b out:Array Keyed)(ia ib mg ac bc:Nat):StateT SortSt Sem (ForInStep L7):=do
 let y <- elem' b ib
 if(ib+1 == b.size)=true then pure (.done (some (dX a b (out.push y) ia (ib+1)),out.push y,ia,ib+1,mg,ac,bc))
 else do
  let x <- elem' a ia
  let t <- cS true x b (ib+1) (b.size-(ib+1)) 0
  match t with
  |some k=>
   if k > 0 then
    if(ib+1+k == b.size)=true then pure (.done (some (dX a b (out.push y++b.extract (ib+1) (ib+1+k)) ia (ib+1+k)),out.push y++b.extract (ib+1) (ib+1+k),ia,ib+1+k,mg,ac,k))
    else kL a b (out.push y++b.extract (ib+1) (ib+1+k)) ia (ib+1+k) mg ac k
   else kL a b (out.push y) ia (ib+1) mg ac k
  |_=>pure (.done (some (dX a b (out.push y) ia (ib+1)),out.push y,ia,ib+1,mg,ac,bc))
noncomputable def lo3(a b out:Array Keyed)(ia ib mg ac bc:Nat):StateT SortSt Sem (ForInStep L7):=do
 dH mg
 let y <- elem' b ib
 let t <- cS false y a ia (a.size-ia) 0
 match t with
 |some k=>
  if k > 0 then
   if(ia+k+1 == a.size)=true then pure (.done (some (hJ a b (out++a.extract ia (ia+k)) (ia+k) ib),out++a.extract ia (ia+k),ia+k,ib,mg,k,bc))
   else if(ia+k == a.size)=true then pure (.done (some (dX a b (out++a.extract ia (ia+k)) (ia+k) ib),out++a.extract ia (ia+k),ia+k,ib,mg,k,bc))
   else kM a b (out++a.extract ia (ia+k)) (ia+k) ib mg k bc
  else kM a b out ia ib mg k bc
 |_=>pure (.done (some (dX a b out ia ib),out,ia,ib,mg,ac,bc))
theorem DF(a b:Array Keyed):pf a b=(do
 rule "list.sort.merge-lo"
 let c:=a.size+b.size
 let fin (out:Array Keyed) (ia ib:Nat):=out++a.extract ia a.size++b.extract ib b.size
 let lst (out:Array Keyed) (ia ib:Nat):=out++b.extract ib b.size++a.extract ia a.size
 let mut out:Array Keyed:=#[<- elem' b 0]
 let mut ia:=0
 let mut ib:=1
 if ib == b.size then return fin out ia ib
 if ia+1 == a.size then return lst out ia ib
 let mut mg:=gallopOf (<- get)
 for _ in[0:c] do
  let mut ac:=0
  let mut bc:=0
  for _ in[0:c] do
   let some d <- lt' (<- elem' b ib) (<- elem' a ia)|return fin out ia ib
   if d then
    out:=out.push (<- elem' b ib);ib:=ib+1;bc:=bc+1;ac:=0
    if ib == b.size then return fin out ia ib
    if bc >= mg then break
   else
    out:=out.push (<- elem' a ia);ia:=ia+1;ac:=ac+1;bc:=0
    if ia+1 == a.size then return lst out ia ib
    if ac >= mg then break
  rule "list.sort.gallop"
  mg:=mg+1
  for _ in[0:c] do
   if mg > 1 then mg:=mg-1
   dH mg
   let some k <- cS false (<- elem' b ib) a ia (a.size-ia) 0|return fin out ia ib
   ac:=k
   if k > 0 then
    out:=out++a.extract ia (ia+k);ia:=ia+k
    if ia+1 == a.size then return lst out ia ib
    if ia == a.size then return fin out ia ib
   out:=out.push (<- elem' b ib);ib:=ib+1
   if ib == b.size then return fin out ia ib
   let some k <- cS true (<- elem' a ia) b ib (b.size-ib) 0|return fin out ia ib
   bc:=k
   if k > 0 then
    out:=out++b.extract ib (ib+k);ib:=ib+k
    if ib == b.size then return fin out ia ib
   out:=out.push (<- elem' a ia);ia:=ia+1
   if ia+1 == a.size then return lst out ia ib
   if ac<7 && bc<7 then break
  mg:=mg+1
  dH mg
 unsupported "internal:list.sort.merge-bound"):=U
def pb(κ:KeyKind)(left:Bool)(key p:Keyed):Bool:=if left=true then κ.blt (ky κ p) (ky κ key)else !κ.blt (ky κ key) (ky κ p)
theorem Cg{left:Bool}{a p q:Keyed}(h:kLe κ p q)(e:pb κ left a q=true):pb κ left a p=true:=by
 unfold pb at *
 cases left with
 |true=>exact KeyOrd.klt_of_kle_of_klt h e
 |false=>
  have e:(!κ.blt (ky κ a) (ky κ q))=true:=e;show(!κ.blt (ky κ a) (ky κ p))=true;have e:κ.blt (ky κ a) (ky κ q)=false:=by simpa using e
  have:κ.kle (ky κ p) (ky κ a):=KeyOrd.kle_trans h e;rw[show κ.blt (ky κ a) (ky κ p)=false from this]
  rfl
theorem gu(D:κ.OneLt){left:Bool}{b:Keyed}{a:Array Keyed}{base n d:Nat}{st:SortSt}{Q:Option Nat->SortSt->Prop}(hk:kindOf st=oneType')(y:KOk κ b)(ok:∀p∈a.toList,KOk κ p)(hb:base+n<=a.size)(t:d<n)(so:((a.toList.drop base).take n).Pairwise (kLe κ))
 (h:∀k,k<=n->(∀p∈((a.toList.drop base).take n).take k,pb κ left b p=true)->(∀p∈((a.toList.drop base).take n).drop k,pb κ left b p=false)->Q (some k) st):wpS (model prog w) A E s (cS left b a base n d) Q st:=by
 have ln:((a.toList.drop base).take n).length=n:=by rw[qJ,qY,qL];lia
 have g:∀i,i<n->a[base+i]?=((a.toList.drop base).take n)[i]?:=λi hi=>by
  rw[List.getElem?_take_of_lt hi,List.getElem?_drop,qT]
 have mem:∀p∈(a.toList.drop base).take n,p∈a.toList:=λp hp=>List.mem_of_mem_drop (List.mem_of_mem_take hp);generalize (a.toList.drop base).take n=L at ln g so h mem;have get:∀i,i<n->∃p,L[i]?=some p/\p∈L:=λi hi=>⟨L[i]' Yo,qb Yo,List.getElem_mem _⟩;refine yR (λi=>match L[i]? with|some p=>pb κ left b p|none=>false) (λi hi _ o=>?_) (λi j B u e=>?_) t (λk C x v=>h k C (λp hp=>?_) (λp hp=>?_))
 .obtain⟨p,e,hp⟩:=get i hi;rw[e]at o;exact yT D hk y (by rwa[g i hi]) (ok p (mem p hp)) o
 .obtain⟨p,l,_⟩:=get i Yo;obtain⟨q,f,_⟩:=get j u;rw[f]at e;rw[l];rcases Nat.lt_or_eq_of_le B with c|rfl
  .refine Cg ?_ e;rw[List.pairwise_iff_getElem]at so;have:=so i j Yo Yo c;obtain⟨_,z⟩:=qe.mp l;obtain⟨_,r⟩:=qe.mp f
   rwa [z,r]at this
  .rw[l]at f;cases f;exact e
 .obtain⟨i,hi⟩:=List.getElem?_of_mem hp;have m:=(qe.mp hi).1;rw[qJ]at m;rw[List.getElem?_take_of_lt Yo]at hi;have:=x i Yo
  rwa [hi]at this
 .obtain⟨i,hi⟩:=List.getElem?_of_mem hp;have m:=(qe.mp hi).1;rw[qY]at m;rw[List.getElem?_drop]at hi;have:=v (k+i) Yo Yo
  rwa [hi]at this
theorem drp{a:Array Keyed}(h:i<a.size):∃x,a[i]?=some x/\a.toList.drop i=x::a.toList.drop (i+1)/\x∈a.toList:=by
 have hl:i<a.toList.length:=by rwa[qL]
 exact⟨a.toList[i],by rw[<- qT];exact qb hl,List.drop_eq_getElem_cons hl,List.getElem_mem _⟩
theorem lE(a:Array Keyed)(i:Nat):(a.extract i a.size).toList=a.toList.drop i:=by
 rw[Array.toList_extract,List.extract_eq_take_drop,List.take_of_length_le (by rw[qY,qL];lia)]
theorem xD(a:Array Keyed)(i k:Nat):(a.extract i (i+k)).toList=(a.toList.drop i).take k:=by
 rw[Array.toList_extract,List.extract_eq_take_drop,Nat.add_sub_cancel_left]
theorem EU(a b out:Array Keyed)(d c:Nat):(dX a b out d c).toList=out.toList++a.toList.drop d++b.toList.drop c:=by
 unfold dX;rw[Array.toList_append,Array.toList_append,lE,lE]
theorem DQ(a b out:Array Keyed)(d c:Nat):(hJ a b out d c).toList=out.toList++b.toList.drop c++a.toList.drop d:=by
 unfold hJ;rw[Array.toList_append,Array.toList_append,lE,lE]
structure ir(κ:KeyKind)(a b:Array Keyed):Prop where
 ka:∀p∈a.toList,KOk κ p
 kb:∀p∈b.toList,KOk κ p
 za:0<a.size
 zb:0<b.size
 la:∀y∈b.toList,∀z,a[a.size-1]?=some z->kLt κ y z
structure LoI(κ:KeyKind)(a b:Array Keyed)(n:Nat)(out:Array Keyed)(ia ib:Nat):Prop where
 ms:MS (kLe κ) (a.toList++b.toList) out.toList (a.toList.drop ia) (b.toList.drop ib)
 ha:ia+1<a.size
 hb:ib<b.size
 hn:n<=out.size
def ba(st B:SortSt):Prop:=kindOf B=kindOf st/\arrOf B=arrOf st/\pendingOf B=pendingOf st/\failedOf B=failedOf st
theorem ba.refl(st:SortSt):ba st st:=⟨U,U,U,U⟩
theorem ba.trans{x y z:SortSt}(h:ba x y)(k:ba y z):ba x z:=⟨k.1.trans h.1,k.2.1.trans h.2.1,k.2.2.1.trans h.2.2.1,k.2.2.2.trans h.2.2.2⟩
def bD(κ:KeyKind)(a b r:Array Keyed):Prop:=Mgd (kLe κ) (a.toList++b.toList) r.toList
section
variable {a b out:Array Keyed}{ia ib n:Nat}
theorem pB{o X Y T:List Keyed}(h:MS (kLe κ) T o X Y):X.Pairwise (kLe κ)/\Y.Pairwise (kLe κ):=⟨(List.pairwise_append.mp h.sx).2.1,(List.pairwise_append.mp h.sy).2.1⟩
theorem j3(h:MS (kLe κ) (a.toList++b.toList) out.toList (a.toList.drop ia) (b.toList.drop ib))(e:ia=a.size\/ib=b.size):bD κ a b (dX a b out ia ib):=by
 unfold bD;rw[EU];rcases e with rfl|rfl
 .have e0:a.toList.drop a.size=[]:=List.drop_of_length_le (by rw[qL];exact qd _);rw[e0]at h ⊢;rw[qw];exact h.endX
 .have e0:b.toList.drop b.size=[]:=List.drop_of_length_le (by rw[qL];exact qd _);rw[e0]at h ⊢;rw[qw];exact h.endY
theorem kK(pre:ir κ a b)(h:MS (kLe κ) (a.toList++b.toList) out.toList (a.toList.drop ia) (b.toList.drop ib))(e:ia+1=a.size):bD κ a b (hJ a b out ia ib):=by
 unfold bD;rw[DQ];obtain⟨z,f,c,_⟩:=drp (a:=a) (i:=ia) Yo;have e0:a.toList.drop (ia+1)=[]:=List.drop_of_length_le (by rw[qL];lia);rw[e0]at c;rw[c]at h ⊢;refine h.lastX λy d=>(pre.la y (List.mem_of_mem_drop d) z ?_).le;rwa[show a.size-1=ia by lia]
theorem pA(h:MS (kLe κ) (a.toList++b.toList) out.toList (a.toList.drop ia) (b.toList.drop ib)){y:Keyed}(e:b.toList.drop ib=y::b.toList.drop (ib+1))(le:∀x∈a.toList.drop ia,kLe κ y x):MS (kLe κ) (a.toList++b.toList) (out.push y).toList (a.toList.drop ia) (b.toList.drop (ib+1)):=by
 rw[e]at h;rw[Array.toList_push];exact MS.right (Z:=[y]) h λ_ c x d=>by obtain rfl:=qS.mp c;exact le x d
theorem wo(h:MS (kLe κ) (a.toList++b.toList) out.toList (a.toList.drop ia) (b.toList.drop ib)){x:Keyed}(dx:a.toList.drop ia=x::a.toList.drop (ia+1))(le:∀y∈b.toList.drop ib,kLe κ x y):MS (kLe κ) (a.toList++b.toList) (out.push x).toList (a.toList.drop (ia+1)) (b.toList.drop ib):=by
 rw[dx]at h;rw[Array.toList_push];exact MS.left (Z:=[x]) h λ_ c y d=>by obtain rfl:=qS.mp c;exact le y d
theorem j8{x:Keyed}{X:List Keyed}(h:(x::X).Pairwise (kLe κ)):∀z∈x::X,kLe κ x z:=λz hz=>by
 rcases qt.mp hz with rfl|hz
 .exact KeyOrd.kle_refl _
 .exact(List.pairwise_cons.mp h).1 z hz
theorem yP(q:κ.OneLt){st:SortSt}(hk:kindOf st=oneType')(pre:ir κ a b){mg:Nat}(h:LoI κ a b n out ia ib){R:ForInStep L6->SortSt->Prop}
 (k:∀r c,bD κ a b r->R (.done (some r,c)) st) (o:∀out ia ib ac bc,LoI κ a b (n+1) out ia ib->R (.done (none,out,ia,ib,ac,bc)) st) (m:∀out ia ib ac bc,LoI κ a b (n+1) out ia ib->R (.yield (none,out,ia,ib,ac,bc)) st):
 wpS (model prog w) A E s (lo1 a b mg (none,out,ia,ib,ac,bc)) R st:=by
 obtain⟨y,l,j,p⟩:=drp h.hb;obtain⟨x,ex,dx,t⟩:=drp (a:=a) (i:=ia) (by have:=h.ha;lia);obtain⟨sx,sy⟩:=pB h.ms;unfold lo1;refine wpS_bind (bM l (wpS_bind (bM ex (wpS_bind (jt q hk (pre.kb y p) (pre.ka x t) ?_)))));dsimp only;have u:=h.hn
 cases e:κ.blt (ky κ y) (ky κ x)with
 |true=>
  rw[Q0 U];refine wpS_bind (bM l ?_)
  have d:=pA h.ms j λz hz=>by
   rw[dx]at hz sx;exact KeyOrd.kle_trans (KeyOrd.kle_of_klt e) (j8 sx z hz)
  have f:n+1<=(out.push y).size:=by rw[Array.size_push];lia
  by_cases c1:ib+1=b.size
  .rw[Q0 (by simpa using c1)];exact wpS_pure (k _ _ (j3 d (.inr c1)))
  .rw[qZ (by simpa using c1)];have g:LoI κ a b (n+1) (out.push y) ia (ib+1):=⟨d,h.ha,by have:=h.hb;lia,f⟩;by_cases c2:bc+1 >= mg
   .rw[Q0 c2];exact wpS_pure (o _ _ _ _ _ g)
   .rw[qZ c2];exact wpS_pure (m _ _ _ _ _ g)
 |false=>
  rw[qZ Yk];refine wpS_bind (bM ex ?_)
  have d:=wo h.ms dx λz hz=>by
   rw[j]at hz sy;exact KeyOrd.kle_trans (show κ.kle (ky κ x) (ky κ y)from e) (j8 sy z hz)
  have f:n+1<=(out.push x).size:=by rw[Array.size_push];lia
  by_cases c1:ia+1+1=a.size
  .rw[Q0 (by simpa using c1)];exact wpS_pure (k _ _ (kK pre d c1))
  .rw[qZ (by simpa using c1)];have g:LoI κ a b (n+1) (out.push x) (ia+1) ib:=⟨d,by have:=h.ha;lia,h.hb,f⟩;by_cases c2:ac+1 >= mg
   .rw[Q0 c2];exact wpS_pure (o _ _ _ _ _ g)
   .rw[qZ c2];exact wpS_pure (m _ _ _ _ _ g)
end
end
section
variable {κ:KeyKind}
section
variable {a b out:Array Keyed}{ia ib n:Nat}
theorem rV{st:SortSt}(pre:ir κ a b){mg:Nat}(ms:MS (kLe κ) (a.toList++b.toList) out.toList (a.toList.drop ia) (b.toList.drop ib))(ha:ia+1<a.size)(hb:ib<b.size)(hn:n<=out.size){x:Keyed}(ex:a[ia]?=some x)(le:∀y∈b.toList.drop ib,kLe κ x y){R:ForInStep L7->SortSt->Prop}
 (h:∀r c,bD κ a b r->R (.done (some r,c)) st) (k:∀out ia ib mg ac bc,LoI κ a b n out ia ib->R (.done (none,out,ia,ib,mg,ac,bc)) st) (j:∀out ia ib mg ac bc,LoI κ a b n out ia ib->R (.yield (none,out,ia,ib,mg,ac,bc)) st):
 wpS (model prog w) A E s (kL a b out ia ib mg ac bc) R st:=by
 obtain⟨_,d,dx,_⟩:=drp (a:=a) (i:=ia) Yo;rw[ex]at d;obtain rfl:=qI d;unfold kL;refine wpS_bind (bM ex ?_);have e:=wo ms dx le;have f:n<=(out.push x).size:=by rw[Array.size_push];lia
 by_cases c1:ia+1+1=a.size
 .rw[Q0 (by simpa using c1)];exact wpS_pure (h _ _ (kK pre e c1))
 .rw[qZ (by simpa using c1)];have g:LoI κ a b n (out.push x) (ia+1) ib:=⟨e,Yo,hb,f⟩;by_cases c2:(decide (ac<7) && decide (bc<7))=true
  .rw[Q0 c2];exact wpS_pure (k _ _ _ _ _ _ g)
  .rw[qZ c2];exact wpS_pure (j _ _ _ _ _ _ g)
theorem jI(a:Array Keyed)(i:Nat):(a.toList.drop i).take (a.size-i)=a.toList.drop i:=List.take_of_length_le (by rw[qY,qL];lia)
theorem rW(G:κ.OneLt){st:SortSt}(hk:kindOf st=oneType')(pre:ir κ a b){mg:Nat}(ms:MS (kLe κ) (a.toList++b.toList) out.toList (a.toList.drop ia) (b.toList.drop ib))(ha:ia+1<a.size)(hb:ib<b.size)(hn:n<=out.size){y:Keyed}(p:b[ib]?=some y)(lt:∀x∈a.toList.drop ia,kLt κ y x){R:ForInStep L7->SortSt->Prop}
 (g:∀r c,bD κ a b r->R (.done (some r,c)) st) (B:∀out ia ib mg ac bc,LoI κ a b n out ia ib->R (.done (none,out,ia,ib,mg,ac,bc)) st) (v:∀out ia ib mg ac bc,LoI κ a b n out ia ib->R (.yield (none,out,ia,ib,mg,ac,bc)) st):
 wpS (model prog w) A E s (kM a b out ia ib mg ac bc) R st:=by
 obtain⟨d,j,F,_⟩:=drp hb;rw[p]at j;obtain rfl:=qI j;obtain⟨x,ex,dx,D⟩:=drp (a:=a) (i:=ia) Yo;unfold kM;refine wpS_bind (bM p ?_);have f:=pA ms F λz hz=>(lt z hz).le;have u:n<=(out.push y).size:=by rw[Array.size_push];lia
 obtain⟨sx,sy⟩:=pB f;by_cases c1:ib+1=b.size
 .rw[Q0 (by simpa using c1)];exact wpS_pure (g _ _ (j3 f (.inr c1)))
 .rw[qZ (by simpa using c1)];refine wpS_bind (bM ex (wpS_bind (gu G hk (pre.ka x D) pre.kb Yo Yo (by rwa[jI]) λk _ t m=>?_)));rw[jI]at t m;dsimp only;have q:(b.toList.drop (ib+1)).drop k=b.toList.drop (ib+1+k):=by rw[List.drop_drop]
  rw[q]at m;have h:∀d∈b.toList.drop (ib+1+k),kLe κ x d:=λd e=>m d e
  have o:MS (kLe κ) (a.toList++b.toList) (out.push y++b.extract (ib+1) (ib+1+k)).toList (a.toList.drop ia) (b.toList.drop (ib+1+k)):=by
   rw[Array.toList_append,xD];refine MS.right (Z:=(b.toList.drop (ib+1)).take k) (by rwa[<- q,Qu]) λd e C l=>?_;have l1:kLt κ d x:=t d e;rw[dx]at l sx;exact KeyOrd.kle_trans l1.le (j8 sx C l)
  by_cases c2:k > 0
  .rw[Q0 c2];by_cases c3:ib+1+k=b.size
   .rw[Q0 (by simpa using c3)];exact wpS_pure (g _ _ (j3 o (.inr c3)))
   .rw[qZ (by simpa using c3)];exact rV pre o ha Yo (by rw[Array.size_append];lia) ex h g B v
  .rw[qZ c2];obtain rfl:k=0:=Yo;exact rV pre f ha Yo u ex h g B v
theorem rX(v:κ.OneLt){st:SortSt}(hk:kindOf st=oneType')(pre:ir κ a b){mg:Nat}(h:LoI κ a b n out ia ib){R:ForInStep L7->SortSt->Prop}
 (l:∀r c d,ba st d->bD κ a b r->R (.done (some r,c)) d) (F:∀out ia ib mg ac bc d,ba st d->LoI κ a b n out ia ib->R (.done (none,out,ia,ib,mg,ac,bc)) d) (C:∀out ia ib mg ac bc d,ba st d->LoI κ a b n out ia ib->R (.yield (none,out,ia,ib,mg,ac,bc)) d):
 wpS (model prog w) A E s (lo3 a b out ia ib mg ac bc) R st:=by
 obtain⟨y,t,H,G⟩:=drp h.hb;obtain⟨sx,sy⟩:=pB h.ms;have ha:=h.ha;unfold lo3 dH;refine wpS_bind (wpS_modify ?_);have ss:ba st (SortSt.mk' (kindOf st) (arrOf st) (pendingOf st) mg (failedOf st)):=⟨U,U,U,U⟩;have e:kindOf (SortSt.mk' (kindOf st) (arrOf st) (pendingOf st) mg (failedOf st))=oneType':=hk;generalize SortSt.mk' (kindOf st) (arrOf st) (pendingOf st) mg (failedOf st)=st2 at ss e ⊢;refine wpS_bind (bM t (wpS_bind (gu v e (pre.kb y G) pre.ka Yo Yo (by rwa[jI]) λk _ B u=>?_)));rw[jI]at B u;dsimp only;have z:(a.toList.drop ia).drop k=a.toList.drop (ia+k):=by rw[List.drop_drop]
 rw[z]at u
 have m:∀x∈a.toList.drop (ia+k),kLt κ y x:=λx J=>by
  have:=u x J;have this:(!κ.blt (ky κ y) (ky κ x))=false:=this;show κ.blt (ky κ y) (ky κ x)=true;simpa using this
 have q:MS (kLe κ) (a.toList++b.toList) (out++a.extract ia (ia+k)).toList (a.toList.drop (ia+k)) (b.toList.drop ib):=by
  rw[Array.toList_append,xD];refine MS.left (Z:=(a.toList.drop ia).take k) (by rw[<- z,Qu];exact h.ms) λf D I p=>?_;have l1:(!κ.blt (ky κ y) (ky κ f))=true:=B f D;have l1:κ.blt (ky κ y) (ky κ f)=false:=by simpa using l1
  rw[H]at p sy;exact KeyOrd.kle_trans (show κ.kle (ky κ f) (ky κ y)from l1) (j8 sy I p)
 by_cases c2:k > 0
 .rw[Q0 c2];by_cases c3:ia+k+1=a.size
  .rw[Q0 (by simpa using c3)];exact wpS_pure (l _ _ _ ss (kK pre q c3))
  .rw[qZ (by simpa using c3)];by_cases c4:ia+k=a.size
   .rw[Q0 (by simpa using c4)];exact wpS_pure (l _ _ _ ss (j3 q (.inl c4)))
   .rw[qZ (by simpa using c4)];exact rW v e pre q Yo h.hb (by have:=h.hn;rw[Array.size_append];lia) t m (λr c=>l r c _ ss) (λo i j g x y=>F o i j g x y _ ss) (λo i j g x y=>C o i j g x y _ ss)
 .rw[qZ c2];obtain rfl:k=0:=Yo;exact rW v e pre h.ms ha h.hb h.hn t m (λr c=>l r c _ ss) (λo i j g x y=>F o i j g x y _ ss) (λo i j g x y=>C o i j g x y _ ss)
theorem LoI.less(h:LoI κ a b m out ia ib)(k:n<=m):LoI κ a b n out ia ib:=⟨h.ms,h.ha,h.hb,qx k h.hn⟩
theorem LoI.room(h:LoI κ a b n out ia ib):n<a.size+b.size:=by
 have l:=h.ms.pm.length_eq;simp only[qa,qY,qL]at l;have:=h.ha;have:=h.hb;have:=h.hn;lia
theorem yM(F:κ.OneLt){st:SortSt}(hk:kindOf st=oneType')(pre:ir κ a b)(sa:a.toList.Pairwise (kLe κ))(H:b.toList.Pairwise (kLe κ))(f0:∀y,b[0]?=some y->∀x∈a.toList,kLe κ y x){Q:Array Keyed->SortSt->Prop}(q:∀r j,ba st j->bD κ a b r->Q r j):wpS (model prog w) A E s (pf a b) Q st:=by
 rw[DF];refine wpS_bind (wpS_lift (wpAny_rule ⟨U,?_⟩));dsimp only;obtain⟨y,G,L,_⟩:=drp pre.zb;have za:=pre.za;have zb:=pre.zb;refine wpS_bind (bM G ?_);have N:MS (kLe κ) (a.toList++b.toList) (#[]:Array Keyed).toList (a.toList.drop 0) (b.toList.drop 0):=⟨List.Perm.refl _,sa,H⟩;have B:=pA N L (f0 y G);have B:MS (kLe κ) (a.toList++b.toList) (#[y]:Array Keyed).toList (a.toList.drop 0) (b.toList.drop 1):=B;by_cases c1:1=b.size
 .rw[Q0 (by simpa using c1)];exact wpS_pure (q _ _ (ba.refl _) (j3 B (.inr c1)))
 .rw[qZ (by simpa using c1)];by_cases c2:0+1=a.size
  .rw[Q0 (by simpa using c2)];exact wpS_pure (q _ _ (ba.refl _) (kK pre B c2))
  .rw[qZ (by simpa using c2)];refine wpS_bind (wpS_get ?_);have K:LoI κ a b 1 #[y] 0 1:=⟨B,Yo,Yo,qd _⟩;refine wpS_bind (wpS_mono (wpS_forRange (I:=λx c j=>ba st j/\∃out l m mg,c=(none,out,l,m,mg)/\LoI κ a b (x+1) out l m) (Q:=λc j=>ba st j/\∃r d,c=(some r,d)/\bD κ a b r) ?_ ?_ ⟨ba.refl _,_,_,_,_,U,K⟩) ?_)
   .rintro x c j _ _ ⟨ss,out,l,m,mg,rfl,I⟩;have C:kindOf j=oneType':=ss.1.trans hk;refine wpS_bind (wpS_mono (wpS_forRange (I:=λi c n=>n=j/\∃out l m e f,c=(none,out,l,m,e,f)/\LoI κ a b (x+1+i) out l m) (Q:=λc n=>n=j/\((∃r d,c=(some r,d)/\bD κ a b r)\/∃out l m e f,c=(none,out,l,m,e,f)/\LoI κ a b (x+2) out l m)) ?_ ?_ ⟨U,_,_,_,_,_,U,I⟩) ?_)
    .rintro i c n _ hi ⟨rfl,o,p,k,e,f,rfl,I⟩;exact yP F C pre I (λr c h=>⟨U,.inl ⟨r,c,U,h⟩⟩) (λo p k e f h=>⟨U,.inr ⟨o,p,k,e,f,U,h.less Yo⟩⟩) (λo p k e f h=>⟨U,o,p,k,e,f,U,h.less Yo⟩)
    .rintro c n ⟨rfl,o,p,k,e,f,rfl,I⟩;exact⟨U,.inr ⟨o,p,k,e,f,U,I.less Yo⟩⟩
    .rintro c n ⟨rfl,⟨r,d,rfl,h⟩|⟨o,p,k,e,f,rfl,M⟩⟩
     .exact wpS_pure ⟨ss,r,_,U,h⟩
     .refine wpS_bind (wpS_lift (wpAny_rule ⟨U,?_⟩));refine wpS_bind (wpS_mono (wpS_forRange (I:=λi c v=>ba n v/\∃out l m mg e f,c=(none,out,l,m,mg,e,f)/\LoI κ a b (x+2) out l m) (Q:=λc v=>ba n v/\((∃r d,c=(some r,d)/\bD κ a b r)\/∃out l m mg e f,c=(none,out,l,m,mg,e,f)/\LoI κ a b (x+2) out l m)) ?_ ?_ ⟨ba.refl _,_,_,_,_,_,_,U,M⟩) ?_)
      .rintro i c v _ hi ⟨t,o,p,k,g,e,f,rfl,I⟩;have D:kindOf v=oneType':=t.1.trans C;dsimp only;by_cases cg:g > 1
       .rw[Q0 cg];exact rX F D pre I (λr c z u h=>⟨t.trans u,.inl ⟨r,c,U,h⟩⟩) (λo p k g e f z u h=>⟨t.trans u,.inr ⟨o,p,k,g,e,f,U,h⟩⟩) (λo p k g e f z u h=>⟨t.trans u,o,p,k,g,e,f,U,h⟩)
       .rw[qZ cg];exact rX F D pre I (λr c z u h=>⟨t.trans u,.inl ⟨r,c,U,h⟩⟩) (λo p k g e f z u h=>⟨t.trans u,.inr ⟨o,p,k,g,e,f,U,h⟩⟩) (λo p k g e f z u h=>⟨t.trans u,o,p,k,g,e,f,U,h⟩)
      .rintro c v ⟨t,o,p,k,g,e,f,rfl,I⟩;exact⟨t,.inr ⟨o,p,k,g,e,f,U,I⟩⟩
      .rintro c v ⟨t,⟨r,d,rfl,h⟩|⟨o,p,k,g,e,f,rfl,J⟩⟩
       .exact wpS_pure ⟨ss.trans t,r,_,U,h⟩
       .dsimp only;unfold dH;exact wpS_bind (wpS_modify (wpS_pure ⟨(ss.trans t).trans ⟨U,U,U,U⟩,_,_,_,_,U,J⟩))
   .rintro c j ⟨ss,out,l,m,mg,rfl,I⟩;have:=I.room;lia
   .rintro c j ⟨ss,r,d,rfl,h⟩;exact wpS_pure (q r j ss h)
end
end
section
variable {κ:KeyKind}
theorem MS.symm{r:Keyed->Keyed->Prop}{T o X Y:List Keyed}(h:MS r T o X Y):MS r T o Y X:=⟨by
 refine List.Perm.trans ?_ h.pm;rw[qM,qM]
 exact List.Perm.append_left _ List.perm_append_comm,h.sy,h.sx⟩
def gLe(κ:KeyKind)(p q:Keyed):Prop:=kLe κ q p
theorem Mgd.rev{T l:List Keyed}(h:Mgd (gLe κ) T l):Mgd (kLe κ) T l.reverse:=⟨(List.reverse_perm _).trans h.1,List.pairwise_reverse.mpr h.2⟩
def ph:Array Keyed->Array Keyed->StateT SortSt Sem (Array Keyed):=sortPriv% PySem.Builtin.mergeHi
def dW(a b out:Array Keyed)(na nb:Nat):Array Keyed:=a.extract 0 na++b.extract 0 nb++out.reverse
def i6(a b out:Array Keyed)(na nb:Nat):Array Keyed:=b.extract 0 nb++a.extract 0 na++out.reverse
abbrev H6:Type:=Option (Array Keyed)×Nat×Nat×Array Keyed×Nat×Nat
abbrev H7:Type:=Option (Array Keyed)×Nat×Nat×Array Keyed×Nat×Nat×Nat
noncomputable def hi1(a b:Array Keyed)(mg:Nat)(na nb:Nat)(out:Array Keyed)(ac bc:Nat):StateT SortSt Sem (ForInStep H6):=do
 let y <- elem' b (nb-1)
 let x <- elem' a (na-1)
 let t <- lt' y x
 match t with
 |some B=>
  if B=true then do
   let x <- elem' a (na-1)
   if(na-1 == 0)=true then pure (.done (some (dW a b (out.push x) (na-1) nb),na-1,nb,out.push x,ac+1,0))
   else if ac+1 >= mg then pure (.done (none,na-1,nb,out.push x,ac+1,0))
   else pure (.yield (none,na-1,nb,out.push x,ac+1,0))
  else do
   let y <- elem' b (nb-1)
   if(nb-1 == 1)=true then pure (.done (some (i6 a b (out.push y) na (nb-1)),na,nb-1,out.push y,0,bc+1))
   else if bc+1 >= mg then pure (.done (none,na,nb-1,out.push y,0,bc+1))
   else pure (.yield (none,na,nb-1,out.push y,0,bc+1))
 |_=>pure (.done (some (dW a b out na nb),na,nb,out,ac,bc))
noncomputable def kY(a b:Array Keyed)(na nb:Nat)(out:Array Keyed)(mg ac bc:Nat):StateT SortSt Sem (ForInStep H7):=do
 let x <- elem' a (na-1)
 if(na-1 == 0)=true then pure (.done (some (dW a b (out.push x) (na-1) nb),na-1,nb,out.push x,mg,ac,bc))
 else if(decide (ac<7) && decide (bc<7))=true then pure (.done (none,na-1,nb,out.push x,mg,ac,bc))
 else pure (.yield (none,na-1,nb,out.push x,mg,ac,bc))
noncomputable def kZ(a b:Array Keyed)(na nb:Nat)(out:Array Keyed)(mg ac bc:Nat):StateT SortSt Sem (ForInStep H7):=do
 let y <- elem' b (nb-1)
 if(nb-1 == 1)=true then pure (.done (some (i6 a b (out.push y) na (nb-1)),na,nb-1,out.push y,mg,ac,bc))
 else do
  let x <- elem' a (na-1)
  let t <- cS true x b 0 (nb-1) (nb-1-1)
  match t with
  |some k=>
   if nb-1-k > 0 then
    if(k == 1)=true then pure (.done (some (i6 a b (out.push y++(b.extract k (nb-1)).reverse) na k),na,k,out.push y++(b.extract k (nb-1)).reverse,mg,ac,nb-1-k))
    else if(k == 0)=true then pure (.done (some (dW a b (out.push y++(b.extract k (nb-1)).reverse) na k),na,k,out.push y++(b.extract k (nb-1)).reverse,mg,ac,nb-1-k))
    else kY a b na k (out.push y++(b.extract k (nb-1)).reverse) mg ac (nb-1-k)
   else kY a b na (nb-1) (out.push y) mg ac (nb-1-k)
  |_=>pure (.done (some (dW a b (out.push y) na (nb-1)),na,nb-1,out.push y,mg,ac,bc))
noncomputable def hi3(a b:Array Keyed)(na nb:Nat)(out:Array Keyed)(mg ac bc:Nat):StateT SortSt Sem (ForInStep H7):=do
 dH mg
 let y <- elem' b (nb-1)
 let t <- cS false y a 0 na (na-1)
 match t with
 |some k=>
  if na-k > 0 then
   if(k == 0)=true then pure (.done (some (dW a b (out++(a.extract k na).reverse) k nb),k,nb,out++(a.extract k na).reverse,mg,na-k,bc))
   else kZ a b k nb (out++(a.extract k na).reverse) mg (na-k) bc
  else kZ a b na nb out mg (na-k) bc
 |_=>pure (.done (some (dW a b out na nb),na,nb,out,mg,ac,bc))
theorem DG(a b:Array Keyed):ph a b=(do
 rule "list.sort.merge-hi"
 let c:=a.size+b.size
 let fin (out:Array Keyed) (na nb:Nat):=a.extract 0 na++b.extract 0 nb++out.reverse
 let fst (out:Array Keyed) (na nb:Nat):=b.extract 0 nb++a.extract 0 na++out.reverse
 let mut na:=a.size-1
 let mut nb:=b.size
 let mut out:Array Keyed:=#[<- elem' a na]
 if na == 0 then return fin out na nb
 if nb == 1 then return fst out na nb
 let mut mg:=gallopOf (<- get)
 for _ in[0:c] do
  let mut ac:=0
  let mut bc:=0
  for _ in[0:c] do
   let some d <- lt' (<- elem' b (nb-1)) (<- elem' a (na-1))|return fin out na nb
   if d then
    na:=na-1;out:=out.push (<- elem' a na);ac:=ac+1;bc:=0
    if na == 0 then return fin out na nb
    if ac >= mg then break
   else
    nb:=nb-1;out:=out.push (<- elem' b nb);bc:=bc+1;ac:=0
    if nb == 1 then return fst out na nb
    if bc >= mg then break
  rule "list.sort.gallop"
  mg:=mg+1
  for _ in[0:c] do
   if mg > 1 then mg:=mg-1
   dH mg
   let some at_ <- cS false (<- elem' b (nb-1)) a 0 na (na-1)|return fin out na nb
   let k:=na-at_
   ac:=k
   if k > 0 then
    out:=out++(a.extract at_ na).reverse;na:=at_
    if na == 0 then return fin out na nb
   nb:=nb-1;out:=out.push (<- elem' b nb)
   if nb == 1 then return fst out na nb
   let some at_ <- cS true (<- elem' a (na-1)) b 0 nb (nb-1)|return fin out na nb
   let k:=nb-at_
   bc:=k
   if k > 0 then
    out:=out++(b.extract at_ nb).reverse;nb:=at_
    if nb == 1 then return fst out na nb
    if nb == 0 then return fin out na nb
   na:=na-1;out:=out.push (<- elem' a na)
   if na == 0 then return fin out na nb
   if ac<7 && bc<7 then break
  mg:=mg+1
  dH mg
 unsupported "internal:list.sort.merge-bound"):=U
theorem tkp{a:Array Keyed}(h0:0<i)(h:i<=a.size):∃x,a[i-1]?=some x/\(a.toList.take i).reverse=x::(a.toList.take (i-1)).reverse/\x∈a.toList:=by
 have hl:i-1<a.toList.length:=by rw[qL];lia
 refine⟨a.toList[i-1],by rw[<- qT];exact qb hl,?_,List.getElem_mem _⟩
 have e:a.toList.take i=a.toList.take (i-1)++[a.toList[i-1]]:=by
  have:=qq (l:=a.toList) (i:=i-1);rw[show i-1+1=i by lia,qb hl]at this;exact this
 rw[e,List.reverse_append]
 rfl
theorem lF(a:Array Keyed)(k:Nat):(a.extract 0 k).toList=a.toList.take k:=by
 rw[Array.toList_extract,List.extract_eq_take_drop]
 rfl
theorem xC(a:Array Keyed)(i k:Nat):(a.extract i k).toList=(a.toList.take k).drop i:=by
 rw[Array.toList_extract,List.extract_eq_take_drop,List.drop_take]
theorem ET(a b out:Array Keyed)(c d:Nat):(dW a b out c d).toList=a.toList.take c++b.toList.take d++out.toList.reverse:=by
 unfold dW;rw[Array.toList_append,Array.toList_append,lF,lF,Array.toList_reverse]
theorem EH(a b out:Array Keyed)(c d:Nat):(i6 a b out c d).toList=b.toList.take d++a.toList.take c++out.toList.reverse:=by
 unfold i6;rw[Array.toList_append,Array.toList_append,lF,lF,Array.toList_reverse]
structure jp(κ:KeyKind)(a b:Array Keyed):Prop where
 ka:∀p∈a.toList,KOk κ p
 kb:∀p∈b.toList,KOk κ p
 za:0<a.size
 zb:0<b.size
 fb:∀x∈a.toList,∀z,b[0]?=some z->kLt κ z x
structure HiI(κ:KeyKind)(a b:Array Keyed)(n:Nat)(na nb:Nat)(out:Array Keyed):Prop where
 ms:MS (gLe κ) (a.toList++b.toList) out.toList (a.toList.take na).reverse (b.toList.take nb).reverse
 a0:0<na
 b0:1<nb
 az:na<=a.size
 bz:nb<=b.size
 hn:n<=out.size
section
variable {a b out:Array Keyed}{na nb n:Nat}
theorem j7(h:MS (gLe κ) (a.toList++b.toList) out.toList (a.toList.take na).reverse (b.toList.take nb).reverse)(e:na=0\/nb=0):bD κ a b (dW a b out na nb):=by
 unfold bD;rw[ET];rcases e with rfl|rfl
 .have:=(MS.endX (show MS (gLe κ) (a.toList++b.toList) out.toList [] (b.toList.take nb).reverse from h)).rev;rw[List.reverse_append,List.reverse_reverse]at this;exact this
 .have:=(MS.endY (show MS (gLe κ) (a.toList++b.toList) out.toList (a.toList.take na).reverse []from h)).rev;rw[List.reverse_append,List.reverse_reverse]at this;rwa[List.take_zero,qw]
theorem kX(pre:jp κ a b)(h:MS (gLe κ) (a.toList++b.toList) out.toList (a.toList.take na).reverse (b.toList.take nb).reverse)(e:nb=1):bD κ a b (i6 a b out na nb):=by
 unfold bD;rw[EH];subst e;obtain⟨z,g,c,_⟩:=tkp (a:=b) (i:=1) Yk pre.zb;have c:(b.toList.take 1).reverse=[z]:=c;rw[c]at h;have:=(h.symm.lastX λx f=>(pre.fb x (List.mem_of_mem_take (List.mem_reverse.mp f)) z g).le).rev;have d:b.toList.take 1=[z]:=by rw[<- List.reverse_reverse (b.toList.take 1),c];rfl
 rw[d];rw[List.reverse_append,List.reverse_append,List.reverse_reverse]at this;rwa[qM]
theorem pR(h:MS (gLe κ) (a.toList++b.toList) out.toList (a.toList.take na).reverse (b.toList.take nb).reverse){x:Keyed}(dx:(a.toList.take na).reverse=x::(a.toList.take (na-1)).reverse)(le:∀y∈b.toList.take nb,kLe κ y x):MS (gLe κ) (a.toList++b.toList) (out.push x).toList (a.toList.take (na-1)).reverse (b.toList.take nb).reverse:=by
 rw[dx]at h;rw[Array.toList_push];exact MS.left (Z:=[x]) h λ_ c y d=>by obtain rfl:=qS.mp c;exact le y (List.mem_reverse.mp d)
theorem wU(h:MS (gLe κ) (a.toList++b.toList) out.toList (a.toList.take na).reverse (b.toList.take nb).reverse){y:Keyed}(e:(b.toList.take nb).reverse=y::(b.toList.take (nb-1)).reverse)(le:∀x∈a.toList.take na,kLe κ x y):MS (gLe κ) (a.toList++b.toList) (out.push y).toList (a.toList.take na).reverse (b.toList.take (nb-1)).reverse:=by
 rw[e]at h;rw[Array.toList_push];exact MS.right (Z:=[y]) h λ_ c x d=>by obtain rfl:=qS.mp c;exact le x (List.mem_reverse.mp d)
theorem pS{o X Y T:List Keyed}(h:MS (gLe κ) T o X.reverse Y.reverse):X.Pairwise (kLe κ)/\Y.Pairwise (kLe κ):=⟨List.pairwise_reverse.mp (List.pairwise_append.mp h.sx).2.1,List.pairwise_reverse.mp (List.pairwise_append.mp h.sy).2.1⟩
theorem kO{x:Keyed}{X a:List Keyed}(d:X.reverse=x::a.reverse)(h:X.Pairwise (kLe κ)):∀z∈X,kLe κ z x:=λz hz=>by
 have e:X=a++[x]:=by rw[<- List.reverse_reverse X,d,List.reverse_cons,List.reverse_reverse]
 rw[e]at h hz;rcases qg.mp hz with q|q
 .exact(List.pairwise_append.mp h).2.2 z q x (by simp)
 .obtain rfl:=qS.mp q;exact KeyOrd.kle_refl _
theorem yQ(q:κ.OneLt){st:SortSt}(hk:kindOf st=oneType')(pre:jp κ a b){mg:Nat}(h:HiI κ a b n na nb out){R:ForInStep H6->SortSt->Prop}
 (k:∀r c,bD κ a b r->R (.done (some r,c)) st) (o:∀na nb out ac bc,HiI κ a b (n+1) na nb out->R (.done (none,na,nb,out,ac,bc)) st) (m:∀na nb out ac bc,HiI κ a b (n+1) na nb out->R (.yield (none,na,nb,out,ac,bc)) st):
 wpS (model prog w) A E s (hi1 a b mg na nb out ac bc) R st:=by
 obtain⟨ms,a0,b0,az,bz,_⟩:=h;obtain⟨y,l,j,p⟩:=tkp (a:=b) (i:=nb) Yo bz;obtain⟨x,ex,dx,t⟩:=tkp (a:=a) (i:=na) a0 az;obtain⟨sx,sy⟩:=pS ms;unfold hi1;refine wpS_bind (bM l (wpS_bind (bM ex (wpS_bind (jt q hk (pre.kb y p) (pre.ka x t) ?_)))));dsimp only
 cases e:κ.blt (ky κ y) (ky κ x)with
 |true=>
  rw[Q0 U];refine wpS_bind (bM ex ?_);have d:=pR ms dx λz hz=>KeyOrd.kle_trans (kO j sy z hz) (KeyOrd.kle_of_klt e);have f:n+1<=(out.push x).size:=by rw[Array.size_push];lia
  by_cases c1:na-1=0
  .rw[Q0 (by simpa using c1)];exact wpS_pure (k _ _ (j7 d (.inl c1)))
  .rw[qZ (by simpa using c1)];have g:HiI κ a b (n+1) (na-1) nb (out.push x):=⟨d,Yo,b0,Yo,bz,f⟩;by_cases c2:ac+1 >= mg
   .rw[Q0 c2];exact wpS_pure (o _ _ _ _ _ g)
   .rw[qZ c2];exact wpS_pure (m _ _ _ _ _ g)
 |false=>
  rw[qZ Yk];refine wpS_bind (bM l ?_);have d:=wU ms j λz hz=>KeyOrd.kle_trans (kO dx sx z hz) (show κ.kle (ky κ x) (ky κ y)from e);have f:n+1<=(out.push y).size:=by rw[Array.size_push];lia
  by_cases c1:nb-1=1
  .rw[Q0 (by simpa using c1)];exact wpS_pure (k _ _ (kX pre d c1))
  .rw[qZ (by simpa using c1)];have g:HiI κ a b (n+1) na (nb-1) (out.push y):=⟨d,a0,Yo,az,Yo,f⟩;by_cases c2:bc+1 >= mg
   .rw[Q0 c2];exact wpS_pure (o _ _ _ _ _ g)
   .rw[qZ c2];exact wpS_pure (m _ _ _ _ _ g)
theorem rY{st:SortSt}{mg:Nat}(ms:MS (gLe κ) (a.toList++b.toList) out.toList (a.toList.take na).reverse (b.toList.take nb).reverse)(a0:0<na)(b0:1<nb)(az:na<=a.size)(bz:nb<=b.size)(hn:n<=out.size){x:Keyed}(ex:a[na-1]?=some x)(le:∀y∈b.toList.take nb,kLe κ y x){R:ForInStep H7->SortSt->Prop}
 (h:∀r c,bD κ a b r->R (.done (some r,c)) st) (k:∀na nb out mg ac bc,HiI κ a b n na nb out->R (.done (none,na,nb,out,mg,ac,bc)) st) (j:∀na nb out mg ac bc,HiI κ a b n na nb out->R (.yield (none,na,nb,out,mg,ac,bc)) st):
 wpS (model prog w) A E s (kY a b na nb out mg ac bc) R st:=by
 obtain⟨_,d,dx,_⟩:=tkp (a:=a) (i:=na) a0 az;rw[ex]at d;obtain rfl:=qI d;unfold kY;refine wpS_bind (bM ex ?_);have e:=pR ms dx le;have f:n<=(out.push x).size:=by rw[Array.size_push];lia
 by_cases c1:na-1=0
 .rw[Q0 (by simpa using c1)];exact wpS_pure (h _ _ (j7 e (.inl c1)))
 .rw[qZ (by simpa using c1)];have g:HiI κ a b n (na-1) nb (out.push x):=⟨e,Yo,b0,Yo,bz,f⟩;by_cases c2:(decide (ac<7) && decide (bc<7))=true
  .rw[Q0 c2];exact wpS_pure (k _ _ _ _ _ _ g)
  .rw[qZ c2];exact wpS_pure (j _ _ _ _ _ _ g)
theorem jJ(a:Array Keyed)(n:Nat):(a.toList.drop 0).take n=a.toList.take n:=U
theorem rZ(G:κ.OneLt){st:SortSt}(hk:kindOf st=oneType')(pre:jp κ a b){mg:Nat}(ms:MS (gLe κ) (a.toList++b.toList) out.toList (a.toList.take na).reverse (b.toList.take nb).reverse)(a0:0<na)(b0:1<nb)(az:na<=a.size)(bz:nb<=b.size)(hn:n<=out.size){y:Keyed}(o:b[nb-1]?=some y)(le:∀x∈a.toList.take na,kLe κ x y){R:ForInStep H7->SortSt->Prop}
 (f:∀r c,bD κ a b r->R (.done (some r,c)) st) (z:∀na nb out mg ac bc,HiI κ a b n na nb out->R (.done (none,na,nb,out,mg,ac,bc)) st) (u:∀na nb out mg ac bc,HiI κ a b n na nb out->R (.yield (none,na,nb,out,mg,ac,bc)) st):
 wpS (model prog w) A E s (kZ a b na nb out mg ac bc) R st:=by
 obtain⟨d,j,D,_⟩:=tkp (a:=b) (i:=nb) Yo bz;rw[o]at j;obtain rfl:=qI j;obtain⟨x,ex,dx,C⟩:=tkp (a:=a) (i:=na) a0 az;unfold kZ;refine wpS_bind (bM o ?_);have g:=wU ms D le;have t:n<=(out.push y).size:=by rw[Array.size_push];lia
 obtain⟨sx,sy⟩:=pS g;by_cases c1:nb-1=1
 .rw[Q0 (by simpa using c1)];exact wpS_pure (f _ _ (kX pre g c1))
 .rw[qZ (by simpa using c1)];refine wpS_bind (bM ex (wpS_bind (gu G hk (pre.ka x C) pre.kb Yo Yo (by rwa[jJ]) λk F m q=>?_)));rw[jJ]at m q;dsimp only;have p:(b.toList.take (nb-1)).take k=b.toList.take k:=by rw[List.take_take,Nat.min_eq_left F]
  rw[p]at m;have h:∀d∈b.toList.take k,kLe κ d x:=λd e=>(show kLt κ d x from m d e).le
  have l:MS (gLe κ) (a.toList++b.toList) (out.push y++(b.extract k (nb-1)).reverse).toList (a.toList.take na).reverse (b.toList.take k).reverse:=by
   rw[Array.toList_append,Array.toList_reverse,xC];refine MS.right (Z:=((b.toList.take (nb-1)).drop k).reverse) (by rwa[<- List.reverse_append,<- p,Qu]) λd e B v=>?_;have l1:kLe κ x d:=q d (List.mem_reverse.mp e);exact KeyOrd.kle_trans (kO dx sx B (List.mem_reverse.mp v)) l1
  by_cases c2:nb-1-k > 0
  .rw[Q0 c2];by_cases c3:k=1
   .rw[Q0 (by simpa using c3)];exact wpS_pure (f _ _ (kX pre l c3))
   .rw[qZ (by simpa using c3)];by_cases c4:k=0
    .rw[Q0 (by simpa using c4)];exact wpS_pure (f _ _ (j7 l (.inr c4)))
    .rw[qZ (by simpa using c4)];exact rY l a0 Yo az Yo (by rw[Array.size_append];lia) ex h f z u
  .rw[qZ c2];obtain rfl:k=nb-1:=Yo;exact rY g a0 Yo az Yo t ex h f z u
theorem sf(q:κ.OneLt){st:SortSt}(hk:kindOf st=oneType')(pre:jp κ a b){mg:Nat}(h:HiI κ a b n na nb out){R:ForInStep H7->SortSt->Prop}
 (t:∀r c d,ba st d->bD κ a b r->R (.done (some r,c)) d) (F:∀na nb out mg ac bc d,ba st d->HiI κ a b n na nb out->R (.done (none,na,nb,out,mg,ac,bc)) d) (B:∀na nb out mg ac bc d,ba st d->HiI κ a b n na nb out->R (.yield (none,na,nb,out,mg,ac,bc)) d):
 wpS (model prog w) A E s (hi3 a b na nb out mg ac bc) R st:=by
 obtain⟨ms,a0,b0,az,bz,G⟩:=h;obtain⟨y,m,I,H⟩:=tkp (a:=b) (i:=nb) Yo bz;obtain⟨sx,sy⟩:=pS ms;unfold hi3 dH;refine wpS_bind (wpS_modify ?_);have ss:ba st (SortSt.mk' (kindOf st) (arrOf st) (pendingOf st) mg (failedOf st)):=⟨U,U,U,U⟩;have e:kindOf (SortSt.mk' (kindOf st) (arrOf st) (pendingOf st) mg (failedOf st))=oneType':=hk;generalize SortSt.mk' (kindOf st) (arrOf st) (pendingOf st) mg (failedOf st)=st2 at ss e ⊢;refine wpS_bind (bM m (wpS_bind (gu q e (pre.kb y H) pre.ka Yo Yo (by rwa[jJ]) λk L p z=>?_)));rw[jJ]at p z;dsimp only;have v:(a.toList.take na).take k=a.toList.take k:=by rw[List.take_take,Nat.min_eq_left L]
 rw[v]at p
 have f:∀x∈a.toList.take k,kLe κ x y:=λx K=>by
  have this:(!κ.blt (ky κ y) (ky κ x))=true:=p x K;show κ.blt (ky κ y) (ky κ x)=false;simpa using this
 have u:MS (gLe κ) (a.toList++b.toList) (out++(a.extract k na).reverse).toList (a.toList.take k).reverse (b.toList.take nb).reverse:=by
  rw[Array.toList_append,Array.toList_reverse,xC];refine MS.left (Z:=((a.toList.take na).drop k).reverse) (by rwa[<- List.reverse_append,<- v,Qu]) λl D J C=>?_;have l1:(!κ.blt (ky κ y) (ky κ l))=false:=z l (List.mem_reverse.mp D);have l1:κ.blt (ky κ y) (ky κ l)=true:=by simpa using l1
  exact KeyOrd.kle_trans (kO I sy J (List.mem_reverse.mp C)) (KeyOrd.kle_of_klt l1)
 by_cases c2:na-k > 0
 .rw[Q0 c2];by_cases c4:k=0
  .rw[Q0 (by simpa using c4)];exact wpS_pure (t _ _ _ ss (j7 u (.inl c4)))
  .rw[qZ (by simpa using c4)];exact rZ q e pre u Yo b0 Yo bz (by rw[Array.size_append];lia) m f (λr c=>t r c _ ss) (λo i j g x y=>F o i j g x y _ ss) (λo i j g x y=>B o i j g x y _ ss)
 .rw[qZ c2];obtain rfl:k=na:=Yo;exact rZ q e pre ms a0 b0 az bz G m f (λr c=>t r c _ ss) (λo i j g x y=>F o i j g x y _ ss) (λo i j g x y=>B o i j g x y _ ss)
theorem HiI.less(h:HiI κ a b m na nb out)(k:n<=m):HiI κ a b n na nb out:=⟨h.ms,h.a0,h.b0,h.az,h.bz,qx k h.hn⟩
theorem HiI.room(h:HiI κ a b n na nb out):n<a.size+b.size:=by
 have l:=h.ms.pm.length_eq;simp only[qa,List.length_reverse,qJ,qL]at l;have:=h.a0;have:=h.b0;have:=h.az;have:=h.bz;have:=h.hn;lia
theorem yN(F:κ.OneLt){st:SortSt}(hk:kindOf st=oneType')(pre:jp κ a b)(sa:a.toList.Pairwise (kLe κ))(J:b.toList.Pairwise (kLe κ))(L:∀x,a[a.size-1]?=some x->∀y∈b.toList,kLe κ y x){Q:Array Keyed->SortSt->Prop}(q:∀r k,ba st k->bD κ a b r->Q r k):wpS (model prog w) A E s (ph a b) Q st:=by
 rw[DG];refine wpS_bind (wpS_lift (wpAny_rule ⟨U,?_⟩));dsimp only;have za:=pre.za;have zb:=pre.zb;obtain⟨x,ex,dx,_⟩:=tkp (a:=a) (i:=a.size) za (qd _);refine wpS_bind (bM ex ?_);have H:a.toList.take a.size=a.toList:=List.take_of_length_le (by rw[qL];exact qd _);have G:b.toList.take b.size=b.toList:=List.take_of_length_le (by rw[qL];exact qd _)
 have K0:MS (gLe κ) (a.toList++b.toList) (#[]:Array Keyed).toList (a.toList.take a.size).reverse (b.toList.take b.size).reverse:=by
  rw[H,G];exact⟨((List.reverse_perm _).append (List.reverse_perm _)),List.pairwise_reverse.mpr sa,List.pairwise_reverse.mpr J⟩
 have B:=pR K0 dx (by rw[G];exact L x ex);have B:MS (gLe κ) (a.toList++b.toList) (#[x]:Array Keyed).toList (a.toList.take (a.size-1)).reverse (b.toList.take b.size).reverse:=B;by_cases c1:a.size-1=0
 .rw[Q0 (by simpa using c1)];exact wpS_pure (q _ _ (ba.refl _) (j7 B (.inl c1)))
 .rw[qZ (by simpa using c1)];by_cases c2:b.size=1
  .rw[Q0 (by simpa using c2)];exact wpS_pure (q _ _ (ba.refl _) (kX pre B c2))
  .rw[qZ (by simpa using c2)];refine wpS_bind (wpS_get ?_);have M:HiI κ a b 1 (a.size-1) b.size #[x]:=⟨B,Yo,Yo,Yo,qd _,qd _⟩;refine wpS_bind (wpS_mono (wpS_forRange (I:=λx c k=>ba st k/\∃l m out mg,c=(none,l,m,out,mg)/\HiI κ a b (x+1) l m out) (Q:=λc k=>ba st k/\∃r d,c=(some r,d)/\bD κ a b r) ?_ ?_ ⟨ba.refl _,_,_,_,_,U,M⟩) ?_)
   .rintro x c k _ _ ⟨ss,p,j,o,mg,rfl,I⟩;have C:kindOf k=oneType':=ss.1.trans hk;refine wpS_bind (wpS_mono (wpS_forRange (I:=λi c n=>n=k/\∃l m out e f,c=(none,l,m,out,e,f)/\HiI κ a b (x+1+i) l m out) (Q:=λc n=>n=k/\((∃r d,c=(some r,d)/\bD κ a b r)\/∃l m out e f,c=(none,l,m,out,e,f)/\HiI κ a b (x+2) l m out)) ?_ ?_ ⟨U,_,_,_,_,_,U,I⟩) ?_)
    .rintro i c n _ hi ⟨rfl,p,j,o,e,f,rfl,I⟩;exact yQ F C pre I (λr c h=>⟨U,.inl ⟨r,c,U,h⟩⟩) (λp j o e f h=>⟨U,.inr ⟨p,j,o,e,f,U,h.less Yo⟩⟩) (λp j o e f h=>⟨U,p,j,o,e,f,U,h.less Yo⟩)
    .rintro c n ⟨rfl,p,j,o,e,f,rfl,I⟩;exact⟨U,.inr ⟨p,j,o,e,f,U,I.less Yo⟩⟩
    .rintro c n ⟨rfl,⟨r,d,rfl,h⟩|⟨p,j,o,e,f,rfl,N⟩⟩
     .exact wpS_pure ⟨ss,r,_,U,h⟩
     .refine wpS_bind (wpS_lift (wpAny_rule ⟨U,?_⟩));refine wpS_bind (wpS_mono (wpS_forRange (I:=λi c v=>ba n v/\∃l m out mg e f,c=(none,l,m,out,mg,e,f)/\HiI κ a b (x+2) l m out) (Q:=λc v=>ba n v/\((∃r d,c=(some r,d)/\bD κ a b r)\/∃l m out mg e f,c=(none,l,m,out,mg,e,f)/\HiI κ a b (x+2) l m out)) ?_ ?_ ⟨ba.refl _,_,_,_,_,_,_,U,N⟩) ?_)
      .rintro i c v _ hi ⟨t,p,j,o,g,e,f,rfl,I⟩;have D:kindOf v=oneType':=t.1.trans C;dsimp only;by_cases cg:g > 1
       .rw[Q0 cg];exact sf F D pre I (λr c z u h=>⟨t.trans u,.inl ⟨r,c,U,h⟩⟩) (λp j o g e f z u h=>⟨t.trans u,.inr ⟨p,j,o,g,e,f,U,h⟩⟩) (λp j o g e f z u h=>⟨t.trans u,p,j,o,g,e,f,U,h⟩)
       .rw[qZ cg];exact sf F D pre I (λr c z u h=>⟨t.trans u,.inl ⟨r,c,U,h⟩⟩) (λp j o g e f z u h=>⟨t.trans u,.inr ⟨p,j,o,g,e,f,U,h⟩⟩) (λp j o g e f z u h=>⟨t.trans u,p,j,o,g,e,f,U,h⟩)
      .rintro c v ⟨t,p,j,o,g,e,f,rfl,I⟩;exact⟨t,.inr ⟨p,j,o,g,e,f,U,I⟩⟩
      .rintro c v ⟨t,⟨r,d,rfl,h⟩|⟨p,j,o,g,e,f,rfl,K⟩⟩
       .exact wpS_pure ⟨ss.trans t,r,_,U,h⟩
       .dsimp only;unfold dH;exact wpS_bind (wpS_modify (wpS_pure ⟨(ss.trans t).trans ⟨U,U,U,U⟩,_,_,_,_,U,K⟩))
   .rintro c k ⟨ss,p,j,o,mg,rfl,I⟩;have:=I.room;lia
   .rintro c k ⟨ss,r,d,rfl,h⟩;exact wpS_pure (q r k ss h)
end
end
section
variable {κ:KeyKind}
theorem yL{st a:SortSt}{Q:PUnit->SortSt->Prop}(h:Q ⟨⟩ a):wpS (model prog w) A E s (set a:StateT SortSt Sem PUnit) Q st:=by
 unfold wpS;rw[StateT.run_set];exact qc ⟨U,h⟩
theorem DH(i:Nat):mergeAt' i=(do
 let s <- get
 let (some (sa,na,d),some (b,nb,_)):=((pendingOf s)[i]?,(pendingOf s)[i+1]?)|unsupported "internal:list.sort.pending"
 set (SortSt.mk' (kindOf s) (arrOf s) (((pendingOf s).setIfInBounds i (sa,na+nb,d)).eraseIdxIfInBounds (i+1)) (gallopOf s) (failedOf s))
 let some k <- cS false (<- elem' (arrOf s) b) (arrOf s) sa na 0|return false
 let (sa,na):=(sa+k,na-k)
 if na == 0 then return true
 let some nb <- cS true (<- elem' (arrOf s) (sa+na-1)) (arrOf s) b nb (nb-1)|return false
 if nb == 0 then return true
 let x:=(arrOf s).extract sa b
 let y:=(arrOf s).extract b (b+nb)
 let c <- if na<=nb then pf x y else ph x y
 modify λs=>setArr s (c.toList.zipIdx.foldl (λa (p,j)=>a.setIfInBounds (sa+j) p) (arrOf s))
 return (failedOf (<- get)).isNone):=U
theorem vq{sa:Nat}:∀(M:List Keyed)(n:Nat)(arr:Array Keyed),sa+n+M.length<=arr.size->((M.zipIdx n).foldl (λa (b:Keyed×Nat)=>a.setIfInBounds (sa+b.2) b.1) arr).toList=arr.toList.take (sa+n)++M++arr.toList.drop (sa+n+M.length)
 |[],n,arr,_=>by simp
 |x::M,n,arr,h=>by
  rw[List.zipIdx_cons,Qz];simp only[qz]at h;have c:=vq (sa:=sa) M (n+1) (arr.setIfInBounds (sa+n) x) (by rw[Array.size_setIfInBounds];lia);rw[c,Array.toList_setIfInBounds,List.set_eq_take_append_cons_drop,Q0 (by rw[qL];lia)];have ll:(arr.toList.take (sa+n)).length=sa+n:=by rw[qJ,qL];lia
  have e:(arr.toList.take (sa+n)++x::arr.toList.drop (sa+n+1)).take (sa+(n+1))=arr.toList.take (sa+n)++[x]:=by
   rw[List.take_append,ll,List.take_of_length_le Yo,show sa+(n+1)-(sa+n)=1 by lia]
   rfl
  have d:(arr.toList.take (sa+n)++x::arr.toList.drop (sa+n+1)).drop (sa+(n+1)+M.length)=arr.toList.drop (sa+n+(M.length+1)):=by
   rw[List.drop_append,ll,List.drop_of_length_le Yo,show sa+(n+1)+M.length-(sa+n)=M.length+1 by lia];show[]++(arr.toList.drop (sa+n+1)).drop M.length=_;rw[List.drop_drop,Ql]
   congr 1
   lia
  rw[e,d,qz,qM,qM,qM]
  rfl
section
variable {arr:Array Keyed}{P X Y R:List Keyed}
theorem we(e:arr.toList=P++(X++R)):(arr.toList.drop P.length).take X.length=X:=by
 rw[e,List.drop_left,List.take_left]
theorem wf(e:arr.toList=P++(X++R))(h:i<X.length):arr[P.length+i]?=X[i]?:=by
 rw[<- qT,e,qK Yo,Nat.add_sub_cancel_left,Q6 h]
theorem DD(e:arr.toList=P++(X++R))(k:Nat):(arr.extract (P.length+k) (P.length+X.length)).toList=X.drop k:=by
 rw[Array.toList_extract,List.extract_eq_take_drop,e,List.drop_append,List.drop_of_length_le Yo,show P.length+k-P.length=k by lia,Ql,List.drop_append];rw[List.take_append,List.take_of_length_le (by rw[qY];lia),qY];rw[show P.length+X.length-(P.length+k)-(X.length-k)=0 by lia,List.take_zero,qw]
theorem DC(e:arr.toList=P++(X++R)){k:Nat}(h:k<=X.length):(arr.extract P.length (P.length+k)).toList=X.take k:=by
 rw[Array.toList_extract,List.extract_eq_take_drop,e,List.drop_left,Nat.add_sub_cancel_left,List.take_append_of_le_length h]
end
theorem yO(hO:κ.OneLt){st:SortSt}(hk:kindOf st=oneType')(ok:∀p∈(arrOf st).toList,KOk κ p)(hf:failedOf st=none){sa d pw f n a9:Nat}(p1:(pendingOf st)[i]?=some (sa,d,pw))(p2:(pendingOf st)[i+1]?=some (f,n,a9)){P X Y R:List Keyed}(eL:(arrOf st).toList=P++(X++(Y++R)))(lp:P.length=sa)(l:X.length=d)(ly:Y.length=n)(es:f=sa+d)(x0:0<d)(y0:0<n)(C:X.Pairwise (kLe κ))(v:Y.Pairwise (kLe κ)){Q:Bool->SortSt->Prop}
 (q:∀M b,Mgd (kLe κ) (X++Y) M->(arrOf b).toList=P++(M++R)->kindOf b=oneType'->failedOf b=none->pendingOf b=((pendingOf st).setIfInBounds i (sa,d+n,pw)).eraseIdxIfInBounds (i+1)->Q true b):wpS (model prog w) A E s (mergeAt' i) Q st:=by
 have N:(arrOf st).toList=(P++X)++(Y++R):=by rw[eL,qM]
 have D:(P++X).length=f:=by rw[qa,lp,l,es]
 have a':(arrOf st).size=sa+d+n+R.length:=by
  rw[<- qL,eL];simp only[qa];lia
 have a7:∀p∈X,KOk κ p:=λp hp=>ok p (by rw[eL];simp[hp]);have a6:∀p∈Y,KOk κ p:=λp hp=>ok p (by rw[eL];simp[hp]);rw[DH];refine wpS_bind (wpS_get ?_);rw[p1,p2];dsimp only;refine wpS_bind (yL ?_);generalize hst:SortSt.mk' (kindOf st) (arrOf st) (((pendingOf st).setIfInBounds i (sa,d+n,pw)).eraseIdxIfInBounds (i+1)) (gallopOf st) (failedOf st)=st2;have B:kindOf st2=oneType':=by rw[<- hst];exact hk
 have a2:arrOf st2=arrOf st:=by rw[<- hst]
 have f2:failedOf st2=none:=by rwa[<- hst]
 have I:pendingOf st2=((pendingOf st).setIfInBounds i (sa,d+n,pw)).eraseIdxIfInBounds (i+1):=by rw[<- hst]
 clear hst
 obtain⟨y,Y',eY⟩:∃y Y',Y=y::Y':=by
  cases Y with
  |nil=>simp at ly;lia
  |cons y Y'=>exact⟨y,Y',U⟩
 have ey:(arrOf st)[f]?=some y:=by
  have:=wf N (i:=0) Yo;rw[D,Nat.add_zero]at this;rw[this,eY]
  rfl
 have yY:∀z∈Y,kLe κ y z:=by rw[eY]at v ⊢;exact j8 v
 have my:y∈Y:=by rw[eY];simp
 have Z:((arrOf st).toList.drop sa).take d=X:=by rw[<- lp,<- l];exact we eL
 have S:((arrOf st).toList.drop f).take n=Y:=by rw[<- D,<- ly];exact we N
 refine wpS_bind (bM ey (wpS_bind (gu hO B (a6 y my) ok Yo x0 (by rw[Z];exact C) λk _ h1 h2=>?_)));rw[Z]at h1 h2;dsimp only
 have K:∀x∈X.take k,kLe κ x y:=λx K0=>by
  have this:(!κ.blt (ky κ y) (ky κ x))=true:=h1 x K0;show κ.blt (ky κ y) (ky κ x)=false;simpa using this
 have L:∀x∈X.drop k,kLt κ y x:=λx K0=>by
  have this:(!κ.blt (ky κ y) (ky κ x))=false:=h2 x K0;show κ.blt (ky κ y) (ky κ x)=true;simpa using this
 by_cases c1:d-k=0
 .rw[Q0 (by simpa using c1)];refine wpS_pure (q (X++Y) st2 ⟨List.Perm.refl _,List.pairwise_append.mpr ⟨C,v,λx K0 z hz=>?_⟩⟩ (by rw[a2,eL,qM]) B f2 I);rw[List.take_of_length_le Yo]at K;exact KeyOrd.kle_trans (K x K0) (yY z hz)
 .rw[qZ (by simpa using c1)]
  obtain⟨H,x,J⟩:∃H x,X=H++[x]:=by
   rcases List.eq_nil_or_concat X with e|⟨H,x,e⟩
   .rw[e]at l;simp at l;lia
   .exact⟨H,x,by rw[e,List.concat_eq_append]⟩
  have a8:H.length=d-1:=by rw[J,qa]at l;simp at l;lia
  have ex:(arrOf st)[sa+k+(d-k)-1]?=some x:=by
   have:=wf eL (i:=d-1) Yo;rw[show sa+k+(d-k)-1=P.length+(d-1)by lia,this,J,qK (by lia),a8,Nat.sub_self]
   rfl
  have xX:∀z∈X,kLe κ z x:=λz hz=>by
   rw[J]at C hz;rcases qg.mp hz with c|c
   .exact(List.pairwise_append.mp C).2.2 z c x (by simp)
   .obtain rfl:=qS.mp c;exact KeyOrd.kle_refl _
  have mx:x∈X:=by rw[J];simp
  refine wpS_bind (bM ex (wpS_bind (gu hO B (a7 x mx) ok Yo Yo (by rwa[S]) λm _ h3 h4=>?_)));rw[S]at h3 h4;dsimp only;have V:∀z∈Y.take m,kLt κ z x:=λz hz=>h3 z hz;have F:∀z∈Y.drop m,kLe κ x z:=λz hz=>h4 z hz;by_cases c2:m=0
  .rw[Q0 (by simpa using c2)];refine wpS_pure (q (X++Y) st2 ⟨List.Perm.refl _,List.pairwise_append.mpr ⟨C,v,λu hu z hz=>?_⟩⟩ (by rw[a2,eL,qM]) B f2 I);rw[c2]at F;exact KeyOrd.kle_trans (xX u hu) (F z hz)
  .rw[qZ (by simpa using c2)]
   have o:((arrOf st).extract (sa+k) f).toList=X.drop k:=by
    have:=DD eL k;rw[lp,l,<- es]at this;exact this
   have g:((arrOf st).extract f (f+m)).toList=Y.take m:=by
    have:=DC N (k:=m) Yo;rw[D]at this;exact this
   generalize (arrOf st).extract (sa+k) f=xa at o ⊢;generalize (arrOf st).extract f (f+m)=yb at g ⊢;have zx:xa.size=d-k:=by rw[<- qL,o,qY,l]
   have zy:yb.size=m:=by rw[<- qL,g,qJ,ly];lia
   have T:∀z,yb[0]?=some z->z=y:=λz hz=>by
    rw[<- qT,g,eY]at hz
    cases m with
    |zero=>exact Q5 U c2
    |succ m=>exact(qI hz).symm
   have W:∀z,xa[xa.size-1]?=some z->z=x:=λz hz=>by
    rw[<- qT,o,List.getElem?_drop,zx,show k+(d-k-1)=d-1 by lia,J,qK (by lia),a8,Nat.sub_self]at hz;exact(qI hz).symm
   have a5:∀p∈xa.toList,KOk κ p:=λp hp=>a7 p (List.mem_of_mem_drop (o▸hp));have a4:∀p∈yb.toList,KOk κ p:=λp hp=>a6 p (List.mem_of_mem_take (g▸hp));have a0:xa.toList.Pairwise (kLe κ):=by rw[o];exact C.sublist (List.drop_sublist _ _)
   have a1:yb.toList.Pairwise (kLe κ):=by rw[g];exact v.sublist (List.take_sublist _ _)
   have G:∀r b,ba st2 b->bD κ xa yb r->wpS (model prog w) A E s (do
    modify λs=>setArr s (r.toList.zipIdx.foldl (λa (p,j)=>a.setIfInBounds (sa+k+j) p) (arrOf s))
    let s <- get
    pure (failedOf s).isNone) Q b:=λr b ss t=>by
    have a3:arrOf b=arrOf st:=ss.2.1.trans a2
    have h:Mgd (kLe κ) (X.drop k++Y.take m) r.toList:=by
     have t:Mgd (kLe κ) (xa.toList++yb.toList) r.toList:=t
     rwa [o,g]at t
    have lr:r.toList.length=d-k+m:=by
     rw[h.1.length_eq,qa,qY,qJ];lia
    refine wpS_bind (wpS_modify (wpS_bind (wpS_get (wpS_pure ?_))));have f4:failedOf b=none:=ss.2.2.2.trans f2;show Q (failedOf b).isNone _;rw[f4];have pl:=vq (sa:=sa+k) r.toList 0 (arrOf st) (by rw[lr];lia);refine q (X.take k++(r.toList++Y.drop m)) _ ?_ ?_ (ss.1.trans B) f4 (ss.2.2.1.trans I)
    .refine⟨?_,?_⟩
     .have p0:(X.take k++(r.toList++Y.drop m)).Perm (X.take k++((X.drop k++Y.take m)++Y.drop m)):=List.Perm.append_left _ (h.1.append_right _);refine p0.trans ?_;rw[qM,Qu,<- qM,Qu]
     .refine List.pairwise_append.mpr ⟨C.sublist (List.take_sublist _ _),List.pairwise_append.mpr ⟨h.2,v.sublist (List.drop_sublist _ _),λu hu z hz=>?_⟩,λu hu z hz=>?_⟩
      .have hu:=h.1.mem_iff.mp hu;rcases qg.mp hu with c|c
       .exact KeyOrd.kle_trans (xX u (List.mem_of_mem_drop c)) (F z hz)
       .exact KeyOrd.kle_trans (V u c).le (F z hz)
      .have yz:kLe κ u y:=K u hu;rcases qg.mp hz with c|c
       .have c:=h.1.mem_iff.mp c;rcases qg.mp c with c|c
        .exact KeyOrd.kle_trans yz (L z c).le
        .exact KeyOrd.kle_trans yz (yY z (List.mem_of_mem_take c))
       .exact KeyOrd.kle_trans yz (yY z (List.mem_of_mem_drop c))
    .show(r.toList.zipIdx.foldl (λa (p,j)=>a.setIfInBounds (sa+k+j) p) (arrOf b)).toList=_;rw[a3];refine Eq.trans pl ?_;rw[Nat.add_zero,lr,eL]
     have e1:(P++(X++(Y++R))).take (sa+k)=P++X.take k:=by
      rw[List.take_append,lp,List.take_of_length_le Yo,show sa+k-sa=k by lia,List.take_append_of_le_length (by lia)]
     have e2:(P++(X++(Y++R))).drop (sa+k+(d-k+m))=Y.drop m++R:=by
      rw[<- qM,List.drop_append,D,List.drop_of_length_le Yo,show sa+k+(d-k+m)-f=m by lia,Ql,List.drop_append_of_le_length (by lia)]
     rw[e1,e2];simp only[qM]
   by_cases c3:d-k<=m
   .rw[Q0 c3];refine wpS_bind (yM hO B ⟨a5,a4,Yo,Yo,λz hz u hu=>by rw[W u hu];exact V z (g▸hz)⟩ a0 a1 (λz hz u hu=>by rw[T z hz];exact(L u (o▸hu)).le) λr b ss t=>?_);exact G r b ss t
   .rw[qZ c3];refine wpS_bind (yN hO B ⟨a5,a4,Yo,Yo,λu hu z hz=>by rw[T z hz];exact L u (o▸hu)⟩ a0 a1 (λz hz u hu=>by rw[W z hz];exact(V u (g▸hu)).le) λr b ss t=>?_);exact G r b ss t
end
section
variable {κ:KeyKind}
structure SBL(ν:SortSt)(lo:Nat)(st:SortSt):Prop where
 pm:(arrOf st).Perm (arrOf ν)
 lw:∀i,i<lo->(arrOf st)[i]?=(arrOf ν)[i]?
 kd:kindOf st=oneType'
 fl:failedOf st=failedOf ν
 pd:pendingOf st=pendingOf ν
section
variable {ν st:SortSt}
theorem SBL.size(h:SBL ν lo st):(arrOf st).size=(arrOf ν).size:=h.pm.size_eq
theorem SBL.put(h:SBL ν lo st){xs:Array Keyed}(p:xs.Perm (arrOf st))(l:∀i,i<lo->xs[i]?=(arrOf st)[i]?):SBL ν lo (setArr st xs):=⟨p.trans h.pm,λi hi=>(l i hi).trans (h.lw i hi),h.kd,h.fl,h.pd⟩
theorem SBL.at(h:SBL ν lo st)(ok:∀p∈(arrOf ν).toList,KOk κ p)(hi:i<(arrOf ν).size):∃p,(arrOf st)[i]?=some p/\KOk κ p/\KK κ (arrOf st) i=ky κ p:=by
 have a:i<(arrOf st).size:=by rwa[h.size]
 have e:(arrOf st)[i]?=some (arrOf st)[i]:=getElem?_pos _ i a;refine⟨_,e,ok _ ((Array.perm_iff_toList_perm.mp h.pm).mem_iff.mp (by simp)),KK_congr (e.trans U)⟩
theorem gq(d:κ.OneLt)(h:SBL ν lo st)(ok:∀p∈(arrOf ν).toList,KOk κ p)(hi:i<(arrOf ν).size)(e:j<(arrOf ν).size){Q:Option Bool->SortSt->Prop}(q:Q (some (κ.blt (KK κ (arrOf st) i) (KK κ (arrOf st) j))) st):wpS (model prog w) A E s (ltAt' i j) Q st:=by
 obtain⟨p,ep,⟨z,hz⟩,kp⟩:=h.at ok hi;obtain⟨_,b,⟨_,a⟩,c⟩:=h.at ok e;rw[kp,c,kP hz,kP a]at q;exact wpS_ltAtK d h.kd ep b hz a q
def bQ(κ:KeyKind)(xs:Array Keyed)(lo n:Nat):Prop:=∀i j,i<=j->j<n->κ.kle (KK κ xs (lo+i)) (KK κ xs (lo+j))
def cT(κ:KeyKind)(xs:Array Keyed)(lo n:Nat):Prop:=∀i j,i<=j->j<n->κ.kle (KK κ xs (lo+j)) (KK κ xs (lo+i))
theorem bQ.one{xs:Array Keyed}:bQ κ xs lo 1:=λi j _ _=>by
 obtain rfl:i=j:=Yo;exact KeyOrd.kle_refl _
theorem bQ.more{xs:Array Keyed}{n:Nat}(h:bQ κ xs lo n)(b:0<n)(k:κ.kle (KK κ xs (lo+n-1)) (KK κ xs (lo+n))):bQ κ xs lo (n+1):=λi j a _=>by
 by_cases c:j<n
 .exact h i j a c
 .obtain rfl:j=n:=by lia
  by_cases d:i=j
  .subst d;exact KeyOrd.kle_refl _
  .have:=h i (j-1) Yo Yo;rw[show lo+(j-1)=lo+j-1 by lia]at this;exact KeyOrd.kle_trans this k
theorem cT.more{xs:Array Keyed}{n:Nat}(h:cT κ xs lo n)(b:0<n)(k:κ.kle (KK κ xs (lo+n)) (KK κ xs (lo+n-1))):cT κ xs lo (n+1):=λi j a _=>by
 by_cases c:j<n
 .exact h i j a c
 .obtain rfl:j=n:=by lia
  by_cases d:i=j
  .subst d;exact KeyOrd.kle_refl _
  .have:=h i (j-1) Yo Yo;rw[show lo+(j-1)=lo+j-1 by lia]at this;exact KeyOrd.kle_trans k this
theorem SBL.flip(h:SBL ν lo st)(b:lo<=i)(a:j<=(arrOf ν).size):SBL ν lo (setArr st (mirror (arrOf st) i j ((j-i) / 2))):=by
 refine h.put (mirror_perm _ _ _ _) λk hk=>?_;rw[getElem?_mirror_all (by rwa[h.size]),qZ Yo]
theorem jr{Q:PUnit->SortSt->Prop}(q:Q ⟨⟩ (setArr st (mirror (arrOf st) i j ((j-i) / 2)))):wpS (model prog w) A E s (reverseSlice' i j) Q st:=by
 rw[reverseSlice'_eq];exact wpS_modify q
noncomputable def rG(lo n B:Nat):StateT SortSt Sem (Option Nat):=do
 let mut n:=n
 reverseSlice' lo (lo+n)
 for _ in[n:B] do
  let some F <- ltAt' (lo+n) (lo+n-1)|return none
  if F then break
  n:=n+1
 return some n
theorem si(l:κ.OneLt)(h:SBL ν lo st)(ok:∀p∈(arrOf ν).toList,KOk κ p){n a:Nat}(n1:1<=n)(nn:n<=a)(hz:lo+a<=(arrOf ν).size)(t:cT κ (arrOf st) lo n){Q:Option Nat->SortSt->Prop}(q:∀m f,SBL ν lo f->1<=m->m<=a->bQ κ (arrOf f) lo m->Q (some m) f):wpS (model prog w) A E s (rG lo n a) Q st:=by
 unfold rG;refine wpS_bind (jr ?_);have k:=h.flip (i:=lo) (j:=lo+n) (qd _) Yo
 have g:bQ κ (mirror (arrOf st) lo (lo+n) ((lo+n-lo) / 2)) lo n:=λi j _ _=>by
  rw[KK_mirror (by rw[h.size];lia),KK_mirror (by rw[h.size];lia),Q0 Yo,Q0 Yo];have:=t (n-1-j) (n-1-i) Yo Yo;rw[show lo+(n-1-i)=lo+(lo+n)-1-(lo+i)by lia,show lo+(n-1-j)=lo+(lo+n)-1-(lo+j)by lia]at this;exact this
 have g:bQ κ (arrOf (setArr st (mirror (arrOf st) lo (lo+n) ((lo+n-lo) / 2)))) lo n:=g;generalize setArr st (mirror (arrOf st) lo (lo+n) ((lo+n-lo) / 2))=st2 at k g ⊢;refine wpS_bind (wpS_mono (wpS_forRange (I:=λx c b=>b=st2/\c=(none,x)/\bQ κ (arrOf st2) lo x) (Q:=λc b=>b=st2/\∃m,c=(none,m)/\1<=m/\m<=a/\bQ κ (arrOf st2) lo m) ?_ ?_ ⟨U,U,g⟩) ?_)
 .rintro x c b _ _ ⟨rfl,rfl,d⟩;refine wpS_bind (gq l k ok Yo Yo ?_);dsimp only
  cases e:κ.blt (KK κ (arrOf b) (lo+x)) (KK κ (arrOf b) (lo+x-1))with
  |true=>exact wpS_pure ⟨U,x,U,Yo,Yo,d⟩
  |false=>exact wpS_pure ⟨U,U,d.more Yo e⟩
 .rintro c b ⟨rfl,rfl,d⟩;rw[show max n a=a by lia]at d ⊢;exact⟨U,a,U,Yo,qd _,d⟩
 .rintro c b ⟨rfl,m,rfl,r,o,d⟩;exact wpS_pure (q m b k r o d)
noncomputable def yc(lo n F:Nat):StateT SortSt Sem (Option Nat):=do
 let mut n:=n
 rule "list.sort.descending-run"
 n:=n+1
 let mut B:=0
 for _ in[n:F] do
  let some J <- ltAt' (lo+n) (lo+n-1)|return none
  if J then
   if B > 0 then reverseSlice' (lo+n-(B+1)) (lo+n)
   B:=0
  else
   let some lg <- ltAt' (lo+n-1) (lo+n)|return none
   if lg then break
   B:=B+1
  n:=n+1
 if B > 0 then reverseSlice' (lo+n-(B+1)) (lo+n)
 rG lo n F
theorem fF{xs:Array Keyed}(a:j<=xs.size)(h:∀k,i<=k->k<j->KK κ xs k=KK κ xs (j-1))(k:Nat):KK κ (mirror xs i j ((j-i) / 2)) k=KK κ xs k:=KK_mirror_equal a h k
theorem sj(k:κ.OneLt)(h:SBL ν lo st)(ok:∀p∈(arrOf ν).toList,KOk κ p){n d:Nat}(nn:n+1<=d)(hz:lo+d<=(arrOf ν).size)(B:cT κ (arrOf st) lo (n+1)){Q:Option Nat->SortSt->Prop}(q:∀m a,SBL ν lo a->1<=m->m<=d->bQ κ (arrOf a) lo m->Q (some m) a):wpS (model prog w) A E s (yc lo n d) Q st:=by
 unfold yc;refine wpS_bind (wpS_lift (wpAny_rule ⟨U,?_⟩))
 have same:∀{a:SortSt}{m b:Nat},SBL ν lo a->lo+m<=(arrOf ν).size->b+1<=m->(∀i,lo+m-(b+1)<=i->i<lo+m->KK κ (arrOf a) i=KK κ (arrOf a) (lo+m-1))->cT κ (arrOf a) lo m->cT κ (arrOf (setArr a (mirror (arrOf a) (lo+m-(b+1)) (lo+m) ((lo+m-(lo+m-(b+1))) / 2)))) lo m:=λh' u g f hd i j y z=>by
  show κ.kle (KK κ (mirror _ _ _ _) _) (KK κ (mirror _ _ _ _) _);rw[fF (by rwa[h'.size]) f,fF (by rwa[h'.size]) f];exact hd i j y z
 refine wpS_bind (wpS_mono (wpS_forRange (I:=λx c a=>∃b,c=(none,x,b)/\SBL ν lo a/\cT κ (arrOf a) lo x/\b+1<=x/\∀i,lo+x-(b+1)<=i->i<lo+x->KK κ (arrOf a) i=KK κ (arrOf a) (lo+x-1)) (Q:=λc a=>∃m b,c=(none,m,b)/\SBL ν lo a/\n+1<=m/\m<=d/\cT κ (arrOf a) lo m/\b+1<=m/\∀i,lo+m-(b+1)<=i->i<lo+m->KK κ (arrOf a) i=KK κ (arrOf a) (lo+m-1)) ?_ ?_ ⟨0,U,h,B,Yo,λi l o=>by congr 1;lia⟩) ?_)
 .rintro x c a _ _ ⟨b,rfl,h',d',g,f⟩;dsimp only;refine wpS_bind (gq k h' ok Yo Yo ?_);dsimp only
  cases e:κ.blt (KK κ (arrOf a) (lo+x)) (KK κ (arrOf a) (lo+x-1))with
  |true=>
   rw[Q0 U];by_cases cq:b > 0
   .rw[Q0 cq];refine wpS_bind (jr (wpS_pure ⟨0,U,h'.flip Yo Yo,?_,Yo,λi l o=>by congr 1;lia⟩));have v:=same h' Yo g f d';refine cT.more v Yo ?_;show κ.kle (KK κ (mirror _ _ _ _) _) (KK κ (mirror _ _ _ _) _);rw[fF (by rw[h'.size];lia) f,fF (by rw[h'.size];lia) f];exact KeyOrd.kle_of_klt e
   .rw[qZ cq];exact wpS_pure ⟨0,U,h',d'.more Yo (KeyOrd.kle_of_klt e),Yo,λi l o=>by congr 1;lia⟩
  |false=>
   rw[qZ Yk];refine wpS_bind (gq k h' ok Yo Yo ?_);dsimp only
   cases e2:κ.blt (KK κ (arrOf a) (lo+x-1)) (KK κ (arrOf a) (lo+x))with
   |true=>exact wpS_pure ⟨x,b,U,h',Yo,Yo,d',g,f⟩
   |false=>
    have r:KK κ (arrOf a) (lo+x)=KK κ (arrOf a) (lo+x-1):=KeyOrd.kle_antisymm e2 e;refine wpS_pure ⟨b+1,U,h',d'.more Yo e2,Yo,λi l o=>?_⟩;rw[show lo+(x+1)-1=lo+x by lia];by_cases ix:i=lo+x
    .rw[ix]
    .rw[r];exact f i Yo Yo
 .rintro c a ⟨b,rfl,h',d',g,f⟩;rw[show max (n+1) d=d by lia]at d' g f ⊢;exact⟨d,b,U,h',nn,qd _,d',g,f⟩
 .rintro c a ⟨m,b,rfl,h',_,t,d',g,f⟩;dsimp only;by_cases cq:b > 0
  .rw[Q0 cq];exact wpS_bind (jr (si k (h'.flip Yo Yo) ok Yo t hz (same h' Yo g f d') q))
  .rw[qZ cq];exact si k h' ok Yo t hz d' q
theorem yS(g:κ.OneLt)(h:SBL ν lo st)(ok:∀p∈(arrOf ν).toList,KOk κ p){b:Nat}(n1:1<=b)(hz:lo+b<=(arrOf ν).size){Q:Option Nat->SortSt->Prop}(q:∀m f,SBL ν lo f->1<=m->m<=b->bQ κ (arrOf f) lo m->Q (some m) f):wpS (model prog w) A E s (countRun' lo b) Q st:=by
 rw[countRun'_eq];refine wpS_bind (wpS_mono (wpS_forRange (I:=λx c a=>a=st/\c=(none,x)/\bQ κ (arrOf st) lo x) (Q:=λc a=>a=st/\∃m,c=(none,m)/\1<=m/\m<=b/\bQ κ (arrOf st) lo m/\(m=b\/κ.klt (KK κ (arrOf st) (lo+m)) (KK κ (arrOf st) (lo+m-1)))) ?_ ?_ ⟨U,U,bQ.one⟩) ?_)
 .rintro x c a _ _ ⟨rfl,rfl,d⟩;refine wpS_bind (gq g h ok Yo Yo ?_);dsimp only
  cases e:κ.blt (KK κ (arrOf a) (lo+x)) (KK κ (arrOf a) (lo+x-1))with
  |true=>exact wpS_pure ⟨U,x,U,Yo,Yo,d,.inr e⟩
  |false=>exact wpS_pure ⟨U,U,d.more Yo e⟩
 .rintro c a ⟨rfl,rfl,d⟩;rw[show max 1 b=b by lia]at d ⊢;exact⟨U,b,U,n1,qd _,d,.inl U⟩
 .rintro c a ⟨rfl,m,rfl,r,n,d,o⟩;dsimp only;by_cases c1:m=b
  .rw[Q0 (by simpa using c1)];exact wpS_pure (q m a h r n d)
  .rw[qZ (by simpa using c1)];have lt:=o.resolve_left c1;by_cases c2:m > 1
   .rw[Q0 c2];refine wpS_bind (gq g h ok Yo Yo ?_);dsimp only
    cases e:κ.blt (KK κ (arrOf a) lo) (KK κ (arrOf a) (lo+m-1))with
    |true=>exact wpS_pure (q m a h r n d)
    |false=>
     have all:∀k,lo<=k->k<lo+m->KK κ (arrOf a) k=KK κ (arrOf a) (lo+m-1):=λk _ _=>by
      have b1:=d 0 (k-lo) Yo Yo;have b2:=d (k-lo) (m-1) Yo Yo;rw[show lo+(k-lo)=k by lia]at b1 b2;rw[show lo+(m-1)=lo+m-1 by lia]at b2;exact KeyOrd.kle_antisymm b2 (KeyOrd.kle_trans e b1)
     have t:cT κ (arrOf (setArr a (mirror (arrOf a) lo (lo+m) ((lo+m-lo) / 2)))) lo (m+1):=by
      have l:lo+m<=(arrOf a).size:=by rw[h.size];lia
      refine cT.more (λi j u v=>?_) Yo ?_
      .show κ.kle (KK κ (mirror _ _ _ _) _) (KK κ (mirror _ _ _ _) _);rw[fF l all,fF l all,all (lo+i) Yo Yo,all (lo+j) Yo Yo];exact KeyOrd.kle_refl _
      .show κ.kle (KK κ (mirror _ _ _ _) _) (KK κ (mirror _ _ _ _) _);rw[fF l all,fF l all];exact KeyOrd.kle_of_klt lt
     exact wpS_bind (jr (sj g (h.flip (qd _) Yo) ok Yo hz t q))
   .rw[qZ c2];obtain rfl:m=1:=Yo;refine sj g h ok Yo hz (cT.more (λi j u v=>?_) Yo (KeyOrd.kle_of_klt lt)) q;obtain rfl:i=j:=Yo;exact KeyOrd.kle_refl _
theorem yU(F:κ.OneLt)(h:SBL ν lo st)(ok:∀p∈(arrOf ν).toList,KOk κ p){n:Nat}(H:m<=n)(hz:lo+n<=(arrOf ν).size)(so:bQ κ (arrOf st) lo m){Q:Bool->SortSt->Prop}(q:∀a,SBL ν lo a->bQ κ (arrOf a) lo n->Q true a):wpS (model prog w) A E s (binarySort' lo n m) Q st:=by
 rw[binarySort'_eq];refine wpS_bind (wpS_mono (wpS_forRange (I:=λk c a=>c=(none,())/\SBL ν lo a/\bQ κ (arrOf a) lo (min k n)) (Q:=λc a=>c=(none,())/\SBL ν lo a/\bQ κ (arrOf a) lo n) ?_ ?_ ⟨U,h,λi j y _=>?_⟩) ?_)
 .rintro k c a _ _ ⟨rfl,h',d⟩;rw[show min k n=k by lia]at d;refine wpS_bind (wpS_mono (wpS_forRange (I:=λx c b=>b=a/\∃l r,c=(none,l,r)/\l<=r/\r<=k/\r-l<=k-x/\(∀i,i<l->κ.kle (KK κ (arrOf a) (lo+i)) (KK κ (arrOf a) (lo+k)))/\∀i,r<=i->i<k->κ.klt (KK κ (arrOf a) (lo+k)) (KK κ (arrOf a) (lo+i))) (Q:=λc b=>b=a/\∃l,c=(none,l,l)/\l<=k/\(∀i,i<l->κ.kle (KK κ (arrOf a) (lo+i)) (KK κ (arrOf a) (lo+k)))/\∀i,l<=i->i<k->κ.klt (KK κ (arrOf a) (lo+k)) (KK κ (arrOf a) (lo+i))) ?_ ?_ ⟨U,0,k,U,Yo,Yo,Yo,λi hi=>Yo,λi u v=>Yo⟩) ?_)
  .rintro x c b _ _ ⟨rfl,l,r,rfl,D,o,B,f,g⟩;dsimp only;by_cases c1:l >= r
   .rw[Q0 c1];obtain rfl:l=r:=Yo;exact wpS_pure ⟨U,l,U,o,f,g⟩
   .rw[qZ c1];refine wpS_bind (gq F h' ok Yo Yo ?_);dsimp only
    cases e:κ.blt (KK κ (arrOf b) (lo+k)) (KK κ (arrOf b) (lo+(l+r) / 2))with
    |true=>
     rw[Q0 U];exact wpS_pure ⟨U,l,(l+r) / 2,U,Yo,Yo,Yo,f,λi u v=>KeyOrd.klt_of_klt_of_kle e (d _ _ u v)⟩
    |false=>
     rw[qZ Yk];exact wpS_pure ⟨U,(l+r) / 2+1,r,U,Yo,Yo,Yo,λi u=>KeyOrd.kle_trans (d i ((l+r) / 2) Yo Yo) (show κ.kle _ _ from e),g⟩
  .rintro c b ⟨rfl,l,r,rfl,D,o,B,f,g⟩;obtain rfl:l=r:=Yo;exact⟨U,l,U,o,f,g⟩
  .rintro c b ⟨rfl,l,rfl,o,f,g⟩;dsimp only;rw[moveDown'_eq];have t:lo+k<(arrOf b).size:=by rw[h'.size];lia
   refine wpS_bind (wpS_modify (wpS_pure ⟨U,h'.put (bubble_perm _ _ _) λi hi=>?_,?_⟩))
   .rw[getElem?_bubble t _ Yo];rw[qZ Yo,qZ Yo]
   .rw[show min (k+1) n=k+1 by lia];intro i j y _;show κ.kle (KK κ (bubble (arrOf b) (lo+k) (lo+k-(lo+l))) (lo+i)) (KK κ (bubble (arrOf b) (lo+k) (lo+k-(lo+l))) (lo+j));rw[KK_bubble t Yo,KK_bubble t Yo,show lo+k-(lo+k-(lo+l))=lo+l by lia];have G:∀z,lo+z-1=lo+(z-1)\/z=0:=λz=>Yo
    repeat' split
    all_goals first
     |(exfalso;lia)
     |exact KeyOrd.kle_refl _
     |exact f _ Yo
     |exact KeyOrd.kle_of_klt (g _ Yo Yo)
     |exact d _ _ Yo Yo
     |(rw[show lo+i-1=lo+(i-1)by lia,show lo+j-1=lo+(j-1)by lia];exact d _ _ (by lia) (by lia))
     |(rw[show lo+j-1=lo+(j-1)by lia];first|exact d _ _ (by lia) (by lia)|exact KeyOrd.kle_of_klt (g _ Yo Yo))
     |(rw[show lo+i-1=lo+(i-1)by lia];first|exact d _ _ (by lia) (by lia)|exact f _ (by lia))
 .rintro c a ⟨C,h',d⟩;exists C,h'
  rwa [show min (max (max m 1) n) n=n by lia]at d
 .by_cases c:m=0
  .obtain rfl:i=j:=by lia
   exact KeyOrd.kle_refl _
  .exact so i j y Yo
 .rintro c a ⟨rfl,h',d⟩;exact wpS_pure (q a h' d)
end
end
section
variable {κ:KeyKind}
def bA(κ:KeyKind):Nat->List (Nat×Nat×Nat)->List (List Keyed)->Prop
 |_,[],[]=>True
 |b,t::r,X::Xs=>t.1=b/\t.2.1=X.length/\0<X.length/\X.Pairwise (kLe κ)/\bA κ (b+X.length) r Xs
 |_,_,_=>False
theorem bA.len:∀{b:Nat}{p:List (Nat×Nat×Nat)}{Xs:List (List Keyed)},bA κ b p Xs->p.length=Xs.length
 |_,[],[],_=>rfl
 |_,_::_,_::_,h=>congrArg (·+1) (bA.len h.2.2.2.2)
theorem bA.few:∀{b:Nat}{p:List (Nat×Nat×Nat)}{Xs:List (List Keyed)},bA κ b p Xs->Xs.length<=Xs.flatten.length
 |_,[],[],_=>qd _
 |_,_::_,X::Xs,h=>by
  have:=bA.few h.2.2.2.2;have:=h.2.2.1;rw[List.flatten_cons,qa,qz];lia
theorem bA.snoc{X:List Keyed}{n w:Nat}(h0:0<X.length)(hn:n=X.length)(a:X.Pairwise (kLe κ)):∀{b:Nat}{p:List (Nat×Nat×Nat)}{Xs:List (List Keyed)}{lo:Nat},bA κ b p Xs->lo=b+Xs.flatten.length->bA κ b (p++[(lo,n,w)]) (Xs++[X])
 |b,[],[],lo,_,e=>⟨e,hn,h0,a,trivial⟩
 |b,t::r,Y::Xs,lo,h,e=>⟨h.1,h.2.1,h.2.2.1,h.2.2.2.1,bA.snoc h0 hn a h.2.2.2.2 (by rw[e,List.flatten_cons,qa];lia)⟩
theorem bA.alike:∀{b:Nat}{p a:List (Nat×Nat×Nat)}{Xs:List (List Keyed)},p.map (λt=>(t.1,t.2.1))=a.map (λt=>(t.1,t.2.1))->bA κ b p Xs->bA κ b a Xs
 |_,[],[],[],_,_=>trivial
 |_,t::r,t'::r',X::Xs,e,h=>by
  rw[qR,qR]at e;obtain⟨c,f⟩:=List.cons.inj e;have g:t.1=t'.1:=congrArg (·.1) c;have d:t.2.1=t'.2.1:=congrArg (·.2) c;exact⟨g.symm.trans h.1,d.symm.trans h.2.1,h.2.2.1,h.2.2.2.1,bA.alike f h.2.2.2.2⟩
theorem bA.two:∀{i b:Nat}{p:List (Nat×Nat×Nat)}{Xs:List (List Keyed)},bA κ b p Xs->i+1<p.length->∃pa sa na d c nb a pb,∃(C:List (List Keyed))(X Y:List Keyed)(D:List (List Keyed)),p=pa++(sa,na,d)::(c,nb,a)::pb/\pa.length=i/\Xs=C++X::Y::D/\sa=b+C.flatten.length/\na=X.length/\c=sa+na/\nb=Y.length/\0<na/\0<nb/\X.Pairwise (kLe κ)/\Y.Pairwise (kLe κ)/\∀M:List Keyed,M.length=na+nb->M.Pairwise (kLe κ)->bA κ b (pa++(sa,na+nb,d)::pb) (C++M::D)
 |0,b,(sa,na,d)::(c,nb,a)::pb,X::Y::D,h,_=>by
  obtain⟨h1,h2,n,f,k,e,_,s,q⟩:=h;have h1:sa=b:=h1;have h2:na=X.length:=h2;have k:c=b+X.length:=k;have e:nb=Y.length:=e;refine⟨[],sa,na,d,c,nb,a,pb,[],X,Y,D,U,U,U,by rw[h1];rfl,h2,Yo,e,Yo,Yo,f,s,λM l g=>⟨h1,l.symm,Yo,g,?_⟩⟩;rwa[l,h2,e,<- Nat.add_assoc]
 |0,_,[_],_,_,h=>by simp at h
 |0,_,(_::_::_),[_],h,_=>by
  exact Q5 h.2.2.2.2 (by simp[bA])
 |i+1,b,t::r,Z::Xs,h,hi=>by
  obtain⟨h1,h2,n,f,E⟩:=h;obtain⟨pa,sa,na,d,c,nb,a,pb,C,X,Y,D,A,F,z,u,v,w,x,y,B,m,j,o⟩:=bA.two (i:=i) E (by simpa using hi);refine⟨t::pa,sa,na,d,c,nb,a,pb,Z::C,X,Y,D,by rw[A];rfl,by rw[qz,F],by rw[z];rfl,by rw[u,List.flatten_cons,qa];lia,v,w,x,y,B,m,j,λM l g=>⟨h1,h2,n,f,o M l g⟩⟩
structure SI(κ:KeyKind)(a₀:Array Keyed)(st:SortSt)(Xs:List (List Keyed))(R:List Keyed):Prop where
 kd:kindOf st=oneType'
 fl:failedOf st=none
 pm:(arrOf st).toList.Perm a₀.toList
 eL:(arrOf st).toList=Xs.flatten++R
 ru:bA κ 0 (pendingOf st).toList Xs
section
variable {a₀:Array Keyed}{st:SortSt}{Xs:List (List Keyed)}{R:List Keyed}
theorem SI.size(h:SI κ a₀ st Xs R):Xs.flatten.length+R.length=a₀.size:=by
 have:=h.pm.length_eq;rw[h.eL,qa,qL]at this;exact this
theorem lU(K:κ.OneLt)(ok:∀p∈a₀.toList,KOk κ p)(h:SI κ a₀ st Xs R)(hi:i+1<(pendingOf st).size){Q:Bool->SortSt->Prop}(q:∀a b,SI κ a₀ a b R->b.length+1=Xs.length->b.flatten.length=Xs.flatten.length->Q true a):wpS (model prog w) A E s (mergeAt' i) Q st:=by
 obtain⟨g,sa,c,r,F,m,y,pb,C,X,Y,D,k,l,j,G,e,H,f,I,J,t,o,B⟩:=h.ru.two (i:=i) (by rwa[qL])
 have L:(pendingOf st)[i]?=some (sa,c,r):=by
  rw[<- qT,k,qK Yo,l,Nat.sub_self]
  rfl
 have p2:(pendingOf st)[i+1]?=some (F,m,y):=by
  rw[<- qT,k,qK Yo,l,show i+1-i=1 by lia]
  rfl
 have eL:(arrOf st).toList=C.flatten++(X++(Y++(D.flatten++R))):=by
  rw[h.eL,j];simp only[List.flatten_append,List.flatten_cons,qM]
 refine yO K h.kd (λp hp=>ok p (h.pm.mem_iff.mp hp)) h.fl L p2 eL (by rw[G,Nat.zero_add]) e.symm f.symm H I J t o λM a d n z v u=>?_;have x:M.length=c+m:=by rw[d.1.length_eq,qa,e,f]
 refine q a (C++M::D) ⟨z,v,?_,?_,?_⟩ ?_ ?_
 .refine List.Perm.trans ?_ h.pm;rw[n,eL];refine List.Perm.append_left _ ?_;rw[<- qM X Y];exact d.1.append_right _
 .rw[n];simp only[List.flatten_append,List.flatten_cons,qM]
 .have:(pendingOf a).toList=g++(sa,c+m,r)::pb:=by
   rw[u,Array.toList_eraseIdxIfInBounds,Array.toList_setIfInBounds,k,<- l,List.set_append_right _ _ (qd _),Nat.sub_self,List.eraseIdx_append_of_length_le Yo,show g.length+1-g.length=1 by lia]
   rfl
  rw[this];exact B M x d.2
 .rw[j];simp only[qa,qz];lia
 .rw[j];simp only[List.flatten_append,List.flatten_cons,qa,x,e,f];lia
end
theorem AM{xs:Array Keyed}{n:Nat}(hz:lo+n<=xs.size)(h:bQ κ xs lo n):((xs.toList.drop lo).take n).Pairwise (kLe κ):=by
 rw[List.pairwise_iff_getElem];intro i j hi a _;rw[qJ,qY,qL]at hi a;rw[List.getElem_take,List.getElem_take,List.getElem_drop,List.getElem_drop];have:=h i j Yo Yo
 have k:∀i (hi:lo+i<xs.toList.length),KK κ xs (lo+i)=ky κ (xs.toList[lo+i]):=λi hi=>KK_congr (by
  rw[<- qT,qb hi]
  rfl)
 rw[k i (by rw[qL];lia),k j (by rw[qL];lia)]at this;exact this
theorem SBL.tail{a st:SortSt}(h:SBL a lo st){P R:List Keyed}(e:(arrOf a).toList=P++R)(l:P.length=lo):(arrOf st).toList=P++(arrOf st).toList.drop lo/\((arrOf st).toList.drop lo).Perm R:=by
 have t:(arrOf st).toList.take lo=P:=by
  apply List.ext_getElem?;intro i;by_cases c:i<lo
  .rw[List.getElem?_take_of_lt c,qT,h.lw i c,<- qT,e,Q6 Yo]
  .rw[Qp (by rw[qJ];lia),Qp Yo]
 have b:(arrOf st).toList=P++(arrOf st).toList.drop lo:=by
  conv=>lhs;rw[<- Qu lo (arrOf st).toList]
  rw[t]
 exists b;have:=Array.perm_iff_toList_perm.mp h.pm;rw[e,b]at this;exact(List.perm_append_left_iff P).mp this
theorem wc{p:Array (Nat×Nat×Nat)}{w:Nat}:((p.modify i λ(st,len,_)=>(st,len,w)).toList).map (λt=>(t.1,t.2.1))=p.toList.map (λt=>(t.1,t.2.1)):=by
 rw[Array.toList_modify];apply List.ext_getElem?;intro j;rw[qD,qD,List.getElem?_modify]
 cases p.toList[j]? with
 |none=>rfl
 |some t=>
  by_cases c:i=j
  .simp[c]
  .simp[c]
theorem SBL.refl{st:SortSt}{lo:Nat}(h:kindOf st=oneType'):SBL st lo st:=⟨Array.Perm.refl _,λ_ _=>U,h,U,U⟩
section
variable {a₀:Array Keyed}{st:SortSt}{Xs:List (List Keyed)}{R:List Keyed}{n:Nat}
theorem SI.push(h:SI κ a₀ st Xs R)(el:Xs.flatten.length=lo)(a:0<n)(nl:n<=R.length)(so:(R.take n).Pairwise (kLe κ)):SI κ a₀ (setPending st ((pendingOf st).push (lo,n,0))) (Xs++[R.take n]) (R.drop n)/\(Xs++[R.take n]).flatten.length=lo+n:=by
 have lt:(R.take n).length=n:=by rw[qJ];lia
 refine⟨⟨h.kd,h.fl,h.pm,?_,?_⟩,?_⟩
 .show(arrOf st).toList=_;rw[h.eL,List.flatten_append,qM];show _=Xs.flatten++((R.take n++[])++R.drop n);rw[qw,Qu]
 .show bA κ 0 ((pendingOf st).push (lo,n,0)).toList _;rw[Array.toList_push];exact bA.snoc Yo lt.symm so h.ru (by rw[el,Nat.zero_add])
 .rw[List.flatten_append,qa,el];show lo+(R.take n++[]).length=_;rw[qw,lt]
end
theorem Ak{xs:Array Keyed}(h:xs.toList.Pairwise (kLe κ)):SortedToK κ xs xs.size:=λi j b js=>by
 have k:∀i (hi:i<xs.toList.length),KK κ xs i=ky κ (xs.toList[i]):=λi hi=>KK_congr (by
  rw[<- qT,qb hi]
  rfl)
 have a:j<xs.toList.length:=by rwa[qL]
 rcases Nat.lt_or_eq_of_le b with c|rfl
 .rw[k i Yo,k j a];exact List.pairwise_iff_getElem.mp h i j Yo a c
 .exact KeyOrd.kle_refl _
theorem yK{a₀:Array Keyed}{st:SortSt}{Q:Unit->SortSt->Prop}(F:κ.OneLt)(ok:∀p∈a₀.toList,KOk κ p)(k0:kindOf st=oneType')(f0:failedOf st=none)(p0:pendingOf st=#[])(e0:arrOf st=a₀)(j:2<=a₀.size)(q:∀g,(arrOf g).Perm a₀->failedOf g=none->SortedToK κ (arrOf g) a₀.size->Q () g):wpS (model prog w) A E s sortRuns' Q st:=by
 rw[sortRuns'_eq];refine wpS_bind (wpS_get ?_);dsimp only;rw[e0];refine wpS_bind (wpS_mono (wpS_forRange (I:=λx c g=>∃lo f R,c=(none,lo)/\SI κ a₀ g f R/\f.flatten.length=lo/\x<=lo) (Q:=λc g=>∃lo f,c=(none,lo)/\SI κ a₀ g f []) ?_ ?_ ⟨0,[],a₀.toList,U,⟨k0,f0,by rw[e0],by rw[e0];rfl,by rw[p0];trivial⟩,U,qd _⟩) ?_)
 .rintro x c g _ hx ⟨lo,f,R,rfl,h,el,xl⟩;dsimp only;have sz:=h.size;by_cases c1:lo >= a₀.size
  .rw[Q0 c1];obtain rfl:R=[]:=List.length_eq_zero_iff.mp Yo;exact wpS_pure ⟨lo,f,U,h⟩
  .rw[qZ c1];have za:(arrOf g).size=a₀.size:=by rw[<- qL,h.pm.length_eq,qL]
   refine wpS_bind (yS F (SBL.refl h.kd) (λp hp=>ok p (h.pm.mem_iff.mp hp)) Yo Yo λm b b2 Z Y H=>?_);dsimp only
   have B:∀n b,SBL g lo b->1<=n->n<=a₀.size-lo->bQ κ (arrOf b) lo n->SI κ a₀ b f ((arrOf b).toList.drop lo)/\n<=((arrOf b).toList.drop lo).length/\(((arrOf b).toList.drop lo).take n).Pairwise (kLe κ):=λn b b2 n1 n2 H=>by
    obtain⟨t1,_⟩:=b2.tail h.eL el;have S:(arrOf b).size=a₀.size:=b2.size.trans za;refine⟨⟨b2.kd,b2.fl.trans h.fl,(Array.perm_iff_toList_perm.mp b2.pm).trans h.pm,t1,by rw[b2.pd];exact h.ru⟩,by rw[qY,qL];lia,AM Yo H⟩
   by_cases c2:m<minRun' a₀.size a₀.size 0
   .rw[Q0 c2];refine wpS_bind (wpS_lift (wpAny_rule ⟨U,?_⟩));refine wpS_bind (yU F b2 (λp hp=>ok p (h.pm.mem_iff.mp hp)) Yo Yo H λk W V=>?_);rw[qZ Yk];obtain⟨o,D,C⟩:=B _ k W Yo Yo V;refine wpS_bind (wpS_get ?_)
    cases(pendingOf k).back? with
    |none=>
     dsimp only;obtain⟨d,i⟩:=o.push el Yo D C;exact wpS_bind (wpS_modify (wpS_pure ⟨_,_,_,U,d,i,Yo⟩))
    |some t=>
     obtain⟨u,v,z⟩:=t;dsimp only;generalize power' a₀.size (2 * u+v) _ a₀.size=pw;refine wpS_bind (wpS_mono (wpS_forRange (I:=λ_ c a=>c=(none,())/\∃e,SI κ a₀ a e ((arrOf k).toList.drop lo)/\e.flatten.length=lo) (Q:=λc a=>c=(none,())/\∃e,SI κ a₀ a e ((arrOf k).toList.drop lo)/\e.flatten.length=lo) ?_ (λc a L=>L) ⟨U,f,o,el⟩) ?_)
     .rintro y c a _ _ ⟨rfl,e,d,i⟩;refine wpS_bind (wpS_get ?_);by_cases c3:(pendingOf a).size > 1
      .rw[Q0 c3,getElem?_pos (pendingOf a) ((pendingOf a).size-2) Yo];dsimp only;by_cases c4:((pendingOf a)[(pendingOf a).size-2]' Yo).2.2<=pw
       .rw[Q0 c4];exact wpS_pure ⟨U,e,d,i⟩
       .rw[qZ c4];refine wpS_bind (lU F ok d Yo λK0 M l _ J=>?_);exact wpS_pure ⟨U,M,l,J.trans i⟩
      .rw[qZ c3];exact wpS_pure ⟨U,e,d,i⟩
     .rintro c a ⟨rfl,e,d,i⟩;dsimp only;refine wpS_bind (wpS_modify ?_);have l:SI κ a₀ (setPending a ((pendingOf a).modify ((pendingOf a).size-1) λx=>(x.1,x.2.1,pw))) e ((arrOf k).toList.drop lo):=⟨d.kd,d.fl,d.pm,d.eL,bA.alike wc.symm d.ru⟩;obtain⟨N,K⟩:=l.push i Yo D C;exact wpS_bind (wpS_modify (wpS_pure ⟨_,_,_,U,N,K,Yo⟩))
   .rw[qZ c2];obtain⟨o,D,C⟩:=B _ b b2 Z Y H;refine wpS_bind (wpS_get ?_)
    cases(pendingOf b).back? with
    |none=>
     dsimp only;obtain⟨d,i⟩:=o.push el Yo D C;exact wpS_bind (wpS_modify (wpS_pure ⟨_,_,_,U,d,i,Yo⟩))
    |some t=>
     obtain⟨u,v,z⟩:=t;dsimp only;generalize power' a₀.size (2 * u+v) _ a₀.size=pw;refine wpS_bind (wpS_mono (wpS_forRange (I:=λ_ c a=>c=(none,())/\∃e,SI κ a₀ a e ((arrOf b).toList.drop lo)/\e.flatten.length=lo) (Q:=λc a=>c=(none,())/\∃e,SI κ a₀ a e ((arrOf b).toList.drop lo)/\e.flatten.length=lo) ?_ (λc a L=>L) ⟨U,f,o,el⟩) ?_)
     .rintro y c a _ _ ⟨rfl,e,d,i⟩;refine wpS_bind (wpS_get ?_);by_cases c3:(pendingOf a).size > 1
      .rw[Q0 c3,getElem?_pos (pendingOf a) ((pendingOf a).size-2) Yo];dsimp only;by_cases c4:((pendingOf a)[(pendingOf a).size-2]' Yo).2.2<=pw
       .rw[Q0 c4];exact wpS_pure ⟨U,e,d,i⟩
       .rw[qZ c4];refine wpS_bind (lU F ok d Yo λK0 M l _ J=>?_);exact wpS_pure ⟨U,M,l,J.trans i⟩
      .rw[qZ c3];exact wpS_pure ⟨U,e,d,i⟩
     .rintro c a ⟨rfl,e,d,i⟩;dsimp only;refine wpS_bind (wpS_modify ?_);have l:SI κ a₀ (setPending a ((pendingOf a).modify ((pendingOf a).size-1) λx=>(x.1,x.2.1,pw))) e ((arrOf b).toList.drop lo):=⟨d.kd,d.fl,d.pm,d.eL,bA.alike wc.symm d.ru⟩;obtain⟨N,K⟩:=l.push i Yo D C;exact wpS_bind (wpS_modify (wpS_pure ⟨_,_,_,U,N,K,Yo⟩))
 .rintro c g ⟨lo,f,R,rfl,h,el,xl⟩;have sz:=h.size;obtain rfl:R=[]:=List.length_eq_zero_iff.mp Yo;exact⟨lo,f,U,h⟩
 .rintro c g ⟨lo,f,rfl,h⟩;dsimp only;have few:=h.ru.few;have sz:=h.size;rw[List.length_nil]at sz;refine wpS_bind (wpS_mono (wpS_forRange (I:=λx c b=>c=(none,())/\∃f,SI κ a₀ b f []/\(f.length<=1\/f.length+x<=a₀.size)) (Q:=λc b=>c=(none,())/\∃f,SI κ a₀ b f []/\f.length<=1) ?_ ?_ ⟨U,f,h,.inr Yo⟩) ?_)
  .rintro x c b _ hx ⟨rfl,G,j,P⟩;refine wpS_bind (wpS_get ?_);have l2:=j.ru.len;rw[qL]at l2;by_cases c1:(pendingOf b).size<=1
   .rw[Q0 c1];exact wpS_pure ⟨U,G,j,Yo⟩
   .rw[qZ c1];have T:∀(c:Prop)[Decidable c],(if c then(pendingOf b).size-2-1 else(pendingOf b).size-2)+1<(pendingOf b).size:=λc _=>by split<;>lia
    refine wpS_bind (lU F ok j (T _) λk X3 o _ _=>?_);exact wpS_pure ⟨U,X3,o,Yo⟩
  .rintro c b ⟨rfl,G,j,P⟩;exact⟨U,G,j,Yo⟩
  .rintro c b ⟨rfl,G,j,l2⟩;refine wpS_pure (q b (Array.perm_iff_toList_perm.mpr j.pm) j.fl ?_);have S:(arrOf b).size=a₀.size:=by rw[<- qL,j.pm.length_eq,qL]
   rw[<- S];refine Ak ?_;rw[j.eL,qw]
   match G,j,l2 with
   |[],_,_=>exact List.Pairwise.nil
   |[X],j,_=>
    have r:=j.ru
    cases ep:(pendingOf b).toList with
    |nil=>rw[ep]at r;exact Q5 r (by simp[bA])
    |cons t _=>
     rw[ep]at r;have:=r.2.2.2.1;show(X++[]).Pairwise (kLe κ);rwa[qw]
end
theorem Am{κ:KeyKind}(d:κ.OneLt){n:Nat}{P:Fin->Shared->Prop}(a:s.heap.get? l=some (seqObj "list" us.toArray n))(f:KeysOf κ (pairsOf us))(one:∀u v r,us=u::v::r->keyKind' (u::v::r).toArray=pure oneType')(o:us.length<=100000)
 (fin:∀z:SortSt,(arrOf z).Perm (pairsOf us)->SortedToK κ (arrOf z) (pairsOf us).size->P (.done (.ret .none)) { s with heap:=sortedHeap s.heap l us ((arrOf z).map (·.2)) }):
 wpAny (model prog w) A (Builtin.«list.sort» ⟨[.ref l],[]⟩) P E s:=by
 have big:(100000:Nat)<=sizeLine:=Yk;by_cases h64:us.length<64
 .exact list_sort_treeK d a f one h64 fin
 have lt:=qp a;have sz:us.toArray.size=us.length:=qA;rw[list_sort_plain];refine q4 (listItems_at a U (q4 (listUpdate_at a U ?_)));obtain⟨ep,b⟩:∃ep,(s.heap.update l (Obj.mapSeq λ_=>#[])).get? l=some (seqObj "list" #[] ep):=⟨_,get?_update_seq a (λ_=>#[])⟩;refine q4 (seqEpoch_at b U (q4 (wpAny_newTuple (q4 (wpAny_newList (Qv ?_)))) ))
 have c:(((s.heap.update l (Obj.mapSeq λ_=>#[])).push (seqObj "tuple" us.toArray 0)).push (seqObj "list" #[] 0)).get? l=some (seqObj "list" #[] ep):=by
  rw[Heap.get?_push_ne _ _ _ (by rw[size_push',Heap.size_update];exact qF (Qq lt)),Heap.get?_push_ne _ _ _ (by rw[Heap.size_update];exact qF lt)];exact b
 show wpAny (model prog w) A _ P E { s with heap:=((s.heap.update l (Obj.mapSeq λ_=>#[])).push (seqObj "tuple" us.toArray 0)).push (seqObj "list" #[] 0) };dsimp only;have two:¬ us.toArray.size<2:=Yo;rw[qZ two,qZ two]
 obtain⟨u,v,r,rfl⟩:∃u v r,us=u::v::r:=by
  match us,sz,two with
  |[],_,h=>simp at h
  |[_],_,h=>simp at h
  |u::v::r,_,_=>exact⟨u,v,r,U⟩
 rw[one _ _ _ U];refine q4 (qc ?_)
 refine q4 (wpAny_mono (yK (κ:=κ) (a₀:=pairsOf (u::v::r)) (st:=SortSt.mk' oneType' ((u::v::r).toArray.zip (u::v::r).toArray) #[] 7 none) (Q:=λ_ z=>(arrOf z).Perm (pairsOf (u::v::r))/\failedOf z=none/\SortedToK κ (arrOf z) (pairsOf (u::v::r)).size)
  d f U U U U (by rw[pairsOf_size];simp) λz i m j=>⟨i,m,j⟩) ?_ λ_ _ e=>e)
 rintro⟨⟨⟩,z⟩ _ ⟨rfl,g,k,zs⟩;dsimp only
 refine q4 (seqEpoch_at c U (q4 (listUpdate_at c U ?_ (hsz2:=by
  refine qx (Nat.le_of_eq ((Array.size_map ..).trans (g.size_eq.trans (pairsOf_size _)))) ?_
  lia))))
 rw[k];simp only[bne_self_eq_false,Qk,if_false];exact qc (fin z g zs)
theorem Ai{vs:LL}{ss:LS}(hl:s.heap.IsList l vs.toArray)(b:StrsAre vs ss)(c:vs.length<=100000)
 (q:∀(out:LD)(zs:LS),StrsAre out.toList zs->zs.Perm ss->sortedS zs=true->Q (.ref (s.heap.objs.size+1)) { s with heap:=sortedAll s.heap vs out }):wpAny (model prog w) A (call (.builtin "sorted") [.ref l]) Q E s:=by
 refine Calls.call_function_entry kind_sorted plain_sorted entry_sorted (args_sorted1 _) ?_;unfold Builtin.«sorted»;refine q4 (m:=checkCount "sorted" 1 1 _) (qc (q4 (collect_list hl (q4 (wpAny_newList ?_)))));have n1:((s.heap.push (seqObj "list" #[] 0)).update s.heap.objs.size (Obj.mapSeq (·++vs.toArray))).objs.size=s.heap.objs.size+1:=by rw[Heap.size_update,size_push']
 have a:(((s.heap.push (seqObj "list" #[] 0)).update s.heap.objs.size (Obj.mapSeq (·++vs.toArray))).push (seqObj "list" vs.toArray 0)).get? (s.heap.objs.size+1)=some (seqObj "list" vs.toArray 0):=by rw[<- n1];exact qo _ U
 show wpAny _ _ _ _ _ { s with heap:=((s.heap.push (seqObj "list" #[] 0)).update s.heap.objs.size (Obj.mapSeq (·++vs.toArray))).push (seqObj "list" vs.toArray 0) };rw[n1];refine q4 (Qv (Qj PyProof.Rows.slot_list_sort ⟨_,a,U⟩ PyProof.Rows.entry_list_sort (Am strKind_oneLt a b.keysOf (λu v r e=>keyKind_strs (by rwa[<- e])) c λz d h=>⟨_,U,?_⟩) (args_list_sort _)));obtain⟨zs,g,f,i⟩:=sorted_out_str b d h;exact qc ⟨_,U,q _ zs g f i⟩
theorem y9(m:X.calm=true):bf X (.builtin "sorted") (λxs H Q=>∃(p:Addr)(ys:LS),xs=[.ref p]/\SqL X.K H p (ys.map V.str)/\ys.length<=100000 /\
 ∀l zs,H l=none->zs.Perm ys->sortedS zs=true->Q (.ref l) (upd H l (.lst (zs.map V.str)))):=by
 intro _ s _ H xs us Q I r h;obtain⟨p,ys,rfl,g,hz,q⟩:=h;obtain⟨u,rfl,i⟩:=cK r;cases i;obtain⟨c,f,pl,_⟩:=I.list g;have d:=f.length;rw[q5]at d;refine Ai (vs:=c) pl.isList (md f) Yo λout zs j hp so=>?_;obtain⟨n,e⟩:=sortedAll_at s.heap c out;have k:zs.length<=sizeLine:=by rw[hp.length_eq];exact qx hz Yk
 have J:=I.laid (t':=s.toks) (h':=sortedAll s.heap c out) (a:=s.heap.objs.size+1) (o:=.lst (zs.map V.str)) (λb o q=>sortedAll_old q) (Nat.le_succ _) ⟨by rwa[q5],out.toList,n,kB j,e⟩;exact⟨.ref (s.heap.objs.size+1),_,J,U,q _ zs (I.hok.fresh (Nat.le_succ _)) hp so⟩
noncomputable def fn5:Nat->Nat->Nat
 |0,x=>x
 |n+1,x=>fn5 n (5 * x+1)
theorem xk:∀(a b x:Nat),fn5 (a+b) x=fn5 b (fn5 a x)
 |0,b,x=>by rw[Nat.zero_add];rfl
 |a+1,b,x=>by rw[Nat.succ_add];exact xk a b _
theorem xi:∀(n x:Nat),4 * fn5 n x+1=5 ^ n * (4 * x+1)
 |0,x=>by simp[fn5]
 |n+1,x=>by
  show 4 * fn5 n (5 * x+1)+1=_;rw[xi n,Nat.pow_succ,Nat.mul_assoc]
  congr 1
  lia
theorem xw:∀k:Nat,∃c,5 ^ (2 ^ k)=1+2 ^ (k+2) * (2 * c+1)
 |0=>⟨0,Yk⟩
 |k+1=>by
  obtain⟨c,f⟩:=xw k;exists c+2 ^ k * ((2 * c+1) * (2 * c+1));have e:(5:Nat) ^ (2 ^ (k+1))=5 ^ (2 ^ k) * 5 ^ (2 ^ k):=by rw[<- Nat.pow_add];congr 1;rw[Nat.pow_succ];lia
  have p2:(2:Nat) ^ (k+2)=4 * 2 ^ k:=by rw[Nat.pow_add];lia
  have g:(2:Nat) ^ (k+1+2)=8 * 2 ^ k:=by rw[Nat.pow_add,Nat.pow_add];lia
  rw[e,f,p2,g];generalize 2 ^ k=t;generalize hd:2 * c+1=d;have:2 * (c+t * (d * d))+1=d+2 * (t * (d * d)):=Yo;rw[this]
  have a:(1+4 * t * d) * (1+4 * t * d)=1+8 * (t * d)+16 * ((t * d) * (t * d)):=by
   rw[Nat.mul_assoc 4 t d];generalize t * d=z;rw[Nat.add_mul,Nat.one_mul,Nat.mul_add,Nat.mul_one,show 4 * z * (4 * z)=16 * (z * z)by rw[Nat.mul_assoc,Nat.mul_left_comm z 4 z];lia];lia
  have b:8 * t * (d+2 * (t * (d * d)))=8 * (t * d)+16 * ((t * d) * (t * d)):=by
   rw[Nat.mul_add,Nat.mul_assoc 8 t d,Nat.mul_assoc 8 t]
   have:t * (2 * (t * (d * d)))=2 * ((t * d) * (t * d)):=by
    rw[Nat.mul_left_comm t 2,Nat.mul_mul_mul_comm,Nat.mul_assoc t t]
   rw[this];lia
  rw[a,b];lia
theorem EM(k x:Nat):∃c,fn5 (2 ^ k) x=x+2 ^ k * (2 * c+1):=by
 obtain⟨c,a⟩:=xw k;have h:=xi (2 ^ k) x;have p2:(2:Nat) ^ (k+2)=4 * 2 ^ k:=by rw[Nat.pow_add];lia
 rw[a,p2]at h;exists c * (4 * x+1)+2 * x
 have e:2 * (c * (4 * x+1)+2 * x)+1=(2 * c+1) * (4 * x+1):=by
  rw[Nat.add_mul,Nat.one_mul,Nat.mul_assoc];lia
 rw[e];rw[Nat.add_mul,Nat.one_mul,Nat.mul_assoc,Nat.mul_assoc]at h;generalize 2 ^ k * ((2 * c+1) * (4 * x+1))=z at h ⊢;lia
theorem xj:∀(k i j:Nat),∃m,m<2 ^ k/\fn5 m i % 2 ^ k=j % 2 ^ k
 |0,i,j=>⟨0,Yk,by simp[Nat.mod_one]⟩
 |k+1,i,j=>by
  obtain⟨m,_,e⟩:=xj k i j;have p:(2:Nat) ^ (k+1)=2 ^ k * 2:=Nat.pow_succ _ _;have b:0<2 ^ k:=Nat.pow_pos Yk;have two:∀x,x % (2 ^ k * 2)=x % 2 ^ k+2 ^ k * (x / 2 ^ k % 2):=λx=>Nat.mod_mul;by_cases c:fn5 m i % 2 ^ (k+1)=j % 2 ^ (k+1)
  .exact⟨m,Yo,c⟩
  .exists m+2 ^ k,Yo;rw[xk];obtain⟨z,hz⟩:=EM k (fn5 m i);rw[hz];generalize fn5 m i=a at e c ⊢;rw[p,two a,two j,e]at c;rw[p,two (a+2 ^ k * (2 * z+1)),two j,Nat.add_mul_mod_self_left,e,Nat.add_mul_div_left _ _ b];have f:=Nat.mod_lt (a / 2 ^ k) (show 0<2 by decide);have d:=Nat.mod_lt (j / 2 ^ k) (show 0<2 by decide);have ne:a / 2 ^ k % 2≠j / 2 ^ k % 2:=λh=>c (by rw[h]);have:(a / 2 ^ k+(2 * z+1)) % 2=j / 2 ^ k % 2:=Yo;rw[this]
theorem wK{mask:Nat}:∀(m i:Nat),i<=mask->itr mask m i 0=fn5 m i % (mask+1)
 |0,i,h=>by
  show i=i % (mask+1);rw[Nat.mod_eq_of_lt (Nat.lt_succ_of_le h)]
 |m+1,i,h=>by
  show itr mask m ((i * 5+1+0 / 32) % (mask+1)) (0 / 32)=fn5 m (5 * i+1) % (mask+1);rw[Nat.zero_div,Nat.add_zero,wK m _ (Nat.le_of_lt_succ (Nat.mod_lt _ (Nat.succ_pos _))),Nat.mul_comm i 5]
  have key:∀(m x:Nat),fn5 m (x % (mask+1)) % (mask+1)=fn5 m x % (mask+1):=λm=>by
   induction m with
   |zero=>intro x;exact Nat.mod_mod _ _
   |succ m a=>
    intro x;show fn5 m (5 * (x % (mask+1))+1) % (mask+1)=fn5 m (5 * x+1) % (mask+1);rw[<- a (5 * (x % (mask+1))+1),<- a (5 * x+1)]
    congr 2
    rw[Nat.add_mod,Nat.mul_mod,Nat.mod_mod,<- Nat.mul_mod,<- Nat.add_mod]
  exact key m _
theorem Ed{k:Nat}(a:mask+1=2 ^ k)(hi:i<=mask)(b:j<=mask):∃m,m<=mask/\itr mask m i 0=j:=by
 obtain⟨m,_,e⟩:=xj k i j;exists m,Yo;rw[wK m i hi,a,e,<- a,Nat.mod_eq_of_lt (Nat.lt_succ_of_le b)]
theorem EI{ow:Array (Option Nat)}(c:∃k,mask+1=2 ^ k)(f:j<=mask)(hn:(ow.getD j (some 0)).isNone=true){p:Nat}(hi:i<=mask)(hp:p<2 ^ 64):
 ∃k,SetTable.layClean.free mask ow (SetTable.turns mask) i p=some k:=by
 cases e:SetTable.layClean.free mask ow (SetTable.turns mask) i p with
 |some k=>exact⟨k,U⟩
 |none=>
  exfalso;have a:=wZ _ _ _ hi e;have l:=wJ (mask:=mask) 13 i p hi;obtain⟨k,d⟩:=c;obtain⟨m,_,b⟩:=Ed d l f;have:=a (13+m) (by unfold SetTable.turns;lia);rw[wL,Nat.div_eq_of_lt (Nat.lt_trans hp Yk),b,hn]at this;cases this
theorem FE(v:∃k,mask+1=2 ^ k)(d:Array Int)(hl:d.size<=mask):∃ow:Array (Option Nat),SetTable.layClean mask d=some ow/\ow.size=mask+1/\(ow.toList.filterMap id).Perm (List.range d.size):=by
 unfold SetTable.layClean;rw[<- Array.foldl_toList]
 have m:∀(l:LI)(ow:Array (Option Nat))(k:Nat),ow.size=mask+1->(ow.toList.filterMap id).Perm (List.range k)->k+l.length<=mask->
  ∃a,(l.foldl (λ(r:Option (Array (Option Nat)×Nat)) h=>do
   let (owner,k) <- r
   let j <- SetTable.layClean.free mask owner (SetTable.turns mask) (SetTable.bits h % (mask+1)) (SetTable.bits h)
   pure (owner.setIfInBounds j (some k),k+1)) (some (ow,k)))=some (a,k+l.length)/\a.size=mask+1/\(a.toList.filterMap id).Perm (List.range (k+l.length)):=by
  intro l
  induction l with
  |nil=>intro ow k c b s;exact⟨ow,U,c,b⟩
  |cons h l w=>
   intro ow k c b s;rw[qz]at s;have len:=b.length_eq;rw[Qe]at len;obtain⟨j,t⟩:=xq ow.toList (by rw[len,qL,c];lia)
   have x:j<ow.size:=by
    have:=(qe.mp t).1
    rwa [qL]at this
   have u:∀j,(ow.getD j (some 0)).isNone=true↔ow.toList[j]?=some none:=λj=>by
    rw[qT,Array.getD_eq_getD_getElem?]
    cases ow[j]? with
    |none=>simp
    |some y=>cases y<;>simp
   have bl:SetTable.bits h<2 ^ 64:=by
    unfold SetTable.bits;lia
   obtain⟨q,n⟩:=EI (ow:=ow) v (j:=j) Yo ((u j).mpr t) (i:=SetTable.bits h % (mask+1)) (p:=SetTable.bits h) (Nat.le_of_lt_succ (Nat.mod_lt _ (Nat.succ_pos _))) bl;have o:=(u q).mp (x5 _ _ _ _ n)
   have:=w (ow.setIfInBounds q (some k)) (k+1) (by simpa using c) (by
    rw[Array.toList_setIfInBounds,List.range_succ];refine(xo _ _ _ o).trans ?_;refine(b.cons k).trans ?_
    exact(List.perm_append_comm (l₁:=[k]) (l₂:=List.range k))) Yo
   obtain⟨a,g,e,f⟩:=this;refine⟨a,?_,e,?_⟩
   .rw[Qz,qz,show k+(l.length+1)=k+1+l.length by lia,<- g]
    congr 1
    show(SetTable.layClean.free mask ow (SetTable.turns mask) (SetTable.bits h % (mask+1)) (SetTable.bits h)).bind _=_;rw[n]
    rfl
   .rwa[qz,show k+(l.length+1)=k+1+l.length by lia]
 obtain⟨a,g,e,f⟩:=m d.toList (Array.replicate (mask+1) none) 0 (by simp) (by simp) (by simpa using hl);refine⟨a,?_,e,by simpa using f⟩;rw[g]
 rfl
theorem wB(h:∃k,mask+1=2 ^ k)(f g:Nat)(led pl:Bool)(b:Array Int)(hl:b.size<=mask):
 ∃t a,SetTable.laid mask f g led pl b=some (t,a)/\a.toList.Perm (List.range b.size)/\t.mask=mask/\t.place.size=b.size/\t.dummies=#[]/\t.led=led/\t.plain=pl:=by
 obtain⟨ow,e,sz,pm⟩:=FE h b hl
 have c:((List.range (mask+1)).filterMap λj=>(ow.getD j none).map (j,·)).map (·.2)=ow.toList.filterMap id:=by
  rw[List.map_filterMap]
  have:ow.toList=(List.range (mask+1)).map λj=>ow.getD j none:=by
   refine List.ext_getElem (by simp[sz]) λi d _=>?_;simp at d;simp[Array.getD_eq_getD_getElem?,d]
  rw[this,List.filterMap_map]
  congr 1
  funext j
  show Option.map _ (Option.map _ (ow.getD j none))=ow.getD j none;cases ow.getD j none<;>rfl
 have ll:((List.range (mask+1)).filterMap λj=>(ow.getD j none).map (j,·)).length=b.size:=by
  have:=congrArg List.length c;rw[q5]at this;rw[this,pm.length_eq,Qe]
 unfold SetTable.laid;rw[e];refine⟨_,_,U,?_,U,?_,U,U,U⟩
 .dsimp only;rw[c];exact pm
 .simpa using ll
theorem uv{n:Nat}:∀(a i:Nat),n<2 ^ (i+a)->∃k,SetTable.sizeAbove.go n a (2 ^ i)=2 ^ k/\n<2 ^ k/\(2 ^ k<=2 ^ i\/2 ^ k<=2 * n)
 |0,i,h=>⟨i,U,h,.inl (qd _)⟩
 |a+1,i,h=>by
  unfold SetTable.sizeAbove.go;split
  .rename_i b;rw[<- Nat.pow_succ];obtain⟨k,e,l,u⟩:=uv a (i+1) (by rwa[show i+1+a=i+(a+1)by lia]);refine⟨k,e,l,.inr ?_⟩;have:(2:Nat) ^ (i+1)=2 ^ i * 2:=Nat.pow_succ _ _;lia
  .exact⟨i,U,Yo,.inl (qd _)⟩
theorem As{n:Nat}(h:n<2 ^ 60):∃k,SetTable.sizeAbove n=2 ^ k/\n<2 ^ k/\(2 ^ k<=8\/2 ^ k<=2 * n):=uv 64 3 (Nat.lt_trans h Yk)
theorem xy{n:Nat}(h:t.fits n=true):t.place.size=n:=by
 unfold SetTable.fits at h;simp only[Bool.and_eq_true,beq_iff_eq]at h
 first
  |exact h.1.1.symm
  |exact h.1.1
  |exact h.1.symm
  |exact h.1
theorem uQ{wanted:Nat}{Q:Unit->Shared->Prop}(ha:s.heap.get? a=some (aH es ep t))(T:aQ P w es t ys)(p:es.size<=wanted)(i:wanted<=20000)
 (h:∀h' es' f t',Heap.SameBut a s.heap h'->h'.get? a=some (aH es' f t')->aQ P w es' t' ys->es'.size=es.size->t'.place.size=es.size->t'.dummies=#[]->wanted<=t'.mask->(∃k,t'.mask+1=2 ^ k)->Q () { s with heap:=h' }):wpAny (model P w) A (setRelay a wanted) Q E s:=by
 have big:(100000:Nat)<=sizeLine:=Yk;obtain⟨k,g,_,_⟩:=As (n:=wanted) (Nat.lt_of_le_of_lt i Yk);unfold setRelay;refine q4 (qW ha U T.fit ?_);dsimp only;obtain⟨e,b,o,pm,mk,pl,dm,l,m⟩:=wB (mask:=2 ^ k-1) ⟨k,Yo⟩ t.finger (t.movedTo (2 ^ k-1)) t.led t.plain (es.map (·.1)) (by rw[Array.size_map];lia)
 have j:t.relaid (es.map (·.1)) wanted=some (e,b):=by
  unfold SetTable.relaid;rwa[g]
 rw[qZ (by rw[g];lia),j];rw[Array.size_map]at pm pl;have c:=vC es b pm;have sz:(b.filterMap (es[·]?)).size=es.size:=by rw[<- qL,c.length_eq,qL]
 refine q4 ?_;show wpAny _ _ (if((b.filterMap (es[·]?)).size != es.size)=true then _ else _) _ _ _;rw[qZ (by rw[sz];simp)];refine q4 (qc (qc ?_));dsimp only;have fw:=T.few;refine wpAny_storeSet_of ha U ?_ (by rw[sz];lia)
 have d:e.fits (b.filterMap (es[·]?)).size=true:=by
  unfold SetTable.fits SetTable.fill;rw[pl,dm,sz,mk];simp;lia
 refine h _ _ _ e (Heap.SameBut.update _ a _) (fI (s:=s) ha) ?_ sz pl dm (by rw[mk];lia) ⟨k,by rw[mk];lia⟩;exact⟨T.el.perm c,(c.map _).nodup_iff.mpr T.nd,λk=>((c.map _).mem_iff).trans (T.mem k),by rw[sz];exact T.few,d,l.trans T.led,λz=>m.trans (T.pl Yo)⟩
theorem Bi{n:Nat}{Q:Unit->Shared->Prop}(ha:s.heap.get? a=some (bB w))(few:n<=5000)
 (h:∀h1 e b,Heap.SameBut a s.heap h1->h1.get? a=some (aH #[] e b)->b.place=#[]->b.dummies=#[]->(∃k,b.mask+1=2 ^ k)->n<=b.mask->b.led=(!w.params.followText "set-order")->Q () { s with heap:=h1 }):
 wpAny (model P w) A (setRoomFor a n) Q E s:=by
 have c:aQ P w #[] (SetTable.fresh 0 0 (!w.params.followText "set-order")) []:=jy;unfold setRoomFor;refine q4 (qW ha U c.fit ?_);dsimp only
 have j:(SetTable.fresh 0 0 (!w.params.followText "set-order")).roomFor n=if n * 5 >= 21 then some (n * 2)else none:=by
  unfold SetTable.roomFor SetTable.fresh SetTable.fill;simp
 rw[j];by_cases hn:n * 5 >= 21
 .rw[Q0 hn];refine uQ (wanted:=n * 2) ha c (qr _) Yo λh' es' d t' i g l z f dm _ m=>?_;obtain rfl:es'=#[]:=Array.eq_empty_of_size_eq_zero z;exact h h' d t' i g (Array.eq_empty_of_size_eq_zero f) dm m Yo l.led
 .rw[qZ hn];exact qc (h s.heap 0 _ (Heap.SameBut.refl a s.heap) ha U U ⟨3,U⟩ (by show n<=7;lia) U)
theorem wg{o:Addr}{j:Sem Unit}{Q:Unit->Shared->Prop}(ne:a≠o)(ha:s.heap.get? a=some (bB w))(B:s.heap.get? o=some (aH es ep t))(T:aQ P w es t zs)(few:es.size<=5000)
 (h:∀h' es' n t',Heap.SameBut a s.heap h'->h'.get? a=some (aH es' n t')->aQ P w es' t' zs->(es.size=0->h'=s.heap)->Q () { s with heap:=h' }):wpAny (model P w) A (setMerge a o j) Q E s:=by
 have d:aQ P w #[] (SetTable.fresh 0 0 (!w.params.followText "set-order")) []:=jy;unfold setMerge;rw[qZ (by simpa using ne)];refine q4 (qW B U T.fit ?_);dsimp only;by_cases h0:es.isEmpty=true
 .rw[Q0 h0];have e0:es=#[]:=by simpa using h0
  subst e0;exact qc (h s.heap #[] 0 _ (Heap.SameBut.refl a s.heap) ha ⟨d.el,d.nd,T.mem,d.few,d.fit,d.led,d.pl⟩ λ_=>U)
 .rw[qZ h0]
  have i:0<es.size:=by
   rcases Nat.eq_zero_or_pos es.size with z|z
   .exact Q5 (by simpa using z) h0
   .exact z
  have r:=T.pl i;have g:∀h':Heap,es.size=0->h'=s.heap:=λ_ z=>Q5 z (Nat.ne_of_gt i);refine q4 (Bi ha few λe _ c k f v m mk le l1=>?_)
  have x:c.fits (#[]:Array (Int×Value)).size=true:=by
   unfold SetTable.fits SetTable.fill;rw[v,m];simp
  refine q4 (qW (s:={ s with heap:=e }) f U x ?_);dsimp only
  have fz:¬ (c.fill != 0)=true:=by
   unfold SetTable.fill;rw[v,m]
   decide
  have ll:(c.led && t.led)=t.led:=by
   rw[l1,T.led];simp
  have q:(c.plain && t.plain)=false:=by
   rw[r];simp
  unfold SetTable.road;rw[qZ fz];by_cases hr:(c.mask == t.mask && t.dummies.isEmpty)=true
  .rw[Q0 hr];dsimp only;refine wpAny_storeSet_of (s:={ s with heap:=e }) f U ?_ (qx few Yk);refine h _ es _ _ (k.trans (Heap.SameBut.update _ a _)) (fI (s:={ s with heap:=e }) f) (sK T (.refl _) ?_ ll q) (g _);exact T.fit
  .rw[qZ hr];dsimp only;obtain⟨_,b,y,pm,l,pl,dm,C,u⟩:=wB mk c.finger c.moves (c.led && t.led) (c.plain && t.plain) (es.map (·.1)) (by simpa using le);rw[Array.size_map]at pm pl;have p:=vC es b pm;have sz:(b.filterMap (es[·]?)).size=es.size:=by rw[<- qL,p.length_eq,qL]
   rw[y];refine q4 ?_;show wpAny _ _ (if((b.filterMap (es[·]?)).size != es.size)=true then _ else _) _ _ _;rw[qZ (by rw[sz];simp)];refine q4 (qc (qc ?_));dsimp only;refine wpAny_storeSet_of (s:={ s with heap:=e }) f U ?_ (by rw[sz];exact qx few Yk);refine h _ _ _ _ (k.trans (Heap.SameBut.update _ a _)) (fI (s:={ s with heap:=e }) f) (sK T p ?_ (C.trans ll) (u.trans q)) (g _);unfold SetTable.fits SetTable.fill;rw[pl,dm,sz,l];simpa using le
theorem Bh{n:Nat}{Q:Unit->Shared->Prop}(ha:s.heap.get? a=some (aH es ep t))(T:aQ P w es t ys)(few:es.size+n<=10000)
 (h:∀h' es' b t',Heap.SameBut a s.heap h'->h'.get? a=some (aH es' b t')->aQ P w es' t' ys->es'.size=es.size->Q () { s with heap:=h' }):wpAny (model P w) A (setRoomFor a n) Q E s:=by
 have c:=xy T.fit;unfold setRoomFor;refine q4 (qW ha U T.fit ?_);dsimp only;unfold SetTable.roomFor;by_cases hn:(t.fill+n) * 5 >= t.mask * 3
 .rw[Q0 hn];exact uQ ha T (by rw[c];lia) (by rw[c];lia) λh' es' b t' d g e z _ _ _ _=>h h' es' b t' d g e z
 .rw[qZ hn];exact qc (h s.heap es ep t (Heap.SameBut.refl a s.heap) ha T U)
theorem ze{r:Addr}{e:Array (Int×Value)}{i:Nat}{g:SetTable}{Q:Array (Int×Value)->Shared->Prop}(j:s.heap.get? a=some (aH es ep t))(T:aQ P w es t ys)
 (f:s.heap.get? r=some (aH e i g)) (c:aQ P w e g zs) (m:0<e.size)
 (h:∀arr h' d k l,arr.toList.Perm es.toList->Heap.SameBut r s.heap h'->h'.get? r=some (aH e k l)->aQ P w e l zs->Q arr { s with heap:=h',drawn:=d }):wpAny (model P w) A (setWalkUnseen a [r] (some r)) Q E s:=by
 have old:∀arr d,arr.toList.Perm es.toList->Q arr { s with drawn:=d }:=λarr d hp=>h arr s.heap d i g hp (Heap.SameBut.refl r s.heap) f c;have fw:=c.few;unfold setWalkUnseen;refine q4 (qW j U T.fit ?_);dsimp only;refine q4 (eT ?_);split
 .exact sq j T old
 .refine q4 (uW (λb hb=>?_) ?_)
  .simp only[qt,qQ,or_false]at hb;rcases hb with rfl|rfl
   .exact⟨_,_,_,_,j,T⟩
   .exact⟨_,_,_,_,f,c⟩
  .simp only[Bool.not_true,Qk,if_false];refine q4 (wpAny_rule ?_);refine q4 (qW f U c.fit ?_);dsimp only;split
   .refine q4 (wpAny_storeSet_of f U ?_ (by
     have:scanBound<=sizeLine:=Yk
     lia))
    refine qc (h es _ s.drawn _ _ (.refl _) (Heap.SameBut.update _ r _) (fI (s:=s) f) ⟨c.el,c.nd,c.mem,c.few,c.fit,?_,λ_=>?_⟩)
    .show(g.led && t.led)=_;rw[c.led,T.led];simp
    .show(g.plain && t.plain)=false;rw[c.pl m]
     rfl
   .exact qc (old es s.drawn (.refl _))
theorem DE{o:Addr}{n:Array (Int×Value)}{u:Nat}{C:SetTable}{q:Sem Unit}{Q:Unit->Shared->Prop}(ne:a≠o)(ha:s.heap.get? a=some (aH n u C))(i:aQ P w n C ys)(a0:0<n.size)(I:s.heap.get? o=some (aH es ep t))(T:aQ P w es t zs)(few:n.size<=5000)(a1:es.size<=5000)(room:n.size+es.size+1<scanBound)
 (he:∀(s':Shared)(R:Unit->Shared->Prop),s'.heap.get? o=some (aH es ep t)->R () s'->wpAny (model P w) A q R E s')
 (h:∀h' d es' K t',Heap.SameBut a s.heap h'->h'.get? a=some (aH es' K t')->aQ P w es' t' (ys++zs)->Q () { s with heap:=h',drawn:=d }):wpAny (model P w) A (setMerge a o q) Q E s:=by
 unfold setMerge;rw[qZ (by simpa using ne)];refine q4 (qW I U T.fit ?_);dsimp only;by_cases h0:es.isEmpty=true
 .rw[Q0 h0];have e0:es=#[]:=by simpa using h0
  subst e0;refine qc (h s.heap s.drawn n u C (Heap.SameBut.refl a s.heap) ha ⟨i.el,i.nd,λk=>?_,i.few,i.fit,i.led,i.pl⟩);rw[i.mem k,qg];have:k∉zs:=λz=>by have:=(T.mem k).mpr z;simp at this
  simp[this]
 .rw[qZ h0];refine q4 (Bh ha i Yo λH L _ W J S D _=>?_);refine q4 (qW (s:={ s with heap:=H }) S U D.fit ?_);dsimp only;have pz:=xy D.fit
  have fz:(W.fill != 0)=true:=by
   have:W.fill≠0:=by
    unfold SetTable.fill;lia
   simpa using this
  unfold SetTable.road;rw[Q0 fz];dsimp only;have K0:H.get? o=some (aH es ep t):=by rw[J.2 _ (Ne.symm ne)];exact I
  refine q4 (ze (s:={ s with heap:=H }) K0 T S D Yo λy h2 d M t2 hp V g2 Z=>?_);refine q4 (PySem.wpAny_forIn_array' _ (λrest _ s'=>∃j p l r c,c++rest=y.toList/\s'={ s with heap:=j,drawn:=d }/\Heap.SameBut a s.heap j/\j.get? a=some (aH p l r)/\aQ P w p r (ys++c.map λe:Int×Value=>txt e.2)/\p.size<=L.size+c.length) _ ?_ ?_ y _ ⟨h2,L,M,t2,[],U,U,J.trans V,g2,by simpa using Z,qd _⟩)
  .rintro x rest b s' ⟨j,p,l,r,c,f,rfl,m,F,g,X⟩;have xm:x∈es.toList:=hp.mem_iff.mp (by rw[<- f];simp);obtain⟨k,tk,rfl,_⟩:=jw T xm
   have pl:c.length+(rest.length+1)=es.size:=by
    have:=congrArg List.length f;rw[hp.length_eq]at this;simpa using this
   dsimp only;refine q4 (Qv (rP (s:={ s with heap:=j,drawn:=d }) F g Yo λb G e4 N t4 v g4 Y _=>?_));have B:G.get? o=some (aH es ep t):=by rw[(m.trans v).2 _ (Ne.symm ne)];exact I
   refine q4 (he _ _ B ?_);refine q4 (qW (s:={ s with heap:=G,drawn:=d }) B U T.fit ?_);simp only[bne_self_eq_false,Qk,if_false];refine qc ⟨G,e4,N,t4,c++[(hashStr w k,Value.str k tk)],by rw[<- f];simp,U,m.trans v,g4,?_,by rw[qa];show _<=_+(_+1);lia⟩;rw[qO,<- qM];exact Y
  .rintro b s' ⟨j,p,l,r,c,f,rfl,m,F,g,X⟩;rw[qw]at f;subst f;refine qc (h j d p l r m F ⟨g.el,g.nd,λk=>?_,g.few,g.fit,g.led,g.pl⟩);rw[g.mem k,qg,qg,<- T.mem k];exact or_congr_right ((hp.map λe:Int×Value=>txt e.2).mem_iff)
theorem Ci{o:Addr}{K0:Nat}{S:SetTable}(ne:a≠o)(D:s.heap.get? a=some (aH es ep t))(T:aQ P w es t ys)
 (f:s.heap.get? o=some (aH es2 K0 S)) (v:aQ P w es2 S zs) (X:es.size<=1500) (few:es2.size<=1500)
 (h:∀h' d es' N t',h'.get? s.heap.objs.size=some (aH es' N t')->aQ P w es' t' (ys++zs)->(∀b c,s.heap.get? b=some c->h'.get? b=some c)->Q (.ref s.heap.objs.size) { s with heap:=h',drawn:=d }):wpAny (model P w) A (binaryOp .BitOr (.ref a) (.ref o)) Q E s:=by
 have u:s.TypeIs (.ref a) "set":=⟨_,D,U⟩;have V:s.TypeIs (.ref o) "set":=⟨_,f,U⟩;refine wpAny_binaryOp_same (op:=.BitOr) (T:="set") u V F.fills_set_or F.slot_set_or (Qj F.slot_set_or u AI ?_ (F.args_set_or_2 _ _));unfold Builtin.«frozenset.__or__»;refine q4 (m:=Builtin.Frozenset.slot1 "__or__" ⟨[.ref a,.ref o],[]⟩) (qc ?_);dsimp only;simp only[Qk,if_false];refine q4 (q4 (ip u (ip V ?_)));simp only[Bool.not_true,Qk,if_false];refine q4 (qc ?_);refine q4 ?_;refine q4 (m:=Builtin.Frozenset.copyOf a) ?_;unfold Builtin.Frozenset.copyOf Builtin.Frozenset.baseOf;refine q4 (q4 (wpAny_isInstance (b:=true) u iH (qc ?_)));simp only[if_true];refine q4 ?_;unfold newSet;refine q4 (eT ?_);dsimp only;refine wpAny_newObj_type ?_;refine q4 (qc ?_);have C:∀b c,s.heap.get? b=some c->(s.heap.push (bB w)).get? b=some c:=λb c q=>q9 _ q;have L:(s.heap.push (bB w)).get? s.heap.objs.size=some (bB w):=qo _ U;have i:∀b c,s.heap.get? b=some c->s.heap.objs.size≠b:=λb c q=>Nat.ne_of_gt (qp q);have a1:scanBound=4096\/4000<=scanBound:=by unfold scanBound;lia
 have mm:∀p B,aQ P w p B ys->p.size=es.size:=λp B j=>by
  have l1:=bX j.nd λx I=>(T.mem x).mpr ((j.mem x).mp I);have l2:=bX T.nd λx I=>(j.mem x).mpr ((T.mem x).mp I);rw[q5,q5,qL,qL]at l1 l2;lia
 refine q4 (wg (s:={ s with heap:=s.heap.push (bB w) }) (i _ _ D) L (C _ _ D) T Yo λy W _ B M Z j z1=>?_);have a0:=mm W B j;have g:∀b c,s.heap.get? b=some c->y.get? b=some c:=λb c q=>(M.2 _ (i b c q).symm).trans (C b c q);refine qc ?_;show wpAny _ _ (if((Value.ref o:Value) != .ref a)=true then _ else _) _ _ _
 rw[Q0 (by
  have:(Value.ref o == Value.ref a)=false:=by
   rw[beq_eq_false_iff_ne];intro z;cases z;exact ne U
  rw[bne,this]
  rfl)]
 refine q4 (qc ?_);refine q4 (Qv ?_);unfold Builtin.Frozenset.updateFrom;refine q4 (ip (s:={ s with heap:=y }) ⟨_,g _ _ f,U⟩ ?_);simp only[if_true];refine q4 (qc ?_);unfold Builtin.Frozenset.merge;refine q4 (wpAny_setEpoch_of (s:={ s with heap:=y }) (g _ _ f) U v.fit ?_);by_cases z:es.size=0
 .have p:=z1 z;subst p
  have y0:∀k,k∉ys:=λk hk=>by
   have:=(T.mem k).mpr hk;rw[Array.eq_empty_of_size_eq_zero z]at this;simp at this
  refine wg (s:={ s with heap:=s.heap.push (bB w) }) (i _ _ f) L (C _ _ f) v Yo λH l n J r G e _=>?_;exact qc (qc ⟨_,U,(λz=>by cases z),h H s.drawn l n J G ⟨e.el,e.nd,λk=>by rw[e.mem k,qg];simp[y0 k],e.few,e.fit,e.led,e.pl⟩ λb c q=>(r.2 _ (i b c q).symm).trans (C b c q)⟩)
 .refine DE (s:={ s with heap:=y }) (i _ _ f) Z j Yo (g _ _ f) v Yo Yo Yo (λ_ R K Y=>?_) λH d l n J r G e=>?_
  .unfold Builtin.Frozenset.unchanged;refine q4 (wpAny_setEpoch_of K U v.fit ?_);simp only[bne_self_eq_false,Qk,if_false];exact qc Y
  .exact qc (qc ⟨_,U,(λz=>by cases z),h H d l n J G e λb c q=>(r.2 _ (i b c q).symm).trans (g b c q)⟩)
def Bt(P:Program)(w:World):R2:=λx y H Q=>∃(a o:Addr)(ys zs ds fs:LS),x=.ref a/\y=.ref o/\a≠o/\H a=some (bi P w a ys)/\H o=some (bi P w o zs)/\(∀k∈ys,k∈ds)/\ds.length<=1500/\(∀k∈zs,k∈fs)/\fs.length<=1500/\∀p,H p=none->Q (.ref p) (upd H p (bi P w p (ys++zs)))
theorem Co:OpR X (binaryOp .BitOr) (Bt X.prog X.w):=by
 intro _ s _ H x y v u Q I m j h;obtain⟨a,o,ys,zs,ds,fs,rfl,rfl,ne,i,z,hd,hl,r,_,q⟩:=h;cases m;cases j;obtain⟨⟨k,ep,t,l,c⟩,_,_⟩:=I.hok a _ i;obtain⟨⟨f,_,_,n,b⟩,_,_⟩:=I.hok o _ z
 have l1:k.size<=1500:=by
  have:=bX c.nd λx e=>hd x ((c.mem x).mp e);rw[q5,qL]at this;lia
 have l2:f.size<=1500:=by
  have:=bX b.nd λx e=>r x ((b.mem x).mp e);rw[q5,qL]at this;lia
 refine Ci ne l c n b l1 l2 λh' d es' _ t' g p old=>?_;have J:=I.laid (t':=s.toks) (h':=h') (a:=s.heap.objs.size) (o:=bi X.prog X.w s.heap.objs.size (ys++zs)) old (qd _) (bi.ok g p);exact⟨.ref s.heap.objs.size,_,Inv.redrawn (s:=s) J U U,U,q _ (I.hok.fresh (qd _))⟩
end L2
namespace Tr
open PySem PySem.Spec PyProof.Rows L2
def PlW(C S:LS):aa->Prop
 |.set x a _ b=>x∈C/\fH C a/\fH C b
 |.put s x=>s∈S/\x∈C
 |.get s x=>s∈S/\x∈C
 |.give x=>x∈C
 |.cond x _ _=>x∈C
 |.whl x _=>x∈C
 |.rep n _=>0<=n/\n<=1000
structure ZC(Hb H0 H:Hp)(own:LK)(z:LQ):Prop where
 hb:a9 Hb H0
 h0:a9 H0 H
 fz:∀m∈own++z.flatMap Fz.muts,H0 m=none
 nd:(own++z.flatMap Fz.muts).Nodup
 ol:∀m∈own,∃vs,H m=some (.lst vs)
 zr:ZR H0 H z []
section
variable {Hb H0' H1:Hp}{own:LK}{z:LQ}
theorem ZC.hbH(Z:ZC Hb H0 H own z):a9 Hb H:=Z.hb.trans Z.h0
theorem ZC.top(Z:ZC Hb H0 H own z):∃x r vs,z=x::r/\H x.c=some (.lst vs)/\RDs H0 vs x.f.ds:=by
 have:=Z.zr
 match z,this with
 |x::r,⟨⟨vs,h1,h2⟩,_⟩=>exact⟨x,r,vs,U,by simpa using h1,h2⟩
theorem ZC.lsts(Z:ZC Hb H0 H own z):∀m∈own++z.flatMap Fz.muts,∃vs,H m=some (.lst vs):=λm a=>by
 rcases qg.mp a with h|h
 .exact Z.ol m h
 .exact Z.zr.lsts m h
theorem ZC.ndz(Z:ZC Hb H0 H own z):(z.flatMap Fz.muts).Nodup:=(List.nodup_append.mp Z.nd).2.1
theorem ZC.off(Z:ZC Hb H0 H own z){m:Addr}(h:m∈z.flatMap Fz.muts):m∉own:=λa=>(List.nodup_append.mp Z.nd).2.2 m a m h U
theorem ZC.tup(Z:ZC Hb H0 H own z){p:Addr}{xs:LV}(h:H p=some (.tup xs)):p∉own:=λb=>by
 obtain⟨vs,a⟩:=Z.ol p b;rw[h]at a;cases a
theorem ZC.same(Z:ZC Hb H0 H own z)(e:a9 H H1):ZC Hb H0 H1 own z where
 hb:=Z.hb
 h0:=Z.h0.trans e
 fz:=Z.fz
 nd:=Z.nd
 ol:=λm a=>by obtain⟨vs,h⟩:=Z.ol m a;exact⟨vs,e _ _ h⟩
 zr:=Z.zr.frame (λm a=>by obtain⟨vs,h⟩:=Z.zr.lsts m a;rw[h];exact e _ _ h) λp xs h=>e _ _ h
theorem ZC.push{x:Fz}{vs xs:LV}{p:Addr}(Z:ZC Hb H0 H own (x::r))(h:H x.c=some (.lst vs))(hp:H p=some (.tup xs))(j:H0 p=none)(hd:RD (upd H0 p (.tup xs)) (.ref p) d):
 ZC Hb (upd H0 p (.tup xs)) (upd H x.c (.lst (vs++[.ref p]))) own ({ x with f:=x.f.add d }::r):=by
 have l:=dF hp h;have n:H0 x.c=none:=Z.fz _ (qH _ eE);have g:a9 H0 (upd H0 p (.tup xs)):=a9.new j _;have rest:=(Z.zr.rest (o:=.lst (vs++[.ref p])) Z.ndz h);refine{ hb:=Z.hb.trans g,h0:=?_,fz:=?_,nd:=Z.nd,ol:=?_,zr:=?_ }
 .intro b u q;by_cases e:b=p
  .subst e;rw[ah]at q;cases q;rwa[au l]
  .rw[au e]at q;rw[au (bP q n)];exact Z.h0 _ _ q
 .intro m a;obtain⟨ws,hw⟩:=Z.lsts m a;rw[au (Ne.symm (dF hp hw))];exact Z.fz m a
 .intro m a;have hn:m≠x.c:=λe=>Z.off eE (e▸a);rw[au hn];exact Z.ol m a
 .obtain⟨⟨_,k,s⟩,_,_⟩:=Z.zr;rw[qw,h]at k;cases k;refine⟨⟨vs++[.ref p],by rw[qw];exact ah,(s.same g).app (.cons hd .nil)⟩,?_,?_⟩
  .have q:=rest.1;unfold Fz.side at q ⊢;dsimp only[Fr.add]
   revert q
   cases x.f.op<;>intro q<;>first|exact q|exact RL.same g q
  .rcases rest.2 with i|⟨i,t,v⟩
   .exact .inl i
   .exact .inr ⟨i,t,v.grow g⟩
theorem ZC.opened{x y:Fz}{vs vy:LV}(Z:ZC Hb H0 H own (x::r))(v:H x.c=some (.lst vs))(g:a9 H0 H0')(g':a9 H0' H')(B:∀m∈own++(x::r).flatMap Fz.muts,H0' m=none)
 (k:∀b u,b≠x.c->b∉own->H b=some u->H' b=some u) (ol:∀m∈own,∃vs,H' m=some (.lst vs)) (nm:∀m∈y.muts,H0' m=none/\m∉own++(x::r).flatMap Fz.muts) (E:y.muts.Nodup)
 (J:H' y.c=some (.lst vy)) (w:RDs H0' vy y.f.ds) (F:y.side H0' H') (hp:H' y.p=some (.tup y.tupV)) (o:y.f.op≠.root) (K:H' x.c=some (.lst (vs++[.ref y.p]))):ZC Hb H0' H' own (y::x::r):=by
 have D:own++(y::x::r).flatMap Fz.muts=own++(y.muts++(x::r).flatMap Fz.muts):=by rw[qE]
 have l:∀m,m∈(x::r).flatMap Fz.muts->m≠x.c->H' m=H m:=λm d C=>by
  obtain⟨ws,hw⟩:=Z.zr.lsts m d;rw[hw];exact k m _ C (Z.off d) hw
 have z:∀p xs,H p=some (.tup xs)->H' p=some (.tup xs):=λp xs h=>k p _ (dF h v) (Z.tup h) h;refine{ hb:=Z.hb.trans g,h0:=g',fz:=?_,nd:=?_,ol:=ol,zr:=?_ }
 .intro m d;rw[D,qg,qg]at d;rcases d with d|d|d
  .exact B m (qV _ d)
  .exact(nm m d).1
  .exact B m (qH _ d)
 .have a:=List.nodup_append.mp Z.nd;rw[D,List.nodup_append,List.nodup_append];refine⟨a.1,⟨E,a.2.1,λm d b hb e=>(nm m d).2 (e▸qH _ hb)⟩,λm d b hb=>?_⟩;rcases qg.mp hb with hb|hb
  .exact λe=>(nm b hb).2 (e▸qV _ d)
  .exact a.2.2 m d b hb
 .obtain⟨⟨_,A,G⟩,j,i⟩:=Z.zr;rw[qw,v]at A;cases A;refine⟨⟨vy,by rw[qw];exact J,w⟩,F,.inr ⟨o,hp,⟨vs,K,G.same g⟩,?_,?_⟩⟩
  .unfold Fz.side at j ⊢
   cases q:x.f.op with
   |ifT n=>
    rw[q]at j;have s:=mI Z.ndz q;show H' x.e=some (.lst []);rw[l x.e (by rw[qE];exact qV _ s.2.1) s.1];exact j
   |ifO n t=>rw[q]at j;exact RL.same g j
   |root=>trivial
   |whl n=>trivial
   |rep n=>trivial
  .rcases i with i|⟨i,I,L⟩
   .exact .inl i
   .exact .inr ⟨i,z _ _ I,(L.frame (λm d=>l m (p7 d) (ya Z.ndz d)) z).grow g⟩
theorem ZC.elsed{x:Fz}{vs:LV}{n:Str}{t:Int}(Z:ZC Hb H0 H own (x::r))(q:x.f.op=.ifT n)(v:H x.c=some (.lst vs))
 (k:∀b u,b∉own->H b=some u->H' b=some u) (ol:∀m∈own,∃vs,H' m=some (.lst vs)):
 ZC Hb (upd H0 x.c (.lst vs)) H' own (⟨{ x.f with op:=.ifO n x.f.ds,ds:=[],times:=t },x.e,x.p,x.c⟩::r):=by
 have C:=mI Z.ndz q;have B:x.e∈(x::r).flatMap Fz.muts:=by rw[qE];exact qV _ C.2.1
 have g:a9 H0 (upd H0 x.c (.lst vs)):=a9.new (Z.fz _ (qH _ eE)) _;have D:x.muts=[x.c,x.e]:=by unfold Fz.muts;rw[q]
 have w:∀p xs,H p=some (.tup xs)->H' p=some (.tup xs):=λp xs h=>k p _ (Z.tup h) h
 have i:∀m,m∈(x::r).flatMap Fz.muts->H' m=H m:=λm a=>by
  obtain⟨ws,hw⟩:=Z.zr.lsts m a;rw[hw];exact k m _ (Z.off a) hw
 obtain⟨⟨_,s,y⟩,j,d⟩:=Z.zr;rw[qw,v]at s;cases s;unfold Fz.side at j;rw[q]at j;have o:(⟨{ x.f with op:=.ifO n x.f.ds,ds:=[],times:=t },x.e,x.p,x.c⟩::r:LQ).flatMap Fz.muts=x.e::r.flatMap Fz.muts:=by rw[qE];rfl
 have l:(x::r).flatMap Fz.muts=x.c::x.e::r.flatMap Fz.muts:=by rw[qE,D];rfl
 have nd:=Z.nd;rw[l,List.nodup_append]at nd;obtain⟨n1,n2,n3⟩:=nd;rw[List.nodup_cons]at n2
 have sub:∀m,m∈own++x.e::r.flatMap Fz.muts->m∈own++(x::r).flatMap Fz.muts/\m≠x.c:=λm a=>by
  rw[l];rcases qg.mp a with h|h
  .exact⟨qV _ h,n3 m h x.c qk⟩
  .exact⟨qH _ (qj _ h),λe=>n2.1 (e▸h)⟩
 refine{ hb:=Z.hb.trans g,h0:=?_,fz:=?_,nd:=?_,ol:=ol,zr:=?_ }
 .intro b u hb;by_cases e:b=x.c
  .subst e;rw[ah]at hb;cases hb;exact k _ _ (Z.off eE) v
  .rw[au e]at hb;exact k _ _ (λz=>by rw[Z.fz b (qV _ z)]at hb;cases hb) (Z.h0 _ _ hb)
 .intro m a;rw[o]at a;rw[au (sub m a).2];exact Z.fz m (sub m a).1
 .rw[o,List.nodup_append];exact⟨n1,n2.2,λm a b hb=>n3 m a b (qj _ hb)⟩
 .refine⟨⟨[],?_,.nil⟩,.mk ah (y.same g),?_⟩
  .show H' x.e=some (.lst ([]++[]));rwa[i x.e B]
  .rcases d with⟨d,_⟩|⟨d,A,E⟩
   .rw[q]at d;cases d
   .refine .inr ⟨by simp,?_,(E.frame (λm a=>i m (p7 a)) w).grow g⟩;have:=w _ _ A;unfold Fz.tupV at this ⊢;rw[q]at this;exact this
theorem ZC.closed{x g:Fz}(Z:ZC Hb H0 H own (x::g::r))(k:∀b u,b∉own->H b=some u->H' b=some u)(ol:∀m∈own,∃vs,H' m=some (.lst vs)):
 ∃H0',ZC Hb H0' H' own ({ g with f:=g.f.add x.f.deed }::r):=by
 obtain⟨⟨vs,z,F⟩,d,e⟩:=Z.zr;rw[qw]at z;rcases e with⟨_,e⟩|⟨e,l,M⟩
 .cases e
 have B:∀p xs,H p=some (.tup xs)->H' p=some (.tup xs):=λp xs h=>k p _ (Z.tup h) h
 have s:∀m,m∈(x::g::r).flatMap Fz.muts->H' m=H m:=λm a=>by
  obtain⟨ws,hw⟩:=Z.zr.lsts m a;rw[hw];exact k m _ (Z.off a) hw
 have E:∀m∈x.muts,m∈(x::g::r).flatMap Fz.muts:=λm a=>by rw[qE];exact qV _ a
 let H0':Hp:=λb=>if b∈x.muts\/b=x.p then H b else H0 b
 have i:∀b,b∈x.muts\/b=x.p->H0' b=H b:=λb hb=>Q0 hb;have v:∀b,¬ (b∈x.muts\/b=x.p)->H0' b=H0 b:=λb hb=>qZ hb
 have j:a9 H0 H0':=λb u hb=>by
  by_cases c:b∈x.muts\/b=x.p
  .rw[i b c];exact Z.h0 _ _ hb
  .rwa[v b c]
 have hl:RL H0' x.c x.f.ds:=.mk ((i _ (.inl x.c_mem)).trans z) (F.same j);have ht:H0' x.p=some (.tup x.tupV):=(i _ (.inr U)).trans l
 have hd:RD H0' (.ref x.p) x.f.deed:=by
  unfold Fz.tupV at ht;unfold Fz.side at d;unfold Fr.deed
  cases q:x.f.op with
  |root=>exact Q5 q e
  |ifT n=>
   rw[q]at ht d;exact .cond ht hl (.mk ((i _ (.inl (by unfold Fz.muts;rw[q];simp))).trans d) .nil)
  |ifO n t=>
   rw[q]at ht d;exact .cond ht (RL.same j d) hl
  |whl n=>
   rw[q]at ht;exact .whl ht hl
  |rep n=>
   rw[q]at ht;exact .rep ht hl
 have A:own++(x::g::r).flatMap Fz.muts=own++(x.muts++(g::r).flatMap Fz.muts):=by rw[qE]
 have nd:=Z.nd;rw[A,List.nodup_append,List.nodup_append]at nd;obtain⟨n1,⟨n2,n3,K⟩,w⟩:=nd
 have y:∀m,m∈own++(g::r).flatMap Fz.muts->m∈own++(x::g::r).flatMap Fz.muts:=λm a=>by
  rw[A];rcases qg.mp a with h|h
  .exact qV _ h
  .exact qH _ (qH _ h)
 have ex:∀m,m∈own++(g::r).flatMap Fz.muts->H0' m=none:=λm a=>by
  rw[v m ?_]
  .exact Z.fz m (y m a)
  .rintro(o|o)
   .rcases qg.mp a with h|h
    .exact w m h m (qV _ o) U
    .exact K m o m h U
   .obtain⟨ws,hw⟩:=Z.lsts m (y m a);exact dF l hw o.symm
 refine⟨H0',{ hb:=Z.hb.trans j,h0:=?_,fz:=ex,nd:=?_,ol:=ol,zr:=?_ }⟩
 .intro b u hb;by_cases c:b∈x.muts\/b=x.p
  .rw[i b c]at hb;rcases c with c|c
   .rwa[s b (E b c)]
   .subst c;rw[l]at hb;cases hb;exact B _ _ l
  .rw[v b c]at hb;exact k _ _ (λI=>by rw[Z.fz b (qV _ I)]at hb;cases hb) (Z.h0 _ _ hb)
 .show(own++(g::r).flatMap Fz.muts).Nodup;rw[List.nodup_append];exact⟨n1,n3,λm a b hb=>w m a b (qH _ hb)⟩
 .have C:=(M.frame (H':=H') (λm a=>s m (p7 a)) B).grow j;obtain⟨⟨ws,J,G⟩,L,D⟩:=C;exact⟨⟨ws++[.ref x.p],by rw[qw];exact J,G.app (.cons hd .nil)⟩,L,D⟩
theorem ZC.whole(Z:ZC Hb H0 H own z):RL H (ii z) (wh (z.map (·.f)) []):=Z.zr.whole Z.h0 .nil
theorem ZC.begin{f:Fr}(a:f.op=.root)(hd:f.ds=[])(nd:(own++[b]).Nodup)(hb:H b=some (.lst []))(hn:∀m∈own++[b],H0 m=none)(c:a9 H0 H)(ol:∀m∈own,∃vs,H m=some (.lst vs)):ZC H0 H0 H own [⟨f,b,0,0⟩]:=by
 have e:([⟨f,b,0,0⟩]:LQ).flatMap Fz.muts=[b]:=by
  simp[Fz.muts,a]
 refine⟨a9.refl _,c,by rw[e];exact hn,by rw[e];exact nd,ol,⟨[],hb,by rw[hd];exact .nil⟩,?_,.inl ⟨a,U⟩⟩;unfold Fz.side;dsimp only;rw[a]
 trivial
end
def cX:List Fr:=[⟨.root,[],false,0⟩]
def PlX(C S:LS)(d:aa):Prop:=PlW C S d/\match d with
 |.set _ _ sg _=>sg∈sgL
 |_=>True
def BlX(C S:LS)(ds:LA):Prop:=∀d∈ai ds,PlX C S d
theorem BlX.nil{C:LS}:BlX C S []:=λd hd=>by simp[ai]at hd
theorem BlX.app{C:LS}{a b:LA}(ha:BlX C S a)(hb:BlX C S b):BlX C S (a++b):=λd hd=>by
 rw[dk,qg]at hd;exact hd.elim (ha d) (hb d)
theorem BlX.one{C:LS}(h:PlX C S d)(hi:∀b∈d.inner,BlX C S b):BlX C S [d]:=λe a=>by
 rw[ai,ai,qw,dE]at a;rcases qt.mp a with rfl|a
 .exact h
 .obtain⟨b,hb,c⟩:=List.mem_flatMap.mp a;exact hi b hb e c
def opX(C:LS):Op->Prop
 |.root=>True
 |.ifT x|.ifO x _|.whl x=>x∈C
 |.rep n=>0<=n/\n<=1000
theorem xL{C:LS}{f:Fr}(h0:f.op≠.root)(a:opX C f.op)(c:BlX C S f.ds)(d:BlX C S f.op.extra):BlX C S [f.deed]:=by
 unfold Fr.deed
 cases q:f.op with
 |root=>exact Q5 q h0
 |ifT x=>
  rw[q]at a d;refine .one ⟨a,trivial⟩ λb hb=>?_;simp[aa.inner]at hb;rcases hb with rfl|rfl
  .exact c
  .exact .nil
 |ifO x t=>
  rw[q]at a d;refine .one ⟨a,trivial⟩ λb hb=>?_;simp[aa.inner]at hb;rcases hb with rfl|rfl
  .exact d
  .exact c
 |whl x=>
  rw[q]at a;refine .one ⟨a,trivial⟩ λb hb=>?_;simp[aa.inner]at hb;subst hb;exact c
 |rep n=>
  rw[q]at a;refine .one ⟨a,trivial⟩ λb hb=>?_;simp[aa.inner]at hb;subst hb;exact c
def SX(C S:LS):List Fr->Prop
 |[]=>False
 |[f]=>f.op=.root/\BlX C S f.ds/\aA f.ds<=12
 |f::g::r=>f.op≠.root/\opX C f.op/\BlX C S f.ds/\BlX C S f.op.extra/\aA f.ds+(r.length+1)<=12/\aA f.op.extra+(r.length+1)<=12/\SX C S (g::r)
theorem SX.more{C:LS}{g:Fr}{r:List Fr}(h:SX C S (g::r))(b:BlX C S ds)(a:aA ds+r.length<=12):SX C S ({ g with ds:=g.ds++ds }::r):=by
 have hd:aA (g.ds++ds)=max (aA g.ds) (aA ds):=fX _ _
 cases r with
 |nil=>exact⟨h.1,h.2.1.app b,by show aA (g.ds++ds)<=12;rw[hd];have:=h.2.2;simp at a;lia⟩
 |cons g' _=>
  obtain⟨c,d,e,i,_,j,f⟩:=h;simp only[qz]at a;exact⟨c,d,e.app b,i,by show aA (g.ds++ds)+_<=12;rw[hd];lia,j,f⟩
theorem SX.close{C:LS}{f g:Fr}{r:List Fr}(h:SX C S (f::g::r)):SX C S (lJ (f::g::r)):=by
 obtain⟨a,b,c,e,_,_,d⟩:=h;refine d.more (ds:=[f.deed]) (xL a b c e) ?_;have:=xJ f;lia
theorem sk{C S:LS}:∀(st:List Fr)(a:LA),SX C S st->BlX C S a->aA a+(st.length-1)<=12->BlX C S (wh st a)/\aA (wh st a)<=12/\(ai (wh st a)).length<=cnt st+(ai a).length
 |[],_,h,_,_=>h.elim
 |[f],a,h,hd,hp=>by
  refine⟨h.2.1.app hd,?_,?_⟩
  .show aA (f.ds++a)<=12;rw[fX];have:=h.2.2;simp at hp;lia
  .show(ai (f.ds++a)).length<=_;rw[dk,qa];simp only[cnt];lia
 |f::g::r,a,h,hd,hp=>by
  obtain⟨b,d,j,l,_,_,k⟩:=h;have n:aA a+(r.length+1)<=12:=by simpa using hp
  have m:aA (f.ds++a)=max (aA f.ds) (aA a):=fX _ _;have c:=xJ ({ f with ds:=f.ds++a }:Fr);have e:=xK (f:={ f with ds:=f.ds++a }) b;have l1:(ai (f.ds++a)).length=(ai f.ds).length+(ai a).length:=by rw[dk,qa]
  obtain⟨b1,b2,i⟩:=sk (g::r) [({ f with ds:=f.ds++a }:Fr).deed] k (xL (f:={ f with ds:=f.ds++a }) b d (j.app hd) l) (by dsimp only at c;rw[m]at c;show _+r.length<=12;lia);refine⟨b1,b2,qx i ?_⟩;dsimp only at e;have o:cnt (f::g::r)=(ai f.ds).length+(ai f.op.extra).length+f.op.one+cnt (g::r):=U;lia
theorem C1{C:LS}{a b:Val}(d:x∈C)(ha:fH C a)(c:sg∈sgL)(hb:fH C b):PlX C S (.set x a sg b):=⟨⟨d,ha,hb⟩,c⟩
section
variable {Hb H0' H1:Hp}{s0 s1 s2:Addr}{z:LQ}
theorem kN{vs ws us:LV}(h0:H s0=some (.lst vs))(c:H s1=some (.lst ws))(b:H s2=some (.lst us)):∀m∈[s0,s1,s2],∃vs,H m=some (.lst vs):=λm a=>by
 simp only[qt,qQ,or_false]at a;rcases a with rfl|rfl|rfl
 .exact⟨_,h0⟩
 .exact⟨_,c⟩
 .exact⟨_,b⟩
end
end Tr
namespace L2
open PySem PySem.Spec PyProof.Rows PySem.W
section
variable {k:Nat}{C0:Addr}{ds:LL}{fx cx y m n:Str}{iy im inn:Nat}{p py cp pm pn pl pa hpos tpos:Pos}{es:LP}{t:TA}
end
end L2
namespace Tr
open PySem PySem.Spec PyProof.Rows L2
end Tr
namespace L2
open PySem PySem.Spec PyProof.Rows
theorem FA{r d:Addr}{kvs:List (Key×Value)}{Q:LL->Shared->Prop}(D:A.handled=none)(G:PySem.W.KdlKeysView s.heap r d)(p:∀o,PySem.W.KdlKeysView (s.heap.push o) r d)(B:r<s.heap.objs.size)(u:s.heap.DictAt (bd P w) d kvs ep)(hn:kvs.length<=sizeLine)
 (h:∀(h':Heap)(tk:Nat)(vs:LL),(∀b o,s.heap.get? b=some o->h'.get? b=some o)->s.heap.objs.size<h'.objs.size->vs.length=kvs.length->(∀(j:Nat)(v:Value),vs[j]?=some v->∃k x,kvs[j]?=some (k,x)/\(bd P w).is k v=true)->Q vs { s with heap:=h',toks:=tk }):
 wpAny (model P w) A (collect (.ref r)) Q E s:=by
 have hd:d<s.heap.objs.size:=u.lt_size;unfold collect;refine q4 (wpAny_runValue (codeAny_builtin F.entry_proto_collect ?_));rw[Around.under_plainId F.plain_proto_collect _];show wpAny _ A.in1 (newList [] >>= λl=>again (.builtin "list.__iadd__" ⟨[l,.ref r],[]⟩)) _ _ s;refine q4 (wpAny_newObj_type ?_);refine qc ⟨plainId_quiet F.plain_list_iadd _,codeAny_builtin F.entry_list_iadd ?_⟩;rw[Around.under_plainId F.plain_list_iadd _];have C:(s.heap.push { cls:=.type "list",data:=.seq ([]:LL).toArray }).get? s.heap.objs.size=some { cls:=.type "list",data:=.seq #[] }:=qo _ U;show wpAny _ A.in1 (Builtin.List.listExtendWith (.ref s.heap.objs.size) (.ref r) (.ref s.heap.objs.size)) _ _ _
 have t:=PySem.W.kdl_extend (A:=A) (s:={ s with heap:=s.heap.push { cls:=.type "list",data:=.seq ([]:LL).toArray } }) (PySem.W.kdl_keys (knd:=bd P w) (r:=r) (d:=d) (kvs:=kvs) (ep:=ep))
  (R:=λ(q:Result)(n:Shared)=>∃(h':Heap)(tk:Nat)(a:LD)(c:Nat),q=.ok (.ret (.ref s.heap.objs.size))/\n={ s with heap:=h',toks:=tk } /\
   (∀b o,s.heap.get? b=some o->h'.get? b=some o)/\h'.get? s.heap.objs.size=some { cls:=.type "list",dict:=none,data:=.seq a c,slots:=#[] }/\ItemsOf (λi v=>∃k x,kvs[i]?=some (k,x)/\(bd P w).is k v=true) a kvs.length)
  D ⟨p _,u.push _⟩ s.heap.objs.size (Nat.ne_of_gt B) (Nat.ne_of_gt hd) (.ref s.heap.objs.size) 0 C
  (λh' tk a c hk m g=>⟨h',tk,a,c,U,U,λb o e=>hk b o (qF (qp e)) (q9 _ e),m,g⟩) hn
 have fin:∀(h':Heap)(tk:Nat)(a:LD)(c:Nat),(∀b o,s.heap.get? b=some o->h'.get? b=some o)->h'.get? s.heap.objs.size=some { cls:=.type "list",dict:=none,data:=.seq a c,slots:=#[] }->
  ItemsOf (λi v=>∃k x,kvs[i]?=some (k,x)/\(bd P w).is k v=true) a kvs.length->Q a.toList { s with heap:=h',toks:=tk }:=λh' tk a c hk m g=>
  h h' tk a.toList hk (qp m) (by rw[qL];exact g.1) λj v e=>g.2 j v (by rwa[<- qT])
 refine wpAny_mono t (λfn n x=>?_) λe n x=>?_
 .cases fn with
  |done f=>
   obtain⟨h',tk,a,c,e,rfl,hk,m,g⟩:=x;cases e;show wpAny _ A (load s.heap.objs.size >>= _) _ _ _;exact q4 (wpAny_load m (qc (fin h' tk a c hk m g)))
  |again _=>
   refine⟨x.1,codeAny_mono x.2 λq _ y=>?_⟩;obtain⟨h',tk,a,c,rfl,rfl,hk,m,g⟩:=y;show wpAny _ A (load s.heap.objs.size >>= _) _ _ _;exact q4 (wpAny_load m (qc (fin h' tk a c hk m g)))
 .obtain⟨_,_,_,_,z,_⟩:=x;cases z
theorem Al{r d:Addr}{kvs:List (Key×Value)}(B:A.handled=none)(j:PySem.W.KdlKeysView s.heap r d)(t:∀o,PySem.W.KdlKeysView (s.heap.push o) r d)(u:r<s.heap.objs.size)(y:s.heap.DictAt (bd P w) d kvs ep)(hk:kvs.map (·.1)=ks.map Sum.inr)(few:ks.length<64)
 (h:∀h' tk l n (zs:LS) (out:LL),s.heap.objs.size<=l->h'.get? l=some { cls:=.type "list",data:=.seq out.toArray n }->StrsAre out zs->zs.Perm ks->sortedS zs=true->
  (∀b o,s.heap.get? b=some o->h'.get? b=some o)->Q (.ref l) { s with heap:=h',toks:=tk }):wpAny (model P w) A (call (.builtin "sorted") [.ref r]) Q E s:=by
 have G:kvs.length=ks.length:=by simpa using congrArg List.length hk
 refine Calls.call_function_entry kind_sorted plain_sorted entry_sorted (args_sorted1 _) ?_;unfold Builtin.«sorted»;refine q4 (m:=checkCount "sorted" 1 1 _) (qc ?_);refine q4 (FA (A:=A.in1) (by simpa using B) j t u y (qx (by lia:kvs.length<=64) Yk) λc tk vs old k len j=>?_);have g:=sT kvs ks vs hk len j;refine q4 (wpAny_newList ?_ (qx (by lia:vs.length<=64) Yk));have i:(c.push { cls:=.type "list",data:=.seq vs.toArray }).get? c.objs.size=some (seqObj "list" vs.toArray 0):=qo _ U;refine q4 (Qv (Qj slot_list_sort ⟨_,i,U⟩ entry_list_sort (list_sort_treeK strKind_oneLt i g.keysOf (λv1 v2 rest e=>keyKind_strs (by rwa[<- e])) Yo λf C x=>⟨_,U,?_⟩) (args_list_sort _)));obtain⟨zs,F,v,z⟩:=sorted_out_str g C x;obtain⟨n,q⟩:=sortedHeap_at (out:=(arrOf f).map (·.2)) i;refine qc ⟨_,U,h _ _ c.objs.size n zs ((arrOf f).map (·.2)).toList (Nat.le_of_lt k) ?_ F v z (λb o e=>?_)⟩
 .exact q
 .have p:=old b o e;have lt:=qp p;have D:=(sortedHeap_old (h:=c.push { cls:=.type "list",data:=.seq vs.toArray }) (a:=c.objs.size) (vs:=vs) (out:=(arrOf f).map (·.2)) (qF lt) (by rw[Qg];exact Qq lt));exact D.trans (q9 _ p)
def sO(td:TE):TE:=λO H Q=>td O H λx H1=>∃a kvs ks,x=.ref a/\H1 a=some (.dK kvs)/\kvs.map (·.1)=ks.map Sum.inr/\ks.length<64/\∀l zs,H1 l=none->zs.Perm ks->sortedS zs=true->Q (.ref l) (upd H1 l (.lst (zs.map V.str)))
theorem oK{o:Expr}{N f:Pos}(C:X.calm=true)(hg:Gl X "sorted")(D:X.mg "sorted"=none)(E:PE X o td)
 (j:attributeBase o "keys" X.env (eval o X.env)=eval o X.env:=by rfl) (i:(μ.endLine == θ.line)=true:=by rfl)
 (k:starEach [.Call (.Attribute o "keys" μ) [] [] θ] X.env=[(false,eval (.Call (.Attribute o "keys" μ) [] [] θ) X.env)]:=by rfl):
 PE X (.Call (.Name "sorted" N) [.Call (.Attribute o "keys" μ) [] [] θ] [] f) (sO td):=by
 intro p s G H Q I h;refine wpAny_Call_Name_kw (fQ I hg D PyProof.Rows.Boot.«sorted» ?_);refine PyProof.Rows.callWith_builtin1 ?_ (by rw[k];rfl) U;rw[k];show wpAny _ _ (spliced ((false,eval (.Call (.Attribute o "keys" μ) [] [] θ) X.env)::backTo f [])) _ _ s;refine Calls.spliced_cons ?_;refine wpAny_Call_method0_late j i (thn (E p s G H _ I h) λv s1 ⟨x,_,d,L,a,kvs,_,ex,y,hk,few,q⟩=>?_);subst ex;obtain rfl:v=Value.ref a:=L;obtain⟨z,hd,vs,t,r⟩:=fW d.hok y;obtain⟨M,K,_⟩:=pL d (.inl ⟨kvs,.inl y⟩);refine⟨"dict","dict.keys",PySem.F.plainAttrs_dict,PySem.F.slot_dict_keys,PySem.F.type_dict_keys,M,K,Calls.callWith_builtin U (PySem.evalArgs_none ?_)⟩;refine call_meetsIn PySem.F.slot_dict_keys r.typeIs PySem.F.entry_dict_keys (PySem.F.args_dict_keys_1 _) (PySem.W.kdl_meets_keys (bd X.prog X.w) a hd) ⟨⟨vs,r⟩,?_⟩;refine Calls.spliced_nil ?_;obtain⟨ep,A⟩:=r.dictAt;have c:∀h:Heap,h.get? s1.heap.objs.size=some { cls:=.type "dict_keys",data:=.fields #[.ref a] }->PySem.W.KdlKeysView h s1.heap.objs.size a:=λh e=>⟨_,e,U,U⟩;have g:(s1.heap.push ({ cls:=.type "dict_keys",data:=.fields #[.ref a] }:Obj)).get? s1.heap.objs.size=some { cls:=.type "dict_keys",data:=.fields #[.ref a] }:=qo _ U;refine Al (s:={ s1 with heap:=s1.heap.push { cls:=.type "dict_keys",data:=.fields #[.ref a] } }) (d.ok.hd C) (c _ g) (λo=>c _ (q9 _ g)) (qp g) (A.push _) (t.keys.symm.trans hk) few λh' tk l n zs out hl u B hp so old=>?_;have K0:zs.length<=sizeLine:=by rw[hp.length_eq];exact qx (Nat.le_of_lt few) Yk
 have P:(s1.heap.push ({ cls:=.type "dict_keys",data:=.fields #[.ref a] }:Obj)).objs.size=s1.heap.objs.size+1:=Qg _ _
 have m:s1.heap.objs.size<=l:=by
  have:(s1.heap.push ({ cls:=.type "dict_keys",data:=.fields #[.ref a] }:Obj)).objs.size<=l:=hl;lia
 have J:=d.laid (t':=tk) (h':=h') (a:=l) (o:=.lst (zs.map V.str)) (λb o e=>old b o (q9 _ e)) m ⟨by rw[q5];exact K0,out,n,kB B,u⟩;exact⟨.ref l,_,J,U,q l zs (d.hok.fresh m) hp so⟩
theorem lV{z:Str}:∀{zs:LS}{us:LL}{i:Nat},aB (zs.map V.str) us->zs[i]?=some z->∃t,us[i]?=some (.str z t)
 |[],_,_,_,h=>by simp at h
 |y::r,_,0,.cons h _,e=>by
  obtain⟨t,rfl⟩:=h;cases(by simpa using e:y=z);exact⟨t,U⟩
 |y::r,_,i+1,.cons _ h,e=>lV (i:=i) h (by simpa using e)
theorem sr(h:aB (zs.map V.str) us)(e:us[i]?=some u):∃z t,zs[i]?=some z/\u=.str z t:=by
 have l:=h.length;rw[q5]at l
 have lt:i<zs.length:=by
  have:=(qe.mp e).1;lia
 obtain⟨t,ht⟩:=lV h (qb lt);rw[ht]at e;cases e;exact⟨_,t,qb lt,U⟩
noncomputable def iE(x:Str):Value->Bool
 |.str y _=>y.cps.toList == x.cps.toList
 |_=>false
theorem A8{t:Tok}:iE x (.str x t)=true:=by simp[iE]
theorem A9{y:Str}{t:Tok}(h:y≠x):iE x (.str y t)=false:=by
 simp only[iE,beq_eq_false_iff_ne];intro e;apply h;cases x with|mk x=>cases y with|mk y=>exact congrArg _ (Array.ext' e)
def By:V->LV->Hp->VK->Prop:=λv xs H Q=>∃(l:Addr)(zs:LS)(x:Str),v=.ref l/\xs=[.str x]/\H l=some (.lst (zs.map V.str))/\x∈zs/\zs.length<=1000/\Q (.int (zs.idxOf x:Nat)) H
theorem p9:MtM X "list.index" By:=by
 intro _ s _ H x vs v us Q I k g h;obtain⟨l,zs,y,rfl,rfl,j,p,hz,q⟩:=h;cases k;obtain⟨u,rfl,t,rfl⟩:=g.one;obtain⟨z,a,n,r,hl,e⟩:=I.lstM j;have A:a.length=zs.length:=by have:=r.length;rw[q5]at this;exact this.symm
 have lt:zs.idxOf y<zs.length:=List.idxOf_lt_length_iff.mpr p;have c:zs[zs.idxOf y]?=some y:=by rw[qb lt,List.getElem_idxOf lt]
 refine call_meets PySem.F.slot_list_index ⟨_,e,U⟩ PySem.F.entry_list_index (PySem.F.args_list_index_2 _ _)
  (MeetsSeq.list_index l a.toArray n (.str y t) (iE y) (λw hw=>?_) (zs.idxOf y) (by rw[qA];lia) Yo ?_ (λm _ f=>?_)) ⟨e,?_⟩
 .obtain⟨i,hi⟩:=List.mem_iff_getElem?.mp (by simpa using hw);obtain⟨z,t',_,rfl⟩:=sr r hi;exact PySem.SeqRoads2.EqGives.str z y t' t
 .obtain⟨t',ht⟩:=lV r c
  have:a.toArray[zs.idxOf y]'(by rw[qA];lia)=.str y t':=by
   rw[List.getElem_toArray];exact qI ((qb Yo).symm.trans ht)
  rw[this];exact A8
 .have d:m<a.length:=by lia
  obtain⟨z,t',b,o⟩:=sr r (qb d);have:a.toArray[m]=.str z t':=by rwa[List.getElem_toArray]
  rw[this];refine A9 λne=>?_;subst ne;have:=List.not_of_lt_findIdx f;rw[qb Yo]at b;rw[qI b]at this;simp at this
 .exact⟨.int (zs.idxOf y),H,I.tok _,⟨_,U⟩,q⟩
end L2
namespace Tr
open PySem PySem.Spec PyProof.Rows L2
structure LnD where
 lg:V
 on:LI
inductive Sd
 |at(i:Int)
 |is (n:Int)
inductive R2s{α β:Type}(R:α->β->Prop):List α->List β->Prop
 |nil:R2s R [] []
 |cons {x:α}{y:β}{xs:List α}{ys:List β}:R x y->R2s R xs ys->R2s R (x::xs) (y::ys)
def dw:LnD:=⟨.int 1,[]⟩
noncomputable def bN(zs:LS):Val->Sd
 |.num n=>.is n
 |.nm x=>.at (zs.idxOf x:Nat)
def bH(n:Nat)(k:Nat):LI:=(List.range k).map λi=>((n+2 * i:Nat):Int)
theorem R2s.len{b a:Type}{R:b->a->Prop}:∀{xs:List b}{ys:List a},R2s R xs ys->xs.length=ys.length
 |_,_,.nil=>rfl
 |_,_,.cons _ r=>congrArg (·+1) r.len
theorem R2s.app{b a:Type}{R:b->a->Prop}{us:List b}{ws:List a}(k:R2s R us ws):∀{xs:List b}{ys:List a},R2s R xs ys->R2s R (xs++us) (ys++ws)
 |_,_,.nil=>k
 |_,_,.cons h r=>.cons h (R2s.app k r)
theorem R2s.imp{b a:Type}{R S:b->a->Prop}(k:∀x y,R x y->S x y):∀{xs:List b}{ys:List a},R2s R xs ys->R2s S xs ys
 |_,_,.nil=>.nil
 |_,_,.cons h r=>.cons (k _ _ h) (R2s.imp k r)
theorem R2s.at{a b:Type}{R:a->b->Prop}:∀{xs:List a}{ys:List b},R2s R xs ys->∀{i:Nat}{x:a},xs[i]?=some x->∃y,ys[i]?=some y/\R x y
 |_,_,.nil,i,x,h=>by simp at h
 |_,_,.cons k r,0,x,h=>by
  cases(by simpa using h:_=x);exact⟨_,U,k⟩
 |_,_,.cons k r,i+1,x,h=>by
  obtain⟨y,c,d⟩:=r.at (i:=i) (by simpa using h);exact⟨y,by simpa using c,d⟩
theorem Dw{a b:List α}(ha:a.Nodup)(hb:b.Nodup)(h:∀x∈a,x∉b):(a++b).Nodup:=List.nodup_append.mpr ⟨ha,hb,λx d y c e=>h x d (e▸c)⟩
theorem xg(n k:Nat):(bH n k).length=k:=by
 unfold bH;rw[q5,Qe]
theorem R2s.get{b a:Type}{R:b->a->Prop}:∀{xs:List b}{ys:List a},R2s R xs ys->∀{i:Nat}{y:a},ys[i]?=some y->∃x,xs[i]?=some x/\R x y
 |_,_,.nil,i,y,h=>by simp at h
 |_,_,.cons k r,0,y,h=>by
  cases(by simpa using h:_=y);exact⟨_,U,k⟩
 |_,_,.cons k r,i+1,y,h=>by
  obtain⟨x,d,c⟩:=r.get (i:=i) (by simpa using h);exact⟨x,by simpa using d,c⟩
theorem R2s.snoc{c b:Type}{R:c->b->Prop}{y:b}:∀{xs:List c}{ys:List b},R2s R xs (ys++[y])->∃a x,xs=a++[x]/\R2s R a ys/\R x y
 |xs,[],h=>by
  cases h with
  |cons k r=>
   cases r;exact⟨[],_,U,.nil,k⟩
 |xs,z::ys,h=>by
  cases h with
  |cons k r=>
   obtain⟨a,x,rfl,r',d⟩:=r.snoc;exact⟨_::a,x,U,.cons k r',d⟩
def pE:List Nat:=[98,99,100,102,103,106,107,109,110,113,118,120,121,122]
noncomputable def chN(i:Int):Str:=⟨#[pE.getD (i % 14).toNat 0]⟩
noncomputable def nmN(c:Int):LS:=
 if c / 126 % 3=1 then(List.range 6).map λk:Nat=>Txt.mul (chN (c / 9+((0:Nat):Int))) ((k:Int)+1)
 else(List.range 6).map λk:Nat=>Txt.mul ("q":Str) (c % 3)++chN (c / 9+k)++Txt.slice ("vz":Str) none (some (c / 3 % 3))
def pkN(c f p m:Int):Int:=c * f % p % m
def vaN(n:Int)(zs:LS):Val:=if n % 9<6 then .nm (zs.getD (n % 9).toNat (">":Str))else if n % 9=6 then .num (n / 9 % 4)else .num (n * 12650793754653265942685193121 % 1000000000000000000000000000000)
def sgN(i:Int):Str:=⟨#[("+-*/<=&|^":Str).cps.toList.getD i.toNat 43]⟩
noncomputable def gC(c:Int)(x:Str)(zs:LS):aa:=.set x (vaN (c * 40692 % 40009) zs) (sgN (pkN c 16807 50021 9)) (vaN (c * 30323 % 60013) zs)
noncomputable def eV(c:Int)(x q:Str)(zs:LS)(hid:Bool):aa:=
 if pkN c 48271 10007 12=3 then .give x
 else if pkN c 48271 10007 12=4/\hid=false then .put q x
 else if pkN c 48271 10007 12=5/\hid=false then .get q x
 else gC c x zs
noncomputable def kdN:Op->Str
 |.root=>""
 |.ifT _=>"if"
 |.ifO _ _=>"else"
 |.whl _=>"while"
 |.rep _=>"repeat"
noncomputable def fB(st:List Fr):Bool:=st.any λf=>decide (kdN f.op="if") || (decide (kdN f.op="else") || decide (kdN f.op="while"))
def opN(c:Int)(x:Str):Op:=if pkN c 48271 10007 12=6 then .ifT x else if pkN c 48271 10007 12=7 then .whl x else .rep (pkN c 16807 70001 100)
noncomputable def Op.els(f:Fr):Fr:=match f.op with
 |.ifT y=>⟨.ifO y f.ds,[],f.shut,0⟩
 |_=>f
def xN(c:Int)(zs:LS):Str:=zs.getD (pkN c 69621 20011 6).toNat (">":Str)
def qN(c:Int)(ss:LS):Str:=ss.getD (pkN c 39373 30011 2).toNat (">":Str)
noncomputable def cO(zs ss:LS)(st:List Fr)(c:Int):List Fr:=match st with
 |[]=>[]
 |g::r=>
  if 5<pkN c 48271 10007 12/\pkN c 48271 10007 12<9/\r.length<5 then⟨opN c (xN c zs),[],false,0⟩::g::r
  else if 8<pkN c 48271 10007 12/\pkN c 48271 10007 12<11/\0<r.length then lJ (g::r)
  else if pkN c 48271 10007 12=11/\kdN g.op="if" then Op.els g::r
  else g.add (eV c (xN c zs) (qN c ss) zs (fB (g::r)))::r
noncomputable def io(zs ss:LS)(cells:LI):LA:=wh (cells.foldl (cO zs ss) cX) []
theorem fg{f p m:Int}(h:0<m):0<=pkN c f p m:=Qa _ Yo
theorem fh{f p m:Int}(h:0<m):pkN c f p m<m:=Qf _ h
theorem fS(h:i<zs.length):zs.getD i (">":Str)∈zs:=by
 rw[qi,qb h];exact List.getElem_mem h
theorem yF(h:zs.length=6):xN c zs∈zs:=fS (by
 have h0:=fg (c:=c) (f:=69621) (p:=20011) (m:=6) Yk;have a:=fh (c:=c) (f:=69621) (p:=20011) (m:=6) Yk
 lia)
theorem BJ{ss:LS}(h:ss.length=2):qN c ss∈ss:=fS (by
 have h0:=fg (c:=c) (f:=39373) (p:=30011) (m:=2) Yk;have a:=fh (c:=c) (f:=39373) (p:=30011) (m:=2) Yk
 lia)
theorem sC{n:Int}(h:zs.length=6):fH zs (vaN n zs):=by
 have a:0<=n % 9:=Qa _ Yk;unfold vaN;split
 .exact fS Yo
 split
 .exact⟨Yo,Yo⟩
 .exact⟨Qa _ Yk,Qf _ Yk⟩
theorem AF{i:Int}(h0:0<=i)(a:i<9):sgN i∈sgL:=by
 have:i=0\/i=1\/i=2\/i=3\/i=4\/i=5\/i=6\/i=7\/i=8:=Yo;rcases this with rfl|rfl|rfl|rfl|rfl|rfl|rfl|rfl|rfl<;>decide +kernel
theorem Ay{ss:LS}{hid:Bool}(h:zs.length=6)(a:x∈zs)(d:q∈ss):BlX zs ss [eV c x q zs hid]/\aA [eV c x q zs hid]=0/\(ai [eV c x q zs hid]).length=1:=by
 unfold eV;split
 .exact⟨.one ⟨a,trivial⟩ (λb hb=>by simp[aa.inner]at hb),U,U⟩
 split
 .exact⟨.one ⟨⟨d,a⟩,trivial⟩ (λb hb=>by simp[aa.inner]at hb),U,U⟩
 split
 .exact⟨.one ⟨⟨d,a⟩,trivial⟩ (λb hb=>by simp[aa.inner]at hb),U,U⟩
 .exact⟨.one (C1 a (sC h) (AF (fg Yk) (fh Yk)) (sC h)) (λb hb=>by simp[aa.inner,gC]at hb),U,U⟩
theorem vL(h:x∈zs):opX zs (opN c x)/\opN c x≠.root/\(opN c x).extra=[]/\(opN c x).one=1:=by
 unfold opN;split
 .exact⟨h,by simp,U,U⟩
 split
 .exact⟨h,by simp,U,U⟩
 .have h0:=fg (c:=c) (f:=16807) (p:=70001) (m:=100) Yk;have a:=fh (c:=c) (f:=16807) (p:=70001) (m:=100) Yk;exact⟨⟨h0,Yo⟩,by simp,U,U⟩
theorem wD{o:Op}(h:kdN o="if"):∃y,o=.ifT y:=by
 cases o with
 |ifT y=>exact⟨y,U⟩
 |root=>exact Q5 h (show ¬ (("":Str)="if")by decide +kernel)
 |ifO y t=>exact Q5 h (show ¬ (("else":Str)="if")by decide +kernel)
 |whl y=>exact Q5 h (show ¬ (("while":Str)="if")by decide +kernel)
 |rep n=>exact Q5 h (show ¬ (("repeat":Str)="if")by decide +kernel)
theorem Aa{ss:LS}(h:zs.length=6)(s:ss.length=2){st:List Fr}(a:SX zs ss st)(hl:st.length<=6):SX zs ss (cO zs ss st c)/\(cO zs ss st c).length<=6/\cnt (cO zs ss st c)<=cnt st+1:=by
 match st,a,hl with
 |g::r,a,hl=>
  have j:=yF (c:=c) h;have m:=BJ (c:=c) s;unfold cO;dsimp only;split
  .rename_i co;obtain⟨k,u,d,q⟩:=vL (c:=c) j;refine⟨⟨u,k,.nil,by rw[d];exact .nil,by simp[aA];lia,by rw[d];simp[aA];lia,a⟩,by simp;lia,?_⟩;rw[cnt,d,q];have e0:(ai ([]:LA)).length=0:=U;dsimp only;rw[e0];lia
  split
  .rename_i p
   cases r with
   |nil=>exact Q5 p.2.2 (by simp)
   |cons g' w=>exact⟨a.close,by simp[lJ]at hl ⊢;lia,qx (FC a.1) Yo⟩
  split
  .rename_i i;obtain⟨y,b⟩:=wD i.2;have e:Op.els g=⟨.ifO y g.ds,[],g.shut,0⟩:=by unfold Op.els;rw[b]
   rw[e]
   cases r with
   |nil=>
    have:=a.1;rw[b]at this;cases this
   |cons g' w=>
    obtain⟨A,f,n,x,t,z,o⟩:=a;rw[b]at f;exists ⟨by simp,f,.nil,n,by simp[aA];simp at hl;lia,t,o⟩,hl;simp[cnt,b,Op.extra,Op.one,ai]
  .obtain⟨s1,v,l⟩:=Ay (ss:=ss) (c:=c) (hid:=fB (g::r)) h j m;exists a.more (ds:=[eV c (xN c zs) (qN c ss) zs (fB (g::r))]) s1 (by rw[v];simp at hl;lia),hl;rw[xY,l];exact qd _
theorem mh{zs ss:LS}(h:zs.length=6)(a:ss.length=2):∀(cells:LI)(st:List Fr),SX zs ss st->st.length<=6->SX zs ss (cells.foldl (cO zs ss) st)/\(cells.foldl (cO zs ss) st).length<=6/\cnt (cells.foldl (cO zs ss) st)<=cnt st+cells.length
 |[],st,hs,hl=>⟨hs,hl,qd _⟩
 |c::cells,st,hs,hl=>by
  obtain⟨b1,b2,_⟩:=Aa (c:=c) h a hs hl;obtain⟨d,b,_⟩:=mh h a cells _ b1 b2;exists d,b;rw[Qz,qz];lia
theorem rH{ss:LS}(h:zs.length=6)(c:ss.length=2)(a:LI):BlX zs ss (io zs ss a)/\aA (io zs ss a)<=12/\(ai (io zs ss a)).length<=a.length:=by
 obtain⟨b,_,_⟩:=mh h c a cX ⟨U,.nil,by simp[aA]⟩ (by simp[cX]);obtain⟨b1,b2,_⟩:=sk _ [] b .nil (by simp[aA];lia);exists b1,b2;have e:(ai ([]:LA)).length=0:=U;have d:cnt cX=0:=by simp[cX,cnt,ai,Op.extra,Op.one]
 unfold io;lia
inductive PtG
 |pas (is os rt:LI)
 |wrk (is:LI) (o:Int) (sg:Str) (l r:Sd)
 |cho (is:LI) (w:Int) (ξ ofs:LI) (t:Int)
 |mrg (t:Int) (ξ ofs outs:LI)
structure ap where
 ls:List LnD
 ps:List PtG
 cs:LS
 fc:aN
def wid(n k:Nat):LI:=(List.range k).map λi=>((n+i:Nat):Int)
def ap.n(N:ap):Nat:=N.ls.length
def ap.wires(N:ap)(k:Nat):ap:={ N with ls:=N.ls++List.replicate k dw }
def ap.line(N:ap)(d:LnD):ap:={ N with ls:=N.ls++[d] }
def ap.part(N:ap)(p:PtG):ap:={ N with ps:=N.ps++[p] }
noncomputable def ap.lead(N:ap)(zs:LS)(ws:LI):ap:={ N with cs:=zs.foldl b7 N.cs,fc:=(zs.zip ws).foldl (λf z=>b6 f z.1 z.2) N.fc }
noncomputable def ap.fork(N:ap)(x:Str):ap:=((N.wires 2).part (.pas [N.fc x] (wid N.n 2) [0,0])).lead [x] [((N.n+1:Nat):Int)]
noncomputable def ap.set(N:ap)(x:Str)(F:Val)(sg:Str)(B:Val)(rs:LS):ap:=
 let M:=rs.foldl ap.fork N
 ((M.wires 1).part (.wrk (N.fc x::bH N.n rs.length) M.n sg (bN (x::rs) F) (bN (x::rs) B))).lead [x] [(M.n:Int)]
noncomputable def ap.hand(N:ap)(B x:Str)(e:Int):ap:=
 let M:=N.fork x
 ((M.wires 1).part (.pas [N.fc B,(N.n:Int)] [(M.n:Int),e] [0,1])).lead [B] [(M.n:Int)]
noncomputable def ap.get(N:ap)(B x:Str)(e:Int):ap:=((N.wires 2).part (.pas [N.fc B,N.fc x,e] (wid N.n 2) [0,2])).lead [B,x] (wid N.n 2)
noncomputable def ap.ifA(N:ap)(zs:LS)(x:Str):ap:=((((N.wires zs.length).wires zs.length).line dw).part (.cho (zs.map N.fc) (zs.idxOf x:Nat) (wid N.n zs.length) (wid (N.n+zs.length) zs.length) ((N.n+zs.length+zs.length:Nat):Int))).lead zs (wid N.n zs.length)
noncomputable def ap.ifZ(N:ap)(zs:LS)(B:Nat)(ξ:LI):ap:=((N.wires zs.length).part (.mrg (B:Int) ξ (zs.map N.fc) (wid N.n zs.length))).lead zs (wid N.n zs.length)
def eh:LnD:=⟨.int 1,[0]⟩
noncomputable def ap.loA(N:ap)(zs:LS)(x:Str)(beh:LI):ap:=((((N.line eh).wires zs.length).wires zs.length).part (.cho (wid (N.n+1) zs.length) (zs.idxOf x:Nat) (wid (N.n+1+zs.length) zs.length) beh (N.n:Int))).lead zs (wid (N.n+1+zs.length) zs.length)
noncomputable def ap.loZ(N:ap)(zs:LS)(n:Nat)(B beh:LI):ap:=(N.part (.mrg (n:Int) (zs.map N.fc) B (wid (n+1) zs.length))).lead zs beh
def ctN(n:Nat):Str:=(toString (n:Int):String)
noncomputable def ctD(n:Nat):aa:=.set (ctN n) (.nm (ctN n)) "-" (.num 1)
noncomputable def ap.reA(N:ap)(k:Int):ap:=(((N.line eh).wires 1).part (.wrk [(N.n:Int)] ((N.n+1:Nat):Int) "+" (.is k) (.is 0))).lead [ctN N.n] [((N.n+1:Nat):Int)]
structure cj(ds:LA)(zs:LS):Prop where
 nd:zs.Nodup
 mem:∀k,k∈zs↔k∈cards ds
 so:sortedS zs=true
 few:zs.length<=20
structure gg(x:Str)(va vb:Val)(rs:LS):Prop where
 nd:rs.Nodup
 mem:∀y,y∈rs↔(y∈va.names\/y∈vb.names)/\y≠x
 so:sortedS rs=true
inductive Lay(fe:aN):ap->LA->ap->Prop
 |nil {N:ap}:Lay fe N [] N
 |set {N N':ap}{x:Str}{va:Val}{sg:Str}{vb:Val}{rs:LS}{r:LA}:gg x va vb rs->Lay fe (N.set x va sg vb rs) r N'->Lay fe N (.set x va sg vb::r) N'
 |put {N N':ap}{q x:Str}{r:LA}:Lay fe (N.hand (q++(">":Str)) x (fe q)) r N'->Lay fe N (.put q x::r) N'
 |give {N N':ap}{x:Str}{r:LA}:Lay fe (N.hand (">":Str) x (fe (">":Str))) r N'->Lay fe N (.give x::r) N'
 |get {N N':ap}{q x:Str}{r:LA}:Lay fe (N.get (q++("<":Str)) x (fe q)) r N'->Lay fe N (.get q x::r) N'
 |cond {N N1 N2 N':ap}{x:Str}{t o:LA}{zs:LS}{r:LA}:cj [.cond x t o] zs->Lay fe (N.ifA zs x) t N1->Lay fe (N1.lead zs (wid (N.n+zs.length) zs.length)) o N2->Lay fe (N2.ifZ zs (N.n+zs.length+zs.length) (zs.map N1.fc)) r N'->Lay fe N (.cond x t o::r) N'
 |whl {N N1 N':ap}{x:Str}{b:LA}{zs:LS}{r:LA}:cj [.whl x b] zs->Lay fe ((N.wires zs.length).loA zs x (wid N.n zs.length)) b N1->Lay fe (N1.loZ zs (N.n+zs.length) (zs.map N.fc) (wid N.n zs.length)) r N'->Lay fe N (.whl x b::r) N'
 |rep0 {N N':ap}{k:Int}{b:LA}{r:LA}:cards b=[]->Lay fe N r N'->Lay fe N (.rep k b::r) N'
 |rep {N N1 N':ap}{k:Int}{b:LA}{zs:LS}{r:LA}:cj b zs->zs≠[]->Lay fe (((N.reA k).wires zs.length).loA (zs++[ctN N.n]) (ctN N.n) (wid (N.n+2) zs.length++[(N.n:Int)])) (b++[ctD N.n]) N1->
  Lay fe (N1.loZ (zs++[ctN N.n]) (N.n+2+zs.length) ((zs++[ctN N.n]).map (N.reA k).fc) (wid (N.n+2) zs.length++[(N.n:Int)])) r N'->Lay fe N (.rep k b::r) N'
noncomputable def wtD:aa->Nat
 |.cond _ _ _|.whl _ _|.rep _ _=>200
 |_=>20
noncomputable def wts(ds:LA):Nat:=((ai ds).map wtD).sum
theorem jq(a b:LA):wts (a++b)=wts a+wts b:=by
 unfold wts;rw[dk,qO,List.sum_append]
theorem yH(d:aa)(r:LA):wts (d::r)=wts [d]+wts r:=jq [d] r
theorem yG(d:aa):wts [d]=wtD d+(d.inner.map wts).sum:=by
 unfold wts;rw[ai,ai,qw,dE,qR,List.sum_cons,List.map_flatMap]
 congr 1
 have:∀l:List LA,(l.flatMap λa=>(ai a).map wtD).sum=(l.map λds=>((ai ds).map wtD).sum).sum:=by
  intro l
  induction l with
  |nil=>rfl
  |cons a r b=>rw[qE,List.sum_append,b,qR,List.sum_cons]
 exact this _
theorem rT(ds:LA):wts ds<=200 * (ai ds).length:=by
 unfold wts;generalize ai ds=l
 induction l with
 |nil=>exact qd _
 |cons d r _=>
  rw[qR,List.sum_cons,qz];have:wtD d<=200:=by cases d<;>simp[wtD]
  lia
structure Gr(N N':ap)(m:Nat):Prop where
 l1:N.ls.length<=N'.ls.length
 l2:N'.ls.length<=N.ls.length+m
 p2:N'.ps.length<=N.ps.length+m
 c2:N'.cs.length<=N.cs.length+m
 sub:∀x∈N.cs,x∈N'.cs
 nd:N.cs.Nodup->N'.cs.Nodup
theorem Gr.trans{A B C:ap}{k:Nat}(h:Gr A B m)(h':Gr B C k):Gr A C (m+k):=⟨qx h.l1 h'.l1,by have:=h.l2;have:=h'.l2;lia,by have:=h.p2;have:=h'.p2;lia,by have:=h.c2;have:=h'.c2;lia,λx a=>h'.sub x (h.sub x a),λz=>h'.nd (h.nd z)⟩
theorem Gr.refl{N:ap}:Gr N N 0:=⟨qd _,qd _,qd _,qd _,λ_ h=>h,λh=>h⟩
theorem Gr.le{N N':ap}{k:Nat}(h:Gr N N' m)(l:m<=k):Gr N N' k:=⟨h.l1,by have:=h.l2;lia,by have:=h.p2;lia,by have:=h.c2;lia,h.sub,h.nd⟩
theorem G4(a:LS)(x:Str):(b7 a x).length<=a.length+1:=by
 unfold b7;split
 .omega
 .simp
theorem cH:∀(zs cs:LS),(zs.foldl b7 cs).length<=cs.length+zs.length/\(∀x,x∈zs.foldl b7 cs↔x∈cs\/x∈zs)/\(cs.Nodup->(zs.foldl b7 cs).Nodup)
 |[],cs=>⟨qd _,λx=>by simp,λh=>h⟩
 |z::zs,cs=>by
  obtain⟨a,b,c⟩:=cH zs (b7 cs z);have:=G4 cs z;refine⟨by rw[Qz,qz];lia,λx=>?_,λh=>c (w5 h)⟩;rw[Qz,b,DI,qt,or_assoc]
theorem aV{N:ap}{k:Nat}:Gr N (N.wires k) k:=⟨by show _<=(N.ls++_).length;rw[qa];lia,by show(N.ls++List.replicate k dw).length<=_;rw[qa,List.length_replicate];exact qd _,Nat.le_add_right _ _,Nat.le_add_right _ _,λ_ h=>h,λh=>h⟩
theorem cy{N:ap}{d:LnD}:Gr N (N.line d) 1:=⟨by show _<=(N.ls++_).length;rw[qa];lia,by show(N.ls++[d]).length<=_;rw[qa];exact qd _,Nat.le_add_right _ _,Nat.le_add_right _ _,λ_ h=>h,λh=>h⟩
theorem bL{N:ap}{p:PtG}:Gr N (N.part p) 1:=⟨qd _,Nat.le_add_right _ _,by show(N.ps++[p]).length<=_;rw[qa];exact qd _,Nat.le_add_right _ _,λ_ h=>h,λh=>h⟩
theorem cA{N:ap}:Gr N (N.lead zs ws) zs.length:=by
 obtain⟨a,b,c⟩:=cH zs N.cs;exact⟨qd _,Nat.le_add_right _ _,Nat.le_add_right _ _,a,λx d=>(b x).mpr (.inl d),c⟩
theorem pU{N:ap}:Gr N (N.fork x) 4:=(aV.trans bL).trans cA
theorem lB:∀(rs:LS)(N:ap),Gr N (rs.foldl ap.fork N) (4 * rs.length)
 |[],N=>.refl
 |r::rs,N=>(pU.trans (lB rs (N.fork r))).le (by rw[qz];lia)
theorem gg.few{b a:Val}(h:gg x b a rs):rs.length<=2:=by
 have:=bX h.nd (ds:=b.names++a.names) λy c=>qg.mpr ((h.mem y).mp c).1;refine qx this ?_;rw[qa];cases b<;>cases a<;>simp[Val.names]
theorem Es{N:ap}{b:Val}{a:Val}(h:gg x b a rs):Gr N (N.set x b sg a rs) 11:=by
 have:=h.few;unfold ap.set;exact(((((lB rs N).trans aV).trans bL).trans cA)).le (by rw[Q7];lia)
theorem wW{N:ap}{c:Str}{e:Int}:Gr N (N.hand c x e) 7:=((pU.trans aV).trans bL).trans cA
theorem Ex{N:ap}{c:Str}{e:Int}:Gr N (N.get c x e) 5:=(aV.trans bL).trans cA
end Tr
variable {N N':Tr.ap}{p:Tr.PtG}
abbrev LR:=List Tr.PtG
namespace Tr
open PySem PySem.Spec PyProof.Rows L2
theorem lR{x:Str}{n:Int}:∀{a:LS}{ms:LI}{i:Nat},a[i]?=some x->ms[i]?=some n->(a.take (i+1)).zip ms=(a.take i).zip ms++[(x,n)]
 |[],_,_,h,_=>by simp at h
 |_::_,[],_,_,h=>by simp at h
 |y::a,m::ms,0,h,h'=>by
  simp at h h';simp[h,h']
 |y::a,m::ms,i+1,h,h'=>by
  rw[List.take_succ_cons,List.take_succ_cons,List.zip_cons_cons,List.zip_cons_cons,lR (i:=i) (by simpa using h) (by simpa using h')]
  rfl
theorem Lay.app{d e:ap}{a b:LA}(h:Lay fe N a d)(k:Lay fe d b e):Lay fe N (a++b) e:=by
 induction h with
 |nil=>exact k
 |set r _ c=>exact .set r (c k)
 |put _ c=>exact .put (c k)
 |give _ c=>exact .give (c k)
 |get _ c=>exact .get (c k)
 |cond r t o _ _ _ c=>exact .cond r t o (c k)
 |whl r t _ _ c=>exact .whl r t (c k)
 |rep0 r _ c=>exact .rep0 r (c k)
 |rep r n t _ _ c=>exact .rep r n t (c k)
theorem b8(N:ap)(k:Nat):(N.wires k).n=N.n+k:=by
 show(N.ls++List.replicate k dw).length=_;rw[qa,List.length_replicate]
 rfl
theorem dP(N:ap)(d:LnD):(N.line d).n=N.n+1:=by
 show(N.ls++[d]).length=_;rw[qa]
 rfl
theorem Dx(N:ap)(p:PtG):(N.part p).n=N.n:=U
theorem kE(N:ap)(zs:LS)(ws:LI):(N.lead zs ws).n=N.n:=U
theorem lD(h:d∈ds):(ai [d]).Sublist (ai ds):=by
 obtain⟨a,b,rfl⟩:=List.append_of_mem h;rw[show a++d::b=a++([d]++b)from rfl,dk,dk];exact(List.sublist_append_left _ _).trans (List.sublist_append_right _ _)
theorem xI(h:d∈ds):aA [d]<=aA ds:=by
 obtain⟨a,b,rfl⟩:=List.append_of_mem h;rw[show a++d::b=a++([d]++b)from rfl,fX,fX];lia
theorem jb{b:LA}(h:b∈d.inner):(ai b).Sublist (ai [d]):=by
 rw[ai,ai,qw,dE];refine List.Sublist.cons _ ?_;obtain⟨x,y,e⟩:=List.append_of_mem h;rw[e,qU,qE];exact(List.sublist_append_left _ _).trans (List.sublist_append_right _ _)
theorem jd{b:LA}(h:b∈d.inner):aA b<aA [d]:=by
 cases d<;>simp[aa.inner]at h
 .rcases h with rfl|rfl<;>simp[aA,aa.depth]<;>lia
 .subst h;simp[aA,aa.depth]
 .subst h;simp[aA,aa.depth]
def esN(ss:LG):LS:=ss.map (·.1)++[(">":Str)]
def feN(ss:LG):aN:=λe=>((esN ss).idxOf e:Nat)
def c8(ss:LG)(zs:LS)(f:aN):ap:=⟨(ss.map λs=>⟨.int s.2,[]⟩)++[⟨.non,[]⟩]++zs.map (λz=>⟨.int 1,[f z]⟩),[],zs,λz=>((ss.length+1+zs.idxOf z:Nat):Int)⟩
theorem kW(nd:zs.Nodup)(h:zs[i]?=some z):zs.idxOf z=i:=by
 have lt:=(qe.mp h).1;rw[<- (qe.mp h).2];exact nd.idxOf_getElem i lt
theorem iu(nd:zs.Nodup)(h:zs[i]?=some z):z∉zs.take i:=λa=>by
 have lt:=(qe.mp h).1;rw[<- Qu i zs,List.drop_eq_getElem_cons lt,(qe.mp h).2]at nd;exact(List.nodup_append.mp nd).2.2 z a z qk U
theorem uB{f:aN}{v:Int}(h:f x=v):b6 f x v=f:=by
 funext z
 unfold b6;split
 .subst_vars;rfl
 .rfl
abbrev OsN(os:LV)(z:LQ):Prop:=R2s (λv (x:Fz)=>∀y,x.f.op=.ifT y->v=.ref x.e) os z
structure GN(Hb H0 H:Hp)(s0 s1 s2:Addr)(z:LQ)(os:LV):Prop where
 zc:ZC Hb H0 H [s0,s1,s2] z
 c0:H s0=some (.lst ((z.map λx=>V.ref x.c).reverse))
 c1:H s1=some (.lst ((z.map λx=>V.str (kdN x.f.op)).reverse))
 c2:H s2=some (.lst os.reverse)
 ro:OsN os z
section
variable {Hb H0' H1:Hp}{s0 s1 s2:Addr}{z:LQ}{os:LV}
theorem GN.same(G:GN Hb H0 H s0 s1 s2 z os)(e:a9 H H1):GN Hb H0 H1 s0 s1 s2 z os:=⟨G.zc.same e,e _ _ G.c0,e _ _ G.c1,e _ _ G.c2,G.ro⟩
theorem GN.ss(G:GN Hb H0 H s0 s1 s2 z os):s0≠s1/\s0≠s2/\s1≠s2:=by
 have nd:=(List.nodup_append.mp G.zc.nd).1;simp only[List.nodup_cons,qt,qQ,or_false,not_or]at nd;exact⟨nd.1.1,nd.1.2,nd.2.1⟩
theorem GN.ne(G:GN Hb H0 H s0 s1 s2 z os){m:Addr}(h:m∈z.flatMap Fz.muts):m≠s0/\m≠s1/\m≠s2:=by
 have:=G.zc.off h;simp only[qt,qQ,or_false,not_or]at this;exact this
theorem GN.push{x:Fz}{r:LQ}{vs xs:LV}{p:Addr}{d:aa}(G:GN Hb H0 H s0 s1 s2 (x::r) os)(b:H x.c=some (.lst vs))(hp:H p=some (.tup xs))(a:H0 p=none)(hd:RD (upd H0 p (.tup xs)) (.ref p) d):
 GN Hb (upd H0 p (.tup xs)) (upd H x.c (.lst (vs++[.ref p]))) s0 s1 s2 ({ x with f:=x.f.add d }::r) os:=by
 have n:=G.ne (eE (x:=x) (r:=r));refine⟨G.zc.push b hp a hd,by rw[au n.1.symm];exact G.c0,by rw[au n.2.1.symm];exact G.c1,by rw[au n.2.2.symm];exact G.c2,?_⟩
 match os,G.ro with
 |_::_,.cons h r=>exact .cons h r
theorem GN.elsed{x:Fz}{r:LQ}{vs:LV}{n:Str}{v:V}{os:LV}(G:GN Hb H0 H s0 s1 s2 (x::r) (v::os))(q:x.f.op=.ifT n)(j:H x.c=some (.lst vs))
 (k:∀b u,b≠s0->b≠s1->H b=some u->H' b=some u) (a:H' s0=some (.lst ((r.map λx=>V.ref x.c).reverse++[.ref x.e]))) (g:H' s1=some (.lst ((r.map λx=>V.str (kdN x.f.op)).reverse++[.str "else"]))):
 GN Hb (upd H0 x.c (.lst vs)) H' s0 s1 s2 (⟨⟨.ifO n x.f.ds,[],x.f.shut,0⟩,x.e,x.p,x.c⟩::r) (v::os):=by
 have i:=G.ss;have d:=k _ _ i.2.1.symm i.2.2.symm G.c2;refine⟨G.zc.elsed (t:=0) q j (λb u hb h=>?_) (kN a g d),?_,?_,d,?_⟩
 .simp only[qt,qQ,or_false,not_or]at hb;exact k b u hb.1 hb.2.1 h
 .rw[a];simp
 .rw[g];simp[kdN]
 .match G.ro with
  |.cons h r=>exact .cons (λy e=>by cases e) r
theorem GN.closed{x g:Fz}{r:LQ}{v:V}{os:LV}(G:GN Hb H0 H s0 s1 s2 (x::g::r) (v::os))(k:∀b u,b≠s0->b≠s1->b≠s2->H b=some u->H' b=some u)(a:H' s0=some (.lst (((g::r).map λx=>V.ref x.c).reverse)))(e:H' s1=some (.lst (((g::r).map λx=>V.str (kdN x.f.op)).reverse)))(d:H' s2=some (.lst os.reverse)):
 ∃H0',GN Hb H0' H' s0 s1 s2 ({ g with f:=g.f.add x.f.deed }::r) os:=by
 obtain⟨H0',Z⟩:=G.zc.closed (H':=H') (λb u hb h=>by
  simp only[qt,qQ,or_false,not_or]at hb
  exact k b u hb.1 hb.2.1 hb.2.2 h) (kN a e d)
 exists H0',Z,a,e,d
 match G.ro with
 |.cons _ (.cons h r)=>exact .cons h r
theorem GN.opened{x:Fz}{r:LQ}{vs:LV}{op:Op}{c p e:Addr}{os:LV}(G:GN Hb H0 H s0 s1 s2 (x::r) os)(D:H x.c=some (.lst vs))(fc:H0 c=none/\c∉[s0,s1,s2]++(x::r).flatMap Fz.muts)(l:H0 e=none/\e∉[s0,s1,s2]++(x::r).flatMap Fz.muts)(Q:e≠c)(P:H e=some (.lst []))
 (J:H c=some (.lst [])) (hp:H p=some (.tup (⟨⟨op,[],false,0⟩,c,p,e⟩:Fz).tupV)) (v:op≠.root) (s:∀n t,op≠.ifO n t):
 GN Hb H0 (upd (upd (upd (upd H x.c (.lst (vs++[.ref p]))) s0 (.lst ((((x::r).map λx=>V.ref x.c).reverse)++[.ref c]))) s2 (.lst (os.reverse++[.ref e]))) s1 (.lst ((((x::r).map λx=>V.str (kdN x.f.op)).reverse)++[.str (kdN op)]))) s0 s1 s2 (⟨⟨op,[],false,0⟩,c,p,e⟩::x::r) (.ref e::os):=by
 obtain⟨A,C,o⟩:=G.ss;obtain⟨K0,S,R⟩:=G.ne (eE (x:=x) (r:=r));have pt:∀{q:Addr}{xs:LV},H q=some (.tup xs)->q≠x.c/\q≠s0/\q≠s1/\q≠s2:=λh=>⟨dF h D,dF h G.c0,dF h G.c1,dF h G.c2⟩
 have F:∀{d:Addr},d∉[s0,s1,s2]++(x::r).flatMap Fz.muts->d≠x.c/\d≠s0/\d≠s1/\d≠s2:=λh=>by
  simp only[qg,qt,qQ,or_false,not_or]at h;exact⟨λz=>h.2 (z▸eE),h.1.1,h.1.2.1,h.1.2.2⟩
 generalize hH':upd (upd (upd (upd H x.c (.lst (vs++[.ref p]))) s0 (.lst ((((x::r).map λx=>V.ref x.c).reverse)++[.ref c]))) s2 (.lst (os.reverse++[.ref e]))) s1 (.lst ((((x::r).map λx=>V.str (kdN x.f.op)).reverse)++[.str (kdN op)]))=H';have off:∀b,b≠x.c->b≠s0->b≠s1->b≠s2->H' b=H b:=λb k g T M=>by rw[<- hH',au T,au M,au g,au k]
 have w:H' s1=some (.lst ((((x::r).map λx=>V.str (kdN x.f.op)).reverse)++[.str (kdN op)])):=by rw[<- hH'];exact ah
 have E:H' s2=some (.lst (os.reverse++[.ref e])):=by rw[<- hH',au o.symm];exact ah
 have B:H' s0=some (.lst ((((x::r).map λx=>V.ref x.c).reverse)++[.ref c])):=by rw[<- hH',au A,au C];exact ah
 have L:H' x.c=some (.lst (vs++[.ref p])):=by rw[<- hH',au S,au R,au K0];exact ah
 have N:∀{q:Addr}{xs:LV},H q=some (.tup xs)->H' q=some (.tup xs):=λh=>by
  obtain⟨a,b,c,d⟩:=pt h;rwa[off _ a b c d]
 have lp:∀{d:Addr}{ws:LV},d∉[s0,s1,s2]++(x::r).flatMap Fz.muts->H d=some (.lst ws)->H' d=some (.lst ws):=λhd h=>by
  obtain⟨a,b,c,e⟩:=F hd;rwa[off _ a b c e]
 have i:a9 H0 H':=λb u hb=>by
  have j:∀m∈[s0,s1,s2]++(x::r).flatMap Fz.muts,b≠m:=λm K=>bP hb (G.zc.fz m K);rw[off b (j _ (qH _ eE)) (j _ (by simp)) (j _ (by simp)) (j _ (by simp))];exact G.zc.h0 _ _ hb
 have I:∀d∈(⟨⟨op,[],false,0⟩,c,p,e⟩:Fz).muts,d=c\/d=e:=λd hd=>by
  unfold Fz.muts at hd;dsimp only at hd;split at hd
  .simpa using hd
  .simp at hd;exact .inl hd
 refine⟨G.zc.opened (vy:=[]) D (a9.refl _) i G.zc.fz (λb u k g h=>?_) (kN B w E) (λd hd=>?_) ?_ (lp fc.2 J) .nil ?_ (N hp) v L,?_,?_,?_,?_⟩
 .simp only[qt,qQ,or_false,not_or]at g;rwa[off b k g.1 g.2.1 g.2.2]
 .rcases I d hd with rfl|rfl
  .exact fc
  .exact l
 .unfold Fz.muts;dsimp only;split
  .simp;exact Q.symm
  .simp
 .unfold Fz.side;dsimp only;split
  .exact lp l.2 P
  .exact Q5 U (s _ _)
  .trivial
 .rw[B];simp
 .rw[w];simp
 .rw[E];simp
 .exact .cons (λy _=>U) G.ro
theorem En{st:List Fr}:(inV (.str "if") ((st.map λf=>V.str (kdN f.op)).reverse) || (inV (.str "else") ((st.map λf=>V.str (kdN f.op)).reverse) || inV (.str "while") ((st.map λf=>V.str (kdN f.op)).reverse)))=fB st:=by
 have e:∀s:Str,inV (.str s) ((st.map λf=>V.str (kdN f.op)).reverse)=st.any λf=>decide (kdN f.op=s):=λs=>by
  unfold inV;rw[List.any_reverse,List.any_map];refine congrArg (List.any st) (funext λf=>?_);show eqV (.str (kdN f.op)) (.str s)=_;simp only[eqV];by_cases h:kdN f.op=s
  .simp[h]
  .simp[h]
 rw[e,e,e];clear e;unfold fB
 induction st with
 |nil=>rfl
 |cons f r a=>
  simp only[List.any_cons];rw[<- a];cases decide (kdN f.op="if")<;>cases decide (kdN f.op="else")<;>cases decide (kdN f.op="while")<;>simp
end
end Tr
namespace L2
open PySem PySem.Spec PyProof.Rows
@[reducible] def intKey:KeyKind where
  α:=Int
  blt a b:=decide (a<b)
  irrefl a:=by simp
  trans a b c h1 h2:=by simp only[decide_eq_true_eq]at *;lia
  negTrans a b c h:=by simp only[decide_eq_true_eq]at *;lia
  total a b h1 h2:=by simp only[decide_eq_false_iff_not]at *;lia
  keyOf v:=match v with|.int n _=>some n|_=>none
  dflt:=0
end L2
namespace Tr
open PySem PySem.Spec PyProof.Rows L2
mutual
noncomputable def aa.bare:aa->Bool
 |.rep _ b=>du b
 |.set _ _ _ _=>false
 |.put _ _=>false
 |.get _ _=>false
 |.give _=>false
 |.cond _ _ _=>false
 |.whl _ _=>false
noncomputable def du:LA->Bool
 |[]=>true
 |d::r=>d.bare && du r
end
theorem ym:∀ds:LA,du ds=ds.all aa.bare
 |[]=>rfl
 |d::r=>by rw[du,List.all_cons,ym r]
theorem rD(d:aa)(r:LA):cards (d::r)=cards [d]++cards r:=y7 [d] r
mutual
theorem FV:∀d:aa,cards [d]=[]↔d.bare=true
 |.rep n b=>by
  rw[cB,aa.bare];simp only[aa.cards,aa.names,aa.others,aa.inner,qE,List.flatMap_nil,qw,Ql];exact jh b
 |.set x a sg b=>by rw[cB,aa.bare];simp[aa.cards,aa.names]
 |.put q x=>by rw[cB,aa.bare];simp[aa.cards,aa.names]
 |.get q x=>by rw[cB,aa.bare];simp[aa.cards,aa.names]
 |.give x=>by rw[cB,aa.bare];simp[aa.cards,aa.names]
 |.cond x t o=>by rw[cB,aa.bare];simp[aa.cards,aa.names]
 |.whl x b=>by rw[cB,aa.bare];simp[aa.cards,aa.names]
theorem jh:∀ds:LA,cards ds=[]↔du ds=true
 |[]=>by simp[cards,ai,du]
 |d::r=>by rw[rD,List.append_eq_nil_iff,FV d,jh r,du,Bool.and_eq_true]
end
mutual
theorem EN:∀(x:aa){d e:aa},d∈x.flat->e∈d.flat->e∈x.flat
 |.set x a sg b,d,e,h,h'=>by rw[aa.flat]at h;rw[qS.mp h]at h';exact h'
 |.put q x,d,e,h,h'=>by rw[aa.flat]at h;rw[qS.mp h]at h';exact h'
 |.get q x,d,e,h,h'=>by rw[aa.flat]at h;rw[qS.mp h]at h';exact h'
 |.give x,d,e,h,h'=>by rw[aa.flat]at h;rw[qS.mp h]at h';exact h'
 |.cond x t o,d,e,h,h'=>by
  rw[aa.flat]at h ⊢;rcases qt.mp h with rfl|h
  .rw[aa.flat]at h';exact h'
  .refine qj _ ?_;rcases qg.mp h with h|h
   .exact qg.mpr (.inl (fU t h h'))
   .exact qg.mpr (.inr (fU o h h'))
 |.whl x b,d,e,h,h'=>by
  rw[aa.flat]at h ⊢;rcases qt.mp h with rfl|h
  .rw[aa.flat]at h';exact h'
  .exact qj _ (fU b h h')
 |.rep n b,d,e,h,h'=>by
  rw[aa.flat]at h ⊢;rcases qt.mp h with rfl|h
  .rw[aa.flat]at h';exact h'
  .exact qj _ (fU b h h')
theorem fU:∀(b:LA){d e:aa},d∈ai b->e∈d.flat->e∈ai b
 |[],d,e,h,_=>by simp[ai]at h
 |x::r,d,e,h,h'=>by
  rw[ai]at h ⊢;rcases qg.mp h with h|h
  .exact qg.mpr (.inl (EN x h h'))
  .exact qg.mpr (.inr (fU r h h'))
end
mutual
theorem EQ:∀(x:aa){d:aa},d∈x.flat->d.flat.Sublist x.flat/\d.depth<=x.depth
 |.set x a sg b,d,h=>by rw[aa.flat]at h;rw[qS.mp h];exact⟨List.Sublist.refl _,qd _⟩
 |.put q x,d,h=>by rw[aa.flat]at h;rw[qS.mp h];exact⟨List.Sublist.refl _,qd _⟩
 |.get q x,d,h=>by rw[aa.flat]at h;rw[qS.mp h];exact⟨List.Sublist.refl _,qd _⟩
 |.give x,d,h=>by rw[aa.flat]at h;rw[qS.mp h];exact⟨List.Sublist.refl _,qd _⟩
 |.cond x t o,d,h=>by
  rw[aa.flat]at h;rcases qt.mp h with rfl|h
  .exact⟨List.Sublist.refl _,qd _⟩
  .rw[aa.flat,aa.depth];rcases qg.mp h with h|h
   .have:=i7 t h;exact⟨.cons _ (this.1.trans (List.sublist_append_left _ _)),Yo⟩
   .have:=i7 o h;exact⟨.cons _ (this.1.trans (List.sublist_append_right _ _)),Yo⟩
 |.whl x b,d,h=>by
  rw[aa.flat]at h;rcases qt.mp h with rfl|h
  .exact⟨List.Sublist.refl _,qd _⟩
  .rw[aa.flat,aa.depth];have:=i7 b h;exact⟨.cons _ this.1,Yo⟩
 |.rep n b,d,h=>by
  rw[aa.flat]at h;rcases qt.mp h with rfl|h
  .exact⟨List.Sublist.refl _,qd _⟩
  .rw[aa.flat,aa.depth];have:=i7 b h;exact⟨.cons _ this.1,Yo⟩
theorem i7:∀(b:LA){d:aa},d∈ai b->d.flat.Sublist (ai b)/\d.depth<=aA b
 |[],d,h=>by simp[ai]at h
 |x::r,d,h=>by
  rw[ai]at h;rw[ai,aA];rcases qg.mp h with h|h
  .have:=EQ x h;exact⟨this.1.trans (List.sublist_append_left _ _),Yo⟩
  .have:=i7 r h;exact⟨this.1.trans (List.sublist_append_right _ _),Yo⟩
end
end Tr
namespace L2
open PySem PySem.Spec PyProof.Rows
theorem bp.u200{k:Nat}(r:bp k A):A.units+200<cLine:=by have:=r.un;lia
section
variable [DecidableEq κ] {knd:PySem.KeyKind P w κ}
end
theorem ig(hg:X.A.guards=some [])(hu:X.A.units+200<cLine):bf X (.type "str") (λxs H Q=>∃(p:Addr)(d:PyData),xs=[.ref p]/\Dt X.K H (.ref p) d/\d.showable=true/\d.hasDict=false/\d.depth<=100/\d.shown.length<=sizeLine/\Q (.str d.shown) H):=by
 intro _ s _ H xs us Q I r h;obtain⟨p,d,rfl,hd,c,f,_,hz,q⟩:=h;obtain⟨u,rfl,b⟩:=cK r;cases b;obtain⟨as,a⟩:=hd.reads I U;exact str_of_reads a c (λz=>by rw[f]at z;cases z) hg Yo (λ_ _ e=>e) (λh' u tk k=>⟨.str d.shown,H,I.kept k,⟨u,U⟩,q⟩) hz
end L2
namespace Tr
open PySem PySem.Spec PyProof.Rows L2
end Tr
namespace L2
open PySem PySem.Spec PyProof.Rows
section
variable {n:Nat}{p:Array Nat}
end
end L2
namespace Tr
open PySem PySem.Spec PyProof.Rows L2
noncomputable def fP(f:aN)(ps:LG):aN:=ps.foldl (λf z=>b6 f z.1 z.2) f
theorem dC:∀(zs:LS)(ws:LI)(f:aN)(z:Str),z∉zs->fP f (zs.zip ws) z=f z
 |[],_,f,z,_=>rfl
 |_::_,[],f,z,_=>rfl
 |y::zs,w::ws,f,z,h=>(dC zs ws (b6 f y w) z λk=>h (qj _ k)).trans (by unfold b6;exact qZ λe=>h (by rw[e];exact qk))
theorem pF:∀(zs:LS)(ws:LI)(f:aN)(z:Str),zs.length=ws.length->z∈zs->fP f (zs.zip ws) z∈ws
 |[],_,f,z,_,h=>by simp at h
 |_::_,[],f,z,e,_=>by simp at e
 |y::zs,w::ws,f,z,e,h=>by
  by_cases hz:z∈zs
  .exact qj _ (pF zs ws (b6 f y w) z (by simpa using e) hz)
  .have:z=y:=(qt.mp h).resolve_right hz;refine qt.mpr (.inl ((dC zs ws (b6 f y w) z hz).trans ?_));unfold b6;rw[Q0 this]
theorem pG:∀(zs:LS)(ws:LI)(f:aN),zs.length=ws.length->zs.Nodup->zs.map (fP f (zs.zip ws))=ws
 |[],[],f,_,_=>rfl
 |[],_::_,f,e,_=>by simp at e
 |_::_,[],f,e,_=>by simp at e
 |y::zs,w::ws,f,e,nd=>by
  have h:=List.nodup_cons.mp nd;have b:fP (b6 f y w) (zs.zip ws) y=w:=(dC zs ws (b6 f y w) y h.1).trans (by unfold b6;rw[Q0 U]);have a:=pG zs ws (b6 f y w) (by simpa using e) h.2;show fP (b6 f y w) (zs.zip ws) y::zs.map (fP (b6 f y w) (zs.zip ws))=_;rw[b,a]
theorem EX(N:ap)(zs:LS)(ws:LI):(N.lead zs ws).fc=fP N.fc (zs.zip ws):=U
theorem dr:z∈(N.lead zs ws).cs↔z∈N.cs\/z∈zs:=(cH zs N.cs).2.1 z
theorem bE(n k:Nat):(wid n k).length=k:=by unfold wid;rw[q5,Qe]
theorem yW{n k:Nat}{w:Int}(h:w∈wid n k):(n:Int)<=w/\w<((n+k:Nat):Int):=by
 unfold wid at h;obtain⟨i,hi,rfl⟩:=List.mem_map.mp h;have:=List.mem_range.mp hi;lia
def NcD:aa->Prop
 |.put q x=>q++(">":Str)≠x
 |.get q x=>q++("<":Str)≠x
 |.give x=>(">":Str)≠x
 |_=>True
end Tr
namespace L2
open PySem
set_option maxHeartbeats 3200000 in
open PySem.Spec PyProof.Rows
end L2
namespace Tr
open PySem PySem.Spec PyProof.Rows L2
end Tr
namespace L2
open PySem PySem.Spec PyProof.Rows
end L2
namespace Tr
open PySem PySem.Spec PyProof.Rows L2 PySem.NumText
def gj(z:Str):Bool:=z.cps.toList.any λc=>!(decide (48<=c) && decide (c<=57))
end Tr
namespace HT
open PySem PyProof.Rows
end HT
namespace L2
open PySem PySem.Spec PyProof.Rows
end L2
namespace Tr
open PySem PySem.Spec PyProof.Rows L2
end Tr
namespace L2
open PySem PySem.Spec PyProof.Rows
section
variable {o f i value:Expr}{pos':Pos}{ty tx tv:TE}
end
end L2
namespace L2
open PySem PySem.Spec PyProof.Rows PySem.W
section
variable {x0:Str}{k:Nat}
end
section
variable {x0:Str}{k:Nat}{π elt:Expr}{g:TG}
end
open PySem.SeqAt
open PySem.AutoSeq1 (wpAny_loadPart')
open PySem.MeetsSeq PySem.MeetsSeq2 PySem.MeetsSeq3
section
variable {R:Result->Shared->Prop}{wr:LK}{n:Nat}{P:Nat->Value->Prop}{St:Nat->Heap->Prop}
end
end L2
namespace Tr
open PySem PySem.Spec PyProof.Rows L2
end Tr
namespace L2
open PySem PySem.Spec PyProof.Rows PySem.W
theorem sv(r:aB (ns.map V.int) us):∀{i:Nat}{u:Value},us[i]?=some u->∃n t,ns[i]?=some n/\u=.int n t:=by
 induction ns generalizing us with
 |nil=>cases r;intro i u h;simp at h
 |cons n ns a=>
  cases r with
  |cons h r=>
   obtain⟨t,rfl⟩:=h;intro i u hu
   cases i with
   |zero=>cases hu;exact⟨n,t,U,U⟩
   |succ i=>exact a r (by simpa using hu)
end L2
namespace Tr
open PySem PySem.Spec PyProof.Rows L2
noncomputable def PtG.ots:PtG->LI
 |.pas _ os _=>os
 |.wrk _ o _ _ _=>[o]
 |.cho _ _ ξ F _=>ξ++F
 |.mrg _ _ _ B=>B
noncomputable def PtG.bks(l:Int):PtG->Option LI
 |.pas is os [_,.ofNat r]=>is[min (os.idxOf l) r]?.map ([·])
 |.pas _ _ _=>none
 |.wrk is _ _ _ _=>is[0]?.map ([·])
 |.cho is _ ξ B _=>is[(if l∈ξ then ξ else B).idxOf l]?.map ([·])
 |.mrg _ ξ B F=>ξ[F.idxOf l]?.bind λb=>B[F.idxOf l]?.map λc=>[b,c]
abbrev Hue:=Int->Option Str×PtG
noncomputable abbrev hue(D:Hue)(l:Int):Option Str:=(D l).1
def Fit(D:Hue)(b0:Nat)(p:PtG):Prop:=∀l∈p.ots,((b0:Int)<=l->(D l).2=p)/\∀z,hue D l=some z->∃bs,p.bks l=some bs/\∀b∈bs,hue D b=some z
inductive Rch(ps:LR)(a:Int):Int->Prop
 |refl:Rch ps a a
 |step {b c:Int}{p:PtG}{bs:LI}:Rch ps a b->p∈ps->b∈p.ots->p.bks b=some bs->c∈bs->Rch ps a c
theorem Rch.mono{ps c:LR}{a b:Int}(h:Rch ps a b)(k:∀p∈ps,p∈c):Rch c a b:=by
 induction h with
 |refl=>exact .refl
 |step _ hp e d g f=>exact .step f (k _ hp) e d g
theorem Rch.trans{ps:LR}{a b:Int}(h:Rch ps a b)(k:Rch ps b c):Rch ps a c:=by
 induction k with
 |refl=>exact h
 |step _ hp f d e g=>exact .step g hp f d e
def kap(Z:LS)(z:Str):Option Str:=if z∈Z then some z else none
theorem hV{y:Str}(h:kap Z y=some z):y=z/\z∈Z:=by
 unfold kap at h;split at h
 .cases h;exact⟨U,by assumption⟩
 .cases h
theorem eI(h:z∈Z):kap Z z=some z:=Q0 h
def Ag(D:Hue)(n:Nat)(T:List (Option Str×PtG)):Prop:=(wid n T.length).map D=T
theorem yX(n a b:Nat):wid n (a+b)=wid n a++wid (n+a) b:=by
 unfold wid;rw[List.range_add,qO,List.map_map]
 congr 1
 refine List.map_congr_left λi _=>?_;show((n+(a+i):Nat):Int)=_;rw[Nat.add_assoc]
section
variable {D:Hue}{b0 n:Nat}
theorem Ag.app{S T:List (Option Str×PtG)}(h:Ag D n (S++T)):Ag D n S/\Ag D (n+S.length) T:=by
 unfold Ag at h ⊢;rw[qa,yX,qO]at h;exact List.append_inj h (by rw[q5,bE])
def huT(Z:LS)(p:PtG)(zs:LS):List (Option Str×PtG):=zs.map λz=>(kap Z z,p)
theorem Ag.hu(h:Ag D n (huT Z p zs)):(wid n zs.length).map (hue D)=zs.map (kap Z)/\∀l∈wid n zs.length,(D l).2=p:=by
 unfold Ag huT at h;rw[q5]at h;refine⟨?_,λl hl=>?_⟩
 .have:=congrArg (List.map Prod.fst) h
  rwa [List.map_map,List.map_map]at this
 .have:D l∈zs.map λz=>(kap Z z,p):=h▸List.mem_map_of_mem hl;obtain⟨z,_,e⟩:=List.mem_map.mp this;rw[<- e]
theorem Ag.one{c:Option Str×PtG}(h:Ag D n [c]):D n=c:=(List.cons.inj h).1
def Clr(D:Hue)(Z:LS)(N:ap):Prop:=∀z∈N.cs,hue D (N.fc z)=kap Z z
theorem Clr.map{N:ap}{zs:LS}(h:Clr D Z N)(s:∀z∈zs,z∈N.cs):(zs.map N.fc).map (hue D)=zs.map (kap Z):=by
 rw[List.map_map];exact List.map_congr_left λz hz=>h z (s z hz)
theorem Clr.lead{N:ap}{zs:LS}{ws:LI}(h:Clr D Z N)(nd:zs.Nodup)(e:ws.map (hue D)=zs.map (kap Z)):Clr D Z (N.lead zs ws):=λz hz=>by
 have el:zs.length=ws.length:=by have:=congrArg List.length e;simpa using this.symm
 rw[EX];by_cases k:z∈zs
 .have a:=pG zs ws N.fc el nd;rw[<- a,List.map_map]at e;exact List.map_inj_left.mp e z k
 .rw[dC _ _ _ _ k];exact h z ((dr.mp hz).resolve_right k)
theorem eG(nd:zs.Nodup)(e:ws.map (hue D)=zs.map (kap Z)){l:Int}(hl:l∈ws)(hz:hue D l=some z):l=(N.lead zs ws).fc z/\z∈zs/\z∈Z:=by
 have el:zs.length=ws.length:=by have:=congrArg List.length e;simpa using this.symm
 have b:=pG zs ws N.fc el nd;rw[<- b]at hl;obtain⟨y,a,rfl⟩:=List.mem_map.mp hl;rw[<- b,List.map_map]at e;obtain⟨rfl,k⟩:=hV ((List.map_inj_left.mp e y a).symm.trans hz);exact⟨U,a,k⟩
theorem iZ{as bs:LI}(e:as.map (hue D)=bs.map (hue D)){l:Int}(h:l∈as):∃b,bs[as.idxOf l]?=some b/\hue D b=hue D l:=by
 have lt:=List.idxOf_lt_length_iff.mpr h;have el:as.length=bs.length:=by have:=congrArg List.length e;simpa using this
 have c:=congrArg (·[as.idxOf l]?) e;have a:as.idxOf l<bs.length:=Yo;simp only[qD,qb lt,qb a,List.getElem_idxOf lt,Option.map_some,Option.some.injEq]at c;exact⟨_,qb a,c.symm⟩
theorem xB{is a:LI}{w t:Int}(h:ξ.map (hue D)=is.map (hue D))(f:a.map (hue D)=is.map (hue D))(g:∀l∈ξ++a,(D l).2=.cho is w ξ a t):Fit D b0 (.cho is w ξ a t):=λl hl=>by
 refine⟨λ_=>g l hl,λz hz=>?_⟩
 have:∃b,is[(if l∈ξ then ξ else a).idxOf l]?=some b/\hue D b=hue D l:=by
  split
  .exact iZ h (by assumption)
  .exact iZ f ((qg.mp hl).resolve_left (by assumption))
 obtain⟨b,hb,e⟩:=this;exact⟨[b],by rw[PtG.bks,hb];rfl,λc d=>by rw[qS.mp d,e,hz]⟩
theorem xA{d a:LI}{t:Int}(k:a.map (hue D)=ξ.map (hue D))(h:a.map (hue D)=d.map (hue D))(g:∀l∈a,(D l).2=.mrg t ξ d a):Fit D b0 (.mrg t ξ d a):=λl hl=>by
 refine⟨λ_=>g l hl,λz hz=>?_⟩;obtain⟨b,hb,i⟩:=iZ k hl;obtain⟨c,f,j⟩:=iZ h hl;refine⟨[b,c],by rw[PtG.bks,hb,f];rfl,λx e=>?_⟩;simp at e;rcases e with rfl|rfl
 .rw[i,hz]
 .rw[j,hz]
theorem xx{a:Int}{is:LI}{o:Int}{x y:Sd}(e:hue D o=hue D a)(g:(D o).2=.wrk (a::is) o sg x y):Fit D b0 (.wrk (a::is) o sg x y):=λl hl=>by
 cases qS.mp hl;exact⟨λ_=>g,λz hz=>⟨[a],U,λb hb=>by rw[qS.mp hb,<- e,hz]⟩⟩
theorem pY{is os:LI}{r:Nat}(g:∀l∈os,(b0:Int)<=l->(D l).2=.pas is os [0,(r:Int)])(e:∀l∈os,∀z,hue D l=some z->∃b,is[min (os.idxOf l) r]?=some b/\hue D b=some z):Fit D b0 (.pas is os [0,(r:Int)]):=λl hl=>by
 refine⟨g l hl,λz hz=>?_⟩;obtain⟨b,hb,a⟩:=e l hl z hz;exact⟨[b],by show Option.map _ _=_;rw[hb];rfl,λc d=>by rw[qS.mp d,a]⟩
noncomputable def PtG.ins:PtG->LI
 |.pas is _ _|.wrk is _ _ _ _|.cho is _ _ _ _=>is
 |.mrg _ ξ _ _=>ξ
theorem FR{l:Int}{bs:LI}(h:p.bks l=some bs):∃b∈bs,b∈p.ins:=by
 cases p with
 |pas is os rt=>
  unfold PtG.bks at h;split at h
  .cases ‹PtG.pas is os rt=_›;obtain⟨b,hb,rfl⟩:=qP.mp h;exact⟨b,qS.mpr U,qy hb⟩
  all_goals first|cases h|cases ‹PtG.pas is os rt=_›
 |wrk is o _ x y=>
  obtain⟨b,hb,rfl⟩:=qP.mp h;exact⟨b,qS.mpr U,qy hb⟩
 |cho is w a d t=>
  obtain⟨b,hb,rfl⟩:=qP.mp h;exact⟨b,qS.mpr U,qy hb⟩
 |mrg t a d _=>
  obtain⟨b,hb,h⟩:=Option.bind_eq_some_iff.mp h;obtain⟨c,_,rfl⟩:=qP.mp h;exact⟨b,qk,qy hb⟩
theorem ji{ps:LR}{l:Int}{f:aN}(hp:p∈ps)(d:Fit D b0 p)(hl:l∈p.ots)(hz:hue D l=some z)(hi:∀b∈p.ins,hue D b=some z->b=f z):Rch ps l (f z):=by
 obtain⟨bs,hb,all⟩:=(d l hl).2 z hz;obtain⟨b,a,c⟩:=FR hb;exact .step .refl hp hl hb (hi b c (all b a)▸a)
theorem yn{ps:LR}{t:Int}{a d:LI}{l:Int}{f:aN}(e:p=.mrg t ξ a d)(hp:p∈ps)(j:Fit D b0 p)(hl:l∈p.ots)(hz:hue D l=some z)(hi:∀b∈a,hue D b=some z->b=f z):Rch ps l (f z):=by
 subst e;obtain⟨bs,hb,all⟩:=(j l hl).2 z hz;obtain⟨b,_,h⟩:=Option.bind_eq_some_iff.mp hb;obtain⟨c,i,rfl⟩:=qP.mp h;have g:c∈[b,c]:=qj _ qk;exact .step .refl hp hl hb (hi c (qy i) (all c g)▸g)
theorem ie(h:Clr D Z N)(s:∀z∈zs,z∈N.cs){b:Int}(hb:b∈zs.map N.fc)(e:hue D b=some z):b=N.fc z:=by
 obtain⟨y,a,rfl⟩:=List.mem_map.mp hb;rw[h y (s y a)]at e;rw[(hV e).1]
end
end Tr
variable {D:Tr.Hue}
namespace Tr
open PySem PySem.Spec PyProof.Rows L2
noncomputable def Sd.lst:Sd->Str
 |.at i=>(PyData.list [.str "in",.int i]).shown
 |.is n=>(PyData.list [.str "is",.int n]).shown
noncomputable def PtG.in0:PtG->Int
 |.pas is _ _=>is.headD 0
 |_=>0
noncomputable def Sd.txt(D:Hue)(is:LI):Sd->Str
 |.at i=>(hue D (if i=0 then is.headD 0 else(D (is.getD i.toNat 0)).2.in0)).getD ""
 |.is n=>toString n
noncomputable def bq(D:Hue):PtG->Option Str
 |.wrk is _ sg l r=>some (match hue D (is.headD 0)with
  |some x=>Str.join " " [x,"=",l.txt D is,sg,r.txt D is]
  |none=>Str.join " " [l.lst,sg,r.lst])
 |.cho is w _ _ _=>some (Str.join " " (is.map λl=>(hue D l).getD "")++(" by ":Str)++(is.map λl=>(hue D l).getD "").getD w.toNat "")
 |_=>none
theorem cj.uniq{a b:LS}(h:cj ds a)(k:cj ds b):a=b:=mE h.nd k.nd h.so k.so λx=>(h.mem x).trans (k.mem x).symm
open Classical in
noncomputable def crd(ds:LA):LS:=if h:∃zs,cj ds zs then h.choose else[]
theorem cj.is(h:cj ds zs):crd ds=zs:=by
 have k:∃zs,cj ds zs:=⟨zs,h⟩;unfold crd;rw[dif_pos k];exact k.choose_spec.uniq h
noncomputable def Val.tx:Val->Str
 |.num n=>toString n
 |.nm x=>x
noncomputable def bu(Z:LS):aa->LS
 |.set x F sg B=>[if x∈Z then Str.join " " [x,"=",F.tx,sg,B.tx]else Str.join " " [(bN [x] F).lst,sg,(bN [x] B).lst]]
 |.cond x t o=>[Str.join " " (crd [.cond x t o])++(" by ":Str)++x]
 |.whl x b=>[Str.join " " (crd [.whl x b])++(" by ":Str)++x]
 |.rep k b=>if du b=true then[]else[Str.join " " (crd [.rep k b]++[("":Str)])++(" by ":Str),(Sd.is k).lst++(" + ":Str)++(Sd.is 0).lst,(Sd.at 0).lst++(" - ":Str)++(Sd.is 1).lst]
 |_=>[]
noncomputable def dn(Z:LS)(ds:LA):LS:=(ai ds).flatMap (bu Z)
theorem xG(Z:LS)(a b:LA):dn Z (a++b)=dn Z a++dn Z b:=by unfold dn;rw[dk,qU]
theorem fV(Z:LS)(d:aa):dn Z [d]=bu Z d++d.inner.flatMap (dn Z):=by
 unfold dn;rw[ai,ai,qw,dE,qE,List.flatMap_assoc]
def SdW(D:Hue)(ps:LR)(is:LI):Sd->Prop
 |.is _=>True
 |.at i=>i=0\/∃c a w y,(0<i/\3<=c)/\is[i.toNat]?=some c/\(D c).2=.pas [a] w [0,0]/\c∈w/\.pas [a] w [0,0]∈ps/\hue D a=some y
def SdB:Sd->Prop
 |.at i=>i.natAbs<2 ^ 1000
 |.is n=>n.natAbs<2 ^ 1000
def SmV:Val->Prop
 |.num n=>n.natAbs<2 ^ 1000
 |_=>True
def SmD:aa->Prop
 |.set _ F sg B=>SmV F/\SmV B/\sg.length<=1000
 |.rep k _=>k.natAbs<2 ^ 1000
 |_=>True
def Wk(D:Hue)(ps:LR):PtG->Prop
 |.wrk is _ sg l r=>is≠[]/\(∀x,hue D (is.headD 0)=some x->SdW D ps is l/\SdW D ps is r)/\SdB l/\SdB r/\sg.length<=1000
 |.cho is w ξ B _=>(∃k:Nat,w=k/\k<is.length)/\is.length<=64/\(ξ++B).length<=64/\ξ≠[]/\B≠[]
 |.pas _ os _=>os.length<=64
 |.mrg _ _ _ F=>F.length<=64
theorem Wk.len{ps:LR}(h:Wk D ps p):p.ots.length<=64:=by
 cases p with
 |wrk is o _ l r=>show 1<=64;decide
 |cho is w _ _ t=>exact h.2.2.1
 |_=>exact h
theorem SdW.mono{ps b:LR}{is:LI}{d:Sd}(h:SdW D ps is d)(k:∀p∈ps,p∈b):SdW D b is d:=by
 cases d
 .rcases h with h|⟨c,a,w,y,h0,f,e,i,j,g⟩
  .exact .inl h
  .exact .inr ⟨c,a,w,y,h0,f,e,i,k _ j,g⟩
 .trivial
theorem Wk.mono{D:Hue}{ps b:LR}{p:PtG}(h:Wk D ps p)(k:∀p∈ps,p∈b):Wk D b p:=by
 cases p with
 |wrk is o _ l r=>exact⟨h.1,λx a=>⟨(h.2.1 x a).1.mono k,(h.2.1 x a).2.mono k⟩,h.2.2⟩
 |_=>exact h
structure Sg(D:Hue)(Z:LS)(b0:Nat)(N:ap)(cd due:LS)(N':ap):Prop where
 c:Clr D Z N'
 p:∃new,N'.ps=N.ps++new/\(∀p∈new,Fit D b0 p/\Wk D N'.ps p)/\(new.filterMap (bq D)).Perm due
 r:∀z∈Z,Rch N'.ps (N'.fc z) (N.fc z)
 w:∀(l:Int)(z:Str),(N.n:Int)<=l->l<(N'.n:Int)->hue D l=some z->z∈Z/\z∈cd/\(∃p∈N'.ps,l∈p.ots)/\Rch N'.ps (N'.fc z) l
section
variable {b0 n:Nat}{M:ap}{cd cd' due due':LS}
theorem Sg.in(h:Sg D Z b0 N cd due N'):∀p∈N.ps,p∈N'.ps:=λp hp=>by
 obtain⟨new,e,_⟩:=h.p;rw[e];exact qV _ hp
theorem Sg.is(h:Sg D Z b0 N cd due N')(e:∀z∈cd,z∈Z->z∈cd')(k:due.Perm due'):Sg D Z b0 N cd' due' N':=⟨h.c,by
 obtain⟨new,e,f,q⟩:=h.p
 exact⟨new,e,f,q.trans k⟩,h.r,λl z i d g=>by
 obtain⟨a,b,c⟩:=h.w l z i d g
 exact⟨a,e z b a,c⟩⟩
theorem Sg.trans(h:Sg D Z b0 N cd due M)(k:Sg D Z b0 M cd' due' N'):Sg D Z b0 N (cd++cd') (due++due') N':=⟨k.c,by
 obtain⟨n1,s,e,o⟩:=h.p;obtain⟨n2,m,g,q⟩:=k.p;refine⟨n1++n2,by rw[m,s,qM],λp hp=>?_,?_⟩
 .rcases qg.mp hp with h|h
  .exact⟨(e p h).1,(e p h).2.mono k.in⟩
  .exact g p h
 .rw[List.filterMap_append]
  exact o.append q,λz hz=>(k.r z hz).trans ((h.r z hz).mono k.in),λl z j i f=>by
 by_cases lt:l<(M.n:Int)
 .obtain⟨a,b,⟨p,hp,hl⟩,d⟩:=h.w l z j lt f;exact⟨a,qV _ b,⟨p,k.in p hp,hl⟩,(k.r z a).trans (d.mono k.in)⟩
 .obtain⟨a,b,c⟩:=k.w l z Yo i f
  exact⟨a,qH _ b,c⟩⟩
theorem Sg.refl(h:Clr D Z N):Sg D Z b0 N [] [] N:=⟨h,⟨[],by simp,by simp,.refl _⟩,λ_ _=>.refl,λl z _ _=>Yo⟩
theorem iG{A:ap}(a:M=(A.part p).lead zs ws)(ep:A.ps=N.ps)(m:A.fc=N.fc)(u:A.cs=N.cs)(cl:Clr D Z N)(nd:zs.Nodup)(e:ws.map (hue D)=zs.map (kap Z))(i:∀w∈ws,w∈p.ots)(o:Fit D b0 p)(y:Wk D M.ps p)
 (hi:∀b∈p.ins,∀z,hue D b=some z->b=N.fc z) (r:∀l:Int,(N.n:Int)<=l->l<(M.n:Int)->hue D l=none\/l∈ws):Sg D Z b0 N zs ([p].filterMap (bq D)) M:=by
 have pm:M.ps=N.ps++[p]:=by rw[a,<- ep];rfl
 have h:p∈M.ps:=by rw[pm];exact qH _ qk
 have c:Clr D Z (A.part p):=λz hz=>by
  show hue D (A.fc z)=_;rw[m];exact cl z (u▸hz)
 have el:zs.length=ws.length:=by have:=congrArg List.length e;simpa using this.symm
 refine⟨a▸c.lead nd e,⟨[p],pm,λq s=>qS.mp s▸⟨o,y⟩,.refl _⟩,λz hz=>?_,λl z g f d=>?_⟩
 .by_cases k:z∈zs
  .have g:M.fc z∈ws:=by rw[a];exact pF zs ws _ z el k
   have f:hue D (M.fc z)=some z:=by
    rw[a,c.lead nd e z (dr.mpr (.inr k)),eI hz]
   exact ji h o (i _ g) f λb hb j=>hi b hb z j
  .have:M.fc z=N.fc z:=by rw[a,<- m];exact dC zs ws A.fc z k
   rw[this];exact .refl
 .rcases r l g f with k|k
  .rw[k]at d;cases d
  .obtain⟨x,t,v⟩:=eG (N:=A.part p) nd e k d;exists v,t,⟨p,h,i l k⟩;rw[a,<- x];exact .refl
theorem rm:∀z∈N.cs,z∈(N.lead zs ws).cs:=λz h=>dr.mpr (.inl h)
noncomputable def ja(N:ap)(x:Str):PtG:=.pas [N.fc x] (wid N.n 2) [0,0]
noncomputable def fE(Z:LS):ap->LS->List (Option Str×PtG)
 |_,[]=>[]
 |N,x::rs=>[(none,ja N x)]++(huT Z (ja N x) [x]++fE Z (N.fork x) rs)
theorem sH{l:Int}{n:Nat}(h:l∈wid n 2):l=(n:Int)\/l=((n+1:Nat):Int):=by
 have:=yW h;lia
theorem AD(f:x∈N.cs)(cl:Clr D Z N)(a:D N.n=(none,ja N x))(d:D ((N.n+1:Nat):Int)=(kap Z x,ja N x)):Sg D Z b0 N [x] [] (N.fork x):=by
 have c2:hue D ((N.n+1:Nat):Int)=kap Z x:=congrArg Prod.fst d;have c1:hue D (N.n:Int)=none:=congrArg Prod.fst a;refine iG (p:=ja N x) (zs:=[x]) (ws:=[((N.n+1:Nat):Int)]) (A:=N.wires 2) U U U U cl (by simp) (congrArg (λc=>[c]) c2) (λw hw=>?_) (pY (r:=0) (λl hl _=>?_) λl hl z hz=>⟨N.fc x,?_,?_⟩) (by show(wid _ _).length<=64;rw[bE];decide) (λb hb z hz=>?_) (λl _ _=>?_)
 .rw[qS.mp hw];exact qj _ qk
 .rcases sH hl with rfl|rfl
  .rw[a];rfl
  .rw[d];rfl
 .rw[Nat.min_zero];rfl
 .rcases sH hl with rfl|rfl
  .rw[c1]at hz;cases hz
  .rw[cl x f,<- c2,hz]
 .rw[qS.mp hb]at hz ⊢;rw[cl x f]at hz;rw[(hV hz).1]
 .have:(N.fork x).n=N.n+2:=b8 N 2;by_cases e:l=N.n
  .exact .inl (e▸c1)
  .exact .inr (qS.mpr Yo)
theorem mL:∀(rs:LS){N:ap},(∀r∈rs,r∈N.cs)->Clr D Z N->Ag D N.n (fE Z N rs)->Sg D Z b0 N rs [] (rs.foldl ap.fork N)/\(∀z∈N.cs,z∈(rs.foldl ap.fork N).cs)/\∀(j:Nat)(y:Str),rs[j]?=some y->hue D ((N.n+2 * j:Nat):Int)=none/\∃a w,(D ((N.n+2 * j:Nat):Int)).2=.pas [a] w [0,0]/\hue D a=kap Z y/\((N.n+2 * j:Nat):Int)∈w/\.pas [a] w [0,0]∈(rs.foldl ap.fork N).ps
 |[],N,_,cl,_=>⟨.refl cl,λ_ h=>h,λj y h=>by simp at h⟩
 |x::rs,N,hs,cl,ag=>by
  obtain⟨b,d⟩:=ag.app;obtain⟨d,m⟩:=d.app;have b:=b.one;have d:=d.one;have k:=hs x qk;have i:=AD (b0:=b0) k cl b d;have f:(N.fork x).n=N.n+2:=b8 N 2;obtain⟨g,o,p⟩:=mL rs (N:=N.fork x) (λr l=>rm r (hs r (qj _ l))) i.c (by rwa[f]);refine⟨i.trans g,λz hz=>o z (rm z hz),λj y e=>?_⟩
  cases j with
  |zero=>
   cases(by simpa using e:x=y);exact⟨by show(D (N.n:Int)).1=_;rw[b],N.fc x,wid N.n 2,by show(D (N.n:Int)).2=_;rw[b];rfl,cl x k,qk,g.in _ (qH _ qk)⟩
  |succ j=>
   have:=p j y (by simpa using e);rw[f,show N.n+2+2 * j=N.n+2 * (j+1)by lia]at this;exact this
theorem j9:∀(rs:LS)(N:ap),(fE Z N rs).length=2 * rs.length
 |[],_=>rfl
 |x::rs,N=>by
  rw[fE,qa,qa,j9 rs (N.fork x)];simp[huT];lia
end
section
variable {b0 n:Nat}{M:ap}{cd cd' due due':LS}
theorem eN{n k:Nat}{l:Int}(h:(n:Int)<=l)(h':l<((n+k:Nat):Int)):l∈wid n k:=List.mem_map.mpr ⟨(l-n).toNat,List.mem_range.mpr Yo,Yo⟩
theorem pZ:∀(rs:LS){N:ap}{x:Str},x∉rs->(rs.foldl ap.fork N).fc x=N.fc x
 |[],N,x,_=>rfl
 |r::rs,N,x,h=>by
  rw[Qz,pZ rs λk=>h (qj _ k)];exact dC [r] [((N.n+1:Nat):Int)] N.fc x (λk=>h (by rw[qS.mp k];exact qk))
theorem kF:∀(rs:LS){N:ap},(rs.foldl ap.fork N).n=N.n+2 * rs.length
 |[],N=>rfl
 |r::rs,N=>by
  have:(N.fork r).n=N.n+2:=b8 N 2;rw[Qz,kF rs,this,qz];lia
noncomputable def iI(N:ap)(x:Str)(F:Val)(sg:Str)(B:Val)(rs:LS):PtG:=.wrk (N.fc x::bH N.n rs.length) (rs.foldl ap.fork N).n sg (bN (x::rs) F) (bN (x::rs) B)
theorem Az{f d:Val}(g:gg x f d rs)(J:∀k∈(aa.set x f sg d).names,k∈N.cs)(n3:3<=N.n)(E:SmD (.set x f sg d))(M:(∀k∈(aa.set x f sg d).names,k∈Z)\/x∉Z/\rs=[])(cl:Clr D Z N)(ag:Ag D N.n (fE Z N rs++huT Z (iI N x f sg d rs) [x])):
 Sg D Z b0 N (rs++[x]) (bu Z (.set x f sg d)) (N.set x f sg d rs)/\∀z∈N.cs,z∈(N.set x f sg d rs).cs:=by
 obtain⟨a1,m⟩:=ag.app;have V:x∉rs:=λk=>((g.mem x).mp k).2 U;have hx:x∈N.cs:=J x qk;have X:∀r∈rs,r∈(aa.set x f sg d).names:=λr k=>qj _ (qg.mpr ((g.mem r).mp k).1);obtain⟨u,t,H⟩:=mL (b0:=b0) rs (λr k=>J r (X r k)) cl a1;rw[j9,<- kF rs]at m;have m:=m.one;have R:=pZ rs (N:=N) V;have q:=cl x hx
 have r2:rs.length<=2:=by
  have u:=bX g.nd (ds:=f.names++d.names) λy i=>qg.mpr ((g.mem y).mp i).1;have t:∀v:Val,v.names.length<=1:=λv=>by cases v<;>simp[Val.names]
  have:=t f;have:=t d;rw[qa]at u;lia
 have I:∀v:Val,(∀y∈v.names,y∈f.names\/y∈d.names)->SmV v->SdB (bN (x::rs) v):=λv s h=>by
  cases v with
  |num n=>exact h
  |nm y=>
   have o:y∈x::rs:=by
    by_cases e:y=x
    .exact e▸qk
    .exact qj _ ((g.mem y).mpr ⟨s y qk,e⟩)
   have:=List.idxOf_lt_length_iff.mpr o;rw[qz]at this;show Int.natAbs (((x::rs).idxOf y:Nat):Int)<2 ^ 1000;rw[Int.natAbs_natCast];exact qC (show _<4 by lia) (by decide +kernel)
 have fk:∀b∈bH N.n rs.length,hue D b=none:=λb hb=>by
  obtain⟨j,T,rfl⟩:=List.mem_map.mp hb;exact(H j _ (qb (List.mem_range.mp T))).1
 have tx:∀v:Val,(∀y∈v.names,y∈f.names\/y∈d.names)->(∀k∈(aa.set x f sg d).names,k∈Z)->(bN (x::rs) v).txt D (N.fc x::bH N.n rs.length)=v.tx:=λv s hz=>by
  cases v with
  |num n=>rfl
  |nm y=>
   have i:=s y qk;have L:kap Z y=some y:=eI (hz y (qj _ (qg.mpr i)));by_cases e:y=x
   .subst e;simp only[bN,Sd.txt,List.idxOf_cons_self,Val.tx];show(hue D (N.fc y)).getD ""=y;rw[q,L]
    rfl
   .have o:=(g.mem y).mpr ⟨i,e⟩;have lt:=List.idxOf_lt_length_iff.mpr o;obtain⟨_,a,w,F,G,_⟩:=H (rs.idxOf y) y (by rw[qb lt,List.getElem_idxOf lt]);have B:(x::rs).idxOf y=rs.idxOf y+1:=by rw[List.idxOf_cons,beq_false_of_ne (Ne.symm e)];rfl
    have eg:(N.fc x::bH N.n rs.length).getD (rs.idxOf y+1) 0=((N.n+2 * rs.idxOf y:Nat):Int):=by
     simp[bH,qi,lt]
    simp only[bN,Sd.txt,B,Val.tx];rw[qZ Yo,qX,eg,F];show(hue D a).getD ""=y;rw[G,L]
    rfl
 refine⟨(u.trans (iG (p:=iI N x f sg d rs) (zs:=[x]) (ws:=[((rs.foldl ap.fork N).n:Int)]) (A:=(rs.foldl ap.fork N).wires 1) U U U U u.c (by simp) (congrArg (λc:Option Str×PtG=>[c.1]) m) (λw hw=>hw) (xx ?_ ?_) ⟨by simp,λC Q=>?_,I f (λy h=>.inl h) E.1,I d (λy h=>.inr h) E.2.1,E.2.2⟩ (λb hb z hz=>?_) λl _ K0=>?_)).is (λz hz _=>hz) ?_,λz hz=>rm z (t z hz)⟩
 .show(D _).1=_;rw[m,q]
 .rw[m];rfl
 .have hz:∀k∈(aa.set x f sg d).names,k∈Z:=by
   rcases M with h|h
   .exact h
   .have:hue D (N.fc x)=some C:=Q;rw[q]at this;have:=hV this;exact Q5 (this.1▸this.2) h.1
  have P:∀v:Val,(∀y∈v.names,y∈f.names\/y∈d.names)->SdW D (N.set x f sg d rs).ps (N.fc x::bH N.n rs.length) (bN (x::rs) v):=λv s=>by
   cases v with
   |num n=>trivial
   |nm y=>
    have i:=s y qk;by_cases e:y=x
    .subst e;exact .inl (by simp)
    .have o:=(g.mem y).mpr ⟨i,e⟩;have lt:=List.idxOf_lt_length_iff.mpr o;obtain⟨_,a,w,F,G,Y,W⟩:=H (rs.idxOf y) y (by rw[qb lt,List.getElem_idxOf lt]);have B:(x::rs).idxOf y=rs.idxOf y+1:=by rw[List.idxOf_cons,beq_false_of_ne (Ne.symm e)];rfl
     refine .inr ⟨((N.n+2 * rs.idxOf y:Nat):Int),a,w,y,?_,?_,F,Y,qV _ W,G.trans (eI (hz y (qj _ (qg.mpr i))))⟩
     .rw[B];exact⟨Yo,Yo⟩
     .rw[B,qX,List.getElem?_cons_succ];simp[bH,lt]
  exact⟨P f λy h=>.inl h,P d λy h=>.inr h⟩
 .rcases qt.mp hb with rfl|h
  .rw[q]at hz;rw[<- R,(hV hz).1]
  .rw[fk b h]at hz;cases hz
 .have:(N.set x f sg d rs).n=(rs.foldl ap.fork N).n+1:=b8 _ 1;have K0:l<((N.set x f sg d rs).n:Int):=K0;exact .inr (qS.mpr Yo)
 .have S:([iI N x f sg d rs].filterMap (bq D))=bu Z (.set x f sg d):=by
   have:bq D (iI N x f sg d rs)=some (match hue D (N.fc x)with
    |some C=>Str.join " " [C,"=",(bN (x::rs) f).txt D (N.fc x::bH N.n rs.length),sg,(bN (x::rs) d).txt D (N.fc x::bH N.n rs.length)]
    |none=>Str.join " " [(bN (x::rs) f).lst,sg,(bN (x::rs) d).lst]):=U
   rw[List.filterMap_cons_some this,q];rcases M with z|⟨z,rfl⟩
   .have K:=z x qk;rw[eI K,bu,Q0 K,tx f (λy h=>.inl h) z,tx d (λy h=>.inr h) z]
    rfl
   .rw[bu,qZ z,show kap Z x=none from qZ z]
    rfl
  rw[S];exact .refl _
noncomputable def lh(N:ap)(c x:Str)(e:Int):PtG:=.pas [N.fc c,(N.n:Int)] [((N.fork x).n:Int),e] [0,1]
theorem AB{c:Str}{e:Int}(f:c∈N.cs)(o:x∈N.cs)(ne:c≠x)(t:hue D e=none)(u:e<(b0:Int))(cl:Clr D Z N)(i:Ag D N.n (fE Z N [x]++huT Z (lh N c x e) [c])):Sg D Z b0 N [x,c] [] (N.hand c x e):=by
 obtain⟨j,a⟩:=i.app;obtain⟨d,_,s⟩:=mL (b0:=b0) [x] (λr k=>qS.mp k▸o) cl j;rw[j9,<- kF [x]]at a;have a:D ((N.fork x).n:Int)=(kap Z c,lh N c x e):=a.one;have m:(N.fork x).fc c=N.fc c:=pZ [x] (N:=N) (by simpa using ne);have q:hue D (N.n:Int)=none:=(s 0 x U).1;refine d.trans (iG (p:=lh N c x e) (zs:=[c]) (ws:=[((N.fork x).n:Int)]) (A:=(N.fork x).wires 1) U U U U d.c (by simp) (congrArg (λc:Option Str×PtG=>[c.1]) a) (λw hw=>qS.mp hw▸qk) (pY (r:=1) (λl hl h=>?_) λl hl z hz=>⟨N.fc c,?_⟩) (by show 2<=64;decide) (λb hb z hz=>?_) λl g _=>?_)
 .rcases qt.mp hl with rfl|h'
  .rw[a];rfl
  .have:=qS.mp h';lia
 .rcases qt.mp hl with rfl|h'
  .refine⟨by simp,?_⟩;rw[cl c f,<- hz];exact(congrArg Prod.fst a).symm
  .rw[qS.mp h',t]at hz;cases hz
 .rcases qt.mp hb with rfl|h'
  .rw[cl c f]at hz;show _=(N.fork x).fc z;rw[<- (hV hz).1,m]
  .rw[qS.mp h',q]at hz;cases hz
 .have:(N.hand c x e).n=(N.fork x).n+1:=b8 _ 1;have g:((N.fork x).n:Int)<=l:=g;exact .inr (qS.mpr Yo)
def pW(N:ap)(c x:Str)(e:Int):PtG:=.pas [N.fc c,N.fc x,e] (wid N.n 2) [0,2]
theorem AC{c:Str}{e:Int}(o:c∈N.cs)(q:x∈N.cs)(ne:c≠x)(m:hue D e=none)(cl:Clr D Z N)(f:Ag D N.n (huT Z (pW N c x e) [c,x])):Sg D Z b0 N [c,x] [] (N.get c x e):=by
 obtain⟨a,g⟩:=f.hu;have d:∀z∈[c,x],z∈N.cs:=λz hz=>by simp at hz;rcases hz with rfl|rfl<;>assumption
 refine iG (p:=pW N c x e) (zs:=[c,x]) (ws:=wid N.n 2) (A:=N.wires 2) U U U U cl (by simpa using ne) a (λw hw=>hw) (pY (r:=2) (λl hl _=>g l hl) λl hl z hz=>?_) (by show(wid _ _).length<=64;rw[bE];decide) (λb hb z hz=>?_) λl j _=>?_
 .obtain⟨b,hb,i⟩:=iZ (bs:=[c,x].map N.fc) (a.trans (cl.map d).symm) hl;have hb:([c,x].map N.fc)[(wid N.n 2).idxOf l]?=some b:=hb;have lt:=List.idxOf_lt_length_iff.mpr hl;rw[bE]at lt;refine⟨b,?_,i.trans hz⟩;rw[Nat.min_eq_left Yo,<- hb];rcases(by lia:(wid N.n 2).idxOf l=0\/(wid N.n 2).idxOf l=1)with k|k<;>rw[k]<;>rfl
 .have hb:b∈[c,x].map N.fc++[e]:=hb;rcases qg.mp hb with h|h
  .exact ie cl d h hz
  .rw[qS.mp h,m]at hz;cases hz
 .have:(N.get c x e).n=N.n+2:=b8 _ 2;exact .inr (eN j Yo)
end
def eC(Z zs:LS)(x:Str):Str:=Str.join " " (zs.map λz=>(kap Z z).getD "")++(" by ":Str)++(zs.map λz=>(kap Z z).getD "").getD (zs.idxOf x) ""
section
variable {b0 n:Nat}{M:ap}{cd cd' due due':LS}
theorem uP{is a:LI}{t:Int}(e:is.map (hue D)=zs.map (kap Z)):bq D (.cho is (zs.idxOf x:Nat) ξ a t)=some (eC Z zs x):=by
 have:is.map (λl=>(hue D l).getD "")=zs.map λz=>(kap Z z).getD "":=by
  have:=congrArg (List.map λc:Option Str=>c.getD "") e
  rwa [List.map_map,List.map_map]at this
 rw[bq,this,qX]
 rfl
theorem uO(h:∀z∈zs,z∈Z)(a:x∈zs):eC Z zs x=Str.join " " zs++(" by ":Str)++x:=by
 have:zs.map (λz=>(kap Z z).getD "")=zs:=(List.map_congr_left λz hz=>by rw[eI (h z hz)];rfl).trans (List.map_id zs);have lt:=List.idxOf_lt_length_iff.mpr a;unfold eC;rw[this,qi,qb lt,List.getElem_idxOf lt]
 rfl
theorem led(cl:Clr D Z N)(nd:zs.Nodup)(e:ws.map (hue D)=zs.map (kap Z))(hz:z∈zs)(a:z∈Z):(N.lead zs ws).fc z∈ws/\hue D ((N.lead zs ws).fc z)=some z:=⟨pF zs ws N.fc z (by have:=congrArg List.length e;simpa using this.symm) hz,(cl.lead nd e z (dr.mpr (.inr hz))).trans (eI a)⟩
theorem uz{A S a:ap}{d e:PtG}(E:S=A.wires j)(v:d=.cho (wid (S.n+1) zs.length) (zs.idxOf x:Nat) (wid (S.n+1+zs.length) zs.length) beh (S.n:Int))(s:e=.mrg (S.n:Int) (zs.map a.fc) (zs.map S.fc) (wid (S.n+1) zs.length))
 (cl:Clr D Z A) (nd:zs.Nodup) (sz:∀z∈zs,z∈A.cs) (hb:beh.map (hue D)=zs.map (kap Z)) (gb:∀l∈beh,(D l).2=d) (hj:∀l:Int,(A.n:Int)<=l->l<((A.n+j:Nat):Int)->l∈beh) (ag:Ag D S.n ([(none,d)]++(huT Z e zs++huT Z d zs)))
 (m:∀z∈(S.loA zs x beh).cs,z∈a.cs) (le:(S.loA zs x beh).n<=a.n) (i:Clr D Z (S.loA zs x beh)->Sg D Z b0 (S.loA zs x beh) cd due a) (X:∀z∈cd,z∈zs) (Q:x∈zs) (a4:zs.length<=32):Sg D Z b0 A zs (eC Z zs x::due) (a.loZ zs S.n (zs.map S.fc) beh):=by
 obtain⟨a0,P⟩:=ag.app;obtain⟨P,W⟩:=P.app;have a0:hue D (S.n:Int)=none:=congrArg Prod.fst a0.one;have el:(huT Z e zs).length=zs.length:=q5 _;rw[el]at W;obtain⟨g,g1⟩:_/\∀l∈wid (S.n+1) zs.length,(D l).2=e:=P.hu;obtain⟨F,g2⟩:_/\∀l∈wid (S.n+1+zs.length) zs.length,(D l).2=d:=W.hu;have g:(wid (S.n+1) zs.length).map (hue D)=zs.map (kap Z):=g;have F:(wid (S.n+1+zs.length) zs.length).map (hue D)=zs.map (kap Z):=F;have nS:S.n=A.n+j:=by rw[E,b8]
 have nA:(S.loA zs x beh).n=S.n+1+zs.length+zs.length:=by
  show(((S.line eh).wires zs.length).wires zs.length).n=_;rw[b8,b8,dP]
 have M:d.ots=wid (S.n+1+zs.length) zs.length++beh:=by rw[v];rfl
 have L:e.ots=wid (S.n+1) zs.length:=by rw[s];rfl
 have C:Clr D Z S:=by rwa[E]
 have I:∀z∈zs,z∈S.cs:=by rwa[E]
 have V:S.fc=A.fc:=by rw[E];rfl
 have i:=i (Clr.lead (N:=(((S.line eh).wires zs.length).wires zs.length).part _) C nd F);have H:∀z∈zs,z∈a.cs:=λz hz=>m z (dr.mpr (.inr hz))
 have J:Fit D b0 d:=by
  rw[v];exact xB (F.trans g.symm) (hb.trans g.symm) λl hl=>v▸(qg.mp hl).elim (g2 l) (gb l)
 have G:Fit D b0 e:=by
  rw[s];exact xA (g.trans (i.c.map H).symm) (g.trans (C.map I).symm) λl hl=>s▸g1 l hl
 obtain⟨new,ep,ff,pm⟩:=i.p;have eA:(S.loA zs x beh).ps=A.ps++[d]:=by rw[v,E];rfl
 have K:(a.loZ zs S.n (zs.map S.fc) beh).ps=a.ps++[e]:=by rw[s];rfl
 have sub:∀p∈a.ps,p∈(a.loZ zs S.n (zs.map S.fc) beh).ps:=λp hp=>K▸qV _ hp;have T:d∈(a.loZ zs S.n (zs.map S.fc) beh).ps:=sub _ (i.in _ (eA▸qH _ qk));have p2:e∈(a.loZ zs S.n (zs.map S.fc) beh).ps:=K▸qH _ qk
 have ro:∀z∈zs,z∈Z->∀l∈wid (S.n+1) zs.length,hue D l=some z->Rch (a.loZ zs S.n (zs.map S.fc) beh).ps ((a.loZ zs S.n (zs.map S.fc) beh).fc z) l:=λz hz t l hl a3=>by
  obtain⟨B,u⟩:=led (N:=a.part e) i.c nd hb hz t;have:=eG (N:=S) nd g hl a3;rw[this.1];exact ji T J (M▸qH _ B) u λb f o=>(eG (N:=S) nd g (by rw[v]at f;exact f) o).1
 have K0:∀z∈zs,z∈Z->Rch (a.loZ zs S.n (zs.map S.fc) beh).ps ((a.loZ zs S.n (zs.map S.fc) beh).fc z) (a.fc z)/\Rch (a.loZ zs S.n (zs.map S.fc) beh).ps ((a.loZ zs S.n (zs.map S.fc) beh).fc z) (A.fc z):=λz hz t=>by
  obtain⟨B,u⟩:=led C nd g hz t;have:=ro z hz t _ B u;exact⟨this.trans (ji p2 G (L▸B) u λb f o=>ie i.c H (by rw[s]at f;exact f) o),this.trans (V▸yn s p2 G (L▸B) u λb f o=>ie C I f o)⟩
 refine⟨Clr.lead (N:=a.part _) i.c nd hb,⟨[d]++(new++[e]),by rw[K,ep,eA];simp,λp hp=>?_,?_⟩,λz t=>?_,λl z k1 R y=>?_⟩
 .simp only[qg,qS]at hp;rcases hp with rfl|hp|rfl
  .have bl:beh.length=zs.length:=by have:=congrArg List.length hb;simpa using this
   have Y:¬ zs.length=0:=λz=>by rw[List.length_eq_zero_iff.mp z]at Q;cases Q
   exact⟨J,by rw[v];exact⟨⟨_,U,by rw[bE];exact List.idxOf_lt_length_iff.mpr Q⟩,by rw[bE];lia,by rw[qa,bE];lia,λz=>by have:=congrArg List.length z;rw[bE]at this;exact Y this,λz=>Y (by rw[<- bl,z];rfl)⟩⟩
  .exact⟨(ff p hp).1,(ff p hp).2.mono sub⟩
  .exact⟨G,by rw[s];show(wid _ _).length<=64;rw[bE];lia⟩
 .have r1:bq D d=some (eC Z zs x):=by rw[v];exact uP g
  have r2:bq D e=none:=by rw[s];rfl
  rw[List.filterMap_append,List.filterMap_append,List.filterMap_cons_some r1,List.filterMap_cons_none r2];simpa using pm
 .by_cases hz:z∈zs
  .exact(K0 z hz t).2
  .have B:(a.loZ zs S.n (zs.map S.fc) beh).fc z=a.fc z:=dC zs beh a.fc z hz;have u:(S.loA zs x beh).fc z=A.fc z:=V▸dC zs _ S.fc z hz;rw[B,<- u];exact(i.r z t).mono sub
 .have R:l<(a.n:Int):=R;by_cases c1:l<(S.n:Int)
  .have hl:=hj l k1 Yo;obtain⟨h,k,q⟩:=eG (N:=a.part e) nd hb hl y;have h:l=(a.loZ zs S.n (zs.map S.fc) beh).fc z:=h;exact⟨q,k,⟨d,T,M▸qH _ hl⟩,h▸.refl⟩
  by_cases c2:l=(S.n:Int)
  .rw[c2,a0]at y;cases y
  by_cases c3:l<((S.n+1+zs.length:Nat):Int)
  .have hl:l∈wid (S.n+1) zs.length:=eN Yo c3;obtain⟨h,k,q⟩:=eG (N:=S) nd g hl y;exact⟨q,k,⟨e,p2,L▸hl⟩,ro z k q l hl y⟩
  by_cases c4:l<((S.n+1+zs.length+zs.length:Nat):Int)
  .have hl:l∈wid (S.n+1+zs.length) zs.length:=eN Yo c4;obtain⟨h,k,q⟩:=eG (N:=(((S.line eh).wires zs.length).wires zs.length).part d) nd F hl y;have h:l=(S.loA zs x beh).fc z:=h;exact⟨q,k,⟨d,T,M▸qV _ hl⟩,(K0 z k q).1.trans (h▸(i.r z q).mono sub)⟩
  .obtain⟨h,k,⟨p,hp,hl⟩,u4⟩:=i.w l z (by rw[nA];lia) R y;exact⟨h,X z k,⟨p,sub p hp,hl⟩,(K0 z (X z k) h).1.trans (u4.mono sub)⟩
theorem AA{d a:ap}{e i:PtG}{L K v A:LS}(t:e=.cho (zs.map N.fc) (zs.idxOf x:Nat) (wid N.n zs.length) (wid (N.n+zs.length) zs.length) ((N.n+zs.length+zs.length:Nat):Int))(s:i=.mrg ((N.n+zs.length+zs.length:Nat):Int) (zs.map d.fc) (zs.map a.fc) (wid a.n zs.length))
 (cl:Clr D Z N) (nd:zs.Nodup) (sz:∀z∈zs,z∈N.cs) (ag:Ag D N.n (huT Z e zs++(huT Z e zs++[(none,e)]))) (a7:Ag D a.n (huT Z i zs)) (m1:∀z∈(N.ifA zs x).cs,z∈d.cs) (m2:∀z∈(d.lead zs (wid (N.n+zs.length) zs.length)).cs,z∈a.cs)
 (s1:Clr D Z (N.ifA zs x)->Sg D Z b0 (N.ifA zs x) L v d) (m:Clr D Z (d.lead zs (wid (N.n+zs.length) zs.length))->Sg D Z b0 (d.lead zs (wid (N.n+zs.length) zs.length)) K A a) (J:∀z∈L,z∈zs) (K0:∀z∈K,z∈zs) (hx:x∈zs) (a':zs.length<=32):
 Sg D Z b0 N zs (eC Z zs x::(v++A)) (a.ifZ zs (N.n+zs.length+zs.length) (zs.map d.fc)):=by
 obtain⟨a1,F⟩:=ag.app;obtain⟨F,a3⟩:=F.app;have el:(huT Z e zs).length=zs.length:=q5 _;rw[el]at F a3;have a0:hue D ((N.n+zs.length+zs.length:Nat):Int)=none:=congrArg Prod.fst a3.one;obtain⟨G,g1⟩:=a1.hu;obtain⟨h2,g2⟩:=F.hu;obtain⟨y,g5⟩:=a7.hu
 have nA:(N.ifA zs x).n=N.n+zs.length+zs.length+1:=by
  show(((N.wires zs.length).wires zs.length).line dw).n=_;rw[dP,b8,b8]
 have X:e.ots=wid N.n zs.length++wid (N.n+zs.length) zs.length:=by rw[t];rfl
 have V:i.ots=wid a.n zs.length:=by rw[s];rfl
 have s1:=s1 (Clr.lead (N:=(((N.wires zs.length).wires zs.length).line dw).part _) cl nd G);have m:=m (s1.c.lead nd h2);have Q:∀z∈zs,z∈d.cs:=λz hz=>m1 z (dr.mpr (.inr hz));have I:∀z∈zs,z∈a.cs:=λz hz=>m2 z (dr.mpr (.inr hz));have h0:=cl.map sz
 have S:Fit D b0 e:=by
  rw[t];exact xB (G.trans h0.symm) (h2.trans h0.symm) λl hl=>t▸(qg.mp hl).elim (g1 l) (g2 l)
 have B:Fit D b0 i:=by
  rw[s];exact xA (y.trans (s1.c.map Q).symm) (y.trans (m.c.map I).symm) λl hl=>s▸g5 l hl
 obtain⟨n1,a8,P,a5⟩:=s1.p;obtain⟨n2,a6,R,a4⟩:=m.p;have eA:(N.ifA zs x).ps=N.ps++[e]:=by rw[t];rfl
 have T:(a.ifZ zs (N.n+zs.length+zs.length) (zs.map d.fc)).ps=a.ps++[i]:=by rw[s];rfl
 have nM:(a.ifZ zs (N.n+zs.length+zs.length) (zs.map d.fc)).n=a.n+zs.length:=b8 _ _;have cM:Clr D Z (a.ifZ zs (N.n+zs.length+zs.length) (zs.map d.fc)):=Clr.lead (N:=(a.wires _).part _) m.c nd y;have H:∀z∈zs,z∈Z->(a.ifZ zs (N.n+zs.length+zs.length) (zs.map d.fc)).fc z∈wid a.n zs.length/\hue D ((a.ifZ zs (N.n+zs.length+zs.length) (zs.map d.fc)).fc z)=some z:=λz=>led (N:=(a.wires _).part i) m.c nd y;have fM:∀l∈wid a.n zs.length,∀z,hue D l=some z->l=(a.ifZ zs (N.n+zs.length+zs.length) (zs.map d.fc)).fc z/\z∈zs/\z∈Z:=λl hl z=>eG (N:=(a.wires _).part i) nd y hl;have uM:∀z,z∉zs->(a.ifZ zs (N.n+zs.length+zs.length) (zs.map d.fc)).fc z=a.fc z:=λz=>dC zs _ a.fc z;generalize a.ifZ zs (N.n+zs.length+zs.length) (zs.map d.fc)=M at *;have a9:∀p∈d.ps,p∈a.ps:=m.in;have f:∀p∈a.ps,p∈M.ps:=λp hp=>T▸qV _ hp;have sub:∀p∈d.ps,p∈M.ps:=λp hp=>f p (a9 p hp);have p1:e∈M.ps:=sub _ (s1.in _ (eA▸qH _ qk));have p2:i∈M.ps:=T▸qH _ qk;have C:∀z∈zs,z∈Z->Rch M.ps (M.fc z) (d.fc z):=λz hz j=>ji p2 B (V▸(H z hz j).1) (H z hz j).2 λb k q=>ie s1.c Q (by rw[s]at k;exact k) q;have E:∀z∈zs,z∈Z->Rch M.ps (M.fc z) (a.fc z):=λz hz j=>yn s p2 B (V▸(H z hz j).1) (H z hz j).2 λb k q=>ie m.c I k q;refine⟨cM,⟨[e]++(n1++(n2++[i])),?_,λp hp=>?_,?_⟩,λz j=>?_,λl z k1 _ u=>?_⟩
 .have e3:(d.lead zs (wid (N.n+zs.length) zs.length)).ps=d.ps:=U;rw[T,a6,e3,a8,eA];simp
 .simp only[qg,qS]at hp;rcases hp with rfl|hp|hp|rfl
  .have n0:∀n,wid n zs.length≠[]:=λn z=>by
    have z:=congrArg List.length z;rw[bE]at z;rw[List.length_eq_zero_iff.mp z]at hx;cases hx
   exact⟨S,by rw[t];exact⟨⟨_,U,by rw[q5];exact List.idxOf_lt_length_iff.mpr hx⟩,by rw[q5];lia,by rw[qa,bE,bE];lia,n0 _,n0 _⟩⟩
  .exact⟨(P p hp).1,(P p hp).2.mono sub⟩
  .exact⟨(R p hp).1,(R p hp).2.mono f⟩
  .exact⟨B,by rw[s];show(wid _ _).length<=64;rw[bE];lia⟩
 .have C:bq D e=some (eC Z zs x):=by rw[t];exact uP h0
  have E:bq D i=none:=by rw[s];rfl
  rw[List.filterMap_append,List.filterMap_append,List.filterMap_append,List.filterMap_cons_some C,List.filterMap_cons_none E];simpa using a5.append a4
 .by_cases hz:z∈zs
  .obtain⟨h3,Y⟩:=led (N:=(((N.wires zs.length).wires zs.length).line dw).part e) cl nd G hz j;exact((C z hz j).trans ((s1.r z j).mono sub)).trans (ji p1 S (X▸qV _ h3) Y λb k q=>ie cl sz (by rw[t]at k;exact k) q)
  .have h3:(N.ifA zs x).fc z=N.fc z:=dC zs _ N.fc z hz;have Y:(d.lead zs (wid (N.n+zs.length) zs.length)).fc z=d.fc z:=dC zs _ d.fc z hz;rw[uM z hz,<- h3];exact((Y▸m.r z j).mono f).trans ((s1.r z j).mono sub)
 .by_cases c1:l<((N.n+zs.length:Nat):Int)
  .have hl:l∈wid N.n zs.length:=eN k1 c1;obtain⟨h,g,o⟩:=eG (N:=(((N.wires zs.length).wires zs.length).line dw).part e) nd G hl u;have h:l=(N.ifA zs x).fc z:=h;exact⟨o,g,⟨e,p1,X▸qV _ hl⟩,(C z g o).trans (h▸(s1.r z o).mono sub)⟩
  by_cases c2:l<((N.n+zs.length+zs.length:Nat):Int)
  .have hl:l∈wid (N.n+zs.length) zs.length:=eN Yo c2;obtain⟨h,g,o⟩:=eG (N:=d) nd h2 hl u;exact⟨o,g,⟨e,p1,X▸qH _ hl⟩,(E z g o).trans (h▸(m.r z o).mono f)⟩
  by_cases c3:l=((N.n+zs.length+zs.length:Nat):Int)
  .rw[c3,a0]at u;cases u
  by_cases c4:l<(d.n:Int)
  .obtain⟨h,g,⟨p,hp,hl⟩,W⟩:=s1.w l z (by rw[nA];lia) c4 u;exact⟨h,J z g,⟨p,sub p hp,hl⟩,(C z (J z g) h).trans (W.mono sub)⟩
  by_cases c5:l<(a.n:Int)
  .obtain⟨h,g,⟨p,hp,hl⟩,W⟩:=m.w l z (by rw[kE];lia) c5 u;exact⟨h,K0 z g,⟨p,f p hp,hl⟩,(E z (K0 z g) h).trans (W.mono f)⟩
  .have hl:l∈wid a.n zs.length:=eN Yo Yo;obtain⟨h,g,o⟩:=fM l hl z u;exact⟨o,g,⟨i,p2,V▸hl⟩,h▸.refl⟩
end
def OkD(Z E:LS)(d:aa):Prop:=(∀k∈d.cards,k∈Z)/\(∀q x,d=.put q x\/d=.get q x->q∈E)/\NcD d/\SmD d
def HD(Z E:LS)(ds:LA):Prop:=∀d∈ds,(∀e∈ai [d],OkD Z E e)\/∃n,d=ctD n
theorem HD.of{E:LS}(h:∀e∈ai ds,OkD Z E e):HD Z E ds:=λd hd=>.inl λe a=>h e ((lD hd).subset a)
theorem HD.in{E:LS}{r:LA}(h:HD Z E (d::r))(k:∀n,d≠ctD n):OkD Z E d/\(∀b∈d.inner,∀e∈ai b,OkD Z E e)/\HD Z E r:=by
 have a:=(h d qk).resolve_right λ⟨n,e⟩=>k n e;exact⟨a d (by rw[ai,ai,qw,dE];exact qk),λb hb e c=>a e ((jb hb).subset c),λd hd=>h d (qj _ hd)⟩
def Cg'(fe:aN)(Z E:LS)(N:ap)(ds:LA)(N':ap):Prop:=(∀z∈N.cs,z∈N'.cs)/\∃T,N.n+T.length=N'.n/\∀(D:Hue)(b0:Nat),3<=N.n->Ag D N.n T->(∀e∈E,hue D (fe e)=none/\fe e<(b0:Int))->Clr D Z N->Sg D Z b0 N (cards ds) (dn Z ds) N'
theorem Cg'.seq{E:LS}{M:ap}{r:LA}(h:Cg' fe Z E N [d] M)(k:Cg' fe Z E M r N'):Cg' fe Z E N (d::r) N':=by
 obtain⟨s1,j,n1,l⟩:=h;obtain⟨i,m,n2,n⟩:=k;refine⟨λz hz=>i z (s1 z hz),j++m,by rw[qa];lia,λD b0 n3 f e cl=>?_⟩;obtain⟨g,a⟩:=f.app;rw[n1]at a;have b:=l D b0 n3 g e cl;rw[rD,show d::r=[d]++r from rfl,xG];exact b.trans (n D b0 Yo a e b.c)
theorem Str.app_assoc(a b c:Str):a++b++c=a++(b++c):=congrArg Str.mk (Array.append_assoc ..)
theorem wF(a b:Str)(s t:Str)(h:(" ":Str)++s++(" ":Str)=t):Str.join " " [a,s,b]=a++t++b:=by
 show a++(" ":Str)++(s++(" ":Str)++b)=_;rw[<- h];simp only[Str.app_assoc]
theorem eQ(d:aa):∀k∈d.cards,k∈cards [d]:=λk hk=>by
 rw[cB];exact qV _ hk
theorem rC{b:LA}(h:b∈d.inner):∀k∈cards b,k∈cards [d]:=λk hk=>by
 rw[cB];exact qg.mpr (.inr (List.mem_flatMap.mpr ⟨b,h,hk⟩))
theorem rO{E:LS}{b:LA}(h:∀e∈ai b,OkD Z E e):∀k∈cards b,k∈Z:=λk hk=>by
 obtain⟨e,a,hk⟩:=List.mem_flatMap.mp hk;exact(h e a).1 k hk
theorem DX(h:Lay fe N ds N'){E:LS}(hn:∀n,ctN n∉Z)(hE:(">":Str)∈E):(∀k∈cards ds,k∈N.cs)->HD Z E ds->Cg' fe Z E N ds N':=by
 have V:∀{d:aa}{r:LA}{N M:ap},(∀k∈cards (d::r),k∈N.cs)->(∀z∈N.cs,z∈M.cs)->(∀k∈d.cards,k∈N.cs)/\(∀k∈cards [d],k∈N.cs)/\∀k∈cards r,k∈M.cs:=λ{d r N M} h s=>by
  rw[rD]at h;exact⟨λk hk=>h k (qV _ (eQ d k hk)),λk hk=>h k (qV _ hk),λk hk=>s k (h k (qH _ hk))⟩
 have f:∀{zs cs:LS}{z:Str},z∈cs->z∈zs.foldl b7 cs:=λ{zs cs z} h=>((cH zs cs).2.1 z).mpr (.inl h)
 have hand:∀{N:ap}{c x q:Str}{d:aa},c∈N.cs->x∈N.cs->c≠x->q∈E->d.cards=[x,c]->d.inner=[]->bu Z d=[]->Cg' fe Z E N [d] (N.hand c x (fe q)):=λ{N c x q d} Y h2 h3 h4 h5 h6 h7=>by
  refine⟨λz hz=>f (f hz),fE Z N [x]++huT Z (lh N c x (fe q)) [c],?_,λD b0 n3 K C cl=>(AB Y h2 h3 (C q h4).1 (C q h4).2 cl K).is (λz hz _=>eQ d z (h5▸hz)) (by rw[fV,h6,h7];exact .refl _)⟩;have e1:(N.hand c x (fe q)).n=(N.fork x).n+1:=b8 _ 1;have e2:(N.fork x).n=N.n+2:=b8 _ 2;rw[qa,j9,e1,e2]
  rfl
 have K0:∀(p:PtG)(zs:LS),(huT Z p zs).length=zs.length:=λp zs=>q5 _
 induction h with
 |nil=>exact λ_ _=>⟨λ_ h=>h,[],U,λD b0 _ _ _ cl=>.refl cl⟩
 |@set N N' x va sg vb I r hr hl L=>
  intro i hd
  have cf:∀(I:LS){N:ap}{z:Str},z∈N.cs->z∈(I.foldl ap.fork N).cs:=λI=>by
   induction I with
   |nil=>exact λh=>h
   |cons y I L=>exact λh=>L (N:=ap.fork _ y) (f h)
  have cs:∀z∈N.cs,z∈(N.set x va sg vb I).cs:=λz hz=>f (cf I hz);obtain⟨c1,c2,j⟩:=V i cs
  have zz:(((∀k∈(aa.set x va sg vb).names,k∈Z)\/x∉Z/\I=[])/\SmD (.set x va sg vb))/\HD Z E r:=by
   refine⟨?_,λd h=>hd d (qj _ h)⟩;rcases hd _ qk with h|⟨n,e⟩
   .have h:=h (.set x va sg vb) (by simp[ai,aa.flat]);exact⟨.inl λk hk=>h.1 k (qV _ hk),h.2.2.2⟩
   .cases e;refine⟨.inr ⟨hn n,List.eq_nil_iff_forall_not_mem.mpr λy P=>?_⟩,trivial,by show Int.natAbs 1<2 ^ 1000;decide +kernel,by decide⟩;have:=(hr.mem y).mp P;simp[Val.names]at this
  refine Cg'.seq ⟨cs,fE Z N I++huT Z (iI N x va sg vb I) [x],?_,λD b0 n3 K C cl=>(Az hr (λk hk=>c1 k (qV _ hk)) n3 zz.1.2 zz.1.1 cl K).1.is (λz hz _=>eQ _ z (qV _ ?_)) (by rw[fV];simp only[aa.inner,List.flatMap_nil,qw];exact .refl _)⟩ (L j zz.2)
  .have:(N.set x va sg vb I).n=(I.foldl ap.fork N).n+1:=b8 _ 1;rw[qa,j9,this,kF]
   rfl
  .rcases qg.mp hz with h|h
   .exact qj _ (qg.mpr ((hr.mem z).mp h).1)
   .exact qS.mp h▸qk
 |@put N N' q x r hl L=>
  intro i hd;obtain⟨B,H,G⟩:=hd.in λn e=>by cases e
  obtain⟨c1,c2,j⟩:=V (M:=N.hand (q++(">":Str)) x (fe q)) i λz hz=>f (f hz);exact(hand (c1 _ (by simp[aa.cards,aa.others])) (c1 _ (by simp[aa.cards,aa.names])) B.2.2.1 (B.2.1 q x (.inl U)) U U U).seq (L j G)
 |@give N N' x r hl L=>
  intro i hd;obtain⟨B,H,G⟩:=hd.in λn e=>by cases e
  obtain⟨c1,c2,j⟩:=V (M:=N.hand (">":Str) x (fe (">":Str))) i λz hz=>f (f hz);exact(hand (c1 _ (by simp[aa.cards,aa.others])) (c1 _ (by simp[aa.cards,aa.names])) B.2.2.1 hE U U U).seq (L j G)
 |@get N N' q x r hl L=>
  intro i hd;obtain⟨B,H,G⟩:=hd.in λn e=>by cases e
  have cs:∀z∈N.cs,z∈(N.get (q++("<":Str)) x (fe q)).cs:=λz hz=>f hz;obtain⟨c1,c2,j⟩:=V i cs;refine Cg'.seq ⟨cs,huT Z (pW N (q++("<":Str)) x (fe q)) [q++("<":Str),x],(b8 N 2).symm,λD b0 n3 K C cl=>(AC (c1 _ (by simp[aa.cards,aa.others])) (c1 _ (by simp[aa.cards,aa.names])) B.2.2.1 (C q (B.2.1 q x (.inr U))).1 cl K).is (λz hz _=>eQ _ z (by simp at hz;rcases hz with rfl|rfl<;>simp[aa.cards,aa.names,aa.others])) (.refl _)⟩ (L j G)
 |@cond N J N2 N' x t o zs r a l1 l2 _ i1 i2 i3=>
  intro i hd;obtain⟨B,H,G⟩:=hd.in λn e=>by cases e
  have dt:=H t (by simp[aa.inner]);have a6:=H o (by simp[aa.inner]);have S:∀z∈cards t,z∈zs:=λz hz=>(a.mem z).mpr (rC (by simp[aa.inner]) z hz);have zo:∀z∈cards o,z∈zs:=λz hz=>(a.mem z).mpr (rC (by simp[aa.inner]) z hz)
  have zZ:∀z∈zs,z∈Z:=λz hz=>by
   have:=(a.mem z).mp hz;rw[cB]at this;rcases qg.mp this with h|h
   .exact B.1 z h
   .obtain⟨b,hb,h⟩:=List.mem_flatMap.mp h;exact rO (H b hb) z h
  obtain⟨R,T1,n1,g1⟩:=i1 (λk hk=>dr.mpr (.inr (S k hk))) (.of dt);obtain⟨m2,T2,n2,g2⟩:=i2 (λk hk=>dr.mpr (.inr (zo k hk))) (.of a6);have cs:∀z∈N.cs,z∈(N2.ifZ zs (N.n+zs.length+zs.length) (zs.map J.fc)).cs:=λz hz=>f (m2 z (f (R z (f hz))));obtain⟨c1,c2,j⟩:=V i cs
  have nA:(N.ifA zs x).n=N.n+zs.length+zs.length+1:=by
   show(((N.wires zs.length).wires zs.length).line dw).n=_;rw[dP,b8,b8]
  have nM:(N2.ifZ zs (N.n+zs.length+zs.length) (zs.map J.fc)).n=N2.n+zs.length:=b8 _ _;rw[kE]at n2;refine Cg'.seq ⟨cs,(huT Z (.cho (zs.map N.fc) (zs.idxOf x:Nat) (wid N.n zs.length) (wid (N.n+zs.length) zs.length) ((N.n+zs.length+zs.length:Nat):Int)) zs++(huT Z (.cho (zs.map N.fc) (zs.idxOf x:Nat) (wid N.n zs.length) (wid (N.n+zs.length) zs.length) ((N.n+zs.length+zs.length:Nat):Int)) zs++[(none,.cho (zs.map N.fc) (zs.idxOf x:Nat) (wid N.n zs.length) (wid (N.n+zs.length) zs.length) ((N.n+zs.length+zs.length:Nat):Int))]))++(T1++(T2++huT Z (.mrg ((N.n+zs.length+zs.length:Nat):Int) (zs.map J.fc) (zs.map N2.fc) (wid N2.n zs.length)) zs)),?_,λD b0 n3 K C cl=>?_⟩ (i3 j G)
  .simp only[qa,K0,Q7];lia
  .obtain⟨T,g⟩:=K.app;obtain⟨g,F⟩:=g.app;obtain⟨F,a4⟩:=F.app;simp only[qa,K0,Q7]at g F a4;have b1:N.n+(zs.length+(zs.length+1))=(N.ifA zs x).n:=Yo;rw[b1]at g F a4;rw[n1]at F a4;rw[n2]at a4;refine(AA U U cl a.nd (λz hz=>c2 z ((a.mem z).mp hz)) T a4 R m2 (g1 D b0 Yo g C) (g2 D b0 (by rw[kE];lia) F C) S zo ((a.mem x).mpr (eQ _ x (by simp[aa.cards,aa.names]))) (by have:=a.few;lia)).is (λz hz _=>(a.mem z).mp hz) ?_;rw[fV,uO zZ ((a.mem x).mpr (eQ _ x (by simp[aa.cards,aa.names])))];simp only[aa.inner,bu,a.is,qE,List.flatMap_nil,qw];exact .refl _
 |@whl N J N' x b zs r a l1 l2 i1 i2=>
  intro i hd;obtain⟨B,H,G⟩:=hd.in λn e=>by cases e
  have db:=H b (by simp[aa.inner]);have S:∀z∈cards b,z∈zs:=λz hz=>(a.mem z).mpr (rC (by simp[aa.inner]) z hz)
  have zZ:∀z∈zs,z∈Z:=λz hz=>by
   have:=(a.mem z).mp hz;rw[cB]at this;rcases qg.mp this with h|h
   .exact B.1 z h
   .obtain⟨b,hb,h⟩:=List.mem_flatMap.mp h;exact rO (H b hb) z h
  obtain⟨R,T1,n1,g1⟩:=i1 (λk hk=>dr.mpr (.inr (S k hk))) (.of db);have cs:∀z∈N.cs,z∈(J.loZ zs (N.n+zs.length) (zs.map N.fc) (wid N.n zs.length)).cs:=λz hz=>f (R z (f hz));obtain⟨c1,c2,j⟩:=V i cs;have X:(N.wires zs.length).n=N.n+zs.length:=b8 _ _
  have nA:((N.wires zs.length).loA zs x (wid N.n zs.length)).n=N.n+zs.length+1+zs.length+zs.length:=by
   show((((N.wires zs.length).line eh).wires zs.length).wires zs.length).n=_;rw[b8,b8,dP,X]
  obtain⟨Q,e1⟩:∃p,p=PtG.cho (wid ((N.wires zs.length).n+1) zs.length) (zs.idxOf x:Nat) (wid ((N.wires zs.length).n+1+zs.length) zs.length) (wid N.n zs.length) ((N.wires zs.length).n:Int):=⟨_,U⟩;obtain⟨P2,e2⟩:∃p,p=PtG.mrg ((N.wires zs.length).n:Int) (zs.map J.fc) (zs.map (N.wires zs.length).fc) (wid ((N.wires zs.length).n+1) zs.length):=⟨_,U⟩;refine Cg'.seq ⟨cs,huT Z Q zs++(([(none,Q)]++(huT Z P2 zs++huT Z Q zs))++T1),?_,λD b0 n3 K C cl=>?_⟩ (i2 j G)
  .simp only[qa,K0,Q7];show _=J.n;lia
  .obtain⟨T,g⟩:=K.app;obtain⟨g,F⟩:=g.app;simp only[qa,K0,Q7]at g F;have b1:N.n+zs.length+(1+(zs.length+zs.length))=((N.wires zs.length).loA zs x (wid N.n zs.length)).n:=Yo;rw[b1]at F;obtain⟨Y,k1⟩:=T.hu;refine((X▸uz (x:=x) U e1 e2 cl a.nd (λz hz=>c2 z ((a.mem z).mp hz)) Y k1 (λl u v=>eN u v) (X.symm▸g) R Yo (g1 D b0 Yo F C) S ((a.mem x).mpr (eQ _ x (by simp[aa.cards,aa.names]))) (by have:=a.few;lia) :)).is (λz hz _=>(a.mem z).mp hz) ?_;rw[fV,uO zZ ((a.mem x).mpr (eQ _ x (by simp[aa.cards,aa.names])))];simp only[aa.inner,bu,a.is,qE,List.flatMap_nil,qw];exact .refl _
 |@rep0 N N' m b r a hl L=>
  intro i hd;obtain⟨B,H,G⟩:=hd.in λn e=>by cases e
  obtain⟨c1,c2,j⟩:=V i λz hz=>hz
  have hz:∀d∈ai b,bu Z d=[]:=λd hd=>by
   have no:d.cards=[]:=List.eq_nil_iff_forall_not_mem.mpr λy P=>by
    have:y∈cards b:=List.mem_flatMap.mpr ⟨_,hd,P⟩;rw[a]at this;simp at this
   cases d with
   |rep m c=>
    have a5:cards c=[]:=List.eq_nil_iff_forall_not_mem.mpr λy P=>by
     obtain⟨e,C,P⟩:=List.mem_flatMap.mp P;have:y∈cards b:=List.mem_flatMap.mpr ⟨e,fU b hd (by rw[dE];simp[aa.inner,C]),P⟩;rw[a]at this;simp at this
    exact Q0 ((jh c).mp a5)
   |_=>simp[aa.cards,aa.names]at no
  have e0:dn Z [.rep m b]=[]:=by
   rw[fV,bu,Q0 ((jh b).mp a)];simpa[aa.inner,dn]using hz
  exact Cg'.seq (M:=N) ⟨λ_ h=>h,[],U,λD b0 _ _ _ cl=>(Sg.refl cl).is (λz h _=>by simp at h) (by rw[e0])⟩ (L j G)
 |@rep N J N' m b zs r a hz l1 l2 i1 i2=>
  intro i hd;obtain⟨B,H,G⟩:=hd.in λn e=>by cases e
  have db:=H b (by simp[aa.inner]);have cb:cards [.rep m b]=cards b:=by rw[cB];simp[aa.cards,aa.names,aa.others,aa.inner]
  have hb:¬ du b=true:=λh=>by
   have h:=(jh b).mpr h;refine hz (List.eq_nil_iff_forall_not_mem.mpr λy P=>?_);have:=(a.mem y).mp P;rw[h]at this;simp at this
  have zZ:∀z∈zs,z∈Z:=λz h=>rO db z ((a.mem z).mp h);have cz:ctN N.n∉zs:=λk=>hn _ (zZ _ k);have nz:(zs++[ctN N.n]).Nodup:=Dw a.nd (by simp) λz Y h2=>cz (qS.mp h2▸Y);have a7:cards [ctD N.n]=[ctN N.n,ctN N.n]:=by simp[cB,ctD,aa.cards,aa.names,aa.others,aa.inner,Val.names]
  have S:∀z∈cards (b++[ctD N.n]),z∈zs++[ctN N.n]:=λz h=>by
   rw[y7,a7]at h;rcases qg.mp h with h|h
   .exact qV _ ((a.mem z).mpr h)
   .simp at h;simp[h]
  obtain⟨R,T1,n1,g1⟩:=i1 (λk hk=>dr.mpr (.inr (S k hk))) λd hd=>by
   rcases qg.mp hd with h|h
   .exact HD.of db d h
   .exact .inr ⟨_,qS.mp h⟩
  have cs:∀z∈N.cs,z∈(J.loZ (zs++[ctN N.n]) (N.n+2+zs.length) ((zs++[ctN N.n]).map (N.reA m).fc) (wid (N.n+2) zs.length++[(N.n:Int)])).cs:=λz hz=>f (R z (f (f hz)));obtain⟨c1,c2,j⟩:=V i cs
  have eR:(N.reA m).n=N.n+2:=by
   show((N.line eh).wires 1).n=_;rw[b8,dP]
  have X:((N.reA m).wires zs.length).n=N.n+2+zs.length:=by rw[b8,eR]
  have nA:(((N.reA m).wires zs.length).loA (zs++[ctN N.n]) (ctN N.n) (wid (N.n+2) zs.length++[(N.n:Int)])).n=N.n+2+zs.length+1+(zs.length+1)+(zs.length+1):=by
   show(((((N.reA m).wires zs.length).line eh).wires (zs++[ctN N.n]).length).wires (zs++[ctN N.n]).length).n=_;rw[b8,b8,dP,X,qa]
   rfl
  obtain⟨Q,e1⟩:∃p,p=PtG.cho (wid (((N.reA m).wires zs.length).n+1) (zs++[ctN N.n]).length) ((zs++[ctN N.n]).idxOf (ctN N.n):Nat) (wid (((N.reA m).wires zs.length).n+1+(zs++[ctN N.n]).length) (zs++[ctN N.n]).length) (wid (N.n+2) zs.length++[(N.n:Int)]) (((N.reA m).wires zs.length).n:Int):=⟨_,U⟩;obtain⟨P2,e2⟩:∃p,p=PtG.mrg (((N.reA m).wires zs.length).n:Int) ((zs++[ctN N.n]).map J.fc) ((zs++[ctN N.n]).map ((N.reA m).wires zs.length).fc) (wid (((N.reA m).wires zs.length).n+1) (zs++[ctN N.n]).length):=⟨_,U⟩;obtain⟨P0,e0⟩:∃p,p=PtG.wrk [(N.n:Int)] ((N.n+1:Nat):Int) "+" (.is m) (.is 0):=⟨_,U⟩;have kc:kap Z (ctN N.n)=none:=qZ (hn _);refine Cg'.seq ⟨cs,[(none,Q),(none,P0)]++(huT Z Q zs++(([(none,Q)]++(huT Z P2 (zs++[ctN N.n])++huT Z Q (zs++[ctN N.n])))++T1)),?_,λD b0 n3 K C cl=>?_⟩ (i2 j G)
  .simp only[qa,K0,qz,List.length_nil];show _=J.n;lia
  .obtain⟨a0,T⟩:=K.app;obtain⟨T,g⟩:=T.app;obtain⟨g,F⟩:=g.app;simp only[qa,K0,qz,List.length_nil]at T g F;have b1:N.n+(0+1+1)+zs.length+(0+1+(zs.length+(0+1)+(zs.length+(0+1))))=(((N.reA m).wires zs.length).loA (zs++[ctN N.n]) (ctN N.n) (wid (N.n+2) zs.length++[(N.n:Int)])).n:=Yo;rw[b1]at F;have a0:=List.cons.inj a0;have W:D (N.n:Int)=(none,Q):=a0.1;have q1:D ((N.n+1:Nat):Int)=(none,P0):=(List.cons.inj a0.2).1;obtain⟨Y,k1⟩:=T.hu
   have sR:Sg D Z b0 N [ctN N.n] ([P0].filterMap (bq D)) (N.reA m):=by
    refine iG (p:=P0) (zs:=[ctN N.n]) (ws:=[((N.n+1:Nat):Int)]) (A:=(N.line eh).wires 1) (by rw[e0];rfl) U U U cl (by simp) ?_ (λw hw=>by rwa[e0]) ?_ ?_ (λk hk z hz=>?_) λl u v=>?_
    .show[(D _).1]=[kap Z _];rw[q1,kc]
    .rw[e0];exact xx (by show(D _).1=(D _).1;rw[W,q1]) (by rw[q1,e0])
    .rw[e0];refine⟨by simp,λx hx=>?_,B.2.2.2,by show Int.natAbs 0<2 ^ 1000;decide +kernel,by decide⟩;have hx:(D (N.n:Int)).1=some x:=hx;rw[W]at hx;cases hx
    .rw[e0]at hk;have hz:(D k).1=some z:=hz;rw[qS.mp hk,W]at hz;cases hz
    .rw[eR]at v;by_cases e:l=N.n
     .exact .inl (by show(D l).1=_;rw[e,W])
     .exact .inr (qS.mpr Yo)
   have a8:(wid (N.n+2) zs.length++[(N.n:Int)]).map (hue D)=(zs++[ctN N.n]).map (kap Z):=by
    rw[qO,qO,Y];show _++[(D _).1]=_++[_];rw[W,kc]
   refine(sR.trans (X▸uz (x:=ctN N.n) U e1 e2 sR.c nz (λz h=>?_) a8 (λl h=>?_) (λl u v=>qV _ (eN Yo Yo)) (X.symm▸g) R Yo (g1 D b0 Yo F C) S (qH _ qk) (by have:=a.few;rw[qa];show _+1<=32;lia) :)).is (λz h hZ=>?_) ?_
   .rcases qg.mp h with h|h
    .exact f (c2 z (by rw[cb];exact(a.mem z).mp h))
    .exact dr.mpr (.inr h)
   .rcases qg.mp h with h|h
    .exact k1 l h
    .rw[qS.mp h,W]
   .rw[cb];simp only[qg,qS]at h;rcases h with rfl|h|rfl
    .exact Q5 hZ (hn _)
    .exact(a.mem z).mp h
    .exact Q5 hZ (hn _)
   .have r0:bq D P0=some ((Sd.is m).lst++(" + ":Str)++(Sd.is 0).lst):=by
     have h0:hue D (N.n:Int)=none:=congrArg Prod.fst W;rw[e0,bq,List.headD_cons,h0];exact congrArg some (wF _ _ "+" _ Yd)
    have r1:eC Z (zs++[ctN N.n]) (ctN N.n)=Str.join " " (zs++[("":Str)])++(" by ":Str):=by
     have em:(zs++[ctN N.n]).map (λz=>(kap Z z).getD "")=zs++[("":Str)]:=by
      rw[qO,List.map_singleton,kc,(List.map_congr_left λz hz=>by rw[eI (zZ z hz)];rfl:zs.map (λz=>(kap Z z).getD "")=zs.map id),List.map_id]
      rfl
     have ei:(zs++[ctN N.n]).idxOf (ctN N.n)=zs.length:=by rw[List.idxOf_append,qZ cz];simp
     unfold eC;rw[em,ei,qi,qK (qd _),Nat.sub_self];exact congrArg Str.mk Array.append_empty
    have r2:dn Z [ctD N.n]=[(Sd.at 0).lst++(" - ":Str)++(Sd.is 1).lst]:=by
     rw[fV];show[if ctN N.n∈Z then _ else Str.join " " [(bN [ctN N.n] (.nm (ctN N.n))).lst,"-",(bN [ctN N.n] (.num 1)).lst]]=_;rw[qZ (hn _)];refine congrArg (λs=>[s]) ((wF _ _ "-" " - " Yd).trans ?_);simp only[bN,List.idxOf_cons_self]
     rfl
    have r3:crd [.rep m b]=zs:=cj.is ⟨a.nd,λk=>by rw[cb];exact a.mem k,a.so,a.few⟩;rw[List.filterMap_cons_some r0,r1,xG,r2,fV,bu,qZ hb,r3];simp only[aa.inner,qE,List.flatMap_nil,qw,List.filterMap_nil];exact(List.Perm.swap _ _ _).trans (.cons _ (.cons _ (List.perm_append_comm)))
end Tr
namespace L2
open PySem PySem.Spec PyProof.Rows
open AutoSeq1 (wpAny_loadPart')
open MeetsSeq
theorem yJ{a:Type}(n:Nat)(f:Nat->a->Sem (ForInStep a))(I:List Nat->a->Shared->Prop)(Q:a->Shared->Prop)
 (turn:∀x rest b s,I (x::rest) b s->wpAny M A (f x b) (λr s'=>match r with|.yield c=>I rest c s'|.done c=>Q c s') E s)
 (fin:∀b s,I [] b s->Q b s) (b:a) (h:I (List.range n) b s):wpAny M A (forIn [0:n] b f) Q E s:=by
 rw[Std.Legacy.Range.forIn_eq_forIn_range'];refine wpAny_forIn_list f I Q turn fin _ b ?_;rw[List.range_eq_range']at h;simpa[Std.Legacy.Range.size]using h
theorem zw(l:Addr)(items:LD)(n:Nat)(p:Option Addr)(sl:Array LO)(x:Value)(e:Value->Bool)(q:∀y,y∈items->EqGives y x (e y))(j:Nat)(r:j<items.size)
 (o:e items[j]=true) (f:∀m (_:m<items.size),m<j->e items[m]=false):
 Meets (Builtin.«tuple.index» ⟨[.ref l,x],[]⟩)
  (λ_ R s=>s.heap.get? l=some ⟨.type "tuple",p,.seq items n,sl⟩/\R (.ok (.ret (.int j s.toks))) { s with toks:=s.toks+1 }):=
 .of_wp λprog w A R s h=>by
  obtain⟨hp,g,d,tk,os⟩:=s;obtain⟨hl,h⟩:=h
  wp_walk using wpAny_loadPart' hl,yJ _ _ (λrest b c=>b.1=none/\c=⟨hp,g,d,tk,os⟩/\∃i,i<=j/\rest=List.range' i (items.size-i)) _
  case turn=>
   rintro y rest b c ⟨hb,rfl,i,hi,a⟩;rw[show items.size-i=(items.size-(i+1))+1 by lia,List.range'_succ]at a;obtain⟨rfl,rfl⟩:=List.cons.inj a;have lt:y<items.size:=Yo;rw[Array.getElem?_eq_getElem lt];refine q4 (q _ (Array.getElem_mem lt) prog w _ _ _ _ ?_);by_cases k:y=j
   .subst k;rw[o]
    wp_walk
    exact⟨_,U,h⟩
   .rw[f y lt Yo]
    wp_walk
    exact⟨U,U,y+1,Yo,U⟩
  case fin=>
   rintro⟨b1,b2⟩ c ⟨hb,rfl,i,hi,a⟩;have:=congrArg List.length a;simp at this;lia
  case h=>
   exact⟨U,U,0,Yo,by rw[List.range_eq_range'];simp⟩
def Bx:V->LV->Hp->VK->Prop:=λv xs H Q=>∃(l:Addr)(zs:LI)(x:Int),v=.ref l/\xs=[.int x]/\H l=some (.tup (zs.map V.int))/\x∈zs/\Q (.int (zs.idxOf x:Nat)) H
theorem p8:MtM X "tuple.index" Bx:=by
 intro _ s _ H x vs v us Q I C p h;obtain⟨l,zs,y,rfl,rfl,D,B,q⟩:=h;cases C;obtain⟨u,rfl,t,rfl⟩:=p.one;obtain⟨b,r,⟨⟨_,o,_,f⟩,j,A,n,hd⟩,z⟩:=I.tuple (SqT.of D);cases A;cases hd;have E:b.length=zs.length:=by have:=r.length;rw[q5]at this;exact this.symm
 have lt:zs.idxOf y<zs.length:=List.idxOf_lt_length_iff.mpr B
 have d:∀m (h:m<b.toArray.size),∃z t,zs[m]?=some z/\b.toArray[m]=.int z t:=λm h=>by
  rw[qA]at h;exact sv r (by rw[List.getElem_toArray];exact qb h)
 refine call_meets PySem.F.slot_tuple_index ⟨_,j,U⟩ PySem.F.entry_tuple_index (PySem.F.args_tuple_index_2 _ _)
  (zw l b.toArray n o f (.int y t) (λv=>match v with|.int a _=>a == y|_=>false) (λw hw=>?_) (zs.idxOf y) (by rw[qA];lia) ?_ (λm k g=>?_)) ⟨j,?_⟩
 .obtain⟨i,hi⟩:=List.mem_iff_getElem?.mp (by simpa using hw);obtain⟨z,t',_,rfl⟩:=sv r hi;exact EqGives.int z y t' t
 .obtain⟨z,t',c,e⟩:=d (zs.idxOf y) (by rw[qA];lia);rw[e];rw[qb lt,List.getElem_idxOf lt]at c;cases c;simp
 .obtain⟨z,t',c,e⟩:=d m k;rw[e];have:=List.not_of_lt_findIdx g;rw[qb Yo]at c;rw[qI c]at this;simpa using this
 .exact⟨.int (zs.idxOf y),H,I.tok _,⟨_,U⟩,q⟩
end L2
namespace Tr
open PySem PySem.Spec PyProof.Rows L2
theorem Fo(n:Nat)(k:gj z=true):ctN n≠z:=λe=>by
 obtain⟨c,a,hk⟩:=List.any_eq_true.mp k;have b:ctN n=⟨(n.repr.toList.map Char.toNat).toArray⟩:=Str.ofString_eq_toList _;rw[<- e,b]at a;obtain⟨d,hd,rfl⟩:=List.mem_map.mp a;rw[Nat.repr_eq_ofList_toDigits,String.toList_ofList]at hd;have:=Nat.isDigit_of_mem_toDigits Yk Yk hd;simp[Char.isDigit,UInt32.le_iff_toNat_le]at this;simp at hk;have f:d.toNat=d.val.toNat:=U;lia
def dum:PtG:=.pas [] [] []
def bZ(S:List (Option Str×PtG)):Hue:=λl=>if 0<=l then S.getD l.toNat (none,dum)else(none,dum)
theorem FY{A B:List (Option Str×PtG)}:Ag (bZ (A++B)) A.length B:=by
 refine List.ext_getElem? λi=>?_;unfold wid;rw[qD,qD];by_cases h:i<B.length
 .rw[List.getElem?_range h,qb h];show some (bZ _ ((A.length+i:Nat):Int))=_;rw[bZ,Q0 Yo,qX,qi,qK Yo,Nat.add_sub_cancel_left,qb h]
  rfl
 .rw[Qp (by rw[Qe];lia),Qp Yo]
  rfl
structure Col(D:Hue)(zs:LS)(N:ap)(due:LS):Prop where
 la:∀z∈zs,hue D (N.fc z)=some z
 fit:∀p∈N.ps,Fit D 3 p/\Wk D N.ps p
 row:(N.ps.filterMap (bq D)).Perm due
 dm:∀i<zs.length,∀p∈N.ps,((3+i:Nat):Int)∉p.ots
 no:∀l,hue D l≠none->3<=l/\l<(N.n:Int)
 way:∀l z,hue D l=some z->z∈zs/\Rch N.ps (N.fc z) l/\(l=((3+zs.idxOf z:Nat):Int)\/∃p∈N.ps,l∈p.ots)
 fst:∀z∈zs,hue D ((3+zs.idxOf z:Nat):Int)=some z/\Rch N.ps (N.fc z) ((3+zs.idxOf z:Nat):Int)
theorem FB{ss:LG}{f:aN}(u:ss.length=2)(v:Lay (feN ss) (c8 ss zs f) ds N)(nd:zs.Nodup)(sub:∀k∈cards ds,k∈zs)(J:∀z∈zs,gj z=true)(st:∀d∈ai ds,∀q x,d=.put q x\/d=.get q x->q∈ss.map (·.1))(H:∀e∈ai ds,NcD e/\SmD e):
 ∃D,Col D zs N (dn zs ds):=by
 have el:(esN ss).length=3:=by unfold esN;rw[qa,q5,u];rfl
 have F:(c8 ss zs f).n=3+zs.length:=by
  show List.length (_++_)=_;rw[qa,qa,q5,q5,u]
  rfl
 have f0:∀z,(c8 ss zs f).fc z=((3+zs.idxOf z:Nat):Int):=λz=>by
  show((ss.length+1+zs.idxOf z:Nat):Int)=_;rw[u]
 obtain⟨C,T,_,g⟩:=DX v (Z:=zs) (E:=esN ss) (λn hn=>Fo n (J _ hn) U) (qH _ (qS.mpr U)) sub (.of λe m=>⟨λk hk=>sub k (List.mem_flatMap.mpr ⟨e,m,hk⟩),λq x h=>qV _ (st e m q x h),H e m⟩);obtain⟨A,t⟩:∃A,A=List.replicate 3 ((none:Option Str),dum)++zs.map λz=>(some z,dum):=⟨_,U⟩;have G:A.length=3+zs.length:=by rw[t,qa,List.length_replicate,q5]
 have s:∀l:Int,l<3->bZ (A++T) l=(none,dum):=λl hl=>by
  unfold bZ;split
  .have:l.toNat<3:=by lia
   rw[t,qM,qi,Q6 (by rw[List.length_replicate];lia),List.getElem?_replicate,Q0 this]
   rfl
  .rfl
 have j:∀i z,zs[i]?=some z->bZ (A++T) ((3+i:Nat):Int)=(some z,dum):=λi z hz=>by
  have lt:=(qe.mp hz).1;rw[bZ,Q0 Yo,qX,t,qM,qi,qK (by rw[List.length_replicate];lia),List.length_replicate,Nat.add_sub_cancel_left,Q6 (by rw[q5];lia),qD,hz]
  rfl
 have az:∀z∈zs,bZ (A++T) ((3+zs.idxOf z:Nat):Int)=(some z,dum):=λz hz=>by
  have lt:=List.idxOf_lt_length_iff.mpr hz;exact j _ _ (by rw[qb lt,List.getElem_idxOf lt])
 have K:Ag (bZ (A++T)) (c8 ss zs f).n T:=by rw[F,<- G];exact FY
 have g:=g _ 3 Yo K (λe m=>by
  have:feN ss e<3:=by
   have:=List.idxOf_lt_length_iff.mpr m;show(((esN ss).idxOf e:Nat):Int)<3;lia
  exact⟨by show(bZ _ _).1=_;rw[s _ this],this⟩) λz hz=>by
  have hz:z∈zs:=hz;show(bZ _ _).1=_;rw[f0,az z hz,eI hz]
 have ep:(c8 ss zs f).ps=[]:=U;obtain⟨new,e,fit,pm⟩:=g.p;rw[ep,Ql]at e;subst e
 have no:∀l,hue (bZ (A++T)) l≠none->3<=l/\l<(N.n:Int):=λl hl=>by
  refine⟨Int.not_lt.mp λh=>hl (by show(bZ _ _).1=_;rw[s l h]),Int.not_le.mp λh=>hl ?_⟩;show(bZ _ _).1=_;rw[bZ,Q0 Yo,qi,Qp (by rw[qa];lia)]
  rfl
 refine⟨_,λz hz=>?_,fit,pm,λi hi p hp hl=>?_,no,λl z h=>?_,λz hz=>⟨by show(bZ _ _).1=_;rw[az z hz],f0 z▸g.r z hz⟩⟩
 .have:z∈N.cs:=C z hz;rw[g.c z this,eI hz]
 .have:=((fit p hp).1 _ hl).1 Yo;rw[j i _ (qb hi)]at this;rw[<- this]at hl;cases hl
 .obtain⟨_,ln⟩:=no l (by rw[h];simp);by_cases c:l<((c8 ss zs f).n:Int)
  .have lt:(l-3).toNat<zs.length:=by lia
   have el:l=((3+(l-3).toNat:Nat):Int):=Yo;have o:=j _ _ (qb lt);rw[<- el]at o;have o:hue (bZ (A++T)) l=some zs[(l-3).toNat]:=congrArg Prod.fst o;rw[o]at h;cases h;have y:=List.getElem_mem lt;have I:zs.idxOf zs[(l-3).toNat]=(l-3).toNat:=nd.idxOf_getElem _ lt;have B:l=((3+zs.idxOf zs[(l-3).toNat]:Nat):Int):=by rwa[I]
   have r:=g.r _ y;rw[f0,<- B]at r;exact⟨y,r,.inl B⟩
  .obtain⟨a,_,b,r⟩:=g.w l z Yo ln h;exact⟨a,r,.inr b⟩
theorem EW{zs ds:LI}(h:zs.Nodup)(k:∀x∈zs,x∈ds):zs.length<=ds.length:=by
 induction zs generalizing ds with
 |nil=>exact qr _
 |cons x r c=>
  have b:=k x qk;have h':=List.nodup_cons.mp h;have:=c (ds:=ds.erase x) h'.2 λy a=>(List.mem_erase_of_ne (by rintro rfl;exact h'.1 a)).mpr (k y (qj _ a));rw[List.length_erase_of_mem b]at this;have:0<ds.length:=List.length_pos_of_mem b;simp only[qz];lia
theorem FQ{l:Int}{bs:LI}(h:p.bks l=some bs):bs.length<=2:=by
 unfold PtG.bks at h;split at h
 all_goals first|cases h|(obtain⟨b,_,rfl⟩:=qP.mp h;exact Nat.le_succ 1)|(obtain⟨b,_,h⟩:=Option.bind_eq_some_iff.mp h;obtain⟨c,_,rfl⟩:=qP.mp h;exact qd 2)
structure Wlk(D:Hue)(zs:LS)(N:ap)(i:Nat)(z:Str)(L ρ:LI):Prop where
 nd:L.Nodup
 hu:∀l∈L,∃y∈zs.take (i+1),hue D l=some y
 old:∀l,∀y∈zs.take i,hue D l=some y->l∈L
 td:∀l∈ρ,hue D l=some z
 cl:∀l∈L,hue D l=some z->∀p∈N.ps,l∈p.ots->∀bs,p.bks l=some bs->∀b∈bs,b∈L\/b∈ρ
 st:N.fc z∈L\/N.fc z∈ρ
 ln:ρ.length<=2 * L.length+1
section
variable {due:LS}{ρ:LI}{l:Int}
theorem Wlk.len(h:Wlk D zs N i z L ρ)(C:Col D zs N due):L.length<=N.n:=by
 have:=EW h.nd (ds:=wid 0 N.n) λl hl=>by
  obtain⟨y,_,e⟩:=h.hu l hl;obtain⟨a,b⟩:=C.no l (by rw[e];simp);exact eN Yo Yo
 rwa [bE]at this
theorem Wlk.seen(h:Wlk D zs N i z L (ρ++[l]))(hl:l∈L):Wlk D zs N i z L ρ:=⟨h.nd,h.hu,h.old,λm a=>h.td m (qV _ a),λm a e p hp d bs hb b c=>by
 rcases h.cl m a e p hp d bs hb b c with k|k
 .exact .inl k
 .rcases qg.mp k with k|k
  .exact .inr k
  .exact .inl (qS.mp k▸hl),by
 rcases h.st with k|k
 .exact .inl k
 .rcases qg.mp k with k|k
  .exact .inr k
  .exact .inl (qS.mp k▸hl),by have:=h.ln;rw[qa]at this;lia⟩
theorem Wlk.more(h:Wlk D zs N i z L (ρ++[l]))(hl:l∉L)(hz:zs[i]?=some z)(bs:LI)(b2:bs.length<=2)(all:∀b∈bs,hue D b=some z)(k:∀p∈N.ps,l∈p.ots->p.bks l=some bs):Wlk D zs N i z (L++[l]) (ρ++bs):=by
 have g:z∈zs.take (i+1):=by rw[qq,hz];exact qH _ (by simp)
 have el:=h.td l (qH _ qk)
 have j:∀b,b∈L\/b∈ρ++[l]->b∈L++[l]\/b∈ρ++bs:=λb hb=>by
  simp only[qg,qS]at hb ⊢;rcases hb with h|h|h
  .exact .inl (.inl h)
  .exact .inr (.inl h)
  .exact .inl (.inr h)
 refine⟨List.nodup_append.mpr ⟨h.nd,by simp,λa ha b hb e=>hl (by rwa[<- qS.mp hb,<- e])⟩,λm c=>?_,λm y o e=>qV _ (h.old m y o e),λm c=>?_,λm c e p hp f n hb b d=>?_,j _ h.st,?_⟩
 .rcases qg.mp c with c|c
  .exact h.hu m c
  .exact⟨z,g,qS.mp c▸el⟩
 .rcases qg.mp c with c|c
  .exact h.td m (qV _ c)
  .exact all m c
 .rcases qg.mp c with c|c
  .exact j _ (h.cl m c e p hp f n hb b d)
  .rw[qS.mp c]at f hb;rw[k p hp f]at hb;cases hb;exact .inr (qH _ d)
 .have:=h.ln;rw[qa]at this ⊢;rw[qa];simp only[Q7]at this ⊢;lia
theorem Wlk.all(h:Wlk D zs N i z L [])(C:Col D zs N due):∀l,hue D l=some z->l∈L:=λl hl=>by
 have e:∀{m},Rch N.ps (N.fc z) m->m∈L/\hue D m=some z:=λ{m} r=>by
  induction r with
  |refl=>
   have j:=(h.st.resolve_right (by simp));refine⟨j,C.la z (C.way l z hl).1⟩
  |@step b c p bs _ hp g hb f d=>
   have:=(h.cl b d.1 d.2 p hp g bs hb c f).resolve_right (by simp);obtain⟨_,a,all⟩:=((C.fit p hp).1 b g).2 z d.2;rw[hb]at a;cases a;exact⟨this,all c f⟩
 exact(e (C.way l z hl).2.1).1
end
end Tr
namespace L2
open PySem PySem.Spec PyProof.Rows
theorem jv{p:Addr}{xs:LV}(h:H p=some (.tup xs)):tyV K "tuple" (.ref p) H:=.inr (.inl ⟨U,.inr ⟨_,h⟩⟩)
end L2
namespace Tr
open PySem PySem.Spec PyProof.Rows L2
theorem ck{a b:Str}(h:PyData.strOk a=true)(k:PyData.strOk b=true):PyData.strOk (a++b)=true:=by
 unfold PyData.strOk at *;show(a.cps++b.cps).all _=true;rw[Array.all_append,h,k]
 rfl
theorem oS(n:Int):PyData.strOk (Str.ofString (toString n))=true:=by
 unfold PyData.strOk;rw[Str.ofString_eq_toList,List.all_toArray,List.all_eq_true];intro c a;obtain⟨d,hd,rfl⟩:=List.mem_map.mp a;have:=PySem.int_ascii n d hd;simp;lia
theorem gT{z:Str}(hz:PyData.strOk z=true):∀{ws:LS},(∀w∈ws,PyData.strOk w=true)->PyData.strOk (Str.join z ws)=true
 |[],_=>show PyData.strOk ("":Str)=true by decide +kernel
 |[w],h=>h w qk
 |w::v::r,h=>ck (ck (h w qk) hz) (gT (ws:=v::r) hz λx a=>h x (qj _ a))
theorem gS(d:Sd):PyData.strOk d.lst=true:=by
 cases d with
 |«at» i=>exact ck (ck (ck (ck (a:=("[":Str)++("":Str)) (b:=reprText "in") Yd Yd) (b:=(", ":Str)) Yd) (oS i)) Yd
 |is i=>exact ck (ck (ck (ck (a:=("[":Str)++("":Str)) (b:=reprText "is") Yd Yd) (b:=(", ":Str)) Yd) (oS i)) Yd
theorem Fp:∀k∈crd ds,k∈cards ds:=λk hk=>by
 by_cases h:∃zs,cj ds zs
 .obtain⟨zs,h⟩:=h;rw[h.is]at hk;exact(h.mem k).mp hk
 .unfold crd at hk;rw[dif_neg h]at hk;cases hk
theorem Fa(l:∀k∈Z,PyData.strOk k=true)(all:∀k∈cards [d],k∈Z)(p:∀x g s f,d=.set x g s f->PyData.strOk s=true):∀r∈bu Z d,PyData.strOk r=true:=by
 have sp:PyData.strOk (" ":Str)=true:=Yd;have i:∀w∈crd [d],PyData.strOk w=true:=λw hw=>l w (all w (Fp w hw));have nm:∀k∈d.names,PyData.strOk k=true:=λk hk=>l k (all k (eQ d k (qV _ hk)))
 have tx:∀v:Val,(∀k∈v.names,PyData.strOk k=true)->PyData.strOk v.tx=true:=λv h=>by
  cases v with
  |num n=>exact oS n
  |nm x=>exact h x qk
 have e:∀{a b s:Str},PyData.strOk s=true->PyData.strOk a=true->PyData.strOk b=true->PyData.strOk (a++s++b)=true:=λh a b=>ck (ck a h) b;have j:PyData.strOk (" by ":Str)=true:=Yd;intro r c
 cases d with
 |set x g s f=>
  have m:=p x g s f U;rw[bu,qS]at c;subst c;have q:PyData.strOk ("=":Str)=true:=Yd;split
  .refine gT sp λw hw=>?_;simp only[qt,qQ,or_false]at hw;rcases hw with rfl|rfl|rfl|rfl|rfl
   .exact nm _ qk
   .exact q
   .exact tx g λk hk=>nm k (qj _ (qV _ hk))
   .exact m
   .exact tx f λk hk=>nm k (qj _ (qH _ hk))
  .refine gT sp λw hw=>?_;simp only[qt,qQ,or_false]at hw;rcases hw with rfl|rfl|rfl
   .exact gS _
   .exact m
   .exact gS _
 |cond x t o=>
  rw[bu,qS]at c;subst c;exact e j (gT sp i) (nm x qk)
 |whl x b=>
  rw[bu,qS]at c;subst c;exact e j (gT sp i) (nm x qk)
 |rep k b=>
  rw[bu]at c;split at c
  .cases c
  simp only[qt,qQ,or_false]at c;rcases c with rfl|rfl|rfl
  .refine ck (gT sp λw hw=>?_) j;rcases qg.mp hw with h|h
   .exact i w h
   .rw[qS.mp h]
    decide +kernel
  .exact e Yd (gS _) (gS _)
  .exact e Yd (gS _) (gS _)
 |_=>cases c
theorem vx:∀(rs:LS)(N:ap),N.ls <+: (rs.foldl ap.fork N).ls
 |[],N=>List.prefix_refl _
 |r::rs,N=>(List.prefix_append _ _:N.ls <+: (N.fork r).ls).trans (vx rs (N.fork r))
theorem DW(h:Lay fe N ds N'):N.ls <+: N'.ls:=by
 have p2:∀{a b c:List LnD},a <+: a++b++c:=λ{a b c}=>⟨b++c,by simp⟩;have o:∀{a b c d:List LnD},a <+: a++b++c++d:=λ{a b c d}=>⟨b++(c++d),by simp⟩;have q:∀{a b c d e:List LnD},a <+: a++b++c++d++e:=λ{a b c d e}=>⟨b++(c++(d++e)),by simp⟩;have p:∀{a b c d e f g:List LnD},a <+: a++b++c++d++e++f++g:=λ{a b c d e f g}=>⟨b++(c++(d++(e++(f++g)))),by simp⟩
 induction h with
 |nil=>exact List.prefix_refl _
 |@set N N' x _ _ _ n r _ hl i=>exact((vx n N).trans (List.prefix_append _ _)).trans i
 |put hl i=>exact p2.trans i
 |give hl i=>exact p2.trans i
 |get hl i=>exact(List.prefix_append _ _).trans i
 |cond l l1 l2 _ j k m=>exact(((o.trans j).trans k).trans (List.prefix_append _ _)).trans m
 |whl l l1 l2 j k=>exact(q.trans j).trans k
 |rep0 l hl i=>exact i
 |rep l hz l1 l2 j k=>exact(p.trans j).trans k
theorem lT:∀(a:LS)(b:LI),(a.take (min a.length b.length)).zip b=a.zip b
 |[],b=>by simp
 |x::a,[]=>by simp
 |x::a,y::b=>by simp[Nat.succ_min_succ,lT a b]
end Tr
set_option Elab.async false
set_option maxRecDepth 100000
set_option maxHeartbeats 4000000
namespace K35
open PySem L2 Tr
seal PE PT PW PA PS PSs PG PGs PI PTs PO OpR UnR bf TruR IxR SlR
local macro_rules|`(tactic| walk_at "rds")=>`(tactic| first|assumption|decide|lia)
local macro_rules|`(tactic| walk_at "rd")=>`(tactic| repeat (first|refine⟨_,rfl,?_⟩|refine⟨_,_,rfl,rfl,?_⟩|refine⟨rfl,_,rfl,?_⟩|refine⟨_,_,rfl,rfl,by walk_at "rds",?_⟩|refine And.intro (by walk_at "rds") ?_))
local macro_rules|`(tactic| walk_at "yes")=>`(tactic| refine bK (by decide +kernel) ?_)
local macro_rules|`(tactic| walk_at "no")=>`(tactic| refine bn (by decide +kernel) ?_)
local macro_rules|`(tactic| walk_at "l")=>`(tactic| (intro _ _ _ _ h;cases h;subst_vars;rfl))
local macro_rules|`(tactic| walk_at "q")=>`(tactic| try dsimp only[fY,Cx.nox])
abbrev ni:Stmt:=top 3
abbrev mV:Stmt:=top 4
abbrev nQ:Stmt:=top 5
abbrev nO:Stmt:=top 6
abbrev jP:Stmt:=top 7
abbrev mY:Stmt:=top 8
abbrev mW:Stmt:=top 12
abbrev ng:Stmt:=top 13
abbrev mZ:Stmt:=top 14
abbrev nK:Stmt:=top 15
abbrev nN:Stmt:=top 16
abbrev jR:Stmt:=top 19
abbrev oo:Stmt:=inClass (top 21) 0
abbrev oj:Stmt:=inClass (top 21) 1
abbrev jY:Stmt:=inClass (top 21) 2
abbrev oh:Stmt:=inClass (top 21) 3
abbrev jX:Stmt:=inClass (top 21) 4
abbrev og:Stmt:=inClass (top 21) 5
abbrev nP:Stmt:=top 22
abbrev nr:Stmt:=top 24
abbrev nH:Stmt:=top 25
abbrev jQ:Stmt:=top 26
abbrev mX:Stmt:=top 27
abbrev nF:Stmt:=top 28
abbrev nG:Stmt:=top 29
abbrev nh:Stmt:=top 31
abbrev nJ:Stmt:=top 32
abbrev nq:Stmt:=top 33
abbrev nE:Stmt:=top 34
abbrev nj:Stmt:=top 35
abbrev nB:Stmt:=top 36
abbrev nD:Stmt:=top 37
abbrev gJ:Stmt:=top 39
abbrev nX:Stmt:=top 40
abbrev nR:Stmt:=top 41
abbrev nW:Stmt:=top 42
abbrev nU:Stmt:=top 43
abbrev o9:Stmt:=top 44
abbrev jS:Stmt:=top 45
abbrev jT:Stmt:=top 46
abbrev o0:Stmt:=top 47
abbrev jW:Stmt:=top 48
abbrev jV:Stmt:=top 49
abbrev oa:Stmt:=top 50
abbrev nY:Stmt:=top 51
abbrev o7:Stmt:=top 52
abbrev nV:Stmt:=top 53
abbrev jU:Stmt:=top 54
abbrev o6:Stmt:=top 55
abbrev fK:Stmt:=top 56
theorem mO:aM ["block","names","deed"] ["block"] (aE ni):=⟨U,U,U,Yd,U,Yd,Yd⟩
theorem AQ:aM ["program"] ["program"] (aE mV):=⟨U,U,U,Yd,U,Yd,Yd⟩
theorem iK:aM ["block","found","deed","inner"] ["block"] (aE nQ):=⟨U,U,U,Yd,U,Yd,Yd⟩
theorem AX:aM ["deed"] ["deed"] (aE nO):=⟨U,U,U,Yd,U,Yd,Yd⟩
theorem uF:aM ["deed","kind"] ["deed"] (aE jP):=⟨U,U,U,Yd,U,Yd,Yd⟩
theorem AS:aM ["deed"] ["deed"] (aE mY):=⟨U,U,U,Yd,U,Yd,Yd⟩
theorem mN:aM ["block","cards","deed"] ["block"] (aE mW):=⟨U,U,U,Yd,U,Yd,Yd⟩
theorem AU:aM ["deed"] ["deed"] (aE ng):=⟨U,U,U,Yd,U,Yd,Yd⟩
theorem AT:aM ["store"] ["store"] (aE mZ):=⟨U,U,U,Yd,U,Yd,Yd⟩
theorem AW:aM ["store"] ["store"] (aE nK):=⟨U,U,U,Yd,U,Yd,Yd⟩
theorem jM:aM ["program","cards","store","length"] ["program"] (aE nN):=⟨U,U,U,Yd,U,Yd,Yd⟩
theorem jN:aM ["program","numbers","begun","name","number"] ["program","numbers"] (aE jR):=⟨U,U,U,Yd,U,Yd,Yd⟩
theorem Bd:aM ["self"] ["self"] (aE oo):=⟨U,U,U,Yd,U,Yd,Yd⟩
theorem Bc:aM ["self","length","first"] ["self","length","first"] (aE oj):=⟨U,U,U,Yd,U,Yd,Yd⟩
theorem Ba:aM ["self","count"] ["self","count"] (aE jY):=⟨U,U,U,Yd,U,Yd,Yd⟩
theorem Bb:aM ["self","part"] ["self","part"] (aE oh):=⟨U,U,U,Yd,U,Yd,Yd⟩
theorem B0:aM ["self","cards"] ["self","cards"] (aE jX):=⟨U,U,U,Yd,U,Yd,Yd⟩
theorem mU:aM ["self","cards","wires","card","wire"] ["self","cards","wires"] (aE og):=⟨U,U,U,Yd,U,Yd,Yd⟩
theorem gF:aM ["program","numbers","bench","store","length","begun","card"] ["program","numbers"] (aE nP):=⟨U,U,U,Yd,U,Yd,Yd⟩
theorem uH:aM ["bench","deed","kind"] ["bench","deed"] (aE nr):=⟨U,U,U,Yd,U,Yd,Yd⟩
theorem uI:aM ["bench","name","wires"] ["bench","name"] (aE nH):=⟨U,U,U,Yd,U,Yd,Yd⟩
theorem gD:aM ["bench","deed","name","reads","ins","outs","sources"] ["bench","deed"] (aE jQ):=⟨U,U,U,Yd,U,Yd,Yd⟩
theorem AR:aM ["value","sources"] ["value","sources"] (aE mX):=⟨U,U,U,Yd,U,Yd,Yd⟩
theorem mP:aM ["bench","card","name","end","ins","wires"] ["bench","card","name","end"] (aE nF):=⟨U,U,U,Yd,U,Yd,Yd⟩
theorem jL:aM ["bench","store","name","cards","ins","wires"] ["bench","store","name"] (aE nG):=⟨U,U,U,Yd,U,Yd,Yd⟩
theorem uE:aM ["program","numbers","bench"] ["program","numbers"] (aE nh):=⟨U,U,U,Yd,U,Yd,Yd⟩
theorem mQ:aM ["bench","block","deed"] ["bench","block"] (aE nJ):=⟨U,U,U,Yd,U,Yd,Yd⟩
theorem AV:aM ["bench","block","cards","wires"] ["bench","block","cards","wires"] (aE nq):=⟨U,U,U,Yd,U,Yd,Yd⟩
theorem eu:aM ["bench","deed","cards","ins","ones","noughts","told","ones_behind","noughts_behind","outs"] ["bench","deed"] (aE nE):=⟨U,U,U,Yd,U,Yd,Yd⟩
theorem uG:aM ["bench","deed","cards"] ["bench","deed"] (aE nj):=⟨U,U,U,Yd,U,Yd,Yd⟩
theorem gE:aM ["bench","rounds","body","cards","rest","counter","wires","counting"] ["bench","rounds","body"] (aE nB):=⟨U,U,U,Yd,U,Yd,Yd⟩
theorem iJ:aM ["bench","cards","name","body","behind","coming","told","ins","ones"] ["bench","cards","name","body","behind"] (aE nD):=⟨U,U,U,Yd,U,Yd,Yd⟩
theorem mS:aM ["_law_cell","_law_letters","_law_some"] ["_law_cell"] (aE gJ):=⟨U,U,U,Yd,U,Yd,Yd⟩
theorem AY:aM ["_law_cell","_law_factor","_law_prime","_law_many"] ["_law_cell","_law_factor","_law_prime","_law_many"] (aE nX):=⟨U,U,U,Yd,U,Yd,Yd⟩
theorem uJ:aM ["_law_number","_law_names_here","_law_at"] ["_law_number","_law_names_here"] (aE nR):=⟨U,U,U,Yd,U,Yd,Yd⟩
theorem jO:aM ["_law_cell","_law_x","_law_names_here","_law_signs","_law_left","_law_right"] ["_law_cell","_law_x","_law_names_here"] (aE nW):=⟨U,U,U,Yd,U,Yd,Yd⟩
theorem uK:aM ["_law_cell","_law_x","_law_q","_law_names_here","_law_hidden","_law_kind"] ["_law_cell","_law_x","_law_q","_law_names_here","_law_hidden"] (aE nU):=⟨U,U,U,Yd,U,Yd,Yd⟩
theorem cY:aM ["_law_cells","_law_names_here","_law_stores","_law_top","_law_here","_law_kinds","_law_others","_law_cell","_law_kind","_law_x","_law_q","_law_hidden","_law_inner","_law_other"] ["_law_cells","_law_names_here","_law_stores"] (aE o9):=⟨U,U,U,Yd,U,Yd,Yd⟩
theorem gG:aM ["_law_script","_law_cell","_law_names_here","_law_asks","_law_stores","_law_body_here"] ["_law_script"] (aE jS):=⟨U,U,U,Yd,U,Yd,Yd⟩
theorem AZ:aM ["_law_script"] ["_law_script"] (aE jT):=⟨U,U,U,Yd,U,Yd,Yd⟩
theorem gI:aM ["_law_block","_law_found_here","_law_deed"] ["_law_block"] (aE o0):=⟨U,U,U,Yd,U,Yd,Yd⟩
theorem uL:aM ["_law_block"] ["_law_block"] (aE jW):=⟨U,U,U,Yd,U,Yd,Yd⟩
theorem dI:aM ["_law_deeds","_law_cards_here","_law_deed","_law_some","_law_card"] ["_law_deeds"] (aE jV):=⟨U,U,U,Yd,U,Yd,Yd⟩
theorem mT:aM ["_law_part","_law_line","_law_at","_law_side_here"] ["_law_part","_law_line"] (aE oa):=⟨U,U,U,Yd,U,Yd,Yd⟩
theorem fJ:aM ["_law_net","_law_givers_here","_law_part","_law_lines","_law_line"] ["_law_net"] (aE nY):=⟨U,U,U,Yd,U,Yd,Yd⟩
theorem eB:aM ["_law_net","_law_givers_here","_law_cards_here","_law_starts","_law_colours","_law_card","_law_last","_law_found_here","_law_todo","_law_line"] ["_law_net","_law_givers_here","_law_cards_here","_law_starts"] (aE o7):=⟨U,U,U,Yd,U,Yd,Yd⟩
theorem mR:aM ["_law_side_here","_law_part","_law_colours","_law_givers_here","_law_line"] ["_law_side_here","_law_part","_law_colours","_law_givers_here"] (aE nV):=⟨U,U,U,Yd,U,Yd,Yd⟩
theorem gH:aM ["_law_net","_law_colours","_law_givers_here","_law_found_here","_law_part","_law_left","_law_right","_law_cards_here"] ["_law_net","_law_colours","_law_givers_here"] (aE jU):=⟨U,U,U,Yd,U,Yd,Yd⟩
theorem iL:aM ["_law_deeds","_law_due_here","_law_deed","_law_cards_here"] ["_law_deeds"] (aE o6):=⟨U,U,U,Yd,U,Yd,Yd⟩
theorem dA:aM ["_law_script","_law_program_here","_law_net","_law_deeds","_law_cards_here","_law_card","_law_starts","_law_x","_law_number","_law_givers_here","_law_colours"] ["_law_script"] (aE fK):=⟨U,U,U,Yd,U,Yd,Yd⟩
set_option genInjectivity false in
structure Adr where
 Hy:Addr
 Hz:FuncData
 HA:Addr
 HB:FuncData
 HC:Addr
 HE:FuncData
 HF:Addr
 HG:FuncData
 HH:Addr
 HI:FuncData
 HJ:Addr
 HK:FuncData
 HL:Addr
 HM:FuncData
 HN:Addr
 HP:FuncData
 HQ:Addr
 HR:FuncData
 HS:Addr
 HU:FuncData
 HV:Addr
 HW:FuncData
 HX:Addr
 HY:FuncData
 GT:Addr
 GU:FuncData
 GV:Addr
 GW:FuncData
 GX:Addr
 GY:FuncData
 GZ:Addr
 Ha:FuncData
 Hc:Addr
 Hd:FuncData
 He:Addr
 Hf:FuncData
 HZ:Addr
 Ia:FuncData
 Ib:Addr
 Ic:FuncData
 Id:Addr
 Ie:FuncData
 Ig:Addr
 Ih:FuncData
 Ii:Addr
 Ij:FuncData
 Ik:Addr
 Il:FuncData
 Im:Addr
 Io:FuncData
 Ip:Addr
 Iq:FuncData
 Gx:Addr
 Gy:FuncData
 Gz:Addr
 GA:FuncData
 Hg:Addr
 Hh:FuncData
 Hi:Addr
 Hj:FuncData
 Hk:Addr
 Hl:FuncData
 GB:Addr
 GC:FuncData
 Ir:Addr
 Iu:FuncData
 Iv:Addr
 Iw:FuncData
 Ix:Addr
 Iy:FuncData
 Iz:Addr
 IA:FuncData
 IB:Addr
 IC:FuncData
 ID:Addr
 IE:FuncData
 IF:Addr
 IG:FuncData
 IH:Addr
 II:FuncData
 IJ:Addr
 IK:FuncData
 IL:Addr
 IM:FuncData
 IN:Addr
 IO:FuncData
 IP:Addr
 IQ:FuncData
 IR:Addr
 IS:FuncData
 IT:Addr
 IU:FuncData
 IV:Addr
 IW:FuncData
 IX:Addr
 IY:FuncData
 IZ:Addr
 J0:FuncData
 J1:Addr
 J2:FuncData
 GD:Addr
 GE:Addr
 J3:Tok
 GF:Addr
 J4:Tok
 om:Addr
structure Fb3(K:W.Frag)(mg:Str->LO)(x:Str)(st:Stmt)(f:Addr)(fd:FuncData)(ps:LS):Prop where
 m:mg x=some (.ref f)
 F:Fun K x x st f fd
 b:cC K fd ps []
theorem aD{k:Nat}{a:LP}{t:TA}{p:Pos}(F:aF X.prog X.w X.K X.mg X.base CX0 k f fd ps sp)(c:bp k X.A)(h:Fb3 X.K X.mg x st f fd ps)(ha:PA X (e::a) t)(hg:Gl X x:=by rfl)(d:gh CX0 X E0:=by exact aT)(hd:(x == ("__debug__":Str))=false:=by decide)(g:starEach (e::a) X.env=(false,eval e X.env)::starEach a X.env:=by rfl)(hp:(backTo pos (starEach a X.env)).any (·.1)=false:=by rfl):PE X (.Call (.Name x p) (e::a) [] pos) (jB sp [] E0 t):=Cd F c hg h.m h.F.kp h.b .nil d ha hd g hp
structure Tx(P:Program)(w:World)(K:W.Frag)(mg:Str->LO)(a:Adr):Prop where
 J5:Fb3 K mg "named" ni a.Hy a.Hz ["block"]
 J6:Fb3 K mg "variables_of" mV a.HA a.HB ["program"]
 Gu:Fb3 K mg "all_deeds" nQ a.HC a.HE ["block"]
 J7:Fb3 K mg "blocks_within" nO a.HF a.HG ["deed"]
 GG:Fb3 K mg "names_in" jP a.HH a.HI ["deed"]
 J8:Fb3 K mg "read_by_set" mY a.HJ a.HK ["deed"]
 Gv:Fb3 K mg "touched" mW a.HL a.HM ["block"]
 J9:Fb3 K mg "other_cards_in" ng a.HN a.HP ["deed"]
 GH:Fb3 K mg "put_card" mZ a.HQ a.HR ["store"]
 GI:Fb3 K mg "get_card" nK a.HS a.HU ["store"]
 Hm:Fb3 K mg "cards_of" nN a.HV a.HW ["program"]
 Ja:Fb3 K mg "beginnings" jR a.HX a.HY ["program","numbers"]
 Jt:Fun K "__init__" "Bench.__init__" oo a.GT a.GU
 Ju:cC K a.GU ["self"] []
 Jv:Fun K "add_line" "Bench.add_line" oj a.GV a.GW
 Gk:cC K a.GW ["self","length","first"] []
 Jw:Fun K "add_wires" "Bench.add_wires" jY a.GX a.GY
 wE:cC K a.GY ["self","count"] []
 Jx:Fun K "add_part" "Bench.add_part" oh a.GZ a.Ha
 wS:cC K a.Ha ["self","part"] []
 Jy:Fun K "wires_of" "Bench.wires_of" jX a.Hc a.Hd
 Ch:cC K a.Hd ["self","cards"] []
 Jz:Fun K "lead" "Bench.lead" og a.He a.Hf
 Cl:cC K a.Hf ["self","cards","wires"] []
 Jb:Fb3 K mg "bench_for" nP a.HZ a.Ia ["program","numbers"]
 Jc:Fb3 K mg "lay_single" nr a.Ib a.Ic ["bench","deed"]
 Hn:Fb3 K mg "lay_fork" nH a.Id a.Ie ["bench","name"]
 Jd:Fb3 K mg "lay_set" jQ a.Ig a.Ih ["bench","deed"]
 Ho:Fb3 K mg "side_of" mX a.Ii a.Ij ["value","sources"]
 Hq:Fb3 K mg "lay_handing" nF a.Ik a.Il ["bench","card","name","end"]
 Je:Fb3 K mg "lay_get" nG a.Im a.Io ["bench","store","name"]
 Jf:Fb3 K mg "net_of" nh a.Ip a.Iq ["program","numbers"]
 GJ:Fb3 K mg "lay_block" nJ a.Gx a.Gy ["bench","block"]
 GK:Fb3 K mg "lay_through" nq a.Gz a.GA ["bench","block","cards","wires"]
 Jg:Fb3 K mg "lay_if" nE a.Hg a.Hh ["bench","deed"]
 Jh:Fb3 K mg "lay_while" nj a.Hi a.Hj ["bench","deed"]
 Ji:Fb3 K mg "lay_repeat" nB a.Hk a.Hl ["bench","rounds","body"]
 Hr:Fb3 K mg "lay_loop" nD a.GB a.GC ["bench","cards","name","body","behind"]
 Jj:Fb3 K mg "_law_names" gJ a.Ir a.Iu ["_law_cell"]
 Gm:Fb3 K mg "_law_pick" nX a.Iv a.Iw ["_law_cell","_law_factor","_law_prime","_law_many"]
 Hs:Fb3 K mg "_law_value" nR a.Ix a.Iy ["_law_number","_law_names_here"]
 Jk:Fb3 K mg "_law_set" nW a.Iz a.IA ["_law_cell","_law_x","_law_names_here"]
 Jl:Fb3 K mg "_law_simple" nU a.IB a.IC ["_law_cell","_law_x","_law_q","_law_names_here","_law_hidden"]
 Jm:Fb3 K mg "_law_body" o9 a.ID a.IE ["_law_cells","_law_names_here","_law_stores"]
 Jn:Fb3 K mg "_law_program" jS a.IF a.IG ["_law_script"]
 Ht:Fb3 K mg "_law_numbers" jT a.IH a.II ["_law_script"]
 Cn:Fb3 K mg "_law_flat" o0 a.IJ a.IK ["_law_block"]
 GL:Fb3 K mg "_law_bare" jW a.IL a.IM ["_law_block"]
 GM:Fb3 K mg "_law_cards" jV a.IN a.IO ["_law_deeds"]
 Jo:Fb3 K mg "_law_back" oa a.IP a.IQ ["_law_part","_law_line"]
 Jp:Fb3 K mg "_law_givers" nY a.IR a.IS ["_law_net"]
 Jq:Fb3 K mg "_law_coloured" o7 a.IT a.IU ["_law_net","_law_givers_here","_law_cards_here","_law_starts"]
 Hu:Fb3 K mg "_law_side" nV a.IV a.IW ["_law_side_here","_law_part","_law_colours","_law_givers_here"]
 Jr:Fb3 K mg "_law_found" jU a.IX a.IY ["_law_net","_law_colours","_law_givers_here"]
 Js:Fb3 K mg "_law_due" o6 a.IZ a.J0 ["_law_deeds"]
 JA:Fb3 K mg "law" fK a.J1 a.J2 ["_law_script"]
 JB:mg "all"=none
 JC:mg "dict"=none
 Hv:mg "isinstance"=none
 r9:mg "len"=none
 GO:mg "list"=none
 JD:mg "min"=none
 GP:mg "range"=none
 Gn:mg "set"=none
 wT:mg "sorted"=none
 vz:mg "str"=none
 Hw:mg "tuple"=none
 GQ:mg "zip"=none
 JE:mg "LOOPS"=some (.ref a.GD)
 Db:∀H:Hp,SqT K H a.GD [.str "while",.str "repeat"]
 JF:mg "LOOKERS"=some (.ref a.GE)
 Go:∀H:Hp,SqT K H a.GE [.str "if",.str "while"]
 Gw:mg "OUTLET"=some (.str ">" a.J3)
 JG:mg "OUTLET_KEEPERS"=some (.ref a.GF)
 Gp:∀H:Hp,SqT K H a.GF [.str "give",.str "while"]
 JH:mg "WHEEL"=some (.int 1000000000000000000000000000000 a.J4)
 JI:mg "Bench"=some (.ref a.om)
 mt:Cls K a.om
 JJ:Mk K a.om a.GT
 Gq:cV K a.om "add_line" a.GV
 wP:cV K a.om "add_wires" a.GX
 At:cV K a.om "add_part" a.GZ
 Ev:cV K a.om "wires_of" a.Hc
 Gj:cV K a.om "lead" a.He
 GR:cU K a.om "lines"
 Hx:cU K a.om "parts"
 Gs:cU K a.om "ends"
 GS:cU K a.om "coming"
theorem Tx.r_LOOPS{a:Adr}(_:Tx P w K mg a):aC (.ref a.GD) (.ref a.GD):=U
theorem Tx.r_LOOKERS{a:Adr}(_:Tx P w K mg a):aC (.ref a.GE) (.ref a.GE):=U
theorem Tx.r_OUTLET{a:Adr}(_:Tx P w K mg a):aC (.str ">") (.str ">" a.J3):=⟨_,U⟩
theorem Tx.r_OUTLET_KEEPERS{a:Adr}(_:Tx P w K mg a):aC (.ref a.GF) (.ref a.GF):=U
theorem Tx.r_WHEEL{a:Adr}(_:Tx P w K mg a):aC (.int 1000000000000000000000000000000) (.int 1000000000000000000000000000000 a.J4):=⟨_,U⟩
theorem p30:(10:Int) ^ (30:Int).toNat=1000000000000000000000000000000:=Yd
inductive tD(vs:LV)(H:Hp)(Q:VK)(E:XK):Prop
 |mk (q:Str) (h0_:vs=[.str q]) (h1_:q.length<=1000) (h2_:Q (.str (q++(">":Str))) H):tD vs H Q E
inductive tN(vs:LV)(H:Hp)(Q:VK)(E:XK):Prop
 |mk (q:Str) (h0_:vs=[.str q]) (h1_:q.length<=1000) (h2_:Q (.str (q++("<":Str))) H):tN vs H Q E
inductive tG(vs:LV)(H:Hp)(Q:VK)(E:XK):Prop
 |mk (H0:Hp) (v:V) (d:aa) (h0_:vs=[v]) (h1_:a9 H0 H) (h2_:RD H0 v d) (h3_:∀H' l,a9 H H'->H l=none->H' l=some (.lst (d.names.map V.str))->Q (.ref l) H'):tG vs H Q E
inductive tP(vs:LV)(H:Hp)(Q:VK)(E:XK):Prop
 |mk (H0:Hp) (v:V) (d:aa) (h0_:vs=[v]) (h1_:a9 H0 H) (h2_:RD H0 v d) (h3_:∀H' l bs,a9 H H'->H l=none->H' l=some (.lst (bs.map V.ref))->RLs H0 bs d.inner->Q (.ref l) H'):tP vs H Q E
inductive tE(vs:LV)(H:Hp)(Q:VK)(E:XK):Prop
 |mk (H0:Hp) (v:V) (d:aa) (h0_:vs=[v]) (h1_:a9 H0 H) (h2_:RD H0 v d) (h3_:(∀k∈d.others,k.length<=1000)) (h4_:∀H' l,a9 H H'->H l=none->H' l=some (.lst (d.others.map V.str))->Q (.ref l) H'):tE vs H Q E
inductive tS(n:Nat)(vs:LV)(H:Hp)(Q:VK)(E:XK):Prop
 |mk (H0:Hp) (b:Addr) (ds:LA) (h0_:vs=[.ref b]) (h1_:a9 H0 H) (h2_:RL H0 b ds) (h3_:aA ds<n) (h4_:(ai ds).length<=1000) (h5_:∀H' l us,a9 H H'->H l=none->H' l=some (.lst us)->RDs H0 us (ai ds)->Q (.ref l) H'):tS n vs H Q E
inductive tu(vs:LV)(H:Hp)(Q:VK)(E:XK):Prop
 |mk (H0:Hp) (b:Addr) (ds:LA) (C:LS) (h0_:vs=[.ref b]) (h1_:a9 H0 H) (h2_:RL H0 b ds) (h3_:aA ds<=12) (h4_:(ai ds).length<=1000) (h5_:(∀k∈cards ds,k∈C)) (h6_:C.length<64) (h7_:(∀k∈C,k.length<=1000) /\
 ∀H' l zs,a9 H H'->H l=none->H' l=some (.lst (zs.map V.str))->zs.Nodup->(∀k,k∈zs↔k∈cards ds)->PyProof.Rows.sortedS zs=true->Q (.ref l) H'):tu vs H Q E
inductive tH(vs:LV)(H:Hp)(Q:VK)(E:XK):Prop
 |mk (b:Addr) (ds:LA) (C:LS) (h0_:vs=[.ref b]) (h1_:RL H b ds) (h2_:aA ds<=12) (h3_:(ai ds).length<=300) (h4_:(∀k∈(ai ds).flatMap aa.names,k∈C)) (h5_:C.length<64) (h6_:∀H' l zs,a9 H H'->H l=none->H' l=some (.lst (zs.map V.str))->zs.Nodup->(∀k,k∈zs↔k∈(ai ds).flatMap aa.names)->PyProof.Rows.sortedS zs=true->Q (.ref l) H'):tH vs H Q E
structure Vrs(ak:LS)(ds:LA)(zs:LS):Prop where
 nd:zs.Nodup
 mem:∀k,k∈zs↔k∈ak\/k∈(ai ds).flatMap aa.names
 so:PyProof.Rows.sortedS zs=true
 few:zs.length<=2000
inductive tq(vs:LV)(H:Hp)(Q:VK)(E:XK):Prop
 |mk (p a0 a1 b:Addr) (ak:LS) (ds:LA) (C:LS) (h0_:vs=[.ref p]) (h1_:H p=some (.tup [.ref a0,.ref a1,.ref b])) (h2_:H a0=some (.lst (ak.map V.str))) (h3_:RL H b ds) (h4_:aA ds<=12) (h5_:(ai ds).length<=300) (h6_:ak.length<=300) (h7_:(∀x∈ak,x∈C)) (h8_:(∀k∈(ai ds).flatMap aa.names,k∈C)) (h9_:C.length<64) (h10_:∀H' l zs,a9 H H'->H l=none->H' l=some (.lst (zs.map V.str))->Vrs ak ds zs->Q (.ref l) H'):tq vs H Q E
noncomputable def b9(ps:LG):aN:=ps.foldl (λf p=>b6 f p.1 (p.2 % 1000000000000000000000000000000)) λ_=>0
inductive tR(vs:LV)(H:Hp)(Q:VK)(E:XK):Prop
 |mk (p a0 a1 b ln:Addr) (ak:LS) (ns:LI) (ds:LA) (C:LS) (h0_:vs=[.ref p,.ref ln]) (h1_:H p=some (.tup [.ref a0,.ref a1,.ref b])) (h2_:H a0=some (.lst (ak.map V.str))) (h3_:H ln=some (.lst (ns.map V.int))) (h4_:RL H b ds) (h5_:aA ds<=12) (h6_:(ai ds).length<=300) (h7_:ak.length<=300) (h8_:ns.length<=300) (h9_:(∀x∈ak,x∈C)) (h10_:(∀k∈(ai ds).flatMap aa.names,k∈C)) (h11_:C.length<64) (h12_:∀H' d zs,a9 H H'->H d=none->H' d=some (.dK (tab zs (b9 (ak.zip ns))))->Vrs ak ds zs->Q (.ref d) H'):tR vs H Q E
inductive tO(vs:LV)(H:Hp)(Q:VK)(E:XK):Prop
 |mk (p la ls lb:Addr) (asks:LS) (ss:LG) (ds:LA) (us:LV) (C:LS) (h0_:vs=[.ref p]) (h1_:RP H p asks ss ds la ls lb us) (h2_:aA ds<=12) (h3_:(ai ds).length<=1000) (h4_:asks.length<=100) (h5_:ss.length<=100) (h6_:(∀s∈ss,s.1.length<=1000)) (h7_:(∀k∈cF asks ss ds,k∈C)) (h8_:C.length<64) (h9_:(∀k∈C,k.length<=1000) /\
 ∀H' l zs,a9 H H'->H' l=some (.lst (zs.map V.str))->zs.Nodup->(∀k,k∈zs↔k∈cF asks ss ds)->PyProof.Rows.sortedS zs=true->Q (.ref l) H'):tO vs H Q E
structure BAd where
 p:Addr
 dx:Addr
 ll:Addr
 lp:Addr
 de:Addr
 dc:Addr
noncomputable def lQ(a:Adr)(dx ll lp de dc:Addr):HO:=.ins a.om dx [("lines",.ref ll),("parts",.ref lp),("ends",.ref de),("coming",.ref dc)]
def TK(H H':Hp):Prop:=∀b xs,H b=some (.tup xs)->H' b=some (.tup xs)
def Ln(H:Hp)(v B:V)(fs:LI):Prop:=∃u f,v=.ref u/\H u=some (.tup [B,.ref f])/\H f=some (.tup (fs.map V.int))
def SdH(H:Hp)(v:V):Sd->Prop
 |.at i=>∃u,v=.ref u/\H u=some (.tup [.str "in",.int i])
 |.is n=>∃u,v=.ref u/\H u=some (.tup [.str "is",.int n])
def PgH(H:Hp)(v:V):PtG->Prop
 |.pas is os rt=>∃u i o r,v=.ref u/\H u=some (.tup [.str "pass",.ref i,.ref o,.ref r])/\H i=some (.tup (is.map V.int))/\H o=some (.tup (os.map V.int))/\H r=some (.tup (rt.map V.int))
 |.wrk is o sg l r=>∃u i x y,v=.ref u/\H u=some (.tup [.str "work",.ref i,.int o,.str sg,x,y])/\H i=some (.tup (is.map V.int))/\SdH H x l/\SdH H y r
 |.cho is w ξ B t=>∃u i o f,v=.ref u/\H u=some (.tup [.str "choose",.ref i,.int w,.ref o,.ref f,.int t])/\H i=some (.tup (is.map V.int))/\H o=some (.tup (ξ.map V.int))/\H f=some (.tup (B.map V.int))
 |.mrg t ξ B F=>∃u o f r,v=.ref u/\H u=some (.tup [.str "merge",.int t,.ref o,.ref f,.ref r])/\H o=some (.tup (ξ.map V.int))/\H f=some (.tup (B.map V.int))/\H r=some (.tup (F.map V.int))
structure BG(a:Adr)(H:Hp)(c:BAd)(es:LS)(fe:aN)(N:ap):Prop where
 ro:H c.p=some (lQ a c.dx c.ll c.lp c.de c.dc)
 eo:H c.de=some (.dK (tab es fe))
 co:H c.dc=some (.dK (tab N.cs N.fc))
 ne:c.ll≠c.lp
 de:c.de≠c.dc
 nd:N.cs.Nodup
 ln:∃ls,H c.ll=some (.lst ls)/\R2s (λv d=>Ln H v d.lg d.on) ls N.ls
 pt:∃ps,H c.lp=some (.lst ps)/\R2s (PgH H) ps N.ps
def Fb(c:BAd)(H H':Hp):Prop:=∀b o,b≠c.ll->b≠c.lp->b≠c.dc->H b=some o->H' b=some o
structure Lt(c:BAd)(H0 H:Hp):Prop where
 e0:a9 H0 H
 n1:H0 c.ll=none
 n2:H0 c.lp=none
 n3:H0 c.dc=none
structure Sm(N:ap)(m:Nat):Prop where
 l:N.ls.length+m<=100000
 p:N.ps.length+m<=100000
 c:N.cs.length+m<=100000
inductive ur(a:Adr)(vs:LV)(H:Hp)(Q:VK)(E:XK):Prop
 |mk (p dx:Addr) (h0_:vs=[.ref p]) (h1_:H p=some (.ins a.om dx [])) (h2_:∀H' ll lp de dc,(∀b o,b≠p->H b=some o->H' b=some o)->H' p=some (lQ a dx ll lp de dc)->H' ll=some (.lst [])->H' lp=some (.lst [])->H' de=some (.dK [])->H' dc=some (.dK [])->H ll=none->H lp=none->H de=none->H dc=none->ll≠lp->de≠dc->Q .non H'):ur a vs H Q E
inductive uq(a:Adr)(vs:LV)(H:Hp)(Q:VK)(E:XK):Prop
 |mk (c:BAd) (es:LS) (fe:aN) (N:ap) (x:V) (f:Addr) (on:LI) (h0_:vs=[.ref c.p,x,.ref f]) (h1_:BG a H c es fe N) (h2_:H f=some (.tup (on.map V.int))) (h3_:Sm N 1) (h4_:∀H' (m:Int),m=N.n->Fb c H H'->BG a H' c es fe (N.line ⟨x,on⟩)->Q (.int m) H'):uq a vs H Q E
inductive um(a:Adr)(vs:LV)(H:Hp)(Q:VK)(E:XK):Prop
 |mk (c:BAd) (es:LS) (fe:aN) (N:ap) (k:Nat) (h0_:vs=[.ref c.p,.int k]) (h1_:BG a H c es fe N) (h2_:k<=1000) (h3_:Sm N k) (h4_:∀H' t,Fb c H H'->BG a H' c es fe (N.wires k)->H t=none->H' t=some (.tup ((wid N.n k).map V.int))->Q (.ref t) H'):um a vs H Q E
inductive uo(a:Adr)(vs:LV)(H:Hp)(Q:VK)(E:XK):Prop
 |mk (c:BAd) (es:LS) (fe:aN) (N:ap) (v:V) (p:PtG) (h0_:vs=[.ref c.p,v]) (h1_:BG a H c es fe N) (h2_:PgH H v p) (h3_:Sm N 1) (h4_:∀H',Fb c H H'->BG a H' c es fe (N.part p)->Q .non H'):uo a vs H Q E
inductive ui(a:Adr)(vs:LV)(H:Hp)(Q:VK)(E:XK):Prop
 |mk (c:BAd) (es:LS) (fe:aN) (N:ap) (lc:Addr) (zs:LS) (h0_:vs=[.ref c.p,.ref lc]) (h1_:BG a H c es fe N) (h2_:H lc=some (.lst (zs.map V.str))) (h3_:zs.length<=1000) (h4_:(∀x∈zs,x∈N.cs)) (h5_:∀H' t,a9 H H'->H t=none->H' t=some (.tup ((zs.map N.fc).map V.int))->Q (.ref t) H'):ui a vs H Q E
inductive uj(a:Adr)(vs:LV)(H:Hp)(Q:VK)(E:XK):Prop
 |mk (c:BAd) (es:LS) (fe:aN) (N:ap) (lc t:Addr) (zs:LS) (ws:LI) (h0_:vs=[.ref c.p,.ref lc,.ref t]) (h1_:BG a H c es fe N) (h2_:H lc=some (.lst (zs.map V.str))) (h3_:H t=some (.tup (ws.map V.int))) (h4_:zs.length=ws.length) (h5_:Sm N zs.length) (h6_:∀H',Fb c H H'->BG a H' c es fe (N.lead zs ws)->Q .non H'):uj a vs H Q E
inductive tM(a:Adr)(vs:LV)(H:Hp)(Q:VK)(E:XK):Prop
 |mk (c:BAd) (es:LS) (fe:aN) (N:ap) (x:Str) (h0_:vs=[.ref c.p,.str x]) (h1_:BG a H c es fe N) (h2_:x∈N.cs) (h3_:Sm N 4) (h4_:∀H',Fb c H H'->BG a H' c es fe (N.fork x)->Q (.int N.n) H'):tM a vs H Q E
inductive tw(vs:LV)(H:Hp)(Q:VK)(E:XK):Prop
 |mk (l:Addr) (zs:LS) (va:Val) (h0_:vs=[va.v,.ref l]) (h1_:H l=some (.lst (zs.map V.str))) (h2_:(∀x∈va.names,x∈zs)) (h3_:zs.length<=100) (h4_:∀H' v,a9 H H'->SdH H' v (bN zs va)->Q v H'):tw vs H Q E
inductive tz(vs:LV)(H:Hp)(Q:VK)(E:XK):Prop
 |mk (p:Addr) (x sg:Str) (va vb:Val) (h0_:vs=[.ref p]) (h1_:H p=some (.tup [.str "set",.str x,va.v,.str sg,vb.v])) (h2_:∀H' l rs,a9 H H'->H l=none->H' l=some (.lst (rs.map V.str))->gg x va vb rs->Q (.ref l) H'):tz vs H Q E
inductive tJ(a:Adr)(vs:LV)(H:Hp)(Q:VK)(E:XK):Prop
 |mk (c:BAd) (es:LS) (fe:aN) (N:ap) (t:Addr) (x sg:Str) (va vb:Val) (h0_:vs=[.ref c.p,.ref t]) (h1_:BG a H c es fe N) (h2_:H t=some (.tup [.str "set",.str x,va.v,.str sg,vb.v])) (h3_:(∀k∈(aa.set x va sg vb).names,k∈N.cs)) (h4_:Sm N 20) (h5_:∀H' rs,gg x va vb rs->Fb c H H'->BG a H' c es fe (N.set x va sg vb rs)->Q .non H'):tJ a vs H Q E
inductive tK(a:Adr)(vs:LV)(H:Hp)(Q:VK)(E:XK):Prop
 |mk (c:BAd) (es:LS) (fe:aN) (N:ap) (d x e:Str) (h0_:vs=[.ref c.p,.str d,.str x,.str e]) (h1_:BG a H c es fe N) (h2_:d∈N.cs) (h3_:x∈N.cs) (h4_:e∈es) (h5_:Sm N 20) (h6_:∀H',Fb c H H'->BG a H' c es fe (N.hand d x (fe e))->Q .non H'):tK a vs H Q E
inductive tL(a:Adr)(vs:LV)(H:Hp)(Q:VK)(E:XK):Prop
 |mk (c:BAd) (es:LS) (fe:aN) (N:ap) (q x:Str) (h0_:vs=[.ref c.p,.str q,.str x]) (h1_:BG a H c es fe N) (h2_:q.length<=1000) (h3_:(q++("<":Str))∈N.cs) (h4_:x∈N.cs) (h5_:q∈es) (h6_:Sm N 20) (h7_:∀H',Fb c H H'->BG a H' c es fe (N.get (q++("<":Str)) x (fe q))->Q .non H'):tL a vs H Q E
structure EO(C es:LS)(d:aa):Prop where
 cd:∀k∈d.cards,k∈C
 st:∀q x,d=.put q x\/d=.get q x->q∈es/\q.length<=1000
structure BO(C es:LS)(ds:LA):Prop where
 all:∀d∈ai ds,EO C es d
 dp:aA ds<=12
 fl:(ai ds).length<=1000
def DO(C es cs:LS)(d:aa):Prop:=BO C es [d]\/∃n,ctN n∈cs/\d=ctD n
inductive tI(a:Adr)(vs:LV)(H:Hp)(Q:VK)(E:XK):Prop
 |mk (c:BAd) (C es:LS) (fe:aN) (N:ap) (v:V) (d:aa) (h0_:vs=[.ref c.p,v]) (h1_:BG a H c es fe N) (h2_:RD H v d) (h3_:d.inner=[]) (h4_:(∀k b,d≠.rep k b)) (h5_:DO C es N.cs d) (h6_:(∀x∈C,x∈N.cs)) (h7_:(">":Str)∈es) (h8_:Sm N 20) (h9_:∀H' N',Fb c H H'->BG a H' c es fe N'->Lay fe N [d] N'->Gr N N' 20->Q .non H'):tI a vs H Q E
def jo(a:Adr)(c:BAd)(es:LS)(fe:aN)(H0 H:Hp)(N:ap)(ds:LA)(Q:ap->Hp->Prop):Prop:=∀H' N',Fb c H H'->BG a H' c es fe N'->Lay fe N ds N'->Gr N N' (wts ds)->Q N' H'
structure c7(a:Adr)(c:BAd)(C es:LS)(fe:aN)(H0 H:Hp)(N:ap):Prop where
 bg:BG a H c es fe N
 lt:Lt c H0 H
 sub:∀x∈C,x∈N.cs
 gt:(">":Str)∈es
 c20:C.length<=20
 c1:∀k∈C,k.length<=1000
inductive jE(a:Adr)(n:Nat)(vs:LV)(H:Hp)(Q:VK)(E:XK):Prop
 |mk (c:BAd) (C es:LS) (fe:aN) (H0:Hp) (N:ap) (b:Addr) (ds:LA) (h0_:vs=[.ref c.p,.ref b]) (h1_:c7 a c C es fe H0 H N) (h2_:RL H0 b ds) (h3_:(∀d∈ds,DO C es N.cs d)) (h4_:aA ds<n) (h5_:Sm N (wts ds)) (h6_:jo a c es fe H0 H N ds λ_ H'=>Q .non H'):jE a n vs H Q E
inductive jC(a:Adr)(n:Nat)(vs:LV)(H:Hp)(Q:VK)(E:XK):Prop
 |mk (c:BAd) (C es:LS) (fe:aN) (H0:Hp) (N:ap) (b lc t:Addr) (ds:LA) (zs:LS) (ws:LI) (h0_:vs=[.ref c.p,.ref b,.ref lc,.ref t]) (h1_:c7 a c C es fe H0 H N) (h2_:RL H0 b ds) (h3_:H0 lc=some (.lst (zs.map V.str))) (h4_:H t=some (.tup (ws.map V.int))) (h5_:zs.length=ws.length) (h6_:zs.length<=30) (h7_:(∀d∈ds,DO C es (N.lead zs ws).cs d)) (h8_:aA ds<n) (h9_:Sm N (zs.length+wts ds)) (h10_:jo a c es fe H0 H (N.lead zs ws) ds λN' H'=>∀H2 t2,a9 H' H2->H' t2=none->H2 t2=some (.tup ((zs.map N'.fc).map V.int))->Q (.ref t2) H2):jC a n vs H Q E
inductive ml(a:Adr)(n:Nat)(vs:LV)(H:Hp)(Q:VK)(E:XK):Prop
 |mk (c:BAd) (C es:LS) (fe:aN) (H0:Hp) (N:ap) (v:V) (x:Str) (t o:LA) (h0_:vs=[.ref c.p,v]) (h1_:c7 a c C es fe H0 H N) (h2_:RD H0 v (.cond x t o)) (h3_:BO C es [.cond x t o]) (h4_:aA [.cond x t o]<n) (h5_:Sm N (wts [.cond x t o])) (h6_:jo a c es fe H0 H N [.cond x t o] λ_ H'=>Q .non H'):ml a n vs H Q E
inductive mi(a:Adr)(n:Nat)(vs:LV)(H:Hp)(Q:VK)(E:XK):Prop
 |mk (c:BAd) (C es:LS) (fe:aN) (H0:Hp) (N:ap) (v:V) (x:Str) (b:LA) (h0_:vs=[.ref c.p,v]) (h1_:c7 a c C es fe H0 H N) (h2_:RD H0 v (.whl x b)) (h3_:BO C es [.whl x b]) (h4_:aA [.whl x b]<n) (h5_:Sm N (wts [.whl x b])) (h6_:jo a c es fe H0 H N [.whl x b] λ_ H'=>Q .non H'):mi a n vs H Q E
inductive mj(a:Adr)(n:Nat)(vs:LV)(H:Hp)(Q:VK)(E:XK):Prop
 |mk (c:BAd) (C es:LS) (fe:aN) (H0:Hp) (N:ap) (k:Int) (l:Addr) (b:LA) (h0_:vs=[.ref c.p,.int k,.ref l]) (h1_:c7 a c C es fe H0 H N) (h2_:RL H0 l b) (h3_:BO C es [.rep k b]) (h4_:aA [.rep k b]<n) (h5_:Sm N (wts [.rep k b])) (h6_:jo a c es fe H0 H N [.rep k b] λ_ H'=>Q .non H'):mj a n vs H Q E
inductive jD(a:Adr)(n:Nat)(vs:LV)(H:Hp)(Q:VK)(E:XK):Prop
 |mk (c:BAd) (C es:LS) (fe:aN) (H0:Hp) (N:ap) (lc b t:Addr) (zs:LS) (x:Str) (ds:LA) (beh:LI) (h0_:vs=[.ref c.p,.ref lc,.str x,.ref b,.ref t]) (h1_:c7 a c C es fe H0 H N) (h2_:H0 lc=some (.lst (zs.map V.str))) (h3_:RL H0 b ds) (h4_:H t=some (.tup (beh.map V.int))) (h5_:zs.length=beh.length) (h6_:zs.length<=21) (h7_:(∀y∈zs,y∈N.cs)) (h8_:x∈zs) (h9_:(∀d∈ds,DO C es N.cs d)) (h10_:aA ds<n) (h11_:Sm N (110+wts ds) /\
 ∀H' N1,Fb c H H'->BG a H' c es fe (N1.loZ zs N.n (zs.map N.fc) beh)->Lay fe (N.loA zs x beh) ds N1->Gr (N.loA zs x beh) N1 (wts ds)->Q .non H'):jD a n vs H Q E
structure rR(H:Hp)(pr la ls lb ln:Addr)(ak:LS)(ss:LG)(ns:LI)(ds:LA)(us:LV)(C:LS):Prop where
 rp:RP H pr ak ss ds la ls lb us
 hn:H ln=some (.lst (ns.map V.int))
 dp:aA ds<=12
 fl:(ai ds).length<=300
 al:ak.length<=100
 sl:ss.length<=100
 nl:ns.length<=300
 akC:∀k∈cF ak ss ds,k∈C
 c20:C.length<=20
 c1:∀k∈C,k.length<=1000
 snd:(esN ss).Nodup
 s1:∀s∈ss,s.1.length<=1000
 st:∀d∈ai ds,∀q x,d=.put q x\/d=.get q x->q∈esN ss
structure yy(ak:LS)(ss:LG)(ds:LA)(zs:LS):Prop where
 nd:zs.Nodup
 mem:∀k,k∈zs↔k∈cF ak ss ds
 so:PyProof.Rows.sortedS zs=true
def Prs(H:Hp)(l:Addr)(zs:LS)(f:aN):Prop:=∃B:LK,H l=some (.lst (B.map V.ref))/\B.length=zs.length/\∀(j:Nat)(t:Addr)(z:Str),B[j]?=some t->zs[j]?=some z->H t=some (.tup [.str z,.int (f z)])
inductive tQ(a:Adr)(vs:LV)(H:Hp)(Q:VK)(E:XK):Prop
 |mk (pr la ls lb ln:Addr) (ak:LS) (ss:LG) (ns:LI) (ds:LA) (us:LV) (C:LS) (h0_:vs=[.ref pr,.ref ln]) (h1_:rR H pr la ls lb ln ak ss ns ds us C /\
 ∀H' c zs,Lt c H H'->BG a H' c (esN ss) (feN ss) (c8 ss zs (b9 (ak.zip ns)))->yy ak ss ds zs->Q (.ref c.p) H'):tQ a vs H Q E
inductive tF(a:Adr)(vs:LV)(H:Hp)(Q:VK)(E:XK):Prop
 |mk (pr la ls lb ln:Addr) (ak:LS) (ss:LG) (ns:LI) (ds:LA) (us:LV) (C:LS) (h0_:vs=[.ref pr,.ref ln]) (h1_:rR H pr la ls lb ln ak ss ns ds us C /\
 ∀H' t c le zs N,a9 H H'->H t=none->H' t=some (.tup [.ref c.ll,.ref c.lp,.ref le])->BG a H' c (esN ss) (feN ss) (N.part (.pas (zs.map N.fc) [] []))->Prs H' le (esN ss) (feN ss)->yy ak ss ds zs->Lay (feN ss) (c8 ss zs (b9 (ak.zip ns))) ds N->Gr (c8 ss zs (b9 (ak.zip ns))) N (wts ds)->Q (.ref t) H'):tF a vs H Q E
inductive tZ(vs:LV)(H:Hp)(Q:VK)(E:XK):Prop
 |mk (c:Int) (h0_:vs=[.int c]) (h1_:(0<=c/\c<1000000000)) (h2_:∀H' l,a9 H H'->H l=none->H' l=some (.lst ((nmN c).map V.str))->Q (.ref l) H'):tZ vs H Q E
inductive tX(vs:LV)(H:Hp)(Q:VK)(E:XK):Prop
 |mk (c f p m:Int) (h0_:vs=[.int c,.int f,.int p,.int m]) (h1_:Builtin.Int.intBits c<=2 ^ 20) (h2_:(0<f/\f<1000000)) (h3_:(0<p/\p<1000000)) (h4_:(0<m/\m<1000000)) (h5_:Q (.int (pkN c f p m)) H):tX vs H Q E
inductive tT(vs:LV)(H:Hp)(Q:VK)(E:XK):Prop
 |mk (n:Int) (l:Addr) (zs:LS) (h0_:vs=[.int n,.ref l]) (h1_:(0<=n/\n<1000000)) (h2_:H l=some (.lst (zs.map V.str))) (h3_:zs.length=6) (h4_:Q (vaN n zs).v H):tT vs H Q E
def lP(H:Hp)(d:aa)(Q:VK):Prop:=∀p xs,H p=none->(∀H',H' p=some (.tup xs)->RD H' (.ref p) d)->Q (.ref p) (upd H p (.tup xs))
inductive mq(vs:LV)(H:Hp)(Q:VK)(E:XK):Prop
 |mk (c:Int) (x:Str) (l:Addr) (zs:LS) (h0_:vs=[.int c,.str x,.ref l]) (h1_:Builtin.Int.intBits c<=2 ^ 20) (h2_:H l=some (.lst (zs.map V.str))) (h3_:zs.length=6) (h4_:lP H (gC c x zs) Q):mq vs H Q E
inductive tU(vs:LV)(H:Hp)(Q:VK)(E:XK):Prop
 |mk (c:Int) (x q:Str) (l:Addr) (zs:LS) (hid:Bool) (h0_:vs=[.int c,.str x,.str q,.ref l,.bl hid]) (h1_:Builtin.Int.intBits c<=2 ^ 20) (h2_:H l=some (.lst (zs.map V.str))) (h3_:zs.length=6) (h4_:lP H (eV c x q zs hid) Q):tU vs H Q E
inductive ue(vs:LV)(H:Hp)(Q:VK)(E:XK):Prop
 |mk (lc ln lr:Addr) (cells:LI) (zs ss:LS) (h0_:vs=[.ref lc,.ref ln,.ref lr]) (h1_:H lc=some (.lst (cells.map V.int))) (h2_:cells.length<=79) (h3_:(∀n∈cells,Builtin.Int.intBits n<=2 ^ 20)) (h4_:H ln=some (.lst (zs.map V.str))) (h5_:H lr=some (.lst (ss.map V.str))) (h6_:zs.length=6) (h7_:ss.length=2) (h8_:∀H' b,a9 H H'->H b=none->RL H' b (io zs ss cells)->Q (.ref b) H'):ue vs H Q E
inductive Ah(vs:LV)(H:Hp)(Q:VK)(E:XK):Prop
 |mk (n:Int) (h0_:vs=[.int n]) (h1_:Q (.bl true) H):Ah vs H Q E
inductive iF(K:W.Frag)(vs:LV)(H:Hp)(Q:VK)(E:XK):Prop
 |mk (a:Addr) (ns:LI) (h0_:vs=[.ref a]) (h1_:SqL K H a (ns.map V.int)) (h2_:ns.length<=63) (h3_:(∀n∈ns,Builtin.Int.intBits n<=2 ^ 20)) (h4_:lO H) (h5_:∀H',Q (.bl true) H'):iF K vs H Q E
def cN(ns:LI):Int:=ns.headD 0 % 1000000000
noncomputable def akN(c:Int):LS:=(List.range (c / 7 % 7).toNat).map λk:Nat=>(nmN c).getD ((c / 5+5 * (k:Int)) % 6).toNat (">":Str)
noncomputable def ssN(c:Int):LG:=[((nmN c).getD 1 (">":Str),1+c / 11 % 2000),(("w":Str),1+c / 13 % 3)]
def ca(ns:LI):LI:=(ns.drop 1).take 79
noncomputable def bdN(ns:LI):LA:=io (nmN (cN ns)) [(nmN (cN ns)).getD 1 (">":Str),("w":Str)] (ca ns)
def cu(ns:LI):LI:=(ns.take 7).map λn=>n % 10000000000000000000000000000000-1000000000000000000000000000000
inductive tW(K:W.Frag)(vs:LV)(H:Hp)(Q:VK)(E:XK):Prop
 |mk (sa:Addr) (ns:LI) (h0_:vs=[.ref sa]) (h1_:SqL K H sa (ns.map V.int)) (h2_:ns.length<=63) (h3_:(∀n∈ns,Builtin.Int.intBits n<=2 ^ 20)) (h4_:∀H' p la ls lb us,a9 H H'->H p=none->RP H' p (akN (cN ns)) (ssN (cN ns)) (bdN ns) la ls lb us->Q (.ref p) H'):tW K vs H Q E
inductive tY(K:W.Frag)(vs:LV)(H:Hp)(Q:VK)(E:XK):Prop
 |mk (sa:Addr) (ns:LI) (h0_:vs=[.ref sa]) (h1_:SqL K H sa (ns.map V.int)) (h2_:ns.length<=63) (h3_:∀H' l,a9 H H'->H l=none->H' l=some (.lst ((cu ns).map V.int))->Q (.ref l) H'):tY K vs H Q E
inductive mw(n:Nat)(vs:LV)(H:Hp)(Q:VK)(E:XK):Prop
 |mk (H0:Hp) (b:Addr) (ds:LA) (h0_:vs=[.ref b]) (h1_:a9 H0 H) (h2_:RL H0 b ds) (h3_:aA ds<n) (h4_:(ai ds).length<=1000) (h5_:∀H' l us,a9 H H'->H l=none->H' l=some (.lst us)->RDs H0 us (ai ds)->Q (.ref l) H'):mw n vs H Q E
inductive ug(n:Nat)(vs:LV)(H:Hp)(Q:VK)(E:XK):Prop
 |mk (H0:Hp) (b:Addr) (ds:LA) (h0_:vs=[.ref b]) (h1_:a9 H0 H) (h2_:RL H0 b ds) (h3_:aA ds<n) (h4_:(ai ds).length<=1000) (h5_:∀H',a9 H H'->Q (.bl (du ds)) H'):ug n vs H Q E
def tbT(ks:LS):LN:=ks.map λk=>(.inr k,.bl true)
inductive mB(vs:LV)(H:Hp)(Q:VK)(E:XK):Prop
 |mk (H0:Hp) (l:Addr) (us:LV) (es:LA) (h0_:vs=[.ref l]) (h1_:a9 H0 H) (h2_:H l=some (.lst us)) (h3_:RDs H0 us es) (h4_:es.length<=1000) (h5_:(∀d∈es,∀q x,d=.put q x\/d=.get q x->q.length<=1000)) (h6_:∀H' d,a9 H H'->H d=none->H' d=some (.dK (tbT ((es.flatMap aa.cards).foldl b7 [])))->Q (.ref d) H'):mB vs H Q E
inductive uh(vs:LV)(H:Hp)(Q:VK)(E:XK):Prop
 |mk (v:V) (p:PtG) (l:Int) (bs:LI) (h0_:vs=[v,.int l]) (h1_:PgH H v p) (h2_:l∈p.ots) (h3_:p.bks l=some bs) (h4_:∀H' b,a9 H H'->H b=none->H' b=some (.lst (bs.map V.int))->Q (.ref b) H'):uh vs H Q E
def GvK(H:Hp)(kvs:LN)(B:LR):Prop:=∀l:Int,(∀v,aR kvs (.inl l)=some v->∃p∈B,l∈p.ots/\PgH H v p)/\∀p∈B,l∈p.ots->(aR kvs (.inl l)).isSome=true
inductive u7(vs:LV)(H:Hp)(Q:VK)(E:XK):Prop
 |mk (t lp:Addr) (x y:V) (ps:LV) (Ps:LR) (h0_:vs=[.ref t]) (h1_:H t=some (.tup [x,.ref lp,y])) (h2_:H lp=some (.lst ps)) (h3_:R2s (PgH H) ps Ps) (h4_:Ps.length<=70000) (h5_:(∀p∈Ps,p.ots.length<=64)) (h6_:(∀p∈Ps,∀is w ξ ofs t,p=.cho is w ξ ofs t->ξ≠[]/\ofs≠[])) (h7_:∀H' d kvs,a9 H H'->H d=none->H' d=some (.dK kvs)->GvK H' kvs Ps->Q (.ref d) H'):u7 vs H Q E
noncomputable def clK(D:Hue)(L:LI):LN:=L.map λl=>(.inl l,.str ((hue D l).getD ""))
def stK(f:aN)(ks:LS):LN:=ks.map λk=>(.inr k,.int (f k))
structure Nd(H:Hp)(t ll lp dg lz ds:Addr)(kg:LN)(D:Hue)(zs:LS)(N:ap)(f:aN)(ks:LS):Prop where
 ht:∃y,H t=some (.tup [.ref ll,.ref lp,y])
 hl:∃lv,H ll=some (.lst lv)/\R2s (λv d=>Ln H v d.lg d.on) lv N.ls
 hp:∃ps,H lp=some (.lst ps)/\R2s (PgH H) ps (N.ps++[.pas (zs.map N.fc) [] []])
 hg:H dg=some (.dK kg)
 gv:GvK H kg N.ps
 hz:H lz=some (.lst (zs.map V.str))
 hd:H ds=some (.dK (stK f ks))
 f0:∀k,k∉ks->f k=0
 nd:zs.Nodup
 fw:zs.length<=100
 nn:N.n<=70000
 on:∀i z,zs[i]?=some z->∃d,N.ls[3+i]?=some d/\d.on=[f z]
inductive uc(vs:LV)(H:Hp)(Q:VK)(E:XK):Prop
 |mk (t ll lp dg lz ds:Addr) (kg:LN) (D:Hue) (zs:LS) (N:ap) (f:aN) (ks due:LS) (h0_:vs=[.ref t,.ref dg,.ref lz,.ref ds]) (h1_:Nd H t ll lp dg lz ds kg D zs N f ks) (h2_:Col D zs N due /\
 ∀H' d L,a9 H H'->H d=none->H' d=some (.dK (clK D L))->(∀l,l∈L↔hue D l≠none)->Q (.ref d) H'):uc vs H Q E
def CoK(D:Hue)(B:LN):Prop:=∀l:Int,aR B (.inl l)=(hue D l).map V.str
inductive tV(vs:LV)(H:Hp)(Q:VK)(E:XK):Prop
 |mk (vs' vp:V) (dc dg:Addr) (kc kg:LN) (D:Hue) (sd:Sd) (is:LI) (o:Int) (sg:Str) (l r:Sd) (ps:LR) (x:Str) (h0_:vs=[vs',vp,.ref dc,.ref dg]) (h1_:SdH H vs' sd) (h2_:PgH H vp (.wrk is o sg l r)) (h3_:H dc=some (.dK kc)) (h4_:H dg=some (.dK kg)) (h5_:CoK D kc) (h6_:GvK H kg ps) (h7_:(∀p∈ps,Fit D 3 p)) (h8_:SdW D ps is sd) (h9_:is≠[]) (h10_:hue D (is.headD 0)=some x) (h11_:SdB sd) (h12_:Q (.str (sd.txt D is)) H):tV vs H Q E
inductive ua(vs:LV)(H:Hp)(Q:VK)(E:XK):Prop
 |mk (t lp dc dg:Addr) (x y:V) (ps:LV) (Ps:LR) (kc kg:LN) (D:Hue) (pe:PtG) (h0_:vs=[.ref t,.ref dc,.ref dg]) (h1_:H t=some (.tup [x,.ref lp,y])) (h2_:H lp=some (.lst ps)) (h3_:R2s (PgH H) ps (Ps++[pe])) (h4_:bq D pe=none) (h5_:H dc=some (.dK kc)) (h6_:H dg=some (.dK kg)) (h7_:CoK D kc) (h8_:GvK H kg Ps) (h9_:(∀p∈Ps,Fit D 3 p/\Wk D Ps p)) (h10_:Ps.length<=70000) (h11_:(∀l z,hue D l=some z->z.length<=1000) /\
 ∀H' l (zs:LS),a9 H H'->H l=none->H' l=some (.lst (zs.map V.str))->zs.Perm (Ps.filterMap (bq D))->PyProof.Rows.sortedS zs=true->Q (.ref l) H'):ua vs H Q E
inductive ub(vs:LV)(H:Hp)(Q:VK)(E:XK):Prop
 |mk (H0:Hp) (la:Addr) (us:LV) (es:LA) (Z:LS) (h0_:vs=[.ref la]) (h1_:a9 H0 H) (h2_:H la=some (.lst us)) (h3_:RDs H0 us es) (h4_:(∀d∈es,aA [d]<=12/\(ai [d]).length<=300/\(∀e∈ai [d],(∀k∈e.cards,k∈Z)/\∀q x,e=.put q x\/e=.get q x->q.length<=1000)/\SmD d)) (h5_:es.length<=300) (h6_:Z.length<=20) (h7_:(∀k∈Z,k.length<=1000) /\
 ∀H' l (zs:LS),a9 H H'->H l=none->H' l=some (.lst (zs.map V.str))->zs.Perm (es.flatMap (bu Z))->PyProof.Rows.sortedS zs=true->Q (.ref l) H'):ub vs H Q E
theorem ln1:1<=sizeLine:=Yk
theorem ln2:2<=sizeLine:=Yk
theorem ln3:3<=sizeLine:=Yk
theorem ln4:4<=sizeLine:=Yk
theorem ln5:5<=sizeLine:=Yk
theorem ln6:6<=sizeLine:=Yk
theorem dY{x:V}{r:LV}:atI (x::r) 0=some x:=show atI (x::r) ((0:Nat):Int)=some x from gc U
theorem yr{x:V}{r:LV}:atI (x::y::r) 1=some y:=show atI (x::y::r) ((1:Nat):Int)=some y from gc U
theorem yq{x z:V}{r:LV}:atI (x::y::z::r) 2=some z:=show atI (x::y::z::r) ((2:Nat):Int)=some z from gc U
theorem rK{x z u:V}:List.lookup ("lines":Str) [(("lines":Str),x),("parts",y),("ends",z),("coming",u)]=some x:=kJ
theorem yi{x z u:V}:List.lookup ("parts":Str) [(("lines":Str),x),("parts",y),("ends",z),("coming",u)]=some y:=(dQ Yd).trans kJ
theorem jg{x z u:V}:List.lookup ("ends":Str) [(("lines":Str),x),("parts",y),("ends",z),("coming",u)]=some z:=(dQ Yd).trans ((dQ Yd).trans kJ)
theorem rL{x z u:V}:List.lookup ("coming":Str) [(("lines":Str),x),("parts",y),("ends",z),("coming",u)]=some u:=(dQ Yd).trans ((dQ Yd).trans ((dQ Yd).trans kJ))
theorem aX{k:Str}{x z u:V}(h:((k == ("lines":Str)) || (k == ("parts":Str)) || (k == ("ends":Str)) || (k == ("coming":Str)))=false):List.lookup k [(("lines":Str),x),("parts",y),("ends",z),("coming",u)]=none:=by
 simp only[Bool.or_eq_false_iff]at h;rw[dQ h.1.1.1,dQ h.1.1.2,dQ h.1.2,dQ h.2]
 rfl
section
variable {a:Adr}
theorem oR(T:Tx P w K mg a):aF P w K mg base CX0 1 a.HQ a.HR ["store"] tD:=by
 refine T.GH.F.ok AT (by walk_at "l") λ_ A outer s H vs Q E _ h=>?_;obtain⟨q,rfl,_,k⟩:=h;exists _,(aq (aK (ay bY (pq 0) av)));walk_at "q";exact⟨_,U,_,_,U,U,aJ (m:=1001) (by show q.length+1<=1001;lia),k⟩
theorem oU(T:Tx P w K mg a):aF P w K mg base CX0 1 a.HS a.HU ["store"] tN:=by
 refine T.GI.F.ok AW (by walk_at "l") λ_ A outer s H vs Q E _ h=>?_;obtain⟨q,rfl,_,k⟩:=h;exists _,(aq (aK (ay bY (pq 0) av)));walk_at "q";exact⟨_,U,_,_,U,U,aJ (m:=1001) (by show q.length+1<=1001;lia),k⟩
theorem CV(T:Tx P w K mg a):aF P w K mg base CX0 1 a.HF a.HG ["deed"] tP:=by
 refine T.J7.F.ok AX (by walk_at "l") λ_ A outer s H vs Q E _ h=>?_;obtain⟨f,v,d,rfl,e0,hd,k⟩:=h
 refine⟨_,(ao (aO (aI aZ (aj ar (pq 0) af Oy) av (aP _)) (aq (aK (aG (a8 (aj ar (pq 0) af Oy) (a8 (aj ar (pq 0) af Oy) ae))))) bh)
  (ao (aO (aI dN (aj ar (pq 0) af Oy) (eD U T.JE T.r_LOOPS) (by with_unfolding_all rfl)) (aq (aK (aG (a8 (aj ar (pq 0) af Oy) ae)))) bh)
  (aq (aK (aG ae))))),?_⟩
 walk_at "q";have nil:∀p,H p=none->d.inner=[]->Q (.ref p) (upd H p (.lst [])):=λp hp z=>k _ p [] (a9.new hp _) hp ah (by rw[z];exact .nil);have one:∀p b bs,H p=none->d.inner=[bs]->RL f b bs->Q (.ref p) (upd H p (.lst [.ref b])):=λp b bs hp z hb=>k _ p [b] (a9.new hp _) hp ah (by rw[z];exact .cons hb .nil)
 cases hd with
 |cond h c e=>
  exists _,U,_,_,_,_,U,U,SqT.of (e0 _ _ h),U,U,_,U;walk_at "yes";refine⟨_,U,_,_,_,_,U,U,SqT.of (e0 _ _ h),U,_,U,_,_,_,_,U,U,SqT.of (e0 _ _ h),U,ln2,λp hp=>?_⟩;exact k _ p [_,_] (a9.new hp _) hp ah (.cons c (.cons e .nil))
 |whl h c=>
  exists _,U,_,_,_,_,U,U,SqT.of (e0 _ _ h),U,U,_,U;walk_at "no";exists _,U,_,_,_,_,U,U,SqT.of (e0 _ _ h),U,_,_,U,.inr (T.Db _),U,U,_,U;walk_at "yes";exact⟨_,U,_,_,_,_,U,U,SqT.of (e0 _ _ h),U,ln1,λp hp=>one p _ _ hp U c⟩
 |rep h c=>
  exists _,U,_,_,_,_,U,U,SqT.of (e0 _ _ h),U,U,_,U;walk_at "no";exists _,U,_,_,_,_,U,U,SqT.of (e0 _ _ h),U,_,_,U,.inr (T.Db _),U,U,_,U;walk_at "yes";exact⟨_,U,_,_,_,_,U,U,SqT.of (e0 _ _ h),U,ln1,λp hp=>one p _ _ hp U c⟩
 |set h=>
  exists _,U,_,_,_,_,U,U,SqT.of (e0 _ _ h),U,U,_,U;walk_at "no";exists _,U,_,_,_,_,U,U,SqT.of (e0 _ _ h),U,_,_,U,.inr (T.Db _),U,U,_,U;walk_at "no";exact⟨qr _,λp hp=>nil p hp U⟩
 |put h=>
  exists _,U,_,_,_,_,U,U,SqT.of (e0 _ _ h),U,U,_,U;walk_at "no";exists _,U,_,_,_,_,U,U,SqT.of (e0 _ _ h),U,_,_,U,.inr (T.Db _),U,U,_,U;walk_at "no";exact⟨qr _,λp hp=>nil p hp U⟩
 |get h=>
  exists _,U,_,_,_,_,U,U,SqT.of (e0 _ _ h),U,U,_,U;walk_at "no";exists _,U,_,_,_,_,U,U,SqT.of (e0 _ _ h),U,_,_,U,.inr (T.Db _),U,U,_,U;walk_at "no";exact⟨qr _,λp hp=>nil p hp U⟩
 |give h=>
  exists _,U,_,_,_,_,U,U,SqT.of (e0 _ _ h),U,U,_,U;walk_at "no";exists _,U,_,_,_,_,U,U,SqT.of (e0 _ _ h),U,_,_,U,.inr (T.Db _),U,U,_,U;walk_at "no";exact⟨qr _,λp hp=>nil p hp U⟩
theorem CH(T:Tx P w K mg a):aF P w K mg base CX0 2 a.HN a.HP ["deed"] tE:=by
 refine T.J9.F.ok AU (by walk_at "l") λ_ A outer s H vs Q E b h=>?_;obtain⟨_,v,d,rfl,e0,hd,hk,k⟩:=h
 refine⟨_,(ao (aO (aI aZ (aj ar (pq 0) af Oy) av (aP _)) (aq (aK (aG (a8 (aD (oR T) (b.mono Yk) T.GH (a8 (aj ar (pq 0) af Oy) ae)) ae)))) bh)
  (ao (aO (aI aZ (aj ar (pq 0) af Oy) av (aP _)) (aq (aK (aG (a8 (aD (oU T) (b.mono Yk) T.GI (a8 (aj ar (pq 0) af Oy) ae)) ae)))) bh)
  (aq (aK (oN (aI dN (aj ar (pq 0) af Oy) (eD U T.JG T.r_OUTLET_KEEPERS) (by with_unfolding_all rfl)) (aG (a8 (eD U T.Gw T.r_OUTLET) ae)) (aG ae)))))),?_⟩
 walk_at "q"
 have fin:∀p xs,H p=none->d.others.map V.str=xs->Q (.ref p) (upd H p (.lst xs)):=λp xs hp z=>by
  subst z;exact k _ p (a9.new hp _) hp ah
 have bG:∀q z:Str,q++z∈d.others->q.length<=1000:=λq z e=>by
  have:=hk _ e;rw[A7]at this;lia
 cases hd with
 |put h=>
  exists _,U,_,_,_,_,U,U,SqT.of (e0 _ _ h),U,U,_,U;walk_at "yes";exact⟨_,U,_,_,_,_,U,U,SqT.of (e0 _ _ h),U,_,U,bG _ ">" (by simp[aa.others]),ln1,λp hp=>fin p _ hp U⟩
 |get h=>
  exists _,U,_,_,_,_,U,U,SqT.of (e0 _ _ h),U,U,_,U;walk_at "no";exists _,U,_,_,_,_,U,U,SqT.of (e0 _ _ h),U,U,_,U;walk_at "yes";exact⟨_,U,_,_,_,_,U,U,SqT.of (e0 _ _ h),U,_,U,bG _ "<" (by simp[aa.others]),ln1,λp hp=>fin p _ hp U⟩
 |give h=>
  exists _,U,_,_,_,_,U,U,SqT.of (e0 _ _ h),U,U,_,U;walk_at "no";exists _,U,_,_,_,_,U,U,SqT.of (e0 _ _ h),U,U,_,U;walk_at "no";exists _,U,_,_,_,_,U,U,SqT.of (e0 _ _ h),U,_,_,U,.inr (T.Gp _),U,U,_,U;walk_at "yes";exact⟨Yk,λp hp=>fin p _ hp U⟩
 |whl h c=>
  exists _,U,_,_,_,_,U,U,SqT.of (e0 _ _ h),U,U,_,U;walk_at "no";exists _,U,_,_,_,_,U,U,SqT.of (e0 _ _ h),U,U,_,U;walk_at "no";exists _,U,_,_,_,_,U,U,SqT.of (e0 _ _ h),U,_,_,U,.inr (T.Gp _),U,U,_,U;walk_at "yes";exact⟨Yk,λp hp=>fin p _ hp U⟩
 |set h=>
  exists _,U,_,_,_,_,U,U,SqT.of (e0 _ _ h),U,U,_,U;walk_at "no";exists _,U,_,_,_,_,U,U,SqT.of (e0 _ _ h),U,U,_,U;walk_at "no";exists _,U,_,_,_,_,U,U,SqT.of (e0 _ _ h),U,_,_,U,.inr (T.Gp _),U,U,_,U;walk_at "no";exact⟨Yk,λp hp=>fin p _ hp U⟩
 |cond h c _=>
  exists _,U,_,_,_,_,U,U,SqT.of (e0 _ _ h),U,U,_,U;walk_at "no";exists _,U,_,_,_,_,U,U,SqT.of (e0 _ _ h),U,U,_,U;walk_at "no";exists _,U,_,_,_,_,U,U,SqT.of (e0 _ _ h),U,_,_,U,.inr (T.Gp _),U,U,_,U;walk_at "no";exact⟨Yk,λp hp=>fin p _ hp U⟩
 |rep h c=>
  exists _,U,_,_,_,_,U,U,SqT.of (e0 _ _ h),U,U,_,U;walk_at "no";exists _,U,_,_,_,_,U,U,SqT.of (e0 _ _ h),U,U,_,U;walk_at "no";exists _,U,_,_,_,_,U,U,SqT.of (e0 _ _ h),U,_,_,U,.inr (T.Gp _),U,U,_,U;walk_at "no";exact⟨Yk,λp hp=>fin p _ hp U⟩
noncomputable def mf(vs:LV):LV:=vs.filter λv=>match v with|.str _=>true|_=>false
theorem oT(T:Tx P w K mg a):aF P w K mg base CX0 1 a.HH a.HI ["deed"] tG:=by
 refine T.GG.F.ok uF (by walk_at "l") λr A outer s H vs Q E C h=>?_;obtain⟨G,v,d,rfl,e0,hd,k⟩:=h
 refine⟨_,(ao (ax (i:=1) uF.nd U Oi (aj ar (pq 0) af Oy))
  (ao (aO (aI aZ (pq 1) av (aP _)) (aq (aK (dM (k:=1) (Nc:=["word"]) (js:=[]) (show b5 (aE jP) ["deed","kind"] _ 1 ["word"] []from b5.mk U (by decide +kernel) (by decide +kernel) (by decide +kernel) U (by decide +kernel)) U (oJ (aS (a8 (aj ar (pq 0) af Oy) (a8 (aj ar (pq 0) af Oy) (a8 (aj ar (pq 0) af Oy) ae))))) (λ_ _ _ _ _=>(aY (i:=0) (show List.Nodup (["word"]:LS)from by decide +kernel) U Oi)) (λ_ _ _ _ _=>(vt (gL (bv (uY (K:=K) U) U T.Hv PyProof.Rows.Boot.«isinstance» (a8 (pq 0) (a8 (oP (v:=.ty "str") U T.vz PyProof.Rows.Boot.«str» rfl) ae)))))) (λ_ _ _ _ _=>(pq 0))))) bh)
  (ao (aO (aI aZ (pq 1) av (aP _)) (aq (aK (aG ae))) bh)
  (aq (aK (oN (aI dN (pq 1) (eD U T.JF T.r_LOOKERS) (by with_unfolding_all rfl)) (aG (a8 (aj ar (pq 0) af Oy) ae)) (aG (a8 (aj ar (pq 0) (d6 cW af) Oy) ae)))))))),?_⟩
 walk_at "q"
 have fin:∀j p xs,a9 H j->j p=none->d.names.map V.str=xs->Q (.ref p) (upd j p (.lst xs)):=λj p xs e hp z=>by
  subst z;refine k _ p (e.trans (a9.new hp _)) ?_ ah
  cases q:H p with
  |none=>rfl
  |some o=>rw[e _ _ q]at hp;cases hp
 cases hd with
 |set h=>
  rename_i p x c I b;exists _,U,_,_,_,_,U,U,SqT.of (e0 _ _ h),U;exists _,U,U,_,U;walk_at "yes";refine⟨_,U,_,_,_,_,U,U,SqT.of (e0 _ _ h),U,_,U,_,_,_,_,U,U,SqT.of (e0 _ _ h),U,_,U,_,_,_,_,U,U,SqT.of (e0 _ _ h),U,ln3,λt ht=>⟨t,U,⟨_,SqT.of ah⟩,?_⟩⟩;refine xU (K:=K) (a:=t) (xs:=[.str x,c.v,b.v]) (λi ys g f=>f=upd H t (.tup [.str x,c.v,b.v])/\(∃u,g=[u])/\ys=mf (([.str x,c.v,b.v]:LV).take i)) ⟨U,⟨_,U⟩,U⟩ ?_ ln3 ?_ ?_ ?_
  .rintro i ys g f hi ⟨_,_,rfl⟩;refine qx (List.length_filter_le _ _) ?_;rw[qJ];lia
  .rintro i ys g f ⟨rfl,_⟩;exact SqT.of ah
  .rintro i z ys g f hz ⟨rfl,⟨u,rfl⟩,rfl⟩;have l:z=.str x\/z=c.v\/z=b.v:=by simpa using qy hz
   have kind:(∃y,z=.str y)\/∃n,z=.int n:=by
    rcases l with rfl|rfl|rfl
    .exact .inl ⟨_,U⟩
    .cases c<;>simp[Val.v]
    .cases b<;>simp[Val.v]
   rcases kind with⟨y,rfl⟩|⟨n,rfl⟩
   .exists _,U,_,_,_,true,U,.str y,U,_,U;refine Ef ⟨_,U,U,⟨_,U⟩,?_⟩;rw[qq,hz];simp[mf]
   .exists _,U,_,_,_,false,U,.int n,U,_,U;refine kS ⟨U,⟨_,U⟩,?_⟩;rw[qq,hz];simp[mf]
  .rintro ys g f ⟨rfl,_,rfl⟩ D m;refine fin _ D _ (a9.new ht _) m ?_;cases c<;>cases b<;>rfl
 |rep h e=>
  exists _,U,_,_,_,_,U,U,SqT.of (e0 _ _ h),U;exists _,U,U,_,U;walk_at "no";exists _,U,U,_,U;walk_at "yes";exact⟨qr _,λp hp=>fin H p _ (a9.refl H) hp U⟩
 |cond h e B=>
  exists _,U,_,_,_,_,U,U,SqT.of (e0 _ _ h),U;exists _,U,U,_,U;walk_at "no";exists _,U,U,_,U;walk_at "no";exists _,U,_,_,U,.inr (T.Go _),U,U,_,U;walk_at "yes";exact⟨_,U,_,_,_,_,U,U,SqT.of (e0 _ _ h),U,ln1,λp hp=>fin H p _ (a9.refl H) hp U⟩
 |whl h e=>
  exists _,U,_,_,_,_,U,U,SqT.of (e0 _ _ h),U;exists _,U,U,_,U;walk_at "no";exists _,U,U,_,U;walk_at "no";exists _,U,_,_,U,.inr (T.Go _),U,U,_,U;walk_at "yes";exact⟨_,U,_,_,_,_,U,U,SqT.of (e0 _ _ h),U,ln1,λp hp=>fin H p _ (a9.refl H) hp U⟩
 |put h=>
  exists _,U,_,_,_,_,U,U,SqT.of (e0 _ _ h),U;exists _,U,U,_,U;walk_at "no";exists _,U,U,_,U;walk_at "no";exists _,U,_,_,U,.inr (T.Go _),U,U,_,U;walk_at "no";exact⟨_,U,_,U,_,_,_,_,U,U,SqT.of (e0 _ _ h),U,ln1,λp hp=>fin H p _ (a9.refl H) hp U⟩
 |get h=>
  exists _,U,_,_,_,_,U,U,SqT.of (e0 _ _ h),U;exists _,U,U,_,U;walk_at "no";exists _,U,U,_,U;walk_at "no";exists _,U,_,_,U,.inr (T.Go _),U,U,_,U;walk_at "no";exact⟨_,U,_,U,_,_,_,_,U,U,SqT.of (e0 _ _ h),U,ln1,λp hp=>fin H p _ (a9.refl H) hp U⟩
 |give h=>
  exists _,U,_,_,_,_,U,U,SqT.of (e0 _ _ h),U;exists _,U,U,_,U;walk_at "no";exists _,U,U,_,U;walk_at "no";exists _,U,_,_,U,.inr (T.Go _),U,U,_,U;walk_at "no";exact⟨_,U,_,U,_,_,_,_,U,U,SqT.of (e0 _ _ h),U,ln1,λp hp=>fin H p _ (a9.refl H) hp U⟩
theorem xu(h:ds[i]?=some d):ai (ds.take (i+1))=ai (ds.take i)++(d::d.inner.flatMap ai):=by
 rw[qq,h,dk];show _++ai [d]=_;rw[ai,ai,qw,dE]
theorem lH:∀{ds:LA}{i:Nat}{d:aa},ds[i]?=some d->d.depth<=aA ds
 |[],i,d,h=>by simp at h
 |x::r,0,d,h=>by simp at h;subst h;rw[aA];lia
 |x::r,i+1,d,h=>by
  simp only[List.getElem?_cons_succ]at h;have:=lH h;rw[aA];lia
theorem i5{b:LA}(h:d.inner[j]?=some b):aA b<d.depth:=by
 have a:=qy h;cases d<;>simp[aa.inner]at a
 .rcases a with rfl|rfl<;>rw[aa.depth]<;>lia
 .subst a;rw[aa.depth];lia
 .subst a;rw[aa.depth];lia
theorem pX:(ai (ds.take i)).length<=(ai ds).length:=by
 have:ai ds=ai (ds.take i)++ai (ds.drop i):=by rw[<- dk,Qu]
 rw[this,qa];lia
theorem vS(T:Tx P w K mg a):∀n:Nat,aF P w K mg base CX0 (n+2) a.HC a.HE ["block"] (tS n):=by
 intro n
 induction n with
 |zero=>
  refine T.Gu.F.ok iK (by walk_at "l") λa2 A outer s H vs Q E N h=>?_
  .obtain⟨_,_,_,_,_,_,h0,_⟩:=h;exact Q5 h0 (Qy _)
 |succ n ih=>
  refine T.Gu.F.ok iK (by walk_at "l") λa2 A outer s H vs Q E N h=>?_;obtain⟨C,b,ds,rfl,e0,hb,a4,Y,k⟩:=h
  refine⟨_,(ao (ax (i:=1) iK.nd U Oi (aG ae))
   (ao (bO PassesOwn.never U (bJ (pq 0)) (aY (i:=2) iK.nd U Oi)
   (ao (aL (b4 qf qu qv bS (pq 1) (a8 (pq 2) ae)))
   (aq (bO PassesOwn.never U (bJ (aD (CV T) (N.mono Yo) T.J7 (a8 (pq 2) ae))) (aY (i:=3) iK.nd U Oi)
   (aq (aL (b4 qf Qo Qn iY (pq 1) (a8 (aD ih (N.mono Yo) T.Gu (a8 (pq 3) ae)) ae))))))))
   (aq (aK (pq 1))))),?_⟩
  walk_at "q";obtain⟨L,I⟩:=hb;rename_i vs;refine⟨qr _,λf v=>?_⟩;have S:=a9.none e0 v;exists _,U,b,U,⟨_,SqL.of ((a9.new v _) _ _ (e0 _ _ L))⟩;refine c9 (K:=K) (a:=b) (xs:=vs) (λi o r=>∃us v2 v3,o=[some (.ref b),some (.ref f),v2,v3]/\a9 H r/\r f=some (.lst us)/\RDs C us (ai (ds.take i))) ⟨[],_,_,U,a9.new v _,ah,.nil⟩ ?_ ?_ ?_
  .rintro i o r _ ⟨us,v2,v3,_,B,_,_⟩;exact SqL.of (B _ _ (e0 _ _ L))
  .rintro i x o r hx ⟨us,v2,v3,rfl,B,t,p⟩;obtain⟨d,hd,J⟩:=I.at i x hx;have lu:us.length<=1000:=by rw[p.len];exact qx pX Y
   exists _,U,.inl ⟨U,_,SqL.of t⟩,_,U,f,_,_,U,U,t,aJ (m:=1001) Yo;have s3:a9 C (upd r f (.lst (us++[x]))):=a9.over (e0.trans B) S;refine⟨_,U,C,x,d,U,s3,J,λH4 l bs Z nl hl G=>⟨l,U,⟨_,SqL.of hl⟩,?_⟩⟩;have lf:l≠f:=λz=>by rw[z,ah]at nl;cases nl
   have all:ai (ds.take (i+1))=ai (ds.take i)++([d]++d.inner.flatMap ai):=xu hd
   refine c9 (K:=K) (a:=l) (xs:=bs.map V.ref) (λj o y=>∃g v3,o=[some (.ref b),some (.ref f),some x,v3]/\a9 H y/\y f=some (.lst g)/\y l=some (.lst (bs.map V.ref))/\RDs C g (ai (ds.take i)++([d]++(d.inner.take j).flatMap ai)))
    ⟨us++[x],_,U,(a9.over B v).trans Z,Z _ _ ah,hl,p.app (.cons J .nil)⟩ ?_ ?_ ?_
   .rintro j o y _ ⟨g,v3,_,_,_,u,_⟩;exact SqL.of u
   .rintro j z o y hz ⟨g,v3,rfl,D,q,u,c⟩;rw[qD]at hz;obtain⟨bj,a1,rfl⟩:=qP.mp hz;obtain⟨W,M,a0⟩:=G.at j bj a1;have dd:=lH hd;have di:=i5 M
    have st:(d.inner.take (j+1)).flatMap ai=(d.inner.take j).flatMap ai++ai W:=by
     rw[qq,M,qU];simp
    have pre:(ai (ds.take i)++([d]++(d.inner.take (j+1)).flatMap ai)).length<=1000:=by
     have e:d.inner.flatMap ai=(d.inner.take (j+1)).flatMap ai++(d.inner.drop (j+1)).flatMap ai:=by rw[<- qU,Qu]
     have:=pX (ds:=ds) (i:=i+1);rw[all,e]at this;simp only[qa]at this ⊢;lia
    rw[st]at pre;simp only[qa]at pre;have a3:g.length<=1000:=by rw[c.len];simp only[qa];lia
    refine⟨_,U,.inl ⟨U,_,SqL.of q⟩,_,U,C,bj,W,U,e0.trans D,a0,Yo,Yo,λH6 l6 R K0 X h6 r6=>?_⟩;have f6:l6≠f:=λz=>by rw[z,q]at X;cases X
    exists f,l6,_,_,U,U,K0 _ _ q,h6,aJ (m:=2000) (by rw[r6.len];lia);refine⟨g++R,_,U,a9.over (D.trans K0) v,ah,?_,?_⟩
    .rw[au lf];exact K0 _ _ u
    .rw[st,<- qM,<- qM];rw[<- qM]at c;exact c.app r6
   .rintro o y ⟨g,v3,rfl,D,q,u,c⟩;exists g,_,_,U,D,q;rw[all];rw[q5,G.len,qG]at c;exact c
  .rintro o r ⟨us,v2,v3,rfl,B,t,p⟩;rw[I.len,qG]at p;exact⟨_,U,k r f us B v t p⟩
theorem oZ:∀(l:LA),(l.flatMap aa.names).length<=3 * l.length
 |[]=>by simp
 |d::r=>by
  have h1:d.names.length<=3:=by
   cases d with
   |set x a _ b=>cases a<;>cases b<;>simp[aa.names,Val.names]
   |_=>simp[aa.names]
  have c:=oZ r;rw[qE,qa,qz];lia
theorem CJ(T:Tx P w K mg a):aF P w K mg base CX0 16 a.Hy a.Hz ["block"] tH:=by
 refine T.J5.F.ok mO (by walk_at "l") λ_ A outer s H vs Q E G h=>?_;obtain⟨b,ds,C,rfl,hb,dp,_,W,J,k⟩:=h
 refine⟨_,(ao (ax (i:=1) mO.nd U Oi (aG ae))
  (ao (bO PassesOwn.never U (bJ (aD (vS T 13) (G.mono Yk) T.Gu (a8 (pq 0) ae))) (aY (i:=2) mO.nd U Oi)
  (aq (aL (b4 qf Qo Qn iY (pq 1) (a8 (aD (oT T) (G.mono Yk) T.GG (a8 (pq 2) ae)) ae)))))
  (aq (aK (bv (jf U) U T.wT PyProof.Rows.Boot.«sorted» (a8 (bF (g9 U) U T.Gn PyProof.Rows.Boot.«set» (a8 (pq 1) ae)) ae)))))),?_⟩
 walk_at "q";refine⟨qr _,λc B=>?_⟩;refine⟨_,U,H,b,ds,U,a9.new B _,hb,Yo,Yo,λ_ l us M nl hl u=>⟨l,U,⟨_,SqL.of hl⟩,?_⟩⟩;generalize hfl:ai ds=fl at *;have N:l≠c:=λz=>by rw[z,ah]at nl;cases nl
 have few:∀i,((fl.take i).flatMap aa.names).length<=900:=λi=>by
  have:=oZ (fl.take i);rw[qJ]at this;lia
 refine c9 (K:=K) (a:=l) (xs:=us) (λi n f=>∃v,n=[some (.ref b),some (.ref c),v]/\a9 H f/\f c=some (.lst (((fl.take i).flatMap aa.names).map V.str))/\f l=some (.lst us)) ⟨_,U,(a9.new B _).trans M,M _ _ ah,hl⟩ ?_ ?_ ?_
 .rintro i n f _ ⟨v,_,_,_,h⟩;exact SqL.of h
 .rintro i x n f X ⟨v,rfl,g,e,y⟩;obtain⟨d,hd,L⟩:=u.at i x X;have j:=few (i+1);rw[qq,hd]at j
  have Z:((fl.take i).flatMap aa.names).length+d.names.length<=900:=by
   simpa[qU]using j
  refine⟨_,U,.inl ⟨U,_,SqL.of e⟩,_,U,H,x,d,U,g,L,λ_ Y D _ R=>?_⟩;exists c,Y,_,_,U,U,D _ _ e,R,aJ (m:=3000) (by rw[q5,q5];lia);refine⟨_,U,a9.over (g.trans D) B,?_,?_⟩
  .rw[ah,qq,hd];simp[qU]
  .rw[au N];exact D _ _ y
 .rintro n f ⟨v,rfl,g,e,y⟩;rw[u.len,qG]at e;have j:=few fl.length;rw[qG]at j;refine⟨_,U,c,fl.flatMap aa.names,U,SqL.of e,Yo,λp hp=>?_⟩;refine⟨p,fl.flatMap aa.names,C,U,ah,W,J,λr zs t nd K0 so=>?_⟩;have S:=a9.none g hp
  have I:H r=none:=by
   refine a9.none g ?_
   cases q:f r with
   |none=>rfl
   |some o=>
    have:r≠p:=bP q hp;rw[au this,q]at t;cases t
  exact k _ r zs (a9.over (a9.over g S) I) I ah nd K0 so
theorem CF(T:Tx P w K mg a):aF P w K mg base CX0 17 a.HA a.HB ["program"] tq:=by
 refine T.J6.F.ok AQ (by walk_at "l") λ_ A outer s H vs Q E L h=>?_;obtain⟨p,a0,_,b,c,ds,C,rfl,hp,h0,hb,dp,hl,al,akC,G,j,q⟩:=h;exists _,(aq (aK (bv (jf U) U T.wT PyProof.Rows.Boot.«sorted» (a8 (ay Co (bF (g9 U) U T.Gn PyProof.Rows.Boot.«set» (a8 (aj ar (pq 0) af Oy) ae)) (bF (g9 U) U T.Gn PyProof.Rows.Boot.«set» (a8 (aD (CJ T) (L.mono Yk) T.J5 (a8 (aj ar (pq 0) af Oy) ae)) ae))) ae))));walk_at "q";refine⟨_,U,p,_,_,_,U,U,SqT.of hp,dY,a0,c,U,SqL.of h0,Yo,λs1 B=>?_⟩;have r:=a9.new B (bi P w s1 c);have D:upd H s1 (bi P w s1 c) s1=some (bi P w s1 c):=ah;refine⟨_,U,p,_,_,_,U,U,SqT.of (r _ _ hp),yq,b,ds,C,U,RL.same r hb,dp,hl,G,j,λy l2 zs n n2 M nd mem so=>?_⟩
 have S:zs.length<=900:=by
  have l1:=bX nd λx t=>(mem x).mp t;have:=oZ (ai ds);lia
 refine⟨l2,zs,U,SqL.of M,Yo,λd g=>?_⟩;have u:=a9.new g (bi P w d zs);have K0:upd y d (bi P w d zs) d=some (bi P w d zs):=ah;have n3:s1≠d:=λz=>by rw[<- z,n _ _ D]at g;cases g
 refine⟨s1,d,c,zs,c,zs,U,U,n3,u _ _ (n _ _ D),K0,λk hk=>hk,Yo,λk hk=>hk,Yo,λe I=>?_⟩;have J:=a9.new I (bi P w e (c++zs));have N:upd (upd y d (bi P w d zs)) e (bi P w e (c++zs)) e=some (bi P w e (c++zs)):=ah;have l:=r.trans (n.trans (u.trans J));refine⟨e,c++zs,C,U,N,λk hk=>(qg.mp hk).elim (akC k) (λh=>G k ((mem k).mp h)),j,λR ys m i f v=>?_⟩
 have o:ys.length<=2000:=by
  have:=bX i λx t=>(f x).mp t;rw[qa]at this;lia
 exact q _ R ys (l.trans (a9.new m _)) (a9.none l m) ah ⟨i,λk=>by rw[f k,qg,mem k],v,o⟩
theorem bC{x:Addr}{o:HO}(h:upd H x o b=none):H b=none:=by
 by_cases e:b=x
 .rw[e,ah]at h;cases h
 .rwa [au e]at h
theorem FS(ps:LG)(p:Str×Int):b9 (ps++[p])=b6 (b9 ps) p.1 (p.2 % 1000000000000000000000000000000):=by
 unfold b9;rw[List.foldl_append]
 rfl
theorem CZ(T:Tx P w K mg a):aF P w K mg base CX0 18 a.HX a.HY ["program","numbers"] tR:=by
 refine T.Ja.F.ok jN (by walk_at "l") λ_ A outer s H vs Q E hr h=>?_;obtain⟨p,a0,a1,b,ln,G,ns,ds,C,rfl,hp,h0,hn,hb,dp,a5,al,_,akC,nC,a6,q⟩:=h
 refine⟨_,(ao (ax (i:=2) jN.nd U Oi (bF (FO U) U T.JC PyProof.Rows.Boot.«dict» (a8 (dM (k:=1) (Nc:=["name"]) (js:=[]) (show b5 (aE jR) ["program","numbers","begun","name","number"] _ 1 ["name"] []from b5.mk U (by decide +kernel) (by decide +kernel) (by decide +kernel) U (by decide +kernel)) U (bJ (aD (CF T) (hr.mono Yk) T.J6 (a8 (pq 0) ae))) (λ_ _ _ _ _=>(aY (i:=0) (show List.Nodup (["name"]:LS)from by decide +kernel) U Oi)) (λ_ _ _ _ _=>dB) (λ_ _ _ _ _=>(aS (a8 (pq 0) (a8 af ae))))) ae)))
  (ao (bO PassesOwn.never U (kt U T.GQ (a8 (aj ar (pq 0) af Oy) (a8 (pq 1) ae))) (gO U (cZ (aY (i:=3) jN.nd U Oi) (cZ (aY (i:=4) jN.nd U Oi) gN)))
  (aq (dL (hr.one) (pq 2) (pq 3) (ay bT (pq 4) (eD U T.JH T.r_WHEEL)) U)))
  (aq (aK (pq 2))))),?_⟩
 walk_at "q";refine⟨_,U,p,a0,a1,b,G,ds,C,U,hp,h0,hb,dp,a5,al,akC,nC,a6,λH2 l zs m2 nl hl n=>⟨l,U,⟨_,SqL.of hl⟩,?_⟩⟩;refine ic (K:=K) (a:=l) (xs:=zs.map V.str) (λi ys e f=>(∃v,e=[v])/\a9 H2 f/\∃c:LK,ys=c.map V.ref/\c.length=i/\∀(j:Nat)(t:Addr)(z:Str),c[j]?=some t->zs[j]?=some z->f t=some (.tup [.str z,.int 0])) ⟨⟨_,U⟩,a9.refl _,[],U,U,λj t z h=>by simp at h⟩ ?_ (aJ (m:=2000) (by rw[q5];exact n.few)) ?_ ?_ ?_
 .rintro i ys e f _ ⟨_,_,c,rfl,h,_⟩;rw[q5,h];exact qd _
 .rintro i ys e f ⟨_,J,_⟩;exact SqL.of (J _ _ hl)
 .rintro i x ys e f N ⟨⟨v,rfl⟩,J,c,rfl,o,ht⟩;rw[qD]at N;obtain⟨z,r,rfl⟩:=qP.mp N;refine⟨_,U,ln2,λp4 Y=>?_⟩;refine⟨⟨_,U⟩,J.trans (a9.new Y _),c++[p4],by rw[qO];rfl,by rw[qa,o];rfl,λj t y u I=>?_⟩;rcases Nat.lt_or_ge j c.length with lt|ge
  .rw[Q6 lt]at u;exact a9.new Y _ _ _ (ht j t y u I)
  .rw[qK ge]at u
   have e0:j-c.length=0:=by
    have:=(qe.mp u).1;simpa using this
   rw[e0]at u;obtain rfl:p4=t:=by simpa using u
   have:j=i:=Yo;subst this;rw[r]at I;cases I;exact ah
 .rintro ys e f ⟨_,J,c,rfl,o,ht⟩ S W;rw[q5]at o;have mH:=m2.trans J;have a4:=a9.none mH W;refine⟨S,c.map V.ref,zs.map λz=>(.inr z,.int 0),U,ah,by rw[q5,q5,o],aJ (m:=2000) (by rw[q5];exact n.few),λi p Z=>?_,λd hd=>?_⟩
  .rw[qD]at Z;obtain⟨z,r,rfl⟩:=qP.mp Z
   have lt:i<c.length:=by
    have:=(qe.mp r).1;lia
   exact⟨c[i],by rw[qD,qb lt];rfl,a9.new W _ _ _ (ht i _ z (qb lt) r)⟩
  rw[BP n.nd];have R:H d=none:=a9.none mH (bC hd);have K0:a9 H (upd (upd f S (.lst (c.map V.ref))) d (.dK (tab zs λ_=>0))):=a9.over (a9.over mH a4) R;exists _,U,_,_,_,_,U,U,SqT.of (K0 _ _ hp),U,_,U,false,false,a0,ln,G.map V.str,ns.map V.int,U,SqL.of (K0 _ _ h0),SqL.of (K0 _ _ hn);have o8:upd (upd f S (.lst (c.map V.ref))) d (.dK (tab zs λ_=>0)) d=some (.dK (tab zs λ_=>0)):=ah;generalize upd (upd f S (.lst (c.map V.ref))) d (.dK (tab zs λ_=>0))=H8 at K0 o8 ⊢;refine lC (K:=K) (b1:=false) (b2:=false) (l1:=a0) (l2:=ln) (xs:=G.map V.str) (ys:=ns.map V.int) (λi e g=>(∃v3 v4,e=[some (.ref p),some (.ref ln),some (.ref d),v3,v4])/\a9 H g/\g d=some (.dK (tab zs (b9 ((G.zip ns).take i))))) ⟨⟨_,_,U⟩,K0,o8⟩ ?_ ?_ ?_
  .rintro i e g ⟨_,D,_⟩;exact⟨SqL.of (D _ _ h0),SqL.of (D _ _ hn)⟩
  .rintro i x y e g B N I ⟨⟨v3,v4,rfl⟩,D,L⟩ M;rw[qD]at N I;obtain⟨x,a2,rfl⟩:=qP.mp N;obtain⟨y,a7,rfl⟩:=qP.mp I;have xz:x∈zs:=(n.mem x).mpr (.inl (qy a2));have a3:(G.zip ns)[i]?=some (x,y):=by rw[List.getElem?_zip_eq_some];exact⟨a2,a7⟩
   have n5:d≠B:=λz=>by rw[<- z,L]at M;cases M
   have s5:=D.trans (a9.new M (.tup [.str x,.int y]));have d5:upd g B (.tup [.str x,.int y]) d=some (.dK (tab zs (b9 ((G.zip ns).take i)))):=by rw[au n5];exact L
   have X:upd g B (.tup [.str x,.int y]) B=some (.tup [.str x,.int y]):=ah;generalize upd g B (.tup [.str x,.int y])=H5 at s5 d5 X ⊢;exists B,_,U,.inl (.inl X),U,_,_,U,_,_,U,U;exists _,U,_,_,U,U,Yk,_,U,_,U,d,_,U,.inl ⟨_,.inr x,d5,U,qC (show _<1000000 by rw[gx];have:=n.few;lia) (by decide),U⟩;rw[jx n.nd,show b7 zs x=zs from Q0 xz];exists ⟨_,_,U⟩,a9.over s5 R;rw[ah,qq,a3];show some (HO.dK (tab zs (b6 _ x (y % _))))=some (HO.dK (tab zs (b9 (_++[(x,y)]))));rw[FS]
  .rintro e g ⟨⟨v3,v4,rfl⟩,D,L⟩;rw[q5,q5,List.take_of_length_le (by rw[List.length_zip];exact qd _)]at L;exact⟨_,U,q _ d zs D R L n⟩
theorem Fh(d:aa):d.cards.length<=3:=by
 cases d with
 |set x a _ b=>cases a<;>cases b<;>simp[aa.cards,aa.names,aa.others,Val.names]
 |_=>simp[aa.cards,aa.names,aa.others]
theorem y6:∀(l:LA),(l.flatMap aa.cards).length<=3 * l.length
 |[]=>by simp
 |d::r=>by
  have h1:=Fh d;have a:=y6 r;rw[qE,qa,qz];lia
theorem kA(T:Tx P w K mg a):aF P w K mg base CX0 16 a.HL a.HM ["block"] tu:=by
 refine T.Gv.F.ok mN (by walk_at "l") λ_ A outer s H vs Q E G h=>?_;obtain⟨M,b,ds,C,rfl,e0,hb,_,W,R,N,L,k⟩:=h
 refine⟨_,(ao (ax (i:=1) mN.nd U Oi (aG ae))
  (ao (bO PassesOwn.never U (bJ (aD (vS T 13) (G.mono Yk) T.Gu (a8 (pq 0) ae))) (aY (i:=2) mN.nd U Oi)
  (ao (aL (b4 qf Qo Qn iY (pq 1) (a8 (aD (oT T) (G.mono Yk) T.GG (a8 (pq 2) ae)) ae)))
  (aq (aL (b4 qf Qo Qn iY (pq 1) (a8 (aD (CH T) (G.mono Yk) T.J9 (a8 (pq 2) ae)) ae))))))
  (aq (aK (bv (jf U) U T.wT PyProof.Rows.Boot.«sorted» (a8 (bF (g9 U) U T.Gn PyProof.Rows.Boot.«set» (a8 (pq 1) ae)) ae)))))),?_⟩
 walk_at "q";refine⟨qr _,λc n=>?_⟩;have c0:=a9.none e0 n;refine⟨_,U,M,b,ds,U,a9.over e0 c0,hb,Yo,W,λ_ l us Y nl hl y=>⟨l,U,⟨_,SqL.of hl⟩,?_⟩⟩;have K0:l≠c:=λz=>by rw[z,ah]at nl;cases nl
 have few:∀i,(((ai ds).take i).flatMap aa.cards).length<=3000:=λi=>by
  have:=y6 ((ai ds).take i);rw[qJ]at this;lia
 refine c9 (K:=K) (a:=l) (xs:=us) (λi t f=>∃v,t=[some (.ref b),some (.ref c),v]/\a9 H f/\f c=some (.lst ((((ai ds).take i).flatMap aa.cards).map V.str))/\f l=some (.lst us)) ⟨_,U,(a9.new n _).trans Y,Y _ _ ah,hl⟩ ?_ ?_ ?_
 .rintro i t f _ ⟨v,_,_,_,h⟩;exact SqL.of h
 .rintro i x t f hx ⟨v,rfl,g,e,B⟩;obtain⟨d,hd,D⟩:=y.at i x hx;have dm:d∈ai ds:=qy hd;have j:=few (i+1);rw[qq,hd]at j
  have a0:(((ai ds).take i).flatMap aa.cards).length+(d.names.length+d.others.length)<=3000:=by
   simpa[qU,aa.cards]using j
  refine⟨_,U,.inl ⟨U,_,SqL.of e⟩,_,U,M,x,d,U,e0.trans g,D,λZ l4 J _ h4=>?_⟩;exists c,l4,_,_,U,U,J _ _ e,h4,aJ (m:=3000) (by rw[q5,q5];lia);have X:a9 H (upd Z c (.lst ((((ai ds).take i).flatMap aa.cards).map V.str++d.names.map V.str))):=a9.over (g.trans J) n;refine⟨_,U,.inl ⟨U,_,SqL.of ah⟩,_,U,M,x,d,U,e0.trans X,D,λz hz=>L _ (R _ (List.mem_flatMap.mpr ⟨d,dm,qH _ hz⟩)),λH6 l6 I _ h6=>?_⟩;exists c,l6,_,_,U,U,I _ _ ah,h6,aJ (m:=3000) (by rw[qa,q5,q5,q5];lia);refine⟨_,U,a9.over (X.trans I) n,?_,?_⟩
  .rw[ah,qq,hd];simp[qU,aa.cards]
  .rw[au K0];refine I _ _ ?_;rw[au K0];exact J _ _ B
 .rintro t f ⟨v,rfl,g,e,B⟩;rw[y.len,qG]at e;have j:=few (ai ds).length;rw[qG]at j;refine⟨_,U,c,(ai ds).flatMap aa.cards,U,SqL.of e,Yo,λp hp=>?_⟩;refine⟨p,(ai ds).flatMap aa.cards,C,U,ah,R,N,λr zs u nd hm so=>?_⟩;have p0:=a9.none g hp
  have S:H r=none:=by
   refine a9.none g ?_
   cases q:f r with
   |none=>rfl
   |some o=>
    have:r≠p:=bP q hp;rw[au this,q]at u;cases u
  exact k _ r zs (a9.over (a9.over g p0) S) S ah nd hm so
theorem vR(T:Tx P w K mg a):aF P w K mg base CX0 17 a.HV a.HW ["program"] tO:=by
 refine T.Hm.F.ok jM (by walk_at "l") λ_ A outer s H vs Q E B h=>?_;obtain⟨p,la,ls,lb,b,ss,ds,us,C,rfl,rp,a1,Z,ha,_,Y,W,g,J,k⟩:=h
 refine⟨_,(ao (ax (i:=1) jM.nd U Oi (ay cQ (ay cQ (aj ar (pq 0) af Oy) (aD (kA T) (B.mono Yk) T.Gv (a8 (aj ar (pq 0) af Oy) ae))) (aG (a8 (eD U T.Gw T.r_OUTLET) ae))))
  (ao (bO PassesOwn.never U (bJ (aj ar (pq 0) af Oy)) (gO U (cZ (aY (i:=2) jM.nd U Oi) (cZ (aY (i:=3) jM.nd U Oi) gN)))
  (aq (aL (b4 qf Qo Qn iY (pq 1) (a8 (aG (a8 (aD (oR T) (B.mono Yk) T.GH (a8 (pq 2) ae)) (a8 (aD (oU T) (B.mono Yk) T.GI (a8 (pq 2) ae)) ae))) ae)))))
  (aq (aK (bv (jf U) U T.wT PyProof.Rows.Boot.«sorted» (a8 (bF (g9 U) U T.Gn PyProof.Rows.Boot.«set» (a8 (pq 1) ae)) ae)))))),?_⟩
 walk_at "q";have t:∀q∈cards ds,q∈C:=λq D=>W q (by unfold cF;simp[D]);exists _,U,p,_,_,_,U,U,SqT.of rp.top,U;refine⟨_,U,p,_,_,_,U,U,SqT.of rp.top,U,H,lb,ds,C,U,a9.refl H,rp.bo,a1,Z,t,g,J,λH1 l1 c s1 n1 h1 a2 y _=>?_⟩;have a4:c.length<64:=Nat.lt_of_le_of_lt (bX a2 λq D=>t q ((y q).mp D)) g;refine⟨la,l1,_,_,U,U,SqL.of (s1 _ _ rp.as),SqL.of h1,aJ (m:=3000) (by rw[q5,q5];lia),λp1 S=>?_⟩;refine⟨ln1,λp2 u=>?_⟩;refine⟨p1,p2,_,_,U,U,SqL.of (a9.new u _ _ _ ah),SqL.of ah,aJ (m:=3000) (by rw[qa,q5,q5,Q7];lia),λj a3=>?_⟩;have s2:=s1.trans (a9.new S (.lst (b.map V.str++c.map V.str)));have K0:=s2.trans (a9.new u (.lst [V.str (">":Str)]));have n3:=a9.none K0 a3;have I:a9 H (upd (upd (upd H1 p1 (.lst (b.map V.str++c.map V.str))) p2 (.lst [V.str (">":Str)])) j (.lst (b.map V.str++c.map V.str++[V.str (">":Str)]))):=a9.over K0 n3;exists _,U,p,_,_,_,U,U,SqT.of (I _ _ rp.top),U,ls,U,⟨_,SqL.of (I _ _ rp.st)⟩;have ul:=rp.ro.len
 have fl:∀i,((ss.take i).flatMap λs=>[s.1++(">":Str),s.1++("<":Str)]).length=2 * (ss.take i).length:=λi=>by
  induction ss.take i with
  |nil=>rfl
  |cons x r ih=>rw[qE,qa,ih,qz];simp;lia
 refine c9 (K:=K) (a:=ls) (xs:=us) (λi o d=>∃v l,o=[some (.ref p),some (.ref j),v,l]/\a9 H d/\d j=some (.lst ((b++c++[(">":Str)]++(ss.take i).flatMap λs=>[s.1++(">":Str),s.1++("<":Str)]).map V.str))) ⟨_,_,U,I,?_⟩ ?_ ?_ ?_
 .rw[ah];simp
 .rintro i o d _ ⟨v,l,_,e,f⟩;exact SqL.of (e _ _ rp.st)
 .rintro i x o d L ⟨v,l,rfl,e,f⟩;obtain⟨px,q,n,rfl,hi,M⟩:=rp.ro.at i x L;have X:q.length<=1000:=Y _ (qy hi);exists px,_,U,SqT.of (e _ _ M),U,_,_,U,_,_,U,U;refine⟨_,U,.inl ⟨U,_,SqL.of f⟩,_,U,q,U,X,_,U,q,U,X,ln2,λp4 z=>?_⟩;have lt:(ss.take i).length<=100:=by rw[qJ];lia
  refine⟨j,p4,_,_,U,U,a9.new z _ _ _ f,ah,aJ (m:=3000) ?_,?_⟩
  .rw[q5,qa,fl,qa,qa];simp;lia
  exists _,_,U,a9.over (e.trans (a9.new z _)) n3;rw[ah,qq,hi];simp
 .rintro o d ⟨v,l,rfl,e,f⟩;rw[ul,qG]at f;have R:=fl ss.length;rw[qG]at R
  have mm:∀x,x∈b++c++[(">":Str)]++(ss.flatMap λs=>[s.1++(">":Str),s.1++("<":Str)])↔x∈cF b ss ds:=λx=>by
   unfold cF;simp only[qg,y x]
  refine⟨_,U,j,_,U,SqL.of f,?_,λG a0=>?_⟩
  .rw[qa,R,qa,qa,Q7];lia
  refine⟨G,_,C,U,ah,λx L=>W x ((mm x).mp L),g,λr zs N nd hm so=>?_⟩;have s6:a9 d (upd d G (bi P w G (b++c++[(">":Str)]++(ss.flatMap λs=>[s.1++(">":Str),s.1++("<":Str)])))):=a9.new a0 _;exact k _ r zs ((e.trans s6).trans (a9.new N _)) ah nd (λx=>(hm x).trans (mm x)) so
theorem Ln.keep(k:TK H H'){v a:V}{fs:LI}(h:Ln H v a fs):Ln H' v a fs:=by
 obtain⟨u,f,e,c,b⟩:=h;exact⟨u,f,e,k _ _ c,k _ _ b⟩
theorem SdH.keep(k:TK H H'){v:V}:∀{s:Sd},SdH H v s->SdH H' v s
 |.at _,⟨u,e,h⟩=>⟨u,e,k _ _ h⟩
 |.is _,⟨u,e,h⟩=>⟨u,e,k _ _ h⟩
theorem PgH.keep{H H':Hp}(k:TK H H'){v:V}:∀{p:PtG},PgH H v p->PgH H' v p
 |.pas ..,⟨u,i,o,r,e,h1,h2,h3,h4⟩=>⟨u,i,o,r,e,k _ _ h1,k _ _ h2,k _ _ h3,k _ _ h4⟩
 |.wrk ..,⟨u,i,x,y,e,h1,h2,h3,h4⟩=>⟨u,i,x,y,e,k _ _ h1,k _ _ h2,h3.keep k,h4.keep k⟩
 |.cho ..,⟨u,i,o,r,e,h1,h2,h3,h4⟩=>⟨u,i,o,r,e,k _ _ h1,k _ _ h2,k _ _ h3,k _ _ h4⟩
 |.mrg ..,⟨u,i,o,r,e,h1,h2,h3,h4⟩=>⟨u,i,o,r,e,k _ _ h1,k _ _ h2,k _ _ h3,k _ _ h4⟩
section
variable {H2:Hp}{c:BAd}{es:LS}
theorem Fb.refl:Fb c H H:=λ_ _ _ _ _ h=>h
theorem Fb.trans(h:Fb c H H')(h':Fb c H' H2):Fb c H H2:=λb o d e a f=>h' b o d e a (h b o d e a f)
theorem Fb.of(h:a9 H H'):Fb c H H':=λb o _ _ _ a=>h b o a
theorem Fb.more(h:Fb c H H')(h':a9 H' H2):Fb c H H2:=h.trans (.of h')
theorem a9.fb(h:a9 H H')(h':Fb c H' H2):Fb c H H2:=(Fb.of h).trans h'
theorem BG.tk(B:BG a H c es fe N)(k:Fb c H H'):TK H H':=λb xs h=>by
 obtain⟨ls,hl,_⟩:=B.ln;obtain⟨ps,hp,_⟩:=B.pt;exact k b _ (λz=>by rw[z,hl]at h;cases h) (λz=>by rw[z,hp]at h;cases h) (λz=>by rw[z,B.co]at h;cases h) h
theorem BG.same(B:BG a H c es fe N)(k:a9 H H'):BG a H' c es fe N:=by
 obtain⟨ls,hl,e⟩:=B.ln;obtain⟨ps,hp,rp⟩:=B.pt;have tk:TK H H':=λb xs h=>k _ _ h;exact⟨k _ _ B.ro,k _ _ B.eo,k _ _ B.co,B.ne,B.de,B.nd,⟨ls,k _ _ hl,e.imp λv d h=>h.keep tk⟩,⟨ps,k _ _ hp,rp.imp λv d h=>h.keep tk⟩⟩
theorem BG.off{o:HO}(B:BG a H c es fe N)(h:H b=none):b≠c.ll/\b≠c.lp/\b≠c.dc/\b≠c.de/\b≠c.p:=by
 obtain⟨ls,hl,_⟩:=B.ln;obtain⟨ps,hp,_⟩:=B.pt;refine⟨λz=>?_,λz=>?_,λz=>?_,λz=>?_,λz=>?_⟩
 .rw[z,hl]at h;cases h
 .rw[z,hp]at h;cases h
 .rw[z,B.co]at h;cases h
 .rw[z,B.eo]at h;cases h
 .rw[z,B.ro]at h;cases h
theorem BG.ads(B:BG a H c es fe N):c.p≠c.ll/\c.p≠c.lp/\c.p≠c.dc/\c.de≠c.ll/\c.de≠c.lp/\c.dc≠c.ll/\c.dc≠c.lp:=by
 obtain⟨ls,hl,_⟩:=B.ln;obtain⟨ps,hp,_⟩:=B.pt;have b:=B.ro;have e:=B.eo;have d:=B.co;refine⟨λz=>?_,λz=>?_,λz=>?_,λz=>?_,λz=>?_,λz=>?_,λz=>?_⟩
 .rw[z,hl]at b;cases b
 .rw[z,hp]at b;cases b
 .rw[z,d]at b;cases b
 .rw[z,hl]at e;cases e
 .rw[z,hp]at e;cases e
 .rw[z,hl]at d;cases d
 .rw[z,hp]at d;cases d
theorem Lt.next(L:Lt c H0 H)(k:Fb c H H'):Lt c H0 H':=⟨λb o h=>k b o (λz=>by rw[z,L.n1]at h;cases h) (λz=>by rw[z,L.n2]at h;cases h) (λz=>by rw[z,L.n3]at h;cases h) (L.e0 _ _ h),L.n1,L.n2,L.n3⟩
theorem Lt.grow{o:HO}(B:BG a H c es fe N)(L:Lt c H0 H)(hb:H0 b=none)(h:H b=some o)(n1:b≠c.ll)(n2:b≠c.lp)(n3:b≠c.dc):Lt c (upd H0 b o) H:=by
 refine⟨λd u hu=>?_,?_,?_,?_⟩
 .by_cases e:d=b
  .subst e;rw[ah]at hu;cases hu;exact h
  .rw[au e]at hu;exact L.e0 _ _ hu
 .rw[au n1.symm];exact L.n1
 .rw[au n2.symm];exact L.n2
 .rw[au n3.symm];exact L.n3
theorem Sm.le{k:Nat}(h:Sm N m)(l:k<=m):Sm N k:=⟨by have:=h.l;lia,by have:=h.p;lia,by have:=h.c;lia⟩
theorem Sm.next{k:Nat}(h:Sm N m)(g:Gr N N' k)(l:k<=m):Sm N' (m-k):=⟨by have:=h.l;have:=g.l2;lia,by have:=h.p;have:=g.p2;lia,by have:=h.c;have:=g.c2;lia⟩
end
theorem bE(n k:Nat):(wid n k).length=k:=by unfold wid;rw[q5,Qe]
theorem yV(n k:Nat):wid n (k+1)=wid n k++[((n+k:Nat):Int)]:=by unfold wid;rw[List.range_succ,qO];rfl
theorem wq{n:Nat}(h:n<=m)(a:m<=200000:=by decide):n<=sizeLine:=aJ (m:=200000) Yo
theorem pC{n:Nat}(h:n<=200000):n<sizeLine:=Nat.lt_of_le_of_lt h (by rw[sizeLine_eq];decide)
theorem fN(T:Tx P w K mg a):aF P w K mg base CX0 1 a.GV a.GW ["self","length","first"] (uq a):=by
 refine T.Jv.ok Bc (by walk_at "l") λ_ A outer s H vs Q E _ h=>?_;obtain⟨c,R,Y,N,x,f,on,rfl,B,W,M,q⟩:=h
 refine⟨_,(ao (aL (b4 qf qu qv bS (df (pq 0) U) (a8 (aS (a8 (pq 1) (a8 (pq 2) ae))) ae)))
  (aq (aK (ay oq (bv cR U T.r9 Q8 (a8 (df (pq 0) U) ae)) af)))),?_⟩
 walk_at "q";obtain⟨us,hl,X⟩:=B.ln;obtain⟨ps,hp,rp⟩:=B.pt;obtain⟨S,_,_,L,_,K0,_⟩:=B.ads;have le:=X.len;have sl:=M.l;refine⟨_,U,c.p,_,_,_,_,U,B.ro,T.mt,T.GR,rK,.inl ⟨U,_,SqL.of hl⟩,_,U,_,U,ln2,λt ht=>?_⟩;have g:=a9.new ht (.tup [x,.ref f]);exists c.ll,_,_,U,U,g _ _ hl,wq (m:=200000) Yo;have e:=B.same g;have I:upd H t (.tup [x,.ref f]) t=_:=ah;have F:=g _ _ W;obtain⟨_,j,u⟩:=e.ln;obtain⟨G,r,k⟩:=e.pt;have z:=g _ _ hl;generalize upd H t (.tup [x,.ref f])=H1 at g e I F j u r k z ⊢;rw[z]at j;cases j;have D:Fb c H1 (upd H1 c.ll (.lst (us++[.ref t]))):=λb o C _ _ h=>by rwa[au C]
 have l2:upd H1 c.ll (.lst (us++[.ref t])) c.ll=some (.lst (us++[.ref t])):=ah;have tk:=e.tk D;have i:∀b o,b≠c.ll->H1 b=some o->upd H1 c.ll (.lst (us++[.ref t])) b=some o:=λb o C h=>by rwa[au C]
 generalize upd H1 c.ll (.lst (us++[.ref t]))=H2 at D l2 tk i ⊢;have J:BG a H2 c R Y (N.line ⟨x,on⟩):=⟨i _ _ S e.ro,i _ _ L e.eo,i _ _ K0 e.co,B.ne,B.de,B.nd,⟨_,l2,R2s.app (.cons (y:=(⟨x,on⟩:LnD)) ⟨t,f,U,tk _ _ I,tk _ _ F⟩ .nil) (u.imp λv d h=>h.keep tk)⟩,⟨G,i _ _ B.ne.symm r,k.imp λv d h=>h.keep tk⟩⟩;exists _,U,c.p,_,_,_,_,U,J.ro,T.mt,T.GR,rK,c.ll,_,U,.inl (SqL.of l2),_,_,U,U;rw[show(((us++[V.ref t]).length:Nat):Int)-1=(N.n:Int)by rw[qa,le];show(((N.ls.length+1:Nat):Int))-1=(N.ls.length:Int);lia];exact q H2 _ U (a9.fb g D) J
theorem dO(T:Tx P w K mg a):aF P w K mg base CX0 1 a.GZ a.Ha ["self","part"] (uo a):=by
 refine T.Jx.ok Bb (by walk_at "l") λ_ A outer s H vs Q E _ h=>?_;obtain⟨c,_,_,N,v,p,rfl,B,l,j,q⟩:=h;exists _,(aq (aL (b4 qf qu qv bS (df (pq 0) U) (a8 (pq 1) ae))));walk_at "q";obtain⟨us,hl,r⟩:=B.ln;obtain⟨ps,hp,rp⟩:=B.pt;obtain⟨_,i,_,_,n,_,k⟩:=B.ads;have le:=rp.len;have sl:=j.p;exists _,U,c.p,_,_,_,_,U,B.ro,T.mt,T.Hx,yi,.inl ⟨U,_,SqL.of hp⟩,_,U,c.lp,_,_,U,U,hp,wq (m:=200000) Yo;have g:Fb c H (upd H c.lp (.lst (ps++[v]))):=λb o _ f _ h=>by rwa[au f]
 have tk:=B.tk g;have e:∀b o,b≠c.lp->H b=some o->upd H c.lp (.lst (ps++[v])) b=some o:=λb o f h=>by rwa[au f]
 exact q _ g ⟨e _ _ i B.ro,e _ _ n B.eo,e _ _ k B.co,B.ne,B.de,B.nd,⟨us,e _ _ B.ne hl,r.imp λv d h=>h.keep tk⟩,⟨_,ah,R2s.app (.cons (l.keep tk) .nil) (rp.imp λv d h=>h.keep tk)⟩⟩
theorem fj(T:Tx P w K mg a):aF P w K mg base CX0 1 a.Hc a.Hd ["self","cards"] (ui a):=by
 refine T.Jy.ok B0 (by walk_at "l") λ_ A outer s H vs Q E _ h=>?_;obtain⟨c,_,_,N,e,zs,rfl,B,f,c1,sub,q⟩:=h;exists _,(aq (aK (bF rE U T.Hw PyProof.Rows.Boot.«tuple» (a8 (dM (k:=1) (Nc:=["card","self"]) (js:=[0]) (show b5 (aE jX) ["self","cards"] _ 1 ["card","self"] [0]from b5.mk U (by decide +kernel) (by decide +kernel) (by decide +kernel) U (by decide +kernel)) U (bJ (pq 1)) (λ_ _ _ _ _=>(aY (i:=0) (show List.Nodup (["card","self"]:LS)from by decide +kernel) U Oi)) (λ_ _ _ _ _=>dB) (λ_ _ _ _ _=>(aj Ec (Ca (K:=K) U (pq 1) U) (pq 0) Oy))) ae))));walk_at "q";exists _,U,e,U,⟨_,SqL.of f⟩;refine ic (K:=K) (a:=e) (xs:=zs.map V.str) (λi ys d b=>(∃v,d=[v,some (.ref c.p)])/\b=H/\ys=((zs.take i).map N.fc).map V.int) ⟨⟨_,U⟩,U,U⟩ ?_ (aJ (m:=2000) (by rw[q5];lia)) ?_ ?_ ?_
 .rintro i ys d b _ ⟨_,_,rfl⟩;rw[q5,q5,qJ];lia
 .rintro i ys d b ⟨_,rfl,_⟩;exact SqL.of f
 .rintro i x ys d b g ⟨⟨v,rfl⟩,rfl,rfl⟩;rw[qD]at g;obtain⟨z,hz,rfl⟩:=qP.mp g;exists _,U,c.p,_,_,_,_,U,B.ro,T.mt,T.GS,rL,_,U,c.dc,_,.inr z,_,U,B.co,U,iw (sub z (qy hz)),⟨_,U⟩,U;rw[qq,hz,qO,qO]
  rfl
 rintro ys d b ⟨_,rfl,rfl⟩ l hl;rw[q5,qG];have n:=a9.new hl (.lst ((zs.map N.fc).map V.int));refine⟨l,_,U,.inl ⟨SqL.of ah,λt ht=>?_⟩⟩;have j:=a9.new ht (.tup ((zs.map N.fc).map V.int));exact q _ t (n.trans j) (bC ht) ah
theorem fm(T:Tx P w K mg a):aF P w K mg base CX0 1 a.He a.Hf ["self","cards","wires"] (uj a):=by
 refine T.Jz.ok mU (by walk_at "l") λ_ A outer s H vs Q E R h=>?_;obtain⟨c,_,_,N,k,t,zs,ws,rfl,B,m,ht,len,S,q⟩:=h
 refine⟨_,(aq (bO PassesOwn.never U (kt U T.GQ (a8 (pq 1) (a8 (pq 2) ae))) (gO U (cZ (aY (i:=3) mU.nd U Oi) (cZ (aY (i:=4) mU.nd U Oi) gN)))
  (aq (dL (R.one) (df (pq 0) U) (pq 3) (pq 4) U)))),?_⟩
 walk_at "q";have n1:k≠c.dc:=λz=>by rw[z,B.co]at m;cases m
 have n2:t≠c.dc:=λz=>by rw[z,B.co]at ht;cases ht
 obtain⟨_,_,F,_,_,X,W⟩:=B.ads;have sc:=S.c;exists _,U,_,U,false,true,k,t,zs.map V.str,ws.map V.int,U,SqL.of m,SqT.of ht;refine lC (K:=K) (b1:=false) (b2:=true) (l1:=k) (l2:=t) (xs:=zs.map V.str) (ys:=ws.map V.int) (λi n e=>(∃v3 v4,n=[some (.ref c.p),some (.ref k),some (.ref t),v3,v4])/\(∀b o,b≠c.dc->H b=some o->e b=some o)/\e c.dc=some (.dK (tab ((zs.take i).foldl b7 N.cs) (((zs.take i).zip ws).foldl (λf z=>b6 f z.1 z.2) N.fc)))) ⟨⟨_,_,U⟩,λ_ _ _ h=>h,B.co⟩ ?_ ?_ ?_
 .rintro i n e ⟨_,g,_⟩;exact⟨SqL.of (g _ _ n1 m),SqT.of (g _ _ n2 ht)⟩
 .rintro i x y n e j J M ⟨⟨v3,v4,rfl⟩,g,l⟩ D;rw[qD]at J M;obtain⟨x,u,rfl⟩:=qP.mp J;obtain⟨y,K0,rfl⟩:=qP.mp M;have G:=a9.new D (.tup [.str x,.int y]);have r:upd e j (.tup [.str x,.int y]) j=some (.tup [.str x,.int y]):=ah;have C:∀b o,b≠c.dc->H b=some o->upd e j (.tup [.str x,.int y]) b=some o:=λb o hb h=>G _ _ (g b o hb h);have I:=G _ _ l;generalize upd e j (.tup [.str x,.int y])=H5 at r C I ⊢;exists j,_,U,.inl (.inl r),U,_,_,U,_,_,U,U;obtain⟨ka,_,Z⟩:=cH (zs.take i) N.cs;have tl:(zs.take i).length<=zs.length:=by rw[qJ];lia
  exists _,U,_,U,c.p,_,_,_,_,U,C _ _ F B.ro,T.mt,T.GS,rL,_,U,c.dc,_,U,.inl ⟨_,.inr x,I,U,by rw[gx];exact pC Yo,U⟩;rw[jx (Z B.nd)];refine⟨⟨_,_,U⟩,λb o hb h=>by rw[au hb];exact C b o hb h,?_⟩;rw[ah,lR u K0,List.foldl_append,qq,u,List.foldl_append]
  rfl
 .rintro n e ⟨_,g,l⟩;rw[q5,q5,<- len,Nat.min_self,qG]at l;obtain⟨us,hl,Y⟩:=B.ln;obtain⟨ps,hp,rp⟩:=B.pt;have L:Fb c H e:=λb o _ _ h=>g b o h;have tk:=B.tk L;exact q e L ⟨g _ _ F B.ro,g _ _ B.de B.eo,l,B.ne,B.de,(cH zs N.cs).2.2 B.nd,⟨us,g _ _ X.symm hl,Y.imp λv d h=>h.keep tk⟩,⟨ps,g _ _ W.symm hp,rp.imp λv d h=>h.keep tk⟩⟩
theorem dh(T:Tx P w K mg a):aF P w K mg base CX0 2 a.GX a.GY ["self","count"] (um a):=by
 refine T.Jw.ok Ba (by walk_at "l") λ_ A outer s H vs Q E J h=>?_;obtain⟨c,y,F,N,k,rfl,B,_,K0,q⟩:=h;exists _,(aq (aK (bF rE U T.Hw PyProof.Rows.Boot.«tuple» (a8 (dM (k:=1) (Nc:=["wire","self"]) (js:=[0]) (show b5 (aE jY) ["self","count"] _ 1 ["wire","self"] [0]from b5.mk U (by decide +kernel) (by decide +kernel) (by decide +kernel) U (by decide +kernel)) U (kr U T.GP (a8 (pq 1) ae)) (λ_ _ _ _ _=>(aY (i:=0) (show List.Nodup (["wire","self"]:LS)from by decide +kernel) U Oi)) (λ_ _ _ _ _=>dB) (λ_ _ _ _ _=>(aW (pq 1) T.mt T.Gq (fN T) (J.mono Yk) T.Gk .nil aT (a8 af (a8 (aS ae) ae))))) ae))));walk_at "q";exists _,U,(k:Int),U,Yo,Yo;refine lI (λi ys j b=>(∃v,j=[v,some (.ref c.p)])/\Fb c H b/\BG a b c y F (N.wires i)/\ys=(wid N.n i).map V.int) ⟨⟨_,U⟩,Fb.refl,by rw[show N.wires 0=N from by unfold ap.wires;simp];exact B,U⟩ ?_ (aJ (m:=2000) Yo) ?_ ?_
 .rintro i ys j b _ ⟨_,_,_,rfl⟩;rw[q5,bE];exact qd _
 .rintro i ys j b hi ⟨⟨v,rfl⟩,r,d,rfl⟩;refine⟨_,U,c.p,_,_,U,d.ro,aX Yd,qr _,λf Y=>?_⟩;have g:=a9.new Y (.tup []);have L:upd b f (.tup []) f=some (.tup (([]:LI).map V.int)):=ah;have Z:i<k:=by simpa using hi
  refine⟨c,y,F,N.wires i,.int 1,f,[],U,d.same g,L,(K0.next aV Yo).le Yo,λ_ _ x R G=>?_⟩;subst x
  have W:(N.wires i).line ⟨.int 1,[]⟩=N.wires (i+1):=by
   unfold ap.line ap.wires;rw[List.replicate_succ',<- qM]
   rfl
  rw[W]at G;exists ⟨_,U⟩,r.trans (a9.fb g R),G;rw[yV,qO];show _++[V.int ((N.wires i).ls.length:Int)]=_;rw[show(N.wires i).ls.length=N.n+i by show(N.ls++List.replicate i dw).length=_;rw[qa,List.length_replicate];rfl]
  rfl
 .rintro ys j b ⟨_,r,d,rfl⟩ l D;have C:(k:Int).toNat=k:=qX k;rw[C]at d;rw[C];have g:=a9.new D (.lst ((wid N.n k).map V.int));refine⟨l,_,U,.inl ⟨SqL.of ah,λt ht=>?_⟩⟩;have S:=a9.new ht (.tup ((wid N.n k).map V.int));have z:=g.trans S;refine q _ t (r.more z) (d.same z) ?_ ah;have u:=bC ht
  cases e:H t with
  |none=>rfl
  |some o=>
   obtain⟨X,M,I,_,_⟩:=d.off (o:=o) u;rw[r t o X M I e]at u;cases u
theorem BG.put{c:BAd}{f:LS}{v:Int}(B:BG a H c f fe N):BG a (upd H c.dc (.dK (aU (tab N.cs N.fc) (.inr z) (.int v)))) c f fe { N with cs:=b7 N.cs z,fc:=b6 N.fc z v }/\Fb c H (upd H c.dc (.dK (aU (tab N.cs N.fc) (.inr z) (.int v)))):=by
 obtain⟨_,_,i,_,_,k,j⟩:=B.ads;obtain⟨us,hl,l⟩:=B.ln;obtain⟨ps,hp,rp⟩:=B.pt;have e:∀b o,b≠c.dc->H b=some o->upd H c.dc (.dK (aU (tab N.cs N.fc) (.inr z) (.int v))) b=some o:=λb o hb h=>by rwa[au hb]
 have g:Fb c H (upd H c.dc (.dK (aU (tab N.cs N.fc) (.inr z) (.int v)))):=λb o _ _ h=>e b o h;have tk:=B.tk g;exact⟨⟨e _ _ i B.ro,e _ _ B.de B.eo,by rw[ah,jx B.nd],B.ne,B.de,w5 B.nd,⟨us,e _ _ k.symm hl,l.imp λv d h=>h.keep tk⟩,⟨ps,e _ _ j.symm hp,rp.imp λv d h=>h.keep tk⟩⟩,g⟩
theorem vQ(T:Tx P w K mg a):aF P w K mg base CX0 3 a.Id a.Ie ["bench","name"] (tM a):=by
 refine T.Hn.F.ok uI (by walk_at "l") λ_ A outer s H vs Q E l h=>?_;obtain⟨c,t,v,N,x,rfl,B,xc,L,q⟩:=h
 refine⟨_,(ao (ax (i:=2) uI.nd U Oi (aW (pq 0) T.mt T.wP (dh T) (l.mono Yk) T.wE .nil aT (a8 af ae)))
  (ao (aL (aW (pq 0) T.mt T.At (dO T) (l.mono Yk) T.wS .nil aT (a8 (aS (a8 av (a8 (aW (pq 0) T.mt T.Ev (fj T) (l.mono Yk) T.Ch .nil aT (a8 (aG (a8 (pq 1) ae)) ae)) (a8 (pq 2) (a8 (aS (a8 af (a8 af ae))) ae))))) ae)))
  (ao (aL (aW (pq 0) T.mt T.Gj (fm T) (l.mono Yk) T.Cl .nil aT (a8 (aG (a8 (pq 1) ae)) (a8 (ku Aq (pq 2) (iS af) oI) ae))))
  (aq (aK (aj ar (pq 2) af Oy)))))),?_⟩
 walk_at "q";refine⟨_,U,c.p,_,_,U,B.ro,aX Yd,c,t,v,N,2,U,B,Yk,L.le Yk,λ_ d k1 g _ j=>?_⟩;refine⟨_,U,c.p,_,_,U,g.ro,aX Yd,_,U,c.p,_,_,U,g.ro,aX Yd,_,U,ln1,λl2 a3=>?_⟩;have e2:=a9.new a3 (.lst [.str x]);refine⟨c,t,v,N.wires 2,l2,[x],U,g.same e2,ah,by show 1<=1000;decide,λy hy=>by rwa[qS.mp hy],λW u s3 n3 a1=>⟨_,U,ln2,λe X=>⟨ln4,λf a0=>?_⟩⟩⟩;have K0:=a9.new X (.tup [.int 0,.int 0]);have m:=a9.new a0 (.tup [.str "pass",.ref u,.ref d,.ref e]);have b:=e2.trans (s3.trans (K0.trans m));have C:=K0.trans m;have r5:=m _ _ (ah (H:=W) (a:=e) (o:=.tup [.int 0,.int 0]));have I:upd (upd W e (.tup [.int 0,.int 0])) f (.tup [.str "pass",.ref u,.ref d,.ref e]) f=_:=ah;generalize upd (upd W e (.tup [.int 0,.int 0])) f (.tup [.str "pass",.ref u,.ref d,.ref e])=H5 at b C r5 I ⊢;clear K0 m;refine⟨c,t,v,N.wires 2,.ref f,.pas [N.fc x] (wid N.n 2) [0,0],U,g.same b,⟨f,u,d,e,U,I,C _ _ a1,b _ _ j,r5⟩,(L.next aV Yk).le Yk,λH6 k6 M=>?_⟩;have z:=(g.same b).tk k6;refine⟨_,U,c.p,_,_,U,M.ro,aX Yd,_,U,ln1,λk a2=>?_⟩;have r:=a9.new a2 (.lst [.str x]);have D:upd H6 k (.lst [.str x]) k=_:=ah;have G:upd H6 k (.lst [.str x]) d=some (.tup [.int ((N.n+0:Nat):Int),.int ((N.n+1:Nat):Int)]):=r _ _ (z _ _ (b _ _ j));generalize upd H6 k (.lst [.str x])=H7 at r D G ⊢;refine⟨_,U,1,U,d,_,U,SqT.of G,by show ¬ (HT.sIx 2 0 (some 1)=0/\HT.sIx 2 2 none=2);decide,λt8 Z=>?_⟩;have S:=a9.new Z (.tup [.int ((N.n+1:Nat):Int)]);refine⟨c,t,v,_,k,t8,[x],[((N.n+1:Nat):Int)],U,(M.same r).same S,S _ _ D,ah,U,(L.next (aV.trans bL) Yk).le (by show 1<=_;decide),λV k9 B9=>?_⟩;have J:Fb c H6 V:=a9.fb (r.trans S) k9;have Y:=M.tk J _ _ (z _ _ (b _ _ j));have R:V d=some (.tup [.int ((N.n+0:Nat):Int),.int ((N.n+1:Nat):Int)]):=Y;exists _,U,d,_,0,_,U,U,SqT.of R,U;exact q V (k1.trans ((a9.fb b k6).trans J)) B9
theorem vO(T:Tx P w K mg a):aF P w K mg base CX0 1 a.Ii a.Ij ["value","sources"] tw:=by
 refine T.Ho.F.ok AR (by walk_at "l") λ_ A outer s H vs Q E _ h=>?_;obtain⟨l,zs,b,rfl,hl,sub,_,q⟩:=h
 refine⟨_,(ao (aO (gL (bv uZ U T.Hv PyProof.Rows.Boot.«isinstance» (a8 (pq 0) (a8 (oP (v:=.ty "str") U T.vz PyProof.Rows.Boot.«str» rfl) ae)))) (aq (aK (aS (a8 av (a8 (b4 qf PySem.F.slot_list_index PySem.F.type_list_index p9 (pq 1) (a8 (pq 0) ae)) ae))))) bh)
  (aq (aK (aS (a8 av (a8 (pq 0) ae)))))),?_⟩
 walk_at "q"
 cases b with
 |num n=>
  refine⟨_,U,_,_,_,false,U,.int n,U,_,U,bn U ⟨_,U,ln2,λu hu=>?_⟩⟩;exact q _ _ (a9.new hu _) ⟨u,U,ah⟩
 |nm x=>
  refine⟨_,U,_,_,_,true,U,.str x,U,_,U,bK U ⟨_,U,.inl ⟨U,_,SqL.of hl⟩,_,U,l,zs,x,U,U,hl,sub x (by simp[Val.names]),Yo,ln2,λu hu=>?_⟩⟩;exact q _ _ (a9.new hu _) ⟨u,U,ah⟩
theorem CG(T:Tx P w K mg a):aF P w K mg base CX0 2 a.HJ a.HK ["deed"] tz:=by
 refine T.J8.F.ok AS (by walk_at "l") λ_ A outer s H vs Q E t h=>?_;obtain⟨p,x,i,c,b,rfl,h,k⟩:=h;exists _,(aq (aK (bv (jf U) U T.wT PyProof.Rows.Boot.«sorted» (a8 (ay Cj (bF (g9 U) U T.Gn PyProof.Rows.Boot.«set» (a8 (aD (oT T) (t.mono Yk) T.GG (a8 (pq 0) ae)) ae)) (bF (g9 U) U T.Gn PyProof.Rows.Boot.«set» (a8 (aG (a8 (aj ar (pq 0) af Oy) ae)) ae))) ae))));walk_at "q";refine⟨_,U,H,_,_,U,a9.refl _,.set h,λ_ l1 s1 n1 B=>?_⟩;have D:(aa.set x c i b).names.length<4:=by cases c<;>cases b<;>simp[aa.names,Val.names]
 refine⟨l1,_,U,SqL.of B,Yo,λp2 m=>?_⟩;have g:=s1.trans (a9.new m (bi P w p2 (aa.set x c i b).names));refine⟨_,U,_,_,_,_,U,U,SqT.of (g _ _ h),U,ln1,λC f=>?_⟩;have G:=g.trans (a9.new f (.lst [V.str x]));refine⟨C,[x],U,SqL.of ah,by simp,λr o=>?_⟩;have e:=(a9.new f (.lst [V.str x])).trans (a9.new o (bi P w r [x]));have z:=g.trans e;refine⟨p2,r,_,_,U,U,e _ _ ah,ah,D,λl j=>?_⟩;have n:=z.trans (a9.new j (bi P w l ((aa.set x c i b).names.filter λk=>!decide (k∈[x]))));refine⟨l,_,_,U,ah,λq u=>(List.mem_filter.mp u).1,Yo,λ_ zs d nd v so=>?_⟩;exact k _ _ zs (n.trans (a9.new d _)) (a9.none n d) ah ⟨nd,λy=>(v y).trans (by simp[aa.names,or_and_right]),so⟩
theorem je{c:Addr}{xs ys:LV}{Q:VK}(a:H c=some (.tup xs))(hb:H b=some (.tup ys))(ne:xs≠[])(l:xs.length+ys.length<=1000)(k:∀p H',a9 H H'->H' p=some (.tup (xs++ys))->Q (.ref p) H'):uT K (.ref c) (.ref b) H Q:=
 ⟨c,b,xs,ys,U,U,SqT.of a,SqT.of hb,ne,aJ (m:=1000) l,λe=>k c H (a9.refl _) (by rwa[e,qw]),λ_ p hp=>k p _ (a9.new hp _) ah⟩
theorem EJ(n i:Nat):bH n (i+1)=bH n i++[((n+2 * i:Nat):Int)]:=by
 unfold bH;rw[List.range_succ,qO]
 rfl
theorem xf:∀(rs:LS)(N:ap),(rs.foldl ap.fork N).n=N.n+2 * rs.length
 |[],N=>rfl
 |r::rs,N=>by
  rw[Qz,xf rs (N.fork r),qz];show(N.ls++List.replicate 2 dw).length+_=N.ls.length+_;rw[qa,List.length_replicate];lia
theorem CN(T:Tx P w K mg a):aF P w K mg base CX0 4 a.Ig a.Ih ["bench","deed"] (tJ a):=by
 refine T.Jd.F.ok gD (by walk_at "l") λ_ A outer s H vs Q E G h=>?_;obtain⟨c,X,Z,N,t,x,R,va,vb,rfl,B,ht,sub,sm,q⟩:=h
 refine⟨_,(ao (ax (i:=2) gD.nd U Oi (aj ar (pq 1) af Oy))
  (ao (ax (i:=3) gD.nd U Oi (aD (CG T) (G.mono Yk) T.J8 (a8 (pq 1) ae)))
  (ao (ax (i:=4) gD.nd U Oi (ay gQ (aW (pq 0) T.mt T.Ev (fj T) (G.mono Yk) T.Ch .nil aT (a8 (aG (a8 (pq 2) ae)) ae)) (bF rE U T.Hw PyProof.Rows.Boot.«tuple» (a8 (dM (k:=1) (Nc:=["other","bench"]) (js:=[0]) (show b5 (aE jQ) ["bench","deed","name","reads","ins","outs","sources"] _ 1 ["other","bench"] [0]from b5.mk U (by decide +kernel) (by decide +kernel) (by decide +kernel) U (by decide +kernel)) U (bJ (pq 3)) (λ_ _ _ _ _=>(aY (i:=0) (show List.Nodup (["other","bench"]:LS)from by decide +kernel) U Oi)) (λ_ _ _ _ _=>dB) (λ_ _ _ _ _=>(aD (vQ T) (G.mono Yk) T.Hn (a8 (pq 1) (a8 (pq 0) ae))))) ae))))
  (ao (ax (i:=5) gD.nd U Oi (aW (pq 0) T.mt T.wP (dh T) (G.mono Yk) T.wE .nil aT (a8 af ae)))
  (ao (ax (i:=6) gD.nd U Oi (ay cQ (aG (a8 (pq 2) ae)) (pq 3)))
  (ao (aL (aW (pq 0) T.mt T.At (dO T) (G.mono Yk) T.wS .nil aT (a8 (aS (a8 av (a8 (pq 4) (a8 (aj ar (pq 5) af Oy) (a8 (aj ar (pq 1) af Oy) (a8 (aD (vO T) (G.mono Yk) T.Ho (a8 (aj ar (pq 1) af Oy) (a8 (pq 6) ae))) (a8 (aD (vO T) (G.mono Yk) T.Ho (a8 (aj ar (pq 1) af Oy) (a8 (pq 6) ae))) ae))))))) ae)))
  (aq (aL (aW (pq 0) T.mt T.Gj (fm T) (G.mono Yk) T.Cl .nil aT (a8 (aG (a8 (pq 2) ae)) (a8 (pq 5) ae))))))))))),?_⟩
 walk_at "q";have xc:x∈N.cs:=sub x (by simp[aa.names]);exists _,U,t,_,1,_,U,U,SqT.of ht,U;refine⟨_,U,t,x,R,va,vb,U,ht,λ_ l1 d s1 n1 h1 ro=>?_⟩;have d9:=ro.few
 have c':∀y∈d,y∈N.cs:=λy Y=>sub y (by
  have:=((ro.mem y).mp Y).1;simp only[aa.names,qt,qg]
  exact .inr this)
 have B1:=B.same s1;refine⟨_,U,c.p,_,_,U,B1.ro,aX Yd,_,U,ln1,λl2 d4=>?_⟩;have e2:=a9.new d4 (.lst [.str x]);refine⟨c,X,Z,N,l2,[x],U,B1.same e2,ah,by show 1<=1000;decide,λy Y=>by rwa[qS.mp Y],λH3 _ s3 n3 d3=>?_⟩;have W:=e2.trans s3;have B3:=B1.same W;have a0:=W _ _ h1;obtain⟨m1,m2,m3,_,_⟩:=B.off (o:=.lst []) n1;exists _,U,l1,U,⟨_,SqL.of a0⟩;refine ic (K:=K) (a:=l1) (xs:=d.map V.str) (λi ys O C=>(∃v,O=[v,some (.ref c.p)])/\Fb c H3 C/\BG a C c X Z ((d.take i).foldl ap.fork N)/\ys=(bH N.n i).map V.int) ⟨⟨_,U⟩,Fb.refl,B3,U⟩ ?_ (aJ (m:=2000) (by rw[q5];lia)) ?_ ?_ ?_
 .rintro i ys O C _ ⟨_,_,_,rfl⟩;rw[q5,xg];exact qd _
 .rintro i ys O C ⟨_,L,_⟩;exact SqL.of (L _ _ m1 m2 m3 a0)
 .rintro i y ys O C hx ⟨⟨v,rfl⟩,L,B4,rfl⟩;rw[qD]at hx;obtain⟨z,hz,rfl⟩:=qP.mp hx;have i2:i<d.length:=(qe.mp hz).1;have tl:(d.take i).length=i:=by rw[qJ];lia
  have gf:=lB (d.take i) N;rw[tl]at gf;refine⟨_,U,_,U,c,X,Z,_,z,U,B4,gf.sub z (c' z (qy hz)),(sm.next gf Yo).le Yo,λ_ k5 B5=>?_⟩;refine⟨⟨_,U⟩,L.trans k5,?_,?_⟩
  .rw[qq,hz,Option.toList,List.foldl_append];exact B5
  .rw[EJ,qO,xf,tl]
   rfl
 rintro ys O C ⟨_,L,B4,rfl⟩ l5 d1;rw[q5,qG]at B4;rw[q5];have e5:=a9.new d1 (.lst ((bH N.n d.length).map V.int));refine⟨l5,_,U,.inl ⟨SqL.of ah,λt6 d5=>?_⟩⟩;have e6:=a9.new d5 (.tup ((bH N.n d.length).map V.int));have b3:upd (upd C l5 (.lst ((bH N.n d.length).map V.int))) t6 (.tup ((bH N.n d.length).map V.int)) t6=_:=ah;have u:=e5.trans e6;generalize upd (upd C l5 (.lst ((bH N.n d.length).map V.int))) t6 (.tup ((bH N.n d.length).map V.int))=H6 at u b3 ⊢;have a7:=B3.tk L;refine je (xs:=[V.int (N.fc x)]) (u _ _ (a7 _ _ d3)) b3 (by simp) (by rw[q5,xg];show 1+_<=_;lia) λS H7 s7 h7=>?_;have gM:=lB d N;generalize hM:d.foldl ap.fork N=M at *;have B7:=B4.same (u.trans s7);refine⟨_,U,c.p,_,_,U,B7.ro,aX Yd,c,X,Z,M,1,U,B7,Yk,(sm.next gM Yo).le Yo,λH8 t8 k8 B8 _ d7=>?_⟩;have d0:H8 l1=_:=k8 _ _ m1 m2 m3 (s7 _ _ (u _ _ (L _ _ m1 m2 m3 a0)));have b0:=B7.tk k8;have b':TK H H8:=λb xs h=>b0 _ _ (s7 _ _ (u _ _ (a7 _ _ (W _ _ (s1 _ _ h)))));refine⟨_,U,ln1,λl9 c4=>?_⟩;have e9:=a9.new c4 (.lst [.str x]);refine⟨_,U,l9,l1,[.str x],d.map V.str,U,U,SqL.of ah,SqL.of (e9 _ _ d0),aJ (m:=1000) (by rw[q5];show 1+_<=_;lia),λI c1=>?_⟩;have d8:=a9.new c1 (.lst ([.str x]++d.map V.str));have r:=e9.trans d8;have K0:upd (upd H8 l9 (.lst [.str x])) I (.lst ([.str x]++d.map V.str)) I=some (.lst ((x::d).map V.str)):=ah;generalize upd (upd H8 l9 (.lst [.str x])) I (.lst ([.str x]++d.map V.str))=H10 at r K0 ⊢;have a':=B8.same r;have J:H10 t=some _:=r _ _ (b' _ _ ht);have a3:H10 t8=some (.tup [.int ((M.n+0:Nat):Int)]):=r _ _ d7;have c3:H10 S=some (.tup ((N.fc x::bH N.n d.length).map V.int)):=r _ _ (b0 _ _ h7)
 have a1:∀v∈[va,vb],∀y∈v.names,y∈x::d:=by
  intro v hv y Y;by_cases e:y=x
  .exact e▸qk
  .refine qj _ ((ro.mem y).mpr ⟨?_,e⟩);rcases qt.mp hv with z|z
   .exact .inl (z▸Y)
   .exact .inr (qS.mp z▸Y)
 have b2:(x::d).length<=100:=by rw[qz];lia
 exists _,U,c.p,_,_,U,a'.ro,aX Yd,_,U,_,U,t8,_,0,_,U,U,SqT.of a3,U,_,U,t,_,3,_,U,U,SqT.of J,U;refine⟨_,U,t,_,2,_,U,U,SqT.of J,U,_,U,I,x::d,va,U,K0,a1 va (by simp),b2,λc8 j a5 c9=>?_⟩;refine⟨_,U,t,_,4,_,U,U,SqT.of (a5 _ _ J),U,_,U,I,x::d,vb,U,a5 _ _ K0,a1 vb (by simp),b2,λD l b6 d6=>?_⟩;refine⟨ln6,λg c2=>?_⟩;have b1:=a9.new c2 (.tup [.str "work",.ref S,.int ((M.n+0:Nat):Int),.str R,j,l]);have a4:upd D g (.tup [.str "work",.ref S,.int ((M.n+0:Nat):Int),.str R,j,l]) g=_:=ah;have b7:=c9.keep (λb xs h=>b1 _ _ (b6 _ _ h):TK c8 (upd D g (.tup [.str "work",.ref S,.int ((M.n+0:Nat):Int),.str R,j,l])));have a2:=d6.keep (λb xs h=>b1 _ _ h:TK D (upd D g (.tup [.str "work",.ref S,.int ((M.n+0:Nat):Int),.str R,j,l])));have f:=(a5.trans b6).trans b1;generalize upd D g (.tup [.str "work",.ref S,.int ((M.n+0:Nat):Int),.str R,j,l])=H13 at f a4 b7 a2 ⊢;refine⟨c,X,Z,M.wires 1,.ref g,.wrk (N.fc x::bH N.n d.length) M.n R (bN (x::d) va) (bN (x::d) vb),U,a'.same f,⟨g,S,j,l,U,a4,f _ _ c3,b7,a2⟩,(sm.next (gM.trans aV) Yo).le Yo,λ_ b4 b8=>?_⟩;refine⟨_,U,c.p,_,_,U,b8.ro,aX Yd,_,U,ln1,λd2 b9=>?_⟩;have a6:=a9.new b9 (.lst [.str x]);have c0:=a6 _ _ ((a'.same f).tk b4 _ _ (f _ _ a3));refine⟨_,U,c,X,Z,_,d2,t8,[x],[(M.n:Int)],U,b8.same a6,ah,c0,U,(sm.next ((gM.trans aV).trans bL) Yo).le (by show 1<=_;lia),λc7 c6 c5=>?_⟩;subst hM;refine q c7 d ro ?_ c5;exact((Fb.of (s1.trans W)).trans L).trans ((Fb.of (u.trans s7)).trans (k8.trans ((Fb.of (r.trans f)).trans (b4.trans (a9.fb a6 c6)))))
theorem vP(T:Tx P w K mg a):aF P w K mg base CX0 4 a.Ik a.Il ["bench","card","name","end"] (tK a):=by
 refine T.Hq.F.ok mP (by walk_at "l") λ_ A outer s H vs Q E g h=>?_;obtain⟨c,l,f,N,d,x,e,rfl,B,dc,xc,ec,o,q⟩:=h
 refine⟨_,(ao (ax (i:=4) mP.nd U Oi (ay gQ (aW (pq 0) T.mt T.Ev (fj T) (g.mono Yk) T.Ch .nil aT (a8 (aG (a8 (pq 1) ae)) ae)) (aS (a8 (aD (vQ T) (g.mono Yk) T.Hn (a8 (pq 0) (a8 (pq 2) ae))) ae))))
  (ao (ax (i:=5) mP.nd U Oi (aW (pq 0) T.mt T.wP (dh T) (g.mono Yk) T.wE .nil aT (a8 af ae)))
  (ao (aL (aW (pq 0) T.mt T.At (dO T) (g.mono Yk) T.wS .nil aT (a8 (aS (a8 av (a8 (pq 4) (a8 (ay gQ (pq 5) (aS (a8 (fi g.one (df (pq 0) U) (pq 3) Oy) ae))) (a8 (aS (a8 af (a8 af ae))) ae))))) ae)))
  (aq (aL (aW (pq 0) T.mt T.Gj (fm T) (g.mono Yk) T.Cl .nil aT (a8 (aG (a8 (pq 1) ae)) (a8 (pq 5) ae)))))))),?_⟩
 walk_at "q";refine⟨_,U,c.p,_,_,U,B.ro,aX Yd,_,U,ln1,λl2 a6=>?_⟩;have S:=a9.new a6 (.lst [.str d]);refine⟨c,l,f,N,l2,[d],U,B.same S,ah,by show 1<=1000;decide,λy hy=>by rwa[qS.mp hy],λ_ _ Z n3 a4=>?_⟩;have Y:=(B.same S).same Z;refine⟨_,U,_,U,c,l,f,N,x,U,Y,xc,o.le Yk,λ_ k4 B4=>⟨ln1,λ_ a3=>?_⟩⟩;have e5:=a9.new a3 (.tup [.int (N.n:Int)]);refine je (xs:=[V.int (N.fc d)]) (e5 _ _ (Y.tk k4 _ _ a4)) ah (by simp) (by show 1+1<=1000;decide) λt6 H6 s6 h6=>?_;have C:=e5.trans s6;have J:=B4.same C;have R:=pU (N:=N) (x:=x);generalize hM:N.fork x=M at *;refine⟨_,U,c.p,_,_,U,J.ro,aX Yd,c,l,f,M,1,U,J,Yk,(o.next R Yk).le Yk,λH7 t7 k7 r _ v=>?_⟩;refine⟨_,U,c.p,_,_,U,r.ro,aX Yd,_,U,_,U,_,U,c.p,_,_,_,_,U,r.ro,T.mt,T.Gs,jg,_,U,c.de,_,U,(by have:=ee.k (k:=.inr e) r.eo;rw[iw ec]at this;exact this),ln1,λ_ a2=>?_⟩;have e8:=a9.new a2 (.tup [.int (f e)]);refine je (xs:=[V.int ((M.n+0:Nat):Int)]) (e8 _ _ v) ah (by simp) (by show 1+1<=1000;decide) λt9 _ s9 h9=>⟨ln2,λt L=>⟨ln4,λG K0=>?_⟩⟩;have D:=a9.new L (.tup [.int 0,.int 1]);have m:=a9.new K0 (.tup [.str "pass",.ref t6,.ref t9,.ref t]);have b:=(e8.trans s9).trans (D.trans m);have I:=r.same b;have X:=D.trans m;refine⟨c,l,f,M.wires 1,.ref G,.pas [N.fc d,(N.n:Int)] [(M.n:Int),f e] [0,1],U,I,⟨G,t6,t9,t,U,ah,b _ _ (J.tk k7 _ _ h6),X _ _ h9,m _ _ ah⟩,(o.next (R.trans aV) Yk).le Yk,λ_ z u=>?_⟩;refine⟨_,U,c.p,_,_,U,u.ro,aX Yd,_,U,ln1,λa0 W=>?_⟩;have j:=a9.new W (.lst [.str d]);refine⟨_,U,c,l,f,_,a0,t7,[d],[(M.n:Int)],U,u.same j,ah,j _ _ (I.tk z _ _ (b _ _ v)),U,(o.next ((R.trans aV).trans bL) Yk).le (by show 1<=_;decide),λa5 a7 a1=>?_⟩;subst hM;refine q a5 ?_ a1;exact((Fb.of (S.trans Z)).trans k4).trans ((Fb.of C).trans (k7.trans ((Fb.of b).trans (z.trans (a9.fb j a7)))))
theorem CS(T:Tx P w K mg a):aF P w K mg base CX0 4 a.Im a.Io ["bench","store","name"] (tL a):=by
 refine T.Je.F.ok jL (by walk_at "l") λ_ A outer s H vs Q E d h=>?_;obtain⟨c,l,e,N,s,x,rfl,B,sl,sc,xc,se,v,q⟩:=h
 refine⟨_,(ao (ax (i:=3) jL.nd U Oi (aG (a8 (aD (oU T) (d.mono Yk) T.GI (a8 (pq 1) ae)) (a8 (pq 2) ae))))
  (ao (ax (i:=4) jL.nd U Oi (ay gQ (aW (pq 0) T.mt T.Ev (fj T) (d.mono Yk) T.Ch .nil aT (a8 (pq 3) ae)) (aS (a8 (fi d.one (df (pq 0) U) (pq 1) Oy) ae))))
  (ao (ax (i:=5) jL.nd U Oi (aW (pq 0) T.mt T.wP (dh T) (d.mono Yk) T.wE .nil aT (a8 af ae)))
  (ao (aL (aW (pq 0) T.mt T.At (dO T) (d.mono Yk) T.wS .nil aT (a8 (aS (a8 av (a8 (pq 4) (a8 (pq 5) (a8 (aS (a8 af (a8 af ae))) ae))))) ae)))
  (aq (aL (aW (pq 0) T.mt T.Gj (fm T) (d.mono Yk) T.Cl .nil aT (a8 (pq 3) (a8 (pq 5) ae))))))))),?_⟩
 walk_at "q";refine⟨_,U,s,U,sl,_,U,ln2,λl1 r=>?_⟩;have z:=a9.new r (.lst [.str (s++("<":Str)),.str x]);have f:upd H l1 (.lst [.str (s++("<":Str)),.str x]) l1=some (.lst ([s++("<":Str),x].map V.str)):=ah;have j:=B.same z;generalize upd H l1 (.lst [.str (s++("<":Str)),.str x])=H1 at z f j ⊢;refine⟨_,U,c.p,_,_,U,j.ro,aX Yd,_,U,c,l,e,N,l1,[s++("<":Str),x],U,j,f,by show 2<=1000;decide,λy hy=>?_,λ_ _ u n3 a1=>?_⟩
 .simp only[qt,qQ,or_false]at hy;rcases hy with rfl|rfl
  .exact sc
  .exact xc
 have t:=j.same u;refine⟨_,U,c.p,_,_,_,_,U,t.ro,T.mt,T.Gs,jg,_,U,c.de,_,U,(by have:=ee.k (k:=.inr s) t.eo;rw[iw se]at this;exact this),ln1,λ_ Y=>?_⟩;have S:=a9.new Y (.tup [.int (e s)]);refine je (S _ _ a1) ah (by simp) (by show 2+1<=1000;decide) λt5 _ s5 h5=>?_;have g:=S.trans s5;have J:=t.same g;refine⟨_,U,c.p,_,_,U,J.ro,aX Yd,c,l,e,N,2,U,J,Yk,v.le Yk,λH6 G D R _ m=>?_⟩;have I:=J.tk D
 have n1:l1≠c.ll/\l1≠c.lp/\l1≠c.dc:=by
  obtain⟨m1,m2,m3,_,_⟩:=B.off (o:=.lst []) r;exact⟨m1,m2,m3⟩
 have l6:=D _ _ n1.1 n1.2.1 n1.2.2 (g _ _ (u _ _ f));refine⟨_,U,c.p,_,_,U,R.ro,aX Yd,_,U,_,U,ln2,λr7 K0=>⟨ln4,λu8 a2=>?_⟩⟩;have e7:=a9.new K0 (.tup [.int 0,.int 2]);have X:=a9.new a2 (.tup [.str "pass",.ref t5,.ref G,.ref r7]);have b:=e7.trans X;have M:=R.same b;refine⟨c,l,e,N.wires 2,.ref u8,.pas [N.fc (s++("<":Str)),N.fc x,e s] (wid N.n 2) [0,2],U,M,⟨u8,t5,G,r7,U,ah,b _ _ (I _ _ h5),b _ _ m,X _ _ ah⟩,(v.next aV Yk).le Yk,λ_ C W=>?_⟩;have l9:=C _ _ n1.1 n1.2.1 n1.2.2 (b _ _ l6);refine⟨_,U,c.p,_,_,U,W.ro,aX Yd,_,U,_,U,c,l,e,_,l1,G,[s++("<":Str),x],wid N.n 2,U,W,l9,M.tk C _ _ (b _ _ m),U,(v.next (aV.trans bL) Yk).le (by show 2<=_;decide),λL a0 Z=>?_⟩;refine q L ?_ Z;exact(Fb.of (z.trans (u.trans g))).trans (D.trans ((Fb.of b).trans (C.trans a0)))
theorem EO.head{C a:LS}(h:BO C a [d]):EO C a d:=h.all d (by rw[ai,ai,qw,dE];exact qk)
theorem BO.mem{C a:LS}{ds:LA}{d:aa}(h:BO C a ds)(hd:d∈ds):BO C a [d]:=⟨λe b=>h.all e ((lD hd).mem b),qx (xI hd) h.dp,qx (lD hd).length_le h.fl⟩
theorem BO.inner{C a:LS}{d:aa}{b:LA}(h:BO C a [d])(hb:b∈d.inner):BO C a b:=⟨λe c=>h.all e ((jb hb).mem c),qx (Nat.le_of_lt (jd hb)) h.dp,qx (jb hb).length_le h.fl⟩
theorem BO.cards{C a:LS}(h:BO C a ds):∀k∈cards ds,k∈C:=λk hk=>by
 obtain⟨d,hd,hk⟩:=List.mem_flatMap.mp hk;exact(h.all d hd).cd k hk
theorem DO.mono{C b cs a:LS}(h:DO C b cs d)(k:∀x∈cs,x∈a):DO C b a d:=h.imp id λ⟨n,e,c⟩=>⟨n,k _ e,c⟩
theorem DO.plain{C a cs:LS}(h:DO C a cs d)(hi:∀n,d≠ctD n):BO C a [d]:=h.resolve_right λ⟨n,_,e⟩=>hi n e
theorem CM(T:Tx P w K mg a):aF P w K mg base CX0 5 a.Ib a.Ic ["bench","deed"] (tI a):=by
 refine T.Jc.F.ok uH (by walk_at "l") λJ A outer s H vs Q E j h=>?_;obtain⟨c,C,m,o,N,v,d,rfl,B,I,p,u,g,sub,gt,l,q⟩:=h
 refine⟨_,(ao (ax (i:=2) uH.nd U Oi (aj ar (pq 1) af Oy))
  (aq (aO (aI aZ (pq 2) av (aP _)) (aq (aL (aD (CN T) (j.mono Yk) T.Jd (a8 (pq 0) (a8 (pq 1) ae))))) (aq (aO (aI aZ (pq 2) av (aP _)) (aq (aL (aD (vP T) (j.mono Yk) T.Hq (a8 (pq 0) (a8 (aD (oR T) (j.mono Yk) T.GH (a8 (aj ar (pq 1) af Oy) ae)) (a8 (aj ar (pq 1) af Oy) (a8 (aj ar (pq 1) af Oy) ae))))))) (aq (aO (aI aZ (pq 2) av (aP _)) (aq (aL (aD (vP T) (j.mono Yk) T.Hq (a8 (pq 0) (a8 (eD U T.Gw T.r_OUTLET) (a8 (aj ar (pq 1) af Oy) (a8 (eD U T.Gw T.r_OUTLET) ae))))))) (aq (aL (aD (CS T) (j.mono Yk) T.Je (a8 (pq 0) (a8 (aj ar (pq 1) af Oy) (a8 (aj ar (pq 1) af Oy) ae))))))))))))),?_⟩
 walk_at "q"
 cases I with
 |set h=>
  rename_i t x z G y
  have nm:∀k∈(aa.set x z G y).names,k∈N.cs:=λk hk=>by
   rcases g with h'|⟨n,hn,e⟩
   .exact sub k ((EO.head h').cd k (by unfold aa.cards;simp[hk]))
   .rw[e]at hk;simp[ctD,aa.names,Val.names]at hk;rwa[hk]
  exists _,U,t,_,0,_,U,U,SqT.of h,U;exists _,U,U,_,U;walk_at "yes";exact⟨_,U,_,U,c,m,o,N,t,x,G,z,y,U,B,h,nm,l,λH' M ro b f=>q H' _ b f (.set ro .nil) ((Es ro).le Yk)⟩
 |put h=>
  rename_i t s x;have eo:=EO.head (g.plain λn e=>by cases e);obtain⟨r,sl⟩:=eo.st s x (.inl U);exists _,U,t,_,0,_,U,U,SqT.of h,U;exists _,U,U,_,U;walk_at "no";exists _,U,U,_,U;walk_at "yes";refine⟨_,U,_,U,t,_,1,_,U,U,SqT.of h,U,s,U,sl,_,U,t,_,2,_,U,U,SqT.of h,U,_,U,t,_,1,_,U,U,SqT.of h,U,c,m,o,N,_,x,s,U,B,sub _ (eo.cd _ (by simp[aa.cards,aa.others])),sub _ (eo.cd _ (by simp[aa.cards,aa.names])),r,l,λH' b f=>q H' _ b f (.put .nil) (wW.le Yk)⟩
 |give h=>
  rename_i t x;have eo:=EO.head (g.plain λn e=>by cases e);exists _,U,t,_,0,_,U,U,SqT.of h,U;exists _,U,U,_,U;walk_at "no";exists _,U,U,_,U;walk_at "no";exists _,U,U,_,U;walk_at "yes";refine⟨_,U,_,U,t,_,1,_,U,U,SqT.of h,U,c,m,o,N,_,x,(">":Str),U,B,sub _ (eo.cd _ (by simp[aa.cards,aa.others])),sub _ (eo.cd _ (by simp[aa.cards,aa.names])),gt,l,λH' b f=>q H' _ b f (.give .nil) (wW.le Yk)⟩
 |get h=>
  rename_i t s x;have eo:=EO.head (g.plain λn e=>by cases e);obtain⟨r,sl⟩:=eo.st s x (.inr U);exists _,U,t,_,0,_,U,U,SqT.of h,U;exists _,U,U,_,U;walk_at "no";exists _,U,U,_,U;walk_at "no";exists _,U,U,_,U;walk_at "no";refine⟨_,U,_,U,t,_,1,_,U,U,SqT.of h,U,_,U,t,_,2,_,U,U,SqT.of h,U,c,m,o,N,s,x,U,B,sl,sub _ (eo.cd _ (by simp[aa.cards,aa.others])),sub _ (eo.cd _ (by simp[aa.cards,aa.names])),r,l,λH' b f=>q H' _ b f (.get .nil) (Ex.le Yk)⟩
 |cond h D L=>simp[aa.inner]at p
 |whl h D=>simp[aa.inner]at p
 |rep h D=>exact Q5 U (u _ _)
section
variable {H2:Hp}{c:BAd}{C es:LS}
theorem c7.next(n:c7 a c C es fe H0 H N)(k:Fb c H H')(B:BG a H' c es fe N')(g:Gr N N' m):c7 a c C es fe H0 H' N':=⟨B,n.lt.next k,λx b=>g.sub x (n.sub x b),n.gt,n.c20,n.c1⟩
theorem c7.same(n:c7 a c C es fe H0 H N)(k:a9 H H'):c7 a c C es fe H0 H' N:=n.next (.of k) (n.bg.same k) Gr.refl
theorem c7.grow{b:Addr}{o:HO}(n:c7 a c C es fe H0 H N)(hb:H0 b=none)(h:H b=some o)(n1:b≠c.ll)(n2:b≠c.lp)(n3:b≠c.dc):c7 a c C es fe (upd H0 b o) H N:=⟨n.bg,n.lt.grow n.bg hb h n1 n2 n3,n.sub,n.gt,n.c20,n.c1⟩
theorem Lt.none{b:Addr}(L:Lt c H0 H)(h:H b=none):H0 b=none:=a9.none L.e0 h
end
theorem CT(T:Tx P w K mg a){n L:Nat}(l5:5<=L)(hI:aF P w K mg base CX0 L a.Hg a.Hh ["bench","deed"] (ml a n))(hW:aF P w K mg base CX0 L a.Hi a.Hj ["bench","deed"] (mi a n))(hR:aF P w K mg base CX0 L a.Hk a.Hl ["bench","rounds","body"] (mj a n)):aF P w K mg base CX0 (L+1) a.Gx a.Gy ["bench","block"] (jE a n):=by
 refine T.GJ.F.ok mQ (by walk_at "l") λa1 A outer s H vs Q E R h=>?_;obtain⟨c,C,o,r,H0,N,b,ds,rfl,nd,hb,a0,dp,sm,q⟩:=h
 refine⟨_,(aq (bO PassesOwn.never U (bJ (pq 1)) (aY (i:=2) mQ.nd U Oi)
  (aq (aO (aI aZ (aj ar (pq 2) af Oy) av (aP _)) (aq (aL (aD hI (R.mono Yo) T.Jg (a8 (pq 0) (a8 (pq 2) ae))))) (aq (aO (aI aZ (aj ar (pq 2) af Oy) av (aP _)) (aq (aL (aD hW (R.mono Yo) T.Jh (a8 (pq 0) (a8 (pq 2) ae))))) (aq (aO (aI aZ (aj ar (pq 2) af Oy) av (aP _)) (aq (aL (aD hR (R.mono Yo) T.Ji (a8 (pq 0) (a8 (aj ar (pq 2) af Oy) (a8 (aj ar (pq 2) af Oy) ae)))))) (aq (aL (aD (CM T) (R.mono Yo) T.Jc (a8 (pq 0) (a8 (pq 2) ae))))))))))))),?_⟩
 walk_at "q";obtain⟨Z,X⟩:=hb;rename_i us;exists _,U,b,U,⟨_,SqL.of (nd.lt.e0 _ _ Z)⟩;refine c9 (K:=K) (a:=b) (xs:=us) (λi S z=>∃v g,S=[some (.ref c.p),some (.ref b),v]/\Fb c H z/\BG a z c o r g/\Lay r N (ds.take i) g/\Gr N g (wts (ds.take i))) ⟨_,N,U,Fb.refl,nd.bg,.nil,Gr.refl⟩ ?_ ?_ ?_
 .rintro i S z _ ⟨_,_,_,J,_⟩;exact SqL.of ((nd.lt.next J).e0 _ _ Z)
 .rintro i x S z hx ⟨v,g,rfl,J,G,I,D⟩;obtain⟨d,hd,Y⟩:=X.at i x hx;have il:i<ds.length:=(qe.mp hd).1;have dm:=qy hd;have f:=nd.next J G D;have u:=(a0 d dm).mono D.sub;have tk:ds.take (i+1)=ds.take i++[d]:=by rw[qq,hd];rfl
  have w1:wts ds=wts (ds.take i)+(wts [d]+wts (ds.drop (i+1))):=by
   conv=>lhs;rw[<- Qu i ds]
   rw[jq,List.drop_eq_getElem_cons il,(qe.mp hd).2,yH]
  have y:Sm g (wts [d]):=(sm.next D Yo).le Yo;have dd:aA [d]<n:=Nat.lt_of_le_of_lt (xI dm) dp;have B:RD z x d:=RD.same f.lt.e0 Y;have fin:∀(H':Hp)(N':ap)(v':LB),Fb c z H'->BG a H' c o r N'->Lay r g [d] N'->Gr g N' (wts [d])->∃v g,[some (V.ref c.p),some (.ref b),v']=[some (.ref c.p),some (.ref b),v]/\Fb c H H'/\BG a H' c o r g/\Lay r N (ds.take (i+1)) g/\Gr N g (wts (ds.take (i+1))):=λH' N' v' j m l g'=>⟨v',N',U,J.trans j,m,by rw[tk];exact I.app l,by rw[tk,jq];exact D.trans g'⟩;have W:∀(t:Addr)(xs:LV)(kd:Str),x=.ref t->z t=some (.tup (.str kd::xs))->(kd == ("if":Str))=false->(kd == ("while":Str))=false->(kd == ("repeat":Str))=false->d.inner=[]->(∀k b,d≠.rep k b)->wtD d=20->True:=λ_ _ _ _ _ _ _ _ _ _ _=>trivial;clear W
  cases Y with
  |cond h K0 h2=>
   rename_i t t1 t2 M ts os;have ht:=f.lt.e0 _ _ h;have bo:BO C o [.cond M ts os]:=u.plain λn e=>by cases e
   exists _,U,t,_,0,_,U,U,SqT.of ht,U,U,_,U;walk_at "yes";exact⟨_,U,_,U,c,C,o,r,H0,g,.ref t,M,ts,os,U,f,.cond h K0 h2,bo,dd,y,λH' N' j m l g'=>fin H' N' _ j m l g'⟩
  |whl h K0=>
   rename_i t t1 M bs;have ht:=f.lt.e0 _ _ h;have bo:BO C o [.whl M bs]:=u.plain λn e=>by cases e
   exists _,U,t,_,0,_,U,U,SqT.of ht,U,U,_,U;walk_at "no";exists _,U,t,_,0,_,U,U,SqT.of ht,U,U,_,U;walk_at "yes";exact⟨_,U,_,U,c,C,o,r,H0,g,.ref t,M,bs,U,f,.whl h K0,bo,dd,y,λH' N' j m l g'=>fin H' N' _ j m l g'⟩
  |rep h K0=>
   rename_i t t1 kk bs;have ht:=f.lt.e0 _ _ h;have bo:BO C o [.rep kk bs]:=u.plain λn e=>by cases e
   exists _,U,t,_,0,_,U,U,SqT.of ht,U,U,_,U;walk_at "no";exists _,U,t,_,0,_,U,U,SqT.of ht,U,U,_,U;walk_at "no";exists _,U,t,_,0,_,U,U,SqT.of ht,U,U,_,U;walk_at "yes";exact⟨_,U,_,U,t,_,1,_,U,U,SqT.of ht,U,_,U,t,_,2,_,U,U,SqT.of ht,U,c,C,o,r,H0,g,kk,t1,bs,U,f,K0,bo,dd,y,λH' N' j m l g'=>fin H' N' _ j m l g'⟩
  |set h=>
   rename_i t x va sg vb;have ht:=f.lt.e0 _ _ h;exists _,U,t,_,0,_,U,U,SqT.of ht,U,U,_,U;walk_at "no";exists _,U,t,_,0,_,U,U,SqT.of ht,U,U,_,U;walk_at "no";exists _,U,t,_,0,_,U,U,SqT.of ht,U,U,_,U;walk_at "no";exact⟨_,U,_,U,c,C,o,r,g,.ref t,.set x va sg vb,U,G,B,U,(λ_ _ e=>by cases e),u,f.sub,f.gt,y,λH' N' j m l g'=>fin H' N' _ j m l g'⟩
  |put h=>
   rename_i t s x;have ht:=f.lt.e0 _ _ h;exists _,U,t,_,0,_,U,U,SqT.of ht,U,U,_,U;walk_at "no";exists _,U,t,_,0,_,U,U,SqT.of ht,U,U,_,U;walk_at "no";exists _,U,t,_,0,_,U,U,SqT.of ht,U,U,_,U;walk_at "no";exact⟨_,U,_,U,c,C,o,r,g,.ref t,.put s x,U,G,B,U,(λ_ _ e=>by cases e),u,f.sub,f.gt,y,λH' N' j m l g'=>fin H' N' _ j m l g'⟩
  |get h=>
   rename_i t s x;have ht:=f.lt.e0 _ _ h;exists _,U,t,_,0,_,U,U,SqT.of ht,U,U,_,U;walk_at "no";exists _,U,t,_,0,_,U,U,SqT.of ht,U,U,_,U;walk_at "no";exists _,U,t,_,0,_,U,U,SqT.of ht,U,U,_,U;walk_at "no";exact⟨_,U,_,U,c,C,o,r,g,.ref t,.get s x,U,G,B,U,(λ_ _ e=>by cases e),u,f.sub,f.gt,y,λH' N' j m l g'=>fin H' N' _ j m l g'⟩
  |give h=>
   rename_i t x;have ht:=f.lt.e0 _ _ h;exists _,U,t,_,0,_,U,U,SqT.of ht,U,U,_,U;walk_at "no";exists _,U,t,_,0,_,U,U,SqT.of ht,U,U,_,U;walk_at "no";exists _,U,t,_,0,_,U,U,SqT.of ht,U,U,_,U;walk_at "no";exact⟨_,U,_,U,c,C,o,r,g,.ref t,.give x,U,G,B,U,(λ_ _ e=>by cases e),u,f.sub,f.gt,y,λH' N' j m l g'=>fin H' N' _ j m l g'⟩
 .rintro S z ⟨v,g,rfl,J,G,I,D⟩;rw[X.len,qG]at I D;exact q z g J G I D
theorem CL(T:Tx P w K mg a){n L:Nat}(V:5<=L)(S:aF P w K mg base CX0 L a.Gx a.Gy ["bench","block"] (jE a n)):aF P w K mg base CX0 (L+1) a.Gz a.GA ["bench","block","cards","wires"] (jC a n):=by
 refine T.GK.F.ok AV (by walk_at "l") λ_ A outer s H vs Q E g h=>?_;obtain⟨c,C,j,k,J,N,b,l,t,ds,zs,ws,rfl,nd,hb,e,ht,len,_,z,dp,r,q⟩:=h
 refine⟨_,(ao (aL (aW (pq 0) T.mt T.Gj (fm T) (g.mono Yo) T.Cl .nil aT (a8 (pq 2) (a8 (pq 3) ae))))
  (ao (aL (aD S (g.mono Yo) T.GJ (a8 (pq 0) (a8 (pq 1) ae))))
  (aq (aK (aW (pq 0) T.mt T.Ev (fj T) (g.mono Yo) T.Ch .nil aT (a8 (pq 2) ae)))))),?_⟩
 walk_at "q";refine⟨_,U,c.p,_,_,U,nd.bg.ro,aX Yd,_,U,_,U,c,j,k,N,l,t,zs,ws,U,nd.bg,nd.lt.e0 _ _ e,ht,len,r.le Yo,λ_ u D=>?_⟩;have f:=nd.next u D cA;refine⟨_,U,_,U,c,C,j,k,J,_,b,ds,U,f,hb,z,dp,(r.next cA Yo).le Yo,λG y v d o i=>?_⟩;have m:=f.next v d i;refine⟨_,U,c.p,_,_,U,d.ro,aX Yd,_,U,c,j,k,y,l,zs,U,d,m.lt.e0 _ _ e,Yo,λx M=>i.sub x (((cH zs N.cs).2.1 x).mpr (.inr M)),λR K0 B n3 I=>?_⟩;exact q G y (u.trans v) d o i R K0 B n3 I
theorem Ew:Gr N (N.ifA zs x) (zs.length+zs.length+1+1+zs.length):=(((aV.trans aV).trans cy).trans bL).trans cA
theorem Eu{n:Nat}:Gr N (N.ifZ zs n ξ) (zs.length+1+zs.length):=(aV.trans bL).trans cA
theorem lq:Gr N (N.loA zs x beh) (1+zs.length+zs.length+1+zs.length):=(((cy.trans aV).trans aV).trans bL).trans cA
theorem wV{n:Nat}{a:LI}:Gr N (N.loZ zs n a beh) (1+zs.length):=bL.trans cA
theorem Et{k:Int}:Gr N (N.reA k) 4:=((cy.trans aV).trans bL).trans cA
theorem pN:wts [d]=wtD d+(d.inner.map wts).sum:=yG d
theorem CQ(T:Tx P w K mg a){n L:Nat}(i0:16<=L)(hT:aF P w K mg base CX0 L a.Gz a.GA ["bench","block","cards","wires"] (jC a n)):aF P w K mg base CX0 (L+1) a.Hg a.Hh ["bench","deed"] (ml a (n+1)):=by
 refine T.Jg.F.ok eu (by walk_at "l") λi1 A outer s H vs Q E f h=>?_;obtain⟨c,C,g,j,H0,N,v,x,B,os,rfl,nd,rd,bo,dp,r,q⟩:=h
 refine⟨_,(ao (ax (i:=2) eu.nd U Oi (aD (kA T) (f.mono Yo) T.Gv (a8 (aG (a8 (pq 1) ae)) ae)))
  (ao (ax (i:=3) eu.nd U Oi (aW (pq 0) T.mt T.Ev (fj T) (f.mono Yo) T.Ch .nil aT (a8 (pq 2) ae)))
  (ao (ax (i:=4) eu.nd U Oi (aW (pq 0) T.mt T.wP (dh T) (f.mono Yo) T.wE .nil aT (a8 (bv cR U T.r9 Q8 (a8 (pq 2) ae)) ae)))
  (ao (ax (i:=5) eu.nd U Oi (aW (pq 0) T.mt T.wP (dh T) (f.mono Yo) T.wE .nil aT (a8 (bv cR U T.r9 Q8 (a8 (pq 2) ae)) ae)))
  (ao (ax (i:=6) eu.nd U Oi (aW (pq 0) T.mt T.Gq (fN T) (f.mono Yo) T.Gk .nil aT (a8 af (a8 (aS ae) ae))))
  (ao (aL (aW (pq 0) T.mt T.At (dO T) (f.mono Yo) T.wS .nil aT (a8 (aS (a8 av (a8 (pq 3) (a8 (b4 qf PySem.F.slot_list_index PySem.F.type_list_index p9 (pq 2) (a8 (aj ar (pq 1) af Oy) ae)) (a8 (pq 4) (a8 (pq 5) (a8 (pq 6) ae))))))) ae)))
  (ao (ax (i:=7) eu.nd U Oi (aD hT (f.mono Yo) T.GK (a8 (pq 0) (a8 (aj ar (pq 1) af Oy) (a8 (pq 2) (a8 (pq 4) ae))))))
  (ao (ax (i:=8) eu.nd U Oi (aD hT (f.mono Yo) T.GK (a8 (pq 0) (a8 (aj ar (pq 1) af Oy) (a8 (pq 2) (a8 (pq 5) ae))))))
  (ao (ax (i:=9) eu.nd U Oi (aW (pq 0) T.mt T.wP (dh T) (f.mono Yo) T.wE .nil aT (a8 (bv cR U T.r9 Q8 (a8 (pq 2) ae)) ae)))
  (ao (aL (aW (pq 0) T.mt T.At (dO T) (f.mono Yo) T.wS .nil aT (a8 (aS (a8 av (a8 (pq 6) (a8 (pq 7) (a8 (pq 8) (a8 (pq 9) ae)))))) ae)))
  (aq (aL (aW (pq 0) T.mt T.Gj (fm T) (f.mono Yo) T.Cl .nil aT (a8 (pq 2) (a8 (pq 9) ae))))))))))))))),?_⟩
 walk_at "q";have e7:aA B<n:=qC (jd (d:=.cond x B os) (by simp[aa.inner])) (Nat.le_of_lt_succ dp);have g6:aA os<n:=qC (jd (d:=.cond x B os) (by simp[aa.inner])) (Nat.le_of_lt_succ dp);have g7:=bo.inner (b:=B) (by simp[aa.inner]);have f9:=bo.inner (b:=os) (by simp[aa.inner]);have wt:wts [.cond x B os]=200+(wts B+wts os):=by rw[pN];simp[wtD,aa.inner]
 have f0:=rd
 cases rd with
 |cond h h1 h2=>
  rename_i t t1 t2;have h0:=nd.lt.e0 _ _ h;refine⟨_,U,ln1,λl0 h5=>?_⟩;have e0:=a9.new h5 (.lst [.ref t]);have a':=nd.same e0;have b6:RL (upd H l0 (.lst [.ref t])) l0 [.cond x B os]:=.mk ah (.cons (RD.same (nd.lt.e0.trans e0) f0) .nil);have d1:=e0 _ _ h0;generalize upd H l0 (.lst [.ref t])=H1 at e0 a' b6 d1 ⊢;have c20:=nd.c20;refine⟨H1,l0,_,C,U,a9.refl _,b6,bo.dp,bo.fl,bo.cards,Yo,nd.c1,λH2 e zs s2 b5 d2 b' zm f8=>?_⟩;have zC:∀y∈zs,y∈C:=λy hy=>bo.cards y ((zm y).mp hy);have zf:zs.length<=20:=qx (bX b' zC) c20;have co:cj [.cond x B os] zs:=⟨b',zm,f8,zf⟩;have xz:x∈zs:=(zm x).mpr (by rw[cB];simp[aa.cards,aa.names]);obtain⟨z,m,l,_,_⟩:=a'.bg.off (o:=.lst []) b5;have a5:=a'.same s2;refine⟨_,U,c.p,_,_,U,a5.bg.ro,aX Yd,_,U,c,g,j,N,e,zs,U,a5.bg,d2,Yo,λy hy=>nd.sub y (zC y hy),λH3 t3 s3 n3 h4=>?_⟩;have R:=a5.same s3;have c5:=s3 _ _ d2;have h3:=s3 _ _ (s2 _ _ d1);refine⟨_,U,c.p,_,_,U,R.bg.ro,aX Yd,_,U,e,_,U,.inl (SqL.of c5),c,g,j,N,zs.length,by rw[q5];rfl,R.bg,Yo,r.le Yo,λH4 t4 k4 B4 i4 d3=>?_⟩;have g5:=R.next k4 B4 aV;have d0:=k4 _ _ z m l c5;have c6:=R.bg.tk k4;refine⟨_,U,c.p,_,_,U,B4.ro,aX Yd,_,U,e,_,U,.inl (SqL.of d0),c,g,j,_,zs.length,by rw[q5];rfl,B4,Yo,(r.next aV Yo).le Yo,λH5 t5 k5 B5 i5 a7=>?_⟩;have f5:=g5.next k5 B5 aV;have e9:=k5 _ _ z m l d0;have S:=B4.tk k5;refine⟨_,U,c.p,_,_,U,B5.ro,aX Yd,qr _,λf6 g2=>?_⟩;have e6:=a9.new g2 (.tup []);refine⟨c,g,j,_,.int 1,f6,[],U,B5.same e6,ah,(r.next (aV.trans aV) Yo).le Yo,λH7 m7 c8 k7 B7=>?_⟩;rw[b8,b8]at c8;rw[b8]at a7;subst c8;have J:Fb c H5 H7:=a9.fb e6 k7;have g8:=f5.next J B7 cy;have a3:=J _ _ z m l e9;have k:=B5.tk J;have h7:=k _ _ (S _ _ (c6 _ _ h3));refine⟨_,U,c.p,_,_,U,B7.ro,aX Yd,_,U,_,U,.inl ⟨U,_,SqL.of a3⟩,_,U,t,_,1,_,U,U,SqT.of h7,U,e,zs,x,U,U,a3,xz,Yo,_,U,_,U,_,U,ln6,λu8 f4=>?_⟩;have W:=a9.new f4 (.tup [.str "choose",.ref t3,.int ((zs.idxOf x:Nat):Int),.ref t4,.ref t5,.int ((N.n+zs.length+zs.length:Nat):Int)]);have c4:upd H7 u8 (.tup [.str "choose",.ref t3,.int ((zs.idxOf x:Nat):Int),.ref t4,.ref t5,.int ((N.n+zs.length+zs.length:Nat):Int)]) u8=_:=ah;generalize upd H7 u8 (.tup [.str "choose",.ref t3,.int ((zs.idxOf x:Nat):Int),.ref t4,.ref t5,.int ((N.n+zs.length+zs.length:Nat):Int)])=H8 at W c4 ⊢;refine⟨c,g,j,_,.ref u8,.cho (zs.map N.fc) (zs.idxOf x:Nat) (wid N.n zs.length) (wid (N.n+zs.length) zs.length) ((N.n+zs.length+zs.length:Nat):Int),U,B7.same W,⟨u8,t3,t4,t5,U,c4,W _ _ (k _ _ (S _ _ (c6 _ _ h4))),W _ _ (k _ _ (S _ _ d3)),W _ _ (k _ _ a7)⟩,(r.next ((aV.trans aV).trans cy) Yo).le Yo,λH9 k9 B9=>?_⟩;have M:Fb c H7 H9:=a9.fb W k9;have g':=g8.next M B9 bL;have c0:=M _ _ z m l a3;have Y:=B7.tk M;have h9:=Y _ _ h7;have g1:=Y _ _ (k _ _ (S _ _ d3));have g3:=Y _ _ (k _ _ a7);have h6:Fb c H H9:=(Fb.of (e0.trans (s2.trans s3))).trans (k4.trans (k5.trans (J.trans M)));have n0:H0 e=none:=a9.none (nd.lt.e0.trans e0) b5;have g0:=a9.new n0 (.lst (zs.map V.str));have Z:=g'.grow n0 c0 z m l;have a4:upd H0 e (.lst (zs.map V.str)) e=some (.lst (zs.map V.str)):=ah;generalize upd H0 e (.lst (zs.map V.str))=G0 at g0 Z a4 ⊢;have gA:Gr N (N.ifA zs x) (zs.length+zs.length+1+1+zs.length):=Ew;refine⟨_,U,_,U,t,_,2,_,U,U,SqT.of h9,U,_,U,_,U,c,C,g,j,G0,_,t1,e,t4,B,zs,wid N.n zs.length,U,Z,RL.same g0 h1,a4,g1,(bE _ _).symm,Yo,λd hd=>.inl (g7.mem hd),e7,(r.next (((aV.trans aV).trans cy).trans bL) Yo).le Yo,λh' N1 d4 c' d' b2 c2 b9 K0 i2 d9=>?_⟩;have e3:=Z.next (d4.more K0) (c'.same K0) (cA.trans b2);have I:=d4.more K0;have b3:TK H9 c2:=B9.tk I;have d7:=I _ _ z m l c0;refine⟨_,U,_,U,t,_,3,_,U,U,SqT.of (b3 _ _ h9),U,_,U,_,U,c,C,g,j,G0,N1,t2,e,t5,os,zs,wid (N.n+zs.length) zs.length,U,e3,RL.same g0 h2,a4,b3 _ _ g3,(bE _ _).symm,Yo,λd hd=>.inl (f9.mem hd),g6,(r.next (gA.trans b2) Yo).le Yo,λi3 N2 g9 g4 d8 f7 f1 c3 c7 i6 e2=>?_⟩;have a2:=g4.same c7;have D:=g9.more c7;have d5:TK c2 f1:=(c'.same K0).tk D;have X:=D _ _ z m l d7;have gB:=(gA.trans b2).trans ((cA (N:=N1) (zs:=zs) (ws:=wid (N.n+zs.length) zs.length)).trans f7);refine⟨_,U,c.p,_,_,U,a2.ro,aX Yd,_,U,e,_,U,.inl (SqL.of X),c,g,j,N2,zs.length,by rw[q5];rfl,a2,Yo,(r.next gB Yo).le Yo,λe' b0 a1 b1 h8 a0=>?_⟩;have a6:=a2.tk a1;refine⟨_,U,c.p,_,_,U,b1.ro,aX Yd,_,U,_,U,_,U,_,U,ln5,λc9 e1=>?_⟩;have G:=a9.new e1 (.tup [.str "merge",.int ((N.n+zs.length+zs.length:Nat):Int),.ref b9,.ref c3,.ref b0]);refine⟨c,g,j,_,.ref c9,.mrg ((N.n+zs.length+zs.length:Nat):Int) (zs.map N1.fc) (zs.map N2.fc) (wid N2.n zs.length),U,b1.same G,⟨c9,b9,c3,b0,U,ah,G _ _ (a6 _ _ (d5 _ _ d9)),G _ _ (a6 _ _ e2),G _ _ a0⟩,(r.next (gB.trans aV) Yo).le Yo,λf3 f2 b7=>?_⟩;have u:Fb c e' f3:=a9.fb G f2;have d6:=u _ _ z m l (a1 _ _ z m l X);refine⟨_,U,c.p,_,_,U,b7.ro,aX Yd,_,U,_,U,c,g,j,_,e,b0,zs,wid N2.n zs.length,U,b7,d6,(b1.tk u) _ _ a0,(bE _ _).symm,(r.next ((gB.trans aV).trans bL) Yo).le Yo,λe4 e5 f'=>?_⟩;exact q e4 _ (h6.trans (I.trans (D.trans (a1.trans (u.trans e5))))) f' (.cond co d' d8 .nil) ((gB.trans Eu).le Yo)
theorem CP(T:Tx P w K mg a){n L:Nat}(d1:16<=L)(hT:aF P w K mg base CX0 L a.Gz a.GA ["bench","block","cards","wires"] (jC a n)):aF P w K mg base CX0 (L+1) a.GB a.GC ["bench","cards","name","body","behind"] (jD a n):=by
 refine T.Hr.F.ok iJ (by walk_at "l") λ_ A outer s H vs Q E j h=>?_;obtain⟨c,C,f,g,H0,N,y,b,t,zs,x,ds,beh,rfl,nd,e,hb,ht,len,_,c',xz,b2,dp,l,q⟩:=h
 refine⟨_,(ao (ax (i:=5) iJ.nd U Oi (aW (pq 0) T.mt T.Ev (fj T) (j.mono Yo) T.Ch .nil aT (a8 (pq 1) ae)))
  (ao (ax (i:=6) iJ.nd U Oi (aW (pq 0) T.mt T.Gq (fN T) (j.mono Yo) T.Gk .nil aT (a8 af (a8 (aS (a8 af ae)) ae))))
  (ao (ax (i:=7) iJ.nd U Oi (aW (pq 0) T.mt T.wP (dh T) (j.mono Yo) T.wE .nil aT (a8 (bv cR U T.r9 Q8 (a8 (pq 1) ae)) ae)))
  (ao (ax (i:=8) iJ.nd U Oi (aW (pq 0) T.mt T.wP (dh T) (j.mono Yo) T.wE .nil aT (a8 (bv cR U T.r9 Q8 (a8 (pq 1) ae)) ae)))
  (ao (aL (aW (pq 0) T.mt T.At (dO T) (j.mono Yo) T.wS .nil aT (a8 (aS (a8 av (a8 (pq 7) (a8 (b4 qf PySem.F.slot_list_index PySem.F.type_list_index p9 (pq 1) (a8 (pq 2) ae)) (a8 (pq 8) (a8 (pq 4) (a8 (pq 6) ae))))))) ae)))
  (ao (aL (aW (pq 0) T.mt T.At (dO T) (j.mono Yo) T.wS .nil aT (a8 (aS (a8 av (a8 (pq 6) (a8 (aD hT (j.mono Yo) T.GK (a8 (pq 0) (a8 (pq 3) (a8 (pq 1) (a8 (pq 8) ae))))) (a8 (pq 5) (a8 (pq 7) ae)))))) ae)))
  (aq (aL (aW (pq 0) T.mt T.Gj (fm T) (j.mono Yo) T.Cl .nil aT (a8 (pq 1) (a8 (pq 4) ae))))))))))),?_⟩
 walk_at "q";have B:=nd.bg;have b0:=nd.lt.e0 _ _ e;refine⟨_,U,c.p,_,_,U,B.ro,aX Yd,_,U,c,f,g,N,y,zs,U,B,b0,Yo,c',λH1 t1 s1 n1 c6=>?_⟩;have u:=nd.same s1;refine⟨_,U,c.p,_,_,U,u.bg.ro,aX Yd,ln1,λf2 c4=>?_⟩;have W:=a9.new c4 (.tup [.int 0]);have d0:upd H1 f2 (.tup [.int 0]) f2=some (.tup ([(0:Int)].map V.int)):=ah;refine⟨c,f,g,N,.int 1,f2,[0],U,u.bg.same W,d0,l.le Yo,λH3 _ c2 k3 Y=>?_⟩;subst c2;have a3:=(u.same W).next k3 Y cy;have b':=a3.lt.e0 _ _ e;refine⟨_,U,c.p,_,_,U,Y.ro,aX Yd,_,U,y,_,U,.inl (SqL.of b'),c,f,g,_,zs.length,by rw[q5];rfl,Y,Yo,(l.next cy Yo).le Yo,λ_ I k4 B4 _ S=>?_⟩;rw[dP]at S;have a5:=a3.next k4 B4 aV;have c8:=a5.lt.e0 _ _ e;refine⟨_,U,c.p,_,_,U,B4.ro,aX Yd,_,U,y,_,U,.inl (SqL.of c8),c,f,g,_,zs.length,by rw[q5];rfl,B4,Yo,(l.next (cy.trans aV) Yo).le Yo,λH5 t5 k5 B5 _ R=>?_⟩;rw[b8,dP]at R;have a1:=a5.next k5 B5 aV;have a0:=a1.lt.e0 _ _ e;have D:TK H1 H3:=λb xs h=>(u.bg.same W).tk k3 _ _ (W _ _ h);have a4:=Y.tk k4;have r:=B4.tk k5;have K0:H5 t=_:=r _ _ (a4 _ _ (D _ _ (s1 _ _ ht)));refine⟨_,U,c.p,_,_,U,B5.ro,aX Yd,_,U,_,U,.inl ⟨U,_,SqL.of a0⟩,_,U,y,zs,x,U,U,a0,xz,Yo,_,U,_,U,_,U,ln6,λu6 b3=>?_⟩;have G:=a9.new b3 (.tup [.str "choose",.ref I,.int ((zs.idxOf x:Nat):Int),.ref t5,.ref t,.int (N.n:Int)]);refine⟨c,f,g,_,.ref u6,.cho (wid (N.n+1) zs.length) (zs.idxOf x:Nat) (wid (N.n+1+zs.length) zs.length) beh (N.n:Int),U,B5.same G,⟨u6,I,t5,t,U,ah,G _ _ (r _ _ S),G _ _ R,G _ _ K0⟩,(l.next ((cy.trans aV).trans aV) Yo).le Yo,λH7 k7 B7=>?_⟩;have J:Fb c H5 H7:=a9.fb G k7;have a6:=a1.next J B7 bL;have o:=B5.tk J;have c1:Fb c H H7:=(Fb.of (s1.trans W)).trans (k3.trans (k4.trans (k5.trans J)));refine⟨_,U,c.p,_,_,U,B7.ro,aX Yd,_,U,_,U,_,U,_,U,_,U,c,C,f,g,H0,_,b,y,t5,ds,zs,wid (N.n+1+zs.length) zs.length,U,a6,hb,e,o _ _ R,(bE _ _).symm,Yo,λd hd=>(b2 d hd).mono (lq (N:=N) (zs:=zs) (x:=x) (beh:=beh)).sub,dp,(l.next (((cy.trans aV).trans aV).trans bL) Yo).le Yo,λ_ N1 k8 B8 c9 Z v t9 s9 _ b5=>?_⟩;have B9:=B8.same s9;have M:Fb c H7 v:=k8.more s9;have z:TK H7 v:=B7.tk M;refine⟨_,U,_,U,ln5,λa2 a7=>?_⟩;have k:=a9.new a7 (.tup [.str "merge",.int (N.n:Int),.ref t9,.ref t1,.ref I]);have c3:v t1=_:=z _ _ (o _ _ (r _ _ (a4 _ _ (D _ _ c6))));have b7:v I=_:=z _ _ (o _ _ (r _ _ S));have c0:v t=_:=z _ _ (o _ _ K0);have gA:Gr N (N.loA zs x beh) (1+zs.length+zs.length+1+zs.length):=lq;refine⟨c,f,g,N1,.ref a2,.mrg (N.n:Int) (zs.map N1.fc) (zs.map N.fc) (wid (N.n+1) zs.length),U,B9.same k,⟨a2,t9,t1,I,U,ah,k _ _ b5,k _ _ c3,k _ _ b7⟩,(l.next (gA.trans Z) Yo).le Yo,λb6 b1 X=>?_⟩;have m:Fb c v b6:=a9.fb k b1;have a':=a6.next (M.trans m) X ((cA.trans Z).trans bL);refine⟨_,U,c.p,_,_,U,X.ro,aX Yd,_,U,_,U,c,f,g,_,y,t,zs,beh,U,X,a'.lt.e0 _ _ e,B9.tk m _ _ c0,len,(l.next ((gA.trans Z).trans bL) Yo).le Yo,λb9 c7 c5=>?_⟩;exact q b9 N1 (c1.trans (M.trans (m.trans c7))) c5 c9 Z
theorem CK(T:Tx P w K mg a){n L:Nat}(a7:16<=L)(hP:aF P w K mg base CX0 L a.GB a.GC ["bench","cards","name","body","behind"] (jD a n)):aF P w K mg base CX0 (L+1) a.Hi a.Hj ["bench","deed"] (mi a (n+1)):=by
 refine T.Jh.F.ok uG (by walk_at "l") λa' A outer s H vs Q E D h=>?_;obtain⟨c,C,es,fe,I,N,v,x,bs,rfl,nd,rd,bo,dp,sm,q⟩:=h
 refine⟨_,(ao (ax (i:=2) uG.nd U Oi (aD (kA T) (D.mono Yo) T.Gv (a8 (aG (a8 (pq 1) ae)) ae)))
  (aq (aL (aD hP (D.mono Yo) T.Hr (a8 (pq 0) (a8 (pq 2) (a8 (aj ar (pq 1) af Oy) (a8 (aj ar (pq 1) af Oy) (a8 (aW (pq 0) T.mt T.wP (dh T) (D.mono Yo) T.wE .nil aT (a8 (bv cR U T.r9 Q8 (a8 (pq 2) ae)) ae)) ae))))))))),?_⟩
 walk_at "q";have a4:aA bs<n:=qC (jd (d:=.whl x bs) (by simp[aa.inner])) (Nat.le_of_lt_succ dp);have a1:=bo.inner (b:=bs) (by simp[aa.inner]);have wt:wts [.whl x bs]=200+wts bs:=by rw[pN];simp[wtD,aa.inner]
 have R:=rd
 cases rd with
 |whl h h1=>
  rename_i t t1;have h0:=nd.lt.e0 _ _ h;refine⟨_,U,ln1,λj a5=>?_⟩;have e0:=a9.new a5 (.lst [.ref t]);have g:=nd.same e0;have m:RL (upd H j (.lst [.ref t])) j [.whl x bs]:=.mk ah (.cons (RD.same (nd.lt.e0.trans e0) R) .nil);have r:=e0 _ _ h0;generalize upd H j (.lst [.ref t])=H1 at e0 g m r ⊢;have c20:=nd.c20;refine⟨H1,j,_,C,U,a9.refl _,m,bo.dp,bo.fl,bo.cards,Yo,nd.c1,λH2 e zs K0 k u B M a2=>?_⟩;have Z:∀y∈zs,y∈C:=λy J=>bo.cards y ((M y).mp J);have zf:zs.length<=20:=qx (bX B Z) c20;have co:cj [.whl x bs] zs:=⟨B,M,a2,zf⟩;have xz:x∈zs:=(M x).mpr (by rw[cB];simp[aa.cards,aa.names]);obtain⟨m1,X,W,_,_⟩:=g.bg.off (o:=.lst []) k;have f:=g.same K0;have h2:=K0 _ _ r;refine⟨_,U,_,U,_,U,t,_,1,_,U,U,SqT.of h2,U,_,U,t,_,2,_,U,U,SqT.of h2,U,_,U,c.p,_,_,U,f.bg.ro,aX Yd,_,U,e,_,U,.inl (SqL.of u),c,es,fe,N,zs.length,by rw[q5];rfl,f.bg,Yo,sm.le Yo,λH4 t4 G B4 a6 a3=>?_⟩;have a0:=f.next G B4 aV;have S:=G _ _ m1 X W u;have n0:I e=none:=a9.none (nd.lt.e0.trans e0) k;have g0:=a9.new n0 (.lst (zs.map V.str));have l:=a0.grow n0 S m1 X W;have z:upd I e (.lst (zs.map V.str)) e=some (.lst (zs.map V.str)):=ah;generalize upd I e (.lst (zs.map V.str))=G0 at g0 l z ⊢;have en:=b8 N zs.length;refine⟨c,C,es,fe,G0,_,e,t1,t4,zs,x,bs,wid N.n zs.length,U,l,z,RL.same g0 h1,a3,(bE _ _).symm,Yo,λy J=>nd.sub y (Z y J),xz,λd hd=>.inl (a1.mem hd),a4,(sm.next aV Yo).le Yo,λH5 N1 k5 B5 Y gr=>?_⟩;rw[en]at B5;exact q H5 _ ((Fb.of (e0.trans K0)).trans (G.trans k5)) B5 (.whl co Y .nil) (((aV.trans lq).trans (gr.trans wV)).le Yo)
theorem w6(N:ap)(k:Int):(N.reA k).n=N.n+2:=by
 unfold ap.reA;rw[kE,Dx,b8,dP]
theorem CO(T:Tx P w K mg a){n L:Nat}(a6:16<=L)(hP:aF P w K mg base CX0 L a.GB a.GC ["bench","cards","name","body","behind"] (jD a n)):aF P w K mg base CX0 (L+1) a.Hk a.Hl ["bench","rounds","body"] (mj a (n+1)):=by
 refine T.Ji.F.ok gE (by walk_at "l") λi5 A outer s H vs Q E Z h=>?_;obtain⟨c,C,M,R,H0,N,k,l,bs,rfl,nd,rl,bo,dp,I,q⟩:=h
 refine⟨_,(ao (ax (i:=3) gE.nd U Oi (aD (kA T) (Z.mono Yo) T.Gv (a8 (pq 2) ae)))
  (ao (aO (aI aZ (bv cR U T.r9 Q8 (a8 (pq 3) ae)) af (aP _)) (aq BW) bh)
  (ao (ax (i:=4) gE.nd U Oi (aW (pq 0) T.mt T.Gq (fN T) (Z.mono Yo) T.Gk .nil aT (a8 af (a8 (aS (a8 af ae)) ae))))
  (ao (ax (i:=5) gE.nd U Oi (bF rF U T.vz PyProof.Rows.Boot.«str» (a8 (pq 4) ae)))
  (ao (ax (i:=6) gE.nd U Oi (aW (pq 0) T.mt T.wP (dh T) (Z.mono Yo) T.wE .nil aT (a8 af ae)))
  (ao (aL (aW (pq 0) T.mt T.At (dO T) (Z.mono Yo) T.wS .nil aT (a8 (aS (a8 av (a8 (aS (a8 (pq 4) ae)) (a8 (aj ar (pq 6) af Oy) (a8 av (a8 (aS (a8 av (a8 (pq 1) ae))) (a8 (aS (a8 av (a8 af ae))) ae))))))) ae)))
  (ao (aL (aW (pq 0) T.mt T.Gj (fm T) (Z.mono Yo) T.Cl .nil aT (a8 (aG (a8 (pq 5) ae)) (a8 (pq 6) ae))))
  (ao (ax (i:=7) gE.nd U Oi (ay cQ (pq 2) (aG (a8 (aS (a8 av (a8 (pq 5) (a8 (pq 5) (a8 av (a8 af ae)))))) ae))))
  (aq (aL (aD hP (Z.mono Yo) T.Hr (a8 (pq 0) (a8 (ay cQ (pq 3) (aG (a8 (pq 5) ae))) (a8 (pq 5) (a8 (pq 7) (a8 (ay gQ (aW (pq 0) T.mt T.wP (dh T) (Z.mono Yo) T.wE .nil aT (a8 (bv cR U T.r9 Q8 (a8 (pq 3) ae)) ae)) (aS (a8 (pq 4) ae))) ae)))))))))))))))),?_⟩
 walk_at "q";have i4:aA bs<n:=qC (jd (d:=.rep k bs) (by simp[aa.inner])) (Nat.le_of_lt_succ dp);have r:=bo.inner (b:=bs) (by simp[aa.inner]);have wt:wts [.rep k bs]=200+wts bs:=by rw[pN];simp[wtD,aa.inner]
 have c20:=nd.c20;refine⟨_,U,H0,l,bs,C,U,nd.lt.e0,rl,r.dp,r.fl,r.cards,Yo,nd.c1,λH2 lc zs s2 g3 f2 d2 zm h1=>?_⟩;have zC:∀y∈zs,y∈C:=λy hy=>r.cards y ((zm y).mp hy);have zf:zs.length<=20:=qx (bX d2 zC) c20;have co:cj bs zs:=⟨d2,zm,h1,zf⟩;have a1:=nd.same s2;exists _,U,lc,_,U,.inl (SqL.of f2),U,_,U;rw[q5];by_cases z0:zs=[]
 .subst z0;refine bK U ?_;refine q H2 N (Fb.of s2) a1.bg (.rep0 ?_ .nil) (Gr.refl.le (qr _));refine List.eq_nil_iff_forall_not_mem.mpr λk hk=>?_;have:=(zm k).mpr hk;simp at this
 refine bn (by
  have:zs.length≠0:=λh=>z0 (List.length_eq_zero_iff.mp h);simp
  lia) ?_
 refine⟨_,U,c.p,_,_,U,a1.bg.ro,aX Yd,ln1,λf3 g5=>?_⟩;have e3:=a9.new g5 (.tup [.int 0]);have h7:upd H2 f3 (.tup [.int 0]) f3=some (.tup ([(0:Int)].map V.int)):=ah;have sl:=I.l;refine⟨c,M,R,N,.int 1,f3,[0],U,a1.bg.same e3,h7,I.le Yo,λH4 m4 g4 k4 B4=>?_⟩;subst g4;have h5:=(a1.same e3).next k4 B4 cy
 have nn:N.n<=100000:=by
  show N.ls.length<=100000;lia
 exists _,U,(N.n:Int),U,j0 (by rw[Int.natAbs_natCast];exact Nat.lt_of_le_of_lt nn Yk);rw[show(Str.ofString (toString (N.n:Int)):Str)=ctN N.n from rfl];refine⟨_,U,c.p,_,_,U,B4.ro,aX Yd,c,M,R,_,1,U,B4,Yk,(I.next cy Yo).le Yo,λH5 t5 k5 B5 i' d'=>?_⟩;rw[dP]at d';have b0:H5 t5=some (.tup [.int ((N.n+1+0:Nat):Int)]):=d';have h0:=h5.next k5 B5 aV;refine⟨_,U,c.p,_,_,U,B5.ro,aX Yd,_,U,ln1,λW h8=>?_⟩;have e6:=a9.new h8 (.tup [.int (N.n:Int)]);have d1:upd H5 W (.tup [.int (N.n:Int)]) W=some (.tup ([(N.n:Int)].map V.int)):=ah;generalize upd H5 W (.tup [.int (N.n:Int)])=H6 at e6 d1 ⊢;refine⟨_,U,t5,_,0,_,U,U,SqT.of (e6 _ _ b0),U,_,U,ln2,λz g6=>⟨ln2,λG h'=>⟨ln6,λu9 g8=>?_⟩⟩⟩;have e7:=a9.new g6 (.tup [.str "is",.int k]);have e8:=a9.new h' (.tup [.str "is",.int 0]);have e9:=a9.new g8 (.tup [.str "work",.ref W,.int ((N.n+1+0:Nat):Int),.str "+",.ref z,.ref G]);have s9:=(e7.trans e8).trans e9;have e1:=e9 _ _ (e8 _ _ (ah (H:=H6) (a:=z) (o:=.tup [.str "is",.int k])));have e2:=e9 _ _ (ah (H:=upd H6 z (.tup [.str "is",.int k])) (a:=G) (o:=.tup [.str "is",.int 0]));have c8:upd (upd (upd H6 z (.tup [.str "is",.int k])) G (.tup [.str "is",.int 0])) u9 (.tup [.str "work",.ref W,.int ((N.n+1+0:Nat):Int),.str "+",.ref z,.ref G]) u9=_:=ah;generalize upd (upd (upd H6 z (.tup [.str "is",.int k])) G (.tup [.str "is",.int 0])) u9 (.tup [.str "work",.ref W,.int ((N.n+1+0:Nat):Int),.str "+",.ref z,.ref G])=H9 at s9 e1 e2 c8 ⊢;clear e7 e8 e9;have c0:=(h0.same e6).same s9;refine⟨c,M,R,_,.ref u9,.wrk [(N.n:Int)] ((N.n+1:Nat):Int) "+" (.is k) (.is 0),U,c0.bg,⟨u9,W,.ref z,.ref G,U,c8,s9 _ _ d1,⟨z,U,e1⟩,⟨G,U,e2⟩⟩,(I.next (cy.trans aV) Yo).le Yo,λi3 a3 b'=>?_⟩;have g2:=c0.next a3 b' bL;have f6:=c0.bg.tk a3 _ _ (s9 _ _ (e6 _ _ b0));refine⟨_,U,c.p,_,_,U,b'.ro,aX Yd,_,U,ln1,λh3 f9=>?_⟩;have D:=a9.new f9 (.lst [.str (ctN N.n)]);refine⟨_,U,c,M,R,_,h3,t5,[ctN N.n],[((N.n+1:Nat):Int)],U,b'.same D,ah,D _ _ f6,U,(I.next ((cy.trans aV).trans bL) Yo).le (by show 1<=_;lia),λj b9 d6=>?_⟩;have gR:Gr N (N.reA k) 4:=Et;have X:c7 a c C M R H0 j (N.reA k):=(g2.same D).next b9 d6 cA;have h2:Fb c H j:=(Fb.of s2).trans ((a9.fb e3 k4).trans (k5.trans ((a9.fb (e6.trans s9) a3).trans (a9.fb D b9))));obtain⟨i0,c'⟩:=rl;rename_i us;have ul:=c'.len;have i2:=lG bs;have i7:=r.fl;have g1:=X.lt.e0 _ _ i0
 have f5:j lc=some (.lst (zs.map V.str)):=by
  obtain⟨m1,m2,m3,_,_⟩:=nd.bg.off (o:=.lst []) g3;exact(((a9.fb e3 k4).trans (k5.trans ((a9.fb (e6.trans s9) a3).trans (a9.fb D b9)))) _ _ m1 m2 m3 f2)
 refine⟨_,U,_,U,_,U,ln5,λe x=>⟨ln1,λb6 c5=>⟨l,b6,us,_,U,U,SqL.of ((a9.new x _).trans (a9.new c5 _) _ _ g1),SqL.of ah,aJ (m:=10000) (by show us.length+1<=_;lia),λt a4=>?_⟩⟩⟩;have e':=a9.new x (.tup [.str "set",.str (ctN N.n),.str (ctN N.n),.str "-",.int 1]);have f1:=Lt.none X.lt x;have a7:=d6.off (o:=.lst []) x;have e5:=a9.new f1 (.tup [.str "set",.str (ctN N.n),.str (ctN N.n),.str "-",.int 1]);have b1:=(X.same e').grow f1 ah a7.1 a7.2.1 a7.2.2.1;have d7:upd H0 e (.tup [.str "set",.str (ctN N.n),.str (ctN N.n),.str "-",.int 1]) e=some (.tup [.str "set",.str (ctN N.n),(Val.nm (ctN N.n)).v,.str "-",(Val.num 1).v]):=ah;have b5:=a9.new c5 (.lst [.ref e]);have u:=b1.same b5;have f0:a9 j _:=e'.trans b5;have f:upd (upd j e (.tup [.str "set",.str (ctN N.n),.str (ctN N.n),.str "-",.int 1])) b6 (.lst [.ref e]) t=none:=a4;have b2:=a9.new f (.lst (us++[.ref e]));have a0:=Lt.none u.lt f;have a2:=u.bg.off (o:=.lst []) f;have K0:=(u.same b2).grow a0 ah a2.1 a2.2.1 a2.2.2.1;have d3:=e5.trans (a9.new a0 (.lst (us++[.ref e])));have d8:RL (upd (upd H0 e (.tup [.str "set",.str (ctN N.n),.str (ctN N.n),.str "-",.int 1])) t (.lst (us++[.ref e]))) t (bs++[ctD N.n]):=.mk ah ((c'.same d3).app (.cons (.set (a9.new a0 _ _ _ d7)) .nil));have c2:=f0.trans b2;have Y:=c2 _ _ f5;generalize upd (upd (upd j e (.tup [.str "set",.str (ctN N.n),.str (ctN N.n),.str "-",.int 1])) b6 (.lst [.ref e])) t (.lst (us++[.ref e]))=H15 at K0 c2 Y ⊢;generalize upd (upd H0 e (.tup [.str "set",.str (ctN N.n),.str (ctN N.n),.str "-",.int 1])) t (.lst (us++[.ref e]))=G2 at K0 d3 d8;clear u b1 b5 b2 f0 a4 f a0 a2 e5 d7;refine⟨_,U,_,U,_,U,ln1,λa6 f'=>?_⟩;have a':=a9.new f' (.lst [.str (ctN N.n)]);refine⟨lc,a6,_,_,U,U,SqL.of (a' _ _ Y),SqL.of ah,aJ (m:=10000) (by rw[q5];show _+1<=_;lia),λB J=>?_⟩;have S:=K0.same a';have f4:=a9.new J (.lst (zs.map V.str++[.str (ctN N.n)]));have e4:=Lt.none S.lt J;have b7:=S.bg.off (o:=.lst []) J;have g:=(S.same f4).grow e4 ah b7.1 b7.2.1 b7.2.2.1;have d0:=a9.new e4 (.lst (zs.map V.str++[.str (ctN N.n)]));have d5:upd G2 B (.lst (zs.map V.str++[.str (ctN N.n)])) B=some (.lst ((zs++[ctN N.n]).map V.str)):=by rw[ah,qO];rfl
 have b4:=a'.trans f4;have b3:=b4 _ _ Y;generalize upd (upd H15 a6 (.lst [.str (ctN N.n)])) B (.lst (zs.map V.str++[.str (ctN N.n)]))=H17 at g b4 b3 ⊢;generalize upd G2 B (.lst (zs.map V.str++[.str (ctN N.n)]))=G3 at g d0 d5;refine⟨_,U,_,U,_,U,c.p,_,_,U,g.bg.ro,aX Yd,_,U,lc,_,U,.inl (SqL.of b3),c,M,R,N.reA k,zs.length,by rw[q5];rfl,g.bg,Yo,(I.next gR Yo).le Yo,λi6 i8 c9 g7 i1 a5=>⟨_,U,ln1,λi9 g0=>?_⟩⟩;rw[w6]at a5;have c3:=a9.new g0 (.tup [.int (N.n:Int)]);have zl:0<zs.length:=Nat.pos_of_ne_zero λh=>z0 (List.length_eq_zero_iff.mp h);refine je (c3 _ _ a5) ah (λh=>by have:=congrArg List.length h;rw[q5,bE,List.length_nil]at this;lia) (by rw[q5,bE];show _+1<=1000;lia) λd4 g9 c6 h6=>?_;have f8:=(g.next c9 g7 aV).same (c3.trans c6);have f7:g9 d4=some (.tup ((wid (N.n+2) zs.length++[(N.n:Int)]).map V.int)):=by rw[h6,qO];rfl
 have c4:ctN N.n∈(N.reA k).cs:=((cH [ctN N.n] N.cs).2.1 _).mpr (.inr (by simp));have wb:wts (bs++[ctD N.n])=wts bs+20:=by rw[jq];rfl
 refine⟨c,C,M,R,G3,_,B,t,d4,zs++[ctN N.n],ctN N.n,bs++[ctD N.n],wid (N.n+2) zs.length++[(N.n:Int)],U,f8,d5,RL.same d0 d8,f7,by rw[qa,qa,bE];rfl,by rw[qa,Q7];lia,λy hy=>?_,by simp,λd hd=>?_,?_,(I.next (gR.trans aV) Yo).le Yo,λh4 N1 g' d9 h9 gr=>?_⟩
 .rcases qg.mp hy with h|h
  .exact gR.sub y (nd.sub y (zC y h))
  .rwa[qS.mp h]
 .rcases qg.mp hd with h|h
  .exact .inl (r.mem h)
  .exact .inr ⟨N.n,c4,qS.mp h⟩
 .rw[fX];show max (aA bs) 0<n;lia
 rw[b8,w6]at d9;refine q h4 _ (h2.trans ((Fb.of (c2.trans b4)).trans (c9.trans (a9.fb (c3.trans c6) g')))) d9 (.rep co z0 h9 .nil) (((gR.trans aV).trans (lq.trans (gr.trans wV))).le ?_);rw[qa,Q7,wb];lia
theorem CW(T:Tx P w K mg a):∀n:Nat,aF P w K mg base CX0 (4 * n+16) a.Gx a.Gy ["bench","block"] (jE a n):=by
 intro n
 induction n with
 |zero=>
  refine T.GJ.F.ok mQ (by walk_at "l") λ_ A outer s H vs Q E _ h=>?_;obtain⟨_,_,_,_,_,_,_,_,_,_,_,_,dp,_⟩:=h;exact Q5 dp (Qy _)
 |succ n d=>
  have b:=CL T Yo d;have c:=CP T Yo b;exact CT T Yo ((CQ T Yo b).mono Yo) (CK T Yo c) (CO T Yo c)
theorem Dc(T:Tx P w K mg a):aF P w K mg base CX0 1 a.GT a.GU ["self"] (ur a):=by
 refine T.Jt.ok Bd (by walk_at "l") λ_ A outer s H vs Q E _ h=>?_;obtain⟨p,dx,rfl,hp,q⟩:=h
 refine⟨_,(ao (kj (pq 0) (aG ae) U)
  (ao (kj (pq 0) (aG ae) U)
  (ao (kj (pq 0) gP U)
  (aq (kj (pq 0) gP U))))),?_⟩
 walk_at "q";refine⟨qr _,λll e=>⟨_,U,p,a.om,dx,[],U,a9.new e _ _ _ hp,T.mt,T.GR,by simp,?_⟩⟩;rw[iQ [] U Yd,Ql];have nl:ll≠p:=λz=>by rw[z,hp]at e;cases e
 have r:upd (upd H ll (.lst [])) p (.ins a.om dx [("lines",.ref ll)]) p=_:=ah;have k:upd (upd H ll (.lst [])) p (.ins a.om dx [("lines",.ref ll)]) ll=some (.lst []):=by rw[au nl];exact ah
 have u:∀b o,b≠p->H b=some o->upd (upd H ll (.lst [])) p (.ins a.om dx [("lines",.ref ll)]) b=some o:=λb o hb h=>by rw[au hb];exact a9.new e _ _ _ h
 have l:∀b,upd (upd H ll (.lst [])) p (.ins a.om dx [("lines",.ref ll)]) b=none->H b=none:=λb hb=>bC (bC hb);generalize upd (upd H ll (.lst [])) p (.ins a.om dx [("lines",.ref ll)])=H1 at r k u l ⊢;refine⟨qr _,λlp d=>⟨_,U,p,a.om,dx,_,U,a9.new d _ _ _ r,T.mt,T.Hx,by simp,?_⟩⟩;rw[iQ ["lines"] U Yd];have j:lp≠p:=λz=>by rw[z,r]at d;cases d
 have m:upd (upd H1 lp (.lst [])) p (.ins a.om dx ([(("lines":Str),V.ref ll)]++[(("parts":Str),V.ref lp)])) p=_:=ah;have x:upd (upd H1 lp (.lst [])) p (.ins a.om dx ([(("lines":Str),V.ref ll)]++[(("parts":Str),V.ref lp)])) lp=some (.lst []):=by rw[au j];exact ah
 have hk:∀b o,b≠p->H1 b=some o->upd (upd H1 lp (.lst [])) p (.ins a.om dx ([(("lines":Str),V.ref ll)]++[(("parts":Str),V.ref lp)])) b=some o:=λb o hb h=>by rw[au hb];exact a9.new d _ _ _ h
 have hn:∀b,upd (upd H1 lp (.lst [])) p (.ins a.om dx ([(("lines":Str),V.ref ll)]++[(("parts":Str),V.ref lp)])) b=none->H b=none:=λb hb=>l _ (bC (bC hb));generalize upd (upd H1 lp (.lst [])) p (.ins a.om dx ([(("lines":Str),V.ref ll)]++[(("parts":Str),V.ref lp)]))=H2 at m x hk hn ⊢;refine λde f=>⟨_,U,p,a.om,dx,_,U,a9.new f _ _ _ m,T.mt,T.Gs,by simp,?_⟩;rw[iQ ["lines","parts"] U Yd];have ne:de≠p:=λz=>by rw[z,m]at f;cases f
 have n:upd (upd H2 de (.dK [])) p (.ins a.om dx ([(("lines":Str),V.ref ll)]++[(("parts":Str),V.ref lp)]++[(("ends":Str),V.ref de)])) p=_:=ah;have t:upd (upd H2 de (.dK [])) p (.ins a.om dx ([(("lines":Str),V.ref ll)]++[(("parts":Str),V.ref lp)]++[(("ends":Str),V.ref de)])) de=some (.dK []):=by rw[au ne];exact ah
 have g:∀b o,b≠p->H2 b=some o->upd (upd H2 de (.dK [])) p (.ins a.om dx ([(("lines":Str),V.ref ll)]++[(("parts":Str),V.ref lp)]++[(("ends":Str),V.ref de)])) b=some o:=λb o hb h=>by rw[au hb];exact a9.new f _ _ _ h
 have v:∀b,upd (upd H2 de (.dK [])) p (.ins a.om dx ([(("lines":Str),V.ref ll)]++[(("parts":Str),V.ref lp)]++[(("ends":Str),V.ref de)])) b=none->H b=none:=λb hb=>hn _ (bC (bC hb));generalize upd (upd H2 de (.dK [])) p (.ins a.om dx ([(("lines":Str),V.ref ll)]++[(("parts":Str),V.ref lp)]++[(("ends":Str),V.ref de)]))=H3 at n t g v ⊢;refine λdc c=>⟨_,U,p,a.om,dx,_,U,a9.new c _ _ _ n,T.mt,T.GS,by simp,?_⟩;rw[iQ ["lines","parts","ends"] U Yd];have y:dc≠p:=λz=>by rw[z,n]at c;cases c
 have i:∀b o,b≠p->H3 b=some o->upd (upd H3 dc (.dK [])) p (lQ a dx ll lp de dc) b=some o:=λb o hb h=>by rw[au hb];exact a9.new c _ _ _ h
 refine q _ ll lp de dc (λb o hb h=>i b o hb (g b o hb (hk b o hb (u b o hb h)))) ah (i _ _ nl (g _ _ nl (hk _ _ nl k))) (i _ _ j (g _ _ j x)) (i _ _ ne t) ?_ e (l _ d) (hn _ f) (v _ c) (λz=>by rw[<- z,k]at d;cases d) (λz=>by rw[<- z,t]at c;cases c);show upd (upd H3 dc (.dK [])) p (lQ a dx ll lp de dc) dc=_;rw[au y];exact ah
theorem FT{ps:LG}(h:x∉ps.map (·.1)):b9 ps x=0:=by
 have:∀(ps:LG)(f:aN),x∉ps.map (·.1)->f x=0->ps.foldl (λf p=>b6 f p.1 (p.2 % 1000000000000000000000000000000)) f x=0:=by
  intro ps
  induction ps with
  |nil=>intro f _ h;exact h
  |cons p r a=>
   intro f h b;rw[qR,qt,not_or]at h;refine a _ h.2 ?_;show b6 _ _ _ x=0;unfold b6;rwa[qZ h.1]
 exact this ps _ h U
theorem CY(T:Tx P w K mg a):aF P w K mg base CX0 19 a.HZ a.Ia ["program","numbers"] (tQ a):=by
 refine T.Jb.F.ok gF (by walk_at "l") λ_ A outer s H vs Q E t h=>?_;obtain⟨pr,la,ls,lb,ln,m,ss,ns,ds,us,C,rfl,PO,q⟩:=h
 refine⟨_,(ao (ax (i:=2) gF.nd U Oi (C7 T.JJ (Dc T) (t.mono Yk) U T.JI T.Ju .nil aT))
  (ao (bO PassesOwn.never U (bJ (aj ar (pq 0) af Oy)) (gO U (cZ (aY (i:=3) gF.nd U Oi) (cZ (aY (i:=4) gF.nd U Oi) gN)))
  (aq (dL (t.one) (df (pq 2) U) (pq 3) (aW (pq 2) T.mt T.Gq (fN T) (t.mono Yk) T.Gk .nil aT (a8 (pq 4) (a8 (aS ae) ae))) U)))
  (ao (dL (t.one) (df (pq 2) U) (eD U T.Gw T.r_OUTLET) (aW (pq 2) T.mt T.Gq (fN T) (t.mono Yk) T.Gk .nil aT (a8 iU (a8 (aS ae) ae))) U)
  (ao (ax (i:=5) gF.nd U Oi (aD (CZ T) (t.mono Yk) T.Ja (a8 (pq 0) (a8 (pq 1) ae))))
  (ao (bO PassesOwn.never U (bJ (aD (vR T) (t.mono Yk) T.Hm (a8 (pq 0) ae))) (aY (i:=6) gF.nd U Oi)
  (aq (dL (t.one) (df (pq 2) U) (pq 6) (aW (pq 2) T.mt T.Gq (fN T) (t.mono Yk) T.Gk .nil aT (a8 af (a8 (aS (a8 (oO t.one (pq 5) (pq 6) af ⟨U,U,U,U⟩) ae)) ae))) U)))
  (aq (aK (pq 2)))))))),?_⟩
 walk_at "q";refine λp dx hp c5 _=>⟨p,dx,U,ah,λH1 ll lp de dc k1 ho d1 d0 d2 d3 m1 m2 m3 m4 c3 e1=>⟨U,?_⟩⟩
 have s1:a9 H H1:=λb o h=>by
  have nb:b≠p:=λz=>by rw[z,hp]at h;cases h
  have nd:b≠dx:=λz=>by rw[z,c5]at h;cases h
  exact k1 b o nb (by rwa[au nb,au nd])
 have n1:=bC (bC m1);have n2:=bC (bC m2);have n3:=bC (bC m3);have n4:=bC (bC m4);have RP:=PO.rp;have sl:=PO.sl;have snd:=PO.snd
 let c:BAd:=⟨p,dx,ll,lp,de,dc⟩
 have B1:∀g,BG a H1 c [] (feN ss) ⟨[],[],[],g⟩:=λg=>⟨ho,d2,d3,c3,e1,List.nodup_nil,⟨[],d1,.nil⟩,⟨[],d0,.nil⟩⟩;exists _,U,pr,_,1,_,U,U,SqT.of (s1 _ _ RP.top),U,ls,U,⟨_,SqL.of (s1 _ _ RP.st)⟩;have ul:=RP.ro.len
 have b8:∀(i:Nat)(s:Str)(n:Int),ss[i]?=some (s,n)->(esN ss)[i]?=some s:=λi s n h=>by
  have lt:=(qe.mp h).1;unfold esN;rw[Q6 (by rwa[q5]),qD,h]
  rfl
 have W:∀{l H3:Hp}{J:LS}{N:ap}{x:Str}{v:Int},BG a l c J (feN ss) N->feN ss x=v->J.Nodup->(H3=upd l de (.dK (aU (tab J (feN ss)) (.inr x) (.int v))))->BG a H3 c (b7 J x) (feN ss) N:=λ{l H3 J N x v} B hv d4 L=>by
  subst L;obtain⟨_,_,_,a4,a5,_,_⟩:=B.ads;obtain⟨xl,hl,rl⟩:=B.ln;obtain⟨xp,I,rp⟩:=B.pt;have b5:p≠de:=λz=>by have h1:=B.ro;have h2:=B.eo;rw[show c.p=de from z]at h1;rw[show c.de=de from rfl,h1]at h2;cases h2
  have kk:∀b o,b≠de->l b=some o->upd l de (.dK (aU (tab J (feN ss)) (.inr x) (.int v))) b=some o:=λb o hb h=>by rwa[au hb]
  have tk:TK l (upd l de (.dK (aU (tab J (feN ss)) (.inr x) (.int v)))):=λb xs h=>kk b _ (λz=>by have:=B.eo;rw[show c.de=de from rfl,<- z,h]at this;cases this) h;exact⟨kk _ _ b5 B.ro,by show upd l de _ de=_;rw[ah,jx d4,uB hv],kk _ _ B.de.symm B.co,B.ne,B.de,B.nd,⟨xl,kk _ _ a4.symm hl,rl.imp λv d h=>h.keep tk⟩,⟨xp,kk _ _ a5.symm I,rp.imp λv d h=>h.keep tk⟩⟩
 refine c9 (K:=K) (a:=ls) (xs:=us) (λi D l=>(∃v3 v4,D=[some (.ref pr),some (.ref ln),some (.ref p),v3,v4,none,none])/\a9 H l/\∀g,BG a l c ((esN ss).take i) (feN ss) ⟨(ss.take i).map (λs=>⟨.int s.2,[]⟩),[],[],g⟩) ⟨⟨_,_,U⟩,s1,B1⟩ ?_ ?_ ?_
 .rintro i D l _ ⟨_,s2,_⟩;exact SqL.of (s2 _ _ RP.st)
 .rintro i y D l hx ⟨⟨v3,v4,rfl⟩,s2,S⟩;obtain⟨ps,K0,sz,rfl,b0,c4⟩:=RP.ro.at i y hx;have il:=(qe.mp b0).1;exists ps,_,U,SqT.of (s2 _ _ c4),U,_,_,U,_,_,U,U;refine⟨_,U,p,_,_,U,(S λ_=>0).ro,aX Yd,_,U,qr _,λf hf=>?_⟩;have L:=a9.new hf (.tup [])
  have nn:(ap.mk ((ss.take i).map λs=>(⟨.int s.2,[]⟩:LnD)) [] [] λ_=>0).n=i:=by
   show((ss.take i).map _).length=i;rw[q5,qJ];lia
  refine⟨c,_,_,_,.int sz,f,[],U,(S λ_=>0).same L,ah,⟨by show((ss.take i).map _).length+1<=_;rw[q5,qJ];lia,by show 0+1<=100000;decide,by show 0+1<=100000;decide⟩,λR m4 G k4 e=>?_⟩;rw[nn]at G;subst G;have a':=b8 i K0 sz b0
  have X:∀g,BG a R c ((esN ss).take i) (feN ss) ⟨(ss.take (i+1)).map (λs=>⟨.int s.2,[]⟩),[],[],g⟩:=λg=>by
   refine⟨e.ro,e.eo,e.co,e.ne,e.de,e.nd,?_,e.pt⟩;rw[qq,b0,Option.toList,qO];exact e.ln
  have few:((esN ss).take i).length<=200:=by rw[qJ];lia
  refine⟨_,U,p,_,_,_,_,U,e.ro,T.mt,T.Gs,jg,_,U,de,_,U,.inl ⟨_,.inr K0,e.eo,U,by rw[gx];exact mF Yo,U⟩,⟨_,_,U⟩,?_,λg=>?_⟩
  .exact a9.over (λb o h=>k4 b o (λz=>by rw[z,n1]at h;cases h) (λz=>by rw[z,n2]at h;cases h) (λz=>by rw[z,n4]at h;cases h) (L _ _ (s2 _ _ h))) n3
  .have:=W (X g) (v:=(i:Int)) (x:=K0) (by show(((esN ss).idxOf K0:Nat):Int)=_;rw[kW snd a']) (snd.sublist (List.take_sublist _ _)) U;rw[show b7 ((esN ss).take i) K0=(esN ss).take (i+1)by rw[show b7 ((esN ss).take i) K0=(esN ss).take i++[K0]from qZ (iu snd a'),qq,a'];rfl]at this;exact this
 rintro D l ⟨⟨v3,v4,rfl⟩,s2,S⟩;have et:(esN ss).take ss.length=ss.map (·.1):=by unfold esN;rw[List.take_left' (by rw[q5])]
 rw[ul,qG,et]at S;have d':(">":Str)∉ss.map (·.1):=λh=>(List.nodup_append.mp snd).2.2 _ h _ (by simp) U;have e2:(esN ss)[ss.length]?=some (">":Str):=by unfold esN;rw[qK (by rw[q5];exact qd _),q5,Nat.sub_self];rfl
 refine⟨_,U,p,_,_,U,(S λ_=>0).ro,aX Yd,qr _,λf hf=>?_⟩;have L:=a9.new hf (.tup [])
 have nn:(ap.mk (ss.map λs=>(⟨.int s.2,[]⟩:LnD)) [] [] λ_=>0).n=ss.length:=by
  show(ss.map _).length=_;rw[q5]
 refine⟨c,_,_,_,.non,f,[],U,(S λ_=>0).same L,ah,⟨by show(ss.map _).length+1<=_;rw[q5];lia,by show 0+1<=100000;decide,by show 0+1<=100000;decide⟩,λR m4 G k4 e=>?_⟩;rw[nn]at G;subst G;have X:∀g,BG a R c (ss.map (·.1)) (feN ss) ⟨(ss.map λs=>(⟨.int s.2,[]⟩:LnD))++[⟨.non,[]⟩],[],[],g⟩:=λg=>⟨e.ro,e.eo,e.co,e.ne,e.de,e.nd,e.ln,e.pt⟩;exists _,U,p,_,_,_,_,U,e.ro,T.mt,T.Gs,jg,de,_,U,.inl ⟨_,.inr (">":Str),e.eo,U,by rw[gx,q5];exact mF Yo,U⟩;have s4:a9 H R:=λb o h=>k4 b o (λz=>by rw[z,n1]at h;cases h) (λz=>by rw[z,n2]at h;cases h) (λz=>by rw[z,n4]at h;cases h) (L _ _ (s2 _ _ h))
 have B5:∀g,BG a (upd R de (.dK (aU (tab (ss.map (·.1)) (feN ss)) (.inr (">":Str)) (.int ss.length)))) c (esN ss) (feN ss) ⟨(ss.map λs=>(⟨.int s.2,[]⟩:LnD))++[⟨.non,[]⟩],[],[],g⟩:=λg=>by
  have:=W (X g) (v:=(ss.length:Int)) (x:=(">":Str)) (by show(((esN ss).idxOf (">":Str):Nat):Int)=_;rw[kW snd e2]) (List.nodup_append.mp snd).1 U;rw[show b7 (ss.map (·.1)) (">":Str)=esN ss from qZ d']at this;exact this
 have Z:a9 H (upd R de (.dK (aU (tab (ss.map (·.1)) (feN ss)) (.inr (">":Str)) (.int ss.length)))):=a9.over s4 n3;generalize upd R de (.dK (aU (tab (ss.map (·.1)) (feN ss)) (.inr (">":Str)) (.int ss.length)))=H6 at B5 Z ⊢;clear e X S k4 s4
 have b3:∀k,k∈m\/k∈(ai ds).flatMap aa.names->k∈C:=λk hk=>PO.akC k (by
  unfold cF;rcases hk with h|h
  .simp[h]
  .obtain⟨d,hd,hk⟩:=List.mem_flatMap.mp h;have:k∈cards ds:=List.mem_flatMap.mpr ⟨d,hd,by unfold aa.cards;simp[hk]⟩
   simp[this])
 have al:=PO.al;have fl:=PO.fl;have c20:=PO.c20;refine⟨_,U,_,U,pr,la,ls,lb,ln,m,ns,ds,C,U,Z _ _ RP.top,Z _ _ RP.as,Z _ _ PO.hn,RL.same Z RP.bo,PO.dp,PO.fl,Yo,PO.nl,λk hk=>b3 k (.inl hk),λk hk=>b3 k (.inr hk),Yo,λH7 d zv m7 c7 d7 vr=>?_⟩;have s7:=Z.trans m7;refine⟨_,U,pr,la,ls,lb,m,ss,ds,us,C,U,RP.same s7,PO.dp,Yo,al,sl,PO.s1,PO.akC,Yo,PO.c1,λH8 l8 zs s8 j nd hm so=>⟨l8,U,⟨_,SqL.of j⟩,?_⟩⟩;have B8:=λg=>((B5 g).same m7).same s8;have d8:=s8 _ _ d7;have c2:=s7.trans s8;obtain⟨o1,o2,o3,_,_⟩:=(B5 λ_=>0).off (o:=.lst []) c7;have e4:zs.length<=20:=qx (bX nd λq hq=>PO.akC q ((hm q).mp hq)) c20;have gt:(">":Str)∈zs:=(hm _).mpr (by unfold cF;simp)
 have o8:l8≠ll/\l8≠lp/\l8≠dc:=by
  obtain⟨xl,hl,rl⟩:=(B8 λ_=>0).ln;obtain⟨xp,I,rp⟩:=(B8 λ_=>0).pt;have hl:H8 ll=some (.lst xl):=hl;have I:H8 lp=some (.lst xp):=I;have co:H8 dc=some (.dK _):=(B8 λ_=>0).co;refine⟨λz=>?_,λz=>?_,λz=>?_⟩
  .rw[z,hl]at j;injection j with j;injection j with j
   cases zs with
   |nil=>simp at gt
   |cons y r=>
    cases xl with
    |nil=>simp at j
    |cons v xl=>
     obtain⟨_,_,u,_,ev,_⟩:=rl.at (i:=0) (x:=v) U;rw[qR]at j;injection j with j;rw[ev]at j;cases j
  .rw[z,I]at j;have e0:=rp.len;injection j with j;injection j with j;rw[j]at e0;simp at e0;rw[e0]at gt;simp at gt
  .rw[z,co]at j;cases j
 generalize hg:(λz:Str=>((ss.length+1+zs.idxOf z:Nat):Int))=g
 have gz:∀i z,zs[i]?=some z->g z=((ss.length+1+i:Nat):Int):=λi z hz=>by
  rw[<- hg];show((ss.length+1+zs.idxOf z:Nat):Int)=_;rw[kW nd hz]
 have b':∀z,(aR (tab zv (b9 (m.zip ns))) (.inr z)).getD (.int 0)=.int (b9 (m.zip ns) z):=λz=>by
  by_cases h:z∈zv
  .rw[iw h]
   rfl
  .rw[lW h];have:z∉m:=λh'=>h ((vr.mem z).mpr (.inl h'))
   have:z∉(m.zip ns).map (·.1):=λh'=>by
    obtain⟨⟨u,v⟩,hu,rfl⟩:=List.mem_map.mp h';exact this (List.of_mem_zip hu).1
   rw[FT this]
   rfl
 refine c9 (K:=K) (a:=l8) (xs:=zs.map V.str) (λi D M=>(∃v6,D=[some (.ref pr),some (.ref ln),some (.ref p),v3,v4,some (.ref d),v6])/\Fb c H8 M/\BG a M c (esN ss) (feN ss) ⟨(ss.map λs=>(⟨.int s.2,[]⟩:LnD))++[⟨.non,[]⟩]++(zs.take i).map (λz=>⟨.int 1,[b9 (m.zip ns) z]⟩),[],zs.take i,g⟩) ⟨⟨_,U⟩,Fb.refl,by simpa using B8 g⟩ ?_ ?_ ?_
 .rintro i D M _ ⟨_,Y,_⟩;exact SqL.of (Y _ _ o8.1 o8.2.1 o8.2.2 j)
 .rintro i y D M hx ⟨⟨v6,rfl⟩,Y,B9⟩;rw[qD]at hx;obtain⟨z,hz,rfl⟩:=qP.mp hx;have i2:i<zs.length:=(qe.mp hz).1;have d9:=Y _ _ o1 o2 o3 d8
  have n9:(ap.mk ((ss.map λs=>(⟨.int s.2,[]⟩:LnD))++[⟨.non,[]⟩]++(zs.take i).map (λz=>⟨.int 1,[b9 (m.zip ns) z]⟩)) [] (zs.take i) g).n=ss.length+1+i:=by
   show List.length (_++_)=_;rw[qa,qa,q5,q5,qJ,Q7];lia
  exists _,U,p,_,_,U,B9.ro,aX Yd,_,U,d,U,.inl ⟨_,.inl d9⟩,_,U,_,ee.k (k:=.inr z) d9,ln1;rw[b'];refine λf9 c'=>?_;have b4:=a9.new c' (.tup [.int (b9 (m.zip ns) z)]);have d6:upd M f9 (.tup [.int (b9 (m.zip ns) z)]) f9=some (.tup ([b9 (m.zip ns) z].map V.int)):=ah;refine⟨c,_,_,_,.int 1,f9,[b9 (m.zip ns) z],U,B9.same b4,d6,⟨by show ap.n _+1<=_;rw[n9];lia,by show 0+1<=100000;decide,by show(zs.take i).length+1<=_;rw[qJ];lia⟩,λ_ _ a0 c0 b2=>?_⟩;rw[n9,<- gz i z hz]at a0;subst a0;exists _,U,p,_,_,_,_,U,b2.ro,T.mt,T.GS,rL,_,U,dc,_,U,.inl ⟨_,.inr z,b2.co,U,by rw[gx];exact mF (by show(zs.take i).length<=_;rw[qJ];lia),U⟩;obtain⟨c6,c8⟩:=b2.put (z:=z) (v:=g z);exists ⟨_,U⟩,Y.trans ((a9.fb b4 c0).trans c8);have d5:zs.take (i+1)=zs.take i++[z]:=by rw[qq,hz];rfl
  rw[d5,qO,<- qM];have:b7 (zs.take i) z=zs.take i++[z]:=qZ (iu nd hz);rw[<- this];have eg:b6 g z (g z)=g:=uB U;have b1:BG a _ c (esN ss) (feN ss) ⟨_,[],b7 (zs.take i) z,b6 g z (g z)⟩:=c6;rw[eg]at b1;exact b1
 .rintro D M ⟨⟨v6,rfl⟩,Y,B9⟩;rw[q5,qG]at B9;refine⟨_,U,q M c zs ((⟨c2,n1,n2,n4⟩:Lt c H H8).next Y) ?_ ⟨nd,hm,so⟩⟩;rw[<- hg]at B9;exact B9
theorem CI(T:Tx P w K mg a):aF P w K mg base CX0 72 a.Ip a.Iq ["program","numbers"] (tF a):=by
 have hB:=CW (base:=base) T 13;refine T.Jf.F.ok uE (by walk_at "l") λ_ A outer s H vs Q E m h=>?_;obtain⟨R,la,ls,L,ln,e,ss,ns,ds,us,C,rfl,PO,q⟩:=h
 refine⟨_,(ao (ax (i:=2) uE.nd U Oi (aD (CY T) (m.mono Yk) T.Jb (a8 (pq 0) (a8 (pq 1) ae))))
  (ao (aL (aD hB (m.mono Yk) T.GJ (a8 (pq 2) (a8 (aj ar (pq 0) af Oy) ae))))
  (ao (aL (aW (pq 2) T.mt T.At (dO T) (m.mono Yk) T.wS .nil aT (a8 (aS (a8 av (a8 (aW (pq 2) T.mt T.Ev (fj T) (m.mono Yk) T.Ch .nil aT (a8 (aD (vR T) (m.mono Yk) T.Hm (a8 (pq 0) ae)) ae)) (a8 (aS ae) (a8 (aS ae) ae))))) ae)))
  (aq (aK (aS (a8 (df (pq 2) U) (a8 (df (pq 2) U) (a8 (C9 U U T.GO (df (pq 2) U)) ae))))))))),?_⟩
 walk_at "q";have RP:=PO.rp;have fl:=PO.fl;have c20:=PO.c20;have sl:=PO.sl;refine⟨_,U,_,U,R,la,ls,L,ln,e,ss,ns,ds,us,C,U,PO,λH1 c zs lt B b=>?_⟩;have Y:∀z∈zs,z∈C:=λz hz=>PO.akC z ((b.mem z).mp hz);have zf:zs.length<=20:=qx (bX b.nd Y) c20;have cz:∀x,x∈cards ds->x∈zs:=λx h=>(b.mem x).mpr (by unfold cF;simp[h])
 have bo:BO zs (esN ss) ds:=by
  refine⟨λd hd=>⟨λk hk=>cz k (List.mem_flatMap.mpr ⟨d,hd,hk⟩),λs x h=>?_⟩,PO.dp,Yo⟩;have J:=PO.st d hd s x h;exists J;unfold esN at J;rcases qg.mp J with h|h
  .obtain⟨p,hp,rfl⟩:=List.mem_map.mp h;exact PO.s1 p hp
  .rw[qS.mp h]
   decide
 have I:c7 a c zs (esN ss) (feN ss) H H1 (c8 ss zs (b9 (e.zip ns))):=⟨B,lt,λx K0=>K0,by unfold esN;simp,zf,λk hk=>PO.c1 k (Y k hk)⟩;have wl:=rT ds
 have a6:(c8 ss zs (b9 (e.zip ns))).ls.length=ss.length+1+zs.length:=by
  show List.length (_++_)=_;rw[qa,qa,q5,q5,Q7]
 have a':(c8 ss zs (b9 (e.zip ns))).ps.length=0:=U;have a7:(c8 ss zs (b9 (e.zip ns))).cs.length=zs.length:=U;have Z:Sm (c8 ss zs (b9 (e.zip ns))) (1+wts ds):=⟨Yo,Yo,Yo⟩;refine⟨_,U,_,U,R,_,2,_,U,U,SqT.of (lt.e0 _ _ RP.top),U,c,zs,_,_,H,_,L,ds,U,I,RP.bo,λd hd=>.inl (bo.mem hd),by have:=PO.dp;lia,Z.le Yo,λ_ v k2 t W M=>?_⟩;have l:=I.next k2 t M;refine⟨_,U,c.p,_,_,U,t.ro,aX Yd,_,U,c.p,_,_,U,t.ro,aX Yd,_,U,R,la,ls,L,e,ss,ds,us,C,U,RP.same l.lt.e0,PO.dp,Yo,PO.al,PO.sl,PO.s1,PO.akC,Yo,PO.c1,λ_ l3 f S h3 a4 X a3=>?_⟩;have ez:f=zs:=mE a4 b.nd a3 b.so λk=>(X k).trans (b.mem k).symm;subst ez;refine⟨c,_,_,v,l3,f,U,t.same S,h3,Yo,λx K0=>l.sub x K0,λ_ t4 s4 _ h4=>?_⟩;refine⟨qr _,λt5 a2=>⟨qr _,λt6 V=>⟨ln4,λt7 a0=>?_⟩⟩⟩;have e5:=a9.new a2 (.tup []);have e6:=a9.new V (.tup []);have N:=a9.new a0 (.tup [.str "pass",.ref t4,.ref t5,.ref t6]);have y:=e5.trans (e6.trans N);have D:=S.trans (s4.trans y);refine⟨c,_,_,v,.ref t7,.pas (f.map v.fc) [] [],U,t.same D,⟨t7,t4,t5,t6,U,ah,y _ _ h4,N _ _ (e6 _ _ ah),N _ _ ah⟩,(Z.next M Yo).le Yo,λ_ k8 g=>?_⟩;have G:=(l.same D).next k8 g bL;refine⟨_,U,c.p,_,_,_,_,U,g.ro,T.mt,T.GR,rK,_,U,c.p,_,_,_,_,U,g.ro,T.mt,T.Hx,yi,_,U,c.p,_,_,_,_,U,g.ro,T.mt,T.Gs,jg,c.de,_,U,g.eo,λ_ l9 ts s9 _ h9 tl a5=>⟨ln3,λa1 n=>?_⟩⟩;have r:=a9.new n (.tup [.ref c.ll,.ref c.lp,.ref l9]);have o:=s9.trans r;refine q _ a1 c l9 f v (G.lt.e0.trans o) (a9.none (G.lt.e0.trans s9) n) ah (g.same o) ?_ b W M;refine⟨ts,r _ _ h9,by rw[tl,gx],λj u z hu hz=>?_⟩;refine r _ _ (a5 j u (.inr z,.int (feN ss z)) hu ?_).1;unfold tab;rw[qD,hz]
 rfl
theorem gU(T:Tx P w K mg a):aF P w K mg base CX0 1 a.Iv a.Iw ["_law_cell","_law_factor","_law_prime","_law_many"] tX:=by
 refine T.Gm.F.ok AY (by walk_at "l") λ_ A outer s H vs Q E _ h=>?_;obtain⟨c,f,p,m,rfl,_,_,hp,b,q⟩:=h;exists _,(aq (aK (ay bT (ay bT (ay iX (pq 0) (pq 1)) (pq 2)) (pq 3))));walk_at "q";exact⟨_,U,_,U,_,_,U,U,IntMulOk.of_right (intBits_le_64 Yo Yo),_,U,_,_,U,U,hp.1,_,U,_,_,U,U,b.1,q⟩
theorem DU(i:Int)(h0:0<=i)(a:i<14):atI ("bcdfgjkmnqvxyz":Str).cps.toList i=some (pE.getD i.toNat 0):=by
 obtain⟨n,rfl⟩:∃n:Nat,i=n:=⟨i.toNat,Yo⟩;have:∀n:Fin 14,atI ("bcdfgjkmnqvxyz":Str).cps.toList ((n.val:Nat):Int)=some (pE.getD ((n.val:Nat):Int).toNat 0):=Yd;exact this ⟨n,Yo⟩
theorem lK(i:Int):(chN i).length=1:=U
theorem wa(h:z.length=1){n:Int}(h0:0<=n):(Txt.mul z n).length=n.toNat:=by rw[Dy z h0,h,Nat.one_mul]
theorem dZ(x y:Str):(x++y).length=x.length+y.length:=by
 show(x.cps++y.cps).size=_;rw[Array.size_append]
 rfl
noncomputable def nm2(r u v:Int):LS:=(List.range 6).map λk:Nat=>Txt.mul ("q":Str) u++chN (r+k)++Txt.slice ("vz":Str) none (some v)
theorem Dq:∀(r:Fin 14)(u v:Fin 3),(nm2 (r.val:Nat) (u.val:Nat) (v.val:Nat)).Nodup/\∀z∈nm2 (r.val:Nat) (u.val:Nat) (v.val:Nat),z.length<=100/\PyData.strOk z=true/\z≠("w":Str)/\z≠(">":Str):=Yd
theorem Ds:∀(r:Fin 14)(k:Fin 6),PyData.strOk (Txt.mul (chN ((r.val:Nat):Int)) (((k.val:Nat):Int)+1))=true/\Txt.mul (chN ((r.val:Nat):Int)) (((k.val:Nat):Int)+1)≠("w":Str)/\Txt.mul (chN ((r.val:Nat):Int)) (((k.val:Nat):Int)+1)≠(">":Str):=Yd
theorem gX(c:Int):(nmN c).length=6/\(nmN c).Nodup/\∀z∈nmN c,z.length<=100/\PyData.strOk z=true/\z≠("w":Str)/\z≠(">":Str):=by
 have d:0<=c / 9 % 14:=Qa _ Yk;have f:c / 9 % 14<14:=Qf _ Yk;unfold nmN;split
 .have a:∀k:Nat,(Txt.mul (chN (c / 9+(0:Nat))) (((k:Nat):Int)+1)).length=k+1:=λk=>by
   rw[wa (lK _) Yo];lia
  refine⟨by rw[q5,Qe],?_,λz hz=>?_⟩
  .refine List.nodup_iff_pairwise_ne.mpr ?_;rw[List.pairwise_map];refine List.Pairwise.imp ?_ (List.nodup_range (n:=6));intro x y h e;have:=congrArg Str.length e;rw[a,a]at this;lia
  .obtain⟨k,hk,rfl⟩:=List.mem_map.mp hz;have hk:=List.mem_range.mp hk;refine⟨by rw[a];lia,?_⟩;have ok:=Ds ⟨(c / 9 % 14).toNat,Yo⟩ ⟨k,hk⟩;dsimp only at ok;rw[show(((c / 9 % 14).toNat:Nat):Int)=c / 9 % 14 by lia]at ok
   have:chN (c / 9+(0:Nat))=chN (c / 9 % 14):=by
    unfold chN;rw[show(c / 9+((0:Nat):Int)) % 14=c / 9 % 14 % 14 by lia]
   rwa[this]
 .have g:0<=c % 3:=Qa _ Yk;have i:c % 3<3:=Qf _ Yk;have v0:0<=c / 3 % 3:=Qa _ Yk;have v1:c / 3 % 3<3:=Qf _ Yk
  have b:((List.range 6).map λk:Nat=>Txt.mul ("q":Str) (c % 3)++chN (c / 9+k)++Txt.slice ("vz":Str) none (some (c / 3 % 3)))=nm2 (c / 9 % 14) (c % 3) (c / 3 % 3):=by
   unfold nm2;refine List.map_congr_left λk _=>?_
   have:chN (c / 9+k)=chN (c / 9 % 14+k):=by
    unfold chN;rw[show(c / 9+(k:Int)) % 14=(c / 9 % 14+(k:Int)) % 14 by lia]
   rw[this]
  have ok:=Dq ⟨(c / 9 % 14).toNat,Yo⟩ ⟨(c % 3).toNat,Yo⟩ ⟨(c / 3 % 3).toNat,Yo⟩;dsimp only at ok;rw[show(((c / 9 % 14).toNat:Nat):Int)=c / 9 % 14 by lia,show(((c % 3).toNat:Nat):Int)=c % 3 by lia,show(((c / 3 % 3).toNat:Nat):Int)=c / 3 % 3 by lia,<- b]at ok;exact⟨by rw[q5,Qe],ok.1,ok.2⟩
theorem D3(T:Tx P w K mg a):aF P w K mg base CX0 1 a.Ir a.Iu ["_law_cell"] tZ:=by
 refine T.Jj.F.ok mS (by walk_at "l") λ_ A outer s H vs Q E _ h=>?_;obtain⟨c,rfl,_,q⟩:=h
 refine⟨_,(ao (ax (i:=1) mS.nd U (Or.inr U) av)
  (ao (ax (i:=2) mS.nd U (Or.inr U) (dM (k:=1) (Nc:=["_law_k","_law_letters","_law_cell"]) (js:=[1,0]) (show b5 (aE gJ) ["_law_cell","_law_letters","_law_some"] _ 1 ["_law_k","_law_letters","_law_cell"] [1,0]from b5.mk U (by decide +kernel) (by decide +kernel) (by decide +kernel) U (by decide +kernel)) U (kr U T.GP (a8 af ae)) (λ_ _ _ _ _=>(aY (i:=0) (show List.Nodup (["_law_k","_law_letters","_law_cell"]:LS)from by decide +kernel) U Oi)) (λ_ _ _ _ _=>dB) (λ_ _ _ _ _=>(aj wG (pq 1) (ay bT (ay iO (ay eZ (pq 2) af) (pq 0)) af) Oy))))
  (ao (aO (aI aZ (ay bT (ay eZ (pq 0) af) af) af (aP _)) (aq (aK (dM (k:=1) (Nc:=["_law_k","_law_some"]) (js:=[2]) (show b5 (aE gJ) ["_law_cell","_law_letters","_law_some"] _ 1 ["_law_k","_law_some"] [2]from b5.mk U (by decide +kernel) (by decide +kernel) (by decide +kernel) U (by decide +kernel)) U (kr U T.GP (a8 af ae)) (λ_ _ _ _ _=>(aY (i:=0) (show List.Nodup (["_law_k","_law_some"]:LS)from by decide +kernel) U Oi)) (λ_ _ _ _ _=>dB) (λ_ _ _ _ _=>(ay vK (aj (uV (K:=K) U) (pq 1) af Oy) (ay iO (pq 0) af)))))) bh)
  (aq (aK (dM (k:=1) (Nc:=["_law_sign","_law_cell"]) (js:=[0]) (show b5 (aE gJ) ["_law_cell","_law_letters","_law_some"] _ 1 ["_law_sign","_law_cell"] [0]from b5.mk U (by decide +kernel) (by decide +kernel) (by decide +kernel) U (by decide +kernel)) U (bJ (pq 2)) (λ_ _ _ _ _=>(aY (i:=0) (show List.Nodup (["_law_sign","_law_cell"]:LS)from by decide +kernel) U Oi)) (λ_ _ _ _ _=>dB) (λ_ _ _ _ _=>(ay bY (ay bY (ay vK av (ay bT (pq 1) af)) (pq 0)) (ku Ar av oI (iS (ay bT (ay eZ (pq 1) af) af))))))))))),?_⟩
 walk_at "q";exists 6,U,Yk,Yk;refine lI (λi ys b j=>(∃v,b=[v,some (.str "bcdfgjkmnqvxyz"),some (.int c)])/\j=H/\ys=(List.range i).map λk:Nat=>V.str (chN (c / 9+k))) ⟨⟨_,U⟩,U,U⟩ ?_ Yk ?_ ?_
 .rintro i ys b j _ ⟨_,_,rfl⟩;rw[q5,Qe];exact qd _
 .rintro i ys b j hi ⟨⟨v,rfl⟩,rfl,rfl⟩;exists _,U,_,U,_,_,U,U,⟨Yk,Yk⟩,_,U,_,_,U,U,_,_,U,U,Yk,_,_,_,U,U,Yd,DU _ (Qa _ Yk) (Qf _ Yk),⟨_,U⟩,U;rw[List.range_succ,qO]
  rfl
 rintro ys b j ⟨_,rfl,rfl⟩ l1 t;have l:=a9.new t (.lst ((List.range (6:Int).toNat).map λk:Nat=>V.str (chN (c / 9+k))))
 have g:upd j l1 (.lst ((List.range (6:Int).toNat).map λk:Nat=>V.str (chN (c / 9+k)))) l1=some (.lst (((List.range 6).map λk:Nat=>chN (c / 9+k)).map V.str)):=by
  rw[ah,List.map_map]
  rfl
 generalize upd j l1 (.lst ((List.range (6:Int).toNat).map λk:Nat=>V.str (chN (c / 9+k))))=H3 at l g ⊢;refine⟨_,U,_,_,U,U,⟨Yk,Yk⟩,_,_,U,U,Yk,U,_,U,i4 (λc1=>?_) (λc1=>?_)⟩
 .have c1:c / 126 % 3=1:=by simpa using c1
  have o:(nmN c).map V.str=(List.range 6).map λk:Nat=>V.str (Txt.mul (chN (c / 9+(0:Nat))) (((k:Nat):Int)+1)):=by
   unfold nmN;rw[Q0 c1,List.map_map]
   rfl
  exists 6,U,Yk,Yk;refine lI (λi ys b d=>(∃v,b=[v,some (.ref l1)])/\d=H3/\ys=(List.range i).map λk:Nat=>V.str (Txt.mul (chN (c / 9+(0:Nat))) (((k:Nat):Int)+1))) ⟨⟨_,U⟩,U,U⟩ ?_ Yk ?_ ?_
  .rintro i ys b d _ ⟨_,_,rfl⟩;rw[q5,Qe];exact qd _
  .rintro i ys b d hi ⟨⟨v,rfl⟩,rfl,rfl⟩;have hi:i<6:=hi;exists _,U,l1,_,0,_,U,U,SqL.of g,dY,_,U,_,_,U,U,_,_,U,U,w8 (by rw[lK];decide) Yo Yo,⟨_,U⟩,U;rw[List.range_succ,qO]
   rfl
  rintro ys b d ⟨_,rfl,rfl⟩ p f;exact q _ p (l.trans (a9.new f _)) (a9.none l f) (by rw[ah,o];rfl)
 .have c1:¬ c / 126 % 3=1:=by simpa using c1
  have o:(nmN c).map V.str=(List.range 6).map λk:Nat=>V.str (Txt.mul ("q":Str) (c % 3)++chN (c / 9+k)++Txt.slice ("vz":Str) none (some (c / 3 % 3))):=by
   unfold nmN;rw[qZ c1,List.map_map]
   rfl
  exists _,U,l1,U,⟨_,SqL.of g⟩;have B:0<=c % 3:=Qa _ Yk;have C:c % 3<3:=Qf _ Yk;have v0:0<=c / 3 % 3:=Qa _ Yk;have v1:c / 3 % 3<3:=Qf _ Yk;refine ic (K:=K) (a:=l1) (xs:=((List.range 6).map λk:Nat=>chN (c / 9+k)).map V.str) (λi ys b d=>(∃v,b=[v,some (.int c)])/\d=H3/\ys=(List.range i).map λk:Nat=>V.str (Txt.mul ("q":Str) (c % 3)++chN (c / 9+k)++Txt.slice ("vz":Str) none (some (c / 3 % 3)))) ⟨⟨_,U⟩,U,U⟩ ?_ (by rw[q5,q5,Qe];decide) ?_ ?_ ?_
  .rintro i ys b d _ ⟨_,_,rfl⟩;rw[q5,Qe];exact qd _
  .rintro i ys b d ⟨_,rfl,_⟩;exact SqL.of g
  .rintro i x ys b d u ⟨⟨v,rfl⟩,rfl,rfl⟩;rw[qD,qD]at u;obtain⟨z,hz,rfl⟩:=qP.mp u;obtain⟨k,hk,rfl⟩:=qP.mp hz
   have r:k=i:=by
    have lt:=(qe.mp hk).1;have e:=(qe.mp hk).2;rw[List.getElem_range]at e;exact e.symm
   subst r;have y:(Txt.mul ("q":Str) (c % 3)).length=(c % 3).toNat:=wa U B;exists _,U,_,_,U,U,Yk,_,_,U,U,w8 Yk Yo Yo,_,U,_,_,U,U,aJ (m:=1000) (by rw[y,lK];lia)
   have sl:(Txt.slice ("vz":Str) none (some (c / 3 % 3))).length<=2:=by
    have:∀n:Fin 3,(Txt.slice ("vz":Str) none (some ((n.val:Nat):Int))).length<=2:=Yd;have h:=this ⟨(c / 3 % 3).toNat,Yo⟩
    rwa [show(((c / 3 % 3).toNat:Nat):Int)=c / 3 % 3 by lia]at h
   exists _,U,_,_,U,U,⟨Yk,Yk⟩,_,_,U,U,Yk,_,U,_,U,Yk,_,_,U,U,aJ (m:=1000) (by rw[dZ,y,lK];lia),⟨_,U⟩,U;rw[List.range_succ,qO]
   rfl
  rintro ys b d ⟨_,rfl,rfl⟩ p f;rw[q5,q5,Qe];exact q _ p (l.trans (a9.new f _)) (a9.none l f) (by rw[ah,o])
theorem vT(T:Tx P w K mg a):aF P w K mg base CX0 1 a.Ix a.Iy ["_law_number","_law_names_here"] tT:=by
 refine T.Hs.F.ok uJ (by walk_at "l") λ_ A outer s H vs Q E _ h=>?_;obtain⟨n,l,zs,rfl,hn,hl,c,q⟩:=h
 refine⟨_,(ao (ax (i:=2) uJ.nd U Oi (ay bT (pq 0) af))
  (ao (aO (aI ke (pq 2) (bv cR U T.r9 Q8 (a8 (pq 1) ae)) (aP _)) (aq (aK (aj bR (pq 1) (pq 2) Oy))) bh)
  (ao (aO (aI aZ (pq 2) af (aP _)) (aq (aK (ay bT (ay eZ (pq 0) af) af))) bh)
  (aq (aK (ay bT (ay iX (pq 0) (ay gW af af)) (ay gW af af))))))),?_⟩
 walk_at "q";have b:0<=n % 9:=Qa _ Yk;have d:n % 9<9:=Qf _ Yk;exists _,U,_,_,U,U,Yk;exists _,U,_,U,l,_,U,.inl (SqL.of hl),_,_,U,U,_,U;rw[q5,c];unfold vaN at q;by_cases h6:n % 9<6
 .refine bK (Q3 h6) ?_;rw[Q0 h6]at q;have lt:(n % 9).toNat<zs.length:=Yo;rw[qi,qb lt]at q;exact⟨_,U,_,U,l,_,_,_,U,U,SqL.of hl,yo b (by rw[qD,qb lt];rfl),q⟩
 .refine bn (Q4 h6) ?_;rw[qZ h6]at q;exists _,U,U,_,U;by_cases h7:n % 9=6
  .refine bK (by simp[h7]) ?_;rw[Q0 h7]at q;exact⟨_,U,_,_,U,U,⟨Yk,Yk⟩,_,_,U,U,Yk,q⟩
  .refine bn (by simp[h7]) ?_;rw[qZ h7]at q;refine⟨_,U,_,_,U,U,⟨Yk,Yk,Yk⟩,_,_,U,U,IntMulOk.of_left (intBits_le_64 Yo Yo),_,_,U,U,⟨Yk,Yk,Yk⟩,_,_,U,U,by rw[p30];decide,?_⟩;rwa[p30,show(48271:Int) ^ (6:Int).toNat=12650793754653265942685193121 by decide +kernel]
theorem AE(i:Int)(h0:0<=i)(a:i<9):∃c,atI ("+-*/<=&|^":Str).cps.toList i=some c/\(⟨#[c]⟩:Str)=sgN i:=by
 have:i=0\/i=1\/i=2\/i=3\/i=4\/i=5\/i=6\/i=7\/i=8:=Yo;rcases this with rfl|rfl|rfl|rfl|rfl|rfl|rfl|rfl|rfl<;>exact⟨_,U,Yd⟩
theorem D1(T:Tx P w K mg a):aF P w K mg base CX0 2 a.Iz a.IA ["_law_cell","_law_x","_law_names_here"] mq:=by
 refine T.Jk.F.ok jO (by walk_at "l") λ_ A outer s H vs Q E b h=>?_;obtain⟨c,x,l,zs,rfl,e,hl,d,q⟩:=h
 refine⟨_,(ao (ax (i:=3) jO.nd U Oi av)
  (ao (ax (i:=4) jO.nd U Oi (aD (vT T) (b.mono Yk) T.Hs (a8 (ay bT (ay iX (pq 0) af) af) (a8 (pq 2) ae))))
  (ao (ax (i:=5) jO.nd U Oi (aD (vT T) (b.mono Yk) T.Hs (a8 (ay bT (ay iX (pq 0) af) af) (a8 (pq 2) ae))))
  (aq (aK (aS (a8 av (a8 (pq 1) (a8 (pq 4) (a8 (aj wG (pq 3) (aD (gU T) (b.mono Yk) T.Gm (a8 (pq 0) (a8 af (a8 af (a8 af ae))))) Oy) (a8 (pq 5) ae))))))))))),?_⟩
 walk_at "q";have a0:0<=c * 40692 % 40009:=Qa _ Yk;have j:c * 40692 % 40009<40009:=Qf _ Yk;have b0:0<=c * 30323 % 60013:=Qa _ Yk;have b1:c * 30323 % 60013<60013:=Qf _ Yk;exists _,U,_,_,U,U,IntMulOk.of_right (intBits_le_64 Yk Yk),_,_,U,U,Yk,_,U,_,l,zs,U,⟨a0,Yo⟩,hl,d;exists _,U,_,_,U,U,IntMulOk.of_right (intBits_le_64 Yk Yk),_,_,U,U,Yk,_,U,_,l,zs,U,⟨b0,Yo⟩,hl,d;exists _,U,_,U,_,U,_,U,_,_,_,_,U,e,⟨Yk,Yk⟩,⟨Yk,Yk⟩,⟨Yk,Yk⟩;obtain⟨ch,g,f⟩:=AE (pkN c 16807 50021 9) (fg Yk) (fh Yk);refine⟨_,_,ch,U,U,Yd,g,_,U,ln5,λp hp=>?_⟩;unfold gC at q;rw[<- f]at q;exact q p _ hp λH' h=>.set h
theorem D0(T:Tx P w K mg a):aF P w K mg base CX0 3 a.IB a.IC ["_law_cell","_law_x","_law_q","_law_names_here","_law_hidden"] tU:=by
 refine T.Jl.F.ok uK (by walk_at "l") λ_ A outer s H vs Q E e h=>?_;obtain⟨c,x,_,l,zs,hid,rfl,d,hl,g,q⟩:=h
 refine⟨_,(ao (ax (i:=5) uK.nd U Oi (aD (gU T) (e.mono Yk) T.Gm (a8 (pq 0) (a8 af (a8 af (a8 af ae))))))
  (ao (aO (aI aZ (pq 5) af (aP _)) (aq (aK (aS (a8 av (a8 (pq 1) ae))))) bh)
  (ao (aO (PW.pt (dJ (aI aZ (pq 5) af (aP _)) (f7 (oG (gL (pq 4)))))) (aq (aK (aS (a8 av (a8 (pq 2) (a8 (pq 1) ae)))))) bh)
  (ao (aO (PW.pt (dJ (aI aZ (pq 5) af (aP _)) (f7 (oG (gL (pq 4)))))) (aq (aK (aS (a8 av (a8 (pq 2) (a8 (pq 1) ae)))))) bh)
  (aq (aK (aD (D1 T) (e.mono Yk) T.Jk (a8 (pq 0) (a8 (pq 1) (a8 (pq 3) ae)))))))))),?_⟩
 walk_at "q";exists _,U,_,_,_,_,U,d,⟨Yk,Yk⟩,⟨Yk,Yk⟩,⟨Yk,Yk⟩;unfold eV at q;generalize pkN c 48271 10007 12=k at q ⊢;exists _,U,U,_,U;by_cases k3:k=3
 .refine bK (by simp[k3]) ?_;rw[Q0 k3]at q;exact⟨_,U,ln2,λp hp=>q p _ hp λH' h=>.give h⟩
 refine bn (by simp[k3]) ?_;rw[qZ k3]at q;exists _,U,U,_,U
 have go:¬ (k=4/\hid=false)->¬ (k=5/\hid=false)->lP H (gC c x zs) Q:=λm j=>by
  rw[qZ m,qZ j]at q;exact q
 have b:∀{f:XK},lP H (gC c x zs) Q->mq [.int c,.str x,.ref l] H Q f:=λh=>⟨c,x,l,zs,U,d,hl,g,h⟩;by_cases k4:k=4
 .refine bK (by simp[k4]) ?_
  cases hid with
  |false=>
   rw[Q0 ⟨k4,U⟩]at q;exact⟨_,U,_,U,bK U ⟨_,U,_,U,ln3,λp hp=>q p _ hp λH' h=>.put h⟩⟩
  |true=>
   refine⟨_,U,_,U,bn U ?_⟩;refine⟨_,U,U,_,U,bn (by simp[k4]) ?_⟩;exact⟨_,U,_,U,_,U,b (go (by simp) (by simp))⟩
 refine bn (by simp[k4]) ?_;exists _,U,U,_,U;by_cases k5:k=5
 .refine bK (by simp[k5]) ?_
  cases hid with
  |false=>
   rw[qZ (λh=>k4 h.1),Q0 ⟨k5,U⟩]at q;exact⟨_,U,_,U,bK U ⟨_,U,_,U,ln3,λp hp=>q p _ hp λH' h=>.get h⟩⟩
  |true=>
   refine⟨_,U,_,U,bn U ?_⟩;exact⟨_,U,_,U,_,U,b (go (by simp) (by simp))⟩
 refine bn (by simp[k5]) ?_;exact⟨_,U,_,U,_,U,b (go (λh=>k4 h.1) λh=>k5 h.1)⟩
theorem uC{c d:TS}{D:cJ}(b:St->Hp->Prop)(hb:∀a H',b a H'->d D a H')(ha:∀N:St->Hp->Prop,(∀a H',b a H'->N a H')->c { D with nx:=N } O H):iA c d D O H:=ha _ hb
theorem kC{i:Int}(h0:0<=i)(a:i.toNat<zs.length):atI (zs.map V.str) i=some (.str (zs.getD i.toNat (">":Str))):=yo h0 (by rw[qD,qb a,qi,qb a];rfl)
noncomputable abbrev rc(r:LQ):LV:=(r.map λx=>V.ref x.c).reverse
noncomputable abbrev rk(r:LQ):LV:=(r.map λx=>V.str (kdN x.f.op)).reverse
noncomputable abbrev pk(c:Int):Int:=pkN c 48271 10007 12
theorem D8(T:Tx P w K mg a):aF P w K mg base CX0 4 a.ID a.IE ["_law_cells","_law_names_here","_law_stores"] ue:=by
 refine T.Jm.F.ok cY (by walk_at "l") λ_ A outer s H vs Q E hr h=>?_;obtain⟨lc,ln,lr,J,zs,ss,rfl,hc,_,cb,hn,hs,z6,f2,q⟩:=h
 refine⟨_,(ao (ax (i:=3) cY.nd U Oi (aG ae))
  (ao (ax (i:=4) cY.nd U Oi (aG (a8 (pq 3) ae)))
  (ao (ax (i:=5) cY.nd U Oi (aG (a8 av ae)))
  (ao (ax (i:=6) cY.nd U Oi (aG (a8 (aG ae) ae)))
  (ao (bO PassesOwn.never U (bJ (pq 0)) (aY (i:=7) cY.nd U Oi)
  (ao (ax (i:=8) cY.nd U Oi (aD (gU T) (hr.mono Yk) T.Gm (a8 (pq 7) (a8 af (a8 af (a8 af ae))))))
  (ao (ax (i:=9) cY.nd U Oi (aj bR (pq 1) (aD (gU T) (hr.mono Yk) T.Gm (a8 (pq 7) (a8 af (a8 af (a8 af ae))))) Oy))
  (ao (ax (i:=10) cY.nd U Oi (aj bR (pq 2) (aD (gU T) (hr.mono Yk) T.Gm (a8 (pq 7) (a8 af (a8 af (a8 af ae))))) Oy))
  (ao (ax (i:=11) cY.nd U Oi (vF (iV dN av (pq 5) (by with_unfolding_all rfl)) (vF (iV dN av (pq 5) (by with_unfolding_all rfl)) (vG (iV dN av (pq 5) (by with_unfolding_all rfl))))))
  (aq (aO (PW.pt (dJ (aI kf (pq 8) af (aP _)) (dJ (aI ke (pq 8) af (aP _)) (f7 (aI ke (bv cR U T.r9 Q8 (a8 (pq 4) ae)) af (aP _)))))) (ao (ax (i:=12) cY.nd U Oi (aG ae))
  (ao (ax (i:=13) cY.nd U Oi (aG ae))
  (ao (aO (aI aZ (pq 8) af (aP _)) (aq (aL (b4 qf qu qv bS (aj bR (pq 4) (d6 cW af) Oy) (a8 (aS (a8 av (a8 (pq 9) (a8 (pq 12) (a8 (pq 13) ae))))) ae)))) (aq (aO (aI aZ (pq 8) af (aP _)) (aq (aL (b4 qf qu qv bS (aj bR (pq 4) (d6 cW af) Oy) (a8 (aS (a8 av (a8 (pq 9) (a8 (pq 12) ae)))) ae)))) (aq (aL (b4 qf qu qv bS (aj bR (pq 4) (d6 cW af) Oy) (a8 (aS (a8 av (a8 (aD (gU T) (hr.mono Yk) T.Gm (a8 (pq 7) (a8 af (a8 af (a8 af ae))))) (a8 (pq 12) ae)))) ae)))))))
  (ao (aL (b4 qf qu qv bS (pq 4) (a8 (pq 12) ae)))
  (ao (aL (b4 qf qu qv bS (pq 6) (a8 (pq 13) ae)))
  (aq (aL (b4 qf qu qv bS (pq 5) (a8 (aj bR (aG (vJ U)) (ay oq (pq 8) af) Oy) ae))))))))) (aq (aO (PW.pt (dJ (aI kf (pq 8) af (aP _)) (dJ (aI ke (pq 8) af (aP _)) (f7 (aI kf (bv cR U T.r9 Q8 (a8 (pq 4) ae)) af (aP _)))))) (ao (aL (kz qf PySem.F.slot_list_pop PySem.F.type_list_pop kH (pq 4)))
  (ao (aL (kz qf PySem.F.slot_list_pop PySem.F.type_list_pop kH (pq 5)))
  (aq (aL (kz qf PySem.F.slot_list_pop PySem.F.type_list_pop kH (pq 6)))))) (aq (aO (PW.pt (dJ (aI aZ (pq 8) af (aP _)) (f7 (aI aZ (aj bR (pq 5) (d6 cW af) Oy) av (aP _))))) (ao (vv (aj bR (pq 6) (d6 cW af) Oy) (vD (pq 4) (d6 cW af) uA))
  (aq (vv av (vD (pq 5) (d6 cW af) uA)))) (aq (aL (b4 qf qu qv bS (aj bR (pq 4) (d6 cW af) Oy) (a8 (aD (D0 T) (hr.mono Yk) T.Jl (a8 (pq 7) (a8 (pq 9) (a8 (pq 10) (a8 (pq 1) (a8 (pq 11) ae)))))) ae)))))))))))))))
  (aq (aK (pq 3)))))))),?_⟩
 walk_at "q";refine⟨qr _,λb hb=>⟨_,U,ln1,λj b3=>⟨ln1,λs1 a7=>⟨qr _,λe0 d2=>⟨ln1,λC c8=>?_⟩⟩⟩⟩⟩;have b':=bC a7;have c4:=bC c8;have b6:=bC c4;have d0:=bC b6;have nu:∀{G:Hp}{x y:Addr}{o:HO},upd G y o x=none->x≠y:=λh z=>by rw[z,ah]at h;cases h
 have k:=λ(z:Addr)(o:HO)(h:_=some o)=>a9.new c8 (.lst [.ref e0]) z o (a9.new d2 (.lst []) z o h);have k0:=k j _ (a9.new a7 (.lst [.str ""]) _ _ ah);have k1:=k s1 _ ah;have kb:=k b _ (a9.new a7 (.lst [.str ""]) _ _ (a9.new b3 (.lst [.ref b]) _ _ ah));have k2:=ah (H:=upd (upd (upd (upd H b (.lst [])) j (.lst [.ref b])) s1 (.lst [.str ""])) e0 (.lst [])) (a:=C) (o:=.lst [.ref e0]);have e1:=((((a9.new hb (.lst [])).trans (a9.new b3 (.lst [.ref b]))).trans (a9.new a7 (.lst [.str ""]))).trans (a9.new d2 (.lst []))).trans (a9.new c8 (.lst [.ref e0]));generalize upd _ C _=H1 at e1 k0 k1 k2 kb ⊢;have g0:=nu b3;have f6:=nu a7;have f':=nu b';have f4:=nu c4;have f1:=nu b6;have g5:=nu d0
 have G0:GN H H H1 j s1 C [⟨⟨.root,[],false,0⟩,b,0,0⟩] [.ref e0]:=by
  refine⟨ZC.begin U U ?_ kb (λm hm=>?_) e1 (kN k0 k1 k2),k0,k1,k2,.cons (λy e=>by cases e) .nil⟩
  .simp only[Qm,Ql,List.nodup_cons,qt,qQ,or_false,not_or];exact⟨⟨f6.symm,f1.symm,g0⟩,⟨f4.symm,f'⟩,g5,by simp,List.nodup_nil⟩
  .simp only[Qm,Ql,qt,qQ,or_false]at hm;rcases hm with rfl|rfl|rfl|rfl
   .exact bC b3
   .exact bC b'
   .exact bC d0
   .exact hb
 exists _,U,lc,U,⟨_,SqL.of (e1 _ _ hc)⟩;refine c9 (K:=K) (a:=lc) (xs:=J.map V.int) (λi X D=>∃H0 z os v7 v8 v9 c6 b9 b8 b5,X=[some (.ref lc),some (.ref ln),some (.ref lr),some (.ref b),some (.ref j),some (.ref s1),some (.ref C),v7,v8,v9,c6,b9,b8,b5]/\GN H H0 D j s1 C z os/\z.map (·.f)=(J.take i).foldl (cO zs ss) cX/\ii z=b) ⟨H,_,_,_,_,_,_,_,_,_,U,G0,U,U⟩ ?_ ?_ ?_
 .rintro i X D _ ⟨_,_,_,_,_,_,_,_,_,_,_,G,_⟩;exact SqL.of (G.zc.hbH _ _ hc)
 .rintro i x X D hx ⟨H0,z,os,v7,v8,v9,c6,b9,b8,b5,rfl,G,hz,Y⟩;rw[qD]at hx;obtain⟨c,Z,rfl⟩:=qP.mp hx;have il:=(qe.mp Z).1;have R:=cb c (qy Z);obtain⟨x,r,vs,rfl,a6,g'⟩:=G.zc.top;obtain⟨d7,c7,c'⟩:=mh (ss:=ss) z6 f2 (J.take i) cX ⟨U,.nil,by simp[aA]⟩ (by simp[cX]);have l:(J.take (i+1)).foldl (cO zs ss) cX=cO zs ss (x.f::r.map (·.f)) c:=by rw[qq,Z,Option.toList,List.foldl_append,<- hz];rfl
  generalize (J.take (i+1)).foldl (cO zs ss) cX=st' at l ⊢;rw[<- hz]at d7 c7 c'
  have rl:r.length<=5:=by
   simp at c7;lia
  have f8:(r.map (·.f)).length=r.length:=q5 _
  have vl:vs.length<=200:=by
   have:=zB (f:=x.f) (r:=r.map (·.f));have e1:cnt cX=0:=by simp[cX,cnt,ai,Op.extra,Op.one]
   rw[g'.len];simp only[qR,qJ]at c';lia
  clear hz d7 c7 c';have d3:=G.zc.hbH _ _ hn;have f3:=G.zc.hbH _ _ hs;exists _,U,_,_,_,_,U,R,⟨Yk,Yk⟩,⟨Yk,Yk⟩,⟨Yk,Yk⟩;have x0:=fg (c:=c) (f:=69621) (p:=20011) (m:=6) Yk;have x1:=fh (c:=c) (f:=69621) (p:=20011) (m:=6) Yk;have q0:=fg (c:=c) (f:=39373) (p:=30011) (m:=2) Yk;have q1:=fh (c:=c) (f:=39373) (p:=30011) (m:=2) Yk;exists _,U,_,U,_,_,_,_,U,R,⟨Yk,Yk⟩,⟨Yk,Yk⟩,⟨Yk,Yk⟩,ln,_,_,_,U,U,SqL.of d3,kC x0 Yo;exists _,U,_,U,_,_,_,_,U,R,⟨Yk,Yk⟩,⟨Yk,Yk⟩,⟨Yk,Yk⟩,lr,_,_,_,U,U,SqL.of f3,kC q0 Yo;unfold cO at l;dsimp only at l;rw[f8]at l;have g8:zs.getD (pkN c 69621 20011 6).toNat (">":Str)=xN c zs:=U;have g4:ss.getD (pkN c 39373 30011 2).toNat (">":Str)=qN c ss:=U;rw[g8,g4];generalize hxn:xN c zs=xn at l ⊢;generalize hqn:qN c ss=qn at l ⊢;have k0:=fg (c:=c) (f:=48271) (p:=10007) (m:=12) Yk;have k1:=fh (c:=c) (f:=48271) (p:=10007) (m:=12) Yk
  have flt:((rk (x::r)).all dU)=true:=by
   rw[List.all_reverse,List.all_map,List.all_eq_true];exact λ_ _=>U
  have hh:=En (st:=(x::r).map (·.f));rw[List.map_map]at hh;have hh:(inV (.str "if") (rk (x::r)) || (inV (.str "else") (rk (x::r)) || inV (.str "while") (rk (x::r))))=fB (x.f::r.map (·.f)):=hh;dsimp only[dD];refine uC (λX H4=>H4=D/\X=[some (.ref lc),some (.ref ln),some (.ref lr),some (.ref b),some (.ref j),some (.ref s1),some (.ref C),some (.int c),some (.int (pk c)),some (.str xn),some (.str qn),some (.bl (fB (x.f::r.map (·.f)))),b8,b5]) ?_ ?_
  .rintro X H4 ⟨e4,rfl⟩;have e4:=e4.symm;subst e4;generalize fB (x.f::r.map (·.f))=hid at l hh ⊢;clear hh;exists _,U,_,_,U,U,_,U;have l0:((rc (x::r)).length:Int)=(r.length:Int)+1:=by simp
   refine pJ (Pc:=¬ (5<pk c/\pk c<9/\r.length<5)) (λS z=>S (Q3 z.1)) ?_ λS go=>?_
   .intro n1;refine kS ?_;rw[qZ n1]at l;exists _,U,_,_,U,U,_,U;refine pJ (Pc:=¬ (8<pk c/\pk c<11/\0<r.length)) (λS z=>S (Q3 z.1)) ?_ λS go=>?_
    .intro n2;refine kS ?_;rw[qZ n2]at l;exists _,U,U,_,U;refine pJ (Pc:=¬ (pk c=11/\kdN x.f.op="if")) (λS z=>S (Q3 (by rw[z.1]))) ?_ λS go=>?_
     .intro n3;refine kS ?_;rw[qZ n3]at l;refine⟨_,U,_,U,j,_,_,_,U,U,SqL.of G.c0,j6,.inl ⟨U,_,SqL.of a6⟩,_,U,_,U,_,U,_,U,_,U,c,xn,qn,ln,zs,hid,U,R,d3,z6,λ_ xs d5 hd=>?_⟩;have e5:=a9.new d5 (.tup xs);exists x.c,_,_,U,U,e5 _ _ a6,aJ (m:=1000) Yo;exact⟨_,_,os,_,_,_,_,_,_,_,U,(G.same e5).push (e5 _ _ a6) ah (a9.none G.zc.h0 d5) (hd _ ah),by rw[l];rfl,by rw[<- Y];exact yd U⟩
     .exists _,U,_,U,s1,_,_,_,U,U,SqL.of G.c1,j6,U,_,U;refine i4 (λc2=>?_) (λc2=>by have h:=go λz=>c2 (by rw[z.2];decide +kernel);exact h);have e3:kdN x.f.op="if":=A6 c2;have f0:pk c=11:=El S;rw[Q0 ⟨f0,e3⟩]at l;obtain⟨y,q1⟩:=wD e3;obtain⟨W,a4,a3⟩:=G.ss
      obtain⟨v,B,rfl⟩:∃v B,os=v::B:=by
       have:=G.ro.len
       match os,this with
       |v::B,_=>exact⟨v,B,U⟩
      have ve:v=.ref x.e:=by
       match G.ro with
       |.cons h _=>exact h y q1
      subst ve;have f9:D C=some (.lst (B.reverse++[.ref x.e])):=by rw[G.c2,List.reverse_cons]
      have g7:D j=some (.lst (rc r++[.ref x.c])):=by rw[G.c0,qR,List.reverse_cons]
      exists _,U,_,U,C,_,_,_,U,U,SqL.of f9,wA,_,U,_,U,j,_,_,_,U,U,g7,wH;rw[show(rc r++[V.ref x.c]).set (rc r).length (.ref x.e)=rc r++[.ref x.e]by rw[List.set_append_right _ _ (qd _),Nat.sub_self];rfl];have g2:upd D j (.lst (rc r++[.ref x.e])) s1=some (.lst (rk r++[.str (kdN x.f.op)])):=by rw[au W.symm,G.c1,qR,List.reverse_cons]
      exists _,U,_,U,s1,_,_,_,U,U,g2,wH;rw[show(rk r++[V.str (kdN x.f.op)]).set (rk r).length (.str "else")=rk r++[.str "else"]by rw[List.set_append_right _ _ (qd _),Nat.sub_self];rfl];refine⟨_,_,_,_,_,_,_,_,_,_,U,G.elsed q1 a6 (λb u L M h=>by rwa[au M,au L]) (by rw[au W];exact ah) ah,?_,?_⟩
      .rw[l];unfold Op.els;rw[q1]
       rfl
      .cases r with
       |nil=>
        obtain⟨_,_,h4⟩:=G.zc.zr;rcases h4 with⟨h,_⟩|⟨_,_,h⟩
        .rw[q1]at h;cases h
        .exact h.elim
       |cons g r=>exact Y
    .exists _,U,_,_,U,U,_,U;refine i4 (λc2=>?_) (λc2=>by have h:=go λz=>c2 (Q3 z.2.1);exact h);exists _,U,j,_,U,.inl (SqL.of G.c0),_,_,U,U,_,U;rw[l0];refine i4 (λc3=>?_) (λc3=>by have h:=go λz=>c3 (Q3 (by have:=z.2.2;lia));exact h)
     have r0:0<r.length:=by
      have:=Qd c3;lia
     rw[Q0 ⟨Qd S,Qd c2,r0⟩]at l
     cases r with
     |nil=>exact Q5 r0 (by simp)
     |cons g r=>
     obtain⟨W,a4,a3⟩:=G.ss
     obtain⟨v,B,rfl⟩:∃v B,os=v::B:=by
      have:=G.ro.len
      match os,this with
      |v::B,_=>exact⟨v,B,U⟩
     exists _,U,.inl ⟨U,_,SqL.of G.c0⟩,j,_,_,U,U,G.c0,wz;rw[xH];generalize hA:upd D j (.lst (rc (g::r)))=A1;have a0:A1 j=some (.lst (rc (g::r))):=by rw[<- hA];exact ah
     have a1:A1 s1=some (.lst (rk (x::g::r))):=by rw[<- hA,au W.symm];exact G.c1
     have a2:A1 C=some (.lst (B.reverse++[v])):=by rw[<- hA,au a4.symm,G.c2,List.reverse_cons]
     exists _,U,.inl ⟨U,_,SqL.of a1⟩,s1,_,_,U,U,a1,wz;rw[xH];generalize hB:upd A1 s1 (.lst (rk (g::r)))=A2;have b0:A2 j=some (.lst (rc (g::r))):=by rwa[<- hB,au W]
     have b1:A2 s1=some (.lst (rk (g::r))):=by rw[<- hB];exact ah
     have b2:A2 C=some (.lst (B.reverse++[v])):=by rwa[<- hB,au a3.symm]
     refine⟨_,U,.inl ⟨U,_,SqL.of b2⟩,C,_,_,U,U,b2,by rw[qa,Q7,Nat.add_sub_cancel,qK (qd _),Nat.sub_self];rfl,?_⟩;rw[List.dropLast_concat];obtain⟨f5,G'⟩:=G.closed (H':=upd A2 C (.lst B.reverse)) (λb u L M h3 h=>by rwa[au h3,<- hB,au M,<- hA,au L]) (by rwa[au a4]) (by rwa[au a3]) ah;exact⟨f5,_,B,_,_,_,_,_,_,_,U,G',by rw[l];rfl,by rw[<- Y];exact yd U⟩
   .exists _,U,_,_,U,U,_,U;refine i4 (λc2=>?_) (λc2=>by have h:=go λz=>c2 (Q3 z.2.1);exact h);exists _,U,j,_,U,.inl (SqL.of G.c0),_,_,U,U,_,U;rw[l0];refine i4 (λc3=>?_) (λc3=>by have h:=go λz=>c3 (Q3 (by have:=z.2.2;lia));exact h)
    have r5:r.length<5:=by
     have:=Qd c3;lia
    have k5:=Qd S;have k9:=Qd c2;rw[Q0 ⟨k5,k9,r5⟩]at l;refine⟨qr _,λI Z=>?_⟩;refine⟨qr _,λeo a'=>?_⟩;have e5:=(a9.new Z (.lst [])).trans (a9.new a' (.lst []));have g9:eo≠I:=λz=>by rw[z,ah]at a';cases a'
    have e9:=bC a';have e7:upd (upd D I (.lst [])) eo (.lst []) I=some (.lst []):=a9.new a' _ _ _ ah;have d8:upd (upd D I (.lst [])) eo (.lst []) eo=some (.lst []):=ah;have G5:=G.same e5;have K0:=e5 _ _ a6;generalize upd (upd D I (.lst [])) eo (.lst [])=H5 at e5 e7 d8 G5 K0 ⊢
    have nf:∀d,D d=none->H0 d=none/\d∉[j,s1,C]++(x::r).flatMap Fz.muts:=λd hd=>⟨a9.none G.zc.h0 hd,λhm=>by
     obtain⟨ws,hw⟩:=G.zc.lsts d hm;rw[hd]at hw
     cases hw⟩
    obtain⟨W,a4,a3⟩:=G.ss;obtain⟨g6,g3,g1⟩:=G.ne (eE (x:=x) (r:=r));dsimp only[dD];refine uC (λX H6=>X=[some (.ref lc),some (.ref ln),some (.ref lr),some (.ref b),some (.ref j),some (.ref s1),some (.ref C),some (.int c),some (.int (pk c)),some (.str xn),some (.str qn),some (.bl hid),some (.ref I),some (.ref eo)]/\∃p,H5 p=none/\H6=upd (upd H5 p (.tup (⟨⟨opN c xn,[],false,0⟩,I,p,eo⟩:Fz).tupV)) x.c (.lst (vs++[.ref p]))) ?_ ?_
    .rintro X H6 ⟨rfl,p,np,rfl⟩;have e6:=a9.new np (.tup (⟨⟨opN c xn,[],false,0⟩,I,p,eo⟩:Fz).tupV);have G6:=G5.same e6;have e2:=e6 _ _ K0;have d':upd H5 p (.tup (⟨⟨opN c xn,[],false,0⟩,I,p,eo⟩:Fz).tupV) p=_:=ah;have d9:=e6 _ _ e7;have d4:=e6 _ _ d8;generalize upd H5 p (.tup (⟨⟨opN c xn,[],false,0⟩,I,p,eo⟩:Fz).tupV)=H6 at e6 G6 e2 d' d9 d4 ⊢
     have G7:=G6.opened (op:=opN c xn) (c:=I) (p:=p) (e:=eo) e2 (nf _ Z) (nf _ e9) g9 d4 d9 d' (vL (zs:=[xn]) (by simp)).2.1 (λn t h=>by
      unfold opN at h;split at h
      .cases h
      .split at h<;>cases h)
     have a0:upd H6 x.c (.lst (vs++[.ref p])) j=some (.lst (rc (x::r))):=by rw[au g6.symm];exact G6.c0
     have a1:upd H6 x.c (.lst (vs++[.ref p])) s1=some (.lst (rk (x::r))):=by rw[au g3.symm];exact G6.c1
     have a2:upd H6 x.c (.lst (vs++[.ref p])) C=some (.lst os.reverse):=by rw[au g1.symm];exact G6.c2
     generalize upd H6 x.c (.lst (vs++[.ref p]))=A1 at a0 a1 a2 G7 ⊢
     have c5:∀{β:Type}(f:Fz->β),(((x::r).map f).reverse).length<sizeLine:=λf=>by
      rw[List.length_reverse,q5];exact pC (by rw[qz];lia)
     have e':os.reverse.length<sizeLine:=by
      have:=G.ro.len;rw[List.length_reverse,this];exact pC (by rw[qz];lia)
     exists _,U,.inl ⟨U,_,SqL.of a0⟩,_,U,j,_,_,U,U,a0,c5 _;have b1:upd A1 j (.lst (rc (x::r)++[.ref I])) s1=_:=(au W.symm).trans a1;have b2:upd A1 j (.lst (rc (x::r)++[.ref I])) C=_:=(au a4.symm).trans a2;generalize upd A1 j (.lst (rc (x::r)++[.ref I]))=A2 at b1 b2 G7 ⊢;exists _,U,.inl ⟨U,_,SqL.of b2⟩,_,U,C,_,_,U,U,b2,e';have d1:upd A2 C (.lst (os.reverse++[.ref eo])) s1=_:=(au a3).trans b1;generalize upd A2 C (.lst (os.reverse++[.ref eo]))=A3 at d1 G7 ⊢;refine⟨_,U,.inl ⟨U,_,SqL.of d1⟩,ln3,λl8 b7=>?_⟩;have e8:=a9.new b7 (.lst [.str "if",.str "while",.str "repeat"])
     have kd:atI [V.str "if",V.str "while",V.str "repeat"] (pkN c 48271 10007 12-6)=some (.str (kdN (opN c xn))):=by
      have:pkN c 48271 10007 12=6\/pkN c 48271 10007 12=7\/pkN c 48271 10007 12=8:=by unfold pk at *;lia
      unfold opN;rcases this with h|h|h
      .rw[h];exact dY
      .rw[h];exact yr
      .rw[h];exact yq
     exists _,U,_,_,U,U,l8,_,_,_,U,U,SqL.of ah,kd,s1,_,_,U,U,e8 _ _ d1,c5 _;have n8:l8≠s1:=λz=>by rw[z,d1]at b7;cases b7
     have cm:upd (upd A3 l8 (.lst [.str "if",.str "while",.str "repeat"])) s1 (.lst (rk (x::r)++[.str (kdN (opN c xn))]))=upd (upd A3 s1 (.lst (rk (x::r)++[.str (kdN (opN c xn))]))) l8 (.lst [.str "if",.str "while",.str "repeat"]):=by
      funext d
      by_cases L:d=s1
      .subst L;rw[ah,au n8.symm,ah]
      .rw[au L];by_cases M:d=l8
       .subst M;rw[ah,ah]
       .rw[au M,au M,au L]
     rw[cm];exact⟨_,_,_,_,_,_,_,_,_,_,U,G7.same (a9.new (by rw[au n8];exact b7) _),by rw[l];rfl,Y⟩
    .intro N hN;have x6:H5 j=some _:=G5.c0;exists _,U,U,_,U;by_cases k6:pk c=6
     .refine bK (by simp[k6]) ?_;have a5:opN c xn=.ifT xn:=by unfold opN;rw[Q0 k6]
      refine⟨_,U,_,U,j,_,_,_,U,U,SqL.of x6,j6,.inl ⟨U,_,SqL.of K0⟩,_,U,_,U,_,U,ln4,λp hp=>⟨x.c,_,_,U,U,a9.new hp _ _ _ K0,aJ (m:=1000) Yo,hN _ _ ⟨U,p,hp,?_⟩⟩⟩;rw[a5]
      rfl
     .refine bn (by simp[k6]) ?_;exists _,U,U,_,U;by_cases k7:pk c=7
      .refine bK (by simp[k7]) ?_;have a5:opN c xn=.whl xn:=by unfold opN;rw[qZ k6,Q0 k7]
       refine⟨_,U,_,U,j,_,_,_,U,U,SqL.of x6,j6,.inl ⟨U,_,SqL.of K0⟩,_,U,_,U,ln3,λp hp=>⟨x.c,_,_,U,U,a9.new hp _ _ _ K0,aJ (m:=1000) Yo,hN _ _ ⟨U,p,hp,?_⟩⟩⟩;rw[a5]
       rfl
      .refine bn (by simp[k7]) ?_;have a5:opN c xn=.rep (pkN c 16807 70001 100):=by unfold opN;rw[qZ k6,qZ k7]
       refine⟨_,U,_,U,j,_,_,_,U,U,SqL.of x6,j6,.inl ⟨U,_,SqL.of K0⟩,_,U,_,_,_,_,U,R,⟨Yk,Yk⟩,⟨Yk,Yk⟩,⟨Yk,Yk⟩,_,U,ln3,λp hp=>⟨x.c,_,_,U,U,a9.new hp _ _ _ K0,aJ (m:=1000) Yo,hN _ _ ⟨U,p,hp,?_⟩⟩⟩;rw[a5]
       rfl
  .intro N hN;exists _,U,s1,_,U,.inl (SqL.of G.c1),U,flt,_,U;rcases Bool.eq_false_or_eq_true (inV (.str "if") (rk (x::r)))with L|L
   .exact bK L (hN _ _ ⟨U,by rw[<- hh,L];rfl⟩)
   refine bn L ?_;exists _,U,s1,_,U,.inl (SqL.of G.c1),U,flt,_,U;rcases Bool.eq_false_or_eq_true (inV (.str "else") (rk (x::r)))with M|M
   .exact bK M (hN _ _ ⟨U,by rw[<- hh,L,M];rfl⟩)
   refine bn M ?_;refine⟨_,U,s1,_,U,.inl (SqL.of G.c1),U,flt,hN _ _ ⟨U,by rw[<- hh,L,M];rfl⟩⟩
 .rintro X D ⟨H0,z,os,v7,v8,v9,c6,b9,b8,b5,rfl,G,hz,Y⟩;rw[q5,qG]at hz;refine⟨_,U,q D b G.zc.hbH hb ?_⟩;have:=G.zc.whole;rw[hz,Y]at this;exact this
theorem Fn(xs:LI)(lo hi:Nat)(h:lo<=hi):dq (xs.map V.int) (some (lo:Int)) (some (hi:Int))=((xs.drop lo).take (hi-lo)).map V.int:=by
 unfold dq;rw[HT.sIx_nat,HT.sIx_nat,q5,<- List.map_drop,<- List.map_take]
 congr 1
 by_cases h1:lo<=xs.length
 .rw[Nat.min_eq_left h1];by_cases h2:hi<=xs.length
  .rw[Nat.min_eq_left h2]
  .rw[Nat.min_eq_right Yo,List.take_of_length_le (by rw[qY];exact qd _),List.take_of_length_le (by rw[qY];lia)]
 .rw[List.drop_of_length_le (by lia:xs.length<=lo),List.drop_of_length_le (show xs.length<=min lo xs.length by lia),List.take_nil,List.take_nil]
theorem Fm(xs:LI)(hi:Nat):dq (xs.map V.int) none (some (hi:Int))=(xs.take hi).map V.int:=by
 unfold dq;rw[HT.sIx_none,HT.sIx_nat,q5,List.drop_zero,Nat.sub_zero,<- List.map_take]
 congr 1
 by_cases h2:hi<=xs.length
 .rw[Nat.min_eq_left h2]
 .rw[Nat.min_eq_right Yo,List.take_of_length_le (qd _),List.take_of_length_le Yo]
theorem yt(c:Int):(akN c).Nodup/\(akN c).length<=6/\∀x∈akN c,x∈nmN c:=by
 obtain⟨_,f,_⟩:=gX c;have l:0<=c / 7 % 7:=Qa _ Yk;have m:c / 7 % 7<7:=Qf _ Yk;have lt:∀k:Nat,((c / 5+5 * (k:Int)) % 6).toNat<(nmN c).length:=λk=>Yo;unfold akN;refine⟨?_,by rw[q5,Qe];lia,λx d=>?_⟩
 .refine List.nodup_iff_pairwise_ne.mpr ?_;rw[List.pairwise_map];refine List.Pairwise.imp_of_mem (R:=λa b:Nat=>a≠b) (λ{x y} d g h e=>?_) (List.nodup_iff_pairwise_ne.mp List.nodup_range);have d:=List.mem_range.mp d;have g:=List.mem_range.mp g;have l1:=lt x;have l2:=lt y;rw[qi,qi,qb l1,qb l2]at e;have e:(nmN c)[((c / 5+5 * (x:Int)) % 6).toNat]=(nmN c)[((c / 5+5 * (y:Int)) % 6).toNat]:=e;have i:=f.idxOf_getElem _ l1;have j:=f.idxOf_getElem _ l2;rw[e,j]at i;omega
 .obtain⟨k,_,rfl⟩:=List.mem_map.mp d;exact fS (lt k)
theorem vV(T:Tx P w K mg a):aF P w K mg base CX0 1 a.IH a.II ["_law_script"] (tY K):=by
 refine T.Ht.F.ok AZ (by walk_at "l") λ_ A outer s H vs Q E _ h=>?_;obtain⟨sa,ns,rfl,o,_,q⟩:=h;exists _,(aq (aK (dM (k:=1) (Nc:=["_law_cell"]) (js:=[]) (show b5 (aE jT) ["_law_script"] _ 1 ["_law_cell"] []from b5.mk U (by decide +kernel) (by decide +kernel) (by decide +kernel) U (by decide +kernel)) U (bJ (ku uu (pq 0) oI (iS af))) (λ_ _ _ _ _=>(aY (i:=0) (show List.Nodup (["_law_cell"]:LS)from by decide +kernel) U Oi)) (λ_ _ _ _ _=>dB) (λ_ _ _ _ _=>(ay oq (ay bT (pq 0) (ay gW af af)) (ay gW af af))))));walk_at "q";have l:(0:Int)<(10:Int) ^ (31:Int).toNat:=Yd;refine⟨_,U,_,U,sa,_,U,o,λd j=>?_⟩;rw[show dq (ns.map V.int) none (some 7)=(ns.take 7).map V.int from Fm ns 7];have f:=a9.new j (.lst ((ns.take 7).map V.int));have b:upd H d (.lst ((ns.take 7).map V.int)) d=some (.lst ((ns.take 7).map V.int)):=ah;generalize upd H d (.lst ((ns.take 7).map V.int))=H5 at f b ⊢;exists d,U,⟨_,SqL.of b⟩;refine ic (K:=K) (a:=d) (xs:=(ns.take 7).map V.int) (λi ys c H6=>(∃v,c=[v])/\H6=H5/\ys=(((ns.take 7).take i).map λn=>n % 10000000000000000000000000000000-1000000000000000000000000000000).map V.int) ⟨⟨_,U⟩,U,U⟩ ?_ (aJ (m:=100) (by rw[q5,qJ];lia)) ?_ ?_ ?_
 .rintro i ys c H6 _ ⟨_,_,rfl⟩;rw[q5,q5,qJ];lia
 .rintro i ys c H6 ⟨_,rfl,_⟩;exact SqL.of b
 .rintro i x ys c H6 g ⟨⟨v,rfl⟩,rfl,rfl⟩;rw[qD]at g;obtain⟨n,hn,rfl⟩:=qP.mp g;exists _,U,_,_,U,U,⟨Yk,Yk,Yk⟩,_,_,U,U,l,_,_,U,U,⟨Yk,Yk,Yk⟩,_,_,U,U,⟨_,U⟩,U;rw[qq (i:=i),hn,qO,qO,p30,show(10:Int) ^ (31:Int).toNat=10000000000000000000000000000000 by decide +kernel]
  rfl
 rintro ys c H6 ⟨_,rfl,rfl⟩ ln e;rw[q5,qG];exact q _ ln (f.trans (a9.new e _)) (a9.none f e) ah
theorem D2(T:Tx P w K mg a):aF P w K mg base CX0 5 a.IF a.IG ["_law_script"] (tW K):=by
 refine T.Jn.F.ok gG (by walk_at "l") λ_ A outer s H vs Q E hr h=>?_;obtain⟨sa,ns,rfl,hS,_,D,q⟩:=h
 refine⟨_,(ao (ax (i:=1) gG.nd U (Or.inr U) (ay bT (aj bR (ay cQ (pq 0) (aG (a8 af ae))) af Oy) (ay gW af af)))
  (ao (ax (i:=2) gG.nd U (Or.inr U) (aD (D3 T) (hr.mono Yk) T.Jj (a8 (pq 1) ae)))
  (ao (oH (i:=3) gG.nd U Oi (k:=1) (Nc:=["_law_k","_law_names_here","_law_cell"]) (js:=[2,1]) (show b5 (aE jS) ["_law_script","_law_cell","_law_names_here","_law_asks","_law_stores","_law_body_here"] _ 1 ["_law_k","_law_names_here","_law_cell"] [2,1]from b5.mk U (by decide +kernel) (by decide +kernel) (by decide +kernel) U (by decide +kernel)) U (kr U T.GP (a8 (ay bT (ay eZ (pq 1) af) af) ae)) (λ_ _ _ _ _=>(aY (i:=0) (show List.Nodup (["_law_k","_law_names_here","_law_cell"]:LS)from by decide +kernel) U Oi)) (λ_ _ _ _ _=>dB) (λ_ _ _ _ _=>(aj (uV (K:=K) U) (pq 1) (ay bT (ay iO (ay eZ (pq 2) af) (ay iX af (pq 0))) af) Oy)))
  (ao (ax (i:=4) gG.nd U Oi (aG (a8 (aS (a8 (aj bR (pq 2) af Oy) (a8 (ay iO af (ay bT (ay eZ (pq 1) af) af)) ae))) (a8 (aS (a8 av (a8 (ay iO af (ay bT (ay eZ (pq 1) af) af)) ae))) ae))))
  (ao (ax (i:=5) gG.nd U Oi (aD (D8 T) (hr.mono Yk) T.Jm (a8 (ku uu (pq 0) (iS af) (iS af)) (a8 (pq 2) (a8 (aG (a8 (aj bR (pq 2) af Oy) (a8 av ae))) ae)))))
  (aq (aK (aS (a8 (pq 3) (a8 (pq 4) (a8 (pq 5) ae))))))))))),?_⟩
 walk_at "q";refine⟨_,U,ln1,λl0 h0=>⟨sa,l0,_,_,U,U,(a9.new h0 _).seq hS,SqL.of ah,aJ (m:=100) (by rw[q5];show _+1<=100;lia),λl1 h1=>?_⟩⟩
 have b4:atI (ns.map V.int++[V.int 0]) 0=some (.int (ns.headD 0)):=by
  cases ns with
  |nil=>exact dY
  |cons x r=>exact dY
 exists l1,_,0,_,U,U,SqL.of ah,b4,_,_,U,U,⟨Yk,Yk,Yk⟩,_,_,U,U,Yk;have s1:=(a9.new h0 (.lst [.int 0])).trans (a9.new h1 (.lst (ns.map V.int++[V.int 0])));generalize upd (upd H l0 (.lst [.int 0])) l1 (.lst (ns.map V.int++[V.int 0]))=H1 at s1 ⊢;rw[show(10:Int) ^ (9:Int).toNat=1000000000 by decide +kernel];have c1:0<=ns.headD 0 % 1000000000:=Qa _ Yk;have c2:ns.headD 0 % 1000000000<1000000000:=Qf _ Yk;have ec:cN ns=ns.headD 0 % 1000000000:=U;unfold bdN at q;rw[ec]at q;generalize ns.headD 0 % 1000000000=c at c1 c2 q ⊢;obtain⟨z6,_,_⟩:=gX c;refine⟨_,U,c,U,⟨c1,c2⟩,λH2 y s2 _ L=>?_⟩;have b0:akN c=(List.range (c / 7 % 7).toNat).map λk:Nat=>(nmN c).getD ((c / 5+5 * (k:Int)) % 6).toNat (">":Str):=U;have a':ssN c=[((nmN c).getD 1 (">":Str),1+c / 11 % 2000),(("w":Str),1+c / 13 % 3)]:=U;generalize nmN c=zs at *;have a6:=s1.trans s2;have m0:0<=c / 7 % 7:=Qa _ Yk;have m1:c / 7 % 7<7:=Qf _ Yk;exists _,U,_,_,U,U,⟨Yk,Yk⟩,_,_,U,U,Yk,_,U,Yo,Yo;refine lI (λi ys C j=>(∃v,C=[v,some (.ref y),some (.int c)])/\j=H2/\ys=((List.range i).map λk:Nat=>zs.getD ((c / 5+5 * (k:Int)) % 6).toNat (">":Str)).map V.str) ⟨⟨_,U⟩,U,U⟩ ?_ (aJ (m:=10) Yo) ?_ ?_
 .rintro i ys C j _ ⟨_,_,rfl⟩;rw[q5,q5,Qe];exact qd _
 .rintro i ys C j hi ⟨⟨v,rfl⟩,rfl,rfl⟩;have lt:((c / 5+5 * (i:Int)) % 6).toNat<zs.length:=Yo;exists _,U,_,U,_,_,U,U,⟨Yk,Yk⟩,_,U,_,_,U,U,IntMulOk.of_left (intBits_le_64 Yk Yk),_,_,U,U,_,_,U,U,Yk,y,_,_,_,U,U,SqL.of L,kC Yo lt,⟨_,U⟩,U;rw[List.range_succ,qO,qO]
  rfl
 rintro ys C j ⟨_,rfl,rfl⟩ la a2;rw[<- b0];have X:=a9.new a2 (.lst ((akN c).map V.str));have M:upd j la (.lst ((akN c).map V.str)) la=some (.lst ((akN c).map V.str)):=ah;have s3:=a6.trans X;have u:=X _ _ L;generalize upd j la (.lst ((akN c).map V.str))=H4 at X M s3 u ⊢;have I:atI (zs.map V.str) 1=some (.str (zs.getD 1 (">":Str))):=kC (i:=1) Yk (by show 1<_;lia);refine⟨_,U,y,_,1,_,U,U,SqL.of u,I,_,U,_,_,U,U,⟨Yk,Yk⟩,_,_,U,U,Yk,_,_,U,U,ln2,λd a7=>?_⟩;refine⟨_,U,_,_,U,U,⟨Yk,Yk⟩,_,_,U,U,Yk,_,_,U,U,ln2,λf a3=>⟨ln2,λt b1=>?_⟩⟩;have e5:=a9.new a7 (.tup [.str (zs.getD 1 (">":Str)),.int (1+c / 11 % 2000)]);have R:=a9.new a3 (.tup [.str "w",.int (1+c / 13 % 3)]);have B:=a9.new b1 (.lst [.ref d,.ref f]);have g:=e5.trans (R.trans B);have g5:=B _ _ (R _ _ (ah (H:=H4) (a:=d) (o:=.tup [.str (zs.getD 1 (">":Str)),.int (1+c / 11 % 2000)])));have g6:=B _ _ (ah (H:=upd H4 d (.tup [.str (zs.getD 1 (">":Str)),.int (1+c / 11 % 2000)])) (a:=f) (o:=.tup [.str "w",.int (1+c / 13 % 3)]));have g7:upd (upd (upd H4 d (.tup [.str (zs.getD 1 (">":Str)),.int (1+c / 11 % 2000)])) f (.tup [.str "w",.int (1+c / 13 % 3)])) t (.lst [.ref d,.ref f]) t=_:=ah;generalize upd (upd (upd H4 d (.tup [.str (zs.getD 1 (">":Str)),.int (1+c / 11 % 2000)])) f (.tup [.str "w",.int (1+c / 13 % 3)])) t (.lst [.ref d,.ref f])=H7 at g g5 g6 g7 ⊢;clear e5 R B;have S:=s3.trans g;have a1:=g _ _ u;refine⟨_,U,_,U,_,U,sa,_,U,S.seq hS,λz b2=>?_⟩;rw[show dq (ns.map V.int) (some 1) (some 80)=(ca ns).map V.int from Fn ns 1 80 (by decide)];have W:=a9.new b2 (.lst ((ca ns).map V.int));have G:upd H7 z (.lst ((ca ns).map V.int)) z=some (.lst ((ca ns).map V.int)):=ah;generalize upd H7 z (.lst ((ca ns).map V.int))=H8 at W G ⊢;have N:=W _ _ a1;refine⟨_,U,_,U,y,_,1,_,U,U,SqL.of N,I,ln2,λZ a5=>?_⟩;have Y:=a9.new a5 (.lst [.str (zs.getD 1 (">":Str)),.str "w"]);have b3:upd H8 Z (.lst [.str (zs.getD 1 (">":Str)),.str "w"]) Z=some (.lst ([zs.getD 1 (">":Str),("w":Str)].map V.str)):=ah;have a0:(ca ns).length<=79:=by unfold ca;rw[qJ];lia
 have K0:∀n∈ca ns,Builtin.Int.intBits n<=2 ^ 20:=λn hn=>D n (List.mem_of_mem_drop (List.mem_of_mem_take hn));refine⟨z,y,Z,ca ns,zs,_,U,Y _ _ G,a0,K0,Y _ _ N,b3,z6,U,λ_ b a4 _ rb=>?_⟩;have l:=(W.trans Y).trans a4;refine⟨_,U,_,U,_,U,ln3,λp hp=>?_⟩;have J:=a9.new hp (.tup [.ref la,.ref t,.ref b]);have e:=l.trans J;refine q _ p la t b [.ref d,.ref f] (S.trans e) (a9.none (S.trans l) hp) ⟨ah,e _ _ (g _ _ M),e _ _ g7,?_,RL.same J rb⟩;rw[a'];exact .cons (e _ _ g5) (.cons (e _ _ g6) .nil)
theorem oV(T:Tx P w K mg a):∀n:Nat,aF P w K mg base CX0 (n+1) a.IJ a.IK ["_law_block"] (mw n):=by
 intro n
 induction n with
 |zero=>
  refine T.Cn.F.ok gI (by walk_at "l") λb0 A outer s H vs Q E hr h=>?_
  .obtain⟨_,_,_,_,_,_,h0,_⟩:=h;exact Q5 h0 (Qy _)
 |succ n ih=>
  refine T.Cn.F.ok gI (by walk_at "l") λb0 A outer s H vs Q E hr h=>?_;obtain⟨N,b,ds,rfl,e0,hb,b1,a5,k⟩:=h
  refine⟨_,(ao (ax (i:=1) gI.nd U Oi (aG ae))
   (ao (bO PassesOwn.never U (bJ (pq 0)) (aY (i:=2) gI.nd U Oi)
   (ao (aL (b4 qf qu qv bS (pq 1) (a8 (pq 2) ae)))
   (aq (aO (aI aZ (aj ar (pq 2) af Oy) av (aP _)) (aq (ax (i:=1) gI.nd U Oi (ay cQ (ay cQ (pq 1) (aD ih (hr.mono Yo) T.Cn (a8 (aj ar (pq 2) af Oy) ae))) (aD ih (hr.mono Yo) T.Cn (a8 (aj ar (pq 2) af Oy) ae))))) (aq (aO (aI dN (aj ar (pq 2) af Oy) (aG (a8 av (a8 av ae))) (by with_unfolding_all rfl)) (aq (ax (i:=1) gI.nd U Oi (ay cQ (pq 1) (aD ih (hr.mono Yo) T.Cn (a8 (aj ar (pq 2) af Oy) ae))))) bh))))))
   (aq (aK (pq 1))))),?_⟩
  walk_at "q";obtain⟨a3,a1⟩:=hb;rename_i vs;refine⟨qr _,λf0 S=>?_⟩;exists _,U,b,U,⟨_,SqL.of ((a9.new S _) _ _ (e0 _ _ a3))⟩;refine c9 (K:=K) (a:=b) (xs:=vs) (λi O C=>∃f us v2,O=[some (.ref b),some (.ref f),v2]/\a9 H C/\H f=none/\C f=some (.lst us)/\RDs N us (ai (ds.take i))) ⟨f0,[],_,U,a9.new S _,S,ah,.nil⟩ ?_ ?_ ?_
  .rintro i O C _ ⟨f,us,v2,_,s2,_⟩;exact SqL.of (s2 _ _ (e0 _ _ a3))
  .rintro i x O C hx ⟨f,us,v2,rfl,s2,J,K0,G⟩;obtain⟨d,hd,a2⟩:=a1.at i x hx;have all:ai (ds.take (i+1))=ai (ds.take i)++([d]++d.inner.flatMap ai):=xu hd;have r:(ai (ds.take (i+1))).length<=1000:=qx pX a5;rw[all]at r;simp only[qa,Q7]at r;have ul:=G.len;exists _,U,.inl ⟨U,_,SqL.of K0⟩,_,U,f,_,_,U,U,K0,aJ (m:=1001) Yo;have q:a9 H (upd C f (.lst (us++[x]))):=a9.over s2 J;have z:upd C f (.lst (us++[x])) f=some (.lst (us++[x])):=ah;have D:RDs N (us++[x]) (ai (ds.take i)++[d]):=G.app (.cons a2 .nil);generalize upd C f (.lst (us++[x]))=H3 at q z ⊢;have l:=e0.trans q;have dd:=lH hd;have one:∀v,d.inner=[]->∃f us v2,[some (V.ref b),some (.ref f),v]=[some (.ref b),some (.ref f),v2]/\a9 H H3/\H f=none/\H3 f=some (.lst us)/\RDs N us (ai (ds.take (i+1))):=λv h=>⟨f,_,v,U,q,J,z,by rw[all,h];simpa using D⟩
   cases a2 with
   |cond h Z h2=>
    rename_i t t1 t2 xn R os;have ht:=l _ _ h;have il:(ai R).length+(ai os).length<=1000:=by simp[aa.inner]at r;lia
    have W:aA R<n:=by have:=i5 (d:=.cond xn R os) (j:=0) (b:=R) U;lia
    have d2:aA os<n:=by have:=i5 (d:=.cond xn R os) (j:=1) (b:=os) U;lia
    exists _,U,t,_,0,_,U,U,SqT.of ht,U,U,_,U;walk_at "yes";refine⟨_,U,_,U,t,_,2,_,U,U,SqT.of ht,U,N,t1,R,U,l,Z,W,Yo,λH4 l4 u y n4 Y B=>?_⟩;refine⟨f,l4,_,_,U,U,SqL.of (y _ _ z),SqL.of Y,aJ (m:=10000) (by rw[qa,B.len];show _+1+_<=_;lia),λl5 a'=>?_⟩;have e5:=a9.new a' (.lst (us++[.ref t]++u));have L:=y.trans e5;have a0:upd H4 l5 (.lst (us++[.ref t]++u)) l5=some (.lst (us++[.ref t]++u)):=ah;generalize upd H4 l5 (.lst (us++[.ref t]++u))=H5 at e5 L a0 ⊢;have a7:=l.trans L;refine⟨_,U,t,_,3,_,U,U,SqT.of (L _ _ ht),U,N,t2,os,U,a7,h2,d2,Yo,λH6 l6 a4 s6 n6 h6 r6=>?_⟩;refine⟨l5,l6,_,_,U,U,SqL.of (s6 _ _ a0),SqL.of h6,aJ (m:=10000) (by rw[qa,qa,B.len,r6.len];show _+1+_+_<=_;lia),λX p=>?_⟩;have a6:=(L.trans s6).trans (a9.new p (.lst (us++[.ref t]++u++a4)));exists X,_,_,U,q.trans a6,a9.none (q.trans (L.trans s6)) p,ah;rw[all];have:=(D.app B).app r6;simpa[aa.inner,qM]using this
   |whl h Z=>
    rename_i t t1 xn bs;have ht:=l _ _ h;have il:(ai bs).length<=1000:=by simp[aa.inner]at r;lia
    have W:aA bs<n:=by have:=i5 (d:=.whl xn bs) (j:=0) (b:=bs) U;lia
    exists _,U,t,_,0,_,U,U,SqT.of ht,U,U,_,U;walk_at "no";refine⟨_,U,t,_,0,_,U,U,SqT.of ht,U,ln2,λo e=>?_⟩;have c:=a9.new e (.lst [.str "while",.str "repeat"]);exists o,_,U,.inl (SqL.of ah),U,U,_,U;walk_at "yes";have g:=q.trans c;have M:=c _ _ z;have I:=c _ _ ht;generalize upd H3 o (.lst [.str "while",.str "repeat"])=G3 at c g M I ⊢;refine⟨_,U,_,U,t,_,2,_,U,U,SqT.of I,U,N,t1,bs,U,e0.trans g,Z,W,Yo,λH4 l4 u y n4 Y B=>?_⟩;refine⟨f,l4,_,_,U,U,SqL.of (y _ _ M),SqL.of Y,aJ (m:=10000) (by rw[qa,B.len];show _+1+_<=_;lia),λX p=>?_⟩;exists X,_,_,U,(g.trans y).trans (a9.new p _),a9.none (g.trans y) p,ah;rw[all];have:=D.app B;simpa[aa.inner,qM]using this
   |rep h Z=>
    rename_i t t1 kk bs;have ht:=l _ _ h;have il:(ai bs).length<=1000:=by simp[aa.inner]at r;lia
    have W:aA bs<n:=by have:=i5 (d:=.rep kk bs) (j:=0) (b:=bs) U;lia
    exists _,U,t,_,0,_,U,U,SqT.of ht,U,U,_,U;walk_at "no";refine⟨_,U,t,_,0,_,U,U,SqT.of ht,U,ln2,λo e=>?_⟩;have c:=a9.new e (.lst [.str "while",.str "repeat"]);exists o,_,U,.inl (SqL.of ah),U,U,_,U;walk_at "yes";have g:=q.trans c;have M:=c _ _ z;have I:=c _ _ ht;generalize upd H3 o (.lst [.str "while",.str "repeat"])=G3 at c g M I ⊢;refine⟨_,U,_,U,t,_,2,_,U,U,SqT.of I,U,N,t1,bs,U,e0.trans g,Z,W,Yo,λH4 l4 u y n4 Y B=>?_⟩;refine⟨f,l4,_,_,U,U,SqL.of (y _ _ M),SqL.of Y,aJ (m:=10000) (by rw[qa,B.len];show _+1+_<=_;lia),λX p=>?_⟩;exists X,_,_,U,(g.trans y).trans (a9.new p _),a9.none (g.trans y) p,ah;rw[all];have:=D.app B;simpa[aa.inner,qM]using this
   |set h=>
    have ht:=l _ _ h;rename_i t _ _ _ _;exists _,U,t,_,0,_,U,U,SqT.of ht,U,U,_,U;walk_at "no";refine⟨_,U,t,_,0,_,U,U,SqT.of ht,U,ln2,λo e=>?_⟩;have c:=a9.new e (.lst [.str "while",.str "repeat"]);exists o,_,U,.inl (SqL.of ah),U,U,_,U;walk_at "no";exact⟨f,_,_,U,q.trans c,J,c _ _ z,by rw[all];simpa[aa.inner]using D⟩
   |put h=>
    have ht:=l _ _ h;rename_i t _ _;exists _,U,t,_,0,_,U,U,SqT.of ht,U,U,_,U;walk_at "no";refine⟨_,U,t,_,0,_,U,U,SqT.of ht,U,ln2,λo e=>?_⟩;have c:=a9.new e (.lst [.str "while",.str "repeat"]);exists o,_,U,.inl (SqL.of ah),U,U,_,U;walk_at "no";exact⟨f,_,_,U,q.trans c,J,c _ _ z,by rw[all];simpa[aa.inner]using D⟩
   |get h=>
    have ht:=l _ _ h;rename_i t _ _;exists _,U,t,_,0,_,U,U,SqT.of ht,U,U,_,U;walk_at "no";refine⟨_,U,t,_,0,_,U,U,SqT.of ht,U,ln2,λo e=>?_⟩;have c:=a9.new e (.lst [.str "while",.str "repeat"]);exists o,_,U,.inl (SqL.of ah),U,U,_,U;walk_at "no";exact⟨f,_,_,U,q.trans c,J,c _ _ z,by rw[all];simpa[aa.inner]using D⟩
   |give h=>
    have ht:=l _ _ h;rename_i t _;exists _,U,t,_,0,_,U,U,SqT.of ht,U,U,_,U;walk_at "no";refine⟨_,U,t,_,0,_,U,U,SqT.of ht,U,ln2,λo e=>?_⟩;have c:=a9.new e (.lst [.str "while",.str "repeat"]);exists o,_,U,.inl (SqL.of ah),U,U,_,U;walk_at "no";exact⟨f,_,_,U,q.trans c,J,c _ _ z,by rw[all];simpa[aa.inner]using D⟩
  .rintro O C ⟨f,us,v2,rfl,s2,J,K0,G⟩;rw[a1.len,qG]at G;exact⟨_,U,k C f us s2 J K0 G⟩
theorem D9(T:Tx P w K mg a):∀n:Nat,aF P w K mg base CX0 (n+1) a.IL a.IM ["_law_block"] (ug n):=by
 intro n
 induction n with
 |zero=>
  refine T.GL.F.ok uL (by walk_at "l") λz A outer s H vs Q E r h=>?_
  .obtain⟨_,_,_,_,_,_,h0,_⟩:=h;exact Q5 h0 (Qy _)
 |succ n J=>
  refine T.GL.F.ok uL (by walk_at "l") λz A outer s H vs Q E r h=>?_;obtain⟨G,b,ds,rfl,e0,hb,N,M,k⟩:=h;exists _,(aq (aK (bv (FP U) U T.JB PyProof.Rows.Boot.«all» (a8 (dM (k:=1) (Nc:=["_law_deed"]) (js:=[]) (show b5 (aE jW) ["_law_block"] _ 1 ["_law_deed"] []from b5.mk U (by decide +kernel) (by decide +kernel) (by decide +kernel) U (by decide +kernel)) U (bJ (pq 0)) (λ_ _ _ _ _=>(aY (i:=0) (show List.Nodup (["_law_deed"]:LS)from by decide +kernel) U Oi)) (λ_ _ _ _ _=>dB) (λ_ _ _ _ _=>(Cf (iV aZ (aj (uU (K:=K) U) (pq 0) af Oy) av (aP _)) (vG (aD J (r.mono Yo) T.GL (a8 (aj (uU (K:=K) U) (pq 0) af Oy) ae)))))) ae))));walk_at "q";obtain⟨p,o⟩:=hb;rename_i vs;have C:=o.len;have K0:=lG ds;exists _,U,b,U,⟨_,SqL.of (e0 _ _ p)⟩;refine ic (K:=K) (a:=b) (xs:=vs) (λi ys g f=>(∃v,g=[v])/\a9 H f/\ys=((ds.take i).map aa.bare).map V.bl) ⟨⟨_,U⟩,a9.refl _,U⟩ ?_ (aJ (m:=1000) Yo) ?_ ?_ ?_
  .rintro i ys g f _ ⟨_,_,rfl⟩;rw[q5,q5,qJ];lia
  .rintro i ys g f ⟨_,e,_⟩;exact SqL.of (e _ _ (e0 _ _ p))
  .rintro i x ys g f I ⟨⟨v,rfl⟩,e,rfl⟩;obtain⟨d,hd,y⟩:=o.at i x I;have c:=e0.trans e;have st:(((ds.take (i+1)).map aa.bare).map V.bl)=((ds.take i).map aa.bare).map V.bl++[V.bl d.bare]:=by rw[qq,hd,qO,qO];rfl
   have S:=lH hd;rw[st]
   cases y with
   |rep h q=>
    rename_i t L u bs;have ht:=c _ _ h;have fl:(ai bs).length<=(ai ds).length:=((jb (d:=.rep u bs) (b:=bs) (by simp[aa.inner])).trans (lD (qy hd))).length_le;have D:aA bs<n:=by have:=i5 (d:=.rep u bs) (j:=0) (b:=bs) U;lia
    exists _,U,t,_,0,_,U,U,SqT.of ht,U,U,_,U;walk_at "yes";refine⟨_,U,t,_,2,_,U,U,SqT.of ht,U,G,L,bs,U,c,q,D,Yo,λW B=>?_⟩;exact⟨⟨_,U⟩,e.trans B,by rw[aa.bare]⟩
   |set h=>
    have ht:=c _ _ h;rename_i t _ _ _ _;exists _,U,t,_,0,_,U,U,SqT.of ht,U,U,_,U;walk_at "no";exact⟨⟨_,U⟩,e,by rw[aa.bare]⟩
   |put h=>
    have ht:=c _ _ h;rename_i t _ _;exists _,U,t,_,0,_,U,U,SqT.of ht,U,U,_,U;walk_at "no";exact⟨⟨_,U⟩,e,by rw[aa.bare]⟩
   |get h=>
    have ht:=c _ _ h;rename_i t _ _;exists _,U,t,_,0,_,U,U,SqT.of ht,U,U,_,U;walk_at "no";exact⟨⟨_,U⟩,e,by rw[aa.bare]⟩
   |give h=>
    have ht:=c _ _ h;rename_i t _;exists _,U,t,_,0,_,U,U,SqT.of ht,U,U,_,U;walk_at "no";exact⟨⟨_,U⟩,e,by rw[aa.bare]⟩
   |cond h q R=>
    have ht:=c _ _ h;rename_i t _ _ _ _ _;exists _,U,t,_,0,_,U,U,SqT.of ht,U,U,_,U;walk_at "no";exact⟨⟨_,U⟩,e,by rw[aa.bare]⟩
   |whl h q=>
    have ht:=c _ _ h;rename_i t _ _ _;exists _,U,t,_,0,_,U,U,SqT.of ht,U,U,_,U;walk_at "no";exact⟨⟨_,U⟩,e,by rw[aa.bare]⟩
  rintro ys g f ⟨_,e,rfl⟩ l hl;rw[C,qG];exists l,_,U,SqL.of ah;rw[List.all_map,show ds.all (id ∘ aa.bare)=du ds from(ym ds).symm];exact k _ (e.trans (a9.new hl _))
theorem FF{f:LS}{ss:LG}(st:∀d∈ai ds,∀q x,d=.put q x\/d=.get q x->q∈ss.map (·.1))(k:Str):
 k∈cF f ss ds↔k∈[(">":Str)]++f++(ss.flatMap λs=>[s.1++(">":Str),s.1++("<":Str)])++(ai ds).flatMap aa.names:=by
 unfold cF;simp only[qg,qS];constructor
 .rintro(((h|h)|h)|h)
  .exact .inl (.inl (.inr h))
  .obtain⟨d,hd,hk⟩:=List.mem_flatMap.mp h;unfold aa.cards at hk;rcases qg.mp hk with h'|h'
   .exact .inr (List.mem_flatMap.mpr ⟨d,hd,h'⟩)
   .cases d with
    |put q x=>
     simp[aa.others]at h';obtain⟨s,c,e⟩:=List.mem_map.mp (st _ hd q x (.inl U));exact .inl (.inr (List.mem_flatMap.mpr ⟨s,c,by rw[h',e];simp⟩))
    |get q x=>
     simp[aa.others]at h';obtain⟨s,c,e⟩:=List.mem_map.mp (st _ hd q x (.inr U));exact .inl (.inr (List.mem_flatMap.mpr ⟨s,c,by rw[h',e];simp⟩))
    |give x=>simp[aa.others]at h';exact .inl (.inl (.inl h'))
    |whl x b=>simp[aa.others]at h';exact .inl (.inl (.inl h'))
    |set x a _ b=>simp[aa.others]at h'
    |cond x t o=>simp[aa.others]at h'
    |rep n b=>simp[aa.others]at h'
  .exact .inl (.inl (.inl h))
  .exact .inl (.inr h)
 .rintro(((h|h)|h)|h)
  .exact .inl (.inr h)
  .exact .inl (.inl (.inl h))
  .exact .inr h
  .obtain⟨d,hd,hk⟩:=List.mem_flatMap.mp h;exact .inl (.inl (.inr (List.mem_flatMap.mpr ⟨d,hd,by unfold aa.cards;simp[hk]⟩)))
theorem wy:∀xs:LI,PyData.canLayAll0 (xs.map PyData.int)=true/\PyData.depthAll (xs.map PyData.int)<=1
 |[]=>by simp[PyData.canLayAll0,PyData.depthAll]
 |x::r=>by
  obtain⟨h1,h2⟩:=wy r;simp[PyData.canLayAll0,PyData.depthAll,PyData.canLay0,PyData.depth,h1];lia
theorem pM{K:W.Frag}{H:Hp}:∀xs:LI,dv K H (xs.map V.int) (xs.map PyData.int)
 |[]=>.nil
 |x::r=>.cons (.int _) (pM r)
theorem mK(xs:LI):SeqAt.shaped (.list (xs.map PyData.int))=true:=by
 obtain⟨a,_⟩:=wy xs;unfold SeqAt.shaped;simp[PyData.canLay0,PyData.depth,a];lia
noncomputable def crN(c:Int):LS:=(">":Str)::nmN c++[(nmN c).getD 1 (">":Str)++(">":Str),(nmN c).getD 1 (">":Str)++("<":Str),("w>":Str),("w<":Str)]
theorem BX{p la ls l ln:Addr}{us:LV}(v:ns.length<=63)(RP:RP H p (akN (cN ns)) (ssN (cN ns)) (bdN ns) la ls l us)(hn:H ln=some (.lst ((cu ns).map V.int))):
 rR H p la ls l ln (akN (cN ns)) (ssN (cN ns)) (cu ns) (bdN ns) us (crN (cN ns))/\∀d∈ai (bdN ns),∀q x,d=.put q x\/d=.get q x->q∈(ssN (cN ns)).map (·.1):=by
 obtain⟨j,_,e⟩:=gX (cN ns);obtain⟨_,al,r⟩:=yt (cN ns);have m:[(nmN (cN ns)).getD 1 (">":Str),("w":Str)].length=2:=U;obtain⟨g,dp,fl⟩:=rH (ss:=[(nmN (cN ns)).getD 1 (">":Str),("w":Str)]) j m (ca ns);have g:BlX (nmN (cN ns)) [(nmN (cN ns)).getD 1 (">":Str),("w":Str)] (bdN ns):=g;have dp:aA (bdN ns)<=12:=dp;have fl:(ai (bdN ns)).length<=(ca ns).length:=fl;have cl:(ca ns).length<=79:=by unfold ca;rw[qJ];lia
 have f:(nmN (cN ns)).getD 1 (">":Str)∈nmN (cN ns):=fS Yo
 have st:∀d∈ai (bdN ns),∀q x,d=.put q x\/d=.get q x->q∈(ssN (cN ns)).map (·.1):=λd hd q x h=>by
  have:=(g d hd).1;rcases h with rfl|rfl
  .exact this.1
  .exact this.1
 have u:∀d∈ai (bdN ns),∀x∈d.names,x∈nmN (cN ns):=λd hd x a=>by
  have h:=(g d hd).1
  cases d with
  |set y _ _ _=>
   simp only[aa.names,qt,qg]at a;rcases a with rfl|a|a
   .exact h.1
   .exact h.2.1.names _ a
   .exact h.2.2.names _ a
  |put s y=>simp[aa.names]at a;rw[a];exact h.2
  |get s y=>simp[aa.names]at a;rw[a];exact h.2
  |give y=>simp[aa.names]at a;rw[a];exact h
  |cond y t o=>simp[aa.names]at a;rw[a];exact h
  |whl y b=>simp[aa.names]at a;rw[a];exact h
  |rep n b=>simp[aa.names]at a
 refine⟨⟨RP,hn,dp,Yo,Yo,by show 2<=100;decide,by unfold cu;rw[q5,qJ];lia,λk hk=>?_,by unfold crN;rw[qa,qz,j];show 6+1+4<=20;decide,λk hk=>?_,?_,λs c=>?_,λd hd q x h=>?_⟩,st⟩
 .have hk:=(FF st k).mp hk;unfold crN;simp only[qg,qt,qQ,or_false]at hk ⊢;rcases hk with((h|h)|h)|h
  .exact .inl (.inl h)
  .exact .inl (.inr (r k h))
  .obtain⟨s,c,h⟩:=List.mem_flatMap.mp h;unfold ssN at c;simp only[qt,qQ,or_false]at c h;rcases c with rfl|rfl
   .rcases h with h|h
    .exact .inr (.inl h)
    .exact .inr (.inr (.inl h))
   .rcases h with h|h
    .exact .inr (.inr (.inr (.inl (h.trans (show("w":Str)++(">":Str)="w>" by decide +kernel)))))
    .exact .inr (.inr (.inr (.inr (h.trans (show("w":Str)++("<":Str)="w<" by decide +kernel)))))
  .obtain⟨d,hd,h⟩:=List.mem_flatMap.mp h;exact .inl (.inr (u d hd k h))
 .unfold crN at hk;have l1:=(e _ f).1;simp only[qg,qt,qQ,or_false]at hk;rcases hk with(rfl|h)|rfl|rfl|rfl|rfl
  .decide
  .have:=(e k h).1;lia
  .rw[dZ];show _+1<=1000;lia
  .rw[dZ];show _+1<=1000;lia
  .decide
  .decide
 .have i:=(e _ f).2.2;unfold esN ssN;simp only[qR,List.map_nil,Qm,Ql,List.nodup_cons,qt,qQ,or_false,not_or];exact⟨⟨i.1,i.2⟩,Yd,by simp,List.nodup_nil⟩
 .unfold ssN at c;simp only[qt,qQ,or_false]at c;rcases c with rfl|rfl
  .have:=(e _ f).1;show((nmN (cN ns)).getD 1 (">":Str)).length<=1000;lia
  .show(("w":Str)).length<=1000
   decide
 .unfold esN;exact qg.mpr (.inl (st d hd q x h))
def LtS(z:Str):Bool:=(z.cps.toList.all λc=>decide (97<=c) && decide (c<=122)) && !z.cps.toList.isEmpty
theorem Dr:∀(r:Fin 14)(u v:Fin 3),∀z∈nm2 (r.val:Nat) (u.val:Nat) (v.val:Nat),LtS z=true:=Yd
theorem Du:∀(r:Fin 14)(k:Fin 6),LtS (Txt.mul (chN ((r.val:Nat):Int)) (((k.val:Nat):Int)+1))=true:=Yd
theorem kD(c:Int):∀z∈nmN c,LtS z=true:=by
 have b:0<=c / 9 % 14:=Qa _ Yk;have d:c / 9 % 14<14:=Qf _ Yk;unfold nmN;split
 .intro z hz;obtain⟨k,hk,rfl⟩:=List.mem_map.mp hz;have hk:=List.mem_range.mp hk;have ok:=Du ⟨(c / 9 % 14).toNat,Yo⟩ ⟨k,hk⟩;dsimp only at ok;rw[show(((c / 9 % 14).toNat:Nat):Int)=c / 9 % 14 by lia]at ok
  have:chN (c / 9+(0:Nat))=chN (c / 9 % 14):=by
   unfold chN;rw[show(c / 9+((0:Nat):Int)) % 14=c / 9 % 14 % 14 by lia]
  rwa[this]
 .have e:0<=c % 3:=Qa _ Yk;have f:c % 3<3:=Qf _ Yk;have v0:0<=c / 3 % 3:=Qa _ Yk;have v1:c / 3 % 3<3:=Qf _ Yk
  have a:((List.range 6).map λk:Nat=>Txt.mul ("q":Str) (c % 3)++chN (c / 9+k)++Txt.slice ("vz":Str) none (some (c / 3 % 3)))=nm2 (c / 9 % 14) (c % 3) (c / 3 % 3):=by
   unfold nm2;refine List.map_congr_left λk _=>?_
   have:chN (c / 9+k)=chN (c / 9 % 14+k):=by
    unfold chN;rw[show(c / 9+(k:Int)) % 14=(c / 9 % 14+(k:Int)) % 14 by lia]
   rw[this]
  have ok:=Dr ⟨(c / 9 % 14).toNat,Yo⟩ ⟨(c % 3).toNat,Yo⟩ ⟨(c / 3 % 3).toNat,Yo⟩;dsimp only at ok;rw[show(((c / 9 % 14).toNat:Nat):Int)=c / 9 % 14 by lia,show(((c % 3).toNat:Nat):Int)=c % 3 by lia,show(((c / 3 % 3).toNat:Nat):Int)=c / 3 % 3 by lia,<- a]at ok;exact ok
theorem LtS.sign(h:LtS z=true):∀c∈z.cps.toList,97<=c:=λc a=>by
 unfold LtS at h;rw[Bool.and_eq_true]at h;have:=List.all_eq_true.mp h.1 c a;simp only[Bool.and_eq_true,decide_eq_true_eq]at this;exact this.1
theorem lN(x y:Str)(c:Nat)(h:c∈y.cps.toList):c∈(x++y).cps.toList:=by
 show c∈(x.cps++y.cps).toList;rw[Array.toList_append];exact qH _ h
theorem pD(h:LtS z=true):q++(">":Str)≠z/\q++("<":Str)≠z/\(">":Str)≠z:=by
 refine⟨λe=>?_,λe=>?_,λe=>?_⟩
 .have:=LtS.sign h 62 (by rw[<- e];exact lN q _ 62 Yd);lia
 .have:=LtS.sign h 60 (by rw[<- e];exact lN q _ 60 Yd);lia
 .have:=LtS.sign h 62 (by rw[<- e];decide +kernel);lia
theorem DT(h:LtS z=true):gj z=true:=by
 have h':=h;unfold LtS at h';rw[Bool.and_eq_true]at h'
 cases e:z.cps.toList with
 |nil=>rw[e]at h';simp at h'
 |cons c r=>
  have:=LtS.sign h c (by rw[e];exact qk);unfold gj;rw[e,List.any_cons];simp only[Bool.or_eq_true,Bool.not_eq_true',Bool.and_eq_false_iff,decide_eq_false_iff_not];left;right;lia
theorem uy{c:Nat}(h:c∈z.cps.toList)(k:57<c):gj z=true:=by
 unfold gj;refine List.any_eq_true.mpr ⟨c,h,?_⟩;simp only[Bool.not_eq_true',Bool.and_eq_false_iff,decide_eq_false_iff_not];right;lia
theorem Fs(c:Int):∀z∈crN c,gj z=true:=λz hz=>by
 unfold crN at hz;simp only[qg,qt,qQ,or_false]at hz;rcases hz with(rfl|h)|rfl|rfl|rfl|rfl
 .decide +kernel
 .exact DT (kD c z h)
 .exact uy (lN _ _ 62 Yd) Yk
 .exact uy (lN _ _ 60 Yd) Yk
 .decide +kernel
 .decide +kernel
theorem FU(ns:LI):(∀e∈ai (bdN ns),NcD e)/\(∀e∈ai (bdN ns),∀s∈e.strs,PyData.strOk s=true)/\∀s∈ssN (cN ns),PyData.strOk s.1=true:=by
 obtain⟨k,_,c⟩:=gX (cN ns);obtain⟨j,dp,fl⟩:=rH (ss:=[(nmN (cN ns)).getD 1 (">":Str),("w":Str)]) k U (ca ns);have f:(nmN (cN ns)).getD 1 (">":Str)∈nmN (cN ns):=fS Yo;have i:∀s∈sgL,PyData.strOk s=true:=Yd
 have d:∀{s:Str},s∈[(nmN (cN ns)).getD 1 (">":Str),("w":Str)]->PyData.strOk s=true:=λ{s} h=>by
  simp only[qt,qQ,or_false]at h;rcases h with rfl|rfl
  .exact(c _ f).2.1
  .decide +kernel
 refine⟨λe g=>?_,λe g s a=>?_,λs a=>?_⟩
 .have h:=(j e g).1
  cases e with
  |put q x=>exact(pD (kD _ x h.2)).1
  |get q x=>exact(pD (kD _ x h.2)).2.1
  |give x=>exact(pD (q:="") (kD _ x h)).2.2
  |_=>exact trivial
 .obtain⟨h,h'⟩:=j e g
  cases e with
  |set x _ _ _=>
   simp only[aa.strs,qt,qg]at a;rcases a with rfl|rfl|a|a
   .exact(c _ h.1).2.1
   .exact i _ h'
   .exact(c _ (h.2.1.names _ a)).2.1
   .exact(c _ (h.2.2.names _ a)).2.1
  |put q x=>
   simp only[aa.strs,qt,qQ,or_false]at a;rcases a with rfl|rfl
   .exact d h.1
   .exact(c _ h.2).2.1
  |get q x=>
   simp only[aa.strs,qt,qQ,or_false]at a;rcases a with rfl|rfl
   .exact d h.1
   .exact(c _ h.2).2.1
  |give x=>simp only[aa.strs,qt,qQ,or_false]at a;rw[a];exact(c _ h).2.1
  |cond x t o=>simp only[aa.strs,qt,qQ,or_false]at a;rw[a];exact(c _ h).2.1
  |whl x b=>simp only[aa.strs,qt,qQ,or_false]at a;rw[a];exact(c _ h).2.1
  |rep n b=>simp[aa.strs]at a
 .unfold ssN at a;simp only[qt,qQ,or_false]at a;rcases a with rfl|rfl
  .exact(c _ f).2.1
  .show PyData.strOk ("w":Str)=true
   decide +kernel
theorem sJ(a:LS)(k:Str):aU (tbT a) (.inr k) (.bl true)=tbT (b7 a k):=by
 unfold aU tbT b7;by_cases h:k∈a
 .rw[Q0 (List.any_eq_true.mpr ⟨(.inr k,.bl true),List.mem_map.mpr ⟨k,h,U⟩,by simp⟩),Q0 h,List.map_map];refine List.map_congr_left λz _=>?_;show(if(Sum.inr z:Key)=.inr k then((Sum.inr z:Key),V.bl true)else(.inr z,.bl true))=(.inr z,.bl true);split<;>rfl
 .rw[qZ (λz=>?_),qZ h,qO]
  .rfl
  .obtain⟨p,hp,e⟩:=List.any_eq_true.mp z;obtain⟨y,b,rfl⟩:=List.mem_map.mp hp;exact h (Sum.inr.inj (Qd e)▸b)
theorem Do{D:cJ}{d e:Addr}{v2 v4:LB}{G:Hp}(i:G e=some (.lst (S.map V.str)))(hd:G d=some (.dK (tbT ks)))(few:ks.length+S.length<=5000)
 (fin:∀c v4,(∀b o,b≠d->G b=some o->c b=some o)->c d=some (.dK (tbT (S.foldl b7 ks)))->D.nx [some (.ref b),some (.ref d),v2,some (.ref e),v4] c):
 iC (pQ K (bV 3)) (dD 4) (iM (bV 1) (bV 4) (tC (V.bl true))) D [some (.ref b),some (.ref d),v2,some (.ref e),v4] G:=by
 exists _,U,e,U,⟨_,SqL.of i⟩;have nd:e≠d:=λz=>by rw[z,hd]at i;cases i
 refine c9 (K:=K) (a:=e) (xs:=S.map V.str) (λj k c=>(∃v4,k=[some (.ref b),some (.ref d),v2,some (.ref e),v4])/\(∀b o,b≠d->G b=some o->c b=some o)/\c d=some (.dK (tbT ((S.take j).foldl b7 ks)))) ⟨⟨_,U⟩,λ_ _ _ h=>h,by simpa using hd⟩ ?_ ?_ ?_
 .rintro j k c _ ⟨_,g,_⟩;exact SqL.of (g _ _ nd i)
 .rintro j z k c hz ⟨⟨v4,rfl⟩,g,f⟩;rw[qD]at hz;obtain⟨y,l,rfl⟩:=qP.mp hz;have lt:=(qe.mp l).1;have l1:=(cH (S.take j) ks).1;rw[qJ]at l1;refine⟨_,U,_,U,d,_,U,.inl ⟨_,.inr y,f,U,by unfold tbT;rw[q5];exact Nat.lt_of_le_of_lt (show _<=5000 by lia) (by decide),U⟩,⟨_,U⟩,λb o hb h=>by rw[au hb];exact g b o hb h,?_⟩;rw[ah,sJ,qq,l,List.foldl_append]
  rfl
 .rintro k c ⟨⟨v4,rfl⟩,g,f⟩;rw[q5,qG]at f;exact fin c v4 g f
theorem xS(d:aa):d.cards.length<=4:=by
 cases d with
 |set x b _ a=>cases b<;>cases a<;>simp[aa.cards,aa.names,aa.others,Val.names]
 |_=>simp[aa.cards,aa.names,aa.others]
theorem xT(l:LA):(l.flatMap aa.cards).length<=4 * l.length:=by
 induction l with
 |nil=>exact qd _
 |cons d r _=>
  have:=xS d;rw[qE,qa,qz];lia
theorem Bl{v:V}(h:RD H v d):∃t k y r,v=.ref t/\H t=some (.tup (.str k::y::r)):=by
 cases h<;>exact⟨_,_,_,_,U,by assumption⟩
theorem oW(T:Tx P w K mg a):aF P w K mg base CX0 1 a.IN a.IO ["_law_deeds"] mB:=by
 refine T.GM.F.ok dI (by walk_at "l") λ_ A outer s H vs Q E hr h=>?_;obtain⟨_,S,uf,X,rfl,sb,hf,rf,fl,st,q⟩:=h
 refine⟨_,(ao (ax (i:=1) dI.nd U Oi gP)
  (ao (bO PassesOwn.never U (bJ (pq 0)) (aY (i:=2) dI.nd U Oi)
  (ao (ax (i:=3) dI.nd U Oi (aG (a8 (aj ar (pq 2) af Oy) ae)))
  (ao (aO (aI aZ (aj ar (pq 2) af Oy) av (aP _)) (aq (oH (i:=3) dI.nd U Oi (k:=1) (Nc:=["_law_x"]) (js:=[]) (show b5 (aE jV) ["_law_deeds","_law_cards_here","_law_deed","_law_some","_law_card"] _ 1 ["_law_x"] []from b5.mk U (by decide +kernel) (by decide +kernel) (by decide +kernel) U (by decide +kernel)) U (bJ (aG (a8 (aj ar (pq 2) af Oy) (a8 (aj ar (pq 2) af Oy) (a8 (aj ar (pq 2) af Oy) ae))))) (λ_ _ _ _ _=>(aY (i:=0) (show List.Nodup (["_law_x"]:LS)from by decide +kernel) U Oi)) (λ_ _ _ _ _=>(vt (gL (bv (uY (K:=K) U) U T.Hv PyProof.Rows.Boot.«isinstance» (a8 (pq 0) (a8 (oP (v:=.ty "str") U T.vz PyProof.Rows.Boot.«str» rfl) ae)))))) (λ_ _ _ _ _=>(pq 0)))) (aq (aO (aI aZ (aj ar (pq 2) af Oy) av (aP _)) (aq (ax (i:=3) dI.nd U Oi (aG (a8 (aj ar (pq 2) af Oy) (a8 (ay bY (aj ar (pq 2) af Oy) av) ae))))) (aq (aO (aI aZ (aj ar (pq 2) af Oy) av (aP _)) (aq (ax (i:=3) dI.nd U Oi (aG (a8 (aj ar (pq 2) af Oy) (a8 (ay bY (aj ar (pq 2) af Oy) av) ae))))) (aq (aO (aI dN (aj ar (pq 2) af Oy) (aG (a8 av (a8 av ae))) (by with_unfolding_all rfl)) (aq (ax (i:=3) dI.nd U Oi (aG (a8 (aj ar (pq 2) af Oy) (a8 av ae))))) (aq (aO (aI aZ (aj ar (pq 2) af Oy) av (aP _)) (aq (ax (i:=3) dI.nd U Oi (aG ae))) bh)))))))))
  (aq (bO PassesOwn.never U (bJ (pq 3)) (aY (i:=4) dI.nd U Oi)
  (aq (dL (hr.one) (pq 1) (pq 4) iW U)))))))
  (aq (aK (pq 1))))),?_⟩
 walk_at "q";refine λd hd=>?_;have e0:=a9.new hd (.dK []);have d0:upd H d (.dK []) d=some (.dK (tbT [])):=ah;generalize upd H d (.dK [])=H0 at e0 d0 ⊢;exists _,U,S,U,⟨_,SqL.of (e0 _ _ hf)⟩;have a4:=rf.len;refine c9 (K:=K) (a:=S) (xs:=uf) (λi f J=>(∃v2 v3 v4,f=[some (.ref S),some (.ref d),v2,v3,v4])/\J d=some (.dK (tbT (((X.take i).flatMap aa.cards).foldl b7 [])))/\a9 H J) ⟨⟨_,_,_,U⟩,d0,e0⟩ ?_ ?_ ?_
 .rintro i f J _ ⟨_,_,L⟩;exact SqL.of (L _ _ hf)
 .rintro i x f J hx ⟨⟨v2,v3,v4,rfl⟩,M,L⟩;obtain⟨e,he,N⟩:=rf.at i x hx;have il:=(qe.mp he).1;have le:=qy he
  have fin:∀(G:Hp)(lS:Addr)(v4:LB)(D:cJ),(∀f W,((∃v2 v3 v4,f=[some (.ref S),some (.ref d),v2,v3,v4])/\W d=some (.dK (tbT (((X.take (i+1)).flatMap aa.cards).foldl b7 [])))/\a9 H W)->D.nx f W)->a9 J G->G lS=some (.lst (e.cards.map V.str))->
   iC (pQ K (bV 3)) (dD 4) (iM (bV 1) (bV 4) (tC (V.bl true))) D [some (.ref S),some (.ref d),some x,some (.ref lS),v4] G:=λG lS v4 D fin Y hS=>by
   have l1:=(cH ((X.take i).flatMap aa.cards) []).1;have l2:=xT (X.take i);have l3:=xS e;rw[qJ]at l2;simp only[List.length_nil]at l1;refine Do hS (Y _ _ M) Yo λW v4 k2 a5=>fin _ _ ⟨⟨_,_,_,U⟩,?_,λb o h=>k2 b o (λz=>by rw[z,hd]at h;cases h) (Y _ _ (L b o h))⟩;rw[a5,qq,he,qU,List.foldl_append];simp
  obtain⟨t,k,y,r,rfl,ht⟩:=Bl (N.same (sb.trans L));refine⟨_,U,t,_,1,_,U,U,SqT.of ht,yr,ln1,λZ a6=>?_⟩;have C:=a9.new a6 (.lst [y]);have a0:upd J Z (.lst [y]) Z=some (.lst [y]):=ah;generalize upd J Z (.lst [y])=H6 at C a0 ⊢;have ht:=C _ _ ht;exists _,U,t,_,0,_,U,U,SqT.of ht,dY,U,_,U;have N:=N.same ((sb.trans L).trans C)
  cases N with
  |@set _ c p Y g h=>
   cases ht.symm.trans h;walk_at "yes";refine⟨_,U,t,_,1,_,U,U,SqT.of ht,U,_,U,t,_,2,_,U,U,SqT.of ht,U,_,U,t,_,4,_,U,U,SqT.of ht,U,ln3,λu B=>⟨u,U,⟨_,SqL.of ah⟩,?_⟩⟩;have I:=a9.new B (.lst [.str c,p.v,g.v]);have a2:upd H6 u (.lst [.str c,p.v,g.v]) u=some (.lst ([Val.nm c,p,g].map Val.v)):=ah;generalize upd H6 u (.lst [.str c,p.v,g.v])=H7 at I a2 ⊢;refine xV (K:=K) (a:=u) (xs:=[Val.nm c,p,g].map Val.v) (λj ys f K0=>(∃v,f=[v])/\K0=H7/\ys=(([Val.nm c,p,g].take j).flatMap Val.names).map V.str) ⟨⟨_,U⟩,U,U⟩ ?_ (by exact ln3) ?_ ?_ ?_
   .rintro j ys f K0 _ ⟨_,_,rfl⟩;rw[q5]
    have:∀l:List Val,(l.flatMap Val.names).length<=l.length:=λl=>by
     induction l with
     |nil=>exact qd _
     |cons v r _=>
      have:v.names.length<=1:=by cases v<;>simp[Val.names]
      rw[qE,qa,qz];lia
    have:=this ([Val.nm c,p,g].take j);rw[qJ]at this;lia
   .rintro j ys f K0 ⟨_,rfl,_⟩;exact SqL.of a2
   .rintro j z ys f K0 hz ⟨⟨v0,rfl⟩,rfl,rfl⟩;rw[qD]at hz;obtain⟨v,hv,rfl⟩:=qP.mp hz
    have a1:(([Val.nm c,p,g].take (j+1)).flatMap Val.names).map V.str=(([Val.nm c,p,g].take j).flatMap Val.names).map V.str++v.names.map V.str:=by
     rw[qq,hv,Option.toList,qU,qO];simp
    cases v with
    |num n=>
     refine⟨_,U,_,_,_,false,U,.int n,U,_,U,bn U ?_⟩;exact⟨⟨_,U⟩,U,by rw[a1];simp[Val.names]⟩
    |nm y=>
     refine⟨_,U,_,_,_,true,U,.str y,U,_,U,bK U ?_⟩;exact⟨_,U,⟨_,U⟩,U,by rw[a1];rfl⟩
   rintro ys f K0 ⟨_,rfl,rfl⟩ l9 a3;have eR:([Val.nm c,p,g].take ([Val.nm c,p,g].map Val.v).length).flatMap Val.names=(aa.set c p Y g).cards:=by simp[aa.cards,aa.names,aa.others,Val.names]
   rw[eR];exact fin _ l9 _ _ (λ_ _ h=>h) ((C.trans I).trans (a9.new a3 _)) ah
  |@put _ sn c h=>
   cases ht.symm.trans h;walk_at "no";exists _,U,t,_,0,_,U,U,SqT.of ht,U,U,_,U;walk_at "yes";have sl:=st _ le sn c (.inl U);refine⟨_,U,t,_,2,_,U,U,SqT.of ht,U,_,U,t,_,1,_,U,U,SqT.of ht,U,_,_,U,U,aJ (m:=2000) (by show _+1<=_;lia),ln2,λu B=>?_⟩;exact fin _ u _ _ (λ_ _ h=>h) (C.trans (a9.new B _)) ah
  |@get _ sn c h=>
   cases ht.symm.trans h;walk_at "no";exists _,U,t,_,0,_,U,U,SqT.of ht,U,U,_,U;walk_at "no";exists _,U,t,_,0,_,U,U,SqT.of ht,U,U,_,U;walk_at "yes";have sl:=st _ le sn c (.inr U);refine⟨_,U,t,_,2,_,U,U,SqT.of ht,U,_,U,t,_,1,_,U,U,SqT.of ht,U,_,_,U,U,aJ (m:=2000) (by show _+1<=_;lia),ln2,λu B=>?_⟩;exact fin _ u _ _ (λ_ _ h=>h) (C.trans (a9.new B _)) ah
  |_ h=>
   cases ht.symm.trans h;walk_at "no";exists _,U,t,_,0,_,U,U,SqT.of ht,U,U,_,U;walk_at "no";exists _,U,t,_,0,_,U,U,SqT.of ht,U,U,_,U;walk_at "no";refine⟨_,U,t,_,0,_,U,U,SqT.of ht,U,ln2,λu B=>?_⟩;have I:=a9.new B (.lst [.str "give",.str "while"]);exists u,_,U,.inl (SqL.of ah),U,U,_,U;have ht:=I _ _ ht
   first
   |walk_at "yes"
    refine⟨_,U,t,_,1,_,U,U,SqT.of ht,U,ln2,λl8 R=>?_⟩;exact fin _ l8 _ _ (λ_ _ h=>h) ((C.trans I).trans (a9.new R _)) ah
   |walk_at "no"
    exists _,U,t,_,0,_,U,U,SqT.of ht,U,U,_,U
    first
    |walk_at "yes"
     refine⟨qr _,λl8 R=>?_⟩;exact fin _ l8 _ _ (λ_ _ h=>h) ((C.trans I).trans (a9.new R _)) ah
    |walk_at "no"
     exact fin _ Z _ _ (λ_ _ h=>h) (C.trans I) (I _ _ a0)
 .rintro f J ⟨⟨v2,v3,v4,rfl⟩,M,L⟩;rw[a4,qG]at M;exact⟨_,U,q _ d L hd M⟩
theorem wR:∀is:LI,(is.map V.int).all dU=true
 |[]=>rfl
 |i::r=>by rw[qR,List.all_cons,wR r];rfl
theorem wQ(n:Int)(is:LI):inV (.int n) (is.map V.int)=decide (n∈is):=by
 induction is with
 |nil=>rfl
 |cons i r a=>
  show(eqV (.int i) (.int n) || inV (.int n) (r.map V.int))=_;rw[a];by_cases e:i=n
  .simp[eqV,e]
  .simp[eqV,e,Ne.symm e]
theorem fR{is:LI}{k:Nat}{b:Int}(h:is[k]?=some b):atI (is.map V.int) (k:Int)=some (.int b):=gc (by rw[qD,h];rfl)
theorem Da(T:Tx P w K mg a):aF P w K mg base CX0 1 a.IP a.IQ ["_law_part","_law_line"] uh:=by
 refine T.Jo.F.ok mT (by walk_at "l") λI A outer s H vs Q E L h=>?_;obtain⟨v,p,l,bs,rfl,hp,hl,hb,q⟩:=h
 refine⟨_,(ao (aO (aI aZ (aj ar (pq 0) af Oy) av (aP _)) (aq (aK (aG (a8 (aj ar (aj ar (pq 0) af Oy) (bv (FJ U) U T.JD PyProof.Rows.Boot.«min» (a8 (b4 PySem.F.plainAttrs_tuple PySem.F.slot_tuple_index PySem.F.type_tuple_index p8 (aj ar (pq 0) af Oy) (a8 (pq 1) ae)) (a8 (aj ar (aj ar (pq 0) af Oy) (d6 cW af) Oy) ae))) Oy) ae)))) bh)
  (ao (aO (aI aZ (aj ar (pq 0) af Oy) av (aP _)) (aq (aK (aG (a8 (aj ar (aj ar (pq 0) af Oy) af Oy) ae)))) bh)
  (ao (aO (aI aZ (aj ar (pq 0) af Oy) av (aP _)) (ao (ax (i:=2) mT.nd U Oi (b4 PySem.F.plainAttrs_tuple PySem.F.slot_tuple_index PySem.F.type_tuple_index p8 (aj ar (pq 0) af Oy) (a8 (pq 1) ae)))
  (aq (aK (aG (a8 (aj ar (aj ar (pq 0) af Oy) (pq 2) Oy) (a8 (aj ar (aj ar (pq 0) af Oy) (pq 2) Oy) ae)))))) bh)
  (ao (ax (i:=3) mT.nd U Oi (oN (aI dN (pq 1) (aj ar (pq 0) af Oy) (by with_unfolding_all rfl)) (aj ar (pq 0) af Oy) (aj ar (pq 0) af Oy)))
  (aq (aK (aG (a8 (aj ar (aj ar (pq 0) af Oy) (b4 PySem.F.plainAttrs_tuple PySem.F.slot_tuple_index PySem.F.type_tuple_index p8 (pq 3) (a8 (pq 1) ae)) Oy) ae)))))))),?_⟩
 walk_at "q"
 cases p with
 |pas is os rt=>
  obtain⟨u,i,o,r,rfl,hu,hi,g,j⟩:=hp;exists _,U,u,_,0,_,U,U,SqT.of hu,U,U,_,U;walk_at "yes";unfold PtG.bks at hb;split at hb
  .rename_i J G x k e;cases e;obtain⟨b,d,rfl⟩:=qP.mp hb;exists _,U,u,_,1,_,U,U,SqT.of hu,U,_,U,u,_,2,_,U,U,SqT.of hu,U,jv g,_,U,o,_,l,U,U,g,hl;refine⟨_,U,u,_,3,_,U,U,SqT.of hu,U,1,U,r,_,-1,_,U,U,SqT.of j,U,_,_,U,i,_,_,_,U,U,SqT.of hi,?_,ln1,λz hz=>q _ z (a9.new hz _) hz ah⟩;rw[show(if Int.ofNat k<((os.idxOf l:Nat):Int)then Int.ofNat k else((os.idxOf l:Nat):Int))=((min (os.idxOf l) k:Nat):Int)by rw[Int.ofNat_eq_natCast];split<;>lia];exact fR d
  all_goals first|cases hb|cases ‹PtG.pas is os rt=_›
 |wrk is o M x y=>
  obtain⟨u,i,x,y,rfl,hu,hi,_⟩:=hp;obtain⟨b,d,rfl⟩:=qP.mp hb;exists _,U,u,_,0,_,U,U,SqT.of hu,U,U,_,U;walk_at "no";exists _,U,u,_,0,_,U,U,SqT.of hu,U,U,_,U;walk_at "yes";refine⟨_,U,u,_,1,_,U,U,SqT.of hu,U,i,_,0,_,U,U,SqT.of hi,fR d,ln1,λz hz=>q _ z (a9.new hz _) hz ah⟩
 |cho is wh m B t=>
  obtain⟨u,i,o,f,rfl,hu,hi,g,n⟩:=hp;obtain⟨b,d,rfl⟩:=qP.mp hb;exists _,U,u,_,0,_,U,U,SqT.of hu,U,U,_,U;walk_at "no";exists _,U,u,_,0,_,U,U,SqT.of hu,U,U,_,U;walk_at "no";exists _,U,u,_,0,_,U,U,SqT.of hu,U,U,_,U;walk_at "no";exists _,U,_,U,u,_,3,_,U,U,SqT.of hu,U,o,_,U,.inr (SqT.of g),U,wR m,_,U;by_cases hm:l∈m
  .rw[Q0 hm]at d;exact bK (by show inV _ _=_;rw[wQ];exact Q3 hm) ⟨_,U,u,_,3,_,U,U,SqT.of hu,U,_,U,u,_,1,_,U,U,SqT.of hu,U,_,U,jv g,_,U,o,_,l,U,U,g,hm,i,_,_,_,U,U,SqT.of hi,fR d,ln1,λz hz=>q _ z (a9.new hz _) hz ah⟩
  .rw[qZ hm]at d;exact bn (by show inV _ _=_;rw[wQ];exact Q4 hm) ⟨_,U,u,_,4,_,U,U,SqT.of hu,U,_,U,u,_,1,_,U,U,SqT.of hu,U,_,U,jv n,_,U,f,_,l,U,U,n,(qg.mp hl).resolve_left hm,i,_,_,_,U,U,SqT.of hi,fR d,ln1,λz hz=>q _ z (a9.new hz _) hz ah⟩
 |mrg t m B C=>
  obtain⟨u,o,f,r,rfl,hu,g,n,j⟩:=hp;obtain⟨b,d,h⟩:=Option.bind_eq_some_iff.mp hb;obtain⟨c,D,rfl⟩:=qP.mp h;exists _,U,u,_,0,_,U,U,SqT.of hu,U,U,_,U;walk_at "no";exists _,U,u,_,0,_,U,U,SqT.of hu,U,U,_,U;walk_at "no";exists _,U,u,_,0,_,U,U,SqT.of hu,U,U,_,U;walk_at "yes";exists _,U,u,_,4,_,U,U,SqT.of hu,U,jv j,_,U,r,_,l,U,U,j,hl;exact⟨_,U,u,_,2,_,U,U,SqT.of hu,U,_,U,o,_,_,_,U,U,SqT.of g,fR d,_,U,u,_,3,_,U,U,SqT.of hu,U,_,U,f,_,_,_,U,U,SqT.of n,fR D,ln2,λz hz=>q _ z (a9.new hz _) hz ah⟩
theorem gv4:eF [] [((.inr ("pass":Str):Key),V.int 2),(.inr "work",.int 2),(.inr "choose",.int 3),(.inr "merge",.int 4)]=[(.inr "pass",.int 2),(.inr "work",.int 2),(.inr "choose",.int 3),(.inr "merge",.int 4)]:=by kernel_rfl
theorem pgS(e:a9 H H'){v:V}(h:PgH H v p):PgH H' v p:=h.keep λ_ _=>e _ _
theorem Dn{D:cJ}{t d g:Addr}{G:Hp}{x:V}{v4:LB}{os:LI}(m:G g=some (.tup (os.map V.int)))(hd:G d=some (.dK kvs))(few:kvs.length+os.length<=10000000)
 (fin:∀f v4 c,(∀b o,b≠d->G b=some o->f b=some o)->f d=some (.dK c)->c.length<=kvs.length+os.length->(∀l:Int,aR c (.inl l)=if l∈os then some x else aR kvs (.inl l))->D.nx [some (.ref t),some (.ref d),some x,some (.ref g),v4] f):
 iC (pO K (bV 3)) (dD 4) (iM (bV 1) (bV 4) (bV 2)) D [some (.ref t),some (.ref d),some x,some (.ref g),v4] G:=by
 exists _,U,g,U,⟨_,SqT.of m⟩;have nd:g≠d:=λz=>by rw[z,hd]at m;cases m
 refine EK (K:=K) (a:=g) (xs:=os.map V.int) (λj n f=>∃c,(∃v4,n=[some (.ref t),some (.ref d),some x,some (.ref g),v4])/\(∀b o,b≠d->G b=some o->f b=some o)/\f d=some (.dK c)/\c.length<=kvs.length+j/\∀l:Int,aR c (.inl l)=if l∈os.take j then some x else aR kvs (.inl l)) ⟨kvs,⟨_,U⟩,λ_ _ _ h=>h,hd,qd _,λl=>by simp⟩ ?_ ?_ ?_
 .rintro j n f _ ⟨_,_,i,_⟩;exact SqT.of (i _ _ nd m)
 .rintro j z n f hz ⟨c,⟨v4,rfl⟩,i,k,l2,all⟩;rw[qD]at hz;obtain⟨y,p,rfl⟩:=qP.mp hz;have lt:=(qe.mp p).1;have lp:=j4 c (.inl y) x;refine⟨_,U,_,U,_,U,d,_,U,.inl ⟨_,.inl y,k,U,Nat.lt_of_le_of_lt (show _<=10000000 by lia) (by decide),U⟩,_,⟨_,U⟩,λb o hb h=>by rw[au hb];exact i b o hb h,ah,by lia,λl=>?_⟩;rw[zh,all,qq,p];simp only[qg,Option.toList,qS,Sum.inl.injEq];by_cases e:l=y
  .rw[Q0 e,Q0 (.inr e)]
  .rw[qZ e];simp[e]
 .rintro n f ⟨c,⟨v4,rfl⟩,i,k,l2,all⟩;rw[q5]at l2;rw[q5,qG]at all;exact fin f v4 c i k l2 all
theorem D4(T:Tx P w K mg a):aF P w K mg base CX0 1 a.IR a.IS ["_law_net"] u7:=by
 refine T.Jp.F.ok fJ (by walk_at "l") λ_ A outer s H vs Q E hr h=>?_;obtain⟨t,lp,_,_,ps,Ps,rfl,ht,hp,rp,few,a1,cn,q⟩:=h
 refine⟨_,(ao (ax (i:=1) fJ.nd U Oi gP)
  (ao (bO PassesOwn.never U (bJ (aj ar (pq 0) af Oy)) (aY (i:=2) fJ.nd U Oi)
  (ao (ax (i:=3) fJ.nd U Oi (aj ar (pq 2) (fi hr.one (Cb (ko av af (ko av af (ko av af (ko av af BY)))) U U (List.cons_ne_nil _ _) Yk) (aj ar (pq 2) af Oy) Oy) Oy))
  (ao (aO (aI aZ (aj ar (pq 2) af Oy) av (aP _)) (aq (ax (i:=3) fJ.nd U Oi (aS (a8 (pq 3) ae)))) (aq (aO (aI aZ (aj ar (pq 2) af Oy) av (aP _)) (aq (ax (i:=3) fJ.nd U Oi (ay gQ (pq 3) (aj ar (pq 2) af Oy)))) bh)))
  (aq (bO PassesOwn.never U (oJ (pq 3)) (aY (i:=4) fJ.nd U Oi)
  (aq (dL (hr.one) (pq 1) (pq 4) (pq 2) U)))))))
  (aq (aK (pq 1))))),?_⟩
 walk_at "q";refine λd hd=>?_;have e0:=a9.new hd (.dK []);have d0:upd H d (.dK []) d=some (.dK []):=ah;generalize upd H d (.dK [])=H0 at e0 d0 ⊢;exists _,U,t,_,1,_,U,U,SqT.of (e0 _ _ ht),U,lp,U,⟨_,SqL.of (e0 _ _ hp)⟩;refine c9 (K:=K) (a:=lp) (xs:=ps) (λi n c=>∃kvs,(∃v2 v3 v4,n=[some (.ref t),some (.ref d),v2,v3,v4])/\a9 H c/\c d=some (.dK kvs)/\kvs.length<=64 * i/\GvK c kvs (Ps.take i)) ⟨[],⟨_,_,_,U⟩,e0,d0,qr _,λl=>⟨nofun,λp h=>by simp at h⟩⟩ ?_ ?_ ?_
 .rintro i n c _ ⟨_,_,k,_⟩;exact SqL.of (k _ _ hp)
 .rintro i x n c hx ⟨kvs,⟨v2,v3,v4,rfl⟩,k,y,lk,gv⟩;obtain⟨p,g,W⟩:=rp.at hx;have lt:=(qe.mp g).1;have B:=a1 p (qy g)
  have fin:∀(G:Hp)(Y:Addr)(v4:LB)(D:cJ),(∀n j,(∃kvs,(∃v2 v3 v4,n=[some (.ref t),some (.ref d),v2,v3,v4])/\a9 H j/\j d=some (.dK kvs)/\kvs.length<=64 * (i+1)/\GvK j kvs (Ps.take (i+1)))->D.nx n j)->a9 c G->G Y=some (.tup (p.ots.map V.int))->
   iC (pO K (bV 3)) (dD 4) (iM (bV 1) (bV 4) (bV 2)) D [some (.ref t),some (.ref d),some x,some (.ref Y),v4] G:=λG Y v4 D fin N hS=>by
   refine Dn hS (N _ _ y) Yo λj v4 Z k2 a2 l2 all=>fin _ _ ⟨Z,⟨_,_,_,U⟩,λb o h=>k2 b o (λz=>by rw[z,hd]at h;cases h) (N _ _ (k b o h)),a2,Yo,λl=>?_⟩;have tk:TK c j:=λb xs h=>k2 b _ (λz=>by rw[z,y]at h;cases h) (N _ _ h);have a4:TK H j:=λb xs h=>tk b xs (k _ _ h);rw[all,qq,g];refine⟨λv h=>?_,λK0 a0 hl=>?_⟩
   .split at h
    .cases h;exact⟨p,qH _ (by simp),by assumption,W.keep a4⟩
    .obtain⟨K0,h1,h2,h3⟩:=(gv l).1 v h;exact⟨K0,qV _ h1,h2,h3.keep tk⟩
   .split
    .rfl
    .rcases qg.mp a0 with h|h
     .exact(gv l).2 K0 h hl
     .cases(by simpa using h:K0=p)
      contradiction
  refine⟨_,U,λe a3=>⟨ah,[(.inr "pass",.int 2),(.inr "work",.int 2),(.inr "choose",.int 3),(.inr "merge",.int 4)],U,Yk,?_⟩⟩
  have C:a9 c (upd (upd c e (.dK [])) e (.dK (eF [] [(.inr "pass",.int 2),(.inr "work",.int 2),(.inr "choose",.int 3),(.inr "merge",.int 4)]))):=by
   rw[zj];exact a9.new a3 _
  have J:upd (upd c e (.dK [])) e (.dK (eF [] [(.inr "pass",.int 2),(.inr "work",.int 2),(.inr "choose",.int 3),(.inr "merge",.int 4)])) e=some (.dK [(.inr "pass",.int 2),(.inr "work",.int 2),(.inr "choose",.int 3),(.inr "merge",.int 4)]):=by rw[ah,gv4]
  generalize upd (upd c e (.dK [])) e (.dK (eF [] [(.inr "pass",.int 2),(.inr "work",.int 2),(.inr "choose",.int 3),(.inr "merge",.int 4)]))=H6 at C J ⊢;have L:=pgS (k.trans C) W
  cases p with
  |pas is os rt=>
   obtain⟨u,i',o,r,rfl,hu,hi,M,R⟩:=L;exists _,U,u,_,0,_,U,U,SqT.of hu,U,e,_,U,.inl ⟨_,.inr "pass",.inl J,U,show some _=_ by kernel_rfl⟩,u,_,2,_,U,U,SqT.of hu,U;exists _,U,u,_,0,_,U,U,SqT.of hu,U,U,_,U;walk_at "no";exists _,U,u,_,0,_,U,U,SqT.of hu,U,U,_,U;walk_at "no";exact fin _ o _ _ (λ_ _ h=>h) C M
  |wrk is o N l r=>
   obtain⟨u,i',_,_,rfl,hu,_⟩:=L;exists _,U,u,_,0,_,U,U,SqT.of hu,U,e,_,U,.inl ⟨_,.inr "work",.inl J,U,show some _=_ by kernel_rfl⟩,u,_,2,_,U,U,SqT.of hu,U;exists _,U,u,_,0,_,U,U,SqT.of hu,U,U,_,U;walk_at "yes";refine⟨_,U,ln1,λp1 I=>?_⟩;exact fin _ p1 _ _ (λ_ _ h=>h) (C.trans (a9.new I _)) ah
  |cho is wh S X tt=>
   obtain⟨u,i',o,f,rfl,hu,hi,M,hf⟩:=L;have B:(S++X).length<=64:=B;rw[qa]at B;exists _,U,u,_,0,_,U,U,SqT.of hu,U,e,_,U,.inl ⟨_,.inr "choose",.inl J,U,show some _=_ by kernel_rfl⟩,u,_,3,_,U,U,SqT.of hu,U;exists _,U,u,_,0,_,U,U,SqT.of hu,U,U,_,U;walk_at "no";exists _,U,u,_,0,_,U,U,SqT.of hu,U,U,_,U;walk_at "yes";refine⟨_,U,_,U,u,_,4,_,U,U,SqT.of hu,U,o,f,_,_,U,U,SqT.of M,SqT.of hf,λz=>(cn _ (qy g) _ _ _ _ _ U).1 (List.map_eq_nil_iff.mp z),aJ (m:=64) (by rw[q5,q5];exact B),λz=>Q5 (List.map_eq_nil_iff.mp z) (cn _ (qy g) _ _ _ _ _ U).2,λ_ p1 I=>?_⟩;exact fin _ p1 _ _ (λ_ _ h=>h) (C.trans (a9.new I _)) (by rw[ah,<- qO];rfl)
  |mrg tt S X _=>
   obtain⟨u,o,f,r,rfl,hu,M,hf,R⟩:=L;exists _,U,u,_,0,_,U,U,SqT.of hu,U,e,_,U,.inl ⟨_,.inr "merge",.inl J,U,show some _=_ by kernel_rfl⟩,u,_,4,_,U,U,SqT.of hu,U;exists _,U,u,_,0,_,U,U,SqT.of hu,U,U,_,U;walk_at "no";exists _,U,u,_,0,_,U,U,SqT.of hu,U,U,_,U;walk_at "no";exact fin _ r _ _ (λ_ _ h=>h) C R
 .rintro n c ⟨kvs,⟨v2,v3,v4,rfl⟩,k,y,lk,gv⟩;rw[rp.len,qG]at gv;exact⟨_,U,q _ d kvs k hd y gv⟩
theorem rB(l:Int):aR (clK D L) (.inl l)=if l∈L then some (.str ((hue D l).getD ""))else none:=by
 induction L with
 |nil=>rfl
 |cons m r a=>
  by_cases e:m=l
  .subst e;rw[Q0 qk];exact cL U
  .rw[show clK D (m::r)=(.inl m,.str ((hue D m).getD ""))::clK D r from rfl,cD λz=>e (Sum.inl.inj z),a];simp[Ne.symm e]
theorem y2:(clK D L).length=L.length:=q5 _
theorem Af{f:aN}(f0:∀k,k∉ks->f k=0)(z:Str):(aR (stK f ks) (.inr z)).getD (.int 0)=.int (f z):=by
 have a:∀r:LS,aR (stK f r) (.inr z)=if z∈r then some (.int (f z))else none:=λr=>by
  induction r with
  |nil=>rfl
  |cons k r b=>
   by_cases e:k=z
   .subst e;rw[Q0 qk];exact cL U
   .rw[show stK f (k::r)=(.inr k,.int (f k))::stK f r from rfl,cD λh=>e (Sum.inr.inj h),b];simp[Ne.symm e]
 rw[a];split
 .rfl
 .rw[f0 z (by assumption)]
  rfl
noncomputable def muV(n:Nat)(d:Addr)(O:St)(G:Hp):Nat:=match O with
 |[_,_,_,_,_,_,_,_,some (.ref lt),_]=>(match G d,G lt with|some (.dK k),some (.lst x)=>3 * (n-k.length)+x.length|_,_=>0)
 |_=>0
theorem kG{n:Nat}{d lt:Addr}{G:Hp}{td:LI}{v0 v1 v2 v3 v4 v5 v6 v7 v9:LB}(hd:G d=some (.dK (clK D L)))(ht:G lt=some (.lst (td.map V.int))):muV n d [v0,v1,v2,v3,v4,v5,v6,v7,some (.ref lt),v9] G=3 * (n-L.length)+td.length:=by
 show(match G d,G lt with|some (.dK k),some (.lst x)=>3 * (n-k.length)+x.length|_,_=>0)=_;rw[hd,ht];show 3 * (n-(clK D L).length)+(td.map V.int).length=_;rw[y2,q5]
theorem D7(T:Tx P w K mg a):aF P w K mg base CX0 5 a.IT a.IU ["_law_net","_law_givers_here","_law_cards_here","_law_starts"] uc:=by
 refine T.Jq.F.ok eB (by walk_at "l") λ_ A outer s H vs Q E hr h=>?_;obtain⟨t,ll,lp,dg,lz,ds,kg,D,zs,N,f,_,_,rfl,B,C,q⟩:=h
 refine⟨_,(ao (ax (i:=4) eB.nd U Oi gP)
  (ao (bO PassesOwn.never U (kt U T.GQ (a8 (pq 2) (a8 (aj ar (aj bR (aj ar (pq 0) af Oy) (d6 cW af) Oy) af Oy) ae))) (gO U (cZ (aY (i:=5) eB.nd U Oi) (cZ (aY (i:=6) eB.nd U Oi) gN)))
  (ao (ax (i:=7) eB.nd U Oi (aG ae))
  (ao (ax (i:=8) eB.nd U Oi (aG (a8 (pq 6) ae)))
  (ao (BV PassesOwn.never (BS (pq 8) (by intro _;rfl)) (ao (ax (i:=9) eB.nd U Oi (kz qf PySem.F.slot_list_pop PySem.F.type_list_pop kH (pq 8)))
  (ao (aO (PW.pt (dJ (aI oQ (pq 9) (pq 4) (by with_unfolding_all rfl)) (f7 (aI uX (fi hr.one (pq 4) (pq 9) Oy) (pq 5) (aP _))))) (aq (aK iU)) bh)
  (aq (aO (aI Cp (pq 9) (pq 4) (by with_unfolding_all rfl)) (ao (dL (hr.one) (pq 4) (pq 9) (pq 5) U)
  (aq (aO (aI oQ (pq 9) (pq 1) (by with_unfolding_all rfl)) (aq (ax (i:=8) eB.nd U Oi (ay cQ (pq 8) (aD (Da T) (hr.mono Yk) T.Jo (a8 (fi hr.one (pq 1) (pq 9) Oy) (a8 (pq 9) ae)))))) (aq (ax (i:=7) eB.nd U Oi (ay cQ (pq 7) (bF ou U T.GO PyProof.Rows.Boot.«list» (a8 (aj ar (aj bR (aj ar (pq 0) af Oy) (pq 9) Oy) af Oy) ae)))))))) bh)))))
  (aq (aO (aI (Cq hr.units) (pq 7) (aG (a8 (oO hr.one (pq 3) (pq 5) af ⟨U,U,U,U⟩) ae)) (aP _)) (aq (aK iU)) bh))))))
  (aq (aK (pq 4))))),?_⟩
 walk_at "q";obtain⟨_,ht⟩:=B.ht;obtain⟨_,b0,rl⟩:=B.hl;obtain⟨ps,a',rp⟩:=B.hp;refine λd hd=>?_;have e0:=a9.new hd (.dK []);have d0:upd H d (.dK []) d=some (.dK (clK D [])):=ah;generalize upd H d (.dK [])=H0 at e0 d0 ⊢;obtain⟨_,_,rfl,_,u,i,o,r,rfl,hu,hi,_⟩:=rp.snoc;exists _,U,_,U,t,_,1,_,U,U,SqT.of (e0 _ _ ht),U,1,U,lp,_,-1,_,U,U,SqL.of (e0 _ _ a'),yp _ _,u,_,1,_,U,U,SqT.of (e0 _ _ hu),U,false,true,lz,i,_,_,U,SqL.of (e0 _ _ B.hz),SqT.of (e0 _ _ hi);refine lC (K:=K) (b1:=false) (b2:=true) (l1:=lz) (l2:=i) (xs:=zs.map V.str) (ys:=(zs.map N.fc).map V.int) (λj O G=>∃v5 v6 v7 v8 v9 L,O=[some (.ref t),some (.ref dg),some (.ref lz),some (.ref ds),some (.ref d),v5,v6,v7,v8,v9]/\a9 H G/\G d=some (.dK (clK D L))/\L.Nodup/\∀l,l∈L↔∃y∈zs.take j,hue D l=some y) ⟨_,_,_,_,_,[],U,e0,d0,List.nodup_nil,λl=>by simp⟩ ?_ ?_ ?_
 .rintro j O G ⟨_,_,_,_,_,_,_,R,_⟩;exact⟨SqL.of (R _ _ B.hz),SqT.of (R _ _ hi)⟩
 .rintro j x y O G p hx M ⟨v5,v6,v7,v8,v9,L,rfl,R,K0,nd,mem⟩ np;rw[qD]at hx M;obtain⟨z,hz,rfl⟩:=qP.mp hx;rw[qD,hz]at M;obtain⟨_,h,rfl⟩:=qP.mp M;cases h;have a4:=qy hz;have iz:zs.idxOf z=j:=kW B.nd hz;have la:=C.la z a4;exists p,_,U,SqT.of ah,U,_,_,U,_,_,U,U;have e1:=a9.new np (.tup [.str z,.int (N.fc z)]);refine⟨qr _,λI a6=>?_⟩;have e2:=a9.new a6 (.lst []);refine⟨_,U,ln1,λlt a1=>?_⟩;have e3:=a9.new a1 (.lst [.int (N.fc z)]);have s3:=R.trans ((e1.trans e2).trans e3);have d3:=((e1.trans e2).trans e3) _ _ K0;have f3:=e3 _ _ (ah (a:=I) (o:=.lst []) (H:=upd G p (.tup [.str z,.int (N.fc z)])));have t3:=ah (a:=lt) (o:=.lst [.int (N.fc z)]) (H:=upd (upd G p (.tup [.str z,.int (N.fc z)])) I (.lst []));have nf:=a9.none (R.trans e1) a6;have nt:=a9.none (R.trans (e1.trans e2)) a1;have ne:I≠lt:=λz=>by rw[<- z,ah]at a1;cases a1
  generalize upd (upd (upd G p (.tup [.str z,.int (N.fc z)])) I (.lst [])) lt (.lst [.int (N.fc z)])=G3 at s3 d3 f3 t3 ⊢
  have w0:Wlk D zs N j z L [N.fc z]:=⟨nd,λl hl=>by
   obtain⟨y,M,e⟩:=(mem l).mp hl
   exact⟨y,List.take_subset_take_left _ (Nat.le_succ j) M,e⟩,λl y M e=>(mem l).mpr ⟨y,M,e⟩,λl hl=>qS.mp hl▸la,λl hl e p hp ho bs hb b _=>by
   obtain⟨y,M,e'⟩:=(mem l).mp hl;rw[e]at e';cases e'
   exact Q5 M (iu B.nd hz),.inr qk,by show 1<=_;lia⟩
  have fr:((3+j:Nat):Int)∉L:=λhl=>by
   obtain⟨y,M,e⟩:=(mem _).mp hl;rw[<- iz,(C.fst z a4).1]at e;cases e;exact iu B.nd hz M
  dsimp only[dD,iA];refine yZ (λO G=>∃I lt v9 L Y,O=[some (.ref t),some (.ref dg),some (.ref lz),some (.ref ds),some (.ref d),some (.str z),some (.int (N.fc z)),some (.ref I),some (.ref lt),v9]/\a9 H G/\I≠lt/\H I=none/\H lt=none/\G d=some (.dK (clK D L))/\G lt=some (.lst (Y.map V.int))/\G I=some (.lst (if((3+j:Nat):Int)∈L then[.int (f z)]else[]))/\Wlk D zs N j z L Y) (muV N.n d) ⟨I,lt,_,L,[N.fc z],U,s3,ne,nf,nt,d3,t3,by rwa[qZ fr],w0⟩ ?_ ?_
  .rintro O G ⟨I,lt,v9,L,Y,rfl,R,ne,nf,nt,K0,Z,a3,W⟩;have wl:=W.len C;have tl:=W.ln;have nn:=B.nn;exists _,U,_,.inl ⟨_,SqL.of Z,U⟩;by_cases e:Y=[]
   .subst e;refine bn U ?_;have b8:((3+j:Nat):Int)∈L:=iz▸W.all C _ (C.fst z a4).1;rw[Q0 b8]at a3;have a5:=R _ _ B.hd;refine⟨_,U,_,U,ds,U,.inl ⟨_,.inl a5⟩,_,U,_,.inl ⟨_,.inr z,.inl a5,U,U⟩,ln1,λl9 J=>?_⟩;rw[Af B.f0];have X:=a9.new J (.lst [.int (f z)]);refine⟨_,_,.lst (SqL.of (X _ _ a3)) (pM [f z]),.lst (SqL.of ah) (pM [f z]),mK [f z],mK [f z],_,U,bn (by rw[SeqAt.eqv_refl _ (SeqAt.canLay_of_shaped (mK [f z]))];rfl) ?_⟩;refine⟨_,_,_,_,_,L,U,R.trans X,X _ _ K0,W.nd,λl=>⟨W.hu l,λ⟨y,M,e⟩=>?_⟩⟩;rw[qq,hz]at M;rcases qg.mp M with h|h
    .exact W.old l y h e
    .cases(by simpa using h:y=z);exact W.all C l e
   .obtain⟨g,l,rfl⟩:∃r x,Y=r++[x]:=⟨_,_,(List.dropLast_concat_getLast e).symm⟩;refine bK (by simp) ?_;have a0:=W.td l (qH _ qk);refine⟨_,U,.inl ⟨U,_,SqL.of Z⟩,lt,_,.int l,U,U,Z,by simp,?_⟩;rw[show((g++[l]).map V.int).dropLast=g.map V.int by simp];have dl:d≠lt:=λz=>by rw[<- z,K0]at Z;cases Z
    have s1:a9 H (upd G lt (.lst (g.map V.int))):=a9.over R nt;have d1:upd G lt (.lst (g.map V.int)) d=some (.dK (clK D L)):=by rw[au dl];exact K0
    have f1:upd G lt (.lst (g.map V.int)) I=some (.lst (if((3+j:Nat):Int)∈L then[.int (f z)]else[])):=by rwa[au ne]
    have t1:upd G lt (.lst (g.map V.int)) lt=some (.lst (g.map V.int)):=ah;have mu:=kG (n:=N.n) (v0:=some (.ref t)) (v1:=some (.ref dg)) (v2:=some (.ref lz)) (v3:=some (.ref ds)) (v4:=some (.ref d)) (v5:=some (.str z)) (v6:=some (.int (N.fc z))) (v7:=some (.ref I)) (v9:=v9) K0 Z;rw[qa,Q7]at mu;generalize upd G lt (.lst (g.map V.int))=G1 at s1 d1 f1 t1 ⊢;exists _,U,_,U,d,_,.inl l,U,d1,U,_,U;by_cases hl:l∈L
    .have val:aR (clK D L) (.inl l)=some (.str z):=by rw[rB,Q0 hl,a0];rfl
     refine bK (by rw[val];rfl) ?_;refine⟨_,U,_,U,d,.str z,U,.inl ⟨_,.inl l,.inl d1,U,val.symm⟩,_,U,U,_,U,bn (by simp) ?_⟩;refine⟨_,U,_,U,d,_,.inl l,U,d1,U,_,U,bn (by rw[val];rfl) ?_⟩;exists ⟨I,lt,_,L,g,U,s1,ne,nf,nt,d1,t1,f1,W.seen hl⟩;rw[mu];exact Nat.lt_of_le_of_lt (Nat.le_of_eq (kG d1 t1)) Yo
    .have val:aR (clK D L) (.inl l)=none:=by rw[rB,qZ hl]
     refine bn (by rw[val];rfl) ?_;refine⟨_,U,_,U,d,_,.inl l,U,d1,U,_,U,bK (by rw[val];rfl) ?_⟩;exists _,U,_,U,_,U,d,_,U,.inl ⟨_,.inl l,d1,U,Nat.lt_of_le_of_lt (show _<=70000 by rw[y2];lia) (by decide),U⟩
     have ek:aU (clK D L) (.inl l) (.str z)=clK D (L++[l]):=by
      rw[ki _ val];unfold clK;rw[qO,List.map_singleton,a0]
      rfl
     have S:a9 H (upd G1 d (.dK (aU (clK D L) (.inl l) (.str z)))):=a9.over s1 hd;have d2:upd G1 d (.dK (aU (clK D L) (.inl l) (.str z))) d=some (.dK (clK D (L++[l]))):=by rw[ah,ek]
     have f2:upd G1 d (.dK (aU (clK D L) (.inl l) (.str z))) I=some (.lst (if((3+j:Nat):Int)∈L then[.int (f z)]else[])):=by rw[au λz=>by rw[z,d1]at f1;cases f1];exact f1
     have t2:upd G1 d (.dK (aU (clK D L) (.inl l) (.str z))) lt=some (.lst (g.map V.int)):=by rwa[au dl.symm]
     generalize upd G1 d (.dK (aU (clK D L) (.inl l) (.str z)))=G2 at S d2 f2 t2 ⊢;have l3:=(C.no l (by rw[a0];simp)).1;exists _,U,_,U,dg,_,.inl l,U,S _ _ B.hg,U,_,U
     cases hv:aR kg (.inl l)with
     |some v=>
      refine bK U ?_;obtain⟨p,hp,ho,hP⟩:=(B.gv l).1 v hv;obtain⟨bs,hb,all⟩:=((C.fit p hp).1 l ho).2 z a0;have b2:=FQ hb
      have W':=W.more hl hz bs b2 all λp' b3 b4=>by
       rwa[<- ((C.fit p' b3).1 l b4).1 Yo,((C.fit p hp).1 l ho).1 Yo]
      have a2:=W'.len C;rw[qa,Q7]at a2;refine⟨_,U,_,U,_,U,dg,v,U,.inl ⟨_,.inl l,.inl (S _ _ B.hg),U,hv.symm⟩,_,U,v,p,l,bs,U,pgS S hP,ho,hb,λG3 b s3 _ b6=>?_⟩;refine⟨lt,b,_,_,U,U,SqL.of (s3 _ _ t2),SqL.of b6,aJ (m:=200000) (by rw[qa,Q7]at tl;rw[q5,q5];lia),λl9 J=>?_⟩;have X:=a9.new J (.lst (g.map V.int++bs.map V.int));have n3:((3+j:Nat):Int)≠l:=λz=>C.dm j (qe.mp hz).1 p hp (z▸ho);have t9:upd G3 l9 (.lst (g.map V.int++bs.map V.int)) l9=some (.lst ((g++bs).map V.int)):=by rw[ah,qO]
      have d9:=X _ _ (s3 _ _ d2);refine⟨⟨I,l9,_,L++[l],g++bs,U,S.trans (s3.trans X),λz=>?_,nf,a9.none (S.trans s3) J,d9,t9,?_,W'⟩,?_⟩
      .rw[<- z,s3 _ _ f2]at J;cases J
      .rw[X _ _ (s3 _ _ f2)];by_cases c:((3+j:Nat):Int)∈L
       .rw[Q0 c,Q0 (qV _ c)]
       .rw[qZ c,qZ λh=>(qg.mp h).elim c λh=>n3 (qS.mp h)]
      .rw[mu];refine Nat.lt_of_le_of_lt (Nat.le_of_eq (kG d9 t9)) ?_;rw[qa,qa,Q7];lia
     |none=>
      refine bn U ?_
      have el:l=((3+j:Nat):Int):=iz▸((C.way l z a0).2.2.resolve_right λ⟨p,hp,ho⟩=>by
       have:=(B.gv l).2 p hp ho;rw[hv]at this
       cases this)
      have W':=W.more hl hz [] Yk (by simp) λp hp ho=>Q5 ((B.gv l).2 p hp ho) (by rw[hv];simp);have a2:=W'.len C;rw[qa,Q7]at a2;rw[qw]at W';obtain⟨_,c0,b9⟩:=B.on j z hz;obtain⟨_,b',u',f',rfl,b7,a7⟩:=rl.get c0;rw[b9]at a7;refine⟨_,U,_,U,t,_,0,_,U,U,SqT.of (S _ _ ht),U,_,U,ll,_,l,_,U,U,SqL.of (S _ _ b0),by rw[el];exact gc b',u',_,1,_,U,U,SqT.of (S _ _ b7),U,f',_,U,.inr (SqT.of (S _ _ a7)),λl8 b5=>?_⟩;have e8:=a9.new b5 (.lst [.int (f z)]);have nl:((3+j:Nat):Int)∉L:=el▸hl;rw[qZ nl]at f2;refine⟨I,l8,_,_,U,U,SqL.of (e8 _ _ f2),SqL.of ah,aJ (m:=10) (by show 0+1<=10;decide),λl9 J=>?_⟩;have X:=e8.trans (a9.new J (.lst ([]++[.int (f z)])));have t9:=X _ _ t2;have d9:=X _ _ d2;refine⟨⟨l9,lt,_,L++[l],g,U,S.trans X,λz=>?_,a9.none (S.trans e8) J,nt,d9,t9,?_,W'⟩,?_⟩
      .have h:=e8 _ _ t2;rw[<- z]at h;exact nomatch h.symm.trans J
      .rw[ah,Q0 (qH _ (qS.mpr el.symm))]
       rfl
      .rw[mu];refine Nat.lt_of_le_of_lt (Nat.le_of_eq (kG d9 t9)) ?_;rw[qa,Q7];lia
  .exact λO G Q _ imp ⟨x,hx,k,tv,q⟩=>⟨x,hx,k,tv,imp _ _ q⟩
 .rintro O G ⟨v5,v6,v7,v8,v9,L,rfl,R,K0,nd,mem⟩;rw[q5,q5,q5,Nat.min_self,qG]at mem;refine⟨_,U,q _ d L R hd K0 λl=>⟨λh=>?_,λh=>?_⟩⟩
  .obtain⟨y,_,e⟩:=(mem l).mp h;rw[e];simp
  .cases e:hue D l with
   |none=>exact Q5 e h
   |some z=>exact(mem l).mpr ⟨z,(C.way l z e).1,e⟩
theorem vU(T:Tx P w K mg a):aF P w K mg base CX0 1 a.IV a.IW ["_law_side_here","_law_part","_law_colours","_law_givers_here"] tV:=by
 refine T.Hu.F.ok mR (by walk_at "l") λ_ A outer s H vs Q E t h=>?_;obtain⟨v,_,dc,K0,kc,J,D,sd,is,o,_,l,r,ps,x,rfl,B,hp,G,hg,co,gv,fit,M,i0,I,N,q⟩:=h
 refine⟨_,(ao (aO (aI aZ (aj ar (pq 0) af Oy) av (aP _)) (aq (aK (bF rF U T.vz PyProof.Rows.Boot.«str» (a8 (aj ar (pq 0) af Oy) ae)))) bh)
  (ao (ax (i:=4) mR.nd U Oi (aj ar (aj ar (pq 1) af Oy) (aj ar (pq 0) af Oy) Oy))
  (ao (aO (aI kf (aj ar (pq 0) af Oy) af (aP _)) (aq (ax (i:=4) mR.nd U Oi (aj ar (aj ar (fi t.one (pq 3) (pq 4) Oy) af Oy) af Oy))) bh)
  (aq (aK (fi t.one (pq 2) (pq 4) Oy)))))),?_⟩
 walk_at "q";obtain⟨u,i,_,_,rfl,hu,hi,_⟩:=hp
 cases sd with
 |«at» k=>
  obtain⟨us,rfl,d⟩:=B;exists _,U,us,_,0,_,U,U,SqT.of d,U,U,_,U;walk_at "no"
  obtain⟨m,rfl⟩:∃m:Nat,k=m:=by
   rcases M with rfl|⟨_,_,_,_,h,_⟩
   .exact⟨0,U⟩
   .exact⟨k.toNat,Yo⟩
  obtain⟨c,g,fin⟩:∃c,is[m]?=some c/\if(m:Int)=0 then c=is.headD 0 else ∃v p,aR J (.inl c)=some v/\PgH H v p/\∃a w,p=.pas [a] w [0,0]/\hue D a≠none/\(D c).2=p:=by
   rcases M with h|⟨c,a,w,y,h,V,S,h3,R,W⟩
   .cases is with
    |nil=>exact Q5 U i0
    |cons b is=>exact⟨b,by rw[show m=0 by lia];rfl,by rw[Q0 h];rfl⟩
   .exists c,V;rw[qZ Yo];have:=(gv c).2 _ R h3
    cases f:aR J (.inl c)with
    |none=>rw[f]at this;cases this
    |some v=>
     obtain⟨p,hp,X,j⟩:=(gv c).1 v f;have e:=((fit p hp) c X).1 h.2;exact⟨v,p,U,j,a,w,e.symm.trans S,by rw[W];simp,e⟩
  exists _,U,u,_,1,_,U,U,SqT.of hu,U,_,U,us,_,1,_,U,U,SqT.of d,U,i,_,m,_,U,U,SqT.of hi,fR g;exists _,U,us,_,1,_,U,U,SqT.of d,U,_,_,U,U,_,U;have tx:∀b y,hue D b=some y->aR kc (.inl b)=some (.str y):=λb y h=>by rw[co b,h];rfl
  by_cases z:(m:Int)=0
  .rw[Q0 z]at fin;subst fin;refine bn (Q4 Yo) ?_;exists _,U,_,U,dc,.str x,U,.inl ⟨_,.inl _,.inl G,U,(tx _ _ I).symm⟩;have:Sd.txt D is (.at (m:Int))=x:=by rw[Sd.txt,Q0 z,I];rfl
   rwa[<- this]
  .rw[qZ z]at fin;obtain⟨v,p,f,j,b,w,rfl,hb,e⟩:=fin;obtain⟨Y,Z,_,_,rfl,L,C,_⟩:=j;refine bK (Q3 Yo) ?_
   cases hy:hue D b with
   |none=>exact Q5 hy hb
   |some y=>
    exists _,U,_,U,K0,_,U,.inl ⟨_,.inl c,.inl hg,U,f.symm⟩,Y,_,1,_,U,U,SqT.of L,U,Z,_,0,_,U,U,SqT.of C,U;exists _,U,_,U,dc,.str y,U,.inl ⟨_,.inl b,.inl G,U,(tx _ _ hy).symm⟩
    have:Sd.txt D is (.at (m:Int))=y:=by
     rw[Sd.txt,qZ z,qX,qi,g];show(hue D ((D c).2.in0)).getD ""=y;rw[e];show(hue D b).getD ""=y;rw[hy]
     rfl
    rwa[<- this]
 |is n=>
  obtain⟨us,rfl,d⟩:=B;exists _,U,us,_,0,_,U,U,SqT.of d,U,U,_,U;walk_at "yes";refine⟨_,U,us,_,1,_,U,U,SqT.of d,U,n,U,j0 N,q⟩
theorem i8{k:Str}{n:Int}(h:H l=some (.lst [.str k,.int n])):Dt K H (.ref l) (.list [.str k,.int n]):=.lst (SqL.of h) (.cons (.str _) (.cons (.int _) .nil))
theorem uD{v:V}{d:Sd}(h:SdH H v d):∃(u:Addr)(k:Str)(n:Int),v=.ref u/\H u=some (.tup [.str k,.int n])/\(k="in"\/k="is")/\d.lst=(PyData.list [.str k,.int n]).shown/\(SdB d->n.natAbs<2 ^ 1000):=by
 cases d with
 |«at» i=>obtain⟨u,rfl,h⟩:=h;exact⟨u,_,i,U,h,.inl U,U,λh=>h⟩
 |is i=>obtain⟨u,rfl,h⟩:=h;exact⟨u,_,i,U,h,.inr U,U,λh=>h⟩
theorem gZ{k:Str}{n:Int}(hk:k="in"\/k="is")(h:n.natAbs<2 ^ 1000):(PyData.list [.str k,.int n]).shown.length<=3000/\(PyData.list [.str k,.int n]).showable=true/\(PyData.list [.str k,.int n]).hasDict=false/\(PyData.list [.str k,.int n]).depth<=100:=by
 have:=oY h;have hl:=j0 h;refine⟨?_,by simp[PyData.showable,PyData.showableAll,hl],U,by simp[PyData.depth,PyData.depthAll]⟩;have r:(PySem.reprText k).length=4:=by rcases hk with rfl|rfl<;>decide +kernel
 show((("[":Str)++("":Str)++PySem.reprText k++(", ":Str)++Str.ofString (toString n))++("]":Str)).length<=3000;simp only[dZ,r];show 1+0+4+2+_+1<=3000;lia
theorem kR{z:Str}{m:Nat}:∀{ws:LS},(∀w∈ws,w.length+z.length<=m)->(Str.join z ws).length<=m * ws.length
 |[],_=>qr _
 |[w],h=>by
  have:=h w qk;show w.length<=m * 1;lia
 |w::v::r,h=>by
  have c:=h w qk;have a:=kR (ws:=v::r) λx b=>h x (qj _ b);show(w++z++Str.join z (v::r)).length<=m * (r.length+1+1);rw[dZ,dZ,Nat.mul_add m];rw[qz]at a;lia
theorem gvS(e:a9 H H'){d:LN}{f:LR}(gv:GvK H d f):GvK H' d f:=λl=>⟨λv h=>by
 obtain⟨p,a,b,c⟩:=(gv l).1 v h
 exact⟨p,a,b,pgS e c⟩,(gv l).2⟩
theorem sE(cl:∀l z,hue D l=some z->z.length<=1000){is:LI}{d:Sd}(h:SdB d):(d.txt D is).length<=1921:=by
 cases d with
 |«at» k=>
  show((hue D _).getD "").length<=1921;generalize (if k=0 then is.headD 0 else _)=b
  cases e:hue D b with
  |none=>show 0<=1921;decide
  |some z=>have:=cl _ _ e;show z.length<=1921;lia
 |is n=>exact oY h
theorem D5(T:Tx P w K mg a):aF P w K mg base CX0 5 a.IX a.IY ["_law_net","_law_colours","_law_givers_here"] ua:=by
 refine T.Jr.F.ok gH (by walk_at "l") λ_ A outer s H vs Q E J h=>?_;obtain⟨t,lp,dc,M,_,_,ps,g,kc,kg,D,W,rfl,ht,hp,rp,L,hc,hg,co,gv,fit,few,cl,q⟩:=h
 refine⟨_,(ao (ax (i:=3) gH.nd U Oi (aG ae))
  (ao (bO PassesOwn.never U (bJ (aj ar (pq 0) af Oy)) (aY (i:=4) gH.nd U Oi)
  (aq (aO (PW.pt (dJ (aI aZ (aj ar (pq 4) af Oy) av (aP _)) (f7 (aI oQ (aj ar (aj ar (pq 4) af Oy) af Oy) (pq 1) (by with_unfolding_all rfl))))) (ao (ax (i:=5) gH.nd U Oi (aD (vU T) (J.mono Yk) T.Hu (a8 (aj ar (pq 4) af Oy) (a8 (pq 4) (a8 (pq 1) (a8 (pq 2) ae))))))
  (ao (ax (i:=6) gH.nd U Oi (aD (vU T) (J.mono Yk) T.Hu (a8 (aj ar (pq 4) af Oy) (a8 (pq 4) (a8 (pq 1) (a8 (pq 2) ae))))))
  (aq (aL (b4 qf qu qv bS (pq 3) (a8 (b4 PySem.F.plainAttrs_str PySem.F.slot_str_join PySem.F.type_str_join gY av (a8 (aG (a8 (fi J.one (pq 1) (aj ar (aj ar (pq 4) af Oy) af Oy) Oy) (a8 av (a8 (pq 5) (a8 (aj ar (pq 4) af Oy) (a8 (pq 6) ae)))))) ae)) ae)))))) (aq (aO (aI aZ (aj ar (pq 4) af Oy) av (aP _)) (aq (aL (b4 qf qu qv bS (pq 3) (a8 (b4 PySem.F.plainAttrs_str PySem.F.slot_str_join PySem.F.type_str_join gY av (a8 (aG (a8 (bF (ig J.gd J.u200) U T.vz PyProof.Rows.Boot.«str» (a8 (bF ou U T.GO PyProof.Rows.Boot.«list» (a8 (aj ar (pq 4) af Oy) ae)) ae)) (a8 (aj ar (pq 4) af Oy) (a8 (bF (ig J.gd J.u200) U T.vz PyProof.Rows.Boot.«str» (a8 (bF ou U T.GO PyProof.Rows.Boot.«list» (a8 (aj ar (pq 4) af Oy) ae)) ae)) ae)))) ae)) ae)))) (aq (aO (aI aZ (aj ar (pq 4) af Oy) av (aP _)) (ao (oH (i:=7) gH.nd U Oi (k:=1) (Nc:=["_law_line","_law_colours"]) (js:=[1]) (show b5 (aE jU) ["_law_net","_law_colours","_law_givers_here","_law_found_here","_law_part","_law_left","_law_right","_law_cards_here"] _ 1 ["_law_line","_law_colours"] [1]from b5.mk U (by decide +kernel) (by decide +kernel) (by decide +kernel) U (by decide +kernel)) U (oJ (aj ar (pq 4) af Oy)) (λ_ _ _ _ _=>(aY (i:=0) (show List.Nodup (["_law_line","_law_colours"]:LS)from by decide +kernel) U Oi)) (λ_ _ _ _ _=>dB) (λ_ _ _ _ _=>(oO J.one (pq 1) (pq 0) av ⟨U,U,U,U⟩)))
  (aq (aL (b4 qf qu qv bS (pq 3) (a8 (ay bY (ay bY (b4 PySem.F.plainAttrs_str PySem.F.slot_str_join PySem.F.type_str_join gY av (a8 (pq 7) ae)) av) (aj bR (pq 7) (aj ar (pq 4) af Oy) Oy)) ae))))) bh)))))))
  (aq (aK (bv (y9 U) U T.wT PyProof.Rows.Boot.«sorted» (a8 (pq 3) ae)))))),?_⟩
 walk_at "q";refine⟨qr _,λf0 b1=>?_⟩;have e0:=a9.new b1 (.lst []);exists _,U,t,_,1,_,U,U,SqT.of (e0 _ _ ht),U,lp,U,⟨_,SqL.of (e0 _ _ hp)⟩;refine c9 (K:=K) (a:=lp) (xs:=ps) (λi B I=>∃v4 v5 v6 v7,B=[some (.ref t),some (.ref dc),some (.ref M),some (.ref f0),v4,v5,v6,v7]/\a9 H I/\I f0=some (.lst ((((g++[W]).take i).filterMap (bq D)).map V.str))) ⟨_,_,_,_,U,e0,ah⟩ ?_ ?_ ?_
 .rintro i B I _ ⟨_,_,_,_,_,d,_⟩;exact SqL.of (d _ _ hp)
 .rintro i x B I hx ⟨v4,v5,v6,v7,rfl,d,c⟩;obtain⟨p,K0,b3⟩:=rp.at hx;have pt:(g++[W]).take (i+1)=(g++[W]).take i++[p]:=by rw[qq,K0];rfl
  have lt:=(qe.mp K0).1;rw[qa,Q7]at lt
  have wl:(((g++[W]).take i).filterMap (bq D)).length<=70000:=by
   have h1:=List.length_filterMap_le (bq D) ((g++[W]).take i);rw[qJ]at h1;lia
  rw[pt,List.filterMap_append];generalize ((g++[W]).take i).filterMap (bq D)=ws at c wl ⊢;have hP:=pgS d b3;have fin:∀(G:Hp)(row:Str),bq D p=some row->a9 I G->∀v4 v5 v6 v7,∃a3 a0 X a2,[some (V.ref t),some (.ref dc),some (.ref M),some (.ref f0),v4,v5,v6,v7]=[some (.ref t),some (.ref dc),some (.ref M),some (.ref f0),a3,a0,X,a2]/\a9 H (upd G f0 (.lst (ws.map V.str++[.str row])))/\upd G f0 (.lst (ws.map V.str++[.str row])) f0=some (.lst ((ws++[p].filterMap (bq D)).map V.str)):=λG row h e v4 v5 v6 v7=>⟨_,_,_,_,U,a9.over (d.trans e) b1,by rw[ah,List.filterMap_cons_some h,qO];rfl⟩;have Z:(ws.map V.str).length<sizeLine:=Nat.lt_of_le_of_lt (show _<=70000 by rwa[q5]) (by decide);have a7:=hP;have plain:bq D p=none->∀v4 v5 v6 v7,∃a3 a0 X a2,[some (V.ref t),some (.ref dc),some (.ref M),some (.ref f0),v4,v5,v6,v7]=[some (.ref t),some (.ref dc),some (.ref M),some (.ref f0),a3,a0,X,a2]/\a9 H I/\I f0=some (.lst ((ws++[p].filterMap (bq D)).map V.str)):=λh v4 v5 v6 v7=>⟨_,_,_,_,U,d,by rwa[List.filterMap_cons_none h,List.filterMap_nil,qw]⟩
  cases p with
  |pas is os rt=>
   obtain⟨u,R,o,r,rfl,hu,_⟩:=hP;exists _,U,u,_,0,_,U,U,SqT.of hu,U,U,_,U;walk_at "no";exists _,U,u,_,0,_,U,U,SqT.of hu,U,U,_,U;walk_at "no";exists _,U,u,_,0,_,U,U,SqT.of hu,U,U,_,U;walk_at "no";exact plain U _ _ _ _
  |mrg tt Y a1 _=>
   obtain⟨u,o,f,r,rfl,hu,_⟩:=hP;exists _,U,u,_,0,_,U,U,SqT.of hu,U,U,_,U;walk_at "no";exists _,U,u,_,0,_,U,U,SqT.of hu,U,U,_,U;walk_at "no";exists _,U,u,_,0,_,U,U,SqT.of hu,U,U,_,U;walk_at "no";exact plain U _ _ _ _
  |wrk is o N l r=>
   have hm:PtG.wrk is o N l r∈g:=by
    rcases qg.mp (qy K0)with h|h
    .exact h
    .rw[<- qS.mp h]at L;cases L
   obtain⟨_,i0,sw,bl,br,sl⟩:=fit _ hm;obtain⟨u,R,x',y',rfl,hu,hi,hl,a5⟩:=hP
   obtain⟨b,is,rfl⟩:∃b r,is=b::r:=by
    cases is with
    |nil=>exact Q5 U i0
    |cons b r=>exact⟨b,r,U⟩
   have n:=d _ _ hc;have b0:=d _ _ hg;exists _,U,u,_,0,_,U,U,SqT.of hu,U,U,_,U;walk_at "yes";exists _,U,u,_,1,_,U,U,SqT.of hu,U,R,_,0,_,U,U,SqT.of hi,dY,_,U,dc,_,.inl b,U,n,U,_,U
   cases hb:hue D b with
   |some y=>
    refine bK (by rw[co,hb];rfl) ?_;obtain⟨w1,w2⟩:=sw y hb;have a':=gvS d gv;have val:aR kc (.inl b)=some (.str y):=by rw[co,hb];rfl
    exists _,U,u,_,4,_,U,U,SqT.of hu,U,_,U,_,U,_,U,x',_,dc,M,kc,kg,D,l,_,o,N,l,r,g,y,U,hl,a7,n,b0,co,a',λp hp=>(fit p hp).1,w1,i0,hb,bl;exists _,U,u,_,5,_,U,U,SqT.of hu,U,_,U,_,U,_,U,y',_,dc,M,kc,kg,D,r,_,o,N,l,r,g,y,U,a5,a7,n,b0,co,a',λp hp=>(fit p hp).1,w2,i0,hb,br;refine⟨_,U,.inl ⟨U,_,SqL.of c⟩,U,_,U,_,U,u,_,1,_,U,U,SqT.of hu,U,R,_,0,_,U,U,SqT.of hi,dY,dc,.str y,U,.inl ⟨_,.inl b,.inl n,U,val.symm⟩,_,U,_,U,u,_,3,_,U,U,SqT.of hu,U,_,U,ln5,λl9 C=>?_⟩;have e9:=a9.new C (.lst ([y,"=",l.txt D (b::is),N,r.txt D (b::is)].map V.str));refine⟨" ",l9,[y,"=",l.txt D (b::is),N,r.txt D (b::is)],U,U,SqL.of ah,hX (m:=2000) (λw hw=>?_) (by show 2000 * 5<=_;decide),f0,_,_,U,U,e9 _ _ c,Z,fin _ _ ?_ e9 _ _ _ _⟩
    .have t1:=sE cl (is:=b::is) bl;have t2:=sE cl (is:=b::is) br;have t3:=cl _ _ hb;simp only[qt,qQ,or_false]at hw;show w.length+1<=2000;rcases hw with rfl|rfl|rfl|rfl|rfl
     .omega
     .decide
     .omega
     .omega
     .omega
    .show some (match hue D b with|some x=>_|none=>_)=_;rw[hb]
   |none=>
    refine bn (by rw[co,hb];rfl) ?_;exists _,U,u,_,0,_,U,U,SqT.of hu,U,U,_,U;walk_at "yes";obtain⟨u1,k1,n1,rfl,h1,b9,c3,c2⟩:=uD hl;obtain⟨u2,k2,n2,rfl,h2,c0,b8,c1⟩:=uD a5;obtain⟨g1,g2,g3,g4⟩:=gZ b9 (c2 bl);obtain⟨m1,m2,m3,m4⟩:=gZ c0 (c1 br);refine⟨_,U,.inl ⟨U,_,SqL.of c⟩,U,_,U,u,_,4,_,U,U,SqT.of hu,U,u1,_,U,.inr (SqT.of h1),λl6 b'=>?_⟩;have e6:=a9.new b' (.lst [.str k1,.int n1]);refine⟨l6,_,U,i8 ah,g2,g3,g4,aJ (m:=3000) g1,_,U,u,_,3,_,U,U,SqT.of (e6 _ _ hu),U,_,U,u,_,5,_,U,U,SqT.of (e6 _ _ hu),U,u2,_,U,.inr (SqT.of (e6 _ _ h2)),λl7 b6=>?_⟩;have e7:=e6.trans (a9.new b6 (.lst [.str k2,.int n2]));refine⟨l7,_,U,i8 ah,m2,m3,m4,aJ (m:=3000) m1,ln3,λl9 C=>?_⟩;have e9:=e7.trans (a9.new C (.lst ([(PyData.list [.str k1,.int n1]).shown,N,(PyData.list [.str k2,.int n2]).shown].map V.str)));refine⟨" ",l9,[(PyData.list [.str k1,.int n1]).shown,N,(PyData.list [.str k2,.int n2]).shown],U,U,SqL.of ah,hX (m:=4000) (λw hw=>?_) (by show 4000 * 3<=_;decide),f0,_,_,U,U,e9 _ _ c,Z,fin _ _ ?_ e9 _ _ _ _⟩
    .simp only[qt,qQ,or_false]at hw;show w.length+1<=4000;rcases hw with rfl|rfl|rfl<;>lia
    .show some (match hue D b with|some x=>_|none=>_)=_;rw[hb,<- c3,<- b8]
  |cho is wh Y a1 tt=>
   obtain⟨u,R,o,f,rfl,hu,hi,_⟩:=hP;exists _,U,u,_,0,_,U,U,SqT.of hu,U,U,_,U;walk_at "no";exists _,U,u,_,0,_,U,U,SqT.of hu,U,U,_,U;walk_at "no";exists _,U,u,_,0,_,U,U,SqT.of hu,U,U,_,U;walk_at "yes";exists _,U,u,_,1,_,U,U,SqT.of hu,U,R,U,⟨_,SqT.of hi⟩
   have hm:PtG.cho is wh Y a1 tt∈g:=by
    rcases qg.mp (qy K0)with h|h
    .exact h
    .rw[<- qS.mp h]at L;cases L
   obtain⟨_,⟨kk,rfl,hk⟩,a6,_⟩:=fit _ hm;have n:=d _ _ hc;refine xU (K:=K) (a:=R) (xs:=is.map V.int) (λj ys B G=>(∃v,B=[v,some (.ref dc)])/\G=I/\ys=((is.take j).map λl=>(hue D l).getD "").map V.str) ⟨⟨_,U⟩,U,U⟩ ?_ (aJ (m:=64) (by rwa[q5])) ?_ ?_ ?_
   .rintro j ys B G _ ⟨_,_,rfl⟩;rw[q5,q5,qJ];lia
   .rintro j ys B G ⟨_,rfl,_⟩;exact SqT.of hi
   .rintro j x ys B G hx ⟨⟨v,rfl⟩,rfl,rfl⟩;rw[qD]at hx;obtain⟨z,hz,rfl⟩:=qP.mp hx;dsimp only[dD,gy];rw[Q0 U];exists _,U,dc,U,.inl ⟨_,.inl n⟩,_,U,_,.inl ⟨_,.inl z,.inl n,U,(co z).symm⟩,⟨_,U⟩,U;rw[qq,hz];simp only[Option.toList,qO,qR,List.map_nil];cases hue D z<;>rfl
   rintro ys B G ⟨_,rfl,rfl⟩ l8 b7;rw[q5,qG];have e8:=a9.new b7 (.lst ((is.map λl=>(hue D l).getD "").map V.str));have a4:upd G l8 (.lst ((is.map λl=>(hue D l).getD "").map V.str)) l8=some (.lst ((is.map λl=>(hue D l).getD "").map V.str)):=ah
   have nl:∀w∈is.map λl=>(hue D l).getD "",w.length+(" ":Str).length<=1001:=λw hw=>by
    obtain⟨l,_,rfl⟩:=List.mem_map.mp hw
    cases e:hue D l with
    |none=>show 0+1<=1001;decide
    |some z=>have:=cl _ _ e;show z.length+1<=1001;lia
   have b2:(is.map λl=>(hue D l).getD "")[kk]?=some ((is.map λl=>(hue D l).getD "").getD kk ""):=by rw[qi,qb (by rw[q5];exact hk)];rfl
   have w1:=nl _ (qy b2);have L:bq D (.cho is kk Y a1 tt)=some (Str.join " " (is.map λl=>(hue D l).getD "")++(" by ":Str)++(is.map λl=>(hue D l).getD "").getD kk ""):=by rw[bq,qX]
   have jl:=kR nl;have sl:(is.map λl=>(hue D l).getD "").length<=64:=by rwa[q5]
   generalize (is.map λl=>(hue D l).getD "")=S at *;have jl:(Str.join " " S).length<=64064:=qx jl (Nat.mul_le_mul (qd 1001) sl);generalize upd G l8 (.lst (S.map V.str))=G8 at e8 a4 ⊢;have w1:(S.getD kk "").length+1<=1001:=w1;exact⟨_,U,.inl ⟨U,_,SqL.of (e8 _ _ c)⟩,U,_,U," ",l8,S,U,U,SqL.of a4,hX nl (qx (Nat.mul_le_mul (qd 1001) sl) Yk),_,_,U,U,aJ (m:=70000) (by show _+4<=_;lia),_,U,_,U,u,_,2,_,U,U,SqT.of (e8 _ _ hu),U,l8,_,_,_,U,U,SqL.of a4,gc (by rw[qD,b2];rfl),_,_,U,U,aJ (m:=70000) (by rw[dZ];show _+4+_<=_;lia),f0,_,_,U,U,e8 _ _ c,Z,fin _ _ L e8 _ _ _ _⟩
 .rintro B I ⟨v4,v5,v6,v7,rfl,d,c⟩;rw[rp.len,qG,List.filterMap_append,List.filterMap_cons_none L,List.filterMap_nil,qw]at c;refine⟨_,U,f0,_,U,SqL.of c,?_,λl9 zs C pm so=>q _ l9 zs (d.trans (a9.new C _)) (a9.none d C) ah pm so⟩;have h1:=List.length_filterMap_le (bq D) g;lia
theorem sV{v:Val}(h:SmV v){R:VK}(q:R (.str v.tx) H):rStrAny [v.v] H R:=by
 unfold rStrAny
 cases v with
 |num n=>exact .inr ⟨n,U,j0 h,q⟩
 |nm x=>exact .inl ⟨x,U,q⟩
theorem sF{v:Val}(h:SmV v)(k:∀x∈v.names,x.length<=1000):v.tx.length<=1921:=by
 cases v with
 |num n=>exact oY h
 |nm x=>exact qx (k x qk) Yk
theorem wC{G:Hp}{v:V}{w s1 a:LB}{R:VK}(o:RD G v d)(dp:aA [d]<=12)(fl:(ai [d]).length<=300)(all:∀e∈ai [d],(∀k∈e.cards,k∈Z)/\∀q x,e=.put q x\/e=.get q x->q.length<=1000)(j:Z.length<=20)
 (q:∀c l zs,a9 G c->G l=none->c l=some (.lst (zs.map V.str))->crd [d]=zs->zs.length<=20->(∀z∈zs,z∈Z)->R (.ref l) c):sO (jB mB [] E0 (jA (jB (mw 13) [] E0 (jA (kh (jA (bV 2) iB)) iB)) iB)) [w,s1,some v,a] G R:=by
 refine⟨_,U,ln1,λl1 s=>?_⟩;have f:=a9.new s (.lst [v]);refine⟨_,l1,[d],U,a9.refl _,.mk ah (.cons (o.same f) .nil),Yo,Yo,λ_ l2 n h n2 u t=>?_⟩;refine⟨_,l2,n,_,U,h,u,t,Yo,λe g=>(all e g).2,λ_ A a n3 C=>?_⟩;obtain⟨_,B,b⟩:=cH ((ai [d]).flatMap aa.cards) [];have b:=b List.nodup_nil;have mem:∀k,k∈((ai [d]).flatMap aa.cards).foldl b7 []↔k∈cards [d]:=λk=>(B k).trans (by simp[cards])
 have sub:∀k∈cards [d],k∈Z:=λk hk=>by
  obtain⟨e,g,hk⟩:=List.mem_flatMap.mp hk;exact(all e g).1 k hk
 have i:=qx (bX b λk hk=>sub k ((mem k).mp hk)) j;refine⟨A,_,_,U,C,by unfold tbT;rw[List.map_map];rfl,Yo,λy zs m pm so=>?_⟩;have p:∀k,k∈zs↔k∈cards [d]:=λk=>pm.mem_iff.trans (mem k);have r:zs.length<=20:=by rwa[pm.length_eq]
 exact q _ y zs (f.trans (h.trans (a.trans (a9.new m _)))) (a9.none (f.trans (h.trans a)) m) ah (cj.is ⟨pm.nodup_iff.mpr b,p,so,r⟩) r λz hz=>sub z ((p z).mp hz)
theorem D6(T:Tx P w K mg a):aF P w K mg base CX0 20 a.IZ a.J0 ["_law_deeds"] ub:=by
 refine T.Js.F.ok iL (by walk_at "l") λ_ A outer s H vs Q E g h=>?_;obtain⟨_,la,us,es,Z,rfl,sb,a5,rd,ok,few,a2,S,q⟩:=h
 refine⟨_,(ao (ax (i:=1) iL.nd U Oi (aG ae))
  (ao (bO PassesOwn.never U (bJ (pq 0)) (aY (i:=2) iL.nd U Oi)
  (aq (aO (aI aZ (aj ar (pq 2) af Oy) av (aP _)) (aq (aL (b4 qf qu qv bS (pq 1) (a8 (b4 PySem.F.plainAttrs_str PySem.F.slot_str_join PySem.F.type_str_join gY av (a8 (aG (a8 (aj ar (pq 2) af Oy) (a8 av (a8 (bF y8 U T.vz PyProof.Rows.Boot.«str» (a8 (aj ar (pq 2) af Oy) ae)) (a8 (aj ar (pq 2) af Oy) (a8 (bF y8 U T.vz PyProof.Rows.Boot.«str» (a8 (aj ar (pq 2) af Oy) ae)) ae)))))) ae)) ae)))) (aq (aO (aI dN (aj ar (pq 2) af Oy) (aG (a8 av (a8 av ae))) (by with_unfolding_all rfl)) (ao (ax (i:=3) iL.nd U Oi (oK U U T.wT (aD (oW T) (g.mono Yk) T.GM (a8 (aD (oV T 13) (g.mono Yk) T.Cn (a8 (aG (a8 (pq 2) ae)) ae)) ae))))
  (aq (aL (b4 qf qu qv bS (pq 1) (a8 (ay bY (ay bY (b4 PySem.F.plainAttrs_str PySem.F.slot_str_join PySem.F.type_str_join gY av (a8 (pq 3) ae)) av) (aj ar (pq 2) af Oy)) ae))))) (aq (aO (PW.pt (dJ (aI aZ (aj ar (pq 2) af Oy) av (aP _)) (f7 (oG (gL (aD (D9 T 13) (g.mono Yk) T.GL (a8 (aj ar (pq 2) af Oy) ae))))))) (ao (ax (i:=3) iL.nd U Oi (oK U U T.wT (aD (oW T) (g.mono Yk) T.GM (a8 (aD (oV T 13) (g.mono Yk) T.Cn (a8 (aG (a8 (pq 2) ae)) ae)) ae))))
  (ao (aL (b4 qf qu qv bS (pq 1) (a8 (ay bY (b4 PySem.F.plainAttrs_str PySem.F.slot_str_join PySem.F.type_str_join gY av (a8 (ay cQ (pq 3) (aG (a8 av ae))) ae)) av) ae)))
  (ao (aL (b4 qf qu qv bS (pq 1) (a8 (ay bY (ay bY (bF (ig g.gd g.u200) U T.vz PyProof.Rows.Boot.«str» (a8 (aG (a8 av (a8 (aj ar (pq 2) af Oy) ae))) ae)) av) (bF (ig g.gd g.u200) U T.vz PyProof.Rows.Boot.«str» (a8 (aG (a8 av (a8 af ae))) ae))) ae)))
  (aq (aL (b4 qf qu qv bS (pq 1) (a8 (ay bY (ay bY (bF (ig g.gd g.u200) U T.vz PyProof.Rows.Boot.«str» (a8 (aG (a8 av (a8 af ae))) ae)) av) (bF (ig g.gd g.u200) U T.vz PyProof.Rows.Boot.«str» (a8 (aG (a8 av (a8 af ae))) ae))) ae))))))) bh)))))))
  (aq (aK (bv (y9 U) U T.wT PyProof.Rows.Boot.«sorted» (a8 (pq 1) ae)))))),?_⟩
 walk_at "q";refine⟨qr _,λf0 r=>?_⟩;have e0:=a9.new r (.lst []);exists _,U,la,U,⟨_,SqL.of (e0 _ _ a5)⟩;refine c9 (K:=K) (a:=la) (xs:=us) (λi O J=>∃v2 v3 ws,O=[some (.ref la),some (.ref f0),v2,v3]/\a9 H J/\J f0=some (.lst (ws.map V.str))/\ws=(es.take i).flatMap (bu Z)/\ws.length<=3 * i) ⟨_,_,[],U,e0,ah,U,qd _⟩ ?_ ?_ ?_
 .rintro i O J _ ⟨_,_,_,_,p,_⟩;exact SqL.of (p _ _ a5)
 .rintro i x O J hx ⟨v2,v3,ws,rfl,p,c,ew,wl⟩;obtain⟨d,hd,D⟩:=rd.at i x hx;have lt:=(qe.mp hd).1;obtain⟨dp,fl,all,I⟩:=ok d (qy hd)
  have c5:∀k∈cards [d],k∈Z:=λk hk=>by
   obtain⟨e,he,hk⟩:=List.mem_flatMap.mp hk;exact(all e he).1 k hk
  have dm:d∈ai [d]:=by rw[ai,ai,qw,dE];exact qk
  have nx:(es.take (i+1)).flatMap (bu Z)=ws++bu Z d:=by
   rw[qq,hd,qU,<- ew];simp
  rw[nx];have y:∀f:LS,f.length<=2->((ws++f).map V.str).length<sizeLine:=λf h=>Nat.lt_of_le_of_lt (show _<=1000 by rw[q5,qa];lia) (by decide);have up:∀(G:Hp)(f:LS)(row:Str),upd G f0 (.lst ((ws++f).map V.str++[.str row])) f0=some (.lst ((ws++(f++[row])).map V.str)):=λG f row=>by rw[ah,<- qM,qO (l₁:=ws++f)];rfl
  have fin:∀(G:Hp)(f:LS),a9 H G->G f0=some (.lst ((ws++f).map V.str))->bu Z d=f->f.length<=3->∀v2 v3,∃c0 b9 a1,[some (V.ref la),some (.ref f0),v2,v3]=[some (.ref la),some (.ref f0),c0,b9]/\a9 H G/\G f0=some (.lst (a1.map V.str))/\a1=ws++bu Z d/\a1.length<=3 * (i+1):=λG f e h1 h2 _ v2 v3=>⟨_,_,ws++f,U,e,h1,by rw[h2],by rw[qa];lia⟩;have c:J f0=some (.lst ((ws++[]).map V.str)):=by rwa[qw]
  have b1:∀{zs:LS},zs.length<=20->(∀z∈zs,z∈Z)->(∀w∈zs,w.length+(" ":Str).length<=1001):=λ{zs} _ h w hw=>by
   have:=S w (h w hw);show w.length+1<=1001;lia
  have D:=D.same (sb.trans p);have M:=D
  cases D with
  |@set t x va sg vb h=>
   exists _,U,t,_,0,_,U,U,SqT.of h,U,U,_,U;walk_at "yes";refine⟨_,U,.inl ⟨U,_,SqL.of c⟩,U,_,U,t,_,1,_,U,U,SqT.of h,U,_,U,t,_,2,_,U,U,SqT.of h,U,sV I.1 ⟨_,U,t,_,3,_,U,U,SqT.of h,U,_,U,t,_,4,_,U,U,SqT.of h,U,sV I.2.1 ⟨ln5,λB j=>?_⟩⟩⟩;have nZ:∀k∈(aa.set x va sg vb).names,k∈Z:=λk hk=>(all _ dm).1 k (qV _ hk);have xZ:=nZ x qk;have e9:=a9.new j (.lst ([x,"=",va.tx,sg,vb.tx].map V.str));refine⟨" ",B,[x,"=",va.tx,sg,vb.tx],U,U,SqL.of ah,hX (m:=2000) (λw hw=>?_) (by show 2000 * 5<=_;decide),f0,_,_,U,U,e9 _ _ c,y [] (by decide),fin _ [Str.join " " [x,"=",va.tx,sg,vb.tx]] (a9.over (p.trans e9) r) (up _ [] _) (by rw[bu,Q0 xZ]) (by show 1<=3;decide) _ _⟩;have t1:=sF I.1 λk hk=>S k (nZ k (qj _ (qV _ hk)));have t2:=sF I.2.1 λk hk=>S k (nZ k (qj _ (qH _ hk)));have t3:=S x xZ;have t4:=I.2.2;simp only[qt,qQ,or_false]at hw;show w.length+1<=2000;rcases hw with rfl|rfl|rfl|rfl|rfl
   .omega
   .decide
   .omega
   .omega
   .omega
  |@rep t t1 n bs h h1=>
   exists _,U,t,_,0,_,U,U,SqT.of h,U,U,_,U;walk_at "no";refine⟨_,U,t,_,0,_,U,U,SqT.of h,U,ln2,λl6 X=>?_⟩;have u:=a9.new X (.lst [.str "if",.str "while"]);exists l6,_,U,.inl (SqL.of ah),U,U,_,U;walk_at "no";have h:=u _ _ h;exists _,U,t,_,0,_,U,U,SqT.of h,U,U,_,U;walk_at "yes";have c7:aA bs+1<=12:=qx (Nat.le_max_left _ _) dp;have c6:=(jb (d:=.rep n bs) (b:=bs) (by simp[aa.inner])).length_le;refine⟨_,U,t,_,2,_,U,U,SqT.of h,U,_,t1,bs,U,a9.refl _,h1.same u,Yo,Yo,λH7 s7=>?_⟩;have v:=u.trans s7
   cases hb:du bs with
   |true=>
    refine⟨_,U,bn U ?_⟩;exact fin _ [] (p.trans v) (v _ _ c) (by rw[bu,Q0 hb]) Yk _ _
   |false=>
    refine⟨_,U,bK U ?_⟩;dsimp only[iA,iD];refine wC (M.same v) dp fl all a2 λG l zs sG nl hl ec L zZ=>?_;have e8:=v.trans sG;have f8:=e8 _ _ c;refine⟨_,U,.inl ⟨U,_,SqL.of f8⟩,U,_,U,ln1,λB j=>?_⟩;have e9:=e8.trans (a9.new j (.lst [.str ""]));refine⟨l,B,_,_,U,U,SqL.of (a9.new j _ _ _ hl),SqL.of ah,aJ (m:=30) (by rw[q5];show _+1<=_;lia),λC R=>?_⟩;have a0:=e9.trans (a9.new R (.lst (zs.map V.str++[.str ""])));have nl:=b1 L zZ
    have nl:∀w∈zs++[("":Str)],w.length+(" ":Str).length<=1001:=λw hw=>by
     rcases qg.mp hw with h|h
     .exact nl w h
     .rw[qS.mp h];decide
    have a6:(zs++[("":Str)]).length<=21:=by rw[qa];exact Nat.succ_le_succ L
    have jl:(Str.join " " (zs++[("":Str)])).length<=21021:=qx (kR nl) (Nat.mul_le_mul (qd 1001) a6);exists " ",C,zs++[("":Str)],U,U,SqL.of (by rw[ah,qO];rfl),hX nl (qx (Nat.mul_le_mul (qd 1001) a6) Yk),_,_,U,U,aJ (m:=70000) (by show _+4<=_;lia),f0,_,_,U,U,a0 _ _ c,y [] (by decide);have h:=s7 _ _ h;have a4:=a9.over (o:=.lst ((ws++[]).map V.str++[.str (Str.join " " (zs++[("":Str)])++(" by ":Str))])) (p.trans a0) r;have N:=up (upd (upd G B (.lst [.str ""])) C (.lst (zs.map V.str++[.str ""]))) [] (Str.join " " (zs++[("":Str)])++(" by ":Str))
    have a7:upd (upd (upd G B (.lst [.str ""])) C (.lst (zs.map V.str++[.str ""]))) f0 (.lst ((ws++[]).map V.str++[.str (Str.join " " (zs++[("":Str)])++(" by ":Str))])) t=some (.tup [.str "repeat",.int n,.ref t1]):=by
     have:=a9.new R (.lst (zs.map V.str++[.str ""])) _ _ (a9.new j (.lst [.str ""]) _ _ (sG _ _ h));rw[au λz=>by rw[z,a0 _ _ c]at this;cases this];exact this
    dsimp only;generalize upd (upd (upd G B (.lst [.str ""])) C (.lst (zs.map V.str++[.str ""]))) f0 (.lst ((ws++[]).map V.str++[.str (Str.join " " (zs++[("":Str)])++(" by ":Str))]))=G1 at a4 N a7 ⊢;obtain⟨g1,g2,g3,g4⟩:=gZ (k:="is") (.inr U) I;obtain⟨m1,m2,m3,m4⟩:=gZ (k:="is") (n:=0) (.inr U) Yd;refine⟨_,U,.inl ⟨U,_,SqL.of N⟩,_,U,t,_,1,_,U,U,SqT.of a7,U,ln2,λW b3=>?_⟩;have c4:=a9.new b3 (.lst [.str "is",.int n]);refine⟨W,_,U,i8 ah,g2,g3,g4,aJ (m:=3000) g1,_,_,U,U,aJ (m:=70000) (by show _+3<=_;lia),ln2,λK0 b6=>?_⟩;have a':=c4.trans (a9.new b6 (.lst [.str "is",.int 0]));exists K0,_,U,i8 ah,m2,m3,m4,aJ (m:=3000) m1,_,_,U,U,aJ (m:=70000) (by rw[dZ];show _+3+_<=_;lia),f0,_,_,U,U,a' _ _ N,y _ (by show 1<=2;decide);have b0:=a9.over (o:=.lst ((ws++([]++[Str.join " " (zs++[("":Str)])++(" by ":Str)])).map V.str++[.str ((PyData.list [.str "is",.int n]).shown++(" + ":Str)++(PyData.list [.str "is",.int 0]).shown)])) (a4.trans a') r;have Y:=up (upd (upd G1 W (.lst [.str "is",.int n])) K0 (.lst [.str "is",.int 0])) ([]++[Str.join " " (zs++[("":Str)])++(" by ":Str)]) ((PyData.list [.str "is",.int n]).shown++(" + ":Str)++(PyData.list [.str "is",.int 0]).shown);generalize upd (upd (upd G1 W (.lst [.str "is",.int n])) K0 (.lst [.str "is",.int 0])) f0 _=G2 at b0 Y ⊢;obtain⟨m5,m6,m7,m8⟩:=gZ (k:="in") (n:=0) (.inl U) Yd;obtain⟨m9,c3,b',c2⟩:=gZ (k:="is") (n:=1) (.inr U) Yd;refine⟨_,U,.inl ⟨U,_,SqL.of Y⟩,ln2,λc1 b2=>?_⟩;have b8:=a9.new b2 (.lst [.str "in",.int 0]);refine⟨c1,_,U,i8 ah,m6,m7,m8,aJ (m:=3000) m5,_,_,U,U,aJ (m:=70000) (by show _+3<=_;lia),ln2,λb7 b5=>?_⟩;have a3:=b8.trans (a9.new b5 (.lst [.str "is",.int 1]));exact⟨b7,_,U,i8 ah,c3,b',c2,aJ (m:=3000) m9,_,_,U,U,aJ (m:=70000) (by rw[dZ];show _+3+_<=_;lia),f0,_,_,U,U,a3 _ _ Y,y _ (by show 2<=2;decide),fin _ _ (a9.over (b0.trans a3) r) (up _ _ _) (by rw[bu,qZ (by rw[hb];simp),ec];rfl) (by show 3<=3;decide) _ _⟩
  |_ h=>
   exists _,U,_,_,0,_,U,U,SqT.of h,U,U,_,U;walk_at "no";refine⟨_,U,_,_,0,_,U,U,SqT.of h,U,ln2,λl6 X=>?_⟩;have u:=a9.new X (.lst [.str "if",.str "while"]);exists l6,_,U,.inl (SqL.of ah),U,U,_,U
   first
   |walk_at "no"
    exists _,U,_,_,0,_,U,U,SqT.of (u _ _ h),U,U,_,U;walk_at "no";exact fin _ [] (p.trans u) (u _ _ c) U Yk _ _
   |walk_at "yes"
    dsimp only[iA,iD];refine wC (M.same u) dp fl all a2 λG l zs sG nl hl ec L zZ=>?_;have xl:=S _ ((all _ dm).1 _ (qV _ qk));have v:=u.trans sG;have nl:=b1 L zZ;have jl:(Str.join " " zs).length<=20020:=qx (kR nl) (Nat.mul_le_mul (qd 1001) L);exact⟨_,U,.inl ⟨U,_,SqL.of (v _ _ c)⟩,U,_,U," ",l,zs,U,U,SqL.of hl,hX nl (qx (Nat.mul_le_mul (qd 1001) L) Yk),_,_,U,U,aJ (m:=70000) (by show _+4<=_;lia),_,U,_,_,1,_,U,U,SqT.of (v _ _ h),U,_,_,U,U,aJ (m:=70000) (by rw[dZ];show _+4+_<=_;lia),f0,_,_,U,U,v _ _ c,y [] (by decide),fin _ [_] (a9.over (p.trans v) r) (up _ [] _) (by rw[bu,ec]) (by show 1<=3;decide) _ _⟩
 .rintro O J ⟨v2,v3,ws,rfl,p,c,ew,wl⟩;rw[rd.len,qG]at ew;subst ew;exact⟨_,U,f0,_,U,SqL.of c,by have:=rd.len;lia,λB zs j pm so=>q _ B zs (p.trans (a9.new j _)) (a9.none p j) ah pm so⟩
theorem mJ{xs:LS}(h:∀s∈xs,PyData.strOk s=true):SeqAt.shaped (.list (xs.map PyData.str))=true:=by
 obtain⟨a,_⟩:=wx xs h;unfold SeqAt.shaped;simp[PyData.canLay0,PyData.depth,a];lia
theorem yk(ns:LI):∀e∈ai (bdN ns),SmD e:=λe g=>by
 obtain⟨a,_,_⟩:=gX (cN ns);obtain⟨f,_,_⟩:=rH (ss:=[(nmN (cN ns)).getD 1 (">":Str),("w":Str)]) a U (ca ns);obtain⟨h,h'⟩:=f e g;have big:∀n:Int,0<=n->n<1000000000000000000000000000000->n.natAbs<2 ^ 1000:=λn h0 _=>qC (show _<1000000000000000000000000000000 by lia) (by decide +kernel)
 have vs:∀v:Val,fH (nmN (cN ns)) v->SmV v:=λv h=>by
  cases v with
  |num n=>exact big n h.1 h.2
  |nm x=>trivial
 cases e with
 |set x i d c=>exact⟨vs i h.2.1,vs c h.2.2,qx ((by decide +kernel:∀s∈sgL,s.length<=1000) d h') (qd _)⟩
 |rep n b=>exact big n h.1 (by have:=h.2;lia)
 |_=>trivial
theorem BN{f:aN}{v:Int}(h:x∉ks):aU (stK f ks) (.inr x) (.int v)=stK (b6 f x v) (ks++[x]):=by
 have no:aR (stK f ks) (.inr x)=none:=by
  induction ks with
  |nil=>rfl
  |cons k r a=>
   rw[show stK f (k::r)=(.inr k,.int (f k))::stK f r from rfl,cD λe=>h (by rw[<- Sum.inr.inj e];exact qk)];exact a λk=>h (qj _ k)
 rw[ki _ no];unfold stK;rw[qO]
 congr 1
 .refine List.map_congr_left λk hk=>?_;rw[show b6 f x v k=f k from qZ (λe:k=x=>h (e▸hk))]
 .rw[List.map_singleton,show b6 f x v x=v from Q0 U]
theorem yj{k:Str}:∀(ps:LG)(f:aN),k∉ps.map (·.1)->ps.foldl (λf p=>b6 f p.1 (p.2 % 1000000000000000000000000000000)) f k=f k
 |[],f,_=>rfl
 |p::ps,f,h=>by
  rw[Qz,yj ps _ λz=>h (qj _ z)];exact qZ (λe:k=p.1=>h (e▸qk))
theorem Fq(c:Int):∀k∈crN c,PyData.strOk k=true:=λk hk=>by
 obtain⟨_,_,a⟩:=gX c;have b:=(a _ (fS (i:=1) Yo)).2.1;unfold crN at hk;simp only[Qm,qt,qg,qQ,or_false]at hk;rcases hk with rfl|h|rfl|rfl|rfl|rfl
 .decide +kernel
 .exact(a k h).2.1
 .exact ck b Yd
 .exact ck b Yd
 .decide +kernel
 .decide +kernel
theorem CU(T:Tx P w K mg a):aF P w K mg base CX0 76 a.J1 a.J2 ["_law_script"] (iF K):=by
 refine T.JA.F.ok dA (by walk_at "l") λ_ A outer s H vs Q E f h=>?_;obtain⟨sa,ns,rfl,hS,a',c4,only,q⟩:=h
 refine⟨_,(ao (ax (i:=1) dA.nd U Oi (aD (D2 T) (f.mono Yk) T.Jn (a8 (pq 0) ae)))
  (ao (ax (i:=2) dA.nd U Oi (aD (CI T) (f.mono Yk) T.Jf (a8 (pq 1) (a8 (aD (vV T) (f.mono Yk) T.Ht (a8 (pq 0) ae)) ae))))
  (ao (ax (i:=3) dA.nd U Oi (aD (oV T 13) (f.mono Yk) T.Cn (a8 (aj ar (pq 1) af Oy) ae)))
  (ao (ax (i:=4) dA.nd U Oi (aD (oW T) (f.mono Yk) T.GM (a8 (pq 3) ae)))
  (ao (bO PassesOwn.never U (bJ (ay cQ (aG (a8 av (a8 av (a8 av (a8 (ay bY (aj ar (aj bR (aj ar (pq 1) af Oy) af Oy) af Oy) av) (a8 (ay bY (aj ar (aj bR (aj ar (pq 1) af Oy) af Oy) af Oy) av) ae)))))) (aj ar (pq 1) af Oy))) (aY (i:=5) dA.nd U Oi)
  (aq (dL (f.one) (pq 4) (pq 5) iW U)))
  (ao (ax (i:=6) dA.nd U Oi gP)
  (ao (bO PassesOwn.never U (kt U T.GQ (a8 (aj ar (pq 1) af Oy) (a8 (aD (vV T) (f.mono Yk) T.Ht (a8 (pq 0) ae)) ae))) (gO U (cZ (aY (i:=7) dA.nd U Oi) (cZ (aY (i:=8) dA.nd U Oi) gN)))
  (aq (dL (f.one) (pq 6) (pq 7) (ay bT (pq 8) (ay gW af af)) U)))
  (ao (ax (i:=9) dA.nd U Oi (aD (D4 T) (f.mono Yk) T.Jp (a8 (pq 2) ae)))
  (ao (aO (aI uX (bv cR U T.r9 Q8 (a8 (aj ar (aj bR (aj ar (pq 2) af Oy) (d6 cW af) Oy) af Oy) ae)) (bv FM U T.r9 Q8 (a8 (pq 4) ae)) (aP _)) (aq (aK iW)) bh)
  (ao (ax (i:=10) dA.nd U Oi (aD (D7 T) (f.mono Yk) T.Jq (a8 (pq 2) (a8 (pq 9) (a8 (oK U U T.wT (pq 4)) (a8 (pq 6) ae))))))
  (ao (aO (aI BD (pq 10) iU (aP _)) (aq (aK iW)) bh)
  (aq (aK (iV (Cz f.units) (aD (D5 T) (f.mono Yk) T.Jr (a8 (pq 2) (a8 (pq 10) (a8 (pq 9) ae)))) (aD (D6 T) (f.mono Yk) T.Js (a8 (pq 3) ae)) (aP _))))))))))))))),?_⟩
 walk_at "q";refine⟨_,U,sa,ns,U,hS,a',c4,λH1 X la ls lb us s1 _ RP=>?_⟩;refine⟨_,U,_,U,sa,ns,U,s1.seq hS,a',λ_ ln s2 _ f9=>?_⟩;obtain⟨PO,st⟩:=BX a' (RP.same s2) f9;obtain⟨nc,g1,_⟩:=FU ns;refine⟨X,la,ls,lb,ln,_,_,_,_,us,_,U,PO,λH3 t c le zs N s3 _ ht B _ Z d3 gr=>?_⟩;have b0:=RP.same (s2.trans s3);refine⟨_,U,X,_,2,_,U,U,SqT.of b0.top,U,H3,lb,bdN ns,U,a9.refl _,b0.bo,by have:=PO.dp;lia,by have:=PO.fl;lia,λH4 ld ud s4 _ h4 r4=>?_⟩
 have c5:∀d∈ai (bdN ns),∀q x,d=.put q x\/d=.get q x->q.length<=1000:=λd hd q x h=>by
  obtain⟨z,hz,e⟩:=List.mem_map.mp (st d hd q x h);rw[<- e];exact PO.s1 z hz
 refine⟨_,U,H3,ld,ud,_,U,s4,h4,r4,by have:=PO.fl;lia,c5,λH5 dc s5 n5 h5=>?_⟩;have c3:=s4.trans s5;have I:=b0.same c3
 obtain⟨v0,_,rfl,b4⟩:∃s0 r,us=.ref s0::r/\H5 s0=some (.tup [.str ((nmN (cN ns)).getD 1 (">":Str)),.int (1+cN ns / 11 % 2000)]):=by
  cases I.ro with
  |cons h _=>exact⟨_,_,U,h⟩
 have e':((nmN (cN ns)).getD 1 (">":Str)).length<=1000:=PO.s1 ((nmN (cN ns)).getD 1 (">":Str),1+cN ns / 11 % 2000) (by unfold ssN;exact qk);obtain⟨n1,d0⟩:∃x,x=(nmN (cN ns)).getD 1 (">":Str):=⟨_,U⟩;rw[<- d0]at b4 e';have al:=PO.al;refine⟨_,U,X,_,1,_,U,U,SqT.of I.top,U,ls,_,0,_,U,U,SqL.of I.st,dY,v0,_,0,_,U,U,SqT.of b4,U,_,_,U,U,aJ (m:=2000) (by show _+1<=_;lia),_,U,X,_,1,_,U,U,SqT.of I.top,U,ls,_,0,_,U,U,SqL.of I.st,dY,v0,_,0,_,U,U,SqT.of b4,U,_,_,U,U,aJ (m:=2000) (by show _+1<=_;lia),ln5,λl6 f6=>?_⟩;have e6:=a9.new f6 (.lst [.str (">":Str),.str "w>",.str "w<",.str (n1++(">":Str)),.str (n1++("<":Str))]);refine⟨_,U,X,_,0,_,U,U,SqT.of (e6 _ _ I.top),U,l6,la,_,_,U,U,SqL.of ah,SqL.of (e6 _ _ I.as),aJ (m:=200) (by rw[q5];show 5+_<=_;lia),λl7 c'=>⟨l7,U,⟨_,SqL.of ah⟩,?_⟩⟩;obtain⟨S,eS⟩:∃S:LS,S=[(">":Str),"w>","w<",n1++(">":Str),n1++("<":Str)]++akN (cN ns):=⟨_,U⟩;have e7:=e6.trans (a9.new c' (.lst ([V.str (">":Str),.str "w>",.str "w<",.str (n1++(">":Str)),.str (n1++("<":Str))]++(akN (cN ns)).map V.str)));have b8:upd (upd H5 l6 (.lst [.str (">":Str),.str "w>",.str "w<",.str (n1++(">":Str)),.str (n1++("<":Str))])) l7 (.lst ([V.str (">":Str),.str "w>",.str "w<",.str (n1++(">":Str)),.str (n1++("<":Str))]++(akN (cN ns)).map V.str)) l7=some (.lst (S.map V.str)):=by rw[ah,eS,qO];rfl
 have h7:=e7 _ _ h5;have S1:S.length<=105:=by rw[eS,qa];show 5+_<=_;lia
 have g4:H5 l7=none:=a9.none e6 c';generalize upd (upd H5 l6 (.lst _)) l7 (.lst _)=H7 at e7 b8 h7 ⊢;obtain⟨ks,e3⟩:∃ks,ks=((ai (bdN ns)).flatMap aa.cards).foldl b7 []:=⟨_,U⟩;obtain⟨kl,km,kn⟩:=cH ((ai (bdN ns)).flatMap aa.cards) [];have kn:=kn List.nodup_nil;rw[<- e3]at h7 kl km kn;have cf:=xT (ai (bdN ns));have fl:=PO.fl;rw[List.length_nil]at kl;have n7:∀{b:Addr}{xs:LV},H7 b=some (.lst xs)->b≠dc:=λh z=>by rw[z,h7]at h;cases h
 have g5:∀{b:Addr}{xs:LV},H7 b=some (.tup xs)->b≠dc:=λh z=>by rw[z,h7]at h;cases h
 refine c9 (K:=K) (a:=l7) (xs:=S.map V.str) (λj R G=>(∃v5,R=[some (.ref sa),some (.ref X),some (.ref t),some (.ref ld),some (.ref dc),v5,none,none,none,none,none])/\(∀b o,b≠dc->H7 b=some o->G b=some o)/\G dc=some (.dK (tbT ((S.take j).foldl b7 ks)))) ⟨⟨_,U⟩,λ_ _ _ h=>h,h7⟩ ?_ ?_ ?_
 .rintro j R G _ ⟨_,k2,_⟩;exact SqL.of (k2 _ _ (n7 b8) b8)
 .rintro j z R G hz ⟨⟨v5,rfl⟩,k2,Y⟩;rw[qD]at hz;obtain⟨y,hy,rfl⟩:=qP.mp hz;have lt:=(qe.mp hy).1;have l1:=(cH (S.take j) ks).1;rw[qJ]at l1;refine⟨_,U,_,U,dc,_,U,.inl ⟨_,.inr y,Y,U,by unfold tbT;rw[q5];exact Nat.lt_of_le_of_lt (show _<=5000 by lia) (by decide),U⟩,⟨_,U⟩,λb o hb h=>by rw[au hb];exact k2 b o hb h,?_⟩;rw[ah,sJ,qq,hy,List.foldl_append]
  rfl
 rintro R G ⟨⟨v5,rfl⟩,k2,Y⟩;rw[q5,qG]at Y;obtain⟨c2,g2⟩:∃k,k=S.foldl b7 ks:=⟨_,U⟩;obtain⟨_,m2,n2⟩:=cH S ks;have n2:=n2 kn;rw[<- g2]at Y m2 n2
 have zc:∀k,k∈c2↔k∈zs:=λk=>by
  have e1:("w":Str)++(">":Str)="w>":=Yd;have e2:("w":Str)++("<":Str)="w<":=Yd;rw[m2,km,Z.mem,eS];unfold cF ssN cards;simp only[qE,List.flatMap_nil,<- d0,e1,e2,qg,qt,qQ,or_false,false_or]
  grind
 have c6:a9 H1 G:=λb o h=>k2 b o (λz=>by rw[z,a9.none (s2.trans (s3.trans s4)) n5]at h;cases h) (e7 _ _ ((s2.trans (s3.trans c3)) _ _ h));have f7:a9 H3 G:=λb o h=>k2 b o (λz=>by rw[z,a9.none s4 n5]at h;cases h) (e7 _ _ (c3 _ _ h));have g3:a9 H4 G:=λb o h=>k2 b o (λz=>by rw[z,n5]at h;cases h) (e7 _ _ (s5 _ _ h));refine λW a7=>?_;have e8:=a9.new a7 (.dK []);have d8:upd G W (.dK []) W=some (.dK (stK (b9 (((akN (cN ns)).take 0).zip (cu ns))) ((akN (cN ns)).take 0))):=ah;generalize upd G W (.dK [])=G8 at e8 d8 ⊢;have b6:=RP.same (c6.trans e8);refine⟨_,U,X,_,0,_,U,U,SqT.of b6.top,U,_,U,sa,ns,U,(s1.trans (c6.trans e8)).seq hS,a',λH9 l9 s9 _ h9=>?_⟩;exists false,false,la,l9,_,_,U,SqL.of (s9 _ _ b6.as),SqL.of h9;have d4:=b6.same s9;obtain⟨f5,_,_⟩:=yt (cN ns);have d9:=s9 _ _ d8;have d1:∀{b:Addr}{xs:LV},H9 b=some (.lst xs)->b≠W:=λh z=>by rw[z,d9]at h;cases h
 refine lC (K:=K) (b1:=false) (b2:=false) (l1:=la) (l2:=l9) (xs:=(akN (cN ns)).map V.str) (ys:=(cu ns).map V.int) (λj R G=>∃v7 v8,R=[some (.ref sa),some (.ref X),some (.ref t),some (.ref ld),some (.ref dc),v5,some (.ref W),v7,v8,none,none]/\(∀b o,b≠W->H9 b=some o->G b=some o)/\G W=some (.dK (stK (b9 (((akN (cN ns)).take j).zip (cu ns))) ((akN (cN ns)).take j)))) ⟨_,_,U,λ_ _ _ h=>h,d9⟩ ?_ ?_ ?_
 .rintro j R G ⟨_,_,_,k,_⟩;exact⟨SqL.of (k _ _ (d1 d4.as) d4.as),SqL.of (k _ _ (d1 h9) h9)⟩
 .rintro j x y R G p hx hy ⟨v7,v8,rfl,k,a7⟩ np;rw[qD]at hx hy;obtain⟨x,c0,rfl⟩:=qP.mp hx;obtain⟨n,hn,rfl⟩:=qP.mp hy;have d5:=a9.new np (.tup [.str x,.int n]);exists p,_,U,SqT.of ah,U,_,_,U,_,_,U,U;refine⟨_,U,_,_,U,U,⟨Yk,Yk,Yk⟩,_,_,U,U,by rw[p30];decide,?_⟩;rw[p30];refine⟨_,U,_,U,W,_,U,.inl ⟨_,.inr x,d5 _ _ a7,U,Nat.lt_of_le_of_lt (show _<=100 by unfold stK;rw[q5,qJ];lia) (by decide),U⟩,⟨_,_,U,λb o hb h=>by rw[au hb];exact d5 _ _ (k b o hb h),?_⟩⟩;rw[ah,BN (iu f5 c0),lR c0 hn,qq,c0];unfold b9;rw[List.foldl_append]
  rfl
 rintro R G9 ⟨v7,v8,rfl,k9,a0⟩;rw[q5,q5,lT]at a0
 have f0:∀k,k∉(akN (cN ns)).take (min (akN (cN ns)).length (cu ns).length)->b9 ((akN (cN ns)).zip (cu ns)) k=0:=λk hk=>by
  rw[<- lT];refine yj _ _ λh=>hk ?_;obtain⟨p,hp,rfl⟩:=List.mem_map.mp h;exact(List.of_mem_zip hp).1
 generalize (akN (cN ns)).take (min (akN (cN ns)).length (cu ns).length)=ks3 at a0 f0;have b5:a9 G G9:=λb o h=>k9 b o (λz=>by rw[z,a7]at h;cases h) (s9 _ _ (e8 _ _ h));have a5:=f7.trans b5;obtain⟨lv,e9,rl⟩:=B.ln;obtain⟨ps,a2,rp⟩:=B.pt;have sub:∀k∈cards (bdN ns),k∈zs:=λk hk=>(Z.mem k).mpr (by unfold cF;simp[hk]);have zC:∀z∈zs,z∈crN (cN ns):=λz hz=>PO.akC z ((Z.mem z).mp hz);have e0:zs.length<=20:=qx (bX Z.nd zC) PO.c20;obtain⟨D,C⟩:=FB (show(ssN (cN ns)).length=2 from rfl) d3 Z.nd sub (λz hz=>Fs _ z (zC z hz)) st λe K0=>⟨nc e K0,yk ns e K0⟩;have wl:=rT (bdN ns)
 have pl:N.ps.length<=60000:=by
  have:=gr.p2;have:(c8 (ssN (cN ns)) zs (b9 ((akN (cN ns)).zip (cu ns)))).ps.length=0:=U;lia
 have nl:N.n<=70000:=by
  have h:=gr.l2
  have:(c8 (ssN (cN ns)) zs (b9 ((akN (cN ns)).zip (cu ns)))).ls.length=3+zs.length:=by
   show List.length (_++_)=_;rw[qa,qa,q5,q5]
   rfl
  show N.ls.length<=_;lia
 have rp:R2s (PgH H3) ps (N.ps++[.pas (zs.map N.fc) [] []]):=rp;have f1:=rp.imp λv p h=>pgS a5 h;have ep:∀p∈N.ps++[.pas (zs.map N.fc) [] []],p∈N.ps\/p=.pas (zs.map N.fc) [] []:=λp hp=>(qg.mp hp).imp id qS.mp;refine⟨_,U,t,c.lp,_,_,ps,_,U,a5 _ _ ht,a5 _ _ a2,f1,by rw[qa];show _+1<=_;lia,λp hp=>?_,λp hp is w _ _ _ e=>?_,λd7 dg kg a4 _ d2 gv=>?_⟩
 .rcases ep p hp with h|rfl
  .exact(C.fit p h).2.len
  .exact qr _
 .subst e;rcases ep _ hp with h|h
  .exact(C.fit _ h).2.2.2.2
  .cases h
 have gv:GvK d7 kg N.ps:=λl=>by
  refine⟨λv h=>?_,λp hp ho=>(gv l).2 p (qV _ hp) ho⟩;obtain⟨p,hp,ho,hP⟩:=(gv l).1 v h;rcases ep p hp with h|rfl
  .exact⟨p,h,ho,hP⟩
  .cases ho
 have M:=a5.trans a4;obtain⟨_,_,rfl,_,u,i,o,r,rfl,hu,hi,_⟩:=rp.snoc;have c7:=(b5.trans a4) _ _ Y;have b':c2.Perm zs:=(List.perm_ext_iff_of_nodup n2 Z.nd).mpr zc;refine⟨_,U,t,_,1,_,U,U,SqT.of (M _ _ ht),U,1,U,c.lp,_,-1,_,U,U,SqL.of (M _ _ a2),yp _ _,u,_,1,_,U,U,SqT.of (M _ _ hu),U,i,_,U,.inr (SqT.of (M _ _ hi)),_,U,dc,_,U,c7,U,_,U,bn ?_ ?_⟩
 .unfold tbT;rw[q5,q5,q5,b'.length_eq];simp
 refine⟨_,U,_,U,_,U,dc,_,c2,U,c7,by unfold tbT;rw[List.map_map];rfl,by rw[b'.length_eq];lia,λf2 _ e5 pm so=>?_⟩;cases mC (pm.trans b') so Z.so;have J:=a9.new e5 (.lst (zs.map V.str));have g:=M.trans J;refine⟨_,U,t,c.ll,c.lp,dg,f2,W,kg,D,zs,N,b9 ((akN (cN ns)).zip (cu ns)),ks3,_,U,⟨⟨_,g _ _ ht⟩,⟨lv,g _ _ e9,rl.imp λv d h=>Ln.keep (λb xs=>g b _) h⟩,⟨_,g _ _ a2,rp.imp λv p h=>pgS g h⟩,J _ _ d2,gvS J gv,ah,J _ _ (a4 _ _ a0),f0,Z.nd,Yo,nl,λi z hz=>?_⟩,C,λ_ f' L a3 _ f4 mem=>?_⟩
 .obtain⟨g0,e⟩:=DW d3;have lt:=(qe.mp hz).1;refine⟨⟨.int 1,[b9 ((akN (cN ns)).zip (cu ns)) z]⟩,?_,U⟩;rw[<- e];show(((ssN (cN ns)).map (λs=>(⟨.int s.2,[]⟩:LnD))++[⟨.non,[]⟩])++zs.map (λz=>⟨.int 1,[b9 ((akN (cN ns)).zip (cu ns)) z]⟩)++g0)[3+i]?=_;rw[qM,qK (by show 3<=_;lia)];show(_++_)[3+i-3]?=_;rw[Nat.add_sub_cancel_left,Q6 (by rwa[q5]),qD,hz]
  rfl
 have a1:=g.trans a3
 have co:CoK D (clK D L):=λl=>by
  rw[rB]
  cases e:hue D l with
  |none=>rw[qZ λh=>(mem l).mp h e];rfl
  |some z=>rw[Q0 ((mem l).mpr (by rw[e];simp))];rfl
 refine⟨_,U,U,_,U,bn U ?_⟩;refine⟨_,U,_,U,_,U,t,c.lp,f',dg,_,_,_,N.ps,_,kg,D,_,U,a1 _ _ ht,a1 _ _ a2,rp.imp λv p h=>pgS a1 h,U,f4,(J.trans a3) _ _ d2,co,gvS (J.trans a3) gv,C.fit,Yo,λl z h=>PO.c1 z (zC z (C.way l z h).1),λ_ _ z1 f3 _ d' p1 o1=>?_⟩;have b3:=g3.trans (b5.trans (a4.trans (J.trans (a3.trans f3))))
 have tr:∀d∈ai (bdN ns),∀e∈ai [d],e∈ai (bdN ns):=λd hd e K0=>by
  rw[ai,ai,qw]at K0;exact fU _ hd K0
 have cz:∀d∈ai (bdN ns),∀k∈d.cards,k∈zs:=λd hd k hk=>sub k (List.mem_flatMap.mpr ⟨d,hd,hk⟩);refine⟨_,U,H3,ld,ud,_,zs,U,s4.trans b3,b3 _ _ h4,r4,λd hd=>?_,fl,e0,λk hk=>PO.c1 k (zC k hk),λ_ _ _ f8 _ e4 p2 o2=>?_⟩
 .have le:=i7 _ hd;have ll:=le.1.length_le;have dp:=PO.dp;exact⟨by rw[aA,aA];have:=le.2;lia,by rw[ai,ai,qw];lia,λe K0=>⟨cz e (tr d hd e K0),c5 e (tr d hd e K0)⟩,yk ns d hd⟩
 cases mC (p1.trans (C.row.trans p2.symm)) o1 o2
 have ok:∀r∈z1,PyData.strOk r=true:=λr f=>by
  obtain⟨d,hd,h⟩:=List.mem_flatMap.mp (p2.mem_iff.mp f);refine Fa (λk hk=>?_) (λk hk=>?_) (λx _ s _ e=>?_) r h
  .exact Fq _ k (zC k hk)
  .obtain⟨e,K0,hk⟩:=List.mem_flatMap.mp hk;exact cz e (tr d hd e K0) k hk
  .subst e;exact g1 _ hd s (by simp[aa.strs])
 exists _,_,.lst (SqL.of (f8 _ _ d')) (me z1),.lst (SqL.of e4) (me z1),mJ ok,mJ ok;rw[SeqAt.eqv_refl _ (SeqAt.canLay_of_shaped (mJ ok))];exact q _
end
theorem fM(P:Params)(f:Addr)(st:Stmt){e:Value}{g d:Option Addr}{kV b pm a ct:Value}(l:(hk P).lookup f=some ⟨e,g,.func (W.fnOf x qual (fG st) (eP st) (aE st) .none kV b pm d a ct),osl⟩:=by k_is)
 (c:W.codeIn (hk P) a qual=true:=by k_is) (k:W.keepIn (hk P) (.ref f)=true:=by k_is):Fun (hk P) x qual st f (W.fnOf x qual (fG st) (eP st) (aE st) .none kV b pm d a ct):=EG l c k
theorem bG(h:∀x0,R [x0]):∀us:LL,us.length=1->R us
 |[_],_=>h _
theorem cw(h:∀x0 a,R [x0,a]):∀us:LL,us.length=2->R us
 |[_,_],_=>h _ _
theorem fO(h:∀x0 b a,R [x0,b,a]):∀us:LL,us.length=3->R us
 |[_,_,_],_=>h _ _ _
theorem j5(h:∀x0 b a c,R [x0,b,a,c]):∀us:LL,us.length=4->R us
 |[_,_,_,_],_=>h _ _ _ _
theorem ww(h:∀x0 b a c d,R [x0,b,a,c,d]):∀us:LL,us.length=5->R us
 |[_,_,_,_,_],_=>h _ _ _ _ _
theorem mM{P:Params}{v:Value}(X:(hk P).In h)(G:h.Ns mainGlobals mg)(e:W.nsIn (hk P) mainGlobals x=some (some v):=by k_is):mg x=some v:=W.mg_of X G e
theorem nM{P:Params}(X:(hk P).In h)(G:h.Ns mainGlobals mg)(e:W.nsIn (hk P) mainGlobals x=some none:=by k_is):mg x=none:=W.mg_none_of X G e
theorem oM{P:Params}{f:Str}(e:W.findIn (hk P) (.ref C) f=some none:=by k_is):cU (hk P) C f:=e
set_option maxHeartbeats 0 in
theorem FX{fa:Addr}(X:(hk w.params).In h)(G:h.Ns mainGlobals mg)(Z:mg "law"=some (.ref fa)):
 ∃fd:FuncData,(∀(s:Shared)(v:Value),BindsTo s fd ⟨[v],[]⟩ [("_law_script",v)])/\∀base:Heap,(hk w.params).In base->base.Ns mainGlobals mg->aF PySem.Challenge.rw_handflow_k35_whole_cards_go_through.prog w (hk w.params) mg base CX0 76 fa fd ["_law_script"] (iF (hk w.params)):=by
 k_fill
 cases Z.symm.trans (mM (v:=.ref 359) X G);have F0:=fM w.params 23 ni;have F1:=fM w.params 30 mV;have F2:=fM w.params 37 nQ;have F3:=fM w.params 44 nO;have F4:=fM w.params 49 jP;have F5:=fM w.params 56 mY;have F6:=fM w.params 64 mW;have W:=fM w.params 71 ng;have V:=fM w.params 78 mZ;have F9:=fM w.params 85 nK;have e:=fM w.params 92 nN;have g:=fM w.params 97 jR;have a:=fM w.params 111 oo;have a2:=a.binds (ps:=["self"]) λ_ _ _ _ _ _=>bG λ_=>U;have S:=fM w.params 118 oj;have a1:=S.binds (ps:=["self","length","first"]) λ_ _ _ _ _ _=>fO λ_ _ _=>U;have N:=fM w.params 123 jY;have a0:=N.binds (ps:=["self","count"]) λ_ _ _ _ _ _=>cw λ_ _=>U;have m:=fM w.params 130 oh;have Y:=m.binds (ps:=["self","part"]) λ_ _ _ _ _ _=>cw λ_ _=>U;have f:=fM w.params 135 jX;have a4:=f.binds (ps:=["self","cards"]) λ_ _ _ _ _ _=>cw λ_ _=>U;have A:=fM w.params 142 og;have a3:=A.binds (ps:=["self","cards","wires"]) λ_ _ _ _ _ _=>fO λ_ _ _=>U;have q:=fM w.params 156 nP;have y:=fM w.params 163 nr;have I:=fM w.params 170 nH;have x:=fM w.params 175 jQ;have B:=fM w.params 182 mX;have r:=fM w.params 189 nF;have Q:=fM w.params 196 nG;have d:=fM w.params 203 nh;have c:=fM w.params 210 nJ;have o:=fM w.params 217 nq;have R:=fM w.params 224 nE;have P:=fM w.params 231 nj;have M:=fM w.params 238 nB;have z:=fM w.params 245 nD;have t:=fM w.params 250 gJ;have i:=fM w.params 257 nX;have E:=fM w.params 264 nR;have C:=fM w.params 271 nW;have J:=fM w.params 278 nU;have L:=fM w.params 285 o9;have n:=fM w.params 290 jS;have F:=fM w.params 295 jT;have K:=fM w.params 302 o0;have j:=fM w.params 307 jW;have H:=fM w.params 312 jV;have u:=fM w.params 319 oa;have k:=fM w.params 326 nY;have b:=fM w.params 333 o7;have p:=fM w.params 340 nV;have D:=fM w.params 345 jU;have K0:=fM w.params 352 o6;have l:=fM w.params 359 fK;have Db:(hk w.params).lookup 15=some ⟨.type "tuple",none,.seq #[vs "while" 189,vs "repeat" 190],#[]⟩:=by k_is
 have Go:(hk w.params).lookup 16=some ⟨.type "tuple",none,.seq #[vs "if" 192,vs "while" 193],#[]⟩:=by k_is
 have Gp:(hk w.params).lookup 57=some ⟨.type "tuple",none,.seq #[vs "give" 245,vs "while" 246],#[]⟩:=by k_is
 have T:Tx PySem.Challenge.rw_handflow_k35_whole_cards_go_through.prog w (hk w.params) mg (Adr.mk 23 _ 30 _ 37 _ 44 _ 49 _ 56 _ 64 _ 71 _ 78 _ 85 _ 92 _ 97 _ 111 _ 118 _ 123 _ 130 _ 135 _ 142 _ 156 _ 163 _ 170 _ 175 _ 182 _ 189 _ 196 _ 203 _ 210 _ 217 _ 224 _ 231 _ 238 _ 245 _ 250 _ 257 _ 264 _ 271 _ 278 _ 285 _ 290 _ 295 _ 302 _ 307 _ 312 _ 319 _ 326 _ 333 _ 340 _ 345 _ 352 _ 359 _ 15 16 243 57 290 145):=Tx.mk ⟨mM X G,F0,F0.binds λ_ _ _ _ _ _=>bG λ_=>U⟩ ⟨mM X G,F1,F1.binds λ_ _ _ _ _ _=>bG λ_=>U⟩ ⟨mM X G,F2,F2.binds λ_ _ _ _ _ _=>bG λ_=>U⟩ ⟨mM X G,F3,F3.binds λ_ _ _ _ _ _=>bG λ_=>U⟩ ⟨mM X G,F4,F4.binds λ_ _ _ _ _ _=>bG λ_=>U⟩ ⟨mM X G,F5,F5.binds λ_ _ _ _ _ _=>bG λ_=>U⟩ ⟨mM X G,F6,F6.binds λ_ _ _ _ _ _=>bG λ_=>U⟩ ⟨mM X G,W,W.binds λ_ _ _ _ _ _=>bG λ_=>U⟩ ⟨mM X G,V,V.binds λ_ _ _ _ _ _=>bG λ_=>U⟩ ⟨mM X G,F9,F9.binds λ_ _ _ _ _ _=>bG λ_=>U⟩ ⟨mM X G,e,e.binds λ_ _ _ _ _ _=>bG λ_=>U⟩ ⟨mM X G,g,g.binds λ_ _ _ _ _ _=>cw λ_ _=>U⟩ a a2 S a1 N a0 m Y f a4 A a3 ⟨mM X G,q,q.binds λ_ _ _ _ _ _=>cw λ_ _=>U⟩ ⟨mM X G,y,y.binds λ_ _ _ _ _ _=>cw λ_ _=>U⟩ ⟨mM X G,I,I.binds λ_ _ _ _ _ _=>cw λ_ _=>U⟩ ⟨mM X G,x,x.binds λ_ _ _ _ _ _=>cw λ_ _=>U⟩ ⟨mM X G,B,B.binds λ_ _ _ _ _ _=>cw λ_ _=>U⟩ ⟨mM X G,r,r.binds λ_ _ _ _ _ _=>j5 λ_ _ _ _=>U⟩ ⟨mM X G,Q,Q.binds λ_ _ _ _ _ _=>fO λ_ _ _=>U⟩ ⟨mM X G,d,d.binds λ_ _ _ _ _ _=>cw λ_ _=>U⟩ ⟨mM X G,c,c.binds λ_ _ _ _ _ _=>cw λ_ _=>U⟩ ⟨mM X G,o,o.binds λ_ _ _ _ _ _=>j5 λ_ _ _ _=>U⟩ ⟨mM X G,R,R.binds λ_ _ _ _ _ _=>cw λ_ _=>U⟩ ⟨mM X G,P,P.binds λ_ _ _ _ _ _=>cw λ_ _=>U⟩ ⟨mM X G,M,M.binds λ_ _ _ _ _ _=>fO λ_ _ _=>U⟩ ⟨mM X G,z,z.binds λ_ _ _ _ _ _=>ww λ_ _ _ _ _=>U⟩ ⟨mM X G,t,t.binds λ_ _ _ _ _ _=>bG λ_=>U⟩ ⟨mM X G,i,i.binds λ_ _ _ _ _ _=>j5 λ_ _ _ _=>U⟩ ⟨mM X G,E,E.binds λ_ _ _ _ _ _=>cw λ_ _=>U⟩ ⟨mM X G,C,C.binds λ_ _ _ _ _ _=>fO λ_ _ _=>U⟩ ⟨mM X G,J,J.binds λ_ _ _ _ _ _=>ww λ_ _ _ _ _=>U⟩ ⟨mM X G,L,L.binds λ_ _ _ _ _ _=>fO λ_ _ _=>U⟩ ⟨mM X G,n,n.binds λ_ _ _ _ _ _=>bG λ_=>U⟩ ⟨mM X G,F,F.binds λ_ _ _ _ _ _=>bG λ_=>U⟩ ⟨mM X G,K,K.binds λ_ _ _ _ _ _=>bG λ_=>U⟩ ⟨mM X G,j,j.binds λ_ _ _ _ _ _=>bG λ_=>U⟩ ⟨mM X G,H,H.binds λ_ _ _ _ _ _=>bG λ_=>U⟩ ⟨mM X G,u,u.binds λ_ _ _ _ _ _=>cw λ_ _=>U⟩ ⟨mM X G,k,k.binds λ_ _ _ _ _ _=>bG λ_=>U⟩ ⟨mM X G,b,b.binds λ_ _ _ _ _ _=>j5 λ_ _ _ _=>U⟩ ⟨mM X G,p,p.binds λ_ _ _ _ _ _=>j5 λ_ _ _ _=>U⟩ ⟨mM X G,D,D.binds λ_ _ _ _ _ _=>fO λ_ _ _=>U⟩ ⟨mM X G,K0,K0.binds λ_ _ _ _ _ _=>bG λ_=>U⟩ ⟨mM X G,l,l.binds λ_ _ _ _ _ _=>bG λ_=>U⟩ (nM X G) (nM X G) (nM X G) (nM X G) (nM X G) (nM X G) (nM X G) (nM X G) (nM X G) (nM X G) (nM X G) (nM X G) (mM X G) (λ_=>.inr ⟨_,_,_,Db,U,U,Yk,.cons ⟨_,U⟩ (.cons ⟨_,U⟩ (.nil))⟩) (mM X G) (λ_=>.inr ⟨_,_,_,Go,U,U,Yk,.cons ⟨_,U⟩ (.cons ⟨_,U⟩ (.nil))⟩) (mM X G) (mM X G) (λ_=>.inr ⟨_,_,_,Gp,U,U,Yk,.cons ⟨_,U⟩ (.cons ⟨_,U⟩ (.nil))⟩) (mM X G) (mM X G) (Cls.mk (by k_is) (by k_is) (by k_is) (by k_is)) (Mk.mk (by k_is) (by k_is) (by k_is) (by k_is)) (cV.mk (by k_is) (by k_is) (by k_is)) (cV.mk (by k_is) (by k_is) (by k_is)) (cV.mk (by k_is) (by k_is) (by k_is)) (cV.mk (by k_is) (by k_is) (by k_is)) (cV.mk (by k_is) (by k_is) (by k_is)) oM oM oM oM;exact⟨_,λs v=>.of_eq U,λbase _ _=>CU T⟩
theorem zg{l:W.OpenLaw}{q:Program}{d:DefRec}{K:Params->W.Frag}(hn:l.most=some 63)(b:d.params.defaults=[])
 (i:∀(w:World)(h:Heap),YP w h->(K w.params).In h)
 (F:∀(w:World)(mg:Str->LO)(c:Addr)(h:Heap),(K w.params).In h->h.Ns mainGlobals mg->mg d.name=some (.ref c)->
  ∃fd:FuncData,(∀(s:Shared)(u:Value),BindsTo s fd ⟨[u],[]⟩ [("_law_script",u)])/\∀base:Heap,(K w.params).In base->base.Ns mainGlobals mg->aF l.prog w (K w.params) mg base CX0 76 c fd ["_law_script"] (iF (K w.params))):
 W.WalkO q loose XP YP l.row.toRowW d [] (λf vs=>PySem.call f vs):=
 L2.zd (n:=63) (k:=76) (x:="_law_script") (CX:=λ_=>CX0) (sp:=λw=>iF (K w.params)) hn Yk b ⟨U,Yk,Yk,U⟩ i F (λ_ _ a ns hl hb e g=>⟨a,ns,U,g,hl,hb,e,λ_=>U⟩) λ_ _ _ _ _ z=>z
noncomputable def Fd:PySem.DefRec:=⟨"law",fG fK,eP fK,aE fK,defPos fK⟩
theorem wX{p:Program}{w:World}{A:LO}:∀{m:Nat}{x d:W.SharedT}{y:Thread},goT p w A m x y=some d->W.topRun PySem.treeTable p w 11 A m x.abs y=some d.abs
 |0,_,_,_,h=>nomatch h
 |m+1,x,d,y,h=>by
  unfold goT at h;unfold W.topRun
  cases a:W.through y with
  |true=>rw[a]at h;cases h;rfl
  |false=>
   rw[a]at h
   cases b:W.stepOk 11 A y with
   |false=>rw[b]at h;cases h
   |true=>
    rw[b]at h
    cases c:W.stepT (denote PySem.treeTable) p w x y with
    |none=>rw[c]at h;cases h
    |some z=>rw[c]at h;rw[W.stepT_spec c];exact wX h
theorem DV{p q:Program}{Xt:Shared->Bool}{Yf:Shared->α}{Ya:World->α}{N:Nat}(e:W.opening p=W.plainProg p.main.scope.names)(j:Nat.ble 600 N=true)(f:∀s,fenceModules? p s=some s)
 (H:∀w,EndsT p q loose Xt Yf Ya N w):W.LeftO p q loose Xt Yf Ya N:=λw=>by
 obtain⟨⟨h,c,d,k,os⟩,u,b⟩:=qP.mp (W.boot_open e j f w);obtain⟨rfl,rfl,rfl,rfl⟩:h=W.boot_heap w.params/\c=#[]/\d=W.boot_drawn/\k=W.boot_toks:=by simpa using b
 obtain⟨s,r,l⟩:=qP.mp (H w os);have r:=wX r;rw[bs_is]at r;obtain⟨l1,l2,g⟩:_/\_/\_:=by simpa only[Prod.mk.injEq]using l
 have a:((W.boot_heap w.params).isNs mainGlobals && (#[]:Array GenState).size == 0)=true:=by kernel_rfl
 have i:(W.boot_heap w.params).objs.size=11:=by kernel_rfl
 have t:W.topFrom PySem.treeTable p w N ⟨W.boot_heap w.params,#[],W.boot_drawn,W.boot_toks,os⟩=some s.abs:=by
  unfold W.topFrom;dsimp only;rw[a,i,r];show(match W.staticsOk (PySem.importedModules p.main.body) (W.boot_heap w.params) s.abs.heap && W.namesBound p s.abs.heap && W.gensDone s.abs && W.laidKept (W.boot_heap w.params) s.abs.heap with|true=>_|false=>_)=_;rw[l1]
 unfold W.openEnds;rw[u];show(W.topFrom PySem.treeTable p w N _).map _=_;rw[t];exact congrArg some (Prod.ext l2 g)
set_option maxHeartbeats 0 in
theorem left:W.LeftO PySem.Challenge.pw_handflow_k35_whole_cards_go_through vw [] xt hkH.obs hkH.val 3872:=DV (by kernel_rfl) Yk (λ_=>by kernel_rfl) leftF
end K35
open PySem PySem.W PyProof.Rows
set_option maxRecDepth 100000 in
set_option maxHeartbeats 0 in
theorem PySem.Challenge.cw_handflow_k35_whole_cards_go_through_holds : PySem.Challenge.rw_handflow_k35_whole_cards_go_through.Holds := by
 w_on;refine holds_law K35.said fun said=>?_
 refine holds_open (q:=K35.vw) (loose:=[]) (Xt:=K35.xt) (XP:=XL K35.vw []) (Yf:=Hook.obs K35.hkH) (Ya:=Hook.val K35.hkH) (YP:=Hook.says K35.hkH) (d:=K35.Fd) (kwd:=[]) (N:=3872) K35.left (Hook.of K35.hkH) (Hook.keeps K35.hkH) (fun s e=>xl_of s (Bool.and_eq_true_iff.mp e).1) XL.keeps (by kernel_rfl) (by kernel_rfl) (by kernel_rfl) (fun s e=>recFacts_of (Bool.and_eq_true_iff.mp e).2) (by rfl) (by first|assumption|decide +kernel) (by decide +kernel) ⟨rfl,rfl,rfl,rfl,rfl,by decide +kernel⟩ ?hw ?hc
 (case hw=>w_witness2)
 refine K35.zg (l:=PySem.Challenge.rw_handflow_k35_whole_cards_go_through) rfl (by kernel_rfl) (K:=K35.hk) (fun w h Y=>PySem.W.kIn_of (K:=K35.hk) (as:=K35.hks) (e:=K35.hk_as) Y) ?F
 case F=>exact fun w mg fa h X G e=>K35.FX X G e
