import PyProof.Rows.All
import Wide.All
import OpenK.AllK
import Wide.FinOn
import Lean
import PyProof.EqAt
import PyProof.EqKinds
import PyProof.TupleCall
import PySem.Challenge.RW_handflow_k27_stores_mended
set_option Elab.async false
set_option maxRecDepth 100000
variable {α κ:Type}{C I a b dx f it:PySem.Addr}{u:PySem.Value}{P prog:PySem.Program}{w:PySem.World}{base h h':PySem.Heap}{c name nm qual x:PySem.Str}{e tg:PySem.Expr}{pins pins':List (PySem.Addr×PySem.Obj)}{s s':PySem.Shared}{g g':Array PySem.GenState}{ep i j kk n t':Nat}{ch fp ow:List PySem.Addr}{N Nc Z loose ps rms rooms sn ys:List PySem.Str}{M:PySem.Model}{A:PySem.Around}{E Q:PySem.Value->PySem.Shared->Prop}{t:PySem.SetTable}{R:List PySem.Value->Prop}{apos cpos pos pos':PySem.Pos}{items xs:Array PySem.Value}{K:PySem.W.Frag}{st:Nat->List Nat}{es:Array (Int×PySem.Value)}{body:List PySem.Stmt}{p:Nat->Bool}{bm its us:List PySem.Value}{mA mg:PySem.Str->Option PySem.Value}{kw:List (PySem.Str×PySem.Value)}{env:PySem.Env}{outer:List PySem.Env}{fd:PySem.FuncData}{scope:PySem.Scope}{osl:Array (Option PySem.Value)}{zs:Nat->Nat}{B:Prop}{cells:List (PySem.Str×PySem.Addr)}{elts ifs:List PySem.Expr}{js:List Nat}{XP:(PySem.Str->Option PySem.Value)->PySem.Heap->Prop}{YP:PySem.World->PySem.Heap->Prop}{ab b1 b2 hdct shut:Bool}{k0 k1 k2 k3 k5:Option PySem.Value}{col:Option Bool}{dd:Option PySem.Addr}{newId:String}{oe:PySem.Obj}{G:Array PySem.GenState->Array PySem.GenState->Prop}{most:Int}{m':PySem.Str->List Int}{ss':List (PySem.Str×Int)}
abbrev LS:=List PySem.Str
abbrev LI:=List Int
abbrev LL:=List PySem.Value
abbrev LD:=Array PySem.Value
abbrev LO:=Option PySem.Value
abbrev LK:=List PySem.Addr
abbrev LG:=List Nat
abbrev LF:=List (PySem.Str×Int)
abbrev LP:=PySem.Value->PySem.Shared->Prop
abbrev LR:=List PySem.Expr
set_option linter.all false
set_option genSizeOf false
local macro_rules|`(tactic|omega)=>`(tactic|lia)
local macro_rules|`(tactic|exists $x,*)=>`(tactic|refine⟨$x,*, ?_⟩)
theorem U{b:Sort u}{a:b}:a=a:=rfl
theorem Oi{p:Prop}{b:Sort u}{a:b}:a=a\/p:=.inl rfl
theorem Oy{c:Sort u}{e:Sort v}{d:Sort w}{f:c->e->d}:∀a b,f a b=f a b:=λ_ _=>rfl
section
open PySem PySem.Spec PyProof.Rows PySem.W
theorem Yd{p:Prop}(h:p:=by decide +kernel):p:=h
theorem Yk{p:Prop}(h:p:=by decide):p:=h
theorem Yo{p:Prop}(h:p:=by omega):p:=h
abbrev Yq:=Value->Shared->Prop
def qb:=@wpAny_bind
def qc:=@List.length_map
def qf:=@Heap.get?_push_of_some
def qh:=@List.length_append
def qi:=@List.getElem?_eq_getElem
def qk:=@wpAny_pure
def qo:=@Nat.le_refl
def qp:=@List.getElem?_eq_some_iff
def qq:=@PySem.F.plainAttrs_list
def qr:=@List.mem_append
def qt:=@Bool.false_ne_true
def qu:=@List.getD_eq_getElem?_getD
def qv:=@List.mem_cons_of_mem
def qw:=@List.mem_cons_self
def qy:=@Heap.get?_push_size
def qz:=@Heap.lt_size
def qA:=@List.take_add_one
def qC:=@Nat.zero_le
def qD:=@List.mem_cons
def qE:=@PySem.F.slot_list_append
def qF:=@PySem.F.type_list_append
def qG:=@List.append_nil
def qH:=@Nat.le_trans
def qI:=@List.mem_of_getElem?
def qJ:=@List.length_cons
def qK:=@List.size_toArray
def qL:=@Nat.lt_of_lt_of_le
def qM:=@List.getElem?_map
def qN:=@List.flatMap_cons
def qO:=@Nat.ne_of_lt
def qP:=@List.take_length
def qQ:=@List.mem_append_right
def qR:=@Option.some.inj
def qS:=@List.length_take
def qT:=@List.getElem?_append_right
def qU:=@Array.length_toList
def qV:=@List.append_assoc
def qW:=@List.map_append
def qX:=@Option.map_eq_some_iff
def qY:=@List.not_mem_nil
def qZ:=@List.map_cons
def Q0:=@List.mem_singleton
def Q3:=@Array.getElem?_toList
def Q4:=@List.flatMap_append
def Q5:=@List.mem_append_left
def Q6:=@wpAny_setState_of
def Q7:=@Int.toNat_natCast
def Q8:=@List.length_drop
def Q9:=@if_neg
def Qa:=@if_pos
def Qb:=@decide_eq_true
def Qc:=@decide_eq_false
def Qd:=@absurd
def Qe:=@List.getElem?_append_left
def Qf:=@List.length_singleton
def Qg:=@PySem.boot_len
def Qh:=@List.find?_cons
def Qi:=@Int.emod_nonneg
def Qj:=@Nat.lt_succ_self
def Qk:=@Nat.lt_irrefl
def Ql:=@of_decide_eq_true
def Qm:=@List.length_range
def Qn:=@Int.emod_lt_of_pos
def Qo:=@Heap.size_push
def Qp:=@Heap.get?_update_self
def Qq:=@PySem.mem_of_lookup
def Qr:=@wpAny_call_entry
def Qs:=@Bool.false_eq_true
def Qt:=@List.nil_append
def Qu:=@List.cons_append
def Qv:=@PySem.F.type_list_extend
def Qw:=@PySem.F.slot_list_extend
def Qx:=@List.getElem?_eq_none
def Qy:=@Nat.lt_succ_of_lt
def Qz:=@List.pairwise_singleton
def QA:=@List.filter_append
def QB:=@Heap.get?_update_other
def QC:=@List.take_append_drop
def QD:=@wpAny_holding
def QE:=@wpAny_seqItems
def QF:=@PySem.W.kia_one
def QG:=@Nat.not_lt_zero
def QH:=@List.foldl_cons
def QI:=@List.length_dropLast
end
namespace L2
open PySem PySem.Spec PyProof.Rows PySem.W
def inClass(s:Stmt)(j:Nat):Stmt:=match s with
 |.ClassDef _ _ _ body _ _ _ _ _ _ _=>body.getD j (.Pass ⟨0,0,0,0⟩)
 |_=>.Pass ⟨0,0,0,0⟩
def ip(s:Stmt):Arguments:=match s with
 |.FunctionDef _ a _ _ _ _ _ _ _ _=>a
 |_=>{ posonlyargs:=[],args:=[],vararg:=none,kwonlyargs:=[],kw_defaults:=[],kwarg:=none,defaults:=[] }
def gW(s:Stmt):List Stmt:=match s with
 |.FunctionDef _ _ b _ _ _ _ _ _ _=>b
 |_=>[]
def aD(s:Stmt):Scope:=match s with
 |.FunctionDef _ _ _ _ _ _ F _ _ _=>F
 |_=>{ kind:=.function,names:=[],isGenerator:=false,isCoroutine:=false }
end L2
namespace K27
open PySem L2
def top(i:Nat):Stmt:=PySem.Challenge.pw_handflow_k27_stores_mended.main.body.getD i (.Pass ⟨0,0,0,0⟩)
noncomputable def defPos(s:Stmt):Pos:=match s with
 |.FunctionDef _ _ _ _ _ _ _ _ _ p=>p
 |_=>⟨0,0,0,0⟩
abbrev vs(x:String)(t:Nat):Value:=.str (Str.ofString x) t
abbrev de(P:Params)(x:String)(t:Nat)(v:Value):DictEntry:=⟨PyData.keyHash P (Str.ofString x),vs x t,v⟩
abbrev co(a b:String)(t l n r:Nat)(x y z u:Value)(m:Nat):Obj:=Obj.mk (.type "code") none (Data.fields #[vs a t,vs b (t+1),vs "/claim/cut.py" (t+2),.int l 0,.int n 0,.int 0 0,.int 0 0,.int 3 0,.ref r,.bool true,.int 181 0,.ref (r+1),x,y,z,u,.int m 0,.int l 0,vs "/claim/cut.py" (m+1)]) #[]
abbrev fo(a b:String)(s:Stmt)(m:String)(t c:Nat):Obj:=Obj.mk (.type "function") none (.func (PySem.W.fnOf a b (ip s) (gW s) (aD s) .none .none .none (vs m t) none (.ref c) .none)) #[]
noncomputable def hk:Params->PySem.W.Frag:=λP=>
 (nat_lit 2,Obj.mk .none none (Data.dict #[]) #[]) ::
 (nat_lit 3,Obj.mk (.type "dict") none (Data.dict #[de P "__name__" 165 (vs "law_handflow_k27_stores_mended" 620),de P "__doc__" 166 .none,de P "__package__" 167 .none,de P "__loader__" 168 (.builtin "__main__.__loader__#opaque"),de P "__spec__" 169 .none,de P "__annotations__" 170 (.ref 6),de P "__builtins__" 171 (.ref 4),de P "__file__" 173 (vs "/claim/cut.py" 172),de P "__cached__" 174 .none,de P "INTO" 190 (.int 3 189),de P "OUT_OF" 192 (.int 4 191),de P "waits_of" 200 (.ref 21),de P "waits_behind" 206 (.ref 26),de P "waits_for_cards" 218 (.ref 33),de P "waits_by" 224 (.ref 38),de P "numbers_by_store" 235 (.ref 45),de P "Looking" 300 (.ref 81),de P "looked" 308 (.ref 92),de P "looked_through" 317 (.ref 99),de P "Mender" 378 (.ref 135),de P "mended" 384 (.ref 144),de P "thinned" 393 (.ref 151),de P "peaks_of" 405 (.ref 158),de P "LOOPS" 410 (.ref 159),de P "LOOKERS" 413 (.ref 160),de P "all_deeds" 423 (.ref 167),de P "blocks_within" 430 (.ref 174),de P "names_in" 436 (.ref 179),de P "read_by_set" 443 (.ref 186),de P "OUTLET" 447 (vs ">" 446),de P "OUTLET_KEEPERS" 450 (.ref 187),de P "touched" 459 (.ref 194),de P "other_cards_in" 466 (.ref 201),de P "put_card" 473 (.ref 208),de P "get_card" 480 (.ref 215),de P "cards_of" 490 (.ref 222),de P "FlowError" 520 (.ref 239),de P "Starved" 536 (.ref 252),de P "TooMuch" 552 (.ref 264),de P "MOST_DEEDS" 556 (.int 2000 555),de P "deeds_of" 564 (.ref 273),de P "counted" 573 (.ref 280),de P "written" 582 (.ref 287),de P "written_rounds" 591 (.ref 294),de P "written_once" 599 (.ref 301),de P "owner_of" 607 (.ref 308),de P "check_gets" 619 (.ref 315),de P "_law_cell_at" 629 (.ref 322),de P "_law_mixed" 638 (.ref 329),de P "_law_whole" 645 (.ref 336),de P "_law_letters" 656 (.ref 343),de P "_law_spelt" 664 (.ref 350),de P "_law_pool" 681 (.ref 357),de P "_law_simple" 696 (.ref 364),de P "_law_opened" 714 (.ref 371),de P "_law_block" 731 (.ref 378),de P "_law_moves" 742 (.ref 385),de P "_law_reach" 755 (.ref 392),de P "_law_length" 763 (.ref 399),de P "_law_program" 769 (.ref 404),de P "_law_ahead" 775 (.ref 409),de P "_law_lacks" 789 (.ref 416),de P "_law_do" 800 (.ref 423),de P "_law_walk" 812 (.ref 430),de P "_law_number" 823 (.ref 437),de P "_law_owned" 833 (.ref 444),de P "_law_meets" 839 (.ref 449),de P "_law_paper" 847 (.ref 456),de P "_law_ringed" 853 (.ref 461),de P "_law_tight" 865 (.ref 468),de P "_law_stores" 875 (.ref 475),de P "_law_papers" 881 (.ref 480),de P "law" 887 (.ref 485)] 73) #[]) ::
 (nat_lit 20,co "waits_of" "waits_of" 193 4 2 15 .none (.ref 17) (.ref 18) (.ref 19) 198) ::
 (nat_lit 21,fo "waits_of" "waits_of" (top 3) "handflow.waits" 187 20) ::
 (nat_lit 25,co "waits_behind" "waits_behind" 201 6 3 22 .none .none .none (.ref 24) 204) ::
 (nat_lit 26,fo "waits_behind" "waits_behind" (top 4) "handflow.waits" 187 25) ::
 (nat_lit 32,co "waits_for_cards" "waits_for_cards" 207 19 1 27 .none (.ref 29) (.ref 30) (.ref 31) 216) ::
 (nat_lit 33,fo "waits_for_cards" "waits_for_cards" (top 5) "handflow.waits" 187 32) ::
 (nat_lit 37,co "waits_by" "waits_by" 219 27 3 34 .none .none .none (.ref 36) 222) ::
 (nat_lit 38,fo "waits_by" "waits_by" (top 6) "handflow.waits" 187 37) ::
 (nat_lit 44,co "numbers_by_store" "numbers_by_store" 225 29 2 39 .none (.ref 41) (.ref 42) (.ref 43) 233) ::
 (nat_lit 45,fo "numbers_by_store" "numbers_by_store" (top 7) "handflow.waits" 187 44) ::
 (nat_lit 56,co "__init__" "Looking.__init__" 250 38 2 53 .none .none .none (.ref 55) 253) ::
 (nat_lit 57,fo "__init__" "Looking.__init__" (inClass (top 9) 0) "handflow.looker" 236 56) ::
 (nat_lit 63,co "look_at" "Looking.look_at" 256 45 2 58 .none (.ref 60) (.ref 61) (.ref 62) 264) ::
 (nat_lit 64,fo "look_at" "Looking.look_at" (inClass (top 9) 1) "handflow.looker" 236 63) ::
 (nat_lit 70,co "stopped_by" "Looking.stopped_by" 267 57 2 65 .none (.ref 67) (.ref 68) (.ref 69) 274) ::
 (nat_lit 71,fo "stopped_by" "Looking.stopped_by" (inClass (top 9) 2) "handflow.looker" 236 70) ::
 (nat_lit 77,co "ring" "Looking.ring" 277 66 1 72 .none (.ref 74) (.ref 75) (.ref 76) 285) ::
 (nat_lit 78,fo "ring" "Looking.ring" (inClass (top 9) 3) "handflow.looker" 236 77) ::
 (nat_lit 79,Obj.mk (.type "tuple") none (Data.seq #[vs "finished" 288,vs "order" 289,vs "over" 290,vs "stuck" 291,vs "waits" 292]) #[]) ::
 (nat_lit 80,Obj.mk (.type "dict") none (Data.dict #[de P "__module__" 245 (vs "handflow.looker" 236),de P "__firstlineno__" 249 (.int 36 248),de P "__init__" 255 (.ref 57),de P "look_at" 266 (.ref 64),de P "stopped_by" 276 (.ref 71),de P "ring" 287 (.ref 78),de P "__static_attributes__" 293 (.ref 79),de P "__dict__" 295 (.ref 82),de P "__weakref__" 297 (.ref 83),de P "__doc__" 298 .none] 4) #[]) ::
 (nat_lit 81,Obj.mk (.type "type") none (Data.cls (ClassData.mk (Str.ofString "Looking") [.type "object"] [.ref 81,.type "object"] 80 (Str.ofString "Looking") true [] [] false none false)) #[none,none,some (vs "Looking" 238),some (vs "Looking" 246),some (.builtin "object.__new__"),some (.bool true)]) ::
 (nat_lit 82,Obj.mk (.type "getset_descriptor") none (Data.fields #[vs "__dict__" 294,.ref 81,.builtin "function.__dict__",.builtin "function.__dict__#set"]) #[]) ::
 (nat_lit 83,Obj.mk (.type "getset_descriptor") none (Data.fields #[vs "__weakref__" 296,.ref 81,.builtin "ExceptionGroup.__weakref__",.none]) #[]) ::
 (nat_lit 91,co "looked" "looked" 301 76 2 86 .none (.ref 88) (.ref 89) (.ref 90) 306) ::
 (nat_lit 92,fo "looked" "looked" (top 10) "handflow.looker" 236 91) ::
 (nat_lit 98,co "looked_through" "looked_through" 309 78 1 93 .none (.ref 95) (.ref 96) (.ref 97) 315) ::
 (nat_lit 99,fo "looked_through" "looked_through" (top 11) "handflow.looker" 236 98) ::
 (nat_lit 110,co "__init__" "Mender.__init__" 332 88 3 107 .none .none .none (.ref 109) 335) ::
 (nat_lit 111,fo "__init__" "Mender.__init__" (inClass (top 13) 0) "handflow.mender" 318 110) ::
 (nat_lit 117,co "look_with" "Mender.look_with" 338 94 3 112 .none (.ref 114) (.ref 115) (.ref 116) 345) ::
 (nat_lit 118,fo "look_with" "Mender.look_with" (inClass (top 13) 1) "handflow.mender" 318 117) ::
 (nat_lit 124,co "shorten" "Mender.shorten" 348 99 3 119 .none (.ref 121) (.ref 122) (.ref 123) 356) ::
 (nat_lit 125,fo "shorten" "Mender.shorten" (inClass (top 13) 2) "handflow.mender" 318 124) ::
 (nat_lit 131,co "paper" "Mender.paper" 359 109 2 126 .none (.ref 128) (.ref 129) (.ref 130) 365) ::
 (nat_lit 132,fo "paper" "Mender.paper" (inClass (top 13) 3) "handflow.mender" 318 131) ::
 (nat_lit 133,Obj.mk (.type "tuple") none (Data.seq #[vs "by_cards" 368,vs "deeds" 369,vs "stores" 370]) #[]) ::
 (nat_lit 134,Obj.mk (.type "dict") none (Data.dict #[de P "__module__" 327 (vs "handflow.mender" 318),de P "__firstlineno__" 331 (.int 86 330),de P "__init__" 337 (.ref 111),de P "look_with" 347 (.ref 118),de P "shorten" 358 (.ref 125),de P "paper" 367 (.ref 132),de P "__static_attributes__" 371 (.ref 133),de P "__dict__" 373 (.ref 136),de P "__weakref__" 375 (.ref 137),de P "__doc__" 376 .none] 4) #[]) ::
 (nat_lit 135,Obj.mk (.type "type") none (Data.cls (ClassData.mk (Str.ofString "Mender") [.type "object"] [.ref 135,.type "object"] 134 (Str.ofString "Mender") true [] [] false none false)) #[none,none,some (vs "Mender" 320),some (vs "Mender" 328),some (.builtin "object.__new__"),some (.bool true)]) ::
 (nat_lit 136,Obj.mk (.type "getset_descriptor") none (Data.fields #[vs "__dict__" 372,.ref 135,.builtin "function.__dict__",.builtin "function.__dict__#set"]) #[]) ::
 (nat_lit 137,Obj.mk (.type "getset_descriptor") none (Data.fields #[vs "__weakref__" 374,.ref 135,.builtin "ExceptionGroup.__weakref__",.none]) #[]) ::
 (nat_lit 143,co "mended" "mended" 379 112 2 140 .none .none .none (.ref 142) 382) ::
 (nat_lit 144,fo "mended" "mended" (top 14) "handflow.mender" 318 143) ::
 (nat_lit 150,co "thinned" "thinned" 385 119 1 145 .none (.ref 147) (.ref 148) (.ref 149) 391) ::
 (nat_lit 151,fo "thinned" "thinned" (top 15) "handflow.mender" 318 150) ::
 (nat_lit 157,co "peaks_of" "peaks_of" 394 124 1 152 .none (.ref 154) (.ref 155) (.ref 156) 403) ::
 (nat_lit 158,fo "peaks_of" "peaks_of" (top 16) "handflow.mender" 318 157) ::
 (nat_lit 159,Obj.mk (.type "tuple") none (Data.seq #[vs "while" 408,vs "repeat" 409]) #[]) ::
 (nat_lit 160,Obj.mk (.type "tuple") none (Data.seq #[vs "if" 411,vs "while" 412]) #[]) ::
 (nat_lit 166,co "all_deeds" "all_deeds" 414 139 1 161 .none (.ref 163) (.ref 164) (.ref 165) 421) ::
 (nat_lit 167,fo "all_deeds" "all_deeds" (top 20) "handflow.tree" 406 166) ::
 (nat_lit 173,co "blocks_within" "blocks_within" 424 146 1 168 .none (.ref 170) (.ref 171) (.ref 172) 428) ::
 (nat_lit 174,fo "blocks_within" "blocks_within" (top 21) "handflow.tree" 406 173) ::
 (nat_lit 178,co "names_in" "names_in" 431 152 1 175 .none .none .none (.ref 177) 434) ::
 (nat_lit 179,fo "names_in" "names_in" (top 22) "handflow.tree" 406 178) ::
 (nat_lit 185,co "read_by_set" "read_by_set" 437 159 1 180 .none (.ref 182) (.ref 183) (.ref 184) 441) ::
 (nat_lit 186,fo "read_by_set" "read_by_set" (top 23) "handflow.tree" 406 185) ::
 (nat_lit 187,Obj.mk (.type "tuple") none (Data.seq #[vs "give" 448,vs "while" 449]) #[]) ::
 (nat_lit 193,co "touched" "touched" 451 164 1 188 .none (.ref 190) (.ref 191) (.ref 192) 457) ::
 (nat_lit 194,fo "touched" "touched" (top 27) "handflow.cards" 444 193) ::
 (nat_lit 200,co "other_cards_in" "other_cards_in" 460 170 1 195 .none (.ref 197) (.ref 198) (.ref 199) 464) ::
 (nat_lit 201,fo "other_cards_in" "other_cards_in" (top 28) "handflow.cards" 444 200) ::
 (nat_lit 207,co "put_card" "put_card" 467 176 1 202 .none (.ref 204) (.ref 205) (.ref 206) 471) ::
 (nat_lit 208,fo "put_card" "put_card" (top 29) "handflow.cards" 444 207) ::
 (nat_lit 214,co "get_card" "get_card" 474 178 1 209 .none (.ref 211) (.ref 212) (.ref 213) 478) ::
 (nat_lit 215,fo "get_card" "get_card" (top 30) "handflow.cards" 444 214) ::
 (nat_lit 221,co "cards_of" "cards_of" 481 180 1 216 .none (.ref 218) (.ref 219) (.ref 220) 488) ::
 (nat_lit 222,fo "cards_of" "cards_of" (top 31) "handflow.cards" 444 221) ::
 (nat_lit 223,Obj.mk (.type "tuple") none (Data.seq #[.type "ValueError"]) #[]) ::
 (nat_lit 235,co "__init__" "FlowError.__init__" 505 188 3 230 .none (.ref 232) (.ref 233) (.ref 234) 511) ::
 (nat_lit 236,fo "__init__" "FlowError.__init__" (inClass (top 33) 0) "handflow.errors" 491 235) ::
 (nat_lit 237,Obj.mk (.type "tuple") none (Data.seq #[vs "place" 514]) #[]) ::
 (nat_lit 238,Obj.mk (.type "dict") none (Data.dict #[de P "__module__" 500 (vs "handflow.errors" 491),de P "__firstlineno__" 504 (.int 186 503),de P "__init__" 513 (.ref 236),de P "__static_attributes__" 515 (.ref 237),de P "__weakref__" 517 (.ref 240),de P "__doc__" 518 .none] 3) #[]) ::
 (nat_lit 239,Obj.mk (.type "type") none (Data.cls (ClassData.mk (Str.ofString "FlowError") [.type "ValueError"] [.ref 239,.type "ValueError",.type "Exception",.type "BaseException",.type "object"] 238 (Str.ofString "FlowError") true [] [.ref 252,.ref 264] false none false)) #[some (.ref 223),none,some (vs "FlowError" 493),some (vs "FlowError" 501),some (.builtin "ValueError.__new__"),some (.bool true)]) ::
 (nat_lit 240,Obj.mk (.type "getset_descriptor") none (Data.fields #[vs "__weakref__" 516,.ref 239,.builtin "ExceptionGroup.__weakref__",.none]) #[]) ::
 (nat_lit 243,Obj.mk (.type "tuple") none (Data.seq #[.ref 239]) #[]) ::
 (nat_lit 250,Obj.mk (.type "tuple") none (Data.seq #[]) #[]) ::
 (nat_lit 251,Obj.mk (.type "dict") none (Data.dict #[de P "__module__" 528 (vs "handflow.errors" 491),de P "__firstlineno__" 532 (.int 191 531),de P "__static_attributes__" 533 (.ref 250),de P "__doc__" 534 .none] 2) #[]) ::
 (nat_lit 252,Obj.mk (.type "type") none (Data.cls (ClassData.mk (Str.ofString "Starved") [.ref 239] [.ref 252,.ref 239,.type "ValueError",.type "Exception",.type "BaseException",.type "object"] 251 (Str.ofString "Starved") true [] [] false none false)) #[some (.ref 243),none,some (vs "Starved" 521),some (vs "Starved" 529),some (.builtin "ValueError.__new__"),some (.bool true)]) ::
 (nat_lit 255,Obj.mk (.type "tuple") none (Data.seq #[.ref 239]) #[]) ::
 (nat_lit 262,Obj.mk (.type "tuple") none (Data.seq #[]) #[]) ::
 (nat_lit 263,Obj.mk (.type "dict") none (Data.dict #[de P "__module__" 544 (vs "handflow.errors" 491),de P "__firstlineno__" 548 (.int 193 547),de P "__static_attributes__" 549 (.ref 262),de P "__doc__" 550 .none] 2) #[]) ::
 (nat_lit 264,Obj.mk (.type "type") none (Data.cls (ClassData.mk (Str.ofString "TooMuch") [.ref 239] [.ref 264,.ref 239,.type "ValueError",.type "Exception",.type "BaseException",.type "object"] 263 (Str.ofString "TooMuch") true [] [] false none false)) #[some (.ref 255),none,some (vs "TooMuch" 537),some (vs "TooMuch" 545),some (.builtin "ValueError.__new__"),some (.bool true)]) ::
 (nat_lit 272,co "deeds_of" "deeds_of" 557 197 1 267 .none (.ref 269) (.ref 270) (.ref 271) 562) ::
 (nat_lit 273,fo "deeds_of" "deeds_of" (top 38) "handflow.deeds" 553 272) ::
 (nat_lit 279,co "counted" "counted" 565 204 1 274 .none (.ref 276) (.ref 277) (.ref 278) 571) ::
 (nat_lit 280,fo "counted" "counted" (top 39) "handflow.deeds" 553 279) ::
 (nat_lit 286,co "written" "written" 574 210 1 281 .none (.ref 283) (.ref 284) (.ref 285) 580) ::
 (nat_lit 287,fo "written" "written" (top 40) "handflow.deeds" 553 286) ::
 (nat_lit 293,co "written_rounds" "written_rounds" 583 218 2 288 .none (.ref 290) (.ref 291) (.ref 292) 589) ::
 (nat_lit 294,fo "written_rounds" "written_rounds" (top 41) "handflow.deeds" 553 293) ::
 (nat_lit 300,co "written_once" "written_once" 592 223 1 295 .none (.ref 297) (.ref 298) (.ref 299) 597) ::
 (nat_lit 301,fo "written_once" "written_once" (top 42) "handflow.deeds" 553 300) ::
 (nat_lit 307,co "owner_of" "owner_of" 600 234 2 302 .none (.ref 304) (.ref 305) (.ref 306) 605) ::
 (nat_lit 308,fo "owner_of" "owner_of" (top 43) "handflow.deeds" 553 307) ::
 (nat_lit 314,co "check_gets" "check_gets" 608 236 1 309 .none (.ref 311) (.ref 312) (.ref 313) 617) ::
 (nat_lit 315,fo "check_gets" "check_gets" (top 44) "handflow.deeds" 553 314) ::
 (nat_lit 321,co "_law_cell_at" "_law_cell_at" 622 248 2 316 .none (.ref 318) (.ref 319) (.ref 320) 627) ::
 (nat_lit 322,fo "_law_cell_at" "_law_cell_at" (top 46) "law_handflow_k27_stores_mended" 620 321) ::
 (nat_lit 328,co "_law_mixed" "_law_mixed" 630 252 2 323 .none (.ref 325) (.ref 326) (.ref 327) 636) ::
 (nat_lit 329,fo "_law_mixed" "_law_mixed" (top 47) "law_handflow_k27_stores_mended" 620 328) ::
 (nat_lit 335,co "_law_whole" "_law_whole" 639 255 1 330 .none (.ref 332) (.ref 333) (.ref 334) 643) ::
 (nat_lit 336,fo "_law_whole" "_law_whole" (top 48) "law_handflow_k27_stores_mended" 620 335) ::
 (nat_lit 342,co "_law_letters" "_law_letters" 646 257 2 337 .none (.ref 339) (.ref 340) (.ref 341) 654) ::
 (nat_lit 343,fo "_law_letters" "_law_letters" (top 49) "law_handflow_k27_stores_mended" 620 342) ::
 (nat_lit 349,co "_law_spelt" "_law_spelt" 657 264 1 344 .none (.ref 346) (.ref 347) (.ref 348) 662) ::
 (nat_lit 350,fo "_law_spelt" "_law_spelt" (top 50) "law_handflow_k27_stores_mended" 620 349) ::
 (nat_lit 356,co "_law_pool" "_law_pool" 665 269 2 351 .none (.ref 353) (.ref 354) (.ref 355) 679) ::
 (nat_lit 357,fo "_law_pool" "_law_pool" (top 51) "law_handflow_k27_stores_mended" 620 356) ::
 (nat_lit 363,co "_law_simple" "_law_simple" 682 288 4 358 .none (.ref 360) (.ref 361) (.ref 362) 694) ::
 (nat_lit 364,fo "_law_simple" "_law_simple" (top 52) "law_handflow_k27_stores_mended" 620 363) ::
 (nat_lit 370,co "_law_opened" "_law_opened" 697 303 4 365 .none (.ref 367) (.ref 368) (.ref 369) 712) ::
 (nat_lit 371,fo "_law_opened" "_law_opened" (top 53) "law_handflow_k27_stores_mended" 620 370) ::
 (nat_lit 377,co "_law_block" "_law_block" 715 327 5 372 .none (.ref 374) (.ref 375) (.ref 376) 729) ::
 (nat_lit 378,fo "_law_block" "_law_block" (top 54) "law_handflow_k27_stores_mended" 620 377) ::
 (nat_lit 384,co "_law_moves" "_law_moves" 732 344 1 379 .none (.ref 381) (.ref 382) (.ref 383) 740) ::
 (nat_lit 385,fo "_law_moves" "_law_moves" (top 55) "law_handflow_k27_stores_mended" 620 384) ::
 (nat_lit 391,co "_law_reach" "_law_reach" 743 354 2 386 .none (.ref 388) (.ref 389) (.ref 390) 753) ::
 (nat_lit 392,fo "_law_reach" "_law_reach" (top 56) "law_handflow_k27_stores_mended" 620 391) ::
 (nat_lit 398,co "_law_length" "_law_length" 756 364 2 393 .none (.ref 395) (.ref 396) (.ref 397) 761) ::
 (nat_lit 399,fo "_law_length" "_law_length" (top 57) "law_handflow_k27_stores_mended" 620 398) ::
 (nat_lit 403,co "_law_program" "_law_program" 764 370 2 400 .none .none .none (.ref 402) 767) ::
 (nat_lit 404,fo "_law_program" "_law_program" (top 58) "law_handflow_k27_stores_mended" 620 403) ::
 (nat_lit 408,co "_law_ahead" "_law_ahead" 770 387 1 405 .none .none .none (.ref 407) 773) ::
 (nat_lit 409,fo "_law_ahead" "_law_ahead" (top 59) "law_handflow_k27_stores_mended" 620 408) ::
 (nat_lit 415,co "_law_lacks" "_law_lacks" 776 396 5 410 .none (.ref 412) (.ref 413) (.ref 414) 787) ::
 (nat_lit 416,fo "_law_lacks" "_law_lacks" (top 60) "law_handflow_k27_stores_mended" 620 415) ::
 (nat_lit 422,co "_law_do" "_law_do" 790 409 3 417 .none (.ref 419) (.ref 420) (.ref 421) 798) ::
 (nat_lit 423,fo "_law_do" "_law_do" (top 61) "law_handflow_k27_stores_mended" 620 422) ::
 (nat_lit 429,co "_law_walk" "_law_walk" 801 418 4 424 .none (.ref 426) (.ref 427) (.ref 428) 810) ::
 (nat_lit 430,fo "_law_walk" "_law_walk" (top 62) "law_handflow_k27_stores_mended" 620 429) ::
 (nat_lit 436,co "_law_number" "_law_number" 813 429 1 431 .none (.ref 433) (.ref 434) (.ref 435) 821) ::
 (nat_lit 437,fo "_law_number" "_law_number" (top 63) "law_handflow_k27_stores_mended" 620 436) ::
 (nat_lit 443,co "_law_owned" "_law_owned" 824 437 2 438 .none (.ref 440) (.ref 441) (.ref 442) 831) ::
 (nat_lit 444,fo "_law_owned" "_law_owned" (top 64) "law_handflow_k27_stores_mended" 620 443) ::
 (nat_lit 448,co "_law_meets" "_law_meets" 834 442 6 445 .none .none .none (.ref 447) 837) ::
 (nat_lit 449,fo "_law_meets" "_law_meets" (top 65) "law_handflow_k27_stores_mended" 620 448) ::
 (nat_lit 455,co "_law_paper" "_law_paper" 840 456 2 450 .none (.ref 452) (.ref 453) (.ref 454) 845) ::
 (nat_lit 456,fo "_law_paper" "_law_paper" (top 66) "law_handflow_k27_stores_mended" 620 455) ::
 (nat_lit 460,co "_law_ringed" "_law_ringed" 848 460 5 457 .none .none .none (.ref 459) 851) ::
 (nat_lit 461,fo "_law_ringed" "_law_ringed" (top 67) "law_handflow_k27_stores_mended" 620 460) ::
 (nat_lit 467,co "_law_tight" "_law_tight" 854 478 4 462 .none (.ref 464) (.ref 465) (.ref 466) 863) ::
 (nat_lit 468,fo "_law_tight" "_law_tight" (top 68) "law_handflow_k27_stores_mended" 620 467) ::
 (nat_lit 474,co "_law_stores" "_law_stores" 866 484 2 469 .none (.ref 471) (.ref 472) (.ref 473) 873) ::
 (nat_lit 475,fo "_law_stores" "_law_stores" (top 69) "law_handflow_k27_stores_mended" 620 474) ::
 (nat_lit 479,co "_law_papers" "_law_papers" 876 494 5 476 .none .none .none (.ref 478) 879) ::
 (nat_lit 480,fo "_law_papers" "_law_papers" (top 70) "law_handflow_k27_stores_mended" 620 479) ::
 (nat_lit 484,co "law" "law" 882 506 1 481 .none .none .none (.ref 483) 885) ::
 (nat_lit 485,fo "law" "law" (top 71) "law_handflow_k27_stores_mended" 620 484) ::
 []
noncomputable def hks:LK:=[2,3,20,21,25,26,32,33,37,38,44,45,56,57,63,64,70,71,77,78,79,80,81,82,83,91,92,98,99,110,111,117,118,124,125,131,132,133,134,135,136,137,143,144,150,151,157,158,159,160,166,167,173,174,178,179,185,186,187,193,194,200,201,207,208,214,215,221,222,223,235,236,237,238,239,240,243,250,251,252,255,262,263,264,272,273,279,280,286,287,293,294,300,301,307,308,314,315,321,322,328,329,335,336,342,343,349,350,356,357,363,364,370,371,377,378,384,385,391,392,398,399,403,404,408,409,415,416,422,423,429,430,436,437,443,444,448,449,455,456,460,461,467,468,474,475,479,480,484,485]
theorem hk_as:∀P,hks=(hk P).map (·.1):=λ_=>by kernel_rfl
noncomputable def vw:Program:=PySem.W.view PySem.Challenge.pw_handflow_k27_stores_mended [1,2,3,4,5,6,7,9,10,11,13,14,15,16,18,19,20,21,22,23,25,26,27,28,29,30,31,33,34,35,37,38,39,40,41,42,43,44,46,47,48,49,50,51,52,53,54,55,56,57,58,59,60,61,62,63,64,65,66,67,68,69,70,71]
noncomputable def hkH:PySem.W.Hook:=PySem.W.kHook hk hks hk_as
noncomputable def xt(s:Shared):Bool:=PySem.W.xlAt vw [] s && PySem.W.recOk (PySem.W.RowW.records (PySem.W.OpenRow.toRowW (PySem.W.OpenLaw.row PySem.Challenge.rw_handflow_k27_stores_mended))) s
noncomputable def bt(P:Params):PySem.W.BT:=(.node (PySem.W.boot_o_0 P) (.node (PySem.W.boot_o_1 P) (.node (PySem.W.boot_o_3 P) (.node (PySem.W.boot_o_7 P) .nil .nil) .nil) (.node (PySem.W.boot_o_5 P) (.node (PySem.W.boot_o_9 P) .nil .nil) .nil)) (.node (PySem.W.boot_o_2 P) (.node (PySem.W.boot_o_4 P) (.node (PySem.W.boot_o_8 P) .nil .nil) .nil) (.node (PySem.W.boot_o_6 P) (.node (PySem.W.boot_o_10 P) .nil .nil) .nil)))
theorem bt_is(P:Params):PySem.W.absHeap (bt P) 11 {}=PySem.W.boot_heap P:=by kernel_rfl
noncomputable def bs(P:Params)(os:OsState):PySem.W.SharedT:=⟨bt P,11,{},#[],PySem.W.boot_drawn,PySem.W.boot_toks,os⟩
theorem bs_is(P:Params)(os:OsState):(bs P os).abs=⟨PySem.W.boot_heap P,#[],PySem.W.boot_drawn,PySem.W.boot_toks,os⟩:=by
 unfold bs PySem.W.SharedT.abs;rw[bt_is]
def goT(p:Program)(w:World)(A:LO):Nat->PySem.W.SharedT->Thread->Option PySem.W.SharedT
 |0,_,_=>none
 |m+1,x,y=>match PySem.W.through y with
  |true=>some x
  |false=>match PySem.W.stepOk 11 A y with
   |false=>none
   |true=>match PySem.W.stepT (denote PySem.treeTable) p w x y with
    |none=>none
    |some (x',y')=>goT p w A m x' y'
noncomputable abbrev annB(w:World):LO:=(PySem.W.boot_heap w.params).nsMap mainGlobals "__annotations__"
def EndsT(p q:Program)(loose:LS)(Xt:Shared->Bool)(Yf:Shared->α)(Ya:World->α)(N:Nat)(w:World):Prop:=
 ∀os:OsState,(goT p w (annB w) N (bs w.params os) (PySem.W.topStub p)).map (λs=>(PySem.W.staticsOk (PySem.importedModules p.main.body) (PySem.W.boot_heap w.params) s.abs.heap && PySem.W.namesBound p s.abs.heap && PySem.W.gensDone s.abs && PySem.W.laidKept (PySem.W.boot_heap w.params) s.abs.heap,PySem.W.openSeen q loose (PySem.importedModules p.main.body) Xt true s.abs,Yf s.abs))=some (true,PySem.W.openGood q loose,Ya w)
abbrev lfp:=PySem.Challenge.pw_handflow_k27_stores_mended
def lfP(w:World){β:Type}(f:PySem.W.SharedT->β)(b:β):Prop:=∀os:OsState,(goT lfp w (annB w) 6220 (bs w.params os) (PySem.W.topStub lfp)).map f=some b
set_option maxHeartbeats 0 in
theorem lfB:∀w,lfP w (λs=>PySem.W.openSeen vw [] (PySem.importedModules lfp.main.body) xt true s.abs) (PySem.W.openGood vw []):=λw os=>by kernel_rfl
set_option maxHeartbeats 0 in
theorem said:PySem.W.OpenLaw.wellSaid PySem.Challenge.rw_handflow_k27_stores_mended=true:=by kernel_rfl
set_option maxHeartbeats 0 in
theorem lfA:∀w,lfP w (λs=>PySem.W.staticsOk (PySem.importedModules lfp.main.body) (PySem.W.boot_heap w.params) s.abs.heap && PySem.W.namesBound lfp s.abs.heap && PySem.W.gensDone s.abs && PySem.W.laidKept (PySem.W.boot_heap w.params) s.abs.heap) true:=λw os=>by kernel_rfl
set_option maxHeartbeats 0 in
theorem lfC:∀w,lfP w (λs=>hkH.obs s.abs) (hkH.val w):=λw os=>by kernel_rfl
theorem lfD{σ β γ δ:Type}{o:Option σ}{f:σ->β}{g:σ->γ}{h:σ->δ}{b:β}{c:γ}{d:δ}(x:o.map f=some b)(y:o.map g=some c)(z:o.map h=some d):o.map (λs=>(f s,g s,h s))=some (b,c,d):=by
 cases o
 .cases x
 .cases x;cases y;cases z;rfl
theorem leftF:∀w:World,EndsT lfp vw [] xt hkH.obs hkH.val 6220 w:=λw os=>lfD (lfA w os) (lfB w os) (lfC w os)
end K27
namespace L2
open PySem PySem.Spec PyProof.Rows
abbrev Key:=Sum Int Str
noncomputable def jD:Key->Value->Bool
 |.inl k,v=>Value.isInt k v
 |.inr x,v=>Value.isStrOf x v
noncomputable def Fk(w:World):Key->Int
 |.inl k=>hashInt k
 |.inr x=>hashStr w x
theorem gQ:∀{k:Key}{v:Value},jD k v=true->(∃i t,k=Sum.inl i/\v=Value.int i t)\/(∃x t,k=Sum.inr x/\v=Value.str x t)
 |.inl i,v,h=>by
  obtain⟨t,e⟩:=Value.isInt_shape (k:=i) (v:=v) h;exact .inl ⟨i,t,U,e⟩
 |.inr x,v,h=>by
  obtain⟨t,e⟩:=Value.isStrOf_shape (x:=x) (v:=v) h;exact .inr ⟨x,t,U,e⟩
theorem Fj(i:Int)(t:Tok):jD (.inl i) (.int i t)=true:=by simp[jD,Value.isInt]
theorem Fi(x:Str)(t:Tok):jD (.inr x) (.str x t)=true:=by simp[jD,Value.isStrOf]
theorem Fh(a b:Int):decide ((Sum.inl a:Key)=Sum.inl b)=(a == b):=by
 by_cases e:a=b
 .subst e;simp
 .have h:¬ (Sum.inl a:Key)=Sum.inl b:=λq=>e (Sum.inl.inj q);rw[Qc h];exact(beq_eq_false_iff_ne.mpr e).symm
theorem Fe(a b:Str):decide ((Sum.inr a:Key)=Sum.inr b)=decide (a=b):=by
 by_cases e:a=b
 .subst e;simp
 .have h:¬ (Sum.inr a:Key)=Sum.inr b:=λq=>e (Sum.inr.inj q);rw[Qc h,Qc e]
theorem Fg(a:Int)(b:Str):decide ((Sum.inl a:Key)=Sum.inr b)=false:=Qc (λq=>nomatch q)
theorem Ff(a:Str)(b:Int):decide ((Sum.inr a:Key)=Sum.inl b)=false:=Qc (λq=>nomatch q)
noncomputable def d7(prog:Program)(w:World):PySem.KeyKind prog w Key where
 is:=jD
 hash:=Fk w
 inj:=λv a b ha hb=>by
  rcases gQ ha with⟨i,t,rfl,rfl⟩|⟨x,t,rfl,rfl⟩
  .rcases gQ hb with⟨j,u,rfl,e⟩|⟨y,u,rfl,e⟩
   .injection e with e1 _;rw[e1]
   .exact nomatch e
  .rcases gQ hb with⟨j,u,rfl,e⟩|⟨y,u,rfl,e⟩
   .exact nomatch e
   .injection e with e1 _;rw[e1]
 byValue:=λk v h=>by
  rcases gQ h with⟨i,t,rfl,rfl⟩|⟨x,t,rfl,rfl⟩<;>rfl
 pyHash:=λF h=>by
  rcases gQ F with⟨i,t,rfl,rfl⟩|⟨x,t,rfl,rfl⟩
  .exact wpAny_pyHash_int h
  .exact wpAny_pyHash_str h
 eqBool:=λJ F h=>by
  rcases gQ J with⟨i,t,rfl,rfl⟩|⟨x,t,rfl,rfl⟩
  .rcases gQ F with⟨j,u,rfl,rfl⟩|⟨y,u,rfl,rfl⟩
   .rw[Fh]at h;exact wpAny_eqBool_int h
   .rw[Fg]at h;exact SeqAt.EqAt.int_str i t y u _ _ _ _ h
  .rcases gQ F with⟨j,u,rfl,rfl⟩|⟨y,u,rfl,rfl⟩
   .rw[Ff]at h;exact SeqAt.EqAt.str_int x t j u _ _ _ _ h
   .rw[Fe]at h;exact wpAny_eqBool_str h
 «strs»:=λk x t v h=>by
  rcases gQ h with⟨i,u,rfl,e⟩|⟨y,u,rfl,e⟩
  .exact nomatch e
  .injection e with e1 _;subst e1;cases v<;>rfl
theorem EB(prog:Program)(w:World)(i:Int)(t:Tok):(d7 prog w).is (.inl i) (.int i t)=true:=Fj i t
theorem EA(prog:Program)(w:World)(x:Str)(t:Tok):(d7 prog w).is (.inr x) (.str x t)=true:=Fi x t
inductive V where
 |non|bl (b:Bool)|int (i:Int)|str (x:Str)|byt (b:Array UInt8)|flt (b:UInt64)|ref (a:Addr)|ty (n:String)
 deriving DecidableEq
def aE:V->Value->Prop
 |.non,u=>u=Value.none
 |.bl b,u=>u=Value.bool b
 |.int i,u=>∃t,u=Value.int i t
 |.str x,u=>∃t,u=Value.str x t
 |.byt b,u=>∃t,u=Value.bytes b t
 |.flt b,u=>∃t,u=Value.float b t
 |.ref a,u=>u=Value.ref a
 |.ty n,u=>u=Value.type n
abbrev aB:List V->LL->Prop:=Paired aE
theorem aB.length{xs:List V}{us:LL}(r:aB xs us):xs.length=us.length:=Paired.length r
theorem aB.get:∀{xs:List V}{us:LL}{i:Nat}{x:V},aB xs us->xs[i]?=some x->∃u,us[i]?=some u/\aE x u
 |_,_,_,_,.nil,e=>by simp at e
 |_,_,0,_,.cons r _,e=>by simp at e;subst e;exact⟨_,U,r⟩
 |_,_,i+1,x,.cons _ t,e=>by
  obtain⟨u,h1,h2⟩:=aB.get (i:=i) (x:=x) t (by simpa using e);exact⟨u,by simpa using h1,h2⟩
theorem aB.set{x:V}{u:Value}(r:aE x u):∀{xs:List V}{us:LL}(i:Nat),aB xs us->aB (xs.set i x) (us.set i u)
 |_,_,_,.nil=>.nil
 |_,_,0,.cons _ t=>.cons r t
 |_,_,i+1,.cons q t=>.cons q (aB.set r i t)
theorem aB.append:∀{xs ys:List V}{us a:LL},aB xs us->aB ys a->aB (xs++ys) (us++a)
 |_,_,_,_,.nil,s=>s
 |_,_,_,_,.cons r t,s=>.cons r (aB.append t s)
theorem aB.take:∀{xs:List V}{us:LL}(n:Nat),aB xs us->aB (xs.take n) (us.take n)
 |_,_,0,_=>.nil
 |_,_,_+1,.nil=>.nil
 |_,_,n+1,.cons r t=>.cons r (aB.take n t)
theorem aB.drop:∀{xs:List V}{us:LL}(n:Nat),aB xs us->aB (xs.drop n) (us.drop n)
 |_,_,0,r=>r
 |_,_,_+1,.nil=>.nil
 |_,_,n+1,.cons _ t=>aB.drop n t
def cy:Option V->LO->Prop
 |some v,some u=>aE v u
 |none,none=>True
 |_,_=>False
def KV:List (κ×V)->List (κ×Value)->Prop:=Paired λ(p:κ×V)(q:κ×Value)=>p.1=q.1/\aE p.2 q.2
noncomputable def kV:Key->V
 |.inl i=>.int i
 |.inr x=>.str x
inductive HO where
 |lst (xs:List V)
 |tup (xs:List V)
 |dK (kvs:List (Key×V))|dT (kvs:List (List Key×V))
 |set (S:Int->Bool) (n:Nat)
 |ins (C dx:Addr) (fs:List (Str×V))
 |own (x:Addr)
 |xd (fs:List (Str×V))
 |met (f x:Addr)
 |rng (lo hi:Int)
 |frz (o:Obj) (u:HO)
 |tbl (ps:LD)
 |ext (φ:Heap->Prop)
abbrev Hp:=Addr->Option HO
noncomputable def upd(H:Hp)(a:Addr)(o:HO):Hp:=λb=>if b=a then some o else H b
theorem ah{H:Hp}{o:HO}:upd H a o a=some o:=by unfold upd;rw[Qa U]
theorem af{H:Hp}{o:HO}(h:b≠a):upd H a o b=H b:=by unfold upd;rw[Q9 h]
theorem y1{H:Hp}{o u:HO}(h:H a=some o)(h':H b=some u)(d:o≠u):a≠b:=by
 intro e;subst e;rw[h]at h';exact d (qR h')
theorem cG{H:Hp}{o:HO}(h:H a=some o)(h':H b=none):a≠b:=by
 intro e;subst e;rw[h]at h';cases h'
section
variable (P:Program) (w:World)
def bJ(H:Hp)(h:Heap)(a:Addr):HO->Prop
 |.lst xs=>xs.length<=sizeLine/\∃(its:LL)(n:Nat),aB xs its/\h.get? a=some { cls:=.type "list",data:=.seq its.toArray n }
 |.tup xs=>(xs.length<=sizeLine/\∃ob,h.get? a=some ob/\ob.dict=none)/\∃its:LL,aB xs its/\IsTup h a its.toArray
 |.dK kvs=>kvs.length<=sizeLine/\(a == sysModules)=false/\∃vs,KV kvs vs/\h.DictOf (d7 P w) a vs
 |.dT kvs=>kvs.length<=sizeLine/\(a == sysModules)=false/\∃xs:List (List Key×Addr×Value),
  Paired (λ(p:List Key×V)(q:List Key×Addr×Value)=>p.1=q.1/\H q.2.1=some (.tup (p.1.map kV))/\aE p.2 q.2.2) kvs xs /\
  ∃o es ep,h.get? a=some o/\o.ExactDict/\o.data=.dict es ep/\es.toList=xs.map (entryOfKey (tupleKind (d7 P w)))/\(xs.map (·.1)).Nodup
 |.set S n=>h.SetOf (intKind P w) a S n
 |.ins C dx fs=>H dx=some (.own a)/\fs.length<=1000/\dx≠a/\h.get? a=some (PySem.W.instObj C dx) /\
  ∃mA,h.Ns1 dx mA/\(∀f,cy (fs.lookup f) (mA f))/\PySem.Within mA (fs.map (·.1))
 |.own _=>∃o,h.get? a=some o
 |.xd fs=>∃mA,h.Ns1 a mA/\∀f,cy (fs.lookup f) (mA f)
 |.rng lo hi=>∃t u v,h.get? a=some { cls:=.type "range",data:=.fields #[.int lo t,.int hi u,.int 1 v] }
 |.frz o u=>h.get? a=some o/\bJ H h a u
 |.tbl ps=>h.get? a=some { cls:=.none,data:=.fields ps }
 |.met f x=>h.get? a=some (PySem.W.methodObj (.ref f) (.ref x))
 |.ext F=>F h/\(∃o,h.get? a=some o)/\∀h1 h2:Heap,F h1->(∀o,h1.get? a=some o->h2.get? a=some o)->F h2
def HOk(H:Hp)(h:Heap):Prop:=∀a o,H a=some o->bJ P w H h a o
end
section
variable {H H':Hp}{o:HO}
theorem bJ.lt(x:bJ P w H h a o):a<h.objs.size:=by
 cases o with
 |lst xs=>obtain⟨_,_,_,_,e⟩:=x;exact qz e
 |tup xs=>obtain⟨_,_,_,p⟩:=x;exact p.lt
 |dK kvs=>obtain⟨_,_,_,_,o,_,_,e,_⟩:=x;exact qz e
 |dT kvs=>obtain⟨_,_,_,_,o,_,_,e,_⟩:=x;exact qz e
 |set S n=>obtain⟨o,_,_,_,e,_⟩:=x;exact qz e
 |ins C _ fs=>obtain⟨_,_,_,e,_⟩:=x;exact qz e
 |own y=>obtain⟨_,e⟩:=x;exact qz e
 |xd fs=>obtain⟨_,⟨_,_,_,e,_⟩,_⟩:=x;exact qz e
 |rng _ _=>obtain⟨_,_,_,e⟩:=x;exact qz e
 |frz ob u=>obtain⟨e,_⟩:=x;exact qz e
 |tbl ps=>exact qz (show h.get? a=some _ from x)
 |met f y=>exact qz (show h.get? a=some _ from x)
 |ext _=>obtain⟨_,⟨_,e⟩,_⟩:=x;exact qz e
theorem Paired.mapP{c d:Type}{F G:c->d->Prop}:∀{l₁:List c}{l₂:List d},Paired F l₁ l₂->(∀a b,F a b->G a b)->Paired G l₁ l₂
 |_,_,.nil,_=>.nil
 |_,_,.cons r t,f=>.cons (f _ _ r) (Paired.mapP t f)
theorem bJ.stay(x:bJ P w H h a o)(k:∀b u,(b=a\/H b=some (.own a))->h.get? b=some u->h'.get? b=some u)
 (m:∀b,H b=some (.own a)->H' b=some (.own a)) (ht:∀b xs,H b=some (.tup xs)->H' b=some (.tup xs)):bJ P w H' h' a o:=by
 induction o with
 |lst xs=>obtain⟨z,g,n,r,e⟩:=x;exact⟨z,g,n,r,k _ _ (.inl U) e⟩
 |tup xs=>obtain⟨⟨z,od,s,nd⟩,g,r,ob,e,c⟩:=x;exact⟨⟨z,od,k _ _ (.inl U) s,nd⟩,g,r,ob,k _ _ (.inl U) e,c⟩
 |dK kvs=>obtain⟨z,y,vs,r,ob,es,ep,e,c⟩:=x;exact⟨z,y,vs,r,ob,es,ep,k _ _ (.inl U) e,c⟩
 |dT kvs=>
  obtain⟨z,y,xs,r,ob,es,ep,e,c⟩:=x;exact⟨z,y,xs,Paired.mapP r λp q z=>⟨z.1,ht _ _ z.2.1,z.2.2⟩,ob,es,ep,k _ _ (.inl U) e,c⟩
 |set S n=>obtain⟨ob,es,ep,t,e,c⟩:=x;exact⟨ob,es,ep,t,k _ _ (.inl U) e,c⟩
 |ins C _ fs=>
  obtain⟨d,z,ne,e,i,⟨od,es,ep,l,c⟩,r⟩:=x;exact⟨m _ d,z,ne,k _ _ (.inl U) e,i,⟨od,es,ep,k _ _ (.inr d) l,c⟩,r⟩
 |own y=>obtain⟨ob,e⟩:=x;exact⟨ob,k _ _ (.inl U) e⟩
 |xd fs=>obtain⟨i,⟨od,es,ep,e,c⟩,r⟩:=x;exact⟨i,⟨od,es,ep,k _ _ (.inl U) e,c⟩,r⟩
 |rng _ _=>obtain⟨t,u,v,e⟩:=x;exact⟨t,u,v,k _ _ (.inl U) e⟩
 |frz ob u j=>obtain⟨e,q⟩:=x;exact⟨k _ _ (.inl U) e,j q⟩
 |tbl ps=>
  have e:h.get? a=some { cls:=.none,data:=.fields ps }:=x;show h'.get? a=some { cls:=.none,data:=.fields ps };exact k a _ (.inl U) e
 |met f y=>
  have e:h.get? a=some (PySem.W.methodObj (.ref f) (.ref y)):=x;show h'.get? a=some (PySem.W.methodObj (.ref f) (.ref y));exact k a _ (.inl U) e
 |ext _=>obtain⟨p,⟨o,e⟩,st⟩:=x;exact⟨st _ _ p λo q=>k _ _ (.inl U) q,⟨o,k _ _ (.inl U) e⟩,st⟩
theorem HOk.lt(x:HOk P w H h)(e:H a=some o):a<h.objs.size:=(x a o e).lt
theorem HOk.fresh(x:HOk P w H h)(e:h.objs.size<=a):H a=none:=by
 cases q:H a with
 |none=>rfl
 |some u=>exact Qd (qL (x.lt q) e) (Qk _)
theorem HOk.kept(x:HOk P w H h)(k:∀b u,h.get? b=some u->h'.get? b=some u):HOk P w H h':=λa o e=>
 (x a o e).stay (λb u _ q=>k b u q) (λ_ q=>q) λ_ _ q=>q
theorem HOk.laid(x:HOk P w H h)(k:∀b u,h.get? b=some u->h'.get? b=some u)(d:h.objs.size<=a)(new:bJ P w (upd H a o) h' a o):HOk P w (upd H a o) h':=λb u e=>by
 have hn:=x.fresh d;by_cases hb:b=a
 .subst hb;rw[ah]at e;cases e;exact new
 .rw[af hb]at e;exact(x b u e).stay (λc v _ q=>k c v q) (λc q=>by rwa[af (cG q hn)]) λc xs q=>by rwa[af (cG q hn)]
end
def Rd(H:Hp)(a:Addr)(u:HO):Prop:=H a=some u\/∃o,H a=some (.frz o u)
theorem Rd.ok{H:Hp}{u:HO}(r:Rd H a u)(x:HOk P w H h):bJ P w H h a u:=by
 rcases r with r|⟨o,r⟩
 .exact x a u r
 .obtain⟨_,q⟩:=x a _ r;exact q
def Mut:Option HO->Prop
 |some (.lst _)=>True
 |some (.dK _)=>True
 |some (.dT _)=>True
 |some (.set _ _)=>True
 |some (.ins _ _ _)=>True
 |some (.ext _)=>True
 |_=>False
section
variable {H:Hp}{x e:Addr}{o':HO}
theorem HOk.write(ok:HOk P w H h)(d:Mut (H x))(g:e=x\/H e=some (.own x))(k:∀b u,b≠e->h.get? b=some u->h'.get? b=some u)(j:∃u,h'.get? e=some u)
 (new:bJ P w (upd H x o') h' x o'):HOk P w (upd H x o') h':=λb u q=>by
 have a:∀c y,H c=some (.own y)->c≠x:=λc y r z=>by subst z;rw[r]at d;exact d
 have f:∀c xs,H c=some (.tup xs)->c≠x:=λc xs r z=>by subst z;rw[r]at d;exact d
 by_cases hb:b=x
 .subst hb;rw[ah]at q;cases q;exact new
 .rw[af hb]at q;by_cases hbe:b=e
  .have i:H b=some (.own x):=by
    rcases g with z|z
    .exact Qd (hbe.trans z) hb
    .rwa[hbe]
   rw[q]at i;cases i;obtain⟨v,l⟩:=j;exact⟨v,by rwa[hbe]⟩
  .refine(ok b u q).stay (λc v hc r=>k c v ?_ r) (λc r=>by rwa[af (a c b r)]) λc xs r=>by rwa[af (f c xs r)]
   rcases hc with rfl|hc
   .exact hbe
   .rintro rfl;rcases g with z|z
    .exact a c b hc z
    .rw[hc]at z;cases z;exact hb U
end
structure Un(fs ex:LK)(H H':Hp)(h h':Heap):Prop where
 keep:∀b o,h.get? b=some o->H b=none->b∉fs->b∉ex->h'.get? b=some o
 slot:∀b o,h.get? b=some o->H b=none->b∈fs->b∉ex->∃sl,h'.get? b=some { o with slots:=sl }
 free:∀b o,h.get? b=some o->H b=none->b∉ex->H' b=none
 there:∀b o,h.get? b=some o->b∉ex->∃o',h'.get? b=some o'
 tups:∀b xs,H b=some (.tup xs)->H' b=some (.tup xs)
 frzs:∀b o u,H b=some (.frz o u)->H' b=some (.frz o u)
 tbls:∀b ps,H b=some (.tbl ps)->∃more,H' b=some (.tbl (ps++more))
section
variable {fs fs' ex ex':LK}{H H1 H2:Hp}{h1 h2:Heap}{x e:Addr}{o:HO}
theorem Un.any(u:Un fs ex H H1 h h1){ob:Obj}(q:h.get? b=some ob)(n:H b=none)(a:b∉ex):∃sl,h1.get? b=some { ob with slots:=sl }:=by
 by_cases hb:b∈fs
 .exact u.slot b ob q n hb a
 .exact⟨ob.slots,u.keep b ob q n hb a⟩
theorem Un.kept(k:∀b u,h.get? b=some u->h'.get? b=some u):Un fs ex H H h h':=
 ⟨λb ob q _ _ _=>k b ob q,λb ob q _ _ _=>⟨ob.slots,k b ob q⟩,λ_ _ _ n _=>n,λb ob q _=>⟨ob,k b ob q⟩,λ_ _ q=>q,λ_ _ _ q=>q,λ_ ps q=>⟨#[],by rw[q];simp⟩⟩
theorem Un.refl:Un fs ex H H h h:=Un.kept λ_ _ q=>q
theorem Un.laid(k:∀b u,h.get? b=some u->h'.get? b=some u)(c:h.objs.size<=a)(hn:H a=none):Un fs ex H (upd H a o) h h' where
 keep:=λb u q _ _ _=>k b u q
 slot:=λb u q _ _ _=>⟨u.slots,k b u q⟩
 free:=λb u q n _=>by rwa[af (qO (qL (qz q) c))]
 there:=λb u q _=>⟨u,k b u q⟩
 tups:=λb xs q=>by rwa[af (cG q hn)]
 frzs:=λb u xs q=>by rwa[af (cG q hn)]
 tbls:=λb ps q=>⟨#[],by rw[af (cG q hn),q];simp⟩
theorem Un.write(a:Mut (H x))(g:e=x\/H e=some (.own x))(k:∀b u,b≠e->h.get? b=some u->h'.get? b=some u)(f:∃u,h'.get? e=some u):Un fs ex H (upd H x o) h h':=by
 have d:∀b,H b=none->b≠x:=λb n z=>by subst z;rw[n]at a;exact a
 have hb:∀b,H b=none->b≠e:=λb n z=>by
  subst z;rcases g with r|r
  .exact d b n r
  .rw[n]at r;cases r
 have c:∀b u,H b=some u->¬ Mut (some u)->b≠x:=λb u q nm z=>by subst z;rw[q]at a;exact nm a
 refine⟨λb u q n _ _=>k b u (hb b n) q,λb u q n _ _=>⟨u.slots,k b u (hb b n) q⟩,λb u q n _=>by rwa[af (d b n)],λb u q _=>?_,
  λb xs q=>by rwa[af (c b _ q λz=>z)],λb u xs q=>by rwa[af (c b _ q λz=>z)],λb ps q=>⟨#[],by rw[af (c b _ q λz=>z),q];simp⟩⟩
 by_cases hbe:b=e
 .subst hbe;exact f
 .exact⟨u,k b u hbe q⟩
end
noncomputable def trk(h:Heap)(H:Hp):LK:=(List.range h.objs.size).filter λa=>(H a).isSome
noncomputable def gU(h:Heap)(H:Hp):Heap:=PySem.W.hideAll h (trk h H)
theorem FD(h:Heap)(H:Hp):(gU h H).objs.size=h.objs.size:=PySem.W.hideAll_size _ _
theorem FE{H:Hp}{o:Obj}(e:h.get? b=some o)(n:H b=none):(gU h H).get? b=some o:=
 PySem.W.hideAll_get _ e λa=>by
  have q:(H b).isSome=true:=(List.mem_filter.mp a).2;rw[n]at q;simp at q
theorem Em{H:Hp}{o:Obj}(e:(gU h H).get? b=some o):h.get? b=some o/\H b=none:=by
 have a:h.get? b=some o:=PySem.W.of_hideAll (trk h H) e;exists a
 cases q:H b with
 |none=>rfl
 |some x=>
  have c:b∈trk h H:=List.mem_filter.mpr ⟨List.mem_range.mpr (qz a),by simp[q]⟩;have z:(gU h H).get? b=none:=PySem.W.hideAll_none (trk h H) c;rw[z]at e;cases e
end L2
variable {H H' H0:L2.Hp}{y:L2.V}{dvs:List L2.V}{kvs:List (L2.Key×L2.V)}{cn:List L2.HO}
abbrev LV:=List L2.V
abbrev LN:=List (L2.Key×L2.V)
abbrev LC:=Option L2.V
namespace L2
open PySem PySem.Spec PyProof.Rows
structure Mod(K:W.Frag)(mg:Str->LO)(base:Heap):Prop where
 kin:K.In base
 glob:base.Ns mainGlobals mg
 blt:∃mb,base.Ns builtinsNs mb/\∀x:Str,x≠"__name__"->mb x=bootBuiltins x
 nolimit:base.NoLimit
structure Cx where
 prog:Program
 w:World
 K:W.Frag
 mg:Str->LO
 base:Heap
 A:Around
 N:LS
 s₀:Shared
 H₀:Hp
 env:Env
 outer:List Env
 stack:List Env
 ex:LK
 fn:Str->Bool
 calm:Bool
 pn:List (Addr×Obj)
 xe:LP
noncomputable def frs(l:List Env):LK:=l.filterMap (·.frame)
noncomputable abbrev Cx.fs(X:Cx):LK:=frs X.outer
def Vis(F:Scope)(x:Str):Prop:=F.names.lookup x=some .local\/F.names.lookup x=some .cell\/F.names.lookup x=some .free
def Loc(F:Scope)(x:Str):Prop:=F.names.lookup x=some .local\/F.names.lookup x=some .cell
def Ho(env:Env)(h:Heap)(m:Str->LO)(x:Str)(u:Value):Prop:=
 (env.kindOf x=some .local/\m x=some u)\/((env.kindOf x=some .cell\/env.kindOf x=some .free)/\∃c,env.cells.lookup x=some c/\h.IsCell c (some u))
structure Cx.Ok(X:Cx):Prop where
 mod:Mod X.K X.mg X.base
 kind:X.env.scope.kind=.function
 glob:X.env.globals=mainGlobals
 blt:X.env.builtins=builtinsNs
 above:X.s₀.heap.objs.size<=X.env.locals
 inj:∀x y c,X.env.cells.lookup x=some c->X.env.cells.lookup y=some c->x=y
 has:∀x,(X.env.kindOf x=some .cell\/X.env.kindOf x=some .free)->∃c,X.env.cells.lookup x=some c
 cab:∀x c,X.fn x=true->X.env.cells.lookup x=some c->X.s₀.heap.objs.size<=c
 hd:X.calm=true->X.A.handled=none
 frames:X.A.frames=some X.stack
 stk:X.stack=X.outer\/(X.stack=X.env::X.outer/\X.env.frame=some X.env.locals)
 exf:∀b∈X.ex,b≠X.env.locals/\∀x c,X.env.cells.lookup x=some c->c≠b
 bs:∀b o,X.base.get? b=some o->X.s₀.heap.get? b=some o/\X.H₀ b=none
 bsz:X.base.objs.size<=X.s₀.heap.objs.size
 noex:∀b o,X.base.get? b=some o->b∉X.ex
 exfs:∀b∈X.ex,b∉X.fs
 funs:X.s₀.heap.FunFrames X.base X.outer
 frf:∀b∈X.fs,X.H₀ b=none
structure Inv(X:Cx)(pins:List (Addr×Obj))(Y:List LC)(H:Hp)(s:Shared):Prop where
 ok:X.Ok
 os:s.os=X.s₀.os
 bare:AllBare s.gens
 base:Un X.fs X.ex X.H₀ H X.s₀.heap s.heap
 loc:∃m,s.heap.Ns X.env.locals m/\∀(i:Nat)(x:Str)(v:V),X.N[i]?=some x->Y[i]?=some (some v)->Vis X.env.scope x->∃u,aE v u/\Ho X.env s.heap m x u
 cell:∀x c,X.env.cells.lookup x=some c->∃v,s.heap.IsCell c v
 free:H X.env.locals=none
 freeC:∀x c,X.env.cells.lookup x=some c->H c=none
 pin:∀p∈X.pn++pins,s.heap.get? p.1=some p.2/\H p.1=none/\p.1≠X.env.locals/\p.1∉X.fs/\∀v,p.2.data≠.cell v
 hok:HOk X.prog X.w H s.heap
 len:Y.length=X.N.length
section
variable {X:Cx}{Y:List LC}
theorem Cx.Ok.nofr(ok:X.Ok){o:Obj}(e:X.base.get? b=some o):b∉X.fs:=λhb=>by
 have:=(ok.funs.mem hb).1;rw[e]at this;cases this
theorem Inv.bs(I:Inv X pins Y H s):∀b o,X.base.get? b=some o->s.heap.get? b=some o/\H b=none:=λb o e=>
 ⟨I.base.keep b o (I.ok.bs b o e).1 (I.ok.bs b o e).2 (I.ok.nofr e) (I.ok.noex b o e),I.base.free b o (I.ok.bs b o e).1 (I.ok.bs b o e).2 (I.ok.noex b o e)⟩
theorem Inv.bk(I:Inv X pins Y H s):∀b o,X.base.get? b=some o->s.heap.get? b=some o:=λb o e=>(I.bs b o e).1
theorem Inv.mod(I:Inv X pins Y H s):Mod X.K X.mg X.base:=I.ok.mod
theorem Inv.kIn(I:Inv X pins Y H s):X.K.In s.heap:=I.ok.mod.kin.keeps I.bk
theorem Inv.lt(I:Inv X pins Y H s):X.env.locals<s.heap.objs.size:=let ⟨_,hn,_⟩:=I.loc;hn.lt
theorem Inv.sz(I:Inv X pins Y H s):X.s₀.heap.objs.size<=s.heap.objs.size:=qH I.ok.above (Nat.le_of_lt I.lt)
theorem Inv.nofs(I:Inv X pins Y H s)(h:s.heap.objs.size<=a):a∉X.fs:=λhb=>by
 obtain⟨_,o,b,_⟩:=I.ok.funs.mem hb;exact Qd (qL (qz b) (qH I.sz h)) (Qk _)
theorem Inv.cne(I:Inv X pins Y H s):∀x c,X.env.cells.lookup x=some c->c≠X.env.locals:=λx c e z=>by
 obtain⟨v,o,b,hd⟩:=I.cell x c e;obtain⟨m,⟨_,es,ep,a,d,_⟩,_⟩:=I.loc;rw[z,a]at b;cases b;rw[d]at hd;cases hd
theorem Inv.funs(I:Inv X pins Y H s):s.heap.FunFrames X.base X.outer:=by
 have all:∀(l:List Env),(∀b∈frs l,b∈X.fs)->X.s₀.heap.FunFrames X.base l->s.heap.FunFrames X.base l:=by
  intro l
  induction l with
  |nil=>intro _ _;trivial
  |cons env r d=>
   intro hs hl;obtain⟨hk,⟨L,o,c,hn,f,hd⟩,hr⟩:=hl;have a:L∈X.fs:=hs L (by unfold frs;rw[List.filterMap_cons,c];exact qw);obtain⟨sl,e⟩:=I.base.slot L o f (I.ok.frf L a) a λz=>I.ok.exfs L z a;exact⟨hk,⟨L,_,c,hn,e,hd⟩,d (λb hb=>hs b (by unfold frs;rw[List.filterMap_cons,c];exact qv _ hb)) hr⟩
 exact all X.outer (λ_ hb=>hb) I.ok.funs
theorem Inv.stack(I:Inv X pins Y H s):s.heap.FunFrames X.base X.stack:=by
 rcases I.ok.stk with e|⟨e,a⟩
 .rw[e];exact I.funs
 .rw[e];obtain⟨m,hn,_⟩:=I.loc;refine .cons (by rw[I.ok.kind];decide) a hn ?_ I.funs;exact Heap.get?_none_of_le (qH I.ok.bsz I.ok.above)
theorem Inv.stkSub(I:Inv X pins Y H s):∀b∈frs X.stack,b∈X.env.locals::X.fs:=λb hb=>by
 rcases I.ok.stk with e|⟨e,a⟩
 .rw[e]at hb;exact qv _ hb
 .rw[e]at hb;unfold frs at hb;rw[List.filterMap_cons,a]at hb;exact hb
theorem Inv.stkFree(I:Inv X pins Y H s):∀b∈frs X.stack,H b=none:=λb hb=>by
 rcases qD.mp (I.stkSub b hb)with e|hb
 .rw[e];exact I.free
 .obtain⟨_,o,a,_⟩:=I.ok.funs.mem hb;exact I.base.free b o a (I.ok.frf b hb) λz=>I.ok.exfs b z hb
theorem Inv.step{d':Drawn}(I:Inv X pins Y H s)
 (h:∀b∈ch,(b∈X.ex\/X.s₀.heap.objs.size<=b)/\b≠X.env.locals/\(∀x c,X.env.cells.lookup x=some c->c≠b)/\∀p∈X.pn++pins,p.1≠b)
 (keep:∀b o,b≠X.env.locals->b∉X.fs->b∉ch->s.heap.get? b=some o->H b=none->h'.get? b=some o)
 (slot:∀b o,b≠X.env.locals->b∈X.fs->b∉ch->s.heap.get? b=some o->H b=none->∃sl,h'.get? b=some { o with slots:=sl }) (free:∀b o,b∉ch->s.heap.get? b=some o->H b=none->H' b=none)
 (there:∀b o,b∉ch->s.heap.get? b=some o->∃o',h'.get? b=some o')
 (tups:∀b xs,H b=some (.tup xs)->H' b=some (.tup xs)) (frzs:∀b o u,H b=some (.frz o u)->H' b=some (.frz o u)) (tbls:∀b ps,H b=some (.tbl ps)->∃more,H' b=some (.tbl (ps++more)))
 (ns:∀m,s.heap.Ns X.env.locals m->h'.Ns X.env.locals m) (hok:HOk X.prog X.w H' h') (G:AllBare g'):
 Inv X pins Y H' { s with heap:=h',gens:=g',drawn:=d',toks:=t' }:=by
 have B:∀b o,X.s₀.heap.get? b=some o->b≠X.env.locals:=λb o e=>qO (qL (qz e) I.ok.above)
 have j:∀b o,X.s₀.heap.get? b=some o->b∉X.ex->b∉ch:=λb o e a hb=>by
  rcases(h b hb).1 with z|z
  .exact a z
  .exact Qd (qL (qz e) z) (Qk _)
 have t:∀x c,X.env.cells.lookup x=some c->∀v,s.heap.IsCell c v->h'.IsCell c v:=λx c e v ⟨o,y,hd⟩=>by
  have g:c∉ch:=λz=>(h c z).2.2.1 x c e U;by_cases hc:c∈X.fs
  .obtain⟨sl,q⟩:=slot c o (I.cne x c e) hc g y (I.freeC x c e);exact⟨_,q,hd⟩
  .exact⟨o,keep c o (I.cne x c e) hc g y (I.freeC x c e),hd⟩
 refine⟨I.ok,I.os,G,⟨λb o e n hb a=>?_,λb o e n hb a=>?_,λb o e n a=>?_,λb o e a=>?_,λb xs e=>tups b xs (I.base.tups b xs e),λb o xs e=>frzs b o xs (I.base.frzs b o xs e),λb ps e=>?_⟩,?_,λx c e=>?_,?_,λx c e=>?_,λp D=>?_,hok,I.len⟩
 .exact keep b o (B b o e) hb (j b o e a) (I.base.keep b o e n hb a) (I.base.free b o e n a)
 .obtain⟨sl,f⟩:=I.base.slot b o e n hb a;obtain⟨sl',A⟩:=slot b _ (B b o e) hb (j b o e a) f (I.base.free b o e n a);exact⟨sl',A⟩
 .obtain⟨o',f⟩:=I.base.there b o e a;exact free b o' (j b o e a) f (I.base.free b o e n a)
 .obtain⟨o',f⟩:=I.base.there b o e a;exact there b o' (j b o e a) f
 .obtain⟨E,f⟩:=I.base.tbls b ps e;obtain⟨J,A⟩:=tbls b _ f;exact⟨E++J,by rw[A,Array.append_assoc]⟩
 .obtain⟨m,hn,hl⟩:=I.loc;refine⟨m,ns m hn,λi x v f A F=>?_⟩;obtain⟨u,r,l⟩:=hl i x v f A F;exists u,r;rcases l with l|⟨k,c,e,z⟩
  .exact .inl l
  .exact .inr ⟨k,c,e,t x c e _ z⟩
 .obtain⟨v,z⟩:=I.cell x c e;exact⟨v,t x c e v z⟩
 .obtain⟨m,⟨o,_,_,y,_⟩,_⟩:=I.loc;exact free _ o (λz=>(h _ z).2.1 U) y I.free
 .obtain⟨v,o,y,hd⟩:=I.cell x c e;exact free c o (λz=>(h c z).2.2.1 x c e U) y (I.freeC x c e)
 .obtain⟨e,n,ne,C,d⟩:=I.pin p D;have g:p.1∉ch:=λz=>(h p.1 z).2.2.2 p D U;exact⟨keep p.1 p.2 ne C g e n,free p.1 p.2 g e n,ne,C,d⟩
theorem Inv.un(I:Inv X pins Y H s)(u:Un X.fs [] H H' s.heap h')(hok:HOk X.prog X.w H' h'):Inv X pins Y H' { s with heap:=h',toks:=t' }:=by
 obtain⟨m,⟨o,es,ep,c,r⟩,_⟩:=id I.loc;obtain⟨sl,f⟩:=u.any c I.free (by simp)
 exact I.step (g':=s.gens) (d':=s.drawn) (ch:=[]) (λ_ z=>nomatch z) (λb o _ hb _ e n=>u.keep b o e n hb (by simp)) (λb o _ hb _ e n=>u.slot b o e n hb (by simp)) (λb o _ e n=>u.free b o e n (by simp)) (λb o _ e=>u.there b o e (by simp)) u.tups u.frzs u.tbls (λ_ h=>by
  obtain⟨_,es',d,a,g⟩:=h;rw[c]at a;cases a
  exact⟨_,es',d,f,g⟩) hok I.bare
theorem Inv.call{d':Drawn}(I:Inv X pins Y H s)(u:Un (frs X.stack) ch H H' s.heap h')(hok:HOk X.prog X.w H' h')(k:AllBare g')
 (d:∀b∈ch,(b∈X.ex\/X.s₀.heap.objs.size<=b)/\b≠X.env.locals/\(∀x c,X.env.cells.lookup x=some c->c≠b)/\∀p∈X.pn++pins,p.1≠b):
 Inv X pins Y H' { s with heap:=h',gens:=g',drawn:=d',toks:=t' }:=by
 obtain⟨m,⟨o,es,ep,g,r⟩,_⟩:=id I.loc;obtain⟨sl,f⟩:=u.any g I.free λz=>(d _ z).2.1 U
 exact I.step (ch:=ch) d (λb o f hb hc e n=>u.keep b o e n (λz=>(qD.mp (I.stkSub b z)).elim f hb) hc) (λb o _ _ hc e n=>u.any e n hc) (λb o hc e n=>u.free b o e n hc) (λb o hc e=>u.there b o e hc) u.tups u.frzs u.tbls (λ_ j=>by
  obtain⟨_,es',h,a,i⟩:=j;rw[g]at a;cases a
  exact⟨_,es',h,f,i⟩) hok k
theorem Inv.turned(I:Inv X pins Y H s)(k:∀b o,b≠it->s.heap.get? b=some o->h'.get? b=some o)(hn:H it=none)(d:it≠X.env.locals)
 (f:it∈X.ex\/X.s₀.heap.objs.size<=it) (i:∀x c,X.env.cells.lookup x=some c->c≠it) (j:∀p∈X.pn++pins,p.1≠it):Inv X pins Y H { s with heap:=h',toks:=t' }:=by
 have a:∀b u,H b=some u->b≠it:=λb u e z=>by rw[z,hn]at e;cases e
 refine I.step (g':=s.gens) (d':=s.drawn) (ch:=[it]) (λb hb=>?_) (λb o _ _ hc e _=>k b o (λz=>hc (by simp[z])) e) (λb o _ _ hc e _=>⟨o.slots,k b o (λz=>hc (by simp[z])) e⟩) (λ_ _ _ _ n=>n)
  (λb o hc e=>⟨o,k b o (λz=>hc (by simp[z])) e⟩) (λ_ _ e=>e) (λ_ _ _ e=>e) (λb ps e=>⟨#[],by rw[e];simp⟩) (λm h=>?_) (λb u e=>?_) I.bare
 .have e:b=it:=by simpa using hb
  subst e;exact⟨f,d,i,j⟩
 .obtain⟨o,es,ep,g,r⟩:=h;exact⟨o,es,ep,k _ o (Ne.symm d) g,r⟩
 .refine(I.hok b u e).stay (λc v hc q=>k c v ?_ q) (λ_ q=>q) λ_ _ q=>q;rcases hc with z|z
  .rw[z];exact a b u e
  .exact a c _ z
theorem Inv.tok(I:Inv X pins Y H s)(t:Nat):Inv X pins Y H { s with toks:=t }:=I.un (h':=s.heap) (t':=t) Un.refl I.hok
theorem Inv.kept{t':Nat}(I:Inv X pins Y H s)(k:∀b u,s.heap.get? b=some u->h'.get? b=some u):Inv X pins Y H { s with heap:=h',toks:=t' }:=I.un (Un.kept k) (I.hok.kept k)
theorem Inv.laid{a:Addr}{o:HO}{t':Nat}(I:Inv X pins Y H s)(k:∀b u,s.heap.get? b=some u->h'.get? b=some u)(c:s.heap.objs.size<=a)(new:bJ X.prog X.w (upd H a o) h' a o):
 Inv X pins Y (upd H a o) { s with heap:=h',toks:=t' }:=I.un (Un.laid k c (I.hok.fresh c)) (I.hok.laid k c new)
theorem Inv.write{x e:Addr}{o:HO}{t':Nat}(I:Inv X pins Y H s)(d:Mut (H x))(c:e=x\/H e=some (.own x))(k:∀b u,b≠e->s.heap.get? b=some u->h'.get? b=some u)(a:∃u,h'.get? e=some u)
 (new:bJ X.prog X.w (upd H x o) h' x o):Inv X pins Y (upd H x o) { s with heap:=h',toks:=t' }:=I.un (Un.write d c k a) (I.hok.write d c k a new)
theorem Inv.pins_of(I:Inv X pins Y H s)(h:∀p∈pins',s.heap.get? p.1=some p.2/\H p.1=none/\p.1≠X.env.locals/\p.1∉X.fs/\∀v,p.2.data≠.cell v):Inv X pins' Y H s:=
 ⟨I.ok,I.os,I.bare,I.base,I.loc,I.cell,I.free,I.freeC,λp a=>(qr.mp a).elim (λz=>I.pin p (Q5 _ z)) (h p),I.hok,I.len⟩
theorem xX(c:N.Nodup)(a:N[i]?=some x)(b:N[j]?=some x):i=j:=by
 obtain⟨_,e⟩:=qp.mp a;obtain⟨_,d⟩:=qp.mp b;exact(List.getElem_inj c).mp (e.trans d.symm)
theorem uM{v:V}{Q:Unit->Shared->Prop}(I:Inv X pins Y H s)(hN:X.N.Nodup)(D:X.N[i]?=some x)(g:Loc X.env.scope x)(r:aE v u)
 (h:∀s',Inv X pins (Y.set i (some v)) H s'->(∃a,Heap.SameBut a s.heap s'.heap/\(a=X.env.locals\/X.env.cells.lookup x=some a))->Q () s') (hf:X.fn x=true\/X.env.scope.names.lookup x=some .local:=by first|exact .inl U|exact .inr U|assumption):wpAny M A (storeName X.env x u) Q E s:=by
 obtain⟨m,hn,hl⟩:=id I.loc;have T:(X.env.scope.kind == .class || (X.env.scope.kind == .module && X.env.locals != X.env.globals))=false:=by rw[I.ok.kind];rfl
 have C:i<Y.length:=by rw[I.len];exact(qp.mp D).1
 have cne:=I.cne
 have l:∀{a:Addr}{h':Heap},(∃o,s.heap.get? a=some o/\H a=none)->Heap.SameBut a s.heap h'->HOk X.prog X.w H h':=λ{a h'} ha hs b ob e=>by
  obtain⟨_,_,B⟩:=ha;refine(I.hok b ob e).stay (λc J hc q=>(hs.2 c ?_).trans q) (λ_ q=>q) λ_ _ q=>q;rintro rfl;rcases hc with rfl|hc
  .rw[B]at e;cases e
  .rw[B]at hc;cases hc
 rcases g with hk|hk
 .refine wpAny_storeName_local hk hn (λh' a1 hs=>?_) T;obtain⟨oL,_,_,a0,_⟩:=id hn;refine h _ ⟨I.ok,I.os,I.bare,⟨λb o e n hb g=>?_,λb o e n hb g=>?_,I.base.free,λb o e g=>?_,I.base.tups,I.base.frzs,I.base.tbls⟩,⟨_,a1,λj y S f t e3=>?_⟩,λy c e=>?_,I.free,I.freeC,λp W=>?_,l ⟨oL,a0,I.free⟩ hs,by simpa using I.len⟩ ⟨_,hs,.inl U⟩
  .exact(hs.2 b (qO (qL (qz e) I.ok.above))).trans (I.base.keep b o e n hb g)
  .obtain⟨sl,f⟩:=I.base.slot b o e n hb g;exact⟨sl,(hs.2 b (qO (qL (qz e) I.ok.above))).trans f⟩
  .obtain⟨O,f⟩:=I.base.there b o e g;exact⟨O,(hs.2 b (qO (qL (qz e) I.ok.above))).trans f⟩
  .by_cases hj:j=i
   .subst hj;rw[D]at f;cases f;rw[List.getElem?_set_self C]at t;cases t;exact⟨u,r,.inl ⟨hk,by simp⟩⟩
   .rw[List.getElem?_set_ne (Ne.symm hj)]at t;obtain⟨R,X0,q⟩:=hl j y S f t e3;exists R,X0;rcases q with⟨k,e⟩|⟨k,c,e,z⟩
    .refine .inl ⟨k,?_⟩;have:y≠x:=λe=>hj (xX hN f (e▸D));simp[this,e]
    .exact .inr ⟨k,c,e,z.sameBut hs (cne y c e)⟩
  .obtain⟨J,z⟩:=I.cell y c e;exact⟨J,z.sameBut hs (cne y c e)⟩
  .obtain⟨e,n,ne,P,d⟩:=I.pin p W;exact⟨(hs.2 p.1 ne).trans e,n,ne,P,d⟩
 .have F:X.fn x=true:=by
   rcases hf with z|z
   .exact z
   .rw[z]at hk;cases hk
  obtain⟨c,hc⟩:=I.ok.has x (.inl hk);obtain⟨J,z⟩:=I.cell x c hc;refine wpAny_storeName_cell I.ok.kind hk hc z (λh' K hs=>?_);obtain⟨oc,L,Z⟩:=id z;refine h { s with heap:=h' } ⟨I.ok,I.os,I.bare,⟨λb o e n hb g=>?_,λb o e n hb g=>?_,I.base.free,λb o e g=>?_,I.base.tups,I.base.frzs,I.base.tbls⟩,⟨m,hn.sameBut hs (Ne.symm (cne x c hc)),λj y S f t e3=>?_⟩,λy G e=>?_,I.free,I.freeC,λp W=>?_,l ⟨oc,L,I.freeC x c hc⟩ hs,by simpa using I.len⟩ ⟨c,hs,.inr hc⟩
  .exact(hs.2 b (qO (qL (qz e) (I.ok.cab x c F hc)))).trans (I.base.keep b o e n hb g)
  .obtain⟨sl,f⟩:=I.base.slot b o e n hb g;exact⟨sl,(hs.2 b (qO (qL (qz e) (I.ok.cab x c F hc)))).trans f⟩
  .obtain⟨O,f⟩:=I.base.there b o e g;exact⟨O,(hs.2 b (qO (qL (qz e) (I.ok.cab x c F hc)))).trans f⟩
  .by_cases hj:j=i
   .subst hj;rw[D]at f;cases f;rw[List.getElem?_set_self C]at t;cases t;exact⟨u,r,.inr ⟨.inl hk,c,hc,K⟩⟩
   .rw[List.getElem?_set_ne (Ne.symm hj)]at t;obtain⟨R,X0,q⟩:=hl j y S f t e3;exists R,X0;rcases q with q|⟨k,G,e,z'⟩
    .exact .inl q
    .refine .inr ⟨k,G,e,z'.sameBut hs ?_⟩;rintro rfl;exact hj (xX hN f (I.ok.inj _ _ _ e hc▸D))
  .by_cases hcc:G=c
   .subst hcc;exact⟨_,K⟩
   .obtain⟨w2,z2⟩:=I.cell y G e;exact⟨w2,z2.sameBut hs hcc⟩
  .obtain⟨e,n,ne,P,d⟩:=I.pin p W;refine⟨(hs.2 p.1 ?_).trans e,n,ne,P,d⟩;intro q;rw[q,L]at e;have q':oc=p.2:=qR e;exact d J (by rw[<- q'];exact Z)
theorem nJ{v:V}{Q:Unit->Shared->Prop}(I:Inv X pins Y H s)(a:X.N.Nodup)(d:X.N[i]?=some x)(e:Loc X.env.scope x)(r:aE v u)
 (h:∀s',Inv X pins (Y.set i (some v)) H s'->Q () s') (c:X.fn x=true\/X.env.scope.names.lookup x=some .local:=by first|exact .inl U|exact .inr U|assumption):wpAny M A (storeName X.env x u) Q E s:=
 uM I a d e r (λs' b _=>h s' b) c
theorem Inv.call'(I:Inv X pins Y H s)(f:s'.os=s.os)(u:Un (frs X.stack) ch H H' s.heap s'.heap)(hok:HOk X.prog X.w H' s'.heap)(g:AllBare s'.gens)
 (a:∀b∈ch,(b∈X.ex\/X.s₀.heap.objs.size<=b)/\b≠X.env.locals/\(∀x c,X.env.cells.lookup x=some c->c≠b)/\∀p∈X.pn++pins,p.1≠b):Inv X pins Y H' s':=by
 obtain⟨h',g',d',t',d⟩:=s';have e:d=s.os:=f;subst e;exact I.call (g':=g') (t':=t') (d':=d') u hok g a
end
abbrev XK:=Value->Option Addr->Hp->Prop
abbrev St:=List LC
abbrev VK:=V->Hp->Prop
abbrev TE:=St->Hp->VK->Prop
abbrev TT:=St->Hp->(Bool->Hp->Prop)->Prop
abbrev TA:=St->Hp->(LV->Hp->Prop)->Prop
structure jO where
 nx:St->Hp->Prop
 rt:VK
 bk:St->Hp->Prop:=λ_ _=>False
 ct:St->Hp->Prop:=λ_ _=>False
abbrev TS:=jO->St->Hp->Prop
def EP(X:Cx)(pins:List (Addr×Obj))(Y:St)(Q:VK)(u:Value)(s':Shared):Prop:=∃v H',Inv X pins Y H' s'/\aE v u/\Q v H'
def TP(X:Cx)(pins:List (Addr×Obj))(Y:St)(Q:Bool->Hp->Prop)(b:Bool)(s':Shared):Prop:=∃H',Inv X pins Y H' s'/\Q b H'
def AP(X:Cx)(pins:List (Addr×Obj))(Y:St)(Q:LV->Hp->Prop)(us:LL)(s':Shared):Prop:=∃vs H',Inv X pins Y H' s'/\aB vs us/\Q vs H'
def SP(X:Cx)(pins:List (Addr×Obj))(D:jO)(f:Flow)(s':Shared):Prop:=
 match f with
 |.next=>∃F H',Inv X pins F H' s'/\D.nx F H'
 |.brk=>∃F H',Inv X pins F H' s'/\D.bk F H'
 |.cont=>∃F H',Inv X pins F H' s'/\D.ct F H'
 |.ret u=>∃v F H',Inv X pins F H' s'/\aE v u/\D.rt v H'
def PE(X:Cx)(e:Expr)(t:TE):Prop:=
 ∀(pins:List (Addr×Obj))(s:Shared)(Y:St)(H:Hp)(Q:VK),Inv X pins Y H s->t Y H Q->wpAny (model X.prog X.w) X.A (eval e X.env) (EP X pins Y Q) X.xe s
def PT(X:Cx)(e:Expr)(t:TT):Prop:=
 ∀(pins:List (Addr×Obj))(s:Shared)(Y:St)(H:Hp)(Q:Bool->Hp->Prop),Inv X pins Y H s->t Y H Q->wpAny (model X.prog X.w) X.A (isTrue e X.env (eval e X.env)) (TP X pins Y Q) X.xe s
def PW(X:Cx)(e:Expr)(t:TT):Prop:=
 ∀(whole:Sem Value)(pins:List (Addr×Obj))(s:Shared)(Y:St)(H:Hp)(Q:Bool->Hp->Prop),Inv X pins Y H s->t Y H Q->wpAny (model X.prog X.w) X.A (isTrue e X.env whole) (TP X pins Y Q) X.xe s
theorem PW.pt{X:Cx}{t:TT}(h:PW X e t):PT X e t:=h _
def PA(X:Cx)(es:LR)(t:TA):Prop:=
 ∀(pos:Pos)(pins:List (Addr×Obj))(s:Shared)(Y:St)(H:Hp)(Q:LV->Hp->Prop),Inv X pins Y H s->t Y H Q->wpAny (model X.prog X.w) X.A (spliced (backTo pos (starEach es X.env))) (AP X pins Y Q) X.xe s
def PS(X:Cx)(st:Stmt)(t:TS):Prop:=
 ∀(pins:List (Addr×Obj))(s:Shared)(Y:St)(H:Hp)(D:jO),Inv X pins Y H s->t D Y H->wpAny (model X.prog X.w) X.A (exec st X.env) (SP X pins D) X.xe s
def PSs(X:Cx)(st:List Stmt)(t:TS):Prop:=
 ∀(pins:List (Addr×Obj))(s:Shared)(Y:St)(H:Hp)(D:jO),Inv X pins Y H s->t D Y H->wpAny (model X.prog X.w) X.A (execs st X.env) (SP X pins D) X.xe s
theorem thn{t:Sem α}{Q b:α->Shared->Prop}(h:wpAny M A t Q E s)(c:∀a s,Q a s->b a s):wpAny M A t b E s:=wpAny_mono h c λ_ _ x=>x
end L2
variable {X:L2.Cx}{Y:L2.St}{ta te:L2.TE}{tb:L2.TS}{D:L2.jO}{tt:L2.TT}
namespace L2
open PySem PySem.Spec PyProof.Rows
section
theorem bin{a b:Expr}{e:TE}(ha:PE X a ta)(hb:PE X b e){R:V->V->Hp->Prop}(I:Inv X pins Y H s)(h:ta Y H λx H1=>e Y H1 λy H2=>R x y H2)
 {Q:α->Shared->Prop}{f:Value->Value->Sem α}
  (i:∀v u s2 x y H2,Inv X pins Y H2 s2->aE x v->aE y u->R x y H2->wpAny (model X.prog X.w) X.A (f v u) Q X.xe s2):
  wpAny (model X.prog X.w) X.A (eval a X.env) (λv c=>wpAny (model X.prog X.w) X.A (eval b X.env) (λu d=>wpAny (model X.prog X.w) X.A (f v u) Q X.xe d) X.xe c) X.xe s:=by
  refine thn (ha pins s Y H _ I h) λv m ⟨x,H1,j,n,k⟩=>?_;refine thn (hb pins m Y H1 _ j k) λu s2 ⟨y,H2,g,l,o⟩=>?_;exact i v u s2 x y H2 g n l o
def uA(i:Nat):TE:=λY H Q=>∃v,Y[i]?=some (some v)/\Q v H
def tC(v:V):TE:=λ_ H Q=>Q v H
theorem CZ(f:X.N[i]?=some x)(g:Vis X.env.scope x)(hd:(x == ("__debug__":Str))=false:=by decide)(d:(x == ("__classdict__":Str))=false:=by decide):PE X (.Name x pos) (uA i):=by
 intro b s j H Q I h;obtain⟨v,e,h⟩:=h;obtain⟨m,hn,hl⟩:=I.loc;obtain⟨u,r,l⟩:=hl i x v f e g;have fin:EP X b j Q u s:=⟨v,H,I,r,h⟩;rcases l with⟨hk,k⟩|⟨hk,c,hc,a⟩
 .exact wpAny_Name (wpAny_loadName_local I.ok.kind hk hn k fin) hd
 .rcases hk with hk|hk
  .exact wpAny_Name (wpAny_loadName_cell I.ok.kind hk hc a fin) hd
  .exact wpAny_Name (wpAny_loadName_free I.ok.kind hk hc a fin d) hd
theorem aa{i j pos}:PE X (.Constant (.int i) j pos) (tC (.int i)):=λ_ _ _ H _ I h=>wpAny_Constant_int ⟨.int i,H,I.tok _,⟨_,U⟩,h⟩
theorem cq{b j pos}:PE X (.Constant (.bool b) j pos) (tC (.bl b)):=λ_ _ _ H _ I h=>Constant_bool ⟨.bl b,H,I,U,h⟩
theorem bN{j pos}:PE X (.Constant .none j pos) (tC .non):=λ_ _ _ H _ I h=>Constant_none ⟨.non,H,I,U,h⟩
theorem aQ{x j pos}:PE X (.Constant (.str x) j pos) (tC (.str x)):=λ_ _ _ H _ I h=>Calls.Constant_str ⟨.str x,H,I.tok _,⟨_,U⟩,h⟩
def Gl(X:Cx)(x:Str):Prop:=X.env.kindOf x=some .globalImplicit
theorem sP(I:Inv X pins Y H s)(a:Gl X x)(b:X.mg x=some u)(h:Q u s)
 (hd:(x == ("__debug__":Str))=false:=by decide):wpAny (model X.prog X.w) X.A (eval (.Name x pos) X.env) Q E s:=
 Calls.Name_function_global I.ok.kind a (Calls.loadGlobal_global (by rw[I.ok.glob];exact I.mod.glob.keeps I.bk) b h) hd
theorem gO(I:Inv X pins Y H s)(e:Gl X x)(d:X.mg x=none)(c:bootBuiltins x=some u)(h:Q u s)
 (hn:x≠"__name__":=by decide) (hd:(x == ("__debug__":Str))=false:=by decide):wpAny (model X.prog X.w) X.A (eval (.Name x pos) X.env) Q E s:=by
 obtain⟨_,a,b⟩:=I.mod.blt;exact Calls.Name_function_global I.ok.kind e (Calls.loadGlobal_builtin (by rw[I.ok.glob];exact I.mod.glob.keeps I.bk) d (by rw[I.ok.blt];exact a.keeps I.bk) ((b x hn).trans c) h) hd
theorem gJ{v:V}(a:Gl X x)(b:X.mg x=some u)(r:aE v u)(hd:(x == ("__debug__":Str))=false:=by decide):PE X (.Name x pos) (tC v):=
 λ_ _ _ H _ I h=>sP I a b ⟨v,H,I,r,h⟩ hd
theorem dW{v:V}(a:Gl X x)(c:X.mg x=none)(b:bootBuiltins x=some u)(r:aE v u)(hn:x≠"__name__":=by decide)(hd:(x == ("__debug__":Str))=false:=by decide):PE X (.Name x pos) (tC v):=
 λ_ _ _ H _ I h=>gO I a c b ⟨v,H,I,r,h⟩ hn hd
variable {a b:Expr}{tb:TE}
def PC(X:Cx)(op:CmpOp)(a b:Expr)(t:TE):Prop:=
 ∀(pins:List (Addr×Obj))(s:Shared)(Y:St)(H:Hp)(Q:VK),Inv X pins Y H s->t Y H Q->
  wpAny (model X.prog X.w) X.A (eval a X.env) (λv F=>wpAny (model X.prog X.w) X.A (eval b X.env) (λu J=>wpAny (model X.prog X.w) X.A (compareOp op v u) (EP X pins Y Q) X.xe J) X.xe F) X.xe s
def tB(t:TE):TT:=λY H Q=>t Y H λx H1=>∃c,x=.bl c/\Q c H1
theorem Ht{op:CmpOp}{t:TE}(h:PC X op a b t)(e:behindInMarks op b=false:=by first|exact nobehind _ Yk Yk|rfl):PT X (.Compare a [op] [b] pos) (tB t):=by
 intro f s j H Q I hw;refine wpAny_isTrue_Compare1 (thn (h f s j H _ I hw) λv _ e=>thn e λu _ g=>thn g λc _ ⟨x,l,i,m,k⟩=>?_) e;obtain⟨d,rfl,q⟩:=k;cases m;exact wpAny_truthy_bool ⟨l,i,q⟩
theorem CJ{t:TE}(h:PE X e t)(b:∀whole,isTrue e X.env whole=(do let v <- whole;standAt e.pos;holding [v] (truthy v)):=by intro _;rfl):PT X e (tB t):=by
 intro a s f H Q I hw;refine isTrue_plain (thn (h a s f H _ I hw) λv _ ⟨x,i,c,j,g⟩=>?_) (b _);obtain⟨d,rfl,q⟩:=g;cases j;exact wpAny_truthy_bool ⟨i,c,q⟩
variable {tA tB':TT}{rest:LR}
def AF(t u:TT):TT:=λY H Q=>t Y H λc H1=>if c=true then u Y H1 Q else Q false H1
def tOr(t u:TT):TT:=λY H Q=>t Y H λc H1=>if c=true then Q true H1 else u Y H1 Q
def Ak(t:TT):TT:=λY H Q=>t Y H λc H1=>Q (!c) H1
theorem hX(ha:PT X a tA):PW X (.BoolOp .And [a] pos) tA:=by
 intro wh b s d H Q I h;refine isTrue_and (thn (ha b s d H Q I h) λc _ e=>?_)
 cases c with
 |true=>exact isTrue_and_nil e
 |false=>exact e
theorem dL(ha:PT X a tA):PW X (.BoolOp .Or [a] pos) tA:=by
 intro wh b s d H Q I h;refine isTrue_or (thn (ha b s d H Q I h) λc _ e=>?_)
 cases c with
 |false=>exact isTrue_or_nil e
 |true=>exact e
theorem gf(ha:PT X a tA)(hb:PW X (.BoolOp .And (b::rest) pos) tB'):PW X (.BoolOp .And (a::b::rest) pos) (AF tA tB'):=by
 intro wh d s f H Q I h;refine isTrue_and (thn (ha d s f H _ I h) λc j ⟨i,e,g⟩=>?_)
 cases c with
 |true=>exact hb wh d j f i Q e g
 |false=>exact⟨i,e,g⟩
theorem c9(ha:PT X a tA)(hb:PW X (.BoolOp .Or (b::rest) pos) tB'):PW X (.BoolOp .Or (a::b::rest) pos) (tOr tA tB'):=by
 intro wh d s f H Q I h;refine isTrue_or (thn (ha d s f H _ I h) λc j ⟨i,e,g⟩=>?_)
 cases c with
 |true=>exact⟨i,e,g⟩
 |false=>exact hb wh d j f i Q e g
theorem cF(ha:PT X a tA):PT X (.UnaryOp .Not a pos) (Ak tA):=by
 intro b s d H Q I h;exact isTrue_not (ha b s d H (λc e=>Q (!c) e) I h)
def AE(ta tb:TE):TE:=λY H Q=>ta Y H λx H1=>∃c,x=.bl c/\if c=true then tb Y H1 Q else Q (.bl false) H1
def Aj(ta:TE):TE:=λY H Q=>ta Y H λx H1=>∃c,x=.bl c/\Q (.bl (!c)) H1
theorem jx{op}{t:TE}(h:PE X a t):PE X (.BoolOp op [a] pos) t:=λb s c H Q I hw=>BoolOp_one (h b s c H Q I hw)
theorem i6(ha:PE X a ta)(hb:PE X (.BoolOp .And (b::rest) pos) tb):PE X (.BoolOp .And (a::b::rest) pos) (AE ta tb):=by
 intro d s g H Q I h;refine BoolOp_and (thn (ha d s g H _ I h) λv j ⟨x,i,f,k,e⟩=>?_);obtain⟨c,rfl,e⟩:=e;cases k;refine wpAny_truthy_bool ?_
 cases c with
 |true=>exact hb d j g i Q f e
 |false=>exact⟨.bl false,i,f,U,e⟩
theorem D4(ha:PE X a ta):PE X (.UnaryOp .Not a pos) (Aj ta):=by
 intro d s f H Q I h;refine UnaryOp_ (thn (ha d s f H _ I h) λv _ ⟨x,g,e,i,b⟩=>?_);obtain⟨c,rfl,b⟩:=b;cases i;exact not_of (wpAny_truthy_bool ⟨.bl (!c),g,e,U,b⟩)
def tIf(t:TT)(ta tb:TE):TE:=λY H Q=>t Y H λc H1=>if c=true then ta Y H1 Q else tb Y H1 Q
theorem i5{c:Expr}(hc:PT X c tA)(ha:PE X a ta)(hb:PE X b tb):PE X (.IfExp c a b pos) (tIf tA ta tb):=by
 intro e s f H Q I h;refine wpAny_IfExp (thn (hc e s f H _ I h) λd k ⟨j,g,i⟩=>?_)
 cases d with
 |true=>exact ha e k f j Q g i
 |false=>exact hb e k f j Q g i
end
def SqL(K:W.Frag)(H:Hp)(a:Addr)(xs:LV):Prop:=
 Rd H a (.lst xs) \/
  ∃(o:Obj)(its:LD)(n:Nat),K.lookup a=some o/\o.cls=.type "list"/\o.dict=none/\o.data=.seq its n/\its.size<=sizeLine/\aB xs its.toList
def SqT(K:W.Frag)(H:Hp)(a:Addr)(xs:LV):Prop:=
 Rd H a (.tup xs) \/
  ∃(o:Obj)(its:LD)(n:Nat),K.lookup a=some o/\o.cls=.type "tuple"/\o.data=.seq its n/\its.size<=sizeLine/\aB xs its.toList
noncomputable def Hh:Value->LC
 |.none=>some .non
 |.bool b=>some (.bl b)
 |.int i _=>some (.int i)
 |.str x _=>some (.str x)
 |.bytes b _=>some (.byt b)
 |.float b _=>some (.flt b)
 |.ref a=>some (.ref a)
 |.type n=>some (.ty n)
 |_=>none
theorem aE.abs{x:V}(r:aE x u):Hh u=some x:=by
 cases x with
 |non=>cases r;rfl
 |bl _=>cases r;rfl
 |int _=>obtain⟨t,rfl⟩:=r;rfl
 |str _=>obtain⟨t,rfl⟩:=r;rfl
 |byt _=>obtain⟨t,rfl⟩:=r;rfl
 |flt _=>obtain⟨t,rfl⟩:=r;rfl
 |ref _=>cases r;rfl
 |ty _=>cases r;rfl
theorem aE.inj{x y:V}{u:Value}(r:aE x u)(q:aE y u):x=y:=qR (r.abs.symm.trans q.abs)
theorem aB.inj:∀{xs ys:LV}{us:LL},aB xs us->aB ys us->xs=ys
 |_,_,_,.nil,.nil=>rfl
 |_,_,_,.cons r t,.cons r' t'=>by rw[r.inj r',aB.inj t t']
section
variable {xs ys:LV}
theorem SqL.of(h:H a=some (.lst xs)):SqL K H a xs:=.inl (.inl h)
theorem SqT.of(h:H a=some (.tup xs)):SqT K H a xs:=.inl (.inl h)
theorem Inv.list(I:Inv X pins Y H s)(h:SqL X.K H a xs):∃its:LL,aB xs its/\PlainL s.heap a its.toArray/\xs.length<=sizeLine:=by
 rcases h with h|⟨o,its,n,hk,hc,hd,hs,_,r⟩
 .obtain⟨z,its,n,r,e⟩:=h.ok I.hok;exact⟨its,r,⟨_,n,e,U,U,U⟩,z⟩
 .exists its.toList,r,⟨o,n,I.kIn a o hk,hc,hd,by simpa using hs⟩;have e:=r.length;simp only[qU]at e;omega
theorem Inv.tuple(I:Inv X pins Y H s)(h:SqT X.K H a xs):∃its:LL,aB xs its/\IsTup s.heap a its.toArray/\xs.length<=sizeLine:=by
 rcases h with h|⟨o,its,n,hk,hc,hs,_,r⟩
 .obtain⟨z,its,r,p⟩:=h.ok I.hok;exact⟨its,r,p,z.1⟩
 .exists its.toList,r,⟨o,I.kIn a o hk,hc,n,by simpa using hs⟩;have e:=r.length;simp only[qU]at e;omega
theorem Inv.list_inj(I:Inv X pins Y H s)(h:SqL X.K H a xs)(h':SqL X.K H a ys):xs=ys:=by
 obtain⟨c,r,⟨o,n,e,_,_,d⟩,_⟩:=I.list h;obtain⟨its',f,⟨_,_,b,_,_,d'⟩,_⟩:=I.list h';rw[e]at b;cases b;rw[d]at d';injection d' with d1 _;have:c=its':=by simpa using congrArg Array.toList d1
 subst this;exact r.inj f
theorem Inv.tuple_inj(I:Inv X pins Y H s)(h:SqT X.K H a xs)(h':SqT X.K H a ys):xs=ys:=by
 obtain⟨c,r,⟨o,e,_,n,d⟩,_⟩:=I.tuple h;obtain⟨its',f,⟨_,b,_,_,d'⟩,_⟩:=I.tuple h';rw[e]at b;cases b;rw[d]at d';injection d' with d1 _;have:c=its':=by simpa using congrArg Array.toList d1
 subst this;exact r.inj f
end
noncomputable abbrev Cx.wish(X:Cx)(E:LP):Cx:={ X with xe:=E }
noncomputable abbrev Cx.nox(X:Cx):Cx:=X.wish λ_ _=>False
theorem Cx.Ok.wish{X:Cx}(ok:X.Ok)(E:LP):(X.wish E).Ok:=
 ⟨ok.mod,ok.kind,ok.glob,ok.blt,ok.above,ok.inj,ok.has,ok.cab,ok.hd,ok.frames,ok.stk,ok.exf,ok.bs,ok.bsz,ok.noex,ok.exfs,ok.funs,ok.frf⟩
theorem Cx.Ok.unwish(ok:(X.wish E).Ok):X.Ok:=
 ⟨ok.mod,ok.kind,ok.glob,ok.blt,ok.above,ok.inj,ok.has,ok.cab,ok.hd,ok.frames,ok.stk,ok.exf,ok.bs,ok.bsz,ok.noex,ok.exfs,ok.funs,ok.frf⟩
theorem Inv.wish(I:Inv X pins Y H s)(E:LP):Inv (X.wish E) pins Y H s:=⟨I.ok.wish E,I.os,I.bare,I.base,I.loc,I.cell,I.free,I.freeC,I.pin,I.hok,I.len⟩
theorem Inv.unwish(I:Inv (X.wish E) pins Y H s):Inv X pins Y H s:=⟨I.ok.unwish,I.os,I.bare,I.base,I.loc,I.cell,I.free,I.freeC,I.pin,I.hok,I.len⟩
theorem SP.unwish{D:jO}{f:Flow}{b:Shared}(h:SP (X.wish E) pins D f b):SP X pins D f b:=by
 cases f with
 |next=>obtain⟨a,H',I,q⟩:=h;exact⟨a,H',I.unwish,q⟩
 |brk=>obtain⟨a,H',I,q⟩:=h;exact⟨a,H',I.unwish,q⟩
 |cont=>obtain⟨a,H',I,q⟩:=h;exact⟨a,H',I.unwish,q⟩
 |ret u=>obtain⟨v,a,H',I,r,q⟩:=h;exact⟨v,a,H',I.unwish,r,q⟩
theorem PSs.nox{st:List Stmt}{t:TS}(h:PSs X.nox st t):PSs X st t:=λa s b H D I hw=>
 wpAny_mono (h a s b H D (I.wish _) hw) (λ_ _ q=>q.unwish) λ_ _ z=>False.elim z
section
variable {st:Stmt}{rest:List Stmt}{t u:TS}
def uD:TS:=λD Y H=>D.nx Y H
def uB(t u:TS):TS:=λD Y H=>t { D with nx:=u D } Y H
theorem aN:PSs X [] uD:=λ_ _ a H _ I h=>wpAny_execs_nil ⟨a,H,I,h⟩
theorem ag(c:PS X st t)(i:PSs X rest u):PSs X (st::rest) (uB t u):=by
 intro a s g H D I h;refine wpAny_execs_cons (thn (c a s g H { D with nx:=u D } I h) λf d q=>?_)
 cases f with
 |next=>
  obtain⟨b,H',e,q⟩:=q;exact i a d b H' D e q
 |ret v=>exact q
 |brk=>exact q
 |cont=>exact q
theorem aj(b:PS X st t):PSs X [st] t:=by
 intro a s c H D I h;refine wpAny_execs_cons (thn (b a s c H D I h) λf _ q=>?_)
 cases f with
 |next=>exact wpAny_execs_nil q
 |ret v=>exact q
 |brk=>exact q
 |cont=>exact q
theorem Inv.quiet(I:Inv X pins Y H s):interactive X.env=false:=by simp[interactive,I.ok.kind]
def Au(te:TE):TS:=λD Y H=>te Y H λ_ H1=>D.nx Y H1
theorem bu(c:PE X e te)(hs:swapsWith e none pos.line X.env=pure false:=by rfl):PS X (.Expr e pos) (Au te):=by
 intro a s b H D I h;exact wpAny_Expr_any (thn (c a s b H _ I h) λv _ ⟨x,g,d,_,f⟩=>⟨b,g,d,f⟩) I.quiet hs
def Ah(te:TE):TS:=λD Y H=>te Y H D.rt
theorem az(c:PE X e te):PS X (.Return (some e) pos) (Ah te):=by
 intro a s b H D I h;exact wpAny_Return_some (thn (c a s b H _ I h) λv _ ⟨x,g,d,i,f⟩=>⟨x,b,g,d,i,f⟩)
def Ar(c:TT)(t u:TS):TS:=λD Y H=>c Y H λb H1=>if b=true then t D Y H1 else u D Y H1
theorem aJ{c:Expr}{a b:List Stmt}{j:TT}(hc:PT X c j)(ha:PSs X a t)(hb:PSs X b u):PS X (.If c a b pos) (Ar j t u):=by
 intro e s f H D I h;refine wpAny_If (thn (hc e s f H _ I h) λd l ⟨k,g,i⟩=>?_)
 cases d with
 |true=>exact ha e l f k D g i
 |false=>exact hb e l f k D g i
def Am:TS:=λ_ _ _=>False
theorem x9:PS X st Am:=λ_ _ _ _ _ _ h=>h.elim
end
abbrev TG:=V->St->Hp->(St->Hp->Prop)->Prop
abbrev TGs:=LV->St->Hp->(St->Hp->Prop)->Prop
def PG(X:Cx)(F:Expr)(t:TG):Prop:=
 ∀(pins:List (Addr×Obj))(s:Shared)(Y:St)(H:Hp)(v:V)(u:Value)(Q:St->Hp->Prop),Inv X pins Y H s->aE v u->t v Y H Q->
  wpAny (model X.prog X.w) X.A (assign F X.env u) (λ_ s'=>∃J H',Inv X pins J H' s'/\Q J H') X.xe s
def PGs(X:Cx)(J:LR)(t:TGs):Prop:=
 ∀(pins:List (Addr×Obj))(s:Shared)(Y:St)(H:Hp)(vs:LV)(us:LL)(Q:St->Hp->Prop),Inv X pins Y H s->aB vs us->t vs Y H Q->
  wpAny (model X.prog X.w) X.A (assignInOrder ((assignEach J X.env).map (·.2)) us) (λ_ s'=>∃F H',Inv X pins F H' s'/\Q F H') X.xe s
abbrev ua:=V->V->V->Hp->(Hp->Prop)->Prop
def zF(X:Cx)(t:ua):Prop:=
 ∀(pins:List (Addr×Obj))(s:Shared)(Y:St)(H:Hp)(o i v:V)(ov F u:Value)(Q:Hp->Prop),Inv X pins Y H s->aE o ov->aE i F->aE v u->t o i v H Q->
  wpAny (model X.prog X.w) X.A (setItem ov F u) (λ_ s'=>∃H',Inv X pins Y H' s'/\Q H') X.xe s
abbrev TIp:=V->V->Hp->VK->Prop
def PIp(X:Cx)(op:Operator)(t:TIp):Prop:=
 ∀(pins:List (Addr×Obj))(s:Shared)(Y:St)(H:Hp)(x y:V)(v u:Value)(Q:VK),Inv X pins Y H s->aE x v->aE y u->t x y H Q->
  wpAny (model X.prog X.w) X.A (inplaceOp op v u) (EP X pins Y Q) X.xe s
def tf(i:Nat):TG:=λv Y H Q=>Q (Y.set i (some v)) H
theorem aI(a:X.N.Nodup)(d:X.N[i]?=some x)(e:Loc X.env.scope x)(c:X.fn x=true\/X.env.scope.names.lookup x=some .local:=by first|exact .inl U|exact .inr U|assumption):PG X (.Name x pos) (tf i):=by
 intro _ s _ H v u Q I r h;exact wpAny_assign_Name (nJ I a d e r (λ_ b=>⟨_,H,b,h⟩) c)
def FK:TGs:=λvs Y H Q=>vs=[]/\Q Y H
def FL(t:TG)(u:TGs):TGs:=λvs Y H Q=>∃v r,vs=v::r/\t v Y H λF H'=>u r F H' Q
theorem d5:PGs X [] FK:=by
 intro _ s a H vs us Q I r h;obtain⟨e,h⟩:=h;subst e;cases r;exact assignInOrder_nil ⟨a,H,I,h⟩
theorem bh{es:LR}{t:TG}{u:TGs}(c:PG X e t)(l:PGs X es u)
 (hs:(assignEach (e::es) X.env).map (·.2)=assign e X.env::(assignEach es X.env).map (·.2):=by rfl):PGs X (e::es) (FL t u):=by
 intro a s g H vs us Q I r h;obtain⟨v,_,k,h⟩:=h;subst k
 cases r with
 |cons r rr=>
  rw[hs];refine assignInOrder_cons (thn (c a s g H _ _ _ I r h) λ_ d ⟨b,j,f,i⟩=>?_);exact l a d b j _ _ Q f rr i
def yz(K:W.Frag)(n:Nat)(t:TGs):TG:=λv Y H Q=>∃a xs,v=.ref a/\SqT K H a xs/\xs.length=n/\t xs Y H Q
theorem dM{es:LR}{k:Nat}{t:TGs}(hc:X.calm=true)(h:PGs X es t)
 (hn:(assignEach es X.env).length=n:=by rfl) (d:(assignEach es X.env).findIdx? (·.1)=none:=by rfl):PG X (.Tuple es k pos) (yz X.K n t):=by
 intro c s f H v u Q I r hw;obtain⟨a,xs,m,l,hl,hw⟩:=hw;subst m;cases r;obtain⟨_,g,ht,_⟩:=I.tuple l;refine assign_Tuple_tuple (I.ok.hd hc) ht (by simp[hn,<- hl,g.length]) d λh' j=>?_;have i:Inv X c f H { s with heap:=h' }:=I.kept (t':=s.toks) λb o e=>j b o (qO (qz e)) e;exact h c _ f H xs _ Q i (by simpa using g) hw
def FJ(to J:TE)(t:ua):TG:=λv Y H Q=>to Y H λo H1=>J Y H1 λi H2=>t o i v H2 λF=>Q Y F
theorem jw{o i:Expr}{e d:TE}{t:ua}(f:PE X o e)(q:PE X i d)(hs:zF X t)
 (ha:∀v,assign (.Subscript o i pos) X.env v=(do
  let ov <- holding [v] (eval o X.env)
  let b <- holding [v,ov] (eval i X.env)
  standAt pos
  holding [v,ov,b] (setItem ov b v)
  release [v,ov,b] []):=by intro _;rfl):PG X (.Subscript o i pos) (FJ e d t):=by
 intro a s c H v u Q I r h;rw[ha];refine qb (QD (thn (f a s c H _ I h) λov n ⟨x,g,D,z,l⟩=>?_));refine qb (QD (thn (q a n c g _ D l) λb A ⟨y,j,C,w,p⟩=>?_));refine qb (wpAny_standAt (qb (QD (thn (hs a A c j x y v ov b u _ C z w r p) λ_ _ ⟨B,m,k⟩=>?_))));exact wpAny_release ⟨c,B,m,k⟩
def nB(te:TE)(g:TG):TS:=λD Y H=>te Y H λx H1=>g x Y H1 D.nx
theorem gi{g:TG}(d:PE X e te)(k:PG X tg g)(hs:swapsWithSole [tg] e pos.line X.env=pure false:=by rfl)(hw:swappedStores [tg] e X.env=pure none:=by rfl)
 (c:(assignEach [tg] X.env).map (·.2)=[assign tg X.env]:=by rfl):PS X (.Assign [tg] e pos) (nB te g):=by
 intro a s b H D I h;refine wpAny_Assign_stores (thn (d a s b H _ I h) λv l ⟨x,j,f,m,i⟩=>?_) hs hw;rw[c];exact thn (k a l b j x v _ f m i) λ_ _ q=>q
theorem aq(b:X.N.Nodup)(d:X.N[i]?=some x)(l:Loc X.env.scope x)(o:PE X e te)(hs:swapsWith e (some (.Name x pos')) pos.line X.env=pure false:=by rfl)(f:X.fn x=true\/X.env.scope.names.lookup x=some .local:=by first|exact .inl U|exact .inr U|assumption):
 PS X (.Assign [.Name x pos'] e pos) (nB te (tf i)):=by
 intro a s j H D I h;refine wpAny_Assign_Name (thn (o a s j H _ I h) λv _ ⟨y,m,g,n,k⟩=>?_) hs;exact nJ g b d l n (λ_ c=>⟨_,m,c,k⟩) f
def AD(i:Nat)(te:TE)(F:TIp):TS:=λD Y H=>∃x,Y[i]?=some (some x)/\te Y H λy H1=>F x y H1 λz H2=>D.nx (Y.set i (some z)) H2
theorem CM{op:Operator}{j:TIp}(M:X.N.Nodup)(o:X.N[i]?=some x)(f:Loc X.env.scope x)(E:PE X e te)(q:PIp X op j)(O:X.fn x=true\/X.env.scope.names.lookup x=some .local:=by first|exact .inl U|exact .inr U|assumption):
 PS X (.AugAssign (.Name x pos') op e pos) (AD i te j):=by
 intro a s p H D I h;obtain⟨v,B,h⟩:=h;obtain⟨m,hn,hl⟩:=I.loc;have n:Vis X.env.scope x:=by rcases f with k|k;exact .inl k;exact .inr (.inl k)
 obtain⟨u,r,l⟩:=hl i x v o B n;refine wpAny_AugAssign_Name ?_
 have go:wpAny (model X.prog X.w) X.A (eval e X.env) (λw d=>wpAny (model X.prog X.w) X.A (inplaceOp op u w) (λr g=>wpAny (model X.prog X.w) X.A (storeName X.env x r) (λ_=>SP X a D .next) X.xe g) X.xe d) X.xe s:=by
  refine thn (E a s p H _ I h) λw K ⟨y,t,S,Q,G⟩=>?_;refine thn (q a K p t v y u w _ S r Q G) λz _ ⟨_,F,R,P,L⟩=>?_;exact nJ R M o f P (λ_ J=>⟨_,F,J,L⟩) O
 rcases l with⟨hk,C⟩|⟨hk,c,hc,b⟩
 .exact wpAny_loadName_local I.ok.kind hk hn C go
 .rcases hk with hk|hk
  .exact wpAny_loadName_cell I.ok.kind hk hc b go
  .rcases f with k|k
   .have:X.env.scope.names.lookup x=some .free:=hk;rw[k]at this;cases this
   .have:X.env.scope.names.lookup x=some .free:=hk;rw[k]at this;cases this
def ipI(f:Int->Int->Int):TIp:=λx y H Q=>∃i j,x=.int i/\y=.int j/\Q (.int (f i j)) H
theorem Fu:PIp X .Add (ipI λi j=>i+j):=by
 intro _ s _ H x y v u Q I d b h;obtain⟨i,j,c,a,q⟩:=h;subst c;subst a;obtain⟨t,rfl⟩:=d;obtain⟨t',rfl⟩:=b;exact iadd_int ⟨.int _,H,I.tok _,⟨_,U⟩,q⟩
def uz(c:TT)(tb:TS):TS:=λD Y H=>∃W:Nat->St->Hp->Prop,(∃m,W m Y H)/\∀m Y H,W m Y H->
 c Y H λb H1=>if b=true then ∃N:St->Hp->Prop,(∀F H',N F H'->∃m',m'<m/\W m' F H')/\tb { D with nx:=N,ct:=N,bk:=D.nx } Y H1 else D.nx Y H1
theorem lR{c:Expr}{x:TT}(z:PassesOwn (model X.prog X.w) X.A X.env X.xe)(hc:PT X c x)(hb:PSs X body tb):PS X (.While c body [] pos) (uz x tb):=by
 intro d s M H D I h;obtain⟨W,⟨J,C⟩,r⟩:=h;refine wpAny_While (codeAny_whileLoop (λn F=>∃k H',Inv X d k H' F/\W n k H') ?_ J ⟨M,H,I,C⟩);rintro n G ⟨e,t,L,E⟩;refine wpAny_passesOwn z (thn (hc d G e t _ L (r n e t E)) λb K ⟨u,B,j⟩=>?_)
 cases b with
 |true=>
  obtain⟨N,y,j⟩:=j;rw[Qa U];refine wpAny_passesOwn z (thn (hb d K e u _ B j) λf _ i=>?_)
  cases f with
  |next=>
   obtain⟨a,g,o,q⟩:=i;obtain⟨p,m,l⟩:=y a g q;exact⟨p,m,a,g,o,l⟩
  |cont=>
   obtain⟨a,g,o,q⟩:=i;obtain⟨p,m,l⟩:=y a g q;exact⟨p,m,a,g,o,l⟩
  |brk=>exact i
  |ret v=>exact i
 |false=>
  rw[Q9 qt];exact wpAny_execs_nil ⟨e,u,B,j⟩
structure It where
 go:Nat->Hp->Prop
 yld:Nat->Hp->V->Hp->Prop
 stop:Nat->Hp->Prop
def dQ(X:Cx)(pins:List (Addr×Obj))(H:Hp)(b:Addr):Prop:=
 H b=none/\b≠X.env.locals/\b∉X.fs/\(b∈X.ex\/X.s₀.heap.objs.size<=b)/\(∀x c,X.env.cells.lookup x=some c->c≠b)/\∀p∈X.pn++pins,p.1≠b
theorem Inv.fpOk(I:Inv X pins Y H s)(hb:s.heap.objs.size<=b)(hn:H' b=none):dQ X pins H' b:=by
 refine⟨hn,Nat.ne_of_gt (qL I.lt hb),I.nofs hb,.inr (qH I.sz hb),λx c e z=>?_,λp a z=>?_⟩
 .obtain⟨v,q⟩:=I.cell x c e;exact Qd (qL q.lt (by rwa[z])) (Qk _)
 .exact Qd (qL (qz (I.pin p a).1) (by rwa[z])) (Qk _)
structure j2(P:Program)(w:World)(K:W.Frag)(tg:Expr)(J:It)(fp:LK)(it:Addr)(tn:Nat->Heap->Prop):Prop where
 mem:it∈fp
 obj:∀i h,tn i h->∀b∈fp,∃o,h.get? b=some o/\∀v,o.data≠.cell v
 keep:∀i h h',tn i h->(∀b∈fp,∀o,h.get? b=some o->h'.get? b=some o)->tn i h'
 item:∀(X:Cx),X.prog=P->X.w=w->X.K=K->X.calm=true->∀(i:Nat)(pins:List (Addr×Obj))(s:Shared)(Y:St)(H:Hp)(E:LP),Inv X pins Y H s->(∀b∈fp,dQ X pins H b)->tn i s.heap->J.go i H->
  wpAny (model P w) X.A (pyNext (.ref it)) (λr s1=>∃u,r=some u /\
   wpAny (model P w) X.A (letOwnedTupleGo tg (.ref it) u) (λ_ s2=>∃x H',Inv X pins Y H' s2/\aE x u/\J.yld i H x H'/\tn (i+1) s2.heap/\∀b∈fp,H' b=none) E s1) E s
 done:∀(X:Cx),X.prog=P->X.w=w->X.K=K->X.calm=true->∀(i:Nat)(pins:List (Addr×Obj))(s:Shared)(Y:St)(H:Hp)(E:LP),Inv X pins Y H s->(∀b∈fp,dQ X pins H b)->tn i s.heap->J.stop i H->
  wpAny (model P w) X.A (pyNext (.ref it)) (λr s1=>r=none/\Inv X pins Y H s1) E s
 self:∀(A:Around)(i:Nat)(s:Shared)(Q:LP)(E:LP),tn i s.heap->Q (.ref it) s->wpAny (model P w) A (pyIter (.ref it)) Q E s
abbrev TI:=St->Hp->(It->Hp->Prop)->Prop
def PIE(X:Cx)(pins:List (Addr×Obj))(Y:St)(tg:Expr)(R:It->Hp->Prop)(F:Value)(s2:Shared):Prop:=
 ∃(it:Addr)(fp:LK)(O:Nat->Heap->Prop)(J:It)(H':Hp),F=.ref it/\Inv X pins Y H' s2/\j2 X.prog X.w X.K tg J fp it O/\O 0 s2.heap/\(∀b∈fp,dQ X pins H' b)/\R J H'
def PI(X:Cx)(tg iter:Expr)(F:TI):Prop:=
 ∀(pins:List (Addr×Obj))(s:Shared)(Y:St)(H:Hp)(R:It->Hp->Prop),Inv X pins Y H s->F Y H R->
  wpAny (model X.prog X.w) X.A (eval iter X.env) (λv s1=>wpAny (model X.prog X.w) X.A (pyIter v) (PIE X pins Y tg R) X.xe s1) X.xe s
theorem t6{o:Obj}{n:String}{vs:LD}{Q:Unit->Shared->Prop}(b:s.heap.get? it=some o)(hc:o.cls=.type n)(hd:o.data=.fields vs)
 (hn:["enumerate","zip","dict_itemiterator","dict_reverseitemiterator","odict_iterator","itertools.zip_longest","itertools.pairwise"].contains n=false) (a:Q () s):wpAny M A (letOwnedTupleGo tg (.ref it) u) Q E s:=by
 unfold letOwnedTupleGo
 cases tg<;>first
  |exact qk a
  |(cases u<;>first
   |exact qk a
   |(refine qb (wpAny_load b ?_)
     rw[hc,hd];show wpAny M A (if(["enumerate","zip","dict_itemiterator","dict_reverseitemiterator","odict_iterator","itertools.zip_longest","itertools.pairwise"].contains n && vs[0]? == some (rawInt _))=true then _ else _) Q E s;rw[Q9 (by intro h;rw[hn,Bool.false_and]at h;cases h)]
     exact qk a))
noncomputable def Itl(K:W.Frag)(a:Addr):It:=
 ⟨λi H=>∃xs x,SqL K H a xs/\xs[i]?=some x,λi H x H'=>H'=H/\∀xs,SqL K H a xs->xs[i]?=some x,λi H=>∃xs,SqL K H a xs/\xs.length<=i⟩
noncomputable def Itt(K:W.Frag)(a:Addr):It:=
 ⟨λi H=>∃xs x,SqT K H a xs/\xs[i]?=some x,λi H x H'=>H'=H/\∀xs,SqT K H a xs->xs[i]?=some x,λi H=>∃xs,SqT K H a xs/\xs.length<=i⟩
noncomputable def Itr(lo:Int)(n:Nat):It:=⟨λi _=>i<n,λi H x H'=>H'=H/\x=.int (lo+i),λi _=>n<=i⟩
theorem Aa(a it:Addr):j2 P w K tg (Itl K a) [it] it (λi h=>h.IsListIter it a i) where
 mem:=by simp
 obj:=λi h st b hb=>by
  have e:b=it:=by simpa using hb
  subst e;obtain⟨o,e,c,d⟩:=st;exact⟨o,e,λv z=>by rw[d]at z;cases z⟩
 keep:=λi h h' st k=>st.at λo e=>k it (by simp) o e
 item:=by
  intro X q hw A hc i f s G H E I j st n;subst q hw A;obtain⟨xs,x,g,C⟩:=n;obtain⟨F,D,p,J⟩:=I.list g;obtain⟨u,Q,M⟩:=D.get C;obtain⟨y,m,S,r,B,t⟩:=j it (by simp);refine wpAny_pyNext_list_item st p.isList (x:=u) (by simpa using Q) λh' l L=>?_;have R:Inv X f G H { s with heap:=h' }:=I.turned (t':=s.toks) (λb o hb e=>(L.2 b hb).trans e) y m r B t;obtain⟨o,e,c,d⟩:=id l;exact⟨u,U,t6 (s:={ s with heap:=h' }) e c d Yk ⟨x,H,R,M,⟨U,λys O=>by rw[I.list_inj O g];exact C⟩,l,λb hb=>(j b hb).1⟩⟩
 done:=by
  intro X q hw A hc i f s G H E I j st n;subst q hw A;obtain⟨xs,g,C⟩:=n;obtain⟨F,D,p,J⟩:=I.list g;obtain⟨y,m,S,r,B,t⟩:=j it (by simp);have hl:=D.length;exact wpAny_pyNext_list_end (I.ok.hd hc) st p.isList (by simp;omega) λh' N=>⟨U,I.turned (t':=s.toks) (λb o hb e=>N b o hb e) y m r B t⟩
 self:=λ_ _ _ _ _ st h=>wpAny_pyIter_listiter st h
theorem A8(a it:Addr):j2 P w K tg (Itt K a) [it] it (λi h=>h.IsTupleIter it a i) where
 mem:=by simp
 obj:=λi h st b hb=>by
  have e:b=it:=by simpa using hb
  subst e;obtain⟨o,e,c,d⟩:=st;exact⟨o,e,λv z=>by rw[d]at z;cases z⟩
 keep:=λi h h' st k=>st.at λo e=>k it (by simp) o e
 item:=by
  intro X r hw B hc i g s G H E I l st q;subst r hw B;obtain⟨xs,x,j,D⟩:=q;obtain⟨f,F,p,J⟩:=I.tuple j;obtain⟨u,Q,M⟩:=F.get D;obtain⟨A,n,S,t,C,y⟩:=l it (by simp);refine wpAny_pyNext_tuple_item st (show s.heap.IsTuple a f.toArray from p) (x:=u) (by simpa using Q) λh' m L=>?_;have R:Inv X g G H { s with heap:=h' }:=I.turned (t':=s.toks) (λb o hb e=>(L.2 b hb).trans e) A n t C y;obtain⟨o,e,c,d⟩:=id m;exact⟨u,U,t6 (s:={ s with heap:=h' }) e c d Yk ⟨x,H,R,M,⟨U,λys O=>by rw[I.tuple_inj O j];exact D⟩,m,λb hb=>(l b hb).1⟩⟩
 done:=by
  intro X r hw B hc i g s G H E I l st q;subst r hw B;obtain⟨xs,j,D⟩:=q;obtain⟨f,F,p,J⟩:=I.tuple j;obtain⟨A,n,S,t,C,y⟩:=l it (by simp);have hl:=F.length;exact wpAny_pyNext_tuple_end (I.ok.hd hc) st (show s.heap.IsTuple a f.toArray from p) (by simp;omega) λh' N=>⟨U,I.turned (t':=s.toks) (λb o hb e=>N b o hb e) A n t C y⟩
 self:=λ_ _ _ _ _ st h=>wpAny_pyIter_tupleiter st h
theorem A9(it:Addr)(c:Int)(n:Nat):j2 P w K tg (Itr c n) [it] it (λi h=>IsRangeIter h it (c+(i:Nat) * 1) ((n:Int)-(i:Nat)) 1) where
 mem:=by simp
 obj:=λi h st b hb=>by
  have e:b=it:=by simpa using hb
  subst e
  exact⟨_,st,λv z=>by
   have B:Data.fields _=Data.cell v:=z
   cases B⟩
 keep:=λi h h' st k=>k it (by simp) _ st
 item:=by
  intro X l hw r hc i a s x H E I d st j;subst l hw r;obtain⟨p,g,F,m,u,q⟩:=d it (by simp);have W:=Walks.range (prog:=X.prog) (w:=X.w) (I.ok.hd hc) it c 1 n;refine W.item i s _ _ j st λv h' tk y f A=>?_;obtain⟨t,rfl⟩:=y;have D:Inv X a x H { s with heap:=h',toks:=tk }:=I.turned (λb o hb e=>A b o (by simpa using hb) e) p g m u q;refine⟨_,U,t6 (s:={ s with heap:=h',toks:=tk }) (n:="range_iterator") f U U Yk ⟨.int (c+i),H,D,⟨t,?_⟩,⟨U,U⟩,f,λb hb=>(d b hb).1⟩⟩;rw[Int.mul_one]
 done:=by
  intro X l hw r hc i a s x H E I d st j;subst l hw r;obtain⟨p,g,F,m,u,q⟩:=d it (by simp);exact wpAny_pyNext_range_end (I.ok.hd hc) st (by have:n<=i:=j;omega) λh' C=>⟨U,I.turned (t':=s.toks) (λb o hb e=>C b o hb e) p g m u q⟩
 self:=λ_ _ _ _ _ st h=>wpAny_pyIter_rangeiter st h
def FB(K:W.Frag)(tl:TE):TI:=λY H R=>tl Y H λx H1=>∃a,x=.ref a/\(∃xs,SqL K H1 a xs)/\R (Itl K a) H1
def FA(K:W.Frag)(tl:TE):TI:=λY H R=>tl Y H λx H1=>∃a,x=.ref a/\(∃xs,SqT K H1 a xs)/\R (Itt K a) H1
theorem ce{l:Expr}{tl:TE}(hl:PE X l tl):PI X tg l (FB X.K tl):=by
 intro f s g H R I h;refine thn (hl f s g H _ I h) λv d ⟨x,j,c,m,i⟩=>?_;obtain⟨a,e,⟨xs,k⟩,q⟩:=i;subst e;cases m;obtain⟨_,_,p,_⟩:=c.list k;refine wpAny_pyIter_list p.isList ?_;refine⟨d.heap.objs.size,[d.heap.objs.size],_,_,j,U,c.kept (t':=d.toks) λb o e=>qf _ e,Aa a _,⟨_,qy _ U,U,U⟩,λb hb=>?_,q⟩;have e:b=d.heap.objs.size:=by simpa using hb
 subst e;exact c.fpOk (qo _) (c.hok.fresh (qo _))
theorem iJ{l:Expr}{tl:TE}(hl:PE X l tl):PI X tg l (FA X.K tl):=by
 intro f s i H R I h;refine thn (hl f s i H _ I h) λv c ⟨x,k,d,n,j⟩=>?_;obtain⟨a,e,⟨xs,m⟩,q⟩:=j;subst e;cases n;obtain⟨g,_,p,_⟩:=d.tuple m;refine wpAny_pyIter_tuple (show c.heap.IsTuple a g.toArray from p) ?_;refine⟨c.heap.objs.size,[c.heap.objs.size],_,_,k,U,d.kept (t':=c.toks) λb o e=>qf _ e,A8 a _,⟨_,qy _ U,U,U⟩,λb hb=>?_,q⟩;have e:b=c.heap.objs.size:=by simpa using hb
 subst e;exact d.fpOk (qo _) (d.hok.fresh (qo _))
theorem Cb{R:It->Hp->Prop}{a c:Int}{t u v:Tok}{tk:Nat}(I:Inv X pins Y H s)(f:-(2 ^ 62)<=a)(j:a<2 ^ 62)(k:-(2 ^ 62)<=c)(h:c<2 ^ 62)
 (q:R (Itr a (c-a).toNat) H):wpAny (model X.prog X.w) X.A (pyIter (.ref s.heap.objs.size)) (PIE X pins Y tg R) E { s with heap:=s.heap.push { cls:=.type "range",data:=.fields #[.int a t,.int c u,.int 1 v] },toks:=tk }:=by
 refine wpAny_pyIter_range (IsRange.new ..) (small_one f j k h) ?_;have d:Inv X pins Y H { s with heap:=s.heap.push { cls:=.type "range",data:=.fields #[.int a t,.int c u,.int 1 v] },toks:=tk }:=I.kept λb o e=>qf _ e
 refine⟨(s.heap.push { cls:=.type "range",data:=.fields #[.int a t,.int c u,.int 1 v] }).objs.size,[(s.heap.push { cls:=.type "range",data:=.fields #[.int a t,.int c u,.int 1 v] }).objs.size],_,_,H,U,
  d.kept (t':=tk) λb o e=>qf _ e,A9 _ a (c-a).toNat,?_,λb hb=>?_,q⟩
 .have i:a+((0:Nat):Int) * 1=a:=by simp
  have g:(((c-a).toNat:Nat):Int)-((0:Nat):Int)=Builtin.Range.rangeSize a c 1:=by rw[rangeSize_one];split<;>omega
  show IsRangeIter _ _ (a+((0:Nat):Int) * 1) ((((c-a).toNat:Nat):Int)-((0:Nat):Int)) 1;rw[i,g];exact qy _ U
 .have e:b=(s.heap.push { cls:=.type "range",data:=.fields #[.int a t,.int c u,.int 1 v] }).objs.size:=by simpa using hb
  subst e;exact d.fpOk (qo _) (d.hok.fresh (qo _))
def sZ(ta:TA):TI:=λY H R=>ta Y H λvs H1=>∃j:Int,vs=[.int j]/\-(2 ^ 62)<=j/\j<2 ^ 62/\R (Itr 0 j.toNat) H1
theorem CY{a:Expr}{d:TA}{p:Pos}(k:Gl X "range")(l:X.mg "range"=none)(ha:PA X [a] d)(hs:starEach [a] X.env=[(false,eval a X.env)]:=by rfl):PI X tg (.Call (.Name "range" p) [a] [] pos) (sZ d):=by
 intro c s i H R I h;refine Call_ (gO I k l boot_range (PyProof.Rows.callWith_type1 (thn (ha pos c s i H _ I h) λus _ ⟨vs,_,g,m,b⟩=>?_) hs U));obtain⟨j,e,b,f,q⟩:=b;subst e
 cases m with
 |cons r rr=>
  cases rr;obtain⟨t,rfl⟩:=r;exact call_range_1 (Cb g Yo Yo b f (by simpa using q))
def As(V:TI)(g:TG)(tb:TS):TS:=λD Y H=>V Y H λJ H1=>∃W:Nat->Nat->St->Hp->Prop,(∃m,W 0 m Y H1)/\∀i m Y H,W i m Y H->
 (J.stop i H/\D.nx Y H)\/(J.go i H/\∃N:St->Hp->Prop,(∀F H',N F H'->∃m',m'<m/\W (i+1) m' F H')/\∀x H',J.yld i H x H'->g x Y H' λO H2=>tb { D with nx:=N,ct:=N,bk:=D.nx } O H2)
noncomputable def km(fp:LK)(h:Heap):List (Addr×Obj):=fp.filterMap λb=>(h.get? b).map λo=>(b,o)
theorem md{o:Obj}(hb:b∈fp)(e:h.get? b=some o):(b,o)∈km fp h:=List.mem_filterMap.mpr ⟨b,hb,by rw[e];rfl⟩
theorem El{p:Addr×Obj}(c:p∈km fp h):p.1∈fp/\h.get? p.1=some p.2:=by
 obtain⟨b,hb,e⟩:=List.mem_filterMap.mp c
 cases q:h.get? b with
 |none=>rw[q]at e;cases e
 |some o=>
  rw[q]at e;have a:(b,o)=p:=qR e;subst a;exact⟨hb,q⟩
theorem Inv.pinned(I:Inv X pins Y H s)(f:∀b∈fp,dQ X pins H b)(h:∀b∈fp,∃o,s.heap.get? b=some o/\∀v,o.data≠.cell v):Inv X (pins++km fp s.heap) Y H s:=
 I.pins_of λp j=>(qr.mp j).elim (λz=>I.pin p (qQ _ z)) λz=>by
  obtain⟨hb,e⟩:=El z;obtain⟨c,g,i,_⟩:=f p.1 hb;obtain⟨o,a,d⟩:=h p.1 hb;rw[e]at a;cases a;exact⟨e,c,g,i,d⟩
theorem Inv.unpinned{pl:List (Addr×Obj)}(I:Inv X (pins++pl) Y H s):Inv X pins Y H s:=I.pins_of λp a=>I.pin p (qQ _ (Q5 _ a))
theorem bD{t:Expr}{wi:TI}{g:TG}(F:PassesOwn (model X.prog X.w) X.A X.env X.xe)(hc:X.calm=true)(hi:PI X tg t wi)(hg:PG X tg g)(hb:PSs X body tb)
 (hs:∀x,foldedSetIterable t X.env x=pure x:=by intro _;rfl):PS X (.For tg t body [] pos) (As wi g tb):=by
 intro c s Y H D I h;refine wpAny_For (thn (hi c s Y H _ I h) λv _ h1=>thn h1 λ_ _ h2=>?_) hs;obtain⟨it,B,Z,J,H2,e,I2,T,V,f2,W,⟨m0,w0⟩,O⟩:=h2;subst e;have y:∀{H':Hp},(∀b∈B,H' b=none)->∀b∈B,dQ X c H' b:=λhn b hb=>⟨hn b hb,(f2 b hb).2⟩;refine codeAny_forLoop_any (λn S=>∃i l H',Inv X c l H' S/\Z i S.heap/\(∀b∈B,H' b=none)/\W i n l H') ?_ m0 ⟨0,Y,H2,I2,V,λb hb=>(f2 b hb).1,w0⟩;rintro n Q ⟨i,p,G,X0,K,L,w3⟩;rcases O i n p G w3 with⟨stop,qn⟩|⟨go,N,hN,step⟩
 .refine wpAny_passesOwn F (thn (T.done X U U U hc i c Q p G X.xe X0 (y L) K stop) λr s4 ⟨hr,I4⟩=>?_);subst hr;exact wpAny_execs_nil ⟨p,G,I4,qn⟩
 .refine wpAny_passesOwn F (thn (T.item X U U U hc i c Q p G X.xe X0 (y L) K go) λr s4 ⟨u,hr,h4⟩=>?_);subst hr;refine wpAny_passesOwn F (thn h4 λ_ s5 ⟨x,P,I5,r5,y5,E,R⟩=>?_);have a1:=I5.pinned (y R) (T.obj _ _ E);refine wpAny_passesOwn F (thn (hg _ s5 p P x u _ a1 r5 (step x P y5)) λ_ s6 ⟨a0,H6,I6,q6⟩=>?_);refine wpAny_passesOwn F (thn (hb _ s6 a0 H6 _ I6 q6) λf M q=>?_)
  have z:∀{a:St}{k:Hp},Inv X (c++km B s5.heap) a k M->N a k->∃m,m<n/\∃i l H',Inv X c l H' M/\Z i M.heap/\(∀b∈B,H' b=none)/\W i m l H':=λ{a k} j C=>by
   obtain⟨m',hm,w7⟩:=hN a k C;refine⟨m',hm,i+1,a,k,j.unpinned,T.keep _ _ _ E λb hb o e=>(j.pin (b,o) (qQ _ (qQ _ (md hb e)))).1,λb hb=>?_,w7⟩;obtain⟨o,e,d⟩:=T.obj _ _ E b hb;exact(j.pin (b,o) (qQ _ (qQ _ (md hb e)))).2.1
  cases f with
  |next=>obtain⟨a,k,j,C⟩:=q;exact z j C
  |cont=>obtain⟨a,k,j,C⟩:=q;exact z j C
  |brk=>obtain⟨a,k,j,q⟩:=q;exact⟨a,k,j.unpinned,q⟩
  |ret v=>obtain⟨x7,a,k,j,r7,q⟩:=q;exact⟨x7,a,k,j.unpinned,r7,q⟩
theorem dk{xs:LV}{g:TG}(b:Nat->St->Hp->Prop)(h0:b 0 Y H)(hl:∀i Y H,i<=xs.length->b i Y H->SqL K H a xs)
 (hs:∀i x Y H,xs[i]?=some x->b i Y H->g x Y H λc H2=>tb { D with nx:=b (i+1),ct:=b (i+1),bk:=D.nx } c H2) (hd:∀Y H,b xs.length Y H->D.nx Y H):
 ∃W:Nat->Nat->St->Hp->Prop,(∃m,W 0 m Y H)/\∀i m Y H,W i m Y H->
  ((Itl K a).stop i H/\D.nx Y H)\/((Itl K a).go i H/\∃N:St->Hp->Prop,(∀d H',N d H'->∃m',m'<m/\W (i+1) m' d H')/\∀x H',(Itl K a).yld i H x H'->g x Y H' λc H2=>tb { D with nx:=N,ct:=N,bk:=D.nx } c H2):=by
 exists λi m Y H=>m=xs.length-i/\i<=xs.length/\b i Y H,⟨xs.length,by simp,qC _,h0⟩;rintro i m Y H ⟨rfl,h,p⟩;have q:=hl i Y H h p;by_cases hlt:i<xs.length
 .refine .inr ⟨⟨xs,xs[i],q,by simp[hlt]⟩,b (i+1),λd H' f=>⟨xs.length-(i+1),Yo,U,hlt,f⟩,λx H' y=>?_⟩;obtain⟨e,y⟩:=y;subst e;exact hs i x Y _ (y xs q) p
 .have e:i=xs.length:=by omega
  subst e;exact .inl ⟨⟨xs,q,qo _⟩,hd Y H p⟩
theorem tm{xs:LV}{g:TG}(b:Nat->St->Hp->Prop)(h0:b 0 Y H)(hl:∀i Y H,i<=xs.length->b i Y H->SqT K H a xs)
 (hs:∀i x Y H,xs[i]?=some x->b i Y H->g x Y H λc H2=>tb { D with nx:=b (i+1),ct:=b (i+1),bk:=D.nx } c H2) (hd:∀Y H,b xs.length Y H->D.nx Y H):
 ∃W:Nat->Nat->St->Hp->Prop,(∃m,W 0 m Y H)/\∀i m Y H,W i m Y H->
  ((Itt K a).stop i H/\D.nx Y H)\/((Itt K a).go i H/\∃N:St->Hp->Prop,(∀d H',N d H'->∃m',m'<m/\W (i+1) m' d H')/\∀x H',(Itt K a).yld i H x H'->g x Y H' λc H2=>tb { D with nx:=N,ct:=N,bk:=D.nx } c H2):=by
 exists λi m Y H=>m=xs.length-i/\i<=xs.length/\b i Y H,⟨xs.length,by simp,qC _,h0⟩;rintro i m Y H ⟨rfl,h,p⟩;have q:=hl i Y H h p;by_cases hlt:i<xs.length
 .refine .inr ⟨⟨xs,xs[i],q,by simp[hlt]⟩,b (i+1),λd H' f=>⟨xs.length-(i+1),Yo,U,hlt,f⟩,λx H' y=>?_⟩;obtain⟨e,y⟩:=y;subst e;exact hs i x Y _ (y xs q) p
 .have e:i=xs.length:=by omega
  subst e;exact .inl ⟨⟨xs,q,qo _⟩,hd Y H p⟩
theorem ii{d:Int}{g:TG}(a:Nat->St->Hp->Prop)(h0:a 0 Y H)
 (hs:∀i Y H,i<n->a i Y H->g (.int (d+i)) Y H λb H2=>tb { D with nx:=a (i+1),ct:=a (i+1),bk:=D.nx } b H2) (hd:∀Y H,a n Y H->D.nx Y H):
 ∃W:Nat->Nat->St->Hp->Prop,(∃m,W 0 m Y H)/\∀i m Y H,W i m Y H->
  ((Itr d n).stop i H/\D.nx Y H)\/((Itr d n).go i H/\∃N:St->Hp->Prop,(∀c H',N c H'->∃m',m'<m/\W (i+1) m' c H')/\∀x H',(Itr d n).yld i H x H'->g x Y H' λb H2=>tb { D with nx:=N,ct:=N,bk:=D.nx } b H2):=by
 exists λi m Y H=>m=n-i/\i<=n/\a i Y H,⟨n,by simp,qC _,h0⟩;rintro i m Y H ⟨rfl,_,p⟩;by_cases hlt:i<n
 .refine .inr ⟨hlt,a (i+1),λc H' f=>⟨n-(i+1),Yo,U,hlt,f⟩,λx H' y=>?_⟩;obtain⟨e,y⟩:=y;subst e y;exact hs i Y _ hlt p
 .have e:i=n:=by omega
  subst e;exact .inl ⟨qo _,hd Y H p⟩
theorem zW{c:TT}(d:St->Hp->Prop)(e:St->Hp->Nat)(h0:d Y H)
 (hs:∀Y H,d Y H->c Y H λb H1=>if b=true then tb { D with nx:=λa H'=>d a H'/\e a H'<e Y H,ct:=λa H'=>d a H'/\e a H'<e Y H,bk:=D.nx } Y H1 else D.nx Y H1)
 (mono:∀Y H Q f,(∀b H1,Q b H1->f b H1)->c Y H Q->c Y H f):uz c tb D Y H:=by
 exists λm Y H=>m=e Y H/\d Y H,⟨_,U,h0⟩;rintro m Y H ⟨rfl,p⟩;refine mono Y H _ _ (λb H1 q=>?_) (hs Y H p)
 cases b with
 |true=>exact⟨_,λa H' ⟨g,l⟩=>⟨_,l,U,g⟩,q⟩
 |false=>exact q
abbrev R2:=V->V->Hp->VK->Prop
def OpR(X:Cx)(f:Value->Value->Sem Value)(r:R2):Prop:=
 ∀(pins:List (Addr×Obj))(s:Shared)(Y:St)(H:Hp)(x y:V)(v u:Value)(Q:VK),Inv X pins Y H s->aE x v->aE y u->r x y H Q->
  wpAny (model X.prog X.w) X.A (f v u) (EP X pins Y Q) X.xe s
def UnR(X:Cx)(f:Value->Sem Value)(r:V->Hp->VK->Prop):Prop:=
 ∀(pins:List (Addr×Obj))(s:Shared)(Y:St)(H:Hp)(x:V)(v:Value)(Q:VK),Inv X pins Y H s->aE x v->r x H Q->
  wpAny (model X.prog X.w) X.A (f v) (EP X pins Y Q) X.xe s
def cL(X:Cx)(f:Value)(r:LV->Hp->VK->Prop):Prop:=
 ∀(pins:List (Addr×Obj))(s:Shared)(Y:St)(H:Hp)(xs:LV)(us:LL)(Q:VK),Inv X pins Y H s->aB xs us->r xs H Q->
  wpAny (model X.prog X.w) X.A (call f us) (EP X pins Y Q) X.xe s
def TruR(X:Cx)(r:V->Hp->(Bool->Hp->Prop)->Prop):Prop:=
 ∀(pins:List (Addr×Obj))(s:Shared)(Y:St)(H:Hp)(x:V)(v:Value)(Q:Bool->Hp->Prop),Inv X pins Y H s->aE x v->r x H Q->
  wpAny (model X.prog X.w) X.A (truthy v) (TP X pins Y Q) X.xe s
def tOp(r:R2)(ta tb:TE):TE:=λY H Q=>ta Y H λx H1=>tb Y H1 λy H2=>r x y H2 Q
def tUn(r:V->Hp->VK->Prop)(ta:TE):TE:=λY H Q=>ta Y H λx H1=>r x H1 Q
def rI(C:Int->Int->Prop)(g:Int->Int->V):R2:=λx y H Q=>∃i j,x=.int i/\y=.int j/\C i j/\Q (g i j) H
def rI0(g:Int->Int->V):R2:=λx y H Q=>∃i j,x=.int i/\y=.int j/\Q (g i j) H
def rU(g:Int->V):V->Hp->VK->Prop:=λx H Q=>∃i,x=.int i/\Q (g i) H
section
variable {a b c:Expr}{tb tc:TE}
theorem tU(ha:PE X a ta)(hb:PE X b tb){R:V->V->Hp->Prop}(I:Inv X pins Y H s)
 (h:ta Y H λx H1=>tb Y H1 λy H2=>R x y H2) {f:Value->Value->Sem Value}
 (g:∀v u s2 x y H2,Inv X pins Y H2 s2->aE x v->aE y u->R x y H2->wpAny (model X.prog X.w) X.A (f v u) Q X.xe s2):
 wpAny (model X.prog X.w) X.A (eval a X.env) (λv c=>wpAny (model X.prog X.w) X.A (eval b X.env) (λu d=>wpAny (model X.prog X.w) X.A (f v u) Q X.xe d) X.xe c) X.xe s:=by
 refine thn (ha pins s Y H _ I h) λv l ⟨x,H1,i,m,j⟩=>?_;refine thn (hb pins l Y H1 _ i j) λu s2 ⟨y,H2,e,k,n⟩=>?_;exact g v u s2 x y H2 e m k n
theorem ao{op:Operator}{r:R2}(k:OpR X (binaryOp op) r)(ha:PE X a ta)(hb:PE X b tb):PE X (.BinOp a op b pos) (tOp r ta tb):=by
 intro c s j H Q I h;exact wpAny_BinOp (tU ha hb I h λv u d x y e f g i q=>k c d j e x y v u Q f g i q)
theorem dE{op:UnaryOp}{r:V->Hp->VK->Prop}(f:UnR X (unaryOp op) r)(ha:PE X a ta):PE X (.UnaryOp op a pos) (tUn r ta):=by
 intro b s c H Q I h;exact UnaryOp_ (thn (ha b s c H _ I h) λv i ⟨x,g,d,j,e⟩=>f b i c g x v Q d j e)
theorem opI{f:Value->Value->Sem Value}{C:Int->Int->Prop}{g:Int->Int->Int}
 (a:∀(i j:Int)(t u:Tok)(s:Shared)(Q:LP)(E:LP),C i j->Q (.int (g i j) s.toks) { s with toks:=s.toks+1 }->wpAny (model X.prog X.w) X.A (f (.int i t) (.int j u)) Q E s):
 OpR X f (rI C λi j=>.int (g i j)):=by
 intro _ s _ H x y v u Q I b c h;obtain⟨i,j,rfl,rfl,hc,q⟩:=h;obtain⟨t,rfl⟩:=b;obtain⟨t',rfl⟩:=c;exact a i j t t' s _ _ hc ⟨.int (g i j),H,I.tok _,⟨_,U⟩,q⟩
theorem xx{f:Value->Value->Sem Value}{g:Int->Int->Int}
 (a:∀(i j:Int)(t u:Tok)(s:Shared)(Q:LP)(E:LP),Q (.int (g i j) s.toks) { s with toks:=s.toks+1 }->wpAny (model X.prog X.w) X.A (f (.int i t) (.int j u)) Q E s):
 OpR X f (rI0 λi j=>.int (g i j)):=by
 intro _ s _ H x y v u Q I b c h;obtain⟨i,j,rfl,rfl,q⟩:=h;obtain⟨t,rfl⟩:=b;obtain⟨t',rfl⟩:=c;exact a i j t t' s _ _ ⟨.int (g i j),H,I.tok _,⟨_,U⟩,q⟩
theorem m6{f:Value->Value->Sem Value}{g:Int->Int->Bool}
 (a:∀(i j:Int)(t u:Tok)(s:Shared)(Q:LP)(E:LP),Q (.bool (g i j)) s->wpAny (model X.prog X.w) X.A (f (.int i t) (.int j u)) Q E s):
 OpR X f (rI0 λi j=>.bl (g i j)):=by
 intro _ s _ H x y v u Q I b c h;obtain⟨i,j,rfl,rfl,q⟩:=h;obtain⟨t,rfl⟩:=b;obtain⟨t',rfl⟩:=c;exact a i j t t' s _ _ ⟨.bl (g i j),H,I,U,q⟩
def Hs(i j:Int):Prop:=0<j/\j<1073741824
def Hr(i j:Int):Prop:=0<=j/\j<=1000000/\i.natAbs<2 ^ 64
def uf(i j:Int):Prop:=(-(2 ^ 64)<i/\i<2 ^ 64)\/(-(2 ^ 64)<j/\j<2 ^ 64)
theorem uf.ok{i j:Int}(h:uf i j):IntMulOk i j:=by
 rcases h with⟨a,b⟩|⟨a,b⟩
 .exact .of_left (intBits_le_64 a b)
 .exact .of_right (intBits_le_64 a b)
theorem Dx:OpR X (binaryOp .Add) (rI0 λi j=>.int (i+j)):=xx λ_ _ _ _ _ _ _ q=>add_int q
theorem Dg:OpR X (binaryOp .Sub) (rI0 λi j=>.int (i-j)):=xx λ_ _ _ _ _ _ _ q=>sub_int q
theorem Ds:OpR X (binaryOp .FloorDiv) (rI Hs λi j=>.int (i / j)):=opI λi j _ _ _ _ _ hc q=>by
 have a:(0:Int)<j:=hc.1;have b:j<1073741824:=hc.2;exact floordiv_int Yo (by rwa[Int.fdiv_eq_ediv_of_nonneg i Yo]) (.inl (PyProof.noPylong_small Yo))
theorem Dm:OpR X (binaryOp .Mod) (rI (λ_ j=>0<j) λi j=>.int (i % j)):=opI λi j _ _ _ _ _ hc q=>by
 have a:(0:Int)<j:=hc;exact mod_int' Yo (by rwa[Int.fmod_eq_emod_of_nonneg i Yo])
theorem Dh:OpR X (binaryOp .Pow) (rI Hr λi j=>.int (i ^ j.toNat)):=opI λ_ _ _ _ _ _ _ hc q=>pow_int_small hc.1 hc.2.1 hc.2.2 q
theorem unI{f:Value->Sem Value}{g:Int->Int}
 (a:∀(i:Int)(t:Tok)(s:Shared)(Q:LP)(E:LP),Q (.int (g i) s.toks) { s with toks:=s.toks+1 }->wpAny (model X.prog X.w) X.A (f (.int i t)) Q E s):
 UnR X f (rU λi=>.int (g i)):=by
 intro _ s _ H x v Q I b h;obtain⟨i,rfl,q⟩:=h;obtain⟨t,rfl⟩:=b;exact a i t s _ _ ⟨.int (g i),H,I.tok _,⟨_,U⟩,q⟩
theorem dv:UnR X (unaryOp .USub) (rU λi=>.int (-i)):=unI λ_ _ _ _ _ q=>neg_int q
end
noncomputable def jU:V->V->Bool
 |.non,.non=>true|.non,.int _=>true|.int _,.non=>true|.non,.bl _=>true|.bl _,.non=>true|.non,.str _=>true|.str _,.non=>true
 |.int _,.int _=>true|.bl _,.bl _=>true|.str _,.str _=>true|.byt _,.byt _=>true
 |.int _,.str _=>true|.str _,.int _=>true|.bl _,.str _=>true|.str _,.bl _=>true
 |_,_=>false
def rEq:R2:=λx y H Q=>jU x y=true/\Q (.bl (decide (x=y))) H
def rNe:R2:=λx y H Q=>jU x y=true/\Q (.bl (!decide (x=y))) H
theorem yS{i j:Int}:decide (V.int i=V.int j)=(i == j):=by
 rw[Bool.eq_iff_iff];simp
theorem yU{i j:Bool}:decide (V.bl i=V.bl j)=(i == j):=by
 rw[Bool.eq_iff_iff];simp
theorem yR{i j:Str}:decide (V.str i=V.str j)=(i == j):=by
 rw[Bool.eq_iff_iff];simp
theorem yT{i j:Array UInt8}:decide (V.byt i=V.byt j)=(i.toList == j.toList):=by
 rw[Bool.eq_iff_iff];cases i;cases j;simp
section
variable {a b c:Expr}{tb tc:TE}
theorem bP{Q:VK}{k a:Bool}(I:Inv X pins Y H s)(q:Q (.bl k) H)(e:k=a):EP X pins Y Q (.bool a) s:=by
 subst e;exact⟨.bl k,H,I,U,q⟩
theorem Du:OpR X (compareOp .Eq) rEq:=by
 intro _ s _ H x y v u Q I b a h;obtain⟨hs,q⟩:=h
 cases x with
 |non=>
  cases b
  cases y with
  |non=>cases a;exact PySem.EqNone.eq_none_none (bP I q (by simp))
  |bl j=>cases a;exact PySem.EqNone.eq_none_bool (bP I q (by simp))
  |int j=>obtain⟨t',rfl⟩:=a;exact PySem.EqNone.eq_none_int (bP I q (by simp))
  |str j=>obtain⟨t',rfl⟩:=a;exact PySem.EqNone.eq_none_str (bP I q (by simp))
  |_=>exact Qd (show false=true from hs) qt
 |bl i=>
  cases b
  cases y with
  |non=>cases a;exact PySem.EqNone.eq_bool_none (bP I q (by simp))
  |bl j=>cases a;exact eq_bool (bP I q yU)
  |str j=>obtain⟨t',rfl⟩:=a;exact PySem.EqMixed.eq_bool_str (bP I q (by simp))
  |_=>exact Qd (show false=true from hs) qt
 |int i=>
  obtain⟨t,rfl⟩:=b
  cases y with
  |non=>cases a;exact PySem.EqNone.eq_int_none (bP I q (by simp))
  |int j=>obtain⟨t',rfl⟩:=a;exact eq_int (bP I q yS)
  |str j=>obtain⟨t',rfl⟩:=a;exact PySem.EqMixed.eq_int_str (bP I q (by simp))
  |_=>exact Qd (show false=true from hs) qt
 |str i=>
  obtain⟨t,rfl⟩:=b
  cases y with
  |non=>cases a;exact PySem.EqNone.eq_str_none (bP I q (by simp))
  |bl j=>cases a;exact PySem.EqMixed.eq_str_bool (bP I q (by simp))
  |int j=>obtain⟨t',rfl⟩:=a;exact PySem.EqMixed.eq_str_int (bP I q (by simp))
  |str j=>obtain⟨t',rfl⟩:=a;exact eq_str (bP I q yR)
  |_=>exact Qd (show false=true from hs) qt
 |byt i=>
  obtain⟨t,rfl⟩:=b
  cases y with
  |byt j=>obtain⟨t',rfl⟩:=a;exact PySem.W.eq_bytes (bP I q yT)
  |_=>exact Qd (show false=true from hs) qt
 |_=>cases y<;>exact Qd (show false=true from hs) qt
theorem Dk:OpR X (compareOp .NotEq) rNe:=by
 intro _ s _ H x y v u Q I b a h;obtain⟨hs,q⟩:=h
 cases x with
 |non=>
  cases b
  cases y with
  |non=>cases a;exact PySem.EqNone.ne_none_none (bP I q (by simp))
  |bl j=>cases a;exact PySem.EqNone.ne_none_bool (bP I q (by simp))
  |int j=>obtain⟨t',rfl⟩:=a;exact PySem.EqNone.ne_none_int (bP I q (by simp))
  |str j=>obtain⟨t',rfl⟩:=a;exact PySem.EqNone.ne_none_str (bP I q (by simp))
  |_=>exact Qd (show false=true from hs) qt
 |bl i=>
  cases b
  cases y with
  |non=>cases a;exact PySem.EqNone.ne_bool_none (bP I q (by simp))
  |bl j=>cases a;exact ne_bool (bP I q (congrArg not yU))
  |str j=>obtain⟨t',rfl⟩:=a;exact PySem.EqMixed.ne_bool_str (bP I q (by simp))
  |_=>exact Qd (show false=true from hs) qt
 |int i=>
  obtain⟨t,rfl⟩:=b
  cases y with
  |non=>cases a;exact PySem.EqNone.ne_int_none (bP I q (by simp))
  |int j=>obtain⟨t',rfl⟩:=a;exact ne_int (bP I q (congrArg not yS))
  |str j=>obtain⟨t',rfl⟩:=a;exact PySem.EqMixed.ne_int_str (bP I q (by simp))
  |_=>exact Qd (show false=true from hs) qt
 |str i=>
  obtain⟨t,rfl⟩:=b
  cases y with
  |non=>cases a;exact PySem.EqNone.ne_str_none (bP I q (by simp))
  |bl j=>cases a;exact PySem.EqMixed.ne_str_bool (bP I q (by simp))
  |int j=>obtain⟨t',rfl⟩:=a;exact PySem.EqMixed.ne_str_int (bP I q (by simp))
  |str j=>obtain⟨t',rfl⟩:=a;exact ne_str (bP I q (congrArg not yR))
  |_=>exact Qd (show false=true from hs) qt
 |byt i=>
  obtain⟨t,rfl⟩:=b
  cases y with
  |byt j=>obtain⟨t',rfl⟩:=a;exact PySem.W.ne_bytes (bP I q (congrArg not yT))
  |_=>exact Qd (show false=true from hs) qt
 |_=>cases y<;>exact Qd (show false=true from hs) qt
theorem Dn:OpR X (compareOp .Lt) (rI0 λi j=>.bl (decide (i<j))):=m6 λ_ _ _ _ _ _ _ q=>lt_int q
theorem Do:OpR X (compareOp .LtE) (rI0 λi j=>.bl (decide (i<=j))):=m6 λ_ _ _ _ _ _ _ q=>le_int q
theorem Dq:OpR X (compareOp .Gt) (rI0 λi j=>.bl (decide (j<i))):=m6 λ_ _ _ _ _ _ _ q=>gt_int q
theorem Dr:OpR X (compareOp .GtE) (rI0 λi j=>.bl (decide (j<=i))):=m6 λ_ _ _ _ _ _ _ q=>ge_int q
theorem Dp:OpR X (compareOp .Is) (λx y H Q=>y=.non/\Q (.bl (decide (x=.non))) H):=by
 intro _ s _ H x y v u Q I a b h;obtain⟨rfl,q⟩:=h;cases b;refine is_none_gen (bP I q ?_)
 cases x<;>first
  |(cases a;rfl)
  |(obtain⟨t,rfl⟩:=a;rfl)
theorem Dj:OpR X (compareOp .IsNot) (λx y H Q=>y=.non/\Q (.bl (!decide (x=.non))) H):=by
 intro _ s _ H x y v u Q I a b h;obtain⟨rfl,q⟩:=h;cases b;refine isnot_none_gen (bP I q ?_)
 cases x<;>first
  |(cases a;rfl)
  |(obtain⟨t,rfl⟩:=a;rfl)
theorem ay(b:Expr){op:CmpOp}(h:op≠.In:=by decide)(d:op≠.NotIn:=by decide):behindInMarks op b=false:=by
 have c:(op == CmpOp.In)=false:=by cases op<;>first|rfl|exact Qd U h
 have a:(op == CmpOp.NotIn)=false:=by cases op<;>first|rfl|exact Qd U d
 cases b<;>simp[behindInMarks,c,a]
theorem fR{op:CmpOp}{r:R2}(k:OpR X (compareOp op) r)(ha:PE X a ta)(hb:PE X b tb)(l:behindInMarks op b=false):PE X (.Compare a [op] [b] pos) (tOp r ta tb):=by
 intro c s j H Q I h;exact wpAny_Compare1 (tU ha hb I h λv u d x y e f g i q=>k c d j e x y v u Q f g i q) l
def kS(t:TE):TT:=λY H Q=>t Y H λx H'=>∃k,x=.bl k/\Q k H'
theorem CK{op:CmpOp}{r:R2}(g:OpR X (compareOp op) r)(ha:PE X a ta)(hb:PE X b tb)(j:behindInMarks op b=false):PT X (.Compare a [op] [b] pos) (kS (tOp r ta tb)):=by
 intro d s f H Q I h
 refine wpAny_isTrue_Compare1 (thn (ha d s f H _ I h) λv p ⟨x,i,E,A,n⟩=>thn (hb d p f i _ E n) λu B ⟨y,l,D,t,q⟩=>
  thn (g d B f l x y v u _ D A t q) λc _ ⟨z,C,o,w,k,e,m⟩=>?_) j
 subst e;cases w;exact wpAny_truthy_bool ⟨C,o,m⟩
def AB(r J:R2)(ta tb tc:TE):TE:=λY H Q=>ta Y H λx H1=>tb Y H1 λy H2=>r x y H2 λz F=>∃k,z=.bl k /\
 (if k=true then tc Y F λO H4=>J y O H4 Q else Q (.bl false) F)
theorem lQ{op g:CmpOp}{r p:R2}(D:OpR X (compareOp op) r)(m:OpR X (compareOp g) p)(ha:PE X a ta)(hb:PE X b tb)(hc:PE X c tc)
 (F:lastMarks [op,g] [b,c]=false:=by with_unfolding_all rfl):PT X (.Compare a [op,g] [b,c] pos) (kS (AB r p ta tb tc)):=by
 intro f s i H Q I h
 refine isTrue_chain (thn (ha f s i H _ I h) λv N ⟨x,E,I1,V,L⟩=>test_link (thn (hb f N i E _ I1 L) λu W ⟨y,K,Z,n,O⟩=>
  thn (D f W i K x y v u _ Z V n O) λd s3 ⟨z,o,l,T,k,e,j⟩=>?_)) F
 subst e;cases T;refine wpAny_truthy_bool ?_
 cases k with
 |false=>
  obtain⟨_,q,M⟩:=j;cases q;exact ite_ff ⟨o,l,M⟩
 |true=>
  refine ite_tt (test_last (thn (hc f s3 i o _ l j) λR B ⟨J,G,I4,X0,C⟩=>thn (m f B i G y J u R _ I4 n X0 C) λd' _ ⟨_,t,w,S,_,A,P⟩=>?_));subst A;cases S;exact wpAny_truthy_bool ⟨t,w,P⟩
theorem ku:(sizeLine:Nat)<2 ^ 63:=by rw[sizeLine_eq];decide
theorem Dw:OpR X (binaryOp .Add) (λx y H Q=>∃i j,x=.str i/\y=.str j/\i.length+j.length<=sizeLine/\Q (.str (i++j)) H):=by
 intro _ s _ H x y v u Q I a b h;obtain⟨i,j,rfl,rfl,c,q⟩:=h;obtain⟨t,rfl⟩:=a;obtain⟨t',rfl⟩:=b;exact add_str (λt' tk=>⟨.str (i++j),H,I.tok _,⟨_,U⟩,q⟩) c
theorem fX{x:V}(r:aB [x] us):∃u,us=[u]/\aE x u:=by
 cases r with
 |cons a b=>cases b;exact⟨_,U,a⟩
theorem jQ{x:V}(r:aB [x,y] us):∃u a,us=[u,a]/\aE x u/\aE y a:=by
 cases r with
 |cons e c=>
  cases c with
  |cons d b=>cases b;exact⟨_,_,U,e,d⟩
theorem mV(hc:X.calm=true):cL X (.builtin "max") (λxs H Q=>∃i j,xs=[.int i,.int j]/\Q (.int (if j > i then j else i)) H):=by
 intro _ s _ H xs us Q I r h;obtain⟨i,j,rfl,q⟩:=h;obtain⟨u,_,rfl,⟨t,rfl⟩,⟨t',rfl⟩⟩:=jQ r;refine max_two_ints (I.ok.hd hc) λh' tk k=>⟨_,H,I.kept k,?_,q⟩;by_cases hj:j > i
 .rw[Qa hj,Qa hj];exact⟨_,U⟩
 .rw[Q9 hj,Q9 hj];exact⟨_,U⟩
theorem zi(hc:X.calm=true):cL X (.builtin "min") (λxs H Q=>∃i j,xs=[.int i,.int j]/\Q (.int (if j<i then j else i)) H):=by
 intro _ s _ H xs us Q I r h;obtain⟨i,j,rfl,q⟩:=h;obtain⟨u,_,rfl,⟨t,rfl⟩,⟨t',rfl⟩⟩:=jQ r;refine min_two_ints (I.ok.hd hc) λh' tk k=>⟨_,H,I.kept k,?_,q⟩;by_cases hj:j<i
 .rw[Qa hj,Qa hj];exact⟨_,U⟩
 .rw[Q9 hj,Q9 hj];exact⟨_,U⟩
end
structure j4(h:Heap)(x dx C:Addr)(mA:Str->LO):Prop where
 obj:h.get? x=some (PySem.W.instObj C dx)
 ns:h.Ns1 dx mA
 ne:dx≠x
theorem EQ(n:h.Ns1 dx mA):∃od,h.get? dx=some od/\∀name,PySem.W.lookIn name od=some (mA name):=by
 obtain⟨o,es,ep,f,hd,hk,_,g⟩:=n;refine⟨o,f,λname=>?_⟩;have e:=g name;unfold nsFind findBy at e;rw[<- Array.find?_toList]at e;unfold PySem.W.lookIn;rw[hd];dsimp only;split
 .rename_i y q;rw[q]at e;exact congrArg some e
 .rename_i q;rw[q]at e
  have a:es.toList.any (·.refKey)=false:=by
   rw[List.any_eq_false];intro y d;obtain⟨z,t,b⟩:=hk y (Array.mem_toList_iff.mp d);simp[DictEntry.refKey,b]
  have c:¬ es.toList.any (·.refKey)=true:=by rw[a];exact qt
  rw[Q9 c];exact congrArg some e
theorem j4.look{x:Addr}(I:j4 h x dx C mA):∃od,PySem.W.InstAt h x (PySem.W.instObj C dx) C (some od)/\∀name,PySem.W.lookIn name od=some (mA name):=
 let ⟨od,a,hl⟩:=EQ I.ns
 ⟨od,⟨I.obj,U,U,a⟩,hl⟩
section
variable {x:Addr}{v:Value}
theorem FI{a:Bool}(X:K.In s.heap)(I:j4 s.heap x dx C mA)(e:PySem.W.plainGet K C name=true)(c:PySem.W.hasDictIn K C=true)
 (ha:PySem.W.findIn K (.ref C) name=some none) (d:mA name=some v) (b:PySem.W.handedIn v=true) (h:Q v { s with toks:=s.toks+1 }):
 wpAny (model prog w) A (getAttr (.ref x) name a) Q E s:=by
 obtain⟨od,J,hl⟩:=I.look;exact PySem.W.get_value X J (PySem.W.plainGet_of e).1 (PySem.W.findObj_own c ha U (by rw[hl,d])) b h
theorem FH{pl:Sem Bool}{Q:Value×LL->Shared->Prop}(X:K.In s.heap)(I:j4 s.heap x dx C mA)(a:PySem.W.plainGet K C name=true)
 (c:PySem.W.findIn K (.ref C) name=some (some (.ref f))) (ht:PySem.W.isFn K (.ref f)=true) (b:mA name=none) (h:Q (.ref f,[.ref x]) s):
 wpAny (model prog w) A (getMethod (.ref x) name pl) Q E s:=by
 obtain⟨od,J,hl⟩:=I.look;exact PySem.W.method_fn X J (PySem.W.plainGet_of a).1 (PySem.W.plainGet_of a).2 c (beq_iff_eq.mp ht) (by show(PySem.W.lookIn name od).map (·.isSome)=some false;rw[hl,b];rfl) h
theorem Bp{ns:LS}{Q:Unit->Shared->Prop}(X:K.In s.heap)(I:j4 s.heap x dx C mA)
 (hs:PySem.W.findIn K (.ref C) "__setattr__"=some (some (.builtin "object.__setattr__"))) (l:PySem.W.plainOver K C=true) (ht:PySem.W.takerIn K C name=some none) (j:PySem.W.hasDictIn K C=true)
 (hw:PySem.Within mA ns) (hsz:ns.length<=sizeLine)
 (h:∀h',j4 h' x dx C (λy=>if y=name then some v else mA y)->Heap.SameBut dx s.heap h'->Q () { s with heap:=h',toks:=s.toks+2 }):
 wpAny (model prog w) A (setAttr (.ref x) name v) Q E s:=by
 obtain⟨od,J,hl⟩:=I.look;refine PySem.W.set_plain X J hs (PySem.W.osa_open (s:={ s with toks:=s.toks+1 }) (r:=none) X J l ht λb=>?_);obtain⟨_,hc,g⟩:=PySem.W.any_some j;have k:s.heap.get? x=some ⟨.ref C,some dx,.plain,#[]⟩:=I.obj;refine qb (qk (qb (qb (wpAny_loadPart k (qb (PySem.W.Looks.here (s:={ s with toks:=s.toks+1 }) (PySem.W.looks_clsIn X hc) ?_))))));rw[g];refine qk (a:=some dx) (qb (qk (qb ?_)));refine wpAny_nsSet1 (s:={ s with toks:=s.toks+1 }) I.ns λh' d c=>?_;obtain⟨_,_,_,i,f,e⟩:=d.count (PySem.Within.cons name v hw);refine qb (wpAny_lookBehind i (by rw[f];exact pastItsLine_dict (qH e (by rw[qJ];omega))) ?_);exact qk (h _ ⟨(c.2 _ (Ne.symm I.ne)).trans I.obj,d,I.ne⟩ c)
theorem EI{R:Result->Shared->Prop}{vs:LL}(X:K.In s.heap)(c:PySem.W.makesIn K C=true)
 (b:PySem.W.findIn K (.ref C) "__init__"=some (some (.ref f))) (a:PySem.W.typeIn K (.ref f)=some (.type "function"))
 (h:codeAny (model prog w) (A.under (.builtin "type.__call__" ⟨.ref C::vs,kw⟩)) (.call (.ref f) ⟨.ref (s.heap.objs.size+1)::vs,kw⟩) (PySem.W.InitBack (s.heap.objs.size+1) R)
  { s with heap:=(s.heap.push PySem.W.emptyDict).push (PySem.W.instObj C s.heap.objs.size) }):
 codeAny (model prog w) A (.call (.ref C) ⟨vs,kw⟩) R s:=by
 obtain⟨_,g,d,t,os⟩:=s;exact PySem.W.make_core (PySem.W.makes_of X c) (PySem.W.looks_findIn X b) (λself=>PySem.W.bind_fn X self a) (.inl U) h
end
noncomputable def dC(f:Str)(v:V):List (Str×V)->List (Str×V)
 |[]=>[(f,v)]
 |(g,x)::r=>if g=f then(g,v)::r else(g,x)::dC f v r
theorem yb(f g:Str)(v:V):∀fs:List (Str×V),(dC f v fs).lookup g=if g=f then some v else fs.lookup g
 |[]=>by
  show List.lookup g [(f,v)]=_;by_cases h:g=f
  .have hb:(g == f)=true:=beq_iff_eq.mpr h;simp only[List.lookup,hb,Qa h]
  .have hb:(g == f)=false:=beq_eq_false_iff_ne.mpr h;simp only[List.lookup,hb,Q9 h]
 |(k,x)::r=>by
  have a:=yb f g v r;rw[show dC f v ((k,x)::r)=(if k=f then(k,v)::r else(k,x)::dC f v r)from rfl];by_cases hk:k=f
  .rw[Qa hk];by_cases h:g=k
   .have hb:(g == k)=true:=beq_iff_eq.mpr h;simp only[List.lookup,hb,Qa (h.trans hk)]
   .have hb:(g == k)=false:=beq_eq_false_iff_ne.mpr h;simp only[List.lookup,hb,Q9 (λe:g=f=>h (e.trans hk.symm))]
  .rw[Q9 hk];by_cases h:g=k
   .have hb:(g == k)=true:=beq_iff_eq.mpr h;simp only[List.lookup,hb,Q9 (λe:g=f=>hk (h.symm.trans e))]
   .have hb:(g == k)=false:=beq_eq_false_iff_ne.mpr h;simp only[List.lookup,hb];exact a
theorem sR(f:Str)(v:V):∀fs:List (Str×V),f∈(dC f v fs).map (·.1)/\∀g,g∈fs.map (·.1)->g∈(dC f v fs).map (·.1)
 |[]=>⟨by simp[dC],λg h=>by simp at h⟩
 |(k,x)::r=>by
  obtain⟨a,b⟩:=sR f v r;rw[show dC f v ((k,x)::r)=(if k=f then(k,v)::r else(k,x)::dC f v r)from rfl];by_cases hk:k=f
  .rw[Qa hk];subst hk;exact⟨by simp,λg h=>by simpa using h⟩
  .rw[Q9 hk];refine⟨?_,λg h=>?_⟩
   .rw[qZ];exact qv _ a
   .rw[qZ]at h ⊢;rcases qD.mp h with e|e
    .exact qD.mpr (.inl e)
    .exact qv _ (b g e)
theorem yf(f:Str)(v:V):∀fs:List (Str×V),(dC f v fs).length<=fs.length+1
 |[]=>by simp[dC]
 |(k,x)::r=>by
  have a:=yf f v r;rw[show dC f v ((k,x)::r)=(if k=f then(k,v)::r else(k,x)::dC f v r)from rfl];by_cases hk:k=f
  .rw[Qa hk,qJ,qJ];omega
  .rw[Q9 hk,qJ,qJ];omega
theorem cy.some_of{v:V}{o:LO}(r:cy (some v) o):∃u,o=some u/\aE v u:=by
 cases o with
 |none=>exact(show False from r).elim
 |some u=>exact⟨u,U,r⟩
theorem cy.none_of{o:LO}(r:cy none o):o=none:=by
 cases o with
 |none=>rfl
 |some u=>exact(show False from r).elim
theorem FF{v:V}(r:aE v u):PySem.W.handedIn u=true:=by
 cases v with
 |non=>cases(show u=Value.none from r);rfl
 |bl b=>cases(show u=Value.bool b from r);rfl
 |int i=>obtain⟨t,e⟩:=(show ∃t,u=Value.int i t from r);cases e;rfl
 |str x=>obtain⟨t,e⟩:=(show ∃t,u=Value.str x t from r);cases e;rfl
 |byt b=>obtain⟨t,e⟩:=(show ∃t,u=Value.bytes b t from r);cases e;rfl
 |flt b=>obtain⟨t,e⟩:=(show ∃t,u=Value.float b t from r);cases e;rfl
 |ref a=>cases(show u=Value.ref a from r);rfl
 |ty n=>cases(show u=Value.type n from r);rfl
section
variable {fs fs':List (Str×V)}
theorem mI(hok:HOk P w H h)(e:H a=some (.ins C dx fs)):∃mA,j4 h a dx C mA/\(∀f,cy (fs.lookup f) (mA f))/\PySem.Within mA (fs.map (·.1))/\fs.length<=1000/\H dx=some (.own a):=by
 obtain⟨d,z,ne,ob,mA,n,r,q⟩:=(show bJ P w H h a (.ins C dx fs)from hok a _ e);exact⟨mA,⟨ob,n,ne⟩,r,q,z,d⟩
end
structure Cls(K:W.Frag)(C:Addr):Prop where
 pg:PySem.W.plainGet K C Str.empty=true
 hd:PySem.W.hasDictIn K C=true
 po:PySem.W.plainOver K C=true
 sa:PySem.W.findIn K (.ref C) "__setattr__"=some (some (.builtin "object.__setattr__"))
theorem Cls.get(c:Cls K C)(f:Str):PySem.W.plainGet K C f=true:=c.pg
def dP(K:W.Frag)(C:Addr)(f:Str):Prop:=PySem.W.findIn K (.ref C) f=some none
theorem dP.taker{f:Str}(n:dP K C f):PySem.W.takerIn K C f=some none:=by
 unfold PySem.W.takerIn;rw[show PySem.W.findIn K (.ref C) f=some none from n]
 rfl
structure ee(K:W.Frag)(C:Addr)(m:Str)(f:Addr):Prop where
 at_:PySem.W.findIn K (.ref C) m=some (some (.ref f))
 fn:PySem.W.isFn K (.ref f)=true
 kp:PySem.W.keepIn K (.ref f)=true
section
variable {fs:List (Str×V)}{f:Str}{v:V}
theorem FG{b:Bool}(I:Inv X pins Y H s)(e:H a=some (.ins C dx fs))(c:Cls X.K C)(n:dP X.K C f)(l:fs.lookup f=some v)
 (h:∀u s',Inv X pins Y H s'->aE v u->Q u s'):wpAny (model X.prog X.w) A (getAttr (.ref a) f b) Q E s:=by
 obtain⟨g,O,r,_,_,_⟩:=mI I.hok e;obtain⟨u,i,d⟩:=cy.some_of (v:=v) (o:=g f) (by rw[<- l];exact r f);exact FI I.kIn O (c.get f) c.hd n i (FF d) (h u _ (I.tok _) d)
theorem t9{m:Str}{g:Addr}{pl:Sem Bool}{Q:Value×LL->Shared->Prop}(I:Inv X pins Y H s)(e:H a=some (.ins C dx fs))(c:Cls X.K C)(k:ee X.K C m g)(l:fs.lookup m=none)
 (h:Q (.ref g,[.ref a]) s):wpAny (model X.prog X.w) A (getMethod (.ref a) m pl) Q E s:=by
 obtain⟨b,O,r,_,_,_⟩:=mI I.hok e;have hn:b m=none:=cy.none_of (by rw[<- l];exact r m);exact FH I.kIn O (c.get m) k.at_ k.fn hn h
theorem Bn{Q:Unit->Shared->Prop}(I:Inv X pins Y H s)(e:H a=some (.ins C dx fs))(c:Cls X.K C)(n:dP X.K C f)(hl:fs.length<1000)(m:aE y u)
 (h:∀s',Inv X pins Y (upd H a (.ins C dx (dC f y fs))) s'->Q () s'):wpAny (model X.prog X.w) A (setAttr (.ref a) f u) Q E s:=by
 obtain⟨k,O,r,i,_,j⟩:=mI I.hok e;have v:(fs.map (·.1)).length<=sizeLine:=by rw[qc,sizeLine_eq];omega
 refine Bp I.kIn O c.sa c.po n.taker c.hd i v λh' d p=>h _ ?_;have hd:∃o,h'.get? dx=some o:=let ⟨o,_,_,l,_⟩:=d.ns;⟨o,l⟩;refine I.write (x:=a) (e:=dx) (by rw[e];exact True.intro) (.inr j) (λb q hb z=>(p.2 b hb).trans z) hd ?_;refine⟨by rwa[af O.ne],?_,O.ne,d.obj,_,d.ns,λg=>?_,λg t=>?_⟩
 .have:=yf f y fs;omega
 .show cy ((dC f y fs).lookup g) (if g=f then some u else k g);rw[yb];by_cases q:g=f
  .rwa[Qa q,Qa q]
  .rw[Q9 q,Q9 q];exact r g
 .by_cases q:g=f
  .rw[q];exact(sR f y fs).1
  .refine(sR f y fs).2 g (i g λz=>t ?_);show(if g=f then some u else k g)=none;rwa[Q9 q]
theorem Inv.made(I:Inv X pins Y H s):Inv X pins Y (upd (upd H s.heap.objs.size (.own (s.heap.objs.size+1))) (s.heap.objs.size+1) (.ins C s.heap.objs.size []))
 { s with heap:=(s.heap.push PySem.W.emptyDict).push (PySem.W.instObj C s.heap.objs.size) }:=by
 have c:(s.heap.push PySem.W.emptyDict).get? s.heap.objs.size=some PySem.W.emptyDict:=qy s.heap U
 have f:((s.heap.push PySem.W.emptyDict).push (PySem.W.instObj C s.heap.objs.size)).get? (s.heap.objs.size+1)=some (PySem.W.instObj C s.heap.objs.size):=by
  have:=qy (s.heap.push PySem.W.emptyDict) (o:=PySem.W.instObj C s.heap.objs.size) U
  rwa [Qo]at this
 have h:(s.heap.push PySem.W.emptyDict).Ns s.heap.objs.size (λ_=>none):=⟨PySem.W.emptyDict,#[],_,c,U,(λe i=>Qd i (by simp)),λ_=>U⟩;have g:=I.laid (a:=s.heap.objs.size) (o:=.own (s.heap.objs.size+1)) (h':=s.heap.push PySem.W.emptyDict) (t':=s.toks) (λb u q=>qf _ q) (qo _) ⟨_,c⟩;refine g.laid (a:=s.heap.objs.size+1) (o:=.ins C s.heap.objs.size []) (t':=s.toks) (λb u q=>qf _ q) (Nat.le_of_eq (Qo _ _)) ?_;have ne:s.heap.objs.size≠s.heap.objs.size+1:=qO (Qj _);refine⟨by rw[af ne,ah],qC _,ne,f,λ_=>none,(Heap.Ns1.of_empty h).at λo q=>qf _ q,λ_=>True.intro,λy d=>Qd U d⟩
theorem GU{f:Str}(hb:attributeBase e f env (eval e env)=eval e env)
 (h:wpAny (model prog w) A (eval e env) (λo a=>wpAny (model prog w) A (getAttr o f true) Q E a) E s):wpAny (model prog w) A (eval (.Attribute e f pos) env) Q E s:=
 Attribute_any_ h (by rw[arm_eval_Attribute,hb])
end
def nA(K:W.Frag)(ta:TE)(f:Str):TE:=λY H Q=>ta Y H λx H1=>∃a C dx fs v,x=.ref a/\H1 a=some (.ins C dx fs)/\Cls K C/\dP K C f/\fs.lookup f=some v/\Q v H1
def BM(K:W.Frag)(ta tv:TE)(f:Str):TS:=λD Y H=>tv Y H λy H1=>ta Y H1 λx H2=>∃a C dx fs,x=.ref a/\H2 a=some (.ins C dx fs)/\Cls K C/\dP K C f/\fs.length<1000 /\
 D.nx Y (upd H2 a (.ins C dx (dC f y fs)))
section
variable {o value:Expr}{f:Str}{tpos:Pos}{tv:TE}
theorem D9(d:PE X e ta)(hb:attributeBase e f X.env (eval e X.env)=eval e X.env):PE X (.Attribute e f pos) (nA X.K ta f):=by
 intro b s m H Q I h;refine GU hb (thn (d b s m H _ I h) λu _ ⟨x,o,j,i,a,C,_,fs,v,ex,g,c,n,l,q⟩=>?_);subst ex;obtain rfl:u=Value.ref a:=i;exact FG j g c n l λ_ _ k p=>⟨v,o,k,p,q⟩
theorem i4(ha:PE X o ta)(g:PE X value tv)(hs:swapsWith value (some (.Attribute o f pos')) pos.line X.env=pure false):PS X (.Assign [.Attribute o f pos'] value pos) (BM X.K ta tv f):=by
 intro b s d H D I h;refine plainObj_wpAny_Assign_Attribute (thn (g b s d H _ I h) λu v ⟨y,r,k,m,q⟩=>thn (ha b v d r _ k q) λov _ ⟨x,_,j,p,a,C,_,fs,ex,i,c,n,l,e⟩=>?_) hs;subst ex;obtain rfl:ov=Value.ref a:=p;exact Bn j i c n l m λ_ t=>⟨d,_,t,e⟩
theorem Hu{pl:Sem Bool}{m:Str}{b:LR}(n:PE X e te)(I:Inv X pins Y H s)
 (h:te Y H λx H1=>∃a C dx fs g,x=.ref a/\H1 a=some (.ins C dx fs)/\Cls X.K C/\ee X.K C m g/\fs.lookup m=none /\
  ∀s1,Inv X pins Y H1 s1->wpAny (model X.prog X.w) X.A (callWith pos (.ref g) [.ref a] (backTo pos (starEach b X.env)) (backToKw pos (keywordEach [] X.env))) Q X.xe s1)
 (ht:eval (.Call (.Attribute e m apos) b [] pos) X.env=(do
  let ov <- eval e X.env
  standAt apos.atName
  let (f,first) <- holding [ov] (getMethod ov m pl)
  callWith pos f first (backTo pos (starEach b X.env)) (backToKw pos (keywordEach [] X.env)))):
 wpAny (model X.prog X.w) X.A (eval (.Call (.Attribute e m apos) b [] pos) X.env) Q X.xe s:=by
 refine PySem.W.methodCall_KW (pl:=pl) (thn (n pins s Y H _ I h) λu s1 ⟨x,H1,d,j,a,C,dx,fs,g,ex,i,c,k,l,q⟩=>?_) ht;subst ex;obtain rfl:u=Value.ref a:=j;exact t9 d i c k l (q s1 d)
end
section
variable {c:Value}{b:Bool}
inductive eL(K:W.Frag)(H:Hp):V->Value->Prop where
 |non:eL K H .non (.type "NoneType")
 |bl (x:Bool):eL K H (.bl x) (.type "bool")
 |int (i:Int):eL K H (.int i) (.type "int")
 |str (x:Str):eL K H (.str x) (.type "str")
 |flt (x:UInt64):eL K H (.flt x) (.type "float")
 |lst {a:Addr}{xs:LV}(e:H a=some (.lst xs)):eL K H (.ref a) (.type "list")
 |frz {a:Addr}{o:Obj}{xs:LV}(e:H a=some (.frz o (.lst xs))):eL K H (.ref a) (.type "list")
 |tup {a:Addr}{xs:LV}(e:H a=some (.tup xs)):eL K H (.ref a) (.type "tuple")
 |dK {a:Addr}{kvs:LN}(e:H a=some (.dK kvs)):eL K H (.ref a) (.type "dict")
 |dT {a:Addr}{kvs:List (List Key×V)}(e:H a=some (.dT kvs)):eL K H (.ref a) (.type "dict")
 |ins {a C dx:Addr}{fs:List (Str×V)}(e:H a=some (.ins C dx fs)) (cl:Cls K C) (ha:PySem.W.findIn K (.ref C) "__class__"=some (some (.builtin "object.__class__")))
  (hn:PySem.W.specialIn K (.builtin "object.__class__") "__get__"=some (some (.builtin "getset_descriptor.__get__"))) (htk:PySem.W.takesIn K (.builtin "object.__class__")=some true)
  (hm:PySem.W.mroIn K C (.type "object")=some true):eL K H (.ref a) (.ref C)
theorem Ft{x:V}{t:Value}(I:Inv X pins Y H s)(f:aE x u)(ty:eL X.K H x t)(e:PySem.W.kitOne X.K t c=some b)(h:∀tk,Q (.bool b) { s with toks:=tk }):
 wpAny (model X.prog X.w) A (call (.builtin "isinstance") [u,c]) Q E s:=by
 cases ty with
 |non=>cases(show u=Value.none from f);exact QF PySem.W.kitx_none I.kIn True.intro e (λz=>nomatch z) h
 |bl y=>cases(show u=Value.bool y from f);exact QF PySem.W.kitx_bool I.kIn True.intro e (λz=>nomatch z) h
 |int i=>obtain⟨t,q⟩:=(show ∃t,u=Value.int i t from f);cases q;exact QF PySem.W.kitx_int I.kIn True.intro e (λz=>nomatch z) h
 |str y=>obtain⟨t,q⟩:=(show ∃t,u=Value.str y t from f);cases q;exact QF PySem.W.kitx_str I.kIn True.intro e (λz=>nomatch z) h
 |flt y=>obtain⟨t,q⟩:=(show ∃t,u=Value.float y t from f);cases q;exact QF PySem.W.kitx_float I.kIn True.intro e (λz=>nomatch z) h
 |@lst a xs d=>
  cases(show u=Value.ref a from f);obtain⟨_,_,n,_,g⟩:=(show bJ X.prog X.w H s.heap a (.lst xs)from I.hok a _ d);exact QF PySem.W.kitx_list I.kIn ⟨_,g,U⟩ e (λz=>nomatch z) h
 |@frz a ob xs d=>
  cases(show u=Value.ref a from f);obtain⟨_,_,_,n,_,g⟩:=(show bJ X.prog X.w H s.heap a (.frz ob (.lst xs))from I.hok a _ d);exact QF PySem.W.kitx_list I.kIn ⟨_,g,U⟩ e (λz=>nomatch z) h
 |@tup a xs d=>
  cases(show u=Value.ref a from f);obtain⟨_,_,_,p⟩:=(show bJ X.prog X.w H s.heap a (.tup xs)from I.hok a _ d);obtain⟨o,g,j,_⟩:=p;exact QF PySem.W.kitx_tuple I.kIn ⟨o,g,j⟩ e (λz=>nomatch z) h
 |@dK a kvs d=>
  cases(show u=Value.ref a from f);obtain⟨_,_,vs,_,p⟩:=(show bJ X.prog X.w H s.heap a (.dK kvs)from I.hok a _ d);obtain⟨o,es,ep,g,j,_⟩:=p;exact QF PySem.W.kitx_dict I.kIn ⟨o,g,j.1⟩ e (λz=>nomatch z) h
 |@dT a kvs d=>
  cases(show u=Value.ref a from f);obtain⟨_,_,xs,_,o,es,ep,g,j,_⟩:=(show bJ X.prog X.w H s.heap a (.dT kvs)from I.hok a _ d);exact QF PySem.W.kitx_dict I.kIn ⟨o,g,j.1⟩ e (λz=>nomatch z) h
 |@ins a C _ fs d l ha hn k m=>
  cases(show u=Value.ref a from f);obtain⟨_,O,_⟩:=mI I.hok d;obtain⟨od,J,_⟩:=O.look;exact QF (PySem.W.kitx_own (l.get _) l.hd ha hn k m) I.kIn J e (λz=>nomatch z) h
end
structure cw(k:Nat)(A:Around):Prop where
 hd:A.handled=none
 dp:A.depth+3 * k+5<recursionLimit
 un:A.units+16 * k+200<cLine
 gd:A.guards=some []
theorem cw.mono{k:Nat}(r:cw k A)(h:j<=k):cw j A:=⟨r.hd,by have:=r.dp;omega,by have:=r.un;omega,r.gd⟩
theorem cw.deeper{k:Nat}{A:Around}(r:cw (k+1) A)(env:Env):cw k (A.deeper env):=
 ⟨r.hd,by have:=r.dp;show A.depth+1+3 * k+5<_;omega,by have:=r.un;show A.units+3+16 * k+200<_;omega,r.gd⟩
theorem EK:(A.under (.builtin "type.__call__" ⟨.ref C::us,kw⟩)).depth=A.depth+1:=by
 first|rfl|simp[Around.under,Code.weight,Code.isCreation,Code.isGuard,Code.isCaller,Code.frames,Code.isFrame,guardIds]
theorem EH:(A.under (.builtin "type.__call__" ⟨.ref C::us,kw⟩)).units=A.units+1:=by
 first|rfl|simp[Around.under,Code.cUnits,Code.frames,Code.isFrame]
theorem EJ:(A.under (.builtin "type.__call__" ⟨.ref C::us,kw⟩)).guards=A.guards:=by
 first|rfl|simp[Around.under,Code.guards,Code.isGuard,guardIds,Around.pushGuards]
theorem cw.make{k:Nat}(r:cw (k+1) A)(C:Addr)(us:LL)(a:List (Str×Value)):cw k (A.under (.builtin "type.__call__" ⟨.ref C::us,a⟩)):=
 ⟨r.hd,by have:=r.dp;rw[EK];omega,by have:=r.un;rw[EH];omega,by rw[EJ];exact r.gd⟩
theorem cw.depth{k:Nat}{A:Around}(r:cw k A):A.depth<recursionLimit:=by have:=r.dp;omega
theorem cw.units{k:Nat}{A:Around}(r:cw k A):A.units+64<cLine:=by have:=r.un;omega
def uC:TA:=λ_ H Q=>Q [] H
def AA(ta:TE)(F:TA):TA:=λY H Q=>ta Y H λx H1=>F Y H1 λxs H2=>Q (x::xs) H2
section
variable {es:LR}{t:TA}
theorem ac:PA X [] uC:=λ_ _ _ _ H Q I h=>Calls.spliced_nil ⟨[],H,I,.nil,h⟩
theorem a8(ha:PE X e te)(hr:PA X es t)(hs:starEach (e::es) X.env=(false,eval e X.env)::starEach es X.env:=by rfl):PA X (e::es) (AA te t):=by
 intro pos a s b H Q I h;rw[hs];show wpAny _ _ (spliced ((false,eval e X.env)::backTo pos (starEach es X.env))) _ _ s;refine Calls.spliced_cons (thn (ha a s b H _ I h) λu l ⟨x,k,g,m,i⟩=>?_);exact thn (hr pos a l b k _ g i) λus _ ⟨xs,d,f,j,c⟩=>⟨x::xs,d,f,.cons m j,c⟩
def nq(t:TA):TE:=λY H Q=>t Y H λxs H1=>xs.length<=sizeLine/\∀p,H1 p=none->Q (.ref p) (upd H1 p (.tup xs))
def nu(t:TA):TE:=λY H Q=>t Y H λxs H1=>xs.length<=sizeLine/\∀p,H1 p=none->Q (.ref p) (upd H1 p (.lst xs))
theorem D0{g}(h:PA X es t):PE X (.Tuple es g pos) (nq t):=by
 intro c s j H Q I k;refine wpAny_Tuple_spliced (thn (h pos c s j H _ I k) λus a ⟨xs,f,d,r,z,q⟩=>⟨by rwa[<- r.length],?_⟩);have i:f a.heap.objs.size=none:=d.hok.fresh (qo _);refine⟨.ref a.heap.objs.size,upd f a.heap.objs.size (.tup xs),d.laid (t':=a.toks) (λb u e=>qf _ e) (qo _) ?_,U,q _ i⟩;exact⟨⟨z,_,qy _ U,U⟩,us,r,⟨_,qy _ U,U,_,U⟩⟩
theorem D6(h:PA X es t):PE X (.List es pos) (nu t):=by
 intro c s i H Q I j;refine wpAny_List_spliced (thn (h pos c s i H _ I j) λus a ⟨xs,f,d,r,z,q⟩=>⟨by rwa[<- r.length],?_⟩);have g:f a.heap.objs.size=none:=d.hok.fresh (qo _);refine⟨.ref a.heap.objs.size,upd f a.heap.objs.size (.lst xs),d.laid (t':=a.toks) (λb u e=>qf _ e) (qo _) ?_,U,q _ g⟩;exact⟨z,us,0,r,qy _ U⟩
end
abbrev Sp:=LV->Hp->VK->XK->Prop
abbrev CXT:=List Env->Hp->Shared->XK->LP
structure j6(P:Program)(w:World)(K:W.Frag)(mg:Str->LO)(base:Heap)(A:Around)(outer:List Env)(s:Shared)(H:Hp):Prop where
 frames:A.frames=some outer
 mod:Mod K mg base
 bs:∀b o,base.get? b=some o->s.heap.get? b=some o/\H b=none
 bsz:base.objs.size<=s.heap.objs.size
 funs:s.heap.FunFrames base outer
 frf:∀b∈frs outer,H b=none
 hok:HOk P w H s.heap
 bare:AllBare s.gens
def CE(outer:List Env)(P:Program)(w:World)(H:Hp)(s:Shared)(Q:VK)(u:Value)(s':Shared):Prop:=
 ∃v H',s'.os=s.os/\AllBare s'.gens/\Un (frs outer) [] H H' s.heap s'.heap/\HOk P w H' s'.heap/\aE v u/\Q v H'
def CR(CX:CXT)(outer:List Env)(P:Program)(w:World)(H:Hp)(s:Shared)(Q:VK)(E:XK)(r:Result)(s':Shared):Prop:=
 match r with
 |.ok (.ret u)=>CE outer P w H s Q u s'
 |.ok _=>False
 |.error e=>CX outer H s E e s'
structure aK(P:Program)(w:World)(K:W.Frag)(mg:Str->LO)(base:Heap)(CX:CXT)(k:Nat)(f:Addr)(fd:FuncData)(ps:LS)(sp:Sp):Prop where
 len:∀vs H Q E,sp vs H Q E->vs.length=ps.length
 run:∀(A:Around)(outer:List Env)(s:Shared)(H:Hp)(args:Args)(us:LL)(vs:LV)(Q:VK)(E:XK),cw k A->j6 P w K mg base A outer s H->BindsTo s fd args (ps.zip us)->aB vs us->sp vs H Q E->
  codeAny (model P w) A (.call (.ref f) args) (CR CX outer P w H s Q E) s
theorem j6.make(e:j6 P w K mg base A outer s H)(C:Addr)(us:LL)(a:List (Str×Value)):
 j6 P w K mg base (A.under (.builtin "type.__call__" ⟨.ref C::us,a⟩)) outer s H:=⟨by first|exact e.frames|(simpa[Around.under,Code.envs,Code.isFrame,pushEnvs]using e.frames),e.mod,e.bs,e.bsz,e.funs,e.frf,e.hok,e.bare⟩
theorem Inv.env0(I:Inv X pins Y H s):j6 X.prog X.w X.K X.mg X.base X.A X.stack s H:=
 ⟨I.ok.frames,I.ok.mod,I.bs,qH I.ok.bsz I.sz,I.stack,I.stkFree,I.hok,I.bare⟩
theorem Inv.after{Q:VK}(I:Inv X pins Y H s)(h:CE X.stack X.prog X.w H s Q u s'):EP X pins Y Q u s':=by
 obtain⟨v,H',os,bare,un,hok,r,q⟩:=h;obtain⟨c,g,d,t,a⟩:=s';obtain rfl:a=s.os:=os;exact⟨v,H',I.call (h':=c) (g':=g) (d':=d) (t':=t) (ch:=[]) un hok bare (λb z=>Qd z (by simp)),r,q⟩
def uG(sp:Sp)(dvs:LV)(E:XK)(t:TA):TE:=λY H Q=>t Y H λvs H1=>sp (vs++dvs) H1 Q E
def uE(C:Addr)(m:Str)(sp:Sp)(dvs:LV)(E:XK)(ta:TE)(t:TA):TE:=λY H Q=>ta Y H λx H1=>∃a dx fs,x=.ref a/\H1 a=some (.ins C dx fs)/\fs.lookup m=none /\
 t Y H1 λvs H2=>sp (x::(vs++dvs)) H2 Q E
def Ao(C:Addr)(sp:Sp)(dvs:LV)(E:XK)(t:TA):TE:=λY H Q=>t Y H λvs H1=>∀x dx,H1 x=none->H1 dx=none->dx≠x->
 sp (.ref x::(vs++dvs)) (upd (upd H1 dx (.own x)) x (.ins C dx [])) (λv H2=>v=.non/\Q (.ref x) H2) E
def dH(K:W.Frag)(fd:FuncData)(ps:LS)(ds:LL):Prop:=
 ∀(s:Shared)(us:LL),K.In s.heap->(us++ds).length=ps.length->BindsTo s fd ⟨us,[]⟩ (ps.zip (us++ds))
theorem dH.all(h:∀us:LL,us.length=ps.length->bindArgs fd ⟨us,[]⟩=pure (ps.zip us)):dH K fd ps []:=λs us _ hl=>by
 rw[qG]at hl ⊢;exact .of_eq (h us hl)
def iu(CX:CXT)(X:Cx)(E:XK):Prop:=∀(pins:List (Addr×Obj))(Y:St)(H:Hp)(s:Shared)(e:Value)(s':Shared),Inv X pins Y H s->CX X.stack H s E e s'->X.xe e s'
section
variable {CX:CXT}{k:Nat}{sp:Sp}{ds:LL}{E:XK}{m:Str}{p:Pos}{o:Expr}{es:LR}{t:TA}
theorem pX{Q:VK}{vs:LV}(F:aK X.prog X.w X.K X.mg X.base CX k f fd ps sp)(hr:cw k X.A)(hb:dH X.K fd ps ds)(hd:aB dvs ds)(g:iu CX X E)
 (I:Inv X pins Y H s) (r:aB vs us) (h:sp (vs++dvs) H Q E):wpAny (model X.prog X.w) X.A (call (.ref f) us) (EP X pins Y Q) X.xe s:=by
 have b:aB (vs++dvs) (us++ds):=r.append hd;have hl:(us++ds).length=ps.length:=by rw[<- b.length];exact F.len _ _ _ _ h
 refine wpAny_call (codeAny_mono (F.run X.A X.stack s H ⟨us,[]⟩ (us++ds) (vs++dvs) Q E hr I.env0 (hb s us I.kIn hl) b h) λr d a=>?_)
 cases r with
 |error e=>exact g pins Y H s e d I a
 |ok c=>
  cases c with
  |ret u=>exact I.after a
  |next=>exact False.elim a
  |brk=>exact False.elim a
  |cont=>exact False.elim a
theorem Dd(F:aK X.prog X.w X.K X.mg X.base CX k f fd ps sp)(hr:cw k X.A)(m:Gl X x)(l:X.mg x=some (.ref f))(hk:PySem.W.keepIn X.K (.ref f)=true)(hb:dH X.K fd ps ds)(hd:aB dvs ds)(j:iu CX X E)
 (ha:PA X (e::es) t) (d:(x == ("__debug__":Str))=false:=by decide) (g:starEach (e::es) X.env=(false,eval e X.env)::starEach es X.env:=by rfl) (b:(backTo pos (starEach es X.env)).any (·.1)=false:=by rfl):
 PE X (.Call (.Name x p) (e::es) [] pos) (uG sp dvs E t):=by
 intro a s i H Q I h;refine wpAny_Call_Name_kw (sP I m l ?_ d);refine PySem.W.callWith_K (h₀:=X.base) I.ok.mod.kin hk (thn (ha pos a s i H _ I h) λus _ ⟨vs,_,c,r,q⟩=>⟨c.kIn,?_⟩) g b;exact pX F hr hb hd j c r q
theorem iK{pl:Sem Bool}(J:PE X o ta)(c:Cls X.K C)(p:ee X.K C m f)(F:aK X.prog X.w X.K X.mg X.base CX k f fd ps sp)(hr:cw k X.A)(hb:dH X.K fd ps ds)(hd:aB dvs ds)(D:iu CX X E)(ha:PA X (e::es) t)
 (g:starEach (e::es) X.env=(false,eval e X.env)::starEach es X.env:=by rfl) (d:(backTo pos (starEach es X.env)).any (·.1)=false:=by rfl)
 (ht:eval (.Call (.Attribute o m apos) (e::es) [] pos) X.env=(do
  let ov <- eval o X.env
  standAt apos.atName
  let (f,first) <- holding [ov] (getMethod ov m pl)
  callWith pos f first (backTo pos (starEach (e::es) X.env)) (backToKw pos (keywordEach [] X.env))):=by rfl):
 PE X (.Call (.Attribute o m apos) (e::es) [] pos) (uE C m sp dvs E ta t):=by
 intro b s j H Q I h;refine PySem.W.methodCall_KW (pl:=pl) (thn (J b s j H _ I h) λu y ⟨x,G,i,B,a,_,fs,ex,z,l,q⟩=>?_) ht;subst ex;obtain rfl:u=Value.ref a:=B;refine t9 i z c p l ?_;refine PySem.W.callWith_K (first:=[.ref a]) (h₀:=X.base) I.ok.mod.kin p.kp (thn (ha pos b y j G _ i q) λus _ ⟨vs,_,n,r,v⟩=>⟨n.kIn,?_⟩) g d;exact pX (us:=.ref a::us) (vs:=.ref a::vs) F hr hb hd D n (.cons U r) v
theorem D5{pl:Sem Bool}(g:PE X o ta)(c:Cls X.K C)(e:ee X.K C m f)(F:aK X.prog X.w X.K X.mg X.base CX k f fd ps sp)(hr:cw k X.A)(hb:dH X.K fd ps ds)(hd:aB dvs ds)(p:iu CX X E)
 (ht:eval (.Call (.Attribute o m apos) [] [] pos) X.env=(do
  let ov <- eval o X.env
  standAt apos.atName
  let (f,first) <- holding [ov] (getMethod ov m pl)
  callWith pos f first (backTo pos (starEach [] X.env)) (backToKw pos (keywordEach [] X.env))):=by rfl):
 PE X (.Call (.Attribute o m apos) [] [] pos) (uE C m sp dvs E ta uC):=by
 intro d s n H Q I h;refine PySem.W.methodCall_KW (pl:=pl) (thn (g d s n H _ I h) λu _ ⟨x,_,b,j,a,_,fs,ex,i,l,q⟩=>?_) ht;subst ex;obtain rfl:u=Value.ref a:=j;refine t9 b i c e l ?_;exact PySem.W.callWith_K0 (first:=[.ref a]) b.kIn e.kp (pX (us:=[.ref a]) (vs:=[.ref a]) F hr hb hd p b (.cons U .nil) q)
structure Mk(K:W.Frag)(C f:Addr):Prop where
 makes:PySem.W.makesIn K C=true
 init:PySem.W.findIn K (.ref C) "__init__"=some (some (.ref f))
 fn:PySem.W.isFn K (.ref f)=true
 kp:PySem.W.keepIn K (.ref C)=true
theorem BO{Q:VK}{vs:LV}(M:Mk X.K C f)(F:aK X.prog X.w X.K X.mg X.base CX k f fd ps sp)(hr:cw (k+1) X.A)(hb:dH X.K fd ps ds)(hd:aB dvs ds)
 (l:iu CX X E) (I:Inv X pins Y H s) (r:aB vs us)
 (h:∀x dx,H x=none->H dx=none->dx≠x->sp (.ref x::(vs++dvs)) (upd (upd H dx (.own x)) x (.ins C dx [])) (λv H2=>v=.non/\Q (.ref x) H2) E):
 wpAny (model X.prog X.w) X.A (call (.ref C) us) (EP X pins Y Q) X.xe s:=by
 have d:=h (s.heap.objs.size+1) s.heap.objs.size (I.hok.fresh (Nat.le_succ _)) (I.hok.fresh (qo _)) (qO (Qj _));have b:=Inv.made (C:=C) I;have c:aB (V.ref (s.heap.objs.size+1)::(vs++dvs)) (Value.ref (s.heap.objs.size+1)::(us++ds)):=.cons U (r.append hd)
 have hl:(Value.ref (s.heap.objs.size+1)::us++ds).length=ps.length:=by
  have e:=c.length;rw[F.len _ _ _ _ d]at e;exact e.symm
 refine wpAny_call (EI (f:=f) I.kIn M.makes M.init (beq_iff_eq.mp M.fn) (codeAny_mono (F.run _ X.stack _ _ ⟨Value.ref (s.heap.objs.size+1)::us,[]⟩ (Value.ref (s.heap.objs.size+1)::(us++ds)) _ _ E (hr.make C us [])
  (b.env0.make C us []) (hb _ (Value.ref (s.heap.objs.size+1)::us) b.kIn hl) c d) λr i a=>?_))
 cases r with
 |error e=>exact l pins Y _ _ e i b a
 |ok g=>
  cases g with
  |ret u=>
   obtain⟨v,H',m,n,o,j⟩:=b.after a;subst o;exact⟨n,⟨V.ref (s.heap.objs.size+1),H',m,U,j⟩⟩
  |next=>exact False.elim a
  |brk=>exact False.elim a
  |cont=>exact False.elim a
theorem xi(M:Mk X.K C f)(F:aK X.prog X.w X.K X.mg X.base CX k f fd ps sp)(hr:cw (k+1) X.A)(m:Gl X x)(l:X.mg x=some (.ref C))(hb:dH X.K fd ps ds)(hd:aB dvs ds)(j:iu CX X E)
 (ha:PA X (e::es) t) (d:(x == ("__debug__":Str))=false:=by decide) (g:starEach (e::es) X.env=(false,eval e X.env)::starEach es X.env:=by rfl) (b:(backTo pos (starEach es X.env)).any (·.1)=false:=by rfl):
 PE X (.Call (.Name x p) (e::es) [] pos) (Ao C sp dvs E t):=by
 intro a s i H Q I h;refine wpAny_Call_Name_kw (sP I m l ?_ d);refine PySem.W.callWith_K (h₀:=X.base) I.ok.mod.kin M.kp (thn (ha pos a s i H _ I h) λus _ ⟨vs,_,c,r,q⟩=>⟨c.kIn,?_⟩) g b;exact BO M F hr hb hd j c r q
end
section
variable {CX:CXT}{k:Nat}{ks:LS}{sp:Sp}{E:XK}{m:Str}{p kpos:Pos}{o:Expr}{es:LR}{kws:List Keyword}{t tk:TA}{nm:Option Str}
variable {g:LL->LL->LL}{gV:LV->LV->LV}
end
structure aP(N P:LS)(sc:Scope):Prop where
 kind:sc.kind=.function
 co:sc.isCoroutine=false
 gen:sc.isGenerator=false
 nd:N.Nodup
 pre:N.take P.length=P
 par:∀x∈P,sc.names.lookup x=some .local\/sc.names.lookup x=some .cell
 nofree:∀y∈sc.names,y.2≠.free
theorem zo{a:Str->Option NameKind}{x:Str}:∀{binds:List (Str×Value)}{m:Str->LO},(∀v,(x,v)∉binds)->bindL a binds m x=m x
 |[],_,_=>rfl
 |(n,v)::r,m,h=>by
  unfold bindL;rw[zo λw hw=>h w (qv _ hw)];split
  .have:x≠n:=by rintro rfl;exact h v qw
   simp[this]
  .rfl
theorem zq{a:Str->Option NameKind}{x:Str}:∀{binds:List (Str×Value)}{m:Str->LO},(∀v,(x,v)∉binds)->bindC a binds m x=m x
 |[],_,_=>rfl
 |(n,v)::r,m,h=>by
  unfold bindC;rw[zq λw hw=>h w (qv _ hw)];split
  .rfl
  .have:x≠n:=by rintro rfl;exact h v qw
   simp[this]
theorem zp{a:Str->Option NameKind}{x:Str}{v:Value}:∀{P:LS}{vs:LL}{i:Nat}{m:Str->LO},P.Nodup->P[i]?=some x->vs[i]?=some v->a x=some .local->
 bindL a (P.zip vs) m x=some v
 |[],_,_,_,_,h,_,_=>by simp at h
 |_::_,[],_,_,_,_,h,_=>by simp at h
 |p::P,w::vs,0,m,nd,h1,h2,hk=>by
  simp at h1 h2;subst h1;subst h2;show bindL a ((p,w)::P.zip vs) m p=_;unfold bindL;rw[zo λv b=>(List.nodup_cons.mp nd).1 (List.of_mem_zip b).1,Qa hk];simp
 |p::P,w::vs,i+1,m,nd,h1,h2,hk=>by
  show bindL a ((p,w)::P.zip vs) m x=_;unfold bindL;exact zp (i:=i) (List.nodup_cons.mp nd).2 (by simpa using h1) (by simpa using h2) hk
theorem zt{a:Str->Option NameKind}{x:Str}{v:Value}:∀{P:LS}{vs:LL}{i:Nat}{m:Str->LO},P.Nodup->P[i]?=some x->vs[i]?=some v->a x≠some .local->
 bindC a (P.zip vs) m x=some v
 |[],_,_,_,_,h,_,_=>by simp at h
 |_::_,[],_,_,_,_,h,_=>by simp at h
 |p::P,w::vs,0,m,nd,h1,h2,hk=>by
  simp at h1 h2;subst h1;subst h2;show bindC a ((p,w)::P.zip vs) m p=_;unfold bindC;rw[zq λv b=>(List.nodup_cons.mp nd).1 (List.of_mem_zip b).1,Q9 hk];simp
 |p::P,w::vs,i+1,m,nd,h1,h2,hk=>by
  show bindC a ((p,w)::P.zip vs) m x=_;unfold bindC;exact zt (i:=i) (List.nodup_cons.mp nd).2 (by simpa using h1) (by simpa using h2) hk
noncomputable def start(N:LS)(vs:LV):St:=vs.map some++List.replicate (N.length-vs.length) none
noncomputable def iU(CX:CXT)(P:Program)(w:World)(K:W.Frag)(mg:Str->LO)(base:Heap)(N:LS)(qual:Str)(scope:Scope)(f:Addr)(cd:Value)(A:Around)(outer:List Env)(s:Shared)(H:Hp)(E:XK):Cx where
 prog:=P
 w:=w
 K:=K
 mg:=mg
 base:=base
 A:=A.deeper (envOfC qual scope s.heap.objs.size f cd)
 N:=N
 s₀:=s
 H₀:=H
 env:=envOfC qual scope s.heap.objs.size f cd
 outer:=outer
 stack:=envOfC qual scope s.heap.objs.size f cd::outer
 ex:=[]
 calm:=true
 fn:=λ_=>true
 pn:=[]
 xe:=λe s'=>wpAny (model P w) (A.deeper (envOfC qual scope s.heap.objs.size f cd)) (leaving (envOfC qual scope s.heap.objs.size f cd) e) (λ_ F=>CX outer H s E e F) (λJ F=>CX outer H s E J F) s'
theorem zc{a:Scope}(h:a.names.lookup x=some .cell):∃c,(cellsFrom n a.names []).lookup x=some c:=by
 have q:=PySem.W.cellsFrom_some a.names n [] (.inl h);exact Option.isSome_iff_exists.mp q
theorem Fv{CX:CXT}{B:Value}{F:Shared}{E:XK}{vs:LV}
 (S:aP N ps scope) (hd:A.handled=none) (g:j6 P w K mg base A outer s H) (hl:vs.length=ps.length) (r:aB vs us)
 (x:InCallC s s.heap.objs.size (bindL (envOfC qual scope s.heap.objs.size f B).kindOf (ps.zip us) λ_=>none) (cellsFrom (s.heap.objs.size+1) scope.names []) (bindC (envOfC qual scope s.heap.objs.size f B).kindOf (ps.zip us) λ_=>none) F):
 Inv (iU CX P w K mg base N qual scope f B A outer s H E) [] (start N vs) H F:=by
 have I:ps.length<=N.length:=by have:=congrArg List.length S.pre;rw[qS]at this;omega
 obtain⟨o,tk,rfl,hk⟩:=x.done;have l:∀b:Addr,b∉(iU CX P w K mg base N qual scope f B A outer s H E).ex:=λb z=>Qd (show b∈([]:LK)from z) (by simp)
 refine⟨⟨g.mod,S.kind,U,U,qo _,λy z c o d=>?_,λy j=>?_,λy c _ h=>?_,λ_=>hd,Around.frames_deeper g.frames,.inr ⟨U,U⟩,λb z=>Qd z (l b),g.bs,g.bsz,λb _ _=>l b,λb z=>Qd z (l b),g.funs,g.frf⟩,
  rfl,g.bare,Un.kept hk,⟨_,x.toInCall.ns,λi y v o d _=>?_⟩,λy c h=>⟨_,x.cell y c h⟩,g.hok.fresh (qo _),λy c h=>?_,λp m=>Qd (show p∈([]:List (Addr×Obj))from m) (by simp),g.hok.kept hk,?_⟩
 .exact name_of_addr x.apart (Qq o) (Qq d)
 .have j:scope.names.lookup y=some .cell\/scope.names.lookup y=some .free:=j;rcases j with j|j
  .exact zc j
  .exact Qd U (S.nofree _ (Qq j))
 .exact Nat.le_of_lt (x.above y c (Qq h))
 .have t:i<vs.length:=by
   unfold start at d;by_cases t:i<vs.length
   .exact t
   .rw[qT (by simpa using t)]at d;rw[List.getElem?_replicate]at d;split at d<;>cases d
  have ha:vs[i]?=some v:=by
   unfold start at d;rw[Qe (by simpa using t),qM]at d
   cases e:vs[i]? with
   |none=>rw[e]at d;cases d
   |some a=>rw[e]at d;cases d;rfl
  obtain⟨u,D,G⟩:=r.get ha
  have m:ps[i]?=some y:=by
   rwa[<- S.pre,List.getElem?_take_of_lt Yo]
  have C:ps.Nodup:=by rw[<- S.pre];exact S.nd.sublist (List.take_sublist _ _)
  exists u,G;rcases S.par y (qI m)with k|k
  .exact .inl ⟨k,zp C m D k⟩
  .obtain⟨c,e⟩:=zc (n:=s.heap.objs.size+1) k;refine .inr ⟨.inl k,c,e,?_⟩;have q:=x.cell y c e;rw[zt C m D (by show scope.names.lookup y≠_;rw[k];decide)]at q;exact q
 .exact g.hok.fresh (Nat.le_of_lt (x.above y c (Qq h)))
 .unfold start;show _=N.length;rw[qh,qc,List.length_replicate];omega
theorem FO{CX:CXT}{k:Nat}{c:Arguments}{z kV l F a ct T:Value}{L od:Option Addr}
 {sp:Sp}(R:K.lookup f=some ⟨T,od,.func (PySem.W.fnOf name qual c body scope z kV l F L a ct),osl⟩) (C:PySem.W.codeIn K a qual=true) (S:aP N ps scope)
  (len:∀vs H Q E,sp vs H Q E->vs.length=ps.length)
  (i:∀(A:Around)(outer:List Env)(s:Shared)(H:Hp)(vs:LV)(Q:VK)(E:XK),cw k (A.deeper (envOfC qual scope s.heap.objs.size f a))->sp vs H Q E->
   ∃t,PSs (iU CX P w K mg base N qual scope f a A outer s H E) body t/\t { nx:=λ_ H'=>Q .non H',rt:=Q } (start N vs) H):
  aK P w K mg base CX (k+1) f (PySem.W.fnOf name qual c body scope z kV l F L a ct) ps sp:=by
  refine⟨len,λA outer s H _ us vs Q E hr g hb r j=>?_⟩;have hl:=len _ _ _ _ j;have B:K.In s.heap:=g.mod.kin.keeps λb o e=>(g.bs b o e).1;have G:s.heap.NoLimit:=g.mod.nolimit.keeps λb o e=>(g.bs b o e).1
  have h:∀y∈ps.zip us,scope.names.lookup y.1=some .local\/(scope.names.lookup y.1=some .cell/\((cellsFrom (s.heap.objs.size+1) scope.names []).lookup y.1).isSome=true):=λ⟨n,v⟩ X=>by
   rcases S.par n (List.of_mem_zip X).1 with q|q
   .exact .inl q
   .exact .inr ⟨q,PySem.W.cellsFrom_some _ _ _ (.inl q)⟩
  refine codeAny_call_function hr.depth (B _ _ R) U S.co S.gen U (PySem.W.codeRec_of B C) (hb _ _ _ _ ?_);refine wpAny_newFunctionEnv_cells S.kind h λenv O D x=>?_;subst O;refine⟨G.keeps x.toInCall.keep,codeAny_func ?_⟩;obtain⟨t,ht,M⟩:=i A outer s H vs Q E (hr.deeper _) j;have I:Inv (iU CX P w K mg base N qual scope f a A outer s H E) [] (start N vs) H D:=Fv S hr.hd g hl r x;refine wpAny_mono (ht [] D (start N vs) H _ I M) (λX0 m hs=>?_) λe m hs=>hs
  have fin:∀{d:St}{H':Hp}{v:V}{u:Value},Inv (iU CX P w K mg base N qual scope f a A outer s H E) [] d H' m->aE v u->Q v H'->CE outer P w H s Q u m:=
   λ{d H' v u} J p q=>⟨v,H',J.os,J.bare,J.base,J.hok,p,q⟩
  cases X0 with
  |ret u=>
   obtain⟨v,d,H',J,p,q⟩:=hs;exact fin J p q
  |next=>
   obtain⟨d,H',J,q⟩:=hs;exact fin (v:=V.non) (u:=Value.none) J U q
  |brk=>
   obtain⟨_,_,_,q⟩:=hs;exact False.elim q
  |cont=>
   obtain⟨_,_,_,q⟩:=hs;exact False.elim q
end L2
variable {sp:L2.Sp}
namespace L2
open PySem PySem.Spec PyProof.Rows
section
variable {p:Pos}{es:LR}{t:TA}{id T:String}{r:LV->Hp->VK->Prop}
def tCB(r:LV->Hp->VK->Prop)(t:TA):TE:=λY H Q=>t Y H λvs H1=>r vs H1 Q
theorem aL(hc:cL X (.builtin id) r)(o:Gl X x)(m:X.mg x=none)(g:bootBuiltins x=some (.builtin id))(ha:PA X (e::es) t)(hn:x≠"__name__":=by decide)(d:(x == ("__debug__":Str))=false:=by decide)
 (f:starEach (e::es) X.env=(false,eval e X.env)::starEach es X.env:=by rfl) (b:(backTo pos (starEach es X.env)).any (·.1)=false:=by rfl):PE X (.Call (.Name x p) (e::es) [] pos) (tCB r t):=by
 intro a s c H Q I h;refine wpAny_Call_Name_kw (gO I o m g ?_ hn d);exact PyProof.Rows.callWith_builtin1 (thn (ha pos a s c H _ I h) λus i ⟨vs,l,j,n,k⟩=>hc a i c l vs us Q j n k) f b
theorem d6(hc:cL X (.type T) r)(o:Gl X x)(m:X.mg x=none)(g:bootBuiltins x=some (.type T))(ha:PA X (e::es) t)(hn:x≠"__name__":=by decide)(d:(x == ("__debug__":Str))=false:=by decide)
 (f:starEach (e::es) X.env=(false,eval e X.env)::starEach es X.env:=by rfl) (b:(backTo pos (starEach es X.env)).any (·.1)=false:=by rfl):PE X (.Call (.Name x p) (e::es) [] pos) (tCB r t):=by
 intro a s c H Q I h;refine wpAny_Call_Name_kw (gO I o m g ?_ hn d);exact PyProof.Rows.callWith_type1 (thn (ha pos a s c H _ I h) λus i ⟨vs,l,j,n,k⟩=>hc a i c l vs us Q j n k) f b
end
end L2
namespace HT
open PySem PyProof.Rows
section
open PySem.SeqAt
open PySem.AutoSeq1 (wpAny_loadPart')
open PySem.MeetsSeq PySem.MeetsSeq2 PySem.MeetsSeq3
end
noncomputable def sIx(n d:Nat):Option Int->Nat
 |none=>d
 |some v=>if v<0 then(v+(n:Int)).toNat else min v.toNat n
theorem sIx_none(n d:Nat):sIx n d none=d:=U
theorem sIx_nat(n d k:Nat):sIx n d (some (k:Int))=min k n:=by
 show(if(k:Int)<0 then((k:Int)+(n:Int)).toNat else min (k:Int).toNat n)=min k n;rw[Q9 Yo,Q7]
theorem sIx_le(n d:Nat)(hd:d<=n)(o:Option Int):sIx n d o<=n:=by
 cases o with
 |none=>exact hd
 |some v=>
  show(if v<0 then(v+(n:Int)).toNat else min v.toNat n)<=n;by_cases hv:v<0
  .rw[Qa hv];omega
  .rw[Q9 hv];exact Nat.min_le_right _ _
end HT
namespace L2
open PySem PySem.Spec PyProof.Rows
abbrev TO:=St->Hp->(Option Int->Hp->Prop)->Prop
def PO(X:Cx)(e:Option Expr)(t:TO):Prop:=
 ∀(pins:List (Addr×Obj))(s:Shared)(Y:St)(H:Hp)(Q:Option Int->Hp->Prop),Inv X pins Y H s->t Y H Q->
  wpAny (model X.prog X.w) X.A (evalPart e X.env) (λu s'=>∃o H',Inv X pins Y H' s'/\IsPart u o/\Q o H') X.xe s
def Al:TO:=λ_ H Q=>Q none H
def Ai(t:TE):TO:=λY H Q=>t Y H λx H1=>∃i,x=.int i/\Q (some i) H1
section
variable {lo hi:Option Expr}{tl th:TO}{p2:Pos}
theorem iI:PO X none Al:=by
 intro _ s _ H Q I h;rw[evalPart_none];exact qk ⟨none,H,I,.none,h⟩
theorem fP(h:PE X e te):PO X (some e) (Ai te):=by
 intro a s c H Q I hw;rw[evalPart_some];refine thn (h a s c H _ I hw) λu _ ⟨x,f,b,g,d⟩=>?_;obtain⟨i,rfl,q⟩:=d;obtain⟨t,rfl⟩:=g;exact⟨some i,f,b,.int i t,q⟩
def SlR(X:Cx)(r:V->Option Int->Option Int->Hp->VK->Prop):Prop:=
 ∀(pins:List (Addr×Obj))(s:Shared)(Y:St)(H:Hp)(x:V)(v J F:Value)(lo hi:Option Int)(sl:Addr)(Q:VK),Inv X pins Y H s->aE x v->s.heap.IsSliceOf sl J F .none->IsPart J lo->IsPart F hi->r x lo hi H Q->
  ∃T id,typeLookup (.type T) "__getitem__"=pure (some (.builtin id))/\s.TypeIs v T/\wpAny (model X.prog X.w) X.A (getItem v (.ref sl)) (EP X pins Y Q) X.xe s
def tSl(r:V->Option Int->Option Int->Hp->VK->Prop)(te:TE)(tl th:TO):TE:=λY H Q=>te Y H λx H1=>tl Y H1 λl H2=>th Y H2 λu F=>r x l u F Q
theorem gH{r:V->Option Int->Option Int->Hp->VK->Prop}(hr:SlR X r)(k:PE X e te)(hl:PO X lo tl)(E:PO X hi th):PE X (.Subscript e (.Slice lo hi none p2) pos) (tSl r te tl th):=by
 intro a s d H Q I h;refine Subscript_ (thn (k a s d H _ I h) λv y ⟨x,j,J,D,p⟩=>?_);refine wpAny_Slice (thn (hl a y d j _ J p) λf F ⟨l,n,G,pl,z⟩=>thn (E a F d n _ G z) λg c ⟨u,i,t,C,o⟩=>?_);rw[evalPart_none];refine qk ?_;have K:Inv X a d i { c with heap:=c.heap.push { cls:=.type "slice",data:=.fields #[f,g,.none] } }:=t.kept (t':=c.toks) λb ob q=>qf _ q;obtain⟨T,_,B,ht,m⟩:=hr a { c with heap:=c.heap.push { cls:=.type "slice",data:=.fields #[f,g,.none] } } d i x v f g l u c.heap.objs.size Q K D (Heap.IsSliceOf.new ..) pl C o;show wpAny (model X.prog X.w) X.A (subscriptTail e (.Slice lo hi none p2) v (.ref c.heap.objs.size)) (EP X a d Q) X.xe { c with heap:=c.heap.push { cls:=.type "slice",data:=.fields #[f,g,.none] } };exact tail_any (ops:=[.ref c.heap.objs.size,v]) ht B m (by with_unfolding_all rfl)
noncomputable def fA(xs:LV)(lo hi:Option Int):LV:=(xs.drop (HT.sIx xs.length 0 lo)).take (HT.sIx xs.length xs.length hi-HT.sIx xs.length 0 lo)
theorem Gu(xs:LV)(a b:Option Int):(fA xs a b).length<=xs.length:=by
 unfold fA;rw[qS,Q8];omega
end
noncomputable def ixN(n:Nat)(i:Int):Option Nat:=if 0<=i then(if i<n then some i.toNat else none)else if -(n:Int)<=i then some (i+n).toNat else none
noncomputable def atI(xs:List α)(i:Int):Option α:=(ixN xs.length i).bind λj=>xs[j]?
theorem yt{i:Int}(h:ixN n i=some j):seqIndex? i n=some j/\j<n/\-(n:Int)<=i/\i<n:=by
 unfold ixN at h;by_cases h0:0<=i
 .rw[Qa h0]at h;by_cases h1:i<n
  .rw[Qa h1]at h;have e:i.toNat=j:=qR h;exact⟨by rw[seqIndex_of h0 h1,e],Yo,Yo,h1⟩
  .rw[Q9 h1]at h;cases h
 .rw[Q9 h0]at h;by_cases h1:-(n:Int)<=i
  .rw[Qa h1]at h;have e:(i+n).toNat=j:=qR h;exact⟨by rw[seqIndex_neg Yo h1,e],Yo,h1,Yo⟩
  .rw[Q9 h1]at h;cases h
theorem tV{xs:List α}{i:Int}{v:α}(h:atI xs i=some v):∃j,seqIndex? i xs.length=some j/\xs[j]?=some v/\j<xs.length/\-(xs.length:Int)<=i/\i<xs.length:=by
 unfold atI at h
 cases e:ixN xs.length i with
 |none=>rw[e]at h;cases h
 |some j=>
  rw[e]at h;obtain⟨a,d,c,b⟩:=yt e;exact⟨j,a,h,d,c,b⟩
theorem aO{xs:List α}{v:α}(h:xs[j]?=some v):atI xs (j:Int)=some v:=by
 have a:j<xs.length:=(qp.mp h).1
 have e:ixN xs.length (j:Int)=some j:=by
  unfold ixN;rw[Qa Yo,Qa Yo];simp
 unfold atI;rwa[e]
def Hj(b:Expr):Prop:=∀o i,subscripted b false o i=operate [o,i] (getItem o i)
def IxR(X:Cx)(r:R2):Prop:=
 ∀(value slice:Expr)(pins:List (Addr×Obj))(s:Shared)(Y:St)(H:Hp)(x y:V)(v u:Value)(Q:VK),Inv X pins Y H s->aE x v->aE y u->r x y H Q->
  subscripted slice false v u=operate [v,u] (getItem v u)->wpAny (model X.prog X.w) X.A (subscriptTail value slice v u) (EP X pins Y Q) X.xe s
def MtR(X:Cx)(id:String)(r:V->LV->Hp->VK->Prop):Prop:=
 ∀(pins:List (Addr×Obj))(s:Shared)(Y:St)(H:Hp)(x:V)(xs:LV)(v:Value)(us:LL)(Q:VK),Inv X pins Y H s->aE x v->aB xs us->r x xs H Q->
  wpAny (model X.prog X.w) X.A (call (.builtin id) (v::us)) (EP X pins Y Q) X.xe s
section
variable {a b:Expr}{tb:TE}
theorem ai{r:R2}(hr:IxR X r)(ha:PE X a ta)(hb:PE X b tb)(hs:Hj b):PE X (.Subscript a b pos) (tOp r ta tb):=by
 intro c s j H Q I h;exact Subscript_ (tU ha hb I h λv u d x y e f g i q=>hr a b c d j e x y v u Q f g i q (hs _ _))
def Cm(K:W.Frag):R2:=λx y H Q=>∃p xs i v,x=.ref p/\y=.int i/\SqL K H p xs/\atI xs i=some v/\Q v H
def Cj(K:W.Frag):R2:=λx y H Q=>∃p xs i v,x=.ref p/\y=.int i/\SqT K H p xs/\atI xs i=some v/\Q v H
def Ck:R2:=λx y H Q=>∃z i c,x=.str z/\y=.int i/\z.length<=sizeLine/\atI z.cps.toList i=some c/\Q (.str ⟨#[c]⟩) H
theorem Fo:IxR X (Cm X.K):=by
 intro _ slice a s g H x y v u Q I A B h hs;obtain⟨p,xs,i,z,rfl,rfl,l,n,q⟩:=h;cases A;obtain⟨t,rfl⟩:=B;obtain⟨d,r,pl,_⟩:=I.list l;obtain⟨j,b,m,_,C,k⟩:=tV n;obtain⟨w,f,e⟩:=r.get m;have hl:=r.length;have hn:=ku;have fin:EP X a g Q w s:=⟨z,H,I,e,q⟩;by_cases h0:0<=i
 .have c:i.toNat=j:=by
   rw[seqIndex_of h0 k]at b;exact qR b
  exact item_listR pl.isList h0 Yo (by rw[c];simpa using f) fin hs
 .have c:(i+(d.toArray.size:Int)).toNat=j:=by
   rw[seqIndex_neg Yo C]at b;rw[qK,<- hl];exact qR b
  exact subscriptTail_builtinR (x:=w) pl.isList.typeIs slot_list_getitem.lookup
   (wpAny_getItem_list_neg (Q:=λr o=>r=w/\EP X a g Q r o) pl.isList Yo (by rw[qK]<;>omega) Yo (by rw[c];simpa using f) ⟨U,fin⟩) hs
theorem Fn:IxR X (Cj X.K):=by
 intro _ slice a s c H x y v u Q I l m h hs;obtain⟨p,xs,i,z,rfl,rfl,e,g,q⟩:=h;cases l;obtain⟨t,rfl⟩:=m;obtain⟨_,r,pl,_⟩:=I.tuple e;obtain⟨j,d,f,_,_,_⟩:=tV g;obtain⟨w,n,b⟩:=r.get f;have hl:=r.length;have hn:=ku;have fin:EP X a c Q w s:=⟨z,H,I,b,q⟩
 exact subscriptTail_builtinR (x:=w) pl.typeIs slot_tuple_getitem.lookup
  (getItem_tuple (j:=j) (Q:=λr k=>r=w/\EP X a c Q r k) pl Yo Yo (by rwa[qK,<- hl]) (by simpa using n) ⟨U,fin⟩) hs
theorem kz:IxR X Ck:=by
 intro _ slice _ s _ H x y v u Q I e g h hs;obtain⟨z,i,c,rfl,rfl,_,b,q⟩:=h;obtain⟨t,rfl⟩:=e;obtain⟨t',rfl⟩:=g;obtain⟨j,a,m,_,k,d⟩:=tV b;have hl:z.cps.toList.length=z.length:=by simp[Str.length]
 rw[hl]at a k d;have hn:=ku
 exact tail_any (typeIs_str s z t) slot_str_getitem.lookup (getItem_str (c:=c) (by
  have l:decide (i < -(2 ^ 63:Int))=false:=Qc Yo;have f:decide (i >= 2 ^ 63)=false:=Qc Yo
  rw[l,f,Bool.or_false]) (by rw[a];simpa using m) ⟨.str ⟨#[c]⟩,H,I.tok _,⟨_,U⟩,q⟩) hs
theorem EG(a:LL)(n j:Nat)(u:Value):Obj.mapSeq (·.setIfInBounds j u) { cls:=.type "list",data:=.seq a.toArray n }={ cls:=.type "list",data:=.seq (a.set j u).toArray n }:=by
 simp[Obj.mapSeq]
theorem Inv.lst{a:List (Addr×Obj)}{b:St}{H:Hp}{s:Shared}{p:Addr}{xs:LV}(I:Inv X a b H s)(h:H p=some (.lst xs)):
 ∃(its:LL)(n:Nat),aB xs its/\s.heap.get? p=some { cls:=.type "list",data:=.seq its.toArray n }/\xs.length<=sizeLine:=by
 obtain⟨z,its,n,r,e⟩:=I.hok p _ h;exact⟨its,n,r,e,z⟩
theorem Inv.lstUpd{p:Addr}{xs ys:LV}{its':LL}{a:Nat}{f:Obj->Obj}(I:Inv X pins Y H s)(h:H p=some (.lst xs))
 (d:s.heap.get? p=some { cls:=.type "list",data:=.seq its.toArray n }) (c:f { cls:=.type "list",data:=.seq its.toArray n }={ cls:=.type "list",data:=.seq its'.toArray a }) (r:aB ys its') (g:ys.length<=sizeLine) (t:Nat):
 Inv X pins Y (upd H p (.lst ys)) { s with heap:=s.heap.update p f,toks:=t }:=by
 have e:(s.heap.update p f).get? p=some { cls:=.type "list",data:=.seq its'.toArray a }:=by
  rw[Qp f d (by rw[c]<;>rfl),c]
 refine I.write (x:=p) (e:=p) (by rw[h];trivial) (.inl U) (λb u hb q=>(QB _ _ (Ne.symm hb)).trans q) ⟨_,e⟩ ?_;exact⟨g,its',a,r,e⟩
def Cf:V->V->V->Hp->(Hp->Prop)->Prop:=λo i v H Q=>∃p xs k j,o=.ref p/\i=.int k/\H p=some (.lst xs)/\ixN xs.length k=some j/\Q (upd H p (.lst (xs.set j v)))
theorem ja:zF X Cf:=by
 intro d s x H o i v ov _ u Q I ro w z h;obtain⟨p,xs,k,j,rfl,rfl,l,m,q⟩:=h;cases ro;obtain⟨t,rfl⟩:=w;obtain⟨b,n,r,c,y⟩:=I.lst l;obtain⟨a,_,g,f⟩:=yt m;have hl:=r.length;have hn:=ku
 have e:Inv X d x (upd H p (.lst (xs.set j v))) { s with heap:=s.heap.update p (Obj.mapSeq (·.setIfInBounds j u)) }:=
  I.lstUpd l c (EG b n j u) (r.set z j) (by rwa[List.length_set]) s.toks
 by_cases h0:0<=k
 .have hk:k.toNat=j:=by
   rw[seqIndex_of h0 f]at a;exact qR a
  exact PySem.W.ki_setAt c h0 Yo (by rwa[qK,<- hl]) (by rw[hk];exact⟨_,e,q⟩)
 .have hk:(k+(b.toArray.size:Int)).toNat=j:=by
   rw[seqIndex_neg Yo g]at a;rw[qK,<- hl];exact qR a
  exact PySem.W.ki_setBack c Yo (by rwa[qK,<- hl]) Yo (by rw[hk];exact⟨_,e,q⟩)
theorem B0(a b:Option Int)(n:Nat):(sliceBounds a b none n).1=((HT.sIx n 0 a:Nat):Int)/\(sliceBounds a b none n).2.1=((HT.sIx n n b:Nat):Int)/\(sliceBounds a b none n).2.2=1:=by
 refine⟨?_,?_,U⟩
 .cases a with
  |none=>simp[sliceBounds,HT.sIx]
  |some i=>
   simp only[sliceBounds,HT.sIx,Option.getD_none,show(1:Int) > 0 by decide,if_true];by_cases h:i<0
   .simp only[h,if_true]<;>omega
   .simp only[h,if_false]<;>omega
 .cases b with
  |none=>simp[sliceBounds,HT.sIx]
  |some i=>
   simp only[sliceBounds,HT.sIx,Option.getD_none,show(1:Int) > 0 by decide,if_true];by_cases h:i<0
   .simp only[h,if_true]<;>omega
   .simp only[h,if_false]<;>omega
theorem B1(a:LL)(b c:Option Int):slicePick a.toArray b c none=((a.drop (HT.sIx a.length 0 b)).take (HT.sIx a.length a.length c-HT.sIx a.length 0 b)).toArray:=by
 obtain⟨d,e,f⟩:=B0 b c a.toArray.size;unfold slicePick;rw[d,e,f];simp only[sliceRange_one,pick_run,qK]<;>rfl
def Ce(K:W.Frag):V->Option Int->Option Int->Hp->VK->Prop:=λx lo hi H Q=>∃a xs,x=.ref a/\SqL K H a xs/\∀p,H p=none->Q (.ref p) (upd H p (.lst (fA xs lo hi)))
theorem kX:SlR X (Ce X.K):=by
 intro _ s _ H x v _ _ c d sl Q I f hs pl j h;obtain⟨a,xs,rfl,i,q⟩:=h;cases f;obtain⟨_,r,ht,g⟩:=I.list i;have e:=r.length;exists "list",_,slot_list_getitem.lookup,ht.isList.typeIs;refine wpAny_getItem_list_slice ht.isList hs pl j .none (by simp) ?_ (by rw[qK]<;>omega);rw[B1,<- e];refine⟨.ref s.heap.objs.size,_,I.laid (t':=s.toks) (o:=.lst (fA xs c d)) (λb ob q=>qf _ q) (qo _) ?_,U,q _ (I.hok.fresh (qo _))⟩;exact⟨qH (Gu xs c d) g,_,0,(r.drop (HT.sIx xs.length 0 c)).take (HT.sIx xs.length xs.length d-HT.sIx xs.length 0 c),qy _ U⟩
noncomputable def ik:V->Bool
 |.non=>true
 |.bl _=>true
 |.int _=>true
 |.str _=>true
 |_=>false
noncomputable def eqV:V->V->Bool
 |.non,.non=>true
 |.bl a,.bl b=>a == b
 |.bl a,.int b=>(if a then 1 else 0) == b
 |.int a,.bl b=>a == (if b then 1 else 0)
 |.int a,.int b=>a == b
 |.str a,.str b=>a == b
 |_,_=>false
theorem FX{x:V}{v:Value}(d:aE y u)(c:aE x v)(f:ik y=true)(e:ik x=true):SeqAt.EqAt A s u v (eqV y x):=by
 cases y with
 |non=>
  cases d
  cases x with
  |non=>cases c;exact SeqAt.EqAt.same _
  |bl b=>cases c;exact SeqAt.EqAt.none_bool b
  |int b=>obtain⟨t,rfl⟩:=c;exact SeqAt.EqAt.none_int b t
  |str b=>obtain⟨t,rfl⟩:=c;exact SeqAt.EqAt.none_str b t
  |_=>exact Qd (show false=true from e) qt
 |bl a=>
  cases d
  cases x with
  |non=>cases c;exact SeqAt.EqAt.bool_none a
  |bl b=>cases c;exact SeqAt.EqAt.bool_bool a b
  |int b=>obtain⟨t,rfl⟩:=c;exact SeqAt.EqAt.bool_int a b t
  |str b=>obtain⟨t,rfl⟩:=c;exact SeqAt.EqAt.bool_str a b t
  |_=>exact Qd (show false=true from e) qt
 |int a=>
  obtain⟨t',rfl⟩:=d
  cases x with
  |non=>cases c;exact SeqAt.EqAt.int_none a t'
  |bl b=>cases c;exact SeqAt.EqAt.int_bool a t' b
  |int b=>obtain⟨t,rfl⟩:=c;exact SeqAt.EqAt.int_int a t' b t
  |str b=>obtain⟨t,rfl⟩:=c;exact SeqAt.EqAt.int_str a t' b t
  |_=>exact Qd (show false=true from e) qt
 |str a=>
  obtain⟨t',rfl⟩:=d
  cases x with
  |non=>cases c;exact SeqAt.EqAt.str_none a t'
  |bl b=>cases c;exact SeqAt.EqAt.str_bool a t' b
  |int b=>obtain⟨t,rfl⟩:=c;exact SeqAt.EqAt.str_int a t' b t
  |str b=>obtain⟨t,rfl⟩:=c;exact SeqAt.EqAt.str_str a t' b t
  |_=>exact Qd (show false=true from e) qt
 |_=>exact Qd (show false=true from f) qt
noncomputable def eqU(x:V)(u:Value):Bool:=match u with
 |.none=>eqV .non x
 |.bool b=>eqV (.bl b) x
 |.int i _=>eqV (.int i) x
 |.str z _=>eqV (.str z) x
 |_=>false
theorem yJ{x:V}(r:aE y u)(f:ik y=true):eqU x u=eqV y x:=by
 cases y with
 |non=>cases r;rfl
 |bl b=>cases r;rfl
 |int i=>obtain⟨t,rfl⟩:=r;rfl
 |str z=>obtain⟨t,rfl⟩:=r;rfl
 |_=>exact Qd (show false=true from f) qt
theorem tY{x:V}:∀{xs:LV}{us:LL},aB xs us->xs.all ik=true->us.any (eqU x)=xs.any λy=>eqV y x
 |_,_,.nil,_=>rfl
 |y::xs,u::us,.cons r t,f=>by
  rw[List.all_cons,Bool.and_eq_true]at f;rw[List.any_cons,List.any_cons,yJ r f.1,tY t f.2]
theorem sF{A:Around}{s:Shared}{x:V}{v:Value}(c:aE x v)(b:ik x=true):∀{xs:LV}{us:LL},aB xs us->xs.all ik=true->∀u∈us,SeqAt.EqAt A s u v (eqU x u)
 |_,_,.nil,_=>λu a=>by cases a
 |y::xs,u::us,.cons r t,f=>λd a=>by
  rw[List.all_cons,Bool.and_eq_true]at f;rcases qD.mp a with rfl|a
  .rw[yJ r f.1];exact FX r c f.1 b
  .exact sF c b t f.2 d a
noncomputable def inV(x:V)(xs:LV):Bool:=xs.any λy=>eqV y x
def rIn(K:W.Frag)(F:Bool):R2:=λx y H Q=>∃p xs,y=.ref p/\(SqL K H p xs\/SqT K H p xs)/\ik x=true/\xs.all ik=true/\Q (.bl (if F then !inV x xs else inV x xs)) H
theorem jy:OpR X (compareOp .In) (rIn X.K false):=by
 intro _ s _ H x y v u Q I c e h;obtain⟨p,xs,rfl,b,d,fs,q⟩:=h;cases e;rcases b with b|b
 .obtain⟨a,r,pl,f⟩:=I.list b;refine SeqAt.in_listAt (eqU x) pl.isList (λw hw=>sF c d r fs w (by simpa using hw)) ⟨.bl _,H,I,U,?_⟩;rwa[show a.toArray.any (eqU x)=a.any (eqU x)by simp,tY r fs]
 .obtain⟨a,r,pl,f⟩:=I.tuple b;refine SeqAt.in_tupleAt (eqU x) pl (λw hw=>sF c d r fs w (by simpa using hw)) ⟨.bl _,H,I,U,?_⟩;rwa[show a.toArray.any (eqU x)=a.any (eqU x)by simp,tY r fs]
theorem GH:cL X (.builtin "len") (λxs H Q=>∃p ys,xs=[.ref p]/\(SqL X.K H p ys\/SqT X.K H p ys)/\Q (.int ys.length) H):=by
 intro _ s _ H xs us Q I r h;obtain⟨p,ys,rfl,b,q⟩:=h;obtain⟨u,rfl,e⟩:=fX r;cases e;have hn:=ku;rcases b with b|b
 .obtain⟨d,c,pl,f⟩:=I.list b;have a:=c.length;exact Calls.call_len_list pl.isList (by simp only[qK]<;>omega) ⟨.int ys.length,H,I.tok _,⟨s.toks+1,by rw[qK,a]⟩,q⟩
 .obtain⟨d,c,pl,f⟩:=I.tuple b;have a:=c.length;exact len_tuple pl (by simp only[qK]<;>omega) ⟨.int ys.length,H,I.tok _,⟨s.toks+1,by rw[qK,a]⟩,q⟩
theorem GG:cL X (.type "list") (λxs H Q=>∃p ys,xs=[.ref p]/\(SqL X.K H p ys\/SqT X.K H p ys)/\∀l,H l=none->Q (.ref l) (upd H l (.lst ys))):=by
 intro k s v H xs us Q I r h;obtain⟨p,ys,rfl,g,q⟩:=h;obtain⟨u,rfl,t⟩:=fX r;cases t
 have fin:∀(a:LL),aB ys a->ys.length<=sizeLine->∀(h':Heap)(d:Nat),(∀b m,s.heap.get? b=some m->h'.get? b=some m)->
  h'.get? s.heap.objs.size=some { cls:=.type "list",dict:=none,data:=.seq a.toArray d,slots:=#[] }->EP X k v Q (.ref s.heap.objs.size) { s with heap:=h' }:=λa c f h' d kp e=>
  ⟨.ref s.heap.objs.size,_,I.laid (t':=s.toks) kp (qo _) (show bJ X.prog X.w _ h' _ (.lst ys)from⟨f,a,d,c,e⟩),U,q _ (I.hok.fresh (qo _))⟩
 rcases g with g|g
 .obtain⟨a,c,pl,f⟩:=I.list g;have i:=c.length;obtain⟨o,j,hc,n,hd⟩:=pl.isList;exact call_list_seq p (.inl U) j hc hd (λh' d kp e=>fin a c f h' d kp e) (by simp only[qK]<;>omega)
 .obtain⟨a,c,pl,f⟩:=I.tuple g;have i:=c.length;obtain⟨o,j,hc,n,hd⟩:=pl;exact call_list_seq p (.inr U) j hc hd (λh' d kp e=>fin a c f h' d kp e) (by simp only[qK]<;>omega)
theorem tO:cL X (.type "tuple") (λxs H Q=>∃p ys,xs=[.ref p]/\((SqL X.K H p ys/\∀l,H l=none->Q (.ref l) (upd H l (.tup ys)))\/(SqT X.K H p ys/\Q (.ref p) H))):=by
 intro c s i H xs us Q I r h;obtain⟨p,ys,rfl,h⟩:=h;obtain⟨u,rfl,k⟩:=fX r;cases k;rcases h with⟨f,q⟩|⟨f,q⟩
 .obtain⟨a,d,pl,j⟩:=I.list f;have n:=d.length;refine call_tuple_list pl.isList (λh' kp=>?_) (by simp only[qK]<;>omega);have g:Inv X c i H { s with heap:=h' }:=I.kept (t':=s.toks) kp
  have m:Inv X c i (upd H h'.objs.size (.tup ys)) { s with heap:=h'.push { cls:=.type "tuple",data:=.seq a.toArray } }:=
   g.laid (t':=s.toks) (λb o e=>qf _ e) (qo _) (show bJ X.prog X.w _ _ _ (.tup ys)from⟨⟨j,_,qy _ U,U⟩,a,d,IsTup.new _ _⟩)
  exact⟨.ref h'.objs.size,_,m,U,q _ (g.hok.fresh (qo _))⟩
 .obtain⟨a,d,pl,j⟩:=I.tuple f;exact call_tuple_same pl ⟨.ref p,H,I,U,q⟩
def tyV(K:W.Frag)(T:String)(x:V)(H:Hp):Prop:=match x with
 |.str _=>T="str"
 |.int _=>T="int"
 |.ref p=>(T="list"/\∃xs,SqL K H p xs)\/(T="tuple"/\((∃o,K.lookup p=some o/\o.cls=.type "tuple"/\o.dict=none)\/∃xs,H p=some (.tup xs))) \/
  (T="dict"/\((∃kvs,H p=some (.dK kvs))\/∃kvs,H p=some (.dT kvs)))\/(T="set"/\∃S n,H p=some (.set S n))
 |_=>False
theorem uu{T:String}{x:V}{v:Value}(I:Inv X pins Y H s)(r:aE x v)(ty:tyV X.K T x H):
 s.TypeIs v T/\∀a,v=.ref a->∃ob,s.heap.get? a=some ob/\ob.dict=none:=by
 cases x with
 |str z=>
  obtain⟨t,rfl⟩:=r;cases(show T="str" from ty);exact⟨typeIs_str s z t,λ_ e=>nomatch e⟩
 |int i=>
  obtain⟨t,rfl⟩:=r;cases(show T="int" from ty);exact⟨typeIs_int s i t,λ_ e=>nomatch e⟩
 |ref p=>
  cases r;rcases ty with⟨rfl,xs,h⟩|⟨rfl,⟨o,hk,hc,hd⟩|⟨xs,g⟩⟩|⟨rfl,hk⟩|⟨rfl,S,n,hk⟩
  .obtain⟨d,_,pl,_⟩:=I.list h;refine⟨pl.isList.typeIs,λa e=>?_⟩;cases e;obtain⟨o,n,e,c,hd,_⟩:=pl;exact⟨o,e,hd⟩
  .refine⟨⟨o,I.kIn p o hk,hc⟩,λa e=>?_⟩;cases e;exact⟨o,I.kIn _ o hk,hd⟩
  .obtain⟨⟨_,ob,e,nd⟩,d,_,p⟩:=I.hok p _ g;exact⟨p.typeIs,λa f=>by cases f;exact⟨ob,e,nd⟩⟩
  .have z:∃o,s.heap.get? p=some o/\o.ExactDict:=by
    rcases hk with⟨kvs,hk⟩|⟨kvs,hk⟩
    .obtain⟨_,_,_,_,o,_,_,e,ex,_⟩:=I.hok p _ hk;exact⟨o,e,ex⟩
    .obtain⟨_,_,_,_,o,_,_,e,ex,_⟩:=I.hok p _ hk;exact⟨o,e,ex⟩
   obtain⟨o,e,ex⟩:=z;refine⟨⟨o,e,ex.1⟩,λa b=>?_⟩;cases b;exact⟨o,e,ex.2.1⟩
  .obtain⟨o,_,_,_,e,ex,_⟩:=I.hok p _ hk;refine⟨⟨o,e,ex.1⟩,λa b=>?_⟩;cases b;exact⟨o,e,ex.2.1⟩
 |_=>exact False.elim ty
def AC(K:W.Frag)(T:String)(r:V->LV->Hp->VK->Prop)(to:TE):TE:=λY H Q=>to Y H λx H1=>tyV K T x H1/\r x [] H1 Q
def tBM(K:W.Frag)(T:String)(r:V->LV->Hp->VK->Prop)(to:TE)(t:TA):TE:=λY H Q=>to Y H λx H1=>tyV K T x H1/\t Y H1 λxs H2=>r x xs H2 Q
variable {o:Expr}{es:LR}{to:TE}{t:TA}{T id:String}{r:V->LV->Hp->VK->Prop}
theorem xk(l:PlainAttrs T)(slot:Slot T name id)(d:typeOf (.builtin id)=pure (.type "method_descriptor"))(q:MtR X id r)(n:PE X o to)
 (b:attributeBase o name X.env (eval o X.env)=eval o X.env:=by rfl) (c:(apos.endLine == cpos.line)=true:=by rfl):PE X (.Call (.Attribute o name apos) [] [] cpos) (AC X.K T r to):=by
 intro a s f H Q I h;refine wpAny_Call_method0_late b c (thn (n a s f H _ I h) λv k ⟨x,p,e,g,ty,m⟩=>?_);obtain⟨i,j⟩:=uu e g ty;exact⟨T,id,l,slot,d,i,j,Calls.callWith_builtin U (PySem.evalArgs_none (q a k f p x [] v [] Q e g .nil m))⟩
theorem De(D:PlainAttrs T)(slot:Slot T name id)(i:typeOf (.builtin id)=pure (.type "method_descriptor"))(u:MtR X id r)(n:PE X o to)(ha:PA X (e::es) t)
 (c:attributeBase o name X.env (eval o X.env)=eval o X.env:=by rfl)
 (f:((backTo cpos (starEach (e::es) X.env)).all (λx=>!x.1) && (backToKw cpos (keywordEach [] X.env)).all (λx=>x.1.isSome)
  && decide ((e::es).length+([]:List Keyword).length+(if([]:List Keyword).isEmpty then 0 else 1)<30))=true:=by rfl)
 (d:(apos.endLine == cpos.line)=true:=by rfl) (hs:starEach (e::es) X.env=(false,eval e X.env)::starEach es X.env:=by rfl) (b:(backTo cpos (starEach es X.env)).any (·.1)=false:=by rfl):
 PE X (.Call (.Attribute o name apos) (e::es) [] cpos) (tBM X.K T r to t):=by
 intro a s g H Q I h;refine wpAny_Call_method_late c f d U (thn (n a s g H _ I h) λv z ⟨x,p,l,j,ty,y⟩=>?_);obtain⟨m,q⟩:=uu l j ty;exists T,id,D,slot,i,m,q;have k:=ha cpos a z g p _ l y;rw[hs]at k ⊢;refine Calls.callWith_builtin (by show(false || (backTo cpos (starEach es X.env)).any (·.1))=false;rw[b]<;>rfl) (Calls.evalArgs_plain ?_);exact thn k λus C ⟨vs,w,E,B,A⟩=>u a C g w x vs v us Q E j B A
end
def MtM(X:Cx)(id:String)(r:V->LV->Hp->VK->Prop):Prop:=
 ∀(pins:List (Addr×Obj))(s:Shared)(Y:St)(H:Hp)(x:V)(xs:LV)(v:Value)(us:LL)(Q:VK),Inv X pins Y H s->aE x v->aB xs us->r x xs H Q->
  wpAny (model X.prog X.w) X.A (call (.builtin id) (v::us)) (EP X pins Y Q) X.xe s
theorem aB.one:∀{x:V}{us:LL},aB [x] us->∃u,us=[u]/\aE x u
 |_,_,.cons r .nil=>⟨_,U,r⟩
theorem aB.zero:∀{us:LL},aB [] us->us=[]
 |_,.nil=>rfl
theorem aB.dropLast{xs:LV}{us:LL}(h:aB xs us):aB xs.dropLast us.dropLast:=by
 induction h with
 |nil=>exact .nil
 |cons r t a=>
  cases t with
  |nil=>exact .nil
  |cons q t'=>exact .cons r a
theorem aB.rep{xs:LV}{us:LL}(h:aB xs us):∀k:Nat,aB (List.replicate k xs).flatten (List.replicate k us).flatten
 |0=>.nil
 |k+1=>by
  rw[List.replicate_succ,List.replicate_succ,List.flatten_cons,List.flatten_cons];exact aB.append h (aB.rep h k)
theorem FW(l:List α):l.eraseIdx (l.length-1)=l.dropLast:=by
 induction l with
 |nil=>rfl
 |cons a r c=>
  cases r with
  |nil=>rfl
  |cons b r=>
   have e:(a::b::r).length-1=((b::r).length-1)+1:=by
    have d:(a::b::r).length=r.length+2:=U;have f:(b::r).length=r.length+1:=U;omega
   rw[e,List.eraseIdx_cons_succ,c]
   all_goals rfl
theorem yG(b:LL):∀(k:Nat)(a:LL),
 List.foldl (λc f=>c++f) a.toArray (List.replicate k b.toArray)=(a++(List.replicate k b).flatten).toArray
 |0,a=>by simp
 |k+1,a=>by
  have e:a.toArray++b.toArray=(a++b).toArray:=by simp
  have d:(a++b)++(List.replicate k b).flatten=a++(List.replicate (k+1) b).flatten:=by
   rw[List.replicate_succ,List.flatten_cons,qV]
  rw[<- d,<- yG b k (a++b),<- e,List.replicate_succ,QH]
section
variable {l:Addr}{xs ys zs:LV}
theorem Inv.lset{its':LL}{f:LD->LD}(I:Inv X pins Y H s)(a:H l=some (.lst xs))
 (e:s.heap.get? l=some { cls:=.type "list",data:=.seq its.toArray n }) (c:f its.toArray=its'.toArray) (b:aB ys its') (d:ys.length<=sizeLine):
 Inv X pins Y (upd H l (.lst ys)) { s with heap:=s.heap.update l (Obj.mapSeq f),toks:=t' }:=by
 have q:=PySem.IsL.update e f;rw[c]at q;refine I.write (x:=l) (e:=l) (by rw[a];exact trivial) (.inl U) (λ_ u hb g=>(QB s.heap (Obj.mapSeq f) (Ne.symm hb)).trans g) ⟨_,q⟩ ?_;exact⟨d,its',_,b,q⟩
theorem Inv.lnew(I:Inv X pins Y H s)(b:aB ys its)(a:ys.length<=sizeLine):
 Inv X pins Y (upd H s.heap.objs.size (.lst ys)) { s with heap:=s.heap.push { cls:=.type "list",data:=.seq its.toArray },toks:=t' }:=
 I.laid (λ_ _ q=>qf _ q) (qo _) ⟨a,its,0,b,qy _ U⟩
theorem Inv.fresh(I:Inv X pins Y H s):H s.heap.objs.size=none:=I.hok.fresh (qo _)
theorem Inv.lstM(I:Inv X pins Y H s)(a:H l=some (.lst xs)):xs.length<=sizeLine/\∃(its:LL)(n:Nat),aB xs its/\xs.length=its.length/\s.heap.get? l=some { cls:=.type "list",data:=.seq its.toArray n }:=by
 obtain⟨z,its,n,r,e⟩:=I.hok l _ a;exact⟨z,its,n,r,r.length,e⟩
theorem xW(h:n<=sizeLine):Builtin.List.listTooLong n=false:=by
 unfold Builtin.List.listTooLong;exact Qc Yo
end
def Cs:V->LV->Hp->VK->Prop:=λx vs H Q=>∃l xs y,x=.ref l/\vs=[y]/\H l=some (.lst xs)/\xs.length<sizeLine/\Q .non (upd H l (.lst (xs++[y])))
theorem Ex:MtM X "list.append" Cs:=by
 intro _ s _ H x vs v us Q I c d h;obtain⟨l,xs,y,rfl,rfl,b,_,q⟩:=h;cases c;obtain⟨u,rfl,f⟩:=d.one;obtain⟨z,a,n,r,hl,e⟩:=I.lstM b;refine call_meets F.slot_list_append ⟨_,e,U⟩ F.entry_list_append (F.args_list_append_2 _ _) (PySem.list_append l a.toArray n u (by rw[qK];omega)) ⟨e,?_⟩;refine⟨.non,_,I.lset (its':=a++[u]) b e (by simp) (r.append (.cons f .nil)) ?_,U,q⟩;rw[qh,Qf];omega
def Cp:V->LV->Hp->VK->Prop:=λx vs H Q=>∃l b xs zs,x=.ref l/\vs=[.ref b]/\H l=some (.lst xs)/\H b=some (.lst zs)/\xs.length+zs.length<=sizeLine/\Q .non (upd H l (.lst (xs++zs)))
theorem ic:MtM X "list.extend" Cp:=by
 intro _ s _ H x vs v us Q I g m h;obtain⟨l,b,xs,zs,rfl,rfl,f,k,_,q⟩:=h;cases g;obtain⟨u,rfl,o⟩:=m.one;cases o;obtain⟨z,c,n,r,hl,e⟩:=I.lstM f;obtain⟨_,a,n2,j,_,i⟩:=I.lstM k;have hsz:c.toArray.size+a.toArray.size<=sizeLine:=by rw[qK,qK];omega
 have d:¬ (!c.toArray.isEmpty && Builtin.List.listTooLong (c.toArray.size+a.toArray.size))=true:=by
  rw[xW hsz,Bool.and_false];exact qt
 refine call_meets F.slot_list_extend ⟨_,e,U⟩ F.entry_list_extend (F.args_list_extend_2 _ _)
  (AutoSeq1.list_extend_list_list_0 l c.toArray n b a.toArray n2 d (by rw[qK];omega) Yo) ⟨e,i,?_⟩
 refine⟨.non,_,I.lset (its':=c++a) f e (by simp) (r.append j) ?_,U,q⟩;rw[qh];omega
def Ci:V->LV->Hp->VK->Prop:=λx vs H Q=>∃l xs y,x=.ref l/\vs=[]/\H l=some (.lst xs)/\xs[xs.length-1]?=some y/\Q y (upd H l (.lst xs.dropLast))
theorem y3:MtM X "list.pop" Ci:=by
 intro _ s _ H x vs v us Q I g i h;obtain⟨l,xs,y,rfl,rfl,b,f,q⟩:=h;cases g;have d:=i.zero;subst d;obtain⟨z,a,n,r,hl,e⟩:=I.lstM b;obtain⟨u,k,j⟩:=r.get f
 have c:a.toArray[a.toArray.size-1]?=some u:=by
  show a.toArray[a.length-1]?=some u;rwa[<- Q3,<- hl]
 refine call_meets F.slot_list_pop ⟨_,e,U⟩ F.entry_list_pop (F.args_list_pop_1 _) (MeetsSeq.list_pop_last l a.toArray n u c (by rw[qK];omega)) ⟨e,?_⟩;refine⟨y,_,I.lset (its':=a.dropLast) b e ?_ r.dropLast ?_,j,q⟩
 .show a.toArray.eraseIdxIfInBounds (a.toArray.size-1)=a.dropLast.toArray;rw[qK,List.eraseIdxIfInBounds_toArray,FW]
 .rw[QI];omega
def Cg:R2:=λx y H Q=>∃l k xs,x=.ref l/\y=.int k/\H l=some (.lst xs)/\-(2 ^ 63)<=k/\k<2 ^ 63/\xs.length * k.toNat<=sizeLine /\
 ∀p,H p=none->Q (.ref p) (upd H p (.lst (List.replicate k.toNat xs).flatten))
theorem EW(xs:List α)(k:Nat):(List.replicate k xs).flatten.length=k * xs.length:=by
 induction k with
 |zero=>simp
 |succ k a=>rw[List.replicate_succ,List.flatten_cons,qh,a,Nat.succ_mul,Nat.add_comm]
theorem xw:OpR X (binaryOp .Mult) Cg:=by
 intro _ s _ H x y v u Q I E G h;obtain⟨l,k,xs,rfl,rfl,B,w,A,p,q⟩:=h;cases E;obtain⟨t,rfl⟩:=G;obtain⟨z,b,n,r,hl,e⟩:=I.lstM B;have j:b.toArray.size * k.toNat<=sizeLine:=by rwa[qK,<- hl]
 have o:¬ b.toArray.size * k.toNat > (2 ^ 63-1) / 8:=by
  have:(sizeLine:Nat)<=(2 ^ 63-1) / 8:=Yk;omega
 have d:¬ (!Builtin.List.listFitsIndex k)=true:=by
  rw[fitsIndex_both w A];exact qt
 have c:¬ Builtin.List.listTooLong (b.toArray.size * k.toNat)=true:=by
  rw[xW j];exact qt
 have i:List.foldl (λf g=>f++g) #[] (List.replicate (if b.toArray.isEmpty=true then 0 else k.toNat) b.toArray)=(List.replicate k.toNat b).flatten.toArray:=by
  have C:∀m:Nat,List.foldl (λf g=>f++g) #[] (List.replicate m b.toArray)=(List.replicate m b).flatten.toArray:=λm=>by
   have:=yG b m [];rw[Qt]at this;exact this
  rw[C]
  cases b with
  |nil=>simp
  |cons a _=>rw[Q9 (by simp)]
 refine wpAny_binaryOp_repeat_ref (T:="list") (U:="int") Yk ⟨_,e,U⟩ (λD=>typeIs_int D k t) noFill_list_mul F.fills_int_mul F.slot_int_rmul repeat_list F.slot_int_index.lookup
  (call_meets F.slot_int_rmul (typeIs_int s k t) F.entry_int_rmul (F.args_int_rmul_2 _ _) (int___rmul___int_list k t l b.toArray n)
   ⟨e,U,⟨_,e,U⟩,call_meets F.slot_list_mul ⟨_,e,U⟩ F.entry_list_mul (F.args_list_mul_2 _ _) (AutoListH.list___mul___list_int_3 l b.toArray n k t d o c) ⟨e,?_⟩⟩)
 rw[i];exact⟨.ref _,_,I.lnew (t':=s.toks) (r.rep k.toNat) (by rwa[EW,Nat.mul_comm]),U,q _ I.fresh⟩
set_option maxRecDepth 100000 in
section
variable [DecidableEq κ]
noncomputable def aH(kvs:List (κ×V))(k:κ):LC:=(kvs.find? λF=>decide (F.1=k)).map (·.2)
noncomputable def aX(kvs:List (κ×V))(k:κ)(v:V):List (κ×V):=
 if(kvs.any λF=>decide (F.1=k))=true then kvs.map (λF=>if F.1=k then(F.1,v)else F)else kvs++[(k,v)]
theorem fJ{p:κ×V}{r:List (κ×V)}{k:κ}(e:p.1=k):aH (p::r) k=some p.2:=by simp[aH,Qh,e]
theorem fK{p:κ×V}{r:List (κ×V)}{k:κ}(e:¬ p.1=k):aH (p::r) k=aH r k:=by simp[aH,Qh,e]
theorem j8(k:κ):∀kvs:List (κ×V),(kvs.any λa=>decide (a.1=k))=(aH kvs k).isSome
 |[]=>rfl
 |p::r=>by
  rw[List.any_cons];by_cases e:p.1=k
  .simp only[fJ e,Qb e,Bool.true_or,Option.isSome_some]
  .rw[fK e,Qc e,Bool.false_or];exact j8 k r
theorem uq(k j:κ)(y:V):∀kvs:List (κ×V),aH (kvs.map λa=>if a.1=k then(a.1,y)else a) j=(aH kvs j).map λx=>if j=k then y else x
 |[]=>rfl
 |p::r=>by
  have b:=uq k j y r;rw[qZ];by_cases h:p.1=k
  .rw[Qa h];by_cases e:p.1=j
   .rw[fJ (p:=(p.1,y)) e,fJ e,Option.map_some,Qa (e.symm.trans h)]
   .rw[fK (p:=(p.1,y)) e,fK e,b]
  .rw[Q9 h];by_cases e:p.1=j
   .rw[fJ (p:=p) e,fJ e,Option.map_some,Q9 (λz=>h (e.trans z))]
   .rw[fK (p:=p) e,fK e,b]
theorem uo(k j:κ)(y:V):∀kvs:List (κ×V),aH kvs k=none->aH (kvs++[(k,y)]) j=if j=k then some y else aH kvs j
 |[],_=>by
  by_cases e:k=j
  .rw[Qa e.symm];exact fJ (p:=(k,y)) e
  .rw[Q9 (λz=>e z.symm)];exact fK (p:=(k,y)) e
 |p::r,hn=>by
  rw[Qu];have hk:¬ p.1=k:=λz=>by rw[fJ z]at hn;cases hn
  rw[fK hk]at hn;have a:=uo k j y r hn;by_cases e:p.1=j
  .rw[fJ e,fJ e,Q9 (λz=>hk (e.trans z))]
  .rw[fK e,fK e,a]
theorem d9(kvs:List (κ×V))(k j:κ)(y:V):aH (aX kvs k y) j=if j=k then some y else aH kvs j:=by
 unfold aX;by_cases a:(kvs.any λb=>decide (b.1=k))=true
 .rw[Qa a,uq];rw[j8]at a;by_cases e:j=k
  .obtain⟨x,c⟩:=Option.isSome_iff_exists.mp a;rw[Qa e,e,c,Option.map_some,Qa U]
  .rw[Q9 e]
   cases aH kvs j with
   |none=>rfl
   |some x=>rw[Option.map_some,Q9 e]
 .rw[Q9 a];refine uo k j y kvs ?_;rw[j8]at a
  cases q:aH kvs k with
  |none=>rfl
  |some x=>rw[q]at a;exact(a U).elim
theorem dF(kvs:List (κ×V))(k:κ)(v:V):(aX kvs k v).length<=kvs.length+1:=by
 unfold aX;split
 .rw[qc];omega
 .rw[qh,qJ,List.length_nil];omega
theorem rP{kvs:List (κ×V)}{k:κ}(v:V)(h:aH kvs k=none):aX kvs k v=kvs++[(k,v)]:=by
 unfold aX;rw[j8,h];exact Q9 Yk
theorem cy.isSome_eq{o:LC}{u:LO}(r:cy o u):o.isSome=u.isSome:=by
 cases o with
 |none=>cases u with
  |none=>rfl
  |some _=>exact(show False from r).elim
 |some _=>cases u with
  |none=>exact(show False from r).elim
  |some _=>rfl
theorem cy.getD{o:LC}{u:LO}{d:V}{d':Value}(r:cy o u)(a:aE d d'):aE (o.getD d) (u.getD d'):=by
 cases o with
 |none=>cases u with
  |none=>exact a
  |some _=>exact(show False from r).elim
 |some _=>cases u with
  |none=>exact(show False from r).elim
  |some _=>exact r
theorem KV.val{kvs:List (κ×V)}{vs:List (κ×Value)}(r:KV kvs vs)(k:κ):cy (aH kvs k) (valueAt vs k):=by
 unfold KV at r
 induction r with
 |nil=>exact True.intro
 |@cons p q ps qs h t d=>
  obtain⟨c,f⟩:=h;by_cases e:p.1=k
  .have a:q.1=k:=c.symm.trans e;have b:valueAt (q::qs) k=some q.2:=by simp[valueAt,Qh,a]
   rwa[fJ e,b]
  .have a:¬ q.1=k:=λz=>e (c.trans z);have b:valueAt (q::qs) k=valueAt qs k:=by simp[valueAt,Qh,a]
   rwa[fK e,b]
theorem KV.any{kvs:List (κ×V)}{vs:List (κ×Value)}(r:KV kvs vs)(k:κ):(kvs.any λa=>decide (a.1=k))=vs.any λa=>decide (a.1=k):=by
 unfold KV at r
 induction r with
 |nil=>rfl
 |cons h t b=>rw[List.any_cons,List.any_cons,b,h.1]
theorem KV.repl{kvs:List (κ×V)}{vs:List (κ×Value)}(r:KV kvs vs)(k:κ)(d:aE y u):
 KV (kvs.map λa=>if a.1=k then(a.1,y)else a) (vs.map λa=>if a.1=k then(a.1,u)else a):=by
 unfold KV at r ⊢
 induction r with
 |nil=>exact .nil
 |@cons p q ps qs h t c=>
  rw[qZ,qZ];refine .cons ?_ c;obtain⟨b,f⟩:=h;by_cases e:p.1=k
  .rw[Qa e,Qa (b.symm.trans e)];exact⟨b,d⟩
  .rw[Q9 e,Q9 (λz=>e (b.trans z))];exact⟨b,f⟩
theorem KV.put{kvs:List (κ×V)}{vs:List (κ×Value)}(r:KV kvs vs)(k:κ)(a:aE y u):KV (aX kvs k y) (stored vs k u):=by
 unfold aX stored;rw[r.any k];by_cases e:(vs.any λb=>decide (b.1=k))=true
 .rw[Qa e,Qa e];exact r.repl k a
 .rw[Q9 e,Q9 e];exact Paired.snoc r ⟨U,a⟩
theorem KV.length{kvs:List (κ×V)}{vs:List (κ×Value)}(r:KV kvs vs):kvs.length=vs.length:=Paired.length r
end
theorem gR{k:Key}(r:aE (kV k) u):(d7 P w).is k u=true:=by
 cases k with
 |inl i=>obtain⟨t,e⟩:=(show ∃t,u=Value.int i t from r);subst e;exact EB P w i t
 |inr x=>obtain⟨t,e⟩:=(show ∃t,u=Value.str x t from r);subst e;exact EA P w x t
theorem yv{P:Program}{w:World}:∀{ks:List Key}{us:LL},aB (ks.map kV) us->ItemsAre (d7 P w) ks us
 |[],_,r=>by rw[List.map_nil]at r;cases r;exact .nil
 |k::ks,_,r=>by
  rw[qZ]at r
  cases r with
  |cons h t=>exact .cons (gR h) (yv t)
abbrev KT(H:Hp):List (List Key×V)->List (List Key×Addr×Value)->Prop:=Paired λp q=>p.1=q.1/\H q.2.1=some (.tup (p.1.map kV))/\aE p.2 q.2.2
theorem KT.val{kvs:List (List Key×V)}{xs:List (List Key×Addr×Value)}(r:KT H kvs xs)(k:List Key):cy (aH kvs k) ((atKey xs k).map (·.2)):=by
 induction r with
 |nil=>exact True.intro
 |@cons p q ps qs h t d=>
  obtain⟨c,_,f⟩:=h;by_cases e:p.1=k
  .have a:q.1=k:=c.symm.trans e;have b:atKey (q::qs) k=some q.2:=by simp[atKey,Qh,a]
   rwa[fJ e,b]
  .have a:¬ q.1=k:=λz=>e (c.trans z);have b:atKey (q::qs) k=atKey qs k:=by simp[atKey,Qh,a]
   rwa[fK e,b]
theorem KT.repl{kvs:List (List Key×V)}{xs:List (List Key×Addr×Value)}(r:KT H kvs xs)(k:List Key)(f:aE y u):
 KT H (kvs.map λb=>if b.1=k then(b.1,y)else b) (xs.map (putAt k u)):=by
 induction r with
 |nil=>exact .nil
 |@cons p q ps qs h t d=>
  rw[qZ,qZ];refine .cons ?_ d;obtain⟨a,c,g⟩:=h;unfold putAt;by_cases e:p.1=k
  .rw[Qa e,Qa (a.symm.trans e)];exact⟨a,c,f⟩
  .rw[Q9 e,Q9 (λz=>e (a.trans z))];exact⟨a,c,g⟩
theorem KT.put{kvs:List (List Key×V)}{xs:List (List Key×Addr×Value)}(r:KT H kvs xs)(k:List Key)(hb:H b=some (.tup (k.map kV)))(a:aE y u):
 KT H (aX kvs k y) (storedH xs k b u):=by
 have e:(kvs.any λc=>decide (c.1=k))=(atKey xs k).isSome:=by
  rw[j8,(r.val k).isSome_eq,Option.isSome_map]
 unfold aX storedH;rw[e];by_cases q:(atKey xs k).isSome=true
 .rw[Qa q,Qa q];exact r.repl k a
 .rw[Q9 q,Q9 q];exact Paired.snoc r ⟨U,hb,a⟩
theorem KT.keeps{kvs:List (List Key×V)}{xs:List (List Key×Addr×Value)}(r:KT H kvs xs)(ht:∀b ys,H b=some (.tup ys)->H' b=some (.tup ys)):KT H' kvs xs:=
 Paired.mapP r λ_ _ z=>⟨z.1,ht _ _ z.2.1,z.2.2⟩
theorem wL{u:HO}(ok:HOk P w H h)(e:Rd H a u):bJ P w H h a u:=e.ok ok
theorem jH(ok:HOk P w H h)(e:Rd H a (.dK kvs)):kvs.length<=sizeLine/\(a == sysModules)=false/\∃vs,KV kvs vs/\h.DictOf (d7 P w) a vs:=
 show bJ P w H h a (.dK kvs)from wL ok e
theorem jI(ok:HOk P w H h)(e:H a=some (.dK kvs)):kvs.length<=sizeLine/\(a == sysModules)=false/\∃vs,KV kvs vs/\h.DictOf (d7 P w) a vs:=jH ok (.inl e)
theorem mE{b:List Key}(ok:HOk P w H h)(e:H a=some (.tup (b.map kV))):(tupleKind (d7 P w)).is h b a:=by
 obtain⟨_,c,r,o,d,f,n,g⟩:=(show bJ P w H h a (.tup (b.map kV))from ok a _ e);exact⟨o,c.toArray,n,d,f,g,by simpa using yv r⟩
theorem kB{kvs:List (List Key×V)}(ok:HOk P w H h)(e:Rd H a (.dT kvs)):kvs.length<=sizeLine/\(a == sysModules)=false /\
 ∃xs,KT H kvs xs/\h.DictOfH (tupleKind (d7 P w)) a xs:=by
 obtain⟨z,y,xs,r,o,es,ep,d,j,k,i,f⟩:=(show bJ P w H h a (.dT kvs)from wL ok e);refine⟨z,y,xs,r,o,es,ep,d,j,k,i,λx b=>?_,f⟩
 have all:∀{l:List (List Key×V)}{m:List (List Key×Addr×Value)},KT H l m->∀x∈m,(tupleKind (d7 P w)).is h x.1 x.2.1:=by
  intro l m q
  induction q with
  |nil=>intro x b;exact nomatch b
  |@cons p q ps qs c t g=>
   intro x b;rcases qD.mp b with e|b
   .subst e;exact mE ok (by rw[<- c.1];exact c.2.1)
   .exact g x b
 exact all r x b
theorem G8{kvs:List (List Key×V)}(ok:HOk P w H h)(e:H a=some (.dT kvs)):kvs.length<=sizeLine/\(a == sysModules)=false /\
 ∃xs,KT H kvs xs/\h.DictOfH (tupleKind (d7 P w)) a xs:=kB ok (.inl e)
def bT(H:Hp)(a:Addr)(y:V)(r:LC):Prop:=
 (∃kvs k,Rd H a (.dK kvs)/\y=kV k/\r=aH kvs k)\/∃kvs k b,Rd H a (.dT kvs)/\y=.ref b/\H b=some (.tup (k.map kV))/\r=aH kvs k
def dR(H:Hp)(a:Addr)(y v:V)(H':Hp):Prop:=
 (∃kvs k,H a=some (.dK kvs)/\y=kV k/\kvs.length<sizeLine/\H'=upd H a (.dK (aX kvs k v))) \/
 ∃kvs k b,H a=some (.dT kvs)/\y=.ref b/\H b=some (.tup (k.map kV))/\kvs.length<sizeLine/\H'=upd H a (.dT (aX kvs k v))
theorem bT.k{k:Key}(e:H a=some (.dK kvs)):bT H a (kV k) (aH kvs k):=.inl ⟨kvs,k,.inl e,U,U⟩
theorem dR.k{k:Key}{v:V}(e:H a=some (.dK kvs))(hl:kvs.length<sizeLine):dR H a (kV k) v (upd H a (.dK (aX kvs k v))):=.inl ⟨kvs,k,e,U,hl,U⟩
section
variable {v:V}{r:Value}{o:LC}
theorem Inv.big(I:Inv X pins Y H s):sysModules<s.heap.objs.size:=by
 have h:mainGlobals<s.heap.objs.size:=(I.mod.glob.keeps I.bk).lt;exact Nat.lt_trans Yk h
theorem Gm(t:A.units+1<cLine)(I:Inv X pins Y H s)(g:bT H a y (some v))(m:aE y u)(h:∀c s',Inv X pins Y H s'->aE v c->Q c s'):
 wpAny (model X.prog X.w) A (getItem (.ref a) u) Q E s:=by
 rcases g with⟨kvs,k,e,i,l⟩|⟨kvs,k,b,e,i,q,l⟩
 .subst i;obtain⟨z,hd,vs,f,j⟩:=jH I.hok e;obtain⟨c,hw,d⟩:=cy.some_of (v:=v) (o:=valueAt vs k) (by rw[l];exact f.val k);exact wpAny_getItem_of (gR m) j.mapOf hw (h c _ (I.tok _) d)
 .subst i;cases(show u=Value.ref b from m);obtain⟨z,hd,xs,f,j⟩:=kB I.hok e;obtain⟨c,hw,d⟩:=cy.some_of (v:=v) (o:=(atKey xs k).map (·.2)) (by rw[l];exact f.val k);obtain⟨p,r,n⟩:=qX.mp hw;refine wpAny_getItem_heap (tupleKind_room_in1 t) (mE I.hok q) j r ?_;rw[n];exact h c _ (I.tok _) d
theorem mS{ob:HO}(I:Inv X pins Y H s)(d:Mut (H a))(hs:Heap.SameBut a s.heap h')(c:∃q,h'.get? a=some q)(new:bJ X.prog X.w (upd H a ob) h' a ob):
 Inv X pins Y (upd H a ob) { s with heap:=h',toks:=t' }:=
 I.write (x:=a) (e:=a) d (.inl U) (λb q hb z=>(hs.2 b hb).trans z) c new
theorem tF{vs:List (Key×Value)}(z:kvs.length<=sizeLine)(hd:(a == sysModules)=false)(b:KV kvs vs)(c:h'.DictOf (d7 P w) a vs):
 bJ P w H' h' a (.dK kvs):=⟨z,hd,vs,b,c⟩
theorem Gj{Q:Unit->Shared->Prop}(K:A.units+1<cLine)(I:Inv X pins Y H s)(g:dR H a y v H')(x:aE y u)(B:aE v r)(h:∀s',Inv X pins Y H' s'->Q () s'):
 wpAny (model X.prog X.w) A (setItem (.ref a) u r) Q E s:=by
 rcases g with⟨kvs,k,e,j,l,o⟩|⟨kvs,k,b,e,j,t,l,o⟩
 .subst j o;obtain⟨z,hd,vs,d,m⟩:=jI I.hok e;have n:vs.length<=sizeLine:=by rwa[<- d.length]
  have hl:(aX kvs k v).length<=sizeLine:=by have:=dF kvs k v;omega
  refine wpAny_setItem_pairs (hsz:=n) (gR x) m λh' f hs=>h _ ?_;have C:∃q,h'.get? a=some q:=let ⟨q,_,_,i,_⟩:=f;⟨q,i⟩;exact mS I (by rw[e];exact True.intro) hs C (tF hl hd (d.put k B) f)
 .subst j o;cases(show u=Value.ref b from x);obtain⟨z,hd,xs,d,m⟩:=G8 I.hok e;have n:xs.length<=sizeLine:=by rwa[<- Paired.length d]
  have hl:(aX kvs k v).length<=sizeLine:=by have:=dF kvs k v;omega
  refine wpAny_setItem_heap (hsz:=n) (tupleKind_room_in1 K) (mE I.hok t) m λh' f hs=>h _ ?_;obtain⟨q,es,ep,i,G,J,F,_,D⟩:=f;refine mS I (by rw[e];exact True.intro) hs ⟨q,i⟩ ⟨hl,hd,_,(d.put k t B).keeps λc ys p=>?_,q,es,ep,i,G,J,F,D⟩;rwa[af (y1 p e (λz=>nomatch z))]
end
section
variable {k:Key}
theorem Gk(I:Inv X pins Y H s)(e:Rd H a (.dK kvs))(h:∀t s',Inv X pins Y H s'->Q (.int kvs.length t) s'):wpAny (model X.prog X.w) A (call (.builtin "len") [.ref a]) Q E s:=by
 obtain⟨z,hd,vs,b,c⟩:=jH I.hok e;refine call_len_dict hd c (by rw[<- b.length];rw[sizeLine_eq]at z;omega) ?_;rw[<- b.length];exact h _ _ (I.tok _)
end
def zG(i:Expr):Prop:=∀ov F,subscripted i false ov F=operate [ov,F] (getItem ov F)
theorem AH{a slice:Expr}{T k:String}
 (hl:typeLookup (.type T) "__getitem__"=pure (some (.builtin k))) (hs:zG slice)
 (h:wpAny (model prog w) A (eval a env) (λo d=>wpAny (model prog w) A (eval slice env) (λi b=>b.TypeIs o T/\wpAny (model prog w) A (getItem o i) Q E b) E d) E s):
 wpAny (model prog w) A (eval (.Subscript a slice pos) env) Q E s:=by
 refine Subscript_ (wpAny_mono h (λo d g=>wpAny_mono g (λi b c=>?_) λ_ _ x=>x) λ_ _ x=>x);obtain⟨j,c⟩:=c;unfold subscriptTail;refine qb ?_;rw[getitemInPython_of_ne j.not_modules];refine qb (wpAny_specialOf j hl ?_)
 have fin:wpAny (model prog w) A (subscripted slice false o i) (λr e=>wpAny (model prog w) A (letTemporaryGo a o r >>= λ_=>pure r) Q E e) E b:=by
  rw[hs o i];exact wpAny_operating (wpAny_mono c (λr e f=>qb (wpAny_letTemporaryGo (qk f))) λ_ _ x=>x)
 first
  |exact qk (qb fin)
  |exact qb (qk (qb fin))
  |exact qb fin
theorem Gb{o:LC}(I:Inv X pins Y H s)(g:bT H a y o):s.TypeIs (.ref a) "dict":=by
 rcases g with⟨kvs,k,e,_,_⟩|⟨kvs,k,b,e,_,_,_⟩
 .obtain⟨_,_,vs,_,c⟩:=jH I.hok e;exact c.typeIs
 .obtain⟨_,_,xs,_,c⟩:=kB I.hok e;exact c.typeIs
def Az(td ty:TE):TE:=λY H Q=>td Y H λx H1=>ty Y H1 λy H2=>∃a v,x=.ref a/\bT H2 a y (some v)/\Q v H2
def BN(td ty tv:TE):TS:=λD Y H=>tv Y H λv H1=>td Y H1 λx H2=>ty Y H2 λy F=>∃a H4,x=.ref a/\dR F a y v H4/\D.nx Y H4
section
variable {o i value:Expr}{tpos:Pos}{td ty tv:TE}
theorem iL(w:X.A.units+1<cLine)(f:PE X o td)(t:PE X i ty)(hs:zG i):PE X (.Subscript o i pos) (Az td ty):=by
 intro b s e H Q I h;refine AH PySem.F.slot_dict_getitem.lookup hs (thn (f b s e H _ I h) λu q ⟨x,j,z,k,n⟩=>thn (t b q e j _ z n) λ_ _ ⟨y,l,d,m,a,v,ex,g,r⟩=>?_);subst ex;obtain rfl:u=Value.ref a:=k;exact⟨Gb d g,Gm w d g m λ_ _ p c=>⟨v,l,p,c,r⟩⟩
theorem eY(B:X.A.units+1<cLine)(e:PE X o td)(z:PE X i ty)(d:PE X value tv)(hs:swapsWith value (some (.Subscript o i pos')) pos.line X.env=pure false):
 PS X (.Assign [.Subscript o i pos'] value pos) (BN td ty tv):=by
 intro b s c H D I h;refine wpAny_Assign_Subscript (thn (d b s c H _ I h) λr t ⟨v,f,F,J,n⟩=>thn (e b t c f _ F n) λu C ⟨x,k,E,l,w⟩=>thn (z b C c k _ E w) λ_ _ ⟨y,_,q,m,a,j,ex,g,p⟩=>?_) hs;subst ex;obtain rfl:u=Value.ref a:=l;exact Gj B q g m J λ_ G=>⟨c,j,G,p⟩
end
theorem yO(h:Heap)(hb:sysModules<h.objs.size):bJ P w H (h.push { cls:=.type "dict",data:=.dict #[] }) h.objs.size (.dK []):=
 ⟨qC _,beq_eq_false_iff_ne.mpr (Ne.symm (qO hb)),[],.nil,Heap.DictOf.new h⟩
def Ax:TE:=λ_ H Q=>∀p,H p=none->Q (.ref p) (upd H p (.dK []))
theorem fu:PE X (.Dict [] [] pos) Ax:=λ_ s _ H Q I h=>
 wpAny_Dict_empty ⟨.ref s.heap.objs.size,_,I.laid (a:=s.heap.objs.size) (o:=.dK []) (t':=s.toks) (λ_ _ q=>qf _ q) (qo _) (yO s.heap I.big),U,h _ (I.hok.fresh (qo _))⟩
structure M2(X:Cx)(o:Expr)(m:Str)(apos:Pos)(e f:Expr)(cpos:Pos):Prop where
 base:attributeBase o m X.env (eval o X.env)=eval o X.env
 few:((backTo cpos (starEach [e,f] X.env)).all (λx=>!x.1) && (backToKw cpos (keywordEach [] X.env)).all (λx=>x.1.isSome)
  && decide (([e,f]:LR).length+([]:List Keyword).length+(if([]:List Keyword).isEmpty then 0 else 1)<30))=true
 line:(apos.endLine == cpos.line)=true
 trees:backTo cpos (starEach [e,f] X.env)=[(false,eval e X.env),(false,eval f X.env)]
def IsD(H:Hp)(a:Addr):Prop:=(∃kvs,Rd H a (.dK kvs))\/∃kvs,Rd H a (.dT kvs)
theorem sV(I:Inv X pins Y H s)(d:IsD H a):
 s.TypeIs (.ref a) "dict"/\(∀b,Value.ref a=.ref b->∃ob,s.heap.get? b=some ob/\ob.dict=none)/\(a == sysModules)=false:=by
 rcases d with⟨kvs,e⟩|⟨kvs,e⟩
 .obtain⟨_,hd,vs,_,c⟩:=jH I.hok e;refine⟨c.typeIs,λb q=>?_,hd⟩;cases q;obtain⟨ob,_,_,f,g,_⟩:=c;exact⟨ob,f,g.2.1⟩
 .obtain⟨_,hd,xs,_,c⟩:=kB I.hok e;refine⟨c.typeIs,λb q=>?_,hd⟩;cases q;obtain⟨ob,_,_,f,g,_⟩:=c;exact⟨ob,f,g.2.1⟩
section
variable {d:V}{r:Value}{o:LC}
theorem Gn(q:A.units+1<cLine)(I:Inv X pins Y H s)(g:bT H a y o)(m:aE y u)(j:aE d r)(h:∀n s',Inv X pins Y H s'->aE (o.getD d) n->Q n s'):
 wpAny (model X.prog X.w) A (call (.builtin "dict.get") [.ref a,u,r]) Q E s:=by
 rcases g with⟨kvs,k,e,i,l⟩|⟨kvs,k,b,e,i,p,l⟩
 .subst i;obtain⟨z,hd,vs,f,c⟩:=jH I.hok e;refine call_meetsIn PySem.F.slot_dict_get c.typeIs PySem.F.entry_dict_get (PySem.F.args_dict_get_3 _ _ _) (meets_dict_get_default (d7 X.prog X.w) a (gR m) hd r) ⟨_,c.mapOf,h _ _ (I.tok _) ?_⟩;rw[l];exact(f.val k).getD j
 .subst i;cases(show u=Value.ref b from m);obtain⟨z,hd,xs,f,c⟩:=kB I.hok e;refine call_meetsIn PySem.F.slot_dict_get c.typeIs PySem.F.entry_dict_get (PySem.F.args_dict_get_3 _ _ _) (meetsH_dict_get_default (tupleKind (d7 X.prog X.w)) a b hd r) ⟨tupleKind_room_in1 q,k,xs,mE I.hok p,c,h _ _ (I.tok _) ?_⟩;rw[l];exact(f.val k).getD j
end
def Ay(td ty tx:TE):TE:=λY H Q=>td Y H λx H1=>∃a,x=.ref a/\IsD H1 a/\ty Y H1 λy H2=>tx Y H2 λz F=>∃o,bT F a y o/\Q (o.getD z) F
section
variable {o f:Expr}{td ty tx:TE}
theorem dN(J:X.A.units+1<cLine)(l:PE X o td)(p:PE X e ty)(G:PE X f tx)(m:M2 X o "get" apos e f cpos):PE X (.Call (.Attribute o "get" apos) [e,f] [] cpos) (Ay td ty tx):=by
 intro b s c H Q I h;refine wpAny_Call_method m.base m.few m.line PySem.F.plainAttrs_dict PySem.F.slot_dict_get PySem.F.type_dict_get (thn (l b s c H _ I h) λu D ⟨x,n,j,r,a,ex,d,w⟩=>?_);subst ex;obtain rfl:u=Value.ref a:=r;obtain⟨k,q,_⟩:=sV j d;exists k,q;rw[m.trees]
 refine Calls.callWith_builtin U (Calls.evalArgs_plain (Calls.spliced_cons (thn (p b D c n _ j w) λ_ L ⟨y,t,N,v,E⟩=>
  Calls.spliced_cons (thn (G b L c t _ N E) λ_ _ ⟨z,M,C,K,ov,g,B⟩=>Calls.spliced_nil ?_))))
 exact Gn J C g v K λ_ _ O i=>⟨_,M,O,i,B⟩
end
end L2
namespace Att
open PySem PySem.W PySem.Calls PyProof.Rows
theorem Fw{P:Params}:∀(ns:LI)(vs:LL),WellAll P h vs (ns.map WData.int)->IntsAre vs ns:=by
 intro ns
 induction ns with
 |nil=>
  intro vs w;rw[List.map_nil]at w;cases w;exact .nil
 |cons n ns c=>
  intro vs w;rw[qZ]at w
  cases w with
  |cons a b=>
   cases a;exact .cons _ _ (c _ b)
theorem Bv{l:OpenLaw}(hn:l.most=some n){P:Params}{b:List WData}{c:LL}
 (e:l.row.toRowW.claim.pre b=true) (k:WellAll P h c b):
 ∃a vs ns,c=[Value.ref a]/\b=[WData.list (ns.map WData.int)]/\h.get? a=some { cls:=.type "list",data:=.seq vs.toArray }/\IntsAre vs ns/\ns.length<=n:=by
 have m:WShape.hasAll [] b [.list .int]=true:=(pre_splitW e).1;have hc:l.pre.holds [] { args:=b }=true:=(pre_splitW e).2;obtain⟨d,r,rfl,o,v⟩:=hasAllW_cons m;obtain rfl:=hasAllW_nil v;obtain⟨xs,rfl,w⟩:=hasW_list o;obtain⟨ns,rfl⟩:=items_int w
 have j:ns.length<=n:=by
  unfold OpenLaw.pre at hc
  have g:(WTm.not (.lt (.lit (.int (n:Int))) (.len (.arg 0)))).holds [] { args:=[.list (ns.map .int)] }=true:=by
   have g:=(holds_andW hc).1;rw[hn]at g;exact g
  have f:=condW_of g (w_not (w_lt w_lit (w_len_list (w_arg U))));rw[qc]at f;refine Nat.le_of_not_lt λq=>?_;have s:(n:Int)<((ns.length:Nat):Int):=Yo
  first
   |(rw[Qb s]at f;exact Qd f Yk)
   |(simp at f;omega)
 cases k with
 |cons p t=>
  cases t
  cases p with
  |list u i=>exact⟨_,_,ns,U,U,u,Fw ns _ i,j⟩
theorem CO(l:OpenLaw)(a:List WData):l.row.toRowW.claim.post a (.bool true) a=true:=
 postW_of (r:=l.row.toRowW) (X:=(true == true))
  (show WShape.has [] (.bool true) .bool=true by first|rfl|decide|simp[WShape.has,WShape.arms,WShape.armsAll])
  (show(WTm.eq .res (.lit (.bool true))).value [] { args:=a,res:=some (.bool true),after:=a }=some (.bool (true == true))from w_eq_bool (w_res U) w_lit) U
section
variable {K:Frag}
end
end Att
namespace L2
open PySem PySem.Spec PyProof.Rows
theorem uk:∀{vs:LL}{ns:LI},IntsAre vs ns->aB (ns.map V.int) vs
 |_,_,.nil=>.nil
 |_,_,.cons n t h=>.cons ⟨t,U⟩ (uk h)
def n9(H:Hp):Prop:=∀b,H b=none\/∃o xs,H b=some (.frz o (.lst xs))
theorem Fa{C:Str->LO}{CX:CXT}{k:Nat}{y:Addr}{c:Shared}{vs:LL}{ns:LI}
 (I:K.In c.heap) (p:c.heap.Ns mainGlobals mg) (hb:c.heap.Ns builtinsNs C) (R:∀x:Str,x≠"__name__"->C x=bootBuiltins x) (A:c.heap.NoLimit) (hg:c.gens=#[])
 (ha:c.heap.get? a=some { cls:=.type "list",data:=.seq vs.toArray }) (M:IntsAre vs ns) (hl:ns.length<=sizeLine) (hr:cw k callerA)
 (F:∀base:Heap,K.In base->base.Ns mainGlobals mg->aK P w K mg base CX k y fd [x] sp) (l:∀(s:Shared)(u:Value),BindsTo s fd ⟨[u],[]⟩ [(x,u)])
 (L:∀H:Hp,n9 H->SqL K H a (ns.map V.int)->sp [.ref a] H (λv _=>v=.bl true) λ_ _ _=>False)
 (N:∀H e s',CX [] H c (λ_ _ _=>False) e s'->False):
 codeAny (model P w) callerA (.call (.ref y) ⟨[.ref a],[]⟩) (λr s'=>r=.ok (.ret (.bool true))/\OldK c.heap s'.heap/\s'.os=c.os/\AllBare s'.gens) c:=by
 have S:=uk M;have D:=M.length
 have j:∀H:Hp,n9 H->SqL K H a (ns.map V.int)->HOk P w H c.heap->(∀b,H b≠none->b=a)->(H a≠none->K.lookup a=none)->
  codeAny (model P w) callerA (.call (.ref y) ⟨[.ref a],[]⟩) (λr s'=>r=.ok (.ret (.bool true))/\OldK c.heap s'.heap/\s'.os=c.os/\AllBare s'.gens) c:=by
  intro H J W hok O hK;have f:∀{b:Addr}{o:Obj},c.heap.get? b=some o->H b=none->(gU c.heap H).get? b=some o:=λe n=>FE e n
  have Q:∀{b:Addr}{o:Obj}{es:Array DictEntry}{ep:Nat},c.heap.get? b=some o->o.data=.dict es ep->H b=none:=λ{b o es ep} e d=>by
   cases q:H b with
   |none=>rfl
   |some u=>
    have B:b=a:=O b (by rw[q];simp);subst B;rw[ha]at e;cases e;have d':Data.seq vs.toArray _=Data.dict es ep:=d;cases d'
  have g:∀{b:Addr}{m:Str->LO},c.heap.Ns b m->(gU c.heap H).Ns b m:=λ{b m}⟨o,es,ep,e,d,r⟩=>⟨o,es,ep,f e (Q e d),d,r⟩
  have t:K.In (gU c.heap H):=λb o e=>f (I b o e) (by
   cases q:H b with
   |none=>rfl
   |some u=>
    have B:b=a:=O b (by rw[q];simp);subst B
    rw[hK (by rw[q];simp)]at e;cases e)
  have hM:Mod K mg (gU c.heap H):=⟨t,g p,⟨C,g hb,R⟩,let ⟨mc,T,Z⟩:=A;⟨mc,g T,Z⟩⟩;have X:j6 P w K mg (gU c.heap H) callerA [] c H:=⟨U,hM,λb o e=>Em e,Nat.le_of_eq (FD _ _),trivial,λb hb=>Qd (show b∈([]:LK)from hb) (by simp),hok,.of_eq hg⟩;refine codeAny_mono ((F _ t (g p)).run callerA [] c H ⟨[.ref a],[]⟩ [.ref a] [.ref a] _ _ hr X (l c (.ref a)) (.cons U .nil) (L H J W)) λr s' h=>?_
  cases r with
  |error e=>exact(N H e s' h).elim
  |ok fl=>
   cases fl with
   |next=>exact False.elim h
   |brk=>exact False.elim h
   |cont=>exact False.elim h
   |ret u=>
    obtain⟨v,H',os,bare,un,E,r',q⟩:=h;have q':v=.bl true:=q;subst q';obtain rfl:u=Value.bool true:=r';refine⟨U,OldK.of_keep λb o e=>?_,os,bare⟩
    cases q:H b with
    |none=>exact un.keep b o e q (by intro z;exact Qd (show b∈([]:LK)from z) (by simp)) (by simp)
    |some u=>
     rcases J b with z|⟨ob,xs,z⟩
     .rw[q]at z;cases z
     .have z2:=un.frzs b ob _ z;obtain⟨G,_⟩:=hok b _ z;obtain⟨X0,_⟩:=E b _ z2;rw[e]at G;cases G;exact X0
 cases hk:K.lookup a with
 |some o=>
  have e:=I a o hk;rw[ha]at e;cases e;refine j (λ_=>none) (λ_=>.inl U) (.inr ⟨_,vs.toArray,_,hk,U,U,U,by rwa[qK,D],by simpa using S⟩) (λb u z=>by have i:(none:Option HO)=some u:=z;cases i) (λb z=>Qd U z) λz=>Qd U z
 |none=>
  refine j (λb=>if b=a then some (.frz { cls:=.type "list",data:=.seq vs.toArray } (.lst (ns.map V.int)))else none) (λb=>?_) (.inl (.inr ⟨{ cls:=.type "list",data:=.seq vs.toArray },Qa U⟩)) (λb u z=>?_) (λb z=>?_) λ_=>hk
  .by_cases hb:b=a
   .exact .inr ⟨_,_,Qa hb⟩
   .exact .inl (Q9 hb)
  .by_cases hb:b=a
   .have i:=(Qa hb).symm.trans z;cases i;subst hb;exact⟨ha,by rwa[qc],vs,_,S,ha⟩
   .have i:=(Q9 hb).symm.trans z;cases i
  .by_cases hb:b=a
   .exact hb
   .exact Qd (Q9 hb) z
abbrev CX0:CXT:=λ_ _ _ _ _ _=>False
abbrev E0:XK:=λ_ _ _=>False
theorem fS:iu CX0 X E0:=λ_ _ _ _ _ _ _ h=>h.elim
structure Fun(K:W.Frag)(x qual:Str)(st:Stmt)(f:Addr)(fd:FuncData):Prop where
 ex:∃(oc:Value)(od:Option Addr)(kV doc pm:Value)(an:Option Addr)(cdv ct:Value)(osl:Array LO),
  fd=PySem.W.fnOf x qual (ip st) (gW st) (aD st) .none kV doc pm an cdv ct/\K.lookup f=some ⟨oc,od,.func fd,osl⟩/\PySem.W.codeIn K cdv qual=true
 kp:PySem.W.keepIn K (.ref f)=true
theorem Fun.ok{st:Stmt}{k:Nat}(F:Fun K x qual st f fd)(S:aP N ps (aD st))
 (a:∀(cdv:Value)(A:Around)(outer:List Env)(s:Shared)(H:Hp)(vs:LV)(Q:VK)(E:XK),cw k (A.deeper (envOfC qual (aD st) s.heap.objs.size f cdv))->sp vs H Q E->
  ∃t,PSs (iU CX0 P w K mg base N qual (aD st) f cdv A outer s H E).nox (gW st) t/\t { nx:=λ_ H'=>Q .non H',rt:=Q } (start N vs) H)(len:∀vs H Q E,sp vs H Q E->vs.length=ps.length:=by walk_at "l"):aK P w K mg base CX0 (k+1) f fd ps sp:=by
 obtain⟨_,od,kV,_,_,_,cdv,ct,_,rfl,d,c⟩:=F.ex;refine FO d c S len λA outer s H vs Q E hr b=>?_;obtain⟨t,h,q⟩:=a cdv A outer s H vs Q E hr b;exact⟨t,h.nox,q⟩
theorem Fun.binds{st:Stmt}(F:Fun K x qual st f fd)
 (h:∀(kV a pm:Value)(b:Option Addr)(cdv ct:Value)(us:LL),us.length=ps.length->bindArgs (PySem.W.fnOf x qual (ip st) (gW st) (aD st) .none kV a pm b cdv ct) ⟨us,[]⟩=pure (ps.zip us)):dH K fd ps []:=by
 obtain⟨_,od,kV,a,pm,b,cdv,ct,_,rfl,_,_⟩:=F.ex;exact .all (h kV a pm b cdv ct)
theorem FM{st:Stmt}{g:Value}{od e:Option Addr}{kV b d a ct:Value}(l:K.lookup f=some ⟨g,od,.func (PySem.W.fnOf x qual (ip st) (gW st) (aD st) .none kV b d e a ct),osl⟩)
 (c:PySem.W.codeIn K a qual=true) (k:PySem.W.keepIn K (.ref f)=true):Fun K x qual st f (PySem.W.fnOf x qual (ip st) (gW st) (aD st) .none kV b d e a ct):=⟨⟨g,od,kV,b,d,e,a,ct,osl,U,l,c⟩,k⟩
theorem jE{A:Prop}(h:B):if false=true then A else B:=by
 rwa[Q9 qt]
theorem sU{A:Prop}(h:A):if true=true then A else B:=by
 rwa[Qa U]
theorem dh{c A:Prop}[Decidable c](a:c->A)(b:¬ c->B):if c then A else B:=by
 by_cases h:c
 .rw[Qa h];exact a h
 .rw[Q9 h];exact b h
def a9(H H':Hp):Prop:=∀b o,H b=some o->H' b=some o
theorem a9.refl(H:Hp):a9 H H:=λ_ _ h=>h
theorem a9.trans{d e:Hp}(a:a9 H d)(b:a9 d e):a9 H e:=λc o h=>b c o (a c o h)
theorem a9.free(e:a9 H H'){l:Addr}(h:H' l=Option.none):H l=Option.none:=by
 cases q:H l with
 |none=>rfl
 |some o=>
  rw[e l o q]at h;cases h
theorem a9.seq{xs:LV}(e:a9 H H')(h:SqL K H a xs):SqL K H' a xs:=by
 rcases h with(h|⟨o,h⟩)|h
 .exact .inl (.inl (e _ _ h))
 .exact .inl (.inr ⟨o,e _ _ h⟩)
 .exact .inr h
theorem GI:cL X (.builtin "len") (λxs H Q=>∃a kvs,xs=[V.ref a]/\H a=some (.dK kvs)/\Q (.int kvs.length) H):=by
 intro _ s _ H xs us Q I r h;obtain⟨a,kvs,rfl,ha,q⟩:=h;obtain⟨u,rfl,c⟩:=fX r;cases c;exact Gk I (.inl ha) λt _ b=>⟨.int kvs.length,H,b,⟨t,U⟩,q⟩
section
variable [DecidableEq κ]
end
noncomputable def eK(cells:List (Str×Addr)):List (Str×NameKind)->List (Str×Addr)->List (Str×Addr)
 |[],acc=>acc
 |(n,k)::r,acc=>eK cells r (if k == .free then(match cells.lookup n with|some c=>(n,c)::acc|none=>acc)else acc)
theorem GC(h:∀y∈scope.names,y.2=.free->∃c,env.cells.lookup y.1=some c):closureFor scope env=pure (eK env.cells scope.names []):=by
 simp only[closureFor];generalize ([]:List (Str×Addr))=d
 revert h
 generalize scope.names=l;intro h
 induction l generalizing d with
 |nil=>simp[eK]
 |cons x r b=>
  obtain⟨n,k⟩:=x;rw[List.forIn_cons];have hr:∀y∈r,y.2=NameKind.free->∃c,env.cells.lookup y.1=some c:=λy f=>h y (qv _ f);by_cases hk:k=.free
  .subst hk;obtain⟨c,e⟩:=h (n,.free) qw U;have a:List.lookup n env.cells=some c:=e;have g:cellOf env n=pure c:=by unfold cellOf;rw[a]
   simp only[beq_self_eq_true,if_true,g,pure_bind,eK,a];exact b _ hr
  .have hb:(k == NameKind.free)=false:=by simpa using hk
   simp only[hb,Qs,if_false,pure_bind,eK];exact b _ hr
theorem yD(a:List (Str×Addr)):∀(l:List (Str×NameKind))(b:List (Str×Addr))(p:Str×Addr),p∈eK a l b->p∈b\/(p.1,NameKind.free)∈l/\a.lookup p.1=some p.2
 |[],_,_,h=>.inl h
 |(n,k)::r,b,p,h=>by
  have h':p∈eK a r (if k == .free then(match a.lookup n with|some c=>(n,c)::b|none=>b)else b):=h;rcases yD a r _ p h' with q|⟨d,f⟩
  .by_cases hk:k=.free
   .subst hk;simp only[beq_self_eq_true,if_true]at q
    cases e:a.lookup n with
    |none=>rw[e]at q;exact .inl q
    |some c=>
     rw[e]at q;rcases qD.mp q with rfl|q
     .exact .inr ⟨qw,e⟩
     .exact .inl q
   .have hb:(k == NameKind.free)=false:=by simpa using hk
    simp only[hb,Qs,if_false]at q;exact .inl q
  .exact .inr ⟨qv _ d,f⟩
theorem ya{f g:Type}[BEq f][LawfulBEq f]{x:f}:∀{l:List (f×g)}{c:g},(x,c)∈l->∃d,l.lookup x=some d
 |(a,b)::r,c,h=>by
  by_cases e:x=a
  .subst e;exact⟨b,by simp⟩
  .rcases qD.mp h with q|q
   .cases q;exact Qd U e
   .obtain⟨d,hd⟩:=ya q;exists d;have i:(x == a)=false:=by simpa using e
    simp only[List.lookup_cons,i];exact hd
theorem yE(a:List (Str×Addr))(x:Str)(c:Addr)(e:a.lookup x=some c):∀(l:List (Str×NameKind))(b:List (Str×Addr)),((x,NameKind.free)∈l\/(x,c)∈b)->(x,c)∈eK a l b
 |[],_,h=>h.elim (λq=>nomatch q) id
 |(n,k)::r,b,h=>by
  refine yE a x c e r _ ?_;rcases h with h|h
  .rcases qD.mp h with q|q
   .cases q;refine .inr ?_;rw[e];exact qw
   .exact .inl q
  .refine .inr ?_;by_cases hk:(k == NameKind.free)=true
   .rw[Qa hk]
    cases a.lookup n with
    |none=>exact h
    |some _=>exact qv _ h
   .rwa[Q9 hk]
theorem ig{names:List (Str×NameKind)}{c:Addr}(h:(eK cells names []).lookup x=some c):cells.lookup x=some c:=by
 have a:=Qq h;rcases yD cells names [] _ a with q|⟨_,q⟩
 .exact nomatch q
 .exact q
theorem yF{names:List (Str×NameKind)}{c:Addr}(a:(x,NameKind.free)∈names)(e:cells.lookup x=some c):(eK cells names []).lookup x=some c:=by
 obtain⟨d,hd⟩:=ya (yE cells x c e names [] (.inl a));have:=ig hd;rw[e]at this;rw[hd,this]
theorem wK{k:NameKind}(h:(relabel scope env).names.lookup x=some k):∃a,scope.names.lookup x=some a/\(a=k\/(a=.free/\k=.cell)):=by
 have go:∀(l:List (Str×NameKind)),(l.map λ(n,k)=>if(k == NameKind.free && env.scope.kind == .function && env.kindOf n == some .cell)then(n,NameKind.cell)else(n,k)).lookup x=some k->∃a,l.lookup x=some a/\(a=k\/(a=.free/\k=.cell)):=by
  intro l
  induction l with
  |nil=>intro h;simp at h
  |cons p r f=>
   obtain⟨n,c⟩:=p;intro h;simp only[qZ]at h;by_cases hx:x=n
   .subst hx;by_cases hc:(c == NameKind.free && env.scope.kind == .function && env.kindOf x == some .cell)=true
    .rw[Qa hc]at h;simp at h
     have:c=.free:=by
      simp only[Bool.and_eq_true,beq_iff_eq]at hc;exact hc.1.1
     exact⟨c,by simp,.inr ⟨this,h.symm⟩⟩
    .rw[Q9 hc]at h;simp at h;exact⟨c,by simp,.inl h⟩
   .have d:(x == n)=false:=by simpa using hx
    have:∀b:Bool,(if b=true then(n,NameKind.cell)else(n,c)).1=n:=λb=>by cases b<;>rfl
    rw[List.lookup_cons,this,d]at h;obtain⟨a,e,g⟩:=f h;exact⟨a,by rwa[List.lookup_cons,d],g⟩
 exact go scope.names h
theorem C9(h:scope.names.lookup x=some .free):(relabel scope env).names.lookup x=some .cell\/(relabel scope env).names.lookup x=some .free:=by
 have go:∀(l:List (Str×NameKind)),l.lookup x=some .free->(l.map λ(n,k)=>if(k == NameKind.free && env.scope.kind == .function && env.kindOf n == some .cell)then(n,NameKind.cell)else(n,k)).lookup x=some .cell\/(l.map λ(n,k)=>if(k == NameKind.free && env.scope.kind == .function && env.kindOf n == some .cell)then(n,NameKind.cell)else(n,k)).lookup x=some .free:=by
  intro l
  induction l with
  |nil=>intro h;simp at h
  |cons p r d=>
   obtain⟨n,c⟩:=p;intro h;simp only[qZ];by_cases hx:x=n
   .subst hx;simp at h;by_cases hc:(c == NameKind.free && env.scope.kind == .function && env.kindOf x == some .cell)=true
    .rw[Qa hc];simp
    .rw[Q9 hc];simp[h]
   .have a:(x == n)=false:=by simpa using hx
    have t:∀b:Bool,(if b=true then(n,NameKind.cell)else(n,c)).1=n:=λb=>by cases b<;>rfl
    rw[List.lookup_cons,a]at h;rw[List.lookup_cons,t,a];exact d h
 exact go scope.names h
section
variable {R:Result->Shared->Prop}
theorem Gz{p a f:Expr}{it g:Value}(I:Nat->Shared->Prop)
 (z:∀n s,I n s->wpAny (model prog w) A (pyNext it) (λr b=>match r with
  |none=>R (.ok .next) b
  |some v=>wpAny (model prog w) A (letOwnedTupleGo a it v) (λ_ e=>wpAny (model prog w) A (assign a env v) (λ_ i=>
   wpAny (model prog w) A (forIn ifs true λc r=>if r=true then do let ok <- isTrue c env (eval c env);pure (ForInStep.yield ok)else pure (ForInStep.yield r)) (λok d=>
    if ok=true then wpAny (model prog w) A (eval p env) (λx k=>
     wpAny (model prog w) A (call (.builtin "list.append") [g,x]) (λ_ o=>∃m,m<n/\I m o) (λ_ _=>False) k) (λ_ _=>False) d
    else ∃m,m<n/\I m d) (λ_ _=>False) i) (λ_ _=>False) e) (λ_ _=>False) b) (λ_ _=>False) s)
 (n:Nat) (h:I n s):
 codeAny (model prog w) A (.compLoop (.ListComp p [⟨a,f,ifs,0⟩] scope pos) 0 it g env) R s:=by
 refine codeAny_loop U I (λn s B=>?_) n h;show wpAny _ A ((compTurn (.ListComp p [⟨a,f,ifs,0⟩] scope pos) 0 it g env).onRaise (λx=>do noteFrame x env;theTreesLotGoes x)) _ _ s;refine wpAny_noted ?_;rw[compTurn_list];refine qb (wpAny_standAt (qb (wpAny_mono (z n s B) (λr b j=>?_) λ_ _ h'=>h'.elim)))
 cases r with
 |none=>exact qk j
 |some v=>
  refine qb (wpAny_mono j (λ_ e q=>?_) λ_ _ h'=>h'.elim);refine qb (wpAny_mono q (λ_ i t=>qb (wpAny_mono t (λok d l=>?_) λ_ _ h'=>h'.elim)) λ_ _ h'=>h'.elim)
  cases ok with
  |false=>exact qk ⟨U,l⟩
  |true=>
   exact qb (qb (wpAny_mono l (λx k y=>qb (wpAny_mono y (λ_ o u=>qk (qk ⟨U,u⟩)) λ_ _ h'=>h'.elim)) λ_ _ h'=>h'.elim))
end
structure bg(esc:Scope)(N:LS)(scope:Scope)(k:Nat)(Nc:LS)(js:LG):Prop where
 kind:scope.kind=.function
 cell:∀y∈scope.names,y.2≠.cell
 names:∀y∈scope.names,y.2=.local->scope.names.lookup y.1=some .local
 free:∀y∈scope.names,y.2=.free->esc.names.lookup y.1=some .cell\/esc.names.lookup y.1=some .free
 len:Nc.length=k+js.length
 out:∀p∈(Nc.drop k).zip js,N[p.2]?=some p.1/\scope.names.lookup p.1=some .free
noncomputable def iW(k:Nat)(js:LG)(Y:St):St:=List.replicate k none++js.map λj=>(Y[j]?).join
noncomputable def Cx.comp(X:Cx)(pins:List (Addr×Obj))(Nc:LS)(scope:Scope)(fp:LK)(s:Shared)(H:Hp)(C:Addr):Cx:=
 { X with N:=Nc,s₀:=s,H₀:=H,env:=compEnvC scope (eK X.env.cells scope.names []) C X.env,outer:=X.stack,stack:=X.stack,ex:=fp,fn:=λ_=>false,pn:=X.pn++pins,xe:=λ_ _=>False }
section
variable {k:Nat}
theorem bg.some(S:bg X.env.scope X.N scope k Nc js)(I:Inv X pins Y H s):∀y∈scope.names,y.2=.free->∃c,X.env.cells.lookup y.1=some c:=λy a hk=>I.ok.has y.1 (S.free y a hk)
theorem bg.clos(S:bg X.env.scope X.N scope k Nc js)(I:Inv X pins Y H s):closureFor scope X.env=pure (eK X.env.cells scope.names []):=GC (S.some I)
theorem Gv(S:bg X.env.scope X.N scope k Nc js)(I:Inv X pins Y H s)(i:∀b∈fp,dQ X pins H b)(l:∀b∈fp,b<s.heap.objs.size)(j:s.heap.objs.size<=C):(X.comp pins Nc scope fp s H C).Ok:=by
 have n:∀b,b<s.heap.objs.size->b≠C:=λb hb=>qO (qL hb j)
 have f:∀b∈fp,b∉frs X.stack:=λb hb z=>by
  rcases qD.mp (I.stkSub b z)with e|e
  .exact(i b hb).2.1 e
  .exact(i b hb).2.2.1 e
 refine⟨I.ok.mod,S.kind,I.ok.glob,I.ok.blt,j,λx y c a g=>I.ok.inj x y c (ig a) (ig g),λx p=>?_,λx c h=>?_,I.ok.hd,I.ok.frames,.inl U,λb hb=>⟨?_,λx c e=>(i b hb).2.2.2.2.1 x c (ig e)⟩,
  λb o e=>⟨(I.bs b o e).1,(I.bs b o e).2⟩,qH I.ok.bsz I.sz,λb o e hb=>?_,f,I.stack,I.stkFree⟩
 .have m:(relabel scope X.env).names.lookup x=some .cell\/(relabel scope X.env).names.lookup x=some .free:=p
  have d:(x,NameKind.free)∈scope.names:=by
   rcases m with h|h
   .obtain⟨r,a,g⟩:=wK h;rcases g with rfl|⟨rfl,_⟩
    .exact Qd U (S.cell _ (Qq a))
    .exact Qq a
   .obtain⟨r,a,g⟩:=wK h;rcases g with rfl|⟨rfl,_⟩
    .exact Qq a
    .exact Qq a
  obtain⟨c,hc⟩:=S.some I (x,.free) d U;exact⟨c,yF d hc⟩
 .exact Qd (show false=true from h) qt
 .exact n b (l b hb)
 .rcases(i b hb).2.2.2.1 with q|q
  .exact I.ok.noex b o e q
  .exact Qd (qL (qz e) (qH I.ok.bsz q)) (Qk _)
theorem Gw(S:bg X.env.scope X.N scope k Nc js)(I:Inv X pins Y H s)(R:∀b∈fp,dQ X pins H b)(J:∀b∈fp,b<s.heap.objs.size)(B:s.heap.objs.size<=C){h:Shared}
 (os:h.os=s.os) (bare:AllBare h.gens) (kept:∀b o,s.heap.get? b=some o->h.heap.get? b=some o) (ns:∃m,h.heap.Ns C m):Inv (X.comp pins Nc scope fp s H C) [] (iW k js Y) H h:=by
 have G:∀b,b<s.heap.objs.size->b≠C:=λb hb=>qO (qL hb B);refine⟨Gv S I R J B,os,bare,Un.kept kept,?_,λx c e=>?_,I.hok.fresh B,λx c e=>I.freeC x c (ig e),λp V=>?_,I.hok.kept kept,?_⟩
 .obtain⟨T,E⟩:=ns;refine⟨T,E,λi x v L a _=>?_⟩;have D:Nc[i]?=some x:=L;by_cases hi:i<k
  .unfold iW at a;rw[Qe (by simpa using hi),List.getElem?_replicate,Qa hi]at a;cases a
  .obtain⟨t,rfl⟩:∃t,i=k+t:=⟨i-k,Yo⟩;unfold iW at a;rw[qT (by simp),List.length_replicate,Nat.add_sub_cancel_left,qM]at a
   cases ej:js[t]? with
   |none=>rw[ej]at a;cases a
   |some j=>
    rw[ej]at a;have g:(Y[j]?).join=some v:=qR a
    have P:Y[j]?=some (some v):=by
     cases q:Y[j]? with
     |none=>rw[q]at g;cases g
     |some z=>rw[q]at g;cases z with
      |none=>cases g
      |some z=>cases g;rfl
    have M:(x,j)∈(Nc.drop k).zip js:=qI (i:=t) (List.getElem?_zip_eq_some.mpr ⟨by rw[List.getElem?_drop];exact D,ej⟩);obtain⟨Q,w⟩:=S.out _ M;have y:(x,NameKind.free)∈scope.names:=Qq w;have hk:=S.free _ y U;obtain⟨m,hn,hl⟩:=I.loc;obtain⟨u,r,l⟩:=hl j x v Q P (.inr hk);exists u,r;rcases l with⟨K,_⟩|⟨_,c,hc,o,A,hd⟩
    .have f:X.env.scope.names.lookup x=some .local:=K;rcases hk with hk|hk
     .rw[hk]at f;cases f
     .rw[hk]at f;cases f
    .exact .inr ⟨C9 w,c,yF y hc,o,kept _ _ A,hd⟩
 .obtain⟨v,o,A,hd⟩:=I.cell x c (ig e);exact⟨v,o,kept _ _ A,hd⟩
 .have F:p∈X.pn++pins:=by
   rcases qr.mp V with z|z
   .exact z
   .exact nomatch z
  obtain⟨e,n,ne,O,d⟩:=I.pin p F;refine⟨kept _ _ e,n,G _ (qz e),λz=>?_,d⟩;rcases qD.mp (I.stkSub _ z)with q|q
  .exact ne q
  .exact O q
 .show(iW k js Y).length=Nc.length;unfold iW;rw[qh,List.length_replicate,qc,S.len]
theorem Gy(I:Inv X pins Y H s)(d:∀b∈fp,dQ X pins H b){D:Addr}(h:s.heap.objs.size<=D){f:St}{ys:LV}
 (J:Inv (X.comp pins Nc scope fp s H C) pins' f H' s') (a:H' D=none) (l:ys.length<=sizeLine) (i:aB ys its) (j:s'.heap.get? D=some { cls:=.type "list",data:=.seq its.toArray n }):
 Inv X pins Y (upd H' D (.lst ys)) s':=by
 have B:Un (frs X.stack) fp H H' s.heap s'.heap:=J.base;have g:∀b o,s.heap.get? b=some o->b≠D:=λb o e=>qO (qL (qz e) h);refine I.call' (ch:=fp) J.os ⟨B.keep,B.slot,λb o e n k=>?_,B.there,λb xs e=>?_,λb o u e=>?_,λb ps e=>?_⟩ (λb o e=>?_) J.bare λb hb=>⟨(d b hb).2.2.2.1,(d b hb).2.1,(d b hb).2.2.2.2.1,(d b hb).2.2.2.2.2⟩
 .rw[af (g b o e)];exact B.free b o e n k
 .rw[af (cG (B.tups b xs e) a)];exact B.tups b xs e
 .rw[af (cG (B.frzs b o u e) a)];exact B.frzs b o u e
 .obtain⟨more,q⟩:=B.tbls b ps e;exact⟨more,by rwa[af (cG q a)]⟩
 .by_cases hb:b=D
  .subst hb;rw[ah]at e;cases e;exact⟨l,its,n,i,j⟩
  .rw[af hb]at e;exact(J.hok b o e).stay (λc v _ q=>q) (λc q=>by rwa[af (cG q a)]) λc xs q=>by rwa[af (cG q a)]
end
def PTs(X0:Cx)(ifs:LR)(t:TT):Prop:=
 ∀(pins:List (Addr×Obj))(s:Shared)(Y:St)(H:Hp)(Q:Bool->Hp->Prop),Inv X0 pins Y H s->t Y H Q->
  wpAny (model X0.prog X0.w) X0.A (forIn ifs true λc r=>if r=true then do let ok <- isTrue c X0.env (eval c X0.env);pure (ForInStep.yield ok)else pure (ForInStep.yield r)) (TP X0 pins Y Q) X0.xe s
def jR:TT:=λ_ H Q=>Q true H
theorem gh{X0:Cx}:PTs X0 [] jR:=λ_ _ _ H _ I h=>wpAny_tests_nil ⟨H,I,h⟩
theorem iH{X0:Cx}{c:Expr}{t:TT}(h:PT X0 c t):PTs X0 [c] t:=λa s b H Q I d=>wpAny_tests_one (h a s b H Q I d)
def iA(J:It)(g:TG)(tt:TT)(te:TE)(a0:LV->Hp->Prop)(W:Nat->Nat->LV->St->Hp->Prop):Prop:=
 ∀i m ys Y H,W i m ys Y H->(J.stop i H/\ys.length<=sizeLine/\a0 ys H)\/(J.go i H/\ys.length<sizeLine/\∃N:LV->St->Hp->Prop,(∀O V H',N O V H'->∃m',m'<m/\W (i+1) m' O V H') /\
  ∀x H',J.yld i H x H'->g x Y H' λF H2=>tt F H2 λb H3=>if b=true then te F H3 λy H4=>N (ys++[y]) F H4 else N ys F H3)
section
variable {k:Nat}{iter elt:Expr}{g:TG}
theorem z9{J:It}{tn:Nat->Heap->Prop}{b3:LV->Hp->Prop}{W:Nat->Nat->LV->St->Hp->Prop}{RR:Value->Addr->Result->Shared->Prop}{m0:Nat}
 (S:bg X.env.scope X.N scope k Nc js) (hc:X.calm=true) (I:Inv X pins Y H s) (T:j2 X.prog X.w X.K tg J fp it tn) (st:tn 0 s.heap) (O:∀b∈fp,dQ X pins H b)
 (hg:∀pins fp s H C,PG (X.comp pins Nc scope fp s H C) tg g) (ht:∀pins fp s H C,PTs (X.comp pins Nc scope fp s H C) ifs tt) (he:∀pins fp s H C,PE (X.comp pins Nc scope fp s H C) elt te)
 (w0:W 0 m0 [] (iW k js Y) H) (b5:iA J g tt te b3 W)
 (b9:∀D C s' ys H',Inv X pins Y (upd H' D (.lst ys)) s'->dQ X pins (upd H' D (.lst ys)) C->(∃m,s'.heap.Ns C m)->H' D=none->b3 ys H'->RR (.ref D) C (.ok .next) s'):
 wpAny (model X.prog X.w) X.A (newList []) (λb1 h=>wpAny (model X.prog X.w) X.A (newFunctionEnv scope X.env.globals (eK X.env.cells scope.names []) [] X.env.qual none .none (some X.env)) (λa5 b6=>
  codeAny (model X.prog X.w) X.A (.compStart (.ListComp elt [⟨tg,iter,ifs,0⟩] scope pos) 0 (.ref it) b1 { a5 with scope:=relabel scope X.env }) (RR b1 a5.locals) b6) E h) E s:=by
 refine wpAny_newObj_type (wpAny_newFunctionEnv S.cell (by intro y hy;simp at hy) (λM f d=>?_) S.kind);dsimp only at f d ⊢;generalize hH2:s.heap.push { cls:=.type "list",dict:=none,data:=.seq ([]:LL).toArray }=H2 at f d ⊢;have hC:H2.objs.size=s.heap.objs.size+1:=by rw[<- hH2,Qo]
 have B:s.heap.objs.size<=H2.objs.size:=by rw[hC];exact Nat.le_succ _
 have P:s.heap.objs.size≠H2.objs.size:=by rw[hC];exact qO (Qj _)
 have old:∀b o,s.heap.get? b=some o->M.get? b=some o:=λb o e=>
  d.extBut b o (qO (qL (qz e) B)) (qf _ (hH2▸qf _ e))
 have b4:M.get? s.heap.objs.size=some { cls:=.type "list",data:=.seq ([]:LL).toArray 0 }:=d.extBut _ _ P (qf _ (hH2▸qy _ U));have b':∀b∈fp,∃o,s.heap.get? b=some o:=λb hb=>let ⟨o,e,_⟩:=T.obj 0 _ st b hb;⟨o,e⟩;have V:∀b∈fp,b<s.heap.objs.size:=λb hb=>let ⟨_,e⟩:=b' b hb;qz e
 have a2:∀b∈fp,b∉frs X.stack:=λb hb z=>by
  rcases qD.mp (I.stkSub b z)with e|e
  .exact(O b hb).2.1 e
  .exact(O b hb).2.2.1 e
 have a6:s.heap.objs.size∉frs X.stack:=λz=>by
  rcases qD.mp (I.stkSub _ z)with e|e
  .have:=I.lt;rw[<- e]at this;exact Qk _ this
  .exact I.nofs (qo _) e
 let j:LL->Nat->List (Addr×Obj):=λa n=>[(s.heap.objs.size,{ cls:=.type "list",data:=.seq a.toArray n })]
 have L:∀{H':Hp}{a:LL}{n:Nat},(∀b∈fp,H' b=none)->∀b∈fp,dQ (X.comp pins Nc scope fp s H H2.objs.size) (j a n) H' b:=λ{H' a n} hn b hb=>
  ⟨hn b hb,qO (qL (V b hb) B),a2 b hb,.inl hb,λx c e=>(O b hb).2.2.2.2.1 x c (ig e),λp t z=>by
   rcases qr.mp t with q|q
   .exact(O b hb).2.2.2.2.2 p q z
   .have e:p=(s.heap.objs.size,_):=Q0.mp q;rw[e]at z
    exact Qd (V b hb) (by rw[<- z];exact Qk _)⟩
 have a3:∀h:Shared,h={ s with heap:=M,toks:=s.toks+([]:List (Str×Value)).length }->
  codeAny (model X.prog X.w) X.A (.compLoop (.ListComp elt [⟨tg,iter,ifs,0⟩] scope pos) 0 (.ref it) (.ref s.heap.objs.size) (compEnvC scope (eK X.env.cells scope.names []) H2.objs.size X.env)) (RR (.ref s.heap.objs.size) H2.objs.size) h:=by
  rintro h rfl
  refine Gz (λn s'=>∃i ys a nn b0 H',Inv (X.comp pins Nc scope fp s H H2.objs.size) [] b0 H' s'/\tn i s'.heap/\(∀b∈fp,H' b=none)/\H' s.heap.objs.size=none/\aB ys a /\
   s'.heap.get? s.heap.objs.size=some { cls:=.type "list",data:=.seq a.toArray nn }/\W i n ys b0 H') ?_ m0 ?_
  .rintro n s3 ⟨i,ys,a,nn,F,H3,I3,a8,a9,a4,R,c0,w3⟩
   have b2:Inv (X.comp pins Nc scope fp s H H2.objs.size) (j a nn) F H3 s3:=I3.pins_of λp t=>by
    have e:p=(s.heap.objs.size,_):=Q0.mp t;subst e;exact⟨c0,a4,P,a6,λv z=>by cases z⟩
   rcases b5 i n ys F H3 w3 with⟨stop,hz,fin⟩|⟨go,hz,N,hN,step⟩
   .refine thn (T.done (X.comp pins Nc scope fp s H H2.objs.size) U U U hc i (j a nn) s3 F H3 (λ_ _=>False) b2 (L a9) a8 stop) λr s4 ⟨hr,I4⟩=>?_;subst hr;have c5:=(I4.pin _ (qQ _ (Q0.mpr U))).1;obtain⟨m4,b7,_⟩:=I4.loc;refine b9 _ _ s4 ys H3 (Gy I O (qo _) I4 a4 hz R c5) (I.fpOk B ?_) ⟨m4,b7⟩ a4 fin;rw[af (Ne.symm P)];exact I4.free
   .refine thn (T.item (X.comp pins Nc scope fp s H H2.objs.size) U U U hc i (j a nn) s3 F H3 (λ_ _=>False) b2 (L a9) a8 go) λr s4 ⟨u,hr,h4⟩=>?_;subst hr;refine thn h4 λ_ s5 ⟨x,H5,I5,r5,y5,X0,c4⟩=>?_;have b8:=I5.pinned (L c4) (T.obj _ _ X0);refine thn (hg pins fp s H H2.objs.size _ s5 F H5 x u _ b8 r5 (step x H5 y5)) λ_ s6 ⟨l,H6,I6,q6⟩=>?_;refine thn (ht pins fp s H H2.objs.size _ s6 l H6 _ I6 q6) λok s7 ⟨H7,I7,q7⟩=>?_
    have G:∀{a7:St}{H':Hp}{s':Shared},Inv (X.comp pins Nc scope fp s H H2.objs.size) (j a nn++km fp s5.heap) a7 H' s'->
     s'.heap.get? s.heap.objs.size=some { cls:=.type "list",data:=.seq a.toArray nn }/\H' s.heap.objs.size=none/\(∀b∈fp,H' b=none)/\(∀b∈fp,∀o,s5.heap.get? b=some o->s'.heap.get? b=some o):=λ{a7 H' s'} J=>by
     have p1:=J.pin (s.heap.objs.size,_) (qQ _ (Q5 _ (Q0.mpr U)));refine⟨p1.1,p1.2.1,λb hb=>?_,λb hb o e=>(J.pin (b,o) (qQ _ (qQ _ (md hb e)))).1⟩;obtain⟨o,e,_⟩:=T.obj _ _ X0 b hb;exact(J.pin (b,o) (qQ _ (qQ _ (md hb e)))).2.1
    cases ok with
    |true=>
     rw[Qa U]at q7 ⊢;refine thn (he pins fp s H H2.objs.size _ s7 l H7 _ I7 q7) λy s8 ⟨v,H8,I8,r8,q8⟩=>?_;obtain⟨Z,Q,a1,k8⟩:=G I8;refine append_at (hsz:=by have:=R.length;show a.toArray.size<=sizeLine;rw[qK,<- this];exact Nat.le_of_lt hz) Z λh9 a' c1=>?_;obtain⟨m',a0,w9⟩:=hN _ _ _ q8;have c3:Inv (X.comp pins Nc scope fp s H H2.objs.size) [] l H8 s8:=I8.pins_of λp t=>nomatch t
     have I9:Inv (X.comp pins Nc scope fp s H H2.objs.size) [] l H8 { s8 with heap:=h9 }:=c3.turned (t':=s8.toks) (it:=s.heap.objs.size) (λb o hb e=>(a'.2 b hb).trans e) Q P (.inr (qo _)) (λx c e z=>by
      obtain⟨v,q⟩:=I.cell x c (ig e)
      exact Qd q.lt (by rw[z];exact Qk _)) λp t z=>by
       have c2:p∈X.pn++pins:=by
        rcases qr.mp t with q|q
        .exact q
        .exact nomatch q
       exact Qd (qz (I.pin p c2).1) (by rw[z];exact Qk _)
     refine⟨m',a0,i+1,ys++[v],a++[y],nn+1,l,H8,I9,T.keep _ _ _ X0 λb hb o e=>(a'.2 b (qO (V b hb))).trans (k8 b hb o e),a1,Q,R.append (.cons r8 .nil),?_,w9⟩;show h9.get? s.heap.objs.size=_;rw[c1];simp
    |false=>
     rw[Q9 qt]at q7 ⊢;obtain⟨Z,Q,a1,k8⟩:=G I7;obtain⟨m',a0,w9⟩:=hN _ _ _ q7;exact⟨m',a0,i+1,ys,a,nn,l,H7,I7.pins_of λp t=>(nomatch t),T.keep _ _ _ X0 k8,a1,Q,R,Z,w9⟩
  .exact⟨0,[],[],0,_,H,Gw S I O V B U I.bare old ⟨_,f⟩,T.keep _ _ _ st λb _ o e=>old b o e,λb hb=>(O b hb).1,I.hok.fresh (qo _),.nil,b4,w0⟩
 exact codeAny_compStart_list (a3 _ U) (T.self X.A 0 _ _ _ (T.keep _ _ _ st λb _ o e=>old b o e) (a3 _ U))
def uF(F:TI)(k:Nat)(js:LG)(g:TG)(tt:TT)(te:TE):TE:=λY H Q=>F Y H λJ H1=>∃W:Nat->Nat->LV->St->Hp->Prop,(∃m,W 0 m [] (iW k js Y) H1) /\
 iA J g tt te (λys H=>∀D,H D=none->Q (.ref D) (upd H D (.lst ys))) W
theorem fQ{j:TI}(S:bg X.env.scope X.N scope k Nc js)(hc:X.calm=true)(z:PI X tg iter j)
 (t:∀pins fp s H C,PG (X.comp pins Nc scope fp s H C) tg g) (ht:∀pins fp s H C,PTs (X.comp pins Nc scope fp s H C) ifs tt) (r:∀pins fp s H C,PE (X.comp pins Nc scope fp s H C) elt te)
 (hs:∀x,foldedSetIterable iter X.env x=pure x:=by intro _;rfl):PE X (.ListComp elt [⟨tg,iter,ifs,0⟩] scope pos) (uF j k js g tt te):=by
 intro pins s l H Q I h;rw[eval_ListComp];refine wpAny_comprehension_free (use:=none) U hs (S.clos I) S.kind S.names (thn (z pins s l H _ I h) λ_ _ n=>thn n λ_ _ q=>?_);obtain⟨it,fp,_,J,_,e,B,T,i,E,W,⟨_,p⟩,c⟩:=q;subst e;refine z9 (RR:=λd C=>compPost (model X.prog X.w) X.A X.xe none (EP X pins l Q) d C) S hc B T i E t ht r p c λD C y ys H' v a ns u fin=>?_;obtain⟨m,hn⟩:=ns;exact⟨m,hn,λh' f=>⟨.ref D,_,v.turned (t':=y.toks) (λb o hb e=>(f.2 b hb).trans e) a.1 a.2.1 a.2.2.2.1 a.2.2.2.2.1 a.2.2.2.2.2,U,fin D u⟩⟩
theorem ju{B:TI}{d j:Pos}(X0:X.N.Nodup)(E:X.N[i]?=some x)(hx:Loc X.env.scope x)(S:bg X.env.scope X.N scope k Nc js)(hc:X.calm=true)(Z:PI X tg iter B)
 (O:∀pins fp s H C,PG (X.comp pins Nc scope fp s H C) tg g) (ht:∀pins fp s H C,PTs (X.comp pins Nc scope fp s H C) ifs tt) (M:∀pins fp s H C,PE (X.comp pins Nc scope fp s H C) elt te)
 (n:swapsWith (.ListComp elt [⟨tg,iter,ifs,0⟩] scope pos) (some (.Name x d)) j.line X.env=pure true:=by rfl)
 (hs:∀x,foldedSetIterable iter X.env x=pure x:=by intro _;rfl) (hf:X.fn x=true\/X.env.scope.names.lookup x=some .local:=by first|exact .inl U|exact .inr U|assumption):
 PS X (.Assign [.Name x d] (.ListComp elt [⟨tg,iter,ifs,0⟩] scope pos) j) (nB (uF B k js g tt te) (tf i)):=by
 intro pins s Y H D I h;rw[exec_Assign_Name_used _ _ _ _ n];refine qb (wpAny_standAt (qb ?_));show wpAny _ X.A (do let _ <- comprehension (.ListComp elt [⟨tg,iter,ifs,0⟩] scope pos) scope X.env _ (newList []) false (eval iter X.env) (some (assign (.Name x d) X.env))) _ _ s
 refine qb (wpAny_mono (wpAny_comprehension_free (use:=some (assign (.Name x d) X.env)) (Q:=λ_ f=>SP X pins D .next f) U hs (S.clos I) S.kind S.names
  (thn (Z pins s Y H _ I h) λ_ _ F=>thn F λ_ _ L=>?_)) (λ_ f K=>qk (qk K)) λ_ _ e=>e)
 obtain⟨it,fp,_,J,_,e,I2,T,r,f2,W,⟨_,G⟩,l⟩:=L;subst e;refine z9 (RR:=λp C=>compPost (model X.prog X.w) X.A X.xe (some (assign (.Name x d) X.env)) (λ_ f=>SP X pins D .next f) p C) S hc I2 T r f2 O ht M G l λA C f ys H' R c ns P fin=>?_;obtain⟨m,hn⟩:=ns;show wpAny _ X.A (assign (.Name x d) X.env (.ref A)) _ _ _;refine wpAny_assign_Name (uM R X0 E hx (v:=.ref A) U (λt u ⟨a,V,ha⟩=>?_) hf)
 have y:C≠a:=by
  rcases ha with ha|ha
  .rw[ha];exact c.2.1
  .exact λz=>c.2.2.2.2.1 x a ha z.symm
 exact⟨m,hn.sameBut V y,λh' q=>⟨_,_,u.turned (t':=t.toks) (λb o hb e=>(q.2 b hb).trans e) c.1 c.2.1 c.2.2.2.1 c.2.2.2.2.1 c.2.2.2.2.2,fin A P⟩⟩
end
def Cd:V->Option Int->Option Int->Hp->VK->Prop:=λx lo hi H Q=>∃z,x=.str z/\z.length<=sizeLine/\Q (.str (Txt.slice z lo hi)) H
theorem jT:SlR X Cd:=by
 intro c s n H x v _ _ f m sl Q I g hs pl d h;obtain⟨z,rfl,a,q⟩:=h;obtain⟨t,rfl⟩:=g;exists "str",_,PySem.F.slot_str_getitem.lookup,typeIs_str _ _ _;have fin:∀t' k,EP X c n Q (.str (Txt.slice z f m) t') { s with toks:=k }:=λt' k=>⟨.str _,H,I.tok k,⟨t',U⟩,q⟩
 cases pl with
 |none=>
  cases d with
  |none=>exact wpAny_getItem_str_slice (l:=none) (u:=none) (st:=none) hs U (post_val_or_str ⟨qH (Txt.slice_le z _ _) a,fin⟩)
  |int j b=>exact wpAny_getItem_str_slice (l:=none) (u:=some (j,b)) (st:=none) hs U (post_val_or_str ⟨qH (Txt.slice_le z _ _) a,fin⟩)
 |int i e=>
  cases d with
  |none=>exact wpAny_getItem_str_slice (l:=some (i,e)) (u:=none) (st:=none) hs U (post_val_or_str ⟨qH (Txt.slice_le z _ _) a,fin⟩)
  |int j b=>exact wpAny_getItem_str_slice (l:=some (i,e)) (u:=some (j,b)) (st:=none) hs U (post_val_or_str ⟨qH (Txt.slice_le z _ _) a,fin⟩)
theorem Dl:OpR X (binaryOp .Mult) (rI IntMulOk λi j=>.int (i * j)):=opI λ_ _ _ _ _ _ _ hc q=>mul_int q hc
theorem GJ:cL X (.builtin "isinstance") (λxs H Q=>∃x t T b,xs=[x,.ty T]/\eL X.K H x t/\PySem.W.kitOne X.K t (.type T)=some b/\Q (.bl b) H):=by
 intro _ s _ H xs us Q I r h;obtain⟨x,t,T,b,rfl,ty,e,q⟩:=h;obtain⟨u,c,rfl,d,rc⟩:=jQ r;have a:c=.type T:=rc;subst a;exact Ft I d ty e λtk=>⟨.bl b,H,I.tok tk,U,q⟩
def Cr(K:W.Frag):R2:=λx y H Q=>∃l b xs zs,x=.ref l/\y=.ref b/\SqL K H l xs/\SqL K H b zs/\xs.length+zs.length<=sizeLine/\∀p,H p=none->Q (.ref p) (upd H p (.lst (xs++zs)))
theorem Dv:OpR X (binaryOp .Add) (Cr X.K):=by
 intro _ s _ H x y v u Q I t w h;obtain⟨l,b,xs,zs,rfl,rfl,p,A,_,q⟩:=h;cases t;cases w;obtain⟨c,r,pl,_⟩:=I.list p;obtain⟨a,j,k,_⟩:=I.list A;have B:=r.length;have C:=j.length;obtain⟨⟨_,z,_,sl⟩,n,g,hc,_,hd⟩:=pl;obtain⟨⟨_,i,_,m⟩,n2,d,e,_,f⟩:=k;simp only at hc hd e f;subst hc hd e f;refine concat_meets ⟨_,g,U⟩ ⟨_,d,U⟩ noFill_list_add seq_list_add PySem.F.slot_list_add PySem.F.entry_list_add (PySem.F.args_list_add_2 _ _) (list_addW l b c.toArray a.toArray n n2 z i sl m (by rw[qK,qK];omega)) ⟨g,d,?_⟩;have o:c.toArray++a.toArray=(c++a).toArray:=by simp
 rw[o];exact⟨.ref _,_,I.lnew (t':=s.toks) (r.append j) (by rw[qh];omega),U,q _ I.fresh⟩
theorem ug{N N':V->St->Hp->Prop}{M:St->Hp->Prop}:(λ(a:St)(H2:Hp)=>jR a H2 λb c=>if b=true then te a c λy H4=>N y a H4 else M a c)=λa H2=>te a H2 λy H4=>N y a H4:=by
 funext a H2
 unfold jR;dsimp only;rw[Qa U]
noncomputable def tI(e:Expr):LC:=match e with
 |.Constant (.str x) _ _=>some (.str x)
 |.Constant (.int i) _ _=>some (.int i)
 |.Constant (.bool b) _ _=>some (.bl b)
 |.Constant .none _ _=>some .non
 |_=>none
noncomputable def tH:LR->Option LV
 |[]=>some []
 |e::es=>match tI e,tH es with
  |some v,some vs=>some (v::vs)
  |_,_=>none
def Ag(vs:LV):TA:=λ_ H Q=>Q vs H
theorem Dc{v:V}(h:tI e=some v):PE X e (tC v)/\∀es,starEach (e::es) X.env=(false,eval e X.env)::starEach es X.env:=by
 unfold tI at h;split at h
 .cases h;exact⟨aQ,λ_=>U⟩
 .cases h;exact⟨aa,λ_=>U⟩
 .cases h;exact⟨cq,λ_=>U⟩
 .cases h;exact⟨bN,λ_=>U⟩
 .cases h
theorem lY{X:Cx}:∀{es:LR}{vs:LV},tH es=some vs->PA X es (Ag vs)
 |[],vs,h=>by cases h;exact ac
 |e::es,vs,h=>by
  unfold tH at h;split at h
  .rename_i v a h1 h2;cases h;obtain⟨p,s⟩:=Dc (X:=X) h1;exact a8 p (lY h2) (s es)
  .cases h
theorem Ek:OpR X (binaryOp .Add) (λx y H Q=>∃i j,x=.int i/\y=.int j/\Q (.int (i+j)) H):=Dx
theorem Ed:OpR X (binaryOp .Sub) (λx y H Q=>∃i j,x=.int i/\y=.int j/\Q (.int (i-j)) H):=Dg
theorem f7:OpR X (binaryOp .Mult) (λx y H Q=>∃i j,x=.int i/\y=.int j/\IntMulOk i j/\Q (.int (i * j)) H):=Dl
theorem Ej:OpR X (binaryOp .FloorDiv) (λx y H Q=>∃i j,x=.int i/\y=.int j/\(0<j/\j<1073741824)/\Q (.int (i / j)) H):=Ds
theorem Ee:OpR X (binaryOp .Mod) (λx y H Q=>∃i j,x=.int i/\y=.int j/\0<j/\Q (.int (i % j)) H):=Dm
theorem xN:OpR X (binaryOp .Pow) (λx y H Q=>∃i j,x=.int i/\y=.int j/\(0<=j/\j<=1000000/\i.natAbs<2 ^ 64)/\Q (.int (i ^ j.toNat)) H):=Dh
theorem Ef:OpR X (compareOp .Lt) (λx y H Q=>∃i j,x=.int i/\y=.int j/\Q (.bl (decide (i<j))) H):=Dn
theorem Eg:OpR X (compareOp .LtE) (λx y H Q=>∃i j,x=.int i/\y=.int j/\Q (.bl (decide (i<=j))) H):=Do
theorem Eh:OpR X (compareOp .Gt) (λx y H Q=>∃i j,x=.int i/\y=.int j/\Q (.bl (decide (j<i))) H):=Dq
theorem Ei:OpR X (compareOp .GtE) (λx y H Q=>∃i j,x=.int i/\y=.int j/\Q (.bl (decide (j<=i))) H):=Dr
end L2
namespace Att
open PySem PySem.W PySem.Calls PyProof.Rows
theorem Bw{ns:LI}(h:WData.layableAll [WData.list (ns.map WData.int)]=true):∀n∈ns,Builtin.Int.intBits n<=2 ^ 20:=λn hn=>by
 have a:=layableW_arg h _ (Q0.mpr U);have b:=layableW_item a (WData.int n) (List.mem_map.mpr ⟨n,hn,U⟩);exact PyData.bits_of_layable (layable0_of_all (lay0_int b))
theorem attach_callB{l:OpenLaw}{q:Program}{d:DefRec}
 (hn:l.most=some n) (s:d.params.defaults=[])
 (call:∀(w:World)(s₀ b:Shared)(mg i:Str->LO)(c:Addr)(o:Obj)(pm cd e:Value)(a:Addr)(vs:LL)(ns:LI),
  Ground q loose [] XP w s₀ mg i b.heap->YP w b.heap->
  b.heap.get? c=some o->o.data=.func (docDef d.name d.params d.body d.scope pm cd e)->b.heap.CodeRec cd d.name->mg d.name=some (.ref c)->
  b.heap.get? a=some { cls:=.type "list",data:=.seq vs.toArray }->IntsAre vs ns->ns.length<=n->(∀k∈ns,Builtin.Int.intBits k<=2 ^ 20)->b.gens=#[]->
  codeAny (model l.prog w) callerA (.call (.ref c) ⟨[.ref a],[]⟩) (λr s'=>r=.ok (.ret (.bool true))/\OldK b.heap s'.heap/\s'.os=b.os/\AllBare s'.gens) b):
 WalkO q loose XP YP l.row.toRowW d [] (λf vs=>PySem.call f vs):=by
 intro w s₀ b mg i G X0 c o pm cd e y kV z hd u t v D _ _ as j p _ x _;obtain rfl:y=.none:=Dflts.none t s;obtain rfl:kV=.none:=Dflts.noKw t;obtain⟨a,vs,ns,rfl,rfl,h,g,m⟩:=Bv hn j x;refine enter_call (codeAny_mono (call w s₀ b mg i c o pm cd e a vs ns G X0 z (fd_plain hd) u v h g m (Bw p) D) λr s' A=>?_);obtain⟨rfl,B,E,F⟩:=A;exact⟨.inl ⟨.bool true,.bool true,[],U,λ_=>U,.bool true,CO l _,λ_=>⟨List.Pairwise.nil,λ_ C=>(nomatch C)⟩⟩,B,E,F⟩
end Att
namespace L2
open PySem PySem.Spec PyProof.Rows
theorem A0{l:PySem.W.OpenLaw}{k:Nat}{q:Program}{d:DefRec}{K:Params->PySem.W.Frag}{CX:World->CXT}{sp:World->Sp}
 (hn:l.most=some n) (y:n<=sizeLine) (t:d.params.defaults=[]) (hr:cw k callerA)
 (I:∀(w:World)(h:Heap),YP w h->(K w.params).In h)
 (F:∀(w:World)(mg:Str->LO)(i:Addr)(h:Heap),(K w.params).In h->h.Ns mainGlobals mg->mg d.name=some (.ref i)->
  ∃fd:FuncData,(∀(s:Shared)(u:Value),BindsTo s fd ⟨[u],[]⟩ [(x,u)]) /\
   ∀base:Heap,(K w.params).In base->base.Ns mainGlobals mg->aK l.prog w (K w.params) mg base (CX w) k i fd [x] (sp w))
 (B:∀(w:World)(H:Hp)(a:Addr)(ns:LI),ns.length<=n->(∀k∈ns,Builtin.Int.intBits k<=2 ^ 20)->n9 H->SqL (K w.params) H a (ns.map V.int)->sp w [.ref a] H (λv _=>v=.bl true) λ_ _ _=>False)
 (C:∀(w:World)(H:Hp)(s:Shared)(e:Value)(s':Shared),CX w [] H s (λ_ _ _=>False) e s'->False):
 PySem.W.WalkO q loose XP YP l.row.toRowW d [] (λf vs=>PySem.call f vs):=by
 refine Att.attach_callB hn t λw s₀ p mg _ i o _ _ _ a vs ns G X0 _ hd _ A r j c m E=>?_;have z:=I w _ X0;obtain⟨fd,hb,L⟩:=F w mg i _ z G.T.g A;exact Fa z G.T.g G.T.b G.T.builtins G.T.nolimit E r j (qH c y) hr L hb (λH J D=>B w H a ns c m J D) λH e s'=>C w H p e s'
theorem a9.new{p:Addr}(h:H p=none)(o:HO):a9 H (upd H p o):=λb u q=>by rwa[af (cG q h)]
theorem bf{m:Nat}(h:n<=m)(a:m<=1000000:=by decide):n<=sizeLine:=qH h (qH a (by rw[sizeLine_eq];decide))
theorem eh(x y:Str):(x++y).length=x.length+y.length:=strLen_append x y
theorem mF{L Pc c A:Prop}{a:Decidable c}(hw:¬ c->Pc)(rest:Pc->L)(h:c->(Pc->L)->A)(e:B=L:=by rfl):@ite Prop c a A B:=by
 subst e;by_cases hc:c
 .rw[Qa hc];exact h hc rest
 .rw[Q9 hc];exact rest (hw hc)
def SIt(h:Heap):Bool->Addr->Addr->Nat->Prop
 |false,it,l,k=>h.IsListIter it l k
 |true,it,l,k=>h.IsTupleIter it l k
def SSq(h:Heap):Bool->Addr->LD->Prop
 |false,l,xs=>h.IsList l xs
 |true,l,xs=>h.IsTuple l xs
theorem SIt.obj:∀{b:Bool}{it l:Addr}{k:Nat},SIt h b it l k->∃o,h.get? it=some o/\∃vs,o.data=.fields vs
 |false,_,_,_,⟨o,e,_,d⟩=>⟨o,e,_,d⟩
 |true,_,_,_,⟨o,e,_,d⟩=>⟨o,e,_,d⟩
theorem SIt.keep:∀{b:Bool}{it l:Addr}{k:Nat},SIt h b it l k->(∀o,h.get? it=some o->h'.get? it=some o)->SIt h' b it l k
 |false,_,_,_,⟨o,e,r⟩,f=>⟨o,f o e,r⟩
 |true,_,_,_,⟨o,e,r⟩,f=>⟨o,f o e,r⟩
theorem SSq.keep:∀{b:Bool}{l:Addr}{xs:LD},SSq h b l xs->(∀o,h.get? l=some o->h'.get? l=some o)->SSq h' b l xs
 |false,_,_,⟨o,e,r⟩,f=>⟨o,f o e,r⟩
 |true,_,_,⟨o,e,r⟩,f=>⟨o,f o e,r⟩
theorem SSq.obj:∀{b:Bool}{l:Addr}{xs:LD},SSq h b l xs->∃o,h.get? l=some o/\∃n,o.data=.seq xs n
 |false,_,_,⟨o,e,_,n,d⟩=>⟨o,e,n,d⟩
 |true,_,_,⟨o,e,_,n,d⟩=>⟨o,e,n,d⟩
theorem En{t:Addr}{k:Nat}{x:Value}(a:s.heap.IsTupleIter it t k)(ht:s.heap.IsTuple t xs)(f:xs[k]?=some x)
 (q:∀g,g.IsTupleIter it t (k+1)->Heap.SameBut it s.heap g->Q x { s with heap:=g }):wpAny (model prog w) A (Builtin.SmallTypes.nextOf (.ref it)) Q E s:=by
 obtain⟨o,e,c,d⟩:=id a;obtain⟨_,b,_,_,dt⟩:=ht;unfold Builtin.SmallTypes.nextOf;refine qb (wpAny_callSpecial?_slot (name:=Str.ofString "__next__") a.typeIs PySem.F.slot_tuple_iterator_next (Qr PySem.F.slot_tuple_iterator_next a.typeIs PySem.F.entry_tuple_iterator_next ?_ (PySem.F.args_tuple_iterator_next_1 _)));show wpAny _ _ (field (.ref it) 0 >>= _) _ _ _;refine qb (wpAny_field e d (x:=.ref t) U ?_);show wpAny _ _ (if(Value.ref t == Value.none)=true then _ else _) _ _ _;rw[Q9 (show ¬ (Value.ref t == Value.none)=true from qt)];show wpAny _ _ (field (.ref it) 1 >>= _) _ _ _;refine qb (wpAny_field e d (x:=.int k 0) U ?_);show wpAny _ _ (seqItems? (.ref t) >>= _) _ _ _;refine qb (QE b dt ?_);simp only[Q7,f];refine qb (wpAny_setField e d (by simp) (qk ⟨x,U,qk (q _ ?_ (Heap.SameBut.update ..))⟩));exact⟨_,Qp _ e (Obj.isFreed_of_fields (Obj.data_mapFields d _)),(Obj.cls_mapFields ..).trans c,by rw[Obj.data_mapFields d];simp[rawInt]⟩
theorem Eo{t:Addr}{k:Nat}(f:A.handled=none)(b:s.heap.IsTupleIter it t k)(ht:s.heap.IsTuple t xs)(i:xs[k]?=none)
 (q:∀g x,Heap.ExtBut it s.heap g->(∃o,g.get? x=some o/\o.cls=.type "StopIteration")->E (.ref x) { s with heap:=g }):wpAny (model prog w) A (Builtin.SmallTypes.nextOf (.ref it)) Q E s:=by
 obtain⟨o,e,c,d⟩:=id b;obtain⟨_,h,_,_,dt⟩:=ht;unfold Builtin.SmallTypes.nextOf;refine qb (wpAny_callSpecial?_slot (name:=Str.ofString "__next__") b.typeIs PySem.F.slot_tuple_iterator_next (Qr PySem.F.slot_tuple_iterator_next b.typeIs PySem.F.entry_tuple_iterator_next ?_ (PySem.F.args_tuple_iterator_next_1 _)));show wpAny _ _ (field (.ref it) 0 >>= _) _ _ _;refine qb (wpAny_field e d (x:=.ref t) U ?_);show wpAny _ _ (if(Value.ref t == Value.none)=true then _ else _) _ _ _;rw[Q9 (show ¬ (Value.ref t == Value.none)=true from qt)];show wpAny _ _ (field (.ref it) 1 >>= _) _ _ _;refine qb (wpAny_field e d (x:=.int k 0) U ?_);show wpAny _ _ (seqItems? (.ref t) >>= _) _ _ _;refine qb (QE h dt ?_);simp only[Q7,i];refine qb (wpAny_rule (qb (wpAny_setField e d (by simp) ?_)));show wpAny _ _ (newExc (.type "StopIteration") [] >>= _) _ _ _;refine qb ?_;simp only[newExc,newTuple];refine qb (wpAny_newObj_type ?_ (by size_fits));refine qb (m:=firstArgMember _ _) (wpAny_of_eq (a:=Value.none) (by first|rfl|(simp only[firstArgMember];rfl)) (wpAny_newObj_type ?_ (by size_fits)));simp only[raiseNew];refine qb (wpAny_handled ?_);first|rw[show A.in1.handled=none from f]|rw[f]
 refine qb (qk (wpAny_throw (q _ _ (((Heap.SameBut.update ..).extBut.push _).push _) ⟨_,qy _ U,U⟩)))
theorem sw{l:Addr}{k:Nat}{x:Value}:∀{b:Bool},SIt s.heap b it l k->SSq s.heap b l xs->xs[k]?=some x->
 (∀g,SIt g b it l (k+1)->Heap.SameBut it s.heap g->Q x { s with heap:=g })->wpAny (model prog w) A (Builtin.SmallTypes.nextOf (.ref it)) Q E s
 |false,a,c,d,q=>wpAny_nextOf_list_item a c d q
 |true,a,c,d,q=>En a c d q
theorem xO{l:Addr}{k:Nat}(e:A.handled=none):∀{b:Bool},SIt s.heap b it l k->SSq s.heap b l xs->xs[k]?=none->
 (∀g x,Heap.ExtBut it s.heap g->(∃o,g.get? x=some o/\o.cls=.type "StopIteration")->E (.ref x) { s with heap:=g })->wpAny (model prog w) A (Builtin.SmallTypes.nextOf (.ref it)) Q E s
 |false,a,c,d,q=>wpAny_nextOf_list_end e a c d q
 |true,a,c,d,q=>Eo e a c d q
structure ZAp(z TI TO i1 i2 l1 l2:Addr):Prop where
 a:TI≠z/\TO≠z/\i1≠z/\i2≠z/\TI≠TO/\TI≠i1/\TI≠i2/\TO≠i1/\TO≠i2/\i1≠i2
 l:∀c,c=l1\/c=l2->c≠z/\c≠TO/\c≠i1/\c≠i2/\c≠TI
theorem zQ{z TI TO f h l1 l2:Addr}{K F:Nat}{ys:LD}{x y a b:Value}(D:ZAp z TI TO f h l1 l2)
 (p:IsZip s.heap z TI TO .none) (hI:IsPair s.heap TI (.ref f) (.ref h)) (hO:IsPair s.heap TO a b) (t1:SIt s.heap b1 f l1 K) (t2:SIt s.heap b2 h l2 F) (q1:SSq s.heap b1 l1 xs) (q2:SSq s.heap b2 l2 ys) (ex:xs[K]?=some x) (ey:ys[F]?=some y)
 (q:∀g,IsZip g z TI TO (rawInt s.heap.objs.size)->IsPair g TO x y->SIt g b1 f l1 (K+1)->SIt g b2 h l2 (F+1)->IsPair g s.heap.objs.size x y->(∀c o,c≠z->c≠TO->c≠f->c≠h->s.heap.get? c=some o->g.get? c=some o)->Q (.ref s.heap.objs.size) { s with heap:=g }):
 wpAny (model prog w) A (Builtin.«zip.__next__» ⟨[.ref z],[]⟩) (λfin s'=>∃v,fin=.done (.ret v)/\Q v s') E s:=by
 obtain⟨⟨_,k,r,C,_,_,_,B,t,O⟩,N⟩:=D;obtain⟨a1,_,_,_,_⟩:=N l1 (.inl U);obtain⟨a2,a0,X0,_,_⟩:=N l2 (.inr U);show wpAny _ _ (field (.ref z) 2 >>= _) _ _ _;refine qb (wpAny_field p U (x:=.bool false) U ?_);show wpAny _ _ (field (.ref z) 3 >>= _) _ _ _;refine qb (wpAny_field p U (x:=.ref TI) U (qb (QE hI U ?_)));show wpAny _ _ (Builtin.SmallTypes.ownedTupleIsFree (.ref z) >>= _) _ _ _;refine qb ?_;unfold Builtin.SmallTypes.ownedTupleIsFree;refine qb (wpAny_field p U (x:=.none) U (qk ?_));simp only[if_true];refine qb (wpAny_rule (qb (wpAny_field p U (x:=.ref TO) U (qb (wpAny_setField_rec p (by simp) λg1 V j=>?_)))));replace V:IsZip g1 z TI TO .ellipsis:=V;refine qb ?_;simp only[List.zipIdx_cons,List.zipIdx_nil,List.forIn_cons,List.forIn_nil];refine qb (qb (wpAny_onRaise ?_));show wpAny _ _ (Builtin.SmallTypes.nextOf (.ref f) >>= _) _ _ _;refine qb (sw (b:=b1) (t1.keep λo e=>j.extBut _ _ r e) (q1.keep λo e=>j.extBut _ _ a1 e) ex λg2 u1 l=>qk ?_);have o2:IsPair g2 TO a b:=l.extBut _ _ B (j.extBut _ _ k hO);refine qb (QE o2 U (qb (wpAny_updateSeq_pair o2 λg3 S m=>qb (wpAny_letGo (qk ?_)))));replace S:IsPair g3 TO x b:=S;refine qb (qb (wpAny_onRaise ?_));show wpAny _ _ (Builtin.SmallTypes.nextOf (.ref h) >>= _) _ _ _;refine qb (sw (b:=b2) (t2.keep λo e=>m.extBut _ _ t.symm (l.extBut _ _ O.symm (j.extBut _ _ C e))) (q2.keep λo e=>m.extBut _ _ a0 (l.extBut _ _ X0 (j.extBut _ _ a2 e))) ey λg4 u2 n=>qk ?_);have o4:IsPair g4 TO x b:=n.extBut _ _ t S;refine qb (QE o4 U (qb (wpAny_updateSeq_pair o4 λd G u=>qb (wpAny_letGo (qk (qk ?_))))));replace G:IsPair d TO x y:=G;refine qb (QE G U (qb (wpAny_newTuple ?_)));have sz:d.objs.size=s.heap.objs.size:=by rw[u.1,n.1,m.1,l.1,j.1]
 have X:IsZip d z TI TO .ellipsis:=u.extBut _ _ k.symm (n.extBut _ _ C.symm (m.extBut _ _ k.symm (l.extBut _ _ r.symm V)));have k5:∀c o,c≠z->c≠TO->c≠f->c≠h->s.heap.get? c=some o->d.get? c=some o:=λc o i H R T e=>u.extBut _ _ H (n.extBut _ _ T (m.extBut _ _ H (l.extBut _ _ R (j.extBut _ _ i e))));have v1:SIt d b1 f l1 (K+1):=u1.keep λo e=>u.extBut _ _ B.symm (n.extBut _ _ O (m.extBut _ _ B.symm e));have v2:SIt d b2 h l2 (F+1):=u2.keep λo e=>u.extBut _ _ t.symm e;have M:z<d.objs.size:=qz X;show wpAny _ _ (Builtin.SmallTypes.ownedTupleHandOut (.ref z) (.ref d.objs.size) >>= _) _ _ _;refine qb ?_;unfold Builtin.SmallTypes.ownedTupleHandOut;have z6:IsZip (d.push { cls:=.type "tuple",data:=.seq #[x,y] }) z TI TO .ellipsis:=qf _ X;refine qb (wpAny_setField_rec z6 (by simp) λg7 P Z=>?_);replace P:IsZip g7 z TI TO (rawInt d.objs.size):=P;refine wpAny_setField_rec P (by simp) λJ L W=>?_;replace L:IsZip J z TI TO (rawInt d.objs.size):=L;have I:∀c o,c≠z->d.get? c=some o->J.get? c=some o:=λc o i e=>W.extBut _ _ i (Z.extBut _ _ i (qf _ e));have t8:IsPair J d.objs.size x y:=W.extBut _ _ (Nat.ne_of_gt M) (Z.extBut _ _ (Nat.ne_of_gt M) (qy _ U));rw[sz]at L t8;refine qk ⟨_,U,?_⟩;show Q (.ref d.objs.size) _;rw[sz];exact q J L (I _ _ k G) (v1.keep λo e=>I _ o r e) (v2.keep λo e=>I _ o C e) t8 λc o i H R T e=>I c o i (k5 c o i H R T e)
theorem zR{z TI TO n r l1 l2:Addr}{L G:Nat}{ys:LD}{a b:Value}{Q:Fin->Shared->Prop}(X:A.handled=none)(D:ZAp z TI TO n r l1 l2)
 (m:IsZip s.heap z TI TO .none) (hI:IsPair s.heap TI (.ref n) (.ref r)) (hO:IsPair s.heap TO a b) (M:SIt s.heap b1 n l1 L) (t2:SIt s.heap b2 r l2 G) (T:SSq s.heap b1 l1 xs) (q2:SSq s.heap b2 l2 ys) (K:xs[L]?=none\/ys[G]?=none)
 (q:∀g e,(∀c o,c≠z->c≠TO->c≠n->c≠r->s.heap.get? c=some o->g.get? c=some o)->(∃o,g.get? e=some o/\o.cls=.type "StopIteration")->E (.ref e) { s with heap:=g }):
 wpAny (model prog w) A (Builtin.«zip.__next__» ⟨[.ref z],[]⟩) Q E s:=by
 obtain⟨⟨_,u,k,C,_,_,_,a0,W,a1⟩,B⟩:=D;obtain⟨y,_,_,_,_⟩:=B l1 (.inl U);obtain⟨V,P,O,_,_⟩:=B l2 (.inr U);show wpAny _ _ (field (.ref z) 2 >>= _) _ _ _;refine qb (wpAny_field m U (x:=.bool false) U ?_);show wpAny _ _ (field (.ref z) 3 >>= _) _ _ _;refine qb (wpAny_field m U (x:=.ref TI) U (qb (QE hI U ?_)));show wpAny _ _ (Builtin.SmallTypes.ownedTupleIsFree (.ref z) >>= _) _ _ _;refine qb ?_;unfold Builtin.SmallTypes.ownedTupleIsFree;refine qb (wpAny_field m U (x:=.none) U (qk ?_));simp only[if_true];refine qb (wpAny_rule (qb (wpAny_field m U (x:=.ref TO) U (qb (wpAny_setField_rec m (by simp) λg1 t d=>?_)))));replace t:IsZip g1 z TI TO .ellipsis:=t;refine qb ?_;simp only[List.zipIdx_cons,List.zipIdx_nil,List.forIn_cons,List.forIn_nil];refine qb (qb (wpAny_onRaise ?_));show wpAny _ _ (Builtin.SmallTypes.nextOf (.ref n) >>= _) _ _ _
 cases ex:xs[L]? with
 |none=>
  refine qb (xO (b:=b1) X (M.keep λo e=>d.extBut _ _ k e) (T.keep λo e=>d.extBut _ _ y e) ex λH v f F=>?_);obtain⟨ov,i,p⟩:=F;have R:IsZip H z TI TO .ellipsis:=f _ _ k.symm t;have I:v≠z:=λh=>by subst h;rw[R]at i;cases i;simp at p
  exact wpAny_setField_rec R (by simp) λX0 _ j=>q X0 v (λc o l _ J _ e=>j.extBut _ _ l (f _ _ J (d.extBut _ _ l e))) ⟨ov,j.extBut _ _ I i,p⟩
 |some x=>
  have ey:ys[G]?=none:=by rcases K with h|h;rw[ex]at h;cases h;exact h
  refine qb (sw (b:=b1) (M.keep λo e=>d.extBut _ _ k e) (T.keep λo e=>d.extBut _ _ y e) ex λH _ f=>qk ?_);have o2:IsPair H TO a b:=f.extBut _ _ a0 (d.extBut _ _ u hO);refine qb (QE o2 U (qb (wpAny_updateSeq_pair o2 λX0 _ j=>qb (wpAny_letGo (qk ?_)))));refine qb (qb (wpAny_onRaise ?_));show wpAny _ _ (Builtin.SmallTypes.nextOf (.ref r) >>= _) _ _ _;refine qb (xO (b:=b2) X (t2.keep λo e=>j.extBut _ _ W.symm (f.extBut _ _ a1.symm (d.extBut _ _ C e))) (q2.keep λo e=>j.extBut _ _ P (f.extBut _ _ O (d.extBut _ _ V e))) ey λg4 v N F=>?_);obtain⟨ov,i,p⟩:=F;have S:IsZip g4 z TI TO .ellipsis:=N _ _ C.symm (j.extBut _ _ u.symm (f.extBut _ _ k.symm t));have I:v≠z:=λh=>by subst h;rw[S]at i;cases i;simp at p
  exact wpAny_setField_rec S (by simp) λg5 _ Z=>q g5 v (λc o l h2 J h4 e=>Z.extBut _ _ l (N _ _ h4 (j.extBut _ _ h2 (f.extBut _ _ J (d.extBut _ _ l e))))) ⟨ov,Z.extBut _ _ I i,p⟩
theorem Inv.turnedL(I:Inv X pins Y H s)(k:∀b o,b∉ch->s.heap.get? b=some o->h'.get? b=some o)(a:∀b∈ch,dQ X pins H b):Inv X pins Y H { s with heap:=h',toks:=t' }:=by
 have d:∀b u,H b=some u->b∉ch:=λb u e z=>by rw[(a b z).1]at e;cases e
 have f:X.env.locals∉ch:=λz=>(a _ z).2.1 U
 refine I.step (g':=s.gens) (d':=s.drawn) (ch:=ch) (λb hb=>⟨(a b hb).2.2.2.1,(a b hb).2.1,(a b hb).2.2.2.2.1,(a b hb).2.2.2.2.2⟩) (λb o _ _ hc e _=>k b o hc e) (λb o _ _ hc e _=>⟨o.slots,k b o hc e⟩) (λ_ _ _ _ n=>n)
  (λb o hc e=>⟨o,k b o hc e⟩) (λ_ _ e=>e) (λ_ _ _ e=>e) (λb ps e=>⟨#[],by rw[e];simp⟩) (λm h=>?_) (λb u e=>?_) I.bare
 .obtain⟨o,es,ep,g,r⟩:=h;exact⟨o,es,ep,k _ o f g,r⟩
 .refine(I.hok b u e).stay (λc v hc q=>k c v ?_ q) (λ_ q=>q) λ_ _ q=>q;rcases hc with z|z
  .rw[z];exact d b u e
  .exact d c _ z
theorem Inv.track{T:Addr}{o:HO}(I:Inv X pins Y H s)(f:dQ X pins H T)(hs:X.s₀.heap.objs.size<=T)(new:bJ X.prog X.w (upd H T o) s.heap T o):Inv X pins Y (upd H T o) s:=by
 obtain⟨a,j,_,_,k,h⟩:=f;have old:∀b u,X.s₀.heap.get? b=some u->b≠T:=λb u e=>qO (qL (qz e) hs);refine⟨I.ok,I.os,I.bare,⟨I.base.keep,I.base.slot,λb u e n l=>?_,I.base.there,λb xs e=>?_,λb u v e=>?_,λb ps e=>?_⟩,I.loc,I.cell,?_,λx c e=>?_,λp g=>?_,λb u e=>?_,I.len⟩
 .rw[af (old b u e)];exact I.base.free b u e n l
 .rw[af (cG (I.base.tups b xs e) a)];exact I.base.tups b xs e
 .rw[af (cG (I.base.frzs b u v e) a)];exact I.base.frzs b u v e
 .obtain⟨more,q⟩:=I.base.tbls b ps e;exact⟨more,by rwa[af (cG q a)]⟩
 .rw[af (Ne.symm j)];exact I.free
 .rw[af (k x c e)];exact I.freeC x c e
 .obtain⟨e,n,ne,i,d⟩:=I.pin p g;exact⟨e,by rwa[af (h p g)],ne,i,d⟩
 .by_cases hb:b=T
  .subst hb;rw[ah]at e;cases e;exact new
  .rw[af hb]at e;exact(I.hok b u e).stay (λc v _ q=>q) (λc q=>by rwa[af (cG q a)]) λc xs q=>by rwa[af (cG q a)]
def SqB(K:W.Frag)(H:Hp):Bool->Addr->LV->Prop
 |false,a,xs=>SqL K H a xs
 |true,a,xs=>SqT K H a xs
theorem SqB.at(I:Inv X pins Y H s):∀{b:Bool}{a:Addr}{xs:LV},SqB X.K H b a xs->∃its:LL,aB xs its/\SSq s.heap b a its.toArray/\xs.length<=sizeLine
 |false,_,_,h=>let ⟨its,r,p,z⟩:=I.list h;⟨its,r,p.isList,z⟩
 |true,_,_,h=>let ⟨its,r,p,z⟩:=I.tuple h;⟨its,r,p,z⟩
theorem SqB.inj(I:Inv X pins Y H s):∀{b:Bool}{a:Addr}{xs ys:LV},SqB X.K H b a xs->SqB X.K H b a ys->xs=ys
 |false,_,_,_,h,h'=>I.list_inj h h'
 |true,_,_,_,h,h'=>I.tuple_inj h h'
noncomputable def Itz(K:W.Frag)(b1 b2:Bool)(l1 l2:Addr):It:=
 ⟨λi H=>∃xs ys x y,SqB K H b1 l1 xs/\SqB K H b2 l2 ys/\xs[i]?=some x/\ys[i]?=some y,
  λi H v H'=>∃p x y,H p=none/\v=.ref p/\H'=upd H p (.tup [x,y])/\(∀xs,SqB K H b1 l1 xs->xs[i]?=some x)/\∀ys,SqB K H b2 l2 ys->ys[i]?=some y,
  λi H=>∃xs ys,SqB K H b1 l1 xs/\SqB K H b2 l2 ys/\(xs.length<=i\/ys.length<=i)⟩
theorem zO{z TI TO d e l1 l2:Addr}{h f:Nat}{ys:LD}{x y a b:Value}{Q:LO->Shared->Prop}(D:ZAp z TI TO d e l1 l2)
 (i:IsZip s.heap z TI TO .none) (v:IsPair s.heap TI (.ref d) (.ref e)) (p:IsPair s.heap TO a b) (j:SIt s.heap b1 d l1 h) (l:SIt s.heap b2 e l2 f) (n:SSq s.heap b1 l1 xs) (r:SSq s.heap b2 l2 ys) (ex:xs[h]?=some x) (k:ys[f]?=some y)
 (q:∀g,IsZip g z TI TO (rawInt s.heap.objs.size)->IsPair g TO x y->SIt g b1 d l1 (h+1)->SIt g b2 e l2 (f+1)->IsPair g s.heap.objs.size x y->(∀c o,c≠z->c≠TO->c≠d->c≠e->s.heap.get? c=some o->g.get? c=some o)->Q (some (.ref s.heap.objs.size)) { s with heap:=g }):
 wpAny (model prog w) A (pyNext (.ref z)) Q E s:=by
 have ty:s.TypeIs (.ref z) "zip":=⟨_,i,U⟩;unfold pyNext;exact qb (wpAny_attempt (wpAny_callSpecial?_slot (name:=Str.ofString "__next__") ty PySem.F.slot_zip_next (Qr PySem.F.slot_zip_next ty PySem.F.entry_zip_next (zQ D i v p j l n r ex k λg u t B m G C=>qk (q g u t B m G C)) (PySem.F.args_zip_next_1 _))))
theorem zP{z TI TO f d l1 l2:Addr}{j i:Nat}{ys:LD}{a b:Value}{Q:LO->Shared->Prop}(l:A.handled=none)(D:ZAp z TI TO f d l1 l2)
 (k:IsZip s.heap z TI TO .none) (x:IsPair s.heap TI (.ref f) (.ref d)) (u:IsPair s.heap TO a b) (p:SIt s.heap b1 f l1 j) (r:SIt s.heap b2 d l2 i) (t:SSq s.heap b1 l1 xs) (m:SSq s.heap b2 l2 ys) (h:xs[j]?=none\/ys[i]?=none)
 (q:∀g,(∀c o,c≠z->c≠TO->c≠f->c≠d->s.heap.get? c=some o->g.get? c=some o)->Q none { s with heap:=g }):wpAny (model prog w) A (pyNext (.ref z)) Q E s:=by
 have ty:s.TypeIs (.ref z) "zip":=⟨_,k,U⟩;unfold pyNext;refine qb (wpAny_attempt (wpAny_callSpecial?_slot (name:=Str.ofString "__next__") ty PySem.F.slot_zip_next (Qr PySem.F.slot_zip_next ty PySem.F.entry_zip_next (zR l D k x u p r t m h λg e hk n=>?_) (PySem.F.args_zip_next_1 _))));obtain⟨o,v,hc⟩:=n;exact qb (wpAny_isInstance (T:="StopIteration") (b:=true) ⟨o,v,hc⟩ isSubtype_stop (qk (q _ hk)))
theorem A7{tp:Pos}(z TI TO p t l1 l2:Addr)(D:ZAp z TI TO p t l1 l2):
 j2 P w K (.Tuple elts kk tp) (Itz K b1 b2 l1 l2) [z,TI,TO,p,t] z (λi h=>IsZip h z TI TO .none/\IsPair h TI (.ref p) (.ref t)/\(∃a b,IsPair h TO a b)/\SIt h b1 p l1 i/\SIt h b2 t l2 i) where
 mem:=by simp
 obj:=λi h st b hb=>by
  obtain⟨m,f,⟨a,c,r⟩,l,n⟩:=st;simp only[qD,qY,or_false]at hb;rcases hb with rfl|rfl|rfl|rfl|rfl
  .exact⟨_,m,λv q=>by cases q⟩
  .exact⟨_,f,λv q=>by cases q⟩
  .exact⟨_,r,λv q=>by cases q⟩
  .obtain⟨o,e,vs,d⟩:=l.obj;exact⟨o,e,λv q=>by rw[d]at q;cases q⟩
  .obtain⟨o,e,vs,d⟩:=n.obj;exact⟨o,e,λv q=>by rw[d]at q;cases q⟩
 keep:=λi h h' st k=>by
  obtain⟨m,f,⟨a,c,r⟩,l,n⟩:=st;exact⟨k z (by simp) _ m,k TI (by simp) _ f,⟨a,c,k TO (by simp) _ r⟩,l.keep λo e=>k p (by simp) o e,n.keep λo e=>k t (by simp) o e⟩
 item:=by
  intro X M hw Q hc i j s S H E I F st L;subst M hw Q;obtain⟨m,f,⟨a,c,r⟩,l,n⟩:=st;obtain⟨xs,ys,x,y,G,C,ex,W⟩:=L;obtain⟨X0,T,N,z1⟩:=SqB.at I G;obtain⟨a8,B,O,z2⟩:=SqB.at I C;obtain⟨u,hu,ru⟩:=T.get ex;obtain⟨v,hv,a0⟩:=B.get W;refine zO D m f r l n N O (x:=u) (y:=v) (by simpa using hu) (by simpa using hv) λg a1 a2 a3 a4 a5 a6=>⟨_,U,?_⟩;refine wpAny_letOwnedTupleGo_zip a1 λg' b0 A=>?_;obtain⟨⟨J,V,Z,b3,a7,a',a9,_,_,_⟩,_⟩:=id D
  have hT:∀b∈[z,TI,TO,p,t],s.heap.objs.size≠b:=λb hb=>by
   have:∃o,s.heap.get? b=some o:=by
    simp only[qD,qY,or_false]at hb;rcases hb with rfl|rfl|rfl|rfl|rfl
    .exact⟨_,m⟩
    .exact⟨_,f⟩
    .exact⟨_,r⟩
    .obtain⟨o,e,_⟩:=l.obj;exact⟨o,e⟩
    .obtain⟨o,e,_⟩:=n.obj;exact⟨o,e⟩
   obtain⟨o,e⟩:=this;exact Nat.ne_of_gt (qz e)
  have kk:∀b o,b∉[z,TI,TO,p,t]->s.heap.get? b=some o->g'.get? b=some o:=λb o hb e=>by
   simp only[qD,qY,or_false,not_or]at hb;exact A.extBut _ _ hb.1 (a6 b o hb.1 hb.2.2.1 hb.2.2.2.1 hb.2.2.2.2 e)
  have I1:Inv X j S H { s with heap:=g' }:=I.turnedL (t':=s.toks) kk F;have pT:IsPair g' s.heap.objs.size u v:=A.extBut _ _ (hT z (by simp)) a5;have fT:dQ X j H s.heap.objs.size:=I.fpOk (qo _) (I.hok.fresh (qo _));have I2:Inv X j S (upd H s.heap.objs.size (.tup [x,y])) { s with heap:=g' }:=I1.track fT I.sz ⟨⟨by show 2<=sizeLine;decide,_,pT,U⟩,[u,v],.cons ru (.cons a0 .nil),⟨_,pT,U,_,U⟩⟩;refine⟨.ref s.heap.objs.size,_,I2,U,⟨_,x,y,I.hok.fresh (qo _),U,U,λ_ h=>by rwa[SqB.inj I h G],λ_ h=>by rw[SqB.inj I h C];exact W⟩,?_,λb hb=>?_⟩
  .exact⟨b0,A.extBut _ _ J (a6 TI _ J a7 a' a9 f),⟨u,v,A.extBut _ _ V a2⟩,a3.keep λo e=>A.extBut _ _ Z e,a4.keep λo e=>A.extBut _ _ b3 e⟩
  .rw[af (Ne.symm (hT b hb))];exact(F b hb).1
 done:=by
  intro X M hw Q hc i j s S H E I F st L;subst M hw Q;obtain⟨m,f,⟨a,c,r⟩,l,n⟩:=st;obtain⟨xs,ys,G,C,R⟩:=L;obtain⟨X0,T,N,z1⟩:=SqB.at I G;obtain⟨a8,B,O,z2⟩:=SqB.at I C;have e1:=T.length;have e2:=B.length
  refine zP (I.ok.hd hc) D m f r l n N O (by
   rcases R with h|h
   .exact .inl (by simp;omega)
   .exact .inr (by simp;omega)) λg k=>⟨U,I.turnedL (t':=s.toks) (ch:=[z,TI,TO,p,t]) (λb o hb e=>?_) F⟩
  simp only[qD,qY,or_false,not_or]at hb;exact k b o hb.1 hb.2.2.1 hb.2.2.2.1 hb.2.2.2.2 e
 self:=λ_ _ _ _ _ st h=>wpAny_pyIter_zip st.1 h
noncomputable def gT(b:Bool)(l:Addr):Obj:={ cls:=.type (if b=true then "tuple_iterator" else "list_iterator"),data:=.fields #[.ref l,.int 0 0] }
theorem SIt.new:∀{b:Bool}{it l:Addr},h.get? it=some (gT b l)->SIt h b it l 0
 |false,_,_,e=>⟨_,e,U,U⟩
 |true,_,_,e=>⟨_,e,U,U⟩
noncomputable def zg2(h:Heap)(b1 b2:Bool)(l1 l2:Addr):Heap:=(h.push (gT b1 l1)).push (gT b2 l2)
noncomputable def zg3(h:Heap)(b1 b2:Bool)(l1 l2:Addr):Heap:=(zg2 h b1 b2 l1 l2).push { cls:=.type "tuple",data:=.seq #[.ref h.objs.size,.ref (h.push (gT b1 l1)).objs.size] }
noncomputable def zg4(h:Heap)(b1 b2:Bool)(l1 l2:Addr):Heap:=(zg3 h b1 b2 l1 l2).push { cls:=.type "tuple",data:=.seq #[.none,.none] }
noncomputable def zg5(h:Heap)(b1 b2:Bool)(l1 l2:Addr):Heap:=(zg4 h b1 b2 l1 l2).push { cls:=.type "zip",data:=.fields #[.none,.bool false,.bool false,.ref (zg2 h b1 b2 l1 l2).objs.size,.ref (zg3 h b1 b2 l1 l2).objs.size] }
theorem yu{l:Addr}:∀{b:Bool},SSq s.heap b l xs->Q (.ref s.heap.objs.size) { s with heap:=s.heap.push (gT b l) }->wpAny (model prog w) A (pyIter (.ref l)) Q E s
 |false,h,q=>wpAny_pyIter_list h q
 |true,h,q=>wpAny_pyIter_tuple h q
theorem SSq.push{h:Heap}{b:Bool}{l:Addr}{xs:LD}(x:SSq h b l xs)(o:Obj):SSq (h.push o) b l xs:=x.keep λ_ e=>qf _ e
set_option maxHeartbeats 8000000 in
theorem zN(b1 b2:Bool)(l1 l2:Addr)(xs ys:LD):
 Meets (Builtin.«zip.__new__» ⟨[.type "zip",.ref l1,.ref l2],[]⟩) (λ_ R s=>SSq s.heap b1 l1 xs/\SSq s.heap b2 l2 ys/\R (.ok (.ret (.ref (zg4 s.heap b1 b2 l1 l2).objs.size))) { s with heap:=zg5 s.heap b1 b2 l1 l2 }):=
 .of_wp λprog w A R s h=>by
  obtain⟨a,g,d,tk,os⟩:=s;obtain⟨b,f,h⟩:=h;have i:=PySem.sub_zip;have e:SSq (Shared.heap ⟨a,g,d,tk,os⟩) b1 l1 xs:=b;have c:SSq (Shared.heap ⟨a.push (gT b1 l1),g,d,tk,os⟩) b2 l2 ys:=SSq.push f _
  wp_walk using yu e,yu c
  exact⟨_,U,h⟩
theorem GD{l1 l2:Addr}{ys:LD}(t:SSq s.heap b1 l1 xs)(u:SSq s.heap b2 l2 ys)
 (h:∀g n,n=s.heap.objs.size->IsZip g (n+4) (n+2) (n+3) .none->IsPair g (n+2) (.ref n) (.ref (n+1))->IsPair g (n+3) .none .none->SIt g b1 n l1 0->SIt g b2 (n+1) l2 0->
  (∀c o,s.heap.get? c=some o->g.get? c=some o)->Q (.ref (n+4)) { s with heap:=g }):wpAny (model prog w) A (call (.type "zip") [.ref l1,.ref l2]) Q E s:=by
 refine callType_new PySem.F.called_zip Yk (PySem.F.typeCall_zip_2 _ _) (PySem.F.newCall_zip_2 _ _) (λobj=>PySem.F.args_object_init_3 obj _ _) PySem.F.entry_zip_new (zN b1 b2 l1 l2 xs ys) ⟨t,u,?_⟩;have i:(s.heap.push (gT b1 l1)).objs.size=s.heap.objs.size+1:=Qo ..;have d:(zg2 s.heap b1 b2 l1 l2).objs.size=s.heap.objs.size+2:=by unfold zg2;rw[Qo,i]
 have f:(zg3 s.heap b1 b2 l1 l2).objs.size=s.heap.objs.size+3:=by unfold zg3;rw[Qo,d]
 have r:(zg4 s.heap b1 b2 l1 l2).objs.size=s.heap.objs.size+4:=by unfold zg4;rw[Qo,f]
 have p:∀{c:Addr}{o:Obj},(zg4 s.heap b1 b2 l1 l2).get? c=some o->(zg5 s.heap b1 b2 l1 l2).get? c=some o:=λq=>qf _ q;have a:∀{c:Addr}{o:Obj},(zg3 s.heap b1 b2 l1 l2).get? c=some o->(zg4 s.heap b1 b2 l1 l2).get? c=some o:=λq=>qf _ q;have b:∀{c:Addr}{o:Obj},(zg2 s.heap b1 b2 l1 l2).get? c=some o->(zg3 s.heap b1 b2 l1 l2).get? c=some o:=λq=>qf _ q;have l:∀{c:Addr}{o:Obj},(s.heap.push (gT b1 l1)).get? c=some o->(zg2 s.heap b1 b2 l1 l2).get? c=some o:=λq=>qf _ q;have e:(zg5 s.heap b1 b2 l1 l2).get? (zg4 s.heap b1 b2 l1 l2).objs.size=some _:=qy _ U;have k:(zg5 s.heap b1 b2 l1 l2).get? (zg3 s.heap b1 b2 l1 l2).objs.size=some _:=p (qy _ U);have j:(zg5 s.heap b1 b2 l1 l2).get? (zg2 s.heap b1 b2 l1 l2).objs.size=some _:=p (a (qy _ U));have m:(zg5 s.heap b1 b2 l1 l2).get? (s.heap.push (gT b1 l1)).objs.size=some _:=p (a (b (qy _ U)));have v:(zg5 s.heap b1 b2 l1 l2).get? s.heap.objs.size=some _:=p (a (b (l (qy _ U))));show _/\_;rw[d,f,r]at e;rw[i,d]at j;rw[f]at k;rw[i]at m;rw[r];exact⟨⟨_,e,U⟩,h _ _ U e j k (SIt.new v) (SIt.new m) λc o x=>p (a (b (l (qf _ x))))⟩
def Fy(K:W.Frag)(ta:TA):TI:=λY H R=>ta Y H λvs H1=>∃b1 b2 l1 l2 xs ys,vs=[.ref l1,.ref l2]/\SqB K H1 b1 l1 xs/\SqB K H1 b2 l2 ys/\R (Itz K b1 b2 l1 l2) H1
theorem CW{a b:Expr}{v:TA}{p N:Pos}(A:Gl X "zip")(y:X.mg "zip"=none)(ha:PA X [a,b] v)(hs:starEach [a,b] X.env=[(false,eval a X.env),(false,eval b X.env)]:=by rfl)(l:starEach [b] X.env=[(false,eval b X.env)]:=by rfl):
 PI X (.Tuple elts kk N) (.Call (.Name "zip" p) [a,b] [] pos) (Fy X.K v):=by
 intro d s O H R I h;refine Call_ (gO I A y PyProof.Rows.Boot.«zip» (PyProof.Rows.callWith_type1 (thn (ha pos d s O H _ I h) λus E ⟨vs,t,f,M,C⟩=>?_) (by rw[hs,l]) (by rw[l];rfl)));obtain⟨b1,b2,l1,l2,xs,ys,rfl,L,J,q⟩:=C;obtain⟨u,_,rfl,F,w⟩:=jQ M;cases F;cases w;obtain⟨_,_,r,_⟩:=SqB.at f L;obtain⟨_,_,m,_⟩:=SqB.at f J;refine GD r m λg n hn x G P B D k=>?_
 have lt:∀c,c=l1\/c=l2->c<n:=λc hc=>by
  rw[hn];rcases hc with rfl|rfl
  .obtain⟨o,e,_⟩:=r.obj;exact qz e
  .obtain⟨o,e,_⟩:=m.obj;exact qz e
 refine wpAny_pyIter_zip x ⟨n+4,[n+4,n+2,n+3,n,n+1],_,_,t,U,f.kept (t':=E.toks) k,A7 (n+4) (n+2) (n+3) n (n+1) l1 l2 ⟨?_,λc hc=>?_⟩,⟨x,G,⟨_,_,P⟩,B,D⟩,λb hb=>?_,q⟩
 .have e:∀i j:Nat,i≠j->n+i≠n+j:=λi j h z=>h (Nat.add_left_cancel z);exact⟨e 2 4 Yk,e 3 4 Yk,e 0 4 Yk,e 1 4 Yk,e 2 3 Yk,e 2 0 Yk,e 2 1 Yk,e 3 0 Yk,e 3 1 Yk,e 0 1 Yk⟩
 .have q:=lt c hc;have e:∀i:Nat,c≠n+i:=λi=>qO (qL q (Nat.le_add_right _ _));exact⟨e 4,e 3,e 0,e 1,e 2⟩
 .have e:∀i:Nat,dQ X d t (n+i):=λi=>f.fpOk (by rw[hn];exact Nat.le_add_right _ _) (f.hok.fresh (by rw[hn];exact Nat.le_add_right _ _));simp only[qD,qY,or_false]at hb;rcases hb with rfl|rfl|rfl|rfl|rfl
  .exact e 4
  .exact e 2
  .exact e 3
  .exact e 0
  .exact e 1
open PySem.Builtin.Str in
@[irreducible] def rStrAny:LV->Hp->VK->Prop:=λxs H Q=>(∃z:Str,xs=[.str z]/\Q (.str z) H)\/∃i:Int,xs=[.int i]/\i.natAbs.log2<1920/\Q (.str (toString i)) H
mutual
inductive Dt(K:W.Frag)(H:Hp):V->PyData->Prop
 |non:Dt K H .non .none
 |bl (b:Bool):Dt K H (.bl b) (.bool b)
 |int (i:Int):Dt K H (.int i) (.int i)
 |str (x:Str):Dt K H (.str x) (.str x)
 |lst {a:Addr}{xs:LV}{ds:List PyData}:SqL K H a xs->fg K H xs ds->Dt K H (.ref a) (.list ds)
 |tup {a:Addr}{xs:LV}{ds:List PyData}:SqT K H a xs->fg K H xs ds->Dt K H (.ref a) (.tuple ds)
inductive fg(K:W.Frag)(H:Hp):LV->List PyData->Prop
 |nil:fg K H [] []
 |cons {v:V}{vs:LV}{d:PyData}{ds:List PyData}:Dt K H v d->fg K H vs ds->fg K H (v::vs) (d::ds)
end
mutual
theorem Dt.reads(I:Inv X pins Y H s):∀{v:V}{d:PyData},Dt X.K H v d->∀{u:Value},aE v u->∃as,Reads s.heap u d as
 |_,_,.non,_,r=>by cases r;exact⟨_,.none⟩
 |_,_,.bl b,_,r=>by cases r;exact⟨_,.bool b⟩
 |_,_,.int i,_,r=>by obtain⟨t,rfl⟩:=r;exact⟨_,.int i t⟩
 |_,_,.str x,_,r=>by obtain⟨t,rfl⟩:=r;exact⟨_,.str x t⟩
 |_,_,.lst hq ha,_,r=>by
  cases r;obtain⟨f,a,⟨o,n,e,c,_,d⟩,_⟩:=I.list hq;obtain⟨as,z⟩:=fg.reads I ha a;exact⟨_,.list e c d (by simpa using z)⟩
 |_,_,.tup hq ha,_,r=>by
  cases r;obtain⟨f,a,⟨o,e,c,n,d⟩,_⟩:=I.tuple hq;obtain⟨as,z⟩:=fg.reads I ha a;exact⟨_,.tuple e c d (by simpa using z)⟩
theorem fg.reads(I:Inv X pins Y H s):∀{vs:LV}{ds:List PyData},fg X.K H vs ds->∀{us:LL},aB vs us->∃as,ReadsAll s.heap us ds as
 |_,_,.nil,_,r=>by cases r;exact⟨_,.nil⟩
 |_,_,.cons h t,_,r=>by
  cases r with
  |cons a c=>
   obtain⟨as,z⟩:=Dt.reads I h a;obtain⟨bs,b⟩:=fg.reads I t c;exact⟨_,.cons z b⟩
end
theorem lZ(l:X.A.units+64<cLine):OpR X (compareOp .NotEq) (λx y H Q=>∃d e,Dt X.K H x d/\Dt X.K H y e/\SeqAt.shaped d=true/\SeqAt.shaped e=true/\Q (.bl (!PyData.eqv d e)) H):=by
 intro _ s _ H x y v u Q I f g h;obtain⟨d,e,a,j,c,b,q⟩:=h;obtain⟨as,k⟩:=a.reads I f;obtain⟨bs,i⟩:=j.reads I g;exact ne_dataH k i c b l ⟨.bl _,H,I,U,q⟩
theorem FN{l1 l2:Addr}{xs ys:LV}{g:TG}(b:Nat->St->Hp->Prop)(h0:b 0 Y H)(hl:∀i Y H,b i Y H->SqB K H b1 l1 xs/\SqB K H b2 l2 ys)
 (hs:∀i x y Y H p,xs[i]?=some x->ys[i]?=some y->b i Y H->H p=none->g (.ref p) Y (upd H p (.tup [x,y])) λc H2=>tb { D with nx:=b (i+1),ct:=b (i+1),bk:=D.nx } c H2) (hd:∀Y H,b (min xs.length ys.length) Y H->D.nx Y H):
 ∃W:Nat->Nat->St->Hp->Prop,(∃m,W 0 m Y H)/\∀i m Y H,W i m Y H->
  ((Itz K b1 b2 l1 l2).stop i H/\D.nx Y H)\/((Itz K b1 b2 l1 l2).go i H/\∃N:St->Hp->Prop,(∀d H',N d H'->∃m',m'<m/\W (i+1) m' d H')/\∀x H',(Itz K b1 b2 l1 l2).yld i H x H'->g x Y H' λc H2=>tb { D with nx:=N,ct:=N,bk:=D.nx } c H2):=by
 exists λi m Y H=>m=min xs.length ys.length-i/\i<=min xs.length ys.length/\b i Y H,⟨_,U,qC _,h0⟩;rintro i m Y H ⟨rfl,_,p⟩;obtain⟨f,h⟩:=hl i Y H p;by_cases hlt:i<min xs.length ys.length
 .have j:i<xs.length:=by omega
  have o:i<ys.length:=Yo;refine .inr ⟨⟨xs,ys,xs[i],ys[i],f,h,by simp[j],by simp[o]⟩,b (i+1),λd H' l=>⟨_,Yo,U,hlt,l⟩,λv H' y=>?_⟩;obtain⟨a,x,y,hn,rfl,rfl,n,k⟩:=y;exact hs i x y Y H a (n xs f) (k ys h) p hn
 .have e:i=min xs.length ys.length:=by omega
  subst e;exact .inl ⟨⟨xs,ys,f,h,Yo⟩,hd Y H p⟩
theorem tK{xs:LV}{g:TG}{f:LV->Hp->Prop}(c:Nat->LV->St->Hp->Prop)(h0:c 0 [] Y H)(l:∀i ys Y H,i<=xs.length->c i ys Y H->ys.length<=i)(o:xs.length<=sizeLine)(hl:∀i ys Y H,c i ys Y H->SqL K H a xs)
 (hs:∀i x ys Y H,xs[i]?=some x->c i ys Y H->g x Y H λd H2=>tt d H2 λb h=>if b=true then te d h λy H4=>c (i+1) (ys++[y]) d H4 else c (i+1) ys d h)
 (hd:∀ys Y H,c xs.length ys Y H->f ys H):∃W:Nat->Nat->LV->St->Hp->Prop,(∃m,W 0 m [] Y H)/\iA (Itl K a) g tt te f W:=by
 exists λi m ys Y H=>m=xs.length-i/\i<=xs.length/\c i ys Y H,⟨_,U,qC _,h0⟩;rintro i m ys Y H ⟨rfl,j,p⟩;have n:=l i ys Y H j p;have q:=hl i ys Y H p;by_cases hlt:i<xs.length
 .refine .inr ⟨⟨xs,xs[i],q,by simp[hlt]⟩,Yo,c (i+1),λ_ _ H' k=>⟨_,Yo,U,hlt,k⟩,λv H' y=>?_⟩;obtain⟨e,y⟩:=y;subst e;exact hs i v ys Y _ (y xs q) p
 .have e:i=xs.length:=by omega
  subst e;exact .inl ⟨⟨xs,q,qo _⟩,Yo,hd ys Y H p⟩
end L2
namespace L2
open PySem PySem.Spec PyProof.Rows
end L2
namespace L2
open PySem PySem.Spec PyProof.Rows PySem.NumText
theorem lX{es:LR}{k:Nat}{t:TGs}(n:Nat)(hc:X.calm=true)(h:PGs (X.comp pins Nc scope fp s H C) es t)
 (hn:(assignEach es (X.comp pins Nc scope fp s H C).env).length=n:=by rfl) (a:(assignEach es (X.comp pins Nc scope fp s H C).env).findIdx? (·.1)=none:=by rfl):PG (X.comp pins Nc scope fp s H C) (.Tuple es k pos) (yz X.K n t):=
 dM (X:=X.comp pins Nc scope fp s H C) hc h hn a
theorem sS{P R:α->Prop}{c A:Prop}{a:Decidable c}{w:α}(hw:¬ c->P w)(rest:∀w,P w->R w)(h:c->(∀w,P w->R w)->A)(e:B=R w:=by rfl):@ite Prop c a A B:=by
 subst e;by_cases hc:c
 .rw[Qa hc];exact h hc rest
 .rw[Q9 hc];exact rest w (hw hc)
end L2
namespace L2
open PySem PySem.Spec PyProof.Rows PySem.W
section
variable {R:Result->Shared->Prop}{d:Drawn}{t:Nat}{os:OsState}
variable {q:Str}{N:Addr}{bs:LL}{sub:LL}
end
section
variable {R:Result->Shared->Prop}{d:Drawn}{t:Nat}{os:OsState}
variable {q:Str}{N x:Addr}{bs:LL}{sub:LL}{v:Value}{o:Obj}{fs:LD}
end
section
variable {R:Result->Shared->Prop}{d:Drawn}{t:Nat}{os:OsState}
variable {q:Str}{N e:Addr}{bs:LL}{sub:LL}
end
section
variable {L e:Addr}{vs:LD}
end
section
variable {cdv:Value}{s0:Shared}{E:XK}
end
section
variable {q:Str}{N:Addr}{bs:LL}{sub:LL}
end
section
variable {CX:CXT}{k:Nat}{p:Pos}{es:LR}{t:TA}
end
section
variable {d:Drawn}{t:Nat}{os:OsState}{e:Addr}
variable {q:Str}{N:Addr}{bs:LL}{sub:LL}
variable {nm' q':Str}{C' N':Addr}{bs' bm':LL}{hdct':Bool}{sn':LS}{sub':LL}{ab':Bool}{col':Option Bool}{dd':Option Addr}{k0' k1' k2' k3' k5':LO}{newId':String}
end
section
variable {vs:LD}{ex:LK}{fl:Value}
end
section
variable {k:Nat}{C0:Addr}{ds:LL}{fx cx y m n:Str}{iy im inn:Nat}{p py cp pm pn pa hpos tpos:Pos}{es:LR}{t:TA}
end
section
variable {d:Drawn}{t:Nat}{os:OsState}{o:Obj}{vs:LD}
 {q:Str}{N:Addr}{bs:LL}{sub:LL}{v:Value}
end
section
variable {d:Drawn}{t:Nat}{os:OsState}{o:Obj}{vs:LD}
 {q:Str}{N:Addr}{bs:LL}{sub:LL}
end
theorem eJ{x y:Int}(c:decide (V.int x=V.int y)=true):x=y:=by injection (Ql c)
theorem f9{x y:Int}(c:¬ decide (V.int x=V.int y)=true):¬ x=y:=λe=>c (Qb (by rw[e]))
noncomputable def txt(v:Value):Str:=match v with|.str x _=>x|_=>""
structure bY(P:Program)(w:World)(es:Array (Int×Value))(t:SetTable)(ys:LS):Prop where
 el:ElemsOf (strKind P w) es.toList
 nd:(es.toList.map λe=>txt e.2).Nodup
 mem:∀k,k∈(es.toList.map λe=>txt e.2)↔k∈ys
 few:es.size<scanBound
 fit:t.fits es.size=true
 led:t.led=!w.params.followText "set-order"
 pl:0<es.size->t.plain=false
theorem mH{k:Str}{v:Value}(h:(strKind P w).is k v=true):txt v=k:=by
 obtain⟨t,rfl⟩:=Value.isStrOf_shape h
 rfl
theorem AR(t:SetTable)(n:Nat):(t.orStandIn n).led=t.led/\(t.plain=false->(t.orStandIn n).plain=false):=by
 unfold SetTable.orStandIn;split
 .exact⟨U,λz=>z⟩
 .exact⟨U,λ_=>U⟩
theorem EZ(t:SetTable)(es:Array (Int×Value))(h:Int)(x:Value):(layNew t es h x).2.1.led=t.led/\(t.plain=false->(layNew t es h x).2.1.plain=false):=by
 unfold layNew;split
 .exact AR (t.put _).1 _
 .exact⟨U,λ_=>U⟩
theorem C8(t:SetTable)(es:Array (Int×Value))(n:Nat):(relayAll t es n).2.1.led=t.led/\(t.plain=false->(relayAll t es n).2.1.plain=false):=by
 unfold relayAll SetTable.standIn;split
 .rename_i t' b a;unfold SetTable.relaid SetTable.laid at a
  have:t'.led=t.led/\t'.plain=t.plain:=by
   simp only[Option.bind_eq_bind,Option.bind_eq_some_iff]at a;obtain⟨ow,_,a⟩:=a;injection a with a;injection a with h1 h2;rw[<- h1];exact⟨U,U⟩
  dsimp only;split
  .exact⟨this.1,λz=>this.2.trans z⟩
  .exact⟨U,λ_=>U⟩
 .exact⟨U,λ_=>U⟩
noncomputable def be(es:Array (Int×Value))(ep:Nat)(t:SetTable):Obj:={ cls:=.type "set",dict:=none,data:=.set es ep t }
theorem nH{es':Array (Int×Value)}{t':SetTable}(b:s.heap.get? a=some (be es ep t)):
 (s.heap.update a (Obj.putSet es' t')).get? a=some (be es' (ep+1) t'):=by
 have hd:(be es ep t).data=.set es ep t:=U;have:=Qp (Obj.putSet es' t') b (by rw[putSet_of es' t' hd];rfl);rw[putSet_of es' t' hd]at this;exact this
theorem zA{k:Str}{tk:Tok}{Q:Bool->Shared->Prop}
 (v:s.heap.get? a=some (be es ep t)) (T:bY P w es t ys) (room:es.size+1<scanBound)
 (h:∀(b:Bool) h' es' l t',Heap.SameBut a s.heap h'->h'.get? a=some (be es' l t')->bY P w es' t' (ys++[k])->es'.size<=es.size+1->Q b { s with heap:=h' }):
 wpAny (model P w) A (setAddHashed a (.str k tk) (hashStr w k)) Q E s:=by
 have C:(strKind P w).is k (.str k tk)=true:=by
  show Value.isStrOf k (.str k tk)=true;simp[Value.isStrOf]
 have B:(Value.str k tk).scannable=true:=U;have hd:(be es ep t).data=.set es ep t:=U;unfold setAddHashed setAddHashedIn;refine QD (qb (Q6 v hd T.fit ?_));dsimp only;rw[byScan_of B T.few T.el];simp only[↓reduceIte];unfold setAddByScan;refine qb ?_;refine qb (wpAny_rule ?_);refine qb (wpAny_setScan_of (knd:=strKind P w) (k:=k) C v hd T.fit T.el ?_)
 cases hr:List.findIdx? (λe=>(strKind P w).is k e.2) es.toList with
 |some j=>
  dsimp only;obtain⟨hj,a0,_⟩:=List.findIdx?_eq_some_iff_getElem.mp hr;refine qk (qk ?_);have:=h false s.heap es ep t (Heap.SameBut.refl a s.heap) v ⟨T.el,T.nd,λH=>?_,T.few,T.fit,T.led,T.pl⟩ Yo
  .exact this
  .rw[T.mem H,qr,Q0];refine⟨.inl,λz=>z.elim id λe=>?_⟩;rw[<- T.mem,e,<- mH a0];exact List.mem_map.mpr ⟨_,List.getElem_mem hj,U⟩
 |none=>
  dsimp only
  have N:k∉es.toList.map λe=>txt e.2:=by
   intro hm;obtain⟨e,he,hk⟩:=List.mem_map.mp hm;have hn:=List.findIdx?_eq_none_iff.mp hr e he;obtain⟨⟨H,L,_⟩,_⟩:=T.el e he;rw[mH L]at hk;subst hk;rw[L]at hn;cases hn
  have J:∀(b:Bool){o:Shared}{X0:Unit->Shared->Prop},X0 () o->wpAny (model P w) A (match b with|true=>rule "set.scan.the-table-gave-way"|false=>pure ()) X0 E o:=by
   intro b o X0 hq;cases b
   .exact qk hq
   .exact wpAny_rule hq
  have f:=layNew_perm t es (hashStr w k) (.str k tk);have i:=layNew_fits t es (hashStr w k) (.str k tk);have n:=EZ t es (hashStr w k) (.str k tk);show wpAny _ _ (match layNew t es (hashStr w k) (.str k tk)with|(es,t,wasDummy,gave)=>_) _ _ _;generalize layNew t es (hashStr w k) (.str k tk)=Ln at f i n ⊢;obtain⟨c,t1,wd,gv⟩:=Ln;dsimp only at f i n ⊢;rw[Array.toList_push]at f;have Z:c.size=es.size+1:=by rw[<- qU,f.length_eq,qh,qU];rfl
  have I:∀(g:Array (Int×Value))(d:SetTable),g.toList.Perm c.toList->d.fits g.size=true->d.led=t.led->d.plain=false->bY P w g d (ys++[k]):=λg d u W hl m=>by
   have q:=u.trans f;refine⟨(T.el.push C B).perm q,?_,λH=>?_,?_,W,hl.trans T.led,λ_=>m⟩
   .refine(q.map _).nodup_iff.mpr ?_;rw[qW,List.nodup_append];refine⟨T.nd,by simp,λx hx y hy=>?_⟩;simp only[qZ,List.map_nil,Q0]at hy;rintro rfl;rw[hy]at hx;exact N hx
   .rw[(q.map _).mem_iff,qW,qr,T.mem H,qr]
    rfl
   .rwa[<- qU,q.length_eq,qh,qU]
  refine qb (J _ ?_)
  have F:∀d:SetTable,d.fits c.size=true->d.led=t.led->d.plain=false->∀R:Option Bool->Shared->Prop,(∀h' es' l t',Heap.SameBut a s.heap h'->h'.get? a=some (be es' l t')->bY P w es' t' (ys++[k])->es'.size<=es.size+1->R (some true) { s with heap:=h' })->
   wpAny (model P w) A (do
    storeSet a c d
    if(!wd && d.tooFull)=true then do
     (match(relayAll d c (SetTable.grown c.size)).2.2 with|true=>rule "set.scan.the-table-gave-way"|false=>pure ())
     storeSet a (relayAll d c (SetTable.grown c.size)).1 (relayAll d c (SetTable.grown c.size)).2.1
     pure (some true)
    else pure (some true)) R E s:=λd W hl m R hR=>by
   have p:c.size<=sizeLine:=fits_of_scanBound (by rwa[Z]);refine qb (wpAny_storeSet_of v hd ?_ p);have G:=nH (s:=s) (es':=c) (t':=d) v;have K:=Heap.SameBut.update s.heap a (Obj.putSet c d);split
   .have u:=relayAll_perm d c (SetTable.grown c.size);have D:=relayAll_fits d c (SetTable.grown c.size);have r:=C8 d c (SetTable.grown c.size);generalize relayAll d c (SetTable.grown c.size)=Rl at u D r ⊢;obtain⟨g,t3,g2⟩:=Rl;dsimp only at u D r ⊢;have O:g.size=c.size:=by rw[<- qU,u.length_eq,qU]
    refine qb (J _ ?_);refine qb (wpAny_storeSet_of (s:={ s with heap:=s.heap.update a (Obj.putSet c d) }) G U ?_ (by rwa[O]));exact qk (hR _ g _ t3 (K.trans (Heap.SameBut.update _ a _)) (nH (s:={ s with heap:=s.heap.update a (Obj.putSet c d) }) G) (I g t3 u D (r.1.trans hl) (r.2 m)) Yo)
   .exact qk (hR _ c _ d K G (I c d (.refl _) W hl m) Yo)
  split
  .refine qb ?_;rw[hashByValue_scannable 8 B];refine qk ?_;refine F _ (SetTable.fits_plain_off i) n.1 U _ λh' es' l t' V S X M=>?_;exact qk (h true h' es' l t' V S X M)
  .rename_i m;refine qb (qk ?_);simp only[↓reduceIte];refine F _ i n.1 (by simpa using m) _ λh' es' l t' V S X M=>?_;exact qk (h true h' es' l t' V S X M)
theorem FU{R:Result->Shared->Prop}{c:LK}{PI:Nat->Value->Prop}{St:Nat->Shared->Prop}
 (W:WalksS P w A.in1 I fp c G n PI St) (S:Addr) (f:S∉fp) (zs:LS) (D:∀i v,PI i v->∃k t,zs[i]?=some k/\v=.str k t) (hb:n+1<scanBound):
 ∀(k i:Nat)(s:Shared),n-i=k->i<=n->St i s->
  (∃es ep t,s.heap.get? S=some (be es ep t)/\bY P w es t (zs.take i)/\es.size<=i)->
  (∀s',Moved (S::c) G s s'->(∃es ep t,s'.heap.get? S=some (be es ep t)/\bY P w es t (zs.take n)/\es.size<=n)->R (.ok (.ret .none)) s')->
  codeAny (model P w) A (.builtin "set.update.loop" ⟨[.ref S,.ref I],[]⟩) R s:=by
 have g:S∉c:=λz=>f (W.sub _ z);have u:∀b∈c,b∈S::c:=λb z=>qv _ z;intro k
 induction k with
 |zero=>
  intro i s hk L d j p;obtain rfl:i=n:=Yo;refine codeAny_builtin PyProof.Rows.F.entry_set_update_loop ?_;rw[Around.under_plainId PyProof.Rows.F.plain_set_update_loop _];show wpAny _ A.in1 (pyNext (.ref I) >>= _) _ _ s;refine qb (W.done s _ _ d λs' a=>?_);show wpAny _ A.in1 (ret Value.none) _ _ s';obtain⟨es,ep,t,h,l,y⟩:=j;exact qk (p s' (a.mono u) ⟨es,ep,t,a.heap S _ g h,l,y⟩)
 |succ k J=>
  intro i s hk L d j p;have lt:i<n:=Yo;refine codeAny_builtin PyProof.Rows.F.entry_set_update_loop ?_;rw[Around.under_plainId PyProof.Rows.F.plain_set_update_loop _];show wpAny _ A.in1 (pyNext (.ref I) >>= _) _ _ s;refine qb (W.item i s _ _ lt d λv s' H m a=>?_);obtain⟨z,t,B,rfl⟩:=D i v H;obtain⟨es,ep,_,h,l,y⟩:=j;have C:=a.heap S _ g h;show wpAny _ A.in1 (holding [Value.str z t] (setAdd S (.str z t)) >>= _) _ _ s';refine qb (QD ?_);unfold setAdd;refine QD ?_;refine qb (wpAny_pyHash_str ?_);refine zA (s:={ s' with toks:=s'.toks+1 }) C l Yo λb h' es' r t' x K E _=>?_;have e:zs.take (i+1)=zs.take i++[z]:=by rw[qA,B];rfl
  refine qk ⟨plainId_quiet PyProof.Rows.F.plain_set_update_loop _,J (i+1) _ Yo lt (W.frame _ s' _ _ m (Nat.le_succ _) λb hb o q=>?_) ⟨es',r,t',K,by rw[e];exact E,Yo⟩ λM O N=>?_⟩
  .rw[x.2 b λz:b=S=>f (by rwa[<- z])];exact q
  .refine p M (Moved.trans W.gtrans ((a.mono u).then_heap (Nat.le_succ _) λb o hb q=>?_) O) N;rw[x.2 b λz:b=S=>hb (by rw[z];exact qw)];exact q
theorem fZ:Slot "set_iterator" "__next__" "set_iterator.__next__":=
 .of (owner:="set_iterator") (n:="__next__") (by rw[typeLookup_type,builtinLookup_eq_fast];kernel_rfl) Yd Yd Yd (.inl Yd) (by rw[isSubtype_type];kernel_rfl)
theorem kZ:entryFor table "set_iterator.__next__"=some Builtin.«set_iterator.__next__»:=entryFor_of_tree (by kernel_rfl)
theorem ly(a:Value):argsOk "set_iterator.__next__" ⟨[a],[]⟩:=by unfold argsOk;kernel_rfl
theorem wn:Slot "set_iterator" "__iter__" "set_iterator.__iter__":=
 .of (owner:="set_iterator") (n:="__iter__") (by rw[typeLookup_type,builtinLookup_eq_fast];kernel_rfl) Yd Yd Yd (by first|exact .inl Yd|exact .inr Yd) (by rw[isSubtype_type];kernel_rfl)
theorem B3:entryFor table "set_iterator.__iter__"=some Builtin.«dict_keyiterator.__iter__»:=entryFor_alias (id':="dict_keyiterator.__iter__") (by kernel_rfl) U Yd (by kernel_rfl)
theorem B4(a:Value):argsOk "set_iterator.__iter__" ⟨[a],[]⟩:=by unfold argsOk;kernel_rfl
theorem Br:entryFor table "set.__iter__"=some Builtin.«frozenset.__iter__»:=entryFor_alias (id':="frozenset.__iter__") (by kernel_rfl) U Yd (by kernel_rfl)
noncomputable def eG(F:Value)(i:Nat)(a:Addr)(n ep:Nat):Obj:={ cls:=.type "set_iterator",data:=.fields #[F,.int i 0,.ref a,.int n 0,.int ep 0] }
theorem gY{Q:Array (Int×Value)->Shared->Prop}(b:s.heap.get? a=some (be es ep t))(c:t.fits es.size=true)(h:Q es s):
 wpAny (model P w) A (setEntries a) Q E s:=by
 unfold setEntries;exact qb (Q6 b U c (qk h))
theorem B6{d:Addr}{p:Nat}{c:LD}{x:Int×Value}{nn:Nat}{g:Obj}{tk:Tok}{Q:LO->Shared->Prop}
 (b:s.heap.get? I=some (eG (.ref d) i a n ep)) (hs:s.heap.get? a=some (be es ep t)) (f:t.fits es.size=true) (hn:es.size=n)
 (ht:s.heap.get? d=some g) (j:g.data=.seq c nn) (l:c[i]?=some (.int (p:Int) tk)) (k:es[p]?=some x)
 (h:∀h',h'.get? I=some (eG (.ref d) (i+1) a n ep)->Heap.SameBut I s.heap h'->Q (some x.2) { s with heap:=h' }):
 wpAny (model P w) A (pyNext (.ref I)) Q E s:=by
 have ty:s.TypeIs (.ref I) "set_iterator":=⟨_,b,U⟩;unfold pyNext;refine qb (wpAny_attempt (wpAny_callSpecial?_slot (name:=Str.ofString "__next__") ty fZ (Qr fZ ty kZ ?_ (ly _))));unfold Builtin.«set_iterator.__next__»;refine qb (qk ?_);refine qb (wpAny_fieldsOf b U ?_);dsimp only;refine qb (gY hs f ?_);have ne:((es.size:Int) != (n:Int))=false:=by rw[hn];simp
 rw[ne,Q9 qt];refine qb (QE ht j ?_);dsimp only;rw[Q7,l];dsimp only;refine qb ?_;unfold setNextDrawn;refine qb (Q6 hs U f ?_);dsimp only;have e:(ep != (ep:Int).toNat)=false:=by rw[Q7];simp
 rw[e,Q9 qt,Q7,k];dsimp only;refine qk ?_;refine qb (wpAny_setField b U (by simp) (qk ⟨_,U,qk (h _ ?_ (Heap.SameBut.update ..))⟩));have:=Qp (Obj.mapFields (·.setIfInBounds 1 (rawInt ((i:Int)+1)))) b U;exact this
theorem uN{Q:LO->Shared->Prop}(d:A.handled=none)(h:∀h',(∀b o,s.heap.get? b=some o->h'.get? b=some o)->Q none { s with heap:=h' }):
 wpAny (model P w) A.in1 (newExc (.type "StopIteration") [] >>= λx=>(raiseNew x:Sem Fin)) (λfin s'=>∃v,fin=Fin.done (Flow.ret v)/\wpAny (model P w) A (pure (some v)) Q E s')
  (λe s'=>wpAny (model P w) A (do if <- isInstance e (Value.type "StopIteration")then pure none else throw e) Q E s') s:=by
 refine qb ?_;simp only[newExc,newTuple];refine qb (wpAny_newObj_type ?_ (by size_fits));refine qb (m:=firstArgMember _ _) (wpAny_of_eq (a:=Value.none) (by first|rfl|(simp only[firstArgMember];rfl)) ?_);refine wpAny_newObj_type ?_ (by size_fits);simp only[raiseNew];refine qb (wpAny_handled ?_);have c:A.in1.handled=none:=d;rw[c];refine qb (qk (wpAny_throw ?_));refine qb (wpAny_isInstance (T:="StopIteration") (b:=true) ⟨_,qy _ U,U⟩ isSubtype_stop ?_);exact qk (h _ λb o e=>qf _ (qf _ e))
theorem B5{f:Addr}{d:LD}{nn:Nat}{g:Obj}{Q:LO->Shared->Prop}(l:A.handled=none)
 (c:s.heap.get? I=some (eG (.ref f) i a n ep)) (hs:s.heap.get? a=some (be es ep t)) (m:t.fits es.size=true) (hn:es.size=n)
 (ht:s.heap.get? f=some g) (j:g.data=.seq d nn) (q:d[i]?=none)
 (h:∀h',(∀b o,b≠I->s.heap.get? b=some o->h'.get? b=some o)->Q none { s with heap:=h' }):
 wpAny (model P w) A (pyNext (.ref I)) Q E s:=by
 have ty:s.TypeIs (.ref I) "set_iterator":=⟨_,c,U⟩;unfold pyNext;refine qb (wpAny_attempt (wpAny_callSpecial?_slot (name:=Str.ofString "__next__") ty fZ (Qr fZ ty kZ ?_ (ly _))));unfold Builtin.«set_iterator.__next__»;refine qb (qk ?_);refine qb (wpAny_fieldsOf c U ?_);dsimp only;refine qb (gY hs m ?_);have ne:((es.size:Int) != (n:Int))=false:=by rw[hn];simp
 rw[ne,Q9 qt];refine qb (QE ht j ?_);dsimp only;rw[Q7,q];dsimp only;refine qb (wpAny_setField c U (by simp) ?_);have p:=Qp (Obj.mapFields (·.setIfInBounds 0 (rawInt 0))) c U;refine qb (wpAny_setField p U (by simp) ?_);refine uN l λh' k=>h h' λb o hb e=>k b o ?_;exact(QB _ _ (Ne.symm hb)).trans ((QB _ _ (Ne.symm hb)).trans e)
theorem wm{sl sl':Nat}{x:Value}{Q:LO->Shared->Prop}
 (b:s.heap.get? I=some (eG (.int (sl:Int) 0) i a n ep)) (hs:s.heap.get? a=some (be es ep t)) (f:t.fits es.size=true) (hn:es.size=n)
 (g:∀c:Option (Value×Nat)->Shared->Prop,∀e,c (some (x,sl')) s->wpAny (model P w) A.in1 (setNext a sl i ep) c e s)
 (h:∀h',h'.get? I=some (eG (.int (sl':Int) 0) (i+1) a n ep)->Heap.SameBut I s.heap h'->Q (some x) { s with heap:=h' }):
 wpAny (model P w) A (pyNext (.ref I)) Q E s:=by
 have ty:s.TypeIs (.ref I) "set_iterator":=⟨_,b,U⟩;unfold pyNext;refine qb (wpAny_attempt (wpAny_callSpecial?_slot (name:=Str.ofString "__next__") ty fZ (Qr fZ ty kZ ?_ (ly _))));unfold Builtin.«set_iterator.__next__»;refine qb (qk ?_);refine qb (wpAny_fieldsOf b U ?_);dsimp only;refine qb (gY hs f ?_);have ne:((es.size:Int) != (n:Int))=false:=by rw[hn];simp
 rw[ne,Q9 qt,Q7,Q7,Q7];refine qb (g _ _ ?_);dsimp only;refine qb (wpAny_setField b U (by simp) ?_);have d:=Qp (Obj.mapFields (·.setIfInBounds 0 (rawInt (sl':Int)))) b U;refine qb (wpAny_setField d U (by simp) (qk ⟨_,U,qk (h _ ?_ ((Heap.SameBut.update ..).trans (Heap.SameBut.update ..)))⟩));exact Qp (Obj.mapFields (·.setIfInBounds 1 (rawInt ((i:Int)+1)))) d U
theorem nV{sl:Nat}{Q:LO->Shared->Prop}(f:A.handled=none)
 (c:s.heap.get? I=some (eG (.int (sl:Int) 0) i a n ep)) (hs:s.heap.get? a=some (be es ep t)) (j:t.fits es.size=true) (hn:es.size=n)
 (l:∀d:Option (Value×Nat)->Shared->Prop,∀g,d none s->wpAny (model P w) A.in1 (setNext a sl i ep) d g s)
 (h:∀h',(∀b o,b≠I->s.heap.get? b=some o->h'.get? b=some o)->Q none { s with heap:=h' }):
 wpAny (model P w) A (pyNext (.ref I)) Q E s:=by
 have ty:s.TypeIs (.ref I) "set_iterator":=⟨_,c,U⟩;unfold pyNext;refine qb (wpAny_attempt (wpAny_callSpecial?_slot (name:=Str.ofString "__next__") ty fZ (Qr fZ ty kZ ?_ (ly _))));unfold Builtin.«set_iterator.__next__»;refine qb (qk ?_);refine qb (wpAny_fieldsOf c U ?_);dsimp only;refine qb (gY hs j ?_);have ne:((es.size:Int) != (n:Int))=false:=by rw[hn];simp
 rw[ne,Q9 qt,Q7,Q7,Q7];refine qb (l _ _ ?_);dsimp only;refine qb (wpAny_setField c U (by simp) ?_);refine uN f λh' k=>h h' λb o hb e=>k b o ?_;exact(QB _ _ (Ne.symm hb)).trans e
theorem kY{b:Value}(c:s.heap.get? I=some (eG b i a n ep))(h:Q (.ref I) s):wpAny (model P w) A (pyIter (.ref I)) Q E s:=by
 have ty:s.TypeIs (.ref I) "set_iterator":=⟨_,c,U⟩;refine wpAny_pyIter_slot ty wn (Qr wn ty B3 ?_ (B4 _));show wpAny _ _ (ret (.ref I)) _ _ s;exact qk ⟨_,U,"set_iterator",_,ty,fZ.lookup,h⟩
theorem zU{a:Source}{Q:Nat->Shared->Prop}(hn:n≠0)(h:∀i d,i<n->Q i { s with drawn:=d }):wpAny (model P w) A (choose a n) Q E s:=λΓ p _=>by
 show Sem.wp _ _ (.choose a n .pure) _ _ _ _;rw[Sem.wp_choose];exists hn;have:=h ((model P w).w.draws a (s.drawn.get a) % n) (s.drawn.bump a) (Nat.mod_lt _ (Nat.pos_of_ne_zero hn));simpa using this
theorem xg{xs:List α}{x:α}(h:xs[i]?=some x):(x::xs.eraseIdx i).Perm xs:=by
 induction xs generalizing i with
 |nil=>simp at h
 |cons y r a=>
  cases i with
  |zero=>simp at h;subst h;exact .refl _
  |succ j=>
   simp only[List.getElem?_cons_succ]at h;exact(List.Perm.swap y x _).trans ((a h).cons y)
theorem tE{a:Type}:∀(n:Nat)(xs:List a)(s:Shared)(Q:List a->Shared->Prop),xs.length=n->(∀ys d,ys.Perm xs->Q ys { s with drawn:=d })->wpAny (model P w) A (drawOrder n xs) Q E s
 |0,xs,s,Q,hn,h=>by
  obtain rfl:=List.length_eq_zero_iff.mp hn;exact qk (h [] s.drawn (.refl _))
 |n+1,[],s,Q,hn,h=>by cases hn
 |n+1,x::r,s,Q,hn,h=>by
  unfold drawOrder;refine qb (zU (by simp) λi d b=>?_);have e:(x::r)[i]?=some (x::r)[i]:=qi b;rw[e];dsimp only;refine qb (tE n _ _ _ (by rw[List.length_eraseIdx_of_lt b];omega) λys d' c=>qk ?_);exact h _ d' ((c.cons _).trans (xg e))
theorem xf{b:Type}(next:Nat->Nat):∀(a k:Nat)(left:List b)(out:Array b),left.length=a->(pickOrder.go next a k left out).toList.Perm (out.toList++left)
 |0,k,left,out,h=>by
  obtain rfl:=List.length_eq_zero_iff.mp h;unfold pickOrder.go;rw[qG]
 |a+1,k,left,out,h=>by
  unfold pickOrder.go;have c:next k % left.length<left.length:=Nat.mod_lt _ Yo
  have e:=qi c;rw[e];dsimp only;refine(xf next a (k+1) _ _ (by rw[List.length_eraseIdx_of_lt c];omega)).trans ?_;rw[Array.toList_push,qV];exact(List.Perm.refl _).append (xg e)
theorem xc(next:Nat->Nat)(xs:Array α):(pickOrder next xs).toList.Perm xs.toList:=by
 have:=xf next xs.size 0 xs.toList #[] qU
 simpa[pickOrder]using this
theorem iY{Q:Bool->Shared->Prop}(h:Q (w.params.followText "set-order") s):wpAny (model P w) A setsByText Q E s:=by
 unfold setsByText;exact qb (wpAny_askSetting (qk h))
structure Hi(P:Program)(w:World)(es:Array (Int×Value))(a:Addr)(s s':Shared)(I:Addr):Prop where
 ex:∃(fp:LK)(vs:LL)(St:Nat->Heap->Prop),vs.Perm (es.toList.map (·.2))/\(∀A:Around,A.handled=none->Walks P w A I fp [I] vs.length (λi v=>vs[i]?=some v) St)/\St 0 s'.heap/\(∀b∈fp,b<s'.heap.objs.size/\(b=a\/s.heap.get? b=none))/\I∈fp
 old:∀b o,s.heap.get? b=some o->s'.heap.get? b=some o
 new:s.heap.get? I=none
 gens:s'.gens=s.gens
 os:s'.os=s.os
 toks:s'.toks=s.toks
theorem FS(h:t.fits n=true):t.place.size=n:=by
 simp only[SetTable.fits,Bool.and_eq_true,beq_iff_eq]at h;exact h.1
theorem i7(k:h.objs.size<=b):h.get? b=none:=by
 cases q:h.get? b with
 |none=>rfl
 |some o=>exact Qd (qL (qz q) k) (Qk _)
theorem Fq(hs:s.heap.get? a=some (be es ep t))(T:bY P w es t ys)
 (h:∀s' I,Hi P w es a s s' I->Q (.ref I) s'):wpAny (model P w) A (pyIter (.ref a)) Q E s:=by
 have ty:s.TypeIs (.ref a) "set":=⟨_,hs,U⟩;have y:a<s.heap.objs.size:=qz hs;refine wpAny_pyIter_slot ty F.slot_set_iter (Qr F.slot_set_iter ty Br ?_ (F.args_set_iter_1 _));unfold Builtin.«frozenset.__iter__»;refine qb (qk ?_);refine qb ?_;unfold Builtin.Frozenset.sizeOf;refine qb (gY hs T.fit (qk ?_));refine qb ?_;unfold setDrawn;refine qb (Q6 hs U T.fit ?_);dsimp only;refine qb (iY (qk ?_))
 have V:∀(H:Value)(c:Shared),c.heap.get? a=some (be es ep t)->(∀it s',it=.ref c.heap.objs.size->s'={ c with heap:=c.heap.push (eG H 0 a es.size ep) }->Q it s')->
  wpAny (model P w) A.in1 (do
   let e <- setEpoch a
   let x <- newFields "set_iterator" [H,rawInt 0,.ref a,rawInt (es.size:Int),rawInt (e:Int)]
   ret x) (λfin s'=>∃v,fin=Fin.done (Flow.ret v)/\∃T' r,s'.TypeIs v T'/\typeLookup (Value.type T') (Str.ofString "__next__")=pure (some r)/\Q v s') E c:=λH c m hq=>by
  refine qb (wpAny_setEpoch_of m U T.fit ?_);unfold newFields;refine qb (wpAny_newObj_type ?_);refine qk ⟨_,U,"set_iterator",_,⟨_,qy _ U,U⟩,fZ.lookup,hq _ _ U U⟩
 show wpAny _ _ (if(!w.params.followText "set-order" && (!t.plain && decide (es.size > 1)))=true then _ else _) _ _ _;have W:=FS T.fit;by_cases hb:w.params.followText "set-order"=true
 .rw[hb];simp only[Bool.not_true,Bool.false_and,Qs,if_false];refine qb (qk ?_);refine V _ s hs λit s' K G=>?_;subst K G;have pp:=xc (w.params.setOrder a ep) es;have pl:((pickOrder (w.params.setOrder a ep) es).toList.map (·.2)).length=es.size:=by rw[qc,pp.length_eq,qU]
  have nx:∀(B:Around)(i:Nat)(c:Shared)(f:Option (Value×Nat)->Shared->Prop) l,c.heap.get? a=some (be es ep t)->f (((pickOrder (w.params.setOrder a ep) es)[i]?).map λe=>(e.2,0)) c->wpAny (model P w) B (setNext a 0 i ep) f l c:=λB i c f l m q=>by
   unfold setNext;refine qb (Q6 m U T.fit ?_);dsimp only;refine qb (iY ?_);rw[hb,Qa U];have ne:(ep != ep)=false:=by simp
   rw[ne,Q9 qt];refine qb ?_;unfold setWalk;refine qb (Q6 m U T.fit ?_);dsimp only;refine qb (iY ?_);rw[hb,Qa U];refine qb (wpAny_askSetting (qk ?_));exact qk q
  have O:a≠s.heap.objs.size:=qO y;refine h _ _ ⟨⟨[s.heap.objs.size,a],(pickOrder (w.params.setOrder a ep) es).toList.map (·.2),λi h'=>h'.get? s.heap.objs.size=some (eG (.int 0 0) i a es.size ep)/\h'.get? a=some (be es ep t),pp.map _,λB D=>?_,⟨qy _ U,qf _ hs⟩,?_,by simp⟩,λb o e=>qf _ e,?_,U,U,U⟩
  .refine⟨λb hb=>by simp at hb;simp[hb],λi m L st k=>⟨k _ (by simp) _ st.1,k _ (by simp) _ st.2⟩,λi c f l u st q=>?_,λc f l st q=>?_,λi c f l st q=>kY st.1 q⟩
   .have n:i<(pickOrder (w.params.setOrder a ep) es).size:=by rw[qc,qU]at u;exact u
    refine wm (sl:=0) (sl':=0) (x:=(pickOrder (w.params.setOrder a ep) es)[i].2) st.1 st.2 T.fit U (λX0 Z C=>nx _ _ _ _ _ st.2 (by rw[Array.getElem?_eq_getElem n];exact C)) λh' M z=>q _ h' c.toks ?_ ⟨M,?_⟩ λb o hb e=>?_
    .simp[n]
    .rw[z.2 _ O];exact st.2
    .rwa[z.2 _ (by simpa using hb)]
   .have n:(pickOrder (w.params.setOrder a ep) es)[((pickOrder (w.params.setOrder a ep) es).toList.map (·.2)).length]?=none:=by simp
    exact nV (sl:=0) D st.1 st.2 T.fit U (λX0 Z C=>nx _ _ _ _ _ st.2 (by rw[n];exact C)) λh' g=>q h' c.toks λb o hb e=>g b o (by simpa using hb) e
  .intro b hb;simp only[qD,qY,or_false]at hb;rw[Qo];rcases hb with rfl|rfl
   .exact⟨Qj _,.inr (i7 (qo _))⟩
   .exact⟨Qy y,.inl U⟩
  .exact i7 (qo _)
 .have J:w.params.followText "set-order"=false:=by simpa using hb
  rw[J];have led:t.led=true:=by rw[T.led,J];rfl
  by_cases hz:es.size > 1
  .have hp:=T.pl Yo;rw[hp];simp only[Bool.not_false,Bool.true_and,hz,decide_true,if_true];refine qb (tE _ _ _ _ (by simp) λps d N=>?_);refine qb (wpAny_newTuple ?_ (by rw[qc,N.length_eq,Qm];exact fits_of_scanBound T.few));refine V _ _ (qf _ hs) λit s' K G=>?_;subst K G;dsimp only;have lt:∀p∈ps,p<es.size:=λp hm=>List.mem_range.mp (N.mem_iff.mp hm);have sz:(s.heap.push { cls:=.type "tuple",data:=.seq (ps.map λi:Nat=>rawInt i).toArray }).objs.size=s.heap.objs.size+1:=Qo ..
   have vp:(ps.map λp=>(es.toList.map (·.2)).getD p .none).Perm (es.toList.map (·.2)):=by
    refine(N.map _).trans ?_
    have e:(List.range es.size).map (λp=>(es.toList.map (·.2)).getD p .none)=es.toList.map (·.2):=by
     refine List.ext_getElem (by simp) λi m L=>?_;simp only[List.getElem_map,List.getElem_range];rw[qu,qi L];simp
    rw[e]
   have O:a≠(s.heap.push { cls:=.type "tuple",data:=.seq (ps.map λi:Nat=>rawInt i).toArray }).objs.size:=by rw[sz];exact qO (Qy y)
   have nT:s.heap.objs.size≠(s.heap.push { cls:=.type "tuple",data:=.seq (ps.map λi:Nat=>rawInt i).toArray }).objs.size:=by rw[sz];exact qO (Qj _)
   refine h _ _ ⟨⟨[(s.heap.push { cls:=.type "tuple",data:=.seq (ps.map λi:Nat=>rawInt i).toArray }).objs.size,a,s.heap.objs.size],ps.map λp=>(es.toList.map (·.2)).getD p .none,
    λi h'=>h'.get? (s.heap.push { cls:=.type "tuple",data:=.seq (ps.map λi:Nat=>rawInt i).toArray }).objs.size=some (eG (.ref s.heap.objs.size) i a es.size ep)/\h'.get? a=some (be es ep t)/\h'.get? s.heap.objs.size=some { cls:=.type "tuple",data:=.seq (ps.map λi:Nat=>rawInt i).toArray },
    vp,λB D=>?_,⟨qy _ U,qf _ (qf _ hs),qf _ (qy _ U)⟩,?_,by simp⟩,λb o e=>qf _ (qf _ e),?_,U,U,U⟩
   .refine⟨λb hb=>by simp at hb;simp[hb],λi m L st k=>⟨k _ (by simp) _ st.1,k _ (by simp) _ st.2.1,k _ (by simp) _ st.2.2⟩,λi c f l u st q=>?_,λc f l st q=>?_,λi c f l st q=>kY st.1 q⟩
    .have n:i<ps.length:=by rw[qc]at u;exact u
     have pl:=lt _ (List.getElem_mem n);refine B6 (p:=ps[i]) (tk:=0) (x:=es[ps[i]]) st.1 st.2.1 T.fit U st.2.2 U (by simp[n,rawInt]) (Array.getElem?_eq_getElem pl) λh' M z=>q _ h' c.toks ?_ ⟨M,?_,?_⟩ λb o hb e=>?_
     .simp[n,pl]
     .rw[z.2 _ O];exact st.2.1
     .rw[z.2 _ nT];exact st.2.2
     .rwa[z.2 _ (by simpa using hb)]
    .exact B5 D st.1 st.2.1 T.fit U st.2.2 U (by simp) λh' g=>q h' c.toks λb o hb e=>g b o (by simpa using hb) e
   .intro b hb;simp only[qD,qY,or_false]at hb;rw[Qo,sz];rcases hb with rfl|rfl|rfl
    .rw[sz];exact⟨Qj _,.inr (i7 (Nat.le_succ _))⟩
    .exact⟨Qy (Qy y),.inl U⟩
    .exact⟨Qy (Qj _),.inr (i7 (qo _))⟩
   .rw[sz];exact i7 (Nat.le_succ _)
  .have a2:decide (es.size > 1)=false:=Qc hz;rw[a2,Bool.and_false,Bool.and_false,Q9 qt];refine qb (qk ?_);refine V _ s hs λit s' K G=>?_;subst K G;have O:a≠s.heap.objs.size:=qO y
   have nx:∀(B:Around)(i sl:Nat)(c:Shared)(f:Option (Value×Nat)->Shared->Prop) l,c.heap.get? a=some (be es ep t)->f (match es[SetTable.below t.place sl]?,t.place[SetTable.below t.place sl]? with|some (_,x),some j=>some (x,j+1)|_,_=>none) c->wpAny (model P w) B (setNext a sl i ep) f l c:=λB i sl c f l m q=>by
    unfold setNext;refine qb (Q6 m U T.fit ?_);dsimp only;refine qb (iY ?_);rw[J,Q9 qt];show wpAny _ _ (if(!t.plain && decide (es.size > 1))=true then _ else _) _ _ _;rw[a2,Bool.and_false,Q9 qt];refine qb ?_;show wpAny _ _ (if(!t.led && !es.isEmpty)=true then _ else _) _ _ _;rw[led,Bool.not_true,Bool.false_and,Q9 qt];exact qk (qk q)
   have a0:∀sl:Nat,es.size=0->SetTable.below t.place sl=0:=λsl h0=>by
    unfold SetTable.below;rw[W,h0]
    rfl
   have S:∀j sl:Nat,t.place=#[j]->SetTable.below t.place sl=if j<sl then 1 else 0:=λj sl e=>by
    rw[e];simp[SetTable.below,SetTable.below.go]
   have old:∀b o,s.heap.get? b=some o->(s.heap.push (eG (rawInt 0) 0 a es.size ep)).get? b=some o:=λb o e=>qf _ e
   have a1:∀b∈[s.heap.objs.size,a],b<(s.heap.push (eG (rawInt 0) 0 a es.size ep)).objs.size/\(b=a\/s.heap.get? b=none):=by
    intro b hb;simp only[qD,qY,or_false]at hb;rw[Qo];rcases hb with rfl|rfl
    .exact⟨Qj _,.inr (i7 (qo _))⟩
    .exact⟨Qy y,.inl U⟩
   by_cases h0:es.size=0
   .have e0:es=#[]:=Array.eq_empty_of_size_eq_zero h0;refine h _ _ ⟨⟨[s.heap.objs.size,a],[],λi h'=>h'.get? s.heap.objs.size=some (eG (.int ((0:Nat):Int) 0) i a es.size ep)/\h'.get? a=some (be es ep t),by rw[e0];exact .refl _,λB D=>?_,⟨qy _ U,old _ _ hs⟩,a1,by simp⟩,old,i7 (qo _),U,U,U⟩;refine⟨λb hb=>by simp at hb;simp[hb],λi m L st k=>⟨k _ (by simp) _ st.1,k _ (by simp) _ st.2⟩,λi c f l u st q=>Qd u (QG _),λc f l st q=>?_,λi c f l st q=>kY st.1 q⟩;exact nV (sl:=0) D st.1 st.2 T.fit U (λX0 Z C=>nx _ _ _ _ _ _ st.2 (by rw[a0 0 h0,e0];exact C)) λh' g=>q h' c.toks λb o hb e=>g b o (by simpa using hb) e
   .have m:es.size=1:=by omega
    obtain⟨x,ex⟩:∃x,es=#[x]:=⟨es[0],by
     refine Array.ext (by simpa using m) λi u R=>?_;have:i=0:=by simp at R;exact R
     subst this
     rfl⟩
    obtain⟨j,X⟩:∃j,t.place=#[j]:=⟨t.place[0]'(by rw[W,m];decide),by
     refine Array.ext (by simp[W,m]) λi u R=>?_;have:i=0:=by simp at R;exact R
     subst this
     rfl⟩
    refine h _ _ ⟨⟨[s.heap.objs.size,a],[x.2],λi h'=>h'.get? s.heap.objs.size=some (eG (.int ((if i=0 then 0 else j+1:Nat):Int) 0) i a es.size ep)/\h'.get? a=some (be es ep t),by rw[ex];exact .refl _,λB D=>?_,⟨qy _ U,old _ _ hs⟩,a1,by simp⟩,old,i7 (qo _),U,U,U⟩;refine⟨λb hb=>by simp at hb;simp[hb],λi m L st k=>⟨k _ (by simp) _ st.1,k _ (by simp) _ st.2⟩,λi c f l u st q=>?_,λc f l st q=>?_,λi c f l st q=>kY st.1 q⟩
    .obtain rfl:i=0:=by simp at u;exact u
     refine wm (sl:=0) (sl':=j+1) (x:=x.2) st.1 st.2 T.fit U (λX0 Z C=>nx _ _ _ _ _ _ st.2 ?_) λh' M z=>q _ h' c.toks U ⟨M,?_⟩ λb o hb e=>?_
     .rw[S j 0 X,X,ex];exact C
     .rw[z.2 _ O];exact st.2
     .rwa[z.2 _ (by simpa using hb)]
    .refine nV (sl:=j+1) D st.1 st.2 T.fit U (λX0 Z C=>nx _ _ _ _ _ _ st.2 ?_) λh' g=>q h' c.toks λb o hb e=>g b o (by simpa using hb) e;rw[S j (j+1) X,Qa (Qj j),X,ex];exact C
theorem Bq:typeLookup (.type "set") "__len__"=pure (some (.builtin "set.__len__")):=by rw[typeLookup_type,builtinLookup_eq_fast];kernel_rfl
theorem nY:isSubtype (.type "set") (.type "set")=pure true:=by rw[isSubtype_type];kernel_rfl
theorem GA{Q:LL->Shared->Prop}(L:A.handled=none)(hs:s.heap.get? a=some (be es ep t))(T:bY P w es t ys)
 (h:∀s' vs,vs.Perm (es.toList.map (·.2))->(∀b o,s.heap.get? b=some o->s'.heap.get? b=some o)->s'.gens=s.gens->s'.os=s.os->s.heap.objs.size<s'.heap.objs.size->Q vs s'):wpAny (model P w) A (collect (.ref a)) Q E s:=by
 unfold collect;refine qb (wpAny_runValue (codeAny_builtin F.entry_proto_collect ?_));rw[Around.under_plainId F.plain_proto_collect _];show wpAny _ A.in1 (newList [] >>= λl=>again (.builtin "list.__iadd__" ⟨[l,.ref a],[]⟩)) _ _ s;refine qb (wpAny_newObj_type ?_);refine qk ⟨plainId_quiet F.plain_list_iadd _,codeAny_builtin F.entry_list_iadd ?_⟩;rw[Around.under_plainId F.plain_list_iadd _];have r:a<s.heap.objs.size:=qz hs;have g:(s.heap.push { cls:=.type "list",data:=.seq ([]:LL).toArray }).get? a=some (be es ep t):=qf _ hs;show wpAny _ A.in1 (Builtin.List.listExtendWith (.ref s.heap.objs.size) (.ref a) (.ref s.heap.objs.size)) _ _ _;unfold Builtin.List.listExtendWith;refine qb (wpAny_typeOf (T:="set") ⟨_,g,U⟩ ?_)
 have B:Builtin.List.listSameRef (.ref s.heap.objs.size) (.ref a)=false:=by
  simp only[Builtin.List.listSameRef,beq_eq_false_iff_ne];exact Nat.ne_of_gt r
 rw[Q9 (by rw[B];decide)];refine qb (Fq (A:=A.in1) (s:={ s with heap:=s.heap.push { cls:=.type "list",data:=.seq ([]:LL).toArray } }) g T λj I W=>?_);obtain⟨⟨H,vs,St,x,N,st0,y,_⟩,old,new,K,M,_⟩:=W;have n:=old _ _ g;have l2:=old _ _ (show(s.heap.push { cls:=.type "list",data:=.seq ([]:LL).toArray }).get? s.heap.objs.size=some { cls:=.type "list",data:=.seq ([]:LL).toArray }from qy _ U);refine qb (QD ?_);unfold Builtin.List.listLengthHint;refine qb (wpAny_specialOf (T:="set") ⟨_,n,U⟩ Bq ?_);have m:j.TypeIs (.ref a) "set":=⟨_,n,U⟩
 (generalize hid:("set.__len__":String)=id0;(fail_if_success (clear hid id0));wp_delta;rw[show splitId id0=some ("set","__len__")from by subst hid;decide +kernel];subst hid)
 refine qb (wpAny_isInstance (b:=true) m nY ?_);rw[Q9 Yk];show wpAny _ _ (if _=true then _ else _) _ _ _;rw[Qa Yk];refine qb (wpAny_typeOf m ?_);refine qk ?_;rw[Qa Yk];refine qb (wpAny_rule ?_);refine qb ?_;show wpAny _ A.in1 (updateSeq s.heap.objs.size (·.push .none) >>= λ_=>updateSeq s.heap.objs.size (·.pop)) _ _ _;refine qb (wpAny_updateSeq l2 U ?_);have u:=Qp (Obj.mapSeq (·.push Value.none)) l2 U;refine wpAny_updateSeq u U ?_;have G:=Qp (Obj.mapSeq (·.pop)) u U
 have p:∀b o,b≠s.heap.objs.size->j.heap.get? b=some o->((j.heap.update s.heap.objs.size (Obj.mapSeq (·.push Value.none))).update s.heap.objs.size (Obj.mapSeq (·.pop))).get? b=some o:=λb o hb e=>
  (QB _ _ (Ne.symm hb)).trans ((QB _ _ (Ne.symm hb)).trans e)
 have c:s.heap.objs.size∉H:=λf=>by
  rcases(y _ f).2 with z|z
  .exact Qk _ (z▸r)
  .rw[show({ s with heap:=s.heap.push { cls:=.type "list",data:=.seq ([]:LL).toArray } }:Shared).heap.get? s.heap.objs.size=some { cls:=.type "list",data:=.seq ([]:LL).toArray }from qy _ U]at z;cases z
 have hn:vs.length<=sizeLine:=by rw[x.length_eq,qc,qU];exact fits_of_scanBound T.few
 have W:=(N A.in1 (by simp[L])).toS
 refine qk ⟨plainId_quiet F.plain_extend_loop _,codeAny_extend_loopS W hn _ c _ vs.length 0 _ _ _ U (qC _)
  (W.frame 0 j _ j.toks st0 (qo _) λb hb o e=>p b o (λz=>c (z▸hb)) e) G (ItemsOf.nil _) λs' k _ f q d=>?_⟩
 show wpAny _ A (load s.heap.objs.size >>= _) _ _ s';refine qb (wpAny_load q (qk ?_))
 have C:k.toList=vs:=by
  refine List.ext_getElem? λi=>?_;rw[Q3];by_cases hi:i<k.size
  .rw[Array.getElem?_eq_getElem hi];exact(d.2 i _ (Array.getElem?_eq_getElem hi)).symm
  .rw[Array.getElem?_eq_none (Nat.not_lt.mp hi),Qx (by have:=d.1;omega)]
 rw[C];refine h s' vs x (λb o e=>?_) (f.gens.trans K) (f.os.trans M) (qz q);have v:b≠s.heap.objs.size:=λz=>by rw[z]at e;exact Qk _ (qz e)
 have J:b≠I:=λz=>by
  rw[z]at e;have D:(s.heap.push { cls:=.type "list",data:=.seq ([]:LL).toArray }).get? I=some o:=qf _ e;exact Qd (D.symm.trans new) (by simp)
 exact f.heap b o (by simp[v,J]) (p b o v (old b o (qf _ e)))
theorem AY(I:A.handled=none)(hs:s.heap.get? a=some (be es ep t))(T:bY P w es t ys)(few:es.size<64)
 (h:∀s' l n (zs:LS) (out:LL),s.heap.objs.size<=l->s'.heap.get? l=some { cls:=.type "list",data:=.seq out.toArray n }->PyProof.Rows.StrsAre out zs->zs.Nodup->(∀k,k∈zs↔k∈ys)->PyProof.Rows.sortedS zs=true->zs.length=es.size->
  (∀b o,s.heap.get? b=some o->s'.heap.get? b=some o)->s'.gens=s.gens->s'.os=s.os->Q (.ref l) s'):wpAny (model P w) A (call (.builtin "sorted") [.ref a]) Q E s:=by
 refine Calls.call_function_entry PyProof.Rows.kind_sorted PyProof.Rows.plain_sorted PyProof.Rows.entry_sorted (PyProof.Rows.args_sorted1 _) ?_;unfold Builtin.«sorted»;refine qb (m:=checkCount "sorted" 1 1 _) (qk ?_);refine qb (GA (A:=A.in1) (by simpa using I) hs T λc vs q old G M z=>?_)
 have str:∀us:LL,(∀v∈us,∃k tk,v=Value.str k tk)->PyProof.Rows.StrsAre us (us.map txt):=by
  intro us
  induction us with
  |nil=>intro _;exact .nil
  |cons v r F=>
   intro f;obtain⟨k,tk,rfl⟩:=f _ qw;exact .cons k tk (F λu L=>f u (qv _ L))
 have all:∀v∈vs,∃k tk,v=Value.str k tk:=λv f=>by
  obtain⟨e,D,rfl⟩:=List.mem_map.mp (q.mem_iff.mp f);obtain⟨⟨k,hk,_⟩,_⟩:=T.el e D;obtain⟨tk,i⟩:=Value.isStrOf_shape hk;exact⟨k,tk,i⟩
 have g:=str vs all;have len:vs.length=es.size:=by rw[q.length_eq,qc,qU]
 refine qb (wpAny_newList ?_ (by rw[len];exact fits_of_scanBound T.few));have j:(c.heap.push { cls:=.type "list",data:=.seq vs.toArray }).get? c.heap.objs.size=some (PyProof.Rows.seqObj "list" vs.toArray 0):=qy _ U;refine qb (QD (Qr PyProof.Rows.slot_list_sort ⟨_,j,U⟩ PyProof.Rows.entry_list_sort (PyProof.Rows.list_sort_treeK PyProof.Rows.strKind_oneLt j g.keysOf (λ_ _ rest e=>PyProof.Rows.keyKind_strs (by rwa[<- e])) Yo λd K J=>⟨_,U,?_⟩) (PyProof.Rows.args_list_sort _)));obtain⟨zs,B,C,H⟩:=PyProof.Rows.sorted_out_str g K J;obtain⟨n,y⟩:=PyProof.Rows.sortedHeap_at (out:=(PyProof.Rows.arrOf d).map (·.2)) j
 have p:zs.Perm (es.toList.map λe=>txt e.2):=by
  refine C.trans ((q.map txt).trans ?_);rw[List.map_map];exact .refl _
 refine qk ⟨_,U,h _ c.heap.objs.size n zs ((PyProof.Rows.arrOf d).map (·.2)).toList (Nat.le_of_lt z) ?_ B (p.nodup_iff.mpr T.nd) (λk=>(p.mem_iff).trans (T.mem k)) H (by rw[p.length_eq,qc,qU]) (λb o e=>?_) G M⟩
 .exact y
 .have x:=old b o e;have lt:=qz x;have i:=(PyProof.Rows.sortedHeap_old (h:=c.heap.push { cls:=.type "list",data:=.seq vs.toArray }) (a:=c.heap.objs.size) (vs:=vs) (out:=(PyProof.Rows.arrOf d).map (·.2)) (qO lt) (by rw[Qo];exact Qy lt));exact i.trans (qf _ x)
noncomputable def dA(w:World):Obj:=be #[] 0 (.fresh 0 0 (!w.params.followText "set-order"))
theorem Et(v:Value){Q1:LP}(h:Q1 (.ref s.heap.objs.size) { s with heap:=s.heap.push (dA w) }):
 codeAny (model P w) A (.call (.builtin "set.__new__") ⟨[.type "set",v],[]⟩) (wants Q1 E) s:=by
 refine codeAny_of_tree ?_;show wpAny _ A.in1 (do checkBuiltinCall "set.__new__" ⟨[.type "set",v],[]⟩;again (.builtin "set.__new__" ⟨[.type "set",v],[]⟩)) _ _ s;have a:=F.entry_set_new;have pl:=F.plain_set_new;refine qb (wpAny_of_eq (F.newCall_set_1 v) (qk ⟨plainId_quiet pl _,codeAny_builtin a ?_⟩));rw[Around.under_plainId pl _];unfold Builtin.«set.__new__» Builtin.Frozenset.newClass;have sub:=sub_set_self;obtain⟨_,g,d,tk,os⟩:=s;dsimp only
 wp_walk
 refine wpAny_askSetting (qk ?_);dsimp only;simp only[newObj];refine qb (wpAny_alloc (qk ?_));exact qk h
theorem uH:∀{vs:LL}{zs:LS},PyProof.Rows.StrsAre vs zs->zs.length=vs.length
 |_,_,.nil=>rfl
 |_,_,.cons _ _ r=>by rw[qJ,qJ,uH r]
theorem uI:∀{vs:LL}{zs:LS},PyProof.Rows.StrsAre vs zs->∀(i:Nat)(v:Value),vs[i]?=some v->∃k t,zs[i]?=some k/\v=.str k t
 |_,_,.nil,i,v,h=>by simp at h
 |_,_,.cons x t r,0,v,h=>by simp at h;exact⟨x,t,U,h.symm⟩
 |_,_,.cons x t r,i+1,v,h=>by
  simp only[List.getElem?_cons_succ]at h ⊢;exact uI r i v h
theorem uy:bY P w #[] (.fresh 0 0 (!w.params.followText "set-order")) []:=
 { el:=(λe a=>by cases a),nd:=List.nodup_nil,mem:=λ_=>Iff.rfl,few:=(by unfold scanBound;decide),fit:=U,led:=U,pl:=λz=>Qd z (Qk 0) }
set_option maxHeartbeats 3200000 in
theorem GF{l:Addr}{zs:LS}(hh:A.handled=none)(hl:s.heap.IsList l items)(K:PyProof.Rows.StrsAre items.toList zs)(hb:items.size+1<scanBound)
 (h:∀(h':Heap)(tk:Nat) es ep t,h'.get? s.heap.objs.size=some (be es ep t)->bY P w es t zs->
  (∀b o,b<s.heap.objs.size->s.heap.get? b=some o->h'.get? b=some o)->Q (.ref s.heap.objs.size) { s with heap:=h',toks:=tk }):
 wpAny (model P w) A (call (.type "set") [.ref l]) Q E s:=by
 obtain⟨c,tl,_⟩:=F.called_set.mro;have O:=F.called_set.made;have a0:=F.called_set.sub;refine wpAny_call (codeAny_of_tree ?_);show wpAny _ _ (callAny (.type "set") _) _ _ _;refine qk ⟨Code.quiet_builtin _ Yd,codeAny_builtin F.entry_type_call ?_⟩;rw[Around.under_plain (weight_type_call_type "set" [.ref l] []) U];have a1:=F.typeCall_set_1 (.ref l)
 repeat (any_goals (first|assumption|wp_step))
 refine codeAny_mono (Et (P:=P) (w:=w) (E:=E) (s:=s) (.ref l) (Q1:=λob I=>ob=.ref s.heap.objs.size/\I={ s with heap:=s.heap.push (dA w) }) ⟨U,U⟩) λr I hr=>?_
 cases r with
 |error e=>exact hr
 |ok fl=>
  cases fl with
  |ret ob=>
   obtain⟨rfl,rfl⟩:=hr;have y:(s.heap.push (dA w)).get? s.heap.objs.size=some (dA w):=qy _ U;have hT:Shared.TypeIs { s with heap:=s.heap.push (dA w) } (.ref s.heap.objs.size) "set":=⟨_,y,U⟩;have a2:=F.called_set.init.lookup;have a3:=F.called_set.init.bind (.ref s.heap.objs.size)
   repeat (any_goals (first|assumption|wp_step))
   refine codeAny_mono (codeAny_call_builtin (R:=wants (λr M=>r=.none/\∃h' tk,M={ s with heap:=h',toks:=tk }/\(∃es ep t,h'.get? s.heap.objs.size=some (be es ep t)/\bY P w es t zs) /\
    (∀b o,b<s.heap.objs.size->s.heap.get? b=some o->h'.get? b=some o)) E) F.called_set.init.plain F.entry_set_init (check_set_init_1 hT ?_)) λr2 M d=>?_
   .obtain⟨V,p,q,G,m⟩:=hl;obtain⟨_,j,_,a⟩:=V;simp only at q m;subst q m;have x:(s.heap.push (dA w)).get? l=some { cls:=.type "list",dict:=j,data:=.seq items G,slots:=a }:=qf _ p;have k1:=F.sub_list_set;have k2:=F.sub_list_frozenset;have n:(s.heap.push (dA w)).IsList l items:=⟨_,x,U,G,U⟩;unfold Builtin.«set.__init__» noKeywords Builtin.Frozenset.updateFrom;generalize hPI:pyIter=PI
    wp_walk
    subst hPI;refine wpAny_pyIter_list n ?_;refine qb (wpAny_runValue ?_);have D:l<s.heap.objs.size:=qz p;have N:A.in1.in1.in1.handled=none:=by simp[hh]
    have J:l≠(s.heap.push (dA w)).objs.size:=by rw[Qo];exact qO (Qy D)
    have C:s.heap.objs.size∉[(s.heap.push (dA w)).objs.size,l]:=by
     rw[Qo];simp only[qD,qY,or_false,not_or];exact⟨qO (Qj _),Nat.ne_of_gt D⟩
    have W:∀(i:Nat)(v:Value),items[i]?=some v->∃k t,zs[i]?=some k/\v=.str k t:=λi v S=>uI K i v (by rw[Q3];exact S);have T:zs.length=items.size:=by rw[<- qU];exact uH K
    refine FU ((Walks.list N _ l J items).toS) s.heap.objs.size C zs W hb (items.size-0) 0 _ Yo (qC _) ⟨⟨_,qy _ U,U,U⟩,(n.push _)⟩ ⟨#[],0,_,qf _ y,uy,qo _⟩ λZ f H=>?_;obtain⟨es,ep,t,u,g,_⟩:=H;obtain⟨h',g',d',B,L⟩:=Z;have X0:g'=s.gens:=f.gens;have X:d'=s.drawn:=f.drawn;have eo:L=s.os:=f.os;subst X0 X eo;refine qk ?_;rw[<- T,qP]at g;refine qk ⟨U,h',B,U,⟨es,ep,t,u,g⟩,λb o hb e=>?_⟩;have n1:b≠s.heap.objs.size:=qO hb;have n2:b≠(s.heap.push (dA w)).objs.size:=by rw[Qo];exact qO (Qy hb)
    exact f.heap b o (by simp only[qD,qY,or_false,not_or];exact⟨n1,n2⟩) (qf _ (qf _ e))
   .cases r2 with
    |error e=>exact d
    |ok z=>
     cases z with
     |ret r=>
      obtain⟨rfl,h',tk,rfl,⟨es,ep,t,u,g⟩,hk⟩:=d
      repeat (any_goals (first|assumption|wp_step))
      exact h _ _ _ _ _ u g hk
     |_=>exact d.elim
  |_=>exact hr.elim
noncomputable def eO(P:Program)(w:World)(a:Addr)(ys:LS):HO:=.ext λh=>∃es ep t,h.get? a=some (be es ep t)/\bY P w es t ys
theorem eO.ok(e:h.get? a=some (be es ep t))(T:bY P w es t ys):bJ P w H h a (eO P w a ys):=
 ⟨⟨es,ep,t,e,T⟩,⟨_,e⟩,λ_ _ ⟨es,ep,t,q,T⟩ k=>⟨es,ep,t,k _ q,T⟩⟩
theorem nC:∀{ys:LS}{its:LL},aB (ys.map V.str) its->StrsAre its ys
 |[],_,.nil=>.nil
 |y::ys,_,.cons r t=>by
  obtain⟨k,rfl⟩:=r;exact .cons y k (nC t)
theorem su:∀{ys:LS}{its:LL},StrsAre its ys->aB (ys.map V.str) its
 |_,_,.nil=>.nil
 |_,_,.cons x t r=>.cons ⟨t,U⟩ (su r)
theorem jG{zs ds:LS}(h:zs.Nodup)(k:∀x∈zs,x∈ds):zs.length<=ds.length:=by
 induction zs generalizing ds with
 |nil=>exact qC _
 |cons x r c=>
  have b:=k x qw;have h':=List.nodup_cons.mp h;have:=c (ds:=ds.erase x) h'.2 λy a=>(List.mem_erase_of_ne (by rintro rfl;exact h'.1 a)).mpr (k y (qv _ a));rw[List.length_erase_of_mem b]at this;have:0<ds.length:=List.length_pos_of_mem b;simp only[qJ];omega
theorem Inv.redrawn(I:Inv X pins Y H { s with heap:=s'.heap })(a:s'.gens=s.gens)(b:s'.os=s.os):Inv X pins Y H s':=
 ⟨I.ok,b.trans I.os,by rw[a];exact I.bare,I.base,I.loc,I.cell,I.free,I.freeC,I.pin,I.hok,I.len⟩
theorem mU(hc:X.calm=true):cL X (.type "set") (λxs H Q=>∃p ys,xs=[.ref p]/\SqL X.K H p (ys.map V.str)/\ys.length<4000/\∀l,H l=none->Q (.ref l) (upd H l (eO X.prog X.w l ys))):=by
 intro _ s _ H xs us Q I r h;obtain⟨p,ys,rfl,f,_,q⟩:=h;obtain⟨u,rfl,d⟩:=fX r;cases d;obtain⟨_,c,pl,_⟩:=I.list f;have a:=c.length;rw[qc]at a;refine GF (I.ok.hd hc) pl.isList (zs:=ys) (by simpa using nC c) (by simp only[qK];unfold scanBound;omega) λh' tk es ep t e T k=>?_;have kp:∀b o,s.heap.get? b=some o->h'.get? b=some o:=λb o q=>k b o (qz q) q;exact⟨.ref s.heap.objs.size,_,I.laid (t':=tk) kp (qo _) (eO.ok e T),U,q _ (I.hok.fresh (qo _))⟩
theorem tP(hc:X.calm=true):cL X (.builtin "sorted") (λxs H Q=>∃(p:Addr)(ys ds:LS),xs=[.ref p]/\H p=some (eO X.prog X.w p ys)/\(∀k∈ys,k∈ds)/\ds.length<64 /\
 ∀l zs,H l=none->zs.Nodup->(∀k,k∈zs↔k∈ys)->sortedS zs=true->Q (.ref l) (upd H l (.lst (zs.map V.str)))):=by
 intro _ s _ H xs us Q I r h;obtain⟨p,ys,ds,rfl,m,hd,_,q⟩:=h;obtain⟨u,rfl,g⟩:=fX r;cases g;obtain⟨⟨es,ep,t,e,T⟩,_,_⟩:=I.hok p _ m
 have few:es.size<64:=by
  have:=jG T.nd λx j=>hd x ((T.mem x).mp j);rw[qc,qU]at this;omega
 refine AY (I.ok.hd hc) e T few λd l n zs out hl v f nd z so b kp y c=>?_;have i:zs.length<=sizeLine:=by rw[b];exact fits_of_scanBound T.few
 have J:=I.laid (t':=s.toks) (h':=d.heap) (a:=l) (o:=.lst (zs.map V.str)) kp hl ⟨by rwa[qc],out,n,su f,v⟩;exact⟨.ref l,_,Inv.redrawn (s:=s) J y c,U,q l zs (I.hok.fresh hl) nd z so⟩
theorem EM:typeLookup (.type "list_reverseiterator") "__len__"=pure none:=by rw[typeLookup_type,builtinLookup_eq_fast];kernel_rfl
theorem EN:typeLookup (.type "list_reverseiterator") "__length_hint__"=pure (some (.builtin "list_reverseiterator.__length_hint__")):=by rw[typeLookup_type,builtinLookup_eq_fast];kernel_rfl
theorem ES{l:Addr}(N:A.handled=none)(r:l≠I)(B:s.heap.IsRevIter I l ((items.size:Int)-1))(hl:s.heap.IsList l items)(H:items.size<=sizeLine)
 (h:∀h' tk n,(∀b o,b≠I->s.heap.get? b=some o->h'.get? b=some o)->h'.get? s.heap.objs.size=some { cls:=.type "list",data:=.seq items.toList.reverse.toArray n }->Q (.ref s.heap.objs.size) { s with heap:=h',toks:=tk }):
 wpAny (model P w) A (call (.type "list") [.ref I]) Q E s:=by
 obtain⟨_,M,_,_⟩:=id B;obtain⟨_,R,_⟩:=id hl;have O:=qz M;have G:=qz R;refine callType_codes (Q₁:=λob x=>ob=.ref s.heap.objs.size/\x={ s with heap:=s.heap.push { cls:=.type "list",data:=.seq #[] } }) F.called_list (F.typeCall_list_1 _) F.entry_list_init (code_list_new _ ⟨U,U⟩) λob x c=>?_;obtain⟨rfl,rfl⟩:=c;have g:(s.heap.push { cls:=.type "list",data:=.seq #[] }).get? s.heap.objs.size=some { cls:=.type "list",data:=.seq #[] }:=qy _ U;exists ⟨_,g,U⟩,F.args_list_init_2 _ _;show wpAny _ _ (do let old <- Builtin.List.listItems (.ref s.heap.objs.size);Builtin.List.listUpdate (.ref s.heap.objs.size) (λ_=>#[]);letGo old.toList.reverse;Builtin.List.listExtendWith (.ref s.heap.objs.size) (.ref I) .none) _ _ _;refine qb ?_;unfold Builtin.List.listItems;refine qb (QE g U (qk ?_));refine qb ?_;show wpAny _ _ (updateSeq s.heap.objs.size (λ_=>#[])) _ _ _;refine wpAny_updateSeq g U ?_;have z:=Qp (Obj.mapSeq (λ_=>(#[]:LD))) g U
 have d:∀b o,b≠s.heap.objs.size->s.heap.get? b=some o->((s.heap.push { cls:=.type "list",data:=.seq #[] }).update s.heap.objs.size (Obj.mapSeq (λ_=>(#[]:LD)))).get? b=some o:=
  λb o hb e=>(QB _ _ (Ne.symm hb)).trans (qf _ e)
 refine qb (wpAny_letGo ?_);have p:I≠s.heap.objs.size:=qO O;have u:l≠s.heap.objs.size:=qO G;have f:=B.at λo e=>d I o p e;have y:=hl.at λo e=>d l o u e;have ty:=f.typeIs (s:={ s with heap:=(s.heap.push { cls:=.type "list",data:=.seq #[] }).update s.heap.objs.size (Obj.mapSeq (λ_=>(#[]:LD))) });unfold Builtin.List.listExtendWith;refine qb (wpAny_typeOf ty ?_);have c:Builtin.List.listSameRef (.ref s.heap.objs.size) (.ref I)=false:=by simp[Builtin.List.listSameRef,Ne.symm p]
 rw[Q9 (by rw[c];decide)];refine qb (wpAny_pyIter_revIter f ?_);refine qb (QD ?_);unfold Builtin.List.listLengthHint;refine qb (wpAny_specialOf ty EM ?_);show wpAny _ _ (specialOf (Value.ref I) (Str.ofString "__length_hint__") >>= _) _ _ _;refine qb (wpAny_specialOf ty EN ?_)
 (generalize hid:("list_reverseiterator.__length_hint__":String)=id0;(fail_if_success (clear hid id0));wp_delta;rw[show splitId id0=some ("list_reverseiterator","__length_hint__")from by subst hid;decide +kernel];subst hid)
 refine qb (wpAny_isInstance (b:=true) ty (by rw[isSubtype_type];kernel_rfl) ?_);refine qk ?_;rw[Q9 Yk];have W:=(Walks.listRev (prog:=P) (w:=w) (A:=A.in1.in1) (by simp[N]) I l r items).toS;have k:s.heap.objs.size∉[I,l]:=by simp[Ne.symm p,Ne.symm u]
 refine qk ⟨plainId_quiet F.plain_extend_loop _,codeAny_extend_loopS W H _ k _ items.size 0 _ _ _ U (qC _) ⟨qC _,by simpa using f,y⟩ z (ItemsOf.nil _) λL m n j v a=>?_⟩;exists U;obtain⟨h',g',d',t,C⟩:=L;have K:g'=s.gens:=j.gens;have J:d'=s.drawn:=j.drawn;have S:C=s.os:=j.os;subst K J S
 have D:m=items.toList.reverse.toArray:=by
  refine Array.ext (by simp[a.1]) λi c _=>?_;have q:=a.2 i _ (Array.getElem?_eq_getElem c);change items[items.size-1-i]?=some m[i]at q;have lt:items.size-1-i<items.size:=by have:=a.1;omega
  rw[Array.getElem?_eq_getElem lt]at q;simp only[List.getElem_toArray,List.getElem_reverse,Array.getElem_toList,qU];exact(qR q).symm
 subst D;refine h h' t n (λb o hb e=>?_) v
 .have nb:b≠s.heap.objs.size:=qO (qz e);exact j.heap b o (by simp[nb,hb]) (d b o nb e)
theorem Ew:MtR X "str.index" (λv xs H Q=>∃(z y:Str)(i:Nat)(r:LG),v=.str z/\xs=[.str y]/\Builtin.Str.occurrences z y 0 z.length 1=i::r/\Q (.int (i:Int)) H):=by
 intro _ s _ H x xs v us Q I a r h;obtain⟨z,y,i,l,rfl,rfl,b,q⟩:=h;obtain⟨t,rfl⟩:=a;obtain⟨u,rfl,t',rfl⟩:=fX r;exact call_gives PySem.F.slot_str_index (typeIs_str _ _ _) PySem.F.entry_str_index (PySem.F.args_str_index_2 _ _) (gives_str_index z y t t' i l b) ⟨.int i,H,I.tok _,⟨_,U⟩,q⟩
theorem aB.rev:∀{xs:LV}{us:LL},aB xs us->aB xs.reverse us.reverse
 |_,_,.nil=>.nil
 |_,_,.cons r t=>by
  rw[List.reverse_cons,List.reverse_cons];exact aB.append (aB.rev t) (.cons r .nil)
def Aq(K:W.Frag)(te:TE):TE:=λY H Q=>te Y H λx H1=>∃p ys,x=.ref p/\SqL K H1 p ys/\∀l,H1 l=none->Q (.ref l) (upd H1 l (.lst ys.reverse))
theorem D8{L i g d:Pos}(hc:X.calm=true)(B:Gl X "list")(z:X.mg "list"=none)(r:Gl X "reversed")(n:X.mg "reversed"=none)(A:PE X e te)
 (hs:starEach [e] X.env=[(false,eval e X.env)]:=by rfl) (k:starEach [.Call (.Name "reversed" i) [e] [] d] X.env=[(false,eval (.Call (.Name "reversed" i) [e] [] d) X.env)]:=by rfl):
 PE X (.Call (.Name "list" L) [.Call (.Name "reversed" i) [e] [] d] [] g) (Aq X.K te):=by
 intro l s M H Q I h;refine wpAny_Call_Name_kw (gO I B z PyProof.Rows.Boot.«list» ?_);refine PyProof.Rows.callWith_type1 ?_ (by rw[k];rfl) U;rw[k];show wpAny _ _ (spliced ((false,eval (.Call (.Name "reversed" i) [e] [] d) X.env)::backTo g [])) _ _ s;refine Calls.spliced_cons ?_;refine wpAny_Call_Name_kw (gO I r n PyProof.Rows.Boot.«reversed» ?_);refine PyProof.Rows.callWith_type1 ?_ (by rw[hs];rfl) U;rw[hs];show wpAny _ _ (spliced ((false,eval e X.env)::backTo d [])) _ _ s;refine Calls.spliced_cons (thn (A l s M H _ I h) λu f ⟨x,_,j,G,E⟩=>?_);refine Calls.spliced_nil ?_;obtain⟨p,ys,rfl,y,q⟩:=E;cases G;obtain⟨c,t,pl,C⟩:=j.list y;have O:=t.length;have hl:=pl.isList;obtain⟨_,N,_⟩:=id hl;have v:=qz N;refine call_reversed_list hl ?_;refine Calls.spliced_nil ?_;have F:(f.heap.push (revObj p ((c.toArray.size:Int)-1))).IsRevIter f.heap.objs.size p ((c.toArray.size:Int)-1):=⟨_,qy _ U,U,U⟩;refine ES (s:={ f with heap:=f.heap.push (revObj p ((c.toArray.size:Int)-1)) }) (j.ok.hd hc) (qO v) F (hl.at λo e=>qf _ e) (by simp only[qK];omega) λh' tk D kp w=>?_;have m:∀b o,f.heap.get? b=some o->h'.get? b=some o:=λb o e=>kp b o (qO (qz e)) (qf _ e);have sz:(f.heap.push (revObj p ((c.toArray.size:Int)-1))).objs.size=f.heap.objs.size+1:=Qo ..;have J:=j.laid (t':=tk) (h':=h') (a:=(f.heap.push (revObj p ((c.toArray.size:Int)-1))).objs.size) (o:=.lst ys.reverse) m (by rw[sz];exact Nat.le_succ _) ⟨by rw[List.length_reverse];exact C,c.reverse,D,t.rev,by simpa using w⟩;exact⟨.ref (f.heap.push (revObj p ((c.toArray.size:Int)-1))).objs.size,_,J,U,q _ (j.hok.fresh (by rw[sz];exact Nat.le_succ _))⟩
theorem tJ{xs:LV}{g:TG}{f:LV->Hp->Prop}(c:Nat->LV->St->Hp->Prop)(h0:c 0 [] Y H)(l:∀i ys Y H,i<=xs.length->c i ys Y H->ys.length<=i)(n:xs.length<=sizeLine)(hl:∀i ys Y H,c i ys Y H->SqT K H a xs)
 (hs:∀i x ys Y H,xs[i]?=some x->c i ys Y H->g x Y H λd H2=>tt d H2 λb h=>if b=true then te d h λy H4=>c (i+1) (ys++[y]) d H4 else c (i+1) ys d h)
 (hd:∀ys Y H,c xs.length ys Y H->f ys H):∃W:Nat->Nat->LV->St->Hp->Prop,(∃m,W 0 m [] Y H)/\iA (Itt K a) g tt te f W:=by
 exists λi m ys Y H=>m=xs.length-i/\i<=xs.length/\c i ys Y H,⟨_,U,qC _,h0⟩;rintro i m ys Y H ⟨rfl,j,p⟩;have few:=l i ys Y H j p;have q:=hl i ys Y H p;by_cases lt:i<xs.length
 .refine .inr ⟨⟨xs,xs[i],q,by simp[lt]⟩,Yo,c (i+1),λ_ _ H' k=>⟨_,Yo,U,lt,k⟩,λv H' y=>?_⟩;obtain⟨e,y⟩:=y;subst e;exact hs i v ys Y _ (y xs q) p
 .obtain rfl:i=xs.length:=by omega
  exact .inl ⟨⟨xs,q,qo _⟩,Yo,hd ys Y H p⟩
theorem aU{b:Bool}{A:Prop}(h:b=true)(x:A):if b=true then A else B:=by rwa[Qa h]
theorem ar{b:Bool}{A:Prop}(h:b=false)(x:B):if b=true then A else B:=by rw[Q9 (by rw[h];decide)];exact x
theorem ifE{x:V}{A:Prop}(h:x=y)(a:A):if decide (x=y)=true then A else B:=by rwa[Qa (Qb h)]
theorem ifN{x:V}{A:Prop}(h:x≠y)(b:B):if decide (x=y)=true then A else B:=by rw[Q9 (by rwa[decide_eq_true_iff])];exact b
end L2
namespace Tr
open PySem PySem.Spec PyProof.Rows L2
inductive Val
 |num (n:Int)
 |nm (x:Str)
inductive ae
 |set (x:Str) (a:Val) (sg:Str) (b:Val)
 |put (q x:Str)
 |get (q x:Str)
 |give (x:Str)
 |cond (x:Str) (t o:List ae)
 |whl (x:Str) (b:List ae)
 |rep (n:Int) (b:List ae)
noncomputable def Val.names:Val->LS
 |.num _=>[]
 |.nm x=>[x]
noncomputable def ae.names:ae->LS
 |.set x a _ b=>x::(a.names++b.names)
 |.put _ x|.get _ x|.give x|.cond x _ _|.whl x _=>[x]
 |.rep _ _=>[]
noncomputable def ae.inner:ae->List (List ae)
 |.cond _ t o=>[t,o]
 |.whl _ b|.rep _ b=>[b]
 |_=>[]
noncomputable def ae.others:ae->LS
 |.put q _=>[q++(">":Str)]
 |.get q _=>[q++("<":Str)]
 |.give _|.whl _ _=>[(">":Str)]
 |_=>[]
mutual
noncomputable def ae.flat:ae->List ae
 |.cond x t o=>.cond x t o::(ak t++ak o)
 |.whl x b=>.whl x b::ak b
 |.rep n b=>.rep n b::ak b
 |.set x a F b=>[.set x a F b]
 |.put q x=>[.put q x]
 |.get q x=>[.get q x]
 |.give x=>[.give x]
noncomputable def ak:List ae->List ae
 |[]=>[]
 |d::r=>d.flat++ak r
end
mutual
noncomputable def ae.depth:ae->Nat
 |.cond _ t o=>max (aR t) (aR o)+1
 |.whl _ b=>aR b+1
 |.rep _ b=>aR b+1
 |_=>0
noncomputable def aR:List ae->Nat
 |[]=>0
 |d::r=>max d.depth (aR r)
end
noncomputable def ae.cards(d:ae):LS:=d.names++d.others
noncomputable def cards(b:List ae):LS:=(ak b).flatMap ae.cards
theorem fV:∀(a b:List ae),ak (a++b)=ak a++ak b
 |[],b=>rfl
 |d::a,b=>by rw[Qu,ak,ak,fV a b,qV]
theorem zh(a b:List ae):cards (a++b)=cards a++cards b:=by unfold cards;rw[fV,Q4]
theorem tG:∀(a b:List ae),aR (a++b)=max (aR a) (aR b)
 |[],b=>by rw[Qt,aR,Nat.zero_max]
 |d::a,b=>by rw[Qu,aR,aR,tG a b,Nat.max_assoc]
theorem jF(d:ae):d.flat=d::d.inner.flatMap ak:=by
 cases d<;>simp[ae.flat,ae.inner]
theorem ze(d:ae):cards [d]=d.cards++d.inner.flatMap cards:=by
 unfold cards;rw[ak,ak,qG,jF,qN]
 congr 1
 rw[List.flatMap_assoc]
inductive Op
 |root
 |ifT (x:Str)
 |ifO (x:Str) (t:List ae)
 |whl (x:Str)
 |rep (n:Int)
structure Fr where
 op:Op
 ds:List ae
 shut:Bool
 times:Int
noncomputable def Fr.deed(f:Fr):ae:=match f.op with
 |.root=>.rep 0 f.ds
 |.ifT x=>.cond x f.ds []
 |.ifO x t=>.cond x t f.ds
 |.whl x=>.whl x f.ds
 |.rep n=>.rep n f.ds
noncomputable def Fr.add(g:Fr)(d:ae):Fr:={ g with ds:=g.ds++[d] }
noncomputable def iX:List Fr->List Fr
 |f::g::r=>g.add f.deed::r
 |st=>st
noncomputable def fI:Nat->List Fr->List ae
 |0,st=>(st.head?.map Fr.ds).getD []
 |n+1,st=>fI n (iX st)
noncomputable def kP(st:List Fr):List ae:=fI (st.length-1) st
noncomputable def Op.extra:Op->List ae
 |.ifO _ t=>t
 |_=>[]
noncomputable def Op.nms:Op->LS
 |.ifT x|.ifO x _|.whl x=>[x]
 |_=>[]
noncomputable def Op.one:Op->Nat
 |.root=>0
 |_=>1
def fF(C:LS):List Fr->Prop
 |[]=>False
 |[f]=>f.op=.root/\(∀k∈cards f.ds,k∈C)/\aR f.ds<=12
 |f::g::r=>f.op≠.root/\(∀k∈f.op.nms,k∈C)/\(∀k∈cards f.ds,k∈C)/\(∀k∈cards f.op.extra,k∈C)/\aR f.ds+(r.length+1)<=12/\aR f.op.extra+(r.length+1)<=12/\fF C (g::r)
noncomputable def cnt:List Fr->Nat
 |[]=>0
 |f::r=>(ak f.ds).length+(ak f.op.extra).length+f.op.one+cnt r
theorem Gh{f:Fr}{C:LS}(h0:f.op≠.root)(d:(">":Str)∈C)(a:∀k∈f.op.nms,k∈C)(b:∀k∈cards f.ds,k∈C)(c:∀k∈cards f.op.extra,k∈C):∀k∈cards [f.deed],k∈C:=by
 intro k hk;rw[ze]at hk;unfold Fr.deed at hk
 cases e:f.op with
 |root=>exact Qd e h0
 |ifT x=>
  rw[e]at hk a c;simp only[ae.cards,ae.names,ae.others,ae.inner,qN,List.flatMap_nil,qG,qr,Q0]at hk;rcases hk with rfl|hk|hk
  .exact a _ (by simp[Op.nms])
  .exact b _ hk
  .exact Qd hk (by simp[cards,ak])
 |ifO x t=>
  rw[e]at hk a c;simp only[ae.cards,ae.names,ae.others,ae.inner,qN,List.flatMap_nil,qG,qr,Q0]at hk;rcases hk with rfl|hk|hk
  .exact a _ (by simp[Op.nms])
  .exact c _ hk
  .exact b _ hk
 |whl x=>
  rw[e]at hk a c;simp only[ae.cards,ae.names,ae.others,ae.inner,qN,List.flatMap_nil,qG,qr,Q0]at hk;rcases hk with(rfl|rfl)|hk
  .exact a _ (by simp[Op.nms])
  .exact d
  .exact b _ hk
 |rep n=>
  rw[e]at hk;simp only[ae.cards,ae.names,ae.others,ae.inner,qN,List.flatMap_nil,qG,Qt,qr]at hk;exact b _ hk
theorem Gf(f:Fr):aR [f.deed]<=max (aR f.ds) (aR f.op.extra)+1:=by
 unfold Fr.deed;cases e:f.op<;>simp only[aR,ae.depth,Op.extra]<;>omega
theorem Gg{f:Fr}(h0:f.op≠.root):(ak [f.deed]).length<=(ak f.ds).length+(ak f.op.extra).length+f.op.one:=by
 unfold Fr.deed
 cases e:f.op with
 |root=>exact Qd e h0
 |_=>simp[ak,ae.flat,Op.extra,Op.one]<;>omega
theorem fF.add{C:LS}{g:Fr}{r:List Fr}{d:ae}(h:fF C (g::r))(b:∀k∈cards [d],k∈C)(a:aR [d]+r.length<=12):fF C (g.add d::r):=by
 have hc:(∀k∈cards g.ds,k∈C)->∀k∈cards (g.add d).ds,k∈C:=λz k hk=>by
  unfold Fr.add at hk;rw[zh,qr]at hk;exact hk.elim (z k) (b k)
 have hd:aR (g.add d).ds=max (aR g.ds) (aR [d]):=by unfold Fr.add;rw[tG]
 cases r with
 |nil=>exact⟨h.1,hc h.2.1,by rw[hd];have:=h.2.2;simp at a;omega⟩
 |cons g' _=>
  obtain⟨f,c,i,e,_,l,j⟩:=h;simp only[qJ]at a;exact⟨f,c,hc i,e,by rw[hd];omega,l,j⟩
theorem fF.close{C:LS}(i:(">":Str)∈C){f g:Fr}{r:List Fr}(h:fF C (f::g::r)):fF C (iX (f::g::r)):=by
 obtain⟨c,a,d,b,_,_,e⟩:=h;refine e.add (Gh c i a d b) ?_;have:=Gf f;omega
theorem zb(g:Fr)(r:List Fr)(d:ae):cnt (g.add d::r)=cnt (g::r)+(ak [d]).length:=by
 simp only[cnt,Fr.add,fV,qh];omega
theorem za{f g:Fr}{r:List Fr}(h0:f.op≠.root):cnt (iX (f::g::r))<=cnt (f::g::r):=by
 show cnt (g.add f.deed::r)<=_;rw[zb];have:=Gg h0;simp only[cnt];omega
theorem ui{C:LS}(a:(">":Str)∈C):∀(n:Nat)(st:List Fr),st.length=n+1->fF C st->(∀k∈cards (fI n st),k∈C)/\aR (fI n st)<=12/\(ak (fI n st)).length<=cnt st
 |0,[f],_,h=>⟨h.2.1,h.2.2,by simp[fI,cnt];omega⟩
 |n+1,f::g::r,hl,h=>by
  have:=ui a n (iX (f::g::r)) (by simp[iX]at hl ⊢;omega) (h.close a);exact⟨this.1,this.2.1,qH this.2.2 (za h.1)⟩
noncomputable def aG(c k:Int):Int:=(c % 2147483647 * (48271+1103 * k * k) % 2147483629+k) * (c % 2147483647 * (48271+1103 * k * k) % 2147483629+3 * k) % 2147483587
noncomputable def df:Str:="abcdefghijklmnopqrstuvwxyz"
noncomputable def kC(n:Int):Nat->Int
 |0=>n
 |i+1=>kC n i / 26
noncomputable def cu(j:Int):Nat:=df.cps.toList.getD j.toNat 0
noncomputable def sgn(c:Nat):Str:=⟨#[c]⟩
noncomputable def cJ(n:Int):Nat->Str
 |0=>""
 |i+1=>cJ n i++sgn (cu (kC n i % 26))
noncomputable def kws:LS:=["ask","store","put","get","give","if","else","while","repeat","end"]
noncomputable def iR(w:Str):Int:=((w.cps.toList.getLastD 97:Nat):Int)-97
noncomputable def cW(w:Str):Str:=if w∈kws then Txt.slice w none (some (-1))++sgn (cu ((iR w+13) % 26))else w
noncomputable def ca(c:Int):Str:=cJ (aG c 1 * aG c 1+aG c 1) 8
noncomputable def fq(c k:Int):Str:=sgn (cu ((aG c 1 / 192+k) % 26))
noncomputable def eZ(c:Int):Int:=1+aG c 1 / 3 % 8
noncomputable def dD(c:Int):Int:=aG c 1 / 24 % eZ c
noncomputable def ci(c k:Int):Str:=
 if aG c 1 % 3=0 then Txt.slice (ca c) none (some (dD c))++fq c k++Txt.slice (ca c) (some (dD c+1)) (some (eZ c))
 else if aG c 1 % 3=1 then Txt.slice (ca c) none (some (1+(aG c 1 / 24+k) % 8))
 else Txt.slice (fq c k++cJ (aG c (k+2)) 7) none (some (1+aG c (k+40) % 8))
noncomputable def dU(c:Int)(n:Nat):LS:=(List.range n).map λ(k:Nat)=>cW (ci c k)
noncomputable def cO(c:Int)(n:Nat):LS:=if aG c 1 / 5000 % 2=1 then(dU c n).reverse else dU c n
noncomputable def nth(l:LS)(i:Int):Str:=l.getD (i % l.length).toNat ""
noncomputable def wv(i:Int):Str:=sgn (("+-*/<=&|^":Str).cps.toList.getD (i % 9).toNat 0)
noncomputable def bK(n:Int)(names rooms:LS)(shut:Bool):ae:=
 if n % 14=6 then .give (nth names (n / 14))
 else if(n % 14=1\/n % 14=2\/n % 14=3\/n % 14=4\/n % 14=12\/n % 14=13)/\0<rooms.length/\shut=false then
  (if n % 14=3\/n % 14=4\/n % 14=13 then .get (nth rooms (n / 14 / 5)) (nth names (n / 14))else .put (nth rooms (n / 14 / 5)) (nth names (n / 14)))
 else .set (nth names (n / 14)) (if n / 14 / 125 % 4=0 then .num (n * n * n * 69621 % 1000000000000000000000000000000)else .nm (nth names (n / 14 / 5)))
  (wv (n / 14 / 1500)) (if n / 14 / 500 % 3=0 then .num (n * n * 48271 % 1000000000000000000000000000000)else .nm (nth names (n / 14 / 25)))
noncomputable def cQ(n most times:Int):Int:=if 0<times then n / 70 % (1+most / times)else n / 70 % 100
noncomputable def gK(n:Int)(x:Str)(most:Int)(st:List Fr):List Fr:=match st with
 |[]=>[]
 |g::r=>(if n % 14=7 then⟨.ifT x,[],true,0⟩else if n % 14=8 then⟨.whl x,[],true,0⟩else⟨.rep (cQ n most g.times),[],g.shut,g.times * cQ n most g.times⟩)::g::r
noncomputable def Op.ifT?:Op->Option Str
 |.ifT x=>some x
 |_=>none
noncomputable def ck(names rooms:LS)(most low:Int)(st:List Fr)(n:Int):List Fr:=match st with
 |[]=>[]
 |g::r=>
  if low<=n % 14/\n % 14<=9/\r.length+1<=12/\(n % 14<9\/0<most\/g.shut=true)then gK n (nth names (n / 14)) most (g::r)
  else match(if n % 14=10 then g.op.ifT? else none)with
   |some x=>{ g with op:=.ifO x g.ds,ds:=[] }::r
   |none=>if 10<=n % 14/\0<r.length then iX (g::r)else g.add (bK n names rooms g.shut)::r
noncomputable def st0:List Fr:=[⟨.root,[],false,1⟩]
noncomputable def dJ(names rooms:LS)(most low:Int)(cells:LI):List Fr:=cells.foldl (λst c=>ck names rooms most low st (aG c 1)) st0
noncomputable def e7(names rooms:LS)(most low:Int)(cells:LI):List ae:=kP (dJ names rooms most low cells)
noncomputable def bA(names rooms:LS):LS:=names++rooms.map (·++(">":Str))++rooms.map (·++("<":Str))++[(">":Str)]
theorem iO{l:LS}(h:0<l.length)(i:Int):nth l i∈l:=by
 unfold nth;have b:0<=i % (l.length:Int):=Qi _ Yo;have c:i % (l.length:Int)<l.length:=Qn _ Yo;have a:(i % (l.length:Int)).toNat<l.length:=Yo;rw[qu,qi a];exact List.getElem_mem a
theorem Bh{n:Int}{names:LS}(h:0<names.length):∀k∈cards [bK n names rooms shut],k∈bA names rooms:=by
 have hn:∀i,nth names i∈bA names rooms:=λi=>by unfold bA;simp[iO h i]
 have b:(">":Str)∈bA names rooms:=by unfold bA;simp
 intro k hk;unfold bK at hk;split at hk
 .simp[cards,ak,ae.flat,ae.cards,ae.names,ae.others]at hk;rcases hk with rfl|rfl
  .exact hn _
  .exact b
 .split at hk
  .rename_i hr;have a:=iO hr.2.1 (n / 14 / 5);split at hk
   .simp[cards,ak,ae.flat,ae.cards,ae.names,ae.others]at hk;rcases hk with rfl|rfl
    .exact hn _
    .unfold bA;simp only[qr,List.mem_map];exact .inl (.inr ⟨_,a,U⟩)
   .simp[cards,ak,ae.flat,ae.cards,ae.names,ae.others]at hk;rcases hk with rfl|rfl
    .exact hn _
    .unfold bA;simp only[qr,List.mem_map];exact .inl (.inl (.inr ⟨_,a,U⟩))
  .simp only[cards,ak,ae.flat,ae.cards,ae.names,ae.others,qG,qN,List.flatMap_nil,qD,qr]at hk;rcases hk with rfl|hk|hk
   .exact hn _
   .split at hk
    .exact Qd hk (by simp[Val.names])
    .simp[Val.names]at hk;subst hk;exact hn _
   .split at hk
    .exact Qd hk (by simp[Val.names])
    .simp[Val.names]at hk;subst hk;exact hn _
theorem Bg(n:Int)(names rooms:LS)(shut:Bool):aR [bK n names rooms shut]=0/\(ak [bK n names rooms shut]).length=1:=by
 unfold bK;split
 .exact⟨U,U⟩
 .split
  .split<;>exact⟨U,U⟩
  .exact⟨U,U⟩
theorem AN{names:LS}{low n:Int}{st:List Fr}(h:0<names.length)(hs:fF (bA names rooms) st)(hl:st.length<=13):
 fF (bA names rooms) (ck names rooms most low st n)/\(ck names rooms most low st n).length<=13/\cnt (ck names rooms most low st n)<=cnt st+1:=by
 have o:(">":Str)∈bA names rooms:=by unfold bA;simp
 have hn:∀i,nth names i∈bA names rooms:=λi=>by unfold bA;simp[iO h i]
 match st,hs,hl with
 |g::r,hs,hl=>
  unfold ck;dsimp only;split
  .rename_i c;unfold gK;dsimp only;have a:cards []=[]:=U;split
   .exact⟨⟨by simp,by simp[Op.nms,hn],by simp[a],by simp[Op.extra,a],by simp[aR];omega,by simp[aR,Op.extra];omega,hs⟩,by simp;omega,by simp[cnt,ak,Op.extra,Op.one];omega⟩
   .split
    .exact⟨⟨by simp,by simp[Op.nms,hn],by simp[a],by simp[Op.extra,a],by simp[aR];omega,by simp[aR,Op.extra];omega,hs⟩,by simp;omega,by simp[cnt,ak,Op.extra,Op.one];omega⟩
    .exact⟨⟨by simp,by simp[Op.nms],by simp[a],by simp[Op.extra,a],by simp[aR];omega,by simp[aR,Op.extra];omega,hs⟩,by simp;omega,by simp[cnt,ak,Op.extra,Op.one];omega⟩
  .split
   .rename_i x b
    have e:g.op=.ifT x:=by
     split at b
     .cases e:g.op<;>rw[e]at b<;>simp[Op.ifT?]at b;rw[b]
     .cases b
    cases r with
    |nil=>have:=hs.1;rw[e]at this;cases this
    |cons g' j=>
     obtain⟨q,d,k,p,l,s,m⟩:=hs;rw[e]at d;exists ⟨by simp,by simpa[Op.nms]using d,by simp[cards,ak],by simpa[Op.extra]using k,by simp[aR];omega,by simpa[Op.extra]using l,m⟩,hl;simp[cnt,e,Op.extra,Op.one,ak]
   .split
    .rename_i c
     cases r with
     |nil=>exact Qd c.2 (by simp)
     |cons g' j=>exact⟨hs.close o,by simp[iX]at hl ⊢;omega,qH (za hs.1) (Nat.le_succ _)⟩
    .have f:=Bg n names rooms g.shut;refine⟨hs.add (Bh h) (by rw[f.1];simp at hl;omega),by simpa using hl,?_⟩;rw[zb,f.2];exact qo _
theorem nN{names rooms:LS}{most low:Int}(h:0<names.length):∀(cells:LI)(st:List Fr),fF (bA names rooms) st->st.length<=13->
 fF (bA names rooms) (cells.foldl (λst c=>ck names rooms most low st (aG c 1)) st)/\(cells.foldl (λst c=>ck names rooms most low st (aG c 1)) st).length<=13/\cnt (cells.foldl (λst c=>ck names rooms most low st (aG c 1)) st)<=cnt st+cells.length
 |[],st,hs,hl=>⟨hs,hl,qo _⟩
 |c::cs,st,hs,hl=>by
  obtain⟨b1,b2,_⟩:=AN (most:=most) (low:=low) (n:=aG c 1) h hs hl;obtain⟨c1,c2,c3⟩:=nN h cs _ b1 b2;exact⟨c1,c2,by simp only[QH,qJ];omega⟩
theorem GN{names:LS}{low:Int}(h:0<names.length)(a:LI):
 (∀k∈cards (e7 names rooms most low a),k∈bA names rooms)/\aR (e7 names rooms most low a)<=12/\(ak (e7 names rooms most low a)).length<=a.length:=by
 have e:(">":Str)∈bA names rooms:=by unfold bA;simp
 obtain⟨b,_,d⟩:=nN (rooms:=rooms) (most:=most) (low:=low) h a st0 ⟨U,by simp[st0,cards,ak],by simp[st0,aR]⟩ (by simp[st0]);have ne:dJ names rooms most low a≠[]:=λz=>by unfold dJ at z;rw[z]at b;exact b
 have hl:(dJ names rooms most low a).length=((dJ names rooms most low a).length-1)+1:=by
  have:=List.length_pos_iff.mpr ne;omega
 obtain⟨b1,b2,c⟩:=ui e _ _ hl b;refine⟨b1,b2,qH c (qH d ?_)⟩;simp[cnt,st0,ak,Op.extra,Op.one]
noncomputable def Val.v:Val->V
 |.num n=>.int n
 |.nm x=>.str x
mutual
inductive RD(H:Hp):V->ae->Prop
 |set {p:Addr}{x:Str}{a:Val}{sg:Str}{b:Val}:H p=some (.tup [.str "set",.str x,a.v,.str sg,b.v])->RD H (.ref p) (.set x a sg b)
 |put {p:Addr}{q x:Str}:H p=some (.tup [.str "put",.str q,.str x])->RD H (.ref p) (.put q x)
 |get {p:Addr}{q x:Str}:H p=some (.tup [.str "get",.str q,.str x])->RD H (.ref p) (.get q x)
 |give {p:Addr}{x:Str}:H p=some (.tup [.str "give",.str x])->RD H (.ref p) (.give x)
 |cond {p t o:Addr}{x:Str}{ts os:List ae}:H p=some (.tup [.str "if",.str x,.ref t,.ref o])->RL H t ts->RL H o os->RD H (.ref p) (.cond x ts os)
 |whl {p b:Addr}{x:Str}{bs:List ae}:H p=some (.tup [.str "while",.str x,.ref b])->RL H b bs->RD H (.ref p) (.whl x bs)
 |rep {p b:Addr}{n:Int}{bs:List ae}:H p=some (.tup [.str "repeat",.int n,.ref b])->RL H b bs->RD H (.ref p) (.rep n bs)
inductive RL(H:Hp):Addr->List ae->Prop
 |mk {l:Addr}{vs:LV}{ds:List ae}:H l=some (.lst vs)->RDs H vs ds->RL H l ds
inductive RDs(H:Hp):LV->List ae->Prop
 |nil:RDs H [] []
 |cons {v:V}{vs:LV}{d:ae}{ds:List ae}:RD H v d->RDs H vs ds->RDs H (v::vs) (d::ds)
end
mutual
theorem RD.same{H H':Hp}(e:a9 H H'):∀{v:V}{d:ae},RD H v d->RD H' v d
 |_,_,.set h=>.set (e _ _ h)
 |_,_,.put h=>.put (e _ _ h)
 |_,_,.get h=>.get (e _ _ h)
 |_,_,.give h=>.give (e _ _ h)
 |_,_,.cond h a b=>.cond (e _ _ h) (RL.same e a) (RL.same e b)
 |_,_,.whl h a=>.whl (e _ _ h) (RL.same e a)
 |_,_,.rep h a=>.rep (e _ _ h) (RL.same e a)
theorem RL.same{H H':Hp}(e:a9 H H'):∀{l:Addr}{ds:List ae},RL H l ds->RL H' l ds
 |_,_,.mk h a=>.mk (e _ _ h) (RDs.same e a)
theorem RDs.same{H H':Hp}(e:a9 H H'):∀{vs:LV}{ds:List ae},RDs H vs ds->RDs H' vs ds
 |_,_,.nil=>.nil
 |_,_,.cons a b=>.cons (RD.same e a) (RDs.same e b)
end
theorem RDs.app{H:Hp}:∀{us vs:LV}{a b:List ae},RDs H us a->RDs H vs b->RDs H (us++vs) (a++b)
 |_,_,_,_,.nil,h=>h
 |_,_,_,_,.cons x r,h=>.cons x (RDs.app r h)
theorem RDs.len{H:Hp}:∀{vs:LV}{ds:List ae},RDs H vs ds->vs.length=ds.length
 |_,_,.nil=>rfl
 |_,_,.cons _ r=>by rw[qJ,qJ,RDs.len r]
theorem RDs.at{H:Hp}:∀{vs:LV}{ds:List ae},RDs H vs ds->∀(i:Nat)(v:V),vs[i]?=some v->∃d,ds[i]?=some d/\RD H v d
 |_,_,.nil,i,v,h=>by simp at h
 |_,_,.cons x r,0,v,h=>by simp at h;subst h;exact⟨_,U,x⟩
 |_,_,.cons x r,i+1,v,h=>by
  simp only[List.getElem?_cons_succ]at h ⊢;exact RDs.at r i v h
inductive RLs(H:Hp):LK->List (List ae)->Prop
 |nil:RLs H [] []
 |cons {l:Addr}{ls:LK}{d:List ae}{ds:List (List ae)}:RL H l d->RLs H ls ds->RLs H (l::ls) (d::ds)
theorem RLs.same{H H':Hp}(e:a9 H H'):∀{c:LK}{ds:List (List ae)},RLs H c ds->RLs H' c ds
 |_,_,.nil=>.nil
 |_,_,.cons a b=>.cons (RL.same e a) (RLs.same e b)
theorem RLs.len{H:Hp}:∀{a:LK}{ds:List (List ae)},RLs H a ds->a.length=ds.length
 |_,_,.nil=>rfl
 |_,_,.cons _ r=>by rw[qJ,qJ,RLs.len r]
theorem RLs.at{H:Hp}:∀{a:LK}{ds:List (List ae)},RLs H a ds->∀(i:Nat)(l:Addr),a[i]?=some l->∃d,ds[i]?=some d/\RL H l d
 |_,_,.nil,i,v,h=>by simp at h
 |_,_,.cons x r,0,v,h=>by simp at h;subst h;exact⟨_,U,x⟩
 |_,_,.cons x r,i+1,v,h=>by
  simp only[List.getElem?_cons_succ]at h ⊢;exact RLs.at r i v h
theorem ke:∀(r:LS)(x:Str),risingS x r=true->∀y∈r,x.cps.toList<=y.cps.toList
 |[],_,_,_,h=>nomatch h
 |z::r,x,h,y,a=>by
  have h':(!ltCps z.cps.toList x.cps.toList && risingS z r)=true:=h;rw[Bool.and_eq_true,Bool.not_eq_true',ltCps_eq,decide_eq_false_iff_not]at h';have b:x.cps.toList<=z.cps.toList:=List.not_lt.mp h'.1;rcases qD.mp a with rfl|a
  .exact b
  .exact List.le_trans b (ke r z h'.2 y a)
theorem lO:∀{r:LS},risingS x r=true->sortedS r=true
 |[],_=>rfl
 |z::r,h=>by
  have h':(!ltCps z.cps.toList x.cps.toList && risingS z r)=true:=h;exact(Bool.and_eq_true_iff.mp h').2
theorem uJ{y:Str}(h:x.cps.toList=y.cps.toList):x=y:=PyProof.Rows.ext_toList h
theorem wg:∀{a b:LS},a.Nodup->b.Nodup->sortedS a=true->sortedS b=true->(∀k,k∈a↔k∈b)->a=b
 |[],[],_,_,_,_,_=>rfl
 |[],y::s,_,_,_,_,h=>Qd ((h y).mpr qw) (by simp)
 |x::r,[],_,_,_,_,h=>Qd ((h x).mp qw) (by simp)
 |x::r,y::s,ha,hb,sa,sb,h=>by
  have d:=List.nodup_cons.mp ha;have c:=List.nodup_cons.mp hb
  have e:x=y:=by
   rcases qD.mp ((h x).mp qw)with e|g
   .exact e
   rcases qD.mp ((h y).mpr qw)with e|f
   .exact e.symm
   exact uJ (List.le_antisymm (ke r x sa y f) (ke s y sb x g))
  subst e;rw[wg d.2 c.2 (lO sa) (lO sb) λk=>?_];constructor
  .intro hk;rcases qD.mp ((h k).mp (qv _ hk))with e|z
   .subst e;exact Qd hk d.1
   .exact z
  .intro hk;rcases qD.mp ((h k).mpr (qv _ hk))with e|z
   .subst e;exact Qd hk c.1
   .exact z
end Tr
variable {ds:List Tr.ae}{Pd:Tr.ae->Prop}
abbrev LA:=List Tr.ae
namespace Tr
open PySem PySem.Spec PyProof.Rows L2
theorem a9.over{o:HO}(h:a9 H0 H)(a:H0 f=none):a9 H0 (upd H f o):=λb u q=>by
 rw[af (cG q a)];exact h b u q
theorem a9.none(h:a9 H0 H)(a:H f=none):H0 f=none:=by
 cases q:H0 f with
 |none=>rfl
 |some o=>rw[h _ _ q]at a;cases a
structure Fz where
 f:Fr
 c:Addr
 p:Addr
 e:Addr
noncomputable def Fz.tupV(x:Fz):LV:=match x.f.op with
 |.root=>[]
 |.ifT n=>[.str "if",.str n,.ref x.c,.ref x.e]
 |.ifO n _=>[.str "if",.str n,.ref x.e,.ref x.c]
 |.whl n=>[.str "while",.str n,.ref x.c]
 |.rep n=>[.str "repeat",.int n,.ref x.c]
noncomputable def Fz.o(x:Fz):V:=match x.f.op with
 |.ifT _=>.ref x.e
 |_=>.non
noncomputable def Fz.muts(x:Fz):LK:=match x.f.op with
 |.ifT _=>[x.c,x.e]
 |_=>[x.c]
def Fz.side(x:Fz)(H0 H:Hp):Prop:=match x.f.op with
 |.ifT _=>H x.e=some (.lst [])
 |.ifO _ t=>RL H0 x.e t
 |_=>True
def ZR(H0 H:Hp):List Fz->LV->Prop
 |[],_=>False
 |x::r,tl=>(∃vs,H x.c=some (.lst (vs++tl))/\RDs H0 vs x.f.ds)/\x.side H0 H/\((x.f.op=.root/\r=[])\/(x.f.op≠.root/\H x.p=some (.tup x.tupV)/\ZR H0 H r [.ref x.p]))
theorem Fz.c_mem(x:Fz):x.c∈x.muts:=by unfold Fz.muts;split<;>simp
theorem ZR.frame{d H H':Hp}:∀{z:List Fz}{tl:LV},ZR d H z tl->(∀m∈z.flatMap Fz.muts,H' m=H m)->(∀p xs,H p=some (.tup xs)->H' p=some (.tup xs))->ZR d H' z tl
 |[],_,h,_,_=>h
 |x::r,tl,⟨⟨vs,h1,h2⟩,h3,a⟩,hm,ht=>by
  have c:∀m∈x.muts,H' m=H m:=λm b=>hm m (by simp[b]);have i:∀m∈r.flatMap Fz.muts,H' m=H m:=λm b=>hm m (by rw[qN];exact qQ _ b);refine⟨⟨vs,by rwa[c _ x.c_mem],h2⟩,?_,?_⟩
  .unfold Fz.side at h3 ⊢;split
   .rename_i e;rw[e]at h3;rw[c x.e (by unfold Fz.muts;rw[e];simp)];exact h3
   .rename_i e;rw[e]at h3;exact h3
   .trivial
  .rcases a with a|⟨a,f,g⟩
   .exact .inl a
   .exact .inr ⟨a,ht _ _ f,ZR.frame g i ht⟩
theorem ZR.grow{d c H:Hp}(e:a9 d c):∀{z:List Fz}{tl:LV},ZR d H z tl->ZR c H z tl
 |[],_,h=>h
 |x::r,tl,⟨⟨vs,h1,h2⟩,b,a⟩=>by
  refine⟨⟨vs,h1,h2.same e⟩,?_,?_⟩
  .unfold Fz.side at b ⊢
   revert b
   cases x.f.op<;>intro b<;>first|exact b|exact RL.same e b
  .rcases a with a|⟨a,g,i⟩
   .exact .inl a
   .exact .inr ⟨a,g,ZR.grow e i⟩
noncomputable def wh:List Fr->LA->LA
 |[],_=>[]
 |[f],dt=>f.ds++dt
 |f::g::r,dt=>wh (g::r) [({ f with ds:=f.ds++dt }:Fr).deed]
theorem zX:∀(r:List Fr)(g:Fr)(d:ae),wh (g.add d::r) []=wh (g::r) [d]
 |[],g,d=>by simp[wh,Fr.add]
 |g'::r,g,d=>by simp[wh,Fr.add]
theorem kQ:∀(n:Nat)(st:List Fr),st.length=n+1->fI n st=wh st []
 |0,[f],_=>by simp[fI,wh]
 |n+1,f::g::r,h=>by
  have e:fI (n+1) (f::g::r)=fI n (g.add f.deed::r):=U;rw[e,kQ n (g.add f.deed::r) (by simp at h ⊢;omega),zX,wh,qG]
noncomputable def kE:List Fz->Addr
 |[]=>0
 |[x]=>x.c
 |_::y::r=>kE (y::r)
theorem ZR.whole{d H:Hp}(e:a9 d H):∀{z:List Fz}{tl:LV}{dt:LA},ZR d H z tl->RDs H tl dt->RL H (kE z) (wh (z.map (·.f)) dt)
 |[],_,_,h,_=>h.elim
 |[x],tl,dt,⟨⟨vs,h1,h2⟩,_,_⟩,ht=>.mk h1 ((h2.same e).app ht)
 |x::y::r,tl,dt,⟨⟨vs,h1,h2⟩,h3,b⟩,ht=>by
  rcases b with⟨_,b⟩|⟨b,a,g⟩
  .cases b
  refine ZR.whole (z:=y::r) e g (.cons ?_ .nil);have hl:RL H x.c (x.f.ds++dt):=.mk h1 ((h2.same e).app ht);unfold Fz.tupV at a;unfold Fz.side at h3;unfold Fr.deed
  cases q:x.f.op with
  |root=>exact Qd q b
  |ifT n=>
   rw[q]at a h3;exact .cond a hl (.mk h3 .nil)
  |ifO n t=>
   rw[q]at a h3;exact .cond a (RL.same e h3) hl
  |whl n=>
   rw[q]at a;exact .whl a hl
  |rep n=>
   rw[q]at a;exact .rep a hl
noncomputable def bx(S s0 s1 s2 s3:Addr)(z:List Fz):LK:=S::s0::s1::s2::s3::z.flatMap Fz.muts
structure ZI(Hb H0 H:Hp)(S s0 s1 s2 s3:Addr)(z:List Fz):Prop where
 hb:a9 Hb H0
 h0:a9 H0 H
 fz:∀m∈bx S s0 s1 s2 s3 z,H0 m=none
 nd:(bx S s0 s1 s2 s3 z).Nodup
 cS:H S=some (.lst [.ref s0,.ref s1,.ref s2,.ref s3])
 c0:H s0=some (.lst ((z.map λx=>V.ref x.c).reverse))
 c1:H s1=some (.lst ((z.map Fz.o).reverse))
 c2:H s2=some (.lst ((z.map λx=>V.bl x.f.shut).reverse))
 c3:H s3=some (.lst ((z.map λx=>V.int x.f.times).reverse))
 zr:ZR H0 H z []
section
variable {Hb H1:Hp}{S s0 s1 s2 s3:Addr}{z:List Fz}
theorem ZI.hbH(Z:ZI Hb H0 H S s0 s1 s2 s3 z):a9 Hb H:=Z.hb.trans Z.h0
theorem ZI.top(Z:ZI Hb H0 H S s0 s1 s2 s3 z):∃x r vs,z=x::r/\H x.c=some (.lst vs)/\RDs H0 vs x.f.ds:=by
 have:=Z.zr
 match z,this with
 |x::r,⟨⟨vs,h1,h2⟩,_⟩=>exact⟨x,r,vs,U,by simpa using h1,h2⟩
theorem ZR.lsts{tl:LV}:∀{z:List Fz},ZR H0 H z tl->∀m∈z.flatMap Fz.muts,∃vs,H m=some (.lst vs):=by
 intro z
 induction z generalizing tl with
 |nil=>intro h;exact h.elim
 |cons x r e=>
  rintro⟨⟨vs,d,_⟩,c,b⟩ m a;rw[qN]at a;rcases qr.mp a with a|a
  .unfold Fz.muts at a;unfold Fz.side at c;split at a<;>rename_i q
   .rw[q]at c;simp at a;rcases a with rfl|rfl
    .exact⟨_,d⟩
    .exact⟨_,c⟩
   .simp at a;subst a;exact⟨_,d⟩
  .rcases b with⟨_,b⟩|⟨_,_,f⟩
   .subst b;simp at a
   .exact e f m a
theorem ZI.lsts(Z:ZI Hb H0 H S s0 s1 s2 s3 z):∀m∈bx S s0 s1 s2 s3 z,∃vs,H m=some (.lst vs):=by
 intro m a;unfold bx at a;simp only[qD]at a;rcases a with rfl|rfl|rfl|rfl|rfl|a
 .exact⟨_,Z.cS⟩
 .exact⟨_,Z.c0⟩
 .exact⟨_,Z.c1⟩
 .exact⟨_,Z.c2⟩
 .exact⟨_,Z.c3⟩
 .exact Z.zr.lsts m a
theorem ZI.same(Z:ZI Hb H0 H S s0 s1 s2 s3 z)(e:a9 H H1):ZI Hb H0 H1 S s0 s1 s2 s3 z where
 hb:=Z.hb
 h0:=Z.h0.trans e
 fz:=Z.fz
 nd:=Z.nd
 cS:=e _ _ Z.cS
 c0:=e _ _ Z.c0
 c1:=e _ _ Z.c1
 c2:=e _ _ Z.c2
 c3:=e _ _ Z.c3
 zr:=Z.zr.frame (λm a=>by obtain⟨vs,h⟩:=Z.zr.lsts m a;rw[h];exact e _ _ h) λp xs h=>e _ _ h
end
end Tr
variable {z:List Tr.Fz}
abbrev LB:=List Tr.Fz
namespace Tr
open PySem PySem.Spec PyProof.Rows L2
section
variable {Hb H1:Hp}{S s0 s1 s2 s3:Addr}
theorem ZI.ne(Z:ZI Hb H0 H S s0 s1 s2 s3 z){m:Addr}(a:m∈z.flatMap Fz.muts):S≠m/\s0≠m/\s1≠m/\s2≠m/\s3≠m:=by
 have nd:=Z.nd;unfold bx at nd;simp only[List.nodup_cons,qD,not_or]at nd;obtain⟨⟨_,_,_,_,n0⟩,⟨_,_,_,n1⟩,⟨_,_,n2⟩,⟨_,c⟩,b,_⟩:=nd;exact⟨(λe=>n0 (e▸a)),(λe=>n1 (e▸a)),(λe=>n2 (e▸a)),(λe=>c (e▸a)),(λe=>b (e▸a))⟩
theorem ZI.ss(Z:ZI Hb H0 H S s0 s1 s2 s3 z):S≠s0/\S≠s1/\S≠s2/\S≠s3/\s0≠s1/\s0≠s2/\s0≠s3/\s1≠s2/\s1≠s3/\s2≠s3:=by
 have nd:=Z.nd;unfold bx at nd;simp only[List.nodup_cons,qD,not_or]at nd;obtain⟨⟨c,a,e,b,_⟩,⟨b1,b2,d,_⟩,⟨c1,c2,_⟩,⟨f,_⟩,_⟩:=nd;exact⟨c,a,e,b,b1,b2,d,c1,c2,f⟩
theorem ZI.ndz(Z:ZI Hb H0 H S s0 s1 s2 s3 z):(z.flatMap Fz.muts).Nodup:=by
 have nd:=Z.nd;unfold bx at nd;simp only[List.nodup_cons]at nd;exact nd.2.2.2.2.2
theorem ZI.fzz(Z:ZI Hb H0 H S s0 s1 s2 s3 z){m:Addr}(a:m∈z.flatMap Fz.muts):H0 m=none:=Z.fz m (by unfold bx;simp[a])
theorem cV{p m:Addr}{xs vs:LV}(a:H p=some (.tup xs))(b:H m=some (.lst vs)):p≠m:=y1 a b (by intro z;cases z)
theorem i9{x:Fz}{r:LB}:x.c∈(x::r).flatMap Fz.muts:=by rw[qN];exact Q5 _ x.c_mem
theorem sB{x:Fz}{r:LB}{m:Addr}(h:m∈r.flatMap Fz.muts):m∈(x::r).flatMap Fz.muts:=by rw[qN];exact qQ _ h
theorem tR{x:Fz}{r:LB}(nd:((x::r).flatMap Fz.muts).Nodup){m:Addr}(h:m∈r.flatMap Fz.muts):m≠x.c:=by
 rw[qN]at nd;intro e;exact(List.nodup_append.mp nd).2.2 x.c x.c_mem m h e.symm
theorem nW{x:Fz}{r:LB}(nd:((x::r).flatMap Fz.muts).Nodup){n:Str}(q:x.f.op=.ifT n):x.e≠x.c/\x.e∈x.muts/\∀m∈r.flatMap Fz.muts,m≠x.e:=by
 rw[qN]at nd;have h:=List.nodup_append.mp nd;have e:x.muts=[x.c,x.e]:=by unfold Fz.muts;rw[q]
 rw[e]at h;refine⟨?_,by rw[e];simp,λm a z=>h.2.2 x.e (by simp) m a z.symm⟩;have:=h.1;simp at this;exact λz=>this z.symm
theorem ZR.rest{x:Fz}{r:LB}{tl:LV}{o:HO}(zr:ZR H0 H (x::r) tl)(nd:((x::r).flatMap Fz.muts).Nodup){vs:LV}(hc:H x.c=some (.lst vs)):
 x.side H0 (upd H x.c o)/\((x.f.op=.root/\r=[])\/(x.f.op≠.root/\(upd H x.c o) x.p=some (.tup x.tupV)/\ZR H0 (upd H x.c o) r [.ref x.p])):=by
 obtain⟨_,b,a⟩:=zr;refine⟨?_,?_⟩
 .unfold Fz.side at b ⊢
  cases q:x.f.op with
  |ifT n=>
   rw[q]at b;show(upd H x.c o) x.e=some (.lst []);rwa[af (nW nd q).1]
  |ifO n t=>rw[q]at b;exact b
  |root=>trivial
  |whl n=>trivial
  |rep n=>trivial
 .rcases a with a|⟨a,d,g⟩
  .exact .inl a
  .refine .inr ⟨a,by rwa[af (cV d hc)],g.frame (λm i=>af (tR nd i)) λp xs h=>by rwa[af (cV h hc)]⟩
theorem ZI.push{x:Fz}{r:LB}{vs xs:LV}{p:Addr}{d:ae}(Z:ZI Hb H0 H S s0 s1 s2 s3 (x::r))(hc:H x.c=some (.lst vs))(h:H p=some (.tup xs))(k:H0 p=none)(hd:RD (upd H0 p (.tup xs)) (.ref p) d):
 ZI Hb (upd H0 p (.tup xs)) (upd H x.c (.lst (vs++[.ref p]))) S s0 s1 s2 s3 ({ x with f:=x.f.add d }::r):=by
 have n:=Z.ne (i9 (x:=x) (r:=r));have t:=cV h hc;have w:H0 x.c=none:=Z.fzz i9;have g:a9 H0 (upd H0 p (.tup xs)):=a9.new k _;have rest:=(Z.zr.rest (o:=.lst (vs++[.ref p])) Z.ndz hc);refine{ hb:=Z.hb.trans g,h0:=?_,fz:=?_,nd:=Z.nd,cS:=?_,c0:=?_,c1:=?_,c2:=?_,c3:=?_,zr:=?_ }
 .intro b u q;by_cases e:b=p
  .subst e;rw[ah]at q;cases q;rwa[af t]
  .rw[af e]at q;rw[af (cG q w)];exact Z.h0 _ _ q
 .intro m j;obtain⟨_,hw⟩:=Z.lsts m j;rw[af (Ne.symm (cV h hw))];exact Z.fz m j
 .rw[af n.1];exact Z.cS
 .rw[af n.2.1];exact Z.c0
 .rw[af n.2.2.1];exact Z.c1
 .rw[af n.2.2.2.1];exact Z.c2
 .rw[af n.2.2.2.2];exact Z.c3
 .obtain⟨⟨_,i,l⟩,_,_⟩:=Z.zr;rw[qG,hc]at i;cases i;refine⟨⟨vs++[.ref p],by rw[qG];exact ah,(l.same g).app (.cons hd .nil)⟩,?_,?_⟩
  .have q:=rest.1;unfold Fz.side at q ⊢;dsimp only[Fr.add]
   revert q
   cases x.f.op<;>intro q<;>first|exact q|exact RL.same g q
  .rcases rest.2 with a|⟨a,s,v⟩
   .exact .inl a
   .exact .inr ⟨a,s,v.grow g⟩
end
section
variable {Hb:Hp}{S s0 s1 s2 s3:Addr}
theorem ZI.opened{x y:Fz}{r:LB}{vs:LV}(Z:ZI Hb H0 H S s0 s1 s2 s3 (x::r))(hc:H x.c=some (.lst vs))
 (k:∀b u,b≠x.c->b≠s0->b≠s1->b≠s2->b≠s3->H b=some u->H' b=some u) (nm:∀m∈y.muts,H m=none/\H' m=some (.lst [])) (L:y.muts.Nodup) (P:H' y.p=some (.tup y.tupV))
 (v:y.f.op≠.root) (w:∀n t,y.f.op≠.ifO n t) (A:y.f.ds=[])
 (M:H' x.c=some (.lst (vs++[.ref y.p]))) (J:H' s0=some (.lst (((x::r).map λx=>V.ref x.c).reverse++[.ref y.c]))) (O:H' s1=some (.lst (((x::r).map Fz.o).reverse++[y.o])))
 (G:H' s2=some (.lst (((x::r).map λx=>V.bl x.f.shut).reverse++[.bl y.f.shut]))) (K:H' s3=some (.lst (((x::r).map λx=>V.int x.f.times).reverse++[.int y.f.times]))):ZI Hb H0 H' S s0 s1 s2 s3 (y::x::r):=by
 have sn:=Z.ss;have R:=Z.ne (i9 (x:=x) (r:=r))
 have fresh:∀m∈y.muts,∀b∈bx S s0 s1 s2 s3 (x::r),m≠b:=λm d b hb e=>by
  obtain⟨Q,hw⟩:=Z.lsts b hb;rw[<- e,(nm m d).1]at hw;cases hw
 have C:bx S s0 s1 s2 s3 (y::x::r)=[S,s0,s1,s2,s3]++(y.muts++(x::r).flatMap Fz.muts):=by simp[bx]
 have g:bx S s0 s1 s2 s3 (x::r)=[S,s0,s1,s2,s3]++(x::r).flatMap Fz.muts:=by simp[bx]
 have E:a9 H0 H':=λb u q=>by
  have nb:∀m∈bx S s0 s1 s2 s3 (x::r),b≠m:=λm d=>cG q (Z.fz m d);exact k b u (nb _ (by rw[g];exact qQ _ i9)) (nb _ (by rw[g];simp)) (nb _ (by rw[g];simp)) (nb _ (by rw[g];simp)) (nb _ (by rw[g];simp)) (Z.h0 _ _ q)
 have l:∀m,m∈(x::r).flatMap Fz.muts->m≠x.c->H' m=H m:=λm d z=>by
  obtain⟨Q,hw⟩:=Z.zr.lsts m d;have n:=Z.ne d;rw[hw];exact k m _ z (Ne.symm n.2.1) (Ne.symm n.2.2.1) (Ne.symm n.2.2.2.1) (Ne.symm n.2.2.2.2) hw
 have D:∀p xs,H p=some (.tup xs)->H' p=some (.tup xs):=λp xs h=>k p _ (cV h hc) (cV h Z.c0) (cV h Z.c1) (cV h Z.c2) (cV h Z.c3) h;refine{ hb:=Z.hb,h0:=E,fz:=?_,nd:=?_,cS:=k _ _ R.1 sn.1 sn.2.1 sn.2.2.1 sn.2.2.2.1 Z.cS,c0:=?_,c1:=?_,c2:=?_,c3:=?_,zr:=?_ }
 .intro m d;rw[C,qr,qr]at d;rcases d with d|d|d
  .exact Z.fz m (by rw[g];exact Q5 _ d)
  .exact a9.none Z.h0 (nm m d).1
  .exact Z.fzz d
 .have nd:=Z.nd;rw[g]at nd;rw[C,List.nodup_append,List.nodup_append];have a:=List.nodup_append.mp nd;refine⟨a.1,⟨L,a.2.1,λm d b hb=>fresh m d b (by rw[g];exact qQ _ hb)⟩,λm d b hb=>?_⟩;rcases qr.mp hb with hb|hb
  .exact Ne.symm (fresh b hb m (by rw[g];exact Q5 _ d))
  .exact a.2.2 m d b hb
 .rw[J];simp
 .rw[O];simp
 .rw[G];simp
 .rw[K];simp
 .obtain⟨⟨_,s,I⟩,i,j⟩:=Z.zr;rw[qG,hc]at s;cases s;refine⟨⟨[],(nm _ y.c_mem).2,by rw[A];exact .nil⟩,?_,.inr ⟨v,P,⟨vs,M,I⟩,?_,?_⟩⟩
  .unfold Fz.side
   cases q:y.f.op with
   |ifT n=>exact(nm y.e (by unfold Fz.muts;rw[q];simp)).2
   |ifO n t=>exact Qd q (w n t)
   |root=>trivial
   |whl n=>trivial
   |rep n=>trivial
  .unfold Fz.side at i ⊢
   cases q:x.f.op with
   |ifT n=>
    rw[q]at i;have B:=nW Z.ndz q;show H' x.e=some (.lst []);rw[l x.e (by rw[qN];exact Q5 _ B.2.1) B.1];exact i
   |ifO n t=>rw[q]at i;exact i
   |root=>trivial
   |whl n=>trivial
   |rep n=>trivial
  .rcases j with j|⟨j,F,N⟩
   .exact .inl j
   .exact .inr ⟨j,D _ _ F,N.frame (λm d=>l m (sB d) (tR Z.ndz d)) D⟩
theorem ZI.elsed{x:Fz}{r:LB}{vs:LV}{n:Str}(Z:ZI Hb H0 H S s0 s1 s2 s3 (x::r))(q:x.f.op=.ifT n)(hc:H x.c=some (.lst vs))
 (k:∀b u,b≠s0->b≠s1->H b=some u->H' b=some u) (E:H' s0=some (.lst ((r.map λx=>V.ref x.c).reverse++[.ref x.e]))) (Q:H' s1=some (.lst ((r.map Fz.o).reverse++[.non]))):
 ZI Hb (upd H0 x.c (.lst vs)) H' S s0 s1 s2 s3 (⟨{ x.f with op:=.ifO n x.f.ds,ds:=[] },x.e,x.p,x.c⟩::r):=by
 have sn:=Z.ss;have d:=Z.ne (i9 (x:=x) (r:=r));have y:=nW Z.ndz q;have v:x.e∈(x::r).flatMap Fz.muts:=by rw[qN];exact Q5 _ y.2.1
 have en:=Z.ne v;have g:a9 H0 (upd H0 x.c (.lst vs)):=a9.new (Z.fzz i9) _;have w:x.muts=[x.c,x.e]:=by unfold Fz.muts;rw[q]
 have z:∀p xs,H p=some (.tup xs)->H' p=some (.tup xs):=λp xs h=>k p _ (cV h Z.c0) (cV h Z.c1) h
 have j:∀m,m∈(x::r).flatMap Fz.muts->H' m=H m:=λm a=>by
  obtain⟨_,hw⟩:=Z.zr.lsts m a;have n:=Z.ne a;rw[hw];exact k m _ (Ne.symm n.2.1) (Ne.symm n.2.2.1) hw
 have M:H0 s0=none:=Z.fz _ (by simp[bx]);have W:H0 s1=none:=Z.fz _ (by simp[bx]);obtain⟨⟨_,t,D⟩,s,i⟩:=Z.zr;rw[qG,hc]at t;cases t;unfold Fz.side at s;rw[q]at s
 have sub:∀m,m∈bx S s0 s1 s2 s3 (⟨{ x.f with op:=.ifO n x.f.ds,ds:=[] },x.e,x.p,x.c⟩::r)->m∈bx S s0 s1 s2 s3 (x::r)/\m≠x.c:=λm a=>by
  simp only[bx,qN,Fz.muts,qD,Qu,Qt]at a;simp only[bx,qN,w,qD,Qu,Qt];rcases a with rfl|rfl|rfl|rfl|rfl|rfl|a
  .exact⟨by simp,d.1⟩
  .exact⟨by simp,d.2.1⟩
  .exact⟨by simp,d.2.2.1⟩
  .exact⟨by simp,d.2.2.2.1⟩
  .exact⟨by simp,d.2.2.2.2⟩
  .exact⟨by simp,y.1⟩
  .have l:m∈r.flatMap Fz.muts:=by simpa using a
   exact⟨by simp[l],tR Z.ndz l⟩
 refine{ hb:=Z.hb.trans g,h0:=?_,fz:=?_,nd:=?_,cS:=k _ _ sn.1 sn.2.1 Z.cS,c0:=?_,c1:=?_,c2:=?_,c3:=?_,zr:=?_ }
 .intro b u hb;by_cases e:b=x.c
  .subst e;rw[ah]at hb;cases hb;exact k _ _ (Ne.symm d.2.1) (Ne.symm d.2.2.1) hc
  .rw[af e]at hb;exact k _ _ (cG hb M) (cG hb W) (Z.h0 _ _ hb)
 .intro m a;rw[af (sub m a).2];exact Z.fz m (sub m a).1
 .have nd:=Z.nd;simp only[bx,qN,w,Qu,Qt,List.nodup_cons,qD,not_or]at nd;simp only[bx,qN,Fz.muts,Qu,Qt,List.nodup_cons,qD,not_or];obtain⟨⟨O,N,X,J,_,a6,R⟩,⟨b1,b2,L,_,b5,C⟩,⟨c1,c2,_,K,T⟩,⟨F,_,G,d4⟩,⟨_,B,X0⟩,_,f2,I⟩:=nd;exact⟨⟨O,N,X,J,a6,R⟩,⟨b1,b2,L,b5,C⟩,⟨c1,c2,K,T⟩,⟨F,G,d4⟩,⟨B,X0⟩,f2,I⟩
 .rw[E];simp
 .rw[Q];simp[Fz.o]
 .refine(k _ _ (Ne.symm sn.2.2.2.2.2.1) (Ne.symm sn.2.2.2.2.2.2.2.1) Z.c2).trans ?_;simp
 .refine(k _ _ (Ne.symm sn.2.2.2.2.2.2.1) (Ne.symm sn.2.2.2.2.2.2.2.2.1) Z.c3).trans ?_;simp
 .refine⟨⟨[],?_,.nil⟩,.mk ah (D.same g),?_⟩
  .show H' x.e=some (.lst ([]++[]));rwa[j x.e v]
  .rcases i with⟨i,_⟩|⟨i,A,P⟩
   .rw[q]at i;cases i
   .refine .inr ⟨by simp,?_,(P.frame (λm a=>j m (sB a)) z).grow g⟩;have:=z _ _ A;unfold Fz.tupV at this ⊢;rw[q]at this;exact this
theorem ZI.closed{x g:Fz}{r:LB}(Z:ZI Hb H0 H S s0 s1 s2 s3 (x::g::r))
 (k:∀b u,b≠s0->b≠s1->b≠s2->b≠s3->H b=some u->H' b=some u) (M:H' s0=some (.lst (((g::r).map λx=>V.ref x.c).reverse))) (T:H' s1=some (.lst (((g::r).map Fz.o).reverse)))
 (J:H' s2=some (.lst (((g::r).map λx=>V.bl x.f.shut).reverse))) (N:H' s3=some (.lst (((g::r).map λx=>V.int x.f.times).reverse))):
 ∃H0',ZI Hb H0' H' S s0 s1 s2 s3 ({ g with f:=g.f.add x.f.deed }::r):=by
 have sn:=Z.ss;obtain⟨⟨vs,E,K⟩,i,j⟩:=Z.zr;rw[qG]at E;rcases j with⟨_,j⟩|⟨j,l,Q⟩
 .cases j
 have G:∀p xs,H p=some (.tup xs)->H' p=some (.tup xs):=λp xs h=>k p _ (cV h Z.c0) (cV h Z.c1) (cV h Z.c2) (cV h Z.c3) h
 have w:∀m,m∈(x::g::r).flatMap Fz.muts->H' m=H m:=λm d=>by
  obtain⟨D,hw⟩:=Z.zr.lsts m d;have n:=Z.ne d;rw[hw];exact k m _ (Ne.symm n.2.1) (Ne.symm n.2.2.1) (Ne.symm n.2.2.2.1) (Ne.symm n.2.2.2.2) hw
 have F:∀m∈x.muts,m∈(x::g::r).flatMap Fz.muts:=λm d=>by rw[qN];exact Q5 _ d
 let H0':Hp:=λb=>if b∈x.muts\/b=x.p then H b else H0 b
 have e:∀b,b∈x.muts\/b=x.p->H0' b=H b:=λb hb=>Qa hb;have C:∀b,¬ (b∈x.muts\/b=x.p)->H0' b=H0 b:=λb hb=>Q9 hb
 have s:a9 H0 H0':=λb u hb=>by
  by_cases c:b∈x.muts\/b=x.p
  .rw[e b c];exact Z.h0 _ _ hb
  .rwa[C b c]
 have hl:RL H0' x.c x.f.ds:=.mk ((e _ (.inl x.c_mem)).trans E) (K.same s);have ht:H0' x.p=some (.tup x.tupV):=(e _ (.inr U)).trans l
 have hd:RD H0' (.ref x.p) x.f.deed:=by
  unfold Fz.tupV at ht;unfold Fz.side at i;unfold Fr.deed
  cases q:x.f.op with
  |root=>exact Qd q j
  |ifT n=>
   rw[q]at ht i;exact .cond ht hl (.mk ((e _ (.inl (by unfold Fz.muts;rw[q];simp))).trans i) .nil)
  |ifO n t=>
   rw[q]at ht i;exact .cond ht (RL.same s i) hl
  |whl n=>
   rw[q]at ht;exact .whl ht hl
  |rep n=>
   rw[q]at ht;exact .rep ht hl
 have A:=Z.ndz;rw[qN]at A;have B:=List.nodup_append.mp A
 have ex:∀m,m∈bx S s0 s1 s2 s3 (g::r)->H0' m=none:=λm d=>by
  have y:m∈bx S s0 s1 s2 s3 (x::g::r):=by
   simp only[bx,qN,qD,qr]at d ⊢;rcases d with h|h|h|h|h|h
   .exact .inl h
   .exact .inr (.inl h)
   .exact .inr (.inr (.inl h))
   .exact .inr (.inr (.inr (.inl h)))
   .exact .inr (.inr (.inr (.inr (.inl h))))
   .exact .inr (.inr (.inr (.inr (.inr (.inr h)))))
  rw[C m ?_]
  .exact Z.fz m y
  .rintro(v|v)
   .have n:=Z.ne (F m v);simp only[bx,qD]at d;rcases d with h|h|h|h|h|h
    .exact n.1 h.symm
    .exact n.2.1 h.symm
    .exact n.2.2.1 h.symm
    .exact n.2.2.2.1 h.symm
    .exact n.2.2.2.2 h.symm
    .exact B.2.2 m v m h U
   .obtain⟨D,hw⟩:=Z.lsts m y;exact cV l hw v.symm
 refine⟨H0',{ hb:=Z.hb.trans s,h0:=?_,fz:=ex,nd:=?_,cS:=k _ _ sn.1 sn.2.1 sn.2.2.1 sn.2.2.2.1 Z.cS,c0:=M,c1:=T,c2:=J,c3:=N,zr:=?_ }⟩
 .intro b u hb;by_cases c:b∈x.muts\/b=x.p
  .rw[e b c]at hb;rcases c with c|c
   .rwa[w b (F b c)]
   .subst c;rw[l]at hb;cases hb;exact G _ _ l
  .rw[C b c]at hb;have z:∀m,m∈bx S s0 s1 s2 s3 (x::g::r)->b≠m:=λm d=>cG hb (Z.fz m d);exact k _ _ (z _ (by simp[bx])) (z _ (by simp[bx])) (z _ (by simp[bx])) (z _ (by simp[bx])) (Z.h0 _ _ hb)
 .have nd:=Z.nd;have X:bx S s0 s1 s2 s3 (x::g::r)=[S,s0,s1,s2,s3]++(x.muts++(g::r).flatMap Fz.muts):=by simp[bx]
  rw[X]at nd;have a:=List.nodup_append.mp nd;show(bx S s0 s1 s2 s3 (g::r)).Nodup;have I:bx S s0 s1 s2 s3 (g::r)=[S,s0,s1,s2,s3]++(g::r).flatMap Fz.muts:=by simp[bx]
  rw[I,List.nodup_append];exact⟨a.1,B.2.1,λm d b hb=>a.2.2 m d b (qQ _ hb)⟩
 .have P:=(Q.frame (H':=H') (λm d=>w m (sB d)) G).grow s;obtain⟨⟨D,O,R⟩,L,W⟩:=P;exact⟨⟨D++[.ref x.p],by rw[qG];exact O,R.app (.cons hd .nil)⟩,L,W⟩
end
section
variable {Hb H4:Hp}{S s0 s1 s2 s3:Addr}
theorem rV{x y:Fz}{r:LB}{vs:LV}(Z:ZI Hb H0 H S s0 s1 s2 s3 (x::r))(hc:H x.c=some (.lst vs))(g:∀b u,b≠x.c->H b=some u->H4 b=some u)(nm:∀m∈y.muts,H m=none/\H4 m=some (.lst []))(E:y.muts.Nodup)
 (i:H4 y.p=some (.tup y.tupV)) (j:y.f.op≠.root) (k:∀n t,y.f.op≠.ifO n t) (l:y.f.ds=[]) (G:H4 x.c=some (.lst (vs++[.ref y.p]))):
 ZI Hb H0 (upd (upd (upd (upd H4 s0 (.lst (((x::r).map λx=>V.ref x.c).reverse++[.ref y.c]))) s1 (.lst (((x::r).map Fz.o).reverse++[y.o]))) s2 (.lst (((x::r).map λx=>V.bl x.f.shut).reverse++[.bl y.f.shut]))) s3 (.lst (((x::r).map λx=>V.int x.f.times).reverse++[.int y.f.times]))) S s0 s1 s2 s3 (y::x::r):=by
 obtain⟨_,_,_,_,z,s,q,A,v,w⟩:=Z.ss;have a:=Z.ne (i9 (x:=x) (r:=r))
 have J:∀m∈y.muts,m≠s0/\m≠s1/\m≠s2/\m≠s3:=λm d=>by
  have hn:=(nm m d).1;exact⟨(λe=>by rw[e,Z.c0]at hn;cases hn),(λe=>by rw[e,Z.c1]at hn;cases hn),(λe=>by rw[e,Z.c2]at hn;cases hn),(λe=>by rw[e,Z.c3]at hn;cases hn)⟩
 have c0:=g _ _ a.2.1 Z.c0;have c1:=g _ _ a.2.2.1 Z.c1;have c2:=g _ _ a.2.2.2.1 Z.c2;have c3:=g _ _ a.2.2.2.2 Z.c3;refine Z.opened (y:=y) hc (λb u B D F I C hb=>?_) (λm d=>⟨(nm m d).1,?_⟩) E ?_ j k l ?_ ?_ ?_ ?_ ?_
 .rw[af C,af I,af F,af D];exact g b u B hb
 .have h:=J m d;rw[af h.2.2.2,af h.2.2.1,af h.2.1,af h.1];exact(nm m d).2
 .rwa[af (cV i c3),af (cV i c2),af (cV i c1),af (cV i c0)]
 .rw[af (Ne.symm a.2.2.2.2),af (Ne.symm a.2.2.2.1),af (Ne.symm a.2.2.1),af (Ne.symm a.2.1)];exact G
 .rw[af q,af s,af z,ah]
 .rw[af v,af A,ah]
 .rw[af w,ah]
 .rw[ah]
theorem ym{l:List α}{v:α}:atI (l++[v]) (-1)=some v:=by
 unfold atI
 have e:ixN (l++[v]).length (-1)=some l.length:=by
  unfold ixN;simp;omega
 rw[e];simp
theorem gP{a:Type}{f:α->a}{x:α}{r:List α}:atI (((x::r).map f).reverse) (-1)=some (f x):=by
 rw[qZ,List.reverse_cons];exact ym
end
theorem yL:∀ds:LA,ds.length<=(ak ds).length
 |[]=>qo _
 |d::r=>by
  have:=yL r;rw[ak,qh,qJ,jF,qJ];omega
theorem Ac{f:Fr}{r:List Fr}:f.ds.length<=cnt (f::r):=by
 have:=yL f.ds;rw[cnt];omega
def n8(st:List Fr):Prop:=∀f∈st,0<=f.times/\f.times<=1000
theorem AM{names:LS}{low n:Int}{st:List Fr}(h0:0<=most)(d:most<=1000)(hn:0<=n)(ht:n8 st):n8 (ck names rooms most low st n):=by
 match st,ht with
 |[],ht=>exact ht
 |g::r,ht=>
  have b:=ht g qw;have hr:∀f∈r,0<=f.times/\f.times<=1000:=λf a=>ht f (qv _ a);unfold ck;dsimp only;split
  .unfold gK;dsimp only;intro f a;rcases qD.mp a with rfl|a
   .split
    .exact⟨by simp,by simp⟩
    .split
     .exact⟨by simp,by simp⟩
     .dsimp only;unfold cQ;by_cases tp:0<g.times
      .rw[Qa tp];have i:0<=most / g.times:=Int.ediv_nonneg h0 b.1;have c:0<=n / 70 % (1+most / g.times):=Qi _ Yo;have h:n / 70 % (1+most / g.times)<1+most / g.times:=Qn _ Yo;exists Int.mul_nonneg b.1 c;have e:g.times * (n / 70 % (1+most / g.times))<=g.times * (most / g.times):=Int.mul_le_mul_of_nonneg_left Yo b.1;have j:g.times * (most / g.times)<=most:=Int.mul_ediv_self_le Yo;omega
      .have:g.times=0:=by omega
       rw[this];simp
   .exact ht f a
  .split
   .intro f a;rcases qD.mp a with rfl|a
    .exact b
    .exact hr f a
   .split
    .cases r with
     |nil=>exact ht
     |cons g' _=>
      intro f a;rcases qD.mp a with rfl|a
      .exact hr g' qw
      .exact hr f (qv _ a)
    .intro f a;rcases qD.mp a with rfl|a
     .exact b
     .exact hr f a
theorem AQ{names:LS}{low:Int}{a:LI}{c:Int}(h:a[i]?=some c):dJ names rooms most low (a.take (i+1))=ck names rooms most low (dJ names rooms most low (a.take i)) (aG c 1):=by
 unfold dJ;rw[qA,h,List.foldl_append]
 rfl
theorem uP{names rooms:LS}{most low:Int}(h0:0<=most)(a:most<=1000):∀(cells:LI)(st:List Fr),n8 st->n8 (cells.foldl (λst c=>ck names rooms most low st (aG c 1)) st)
 |[],st,h=>h
 |c::cs,st,h=>uP h0 a cs _ (AM h0 a (by unfold aG;exact Qi _ Yk) h)
theorem zj{x a:Fz}{r:LB}(h:a.c=x.c):kE (a::r)=kE (x::r):=by
 cases r with
 |nil=>exact h
 |cons y r=>rfl
theorem Fl{L Pc c A:Prop}{a:Decidable c}(hw:c->Pc)(rest:Pc->L)(h:¬ c->(Pc->L)->B)(e:A=L:=by rfl):@ite Prop c a A B:=by
 subst e;by_cases hc:c
 .rw[Qa hc];exact rest (hw hc)
 .rw[Q9 hc];exact h hc rest
theorem yr{l:List α}{v:α}:ixN (l++[v]).length (-1)=some l.length:=by
 unfold ixN;simp;omega
theorem ww{l:List α}{v w:α}:(l++[v]).set l.length w=l++[w]:=by
 induction l with
 |nil=>rfl
 |cons a r b=>simp[b]
theorem goB{Pc:Prop}{F:Bool->Prop}(go:Pc->∃k,V.bl false=V.bl k/\F k)(p:Pc):F false:=by
 obtain⟨k,e,h⟩:=go p;cases e;exact h
end Tr
namespace Tr
theorem mP{a:Type}{f:α->a}{x:α}{r:List α}:(((x::r).map f).reverse).dropLast=(r.map f).reverse:=by
 rw[qZ,List.reverse_cons,List.dropLast_concat]
theorem mD{a:Type}{f:α->a}{x:α}{r:List α}:(((x::r).map f).reverse)[(((x::r).map f).reverse).length-1]?=some (f x):=by
 rw[qZ,List.reverse_cons];simp
end Tr
namespace Tr
open PySem PySem.Spec PyProof.Rows L2
noncomputable def wq:LS:=("+-*/<=&|^":Str).cps.toList.map sgn
noncomputable def kH(names rooms:LS):LS:=names++rooms++wq
def Low(x:Str):Prop:=∀c∈x.cps.toList,c<128
theorem Low.app{y:Str}(a:Low x)(b:Low y):Low (x++y):=λc hc=>by
 have e:(x++y).cps.toList=x.cps.toList++y.cps.toList:=by
  show(x.cps++y.cps).toList=_;simp
 rw[e,qr]at hc;exact hc.elim (a c) (b c)
theorem Low.slice{x:Str}(h:Low x)(a b:Option Int):Low (Txt.slice x a b):=λc hc=>by
 unfold Txt.slice at hc;split at hc
 .exact h c hc
 .simp only[List.mem_filterMap]at hc;obtain⟨i,_,d⟩:=hc;have:=Array.mem_of_getElem? d;exact h c (by simpa using this)
theorem u5(j:Int):cu j<128:=by
 unfold cu;have all:∀c∈df.cps.toList,c<128:=Yd;rw[qu]
 cases e:df.cps.toList[j.toNat]? with
 |none=>decide
 |some c=>exact all c (qI e)
theorem nX{c:Nat}(h:c<128):Low (sgn c):=λd hd=>by
 simp[sgn]at hd;subst hd;exact h
theorem sL(n:Int):∀k,Low (cJ n k)
 |0=>λc hc=>by simp[cJ]at hc;exact Qd hc (by decide +kernel +revert)
 |k+1=>by rw[cJ];exact(sL n k).app (nX (u5 _))
theorem AV{w:Str}(h:Low w):Low (cW w):=by
 unfold cW;split
 .exact(h.slice _ _).app (nX (u5 _))
 .exact h
theorem CT(c k:Int):Low (ci c k):=by
 have b:Low (ca c):=sL _ _;have s:Low (fq c k):=nX (u5 _);unfold ci;split
 .exact((b.slice _ _).app s).app (b.slice _ _)
 .split
  .exact b.slice _ _
  .exact(s.app (sL _ _)).slice _ _
theorem ki(c:Int)(n:Nat):∀w∈cO c n,Low w:=by
 have a:∀w∈dU c n,Low w:=λw hw=>by
  unfold dU at hw;obtain⟨k,_,rfl⟩:=List.mem_map.mp hw;exact AV (CT c k)
 unfold cO;split
 .intro w hw;exact a w (List.mem_reverse.mp hw)
 .exact a
theorem sH{w:Str}(h:Low w):PyData.strOk w=true:=by
 unfold PyData.strOk;rw[<- Array.all_toList,List.all_eq_true];intro c hc;have:=h c hc;simp;omega
theorem Bi:∀s∈wq,PyData.strOk s=true:=Yd
theorem Ae{c1 c2:Int}{n1 n2:Nat}:∀s∈kH (cO c1 n1) (cO c2 n2),PyData.strOk s=true:=by
 intro s hs;unfold kH at hs;simp only[qr]at hs;rcases hs with(hs|hs)|hs
 .exact sH (ki _ _ s hs)
 .exact sH (ki _ _ s hs)
 .exact Bi s hs
theorem AX{w:Str}(h:w.length<=50):(cW w).length<=51:=by
 unfold cW;split
 .have:=Txt.slice_le w none (some (-1));rw[eh];have:(sgn (cu ((iR w+13) % 26))).length=1:=U;omega
 .omega
theorem sN(n:Int):∀k:Nat,(cJ n k).length=k
 |0=>rfl
 |k+1=>by rw[cJ,eh,sN n k];rfl
theorem CU(c k:Int):(ci c k).length<=50:=by
 unfold ci;have b:(ca c).length=8:=sN _ 8;have s:(fq c k).length=1:=U;split
 .have a:=Txt.slice_le (ca c) none (some (dD c));have d:=Txt.slice_le (ca c) (some (dD c+1)) (some (eZ c));rw[eh,eh];omega
 .split
  .have a:=Txt.slice_le (ca c) none (some (1+(aG c 1 / 24+k) % 8));omega
  .have a:=Txt.slice_le (fq c k++cJ (aG c (k+2)) 7) none (some (1+aG c (k+40) % 8));rw[eh,sN]at a;omega
theorem lU(c:Int)(n:Nat):∀w∈cO c n,w.length<=51:=by
 have a:∀w∈dU c n,w.length<=51:=λw hw=>by
  unfold dU at hw;obtain⟨k,_,rfl⟩:=List.mem_map.mp hw;exact AX (CU c k)
 unfold cO;split
 .intro w hw;exact a w (List.mem_reverse.mp hw)
 .exact a
theorem GZ{c1 c2:Int}{n1 n2:Nat}:∀s∈bA (cO c1 n1) (cO c2 n2),s.length<=1000:=by
 intro s hs;unfold bA at hs;simp only[qr,List.mem_map,Q0]at hs;rcases hs with((hs|⟨q,a,rfl⟩)|⟨q,a,rfl⟩)|rfl
 .have:=lU _ _ s hs;omega
 .have:=lU _ _ q a;rw[eh];have:((">":Str)).length=1:=by decide +kernel
  omega
 .have:=lU _ _ q a;rw[eh];have:(("<":Str)).length=1:=by decide +kernel
  omega
 .decide +kernel
theorem Hg{names:LS}:(bA names rooms).length=names.length+2 * rooms.length+1:=by
 unfold bA;simp;omega
end Tr
namespace L2
open PySem PySem.Spec PyProof.Rows
theorem yZ{g:TG}{d:LV->Hp->Prop}(a:Nat->LV->St->Hp->Prop)(h0:a 0 [] Y H)(k:∀i ys Y H,i<=n->a i ys Y H->ys.length<=i)(l:n<=sizeLine)
 (hs:∀i ys Y H,i<n->a i ys Y H->g (.int i) Y H λc H2=>tt c H2 λb f=>if b=true then te c f λy H4=>a (i+1) (ys++[y]) c H4 else a (i+1) ys c f)
 (hd:∀ys Y H,a n ys Y H->d ys H):∃W:Nat->Nat->LV->St->Hp->Prop,(∃m,W 0 m [] Y H)/\iA (Itr 0 n) g tt te d W:=by
 exists λi m ys Y H=>m=n-i/\i<=n/\a i ys Y H,⟨_,U,qC _,h0⟩;rintro i m ys Y H ⟨rfl,h,p⟩;have few:=k i ys Y H h p;by_cases lt:i<n
 .refine .inr ⟨lt,Yo,a (i+1),λ_ _ H' j=>⟨_,Yo,U,lt,j⟩,λv H' y=>?_⟩;obtain⟨e,y⟩:=y;rw[Int.zero_add]at y;subst e y;exact hs i ys Y _ lt p
 .obtain rfl:i=n:=by omega
  exact .inl ⟨qo _,Yo,hd ys Y H p⟩
theorem iq{xs:LV}{g:TG}{d:LV->Hp->Prop}(b:Nat->LV->St->Hp->Prop)(h0:b 0 [] Y H)(f:∀i ys Y H,i<=xs.length->b i ys Y H->ys.length<=i)(e:xs.length<=sizeLine)(hl:∀i ys Y H,b i ys Y H->SqL K H a xs)
 (hs:∀i x ys Y H,xs[i]?=some x->b i ys Y H->g x Y H λc H2=>te c H2 λy H4=>b (i+1) (ys++[y]) c H4)
 (hd:∀ys Y H,b xs.length ys Y H->d ys H):∃W:Nat->Nat->LV->St->Hp->Prop,(∃m,W 0 m [] Y H)/\iA (Itl K a) g jR te d W:=
 tK b h0 f e hl (λi x ys Y H e p=>by
  rw[ug (N':=λ_ _ _=>True)]
  exact hs i x ys Y H e p) hd
end L2
namespace Tr
open PySem PySem.Spec PyProof.Rows L2
inductive RSs(H:Hp):LV->LF->Prop
 |nil:RSs H [] []
 |cons {p:Addr}{vs:LV}{q:Str}{n:Int}{ss:LF}:H p=some (.tup [.str q,.int n])->RSs H vs ss->RSs H (.ref p::vs) ((q,n)::ss)
theorem RSs.same{H H':Hp}(e:a9 H H'):∀{vs:LV}{ss:LF},RSs H vs ss->RSs H' vs ss
 |_,_,.nil=>.nil
 |_,_,.cons h r=>.cons (e _ _ h) (RSs.same e r)
theorem RSs.snoc{H:Hp}{p:Addr}{q:Str}{n:Int}(h:H p=some (.tup [.str q,.int n])):∀{vs:LV}{ss:LF},RSs H vs ss->RSs H (vs++[.ref p]) (ss++[(q,n)])
 |_,_,.nil=>.cons h .nil
 |_,_,.cons h' r=>.cons h' (RSs.snoc h r)
theorem RSs.len{H:Hp}:∀{vs:LV}{ss:LF},RSs H vs ss->vs.length=ss.length
 |_,_,.nil=>rfl
 |_,_,.cons _ r=>congrArg (·+1) (RSs.len r)
theorem RSs.at{H:Hp}:∀{vs:LV}{ss:LF},RSs H vs ss->∀(i:Nat)(v:V),vs[i]?=some v->∃p q n,v=.ref p/\ss[i]?=some (q,n)/\H p=some (.tup [.str q,.int n])
 |_,_,.nil,i,v,h=>by simp at h
 |_,_,.cons (p:=p) (q:=q) (n:=n) h' r,0,v,h=>by
  simp at h;exact⟨p,q,n,h.symm,U,h'⟩
 |_,_,.cons h' r,i+1,v,h=>RSs.at r i v (by simpa using h)
noncomputable def fh(s:Str×Int):PyData:=.tuple [.str s.1,.int s.2]
theorem RSs.dt{K:W.Frag}{H:Hp}:∀{vs:LV}{ss:LF},RSs H vs ss->fg K H vs (ss.map fh)
 |_,_,.nil=>.nil
 |_,_,.cons h r=>.cons (.tup (SqT.of h) (.cons (.str _) (.cons (.int _) .nil))) (RSs.dt r)
theorem nD{K:W.Frag}{H:Hp}:∀xs:LS,fg K H (xs.map V.str) (xs.map PyData.str)
 |[]=>.nil
 |x::r=>.cons (.str x) (nD r)
theorem sQ:∀xs:LS,(∀s∈xs,PyData.strOk s=true)->PyData.canLayAll0 (xs.map PyData.str)=true/\PyData.depthAll (xs.map PyData.str)<=1
 |[],_=>by simp[PyData.canLayAll0,PyData.depthAll]
 |x::r,h=>by
  have h1:=h x qw;have a:=sQ r λs hs=>h s (qv _ hs);simp[PyData.canLayAll0,PyData.canLay0,PyData.depthAll,PyData.depth,h1,a]
theorem yh:∀ss:LF,(∀s∈ss,PyData.strOk s.1=true)->PyData.canLayAll0 (ss.map fh)=true/\PyData.depthAll (ss.map fh)<=2
 |[],_=>by simp[PyData.canLayAll0,PyData.depthAll]
 |x::r,h=>by
  have h1:=h x qw;have a:=yh r λs hs=>h s (qv _ hs);simp[fh,PyData.canLayAll0,PyData.canLay0,PyData.depthAll,PyData.depth,h1];exact⟨a.1,by have:=a.2;omega⟩
structure RP(H:Hp)(p:Addr)(asks:LS)(ss:LF)(ds:LA)(la ls lb:Addr)(us:LV):Prop where
 top:H p=some (.tup [.ref la,.ref ls,.ref lb])
 as:H la=some (.lst (asks.map V.str))
 st:H ls=some (.lst us)
 ro:RSs H us ss
 bo:RL H lb ds
theorem RP.same{H H':Hp}{p:Addr}{a:LS}{ss:LF}{ds:LA}{b c d:Addr}{us:LV}(e:a9 H H')(h:RP H p a ss ds b c d us):RP H' p a ss ds b c d us:=
 ⟨e _ _ h.top,e _ _ h.as,e _ _ h.st,h.ro.same e,RL.same e h.bo⟩
noncomputable def eB(F:LS)(ss:LF)(ds:LA):LS:=F++cards ds++[(">":Str)]++ss.flatMap λs=>[s.1++(">":Str),s.1++("<":Str)]
noncomputable def fE(F:LS)(t:Int):Nat->LS
 |0=>[]
 |i+1=>fE F t i++(if aG t ((i:Int)+10) % 2=1 then[F.getD i (">":Str)]else[])
theorem tW(a:LS)(t:Int):∀i,(fE a t i).length<=i
 |0=>qo _
 |i+1=>by
  have:=tW a t i;rw[fE];split<;>simp<;>omega
theorem zy{a:LS}{t:Int}:∀{i:Nat},i<=a.length->∀x∈fE a t i,x∈a
 |0,_,x,h=>by simp[fE]at h
 |i+1,hi,x,h=>by
  rw[fE,qr]at h;rcases h with h|h
  .exact zy Yo x h
  .split at h
   .rw[Q0]at h;subst h;rw[qu,qi Yo];exact List.getElem_mem _
   .simp at h
theorem GY{a b r:LS}(h:∀x∈a,x∈b):∀x∈bA a r,x∈bA b r:=λx c=>by
 unfold bA at *;simp only[qr]at *;rcases c with((c|c)|c)|c
 .exact .inl (.inl (.inl (h x c)))
 .exact .inl (.inl (.inr c))
 .exact .inl (.inr c)
 .exact .inr c
theorem CN{d rs:LS}{b:LS}{ss:LF}(ha:∀x∈b,x∈d)(hs:∀s∈ss,s.1∈rs)(hd:∀x∈cards ds,x∈bA d rs):∀x∈eB b ss ds,x∈bA d rs:=λx a=>by
 unfold eB at a;simp only[qr,List.mem_flatMap]at a;rcases a with((a|a)|a)|⟨s,c,a⟩
 .unfold bA;simp only[qr];exact .inl (.inl (.inl (ha x a)))
 .exact hd x a
 .unfold bA;simp only[qr];exact .inr a
 .simp only[qD,qY,or_false]at a;unfold bA;simp only[qr,List.mem_map];rcases a with rfl|rfl
  .exact .inl (.inl (.inr ⟨_,hs s c,U⟩))
  .exact .inl (.inr ⟨_,hs s c,U⟩)
theorem zx{a:LS}(h:i<a.length):atI (a.map V.str) (i:Int)=some (.str (a.getD i (">":Str))):=
 aO (by rw[qM,qu,qi h];rfl)
theorem Gq(a:LS)(h:0<a.length):fA (a.map V.str) none (some (-1))=a.dropLast.map V.str:=by
 unfold fA;have c:HT.sIx (a.map V.str).length 0 none=0:=U
 have b:HT.sIx (a.map V.str).length (a.map V.str).length (some (-1))=a.length-1:=by
  rw[qc];show(if(-1:Int)<0 then((-1:Int)+(a.length:Int)).toNat else min (-1:Int).toNat a.length)=_;rw[Qa Yk];omega
 rw[c,b,List.drop_zero,Nat.sub_zero,<- List.map_take,List.dropLast_eq_take]
end Tr
namespace L2
open PySem
theorem ni(T:bY P w es t ys){e:Int×Value}(a:e∈es.toList):∃k tk,e=(hashStr w k,.str k tk)/\k∈ys:=by
 obtain⟨⟨k,hk,b⟩,_⟩:=T.el e a;obtain⟨tk,c⟩:=Value.isStrOf_shape hk;refine⟨k,tk,Prod.ext b c,(T.mem k).mp (List.mem_map.mpr ⟨e,a,mH hk⟩)⟩
theorem Ct{c:LK}{Q:Bool->Shared->Prop}(h:∀b∈c,∃es ep t ys,s.heap.get? b=some (be es ep t)/\bY P w es t ys)(q:Q true s):wpAny (model P w) A (setsQuiet c) Q E s:=by
 unfold setsQuiet;refine qb (wpAny_forIn_list _ (λrest b d=>b.1=none/\s=d/\∀x∈rest,x∈c) _ ?_ ?_ c _ ⟨U,U,λ_ h=>h⟩)
 .rintro x rest b d ⟨hb,rfl,j⟩;obtain⟨es,ep,t,ys,l,T⟩:=h x (j x qw);refine qb (gY l T.fit ?_);refine qb (PySem.wpAny_forIn_array' _ (λrest b d=>b.1=none/\s=d/\∀e∈rest,e∈es.toList) _ ?_ ?_ es _ ⟨U,U,λ_ h=>h⟩)
  .rintro e _ b2 i ⟨a,rfl,f⟩;obtain⟨k,tk,rfl,_⟩:=ni T (f e qw);refine qk ⟨U,U,λz g=>f z (qv _ g)⟩
  .rintro⟨b1,b2⟩ i ⟨a,rfl,_⟩;dsimp only at a;subst a;refine qk ⟨U,U,λz g=>j z (qv _ g)⟩
 .rintro⟨b1,b2⟩ i ⟨a,rfl,_⟩;dsimp only at a;subst a;exact qk q
theorem zZ{Q:Array (Int×Value)->Shared->Prop}(hs:s.heap.get? a=some (be es ep t))(T:bY P w es t ys)
 (h:∀arr d,arr.toList.Perm es.toList->Q arr { s with drawn:=d }):wpAny (model P w) A (setWalk a) Q E s:=by
 unfold setWalk;refine qb (Q6 hs U T.fit ?_);dsimp only;refine qb (iY ?_);by_cases hb:w.params.followText "set-order"=true
 .rw[Qa hb];exact qb (wpAny_askSetting (qk (h _ s.drawn (xc _ es))))
 .rw[Q9 hb];show wpAny _ _ (if(!t.plain && decide (es.size > 1))=true then _ else _) _ _ _;split
  .refine qb (tE es.size es.toList s _ (by simp) λzs d b=>qk ?_);exact h _ d (by simpa using b)
  .have hl:t.led=true:=by rw[T.led];simpa using hb
   show wpAny _ _ ((if(!t.led && decide (es.size > 1))=true then _ else _) >>= _) _ _ _;rw[hl];refine qb ?_;simp only[Bool.not_true,Bool.false_and,Qs,if_false];exact qk (qk (h es s.drawn (.refl _)))
theorem Bo:entryFor table "set.__sub__"=some Builtin.«frozenset.__sub__»:=entryFor_alias (id':="frozenset.__sub__") (by kernel_rfl) U Yd (by kernel_rfl)
theorem Af{l p:Bool}(T:bY P w #[] t [])(hl:l=t.led):bY P w #[] { t with led:=l,plain:=p } []:=
 ⟨T.el,T.nd,T.mem,T.few,T.fit,hl.trans T.led,λz=>Qd z (Qk 0)⟩
theorem zY{o r:Addr}{e:Array (Int×Value)}{j k:Nat}{i g:SetTable}{zs:LS}{Q:Array (Int×Value)->Shared->Prop}(hs:s.heap.get? a=some (be es ep t))(T:bY P w es t ys)
 (n:s.heap.get? o=some (be e j i)) (m:bY P w e i zs) (hr:s.heap.get? r=some (be #[] k g)) (c:bY P w #[] g [])
 (h:∀arr h' d l f,arr.toList.Perm es.toList->Heap.SameBut r s.heap h'->h'.get? r=some (be #[] l f)->bY P w #[] f []->Q arr { s with heap:=h',drawn:=d }):wpAny (model P w) A (setWalkUnseen a [o,r] (some r)) Q E s:=by
 have old:∀arr d,arr.toList.Perm es.toList->Q arr { s with drawn:=d }:=λarr d p=>h arr s.heap d k g p (Heap.SameBut.refl r s.heap) hr c;unfold setWalkUnseen;refine qb (Q6 hs U T.fit ?_);dsimp only;refine qb (iY ?_);split
 .exact zZ hs T old
 .refine qb (Ct (λb hb=>?_) ?_)
  .simp only[qD,qY,or_false]at hb;rcases hb with rfl|rfl|rfl
   .exact⟨_,_,_,_,hs,T⟩
   .exact⟨_,_,_,_,n,m⟩
   .exact⟨_,_,_,_,hr,c⟩
  .simp only[Bool.not_true,Qs,if_false];refine qb (wpAny_rule ?_);refine qb (Q6 hr U c.fit ?_);dsimp only;split
   .refine qb (wpAny_storeSet_of hr U ?_ Yk);refine qk (h es _ s.drawn _ _ (.refl _) (Heap.SameBut.update _ r _) (nH (s:=s) hr) (Af c ?_));rw[c.led,T.led];simp
   .exact qk (old es s.drawn (.refl _))
theorem FT{o:Addr}{zs:LS}{k:Str}{tk:Tok}{Q:Option Nat->Shared->Prop}(b:s.heap.get? o=some (be es ep t))(T:bY P w es t zs)
 (h:∀r:Option Nat,r.isSome=decide (k∈zs)->Q r s):wpAny (model P w) A (setFind o (.str k tk) (hashStr w k)) Q E s:=by
 refine wpAny_setFind_of (knd:=strKind P w) (k:=k) (S:=λk=>decide (k∈zs)) (n:=es.size) (by show Value.isStrOf k (.str k tk)=true;simp[Value.isStrOf]) U ⟨_,es,ep,t,b,?_,U,T.el,λ_=>?_,T.few,T.fit,U⟩ h
 .exact⟨U,U,U⟩
 .rw[decide_eq_true_iff,<- T.mem,List.mem_map];constructor
  .rintro⟨e,a,rfl⟩;obtain⟨k,tk,rfl,_⟩:=ni T a;exact⟨_,a,by show Value.isStrOf k (.str k tk)=true;simp[Value.isStrOf]⟩
  .rintro⟨e,a,hk⟩;exact⟨e,a,mH hk⟩
theorem tX{v:Value}{Q:Bool->Shared->Prop}(ty:s.TypeIs v "set")(h:Q true s):wpAny (model P w) A (Builtin.Frozenset.isAnySet v) Q E s:=by
 unfold Builtin.Frozenset.isAnySet;exact qb (wpAny_isInstance (b:=true) ty nY (qk h))
set_option maxHeartbeats 3200000 in
theorem AG{o:Addr}{L:Array (Int×Value)}{X:Nat}{W:SetTable}{zs:LS}(hs:s.heap.get? a=some (be es ep t))(T:bY P w es t ys)
 (J:s.heap.get? o=some (be L X W)) (M:bY P w L W zs) (few:es.size<4)
 (h:∀h' d es' g t',h'.get? s.heap.objs.size=some (be es' g t')->bY P w es' t' (ys.filter λk=>!decide (k∈zs))->
  (∀b ob,s.heap.get? b=some ob->h'.get? b=some ob)->Q (.ref s.heap.objs.size) { s with heap:=h',drawn:=d }):wpAny (model P w) A (binaryOp .Sub (.ref a) (.ref o)) Q E s:=by
 have K:s.TypeIs (.ref a) "set":=⟨_,hs,U⟩;have O:s.TypeIs (.ref o) "set":=⟨_,J,U⟩;refine wpAny_binaryOp_same (op:=.Sub) (T:="set") K O F.fills_set_sub F.slot_set_sub (Qr F.slot_set_sub K Bo ?_ (F.args_set_sub_2 _ _));unfold Builtin.«frozenset.__sub__»;refine qb (m:=Builtin.Frozenset.slot1 "__sub__" ⟨[.ref a,.ref o],[]⟩) (qk ?_);dsimp only;simp only[Qs,if_false];refine qb (qb (tX K (tX O ?_)));simp only[Bool.not_true,Qs,if_false];refine qb (qk ?_);refine qb ?_;unfold Builtin.Frozenset.difference;refine qb (tX O ?_);simp only[Bool.not_true,Qs,if_false];refine qb (qk ?_);simp only[Bool.false_and,Qs,if_false,if_true];unfold Builtin.Frozenset.sizeOf;refine qb (qb (gY J M.fit (qk ?_)));refine qb (qb (gY hs T.fit (qk ?_)));rw[Q9 Yo];unfold Builtin.Frozenset.baseOf;refine qb (qb (wpAny_isInstance (b:=true) K nY (qk ?_)));simp only[if_true];refine qb ?_;unfold newSet;refine qb (iY ?_);dsimp only;refine wpAny_newObj_type ?_;refine qb (qk ?_);have C:∀b ob,s.heap.get? b=some ob->(s.heap.push (dA w)).get? b=some ob:=λb ob q=>qf _ q;have gr:(s.heap.push (dA w)).get? s.heap.objs.size=some (dA w):=qy _ U;have N:∀b ob,s.heap.get? b=some ob->b≠s.heap.objs.size:=λb ob q=>qO (qz q);refine qb (wpAny_setEpoch_of (s:={ s with heap:=s.heap.push (dA w) }) (C _ _ hs) U T.fit ?_);refine qb (QD ?_);refine qb (zY (s:={ s with heap:=s.heap.push (dA w) }) (C _ _ hs) T (C _ _ J) M gr uy λG Z d er tr S sb hr Tr=>?_);refine qb (PySem.wpAny_forIn_array' _ (λrest _ v=>∃i es' g t' c,c++rest=G.toList/\v={ s with heap:=i,drawn:=d }/\Heap.SameBut s.heap.objs.size (s.heap.push (dA w)) i/\i.get? s.heap.objs.size=some (be es' g t')/\bY P w es' t' ((c.map λe:Int×Value=>txt e.2).filter λk=>!decide (k∈zs))/\es'.size<=c.length) _ ?_ ?_ G _ ⟨Z,#[],er,tr,[],U,U,sb,hr,Tr,qo _⟩)
 .rintro x rest b v ⟨i,es',g,t',c,l,rfl,u,B,f,X0⟩;have xm:x∈es.toList:=S.mem_iff.mp (by rw[<- l];simp);obtain⟨k,tk,rfl,_⟩:=ni T xm
  have pl:c.length+(rest.length+1)=es.size:=by
   have:=congrArg List.length l;rw[S.length_eq]at this;simpa using this
  have R:∀b ob,s.heap.get? b=some ob->i.get? b=some ob:=λb ob q=>by
   rw[u.2 _ (N b ob q)];exact C b ob q
  refine qb (QD ?_);refine qb (FT (s:={ s with heap:=i,drawn:=d }) (R _ _ J) M λr hr=>?_);refine qb (qk ?_);rw[hr]
  have fin:∀n j p D,Heap.SameBut s.heap.objs.size (s.heap.push (dA w)) n->n.get? s.heap.objs.size=some (be j p D)->bY P w j D (((c++[(hashStr w k,Value.str k tk)]).map λe:Int×Value=>txt e.2).filter λk=>!decide (k∈zs))->j.size<=c.length+1->
   wpAny (model P w) A.in1 (do
    Builtin.Frozenset.unchanged (toString "frozenset."++toString "__sub__") a ep
    pure (ForInStep.yield PUnit.unit)) (λr v=>match r with
     |.yield b'=>∃i es' g t' c,c++rest=G.toList/\v={ s with heap:=i,drawn:=d }/\Heap.SameBut s.heap.objs.size (s.heap.push (dA w)) i/\i.get? s.heap.objs.size=some (be es' g t')/\bY P w es' t' ((c.map λe:Int×Value=>txt e.2).filter λk=>!decide (k∈zs))/\es'.size<=c.length
     |.done b'=>False) E { s with heap:=n,drawn:=d }:=λn j p D y I H V=>by
   unfold Builtin.Frozenset.unchanged;have g3:n.get? a=some (be es ep t):=by rw[y.2 _ (N _ _ hs)];exact C _ _ hs
   refine qb (qb (wpAny_setEpoch_of (s:={ s with heap:=n,drawn:=d }) g3 U T.fit ?_));simp only[bne_self_eq_false,Qs,if_false];refine qk (qk ⟨n,j,p,D,c++[(hashStr w k,Value.str k tk)],by rw[<- l];simp,U,y,I,H,by simpa using V⟩)
  by_cases hk:k∈zs
  .rw[Qb hk];simp only[Bool.not_true,Qs,if_false];refine qk (wpAny_mono (fin i es' g t' u B ?_ Yo) (λr v hr=>?_) λ_ _ h=>h)
   .rw[qW,QA];have:([(hashStr w k,Value.str k tk)].map λe:Int×Value=>txt e.2).filter (λk=>!decide (k∈zs))=[]:=by simp[txt,hk]
    rwa[this,qG]
   .cases r with
    |done _=>exact hr.elim
    |yield _=>exact hr
  .rw[Qc hk];simp only[Bool.not_false,if_true];refine qb (zA (s:={ s with heap:=i,drawn:=d }) B f (by unfold scanBound;omega) λb n j p D y I H _=>qk ?_);refine wpAny_mono (fin n j p D (u.trans y) I ?_ Yo) (λr v hr=>?_) λ_ _ h=>h
   .rw[qW,QA];have:([(hashStr w k,Value.str k tk)].map λe:Int×Value=>txt e.2).filter (λk=>!decide (k∈zs))=[k]:=by simp[txt,hk]
    rw[this];exact H
   .cases r with
    |done _=>exact hr.elim
    |yield _=>exact hr
 .rintro b v ⟨i,es',g,t',c,l,rfl,u,B,f,X0⟩;rw[qG]at l;subst l;refine qk (qk (qk ⟨_,U,(λz=>by cases z),h i d es' g t' B ⟨f.el,f.nd,λk=>?_,f.few,f.fit,f.led,f.pl⟩ λb ob q=>?_⟩))
  .rw[f.mem k,List.mem_filter,List.mem_filter,<- T.mem k];exact and_congr_left' ((S.map λe:Int×Value=>txt e.2).mem_iff)
  .rw[u.2 _ (N b ob q)];exact C b ob q
end L2
namespace L2
open PySem PySem.Spec PyProof.Rows
def Cc(P:Program)(w:World):R2:=λx y H Q=>∃(a o:Addr)(ys zs:LS),x=.ref a/\y=.ref o/\H a=some (eO P w a ys)/\H o=some (eO P w o zs)/\ys.length<4/\∀p,H p=none->Q (.ref p) (upd H p (eO P w p (ys.filter λk=>!decide (k∈zs))))
theorem Df:OpR X (binaryOp .Sub) (Cc X.prog X.w):=by
 intro _ s _ H x y v u Q I j l h;obtain⟨a,o,ys,zs,rfl,rfl,p,m,_,q⟩:=h;cases j;cases l;obtain⟨⟨es,ep,t,f,b⟩,_,_⟩:=I.hok a _ p;obtain⟨⟨_,_,_,c,e⟩,_,_⟩:=I.hok o _ m
 have few:es.size<4:=by
  have:=jG b.nd λx n=>(b.mem x).mp n;rw[qc,qU]at this;omega
 refine AG f b c e few λh' d es' _ t' g i old=>?_;have J:=I.laid (t':=s.toks) (h':=h') (a:=s.heap.objs.size) (o:=eO X.prog X.w s.heap.objs.size (ys.filter λk=>!decide (k∈zs))) old (qo _) (eO.ok g i);exact⟨.ref s.heap.objs.size,_,Inv.redrawn (s:=s) J U U,U,q _ (I.hok.fresh (qo _))⟩
theorem GE(hc:X.calm=true):cL X (.builtin "sorted") (λxs H Q=>∃(p:Addr)(ys:LS),xs=[.ref p]/\SqL X.K H p (ys.map V.str)/\ys.length<64 /\
 ∀l zs,H l=none->zs.Perm ys->sortedS zs=true->Q (.ref l) (upd H l (.lst (zs.map V.str)))):=by
 intro _ s _ H xs us Q I r h;obtain⟨p,ys,rfl,t,m,q⟩:=h;obtain⟨u,rfl,j⟩:=fX r;cases j;obtain⟨c,e,pl,_⟩:=I.list t;have d:=e.length;rw[qc]at d;refine sorted_strs (vs:=c) pl.isList (nC e) Yo λout zs i g so=>?_;obtain⟨n,f⟩:=sortedAll_at s.heap c out;have k:zs.length<=sizeLine:=by rw[g.length_eq];exact qH (Nat.le_of_lt m) Yk
 have J:=I.laid (t':=s.toks) (h':=sortedAll s.heap c out) (a:=s.heap.objs.size+1) (o:=.lst (zs.map V.str)) (λb o q=>sortedAll_old q) (Nat.le_succ _) ⟨by rwa[qc],out.toList,n,su i,f⟩;exact⟨.ref (s.heap.objs.size+1),_,J,U,q _ zs (I.hok.fresh (Nat.le_succ _)) g so⟩
noncomputable def Ite(K:W.Frag)(l:Addr):It:=
 ⟨λi H=>∃xs x,SqL K H l xs/\xs[i]?=some x,
  λi H v H'=>∃p x,H p=none/\v=.ref p/\H'=upd H p (.tup [.int i,x])/\∀xs,SqL K H l xs->xs[i]?=some x,
  λi H=>∃xs,SqL K H l xs/\xs.length<=i⟩
theorem Ab{X0:Pos}(e it l:Addr)(ne:e≠it):
 j2 P w K (.Tuple elts kk X0) (Ite K l) [e,it] e (λi h=>(∃old,IsEnum h e it i old)/\h.IsListIter it l i) where
 mem:=by simp
 obj:=λi h st b hb=>by
  obtain⟨⟨old,a⟩,o,j,c,d⟩:=st;simp only[qD,qY,or_false]at hb;rcases hb with rfl|rfl
  .exact⟨_,a,λv q=>by cases q⟩
  .exact⟨o,j,λv q=>by rw[d]at q;cases q⟩
 keep:=λi h h' st k=>by
  obtain⟨⟨old,a⟩,o,j,r⟩:=st;exact⟨⟨old,k e (by simp) _ a⟩,o,k it (by simp) o j,r⟩
 item:=by
  intro X y hw A hc i f s B H E I n st t;subst y hw A;obtain⟨⟨old,a⟩,m⟩:=st;obtain⟨xs,x,p,ex⟩:=t;obtain⟨D,C,pl,T⟩:=I.list p;obtain⟨u,S,O⟩:=C.get ex;refine wpAny_pyNext_enum_item a m pl.isList (x:=u) (by simpa using S) ne λg R Q Z _ M=>⟨_,U,?_⟩;refine wpAny_letOwnedTupleGo_enum R λg' J z=>?_
  have F:∀b∈[e,it],s.heap.objs.size≠b:=λb hb=>by
   simp only[qD,qY,or_false]at hb;rcases hb with rfl|rfl
   .exact Nat.ne_of_gt (qz a)
   .obtain⟨o,j,_⟩:=m;exact Nat.ne_of_gt (qz j)
  have L:∀b o,b∉[e,it]->s.heap.get? b=some o->g'.get? b=some o:=λb o hb q=>by
   simp only[qD,qY,or_false,not_or]at hb;exact z.extBut _ _ hb.1 (M b o hb.1 hb.2 q)
  have W:Inv X f B H { s with heap:=g',toks:=s.toks+1 }:=I.turnedL (t':=s.toks+1) L n;have G:=z.extBut _ _ (F e (by simp)) Z;have N:dQ X f H s.heap.objs.size:=I.fpOk (qo _) (I.hok.fresh (qo _));have V:Inv X f B (upd H s.heap.objs.size (.tup [.int i,x])) { s with heap:=g',toks:=s.toks+1 }:=W.track N I.sz ⟨⟨by show 2<=sizeLine;decide,_,G,U⟩,[.int i s.toks,u],.cons ⟨_,U⟩ (.cons O .nil),⟨_,G,U,_,U⟩⟩;refine⟨.ref s.heap.objs.size,_,V,U,⟨_,x,I.hok.fresh (qo _),U,U,λ_ h=>by rwa[I.list_inj h p]⟩,⟨⟨u,J⟩,?_⟩,λb hb=>?_⟩
  .obtain⟨o,j,r⟩:=Q;exact⟨o,z.extBut _ _ (Ne.symm ne) j,r⟩
  .rw[af (Ne.symm (F b hb))];exact(n b hb).1
 done:=by
  intro X y hw A hc i f s B H E I n st t;subst y hw A;obtain⟨⟨old,a⟩,m⟩:=st;obtain⟨xs,p,_⟩:=t;obtain⟨D,C,pl,T⟩:=I.list p;have e1:=C.length;refine wpAny_pyNext_enum_end (I.ok.hd hc) a m pl.isList (by simp;omega) λg k=>⟨U,I.turnedL (t':=s.toks) (ch:=[e,it]) (λb o hb q=>?_) n⟩;simp only[qD,qY,or_false,not_or]at hb;exact k b o hb.2 q
 self:=λ_ _ _ _ _ st h=>by
  obtain⟨⟨old,a⟩,_⟩:=st;exact wpAny_pyIter_enum a h
def FC(K:W.Frag)(ta:TA):TI:=λY H R=>ta Y H λvs H1=>∃l xs,vs=[.ref l]/\SqL K H1 l xs/\R (Ite K l) H1
theorem jv{a:Expr}{f:TA}{p x:Pos}(n:Gl X "enumerate")(m:X.mg "enumerate"=none)(ha:PA X [a] f)(hs:starEach [a] X.env=[(false,eval a X.env)]:=by rfl):
 PI X (.Tuple elts kk x) (.Call (.Name "enumerate" p) [a] [] pos) (FC X.K f):=by
 intro e s y H R I h;refine Call_ (gO I n m PyProof.Rows.Boot.«enumerate» (PyProof.Rows.callWith_type1 (thn (ha pos e s y H _ I h) λus d ⟨vs,j,c,w,o⟩=>?_) (by rw[hs];rfl) (by rfl)));obtain⟨l,xs,rfl,v,q⟩:=o;obtain⟨u,rfl,r⟩:=fX w;cases r;obtain⟨_,_,pl,_⟩:=c.list v;refine call_enumerate_list pl.isList λg i t _ k=>?_;refine wpAny_pyIter_enum i ⟨d.heap.objs.size+1,[d.heap.objs.size+1,d.heap.objs.size],_,_,j,U,c.kept (t':=d.toks) k,Ab _ _ l (Nat.succ_ne_self _),⟨⟨_,i⟩,t⟩,λb hb=>?_,q⟩;simp only[qD,qY,or_false]at hb;rcases hb with rfl|rfl
 .exact c.fpOk (Nat.le_succ _) (c.hok.fresh (Nat.le_succ _))
 .exact c.fpOk (qo _) (c.hok.fresh (qo _))
theorem kA{l:Addr}{xs:LV}{g:TG}(b:Nat->St->Hp->Prop)(h0:b 0 Y H)(hl:∀i Y H,b i Y H->SqL K H l xs)
 (hs:∀i x Y H p,xs[i]?=some x->b i Y H->H p=none->g (.ref p) Y (upd H p (.tup [.int i,x])) λc H2=>tb { D with nx:=b (i+1),ct:=b (i+1),bk:=D.nx } c H2)
 (hd:∀Y H,b xs.length Y H->D.nx Y H):
 ∃W:Nat->Nat->St->Hp->Prop,(∃m,W 0 m Y H)/\∀i m Y H,W i m Y H->
  ((Ite K l).stop i H/\D.nx Y H)\/((Ite K l).go i H/\∃N:St->Hp->Prop,(∀d H',N d H'->∃m',m'<m/\W (i+1) m' d H')/\∀x H',(Ite K l).yld i H x H'->g x Y H' λc H2=>tb { D with nx:=N,ct:=N,bk:=D.nx } c H2):=by
 exists λi m Y H=>m=xs.length-i/\i<=xs.length/\b i Y H,⟨_,U,qC _,h0⟩;rintro i m Y H ⟨rfl,_,p⟩;have q:=hl i Y H p;by_cases lt:i<xs.length
 .refine .inr ⟨⟨xs,xs[i],q,by simp[lt]⟩,b (i+1),λd H' e=>⟨_,Yo,U,lt,e⟩,λv H' y=>?_⟩;obtain⟨a,x,hn,rfl,rfl,f⟩:=y;exact hs i x Y H a (f xs q) p hn
 .obtain rfl:i=xs.length:=by omega
  exact .inl ⟨⟨xs,q,qo _⟩,hd Y H p⟩
end L2
namespace L2
theorem cw.one{A:PySem.Around}(h:cw n A):A.units+1<PySem.cLine:=by
 have:=h.units;omega
end L2
namespace Tr
open PySem PySem.Spec PyProof.Rows L2
theorem wf:∀{a b:LS},a.Perm b->sortedS a=true->sortedS b=true->a=b
 |[],b,h,_,_=>(List.nil_perm.mp h).symm
 |x::r,[],h,_,_=>Qd h.length_eq (by simp)
 |x::r,y::s,h,sa,sb=>by
  have e:x=y:=by
   rcases qD.mp (h.mem_iff.mp (qw (a:=x)))with e|d
   .exact e
   rcases qD.mp (h.mem_iff.mpr (qw (a:=y)))with e|c
   .exact e.symm
   exact uJ (List.le_antisymm (ke r x sa y c) (ke s y sb x d))
  subst e;rw[wf ((List.perm_cons x).mp h) (lO sa) (lO sb)]
noncomputable def srt(l:LS):LS:=by
 classical
 exact if h:∃zs:LS,zs.Nodup/\(∀k,k∈zs↔k∈l)/\sortedS zs=true then Classical.choose h else[]
theorem kU{l zs:LS}(nd:zs.Nodup)(d:∀k,k∈zs↔k∈l)(so:sortedS zs=true):zs=srt l:=by
 have h:∃zs:LS,zs.Nodup/\(∀k,k∈zs↔k∈l)/\sortedS zs=true:=⟨zs,nd,d,so⟩;unfold srt;rw[dif_pos h];obtain⟨a,b,c⟩:=Classical.choose_spec h;exact wg nd a so c λk=>(d k).trans (b k).symm
noncomputable def fj(l:LS):LS:=by
 classical
 exact if h:∃zs:LS,zs.Perm l/\sortedS zs=true then Classical.choose h else[]
theorem uT{l zs:LS}(c:zs.Perm l)(so:sortedS zs=true):zs=fj l:=by
 have h:∃zs:LS,zs.Perm l/\sortedS zs=true:=⟨zs,c,so⟩;unfold fj;rw[dif_pos h];obtain⟨a,b⟩:=Classical.choose_spec h;exact wf (c.trans a.symm) so b
structure Row where
 kind:Str
 owns:LS
 reads:LS
 into:Option Str
 outof:Option Str
noncomputable def dc:Option Str->V
 |none=>.non
 |some q=>.str q
def cR(H:Hp)(v:V)(r:Row):Prop:=∃p po F,v=.ref p/\H p=some (.tup [.str r.kind,.ref po,.ref F,dc r.into,dc r.outof])/\H po=some (.tup (r.owns.map V.str))/\H F=some (.tup (r.reads.map V.str))
theorem cR.same{v:V}{r:Row}(e:a9 H H')(h:cR H v r):cR H' v r:=by
 obtain⟨p,po,c,rfl,a,d,b⟩:=h;exact⟨p,po,c,U,e _ _ a,e _ _ d,e _ _ b⟩
inductive aT(H:Hp):LV->List Row->Prop
 |nil:aT H [] []
 |cons {v:V}{vs:LV}{r:Row}{rs:List Row}:cR H v r->aT H vs rs->aT H (v::vs) (r::rs)
theorem aT.same{H H':Hp}(e:a9 H H'):∀{vs:LV}{rs:List Row},aT H vs rs->aT H' vs rs
 |_,_,.nil=>.nil
 |_,_,.cons h r=>.cons (h.same e) (aT.same e r)
theorem aT.snoc{H:Hp}{v:V}{r:Row}(h:cR H v r):∀{vs:LV}{rs:List Row},aT H vs rs->aT H (vs++[v]) (rs++[r])
 |_,_,.nil=>.cons h .nil
 |_,_,.cons h' t=>.cons h' (aT.snoc h t)
theorem aT.len{H:Hp}:∀{vs:LV}{rs:List Row},aT H vs rs->vs.length=rs.length
 |_,_,.nil=>rfl
 |_,_,.cons _ t=>congrArg (·+1) (aT.len t)
theorem aT.at{H:Hp}:∀{vs:LV}{rs:List Row},aT H vs rs->∀(i:Nat)(v:V),vs[i]?=some v->∃r,rs[i]?=some r/\cR H v r
 |_,_,.nil,i,v,h=>by simp at h
 |_,_,.cons (r:=r) h' t,0,v,h=>by
  simp at h;subst h;exact⟨r,U,h'⟩
 |_,_,.cons h' t,i+1,v,h=>aT.at t i v (by simpa using h)
noncomputable def aS:ae->Row
 |.set x a F b=>⟨"set",[x],srt ((a.names++b.names).filter λy=>!decide (y=x)),none,none⟩
 |.put q x=>⟨"put",[q++(">":Str)],[x],some q,none⟩
 |.get q x=>⟨"get",fj [x,q++("<":Str)],[],none,some q⟩
 |.give x=>⟨"give",[(">":Str)],[x],none,none⟩
 |.cond x t o=>⟨"if",srt (cards [.cond x t o]),[],none,none⟩
 |.whl x b=>⟨"while",srt (cards [.whl x b]),[],none,none⟩
 |.rep n b=>⟨"repeat",srt (cards [.rep n b]),[],none,none⟩
theorem cR.new{H:Hp}{p po a:Addr}{r:Row}(c:H po=some (.tup (r.owns.map V.str)))(d:H a=some (.tup (r.reads.map V.str)))(b:H p=none):cR (upd H p (.tup [.str r.kind,.ref po,.ref a,dc r.into,dc r.outof])) (.ref p) r:=
 ⟨p,po,a,U,ah,a9.new b _ _ _ c,a9.new b _ _ _ d⟩
end Tr
variable {r:Tr.Row}{rs:List Tr.Row}
namespace Tr
open PySem PySem.Spec PyProof.Rows L2
noncomputable def bal(rs:List Row)(q:Str):Int:=((rs.filter λr=>decide (r.into=some q)).length:Int)-((rs.filter λr=>decide (r.outof=some q)).length:Int)
theorem fD(rs:List Row)(r:Row)(q:Str):bal (rs++[r]) q=bal rs q+(if r.into=some q then 1 else 0)-(if r.outof=some q then 1 else 0):=by
 unfold bal;rw[QA,QA,qh,qh];by_cases h1:r.into=some q<;>by_cases h2:r.outof=some q<;>simp[h1,h2]<;>omega
def Fed(rs:List Row):Prop:=∀i r q,rs[i]?=some r->r.outof=some q->0<bal (rs.take i) q
def e8(r:Row):Prop:=r.into=none\/r.outof=none
def j3(kvs:LN)(rs:List Row):Prop:=∀q:Str,(aH kvs (.inr q)).getD (.int 0)=.int (bal rs q)
def zH(ds:LA):Prop:=∀d∈ds,∀n b,d≠.rep n b
noncomputable def dZ(F:LS)(ss:LF)(ds:LA):Row:=⟨"end",srt (eB F ss ds),[],none,none⟩
theorem BX(d:ae):e8 (aS d):=by
 cases d<;>simp[e8,aS]
theorem Fed.snoc(h:Fed rs)(hr:r.outof=none):Fed (rs++[r]):=λi c q a b=>by
 by_cases lt:i<rs.length
 .rw[Qe lt]at a;rw[List.take_append_of_le_length (Nat.le_of_lt lt)];exact h i c q a b
 .rw[qT (Nat.not_lt.mp lt)]at a
  have:c=r:=by
   cases e:i-rs.length with
   |zero=>rw[e]at a;exact(qR a).symm
   |succ n=>rw[e]at a;simp at a
  rw[this,hr]at b;cases b
noncomputable def ae.word:ae->Str
 |.set ..=>"set"
 |.put ..=>"put"
 |.get ..=>"get"
 |.give ..=>"give"
 |.cond ..=>"if"
 |.whl ..=>"while"
 |.rep ..=>"repeat"
theorem RD.tuple{v:V}{d:ae}(h:RD H v d):∃p r,v=.ref p/\H p=some (.tup (.str d.word::r)):=by
 cases h with
 |set h=>exact⟨_,_,U,h⟩
 |put h=>exact⟨_,_,U,h⟩
 |get h=>exact⟨_,_,U,h⟩
 |give h=>exact⟨_,_,U,h⟩
 |cond h _ _=>exact⟨_,_,U,h⟩
 |whl h _=>exact⟨_,_,U,h⟩
 |rep h _=>exact⟨_,_,U,h⟩
theorem cR.off{c:Addr}{xs:LV}{o:HO}{v:V}(hc:H c=some (.lst xs))(h:cR H v r):cR (upd H c o) v r:=by
 obtain⟨p,po,f,rfl,a,e,d⟩:=h;have ne:∀b ys,H b=some (.tup ys)->b≠c:=λb ys q z=>by rw[z,hc]at q;cases q
 exact⟨p,po,f,U,by rwa[af (ne _ _ a)],by rwa[af (ne _ _ e)],by rwa[af (ne _ _ d)]⟩
theorem aT.off{H:Hp}{c:Addr}{xs:LV}{o:HO}(hc:H c=some (.lst xs)):∀{vs:LV}{rs:List Row},aT H vs rs->aT (upd H c o) vs rs
 |_,_,.nil=>.nil
 |_,_,.cons h r=>.cons (h.off hc) (aT.off hc r)
theorem at0{v:α}{r:List α}:atI (v::r) (0:Int)=some v:=aO (j:=0) U
theorem uh{d:ae}(h:∀n b,d≠.rep n b):V.str d.word≠V.str "repeat":=by
 cases d with
 |rep n b=>exact Qd U (h n b)
 |_=>exact λz=>Qd (V.str.inj z) (by simp only[ae.word];decide +kernel)
theorem yQ:∀{ds:LA}{i:Nat}{d:ae},ds[i]?=some d->d.depth<=aR ds
 |[],_,_,h=>by simp at h
 |e::r,0,d,h=>by
  simp at h;subst h;rw[aR];exact Nat.le_max_left _ _
 |e::r,i+1,d,h=>by
  have:=yQ (ds:=r) (i:=i) (by simpa using h);rw[aR];omega
theorem tw{d:ae}(h:ds[i]?=some d):d.flat.length<=(ak ds).length/\∀e∈d.flat,e∈ak ds:=by
 have sp:ds=ds.take i++([d]++ds.drop (i+1)):=by
  rw[<- qV,show ds.take i++[d]=ds.take (i+1)by rw[qA,h];rfl,QC]
 have e:ak ds=ak (ds.take i)++(d.flat++ak (ds.drop (i+1))):=by
  conv=>lhs;rw[sp]
  rw[fV,fV,ak,ak,qG]
 rw[e];refine⟨by simp only[qh];omega,λx a=>by simp[a]⟩
theorem zg{d:ae}(h:ds[i]?=some d):∀q∈cards [d],q∈cards ds:=λq a=>by
 unfold cards at *;rw[ak,ak,qG]at a;obtain⟨e,b,a⟩:=List.mem_flatMap.mp a;exact List.mem_flatMap.mpr ⟨e,(tw h).2 e b,a⟩
end Tr
namespace L2
open PySem PySem.Spec PyProof.Rows
end L2
namespace Tr
open PySem PySem.Spec PyProof.Rows L2
inductive RMs(H:Hp):LV->List (Str×Str)->Prop
 |nil:RMs H [] []
 |cons {p:Addr}{vs:LV}{m:Str×Str}{ms:List (Str×Str)}:H p=some (.tup [.str m.1,.str m.2])->RMs H vs ms->RMs H (.ref p::vs) (m::ms)
theorem RMs.same{H H':Hp}(e:a9 H H'):∀{vs:LV}{a:List (Str×Str)},RMs H vs a->RMs H' vs a
 |_,_,.nil=>.nil
 |_,_,.cons h r=>.cons (e _ _ h) (RMs.same e r)
theorem RMs.off{H:Hp}{c:Addr}{xs:LV}{o:HO}(hc:H c=some (.lst xs)):∀{vs:LV}{a:List (Str×Str)},RMs H vs a->RMs (upd H c o) vs a
 |_,_,.nil=>.nil
 |_,_,.cons (p:=p) h r=>.cons (by rw[af (λz=>by rw[z,hc]at h;cases h)];exact h) (RMs.off hc r)
theorem RMs.snoc{H:Hp}{p:Addr}{m:Str×Str}(h:H p=some (.tup [.str m.1,.str m.2])):∀{vs:LV}{a:List (Str×Str)},RMs H vs a->RMs H (vs++[.ref p]) (a++[m])
 |_,_,.nil=>.cons h .nil
 |_,_,.cons h' r=>.cons h' (RMs.snoc h r)
theorem RMs.len{H:Hp}:∀{vs:LV}{a:List (Str×Str)},RMs H vs a->vs.length=a.length
 |_,_,.nil=>rfl
 |_,_,.cons _ r=>congrArg (·+1) (RMs.len r)
theorem RMs.at{H:Hp}:∀{vs:LV}{a:List (Str×Str)},RMs H vs a->∀(i:Nat)(v:V),vs[i]?=some v->∃p m,v=.ref p/\a[i]?=some m/\H p=some (.tup [.str m.1,.str m.2])
 |_,_,.nil,i,v,h=>by simp at h
 |_,_,.cons (p:=p) (m:=m) h' r,0,v,h=>by
  simp at h;exact⟨p,m,h.symm,U,h'⟩
 |_,_,.cons h' r,i+1,v,h=>RMs.at r i v (by simpa using h)
noncomputable def ae.moves:ae->List (Str×Str)
 |.put q _=>[("put",q)]
 |.get q _=>[("get",q)]
 |_=>[]
noncomputable def gE(s:Int×Int×Int)(m:Str×Str):Int:=s.1+(if m.1="put" then 1 else -1)
noncomputable def dB(q:Str)(s:Int×Int×Int)(m:Str×Str):Int×Int×Int:=
 if m.2=q then(gE s m,if gE s m<s.2.1 then gE s m else s.2.1,if gE s m > s.2.2 then gE s m else s.2.2)else s
noncomputable def aZ(q:Str)(F:List (Str×Str)):Int×Int×Int:=F.foldl (dB q) (0,0,0)
theorem rB(q:Str)(a:List (Str×Str))(m:Str×Str):aZ q (a++[m])=dB q (aZ q a) m:=by
 unfold aZ;rw[List.foldl_append]
 rfl
noncomputable def sO(F J:Int):Int:=if F % 4=0 then 1+F / 4 % 2000 else if F % 4=1 then 1+F / 4 % 3 else 1+F / 4 % (if J > 1 then J else 1)
theorem lP(q:Str):∀f:List (Str×Str),-(f.length:Int)<=(aZ q f).2.1/\(aZ q f).2.1<=0/\(aZ q f).2.1<=(aZ q f).1/\(aZ q f).1<=(aZ q f).2.2/\(aZ q f).2.2<=f.length:=λf=>by
 have g:∀(l:List (Str×Str))(s:Int×Int×Int)(n:Nat),-(n:Int)<=s.2.1->s.2.1<=0->s.2.1<=s.1->s.1<=s.2.2->s.2.2<=n->
  -((n+l.length:Nat):Int)<=(l.foldl (dB q) s).2.1/\(l.foldl (dB q) s).2.1<=0/\(l.foldl (dB q) s).2.1<=(l.foldl (dB q) s).1/\(l.foldl (dB q) s).1<=(l.foldl (dB q) s).2.2/\(l.foldl (dB q) s).2.2<=((n+l.length:Nat):Int):=by
  intro l
  induction l with
  |nil=>
   intro s n a b c d e;exact⟨a,b,c,d,e⟩
  |cons m r k=>
   intro s n a b c d e;rw[QH,qJ]
   have h:∀t:Int×Int×Int,t=dB q s m->-((n+1:Nat):Int)<=t.2.1/\t.2.1<=0/\t.2.1<=t.1/\t.1<=t.2.2/\t.2.2<=((n+1:Nat):Int):=by
    intro t ht;subst ht;unfold dB gE;split
    .dsimp only;split<;>split<;>split<;>omega
    .omega
   obtain⟨i,p,u,o,j⟩:=h _ U;have:=k (dB q s m) (n+1) i p u o j;rw[show n+1+r.length=n+(r.length+1)by omega]at this;exact this
 have:=g f (0,0,0) 0 (by simp) (by simp) (by simp) (by simp) (by simp);rw[Nat.zero_add]at this;exact this
noncomputable def gn(q:Str)(F:List (Str×Str)):Nat:=(-(aZ q F).2.1).toNat
noncomputable def cj(rs names:LS)(F:List (Str×Str)):Nat->LA
 |0=>[]
 |i+1=>cj rs names F i++List.replicate (gn (rs.getD i (">":Str)) F) (.put (rs.getD i (">":Str)) (nth names (i:Int)))
noncomputable def fY(rs:LS)(t:Int)(F:List (Str×Str)):Nat->LF
 |0=>[]
 |i+1=>fY rs t F i++[(rs.getD i (">":Str),sO (aG t ((i:Int)+1)) ((aZ (rs.getD i (">":Str)) F).2.2-(aZ (rs.getD i (">":Str)) F).2.1))]
theorem yp(q:Str)(a:List (Str×Str)):gn q a<=a.length:=by
 have:=lP q a;unfold gn;omega
theorem mK(rs names:LS)(a:List (Str×Str)):∀i,(cj rs names a i).length<=i * a.length
 |0=>by simp[cj]
 |i+1=>by
  have h1:=mK rs names a i;have b:=yp (rs.getD i (">":Str)) a;rw[cj,qh,List.length_replicate,Nat.succ_mul];omega
theorem nG(rs:LS)(t:Int)(a:List (Str×Str)):∀i,(fY rs t a i).length=i
 |0=>rfl
 |i+1=>by rw[fY,qh,nG rs t a i];rfl
theorem uL{rs:LS}{t:Int}{a:List (Str×Str)}:∀{i:Nat},i<=rs.length->∀x∈fY rs t a i,x.1∈rs
 |0,_,x,h=>by simp[fY]at h
 |i+1,hi,x,h=>by
  rw[fY,qr]at h;rcases h with h|h
  .exact uL Yo x h
  .rw[Q0]at h;subst h;show rs.getD i _∈rs;rw[qu,qi Yo];exact List.getElem_mem _
theorem yB(rs names:LS)(a:List (Str×Str)):∀i,zH (cj rs names a i)
 |0=>λd h=>by simp[cj]at h
 |i+1=>λd h=>by
  rw[cj,qr]at h;rcases h with h|h
  .exact yB rs names a i d h
  .rw[(List.mem_replicate.mp h).2];intro n b z;cases z
inductive RPs(H:Hp):LV->List (Str×Str)->Prop
 |nil:RPs H [] []
 |cons {p:Addr}{vs:LV}{m:Str×Str}{ms:List (Str×Str)}:H p=some (.tup [.str "put",.str m.1,.str m.2])->RPs H vs ms->RPs H (.ref p::vs) (m::ms)
theorem RPs.same{H H':Hp}(e:a9 H H'):∀{vs:LV}{a:List (Str×Str)},RPs H vs a->RPs H' vs a
 |_,_,.nil=>.nil
 |_,_,.cons h r=>.cons (e _ _ h) (RPs.same e r)
theorem RPs.off{H:Hp}{c:Addr}{xs:LV}{o:HO}(hc:H c=some (.lst xs)):∀{vs:LV}{a:List (Str×Str)},RPs H vs a->RPs (upd H c o) vs a
 |_,_,.nil=>.nil
 |_,_,.cons h r=>.cons (by rw[af (λz=>by rw[z,hc]at h;cases h)];exact h) (RPs.off hc r)
theorem RPs.app{H:Hp}:∀{us vs:LV}{a b:List (Str×Str)},RPs H us a->RPs H vs b->RPs H (us++vs) (a++b)
 |_,_,_,_,.nil,h=>h
 |_,_,_,_,.cons x r,h=>.cons x (RPs.app r h)
theorem RPs.rep{H:Hp}{p:Addr}{m:Str×Str}(h:H p=some (.tup [.str "put",.str m.1,.str m.2])):∀n:Nat,RPs H (List.replicate n (.ref p)) (List.replicate n m)
 |0=>.nil
 |n+1=>.cons h (RPs.rep h n)
theorem RPs.len{H:Hp}:∀{vs:LV}{a:List (Str×Str)},RPs H vs a->vs.length=a.length
 |_,_,.nil=>rfl
 |_,_,.cons _ r=>congrArg (·+1) (RPs.len r)
theorem RPs.rds{H:Hp}:∀{vs:LV}{a:List (Str×Str)},RPs H vs a->RDs H vs (a.map λm=>.put m.1 m.2)
 |_,_,.nil=>.nil
 |_,_,.cons h r=>.cons (.put h) (RPs.rds r)
noncomputable def iS(rs names:LS)(F:List (Str×Str)):Nat->List (Str×Str)
 |0=>[]
 |i+1=>iS rs names F i++List.replicate (gn (rs.getD i (">":Str)) F) (rs.getD i (">":Str),nth names (i:Int))
theorem mL(rs names:LS)(a:List (Str×Str)):∀i,(iS rs names a i).map (λm=>ae.put m.1 m.2)=cj rs names a i
 |0=>rfl
 |i+1=>by rw[iS,cj,qW,mL rs names a i,List.map_replicate]
theorem RSs.off{H:Hp}{c:Addr}{xs:LV}{o:HO}(hc:H c=some (.lst xs)):∀{vs:LV}{ss:LF},RSs H vs ss->RSs (upd H c o) vs ss
 |_,_,.nil=>.nil
 |_,_,.cons h r=>.cons (by rw[af (λz=>by rw[z,hc]at h;cases h)];exact h) (RSs.off hc r)
theorem FQ(n:Nat)(v:V):(List.replicate n [v]).flatten=List.replicate n v:=by
 induction n with
 |zero=>rfl
 |succ n a=>rw[List.replicate_succ,List.flatten_cons,a];rfl
theorem Ba(n:Int)(names rooms:LS)(shut:Bool):∀k b,bK n names rooms shut≠.rep k b:=λk b z=>by
 unfold bK at z;split at z
 .cases z
 .split at z
  .split at z<;>cases z
  .cases z
theorem zw(a b:List Row)(q:Str):bal (a++b) q=bal a q+bal b q:=by
 unfold bal;rw[QA,QA,qh,qh];omega
theorem CH:¬ ("get":Str)="put":=Yd
theorem Ca(q:Str)(a:List (Str×Str)):∀n,∀b:List (Str×Str),b.length=n->(aZ q (a++b)).2.1<=(aZ q a).1:=by
 have mono:∀(b:List (Str×Str))(s:Int×Int×Int),(b.foldl (dB q) s).2.1<=s.2.1:=by
  intro b
  induction b with
  |nil=>intro s;exact Int.le_refl _
  |cons m r c=>
   intro s;rw[QH];refine Int.le_trans (c _) ?_;unfold dB;split
   .dsimp only;split<;>omega
   .exact Int.le_refl _
 intro n b _;have d:=mono b (aZ q a);have f:=(lP q a).2.2.1;have e:aZ q (a++b)=b.foldl (dB q) (aZ q a):=by unfold aZ;rw[List.foldl_append]
 rw[e];omega
theorem GT{q p:Str}(n:Nat):bal ((List.replicate n (ae.put p x)).map aS) q=if p=q then(n:Int)else 0:=by
 rw[List.map_replicate];unfold bal;by_cases h:p=q
 .simp[aS,h]
 .simp[aS,h]
theorem zu(rs names:LS)(a:List (Str×Str))(q:Str):∀i,0<=bal ((cj rs names a i).map aS) q/\∀k,k<i->rs.getD k (">":Str)=q->(gn q a:Int)<=bal ((cj rs names a i).map aS) q
 |0=>⟨by simp[cj,bal],λk hk=>Qd hk (QG _)⟩
 |i+1=>by
  obtain⟨h1,h2⟩:=zu rs names a q i
  have e:bal ((cj rs names a (i+1)).map aS) q=bal ((cj rs names a i).map aS) q+(if rs.getD i (">":Str)=q then((gn (rs.getD i (">":Str)) a:Nat):Int)else 0):=by
   rw[cj,qW,zw,GT]
  rw[e];refine⟨by split<;>omega,λk hk b=>?_⟩;by_cases lt:k<i
  .have:=h2 k lt b;split<;>omega
  .obtain rfl:k=i:=by omega
   rw[Qa b,b];omega
theorem yA(rs names:LS)(a:List (Str×Str)):∀i,∀d∈cj rs names a i,(aS d).outof=none
 |0,d,h=>by simp[cj]at h
 |i+1,d,h=>by
  rw[cj,qr]at h;rcases h with h|h
  .exact yA rs names a i d h
  .rw[(List.mem_replicate.mp h).2]
   rfl
theorem C1{d:ae}{q:Str}(h:(aS d).outof=some q):∃x,d=.get q x:=by
 cases d with
 |get p x=>
  have:p=q:=qR h;exact⟨x,by rw[this]⟩
 |_=>simp[aS]at h
def zL(rooms:LS)(d:ae):Prop:=∀q x,d=.get q x->q∈rooms
theorem Bf(n:Int)(names rooms:LS)(shut:Bool):zL rooms (bK n names rooms shut):=λq x z=>by
 unfold bK at z;split at z
 .cases z
 .split at z
  .rename_i c;split at z
   .injection z with z1 z2;rw[<- z1];exact iO c.2.1 _
   .cases z
  .cases z
theorem yg:∀ds:LA,ds.length<=(ak ds).length
 |[]=>qo _
 |d::r=>by
  have:=yg r;rw[ak,qh,jF,qJ,qJ];omega
theorem yC(rs names:LS)(a:List (Str×Str))(hn:0<names.length):∀i,i<=rs.length->∀d∈cj rs names a i,∃q x,d=.put q x/\q∈rs/\x∈names
 |0,_,d,h=>by simp[cj]at h
 |i+1,hi,d,h=>by
  rw[cj,qr]at h;rcases h with h|h
  .exact yC rs names a hn i Yo d h
  .refine⟨_,_,(List.mem_replicate.mp h).2,?_,iO hn _⟩;rw[qu,qi Yo];exact List.getElem_mem _
theorem CG(h:∀d∈ds,∃q x,d=.put q x):ak ds=ds/\aR ds=aR ds/\∀d∈ds,d.depth=0:=by
 refine⟨?_,U,λd hd=>?_⟩
 .induction ds with
  |nil=>rfl
  |cons d r b=>
   obtain⟨q,x,rfl⟩:=h d qw;rw[ak,b λe a=>h e (qv _ a)]
   rfl
 .obtain⟨q,x,rfl⟩:=h d hd
  rfl
theorem yP:∀{ds:LA},(∀d∈ds,d.depth=0)->aR ds=0
 |[],_=>rfl
 |d::r,h=>by
  rw[aR,h d qw,yP λe a=>h e (qv _ a)]
  rfl
theorem kT(l:LS):(srt l).length<=l.length:=by
 unfold srt;split
 .rename_i h;obtain⟨a,b,_⟩:=Classical.choose_spec h;exact jG a λx c=>(b x).mp c
 .exact qC _
theorem AU(l:LS):(fj l).length<=l.length:=by
 unfold fj;split
 .rename_i h;exact Nat.le_of_eq (Classical.choose_spec h).1.length_eq
 .exact qC _
noncomputable def gq(b:LA):Row:=⟨"gate",srt (cards b),[],none,none⟩
noncomputable def reps(n:Nat)(l:List α):List α:=(List.replicate n l).flatten
theorem wJ(l:List α):reps 0 l=[]:=U
theorem hJ(n:Nat)(l:List α):reps (n+1) l=l++reps n l:=by unfold reps;rw[List.replicate_succ,List.flatten_cons]
theorem hU(n:Nat)(l:List α):(reps n l).length=n * l.length:=by
 induction n with
 |zero=>simp[reps]
 |succ n a=>rw[hJ,qh,a,Nat.succ_mul];omega
theorem C7{b:Type}(f:α->List b)(n:Nat)(l:List α):(reps n l).flatMap f=reps n (l.flatMap f):=by
 induction n with
 |zero=>rfl
 |succ n a=>rw[hJ,hJ,Q4,a]
theorem C6{l:List α}{x:α}(h:x∈reps n l):x∈l:=by
 induction n with
 |zero=>simp[reps]at h
 |succ n a=>rw[hJ,qr]at h;exact h.elim id a
theorem C5(n:Nat)(l:List α):reps (n+1) l=reps n l++l:=by
 induction n with
 |zero=>simp[reps]
 |succ n a=>
  have e:reps (n+1+1) l=l++(reps n l++l):=by rw[hJ,a]
  rw[e,<- qV,<- hJ]
mutual
noncomputable def bM:ae->List Row
 |.rep n b=>gq b::reps n.toNat (aM b++[gq b])
 |.set x a F b=>[aS (.set x a F b)]
 |.put q x=>[aS (.put q x)]
 |.get q x=>[aS (.get q x)]
 |.give x=>[aS (.give x)]
 |.cond x t o=>[aS (.cond x t o)]
 |.whl x b=>[aS (.whl x b)]
noncomputable def aM:LA->List Row
 |[]=>[]
 |d::r=>bM d++aM r
end
theorem rh{d:ae}(h:∀n b,d≠.rep n b):bM d=[aS d]:=by
 cases d with
 |rep n b=>exact Qd U (h n b)
 |_=>simp[bM]
theorem lN:∀(a b:LA),aM (a++b)=aM a++aM b
 |[],b=>by simp[aM]
 |d::a,b=>by rw[Qu,aM,aM,lN a b,qV]
theorem BV(h:∀d∈ds,∀n b,d≠.rep n b):aM ds=ds.map aS:=by
 induction ds with
 |nil=>simp[aM]
 |cons d r c=>rw[aM,rh (h d qw),c λe a=>h e (qv _ a)];rfl
theorem pZ{d:ae}(h:ds[i]?=some d):aM (ds.take (i+1))=aM (ds.take i)++bM d:=by
 rw[qA,h,lN];simp[aM]
theorem BQ{n:Int}{b:LA}(h:0<n):(aM b).length+2<=(bM (.rep n b)).length:=by
 rw[bM,qJ,hU,qh,Qf];have a:1<=n.toNat:=Yo;have:=Nat.mul_le_mul_right ((aM b).length+1) a;omega
theorem BU{d:ae}(h:ds[i]?=some d):(bM d).length+(aM (ds.take i)).length<=(aM ds).length:=by
 have e:ds=ds.take (i+1)++ds.drop (i+1):=(QC _ _).symm
 conv=>rhs;rw[e]
 rw[lN,pZ h,qh,qh];omega
noncomputable def cA(r:Row):List (Str×Str):=match r.into,r.outof with
 |some q,_=>[("put",q)]
 |none,some q=>[("get",q)]
 |none,none=>[]
mutual
noncomputable def cH:ae->List (Str×Str)
 |.rep n b=>reps n.toNat (bE b)
 |.put q _=>[("put",q)]
 |.get q _=>[("get",q)]
 |.set _ _ _ _=>[]
 |.give _=>[]
 |.cond _ _ _=>[]
 |.whl _ _=>[]
noncomputable def bE:LA->List (Str×Str)
 |[]=>[]
 |d::r=>cH d++bE r
end
theorem sE:∀(a b:LA),bE (a++b)=bE a++bE b
 |[],b=>by simp[bE]
 |d::a,b=>by rw[Qu,bE,bE,sE a b,qV]
theorem y6{d:ae}(h:ds[i]?=some d):bE (ds.take (i+1))=bE (ds.take i)++cH d:=by
 rw[qA,h,sE];simp[bE]
theorem Ez{d:ae}(h:ds[i]?=some d):(cH d).length+(bE (ds.take i)).length<=(bE ds).length:=by
 have e:ds=ds.take (i+1)++ds.drop (i+1):=(QC _ _).symm
 conv=>rhs;rw[e]
 rw[sE,y6 h,qh,qh];omega
mutual
theorem Ey:∀d:ae,(bM d).flatMap cA=cH d
 |.rep n b=>by
  rw[bM,cH,qN,C7,Q4,sD b];simp[cA,gq]
 |.set x a _ b=>by simp[bM,cH,cA,aS]
 |.put q x=>by simp[bM,cH,cA,aS]
 |.get q x=>by simp[bM,cH,cA,aS]
 |.give x=>by simp[bM,cH,cA,aS]
 |.cond x t o=>by simp[bM,cH,cA,aS]
 |.whl x b=>by simp[bM,cH,cA,aS]
theorem sD:∀ds:LA,(aM ds).flatMap cA=bE ds
 |[]=>by simp[aM,bE]
 |d::r=>by rw[aM,bE,Q4,Ey d,sD r]
end
mutual
theorem BS:∀(d:ae)(r:Row),r∈bM d->(∃b,r=gq b/\∀e∈ak b,e∈d.flat)\/∃e∈d.flat,r=aS e/\∀n b,e≠.rep n b
 |.rep n b,r,h=>by
  rw[bM,qD]at h
  have g:(∃f,r=gq f/\∀e∈ak f,e∈(ae.rep n b).flat)\/r∈aM b:=by
   rcases h with h|h
   .exact .inl ⟨b,h,λe c=>by simp[ae.flat,c]⟩
   .rcases qr.mp (C6 h)with h|h
    .exact .inr h
    .exact .inl ⟨b,by simpa using h,λe c=>by simp[ae.flat,c]⟩
  rcases g with g|g
  .exact .inl g
  .rcases gD b r g with⟨f,e,h'⟩|⟨e,c,h'⟩
   .exact .inl ⟨f,e,λx i=>by simp[ae.flat,h' x i]⟩
   .exact .inr ⟨e,by simp[ae.flat,c],h'⟩
 |.set x a sg b,r,h=>by
  rw[bM,Q0]at h;exact .inr ⟨_,by simp[ae.flat],h,λn b z=>by cases z⟩
 |.put q x,r,h=>by
  rw[bM,Q0]at h;exact .inr ⟨_,by simp[ae.flat],h,λn b z=>by cases z⟩
 |.get q x,r,h=>by
  rw[bM,Q0]at h;exact .inr ⟨_,by simp[ae.flat],h,λn b z=>by cases z⟩
 |.give x,r,h=>by
  rw[bM,Q0]at h;exact .inr ⟨_,by simp[ae.flat],h,λn b z=>by cases z⟩
 |.cond x t o,r,h=>by
  rw[bM,Q0]at h;exact .inr ⟨_,by simp[ae.flat],h,λn b z=>by cases z⟩
 |.whl x b,r,h=>by
  rw[bM,Q0]at h;exact .inr ⟨_,by simp[ae.flat],h,λn b z=>by cases z⟩
theorem gD:∀(ds:LA)(r:Row),r∈aM ds->(∃b,r=gq b/\∀e∈ak b,e∈ak ds)\/∃e∈ak ds,r=aS e/\∀n b,e≠.rep n b
 |[],r,h=>by simp[aM]at h
 |d::ds,r,h=>by
  rw[aM,qr]at h;rcases h with h|h
  .rcases BS d r h with⟨b,e,h'⟩|⟨e,c,h'⟩
   .exact .inl ⟨b,e,λx a=>by simp[ak,h' x a]⟩
   .exact .inr ⟨e,by simp[ak,c],h'⟩
  .rcases gD ds r h with⟨b,e,h'⟩|⟨e,c,h'⟩
   .exact .inl ⟨b,e,λx a=>by simp[ak,h' x a]⟩
   .exact .inr ⟨e,by simp[ak,c],h'⟩
end
theorem pY(ds:LA):∀r∈aM ds,e8 r:=λr h=>by
 rcases gD ds r h with⟨b,rfl,_⟩|⟨e,_,rfl,_⟩
 .exact .inl U
 .exact BX e
theorem BR{q:Str}(h:r∈aM ds)(a:r.outof=some q):∃x,.get q x∈ak ds:=by
 rcases gD ds r h with⟨b,rfl,_⟩|⟨e,c,rfl,_⟩
 .simp[gq]at a
 .obtain⟨x,rfl⟩:=C1 a;exact⟨x,c⟩
theorem GS(q:Str):∀(rs:List Row),(∀r∈rs,e8 r)->bal rs q=(aZ q (rs.flatMap cA)).1:=λrs h=>by
 have a:∀n,∀rs:List Row,rs.length=n->(∀r∈rs,e8 r)->bal rs q=(aZ q (rs.flatMap cA)).1:=by
  intro n
  induction n with
  |zero=>
   intro rs h _;rw[List.length_eq_zero_iff]at h;subst h
   rfl
  |succ n b=>
   intro rs h ow;have ne:rs≠[]:=λz=>by rw[z]at h;cases h
   have e:rs=rs.dropLast++[rs.getLast ne]:=(List.dropLast_concat_getLast ne).symm;have c:=b rs.dropLast (by rw[QI];omega) λr hr=>ow r ((List.dropLast_sublist _).subset hr);have hl:=ow _ (List.getLast_mem ne);generalize rs.getLast ne=d at e hl;rw[e,Q4,fD,c];obtain⟨_,ow,_,into,outof⟩:=d
   cases into with
   |some p=>
    have f:outof=none:=by
     rcases hl with h|h
     .cases h
     .exact h
    subst f;show _=(aZ q (List.flatMap cA rs.dropLast++[(("put":Str),p)])).1;rw[rB];unfold dB gE;by_cases h:p=q<;>simp[h]
   |none=>
    cases outof with
    |none=>simp[cA]
    |some p=>
     show _=(aZ q (List.flatMap cA rs.dropLast++[(("get":Str),p)])).1;rw[rB];unfold dB gE;by_cases h:p=q<;>simp[h,CH]<;>omega
 exact a _ rs U h
theorem FV{rs names:LS}{rows:List Row}(ow:∀r∈rows,e8 r)(l:∀r∈rows,∀q,r.outof=some q->q∈rs):
 Fed ((cj rs names (rows.flatMap cA) rs.length).map aS++rows):=λi r q a b=>by
 have ge:((cj rs names (rows.flatMap cA) rs.length).map aS).length<=i:=by
  rcases Nat.lt_or_ge i ((cj rs names (rows.flatMap cA) rs.length).map aS).length with lt|ge
  .rw[Qe lt]at a;obtain⟨d,hd,e⟩:=List.mem_map.mp (qI a);have:=yA rs names (rows.flatMap cA) rs.length d hd;rw[e,b]at this;cases this
  .exact ge
 rw[qT ge]at a;generalize hj:i-((cj rs names (rows.flatMap cA) rs.length).map aS).length=j at a;have c:=qI a;have o:=l r c q b;obtain⟨k,hk,g⟩:=List.mem_iff_getElem.mp o;have b1:=(zu rs names (rows.flatMap cA) q rs.length).2 k hk (by rwa[qu,qi hk])
 have tk:((cj rs names (rows.flatMap cA) rs.length).map aS++rows).take i=(cj rs names (rows.flatMap cA) rs.length).map aS++rows.take j:=by
  rw[List.take_append,List.take_of_length_le ge,hj]
 rw[tk,zw];have m:rows.take (j+1)=rows.take j++[r]:=by rw[qA,a];rfl
 have f:r.into=none:=by
  rcases ow r c with h|h
  .exact h
  .rw[h]at b;cases b
 have b2:bal (rows.take (j+1)) q=bal (rows.take j) q-1:=by
  rw[m,fD,f,b];simp
 have n:=Ca q ((rows.take (j+1)).flatMap cA) _ ((rows.drop (j+1)).flatMap cA) U;rw[<- Q4,QC,<- GS q _ (λr hr=>ow r (List.mem_of_mem_take hr))]at n;have p:=lP q (rows.flatMap cA);unfold gn at b1;omega
def fG(d:ae):Prop:=∀n b,d=.rep n b->0<=n/\n<=99
def bU(Pd:ae->Prop)(ds:LA):Prop:=∀d∈ak ds,Pd d
theorem bU.app{a b:LA}(c:bU Pd a)(e:bU Pd b):bU Pd (a++b):=λd h=>by
 rw[fV,qr]at h;exact h.elim (c d) (e d)
theorem bU.nil:bU Pd []:=λd h=>by simp[ak]at h
theorem bU.one{d:ae}(h:Pd d)(c:∀b∈d.inner,bU Pd b):bU Pd [d]:=λe a=>by
 rw[ak,ak,qG,jF,qD,List.mem_flatMap]at a;rcases a with rfl|⟨b,hb,a⟩
 .exact h
 .exact c b hb e a
def Hk(o:Op):Prop:=∀n,o=.rep n->0<=n/\n<=99
def FrA(Pd:ae->Prop)(f:Fr):Prop:=bU Pd f.ds/\bU Pd f.op.extra/\Hk f.op
structure kK(Pd:ae->Prop):Prop where
 cond:∀x t o,Pd (.cond x t o)
 whl:∀x b,Pd (.whl x b)
 rep:∀n b,0<=n->n<=99->Pd (.rep n b)
theorem FrA.deed{Pd:ae->Prop}(b:kK Pd){f:Fr}(h:FrA Pd f):bU Pd [f.deed]:=by
 obtain⟨a,d,c⟩:=h;unfold Fr.deed;cases q:f.op<;>rw[q]at d c
 .exact .one (b.rep _ _ Yk Yk) (by simpa[ae.inner]using a)
 .exact .one (b.cond _ _ _) (by simpa[ae.inner]using⟨a,bU.nil⟩)
 .exact .one (b.cond _ _ _) (by simpa[ae.inner]using⟨d,a⟩)
 .exact .one (b.whl _ _) (by simpa[ae.inner]using a)
 .exact .one (b.rep _ _ (c _ U).1 (c _ U).2) (by simpa[ae.inner]using a)
theorem Bc(n:Int)(names rooms:LS)(shut:Bool):(bK n names rooms shut).inner=[]:=by
 unfold bK;split
 .rfl
 .split
  .split<;>rfl
  .rfl
def kI(f g:Fr):Prop:=match f.op with
 |.root=>False
 |.rep n=>f.times=g.times * n
 |_=>f.times=0
def TR(most:Int):List Fr->Prop
 |[]=>False
 |[f]=>f.op=.root/\f.times=1
 |f::g::r=>kI f g/\0<=f.times/\f.times<=most/\TR most (g::r)
theorem TR.head(a:1<=most){f:Fr}{r:List Fr}(h:TR most (f::r)):0<=f.times/\f.times<=most:=by
 cases r with
 |nil=>rw[h.2];omega
 |cons g r=>exact⟨h.2.1,h.2.2.1⟩
theorem TR.same{f f':Fr}{r:List Fr}(i:f'.op=f.op)(e:f'.times=f.times)(h:TR most (f::r)):TR most (f'::r):=by
 cases r with
 |nil=>exact⟨i.trans h.1,e.trans h.2⟩
 |cons g r=>
  obtain⟨a,b,c,d⟩:=h;refine⟨?_,by rwa[e],by rwa[e],d⟩;unfold kI at a ⊢;rwa[i,e]
theorem y9{n t:Int}(h0:0<=most)(b:most<=98)(ht:0<=t):0<=cQ n most t/\cQ n most t<=99/\0<=t * cQ n most t/\t * cQ n most t<=most:=by
 unfold cQ;by_cases tp:0<t
 .rw[Qa tp];have f:0<=most / t:=Int.ediv_nonneg h0 ht;have c:most / t<=most:=Int.ediv_le_self _ h0;have a:0<=n / 70 % (1+most / t):=Qi _ Yo;have e:n / 70 % (1+most / t)<1+most / t:=Qn _ Yo;have d:t * (n / 70 % (1+most / t))<=t * (most / t):=Int.mul_le_mul_of_nonneg_left Yo ht;have g:t * (most / t)<=most:=Int.mul_ediv_self_le Yo;exact⟨a,Yo,Int.mul_nonneg ht a,Yo⟩
 .rw[Q9 tp];obtain rfl:t=0:=Yo;exact⟨Qi _ Yk,Yo,by simp,by simpa using h0⟩
structure Wt where
 g:Int
 e:ae->Int
mutual
noncomputable def Wt.d(w:Wt):ae->Int
 |.rep n b=>w.g+n * (Wt.l w b+w.g)
 |.cond _ _ _=>w.g
 |.whl _ _=>w.g
 |.set x a F b=>w.e (.set x a F b)
 |.put q x=>w.e (.put q x)
 |.get q x=>w.e (.get q x)
 |.give x=>w.e (.give x)
noncomputable def Wt.l(w:Wt):LA->Int
 |[]=>0
 |d::r=>Wt.d w d+Wt.l w r
end
theorem Wt.l_append(w:Wt):∀(a b:LA),w.l (a++b)=w.l a+w.l b
 |[],b=>by simp[Wt.l]
 |d::a,b=>by rw[Qu,Wt.l,Wt.l,Wt.l_append w a b];omega
noncomputable def Wt.m(w:Wt):List Fr->Int
 |[]=>0
 |[f]=>f.times * w.l f.ds
 |f::g::r=>f.times * w.l f.ds+(g.times * w.g+match f.op with|.rep _=>f.times * w.g|_=>0)+Wt.m w (g::r)
theorem Wt.m_add(w:Wt)(f:Fr)(d:ae)(r:List Fr):w.m (f.add d::r)=w.m (f::r)+f.times * w.d d:=by
 have e:w.l (f.ds++[d])=w.l f.ds+w.d d:=by rw[Wt.l_append];simp[Wt.l]
 cases r with
 |nil=>simp only[Wt.m,Fr.add,e,Int.mul_add]
 |cons g r=>simp only[Wt.m,Fr.add,e,Int.mul_add];omega
theorem Wt.deed(w:Wt){f g:Fr}(h:kI f g):g.times * w.d f.deed=f.times * w.l f.ds+(g.times * w.g+match f.op with|.rep _=>f.times * w.g|_=>0):=by
 unfold kI at h;unfold Fr.deed;cases q:f.op<;>rw[q]at h<;>simp only[Wt.d]at h ⊢
 .rw[h];simp
 .rw[h];simp
 .rw[h];simp
 .rw[h,Int.mul_add,Int.mul_add,Int.mul_add,<- Int.mul_assoc,<- Int.mul_assoc];omega
theorem Wt.wh(w:Wt){most:Int}:∀(f:Fr)(r:List Fr)(dt:LA),TR most (f::r)->w.l (wh (f::r) dt)=w.m (f::r)+f.times * w.l dt
 |f,[],dt,h=>by
  rw[Tr.wh,Wt.l_append,Wt.m,h.2];omega
 |f,g::r,dt,h=>by
  rw[Tr.wh,Wt.wh w g r _ h.2.2.2];have:=Wt.deed w (f:={ f with ds:=f.ds++dt }) (g:=g) h.1;simp only[Wt.l,Int.add_zero];rw[this,Wt.l_append,Int.mul_add,Wt.m];dsimp only;omega
theorem B7(w:Wt)(n:Int)(names rooms:LS)(shut:Bool):w.d (bK n names rooms shut)=w.e (bK n names rooms shut):=by
 unfold bK;split
 .rfl
 .split
  .split<;>rfl
  .rfl
theorem uO{names:LS}{low n:Int}{st:List Fr}(w:Wt)(c:Int)(i:0<=w.g)(p:w.g<=1)(t:∀d,0<=w.e d/\w.e d<=1)(hn:0<=n)(q:1<=most)(k:most<=98)(ht:TR most st):
 TR most (ck names rooms most low st n)/\w.m (ck names rooms most low st n)<=w.m st+most+most * w.g:=by
 match st,ht with
 |g::r,ht=>
  obtain⟨h,j⟩:=ht.head q;have B:0<=most * w.g:=Int.mul_nonneg Yo i;have D:g.times * w.g<=most * w.g:=Int.mul_le_mul_of_nonneg_right j i;have v:most * w.g<=most:=by have:=Int.mul_le_mul_of_nonneg_left p (show 0<=most by omega);omega
  unfold ck;dsimp only;split
  .unfold gK;dsimp only;split
   .exists ⟨U,Int.le_refl _,by show(0:Int)<=most;omega,ht⟩;simp only[Wt.m,Wt.l];omega
   .split
    .exists ⟨U,Int.le_refl _,by show(0:Int)<=most;omega,ht⟩;simp only[Wt.m,Wt.l];omega
    .obtain⟨A,C,s,o⟩:=y9 (by omega:0<=most) k h;exists ⟨U,s,o,ht⟩;have:=Int.mul_le_mul_of_nonneg_right o i;simp only[Wt.m,Wt.l];omega
  .split
   .rename_i x a
    have e:g.op=.ifT x:=by
     split at a
     .cases e:g.op<;>rw[e]at a<;>simp[Op.ifT?]at a;rw[a]
     .cases a
    cases r with
    |nil=>have:=ht.1;rw[e]at this;cases this
    |cons g' b=>
     have z:g.times=0:=by
      have:=ht.1;unfold kI at this;rw[e]at this;exact this
     exists ⟨z,h,j,ht.2.2.2⟩;simp only[Wt.m,e,z];omega
   .split
    .rename_i c
     cases r with
     |nil=>exact Qd c.2 (by simp)
     |cons g' b=>
      show TR most (g'.add g.deed::b)/\w.m (g'.add g.deed::b)<=_;exists TR.same (f:=g') (f':=g'.add g.deed) U U ht.2.2.2;rw[Wt.m_add,Wt.deed w ht.1,Wt.m];omega
    .exists TR.same (f:=g) (f':=g.add (bK n names rooms g.shut)) U U ht;rw[Wt.m_add];obtain⟨y,u⟩:=t (bK n names rooms g.shut);rw[B7];have:=Int.mul_le_mul_of_nonneg_left u h;omega
theorem nK{names rooms:LS}{most low:Int}(w:Wt)(l:0<=w.g)(i:w.g<=1)(k:∀d,0<=w.e d/\w.e d<=1)(j:1<=most)(f:most<=98):∀(cells:LI)(st:List Fr),TR most st->
 TR most (cells.foldl (λst c=>ck names rooms most low st (aG c 1)) st)/\w.m (cells.foldl (λst c=>ck names rooms most low st (aG c 1)) st)<=w.m st+cells.length * (most+most * w.g)
 |[],st,h=>⟨h,by simp⟩
 |c::cs,st,h=>by
  obtain⟨a,b⟩:=uO (low:=low) (n:=aG c 1) w 0 l i k (by unfold aG;exact Qi _ Yk) j f h;obtain⟨o,_⟩:=nK (low:=low) w l i k j f cs _ a;exists o;rw[QH,qJ,Int.natCast_add,Int.add_mul];simp only[Int.natCast_one,Int.one_mul];omega
theorem zm{names:LS}{low:Int}(w:Wt)(o:0<=w.g)(j:w.g<=1)(n:∀d,0<=w.e d/\w.e d<=1)(k:1<=most)(i:most<=98)(h:LI):w.l (e7 names rooms most low h)<=h.length * (most+most * w.g):=by
 obtain⟨a,b⟩:=nK (low:=low) w o j n k i h st0 ⟨U,U⟩;have e:w.m st0=0:=by simp[st0,Wt.m,Wt.l]
 rw[e,Int.zero_add]at b;unfold e7 kP;show w.l (fI ((dJ names rooms most low h).length-1) (dJ names rooms most low h))<=_;have hs:dJ names rooms most low h=h.foldl (λst c=>ck names rooms most low st (aG c 1)) st0:=U;rw[<- hs]at a b
 cases q:dJ names rooms most low h with
 |nil=>rw[q]at a;exact a.elim
 |cons f r=>
  rw[q]at a b;rw[kQ _ _ (by simp),Wt.wh w f r [] a,Wt.l];omega
theorem AO(j:kK Pd){names:LS}{low n:Int}{st:List Fr}(hs:∀k s,Pd (bK k names rooms s))(hn:0<=n)(d:1<=most)(c:most<=98)(ht:TR most st)(ha:∀f∈st,FrA Pd f):∀f∈ck names rooms most low st n,FrA Pd f:=by
 match st,ht,ha with
 |g::r,ht,ha=>
  have b:=ha g qw;have hr:∀f∈r,FrA Pd f:=λf a=>ha f (qv _ a);obtain⟨h,l⟩:=ht.head d;unfold ck;dsimp only;split
  .unfold gK;dsimp only;intro f a;rcases qD.mp a with rfl|a
   .split
    .exact⟨.nil,.nil,λn z=>by cases z⟩
    .split
     .exact⟨.nil,.nil,λn z=>by cases z⟩
     .obtain⟨e,i,_⟩:=y9 (by omega:0<=most) c h;exact⟨.nil,.nil,λn z=>by cases z;exact⟨e,i⟩⟩
   .exact ha f a
  .split
   .rename_i x o;intro f a;rcases qD.mp a with rfl|a
    .exact⟨.nil,b.1,λn z=>by cases z⟩
    .exact hr f a
   .split
    .cases r with
     |nil=>exact ha
     |cons g' m=>
      intro f a;rcases qD.mp a with rfl|a
      .have h':=hr g' qw;exact⟨h'.1.app (b.deed j),h'.2⟩
      .exact hr f (qv _ a)
    .intro f a;rcases qD.mp a with rfl|a
     .exact⟨b.1.app (.one (hs _ _) (by rw[Bc];simp)),b.2⟩
     .exact hr f a
theorem uQ{Pd:ae->Prop}(d:kK Pd){names rooms:LS}{most low:Int}(hs:∀k s,Pd (bK k names rooms s))(b:1<=most)(a:most<=98):∀(cells:LI)(st:List Fr),TR most st->(∀f∈st,FrA Pd f)->
 ∀f∈cells.foldl (λst c=>ck names rooms most low st (aG c 1)) st,FrA Pd f
 |[],st,_,h=>h
 |c::cs,st,ht,h=>by
  have hn:0<=aG c 1:=by unfold aG;exact Qi _ Yk
  exact uQ d hs b a cs _ (uO (low:=low) (n:=aG c 1) ⟨0,λ_=>0⟩ 0 Yk Yk (λ_=>⟨by simp,by simp⟩) hn b a ht).1 (AO d hs hn b a ht h)
theorem uj{Pd:ae->Prop}(c:kK Pd):∀(st:List Fr)(dt:LA),(∀f∈st,FrA Pd f)->bU Pd dt->bU Pd (wh st dt)
 |[],_,_,_=>.nil
 |[f],dt,h,hd=>(h f qw).1.app hd
 |f::g::r,dt,h,hd=>by
  have b:=h f qw;exact uj c (g::r) _ (λf' a=>h f' (qv _ a)) (FrA.deed c (f:={ f with ds:=f.ds++dt }) ⟨b.1.app hd,b.2⟩)
theorem mW(h:kK Pd){names:LS}{low:Int}(hs:∀k s,Pd (bK k names rooms s))(e:1<=most)(d:most<=98)(c:LI):bU Pd (e7 names rooms most low c):=by
 have a:=(nK (names:=names) (rooms:=rooms) (low:=low) ⟨0,λ_=>0⟩ Yk Yk (λ_=>⟨by simp,by simp⟩) e d c st0 ⟨U,U⟩).1
 have b:=uQ h (low:=low) hs e d c st0 ⟨U,U⟩ λf g=>by
  simp[st0]at g;subst g;exact⟨.nil,.nil,λn z=>by cases z⟩
 have ne:(dJ names rooms most low c).length≠0:=λz=>by
  rw[List.length_eq_zero_iff]at z;unfold dJ at z;rw[z]at a;exact a
 unfold e7 kP;rw[kQ _ _ Yo];exact uj h _ _ b .nil
noncomputable def j7:Wt:=⟨1,λ_=>1⟩
noncomputable def jP:Wt:=⟨0,λd=>d.moves.length⟩
mutual
theorem zS:∀d:ae,(∀e∈d.flat,fG e)->((bM d).length:Int)=j7.d d
 |.rep n b,h=>by
  have h1:=ng b λe c=>h e (by simp[ae.flat,c]);have f:=(h (.rep n b) (by simp[ae.flat]) n b U).1;rw[bM,Wt.d,qJ,hU,qh,Qf,<- h1];have e:(n.toNat:Int)=n:=Int.toNat_of_nonneg f;simp only[Int.natCast_add,Int.natCast_mul,e];show n * (((aM b).length:Int)+1)+1=1+n * (((aM b).length:Int)+1);omega
 |.set x a sg b,_=>rfl
 |.put q x,_=>rfl
 |.get q x,_=>rfl
 |.give x,_=>rfl
 |.cond x t o,_=>rfl
 |.whl x b,_=>rfl
theorem ng:∀ds:LA,(∀e∈ak ds,fG e)->((aM ds).length:Int)=j7.l ds
 |[],_=>by simp[aM,Wt.l]
 |d::r,h=>by
  rw[aM,Wt.l,qh,Int.natCast_add,zS d λe a=>h e (by simp[ak,a]),ng r λe a=>h e (by simp[ak,a])]
end
mutual
theorem zT:∀d:ae,(∀e∈d.flat,fG e)->((cH d).length:Int)=jP.d d
 |.rep n b,h=>by
  have h1:=nh b λe c=>h e (by simp[ae.flat,c]);have f:=(h (.rep n b) (by simp[ae.flat]) n b U).1;rw[cH,Wt.d,hU,<- h1];have e:(n.toNat:Int)=n:=Int.toNat_of_nonneg f;simp only[Int.natCast_mul,e];show n * ((bE b).length:Int)=0+n * (((bE b).length:Int)+0);rw[Int.add_zero,Int.zero_add]
 |.set x a sg b,_=>rfl
 |.put q x,_=>rfl
 |.get q x,_=>rfl
 |.give x,_=>rfl
 |.cond x t o,_=>rfl
 |.whl x b,_=>rfl
theorem nh:∀ds:LA,(∀e∈ak ds,fG e)->((bE ds).length:Int)=jP.l ds
 |[],_=>by simp[bE,Wt.l]
 |d::r,h=>by
  rw[bE,Wt.l,qh,Int.natCast_add,zT d λe a=>h e (by simp[ak,a]),nh r λe a=>h e (by simp[ak,a])]
end
theorem tS{names:LS}{low:Int}(d:1<=most)(c:most<=98)(a:LI):bU fG (e7 names rooms most low a):=
 mW ⟨λ_ _ _ n b z=>(by cases z),λ_ _ n b z=>(by cases z),λn b h0 e _ _ z=>(by cases z;exact⟨h0,e⟩)⟩ (λk s n b z=>Qd z (Ba _ _ _ _ n b)) d c a
theorem GL{names:LS}{low:Int}(c:1<=most)(b:most<=98)(a:LI):((aM (e7 names rooms most low a)).length:Int)<=a.length * (most+most):=by
 rw[ng _ (tS c b a)];have:=zm (names:=names) (rooms:=rooms) (low:=low) j7 Yk Yk (λ_=>⟨by simp[j7],by simp[j7]⟩) c b a;simpa[j7]using this
theorem GO{names:LS}{low:Int}(c:1<=most)(b:most<=98)(a:LI):((bE (e7 names rooms most low a)).length:Int)<=a.length * most:=by
 rw[nh _ (tS c b a)];have:=zm (names:=names) (rooms:=rooms) (low:=low) jP Yk Yk (λd=>by cases d<;>simp[jP,ae.moves]) c b a;simpa[jP]using this
theorem zn{names:LS}{low:Int}(d:1<=most)(c:most<=98)(a:LI):∀q x,.get q x∈ak (e7 names rooms most low a)->q∈rooms:=λq x h=>
 mW (Pd:=zL rooms) ⟨λ_ _ _ q x z=>(by cases z),λ_ _ q x z=>(by cases z),λn b _ _ q x z=>(by cases z)⟩ (λk s=>Bf _ _ _ _) d c a _ h q x U
end Tr
namespace Tr
open PySem PySem.Spec PyProof.Rows L2
theorem aT.app{H:Hp}:∀{us vs:LV}{a b:List Row},aT H us a->aT H vs b->aT H (us++vs) (a++b)
 |_,_,_,_,.nil,h=>h
 |_,_,_,_,.cons x r,h=>.cons x (aT.app r h)
theorem aT.reps{H:Hp}{us:LV}{rs:List Row}(h:aT H us rs):∀n:Nat,aT H (reps n us) (reps n rs)
 |0=>.nil
 |n+1=>by rw[hJ,hJ];exact h.app (aT.reps h n)
theorem RMs.app{H:Hp}:∀{us vs:LV}{a b:List (Str×Str)},RMs H us a->RMs H vs b->RMs H (us++vs) (a++b)
 |_,_,_,_,.nil,h=>h
 |_,_,_,_,.cons x r,h=>.cons x (RMs.app r h)
theorem bU.at{d:ae}(h:bU Pd ds)(b:ds[i]?=some d):bU Pd [d]:=λe a=>h e (by
 rw[ak,ak,qG]at a
 exact(tw b).2 e a)
theorem bU.rep{Pd:ae->Prop}{n:Int}{b:LA}(h:bU Pd [.rep n b]):Pd (.rep n b)/\bU Pd b:=
 ⟨h _ (by simp[ak,ae.flat]),λe a=>h e (by simp[ak,ae.flat,a])⟩
theorem AZ{i j:Int}(h0:0<=i)(a:i<=99):IntMulOk i j:=uf.ok (.inl ⟨Yo,Yo⟩)
end Tr
namespace L2
open PySem PySem.Spec PyProof.Rows
section
variable {CX:CXT}{k:Nat}{E:XK}{m:Str}{p:Pos}{o:Expr}{es:LR}{t:TA}{ds:LL}
end
theorem gG{f:Str}{v:V}:∀{fs:List (Str×V)}(ks:LS),fs.map (·.1)=ks->(ks.all λg=>!decide (g=f))=true->dC f v fs=fs++[(f,v)]
 |[],_,_,_=>rfl
 |(g,x)::r,ks,e,h=>by
  subst e;simp only[qZ,List.all_cons,Bool.and_eq_true,Bool.not_eq_true',decide_eq_false_iff_not]at h;rw[dC,Q9 h.1,gG (r.map (·.1)) U h.2]
  rfl
theorem ie{k:Str}{v:V}{r:List (Str×V)}:List.lookup k ((k,v)::r)=some v:=by simp[List.lookup]
theorem dX{k g:Str}{v:V}{r:List (Str×V)}(h:(k == g)=false):List.lookup k ((g,v)::r)=List.lookup k r:=by simp[List.lookup,h]
theorem GV{xs:List α}{i:Int}{v:α}(h:0<=i)(e:xs[i.toNat]?=some v):atI xs i=some v:=by
 have:=aO (xs:=xs) (j:=i.toNat) (v:=v) e
 rwa [Int.toNat_of_nonneg h]at this
inductive kg(i:Nat)(Y:St)(H:Hp)(Q:VK):Prop
 |mk (v:V) (h:Y[i]?=some (some v)) (q:Q v H):kg i Y H Q
theorem Cy(i:Nat):kg i=uA i:=by
 funext Y H Q
 exact propext ⟨λ⟨v,h,q⟩=>⟨v,h,q⟩,λ⟨v,h,q⟩=>⟨v,h,q⟩⟩
inductive qB(x:V)(H:Hp)(Q:Bool->Hp->Prop):Prop
 |mk (k:Bool) (h:x=.bl k) (q:Q k H):qB x H Q
theorem wX(Q:Bool->Hp->Prop):(λx H=>qB x H Q)=λx H=>∃k,x=V.bl k/\Q k H:=by
 funext x H
 exact propext ⟨λ⟨v,h,q⟩=>⟨v,h,q⟩,λ⟨v,h,q⟩=>⟨v,h,q⟩⟩
def jt(t:TE):TT:=λY H Q=>t Y H λx H'=>qB x H' Q
theorem CB(t:TE):jt t=kS t:=by
 funext Y H Q
 unfold jt kS;rw[wX]
theorem CA(t:TE):jt t=tB t:=by
 funext Y H Q
 unfold jt tB;rw[wX]
inductive x6(x y:V)(H:Hp)(Q:VK):Prop
 |mk (i j:Int) (h1:x=.int i) (h2:y=.int j) (q:Q (.int (i+j)) H):x6 x y H Q
inductive wO(x y:V)(H:Hp)(Q:VK):Prop
 |mk (i j:Int) (h1:x=.int i) (h2:y=.int j) (q:Q (.int (i-j)) H):wO x y H Q
inductive wV(x y:V)(H:Hp)(Q:VK):Prop
 |mk (i j:Int) (h1:x=.int i) (h2:y=.int j) (c:0<j/\j<1073741824) (q:Q (.int (i / j)) H):wV x y H Q
inductive wR(x y:V)(H:Hp)(Q:VK):Prop
 |mk (i j:Int) (h1:x=.int i) (h2:y=.int j) (c:0<j) (q:Q (.int (i % j)) H):wR x y H Q
inductive qLt(x y:V)(H:Hp)(Q:VK):Prop
 |mk (i j:Int) (h1:x=.int i) (h2:y=.int j) (q:Q (.bl (decide (i<j))) H):qLt x y H Q
inductive qLe(x y:V)(H:Hp)(Q:VK):Prop
 |mk (i j:Int) (h1:x=.int i) (h2:y=.int j) (q:Q (.bl (decide (i<=j))) H):qLe x y H Q
inductive qGt(x y:V)(H:Hp)(Q:VK):Prop
 |mk (i j:Int) (h1:x=.int i) (h2:y=.int j) (q:Q (.bl (decide (j<i))) H):qGt x y H Q
inductive qGe(x y:V)(H:Hp)(Q:VK):Prop
 |mk (i j:Int) (h1:x=.int i) (h2:y=.int j) (q:Q (.bl (decide (j<=i))) H):qGe x y H Q
inductive qEq(x y:V)(H:Hp)(Q:VK):Prop
 |mk (c:jU x y=true) (q:Q (.bl (decide (x=y))) H):qEq x y H Q
inductive qNe(x y:V)(H:Hp)(Q:VK):Prop
 |mk (c:jU x y=true) (q:Q (.bl (!decide (x=y))) H):qNe x y H Q
inductive wU(x y:V)(H:Hp)(Q:VK):Prop
 |mk (c:y=.non) (q:Q (.bl (decide (x=.non))) H):wU x y H Q
inductive wQ(x y:V)(H:Hp)(Q:VK):Prop
 |mk (c:y=.non) (q:Q (.bl (!decide (x=.non))) H):wQ x y H Q
inductive rK(K:W.Frag)(x y:V)(H:Hp)(Q:VK):Prop
 |mk (p:Addr) (xs:LV) (i:Int) (v:V) (h1:x=.ref p) (h2:y=.int i) (h3:SqL K H p xs) (h4:atI xs i=some v) (q:Q v H):rK K x y H Q
inductive rJ(K:W.Frag)(x y:V)(H:Hp)(Q:VK):Prop
 |mk (p:Addr) (xs:LV) (i:Int) (v:V) (h1:x=.ref p) (h2:y=.int i) (h3:SqT K H p xs) (h4:atI xs i=some v) (q:Q v H):rJ K x y H Q
inductive wZ(x y:V)(H:Hp)(Q:VK):Prop
 |mk (i j:Str) (h1:x=.str i) (h2:y=.str j) (c:i.length+j.length<=sizeLine) (q:Q (.str (i++j)) H):wZ x y H Q
inductive rH(K:W.Frag)(xs:LV)(H:Hp)(Q:VK):Prop
 |mk (p:Addr) (ys:LV) (h1:xs=[.ref p]) (h2:SqL K H p ys\/SqT K H p ys) (q:Q (.int ys.length) H):rH K xs H Q
inductive rL(K:W.Frag)(xs:LV)(H:Hp)(Q:VK):Prop
 |mk (x:V) (t:Value) (T:String) (b:Bool) (h1:xs=[x,.ty T]) (h2:eL K H x t) (h3:PySem.W.kitOne K t (.type T)=some b) (q:Q (.bl b) H):rL K xs H Q
inductive rG(K:W.Frag)(xs:LV)(H:Hp)(Q:VK):Prop
 |mk (p:Addr) (ys:LV) (h1:xs=[.ref p]) (h2:SqL K H p ys\/SqT K H p ys) (q:∀l,H l=none->Q (.ref l) (upd H l (.lst ys))):rG K xs H Q
inductive wY(x:V)(vs:LV)(H:Hp)(Q:VK):Prop
 |mk (l:Addr) (xs:LV) (y:V) (h1:x=.ref l) (h2:vs=[y]) (h3:H l=some (.lst xs)) (h4:xs.length<sizeLine) (q:Q .non (upd H l (.lst (xs++[y])))):wY x vs H Q
inductive wW(K:W.Frag)(x y:V)(H:Hp)(Q:VK):Prop
 |mk (l b:Addr) (xs zs:LV) (h1:x=.ref l) (h2:y=.ref b) (h3:SqL K H l xs) (h4:SqL K H b zs) (h5:xs.length+zs.length<=sizeLine) (q:∀p,H p=none->Q (.ref p) (upd H p (.lst (xs++zs)))):wW K x y H Q
inductive kh(A B:Prop):Prop
 |mk (h:A) (q:B):kh A B
theorem rO(A B:Prop):kh A B=(A/\B):=propext ⟨λ⟨a,b⟩=>⟨a,b⟩,λ⟨a,b⟩=>⟨a,b⟩⟩
theorem pq(i:Nat)(b:X.N[i]?=some x:=by rfl)(c:Vis X.env.scope x:=by first|exact Or.inl U|exact Or.inr Oi|exact Or.inr (Or.inr U))(hd:(x == ("__debug__":Str))=false:=by decide)
 (a:(x == ("__classdict__":Str))=false:=by decide):PE X (.Name x pos) (kg i):=by
 rw[Cy];exact CZ b c hd a
theorem ax{op:CmpOp}{r:R2}{a b:Expr}{c:TE}(d:OpR X (compareOp op) r)(ha:PE X a ta)(hb:PE X b c)(e:behindInMarks op b=false):PT X (.Compare a [op] [b] pos) (jt (tOp r ta c)):=by
 rw[CB];exact CK d ha hb e
theorem cN{t:TE}(h:PE X e t)(a:∀whole,isTrue e X.env whole=(do let v <- whole;standAt e.pos;holding [v] (truthy v)):=by intro _;rfl):PT X e (jt t):=by
 rw[CA];exact CJ h a
theorem OpR.as{f:Value->Value->Sem Value}{r b:R2}(h:OpR X f r)(e:∀x y H Q,b x y H Q->r x y H Q):OpR X f b:=λa s g H x y v u Q I c d q=>h a s g H x y v u Q I c d (e _ _ _ _ q)
theorem cL.as{f:Value}{r b:LV->Hp->VK->Prop}(h:cL X f r)(e:∀x H Q,b x H Q->r x H Q):cL X f b:=λa s d H x u Q I c q=>h a s d H x u Q I c (e _ _ _ q)
theorem IxR.as{r d:R2}(h:IxR X r)(e:∀x y H Q,d x y H Q->r x y H Q):IxR X d:=λa b c s i H x y v u Q I f g q=>h a b c s i H x y v u Q I f g (e _ _ _ _ q)
theorem bC:OpR X (binaryOp .Add) x6:=Ek.as λ_ _ _ _ ⟨i,j,a,b,q⟩=>⟨i,j,a,b,q⟩
theorem gF:OpR X (binaryOp .Sub) wO:=Ed.as λ_ _ _ _ ⟨i,j,a,b,q⟩=>⟨i,j,a,b,q⟩
theorem cY:OpR X (binaryOp .FloorDiv) wV:=Ej.as λ_ _ _ _ ⟨i,j,a,b,c,q⟩=>⟨i,j,a,b,c,q⟩
theorem bp:OpR X (binaryOp .Mod) wR:=Ee.as λ_ _ _ _ ⟨i,j,a,b,c,q⟩=>⟨i,j,a,b,c,q⟩
theorem gb:OpR X (compareOp .Lt) qLt:=Ef.as λ_ _ _ _ ⟨i,j,a,b,q⟩=>⟨i,j,a,b,q⟩
theorem hV:OpR X (compareOp .LtE) qLe:=Eg.as λ_ _ _ _ ⟨i,j,a,b,q⟩=>⟨i,j,a,b,q⟩
theorem fO:OpR X (compareOp .Gt) qGt:=Eh.as λ_ _ _ _ ⟨i,j,a,b,q⟩=>⟨i,j,a,b,q⟩
theorem wN:OpR X (compareOp .GtE) qGe:=Ei.as λ_ _ _ _ ⟨i,j,a,b,q⟩=>⟨i,j,a,b,q⟩
theorem aW:OpR X (compareOp .Eq) qEq:=Du.as λ_ _ _ _ ⟨c,q⟩=>⟨c,q⟩
theorem eA:OpR X (compareOp .NotEq) qNe:=Dk.as λ_ _ _ _ ⟨c,q⟩=>⟨c,q⟩
theorem wM:OpR X (compareOp .Is) wU:=Dp.as λ_ _ _ _ ⟨c,q⟩=>⟨c,q⟩
theorem eX:OpR X (compareOp .IsNot) wQ:=Dj.as λ_ _ _ _ ⟨c,q⟩=>⟨c,q⟩
theorem iG:OpR X (binaryOp .Add) wZ:=Dw.as λ_ _ _ _ ⟨i,j,a,b,c,q⟩=>⟨i,j,a,b,c,q⟩
theorem jr:OpR X (binaryOp .Add) (wW X.K):=Dv.as λ_ _ _ _ ⟨l,b,xs,zs,a,e,f,d,c,q⟩=>⟨l,b,xs,zs,a,e,f,d,c,q⟩
theorem aA:IxR X (rK X.K):=Fo.as λ_ _ _ _ ⟨p,xs,i,v,a,b,c,d,q⟩=>⟨p,xs,i,v,a,b,c,d,q⟩
theorem au:IxR X (rJ X.K):=Fn.as λ_ _ _ _ ⟨p,xs,i,v,a,b,c,d,q⟩=>⟨p,xs,i,v,a,b,c,d,q⟩
theorem jq(e:X.K=K):IxR X (rK K):=by
 subst e;exact aA
theorem jp(e:X.K=K):IxR X (rJ K):=by
 subst e;exact au
theorem bn:cL X (.builtin "len") (rH X.K):=GH.as λ_ _ _ ⟨p,ys,a,b,q⟩=>⟨p,ys,a,b,q⟩
theorem dS:cL X (.builtin "isinstance") (rL X.K):=GJ.as λ_ _ _ ⟨x,t,T,b,a,d,c,q⟩=>⟨x,t,T,b,a,d,c,q⟩
theorem Cw(e:X.K=K):cL X (.builtin "isinstance") (rL K):=by
 subst e;exact dS
theorem gc:cL X (.type "list") (rG X.K):=GG.as λ_ _ _ ⟨p,ys,a,b,q⟩=>⟨p,ys,a,b,q⟩
theorem Cu(e:X.K=K):cL X (.type "list") (rG K):=by
 subst e;exact gc
theorem cE:MtM X "list.append" wY:=λa s d H x xs v us Q I c g ⟨l,ys,y,b,f,h,e,q⟩=>Ex a s d H x xs v us Q I c g ⟨l,ys,y,b,f,h,e,q⟩
inductive rM(K:W.Frag)(f:Str)(x:V)(H:Hp)(Q:VK):Prop
 |mk (a C dx:Addr) (fs:List (Str×V)) (v:V) (h1:x=.ref a) (h2:H a=some (.ins C dx fs)) (h3:Cls K C) (h4:dP K C f) (h5:fs.lookup f=some v) (q:Q v H):rM K f x H Q
def rN(K:W.Frag)(ta:TE)(f:Str):TE:=λY H Q=>ta Y H λx H1=>rM K f x H1 Q
theorem CD(K:W.Frag)(j:TE)(f:Str):rN K j f=nA K j f:=by
 funext Y H Q
 unfold rN nA
 have:(λx c=>rM K f x c Q)=λx c=>∃a C b fs v,x=V.ref a/\c a=some (.ins C b fs)/\Cls K C/\dP K C f/\fs.lookup f=some v/\Q v c:=by
  funext x c
  exact propext ⟨λ⟨a,C,b,fs,v,d,h,i,g,e,q⟩=>⟨a,C,b,fs,v,d,h,i,g,e,q⟩,λ⟨a,C,b,fs,v,d,h,i,g,e,q⟩=>⟨a,C,b,fs,v,d,h,i,g,e,q⟩⟩
 rw[this]
theorem cP{f:Str}(a:PE X e ta)(hb:attributeBase e f X.env (eval e X.env)=eval e X.env):PE X (.Attribute e f pos) (rN X.K ta f):=by
 rw[CD];exact D9 a hb
def rD(t:TA):TE:=λY H Q=>t Y H λxs H1=>kh (xs.length<=sizeLine) (∀p,H1 p=none->Q (.ref p) (upd H1 p (.tup xs)))
def rF(t:TA):TE:=λY H Q=>t Y H λxs H1=>kh (xs.length<=sizeLine) (∀p,H1 p=none->Q (.ref p) (upd H1 p (.lst xs)))
theorem Cz(t:TA):rD t=nq t:=by
 funext Y H Q
 unfold rD nq;simp only[rO]
theorem CC(t:TA):rF t=nu t:=by
 funext Y H Q
 unfold rF nu;simp only[rO]
theorem bc{a}{es:LR}{t:TA}(h:PA X es t):PE X (.Tuple es a pos) (rD t):=by
 rw[Cz];exact D0 h
theorem ba{es:LR}{t:TA}(h:PA X es t):PE X (.List es pos) (rF t):=by
 rw[CC];exact D6 h
inductive rE(vs:LV)(H:Hp)(R:It->Hp->Prop):Prop
 |mk (j:Int) (h:vs=[.int j]) (h1:-(2 ^ 62)<=j) (h2:j<2 ^ 62) (q:R (Itr 0 j.toNat) H):rE vs H R
def sT(ta:TA):TI:=λY H R=>ta Y H λvs H1=>rE vs H1 R
theorem Fm(d:TA):sT d=sZ d:=by
 funext Y H R
 unfold sT sZ
 have:(λvs a=>rE vs a R)=λvs a=>∃j:Int,vs=[V.int j]/\-(2 ^ 62)<=j/\j<2 ^ 62/\R (Itr 0 j.toNat) a:=by
  funext vs a
  exact propext ⟨λ⟨j,h,b,c,q⟩=>⟨j,h,b,c,q⟩,λ⟨j,h,b,c,q⟩=>⟨j,h,b,c,q⟩⟩
 rw[this]
theorem gj{a:Expr}{b:TA}{p:Pos}(c:Gl X "range")(d:X.mg "range"=none)(ha:PA X [a] b)(hs:starEach [a] X.env=[(false,eval a X.env)]:=by rfl):PI X tg (.Call (.Name "range" p) [a] [] pos) (sT b):=by
 rw[Fm];exact CY c d ha hs
def qBM(K:W.Frag)(T:String)(r:V->LV->Hp->VK->Prop)(to:TE)(t:TA):TE:=λY H Q=>to Y H λx H1=>kh (tyV K T x H1) (t Y H1 λxs H2=>r x xs H2 Q)
theorem CF(K:W.Frag)(T:String)(r:V->LV->Hp->VK->Prop)(a:TE)(t:TA):qBM K T r a t=tBM K T r a t:=by
 funext Y H Q
 unfold qBM tBM;simp only[rO]
theorem bL{o:Expr}{es:LR}{g:TE}{t:TA}{T d:String}{r:V->LV->Hp->VK->Prop}(i:PlainAttrs T)(slot:Slot T name d)(h:typeOf (.builtin d)=pure (.type "method_descriptor"))(k:MtR X d r)(j:PE X o g)(ha:PA X (e::es) t)
 (b:attributeBase o name X.env (eval o X.env)=eval o X.env:=by rfl)
 (f:((backTo cpos (starEach (e::es) X.env)).all (λx=>!x.1) && (backToKw cpos (keywordEach [] X.env)).all (λx=>x.1.isSome)
  && decide ((e::es).length+([]:List Keyword).length+(if([]:List Keyword).isEmpty then 0 else 1)<30))=true:=by rfl)
 (c:(apos.endLine == cpos.line)=true:=by rfl) (hs:starEach (e::es) X.env=(false,eval e X.env)::starEach es X.env:=by rfl) (a:(backTo cpos (starEach es X.env)).any (·.1)=false:=by rfl):
 PE X (.Call (.Attribute o name apos) (e::es) [] cpos) (qBM X.K T r g t):=by
 rw[CF];exact De i slot h k j ha b f c hs a
theorem Fs{b:Bool}{Q:VK}{x y:Int}(c:Y[i]?=some (some (.int x)))(a:Y[j]?=some (some (.int y)))(h:Q (.int (if b=true then x else y)) H):if b=true then kg i Y H Q else kg j Y H Q:=by
 cases b
 .exact⟨_,a,h⟩
 .exact⟨_,c,h⟩
section
variable {k:Key}{z:V}{r:Value}
theorem cy.not_got{o:LC}(h:cy o none):o=none:=by
 cases o with
 |none=>rfl
 |some v=>exact h.elim
theorem cy.got{o:LC}(h:cy o (some u)):∃v,o=some v/\aE v u:=by
 cases o with
 |none=>exact h.elim
 |some v=>exact⟨v,U,h⟩
theorem Gi(I:Inv X pins Y H s)(e:H a=some (.dK kvs))(o:aE (kV k) u)(i:aE z r)(few:kvs.length<sizeLine)
 (j:∀v h s',aH kvs k=some v->Inv X pins Y H s'->aE v h->Q h s') (y:∀s',aH kvs k=none->Inv X pins Y (upd H a (.dK (aX kvs k z))) s'->Q r s'):
 wpAny (model X.prog X.w) A (call (.builtin "dict.setdefault") [.ref a,u,r]) Q E s:=by
 obtain⟨m,hd,vs,b,g⟩:=jI I.hok e;have p:vs.length<=sizeLine:=by rwa[<- b.length]
 have hl:(aX kvs k z).length<=sizeLine:=by have:=dF kvs k z;omega
 have c:=b.val k;refine call_meetsIn PySem.F.slot_dict_setdefault g.typeIs PySem.F.entry_dict_setdefault (PySem.F.args_dict_setdefault_3 _ _ _) (kt_meets_setdefault (d7 X.prog X.w) a (gR o) hd r) ⟨vs,g,p,λB f=>?_,λhn h' d hs=>?_⟩
 .rw[f]at c;obtain⟨v,x,n⟩:=cy.got c;exact j v B _ x (I.tok _) n
 .rw[hn]at c;have l:∃q,h'.get? a=some q:=let ⟨q,_,_,t,_⟩:=d;⟨q,t⟩;exact y _ (cy.not_got c) (mS I (by rw[e];exact True.intro) hs l (tF hl hd (b.put k i) d))
end
def Av(td ty tx:TE):TE:=λY H Q=>td Y H λx H1=>∃a,x=.ref a/\IsD H1 a/\ty Y H1 λy H2=>tx Y H2 λz F=>∃kvs k,F a=some (.dK kvs)/\y=kV k/\kvs.length<sizeLine /\
 (∀v,aH kvs k=some v->Q v F)/\(aH kvs k=none->Q z (upd F a (.dK (aX kvs k z))))
section
variable {o f:Expr}{td ty tx:TE}
theorem xj(r:PE X o td)(w:PE X e ty)(P:PE X f tx)(m:M2 X o "setdefault" apos e f cpos):PE X (.Call (.Attribute o "setdefault" apos) [e,f] [] cpos) (Av td ty tx):=by
 intro b s g H Q I h;refine wpAny_Call_method m.base m.few m.line PySem.F.plainAttrs_dict PySem.F.slot_dict_setdefault PySem.F.type_dict_setdefault (thn (r b s g H _ I h) λu N ⟨x,t,l,D,a,ex,d,J⟩=>?_);subst ex;obtain rfl:u=Value.ref a:=D;obtain⟨n,B,_⟩:=sV l d;exists n,B;rw[m.trees]
 refine Calls.callWith_builtin U (Calls.evalArgs_plain (Calls.spliced_cons (thn (w b N g t _ l J) λ_ R ⟨y,E,T,G,O⟩=>
  Calls.spliced_cons (thn (P b R g E _ T O) λ_ _ ⟨z,S,L,j,kvs,k,K,q,few,M,A⟩=>Calls.spliced_nil ?_))))
 subst q;exact Gi L K G j few (λv _ C V c i=>⟨v,S,c,i,M v V⟩) λC p c=>⟨z,_,c,j,A p⟩
end
theorem EL:typeLookup (.type "list") "keys"=pure none:=by rw[typeLookup_type,builtinLookup_eq_fast];kernel_rfl
theorem ET{k:Nat}{sl:Array LO}{Q:LO->Shared->Prop}(l:A.handled=none)(j:s.heap.get? a=some { cls:=.type "list",dict:=none,data:=.seq xs k,slots:=sl })
 (h:∀h' tk,(∀b o,s.heap.get? b=some o->h'.get? b=some o)->Q none { s with heap:=h',toks:=tk }):wpAny (model prog w) A (getAttr? (.ref a) "keys") Q E s:=by
 obtain⟨m,g,d,tk,os⟩:=s;have i:∀f,(⟨m,g,d,f,os⟩:Shared).TypeIs (.ref a) "list":=λ_=>⟨_,j,U⟩;have q:=sub_AttributeError;have n:=F.slot_list_getattribute.lookup;have r:=F.slot_list_getattribute.bind (.ref a);have p:=am_list_getattr_none;unfold getAttr? getAttrBy? getAttrBy
 repeat (any_goals (first|assumption|exact i _|((with_reducible show wpAny _ _ (call (Value.builtin "list.__getattribute__") _ _) _ _ _);refine call_meets F.slot_list_getattribute (i _) am_entry_list_getattribute (F.args_list_getattribute_2 _ _) (meets_getattribute_miss_list a xs k sl "keys" _ EL Yd) ⟨j,l,λh' f e c=>?_⟩)|wp_step))
 obtain⟨t',_,_⟩:=c.there;show wpAny _ _ (getattributeRaised _ _ _ _ _ _ _) _ _ _;unfold getattributeRaised
 repeat (any_goals (first|assumption|wp_step))
 exact h _ _ c.keeps
theorem lW:plainId "dict.update.loop"=true:=Yd
theorem yK:entryFor table "dict.update.loop"=some Builtin.«dict.update.loop»:=entryFor_of_fast (by kernel_rfl)
noncomputable def eT{K:Type}[DecidableEq K](ps:List (K×Value)):List (K×Value):=ps.foldl (λkvs p=>stored kvs p.1 p.2) []
theorem AK{K:Type}[DecidableEq K](ps:List (K×Value))(p:K×Value):eT (ps++[p])=stored (eT ps) p.1 p.2:=by
 unfold eT;rw[List.foldl_append]
 rfl
section
variable {R:Result->Shared->Prop}{K:Type} [DecidableEq K] {knd:KeyKind prog w K}
def kL(knd:KeyKind prog w K)(h:Heap)(items:LD)(ps:List (K×Value)):Prop:=
 items.size=ps.length/\∀(i:Nat)(p:K×Value),ps[i]?=some p->∃t key,items[i]?=some (.ref t)/\h.IsTuple t #[key,p.2]/\knd.is p.1 key=true
theorem kL.keep{ps:List (K×Value)}(x:kL knd h items ps)(e:∀t o,h.get? t=some o->o.cls=.type "tuple"->h'.get? t=some o):kL knd h' items ps:=
 ⟨x.1,λi p j=>let ⟨t,d,a,b,c⟩:=x.2 i p j;⟨t,d,a,(let ⟨o,g,f,r⟩:=b;⟨o,e t o g f,f,r⟩),c⟩⟩
theorem Gd{l d:Addr}{ps:List (K×Value)}{y:Value}(Z:A.handled=none)(I:it≠l)(p:it≠d)(P:l≠d)(few:ps.length<=sizeLine)
 (v:∀qs,qs.length<=ps.length->(eT (qs:List (K×Value))).length<=qs.length):
 ∀(m i:Nat)(s:Shared)(tk:Tok),ps.length-i=m->i<=ps.length->s.heap.IsListIter it l i->s.heap.IsList l items->s.heap.DictOf knd d (eT (ps.take i))->kL knd s.heap items ps->
 (∀h' k,(∀b o,b≠it->b≠d->s.heap.get? b=some o->h'.get? b=some o)->h'.DictOf knd d (eT ps)->R (.ok (.ret y)) { s with heap:=h',toks:=k })->
 codeAny (model prog w) A (.builtin "dict.update.loop" ⟨[.ref d,.ref it,.int i tk,y],[]⟩) R s:=by
 intro m
 induction m with
 |zero=>
  intro i s tk W hi c hl hd x H;have e:i=ps.length:=Yo;subst e;rw[qP]at hd;refine codeAny_builtin yK ?_;rw[Around.under_plainId lW _];show wpAny _ A.in1 (pyNext (.ref it) >>= _) _ _ s;refine qb (wpAny_pyNext_list_end (by simpa using Z) c hl (Array.getElem?_eq_none (by rw[x.1];exact qo _)) λh' ex=>?_);show wpAny _ _ (Builtin.Dict.addKeywords d [] >>= _) _ _ _;refine qb (qk (qk (H h' s.toks (λb o nb _ q=>ex b o nb q) ?_)));obtain⟨o,es,ep,T,r⟩:=hd;exact⟨o,es,ep,ex d o (Ne.symm p) T,r⟩
 |succ m X=>
  intro i s tk W hi c hl hd x H;have lt:i<ps.length:=Yo;obtain⟨t,_,V,Q,e3⟩:=x.2 i ps[i] (qi lt);refine codeAny_builtin yK ?_;rw[Around.under_plainId lW _];show wpAny _ A.in1 (pyNext (.ref it) >>= _) _ _ s;refine qb (wpAny_pyNext_list_item c hl V λB D f=>?_);obtain⟨X0,n,j,_,J⟩:=Q
  have G:t≠it:=λz=>by
   obtain⟨S,a,h,_⟩:=c;rw[z,a]at n;cases n;rw[h]at j;exact Qd (Value.type.inj j) Yk
  have u:B.get? t=some X0:=(f.2 t G).trans n;have N:B.DictOf knd d (eT (ps.take i)):=hd.sameBut f (Ne.symm p);refine qb (QD (qb (wpAny_tryCatch ?_)));unfold Builtin.Dict.pairItems;refine qb (wpAny_typeOf_ref u ?_);rw[j];refine qb (QE u J (qk ?_));refine QD (wpAny_dictSet_pairs e3 N (λC O g=>?_) ?_)
  .refine qk ⟨plainId_quiet lW _,X (i+1) { s with heap:=C,toks:=s.toks+1 } 0 Yo Yo ?_ ?_ ?_ ?_ λh' k kp dd=>H h' k (λb o n1 n2 q=>kp b o n1 n2 ((g.2 b n2).trans ((f.2 b n1).trans q))) dd⟩
   .obtain⟨o,a,r⟩:=D;exact⟨o,(g.2 it p).trans a,r⟩
   .obtain⟨o,a,r⟩:=hl;exact⟨o,(g.2 l P).trans ((f.2 l (Ne.symm I)).trans a),r⟩
   .rw[qA,qi lt];show C.DictOf knd d (eT (ps.take i++[ps[i]]));rw[AK];exact O
   .refine x.keep λb o a h=>?_
    have M:b≠it:=λz=>by
     obtain⟨S,F,E,_⟩:=c;rw[z,F]at a;cases a;rw[E]at h;exact Qd (Value.type.inj h) Yk
    have L:b≠d:=λz=>by
     obtain⟨od,F,E⟩:=(show s.TypeIs (.ref d) "dict" from hd.typeIs);rw[z,F]at a;cases a;rw[E]at h;exact Qd (Value.type.inj h) Yk
    exact(g.2 b L).trans ((f.2 b M).trans a)
  .have B:=v (ps.take i) (by rw[qS];omega);have C:(ps.take i).length<=ps.length:=by rw[qS];omega
   omega
end
section
variable {K:Type} [DecidableEq K] {knd:KeyKind prog w K}
theorem Gc{l:Addr}{k:Nat}{sl:Array LO}{ps:List (K×Value)}(n:A.handled=none)(hl:s.heap.get? l=some { cls:=.type "list",dict:=none,data:=.seq xs k,slots:=sl })(y:kL knd s.heap xs ps)(few:ps.length<=sizeLine)
 (g:∀qs,qs.length<=ps.length->(eT (qs:List (K×Value))).length<=qs.length)
 (h:∀h' tk,(∀b o,s.heap.get? b=some o->h'.get? b=some o)->h'.DictOf knd s.heap.objs.size (eT ps)->Q (.ref s.heap.objs.size) { s with heap:=h',toks:=tk }):
 wpAny (model prog w) A (call (.type "dict") [.ref l]) Q E s:=by
 refine callType_codes (Q₁:=λobj d=>obj=.ref s.heap.objs.size/\d={ s with heap:=s.heap.push { cls:=.type "dict",data:=.dict #[] } }) PySem.F.kt_called_dict (PySem.F.kt_typeCall_dict_1 _) PySem.F.entry_dict_init (kt_code_dict_new _ ⟨U,U⟩) ?_;rintro obj d ⟨rfl,rfl⟩;have a:(s.heap.push { cls:=.type "dict",data:=.dict #[] }).DictOf knd s.heap.objs.size []:=Heap.DictOf.new s.heap;exists a.typeIs,PySem.F.args_dict_init_2 _ _;unfold Builtin.«dict.__init__»;refine qb ?_;unfold Builtin.Dict.selfAndRest;refine qb (wpAny_notOrdered_dict a.typeIs ?_);show wpAny _ _ (pure (s.heap.objs.size,[Value.ref l])) _ _ _;refine qk ?_;show wpAny _ _ (Builtin.Dict.updateFrom "dict.__init__" s.heap.objs.size (.ref l) [] .none) _ _ _;unfold Builtin.Dict.updateFrom;have f:(s.heap.push { cls:=.type "dict",data:=.dict #[] }).get? l=some { cls:=.type "list",dict:=none,data:=.seq xs k,slots:=sl }:=qf _ hl;refine qb (wpAny_typeOf_ref f ?_);rw[Qa (show((Value.type "list":Value) != Value.type "dict")=true by decide)];refine qb (ET (by simpa using n) f λj _ c=>?_);rw[Qa (show(none:LO).isNone=true from rfl)];refine qb (wpAny_rule ?_);have e:=c _ _ f
 have i:j.DictOf knd s.heap.objs.size []:=by
  obtain⟨o,es,ep,m,r⟩:=a;exact⟨o,es,ep,c _ _ m,r⟩
 refine qb (wpAny_pyIter_list (items:=xs) ⟨_,e,U,_,U⟩ ?_);have x:l≠s.heap.objs.size:=λz=>Qd (qz hl) (by rw[z];exact Qk _)
 have sz:s.heap.objs.size<j.objs.size:=by
  obtain⟨o,_,_,m,_⟩:=i;exact qz m
 have p:j.objs.size≠l:=λz=>Qd (qz e) (by rw[<- z];exact Qk _);refine qk ⟨plainId_quiet lW _,Gd (knd:=knd) (items:=xs) (ps:=ps) (by simpa using n) p (Nat.ne_of_gt sz) x few g ps.length 0 _ 0 (Nat.sub_zero _) (qC _) ?_ ?_ ?_ ?_ λh' u kp v=>?_⟩
 .exact⟨_,qy _ U,U,U⟩
 .exact⟨_,qf _ e,U,_,U⟩
 .exact i.push _
 .exact(y.keep λt o q _=>c _ _ (qf _ q)).keep λt o q _=>qf _ q
 .refine⟨U,h h' u (λb o q=>?_) v⟩;have lt:=qz q;exact kp b o (qO (Nat.lt_trans lt sz)) (qO lt) (qf _ (c _ _ (qf _ q)))
end
noncomputable def cZ(ps:LN):LN:=ps.foldl (λkvs p=>aX kvs p.1 p.2) []
theorem CI(ps:LN):(cZ ps).length<=ps.length:=by
 have:∀(ps kvs:LN),(ps.foldl (λkvs p=>aX kvs p.1 p.2) kvs).length<=kvs.length+ps.length:=by
  intro ps
  induction ps with
  |nil=>intro kvs;simp
  |cons p r a=>
   intro kvs;have b:=a (aX kvs p.1 p.2);have c:=dF kvs p.1 p.2;rw[QH,qJ];omega
 have:=this ps [];simpa[cZ]using this
theorem AI{K:Type}[DecidableEq K](kvs:List (K×Value))(k:K)(v:Value):(stored kvs k v).length<=kvs.length+1:=by
 unfold stored;split<;>simp
theorem AL{K:Type}[DecidableEq K](qs:List (K×Value)):(eT qs).length<=qs.length:=by
 have:∀(ps kvs:List (K×Value)),(ps.foldl (λkvs p=>stored kvs p.1 p.2) kvs).length<=kvs.length+ps.length:=by
  intro ps
  induction ps with
  |nil=>intro kvs;simp
  |cons p r a=>
   intro kvs;have b:=a (stored kvs p.1 p.2);have c:=AI kvs p.1 p.2;rw[QH,qJ];omega
 have:=this qs [];simpa[eT]using this
def Cq(K:W.Frag):LV->Hp->VK->Prop:=λvs H Q=>∃l us ps,vs=[.ref l]/\H l=some (.lst us)/\us.length=ps.length/\ps.length<=sizeLine/\(∀(i:Nat)(p:Key×V),ps[i]?=some p->∃t,us[i]?=some (.ref t)/\H t=some (.tup [kV p.1,p.2]))/\∀d,H d=none->Q (.ref d) (upd H d (.dK (cZ ps)))
theorem xq{h:Heap}(ok:HOk X.prog X.w H h):∀(us:LV)(its:LL)(ps:LN),aB us its->us.length=ps.length->(∀(i:Nat)(p:Key×V),ps[i]?=some p->∃t,us[i]?=some (.ref t)/\H t=some (.tup [kV p.1,p.2]))->
 ∃qs:List (Key×Value),KV ps qs/\its.length=qs.length/\∀(i:Nat)(q:Key×Value),qs[i]?=some q->∃t key,its[i]?=some (.ref t)/\h.IsTuple t #[key,q.2]/\(d7 X.prog X.w).is q.1 key=true
 |[],_,[],.nil,_,_=>⟨[],.nil,U,λi q c=>by simp at c⟩
 |u::us,_,[],_,hl,_=>by simp at hl
 |[],_,p::ps,_,hl,_=>by simp at hl
 |u::us,_,p::ps,@Paired.cons _ _ _ _ y _ ys rx r,hl,hp=>by
  obtain⟨t,v,g⟩:=hp 0 p U;obtain rfl:u=.ref t:=by simpa using v
  obtain⟨qs,m,ln,c⟩:=xq ok us ys ps r (by simpa using hl) λi j h'=>by
   obtain⟨t',a,b⟩:=hp (i+1) j (by simpa using h');exact⟨t',by simpa using a,b⟩
  obtain⟨_,_,s,o,f,x,n,A⟩:=(show bJ X.prog X.w H h t (.tup [kV p.1,p.2])from ok t _ g);obtain⟨z,d,rfl,k,l⟩:=jQ s;cases rx;refine⟨(p.1,d)::qs,.cons ⟨U,l⟩ m,by simp[ln],λi q h'=>?_⟩
  cases i with
  |zero=>
   have e:(p.1,d)=q:=by simpa using h'
   subst e;exact⟨t,z,U,⟨o,f,x,n,A⟩,gR k⟩
  |succ i=>exact c i q (by simpa using h')
theorem KV.all:∀{ps:LN}{qs:List (Key×Value)},KV ps qs->KV (cZ ps) (eT qs):=by
 have:∀{ps:LN}{qs:List (Key×Value)},KV ps qs->∀{a:LN}{b:List (Key×Value)},KV a b->KV (ps.foldl (λkvs p=>aX kvs p.1 p.2) a) (qs.foldl (λkvs p=>stored kvs p.1 p.2) b):=by
  intro ps qs h
  induction h with
  |nil=>intro a b h;exact h
  |cons c _ f=>
   intro a b h;obtain⟨e,d⟩:=c;rw[QH,QH,<- e];exact f (h.put _ d)
 intro ps qs h;exact this h .nil
theorem tQ(hc:X.calm=true):cL X (.type "dict") (Cq X.K):=by
 intro _ s _ H xs us Q I r h;obtain⟨l,ys,ps,rfl,hl,ln,few,d,q⟩:=h;obtain⟨u,rfl,m⟩:=fX r;cases m;obtain⟨_,j,_,n,e⟩:=(show bJ X.prog X.w H s.heap l (.lst ys)from I.hok l _ hl);obtain⟨qs,g,f,v⟩:=xq I.hok ys j ps n ln d;have x:=g.length;refine Gc (knd:=d7 X.prog X.w) (ps:=qs) (I.ok.hd hc) e ⟨by simpa using f,λi p d=>?_⟩ Yo (λqs _=>AL qs) λh' tk kp o=>?_
 .obtain⟨t,k,a,b,c⟩:=v i p d;exact⟨t,k,by simpa using a,b,c⟩
 .have len:=CI ps;refine⟨.ref s.heap.objs.size,_,I.laid (t':=tk) kp (qo _) (tF Yo ?_ g.all o),U,q _ (I.hok.fresh (qo _))⟩;exact(yO s.heap I.big:bJ X.prog X.w H _ s.heap.objs.size (.dK [])).2.1
end L2
namespace Tr
open PySem PySem.Spec PyProof.Rows L2
noncomputable abbrev sl(x:Str):LG:=x.cps.toList
theorem iC(x y:Str):sl (x++y)=sl x++sl y:=by
 show(x.cps++y.cps).toList=_;simp
theorem B2(x:Str):x.length=(sl x).length:=U
theorem nU(x:Str)(l u:Option Int):sl (Txt.slice x l u)=((sl x).drop (HT.sIx x.length 0 l)).take (HT.sIx x.length x.length u-HT.sIx x.length 0 l):=by
 have e:Builtin.Str.strSliceIndices l u 1 x.length=(List.range (HT.sIx x.length x.length u-HT.sIx x.length 0 l)).map (HT.sIx x.length 0 l+·):=by
  rw[<- sliceRange_one];unfold Builtin.Str.strSliceIndices;simp only[show(1:Int) > 0 by decide,if_true]
  congr 1
  .cases l with
   |none=>rfl
   |some i=>
    simp only[HT.sIx];split<;>omega
  .cases u with
   |none=>rfl
   |some i=>
    simp only[HT.sIx];split<;>omega
 unfold Txt.slice;rw[e];split
 .rename_i h;simp only[qc,Qm,Bool.and_eq_true,beq_iff_eq]at h;have c:=HT.sIx_le x.length x.length (qo _) u;by_cases z:x.length=0
  .have:sl x=[]:=List.length_eq_zero_iff.mp z;rw[this];simp
  .have b:HT.sIx x.length 0 l=0:=by omega
   have a:HT.sIx x.length x.length u=x.length:=Yo;rw[b,a];simp only[List.drop_zero,Nat.sub_zero];exact(qP).symm
 .show(((List.range _).map _).filterMap (x.cps[·]?)).toArray.toList=_;rw[pick_run]
theorem nS{k:Int}(h:0<=k):sl (Txt.slice x none (some k))=(sl x).take k.toNat:=by
 obtain⟨n,rfl⟩:=Int.eq_ofNat_of_zero_le h;rw[nU];simp only[HT.sIx_none,List.drop_zero,Nat.sub_zero];rw[show(some (n:Int))=some ((n:Nat):Int)from rfl,HT.sIx_nat];show _=(sl x).take n;rw[List.take_eq_take_iff];show min (min n (sl x).length) _=_;omega
theorem kG{j:Int}(a:0<=j)(b:j<26):cu j=97+j.toNat:=by
 obtain⟨n,rfl⟩:=Int.eq_ofNat_of_zero_le a;have all:∀n:_root_.Fin 26,df.cps.toList.getD n.1 0=97+n.1:=Yd;exact all ⟨n,Yo⟩
theorem Fb:∀w∈kws,sl w=(sl w).dropLast++[(sl w).getLastD 97]/\2<=(sl w).length:=Yd
theorem wj(w:Str):sl (cW w)=sl w\/(2<=(sl w).length/\sl (cW w)=(sl w).dropLast++[cu ((iR w+13) % 26)]):=by
 unfold cW;split
 .rename_i h;obtain⟨e,a⟩:=Fb w h;refine .inr ⟨a,?_⟩;rw[iC,nU];simp only[HT.sIx_none,List.drop_zero,Nat.sub_zero]
  have:HT.sIx w.length w.length (some (-1))=(sl w).length-1:=by
   simp only[HT.sIx,show((-1:Int)<0)by decide,if_true];rw[B2];omega
  rw[this,List.dropLast_eq_take]
  rfl
 .exact .inl U
theorem AW(w:Str):(sl (cW w)).length=(sl w).length:=by
 rcases wj w with h|⟨_,h⟩
 .rw[h]
 .rw[h,qh,QI,Qf];omega
theorem kW{w:Str}{p:Nat}{m:Int}(b:0<=m)(c:m<26)(e:(sl w)[p]?=some (cu m)):(sl (cW w))[p]?=some (cu m)\/(sl (cW w))[p]?=some (cu ((m+13) % 26)):=by
 rcases wj w with h|⟨hl,h⟩
 .rw[h];exact .inl e
 .obtain⟨_,ep⟩:=qp.mp e;rw[h];by_cases q:p=(sl w).length-1
  .refine .inr ?_
   have a:(sl w).getLastD 97=cu m:=by
    rw[<- ep,List.getLastD_eq_getLast?,List.getLast?_eq_getElem?,<- q,e,<- ep]
    rfl
   have:iR w=m:=by
    unfold iR;show(((sl w).getLastD 97:Nat):Int)-97=m;rw[a,kG b c];omega
   rw[this,qT (by rw[QI];omega),QI,show p-((sl w).length-1)=0 by omega]
   rfl
  .refine .inl ?_;rw[Qe (by rw[QI];omega),List.getElem?_dropLast,Qa Yo];exact e
theorem apart{q i j:Int}(h:0<=i/\i<13)(f:0<=j/\j<13)(ne:i≠j){a b:Nat}(ha:a=cu ((q+i) % 26)\/a=cu (((q+i) % 26+13) % 26))(hb:b=cu ((q+j) % 26)\/b=cu (((q+j) % 26+13) % 26)):a≠b:=by
 intro e;have c:=kG (j:=(q+i) % 26) Yo Yo;have g:=kG (j:=((q+i) % 26+13) % 26) Yo Yo;have d:=kG (j:=(q+j) % 26) Yo Yo;have k:=kG (j:=((q+j) % 26+13) % 26) Yo Yo;rcases ha with rfl|rfl<;>rcases hb with rfl|rfl<;>omega
theorem ye(n:Int):∀k,(sl (cJ n k)).length=k
 |0=>rfl
 |k+1=>by rw[cJ,iC,qh,ye n k];rfl
theorem CS(c:Int)(g:i<8)(f:j<8)(ne:i≠j):cW (ci c i)≠cW (ci c j):=by
 intro e;have a:=congrArg sl e;have b:∀k:Nat,sl (fq c k)=[cu ((aG c 1 / 192+k) % 26)]:=λ_=>U;have bl:(sl (ca c)).length=8:=ye _ 8;by_cases h0:aG c 1 % 3=0
 .have h:1<=eZ c/\eZ c<=8:=by unfold eZ;omega
  have d:0<=dD c/\dD c<eZ c:=by
   unfold dD;exact⟨Qi _ Yo,Qn _ Yo⟩
  have at_:∀k:Nat,(sl (ci c k))[(dD c).toNat]?=some (cu ((aG c 1 / 192+k) % 26)):=λk=>by
   unfold ci;rw[Qa h0,iC,iC,nS d.1,b,qV,qT (by rw[qS];omega),qS,bl,show(dD c).toNat-min (dD c).toNat 8=0 by omega]
   rfl
  have x:=kW Yo Yo (at_ i);have y:=kW Yo Yo (at_ j);rw[<- a]at y;rcases x with x|x<;>rcases y with y|y<;>rw[x]at y<;>refine apart (q:=aG c 1 / 192) (i:=i) (j:=j) Yo Yo Yo ?_ ?_ (qR y)<;>simp
 .by_cases h1:aG c 1 % 3=1
  .have ln:∀k:Nat,((sl (cW (ci c k))).length:Int)=1+(aG c 1 / 24+k) % 8:=λk=>by
    rw[AW];unfold ci;rw[Q9 h0,Qa h1,nS Yo,qS,bl];omega
   have x:=ln i;have y:=ln j;rw[a]at x;omega
  .have at_:∀k:Nat,(sl (ci c k))[0]?=some (cu ((aG c 1 / 192+k) % 26)):=λk=>by
    unfold ci;rw[Q9 h0,Q9 h1,nS Yo,iC,b,List.getElem?_take,Qa Yo]
    rfl
   have x:=kW Yo Yo (at_ i);have y:=kW Yo Yo (at_ j);rw[<- a]at y;rcases x with x|x<;>rcases y with y|y<;>rw[x]at y<;>refine apart (q:=aG c 1 / 192) (i:=i) (j:=j) Yo Yo Yo ?_ ?_ (qR y)<;>simp
theorem CQ(c:Int)(h:n<=8):(cO c n).Nodup:=by
 have d:(dU c n).Nodup:=by
  unfold dU;refine List.pairwise_map.mpr (List.Pairwise.imp_of_mem (λ{a b} ha hb lt=>?_) (List.pairwise_lt_range (n:=n)));have e:=List.mem_range.mp hb;exact CS c Yo Yo Yo
 unfold cO;split
 .exact List.pairwise_reverse.mpr (List.Pairwise.imp (λh=>Ne.symm h) d)
 .exact d
end Tr
namespace L2
open PySem PySem.Spec PyProof.Rows
theorem m5:OpR X (compareOp .In) (λx y H Q=>∃a kvs k,y=.ref a/\H a=some (.dK kvs)/\x=kV k/\Q (.bl (aH kvs k).isSome) H):=by
 intro _ s _ H x y v u Q I c d h;obtain⟨a,kvs,k,rfl,hd,rfl,q⟩:=h;cases d;obtain⟨_,ne,vs,b,e⟩:=jI I.hok hd;refine wpAny_in_of (gR c) ne e.mapOf ⟨.bl _,H,I.tok _,?_,q⟩;rw[<- (b.val k).isSome_eq]
 rfl
theorem Fp:IxR X (λx y H Q=>∃a kvs k v,x=.ref a/\H a=some (.dK kvs)/\y=kV k/\aH kvs k=some v/\Q v H):=by
 intro _ slice _ s _ H x y v u Q I f g h hs;obtain⟨a,kvs,k,z,rfl,hd,rfl,e,q⟩:=h;cases f;obtain⟨_,ne,vs,c,d⟩:=jI I.hok hd;obtain⟨_,hw,b⟩:=cy.some_of (v:=z) (o:=valueAt vs k) (by rw[<- e];exact c.val k);exact tail_any d.typeIs PySem.F.slot_dict_getitem.lookup (wpAny_getItem_of (gR g) d.mapOf hw ⟨z,H,I.tok _,b,q⟩) hs
end L2
namespace Tr
open PySem PySem.Spec PyProof.Rows L2
abbrev Wat:=Int×Str×Str
noncomputable abbrev eF(e:Wat):HO:=.tup [.int e.1,.str e.2.1,.str e.2.2]
inductive RWs(H:Hp):LV->List Wat->Prop
 |nil:RWs H [] []
 |cons {p:Addr}{vs:LV}{e:Wat}{es:List Wat}:H p=some (eF e)->RWs H vs es->RWs H (.ref p::vs) (e::es)
theorem RWs.same{H H':Hp}(s:a9 H H'):∀{vs:LV}{es:List Wat},RWs H vs es->RWs H' vs es
 |_,_,.nil=>.nil
 |_,_,.cons h r=>.cons (s _ _ h) (RWs.same s r)
theorem RWs.snoc{H:Hp}{p:Addr}{e:Wat}(h:H p=some (eF e)):∀{vs:LV}{es:List Wat},RWs H vs es->RWs H (vs++[.ref p]) (es++[e])
 |_,_,.nil=>.cons h .nil
 |_,_,.cons h' r=>.cons h' (RWs.snoc h r)
theorem RWs.app{H:Hp}{us:LV}{fs:List Wat}(h:RWs H us fs):∀{vs:LV}{es:List Wat},RWs H vs es->RWs H (vs++us) (es++fs)
 |_,_,.nil=>h
 |_,_,.cons h' r=>.cons h' (RWs.app h r)
theorem RWs.len{H:Hp}:∀{vs:LV}{es:List Wat},RWs H vs es->vs.length=es.length
 |_,_,.nil=>rfl
 |_,_,.cons _ t=>congrArg (·+1) (RWs.len t)
theorem RWs.off{H:Hp}{c:Addr}{xs:LV}{o:HO}(hc:H c=some (.lst xs)):∀{vs:LV}{es:List Wat},RWs H vs es->RWs (upd H c o) vs es
 |_,_,.nil=>.nil
 |_,_,.cons (p:=p) h r=>.cons (by rw[af (λz=>by rw[z,hc]at h;cases h)];exact h) (RWs.off hc r)
noncomputable def du(ow:Str->Option Int)(J:Str)(F:LS):List Wat:=F.filterMap λc=>(ow c).map λn=>(n,J,c)
theorem GK(ow:Str->Option Int)(a c:Str)(b:LS):du ow a (b++[c])=du ow a b++((ow c).map λn=>(n,a,c)).toList:=by
 unfold du;rw[List.filterMap_append,List.filterMap_cons,List.filterMap_nil];cases ow c<;>rfl
theorem iZ(ow:Str->Option Int)(b:Str)(a:LS):(du ow b a).length<=a.length:=List.length_filterMap_le _ _
def jM(kvs:LN)(ow:Str->Option Int):Prop:=∀c:Str,aH kvs (.inr c)=(ow c).map V.int
inductive RWL(H:Hp):LV->List (List Wat)->Prop
 |nil:RWL H [] []
 |cons {p:Addr}{us vs:LV}{es:List Wat}{ws:List (List Wat)}:H p=some (.lst us)->RWs H us es->RWL H vs ws->RWL H (.ref p::vs) (es::ws)
theorem RWL.same{H H':Hp}(s:a9 H H'):∀{vs:LV}{a:List (List Wat)},RWL H vs a->RWL H' vs a
 |_,_,.nil=>.nil
 |_,_,.cons h h' r=>.cons (s _ _ h) (h'.same s) (RWL.same s r)
theorem RWL.snoc{H:Hp}{p:Addr}{us:LV}{es:List Wat}(h:H p=some (.lst us))(h':RWs H us es):∀{vs:LV}{c:List (List Wat)},RWL H vs c->RWL H (vs++[.ref p]) (c++[es])
 |_,_,.nil=>.cons h h' .nil
 |_,_,.cons a b r=>.cons a b (RWL.snoc h h' r)
theorem RWL.len{H:Hp}:∀{vs:LV}{a:List (List Wat)},RWL H vs a->vs.length=a.length
 |_,_,.nil=>rfl
 |_,_,.cons _ _ t=>congrArg (·+1) (RWL.len t)
noncomputable def bO(rs:List Row)(c:Str):Option Int:=rs.zipIdx.foldl (λo p=>if c∈p.1.owns then some (p.2:Int)else o) none
theorem yo(rs:List Row)(r:Row)(c:Str):bO (rs++[r]) c=if c∈r.owns then some (rs.length:Int)else bO rs c:=by
 unfold bO;rw[List.zipIdx_append,List.foldl_append];simp
noncomputable def dr(rs:List Row)(r:Row):List Wat:=du (bO rs) "card" r.owns++du (bO rs) "copy" r.reads
noncomputable def bH(rs:List Row):Nat->List (List Wat)
 |0=>[]
 |i+1=>bH rs i++((rs[i]?).map λr=>dr (rs.take i) r).toList
theorem RWL.off{H:Hp}{c:Addr}{xs:LV}{o:HO}(hc:H c=some (.lst xs)):∀{vs:LV}{a:List (List Wat)},RWL H vs a->(∀v∈vs,v≠.ref c)->RWL (upd H c o) vs a
 |_,_,.nil,_=>.nil
 |_,_,.cons (p:=p) h h' r,ne=>.cons (by rw[af (λz=>ne (.ref p) qw (by rw[z]))];exact h) (h'.off hc) (RWL.off hc r λv b=>ne v (qv _ b))
theorem RWs.offD{H:Hp}{c:Addr}{kvs:LN}{o:HO}(hc:H c=some (.dK kvs)):∀{vs:LV}{es:List Wat},RWs H vs es->RWs (upd H c o) vs es
 |_,_,.nil=>.nil
 |_,_,.cons (p:=p) h r=>.cons (by rw[af (λz=>by rw[z,hc]at h;cases h)];exact h) (RWs.offD hc r)
theorem RWL.offD{H:Hp}{c:Addr}{kvs:LN}{o:HO}(hc:H c=some (.dK kvs)):∀{vs:LV}{a:List (List Wat)},RWL H vs a->RWL (upd H c o) vs a
 |_,_,.nil=>.nil
 |_,_,.cons (p:=p) h h' r=>.cons (by rw[af (λz=>by rw[z,hc]at h;cases h)];exact h) (h'.offD hc) (RWL.offD hc r)
theorem j1(rs:List Row):∀i,i<=rs.length->(bH rs i).length=i
 |0,_=>rfl
 |i+1,h=>by rw[bH,qh,j1 rs i Yo,qi Yo];rfl
noncomputable def kq(ow:Str->Option Int)(n:Int)(F:LS):Str->Option Int:=λc=>if c∈F then some n else ow c
theorem jM.put{ow:Str->Option Int}{n:Int}{a:LS}(h:jM kvs (kq ow n a)):jM (aX kvs (.inr c) (.int n)) (kq ow n (a++[c])):=λq=>by
 rw[d9];unfold kq;by_cases e:q=c
 .subst e;rw[Qa U,Qa (by simp)]
  rfl
 .rw[Q9 (λz=>e (Sum.inr.inj z)),h q];unfold kq;by_cases m:q∈a
  .rw[Qa m,Qa (by simp[m])]
  .rw[Q9 m,Q9 (by simp[m,e])]
noncomputable def ap(f:Row->Option Str)(rs:List Row)(q:Str):LI:=rs.zipIdx.filterMap λp=>if f p.1=some q then some (p.2:Int)else none
theorem m7(f:Row->Option Str)(rs:List Row)(r:Row)(q:Str):ap f (rs++[r]) q=ap f rs q++(if f r=some q then[(rs.length:Int)]else[]):=by
 unfold ap;rw[List.zipIdx_append,List.filterMap_append]
 congr 1
 by_cases h:f r=some q<;>simp[h]
theorem xS(f:Row->Option Str)(rs:List Row)(q:Str):(ap f rs q).length<=rs.length:=by
 unfold ap;refine qH (List.length_filterMap_le _ _) ?_;rw[List.length_zipIdx];exact qo _
structure RN(H:Hp)(kvs:LN)(m:Str->LI):Prop where
 at_:∀q:Str,(aH kvs (.inr q)=none/\m q=[])\/∃p,aH kvs (.inr q)=some (.ref p)/\H p=some (.lst ((m q).map V.int))
 one:∀(q q':Str)(p:Addr),aH kvs (.inr q)=some (.ref p)->aH kvs (.inr q')=some (.ref p)->q=q'
theorem RN.same{m:Str->LI}(s:a9 H H')(h:RN H kvs m):RN H' kvs m:=
 ⟨λq=>(h.at_ q).imp id λ⟨p,a,b⟩=>⟨p,a,s _ _ b⟩,h.one⟩
theorem RN.eq{m:Str->LI}(h:RN H kvs m)(e:∀q,m' q=m q):RN H kvs m':=
 ⟨λq=>by rw[e q];exact h.at_ q,h.one⟩
theorem RN.old{m:Str->LI}{q:Str}{p:Addr}{n:Int}(h:RN H kvs m)(c:aH kvs (.inr q)=some (.ref p))(e:m' q=m q++[n])(f:∀q',q'≠q->m' q'=m q'):RN (upd H p (.lst ((m q).map V.int++[.int n]))) kvs m':=by
 refine⟨λq'=>?_,h.one⟩;by_cases z:q'=q
 .subst z;refine .inr ⟨p,c,?_⟩;rw[ah,e,qW]
  rfl
 .rw[f q' z];rcases h.at_ q' with a|⟨d,a,b⟩
  .exact .inl a
  .refine .inr ⟨d,a,?_⟩;rw[af (λy=>z (h.one q' q p (by rw[a,y]) c))];exact b
theorem RN.new{m:Str->LI}{q:Str}{d l:Addr}{n:Int}{o:HO}(h:RN H kvs m)(hd:H d=some (.dK kvs))(hl:H l=none)(t:aH kvs (.inr q)=none)(e:m' q=[n])(k:∀q',q'≠q->m' q'=m q'):RN (upd (upd (upd H l o) d (.dK (aX kvs (.inr q) (.ref l)))) l (.lst [.int n])) (aX kvs (.inr q) (.ref l)) m':=by
 have val:∀q':Str,aH (aX kvs (.inr q) (.ref l)) (.inr q')=if q'=q then some (.ref l)else aH kvs (.inr q'):=λq'=>by
  rw[d9];by_cases z:q'=q
  .rw[Qa z,Qa (by rw[z])]
  .rw[Q9 z,Q9 (λy=>z (Sum.inr.inj y))]
 have old:∀(q':Str)(p:Addr),aH kvs (.inr q')=some (.ref p)->p≠l:=λq' p i z=>by
  rcases h.at_ q' with⟨a,_⟩|⟨g,a,b⟩
  .rw[a]at i;cases i
  .rw[a]at i;cases i;rw[z,hl]at b;cases b
 refine⟨λq'=>?_,λr s p c f=>?_⟩
 .rw[val];by_cases z:q'=q
  .rw[Qa z,z,e];exact .inr ⟨l,U,ah⟩
  .rw[Q9 z,k q' z];rcases h.at_ q' with a|⟨g,a,b⟩
   .exact .inl a
   .refine .inr ⟨g,a,?_⟩;have j:=old q' g a;have nd:g≠d:=λy=>by rw[y,hd]at b;cases b
    rwa[af j,af nd,af j]
 .rw[val]at c f;by_cases z1:r=q<;>by_cases z2:s=q
  .rw[z1,z2]
  .rw[Qa z1]at c;rw[Q9 z2]at f;cases c;exact Qd U (old _ _ f)
  .rw[Q9 z1]at c;rw[Qa z2]at f;cases f;exact Qd U (old _ _ c)
  .rw[Q9 z1]at c;rw[Q9 z2]at f;exact h.one _ _ _ c f
noncomputable def gx(W:List (List Wat))(i:Nat)(e:Wat):List (List Wat):=W.modify i (·++[e])
theorem u9(W:List (List Wat))(i:Nat)(e:Wat):(gx W i e).length=W.length:=List.length_modify ..
theorem n5(W:List (List Wat))(i j:Nat)(e:Wat):(gx W i e)[j]?=(W[j]?).map λes=>if i=j then es++[e]else es:=by
 unfold gx;rw[List.getElem?_modify];by_cases h:i=j
 .simp[h]
 .simp[h]
structure RWM(H:Hp)(as:LK)(W:List (List Wat)):Prop where
 nd:as.Nodup
 len:as.length=W.length
 at_:∀(i:Nat)(p:Addr)(es:List Wat),as[i]?=some p->W[i]?=some es->∃us,H p=some (.lst us)/\RWs H us es
theorem RWM.same{H H':Hp}{as:LK}{W:List (List Wat)}(s:a9 H H')(h:RWM H as W):RWM H' as W:=
 ⟨h.nd,h.len,λi p es a b=>let ⟨us,c,d⟩:=h.at_ i p es a b;⟨us,s _ _ c,d.same s⟩⟩
theorem RWM.lists{H:Hp}:∀{as:LK}{W:List (List Wat)},as.length=W.length->(∀(i:Nat)(p:Addr)(es:List Wat),as[i]?=some p->W[i]?=some es->∃us,H p=some (.lst us)/\RWs H us es)->RWL H (as.map V.ref) W
 |[],[],_,_=>.nil
 |[],_::_,h,_=>by simp at h
 |_::_,[],h,_=>by simp at h
 |p::as,es::W,h,g=>by
  obtain⟨us,a,b⟩:=g 0 p es U U;exact .cons a b (RWM.lists (by simpa using h) λi c es' x y=>g (i+1) c es' (by simpa using x) (by simpa using y))
theorem RWM.rwl{as:LK}{W:List (List Wat)}(h:RWM H as W):RWL H (as.map V.ref) W:=RWM.lists h.len h.at_
theorem RWM.add{as:LK}{W:List (List Wat)}{p t:Addr}{us:LV}{e:Wat}(h:RWM H as W)(k:as[n]?=some p)(f:H p=some (.lst us))(ht:H t=some (eF e)):RWM (upd H p (.lst (us++[.ref t]))) as (gx W n e):=by
 refine⟨h.nd,by rw[u9];exact h.len,λi g es d hw=>?_⟩;rw[n5]at hw
 cases ew:W[i]? with
 |none=>rw[ew]at hw;cases hw
 |some c=>
  rw[ew]at hw;obtain⟨j,a,b⟩:=h.at_ i g c d ew;by_cases z:n=i
  .subst z;rw[k]at d;cases d;rw[f]at a;cases a;have:c++[e]=es:=by simpa using hw
   subst this;exact⟨_,ah,(b.off f).snoc (by rw[af (λy=>by rw[y,f]at ht;cases ht)];exact ht)⟩
  .have:c=es:=by simpa[z]using hw
   subst this
   have o:g≠p:=λy=>z (by
    obtain⟨l1,m⟩:=qp.mp k;obtain⟨l2,l⟩:=qp.mp d
    exact(List.getElem_inj h.nd).mp (by rw[m,l,y]))
   exact⟨j,by rwa[af o],b.off f⟩
def Sm(W:List (List Wat))(n:Nat):Prop:=∀(i:Nat)(es:List Wat),W[i]?=some es->es.length<=n
theorem Sm.add{W:List (List Wat)}{e:Wat}(h:Sm W n):Sm (gx W i e) (n+1):=λj es a=>by
 rw[n5]at a
 cases ew:W[j]? with
 |none=>rw[ew]at a;cases a
 |some b=>
  rw[ew]at a;have:=h j b ew;have c:(if i=j then b++[e]else b)=es:=by simpa using a
  rw[<- c];split
  .rw[qh,Qf];omega
  .omega
theorem Sm.mono{W:List (List Wat)}{m:Nat}(h:Sm W n)(l:n<=m):Sm W m:=λi es a=>qH (h i es a) l
noncomputable def eS(q:Str)(ps F:LI)(W:List (List Wat)):Nat->List (List Wat)
 |0=>W
 |k+1=>gx (eS q ps F W k) (F.getD k 0).toNat (ps.getD k 0,"thing",q)
noncomputable def awaited(n:Nat)(F:LI)(k:Nat):Int:=if k<F.length then F.getD k 0 else(n:Int)-1
noncomputable def eI(q:Str)(n:Nat)(F J:LI)(W:List (List Wat)):Nat->List (List Wat)
 |0=>W
 |k+1=>gx (eI q n F J W k) (F.getD k 0).toNat (awaited n J k,"room",q)
noncomputable def j0(rs:List Row)(s:Str×Int)(W:List (List Wat)):List (List Wat):=
 eI s.1 rs.length ((ap Row.into rs s.1).drop s.2.toNat) (ap Row.outof rs s.1) (eS s.1 (ap Row.into rs s.1) (ap Row.outof rs s.1) W (min (ap Row.into rs s.1).length (ap Row.outof rs s.1).length)) ((ap Row.into rs s.1).drop s.2.toNat).length
noncomputable def cD(rs:List Row)(ss:LF)(W:List (List Wat)):Nat->List (List Wat)
 |0=>W
 |j+1=>j0 rs (ss.getD j ("",0)) (cD rs ss W j)
theorem m8{f:Row->Option Str}{q:Str}{k:Nat}{n:Int}(h:(ap f rs q)[k]?=some n):0<=n/\n.toNat<rs.length/\∃r,rs[n.toNat]?=some r/\f r=some q:=by
 have m:=qI h;unfold ap at m;obtain⟨⟨r,i⟩,a,e⟩:=List.mem_filterMap.mp m;by_cases z:f r=some q
 .have b:(i:Int)=n:=by simpa[z]using e
  subst b;have:=List.mem_zipIdx_iff_getElem?.mp a;exact⟨Yo,(qp.mp this).1,r,this,z⟩
 .simp[z]at e
theorem RWL.at{H:Hp}:∀{vs:LV}{c:List (List Wat)},RWL H vs c->∀(i:Nat)(v:V),vs[i]?=some v->∃p us es,v=.ref p/\H p=some (.lst us)/\RWs H us es/\c[i]?=some es
 |_,_,.nil,i,v,h=>by simp at h
 |_,_,.cons (p:=p) (us:=us) (es:=es) a b r,0,v,h=>⟨p,us,es,by simpa using h.symm,a,b,U⟩
 |_,_,.cons _ _ r,i+1,v,h=>RWL.at r i v (by simpa using h)
theorem RWM.push{as:LK}{W:List (List Wat)}{l:Addr}{us:LV}{es:List Wat}(h:RWM H as W)(hl:H l=none)(w:RWs H us es):RWM (upd H l (.lst us)) (as++[l]) (W++[es]):=by
 have s:a9 H (upd H l (.lst us)):=a9.new hl _
 have old:l∉as:=λm=>by
  obtain⟨i,d,e⟩:=List.mem_iff_getElem.mp m;have f:i<W.length:=by rwa[<- h.len]
  obtain⟨_,c,_⟩:=h.at_ i l W[i] (by rw[qi d,e]) (qi f);rw[hl]at c;cases c
 refine⟨List.nodup_append.mpr ⟨h.nd,by simp,λa ha b hb z=>?_⟩,by simp[h.len],λi p es' d hw=>?_⟩
 .rw[Q0.mp hb]at z;exact old (z▸ha)
 .by_cases lt:i<as.length
  .rw[Qe lt]at d;rw[Qe (by rwa[<- h.len])]at hw;exact(h.same s).at_ i p es' d hw
  .have:i=as.length:=by
    have:=(qp.mp d).1;simp at this;omega
   subst this;rw[qT (qo _),Nat.sub_self]at d;rw[h.len,qT (qo _),Nat.sub_self]at hw;cases d;cases hw;exact⟨us,ah,w.same s⟩
theorem RWM.there{as:LK}{W:List (List Wat)}{p:Addr}(h:RWM H as W)(m:p∈as):∃us,H p=some (.lst us):=by
 obtain⟨i,b,e⟩:=List.mem_iff_getElem.mp m;have a:i<W.length:=by rwa[<- h.len]
 obtain⟨d,c,_⟩:=h.at_ i p W[i] (by rw[qi b,e]) (qi a);exact⟨d,c⟩
noncomputable def cT(as:LK)(H:Hp):Hp:=λa=>if a∈as then none else H a
theorem yV(as:LK)(H:Hp):a9 (cT as H) H:=λa o h=>by
 unfold cT at h;split at h
 .cases h
 .exact h
theorem iV{as:LK}{o:HO}(h:H a=some o)(n:a∉as):cT as H a=some o:=by
 unfold cT;rwa[Q9 n]
theorem yX{as:LK}(m:a∈as):cT as H a=none:=Qa m
theorem yW{as:LK}(s:a9 H0 H)(f:∀p∈as,H0 p=none):a9 H0 (cT as H):=λa o h=>iV (s _ _ h) λm=>by rw[f a m]at h;cases h
theorem RN.cut{as:LK}{m:Str->LI}(h:RN H kvs m)(f:∀(q:Str)(p:Addr),aH kvs (.inr q)=some (.ref p)->p∉as):RN (cT as H) kvs m:=
 ⟨λq=>(h.at_ q).imp id λ⟨p,a,b⟩=>⟨p,a,iV b (f q p a)⟩,h.one⟩
theorem Gr(xs:LI){n:Int}(h:0<=n):fA (xs.map V.int) (some n) none=(xs.drop n.toNat).map V.int:=by
 obtain⟨k,rfl⟩:=Int.eq_ofNat_of_zero_le h;unfold fA;rw[HT.sIx_none,show(some ((k:Nat):Int))=some ((k:Nat):Int)from rfl,HT.sIx_nat,qc,Q7,<- List.map_drop,<- List.map_take]
 congr 1
 by_cases z:k<=xs.length
 .rw[Nat.min_eq_left z,List.take_of_length_le (by rw[Q8];omega)]
 .rw[Nat.min_eq_right Yo,List.drop_of_length_le (qo _),List.drop_of_length_le Yo];simp
theorem mZ{rs:List Row}(c:∀r∈rs,r.owns.length<=4000/\r.reads.length<=4000):∀n,Sm (bH rs n) 8000
 |0=>λi es h=>by simp[bH]at h
 |n+1=>λi es h=>by
  rw[bH]at h
  cases e:rs[n]? with
  |none=>rw[e]at h;exact mZ c n i es (by simpa using h)
  |some r=>
   rw[e]at h;by_cases lt:i<(bH rs n).length
   .rw[Qe lt]at h;exact mZ c n i es h
   .rw[qT Yo]at h
    have:es=dr (rs.take n) r:=by
     cases ei:i-(bH rs n).length with
     |zero=>rw[ei]at h;simpa using h.symm
     |succ m=>rw[ei]at h;simp at h
    subst this;obtain⟨a,b⟩:=c r (qI e);have d:=iZ (bO (rs.take n)) "card" r.owns;have f:=iZ (bO (rs.take n)) "copy" r.reads;unfold dr;rw[qh];omega
theorem xP(f:Row->Option Str)(a:List Row)(r:Row)(b:List Row)(q:Str):∃hi:LI,(∀x∈hi,(a.length:Int)<x)/\(∀x∈ap f a q,0<=x/\x<(a.length:Int))/\ap f (a++r::b) q=ap f a q++((if f r=some q then[(a.length:Int)]else[])++hi):=by
 refine⟨(b.zipIdx (a.length+1)).filterMap λp=>if f p.1=some q then some (p.2:Int)else none,λx c=>?_,λx c=>?_,?_⟩
 .obtain⟨⟨d,i⟩,hi,e⟩:=List.mem_filterMap.mp c;have:=(List.mem_zipIdx hi).1;by_cases z:f d=some q
  .have g:(i:Int)=x:=by simpa[z]using e
   omega
  .simp[z]at e
 .obtain⟨k,hk⟩:=List.getElem?_of_mem c;obtain⟨_,_,_⟩:=m8 hk;omega
 .unfold ap;rw[List.zipIdx_append,List.filterMap_append,List.zipIdx_cons,List.filterMap_cons]
  congr 1
  by_cases z:f r=some q
  .simp[z]
  .simp[z]
theorem xQ{f:Row->Option Str}(q:Str)(h:rs[i]?=some r)(k:Nat):(ap f rs q)[k]?=some (i:Int)↔f r=some q/\k=(ap f (rs.take i) q).length:=by
 have lt:=(qp.mp h).1
 have sp:rs=rs.take i++r::rs.drop (i+1):=by
  rw[<- List.singleton_append,<- qV,show rs.take i++[r]=rs.take (i+1)by rw[qA,h];rfl,QC]
 obtain⟨_,a,b,e⟩:=xP f (rs.take i) r (rs.drop (i+1)) q;rw[<- sp]at e;have c:(rs.take i).length=i:=by rw[qS];omega
 rw[c]at a b e;rw[e];constructor
 .intro g;by_cases kl:k<(ap f (rs.take i) q).length
  .rw[Qe kl]at g;have:=(b _ (qI g)).2;omega
  .rw[qT Yo]at g;by_cases z:f r=some q
   .rw[Qa z,List.singleton_append]at g
    cases ek:k-(ap f (rs.take i) q).length with
    |zero=>exact⟨z,Yo⟩
    |succ m=>
     rw[ek,List.getElem?_cons_succ]at g;have:=a _ (qI g);omega
   .rw[Q9 z,Qt]at g;have:=a _ (qI g);omega
 .rintro⟨z,rfl⟩;rw[qT (qo _),Nat.sub_self,Qa z]
  rfl
theorem xT{f:Row->Option Str}(q:Str)(h:rs[i]?=some r){k:Nat}(lt:k<(ap f rs q).length):((ap f rs q).getD k 0).toNat=i↔f r=some q/\k=(ap f (rs.take i) q).length:=by
 rw[<- xQ q h k,qu,qi lt];obtain⟨_,_⟩:=m8 (qi lt);show(ap f rs q)[k].toNat=i↔some (ap f rs q)[k]=some (i:Int);constructor
 .intro e
  congr 1
  omega
 .intro e;have:=qR e;omega
theorem uw(q:Str)(ps b:LI)(W:List (List Wat))(i:Nat)(c:Nat)(a:Prop)[Decidable a]:∀K,(∀k,k<K->((b.getD k 0).toNat=i↔a/\k=c))->(eS q ps b W K)[i]?=(W[i]?).map λes=>es++(if a/\c<K then([(ps.getD c 0,"thing",q)]:List Wat)else[])
 |0,_=>by simp[eS]
 |K+1,h=>by
  rw[eS,n5,uw q ps b W i c a K λk hk=>h k Yo,Option.map_map];have d:=h K Yo
  congr 1
  funext es
  show(if(b.getD K 0).toNat=i then _++_ else _)=_;by_cases o:a
  .by_cases z:K=c
   .subst z;rw[Qa (d.mpr ⟨o,U⟩),Q9 Yo,Qa ⟨o,Yo⟩];show(es++[])++_=_;rw[qG]
   .rw[Q9 (λy=>z (d.mp y).2)];by_cases l:c<K
    .rw[Qa ⟨o,l⟩,Qa ⟨o,Yo⟩]
    .rw[Q9 (λy=>l y.2),Q9 (λy=>by have:=y.2;omega)]
  .rw[Q9 (λy=>o (d.mp y).1),Q9 (λy=>o y.1),Q9 (λy=>o y.1)]
theorem wI(q:Str)(n:Nat)(b d:LI)(W:List (List Wat))(i:Nat)(c:Nat)(a:Prop)[Decidable a]:∀K,(∀k,k<K->((b.getD k 0).toNat=i↔a/\k=c))->(eI q n b d W K)[i]?=(W[i]?).map λes=>es++(if a/\c<K then([(awaited n d c,"room",q)]:List Wat)else[])
 |0,_=>by simp[eI]
 |K+1,h=>by
  rw[eI,n5,wI q n b d W i c a K λk hk=>h k Yo,Option.map_map];have e:=h K Yo
  congr 1
  funext es
  show(if(b.getD K 0).toNat=i then _++_ else _)=_;by_cases o:a
  .by_cases z:K=c
   .subst z;rw[Qa (e.mpr ⟨o,U⟩),Q9 Yo,Qa ⟨o,Yo⟩];show(es++[])++_=_;rw[qG]
   .rw[Q9 (λy=>z (e.mp y).2)];by_cases l:c<K
    .rw[Qa ⟨o,l⟩,Qa ⟨o,Yo⟩]
    .rw[Q9 (λy=>l y.2),Q9 (λy=>by have:=y.2;omega)]
  .rw[Q9 (λy=>o (e.mp y).1),Q9 (λy=>o y.1),Q9 (λy=>o y.1)]
noncomputable def gX(rs:List Row)(i:Nat)(r:Row)(q:Str):List Wat:=if r.outof=some q then[((ap Row.into rs q).getD (ap Row.outof (rs.take i) q).length 0,"thing",q)]else[]
noncomputable def hE(rs:List Row)(i:Nat)(r:Row)(s:Str×Int):List Wat:=if r.into=some s.1/\s.2.toNat<=(ap Row.into (rs.take i) s.1).length then[(awaited rs.length (ap Row.outof rs s.1) ((ap Row.into (rs.take i) s.1).length-s.2.toNat),"room",s.1)]else[]
theorem GR(h:rs[i]?=some r)(s:Str×Int)(W:List (List Wat))(fed:∀q,r.outof=some q->(ap Row.outof (rs.take i) q).length<(ap Row.into rs q).length):(j0 rs s W)[i]?=(W[i]?).map λes=>es++(gX rs i r s.1++hE rs i r s):=by
 unfold j0
 have pl:∀f:Row->Option Str,f r=some s.1->(ap f (rs.take i) s.1).length<(ap f rs s.1).length:=λf g=>by
  have:=(xQ s.1 h (ap f (rs.take i) s.1).length).mpr ⟨g,U⟩;exact(qp.mp this).1
 rw[wI s.1 rs.length _ _ _ i ((ap Row.into (rs.take i) s.1).length-s.2.toNat) (r.into=some s.1/\s.2.toNat<=(ap Row.into (rs.take i) s.1).length) _ ?hr,uw s.1 _ _ W i (ap Row.outof (rs.take i) s.1).length (r.outof=some s.1) _ ?ht,Option.map_map]
 case ht=>
  intro k hk;exact xT s.1 h Yo
 case hr=>
  intro k hk;rw[Q8]at hk;have e:((ap Row.into rs s.1).drop s.2.toNat).getD k 0=(ap Row.into rs s.1).getD (s.2.toNat+k) 0:=by rw[qu,List.getElem?_drop,qu]
  rw[e,xT s.1 h Yo];constructor
  .rintro⟨a,b⟩;exact⟨⟨a,Yo⟩,Yo⟩
  .rintro⟨⟨a,b⟩,c⟩;exact⟨a,Yo⟩
 congr 1
 funext es
 show(es++_)++_=es++(_++_);rw[qV]
 congr 1
 congr 1
 .unfold gX;by_cases z:r.outof=some s.1
  .have d:=pl Row.outof z;have j:=fed _ z;rw[Qa ⟨z,Yo⟩,Qa z]
  .rw[Q9 (λy=>z y.1),Q9 z]
 .unfold hE;by_cases z:r.into=some s.1/\s.2.toNat<=(ap Row.into (rs.take i) s.1).length
  .have d:=pl Row.into z.1;rw[Qa ⟨z,by rw[Q8];omega⟩,Qa z]
  .rw[Q9 (λy=>z y.1),Q9 z]
theorem mX{rs:List Row}{ss:LF}{i:Nat}{r:Row}(h:rs[i]?=some r)(W:List (List Wat))(fed:∀q,r.outof=some q->(ap Row.outof (rs.take i) q).length<(ap Row.into rs q).length):∀j,j<=ss.length->(cD rs ss W j)[i]?=(W[i]?).map λes=>es++(ss.take j).flatMap λs=>gX rs i r s.1++hE rs i r s
 |0,_=>by simp[cD]
 |j+1,hj=>by
  have lt:j<ss.length:=Yo;rw[cD,GR h _ _ fed,mX h W fed j Yo,Option.map_map];have e:ss.getD j ("",0)=ss[j]:=by rw[qu,qi lt];rfl
  congr 1
  funext es
  show(es++_)++_=es++_;rw[e,qV,qA,qi lt,Q4];simp
theorem tq{c:Type}{g:Str×Int->List c}:∀{ss:LF}{q:Str}{n:Int},(ss.map (·.1)).Nodup->(q,n)∈ss->(∀s∈ss,s.1≠q->g s=[])->ss.flatMap g=g (q,n)
 |[],_,_,_,m,_=>by simp at m
 |s::ss,q,n,nd,m,hg=>by
  rw[qZ,List.nodup_cons]at nd;rw[qN];rcases qD.mp m with e|m
  .subst e
   have:ss.flatMap g=[]:=by
    rw[List.flatMap_eq_nil_iff];intro b a;exact hg b (qv _ a) λy=>nd.1 (by rw[<- y];exact List.mem_map_of_mem (f:=(·.1)) a)
   rw[this,qG]
  .have ne:s.1≠q:=λy=>nd.1 (by rw[y];exact List.mem_map_of_mem (f:=(·.1)) m);rw[hg s qw ne,Qt];exact tq nd.2 m λb a=>hg b (qv _ a)
theorem u7{rs:List Row}{i:Nat}{r:Row}(h:rs[i]?=some r):∀n,i<n->n<=rs.length->(bH rs n)[i]?=some (dr (rs.take i) r)
 |0,l,_=>Yo
 |n+1,l,hn=>by
  have ln:=j1 rs n Yo;rw[bH];by_cases z:i<n
  .rw[Qe Yo];exact u7 h n z Yo
  .have:i=n:=by omega
   subst this;rw[qT Yo,ln,Nat.sub_self,h]
   rfl
theorem GQ(rs:List Row)(s:Str×Int)(W:List (List Wat)):(j0 rs s W).length=W.length:=by
 have d:∀K,(eS s.1 (ap Row.into rs s.1) (ap Row.outof rs s.1) W K).length=W.length:=λK=>by
  induction K with
  |zero=>rfl
  |succ K b=>rw[eS,u9,b]
 have e:∀(a:List (List Wat))(c:LI) K,(eI s.1 rs.length c (ap Row.outof rs s.1) a K).length=a.length:=λa c K=>by
  induction K with
  |zero=>rfl
  |succ K b=>rw[eI,u9,b]
 unfold j0;rw[e,d]
theorem kF(rs:List Row)(ss:LF)(W:List (List Wat)):∀j,(cD rs ss W j).length=W.length
 |0=>rfl
 |j+1=>by rw[cD,GQ,kF rs ss W j]
theorem uK(rs:LS)(t:Int)(a:List (Str×Str)):∀i,i<=rs.length->(fY rs t a i).map (·.1)=rs.take i
 |0,_=>rfl
 |i+1,h=>by
  rw[fY,qW,uK rs t a i Yo,qA,qi Yo];show _++[rs.getD i _]=_;rw[qu,qi Yo]
  rfl
theorem ur{k:Key}:∀(ps kvs:LN),k∉ps.map (·.1)->aH (ps.foldl (λkvs p=>aX kvs p.1 p.2) kvs) k=aH kvs k
 |[],_,_=>rfl
 |p::r,kvs,h=>by
  rw[qZ,qD,not_or]at h;rw[QH,ur r _ h.2,d9,Q9 h.1]
theorem ut{k:Key}{v:V}:∀(ps kvs:LN),(ps.map (·.1)).Nodup->(k,v)∈ps->aH (ps.foldl (λkvs p=>aX kvs p.1 p.2) kvs) k=some v
 |[],_,_,h=>by simp at h
 |p::r,kvs,nd,h=>by
  rw[qZ,List.nodup_cons]at nd;rw[QH];rcases qD.mp h with e|h
  .subst e;rw[ur r _ nd.1,d9,Qa U]
  .exact ut r _ nd.2 h
noncomputable def cg(ss:LF):LN:=ss.map λs=>(.inr s.1,.int s.2)
theorem AJ{ss:LF}{q:Str}{n:Int}(nd:(ss.map (·.1)).Nodup)(h:(q,n)∈ss):aH (cZ (cg ss)) (.inr q)=some (.int n):=by
 refine ut _ _ ?_ (List.mem_map.mpr ⟨(q,n),h,U⟩);unfold cg;rw[List.map_map];have:((λx:Key×V=>x.1) ∘ λs:Str×Int=>((Sum.inr s.1:Key),V.int s.2))=(λq:Str=>(Sum.inr q:Key)) ∘ (·.1):=U;rw[this,<- List.map_map];exact List.pairwise_map.mpr (List.Pairwise.imp (λh e=>h (Sum.inr.inj e)) nd)
noncomputable def iM:Option Str->PyData
 |none=>.none
 |some q=>.str q
noncomputable def fN(r:Row):PyData:=.tuple [.str r.kind,.tuple (r.owns.map PyData.str),.tuple (r.reads.map PyData.str),iM r.into,iM r.outof]
theorem xu(o:Option Str):Dt K H (dc o) (iM o):=by cases o<;>constructor
theorem cR.dt{v:V}(h:cR H v r):Dt K H v (fN r):=by
 obtain⟨p,po,_,rfl,a,c,b⟩:=h;exact .tup (SqT.of a) (.cons (.str _) (.cons (.tup (SqT.of c) (nD _)) (.cons (.tup (SqT.of b) (nD _)) (.cons (xu _) (.cons (xu _) .nil)))))
theorem aT.dt{K:W.Frag}{H:Hp}:∀{vs:LV}{rs:List Row},aT H vs rs->fg K H vs (rs.map fN)
 |_,_,.nil=>.nil
 |_,_,.cons h r=>.cons h.dt (aT.dt r)
def jK(r:Row):Prop:=PyData.strOk r.kind=true/\(∀s∈r.owns,PyData.strOk s=true)/\(∀s∈r.reads,PyData.strOk s=true)/\(∀q,r.into=some q->PyData.strOk q=true)/\∀q,r.outof=some q->PyData.strOk q=true
theorem yj(o:Option Str)(h:∀q,o=some q->PyData.strOk q=true):PyData.canLay0 (iM o)=true/\PyData.depth (iM o)<=1:=by
 cases o with
 |none=>simp[iM,PyData.canLay0,PyData.depth]
 |some q=>simp[iM,PyData.canLay0,PyData.depth,h q U]
theorem yi:∀rs:List Row,(∀r∈rs,jK r)->PyData.canLayAll0 (rs.map fN)=true/\PyData.depthAll (rs.map fN)<=4
 |[],_=>by simp[PyData.canLayAll0,PyData.depthAll]
 |r::rs,h=>by
  obtain⟨a,b,c,d,e⟩:=h r qw;obtain⟨f,_⟩:=yi rs λx g=>h x (qv _ g);obtain⟨b1,b2⟩:=sQ _ b;obtain⟨c1,c2⟩:=sQ _ c;obtain⟨j,_⟩:=yj _ d;obtain⟨i,_⟩:=yj _ e;simp[fN,PyData.canLayAll0,PyData.canLay0,PyData.depthAll,PyData.depth,a,b1,c1,j,i,f];omega
theorem Bl(h:∀r∈rs,jK r):SeqAt.shaped (.list (rs.map fN))=true:=by
 obtain⟨a,_⟩:=yi rs h;unfold SeqAt.shaped;simp[PyData.canLay0,PyData.depth,a];omega
theorem Bk{ss:LF}(h:∀s∈ss,PyData.strOk s.1=true):SeqAt.shaped (.list (ss.map fh))=true:=by
 obtain⟨a,_⟩:=yh ss h;unfold SeqAt.shaped;simp[PyData.canLay0,PyData.depth,a];omega
theorem eU(l:LS):∀x∈srt l,x∈l:=by
 unfold srt;split
 .rename_i h;obtain⟨a,b,_⟩:=Classical.choose_spec h;exact λx c=>(b x).mp c
 .exact λx c=>by simp at c
theorem uS(l:LS):∀x∈fj l,x∈l:=by
 unfold fj;split
 .rename_i h;exact λx a=>(Classical.choose_spec h).1.mem_iff.mp a
 .exact λx a=>by simp at a
theorem BY{d:ae}(hc:∀c∈cards [d],PyData.strOk c=true)(e:∀q x,d=.put q x\/d=.get q x->PyData.strOk q=true):jK (aS d):=by
 cases d with
 |set x a _ b=>
  refine⟨show PyData.strOk ("set":Str)=true by decide +kernel,λs hs=>?_,λs hs=>?_,λq h=>(nomatch h),λq h=>(nomatch h)⟩
  .rw[Q0.mp hs];exact hc _ (by simp[cards,ak,ae.flat,ae.cards,ae.names])
  .have:=(List.mem_filter.mp (eU _ s hs)).1;refine hc _ ?_;rcases qr.mp this with h|h<;>simp[cards,ak,ae.flat,ae.cards,ae.names,h]
 |put q x=>
  refine⟨show PyData.strOk ("put":Str)=true by decide +kernel,λs hs=>?_,λs hs=>?_,λf h=>?_,λq h=>(nomatch h)⟩
  .rw[Q0.mp hs];exact hc _ (by simp[cards,ak,ae.flat,ae.cards,ae.names,ae.others])
  .rw[Q0.mp hs];exact hc _ (by simp[cards,ak,ae.flat,ae.cards,ae.names,ae.others])
  .cases h;exact e _ x (.inl U)
 |get q x=>
  refine⟨show PyData.strOk ("get":Str)=true by decide +kernel,λs hs=>?_,λs hs=>(nomatch hs),λf h=>(nomatch h),λf h=>?_⟩
  .have:=uS _ s hs;simp only[qD,qY,or_false]at this;rcases this with rfl|rfl
   .exact hc _ (by simp[cards,ak,ae.flat,ae.cards,ae.names,ae.others])
   .exact hc _ (by simp[cards,ak,ae.flat,ae.cards,ae.names,ae.others])
  .cases h;exact e _ x (.inr U)
 |give x=>
  refine⟨show PyData.strOk ("give":Str)=true by decide +kernel,λs hs=>?_,λs hs=>?_,λq h=>(nomatch h),λq h=>(nomatch h)⟩
  .rw[Q0.mp hs];exact hc _ (by simp[cards,ak,ae.flat,ae.cards,ae.names,ae.others])
  .rw[Q0.mp hs];exact hc _ (by simp[cards,ak,ae.flat,ae.cards,ae.names,ae.others])
 |cond x t o=>exact⟨show PyData.strOk ("if":Str)=true by decide +kernel,λs hs=>hc _ (eU _ s hs),λs hs=>(nomatch hs),λq h=>(nomatch h),λq h=>(nomatch h)⟩
 |whl x b=>exact⟨show PyData.strOk ("while":Str)=true by decide +kernel,λs hs=>hc _ (eU _ s hs),λs hs=>(nomatch hs),λq h=>(nomatch h),λq h=>(nomatch h)⟩
 |rep n b=>exact⟨show PyData.strOk ("repeat":Str)=true by decide +kernel,λs hs=>hc _ (eU _ s hs),λs hs=>(nomatch hs),λq h=>(nomatch h),λq h=>(nomatch h)⟩
theorem tM{c1 c2:Int}{n1 n2:Nat}:∀s∈bA (cO c1 n1) (cO c2 n2),PyData.strOk s=true:=λs hs=>by
 unfold bA at hs;simp only[qr,List.mem_map,Q0]at hs;refine sH ?_;have l1:Low (">":Str):=by unfold Low;decide +kernel
 have l2:Low ("<":Str):=by unfold Low;decide +kernel
 rcases hs with((hs|⟨q,a,rfl⟩)|⟨q,a,rfl⟩)|rfl
 .exact ki _ _ s hs
 .exact(ki _ _ q a).app l1
 .exact(ki _ _ q a).app l2
 .exact l1
theorem BW{d:ae}(h:(cards [d]).length<=4000):(aS d).owns.length<=4000/\(aS d).reads.length<=4000:=by
 have nm:∀v:Val,v.names.length<=1:=λv=>by cases v<;>simp[Val.names]
 cases d with
 |set x a _ b=>
  refine⟨by simp[aS],?_⟩;have c:=kT ((a.names++b.names).filter λy=>!decide (y=x));have e:=List.length_filter_le (λy=>!decide (y=x)) (a.names++b.names);rw[qh]at e;have g:=nm a;have f:=nm b;show(srt _).length<=4000;omega
 |put q x=>simp[aS]
 |get q x=>
  have c:=AU [x,q++("<":Str)];refine⟨?_,by simp[aS]⟩;show(fj _).length<=4000;simp at c;omega
 |give x=>simp[aS]
 |cond x t o=>exact⟨qH (kT _) h,by simp[aS]⟩
 |whl x b=>exact⟨qH (kT _) h,by simp[aS]⟩
 |rep n b=>exact⟨qH (kT _) h,by simp[aS]⟩
theorem sy(f:Row->Option Str)(q:Str)(rs:List Row):(ap f rs q).length=(rs.filter λr=>decide (f r=some q)).length:=by
 have:∀n,((rs.zipIdx n).filterMap λp=>if f p.1=some q then some (p.2:Int)else none).length=(rs.filter λr=>decide (f r=some q)).length:=by
  induction rs with
  |nil=>intro n;rfl
  |cons r t a=>
   intro n;rw[List.zipIdx_cons,List.filterMap_cons,List.filter_cons];by_cases z:f r=some q
   .simp[z,a]
   .simp[z,a]
 exact this 0
theorem mN{q:Str}(h:Fed rs)(hr:rs[i]?=some r)(a:r.outof=some q):(ap Row.outof (rs.take i) q).length<(ap Row.into rs q).length:=by
 have b:=h i r q hr a;unfold bal at b;have c:=sy Row.outof q (rs.take i);have d:=sy Row.into q (rs.take i)
 have sp:rs=rs.take i++r::rs.drop (i+1):=by
  rw[<- List.singleton_append,<- qV,show rs.take i++[r]=rs.take (i+1)by rw[qA,hr];rfl,QC]
 obtain⟨_,_,_,e⟩:=xP Row.into (rs.take i) r (rs.drop (i+1)) q;rw[<- sp]at e;rw[e,qh];omega
noncomputable def dO(kvs:LN)(q:Str):Int:=match aH kvs (.inr q)with
 |some (.int n)=>n
 |_=>0
theorem sI{q:Str}{n:Int}(h:aH kvs (.inr q)=some (.int n)):dO kvs q=n:=by
 unfold dO;rw[h]
end Tr
namespace L2
open PySem
end L2
namespace L2
open PySem PySem.Spec PyProof.Rows
end L2
namespace Tr
open PySem PySem.Spec PyProof.Rows L2
end Tr
namespace L2
open PySem PySem.Spec PyProof.Rows
end L2
namespace L2
open PySem PySem.Spec PyProof.Rows PySem.W
section
variable {k:Nat}{C0:Addr}{ds:LL}{fx cx y m n:Str}{iy im inn:Nat}{p py cp pm pn pa hpos:Pos}{es:LR}{t:TA}
end
end L2
namespace Tr
open PySem PySem.Spec PyProof.Rows L2
end Tr
namespace L2
open PySem PySem.Spec PyProof.Rows PySem.W
end L2
namespace L2
open PySem PySem.F PySem.Spec PyProof.Rows PySem.W
set_option maxRecDepth 100000
section
variable {k:Nat}{p:Pos}{es:LR}{t:TA}
end
theorem Di:OpR X (compareOp .NotIn) (λx y H Q=>∃a kvs k,y=.ref a/\H a=some (.dK kvs)/\x=kV k/\Q (.bl (!(aH kvs k).isSome)) H):=by
 intro _ s _ H x y v u Q I c d h;obtain⟨a,kvs,k,rfl,hd,rfl,q⟩:=h;cases d;obtain⟨_,ne,vs,b,e⟩:=jI I.hok hd;refine wpAny_notIn_of (gR c) ne e.mapOf ⟨.bl _,H,I.tok _,?_,q⟩;rw[<- (b.val k).isSome_eq]
 rfl
section
variable {o:Expr}{es:LR}{to:TE}{t:TA}{T id:String}{r:V->LV->Hp->VK->Prop}
end
section
variable {κ:KeyKind}
section
variable {left:Bool}{key:Keyed}{arr:Array Keyed}{base hint:Nat}{st:SortSt}{Q:Option Nat->SortSt->Prop}
end
end
section
variable {κ:KeyKind}
section
variable {r:Keyed->Keyed->Prop}{T o X X0 Z:List Keyed}
end
section
variable {a b out:Array Keyed}{ia ib:Nat}
end
end
section
variable {κ:KeyKind}
section
variable {a b out:Array Keyed}{ia ib:Nat}
end
end
section
variable {κ:KeyKind}
section
variable {a b out:Array Keyed}{na nb:Nat}
end
end
section
variable {κ:KeyKind}
section
variable {arr:Array Keyed}{P X X0 R:List Keyed}
end
end
section
variable {κ:KeyKind}
section
variable {st0 st:SortSt}{lo:Nat}
end
end
section
variable {κ:KeyKind}
section
variable {a₀:Array Keyed}{st:SortSt}{Xs:List (List Keyed)}{R:List Keyed}
end
section
variable {a₀:Array Keyed}{st:SortSt}{Xs:List (List Keyed)}{R:List Keyed}{lo:Nat}
end
end
end L2
namespace Tr
open PySem PySem.Spec PyProof.Rows L2
section
variable {Hb H0' H1:Hp}{own:LK}
end
section
variable {Hb H0' H1:Hp}{s0 s1 s2:Addr}
end
end Tr
namespace L2
open PySem PySem.Spec PyProof.Rows PySem.W
section
variable {k:Nat}{C0:Addr}{ds:LL}{fx cx y m n:Str}{iy im inn:Nat}{p py cp pm pn pl pa hpos tpos:Pos}{es:LR}{t:TA}
end
end L2
namespace Tr
open PySem PySem.Spec PyProof.Rows L2
end Tr
namespace L2
open PySem PySem.Spec PyProof.Rows
end L2
namespace Tr
open PySem PySem.Spec PyProof.Rows L2
section
variable {Hb H0' H1:Hp}{s0 s1 s2:Addr}{os:LV}
end
end Tr
namespace L2
open PySem PySem.Spec PyProof.Rows
@[reducible] def intKey:KeyKind where
  α:=Int
  blt a b:=decide (a<b)
  irrefl a:=by simp
  trans a b c h1 h2:=by simp only[decide_eq_true_eq]at *;omega
  negTrans a b c h:=by simp only[decide_eq_true_eq]at *;omega
  total a b h1 h2:=by simp only[decide_eq_false_iff_not]at *;omega
  keyOf v:=match v with|.int n _=>some n|_=>none
  dflt:=0
end L2
namespace Tr
open PySem PySem.Spec PyProof.Rows L2
end Tr
namespace L2
open PySem PySem.Spec PyProof.Rows
section
variable [DecidableEq κ] {knd:PySem.KeyKind P w κ}
end
end L2
namespace Tr
open PySem PySem.Spec PyProof.Rows L2
end Tr
namespace L2
open PySem PySem.Spec PyProof.Rows
section
variable {m:Nat}{p:Array Nat}
end
theorem yY{xs:LV}{g:TG}{d:LV->Hp->Prop}(b:Nat->LV->St->Hp->Prop)(h0:b 0 [] Y H)(f:∀i ys Y H,i<=xs.length->b i ys Y H->ys.length<=i)(e:xs.length<=sizeLine)(hl:∀i ys Y H,b i ys Y H->SqT K H a xs)
 (hs:∀i x ys Y H,xs[i]?=some x->b i ys Y H->g x Y H λc H2=>te c H2 λy H4=>b (i+1) (ys++[y]) c H4)
 (hd:∀ys Y H,b xs.length ys Y H->d ys H):∃W:Nat->Nat->LV->St->Hp->Prop,(∃m,W 0 m [] Y H)/\iA (Itt K a) g jR te d W:=
 tJ b h0 f e hl (λi x ys Y H e p=>by
  rw[ug (N':=λ_ _ _=>True)]
  exact hs i x ys Y H e p) hd
end L2
namespace Tr
open PySem PySem.Spec PyProof.Rows L2
end Tr
namespace L2
open PySem
set_option maxHeartbeats 3200000 in
open PySem.Spec PyProof.Rows
end L2
namespace Tr
open PySem PySem.Spec PyProof.Rows L2
end Tr
namespace L2
open PySem PySem.Spec PyProof.Rows
end L2
namespace Tr
open PySem PySem.Spec PyProof.Rows L2 PySem.NumText
end Tr
namespace HT
open PySem PyProof.Rows
end HT
namespace L2
open PySem PySem.Spec PyProof.Rows
end L2
namespace Tr
open PySem PySem.Spec PyProof.Rows L2
end Tr
namespace L2
open PySem PySem.Spec PyProof.Rows
abbrev NK:=Option Str
noncomputable def ma:NK->Value->Bool
 |none,.none=>true
 |some x,.str y _=>decide (y=x)
 |_,_=>false
noncomputable def nkV:NK->V
 |none=>.non
 |some x=>.str x
theorem gN{k:NK}{v:Value}(h:ma k v=true):(k=none/\v=.none)\/∃x t,k=some x/\v=.str x t:=by
 cases k with
 |none=>cases v<;>simp[ma]at h ⊢
 |some x=>
  cases v<;>simp[ma]at h;subst h;exact .inr ⟨_,_,U,U⟩
noncomputable def nkH(w:World):NK->Int
 |none=>0xFCA86420
 |some x=>hashStr w x
theorem zV{Q:Int->Shared->Prop}(h:Q 0xFCA86420 { s with toks:=s.toks+1 }):wpAny (model prog w) A (pyHash .none) Q E s:=by
 unfold pyHash
 first|unfold pyHashByItsType|skip
 have a:[Value.none].any Value.onHeap=false:=U;refine qb ?_;rw[cRoomFor,Q9 (by rw[a];exact qt)];refine qk ?_;refine qb (wpAny_specialOf (typeIs_none s) PySem.F.slot_NoneType_hash.lookup ?_);show wpAny _ _ (if(some (Value.builtin "NoneType.__hash__") == some Value.none)=true then _ else _) Q E s;rw[Q9 (by rw[beq_builtin_none];exact qt)];refine qb (wpAny_specialOf (typeIs_none s) PySem.F.slot_NoneType_hash.lookup ?_);show wpAny _ _ (callSpecialIfBoundUnlessNone? .none "__hash__" _ >>= _) Q E s
 refine qb (wpAny_callSpecialIfBoundUnlessNone?_slot (typeIs_none s) PySem.F.slot_NoneType_hash
  (Qr PySem.F.slot_NoneType_hash (typeIs_none s) PySem.F.entry_NoneType_hash
   (show wpAny _ _ (do ret (<- mkInt 0xFCA86420)) _ _ s from wpAny_ret_mkInt ?_) (PySem.F.args_NoneType_hash_1 _)))
 show wpAny _ _ (if(decide (-(2:Int) ^ 63<=0xFCA86420) && decide ((0xFCA86420:Int)<2 ^ 63))=true then _ else _) Q E _;rw[Qa Yk];exact qk h
noncomputable def i8(prog:Program)(w:World):PySem.KeyKind prog w NK where
 is:=ma
 hash:=nkH w
 inj:=λv a b ha hb=>by
  rcases gN ha with⟨rfl,rfl⟩|⟨x,t,rfl,rfl⟩
  .rcases gN hb with⟨rfl,e⟩|⟨y,u,rfl,e⟩
   .rfl
   .exact nomatch e
  .rcases gN hb with⟨rfl,e⟩|⟨y,u,rfl,e⟩
   .exact nomatch e
   .injection e with e1 _;rw[e1]
 byValue:=λk v h=>by
  rcases gN h with⟨rfl,rfl⟩|⟨x,t,rfl,rfl⟩<;>rfl
 pyHash:=λF h=>by
  rcases gN F with⟨rfl,rfl⟩|⟨x,t,rfl,rfl⟩
  .exact zV h
  .exact wpAny_pyHash_str h
 eqBool:=λJ F h=>by
  rcases gN J with⟨rfl,rfl⟩|⟨x,t,rfl,rfl⟩
  .rcases gN F with⟨rfl,rfl⟩|⟨y,u,rfl,rfl⟩
   .rw[Qb U]at h;exact SeqAt.EqAt.same Value.none _ _ _ _ h
   .rw[Qc (by simp)]at h;exact SeqAt.EqAt.none_str y u _ _ _ _ h
  .rcases gN F with⟨rfl,rfl⟩|⟨y,u,rfl,rfl⟩
   .rw[Qc (by simp)]at h;exact SeqAt.EqAt.str_none x t _ _ _ _ h
   .refine wpAny_eqBool_str ?_
    have:decide (x=y)=decide (some x=some y):=by
     by_cases e:x=y
     .subst e;simp
     .simp[e]
    rwa[this]
 «strs»:=λk x t v h=>by
  rcases gN h with⟨rfl,e⟩|⟨y,u,rfl,e⟩
  .exact nomatch e
  .injection e with e1 _;subst e1;cases v<;>first|rfl|skip
theorem Es{k:NK}(r:aE (nkV k) u):(i8 P w).is k u=true:=by
 cases k with
 |none=>
  cases(show u=Value.none from r)
  rfl
 |some x=>
  obtain⟨t,rfl⟩:=(show ∃t,u=Value.str x t from r);show decide (x=x)=true;simp
theorem xZ{P:Program}{w:World}:∀{ks:List NK}{us:LL},aB (ks.map nkV) us->ItemsAre (i8 P w) ks us
 |[],_,r=>by rw[List.map_nil]at r;cases r;exact .nil
 |k::ks,_,r=>by
  rw[qZ]at r
  cases r with
  |cons h t=>exact .cons (Es h) (xZ t)
abbrev NEs:=List (List NK×Addr×V)
abbrev NT:NEs->List (List NK×Addr×Value)->Prop:=Paired λp q=>p.1=q.1/\p.2.1=q.2.1/\aE p.2.2 q.2.2
noncomputable def DNo(P:Program)(w:World)(a:Addr)(xs:NEs):HO:=.ext λh=>xs.length<=sizeLine/\(a == sysModules)=false/\∃ys,NT xs ys/\∃o es ep,h.get? a=some o/\o.ExactDict/\o.data=.dict es ep/\es.toList=ys.map (entryOfKey (tupleKind (i8 P w)))/\(ys.map (·.1)).Nodup
def jN(H:Hp)(xs:NEs):Prop:=∀x∈xs,H x.2.1=some (.tup (x.1.map nkV))
noncomputable def br(xs:NEs)(k:List NK):LC:=(xs.find? λx=>decide (x.1=k)).map (·.2.2)
noncomputable def hZ(xs:NEs)(k:List NK)(b:Addr)(v:V):NEs:=if(br xs k).isSome then xs.map (λx=>if x.1=k then(x.1,x.2.1,v)else x)else xs++[(k,b,v)]
theorem NT.val{xs:NEs}{ys:List (List NK×Addr×Value)}(r:NT xs ys)(k:List NK):cy (br xs k) ((atKey ys k).map (·.2)):=by
 induction r with
 |nil=>exact True.intro
 |@cons p q ps qs h t f=>
  obtain⟨d,_,g⟩:=h;by_cases e:p.1=k
  .have a:q.1=k:=d.symm.trans e;have b:atKey (q::qs) k=some q.2:=by simp[atKey,Qh,a]
   have c:br (p::ps) k=some p.2.2:=by simp[br,Qh,e]
   rwa[c,b]
  .have a:¬ q.1=k:=λz=>e (d.trans z);have b:atKey (q::qs) k=atKey qs k:=by simp[atKey,Qh,a]
   have c:br (p::ps) k=br ps k:=by simp[br,Qh,e]
   rwa[c,b]
theorem NT.repl{xs:NEs}{ys:List (List NK×Addr×Value)}(r:NT xs ys)(k:List NK)(d:aE y u):NT (xs.map λx=>if x.1=k then(x.1,x.2.1,y)else x) (ys.map (putAt k u)):=by
 induction r with
 |nil=>exact .nil
 |@cons p q ps qs h t c=>
  rw[qZ,qZ];refine .cons ?_ c;obtain⟨a,b,f⟩:=h;unfold putAt;by_cases e:p.1=k
  .rw[Qa e,Qa (a.symm.trans e)];exact⟨a,b,d⟩
  .rw[Q9 e,Q9 (λz=>e (a.trans z))];exact⟨a,b,f⟩
theorem NT.put{xs:NEs}{ys:List (List NK×Addr×Value)}(r:NT xs ys)(k:List NK)(a:aE y u):NT (hZ xs k b y) (storedH ys k b u):=by
 have e:(br xs k).isSome=(atKey ys k).isSome:=by rw[(r.val k).isSome_eq,Option.isSome_map]
 unfold hZ storedH;rw[e];by_cases q:(atKey ys k).isSome=true
 .rw[Qa q,Qa q];exact r.repl k a
 .rw[Q9 q,Q9 q];exact Paired.snoc r ⟨U,U,a⟩
theorem x8(xs:NEs)(k:List NK)(b:Addr)(v:V):(hZ xs k b v).length<=xs.length+1:=by
 unfold hZ;split
 .rw[qc];omega
 .rw[qh];exact qo _
theorem DNo.ok{xs:NEs}{ys:List (List NK×Addr×Value)}(z:xs.length<=sizeLine)(hd:(a == sysModules)=false)(r:NT xs ys){o:Obj}{es:Array DictEntry}(b:h.get? a=some o)(i:o.ExactDict)(m:o.data=.dict es ep)(g:es.toList=ys.map (entryOfKey (tupleKind (i8 P w))))(c:(ys.map (·.1)).Nodup):bJ P w H h a (DNo P w a xs):=
 ⟨⟨z,hd,ys,r,o,es,ep,b,i,m,g,c⟩,⟨_,b⟩,λ_ _ ⟨z,hd,ys,r,o,es,ep,e,l,d,f,j⟩ k=>⟨z,hd,ys,r,o,es,ep,k _ e,l,d,f,j⟩⟩
theorem sA{a:List NK}(ok:HOk P w H h)(e:H b=some (.tup (a.map nkV))):(tupleKind (i8 P w)).is h a b:=by
 obtain⟨_,c,r,o,d,f,n,g⟩:=(show bJ P w H h b (.tup (a.map nkV))from ok b _ e);exact⟨o,c.toArray,n,d,f,g,by simpa using xZ r⟩
theorem yM{xs:NEs}(I:Inv X pins Y H s)(e:H a=some (DNo X.prog X.w a xs))(f:jN H xs):xs.length<=sizeLine/\(a == sysModules)=false/\∃ys,NT xs ys/\s.heap.DictOfH (tupleKind (i8 X.prog X.w)) a ys:=by
 obtain⟨⟨z,y,ys,r,o,es,ep,d,j,n,i,g⟩,_,_⟩:=I.hok a _ e;refine⟨z,y,ys,r,o,es,ep,d,j,n,i,λx b=>?_,g⟩
 have all:∀{l:NEs}{m:List (List NK×Addr×Value)},NT l m->(∀x∈l,H x.2.1=some (.tup (x.1.map nkV)))->∀x∈m,(tupleKind (i8 X.prog X.w)).is s.heap x.1 x.2.1:=by
  intro l m q
  induction q with
  |nil=>intro _ x b;exact nomatch b
  |@cons p q ps qs c t h=>
   intro hk x b;rcases qD.mp b with e|b
   .subst e;rw[<- c.1,<- c.2.1];exact sA I.hok (hk p qw)
   .exact h (λz k=>hk z (qv _ k)) x b
 exact all r f x b
def Aw(P:Program)(w:World):TE:=λ_ H Q=>∀p,H p=none->Q (.ref p) (upd H p (DNo P w p []))
def An(P:Program)(w:World)(td ty tx:TE):TE:=λY H Q=>td Y H λx H1=>∃a xs,x=.ref a/\H1 a=some (DNo P w a xs)/\ty Y H1 λy H2=>tx Y H2 λz F=>∃xs k b,F a=some (DNo P w a xs)/\jN F xs/\y=.ref b/\F b=some (.tup (k.map nkV))/\Q ((br xs k).getD z) F
def BL(P:Program)(w:World)(td ty tv:TE):TS:=λD Y H=>tv Y H λv H1=>td Y H1 λx H2=>ty Y H2 λy F=>∃a xs k b,x=.ref a/\F a=some (DNo P w a xs)/\jN F xs/\y=.ref b/\F b=some (.tup (k.map nkV))/\xs.length<sizeLine/\D.nx Y (upd F a (DNo P w a (hZ xs k b v)))
section
variable {o f i value:Expr}{td ty tx tv:TE}
theorem Da:PE X (.Dict [] [] pos) (Aw X.prog X.w):=λ_ s _ H Q I h=>
 wpAny_Dict_empty ⟨.ref s.heap.objs.size,_,I.laid (a:=s.heap.objs.size) (o:=DNo X.prog X.w s.heap.objs.size []) (t':=s.toks) (λ_ _ q=>qf _ q) (qo _)
  (DNo.ok (ys:=[]) (qC _) (beq_eq_false_iff_ne.mpr (Ne.symm (qO I.big))) .nil (qy _ U) ⟨U,U,U⟩ U U List.nodup_nil),U,h _ (I.hok.fresh (qo _))⟩
theorem xh(S:X.A.units+1<cLine)(v:PE X o td)(D:PE X e ty)(R:PE X f tx)(m:M2 X o "get" apos e f cpos):PE X (.Call (.Attribute o "get" apos) [e,f] [] cpos) (An X.prog X.w td ty tx):=by
 intro c s i H Q I h;refine wpAny_Call_method m.base m.few m.line PySem.F.plainAttrs_dict PySem.F.slot_dict_get PySem.F.type_dict_get (thn (v c s i H _ I h) λu N ⟨x,B,p,G,a,_,ex,d,L⟩=>?_);subst ex;obtain rfl:u=Value.ref a:=G;obtain⟨⟨_,_,_,_,ob,_,_,l,j,_⟩,_,_⟩:=p.hok a _ d;refine⟨⟨ob,l,j.1⟩,λb q=>?_,?_⟩
 .cases q;exact⟨ob,l,j.2.1⟩
 rw[m.trees]
 refine Calls.callWith_builtin U (Calls.evalArgs_plain (Calls.spliced_cons (thn (D c N i B _ p L) λE V ⟨y,J,X0,K,O⟩=>
  Calls.spliced_cons (thn (R c V i J _ X0 O) λfv _ ⟨z,W,g,T,xs,k,b,Z,C,t,P,M⟩=>Calls.spliced_nil ?_))))
 subst t;cases(show E=Value.ref b from K);obtain⟨_,hd,ys,r,n⟩:=yM g Z C;refine call_meetsIn PySem.F.slot_dict_get n.typeIs PySem.F.entry_dict_get (PySem.F.args_dict_get_3 _ _ _) (meetsH_dict_get_default (tupleKind (i8 X.prog X.w)) a b hd fv) ⟨tupleKind_room_in1 S,k,ys,sA g.hok P,n,⟨_,W,g.tok _,?_,M⟩⟩;exact(r.val k).getD T
theorem CL(W:X.A.units+1<cLine)(t:PE X o td)(S:PE X i ty)(m:PE X value tv)(hs:swapsWith value (some (.Subscript o i pos')) pos.line X.env=pure false):
 PS X (.Assign [.Subscript o i pos'] value pos) (BL X.prog X.w td ty tv):=by
 intro c s d H D I h;refine wpAny_Assign_Subscript (thn (m c s d H _ I h) λr O ⟨v,B,I1,rv,M⟩=>thn (t c O d B _ I1 M) λu X0 ⟨x,J,Z,K,P⟩=>thn (S c X0 d J _ Z P) λG _ ⟨y,_,f,L,a,xs,k,b,ex,j,C,p,R,lt,N⟩=>?_) hs;subst ex;obtain rfl:u=Value.ref a:=K;subst p;cases(show G=Value.ref b from L);obtain⟨z,hd,ys,e,T⟩:=yM f j C;have F:ys.length<=sizeLine:=by rwa[<- Paired.length e]
 refine wpAny_setItem_heap (hsz:=F) (tupleKind_room_in1 W) (sA f.hok R) T λh' l hs=>⟨d,_,?_,N⟩;obtain⟨q,es,ep,g,E,Q,V,_,n⟩:=l;exact mS f (by rw[j];exact True.intro) hs ⟨q,g⟩ (DNo.ok (qH (x8 xs k b v) lt) hd (e.put k rv) g E Q V n)
end
theorem um:∀{bs:List Bool}{us:LL},aB (bs.map V.bl) us->us=bs.map Value.bool
 |[],_,.nil=>rfl
 |_::_,_,.cons h r=>by rw[um r,show _=Value.bool _ from h];rfl
noncomputable def tT(x:Bool):Value->Bool
 |.bool y=>y == x
 |_=>false
def Co:V->LV->Hp->VK->Prop:=λv xs H Q=>∃(l:Addr)(bs:List Bool)(x:Bool)(i:Nat),v=.ref l/\xs=[.bl x]/\H l=some (.lst (bs.map V.bl))/\bs[i]?=some x/\(∀j,j<i->bs[j]?=some (!x))/\bs.length<=1000/\Q (.int (i:Nat)) H
theorem Eu:MtM X "list.index" Co:=by
 intro _ s _ H x vs v us Q I g j h;obtain⟨l,bs,y,i,rfl,rfl,f,c,hn,_,q⟩:=h;cases g;obtain⟨u,rfl,rfl⟩:=j.one;obtain⟨z,_,n,r,hl,e⟩:=I.lstM f;cases um r;have lt:=(qp.mp c).1
 have at2:∀{m:Nat}{b:Bool}(d:m<(bs.map Value.bool).toArray.size),bs[m]?=some b->(bs.map Value.bool).toArray[m]=.bool b:=λ{m b} d h=>by
  rw[List.getElem_toArray,List.getElem_map,(qp.mp h).2]
 have sz:(bs.map Value.bool).toArray.size=bs.length:=by simp
 refine call_meets PySem.F.slot_list_index ⟨_,e,U⟩ PySem.F.entry_list_index (PySem.F.args_list_index_2 _ _)
  (MeetsSeq.list_index l (bs.map Value.bool).toArray n (.bool y) (tT y) (λw hw=>?_) i Yo Yo ?_ (λm d a=>?_)) ⟨e,?_⟩
 .obtain⟨b,_,rfl⟩:=List.mem_map.mp (by simpa using hw:w∈bs.map Value.bool);exact λprog w A E s Q h=>PySem.SeqAt.EqAt.bool_bool b y prog w E Q h
 .rw[at2 _ c];simp[tT]
 .rw[at2 _ (hn m a)];simp[tT]
 .exact⟨.int i,H,I.tok _,⟨_,U⟩,q⟩
theorem Cv(e:X.K=K):cL X (.builtin "len") (rH K):=by
 subst e;exact bn
end L2
namespace L2
open PySem PySem.Spec PyProof.Rows PySem.W
section
variable {x0:Str}{k:Nat}
end
section
variable {x0:Str}{k:Nat}{iter elt:Expr}{g:TG}
end
open PySem.SeqAt
open PySem.AutoSeq1 (wpAny_loadPart')
open PySem.MeetsSeq PySem.MeetsSeq2 PySem.MeetsSeq3
section
variable {R:Result->Shared->Prop}{wr:LK}{P:Nat->Value->Prop}{St:Nat->Heap->Prop}
end
end L2
namespace Tr
open PySem PySem.Spec PyProof.Rows L2
end Tr
namespace L2
open PySem PySem.Spec PyProof.Rows PySem.W
end L2
namespace Tr
open PySem PySem.Spec PyProof.Rows L2
section
variable {D:Hue}{b0:Nat}
end
open Classical in
section
variable {D:Hue}{b0:Nat}{N M N':NetG}{cd cd' due due':LS}
end
section
variable {D:Hue}{b0:Nat}{N M N':NetG}{cd cd' due due':LS}
end
section
variable {D:Hue}{b0:Nat}{N M N':NetG}{cd cd' due due':LS}
end
end Tr
namespace L2
open PySem PySem.Spec PyProof.Rows
open AutoSeq1 (wpAny_loadPart')
open MeetsSeq
end L2
namespace Tr
open PySem PySem.Spec PyProof.Rows L2
section
variable {D:Hue}{zs due:LS}{N:NetG}{z:Str}{L todo:LI}{l:Int}
end
end Tr
namespace L2
open PySem PySem.Spec PyProof.Rows
end L2
namespace Tr
open PySem PySem.Spec PyProof.Rows L2
end Tr
namespace L2
open PySem PySem.F PySem.Spec PyProof.Rows PySem.W
def Ap(td:TE):TE:=λY H Q=>td Y H λx H1=>∃a kvs,x=.ref a/\H1 a=some (.dK kvs)/\∀l,H1 l=none->Q (.ref l) (upd H1 l (.lst (kvs.map (·.2))))
theorem yq:∀{kvs:LN}{qs:List (Key×Value)},KV kvs qs->aB (kvs.map (·.2)) (qs.map (·.2))
 |_,_,.nil=>.nil
 |_,_,.cons hx r=>.cons hx.2 (yq r)
theorem D7{o:Expr}{S i:Pos}{y:TE}(hc:X.calm=true)(N:Gl X "list")(M:X.mg "list"=none)(K:PE X o y)
 (l:attributeBase o "values" X.env (eval o X.env)=eval o X.env:=by rfl) (m:(apos.endLine == cpos.line)=true:=by rfl)
 (n:starEach [.Call (.Attribute o "values" apos) [] [] cpos] X.env=[(false,eval (.Call (.Attribute o "values" apos) [] [] cpos) X.env)]:=by rfl):
 PE X (.Call (.Name "list" S) [.Call (.Attribute o "values" apos) [] [] cpos] [] i) (Ap y):=by
 intro u s T H Q I h;refine wpAny_Call_Name_kw (gO I N M PyProof.Rows.Boot.«list» ?_);refine PyProof.Rows.callWith_type1 ?_ (by rw[n];rfl) U;rw[n];show wpAny _ _ (spliced ((false,eval (.Call (.Attribute o "values" apos) [] [] cpos) X.env)::backTo i [])) _ _ s;refine Calls.spliced_cons ?_;refine wpAny_Call_method0_late l m (thn (K u s T H _ I h) λv f ⟨x,_,k,R,a,kvs,ex,B,q⟩=>?_);subst ex;obtain rfl:v=Value.ref a:=R;obtain⟨z,hd,vs,p,t⟩:=jI k.hok B;obtain⟨E,O,_⟩:=sV k (.inl ⟨kvs,.inl B⟩);refine⟨"dict","dict.values",PySem.F.plainAttrs_dict,PySem.F.slot_dict_values,PySem.F.type_dict_values,E,O,Calls.callWith_builtin U (PySem.evalArgs_none ?_)⟩;refine call_meetsIn PySem.F.slot_dict_values t.typeIs PySem.F.entry_dict_values (PySem.F.args_dict_values_1 _) (meets_dict_values (d7 X.prog X.w) a hd) ⟨⟨vs,t⟩,?_⟩;refine Calls.spliced_nil ?_;obtain⟨ep,L⟩:=t.dictAt;have V:=p.length;refine PySem.W.kdl_call (s:={ f with heap:=f.heap.push { cls:=.type "dict_values",data:=.fields #[.ref a] } }) (PySem.W.kdl_values (knd:=d7 X.prog X.w) (kvs:=vs) (ep:=ep) (r:=f.heap.objs.size) (d:=a)) (k.ok.hd hc) ⟨⟨_,qy _ U,U,U⟩,L.push _⟩ Yo λh' tk g c old hl C=>?_
 have G:aB (kvs.map (·.2)) g.toList:=by
  rw[PySem.W.kdl_vals_eq (kvs:=vs) g.toList (by rw[qU];exact C.1) λj v P=>C.2 j v (by simpa using P)];exact yq p
 have D:(f.heap.push ({ cls:=.type "dict_values",data:=.fields #[.ref a] }:Obj)).objs.size=f.heap.objs.size+1:=Qo _ _;have A:f.heap.objs.size<=(f.heap.push ({ cls:=.type "dict_values",data:=.fields #[.ref a] }:Obj)).objs.size:=by rw[D];omega
 have J:=k.laid (t':=tk) (h':=h') (a:=(f.heap.push ({ cls:=.type "dict_values",data:=.fields #[.ref a] }:Obj)).objs.size) (o:=.lst (kvs.map (·.2))) (λb o e=>old b o (qf _ e)) A ⟨by rw[qc];omega,g.toList,c,G,by simpa using hl⟩;exact⟨.ref _,_,J,U,q _ (k.hok.fresh A)⟩
theorem Gx{l:Addr}{xs:LV}{g:TG}{e:LV->Hp->Prop}(c:Nat->LV->St->Hp->Prop)(h0:c 0 [] Y H)(n:∀i ys Y H,i<=xs.length->c i ys Y H->ys.length<=i)(r:xs.length<=sizeLine)(hl:∀i ys Y H,c i ys Y H->SqL K H l xs)
 (hs:∀i x ys Y H p,xs[i]?=some x->c i ys Y H->H p=none->g (.ref p) Y (upd H p (.tup [.int i,x])) λd H2=>tt d H2 λb f=>if b=true then te d f λy H4=>c (i+1) (ys++[y]) d H4 else c (i+1) ys d f)
 (hd:∀ys Y H,c xs.length ys Y H->e ys H):∃W:Nat->Nat->LV->St->Hp->Prop,(∃m,W 0 m [] Y H)/\iA (Ite K l) g tt te e W:=by
 exists λi m ys Y H=>m=xs.length-i/\i<=xs.length/\c i ys Y H,⟨_,U,qC _,h0⟩;rintro i m ys Y H ⟨rfl,h,p⟩;have o:=n i ys Y H h p;have q:=hl i ys Y H p;by_cases hlt:i<xs.length
 .refine .inr ⟨⟨xs,xs[i],q,by simp[hlt]⟩,Yo,c (i+1),λ_ _ H' j=>⟨_,Yo,U,hlt,j⟩,λv H' y=>?_⟩;obtain⟨a,x,hn,rfl,rfl,k⟩:=y;exact hs i x ys Y H a (k xs q) p hn
 .obtain rfl:i=xs.length:=by omega
  exact .inl ⟨⟨xs,q,qo _⟩,Yo,hd ys Y H p⟩
end L2
set_option Elab.async false
set_option maxRecDepth 100000
set_option maxHeartbeats 4000000
namespace K27
open PySem L2 Tr
seal PE PT PW PA PS PSs PG PGs PI PTs PO OpR UnR cL TruR IxR SlR
local macro_rules|`(tactic| walk_at "rds")=>`(tactic| first|assumption|decide|omega)
local macro_rules|`(tactic| walk_at "rd")=>`(tactic| repeat (first|refine⟨_,rfl,?_⟩|refine⟨_,_,rfl,rfl,?_⟩|refine⟨rfl,_,rfl,?_⟩|refine⟨_,_,rfl,rfl,by walk_at "rds",?_⟩|refine And.intro (by walk_at "rds") ?_))
local macro_rules|`(tactic| walk_at "yes")=>`(tactic| refine aU (by decide +kernel) ?_)
local macro_rules|`(tactic| walk_at "no")=>`(tactic| refine ar (by decide +kernel) ?_)
local macro_rules|`(tactic| walk_at "l")=>`(tactic| (intro _ _ _ _ h;cases h;subst_vars;rfl))
local macro_rules|`(tactic| walk_at "q")=>`(tactic| try dsimp only[iU,Cx.nox])
abbrev oz:Stmt:=top 3
abbrev lF:Stmt:=top 4
abbrev oA:Stmt:=top 5
abbrev lE:Stmt:=top 6
abbrev oK:Stmt:=top 7
abbrev jn:Stmt:=inClass (top 9) 0
abbrev pV:Stmt:=inClass (top 9) 1
abbrev pS:Stmt:=inClass (top 9) 2
abbrev pU:Stmt:=inClass (top 9) 3
abbrev oO:Stmt:=top 10
abbrev oN:Stmt:=top 11
abbrev k9:Stmt:=inClass (top 13) 0
abbrev pR:Stmt:=inClass (top 13) 1
abbrev pP:Stmt:=inClass (top 13) 2
abbrev pQ:Stmt:=inClass (top 13) 3
abbrev lH:Stmt:=top 14
abbrev oC:Stmt:=top 15
abbrev oG:Stmt:=top 16
abbrev oV:Stmt:=top 20
abbrev oU:Stmt:=top 21
abbrev lG:Stmt:=top 22
abbrev oE:Stmt:=top 23
abbrev oB:Stmt:=top 27
abbrev oJ:Stmt:=top 28
abbrev oF:Stmt:=top 29
abbrev oP:Stmt:=top 30
abbrev oT:Stmt:=top 31
abbrev oQ:Stmt:=top 38
abbrev oR:Stmt:=top 39
abbrev oy:Stmt:=top 40
abbrev ou:Stmt:=top 41
abbrev ox:Stmt:=top 42
abbrev oH:Stmt:=top 43
abbrev oS:Stmt:=top 44
abbrev pN:Stmt:=top 46
abbrev pI:Stmt:=top 47
abbrev oW:Stmt:=top 48
abbrev pJ:Stmt:=top 49
abbrev ph:Stmt:=top 50
abbrev pC:Stmt:=top 51
abbrev pA:Stmt:=top 52
abbrev pF:Stmt:=top 53
abbrev pO:Stmt:=top 54
abbrev pH:Stmt:=top 55
abbrev pB:Stmt:=top 56
abbrev pK:Stmt:=top 57
abbrev lK:Stmt:=top 58
abbrev k7:Stmt:=top 59
abbrev pL:Stmt:=top 60
abbrev pM:Stmt:=top 61
abbrev oX:Stmt:=top 62
abbrev pG:Stmt:=top 63
abbrev pE:Stmt:=top 64
abbrev lM:Stmt:=top 65
abbrev pD:Stmt:=top 66
abbrev lJ:Stmt:=top 67
abbrev oY:Stmt:=top 68
abbrev oZ:Stmt:=top 69
abbrev k6:Stmt:=top 70
abbrev h8:Stmt:=top 71
theorem Bx:aP ["deeds","stores"] ["deeds","stores"] (aD oz):=⟨U,U,U,Yd,U,Yd,Yd⟩
theorem eV:aP ["waits_by_cards","deeds","stores","waits","puts_by_store","gets_by_store","store","length","puts","gets","put","get","count","awaited"] ["waits_by_cards","deeds","stores"] (aD lF):=⟨U,U,U,Yd,U,Yd,Yd⟩
theorem jb:aP ["deeds","owners","waits","number","deed","card"] ["deeds"] (aD oA):=⟨U,U,U,Yd,U,Yd,Yd⟩
theorem By:aP ["cards","kind","owners"] ["cards","kind","owners"] (aD lE):=⟨U,U,U,Yd,U,Yd,Yd⟩
theorem lB:aP ["deeds","place","numbers","number","deed"] ["deeds","place"] (aD oK):=⟨U,U,U,Yd,U,Yd,Yd⟩
theorem BK:aP ["self","waits"] ["self","waits"] (aD jn):=⟨U,U,U,Yd,U,Yd,Yd⟩
theorem lD:aP ["self","deed","ready","looking","wait"] ["self","deed"] (aD pV):=⟨U,U,U,Yd,U,Yd,Yd⟩
theorem oq:aP ["self","deed","waits","wait"] ["self","deed"] (aD pS):=⟨U,U,U,Yd,U,Yd,Yd⟩
theorem jj:aP ["self","deed","places","path","wait"] ["self"] (aD pU):=⟨U,U,U,Yd,U,Yd,Yd⟩
theorem BD:aP ["deeds","stores"] ["deeds","stores"] (aD oO):=⟨U,U,U,Yd,U,Yd,Yd⟩
theorem o8:aP ["waits","looking","deed"] ["waits"] (aD oN):=⟨U,U,U,Yd,U,Yd,Yd⟩
theorem wG:aP ["self","deeds","stores","peaks"] ["self","deeds","stores"] (aD k9):=⟨U,U,U,Yd,U,Yd,Yd⟩
theorem wF:aP ["self","place","length","stores"] ["self","place","length"] (aD pR):=⟨U,U,U,Yd,U,Yd,Yd⟩
theorem jZ:aP ["self","place","least","enough","middle"] ["self","place","least"] (aD pP):=⟨U,U,U,Yd,U,Yd,Yd⟩
theorem wD:aP ["self","place","store"] ["self","place"] (aD pQ):=⟨U,U,U,Yd,U,Yd,Yd⟩
theorem jd:aP ["deeds","stores","mender","place","store","longer","papers"] ["deeds","stores"] (aD lH):=⟨U,U,U,Yd,U,Yd,Yd⟩
theorem o7:aP ["waits","kept","wait"] ["waits"] (aD oC):=⟨U,U,U,Yd,U,Yd,Yd⟩
theorem jc:aP ["deeds","standing","peaks","deed","into","outof"] ["deeds"] (aD oG):=⟨U,U,U,Yd,U,Yd,Yd⟩
theorem jW:aP ["block","found","deed","inner"] ["block"] (aD oV):=⟨U,U,U,Yd,U,Yd,Yd⟩
theorem BF:aP ["deed"] ["deed"] (aD oU):=⟨U,U,U,Yd,U,Yd,Yd⟩
theorem wz:aP ["deed","kind"] ["deed"] (aD lG):=⟨U,U,U,Yd,U,Yd,Yd⟩
theorem Bz:aP ["deed"] ["deed"] (aD oE):=⟨U,U,U,Yd,U,Yd,Yd⟩
theorem o6:aP ["block","cards","deed"] ["block"] (aD oB):=⟨U,U,U,Yd,U,Yd,Yd⟩
theorem BC:aP ["deed"] ["deed"] (aD oJ):=⟨U,U,U,Yd,U,Yd,Yd⟩
theorem BA:aP ["store"] ["store"] (aD oF):=⟨U,U,U,Yd,U,Yd,Yd⟩
theorem BE:aP ["store"] ["store"] (aD oP):=⟨U,U,U,Yd,U,Yd,Yd⟩
theorem lC:aP ["program","cards","store","length"] ["program"] (aD oT):=⟨U,U,U,Yd,U,Yd,Yd⟩
theorem wA:aP ["program","deeds"] ["program"] (aD oQ):=⟨U,U,U,Yd,U,Yd,Yd⟩
theorem jV:aP ["block","count","deed"] ["block"] (aD oR):=⟨U,U,U,Yd,U,Yd,Yd⟩
theorem lA:aP ["block","deeds","deed"] ["block"] (aD oy):=⟨U,U,U,Yd,U,Yd,Yd⟩
theorem wx:aP ["rounds","body","gate"] ["rounds","body"] (aD ou):=⟨U,U,U,Yd,U,Yd,Yd⟩
theorem wy:aP ["deed","kind"] ["deed"] (aD ox):=⟨U,U,U,Yd,U,Yd,Yd⟩
theorem BB:aP ["kind","cards"] ["kind","cards"] (aD oH):=⟨U,U,U,Yd,U,Yd,Yd⟩
theorem je:aP ["deeds","standing","number","deed","into","outof"] ["deeds"] (aD oS):=⟨U,U,U,Yd,U,Yd,Yd⟩
theorem BJ:aP ["_law_script","_law_k"] ["_law_script","_law_k"] (aD pN):=⟨U,U,U,Yd,U,Yd,Yd⟩
theorem wC:aP ["_law_cell","_law_k","_law_number_here"] ["_law_cell","_law_k"] (aD pI):=⟨U,U,U,Yd,U,Yd,Yd⟩
theorem BG:aP ["_law_found"] ["_law_found"] (aD oW):=⟨U,U,U,Yd,U,Yd,Yd⟩
theorem jg:aP ["_law_number_here","_law_size","_law_some","_law_word","_law_k"] ["_law_number_here","_law_size"] (aD pJ):=⟨U,U,U,Yd,U,Yd,Yd⟩
theorem wB:aP ["_law_word","_law_some"] ["_law_word"] (aD ph):=⟨U,U,U,Yd,U,Yd,Yd⟩
theorem fk:aP ["_law_cell","_law_many","_law_some","_law_number_here","_law_base","_law_size","_law_at","_law_words","_law_k","_law_sign","_law_word"] ["_law_cell","_law_many"] (aD pC):=⟨U,U,U,Yd,U,Yd,Yd⟩
theorem gZ:aP ["_law_number_here","_law_names","_law_rooms","_law_shut","_law_kind","_law_rest","_law_x","_law_a","_law_b"] ["_law_number_here","_law_names","_law_rooms","_law_shut"] (aD pA):=⟨U,U,U,Yd,U,Yd,Yd⟩
theorem eW:aP ["_law_state","_law_number_here","_law_x","_law_most","_law_kind","_law_rest","_law_inner","_law_other","_law_shut","_law_times","_law_now","_law_many"] ["_law_state","_law_number_here","_law_x","_law_most"] (aD pF):=⟨U,U,U,Yd,U,Yd,Yd⟩
theorem iE:aP ["_law_cells","_law_names","_law_rooms","_law_most","_law_low","_law_body","_law_state","_law_cell","_law_number_here","_law_kind","_law_part"] ["_law_cells","_law_names","_law_rooms","_law_most","_law_low"] (aD pO):=⟨U,U,U,Yd,U,Yd,Yd⟩
theorem jf:aP ["_law_block_here","_law_moves_here","_law_one","_law_inner","_law_k"] ["_law_block_here"] (aD pH):=⟨U,U,U,Yd,U,Yd,Yd⟩
theorem gC:aP ["_law_moves_here","_law_q","_law_now","_law_low","_law_high","_law_kind","_law_store"] ["_law_moves_here","_law_q"] (aD pB):=⟨U,U,U,Yd,U,Yd,Yd⟩
theorem BI:aP ["_law_pick","_law_peak"] ["_law_pick","_law_peak"] (aD pK):=⟨U,U,U,Yd,U,Yd,Yd⟩
theorem eu:aP ["_law_script","_law_most","_law_first","_law_second","_law_third","_law_words","_law_names","_law_rooms","_law_body","_law_moves_here","_law_front","_law_stores_here","_law_k","_law_lacking","_law_peak","_law_asks"] ["_law_script","_law_most"] (aD lK):=⟨U,U,U,Yd,U,Yd,Yd⟩
theorem ji:aP ["_law_deeds","_law_many","_law_rows","_law_row","_law_owned_here","_law_card"] ["_law_deeds"] (aD k7):=⟨U,U,U,Yd,U,Yd,Yd⟩
theorem jh:aP ["_law_deeds","_law_ahead_here","_law_lengths","_law_state","_law_k","_law_card","_law_many","_law_row"] ["_law_deeds","_law_ahead_here","_law_lengths","_law_state","_law_k"] (aD pL):=⟨U,U,U,Yd,U,Yd,Yd⟩
theorem oo:aP ["_law_deeds","_law_state","_law_k","_law_row","_law_card"] ["_law_deeds","_law_state","_law_k"] (aD pM):=⟨U,U,U,Yd,U,Yd,Yd⟩
theorem o9:aP ["_law_deeds","_law_ahead_here","_law_lengths","_law_order","_law_state","_law_k"] ["_law_deeds","_law_ahead_here","_law_lengths","_law_order"] (aD oX):=⟨U,U,U,Yd,U,Yd,Yd⟩
theorem jY:aP ["_law_deeds","_law_many","_law_numbers","_law_row","_law_key"] ["_law_deeds"] (aD pG):=⟨U,U,U,Yd,U,Yd,Yd⟩
theorem oh:aP ["_law_pairs","_law_card","_law_one","_law_many"] ["_law_pairs","_law_card"] (aD pE):=⟨U,U,U,Yd,U,Yd,Yd⟩
theorem iD:aP ["_law_deeds","_law_ahead_here","_law_numbers","_law_lengths","_law_k","_law_wait","_law_j","_law_kind","_law_name","_law_many","_law_below","_law_freed"] ["_law_deeds","_law_ahead_here","_law_numbers","_law_lengths","_law_k","_law_wait"] (aD lM):=⟨U,U,U,Yd,U,Yd,Yd⟩
theorem BH:aP ["_law_one","_law_many"] ["_law_one","_law_many"] (aD pD):=⟨U,U,U,Yd,U,Yd,Yd⟩
theorem gB:aP ["_law_deeds","_law_ahead_here","_law_lengths","_law_state","_law_ring","_law_numbers","_law_seen","_law_rooms","_law_k","_law_at","_law_kind","_law_name"] ["_law_deeds","_law_ahead_here","_law_lengths","_law_state","_law_ring"] (aD lJ):=⟨U,U,U,Yd,U,Yd,Yd⟩
theorem oa:aP ["_law_rows","_law_ahead_here","_law_stores_here","_law_ring","_law_found","_law_state"] ["_law_rows","_law_ahead_here","_law_stores_here","_law_ring"] (aD oY):=⟨U,U,U,Yd,U,Yd,Yd⟩
theorem og:aP ["_law_found","_law_kept","_law_k","_law_one"] ["_law_found","_law_kept"] (aD oZ):=⟨U,U,U,Yd,U,Yd,Yd⟩
theorem jX:aP ["_law_rows","_law_ahead_here","_law_kept","_law_longer","_law_papers_here","_law_names","_law_k","_law_one","_law_less"] ["_law_rows","_law_ahead_here","_law_kept","_law_longer","_law_papers_here"] (aD k6):=⟨U,U,U,Yd,U,Yd,Yd⟩
theorem fL:aP ["_law_script","_law_program_here","_law_rows","_law_ahead_here","_law_kept","_law_handed","_law_stores_here","_law_found","_law_longer","_law_papers_here","_law_state"] ["_law_script"] (aD h8):=⟨U,U,U,Yd,U,Yd,Yd⟩
set_option genInjectivity false in
structure Adr where
 Ix:Addr
 Iy:FuncData
 Iz:Addr
 IA:FuncData
 IB:Addr
 IC:FuncData
 ID:Addr
 IE:FuncData
 IF:Addr
 IG:FuncData
 HM:Addr
 HN:FuncData
 HP:Addr
 HQ:FuncData
 HR:Addr
 HS:FuncData
 HU:Addr
 HV:FuncData
 IH:Addr
 II:FuncData
 IJ:Addr
 IK:FuncData
 HW:Addr
 HX:FuncData
 HY:Addr
 HZ:FuncData
 I0:Addr
 Ia:FuncData
 Ib:Addr
 Ic:FuncData
 IL:Addr
 IM:FuncData
 IN:Addr
 IO:FuncData
 IP:Addr
 IQ:FuncData
 IR:Addr
 IS:FuncData
 IT:Addr
 IU:FuncData
 IV:Addr
 IW:FuncData
 IX:Addr
 IY:FuncData
 IZ:Addr
 J0:FuncData
 J1:Addr
 J2:FuncData
 J3:Addr
 J4:FuncData
 J5:Addr
 J6:FuncData
 J7:Addr
 J8:FuncData
 J9:Addr
 Ja:FuncData
 Jb:Addr
 Jc:FuncData
 Id:Addr
 Ie:FuncData
 Jd:Addr
 Je:FuncData
 Jf:Addr
 Jg:FuncData
 Jh:Addr
 Ji:FuncData
 Jj:Addr
 Jk:FuncData
 Jl:Addr
 Jm:FuncData
 Jn:Addr
 Jo:FuncData
 Jp:Addr
 Jq:FuncData
 Jr:Addr
 Js:FuncData
 Jt:Addr
 Ju:FuncData
 Jv:Addr
 Jw:FuncData
 Jx:Addr
 Jy:FuncData
 Jz:Addr
 JA:FuncData
 JB:Addr
 JC:FuncData
 JD:Addr
 JE:FuncData
 JF:Addr
 JG:FuncData
 JH:Addr
 JI:FuncData
 JJ:Addr
 JK:FuncData
 JL:Addr
 JM:FuncData
 JN:Addr
 JO:FuncData
 JP:Addr
 JQ:FuncData
 JR:Addr
 JS:FuncData
 JT:Addr
 JU:FuncData
 JV:Addr
 JW:FuncData
 JX:Addr
 JY:FuncData
 JZ:Addr
 K0:FuncData
 K1:Addr
 K2:FuncData
 K3:Addr
 K4:FuncData
 K5:Addr
 K6:FuncData
 K7:Addr
 K8:FuncData
 K9:Addr
 Ka:FuncData
 Kb:Tok
 Kc:Tok
 Ev:Addr
 Go:Addr
 Kd:Tok
 Hv:Addr
 Ke:Tok
 dz:Addr
 gt:Addr
structure Fb3(K:W.Frag)(mg:Str->LO)(x:Str)(st:Stmt)(f:Addr)(fd:FuncData)(ps:LS):Prop where
 m:mg x=some (.ref f)
 F:Fun K x x st f fd
 b:dH K fd ps []
theorem aC{k:Nat}{st:Stmt}{es:LR}{t:TA}{p:Pos}(F:aK X.prog X.w X.K X.mg X.base CX0 k f fd ps sp)(hr:cw k X.A)(h:Fb3 X.K X.mg x st f fd ps)(ha:PA X (e::es) t)(d:Gl X x:=by rfl)(c:iu CX0 X E0:=by exact fS)(hd:(x == ("__debug__":Str))=false:=by decide)(a:starEach (e::es) X.env=(false,eval e X.env)::starEach es X.env:=by rfl)(g:(backTo pos (starEach es X.env)).any (·.1)=false:=by rfl):PE X (.Call (.Name x p) (e::es) [] pos) (uG sp [] E0 t):=Dd F hr d h.m h.F.kp h.b .nil c ha hd a g
structure Tx(P:Program)(w:World)(K:W.Frag)(mg:Str->LO)(a:Adr):Prop where
 Kf:Fb3 K mg "waits_of" oz a.Ix a.Iy ["deeds","stores"]
 Ig:Fb3 K mg "waits_behind" lF a.Iz a.IA ["waits_by_cards","deeds","stores"]
 Ih:Fb3 K mg "waits_for_cards" oA a.IB a.IC ["deeds"]
 Ii:Fb3 K mg "waits_by" lE a.ID a.IE ["cards","kind","owners"]
 Ij:Fb3 K mg "numbers_by_store" oK a.IF a.IG ["deeds","place"]
 KP:Fun K "__init__" "Looking.__init__" jn a.HM a.HN
 KQ:dH K a.HN ["self","waits"] []
 KR:Fun K "look_at" "Looking.look_at" pV a.HP a.HQ
 KS:dH K a.HQ ["self","deed"] []
 KU:Fun K "stopped_by" "Looking.stopped_by" pS a.HR a.HS
 Kg:dH K a.HS ["self","deed"] []
 KW:Fun K "ring" "Looking.ring" pU a.HU a.HV
 KY:dH K a.HV ["self"] []
 Hw:Fb3 K mg "looked" oO a.IH a.II ["deeds","stores"]
 Ik:Fb3 K mg "looked_through" oN a.IJ a.IK ["waits"]
 KZ:Fun K "__init__" "Mender.__init__" k9 a.HW a.HX
 L0:dH K a.HX ["self","deeds","stores"] []
 L1:Fun K "look_with" "Mender.look_with" pR a.HY a.HZ
 Kh:dH K a.HZ ["self","place","length"] []
 L3:Fun K "shorten" "Mender.shorten" pP a.I0 a.Ia
 L4:dH K a.Ia ["self","place","least"] []
 L6:Fun K "paper" "Mender.paper" pQ a.Ib a.Ic
 L7:dH K a.Ic ["self","place"] []
 Ki:Fb3 K mg "mended" lH a.IL a.IM ["deeds","stores"]
 Kj:Fb3 K mg "thinned" oC a.IN a.IO ["waits"]
 Kk:Fb3 K mg "peaks_of" oG a.IP a.IQ ["deeds"]
 Hy:Fb3 K mg "all_deeds" oV a.IR a.IS ["block"]
 Kl:Fb3 K mg "blocks_within" oU a.IT a.IU ["deed"]
 Il:Fb3 K mg "names_in" lG a.IV a.IW ["deed"]
 Km:Fb3 K mg "read_by_set" oE a.IX a.IY ["deed"]
 Hz:Fb3 K mg "touched" oB a.IZ a.J0 ["block"]
 Kn:Fb3 K mg "other_cards_in" oJ a.J1 a.J2 ["deed"]
 HA:Fb3 K mg "put_card" oF a.J3 a.J4 ["store"]
 HB:Fb3 K mg "get_card" oP a.J5 a.J6 ["store"]
 Ko:Fb3 K mg "cards_of" oT a.J7 a.J8 ["program"]
 Kp:Fb3 K mg "deeds_of" oQ a.J9 a.Ja ["program"]
 HC:Fb3 K mg "counted" oR a.Jb a.Jc ["block"]
 HD:Fb3 K mg "written" oy a.Id a.Ie ["block"]
 Kq:Fb3 K mg "written_rounds" ou a.Jd a.Je ["rounds","body"]
 Kr:Fb3 K mg "written_once" ox a.Jf a.Jg ["deed"]
 HE:Fb3 K mg "owner_of" oH a.Jh a.Ji ["kind","cards"]
 Ks:Fb3 K mg "check_gets" oS a.Jj a.Jk ["deeds"]
 HF:Fb3 K mg "_law_cell_at" pN a.Jl a.Jm ["_law_script","_law_k"]
 or:Fb3 K mg "_law_mixed" pI a.Jn a.Jo ["_law_cell","_law_k"]
 HG:Fb3 K mg "_law_whole" oW a.Jp a.Jq ["_law_found"]
 Im:Fb3 K mg "_law_letters" pJ a.Jr a.Js ["_law_number_here","_law_size"]
 Kt:Fb3 K mg "_law_spelt" ph a.Jt a.Ju ["_law_word"]
 Io:Fb3 K mg "_law_pool" pC a.Jv a.Jw ["_law_cell","_law_many"]
 Ku:Fb3 K mg "_law_simple" pA a.Jx a.Jy ["_law_number_here","_law_names","_law_rooms","_law_shut"]
 Kv:Fb3 K mg "_law_opened" pF a.Jz a.JA ["_law_state","_law_number_here","_law_x","_law_most"]
 Kw:Fb3 K mg "_law_block" pO a.JB a.JC ["_law_cells","_law_names","_law_rooms","_law_most","_law_low"]
 HH:Fb3 K mg "_law_moves" pH a.JD a.JE ["_law_block_here"]
 Kx:Fb3 K mg "_law_reach" pB a.JF a.JG ["_law_moves_here","_law_q"]
 Ky:Fb3 K mg "_law_length" pK a.JH a.JI ["_law_pick","_law_peak"]
 Kz:Fb3 K mg "_law_program" lK a.JJ a.JK ["_law_script","_law_most"]
 KA:Fb3 K mg "_law_ahead" k7 a.JL a.JM ["_law_deeds"]
 Ip:Fb3 K mg "_law_lacks" pL a.JN a.JO ["_law_deeds","_law_ahead_here","_law_lengths","_law_state","_law_k"]
 KB:Fb3 K mg "_law_do" pM a.JP a.JQ ["_law_deeds","_law_state","_law_k"]
 Iq:Fb3 K mg "_law_walk" oX a.JR a.JS ["_law_deeds","_law_ahead_here","_law_lengths","_law_order"]
 KC:Fb3 K mg "_law_number" pG a.JT a.JU ["_law_deeds"]
 Ir:Fb3 K mg "_law_owned" pE a.JV a.JW ["_law_pairs","_law_card"]
 KD:Fb3 K mg "_law_meets" lM a.JX a.JY ["_law_deeds","_law_ahead_here","_law_numbers","_law_lengths","_law_k","_law_wait"]
 KE:Fb3 K mg "_law_paper" pD a.JZ a.K0 ["_law_one","_law_many"]
 KF:Fb3 K mg "_law_ringed" lJ a.K1 a.K2 ["_law_deeds","_law_ahead_here","_law_lengths","_law_state","_law_ring"]
 KG:Fb3 K mg "_law_tight" oY a.K3 a.K4 ["_law_rows","_law_ahead_here","_law_stores_here","_law_ring"]
 KH:Fb3 K mg "_law_stores" oZ a.K5 a.K6 ["_law_found","_law_kept"]
 KI:Fb3 K mg "_law_papers" k6 a.K7 a.K8 ["_law_rows","_law_ahead_here","_law_kept","_law_longer","_law_papers_here"]
 L8:Fb3 K mg "law" h8 a.K9 a.Ka ["_law_script"]
 L9:mg "bool"=none
 Iu:mg "dict"=none
 Ch:mg "enumerate"=none
 La:mg "int"=none
 ld:mg "isinstance"=none
 ad:mg "len"=none
 mt:mg "list"=none
 HI:mg "max"=none
 KJ:mg "min"=none
 u8:mg "range"=none
 Lb:mg "reversed"=none
 HJ:mg "set"=none
 HK:mg "sorted"=none
 Cl:mg "str"=none
 wE:mg "tuple"=none
 Lc:mg "zip"=none
 Ld:mg "INTO"=some (.int 3 a.Kb)
 Le:mg "OUT_OF"=some (.int 4 a.Kc)
 Lf:mg "LOOPS"=some (.ref a.Ev)
 wP:∀H:Hp,SqT K H a.Ev [.str "while",.str "repeat"]
 Lg:mg "LOOKERS"=some (.ref a.Go)
 wS:∀H:Hp,SqT K H a.Go [.str "if",.str "while"]
 Iv:mg "OUTLET"=some (.str ">" a.Kd)
 Lh:mg "OUTLET_KEEPERS"=some (.ref a.Hv)
 wT:∀H:Hp,SqT K H a.Hv [.str "give",.str "while"]
 Li:mg "MOST_DEEDS"=some (.int 2000 a.Ke)
 Lj:mg "Looking"=some (.ref a.dz)
 f8:Cls K a.dz
 Lk:Mk K a.dz a.HM
 Ll:ee K a.dz "look_at" a.HP
 KK:ee K a.dz "stopped_by" a.HR
 Lm:ee K a.dz "ring" a.HU
 KL:dP K a.dz "waits"
 Cn:dP K a.dz "order"
 HL:dP K a.dz "finished"
 Db:dP K a.dz "over"
 Iw:dP K a.dz "stuck"
 Lo:mg "Mender"=some (.ref a.gt)
 om:Cls K a.gt
 Lp:Mk K a.gt a.HW
 KM:ee K a.gt "look_with" a.HY
 Lq:ee K a.gt "shorten" a.I0
 Lr:ee K a.gt "paper" a.Ib
 KN:dP K a.gt "deeds"
 KO:dP K a.gt "by_cards"
 At:dP K a.gt "stores"
theorem Tx.r_INTO{a:Adr}(_:Tx P w K mg a):aE (.int 3) (.int 3 a.Kb):=⟨_,U⟩
theorem Tx.r_OUT_OF{a:Adr}(_:Tx P w K mg a):aE (.int 4) (.int 4 a.Kc):=⟨_,U⟩
theorem Tx.r_LOOPS{a:Adr}(_:Tx P w K mg a):aE (.ref a.Ev) (.ref a.Ev):=U
theorem Tx.r_LOOKERS{a:Adr}(_:Tx P w K mg a):aE (.ref a.Go) (.ref a.Go):=U
theorem Tx.r_OUTLET{a:Adr}(_:Tx P w K mg a):aE (.str ">") (.str ">" a.Kd):=⟨_,U⟩
theorem Tx.r_OUTLET_KEEPERS{a:Adr}(_:Tx P w K mg a):aE (.ref a.Hv) (.ref a.Hv):=U
theorem Tx.r_MOST_DEEDS{a:Adr}(_:Tx P w K mg a):aE (.int 2000) (.int 2000 a.Ke):=⟨_,U⟩
inductive ve(vs:LV)(H:Hp)(Q:VK)(E:XK):Prop
 |mk (q:Str) (h0_:vs=[.str q]) (h1_:q.length<=1000) (h2_:Q (.str (q++(">":Str))) H):ve vs H Q E
inductive vo(vs:LV)(H:Hp)(Q:VK)(E:XK):Prop
 |mk (q:Str) (h0_:vs=[.str q]) (h1_:q.length<=1000) (h2_:Q (.str (q++("<":Str))) H):vo vs H Q E
inductive vi(vs:LV)(H:Hp)(Q:VK)(E:XK):Prop
 |mk (H0:Hp) (v:V) (d:ae) (h0_:vs=[v]) (h1_:a9 H0 H) (h2_:RD H0 v d) (h3_:∀H' l,a9 H H'->H l=none->H' l=some (.lst (d.names.map V.str))->Q (.ref l) H'):vi vs H Q E
inductive vy(vs:LV)(H:Hp)(Q:VK)(E:XK):Prop
 |mk (H0:Hp) (v:V) (d:ae) (h0_:vs=[v]) (h1_:a9 H0 H) (h2_:RD H0 v d) (h3_:∀H' l bs,a9 H H'->H l=none->H' l=some (.lst (bs.map V.ref))->RLs H0 bs d.inner->Q (.ref l) H'):vy vs H Q E
inductive vg(vs:LV)(H:Hp)(Q:VK)(E:XK):Prop
 |mk (H0:Hp) (v:V) (d:ae) (h0_:vs=[v]) (h1_:a9 H0 H) (h2_:RD H0 v d) (h3_:(∀k∈d.others,k.length<=1000)) (h4_:∀H' l,a9 H H'->H l=none->H' l=some (.lst (d.others.map V.str))->Q (.ref l) H'):vg vs H Q E
inductive vz(n:Nat)(vs:LV)(H:Hp)(Q:VK)(E:XK):Prop
 |mk (H0:Hp) (b:Addr) (ds:LA) (h0_:vs=[.ref b]) (h1_:a9 H0 H) (h2_:RL H0 b ds) (h3_:aR ds<n) (h4_:(ak ds).length<=1000) (h5_:∀H' l us,a9 H H'->H l=none->H' l=some (.lst us)->RDs H0 us (ak ds)->Q (.ref l) H'):vz n vs H Q E
inductive nP(vs:LV)(H:Hp)(Q:VK)(E:XK):Prop
 |mk (H0:Hp) (b:Addr) (ds:LA) (C:LS) (h0_:vs=[.ref b]) (h1_:a9 H0 H) (h2_:RL H0 b ds) (h3_:aR ds<=12) (h4_:(ak ds).length<=1000) (h5_:(∀k∈cards ds,k∈C)) (h6_:C.length<64) (h7_:(∀k∈C,k.length<=1000) /\
 ∀H' l zs,a9 H H'->H l=none->H' l=some (.lst (zs.map V.str))->zs.Nodup->(∀k,k∈zs↔k∈cards ds)->PyProof.Rows.sortedS zs=true->Q (.ref l) H'):nP vs H Q E
inductive vV(K:W.Frag)(vs:LV)(H:Hp)(Q:VK)(E:XK):Prop
 |mk (l:Addr) (ns:LI) (k:Int) (h0_:vs=[.ref l,.int k]) (h1_:SqL K H l (ns.map V.int)) (h2_:ns.length<=1000) (h3_:0<=k) (h4_:Q (.int (ns.getD k.toNat 0)) H):vV K vs H Q E
inductive vP(vs:LV)(H:Hp)(Q:VK)(E:XK):Prop
 |mk (c k:Int) (h0_:vs=[.int c,.int k]) (h1_:0<=k) (h2_:k<=200) (h3_:Q (.int (aG c k)) H):vP vs H Q E
inductive vR(vs:LV)(H:Hp)(Q:VK)(E:XK):Prop
 |mk (n k:Int) (h0_:vs=[.int n,.int k]) (h1_:0<=k) (h2_:k<=200) (h3_:Q (.str (cJ n k.toNat)) H):vR vs H Q E
inductive vE(vs:LV)(H:Hp)(Q:VK)(E:XK):Prop
 |mk (w:Str) (h0_:vs=[.str w]) (h1_:w.length<=200) (h2_:∀H',a9 H H'->Q (.str (cW w)) H'):vE vs H Q E
inductive vJ(vs:LV)(H:Hp)(Q:VK)(E:XK):Prop
 |mk (c k:Int) (h0_:vs=[.int c,.int k]) (h1_:0<=k) (h2_:k<=50) (h3_:∀H' l,a9 H H'->H l=none->H' l=some (.lst ((cO c k.toNat).map V.str))->Q (.ref l) H'):vJ vs H Q E
inductive vF(K:W.Frag)(vs:LV)(H:Hp)(Q:VK)(E:XK):Prop
 |mk (n:Int) (ln lr:Addr) (names rooms:LS) (shut:Bool) (h0_:vs=[.int n,.ref ln,.ref lr,.bl shut]) (h1_:SqL K H ln (names.map V.str)) (h2_:SqL K H lr (rooms.map V.str)) (h3_:0<names.length) (h4_:names.length<=100) (h5_:rooms.length<=100) (h6_:0<=n) (h7_:n<2147483648 /\
 ∀H' p xs,a9 H H'->H p=none->H' p=some (.tup xs)->(∀H0:Hp,H0 p=some (.tup xs)->RD H0 (.ref p) (bK n names rooms shut))->Q (.ref p) H'):vF K vs H Q E
inductive vM(vs:LV)(H:Hp)(Q:VK)(E:XK):Prop
 |mk (Hb H0:Hp) (S s0 s1 s2 s3:Addr) (x:Fz) (r:LB) (n most:Int) (nm:Str) (h0_:vs=[.ref S,.int n,.str nm,.int most]) (h1_:ZI Hb H0 H S s0 s1 s2 s3 (x::r)) (h2_:(x::r).length<=1000) (h3_:x.f.ds.length<=1000) (h4_:0<=n) (h5_:n<2147483648) (h6_:0<=most) (h7_:most<=1000) (h8_:0<=x.f.times) (h9_:x.f.times<=100000 /\
 ∀H' y,ZI Hb H0 H' S s0 s1 s2 s3 (y::x::r)->y.f::x.f::r.map (·.f)=gK n nm most (x.f::r.map (·.f))->Q .non H'):vM vs H Q E
inductive vW(K:W.Frag)(vs:LV)(H:Hp)(Q:VK)(E:XK):Prop
 |mk (lc ln lr:Addr) (cells:LI) (names rooms:LS) (most low:Int) (h0_:vs=[.ref lc,.ref ln,.ref lr,.int most,.int low]) (h1_:SqL K H lc (cells.map V.int)) (h2_:SqL K H ln (names.map V.str)) (h3_:SqL K H lr (rooms.map V.str)) (h4_:cells.length<=100) (h5_:0<names.length) (h6_:names.length<=100) (h7_:rooms.length<=100) (h8_:0<=most) (h9_:most<=1000 /\
 ∀H' l,a9 H H'->H l=none->RL H' l (e7 names rooms most low cells)->Q (.ref l) H'):vW K vs H Q E
inductive vx(vs:LV)(H:Hp)(Q:VK)(E:XK):Prop
 |mk (p la ls lb:Addr) (asks:LS) (ss:LF) (ds:LA) (us:LV) (C:LS) (h0_:vs=[.ref p]) (h1_:RP H p asks ss ds la ls lb us) (h2_:aR ds<=12) (h3_:(ak ds).length<=1000) (h4_:asks.length<=100) (h5_:ss.length<=100) (h6_:(∀s∈ss,s.1.length<=1000)) (h7_:(∀k∈eB asks ss ds,k∈C)) (h8_:C.length<64) (h9_:(∀k∈C,k.length<=1000) /\
 ∀H' l zs,a9 H H'->H' l=some (.lst (zs.map V.str))->zs.Nodup->(∀k,k∈zs↔k∈eB asks ss ds)->PyProof.Rows.sortedS zs=true->Q (.ref l) H'):vx vs H Q E
noncomputable def rq(x:Str)(J F:Val):LS:=srt ((J.names++F.names).filter λy=>!decide (y=x))
inductive vd(vs:LV)(H:Hp)(Q:VK)(E:XK):Prop
 |mk (H0:Hp) (p:Addr) (x sg:Str) (va vb:Val) (C:LS) (h0_:vs=[.ref p]) (h1_:a9 H0 H) (h2_:H0 p=some (.tup [.str "set",.str x,va.v,.str sg,vb.v])) (h3_:(∀k∈(ae.set x va sg vb).names,k∈C)) (h4_:C.length<64) (h5_:∀H' l,a9 H H'->H' l=some (.lst ((rq x va vb).map V.str))->Q (.ref l) H'):vd vs H Q E
inductive nQ(vs:LV)(H:Hp)(Q:VK)(E:XK):Prop
 |mk (kd:Str) (l:Addr) (zs:LS) (h0_:vs=[.str kd,.ref l]) (h1_:H l=some (.lst (zs.map V.str))) (h2_:∀H' v,a9 H H'->cR H' v ⟨kd,zs,[],none,none⟩->Q v H'):nQ vs H Q E
inductive uV(vs:LV)(H:Hp)(Q:VK)(E:XK):Prop
 |mk (H0:Hp) (v:V) (d:ae) (C:LS) (h0_:vs=[v]) (h1_:a9 H0 H) (h2_:RD H0 v d) (h3_:d.depth<=12) (h4_:d.flat.length<=1000) (h5_:(∀k∈cards [d],k∈C)) (h6_:C.length<64) (h7_:(∀k∈C,k.length<=1000)) (h8_:(∀n b,d≠.rep n b)) (h9_:∀H' u,a9 H H'->cR H' u (aS d)->Q u H'):uV vs H Q E
inductive vv(vs:LV)(H:Hp)(Q:VK)(E:XK):Prop
 |mk (l:Addr) (us:LV) (rs:List Row) (h0_:vs=[.ref l]) (h1_:H l=some (.lst us)) (h2_:aT H us rs) (h3_:rs.length<=2000) (h4_:Fed rs) (h5_:(∀r∈rs,e8 r)) (h6_:∀H',a9 H H'->Q .non H'):vv vs H Q E
def zM(C:LS)(ds:LA):Prop:=aR ds<=12/\(ak ds).length<=1000/\(∀k∈cards ds,k∈C)/\C.length<64/\(∀k∈C,k.length<=1000)/\bU fG ds
inductive nO(n:Nat)(vs:LV)(H:Hp)(Q:VK)(E:XK):Prop
 |mk (H0:Hp) (b:Addr) (ds:LA) (C:LS) (h0_:vs=[.ref b]) (h1_:a9 H0 H) (h2_:RL H0 b ds) (h3_:aR ds<n) (h4_:zM C ds) (h5_:(aM ds).length<=2000) (h6_:∀H' l us,a9 H H'->H l=none->H' l=some (.lst us)->aT H' us (aM ds)->Q (.ref l) H'):nO n vs H Q E
inductive uU(n:Nat)(vs:LV)(H:Hp)(Q:VK)(E:XK):Prop
 |mk (H0:Hp) (r:Int) (b:Addr) (ds:LA) (C:LS) (h0_:vs=[.int r,.ref b]) (h1_:0<=r) (h2_:r<=99) (h3_:a9 H0 H) (h4_:RL H0 b ds) (h5_:aR ds<n) (h6_:zM C ds) (h7_:(bM (.rep r ds)).length<=2000) (h8_:∀H' l us,a9 H H'->H l=none->H' l=some (.lst us)->aT H' us (bM (.rep r ds))->Q (.ref l) H'):uU n vs H Q E
inductive vt(n:Nat)(vs:LV)(H:Hp)(Q:VK)(E:XK):Prop
 |mk (H0:Hp) (b:Addr) (ds:LA) (h0_:vs=[.ref b]) (h1_:a9 H0 H) (h2_:RL H0 b ds) (h3_:aR ds<n) (h4_:bU fG ds) (h5_:Q (.int (aM ds).length) H):vt n vs H Q E
inductive vq(vs:LV)(H:Hp)(Q:VK)(E:XK):Prop
 |mk (p la ls lb:Addr) (asks:LS) (ss:LF) (ds:LA) (us:LV) (C:LS) (h0_:vs=[.ref p]) (h1_:RP H p asks ss ds la ls lb us) (h2_:aR ds<=12) (h3_:(ak ds).length<=1000) (h4_:asks.length<=100) (h5_:ss.length<=100) (h6_:(∀s∈ss,s.1.length<=1000)) (h7_:(∀k∈eB asks ss ds,k∈C)) (h8_:C.length<64) (h9_:(∀k∈C,k.length<=1000)) (h10_:bU fG ds) (h11_:(aM ds).length<2000) (h12_:Fed (aM ds) /\
 ∀H' l us',a9 H H'->H' l=some (.lst us')->aT H' us' (aM ds++[dZ asks ss ds])->Q (.ref l) H'):vq vs H Q E
inductive vA(vs:LV)(H:Hp)(Q:VK)(E:XK):Prop
 |mk (i:Int) (h0_:vs=[.int i]) (h1_:Q (.bl true) H):vA vs H Q E
inductive vS(vs:LV)(H:Hp)(Q:VK)(E:XK):Prop
 |mk (i j:Int) (h0_:vs=[.int i,.int j]) (h1_:Q (.int (sO i j)) H):vS vs H Q E
inductive vH(vs:LV)(H:Hp)(Q:VK)(E:XK):Prop
 |mk (l:Addr) (us:LV) (ms:List (Str×Str)) (q:Str) (h0_:vs=[.ref l,.str q]) (h1_:H l=some (.lst us)) (h2_:RMs H us ms) (h3_:ms.length<=1000) (h4_:∀p,H p=none->Q (.ref p) (upd H p (.tup [.int (-(aZ q ms).2.1),.int ((aZ q ms).2.2-(aZ q ms).2.1)]))):vH vs H Q E
inductive vO(n:Nat)(vs:LV)(H:Hp)(Q:VK)(E:XK):Prop
 |mk (H0:Hp) (b:Addr) (ds:LA) (h0_:vs=[.ref b]) (h1_:a9 H0 H) (h2_:RL H0 b ds) (h3_:aR ds<n) (h4_:bU fG ds) (h5_:(bE ds).length<=1000) (h6_:∀H' l us,a9 H H'->H l=none->H' l=some (.lst us)->RMs H' us (bE ds)->Q (.ref l) H'):vO n vs H Q E
noncomputable def bZ(ns:LI):LS:=cO (ns.getD 0 0) (2+aG (ns.getD 1 0) 1 % 4).toNat
noncomputable def bR(ns:LI):LS:=(bZ ns).dropLast
noncomputable def aF(ns:LI):LS:=cO (if aG (ns.getD 1 0) 2 % 3=0 then ns.getD 0 0 else ns.getD 1 0) (if aG (ns.getD 1 0) 3 % 5<3 then aG (ns.getD 1 0) 3 % 5 else 3).toNat
noncomputable def fB(ns:LI)(lo hi:Nat):LI:=(ns.drop (min lo ns.length)).take (min hi ns.length-min lo ns.length)
noncomputable def cC(ns:LI):LA:=e7 (bR ns) (aF ns) 2 7 (fB ns 3 63)
noncomputable def fb(ns:LI):LS:=fE (bZ ns) (ns.getD 2 0) (bZ ns).length
noncomputable def bw(ns:LI):List (Str×Str):=bE (cC ns)
noncomputable def dY(ns:LI):LA:=cj (aF ns) (bR ns) (bw ns) (aF ns).length
noncomputable def cM(ns:LI):LF:=fY (aF ns) (ns.getD 2 0) (bw ns) (aF ns).length
inductive vI(K:W.Frag)(vs:LV)(H:Hp)(Q:VK)(E:XK):Prop
 |mk (l:Addr) (ns:LI) (h0_:vs=[.ref l,.int 2]) (h1_:SqL K H l (ns.map V.int)) (h2_:ns.length<=63) (h3_:aR (cC ns)<=12) (h4_:bU fG (cC ns)) (h5_:(bw ns).length<=240) (h6_:(ak (cC ns)).length<=60) (h7_:∀H' p la ls lb us,a9 H H'->RP H' p (fb ns) (cM ns) (dY ns++cC ns) la ls lb us->Q (.ref p) H'):vI K vs H Q E
inductive uY(vs:LV)(H:Hp)(Q:VK)(E:XK):Prop
 |mk (p d:Addr) (cs:LS) (kd:Str) (kvs:LN) (ow:Str->Option Int) (h0_:vs=[.ref p,.str kd,.ref d]) (h1_:H p=some (.tup (cs.map V.str))) (h2_:H d=some (.dK kvs)) (h3_:jM kvs ow) (h4_:cs.length<=10000) (h5_:∀H' l us,a9 H H'->H l=none->H' l=some (.lst us)->RWs H' us (du ow kd cs)->Q (.ref l) H'):uY vs H Q E
inductive uX(vs:LV)(H:Hp)(Q:VK)(E:XK):Prop
 |mk (l:Addr) (us:LV) (rs:List Row) (h0_:vs=[.ref l]) (h1_:H l=some (.lst us)) (h2_:aT H us rs) (h3_:rs.length<=1000) (h4_:(∀r∈rs,r.owns.length<=4000/\r.reads.length<=4000)) (h5_:∀H' lw ws,a9 H H'->H lw=none->H' lw=some (.lst ws)->RWL H' ws (bH rs rs.length)->Q (.ref lw) H'):uX vs H Q E
inductive vh(vs:LV)(H:Hp)(Q:VK)(E:XK):Prop
 |mk (l:Addr) (us:LV) (rs:List Row) (pl:Int) (f:Row->Option Str) (h0_:vs=[.ref l,.int pl]) (h1_:H l=some (.lst us)) (h2_:aT H us rs) (h3_:rs.length<=1000) (h4_:((pl=3/\f=Row.into)\/(pl=4/\f=Row.outof))) (h5_:∀H' d kvs,a9 H H'->H' d=some (.dK kvs)->RN H' kvs (ap f rs)->(∀(q:Str)(p:Addr),aH kvs (.inr q)=some (.ref p)->H p=none)->Q (.ref d) H'):vh vs H Q E
inductive uZ(vs:LV)(H:Hp)(Q:VK)(E:XK):Prop
 |mk (lc l ls:Addr) (ws us sv:LV) (W:List (List Wat)) (rs:List Row) (ss:LF) (h0_:vs=[.ref lc,.ref l,.ref ls]) (h1_:H lc=some (.lst ws)) (h2_:RWL H ws W) (h3_:W.length=rs.length) (h4_:Sm W 8000) (h5_:H l=some (.lst us)) (h6_:aT H us rs) (h7_:rs.length<=1000) (h8_:H ls=some (.lst sv)) (h9_:RSs H sv ss) (h10_:ss.length<=100) (h11_:(∀s∈ss,0<=s.2)) (h12_:∀H' lw ws',a9 H H'->H' lw=some (.lst ws')->RWL H' ws' (cD rs ss W ss.length)->Q (.ref lw) H'):uZ vs H Q E
inductive uW(vs:LV)(H:Hp)(Q:VK)(E:XK):Prop
 |mk (l ls:Addr) (us sv:LV) (rs:List Row) (ss:LF) (h0_:vs=[.ref l,.ref ls]) (h1_:H l=some (.lst us)) (h2_:aT H us rs) (h3_:rs.length<=1000) (h4_:(∀r∈rs,r.owns.length<=4000/\r.reads.length<=4000)) (h5_:H ls=some (.lst sv)) (h6_:RSs H sv ss) (h7_:ss.length<=100) (h8_:(∀s∈ss,0<=s.2)) (h9_:∀H' lw ws',a9 H H'->H' lw=some (.lst ws')->RWL H' ws' (cD rs ss (bH rs rs.length) ss.length)->Q (.ref lw) H'):uW vs H Q E
noncomputable def dy(rs:List Row)(i:Nat)(r:Row):List Wat:=match r.outof with
 |some q=>[((ap Row.into rs q).getD (ap Row.outof (rs.take i) q).length 0,"thing",q)]
 |none=>[]
noncomputable def gu(rs:List Row)(n:Int)(i:Nat)(q:Str):Int:=((ap Row.into (rs.take i) q).length:Int)-n
noncomputable def cX(rs:List Row)(ln:Str->Int)(i:Nat)(r:Row):List Wat:=match r.into with
 |some q=>if 0<=gu rs (ln q) i q then[(awaited rs.length (ap Row.outof rs q) (gu rs (ln q) i q).toNat,"room",q)]else[]
 |none=>[]
noncomputable def bX(rs:List Row)(ln:Str->Int)(i:Nat)(r:Row):List Wat:=dr (rs.take i) r++dy rs i r++cX rs ln i r
noncomputable def cnO(rs:List Row)(c:Str):Nat:=(rs.flatMap Row.owns).count c
def ud(kvs:LN)(rs:List Row):Prop:=∀c:Str,(aH kvs (.inr c)).getD (.int 0)=.int (cnO rs c)
inductive RCs(H:Hp)(rs:List Row):LV->LS->Prop
 |nil:RCs H rs [] []
 |cons {p:Addr}{vs:LV}{c:Str}{cs:LS}:H p=some (.tup [.str c,.int (cnO rs c)])->RCs H rs vs cs->RCs H rs (.ref p::vs) (c::cs)
def RAt(H:Hp)(rs:List Row)(i:Nat)(r:Row)(v:V):Prop:=∃p l1 l2 F J,v=.ref p/\H p=some (.tup [.ref l1,.ref l2])/\H l1=some (.lst F)/\H l2=some (.lst J)/\RCs H (rs.take i) F r.owns/\RCs H (rs.take i) J r.reads
def RAs(H:Hp)(us:LV)(rs:List Row)(n:Nat):Prop:=us.length=n/\∀i r,i<n->rs[i]?=some r->∃v,us[i]?=some v/\RAt H rs i r v
inductive vX(vs:LV)(H:Hp)(Q:VK)(E:XK):Prop
 |mk (l:Addr) (us:LV) (rs:List Row) (h0_:vs=[.ref l]) (h1_:H l=some (.lst us)) (h2_:aT H us rs) (h3_:rs.length<=1000) (h4_:(∀r∈rs,r.owns.length<=4000/\r.reads.length<=4000)) (h5_:∀H' l' us',a9 H H'->H' l'=some (.lst us')->RAs H' us' rs rs.length->Q (.ref l') H'):vX vs H Q E
noncomputable def bW(r:Row):List NK:=[r.into,r.outof]
noncomputable def nmR(rs:List Row)(k:List NK):Nat:=(rs.map bW).count k
noncomputable def cB(rs:List Row)(i:Nat):Int:=match rs[i]? with
 |some r=>(nmR (rs.take i) (bW r):Nat)
 |none=>0
inductive vN(vs:LV)(H:Hp)(Q:VK)(E:XK):Prop
 |mk (l:Addr) (us:LV) (rs:List Row) (h0_:vs=[.ref l]) (h1_:H l=some (.lst us)) (h2_:aT H us rs) (h3_:rs.length<=1000) (h4_:∀H' l',a9 H H'->H l'=none->H' l'=some (.lst ((List.range rs.length).map λi:Nat=>V.int (cB rs i)))->Q (.ref l') H'):vN vs H Q E
inductive vL(vs:LV)(H:Hp)(Q:VK)(E:XK):Prop
 |mk (l:Addr) (us:LV) (rs:List Row) (cs:LS) (c:Str) (h0_:vs=[.ref l,.str c]) (h1_:H l=some (.lst us)) (h2_:RCs H rs us cs) (h3_:Q (if c∈cs then .int (cnO rs c)else .non) H):vL vs H Q E
structure Hq(H:Hp)(l la lnn d:Addr)(us as:LV)(rs:List Row)(kvs:LN)(ln:Str->Int):Prop where
 hl:H l=some (.lst us)
 rr:aT H us rs
 ha:H la=some (.lst as)
 ra:RAs H as rs rs.length
 hn:H lnn=some (.lst ((List.range rs.length).map λi:Nat=>V.int (cB rs i)))
 hd:H d=some (.dK kvs)
 few:rs.length<=1000
 sm:∀r∈rs,r.owns.length<=4000/\r.reads.length<=4000
 dl:∀r∈rs,∀q,r.into=some q->aH kvs (.inr q)=some (.int (ln q))
inductive vK(vs:LV)(H:Hp)(Q:VK)(E:XK):Prop
 |mk (p:Addr) (j:Nat) (k n:Str) (m:Nat) (h0_:vs=[.ref p,.int m]) (h1_:H p=some (.tup [.int j,.str k,.str n])) (h2_:j<m) (h3_:Q (.bl true) H):vK vs H Q E
inductive iw(rs:List Row)(ln:Str->Int)(i:Nat)(r:Row):Wat->Prop
 |card {j:Nat}{c:Str}{r':Row}:rs[j]?=some r'->c∈r.owns->c∈r'.owns->cnO (rs.take i) c=cnO (rs.take j) c+1->iw rs ln i r ((j:Int),"card",c)
 |copy {j:Nat}{c:Str}{r':Row}:rs[j]?=some r'->c∈r.reads->c∈r'.owns->cnO (rs.take i) c=cnO (rs.take j) c+1->iw rs ln i r ((j:Int),"copy",c)
 |thing {j:Nat}{q:Str}{r':Row}:rs[j]?=some r'->r.outof=some q->r'.into=some q->cB rs j=cB rs i->iw rs ln i r ((j:Int),"thing",q)
 |room {j:Nat}{q:Str}{r':Row}:rs[j]?=some r'->r.into=some q->ln q<=cB rs i->r'.outof=some q->cB rs j=cB rs i-ln q->iw rs ln i r ((j:Int),"room",q)
 |last {j:Nat}{q:Str}{r':Row}:rs[j]?=some r'->r.into=some q->ln q<=cB rs i->r'.outof≠some q->j+1=rs.length->((rs.filter λx=>decide (x.outof=some q)).length:Int)<=cB rs i-ln q->iw rs ln i r ((j:Int),"room",q)
inductive vQ(vs:LV)(H:Hp)(Q:VK)(E:XK):Prop
 |mk (l la lnn d p:Addr) (us as:LV) (rs:List Row) (kvs:LN) (ln:Str->Int) (i:Nat) (r:Row) (e:Wat) (h0_:vs=[.ref l,.ref la,.ref lnn,.ref d,.int i,.ref p]) (h1_:Hq H l la lnn d us as rs kvs ln) (h2_:rs[i]?=some r) (h3_:H p=some (eF e)) (h4_:iw rs ln i r e) (h5_:∀H',a9 H H'->Q (.bl true) H'):vQ vs H Q E
noncomputable def dnR(rs:List Row)(o:LG):List Row:=o.filterMap (rs[·]?)
def eQ(rs R:List Row)(k:Nat)(r:Row):Prop:=∀c,(c∈r.owns\/c∈r.reads)->cnO (rs.take k) c<=cnO R c
def gy(R:List Row)(r:Row):Prop:=∀q,r.outof=some q->bal R q≠0
def ir(ln:Str->Int)(R:List Row)(r:Row):Prop:=∀q,r.into=some q->bal R q<ln q
def bQ(o:LG)(e:Wat):Prop:=∃j:Nat,e.1=(j:Int)/\j∈o
noncomputable def wsV(W:List (List Wat))(k:Nat):List Wat:=(W[k]?).getD []
def Tgt(W:List (List Wat)):Prop:=∀k,∀e∈wsV W k,∃j:Nat,e.1=(j:Int)/\j<W.length
structure LkI(W:List (List Wat))(m:Nat)(o R:LG)(zs:Nat->Nat)(st:Nat->LG):Prop where
 nd:o.Nodup
 lt:∀k∈o,k<m
 ord:∀(t k:Nat),o[t]?=some k->∀e∈wsV W k,bQ (o.take t) e
 zl:∀k,zs k<=(wsV W k).length
 zd:∀k,∀e∈(wsV W k).take (zs k),bQ o e
 rn:R.Nodup
 ro:∀k∈R,k<m/\k∉o
 sn:∀w,w∉o->(st w).Nodup
 so:∀w,w∉o->∀k∈st w,k<m/\k∉o/\k∉R/\∃e,(wsV W k)[zs k]?=some e/\e.1=(w:Int)
 al:∀k,k<m->k∈o\/k∈R\/∃w,w∉o/\k∈st w
structure gz(H:Hp)(l la d:Addr)(us as:LV)(rs:List Row)(kvs:LN)(ln:Str->Int):Prop where
 hl:H l=some (.lst us)
 rr:aT H us rs
 ha:H la=some (.lst as)
 ra:RAs H as rs rs.length
 hd:H d=some (.dK kvs)
 few:rs.length<=1000
 sm:∀r∈rs,r.owns.length<=4000/\r.reads.length<=4000
 dl:∀r∈rs,∀q,r.into=some q->aH kvs (.inr q)=some (.int (ln q))
structure bB(H0 H:Hp)(ow:LK)(cn:List HO):Prop where
 sa:a9 H0 H
 nd:ow.Nodup
 nw:∀x∈ow,H0 x=none
 av:∀{i:Nat}{x:Addr}{o:HO},ow[i]?=some x->cn[i]?=some o->H x=some o
noncomputable def bF(o:LG):LV:=o.map λj:Nat=>V.int j
noncomputable def LkO(a:Adr)(dx O lo J F V:Addr):HO:=.ins a.dz dx [("waits",.ref O),("order",.ref lo),("finished",.ref J),("over",.ref F),("stuck",.ref V)]
noncomputable def cnL(n:Nat)(o:LG)(zs:Nat->Nat)(st:Nat->LG):List HO:=.lst (bF o)::.lst ((List.range n).map λj:Nat=>V.bl (decide (j∈o)))::.lst ((List.range n).map λj:Nat=>V.int (zs j))::(List.range n).map λj:Nat=>HO.lst (bF (st j))
structure LkA where
 (b dx lw lo lf lv lk:Addr)
 qs:LK
 us:LV
structure LkS(a:Adr)(H0:Hp)(L:LkA)(W:List (List Wat)):Prop where
 ob:H0 L.b=some (LkO a L.dx L.lw L.lo L.lf L.lv L.lk)
 sk:H0 L.lk=some (.lst (L.qs.map V.ref))
 ql:L.qs.length=W.length
 hw:H0 L.lw=some (.lst L.us)
 rl:RWL H0 L.us W
 sm:Sm W 9000
 tg:Tgt W
 few:W.length<=1000
def LkH(H0 H:Hp)(L:LkA)(W:List (List Wat))(o:LG)(zs:Nat->Nat)(st:Nat->LG):Prop:=bB H0 H (L.lo::L.lf::L.lv::L.qs) (cnL W.length o zs st)
inductive we(a:Adr)(vs:LV)(H:Hp)(Q:VK)(E:XK):Prop
 |mk (b dx lw:Addr) (us:LV) (h0_:vs=[.ref b,.ref lw]) (h1_:H b=some (.ins a.dz dx [])) (h2_:H lw=some (.lst us)) (h3_:us.length<=1000) (h4_:∀H' H0 lo lf lv lk qs,(∀c o,c≠b->H c=some o->H0 c=some o)->H0 b=some (LkO a dx lw lo lf lv lk)->H0 lk=some (.lst (qs.map V.ref))->qs.length=us.length->bB H0 H' (lo::lf::lv::qs) (cnL us.length [] (λ_=>0) λ_=>[])->Q .non H'):we a vs H Q E
inductive w8(a:Adr)(vs:LV)(H:Hp)(Q:VK)(E:XK):Prop
 |mk (H0:Hp) (L:LkA) (W:List (List Wat)) (o:LG) (zs:Nat->Nat) (st:Nat->LG) (x:Nat) (h0_:vs=[.ref L.b,.int x]) (h1_:LkS a H0 L W) (h2_:LkH H0 H L W o zs st) (h3_:x<W.length) (h4_:zs x<=(wsV W x).length) (h5_:∀H' z,LkH H0 H' L W o (λk=>if k=x then z else zs k) st->zs x<=z->z<=(wsV W x).length->(∀t e,zs x<=t->t<z->(wsV W x)[t]?=some e->bQ o e)->(z=(wsV W x).length->Q .non H')/\∀e p,(wsV W x)[z]?=some e->¬ bQ o e->H0 p=some (eF e)->Q (.ref p) H'):w8 a vs H Q E
inductive wb(a:Adr)(vs:LV)(H:Hp)(Q:VK)(E:XK):Prop
 |mk (H0:Hp) (L:LkA) (W:List (List Wat)) (o:LG) (zs:Nat->Nat) (st:Nat->LG) (m:Nat) (h0_:vs=[.ref L.b,.int m]) (h1_:LkS a H0 L W) (h2_:LkH H0 H L W o zs st) (h3_:LkI W m o [] zs st) (h4_:m<W.length) (h5_:∀H' o' zs' st',LkH H0 H' L W o' zs' st'->LkI W (m+1) o' [] zs' st'->Q .non H'):wb a vs H Q E
noncomputable def rgW(p:Nat×Wat):Wat:=(p.1,p.2.2)
structure dG(W:List (List Wat))(o:LG)(ps:List (Nat×Wat)):Prop where
 nn:ps≠[]
 nd:(ps.map (·.1)).Nodup
 is:∀p∈ps,p.1∉o/\p.1<W.length/\∃z,(wsV W p.1)[z]?=some p.2/\(∀e∈(wsV W p.1).take z,bQ o e)/\¬ bQ o p.2
 nx:∀i p,ps[i]?=some p->∃p',ps[(i+1) % ps.length]?=some p'/\p.2.1=(p'.1:Int)
inductive wa(a:Adr)(vs:LV)(H:Hp)(Q:VK)(E:XK):Prop
 |mk (H0:Hp) (L:LkA) (W:List (List Wat)) (o:LG) (zs:Nat->Nat) (st:Nat->LG) (h0_:vs=[.ref L.b]) (h1_:LkS a H0 L W) (h2_:LkH H0 H L W o zs st) (h3_:LkI W W.length o [] zs st) (h4_:o.length≠W.length) (h5_:∀H' lp us ps,LkH H0 H' L W o zs st->H' lp=some (.lst us)->RWs H' us (ps.map rgW)->dG W o ps->Q (.ref lp) H'):wa a vs H Q E
def LkT(W:List (List Wat))(H:Hp)(Q:V->Hp->Prop):Prop:=∀H' p lo o zs st,a9 H H'->H' lo=some (.lst (bF o))->LkI W W.length o [] zs st->(o.length=W.length->H' p=some (.tup [.str "by",.ref lo])->Q (.ref p) H')/\∀F us ps,H' p=some (.tup [.str "ring",.ref lo,.ref F])->H' F=some (.lst us)->RWs H' us (ps.map rgW)->dG W o ps->Q (.ref p) H'
inductive vm(vs:LV)(H:Hp)(Q:VK)(E:XK):Prop
 |mk (lw:Addr) (us:LV) (W:List (List Wat)) (h0_:vs=[.ref lw]) (h1_:H lw=some (.lst us)) (h2_:RWL H us W) (h3_:Sm W 9000) (h4_:Tgt W) (h5_:W.length<=1000) (h6_:LkT W H Q):vm vs H Q E
inductive vn(vs:LV)(H:Hp)(Q:VK)(E:XK):Prop
 |mk (l ls:Addr) (us sv:LV) (rs:List Row) (ss:LF) (W:List (List Wat)) (h0_:vs=[.ref l,.ref ls]) (h1_:H l=some (.lst us)) (h2_:aT H us rs) (h3_:rs.length<=1000) (h4_:(∀r∈rs,r.owns.length<=4000/\r.reads.length<=4000)) (h5_:H ls=some (.lst sv)) (h6_:RSs H sv ss) (h7_:ss.length<=100) (h8_:(∀s∈ss,0<=s.2)) (h9_:cD rs ss (bH rs rs.length) ss.length=W) (h10_:Sm W 9000) (h11_:Tgt W) (h12_:W.length<=1000) (h13_:LkT W H Q):vn vs H Q E
structure WkH(H0 H:Hp)(s d0 d1 d2:Addr)(rs:List Row)(o:LG):Prop where
 so:H s=some (.lst [.ref d0,.ref d1,.ref d2])
 c0:∃kvs,H d0=some (.dK kvs)/\ud kvs (dnR rs o)/\kvs.length<=4000 * o.length
 c1:∃kvs,H d1=some (.dK kvs)/\j3 kvs (dnR rs o)/\kvs.length<=2 * o.length
 c2:∃kvs,H d2=some (.dK kvs)/\(∀j:Nat,(aH kvs (.inl (j:Int))).isSome=decide (j∈o))/\kvs.length<=o.length
 nd:d0≠d1/\d0≠d2/\d1≠d2
 sa:a9 H0 H
 n0:H0 d0=none
 n1:H0 d1=none
 n2:H0 d2=none
inductive j5(rs:List Row)(ln:Str->Int)(R:List Row)(k:Nat)(r:Row):Str->Prop
 |card:¬ eQ rs R k r->j5 rs ln R k r "card"
 |thing:eQ rs R k r->¬ gy R r->j5 rs ln R k r "thing"
 |room:eQ rs R k r->gy R r->¬ ir ln R r->j5 rs ln R k r "room"
 |no:eQ rs R k r->gy R r->ir ln R r->j5 rs ln R k r ""
inductive vT(vs:LV)(H:Hp)(Q:VK)(E:XK):Prop
 |mk (H0:Hp) (l la d s d0 d1 d2:Addr) (us as:LV) (rs:List Row) (kvs:LN) (ln:Str->Int) (o:LG) (k:Nat) (r:Row) (h0_:vs=[.ref l,.ref la,.ref d,.ref s,.int k]) (h1_:WkH H0 H s d0 d1 d2 rs o) (h2_:gz H0 l la d us as rs kvs ln) (h3_:rs[k]?=some r) (h4_:∀z,j5 rs ln (dnR rs o) k r z->Q (.str z) H):vT vs H Q E
inductive vU(vs:LV)(H:Hp)(Q:VK)(E:XK):Prop
 |mk (H0:Hp) (l s d0 d1 d2:Addr) (us:LV) (rs:List Row) (o:LG) (k:Nat) (r:Row) (h0_:vs=[.ref l,.ref s,.int k]) (h1_:WkH H0 H s d0 d1 d2 rs o) (h2_:H0 l=some (.lst us)) (h3_:aT H0 us rs) (h4_:rs[k]?=some r) (h5_:o.length<=1000) (h6_:(∀r∈rs,r.owns.length<=4000/\r.reads.length<=4000)) (h7_:∀H',WkH H0 H' s d0 d1 d2 rs (o++[k])->Q .non H'):vU vs H Q E
inductive vB(vs:LV)(H:Hp)(Q:VK)(E:XK):Prop
 |mk (l la d lo:Addr) (us as:LV) (rs:List Row) (kvs:LN) (ln:Str->Int) (o:LG) (h0_:vs=[.ref l,.ref la,.ref d,.ref lo]) (h1_:gz H l la d us as rs kvs ln) (h2_:H lo=some (.lst (bF o))) (h3_:o.Nodup) (h4_:o.length<=1000) (h5_:(∀t k,o[t]?=some k->∃r,rs[k]?=some r/\eQ rs (dnR rs (o.take t)) k r/\gy (dnR rs (o.take t)) r/\ir ln (dnR rs (o.take t)) r)) (h6_:∀H' s d0 d1 d2,WkH H H' s d0 d1 d2 rs o->Q (.ref s) H'):vB vs H Q E
inductive vG(vs:LV)(H:Hp)(Q:VK)(E:XK):Prop
 |mk (H0:Hp) (l la d s d0 d1 d2 lr:Addr) (us as ru:LV) (rs:List Row) (kvs:LN) (ln:Str->Int) (o:LG) (ps:List (Nat×Wat)) (h0_:vs=[.ref l,.ref la,.ref d,.ref s,.ref lr]) (h1_:WkH H0 H s d0 d1 d2 rs o) (h2_:gz H0 l la d us as rs kvs ln) (h3_:H0 lr=some (.lst ru)) (h4_:RWs H0 ru (ps.map rgW)) (h5_:(ps.map (·.1)).Nodup) (h6_:(∀p∈ps,p.1∉o/\∃r,rs[p.1]?=some r/\iw rs ln p.1 r p.2/\(p.2.2.1=("room":Str)->eQ rs (dnR rs o) p.1 r/\gy (dnR rs o) r/\¬ ir ln (dnR rs o) r))) (h7_:(∀i p,ps[i]?=some p->∃p',ps[(i+1) % ps.length]?=some p'/\p.2.1=(p'.1:Int))) (h8_:(∃p∈ps,p.2.2.1=("room":Str))) (h9_:∀H',a9 H H'->Q (.bl true) H'):vG vs H Q E
noncomputable def db(es:List Wat):Nat->List Wat
 |0=>[]
 |i+1=>match es[i]? with
  |some e=>if(db es i).any (λx=>decide (x.1=e.1))then db es i else db es i++[e]
  |none=>db es i
structure ThR(l l':List Wat):Prop where
 ix:∀z e,l'[z]?=some e->∃z',l[z']?=some e/\∀x∈l.take z',∃y∈l'.take z,y.1=x.1
 all:∀x∈l,∃y∈l',y.1=x.1
 len:l'.length<=l.length
noncomputable def WF(rs:List Row)(ss:LF):List (List Wat):=cD rs ss (bH rs rs.length) ss.length
def kO(rs:List Row)(ss:LF):Prop:=∀o zs st,LkI (WF rs ss) rs.length o [] zs st->∀k,k<rs.length->k∈o
structure cK(rs:List Row):Prop where
 nd:∀r∈rs,r.owns.Nodup
 ow:∀r∈rs,e8 r
 pi:∀r∈rs,∀q,r.into=some q->q++(">":Str)∈r.owns
 po:∀r∈rs,∀q,r.outof=some q->q++("<":Str)∈r.owns
 fed:Fed rs
 ends:∀r',rs[rs.length-1]?=some r'->r'.into=none/\r'.outof=none/\∀r∈rs,∀c∈r.owns,c∈r'.owns
structure fc(rs:List Row)(rms:LS):Prop where
 ro:cK rs
 nd:rms.Nodup
 sm:∀r∈rs,r.owns.length<=4000/\r.reads.length<=4000
 mv:∀r∈rs,∀q,(r.into=some q\/r.outof=some q)->q∈rms
 few:rs.length<=1000
def PkI(kvs:LN)(rs:List Row)(i:Nat):Prop:=∀q:Str,∃n:Int,(aH kvs (.inr q)).getD (.int 0)=.int n/\0<=n/\n<=i/\∀j,j<=i->bal (rs.take j) q<=n
noncomputable def aY(ss:LF)(i:Nat)(m:Int):LF:=ss.set i ((ss.getD i ("",0)).1,m)
structure MdA where
 (b dx l lc ls:Addr)
 (us ws:LV)
noncomputable def MdO(a:Adr)(M:MdA):HO:=.ins a.gt M.dx [("deeds",.ref M.l),("by_cards",.ref M.lc),("stores",.ref M.ls)]
structure MdS(a:Adr)(H0:Hp)(M:MdA)(rs:List Row)(rms:LS)(Wc:List (List Wat)):Prop where
 ob:H0 M.b=some (MdO a M)
 hl:H0 M.l=some (.lst M.us)
 rr:aT H0 M.us rs
 hc:H0 M.lc=some (.lst M.ws)
 rc:RWL H0 M.ws Wc
 wl:Wc.length=rs.length
 sm:Sm Wc 8000
 th:∀k,ThR (wsV (bH rs rs.length) k) (wsV Wc k)
 no:H0 M.ls=none
 ok:fc rs rms
 fr:rms.length<=100
structure StO(rms:LS)(ss:LF):Prop where
 nm:ss.map (·.1)=rms
 pos:∀s∈ss,0<=s.2
structure MdH(H0 H:Hp)(M:MdA)(rms:LS)(ss:LF):Prop where
 sa:a9 H0 H
 hs:∃sv,H M.ls=some (.lst sv)/\RSs H sv ss
 so:StO rms ss
def LeS(ss ss':LF):Prop:=∀(i:Nat)(s s':Str×Int),ss[i]?=some s->ss'[i]?=some s'->s.2<=s'.2
def NoS(rs:List Row)(rms:LS)(ss:LF):Prop:=∀ss' o zs st,StO rms ss'->LeS ss' ss->LkI (WF rs ss') rs.length o [] zs st->∃k,k<rs.length/\k∉o
structure Mnd(rs:List Row)(rms:LS)(kept ss:LF)(j:Nat):Prop where
 so:StO rms ss
 ge:LeS kept ss
 all:kO rs ss
 no:∀i s s',i<j->kept[i]?=some s->ss[i]?=some s'->s'.2=s.2\/NoS rs rms (aY ss i (s'.2-1))
 few:∀s∈ss,s.2<=1000
inductive RPp(H:Hp)(rs:List Row)(ss:LF):LV->LG->Prop
 |nil:RPp H rs ss [] []
 |cons {p lr:Addr}{q:Str}{x:Int}{i:Nat}{ru vs:LV}{ps:List (Nat×Wat)}{is:LG}{o:LG}{zs:Nat->Nat}{st:Nat->LG}:H p=some (.tup [.str q,.ref lr])->H lr=some (.lst ru)->RWs H ru (ps.map rgW)->ss[i]?=some (q,x)->LkI (WF rs (aY ss i (x-1))) rs.length o [] zs st->dG (WF rs (aY ss i (x-1))) o ps->RPp H rs ss vs is->RPp H rs ss (.ref p::vs) (i::is)
noncomputable def lgP(kept ss:LF)(n:Nat):LG:=(List.range n).filter λi=>decide ((kept.getD i ("",0)).2<(ss.getD i ("",0)).2)
inductive vc(vs:LV)(H:Hp)(Q:VK)(E:XK):Prop
 |mk (l:Addr) (us:LV) (es:List Wat) (h0_:vs=[.ref l]) (h1_:H l=some (.lst us)) (h2_:RWs H us es) (h3_:es.length<=9000) (h4_:∀H' l' us',a9 H H'->H l'=none->H' l'=some (.lst us')->RWs H' us' (db es es.length)->Q (.ref l') H'):vc vs H Q E
inductive vf(vs:LV)(H:Hp)(Q:VK)(E:XK):Prop
 |mk (l:Addr) (us:LV) (rs:List Row) (h0_:vs=[.ref l]) (h1_:H l=some (.lst us)) (h2_:aT H us rs) (h3_:rs.length<=1000) (h4_:Fed rs) (h5_:(∀r∈rs,e8 r)) (h6_:∀H' d kvs,a9 H H'->H' d=some (.dK kvs)->PkI kvs rs rs.length->Q (.ref d) H'):vf vs H Q E
noncomputable def pkN(kvs:LN)(q:Str):Int:=match(aH kvs (.inr q)).getD (.int 0)with
 |.int n=>n
 |_=>0
noncomputable def mxS(kvs:LN)(s:Str×Int):Str×Int:=(s.1,if pkN kvs s.1 > s.2 then pkN kvs s.1 else s.2)
inductive w6(a:Adr)(vs:LV)(H:Hp)(Q:VK)(E:XK):Prop
 |mk (Hc:Hp) (b dx l lk:Addr) (us sv:LV) (rs:List Row) (rms:LS) (ss:LF) (h0_:vs=[.ref b,.ref l,.ref lk]) (h1_:H b=some (.ins a.gt dx [])) (h2_:a9 Hc H) (h3_:Hc b=none) (h4_:Hc l=some (.lst us)) (h5_:aT Hc us rs) (h6_:Hc lk=some (.lst sv)) (h7_:RSs Hc sv ss) (h8_:fc rs rms) (h9_:StO rms ss) (h10_:rms.length<=100) (h11_:(∀s∈ss,s.2<=1000)) (h12_:∀H' H0 lc ls ws Wc ss',a9 Hc H0->MdS a H0 ⟨b,dx,l,lc,ls,us,ws⟩ rs rms Wc->MdH H0 H' ⟨b,dx,l,lc,ls,us,ws⟩ rms ss'->Mnd rs rms ss ss' 0->Q .non H'):w6 a vs H Q E
inductive w5(a:Adr)(vs:LV)(H:Hp)(Q:VK)(E:XK):Prop
 |mk (H0:Hp) (M:MdA) (rs:List Row) (rms:LS) (Wc:List (List Wat)) (ss:LF) (i:Nat) (m:Int) (h0_:vs=[.ref M.b,.int i,.int m]) (h1_:MdS a H0 M rs rms Wc) (h2_:MdH H0 H M rms ss) (h3_:i<ss.length) (h4_:0<=m) (h5_:LkT (WF rs (aY ss i m)) H Q):w5 a vs H Q E
inductive vY(a:Adr)(vs:LV)(H:Hp)(Q:VK)(E:XK):Prop
 |mk (H0:Hp) (M:MdA) (rs:List Row) (rms:LS) (Wc:List (List Wat)) (ss:LF) (i:Nat) (q:Str) (n m:Int) (h0_:vs=[.ref M.b,.int i,.int m]) (h1_:MdS a H0 M rs rms Wc) (h2_:MdH H0 H M rms ss) (h3_:ss[i]?=some (q,n)) (h4_:0<=m) (h5_:m<=n) (h6_:kO rs ss) (h7_:∀H' x,MdH H0 H' M rms (aY ss i x)->m<=x->x<=n->kO rs (aY ss i x)->(x=m\/NoS rs rms (aY ss i (x-1)))->Q .non H'):vY a vs H Q E
inductive vZ(a:Adr)(vs:LV)(H:Hp)(Q:VK)(E:XK):Prop
 |mk (H0:Hp) (M:MdA) (rs:List Row) (rms:LS) (Wc:List (List Wat)) (ss:LF) (i:Nat) (q:Str) (x:Int) (h0_:vs=[.ref M.b,.int i]) (h1_:MdS a H0 M rs rms Wc) (h2_:MdH H0 H M rms ss) (h3_:ss[i]?=some (q,x)) (h4_:0<x) (h5_:NoS rs rms (aY ss i (x-1))) (h6_:∀H' p lr ru ps o zs st,a9 H H'->H' p=some (.tup [.str q,.ref lr])->H' lr=some (.lst ru)->RWs H' ru (ps.map rgW)->LkI (WF rs (aY ss i (x-1))) rs.length o [] zs st->dG (WF rs (aY ss i (x-1))) o ps->Q (.ref p) H'):vZ a vs H Q E
inductive vj(vs:LV)(H:Hp)(Q:VK)(E:XK):Prop
 |mk (l lk:Addr) (us sv:LV) (rs:List Row) (rms:LS) (kept:LF) (h0_:vs=[.ref l,.ref lk]) (h1_:H l=some (.lst us)) (h2_:aT H us rs) (h3_:H lk=some (.lst sv)) (h4_:RSs H sv kept) (h5_:fc rs rms) (h6_:StO rms kept) (h7_:rms.length<=100) (h8_:(∀s∈kept,s.2<=1000)) (h9_:∀H' p ls lp sv' pv ss',a9 H H'->H' p=some (.tup [.ref ls,.ref lp])->H' ls=some (.lst sv')->RSs H' sv' ss'->Mnd rs rms kept ss' kept.length->H' lp=some (.lst pv)->RPp H' rs ss' pv (lgP kept ss' kept.length)->Q (.ref p) H'):vj vs H Q E
inductive vC(vs:LV)(H:Hp)(Q:VK)(E:XK):Prop
 |mk (l la lx lr:Addr) (us as xv ru:LV) (rs:List Row) (rms:LS) (sx:LF) (ps:List (Nat×Wat)) (o:LG) (zs:Nat->Nat) (st:Nat->LG) (h0_:vs=[.ref l,.ref la,.ref lx,.ref lr]) (h1_:H l=some (.lst us)) (h2_:aT H us rs) (h3_:H la=some (.lst as)) (h4_:RAs H as rs rs.length) (h5_:H lx=some (.lst xv)) (h6_:RSs H xv sx) (h7_:fc rs rms) (h8_:StO rms sx) (h9_:rms.length<=100) (h10_:H lr=some (.lst ru)) (h11_:RWs H ru (ps.map rgW)) (h12_:LkI (WF rs sx) rs.length o [] zs st) (h13_:dG (WF rs sx) o ps) (h14_:∀H',a9 H H'->Q (.bl true) H'):vC vs H Q E
inductive vD(vs:LV)(H:Hp)(Q:VK)(E:XK):Prop
 |mk (ls lk:Addr) (sv kv:LV) (rms:LS) (ss kept:LF) (h0_:vs=[.ref ls,.ref lk]) (h1_:H ls=some (.lst sv)) (h2_:RSs H sv ss) (h3_:H lk=some (.lst kv)) (h4_:RSs H kv kept) (h5_:StO rms ss) (h6_:StO rms kept) (h7_:rms.length<=100) (h8_:LeS kept ss) (h9_:(∀s∈ss,s.2<=1000)) (h10_:Q (.bl true) H):vD vs H Q E
inductive nR(vs:LV)(H:Hp)(Q:VK)(E:XK):Prop
 |mk (l la lk ls lp:Addr) (us as kv sv pv:LV) (rs:List Row) (rms:LS) (kept ss:LF) (h0_:vs=[.ref l,.ref la,.ref lk,.ref ls,.ref lp]) (h1_:H l=some (.lst us)) (h2_:aT H us rs) (h3_:H la=some (.lst as)) (h4_:RAs H as rs rs.length) (h5_:H lk=some (.lst kv)) (h6_:RSs H kv kept) (h7_:H ls=some (.lst sv)) (h8_:RSs H sv ss) (h9_:H lp=some (.lst pv)) (h10_:RPp H rs ss pv (lgP kept ss kept.length)) (h11_:fc rs rms) (h12_:StO rms kept) (h13_:StO rms ss) (h14_:rms.length<=100) (h15_:∀H',Q (.bl true) H'):nR vs H Q E
inductive jS(K:W.Frag)(vs:LV)(H:Hp)(Q:VK)(E:XK):Prop
 |mk (a:Addr) (ns:LI) (h0_:vs=[.ref a]) (h1_:SqL K H a (ns.map V.int)) (h2_:ns.length<=63) (h3_:(∀n∈ns,Builtin.Int.intBits n<=2 ^ 20)) (h4_:n9 H) (h5_:∀H',Q (.bl true) H'):jS K vs H Q E
theorem ln1:1<=sizeLine:=Yk
theorem ln2:2<=sizeLine:=Yk
theorem ln3:3<=sizeLine:=Yk
theorem ln5:5<=sizeLine:=Yk
section
variable {a:Adr}
abbrev Ω(T:Tx P w K mg a)(base:Heap):=aK P w K mg base CX0
variable(T:Tx P w K mg a)
theorem rX:Ω T base 1 a.J3 a.J4 ["store"] ve:=by
 refine T.HA.F.ok BA ?_;rintro _ A _ s H _ Q E _⟨q,rfl,_,k⟩;exists _,(aj (az (ao iG (pq 0) aQ)));walk_at "q";exact⟨_,U,_,_,U,U,bf (m:=1001) (by show q.length+1<=1001;omega),k⟩
theorem sh:Ω T base 1 a.J5 a.J6 ["store"] vo:=by
 refine T.HB.F.ok BE ?_;rintro _ A _ s H _ Q E _⟨q,rfl,_,k⟩;exists _,(aj (az (ao iG (pq 0) aQ)));walk_at "q";exact⟨_,U,_,_,U,U,bf (m:=1001) (by show q.length+1<=1001;omega),k⟩
theorem DM:Ω T base 1 a.IT a.IU ["deed"] vy:=by
 refine T.Kl.F.ok BF ?_;rintro _ A _ s H _ Q E _⟨i,v,d,rfl,e,hd,k⟩
 refine⟨_,(ag (aJ (ax aW (ai au (pq 0) aa Oy) aQ (ay _)) (aj (az (ba (a8 (ai au (pq 0) aa Oy) (a8 (ai au (pq 0) aa Oy) ac))))) aN)
  (ag (aJ (ax jy (ai au (pq 0) aa Oy) (gJ U T.Lf T.r_LOOPS) (by with_unfolding_all rfl)) (aj (az (ba (a8 (ai au (pq 0) aa Oy) ac)))) aN)
  (aj (az (ba ac))))),?_⟩
 walk_at "q";have nil:∀p,H p=none->d.inner=[]->Q (.ref p) (upd H p (.lst [])):=λp c z=>k _ p [] (a9.new c _) c ah (by rw[z];exact .nil);have one:∀p b bs,H p=none->d.inner=[bs]->RL i b bs->Q (.ref p) (upd H p (.lst [.ref b])):=λp b bs c z hb=>k _ p [b] (a9.new c _) c ah (by rw[z];exact .cons hb .nil)
 cases hd with
 |cond h f g=>
  exists _,U,_,_,_,_,U,U,SqT.of (e _ _ h),U,U,_,U;walk_at "yes";refine⟨_,U,_,_,_,_,U,U,SqT.of (e _ _ h),U,_,U,_,_,_,_,U,U,SqT.of (e _ _ h),U,ln2,λp c=>?_⟩;exact k _ p [_,_] (a9.new c _) c ah (.cons f (.cons g .nil))
 |whl h f=>
  exists _,U,_,_,_,_,U,U,SqT.of (e _ _ h),U,U,_,U;walk_at "no";exists _,U,_,_,_,_,U,U,SqT.of (e _ _ h),U,_,_,U,.inr (T.wP _),U,U,_,U;walk_at "yes";exact⟨_,U,_,_,_,_,U,U,SqT.of (e _ _ h),U,ln1,λp c=>one p _ _ c U f⟩
 |rep h f=>
  exists _,U,_,_,_,_,U,U,SqT.of (e _ _ h),U,U,_,U;walk_at "no";exists _,U,_,_,_,_,U,U,SqT.of (e _ _ h),U,_,_,U,.inr (T.wP _),U,U,_,U;walk_at "yes";exact⟨_,U,_,_,_,_,U,U,SqT.of (e _ _ h),U,ln1,λp c=>one p _ _ c U f⟩
 |set h=>
  exists _,U,_,_,_,_,U,U,SqT.of (e _ _ h),U,U,_,U;walk_at "no";exists _,U,_,_,_,_,U,U,SqT.of (e _ _ h),U,_,_,U,.inr (T.wP _),U,U,_,U;walk_at "no";exact⟨qC _,λp c=>nil p c U⟩
 |put h=>
  exists _,U,_,_,_,_,U,U,SqT.of (e _ _ h),U,U,_,U;walk_at "no";exists _,U,_,_,_,_,U,U,SqT.of (e _ _ h),U,_,_,U,.inr (T.wP _),U,U,_,U;walk_at "no";exact⟨qC _,λp c=>nil p c U⟩
 |get h=>
  exists _,U,_,_,_,_,U,U,SqT.of (e _ _ h),U,U,_,U;walk_at "no";exists _,U,_,_,_,_,U,U,SqT.of (e _ _ h),U,_,_,U,.inr (T.wP _),U,U,_,U;walk_at "no";exact⟨qC _,λp c=>nil p c U⟩
 |give h=>
  exists _,U,_,_,_,_,U,U,SqT.of (e _ _ h),U,U,_,U;walk_at "no";exists _,U,_,_,_,_,U,U,SqT.of (e _ _ h),U,_,_,U,.inr (T.wP _),U,U,_,U;walk_at "no";exact⟨qC _,λp c=>nil p c U⟩
theorem DF:Ω T base 2 a.J1 a.J2 ["deed"] vg:=by
 refine T.Kn.F.ok BC ?_;rintro _ A _ s H _ Q E hr⟨_,v,d,rfl,b,hd,hk,k⟩
 refine⟨_,(ag (aJ (ax aW (ai au (pq 0) aa Oy) aQ (ay _)) (aj (az (ba (a8 (aC (rX T) (hr.mono Yk) T.HA (a8 (ai au (pq 0) aa Oy) ac)) ac)))) aN)
  (ag (aJ (ax aW (ai au (pq 0) aa Oy) aQ (ay _)) (aj (az (ba (a8 (aC (sh T) (hr.mono Yk) T.HB (a8 (ai au (pq 0) aa Oy) ac)) ac)))) aN)
  (aj (az (i5 (ax jy (ai au (pq 0) aa Oy) (gJ U T.Lh T.r_OUTLET_KEEPERS) (by with_unfolding_all rfl)) (ba (a8 (gJ U T.Iv T.r_OUTLET) ac)) (ba ac)))))),?_⟩
 walk_at "q"
 have fin:∀p xs,H p=none->d.others.map V.str=xs->Q (.ref p) (upd H p (.lst xs)):=λp xs c z=>by
  subst z;exact k _ p (a9.new c _) c ah
 have bS:∀q z:Str,q++z∈d.others->q.length<=1000:=λq z f=>by
  have:=hk _ f;rw[eh]at this;omega
 cases hd with
 |put h=>
  exists _,U,_,_,_,_,U,U,SqT.of (b _ _ h),U,U,_,U;walk_at "yes";exact⟨_,U,_,_,_,_,U,U,SqT.of (b _ _ h),U,_,U,bS _ ">" (by simp[ae.others]),ln1,λp c=>fin p _ c U⟩
 |get h=>
  exists _,U,_,_,_,_,U,U,SqT.of (b _ _ h),U,U,_,U;walk_at "no";exists _,U,_,_,_,_,U,U,SqT.of (b _ _ h),U,U,_,U;walk_at "yes";exact⟨_,U,_,_,_,_,U,U,SqT.of (b _ _ h),U,_,U,bS _ "<" (by simp[ae.others]),ln1,λp c=>fin p _ c U⟩
 |give h=>
  exists _,U,_,_,_,_,U,U,SqT.of (b _ _ h),U,U,_,U;walk_at "no";exists _,U,_,_,_,_,U,U,SqT.of (b _ _ h),U,U,_,U;walk_at "no";exists _,U,_,_,_,_,U,U,SqT.of (b _ _ h),U,_,_,U,.inr (T.wT _),U,U,_,U;walk_at "yes";exact⟨Yk,λp c=>fin p _ c U⟩
 |whl h e=>
  exists _,U,_,_,_,_,U,U,SqT.of (b _ _ h),U,U,_,U;walk_at "no";exists _,U,_,_,_,_,U,U,SqT.of (b _ _ h),U,U,_,U;walk_at "no";exists _,U,_,_,_,_,U,U,SqT.of (b _ _ h),U,_,_,U,.inr (T.wT _),U,U,_,U;walk_at "yes";exact⟨Yk,λp c=>fin p _ c U⟩
 |set h=>
  exists _,U,_,_,_,_,U,U,SqT.of (b _ _ h),U,U,_,U;walk_at "no";exists _,U,_,_,_,_,U,U,SqT.of (b _ _ h),U,U,_,U;walk_at "no";exists _,U,_,_,_,_,U,U,SqT.of (b _ _ h),U,_,_,U,.inr (T.wT _),U,U,_,U;walk_at "no";exact⟨Yk,λp c=>fin p _ c U⟩
 |cond h e _=>
  exists _,U,_,_,_,_,U,U,SqT.of (b _ _ h),U,U,_,U;walk_at "no";exists _,U,_,_,_,_,U,U,SqT.of (b _ _ h),U,U,_,U;walk_at "no";exists _,U,_,_,_,_,U,U,SqT.of (b _ _ h),U,_,_,U,.inr (T.wT _),U,U,_,U;walk_at "no";exact⟨Yk,λp c=>fin p _ c U⟩
 |rep h e=>
  exists _,U,_,_,_,_,U,U,SqT.of (b _ _ h),U,U,_,U;walk_at "no";exists _,U,_,_,_,_,U,U,SqT.of (b _ _ h),U,U,_,U;walk_at "no";exists _,U,_,_,_,_,U,U,SqT.of (b _ _ h),U,_,_,U,.inr (T.wT _),U,U,_,U;walk_at "no";exact⟨Yk,λp c=>fin p _ c U⟩
noncomputable def nE(vs:LV):LV:=vs.filter λv=>match v with|.str _=>true|_=>false
theorem xE:Ω T base 1 a.IV a.IW ["deed"] vi:=by
 refine T.Il.F.ok wz ?_;rintro G A _ s H _ Q E _⟨M,v,d,rfl,b,hd,k⟩
 refine⟨_,(ag (aq (i:=1) wz.nd U Oi (ai au (pq 0) aa Oy))
  (ag (aJ (ax aW (pq 1) aQ (ay _)) (aj (az (fQ (k:=1) (Nc:=["word"]) (js:=[]) (show bg (aD lG) ["deed","kind"] _ 1 ["word"] []from bg.mk U (by decide +kernel) (by decide +kernel) (by decide +kernel) U (by decide +kernel)) U (iJ (bc (a8 (ai au (pq 0) aa Oy) (a8 (ai au (pq 0) aa Oy) (a8 (ai au (pq 0) aa Oy) ac))))) (λ_ _ _ _ _=>(aI (i:=0) (show List.Nodup (["word"]:LS)from by decide +kernel) U Oi)) (λ_ _ _ _ _=>(iH (cN (aL (Cw (K:=K) U) U T.ld PyProof.Rows.Boot.«isinstance» (a8 (pq 0) (a8 (dW (v:=.ty "str") U T.Cl PyProof.Rows.Boot.«str» rfl) ac)))))) (λ_ _ _ _ _=>(pq 0))))) aN)
  (ag (aJ (ax aW (pq 1) aQ (ay _)) (aj (az (ba ac))) aN)
  (aj (az (i5 (ax jy (pq 1) (gJ U T.Lg T.r_LOOKERS) (by with_unfolding_all rfl)) (ba (a8 (ai au (pq 0) aa Oy) ac)) (ba (a8 (ai au (pq 0) (dE dv aa) Oy) ac)))))))),?_⟩
 walk_at "q"
 have fin:∀m p xs,a9 H m->m p=none->d.names.map V.str=xs->Q (.ref p) (upd m p (.lst xs)):=λm p xs g c z=>by
  subst z;refine k _ p (g.trans (a9.new c _)) ?_ ah
  cases q:H p with
  |none=>rfl
  |some o=>rw[g _ _ q]at c;cases c
 cases hd with
 |set h=>
  rename_i p x e J f;exists _,U,_,_,_,_,U,U,SqT.of (b _ _ h),U;exists _,U,U,_,U;walk_at "yes";refine⟨_,U,_,_,_,_,U,U,SqT.of (b _ _ h),U,_,U,_,_,_,_,U,U,SqT.of (b _ _ h),U,_,U,_,_,_,_,U,U,SqT.of (b _ _ h),U,ln3,λt ht=>⟨t,U,⟨_,SqT.of ah⟩,?_⟩⟩;refine tJ (K:=K) (a:=t) (xs:=[.str x,e.v,f.v]) (λi ys l j=>j=upd H t (.tup [.str x,e.v,f.v])/\(∃u,l=[u])/\ys=nE (([.str x,e.v,f.v]:LV).take i)) ⟨U,⟨_,U⟩,U⟩ ?_ ln3 ?_ ?_ ?_
  .rintro i ys l j L ⟨_,_,rfl⟩;refine qH (List.length_filter_le _ _) ?_;rw[qS];omega
  .rintro i ys l j ⟨rfl,_⟩;exact SqT.of ah
  .rintro i z ys l j r ⟨rfl,⟨u,rfl⟩,rfl⟩;have B:z=.str x\/z=e.v\/z=f.v:=by simpa using qI r
   have kind:(∃y,z=.str y)\/∃n,z=.int n:=by
    rcases B with rfl|rfl|rfl
    .exact .inl ⟨_,U⟩
    .cases e<;>simp[Val.v]
    .cases f<;>simp[Val.v]
   rcases kind with⟨y,rfl⟩|⟨n,rfl⟩
   .exists _,U,_,_,_,true,U,.str y,U,_,U;refine sU ⟨_,U,U,⟨_,U⟩,?_⟩;rw[qA,r];simp[nE]
   .exists _,U,_,_,_,false,U,.int n,U,_,U;refine jE ⟨U,⟨_,U⟩,?_⟩;rw[qA,r];simp[nE]
  .rintro ys l j ⟨rfl,_,rfl⟩ D C;refine fin _ D _ (a9.new ht _) C ?_;cases e<;>cases f<;>rfl
 |rep h g=>
  exists _,U,_,_,_,_,U,U,SqT.of (b _ _ h),U;exists _,U,U,_,U;walk_at "no";exists _,U,U,_,U;walk_at "yes";exact⟨qC _,λp c=>fin H p _ (a9.refl H) c U⟩
 |cond h g I=>
  exists _,U,_,_,_,_,U,U,SqT.of (b _ _ h),U;exists _,U,U,_,U;walk_at "no";exists _,U,U,_,U;walk_at "no";exists _,U,_,_,U,.inr (T.wS _),U,U,_,U;walk_at "yes";exact⟨_,U,_,_,_,_,U,U,SqT.of (b _ _ h),U,ln1,λp c=>fin H p _ (a9.refl H) c U⟩
 |whl h g=>
  exists _,U,_,_,_,_,U,U,SqT.of (b _ _ h),U;exists _,U,U,_,U;walk_at "no";exists _,U,U,_,U;walk_at "no";exists _,U,_,_,U,.inr (T.wS _),U,U,_,U;walk_at "yes";exact⟨_,U,_,_,_,_,U,U,SqT.of (b _ _ h),U,ln1,λp c=>fin H p _ (a9.refl H) c U⟩
 |put h=>
  exists _,U,_,_,_,_,U,U,SqT.of (b _ _ h),U;exists _,U,U,_,U;walk_at "no";exists _,U,U,_,U;walk_at "no";exists _,U,_,_,U,.inr (T.wS _),U,U,_,U;walk_at "no";exact⟨_,U,_,U,_,_,_,_,U,U,SqT.of (b _ _ h),U,ln1,λp c=>fin H p _ (a9.refl H) c U⟩
 |get h=>
  exists _,U,_,_,_,_,U,U,SqT.of (b _ _ h),U;exists _,U,U,_,U;walk_at "no";exists _,U,U,_,U;walk_at "no";exists _,U,_,_,U,.inr (T.wS _),U,U,_,U;walk_at "no";exact⟨_,U,_,U,_,_,_,_,U,U,SqT.of (b _ _ h),U,ln1,λp c=>fin H p _ (a9.refl H) c U⟩
 |give h=>
  exists _,U,_,_,_,_,U,U,SqT.of (b _ _ h),U;exists _,U,U,_,U;walk_at "no";exists _,U,U,_,U;walk_at "no";exists _,U,_,_,U,.inr (T.wS _),U,U,_,U;walk_at "no";exact⟨_,U,_,U,_,_,_,_,U,U,SqT.of (b _ _ h),U,ln1,λp c=>fin H p _ (a9.refl H) c U⟩
theorem FP{d:ae}(h:ds[i]?=some d):ak (ds.take (i+1))=ak (ds.take i)++(d::d.inner.flatMap ak):=by
 rw[qA,h,fV];show _++ak [d]=_;rw[ak,ak,qG,jF]
theorem mR:∀{ds:LA}{i:Nat}{d:ae},ds[i]?=some d->d.depth<=aR ds
 |[],i,d,h=>by simp at h
 |x::r,0,d,h=>by simp at h;subst h;rw[aR];omega
 |x::r,i+1,d,h=>by
  simp only[List.getElem?_cons_succ]at h;have:=mR h;rw[aR];omega
theorem Fx{d:ae}{b:LA}(h:d.inner[j]?=some b):aR b<d.depth:=by
 have a:=qI h;cases d<;>simp[ae.inner]at a
 .rcases a with rfl|rfl<;>rw[ae.depth]<;>omega
 .subst a;rw[ae.depth];omega
 .subst a;rw[ae.depth];omega
theorem yH:(ak (ds.take i)).length<=(ak ds).length:=by
 have:ak ds=ak (ds.take i)++ak (ds.drop i):=by rw[<- fV,QC]
 rw[this,qh];omega
theorem DN:∀n:Nat,Ω T base (n+2) a.IR a.IS ["block"] (vz n):=by
 intro n
 induction n with
 |zero=>
  refine T.Hy.F.ok jW λa4 A outer s H vs Q E hr h=>?_
  .obtain⟨_,_,_,_,_,_,h0,_⟩:=h;exact Qd h0 (QG _)
 |succ n ih=>
  refine T.Hy.F.ok jW ?_;rintro _ A _ s H vs Q E hr⟨G,b,ds,rfl,D,hb,a7,a0,k⟩
  refine⟨_,(ag (aq (i:=1) jW.nd U Oi (ba ac))
   (ag (bD PassesOwn.never U (ce (pq 0)) (aI (i:=2) jW.nd U Oi)
   (ag (bu (bL qq qE qF cE (pq 1) (a8 (pq 2) ac)))
   (aj (bD PassesOwn.never U (ce (aC (DM T) (hr.mono Yo) T.Kl (a8 (pq 2) ac))) (aI (i:=3) jW.nd U Oi)
   (aj (bu (bL qq Qw Qv ic (pq 1) (a8 (aC ih (hr.mono Yo) T.Hy (a8 (pq 3) ac)) ac))))))))
   (aj (az (pq 1))))),?_⟩
  walk_at "q";obtain⟨O,M⟩:=hb;rename_i vs;refine⟨qC _,λf B=>?_⟩;have a1:=a9.none D B;exists _,U,b,U,⟨_,SqL.of ((a9.new B _) _ _ (D _ _ O))⟩;refine dk (K:=K) (a:=b) (xs:=vs) (λi o t=>∃us I p,o=[some (.ref b),some (.ref f),I,p]/\a9 H t/\t f=some (.lst us)/\RDs G us (ak (ds.take i))) ⟨[],_,_,U,a9.new B _,ah,.nil⟩ ?_ ?_ ?_
  .rintro i o t _ ⟨us,I,p,_,C,_,_⟩;exact SqL.of (C _ _ (D _ _ O))
  .rintro i x o t hx ⟨us,I,p,rfl,C,u,q⟩;obtain⟨d,hd,L⟩:=M.at i x hx;have lu:us.length<=1000:=by rw[q.len];exact qH yH a0
   exists _,U,.inl ⟨U,_,SqL.of u⟩,_,U,f,_,_,U,U,u,bf (m:=1001) Yo;have s3:a9 G (upd t f (.lst (us++[x]))):=a9.over (D.trans C) a1;refine⟨_,U,G,x,d,U,s3,L,λH4 l bs W nl hl R=>⟨l,U,⟨_,SqL.of hl⟩,?_⟩⟩;have lf:l≠f:=λz=>by rw[z,ah]at nl;cases nl
   have all:ak (ds.take (i+1))=ak (ds.take i)++([d]++d.inner.flatMap ak):=FP hd
   refine dk (K:=K) (a:=l) (xs:=bs.map V.ref) (λj o y=>∃g p,o=[some (.ref b),some (.ref f),some x,p]/\a9 H y/\y f=some (.lst g)/\y l=some (.lst (bs.map V.ref))/\RDs G g (ak (ds.take i)++([d]++(d.inner.take j).flatMap ak)))
    ⟨us++[x],_,U,(a9.over C B).trans W,W _ _ ah,hl,q.app (.cons L .nil)⟩ ?_ ?_ ?_
   .rintro j o y _ ⟨g,p,_,_,_,v,_⟩;exact SqL.of v
   .rintro j z o y X0 ⟨g,p,rfl,J,r,v,c⟩;rw[qM]at X0;obtain⟨bj,a3,rfl⟩:=qX.mp X0;obtain⟨dj,N,a2⟩:=R.at j bj a3;have dd:=mR hd;have di:=Fx N
    have st:(d.inner.take (j+1)).flatMap ak=(d.inner.take j).flatMap ak++ak dj:=by
     rw[qA,N,Q4];simp
    have pre:(ak (ds.take i)++([d]++(d.inner.take (j+1)).flatMap ak)).length<=1000:=by
     have e:d.inner.flatMap ak=(d.inner.take (j+1)).flatMap ak++(d.inner.drop (j+1)).flatMap ak:=by rw[<- Q4,QC]
     have:=yH (ds:=ds) (i:=i+1);rw[all,e]at this;simp only[qh]at this ⊢;omega
    rw[st]at pre;simp only[qh]at pre;have a6:g.length<=1000:=by rw[c.len];simp only[qh];omega
    refine⟨_,U,.inl ⟨U,_,SqL.of r⟩,_,U,G,bj,dj,U,D.trans J,a2,Yo,Yo,λH6 X a5 S Z h6 r6=>?_⟩;have f6:X≠f:=λz=>by rw[z,r]at Z;cases Z
    exists f,X,_,_,U,U,S _ _ r,h6,bf (m:=2000) (by rw[r6.len];omega);refine⟨g++a5,_,U,a9.over (J.trans S) B,ah,?_,?_⟩
    .rw[af lf];exact S _ _ v
    .rw[st,<- qV,<- qV];rw[<- qV]at c;exact c.app r6
   .rintro o y ⟨g,p,rfl,J,r,v,c⟩;exists g,_,_,U,J,r;rw[all];rw[qc,R.len,qP]at c;exact c
  .rintro o t ⟨us,I,p,rfl,C,u,q⟩;rw[M.len,qP]at q;exact⟨_,U,k t f us C B u q⟩
theorem Ge(d:ae):d.cards.length<=3:=by
 cases d with
 |set x a _ b=>cases a<;>cases b<;>simp[ae.cards,ae.names,ae.others,Val.names]
 |_=>simp[ae.cards,ae.names,ae.others]
theorem tN:∀(l:LA),(l.flatMap ae.cards).length<=3 * l.length
 |[]=>by simp
 |d::r=>by
  have h1:=Ge d;have a:=tN r;rw[qN,qh,qJ];omega
theorem rW:Ω T base 16 a.IZ a.J0 ["block"] nP:=by
 refine T.Hz.F.ok o6 ?_;rintro _ A _ s H _ Q E hr⟨J,b,ds,C,rfl,j,hb,_,O,N,X,L,k⟩
 refine⟨_,(ag (aq (i:=1) o6.nd U Oi (ba ac))
  (ag (bD PassesOwn.never U (ce (aC (DN T 13) (hr.mono Yk) T.Hy (a8 (pq 0) ac))) (aI (i:=2) o6.nd U Oi)
  (ag (bu (bL qq Qw Qv ic (pq 1) (a8 (aC (xE T) (hr.mono Yk) T.Il (a8 (pq 2) ac)) ac)))
  (aj (bu (bL qq Qw Qv ic (pq 1) (a8 (aC (DF T) (hr.mono Yk) T.Kn (a8 (pq 2) ac)) ac))))))
  (aj (az (aL (tP U) U T.HK PyProof.Rows.Boot.«sorted» (a8 (d6 (mU U) U T.HJ PyProof.Rows.Boot.«set» (a8 (pq 1) ac)) ac)))))),?_⟩
 walk_at "q";refine⟨qC _,λc hc=>?_⟩;have c0:=a9.none j hc;refine⟨_,U,J,b,ds,U,a9.over j c0,hb,Yo,O,λ_ l us X0 R hl u=>⟨l,U,⟨_,SqL.of hl⟩,?_⟩⟩;have S:l≠c:=λz=>by rw[z,ah]at R;cases R
 have few:∀i,(((ak ds).take i).flatMap ae.cards).length<=3000:=λi=>by
  have:=tN ((ak ds).take i);rw[qS]at this;omega
 refine dk (K:=K) (a:=l) (xs:=us) (λi t f=>∃v,t=[some (.ref b),some (.ref c),v]/\a9 H f/\f c=some (.lst ((((ak ds).take i).flatMap ae.cards).map V.str))/\f l=some (.lst us)) ⟨_,U,(a9.new hc _).trans X0,X0 _ _ ah,hl⟩ ?_ ?_ ?_
 .rintro i t f _ ⟨v,_,_,_,h⟩;exact SqL.of h
 .rintro i x t f hx ⟨v,rfl,g,e,D⟩;obtain⟨d,hd,B⟩:=u.at i x hx;have dm:d∈ak ds:=qI hd;have n:=few (i+1);rw[qA,hd]at n
  have a0:(((ak ds).take i).flatMap ae.cards).length+(d.names.length+d.others.length)<=3000:=by
   simpa[Q4,ae.cards]using n
  refine⟨_,U,.inl ⟨U,_,SqL.of e⟩,_,U,J,x,d,U,j.trans g,B,λH4 l4 G _ h4=>?_⟩;exists c,l4,_,_,U,U,G _ _ e,h4,bf (m:=3000) (by rw[qc,qc];omega);have Z:a9 H (upd H4 c (.lst ((((ak ds).take i).flatMap ae.cards).map V.str++d.names.map V.str))):=a9.over (g.trans G) hc;refine⟨_,U,.inl ⟨U,_,SqL.of ah⟩,_,U,J,x,d,U,j.trans Z,B,λz hz=>L _ (N _ (List.mem_flatMap.mpr ⟨d,dm,qQ _ hz⟩)),λ_ l6 I _ h6=>?_⟩;exists c,l6,_,_,U,U,I _ _ ah,h6,bf (m:=3000) (by rw[qh,qc,qc,qc];omega);refine⟨_,U,a9.over (Z.trans I) hc,?_,?_⟩
  .rw[ah,qA,hd];simp[Q4,ae.cards]
  .rw[af S];refine I _ _ ?_;rw[af S];exact G _ _ D
 .rintro t f ⟨v,rfl,g,e,D⟩;rw[u.len,qP]at e;have n:=few (ak ds).length;rw[qP]at n;refine⟨_,U,c,(ak ds).flatMap ae.cards,U,SqL.of e,Yo,λp W=>?_⟩;refine⟨p,(ak ds).flatMap ae.cards,C,U,ah,N,X,λr zs y nd hm so=>?_⟩;have p0:=a9.none g W
  have M:H r=none:=by
   refine a9.none g ?_
   cases q:f r with
   |none=>rfl
   |some o=>
    have:r≠p:=cG q W;rw[af this,q]at y;cases y
  exact k _ r zs (a9.over (a9.over g p0) M) M ah nd hm so
theorem sj:Ω T base 1 a.Jl a.Jm ["_law_script","_law_k"] (vV K):=by
 refine T.HF.F.ok BJ ?_;rintro _ A _ s H _ Q E _⟨l,ns,k,rfl,hl,hn,h0,q⟩
 refine⟨_,(ag (aJ (ax gb (pq 1) (aL bn U T.ad Qg (a8 (pq 0) ac)) (ay _)) (aj (az (ai aA (pq 0) (pq 1) Oy))) aN)
  (aj (az aa))),?_⟩
 walk_at "q";have len:(ns.map V.int).length=ns.length:=qc _;exists _,U,_,U,l,_,U,.inl hl,_,_,U,U,_,U;refine dh (λc=>?_) (λc=>?_)
 .have c:=Ql c;rw[len]at c;have lt:k.toNat<ns.length:=Yo
  have e:atI (ns.map V.int) k=some (.int (ns.getD k.toNat 0)):=by
   have:=aO (xs:=ns.map V.int) (j:=k.toNat) (v:=.int (ns.getD k.toNat 0)) (by rw[qM,qu,qi lt];rfl)
   rwa [Int.toNat_of_nonneg h0]at this
  exact⟨_,U,_,U,l,_,_,_,U,U,hl,e,q⟩
 .have c:¬ k<((ns.map V.int).length:Int):=λz=>c (Qb z);rw[len]at c;have e:ns.getD k.toNat 0=0:=by rw[qu,Qx Yo];rfl
  rw[e]at q;exact q
theorem gM:Ω T base 1 a.Jn a.Jo ["_law_cell","_law_k"] vP:=by
 refine T.or.F.ok wC ?_;rintro _ A _ s H _ Q E _⟨c,k,rfl,h0,_,q⟩;unfold aG at q
 refine⟨_,(ag (aq (i:=2) wC.nd U Oi (ao bp (ao f7 (ao bp (pq 0) aa) (ao bC aa (ao f7 (ao f7 aa (pq 1)) (pq 1)))) aa))
  (aj (az (ao bp (ao f7 (ao bC (pq 2) (pq 1)) (ao bC (pq 2) (ao f7 aa (pq 1)))) aa)))),?_⟩
 walk_at "q";have b:Builtin.Int.intBits k<=64:=intBits_le_64 Yo Yo;walk_at "rd";exists IntMulOk.of_right b;walk_at "rd";exists IntMulOk.of_right b;walk_at "rd";exists IntMulOk.of_left (intBits_le_64 Yo Yo);walk_at "rd";have n0:=Qi (c % 2147483647 * (48271+1103 * k * k)) (show(2147483629:Int)≠0 by decide);have n1:=Qn (c % 2147483647 * (48271+1103 * k * k)) (show(0:Int)<2147483629 by decide);generalize c % 2147483647 * (48271+1103 * k * k) % 2147483629=m at n0 n1 q ⊢;exists IntMulOk.of_right b;walk_at "rd";exists IntMulOk.of_left (intBits_le_64 Yo Yo);walk_at "rd";exact q
theorem u6{j:Int}(h0:0<=j)(a:j<26):atI df.cps.toList j=some (cu j):=by
 have lt:j.toNat<df.cps.toList.length:=by
  have:df.cps.toList.length=26:=Yd;omega
 have:=aO (xs:=df.cps.toList) (j:=j.toNat) (v:=cu j) (by unfold cu;rw[qu,qi lt];rfl)
 rwa [Int.toNat_of_nonneg h0]at this
theorem sM:df.length<=sizeLine:=Yd
theorem Bm(c:Nat):(sgn c).length=1:=U
theorem kx(n:Int):∀k:Nat,(cJ n k).length=k
 |0=>rfl
 |k+1=>by rw[cJ,eh,kx n k,Bm]
theorem xJ:Ω T base 1 a.Jr a.Js ["_law_number_here","_law_size"] vR:=by
 refine T.Im.F.ok jg ?_;rintro _ A _ s H _ Q E _⟨n,k,rfl,h0,_,q⟩
 refine⟨_,(ag (aq (i:=2) jg.nd U Oi aQ)
  (ag (aq (i:=3) jg.nd U Oi aQ)
  (ag (bD PassesOwn.never U (gj U T.u8 (a8 (pq 1) ac)) (aI (i:=4) jg.nd U Oi)
  (ag (aq (i:=3) jg.nd U Oi (ao iG (pq 3) (ai kz (pq 2) (ao bp (pq 0) aa) Oy)))
  (aj (aq (i:=0) jg.nd U Oi (ao cY (pq 0) aa)))))
  (aj (az (pq 3)))))),?_⟩
 walk_at "q";refine⟨_,U,k,U,Yo,Yo,ii (λi c b=>b=H/\i<=k.toNat/\∃v:LC,c=[some (.int (kC n i)),some (.int k),some (.str df),some (.str (cJ n i)),v]) ⟨U,qC _,_,U⟩ ?_ ?_⟩
 .rintro i c b d ⟨rfl,_,v,rfl⟩;have e:=u6 (Qi (kC n i) (show(26:Int)≠0 by decide)) (Qn (kC n i) Yk);exists _,U,_,U,_,U,_,_,U,U,Yk,df,_,_,U,U,sM,e,_,_,U,U,bf (m:=1000) (by rw[kx];show i+1<=1000;omega);exact⟨_,U,_,_,U,U,⟨Yk,Yk⟩,U,d,_,U⟩
 .rintro c b ⟨rfl,_,v,rfl⟩;exact⟨_,U,q⟩
theorem sX{w:Str}:∀{ks:LS},inV (.str w) (ks.map V.str)=decide (w∈ks)
 |[]=>rfl
 |k::ks=>by
  show(eqV (.str k) (.str w) || inV (.str w) (ks.map V.str))=decide (w∈k::ks);rw[sX];show((k == w) || decide (w∈ks))=_;by_cases e:k=w
  .subst e;simp
  .have a:¬ w=k:=λz=>e z.symm;simp[e,a]
theorem Fc:∀w∈kws,atI w.cps.toList (-1)=some (w.cps.toList.getLastD 97)/\Builtin.Str.occurrences df ⟨#[w.cps.toList.getLastD 97]⟩ 0 df.length 1=[w.cps.toList.getLastD 97-97]/\(97<=w.cps.toList.getLastD 97/\w.cps.toList.getLastD 97<=122)/\w.length<=8:=Yd
theorem DQ:Ω T base 1 a.Jt a.Ju ["_law_word"] vE:=by
 refine T.Kt.F.ok wB ?_;rintro _ A _ s H _ Q E _⟨x,rfl,k,q⟩
 refine⟨_,(ag (aq (i:=1) wB.nd U Oi aQ)
  (ag (aJ (ax jy (pq 0) (bc (lY U)) (by with_unfolding_all rfl)) (aj (az (ao iG (gH jT (pq 0) iI (fP (dE dv aa))) (ai kz (pq 1) (ao bp (ao bC (bL PySem.F.plainAttrs_str PySem.F.slot_str_index PySem.F.type_str_index Ew (pq 1) (a8 (ai kz (pq 0) (dE dv aa) Oy) ac)) aa) aa) Oy)))) aN)
  (aj (az (pq 0))))),?_⟩
 walk_at "q";refine⟨_,U,(by show 10<=sizeLine;decide),λp n=>?_⟩;exists p,kws.map V.str,U,.inr (SqT.of ah),U,U,_,U;have sm:=a9.new n (.tup (kws.map V.str));have d:=bf (m:=200) k;refine dh (λc=>?_) (λc=>?_)
 .have c:inV (.str x) (kws.map V.str)=true:=c;rw[sX]at c;have hk:=Ql c;obtain⟨l,g,_,_⟩:=Fc x hk;have f:((x.cps.toList.getLastD 97-97:Nat):Int)=iR x:=by unfold iR;omega
  have e:=u6 (j:=(((x.cps.toList.getLastD 97-97:Nat):Int)+13) % 26) (Qi _ Yk) (Qn _ Yk);have b:=q _ sm;unfold cW at b;rw[Qa hk,<- f]at b;exists _,U,_,U,_,U,x,U,d;exists _,U,_,U,U;exists _,U,_,U,x,_,_,U,U,d,l,df,_,_,_,U,U,g;exists _,_,U,U,_,_,U,U,Yk,df,_,_,U,U,sM,e;refine⟨_,_,U,U,bf (m:=1000) ?_,b⟩;have:=Txt.slice_le x none (some (-1));show _+1<=1000;omega
 .have c:¬ inV (.str x) (kws.map V.str)=true:=c;rw[sX]at c;have b:=q _ sm;unfold cW at b;rw[Q9 (λz=>c (Qb z))]at b;exact⟨_,U,b⟩
theorem y7(c k:Int):0<=aG c k:=by unfold aG;exact Qi _ Yk
theorem y8(c k:Int):aG c k<2147483587:=by unfold aG;exact Qn _ Yk
theorem j9(z:Str)(a b:Option Int):(Txt.slice z a b).length<=z.length:=Txt.slice_le z a b
theorem xa(c:Int):(ca c).length=8:=by unfold ca;exact kx _ 8
theorem CV(c k:Int):(ci c k).length<=30:=by
 unfold ci;have b:=xa c;split
 .have a:=j9 (ca c) none (some (dD c));have d:=j9 (ca c) (some (dD c+1)) (some (eZ c));rw[eh,eh];have:(fq c k).length=1:=U;omega
 .split
  .have a:=j9 (ca c) none (some (1+(aG c 1 / 24+k) % 8));omega
  .have a:=j9 (fq c k++cJ (aG c (k+2)) 7) none (some (1+aG c (k+40) % 8));rw[eh,kx]at a;have:(fq c k).length=1:=U;omega
theorem rS(c:Int)(i:Nat):dU c (i+1)=dU c i++[cW (ci c i)]:=by
 unfold dU;rw[List.range_succ,qW]
 rfl
theorem kj(c:Int)(i:Nat):(dU c i).length=i:=by unfold dU;simp
seal aG cJ ca ci cW
theorem xH:Ω T base 2 a.Jv a.Jw ["_law_cell","_law_many"] vJ:=by
 refine T.Io.F.ok fk ?_;rintro _ A _ s H _ Q E hr⟨c,k,rfl,h0,G,q⟩
 refine⟨_,(ag (aq (i:=2) fk.nd U Oi aQ)
  (ag (aq (i:=3) fk.nd U Oi (aC (gM T) (hr.mono Yk) T.or (a8 (pq 0) (a8 aa ac))))
  (ag (aq (i:=4) fk.nd U Oi (aC (xJ T) (hr.mono Yk) T.Im (a8 (ao bC (ao f7 (pq 3) (pq 3)) (pq 3)) (a8 aa ac))))
  (ag (aq (i:=5) fk.nd U Oi (ao bC aa (ao bp (ao cY (pq 3) aa) aa)))
  (ag (aq (i:=6) fk.nd U Oi (ao bp (ao cY (pq 3) aa) (pq 5)))
  (ag (aq (i:=7) fk.nd U Oi (ba ac))
  (ag (bD PassesOwn.never U (gj U T.u8 (a8 (pq 1) ac)) (aI (i:=8) fk.nd U Oi)
  (ag (aq (i:=9) fk.nd U Oi (ai kz (pq 2) (ao bp (ao bC (ao cY (pq 3) aa) (pq 8)) aa) Oy))
  (ag (aJ (ax aW (ao bp (pq 3) aa) aa (ay _)) (aj (aq (i:=10) fk.nd U Oi (ao iG (ao iG (gH jT (pq 4) iI (fP (pq 6))) (pq 9)) (gH jT (pq 4) (fP (ao bC (pq 6) aa)) (fP (pq 5)))))) (aj (aJ (ax aW (ao bp (pq 3) aa) aa (ay _)) (aj (aq (i:=10) fk.nd U Oi (gH jT (pq 4) iI (fP (ao bC aa (ao bp (ao bC (ao cY (pq 3) aa) (pq 8)) aa)))))) (aj (aq (i:=10) fk.nd U Oi (gH jT (ao iG (pq 9) (aC (xJ T) (hr.mono Yk) T.Im (a8 (aC (gM T) (hr.mono Yk) T.or (a8 (pq 0) (a8 (ao bC (pq 8) aa) ac))) (a8 aa ac)))) iI (fP (ao bC aa (ao bp (aC (gM T) (hr.mono Yk) T.or (a8 (pq 0) (a8 (ao bC (pq 8) aa) ac))) aa)))))))))
  (aj (bu (bL qq qE qF cE (pq 7) (a8 (aC (DQ T) (hr.mono Yk) T.Kt (a8 (pq 10) ac)) ac)))))))
  (ag (aJ (ax aW (ao bp (ao cY (pq 3) aa) aa) aa (ay _)) (aj (az (D8 U U T.mt U T.Lb (pq 7)))) aN)
  (aj (az (pq 7))))))))))),?_⟩
 walk_at "q";have n0:=y7 c 1;have n1:=y8 c 1;have nb:Builtin.Int.intBits (aG c 1)<=64:=intBits_le_64 Yo Yo;exists _,U,c,1,U,Yk,Yk;exists _,U,_,U,_,_,U,U,IntMulOk.of_right nb,_,U,_,_,U,U,_,8,U,Yk,Yk;have base:cJ (aG c 1 * aG c 1+aG c 1) (8:Int).toNat=ca c:=by unfold ca;rfl
 rw[base];exists _,U,_,_,U,U,⟨Yk,Yk⟩,_,_,U,U,Yk,_,_,U,U;have y:1+aG c 1 / 3 % 8=eZ c:=U;rw[y];exists _,U,_,_,U,U,⟨Yk,Yk⟩,_,U,_,_,U,U,Yo;have C:aG c 1 / 24 % eZ c=dD c:=U;rw[C];refine⟨qC _,λl hl=>?_⟩;have bl:=xa c;have v:(ca c).length<=sizeLine:=bf (m:=100) Yo
 refine⟨_,U,k,U,Yo,Yo,ii (λi z o=>a9 H o/\i<=k.toNat/\o l=some (.lst ((dU c i).map V.str))/\∃t u j:LC,z=[some (.int c),some (.int k),some (.str df),some (.int (aG c 1)),some (.str (ca c)),some (.int (eZ c)),some (.int (dD c)),some (.ref l),t,u,j])
  ⟨a9.new hl _,qC _,ah,_,_,_,U⟩ ?_ ?_⟩
 .rintro i z o x ⟨d,_,b,t,u,j,rfl⟩;have I:=u6 (Qi (aG c 1 / 192+(0+(i:Int))) (show(26:Int)≠0 by decide)) (Qn _ Yk);exists _,U,_,U,_,_,U,U,⟨Yk,Yk⟩,_,U,_,_,U,U,_,_,U,U,Yk,df,_,_,U,U,sM,I;have J:(0:Int)+(i:Int)=(i:Int):=Yo;rw[J];have g:(⟨#[cu ((aG c 1 / 192+(i:Int)) % 26)]⟩:Str)=fq c i:=U;have sl:(fq c i).length=1:=U;have M:=CV c i;exists _,U,_,_,U,U,Yk,U,_,U;refine dh (λc1=>?_) (λc1=>?_)
  .have c1:=eJ c1;have G:=j9 (ca c) none (some (dD c));have L:=j9 (ca c) (some (dD c+1)) (some (eZ c));exists _,U,_,U,_,U,ca c,U,v,_,U,_,_,U,U,bf (m:=100) (by rw[g,sl];omega),_,U,_,U,_,_,U,U,_,U,_,U,_,U,ca c,U,v,_,_,U,U,bf (m:=100) (by rw[eh,g,sl];omega)
   have n:Txt.slice (ca c) none (some (dD c))++(⟨#[cu ((aG c 1 / 192+(i:Int)) % 26)]⟩:Str)++Txt.slice (ca c) (some (dD c+1)) (some (eZ c))=ci c i:=by
    rw[g];unfold ci;rw[Qa c1]
   rw[n];refine⟨_,U,.inl ⟨U,_,SqL.of b⟩,_,U,ci c i,U,Yo,λD e=>?_⟩;exists l,_,_,U,U,e _ _ b,bf (m:=1000) (by rw[qc,kj];omega);refine⟨a9.over (d.trans e) hl,x,?_,_,_,_,U⟩;rw[ah,rS,qW]
   rfl
  have c1:=f9 c1;exists _,U,_,_,U,U,Yk,U,_,U;refine dh (λc2=>?_) (λc2=>?_)
  .have c2:=eJ c2;exists _,U,_,U,_,_,U,U,⟨Yk,Yk⟩,_,U,_,_,U,U,_,_,U,U,Yk,_,_,U,U,_,U,ca c,U,v
   have n:Txt.slice (ca c) none (some (1+(aG c 1 / 24+(i:Int)) % 8))=ci c i:=by
    unfold ci;rw[Q9 c1,Qa c2]
   rw[n];refine⟨_,U,.inl ⟨U,_,SqL.of b⟩,_,U,ci c i,U,Yo,λD e=>?_⟩;exists l,_,_,U,U,e _ _ b,bf (m:=1000) (by rw[qc,kj];omega);refine⟨a9.over (d.trans e) hl,x,?_,_,_,_,U⟩;rw[ah,rS,qW]
   rfl
  .have c2:=f9 c2;exists _,U,_,U,_,U,_,_,U,U,c,_,U,Yo,Yo,_,7,U,Yk,Yk;have B:(cJ (aG c ((i:Int)+2)) (7:Int).toNat).length=7:=kx _ 7;exists _,_,U,U,bf (m:=100) (by rw[g,sl,B];omega);exists _,U,_,U,_,_,U,U,c,_,U,Yo,Yo,_,_,U,U,Yk,_,_,U,U,_,U,_,U,bf (m:=100) (by rw[eh,g,sl,B];omega)
   have n:Txt.slice ((⟨#[cu ((aG c 1 / 192+(i:Int)) % 26)]⟩:Str)++cJ (aG c ((i:Int)+2)) (7:Int).toNat) none (some (1+aG c ((i:Int)+40) % 8))=ci c i:=by
    rw[g];unfold ci;rw[Q9 c1,Q9 c2]
    rfl
   rw[n];refine⟨_,U,.inl ⟨U,_,SqL.of b⟩,_,U,ci c i,U,Yo,λD e=>?_⟩;exists l,_,_,U,U,e _ _ b,bf (m:=1000) (by rw[qc,kj];omega);refine⟨a9.over (d.trans e) hl,x,?_,_,_,_,U⟩;rw[ah,rS,qW]
   rfl
 .rintro z o ⟨d,_,b,t,u,j,rfl⟩;exists _,U,_,_,U,U,⟨Yk,Yk⟩,_,_,U,U,Yk,U,_,U;refine dh (λf=>?_) (λf=>?_)
  .have f:=eJ f;refine⟨_,U,l,_,U,SqL.of b,λr p=>?_⟩;refine q _ r (a9.over d (a9.none d p)) (a9.none d p) ?_;rw[ah];unfold cO;rw[Qa f,List.map_reverse]
  .have f:=f9 f;refine⟨_,U,q _ l d hl ?_⟩;unfold cO;rwa[Q9 f]
theorem iP{l:LS}(h:0<l.length)(i:Int):atI (l.map V.str) (i % ((l.map V.str).length:Int))=some (.str (nth l i)):=by
 have e:((l.map V.str).length:Int)=(l.length:Int):=by rw[qc]
 rw[e];have a:0<=i % (l.length:Int):=Qi _ Yo;have b:i % (l.length:Int)<l.length:=Qn _ Yo;have lt:(i % (l.length:Int)).toNat<l.length:=Yo;have:=aO (xs:=l.map V.str) (j:=(i % (l.length:Int)).toNat) (v:=.str (nth l i)) (by unfold nth;rw[qM,qu,qi lt];rfl)
 rwa [Int.toNat_of_nonneg a]at this
theorem Bj(i:Int):atI ("+-*/<=&|^":Str).cps.toList (i % 9)=some (("+-*/<=&|^":Str).cps.toList.getD (i % 9).toNat 0):=by
 have a:0<=i % 9:=Qi _ Yk;have ln:("+-*/<=&|^":Str).cps.toList.length=9:=Yd;have lt:(i % 9).toNat<("+-*/<=&|^":Str).cps.toList.length:=Yo;have:=aO (xs:=("+-*/<=&|^":Str).cps.toList) (j:=(i % 9).toNat) (v:=("+-*/<=&|^":Str).cps.toList.getD (i % 9).toNat 0) (by rw[qu,qi lt];rfl)
 rwa [Int.toNat_of_nonneg a]at this
theorem sY{n:Int}:∀{ks:LI},inV (.int n) (ks.map V.int)=decide (n∈ks)
 |[]=>rfl
 |k::ks=>by
  show(eqV (.int k) (.int n) || inV (.int n) (ks.map V.int))=decide (n∈k::ks);rw[sY];show((k == n) || decide (n∈ks))=_;by_cases e:k=n
  .subst e;simp
  .have a:¬ n=k:=λz=>e z.symm;simp[e,a]
theorem p30:(10:Int) ^ (30:Int).toNat=1000000000000000000000000000000:=Yd
noncomputable def aV(n:Int)(names:LS):Val:=if n / 14 / 125 % 4=0 then .num (n * n * n * 69621 % 1000000000000000000000000000000)else .nm (nth names (n / 14 / 5))
noncomputable def bV(n:Int)(names:LS):Val:=if n / 14 / 500 % 3=0 then .num (n * n * 48271 % 1000000000000000000000000000000)else .nm (nth names (n / 14 / 25))
abbrev jz(n:Int):Prop:=n % 14=1\/n % 14=2\/n % 14=3\/n % 14=4\/n % 14=12\/n % 14=13
abbrev mJ(n:Int):Prop:=n % 14=3\/n % 14=4\/n % 14=13
theorem y4{n:Int}:inV (.int (n % 14)) (([1,2,3,4,12,13]:LI).map V.int)=true↔jz n:=by rw[sY];simp[jz]
theorem yy{n:Int}:inV (.int (n % 14)) (([3,4,13]:LI).map V.int)=true↔mJ n:=by rw[sY];simp[mJ]
theorem Bd{n:Int}{names:LS}(h:n % 14=6):bK n names rooms shut=.give (nth names (n / 14)):=by unfold bK;rw[Qa h]
theorem Bb{n:Int}{names:LS}(h:jz n)(c:0<rooms.length)(b:shut=false):(mJ n->bK n names rooms shut=.get (nth rooms (n / 14 / 5)) (nth names (n / 14)))/\(¬ mJ n->bK n names rooms shut=.put (nth rooms (n / 14 / 5)) (nth names (n / 14))):=by
 have a:¬ n % 14=6:=by unfold jz at h;omega
 unfold bK;rw[Q9 a,Qa ⟨h,c,b⟩];exact⟨λg=>by rw[Qa g],λg=>by rw[Q9 g]⟩
theorem B8{n:Int}{names:LS}(a:¬ n % 14=6)(h:¬ (jz n/\0<rooms.length/\shut=false)):bK n names rooms shut=.set (nth names (n / 14)) (aV n names) (wv (n / 14 / 1500)) (bV n names):=by
 unfold bK;rw[Q9 a,Q9 h]
 rfl
theorem DR:Ω T base 1 a.Jx a.Jy ["_law_number_here","_law_names","_law_rooms","_law_shut"] (vF K):=by
 refine T.Ku.F.ok gZ ?_;rintro _ A _ s H _ Q E _⟨n,ln,k,names,rooms,shut,rfl,hn,m,n0,n1,_,_,b1,q⟩
 refine⟨_,(ag (aq (i:=4) gZ.nd U Oi (ao bp (pq 0) aa))
  (ag (aq (i:=5) gZ.nd U Oi (ao cY (pq 0) aa))
  (ag (aq (i:=6) gZ.nd U Oi (ai aA (pq 1) (ao bp (pq 5) (aL bn U T.ad Qg (a8 (pq 1) ac))) Oy))
  (ag (aJ (ax aW (pq 4) aa (ay _)) (aj (az (bc (a8 aQ (a8 (pq 6) ac))))) aN)
  (ag (aJ (PW.pt (gf (ax jy (pq 4) (bc (lY U)) (by with_unfolding_all rfl)) (gf (ax fO (aL bn U T.ad Qg (a8 (pq 2) ac)) aa (ay _)) (hX (cF (cN (pq 3))))))) (aj (az (bc (a8 (i5 (ax jy (pq 4) (bc (lY U)) (by with_unfolding_all rfl)) aQ aQ) (a8 (ai aA (pq 2) (ao bp (ao cY (pq 5) aa) (aL bn U T.ad Qg (a8 (pq 2) ac))) Oy) (a8 (pq 6) ac)))))) aN)
  (ag (aq (i:=7) gZ.nd U Oi (ai aA (pq 1) (ao bp (ao cY (pq 5) aa) (aL bn U T.ad Qg (a8 (pq 1) ac))) Oy))
  (ag (aq (i:=8) gZ.nd U Oi (ai aA (pq 1) (ao bp (ao cY (pq 5) aa) (aL bn U T.ad Qg (a8 (pq 1) ac))) Oy))
  (ag (aJ (ax aW (ao bp (ao cY (pq 5) aa) aa) aa (ay _)) (aj (aq (i:=7) gZ.nd U Oi (ao bp (ao f7 (ao f7 (ao f7 (pq 0) (pq 0)) (pq 0)) aa) (ao xN aa aa)))) aN)
  (ag (aJ (ax aW (ao bp (ao cY (pq 5) aa) aa) aa (ay _)) (aj (aq (i:=8) gZ.nd U Oi (ao bp (ao f7 (ao f7 (pq 0) (pq 0)) aa) (ao xN aa aa)))) aN)
  (aj (az (bc (a8 aQ (a8 (pq 6) (a8 (pq 7) (a8 (ai kz aQ (ao bp (ao cY (pq 5) aa) aa) Oy) (a8 (pq 8) ac))))))))))))))))),?_⟩
 walk_at "q";have C:(names.map V.str).length=names.length:=qc _;have rl:(rooms.map V.str).length=rooms.length:=qc _
 have fin:∀(l:Hp)(p:Addr)(xs:LV),a9 H l->l p=none->(∀j:Hp,j p=some (.tup xs)->RD j (.ref p) (bK n names rooms shut))->Q (.ref p) (upd l p (.tup xs)):=λl p xs d b hd=>
  q _ p xs (a9.over d (a9.none d b)) (a9.none d b) ah hd
 exists _,U,_,_,U,U,Yk;exists _,U,_,_,U,U,⟨Yk,Yk⟩;exists _,U,_,U,_,U,ln,_,U,.inl hn,_,_,U,U,Yo,ln,_,_,_,U,U,hn,iP n0 _;exists _,U,U,_,U;refine dh (λc=>?_) (λc=>?_)
 .have c:=eJ c;exact⟨_,U,ln2,λp b=>fin H p _ (a9.refl H) b λj h0=>by rw[Bd c];exact .give h0⟩
 have x:=f9 c;refine⟨_,U,(by show 6<=sizeLine;decide),λt ht=>?_⟩;exists t,([1,2,3,4,12,13]:LI).map V.int,U,.inr (SqT.of ah),U,U,_,U;have d:a9 H (upd H t (.tup (([1,2,3,4,12,13]:LI).map V.int))):=a9.new ht _;have e:=d.seq hn;have r:=d.seq m;refine mF (Pc:=¬ (jz n/\0<rooms.length/\shut=false)) (λc z=>c (y4.mpr z.1)) ?_ λc go=>?_
 .intro nm;refine jE ?_;exists _,U,_,U,_,_,U,U,⟨Yk,Yk⟩,_,U,ln,_,U,.inl e,_,_,U,U,Yo,ln,_,_,_,U,U,e,iP n0 _;exists _,U,_,U,_,_,U,U,⟨Yk,Yk⟩,_,U,ln,_,U,.inl e,_,_,U,U,Yo,ln,_,_,_,U,U,e,iP n0 _;exists _,U,_,_,U,U,⟨Yk,Yk⟩,_,_,U,U,Yk,U,_,U;have nb:Builtin.Int.intBits n<=64:=intBits_le_64 Yo Yo;generalize hv0:V.str (nth names (n / 14 / 5))=v0;refine sS (P:=λv=>v=(aV n names).v) (w:=v0) (λc=>?_) ?_ λc go=>?_
  .rw[<- hv0];unfold aV;rw[Q9 (f9 c)]
   rfl
  .rintro _ rfl;exists _,U,_,_,U,U,⟨Yk,Yk⟩,_,_,U,U,Yk,U,_,U;generalize hv1:V.str (nth names (n / 14 / 25))=v1;refine sS (P:=λv=>v=(bV n names).v) (w:=v1) (λc=>?_) ?_ λc go=>?_
   .rw[<- hv1];unfold bV;rw[Q9 (f9 c)]
    rfl
   .rintro _ rfl;refine⟨_,U,_,U,_,U,_,_,U,U,⟨Yk,Yk⟩,_,_,U,U,Yk,_,_,_,U,U,Yd,Bj _,_,U,(by show 5<=sizeLine;decide),λp b=>fin _ p _ d b λj h0=>?_⟩;rw[B8 x nm];exact .set h0
   .refine⟨_,U,_,U,_,_,U,U,IntMulOk.of_right nb,_,_,U,U,IntMulOk.of_right (intBits_le_64 Yk Yk),_,_,U,U,⟨Yk,Yk,Yk⟩,_,_,U,U,by rw[p30];decide,?_⟩;rw[p30];refine go _ ?_;unfold bV;rw[Qa (eJ c)]
    rfl
  .refine⟨_,U,_,U,_,_,U,U,IntMulOk.of_right nb,_,U,_,_,U,U,IntMulOk.of_right nb,_,_,U,U,IntMulOk.of_right (intBits_le_64 Yk Yk),_,_,U,U,⟨Yk,Yk,Yk⟩,_,_,U,U,by rw[p30];decide,?_⟩;rw[p30];refine go _ ?_;unfold aV;rw[Qa (eJ c)]
   rfl
 .have B:=y4.mp c;exists _,U,k,_,U,.inl r,_,_,U,U,_,U;refine dh (λc2=>?_) (λc2=>?_)
  .have c2:0<rooms.length:=by
    have:=Ql c2;rw[rl]at this;omega
   cases shut with
   |true=>
    exists _,U,_,U;exact go λz=>nomatch z.2.2
   |false=>
    exists _,U,_,U;refine sU ?_;have mv:=Bb (names:=names) B c2 (shut:=false) U;refine⟨_,U,(by show 3<=sizeLine;decide),λu y=>?_⟩;exists u,([3,4,13]:LI).map V.int,U,.inr (SqT.of ah),U,U,_,U;have o:a9 H (upd (upd H t (.tup (([1,2,3,4,12,13]:LI).map V.int))) u (.tup (([3,4,13]:LI).map V.int))):=a9.over d (a9.none d y);have f:=o.seq m;refine dh (λc3=>?_) (λc3=>?_)
    .refine⟨_,U,_,U,_,_,U,U,⟨Yk,Yk⟩,_,U,k,_,U,.inl f,_,_,U,U,Yo,k,_,_,_,U,U,f,iP c2 _,_,U,ln3,λp b=>fin _ p _ o b λj h0=>?_⟩;rw[mv.1 (yy.mp c3)];exact .get h0
    .refine⟨_,U,_,U,_,_,U,U,⟨Yk,Yk⟩,_,U,k,_,U,.inl f,_,_,U,U,Yo,k,_,_,_,U,U,f,iP c2 _,_,U,ln3,λp b=>fin _ p _ o b λj h0=>?_⟩;rw[mv.2 λg=>c3 (yy.mpr g)];exact .put h0
  .exact go λz=>c2 (Qb (by rw[rl];have:=z.2.1;omega))
theorem DX:Ω T base 1 a.Jz a.JA ["_law_state","_law_number_here","_law_x","_law_most"] vM:=by
 refine T.Kv.F.ok eW ?_;rintro _ A _ s H vs Q E _⟨_,_,S,B,C,l,t,x,r,n,most,nm,rfl,Z,d2,d6,n0,n1,m0,_,t0,_,q⟩
 refine⟨_,(ag (aq (i:=4) eW.nd U Oi (ao bp (pq 1) aa))
  (ag (aq (i:=5) eW.nd U Oi (ao cY (pq 1) aa))
  (ag (aq (i:=6) eW.nd U Oi (ba ac))
  (ag (aq (i:=7) eW.nd U Oi bN)
  (ag (aq (i:=8) eW.nd U Oi cq)
  (ag (aq (i:=9) eW.nd U Oi aa)
  (ag (aJ (ax aW (pq 4) aa (ay _)) (ag (aq (i:=7) eW.nd U Oi (ba ac))
  (aj (bu (bL qq qE qF cE (ai aA (ai aA (pq 0) aa Oy) (dE dv aa) Oy) (a8 (bc (a8 aQ (a8 (pq 2) (a8 (pq 6) (a8 (pq 7) ac))))) ac))))) (aj (aJ (ax aW (pq 4) aa (ay _)) (aj (bu (bL qq qE qF cE (ai aA (ai aA (pq 0) aa Oy) (dE dv aa) Oy) (a8 (bc (a8 aQ (a8 (pq 2) (a8 (pq 6) ac)))) ac)))) (ag (aq (i:=10) eW.nd U Oi (ai aA (ai aA (pq 0) aa Oy) (dE dv aa) Oy))
  (ag (aq (i:=11) eW.nd U Oi (ao bp (pq 5) aa))
  (ag (aJ (ax fO (pq 10) aa (ay _)) (aj (aq (i:=11) eW.nd U Oi (ao bp (pq 5) (ao bC aa (ao cY (pq 3) (pq 10)))))) aN)
  (ag (bu (bL qq qE qF cE (ai aA (ai aA (pq 0) aa Oy) (dE dv aa) Oy) (a8 (bc (a8 aQ (a8 (pq 11) (a8 (pq 6) ac)))) ac)))
  (ag (aq (i:=8) eW.nd U Oi (ai aA (ai aA (pq 0) aa Oy) (dE dv aa) Oy))
  (aj (aq (i:=9) eW.nd U Oi (ao f7 (pq 10) (pq 11))))))))))))
  (ag (bu (bL qq qE qF cE (ai aA (pq 0) aa Oy) (a8 (pq 6) ac)))
  (ag (bu (bL qq qE qF cE (ai aA (pq 0) aa Oy) (a8 (pq 7) ac)))
  (ag (bu (bL qq qE qF cE (ai aA (pq 0) aa Oy) (a8 (pq 8) ac)))
  (aj (bu (bL qq qE qF cE (ai aA (pq 0) aa Oy) (a8 (pq 9) ac)))))))))))))),?_⟩
 walk_at "q";obtain⟨a1,a2,a3,_,c',c4,b9,d1,c6,c9⟩:=Z.ss;have G:=Z.ne (i9 (x:=x) (r:=r));obtain⟨_,_,vs,e1,hc,d5⟩:=Z.top;cases e1;have lv:vs.length<=1000:=by rw[d5.len];exact d6
 have g:∀{β:Type}(f:Fz->β),(((x::r).map f).reverse).length<sizeLine:=λf=>by
  rw[List.length_reverse,qc];exact qL (Nat.lt_succ_of_le d2) Yk
 have b8:vs.length<sizeLine:=qL (Nat.lt_succ_of_le lv) Yk;exists _,U,_,_,U,U,Yk;exists _,U,_,_,U,U,⟨Yk,Yk⟩;refine⟨qC _,λd a6=>?_⟩;have d0:d≠x.c:=λe=>by rw[e,hc]at a6;cases a6
 have v:a9 H (upd H d (.lst [])):=a9.new a6 _;exists _,U,U,_,U;refine dh (λc7=>?_) (λc7=>?_)
 .have c7:=eJ c7;refine⟨qC _,λk b'=>?_⟩;have c5:k≠d:=λe=>by rw[e,ah]at b';cases b'
  have a7:H k=none:=a9.none v b';have d4:k≠x.c:=λe=>by rw[e,hc]at a7;cases a7
  have b2:a9 H (upd (upd H d (.lst [])) k (.lst [])):=a9.over v a7;refine⟨_,U,S,_,_,_,U,U,SqL.of (b2 _ _ Z.cS),U,_,U,B,_,_,_,U,U,SqL.of (b2 _ _ Z.c0),gP,.inl ⟨U,_,SqL.of (b2 _ _ hc)⟩,_,U,_,U,_,U,(by show 4<=sizeLine;decide),λp J=>?_⟩;have D:H p=none:=a9.none b2 J;have O:a9 H (upd (upd (upd H d (.lst [])) k (.lst [])) p (.tup [.str "if",.str nm,.ref d,.ref k])):=a9.over b2 D;have b0:p≠d:=λe=>by rw[e,af (Ne.symm c5),ah]at J;cases J
  have d3:p≠k:=λe=>by rw[e,ah]at J;cases J
  have pc:p≠x.c:=λe=>by rw[e,hc]at D;cases D
  exists x.c,_,_,U,U,O _ _ hc,b8;have j:∀b u,b≠x.c->H b=some u->(upd (upd (upd (upd H d (.lst [])) k (.lst [])) p (.tup [.str "if",.str nm,.ref d,.ref k])) x.c (.lst (vs++[.ref p]))) b=some u:=λb u hb h=>by rw[af hb];exact O _ _ h
  have R:(upd (upd (upd (upd H d (.lst [])) k (.lst [])) p (.tup [.str "if",.str nm,.ref d,.ref k])) x.c (.lst (vs++[.ref p]))) x.c=some (.lst (vs++[.ref p])):=ah;have a0:(upd (upd (upd (upd H d (.lst [])) k (.lst [])) p (.tup [.str "if",.str nm,.ref d,.ref k])) x.c (.lst (vs++[.ref p]))) p=some (.tup [.str "if",.str nm,.ref d,.ref k]):=by rw[af pc,ah]
  have I:(upd (upd (upd (upd H d (.lst [])) k (.lst [])) p (.tup [.str "if",.str nm,.ref d,.ref k])) x.c (.lst (vs++[.ref p]))) d=some (.lst [])/\(upd (upd (upd (upd H d (.lst [])) k (.lst [])) p (.tup [.str "if",.str nm,.ref d,.ref k])) x.c (.lst (vs++[.ref p]))) k=some (.lst []):=
   ⟨by rw[af d0,af (Ne.symm b0),af (Ne.symm c5),ah],by rw[af d4,af (Ne.symm d3),ah]⟩
  generalize (upd (upd (upd (upd H d (.lst [])) k (.lst [])) p (.tup [.str "if",.str nm,.ref d,.ref k])) x.c (.lst (vs++[.ref p])))=H4 at j R a0 I ⊢;have a5:=j _ _ G.1 Z.cS;have W:=j _ _ G.2.1 Z.c0;have b5:=j _ _ G.2.2.1 Z.c1;have b6:=j _ _ G.2.2.2.1 Z.c2;have a':=j _ _ G.2.2.2.2 Z.c3;exists _,U,S,_,_,_,U,U,SqL.of a5,U,.inl ⟨U,_,SqL.of W⟩,_,U,B,_,_,U,U,W,g _;generalize hH5:upd H4 B (.lst (((x::r).map λx=>V.ref x.c).reverse++[.ref d]))=H5;have L:H5 S=some (.lst [.ref B,.ref C,.ref l,.ref t]):=by rwa[<- hH5,af a1]
  have X:H5 C=some (.lst (((x::r).map Fz.o).reverse)):=by rwa[<- hH5,af (Ne.symm c')]
  have b1:H5 l=some (.lst (((x::r).map λx=>V.bl x.f.shut).reverse)):=by rwa[<- hH5,af (Ne.symm c4)]
  have b4:H5 t=some (.lst (((x::r).map λx=>V.int x.f.times).reverse)):=by rwa[<- hH5,af (Ne.symm b9)]
  exists _,U,S,_,_,_,U,U,SqL.of L,U,.inl ⟨U,_,SqL.of X⟩,_,U,C,_,_,U,U,X,g _;generalize hH6:upd H5 C (.lst (((x::r).map Fz.o).reverse++[.ref k]))=H6;have X0:H6 S=some (.lst [.ref B,.ref C,.ref l,.ref t]):=by rw[<- hH6,af a2];exact L
  have M:H6 l=some (.lst (((x::r).map λx=>V.bl x.f.shut).reverse)):=by rwa[<- hH6,af (Ne.symm d1)]
  have b7:H6 t=some (.lst (((x::r).map λx=>V.int x.f.times).reverse)):=by rwa[<- hH6,af (Ne.symm c6)]
  exists _,U,S,_,_,_,U,U,SqL.of X0,U,.inl ⟨U,_,SqL.of M⟩,_,U,l,_,_,U,U,M,g _;generalize hH7:upd H6 l (.lst (((x::r).map λx=>V.bl x.f.shut).reverse++[.bl true]))=H7;have b3:H7 S=some (.lst [.ref B,.ref C,.ref l,.ref t]):=by rw[<- hH7,af a3];exact X0
  have N:H7 t=some (.lst (((x::r).map λx=>V.int x.f.times).reverse)):=by rwa[<- hH7,af (Ne.symm c9)]
  exists _,U,S,_,_,_,U,U,SqL.of b3,U,.inl ⟨U,_,SqL.of N⟩,_,U,t,_,_,U,U,N,g _;subst hH7 hH6 hH5;refine q _ ⟨⟨.ifT nm,[],true,0⟩,d,p,k⟩ (rV (y:=⟨⟨.ifT nm,[],true,0⟩,d,p,k⟩) Z hc j (λm hm=>?_) ?_ a0 (by simp) (by simp) U R) ?_
  .simp[Fz.muts]at hm;rcases hm with rfl|rfl
   .exact⟨a6,I.1⟩
   .exact⟨a7,I.2⟩
  .simp[Fz.muts];exact Ne.symm c5
  .unfold gK;dsimp only;rw[Qa c7]
 have c7:=f9 c7;exists _,U,U,_,U;refine dh (λc8=>?_) (λc8=>?_)
 .have c8:=eJ c8;refine⟨_,U,S,_,_,_,U,U,SqL.of (v _ _ Z.cS),U,_,U,B,_,_,_,U,U,SqL.of (v _ _ Z.c0),gP,.inl ⟨U,_,SqL.of (v _ _ hc)⟩,_,U,_,U,(by show 3<=sizeLine;decide),λp J=>?_⟩;have D:H p=none:=a9.none v J;have O:a9 H (upd (upd H d (.lst [])) p (.tup [.str "while",.str nm,.ref d])):=a9.over v D;have b0:p≠d:=λe=>by rw[e,ah]at J;cases J
  have pc:p≠x.c:=λe=>by rw[e,hc]at D;cases D
  exists x.c,_,_,U,U,O _ _ hc,b8;have j:∀b u,b≠x.c->H b=some u->(upd (upd (upd H d (.lst [])) p (.tup [.str "while",.str nm,.ref d])) x.c (.lst (vs++[.ref p]))) b=some u:=λb u hb h=>by rw[af hb];exact O _ _ h
  have R:(upd (upd (upd H d (.lst [])) p (.tup [.str "while",.str nm,.ref d])) x.c (.lst (vs++[.ref p]))) x.c=some (.lst (vs++[.ref p])):=ah;have a0:(upd (upd (upd H d (.lst [])) p (.tup [.str "while",.str nm,.ref d])) x.c (.lst (vs++[.ref p]))) p=some (.tup [.str "while",.str nm,.ref d]):=by rw[af pc,ah]
  have I:(upd (upd (upd H d (.lst [])) p (.tup [.str "while",.str nm,.ref d])) x.c (.lst (vs++[.ref p]))) d=some (.lst []):=by rw[af d0,af (Ne.symm b0),ah]
  generalize (upd (upd (upd H d (.lst [])) p (.tup [.str "while",.str nm,.ref d])) x.c (.lst (vs++[.ref p])))=H4 at j R a0 I ⊢;have a5:=j _ _ G.1 Z.cS;have W:=j _ _ G.2.1 Z.c0;have b5:=j _ _ G.2.2.1 Z.c1;have b6:=j _ _ G.2.2.2.1 Z.c2;have a':=j _ _ G.2.2.2.2 Z.c3;exists _,U,S,_,_,_,U,U,SqL.of a5,U,.inl ⟨U,_,SqL.of W⟩,_,U,B,_,_,U,U,W,g _;generalize hH5:upd H4 B (.lst (((x::r).map λx=>V.ref x.c).reverse++[.ref d]))=H5;have L:H5 S=some (.lst [.ref B,.ref C,.ref l,.ref t]):=by rwa[<- hH5,af a1]
  have X:H5 C=some (.lst (((x::r).map Fz.o).reverse)):=by rwa[<- hH5,af (Ne.symm c')]
  have b1:H5 l=some (.lst (((x::r).map λx=>V.bl x.f.shut).reverse)):=by rwa[<- hH5,af (Ne.symm c4)]
  have b4:H5 t=some (.lst (((x::r).map λx=>V.int x.f.times).reverse)):=by rwa[<- hH5,af (Ne.symm b9)]
  exists _,U,S,_,_,_,U,U,SqL.of L,U,.inl ⟨U,_,SqL.of X⟩,_,U,C,_,_,U,U,X,g _;generalize hH6:upd H5 C (.lst (((x::r).map Fz.o).reverse++[.non]))=H6;have X0:H6 S=some (.lst [.ref B,.ref C,.ref l,.ref t]):=by rw[<- hH6,af a2];exact L
  have M:H6 l=some (.lst (((x::r).map λx=>V.bl x.f.shut).reverse)):=by rwa[<- hH6,af (Ne.symm d1)]
  have b7:H6 t=some (.lst (((x::r).map λx=>V.int x.f.times).reverse)):=by rwa[<- hH6,af (Ne.symm c6)]
  exists _,U,S,_,_,_,U,U,SqL.of X0,U,.inl ⟨U,_,SqL.of M⟩,_,U,l,_,_,U,U,M,g _;generalize hH7:upd H6 l (.lst (((x::r).map λx=>V.bl x.f.shut).reverse++[.bl true]))=H7;have b3:H7 S=some (.lst [.ref B,.ref C,.ref l,.ref t]):=by rw[<- hH7,af a3];exact X0
  have N:H7 t=some (.lst (((x::r).map λx=>V.int x.f.times).reverse)):=by rwa[<- hH7,af (Ne.symm c9)]
  exists _,U,S,_,_,_,U,U,SqL.of b3,U,.inl ⟨U,_,SqL.of N⟩,_,U,t,_,_,U,U,N,g _;subst hH7 hH6 hH5;refine q _ ⟨⟨.whl nm,[],true,0⟩,d,p,d⟩ (rV (y:=⟨⟨.whl nm,[],true,0⟩,d,p,d⟩) Z hc j (λm hm=>?_) (by simp[Fz.muts]) a0 (by simp) (by simp) U R) ?_
  .simp[Fz.muts]at hm;subst hm;exact⟨a6,I⟩
  .unfold gK;dsimp only;rw[Q9 c7,Qa c8]
 have c8:=f9 c8;exists _,U,S,_,_,_,U,U,SqL.of (v _ _ Z.cS),U,_,U,t,_,_,_,U,U,SqL.of (v _ _ Z.c3),gP;exists _,U,_,_,U,U,Yk;exists _,U,_,_,U,U,_,U;generalize hm0:n / 70 % 100=mm;refine sS (P:=λm=>m=cQ n most x.f.times) (w:=mm) (λcc=>?_) ?_ λcc go=>?_
 .rw[<- hm0];unfold cQ;rw[Q9 (λz=>cc (Qb z))]
 .rintro m rfl;refine⟨_,U,S,_,_,_,U,U,SqL.of (v _ _ Z.cS),U,_,U,B,_,_,_,U,U,SqL.of (v _ _ Z.c0),gP,.inl ⟨U,_,SqL.of (v _ _ hc)⟩,_,U,_,U,(by show 3<=sizeLine;decide),λp J=>?_⟩;have D:H p=none:=a9.none v J;have O:a9 H (upd (upd H d (.lst [])) p (.tup [.str "repeat",.int (cQ n most x.f.times),.ref d])):=a9.over v D;have b0:p≠d:=λe=>by rw[e,ah]at J;cases J
  have pc:p≠x.c:=λe=>by rw[e,hc]at D;cases D
  exists x.c,_,_,U,U,O _ _ hc,b8;have j:∀b u,b≠x.c->H b=some u->(upd (upd (upd H d (.lst [])) p (.tup [.str "repeat",.int (cQ n most x.f.times),.ref d])) x.c (.lst (vs++[.ref p]))) b=some u:=λb u hb h=>by rw[af hb];exact O _ _ h
  have R:(upd (upd (upd H d (.lst [])) p (.tup [.str "repeat",.int (cQ n most x.f.times),.ref d])) x.c (.lst (vs++[.ref p]))) x.c=some (.lst (vs++[.ref p])):=ah;have a0:(upd (upd (upd H d (.lst [])) p (.tup [.str "repeat",.int (cQ n most x.f.times),.ref d])) x.c (.lst (vs++[.ref p]))) p=some (.tup [.str "repeat",.int (cQ n most x.f.times),.ref d]):=by rw[af pc,ah]
  have I:(upd (upd (upd H d (.lst [])) p (.tup [.str "repeat",.int (cQ n most x.f.times),.ref d])) x.c (.lst (vs++[.ref p]))) d=some (.lst []):=by rw[af d0,af (Ne.symm b0),ah]
  exists _,U,S,_,_,_,U,U,SqL.of (j _ _ G.1 Z.cS),U,_,U,l,_,_,_,U,U,SqL.of (j _ _ G.2.2.2.1 Z.c2),gP;exists _,U,_,U,_,_,U,U,IntMulOk.of_left (intBits_le_64 Yo Yo);generalize (upd (upd (upd H d (.lst [])) p (.tup [.str "repeat",.int (cQ n most x.f.times),.ref d])) x.c (.lst (vs++[.ref p])))=H4 at j R a0 I ⊢;have a5:=j _ _ G.1 Z.cS;have W:=j _ _ G.2.1 Z.c0;have b5:=j _ _ G.2.2.1 Z.c1;have b6:=j _ _ G.2.2.2.1 Z.c2;have a':=j _ _ G.2.2.2.2 Z.c3;exists _,U,S,_,_,_,U,U,SqL.of a5,U,.inl ⟨U,_,SqL.of W⟩,_,U,B,_,_,U,U,W,g _;generalize hH5:upd H4 B (.lst (((x::r).map λx=>V.ref x.c).reverse++[.ref d]))=H5;have L:H5 S=some (.lst [.ref B,.ref C,.ref l,.ref t]):=by rwa[<- hH5,af a1]
  have X:H5 C=some (.lst (((x::r).map Fz.o).reverse)):=by rwa[<- hH5,af (Ne.symm c')]
  have b1:H5 l=some (.lst (((x::r).map λx=>V.bl x.f.shut).reverse)):=by rwa[<- hH5,af (Ne.symm c4)]
  have b4:H5 t=some (.lst (((x::r).map λx=>V.int x.f.times).reverse)):=by rwa[<- hH5,af (Ne.symm b9)]
  exists _,U,S,_,_,_,U,U,SqL.of L,U,.inl ⟨U,_,SqL.of X⟩,_,U,C,_,_,U,U,X,g _;generalize hH6:upd H5 C (.lst (((x::r).map Fz.o).reverse++[.non]))=H6;have X0:H6 S=some (.lst [.ref B,.ref C,.ref l,.ref t]):=by rw[<- hH6,af a2];exact L
  have M:H6 l=some (.lst (((x::r).map λx=>V.bl x.f.shut).reverse)):=by rwa[<- hH6,af (Ne.symm d1)]
  have b7:H6 t=some (.lst (((x::r).map λx=>V.int x.f.times).reverse)):=by rwa[<- hH6,af (Ne.symm c6)]
  exists _,U,S,_,_,_,U,U,SqL.of X0,U,.inl ⟨U,_,SqL.of M⟩,_,U,l,_,_,U,U,M,g _;generalize hH7:upd H6 l (.lst (((x::r).map λx=>V.bl x.f.shut).reverse++[.bl x.f.shut]))=H7;have b3:H7 S=some (.lst [.ref B,.ref C,.ref l,.ref t]):=by rw[<- hH7,af a3];exact X0
  have N:H7 t=some (.lst (((x::r).map λx=>V.int x.f.times).reverse)):=by rwa[<- hH7,af (Ne.symm c9)]
  exists _,U,S,_,_,_,U,U,SqL.of b3,U,.inl ⟨U,_,SqL.of N⟩,_,U,t,_,_,U,U,N,g _;subst hH7 hH6 hH5;refine q _ ⟨⟨.rep (cQ n most x.f.times),[],x.f.shut,x.f.times * cQ n most x.f.times⟩,d,p,d⟩ (rV (y:=⟨⟨.rep (cQ n most x.f.times),[],x.f.shut,x.f.times * cQ n most x.f.times⟩,d,p,d⟩) Z hc j (λm hm=>?_) (by simp[Fz.muts]) a0 (by simp) (by simp) U R) ?_
  .simp[Fz.muts]at hm;subst hm;exact⟨a6,I⟩
  .unfold gK;dsimp only;rw[Q9 c7,Q9 c8]
 .have tp:0<x.f.times:=Ql cc;refine⟨_,U,_,U,_,U,_,_,U,U,⟨tp,Yo⟩,_,_,U,U,_,_,U,U,?_,?_⟩
  .have:=Int.ediv_nonneg m0 t0;omega
  .refine go _ ?_;unfold cQ;rw[Qa tp]
abbrev c1P(low n most:Int)(len:Nat)(shut:Bool):Prop:=low<=n % 14/\n % 14<=9/\len+1<=12/\(n % 14<9\/0<most\/shut=true)
theorem E5:Ω T base 2 a.JB a.JC ["_law_cells","_law_names","_law_rooms","_law_most","_law_low"] (vW K):=by
 refine T.Kw.F.ok iE ?_;rintro _ A _ s H vs Q E hr⟨lc,ln,lr,l,names,rooms,most,low,rfl,d3,h6,g4,_,b',f',h9,m0,m1,q⟩
 refine⟨_,(ag (aq (i:=5) iE.nd U Oi (ba ac))
  (ag (aq (i:=6) iE.nd U Oi (ba (a8 (ba (a8 (pq 5) ac)) (a8 (ba (a8 bN ac)) (a8 (ba (a8 cq ac)) (a8 (ba (a8 aa ac)) ac))))))
  (ag (bD PassesOwn.never U (ce (pq 0)) (aI (i:=7) iE.nd U Oi)
  (ag (aq (i:=8) iE.nd U Oi (aC (gM T) (hr.mono Yk) T.or (a8 (pq 7) (a8 aa ac))))
  (ag (aq (i:=9) iE.nd U Oi (ao bp (pq 8) aa))
  (aj (aJ (PW.pt (gf (lQ hV hV (pq 4) (pq 9) aa) (gf (ax hV (aL bn U T.ad Qg (a8 (ai aA (pq 6) aa Oy) ac)) aa (ay _)) (hX (PW.pt (c9 (ax gb (pq 9) aa (ay _)) (c9 (ax fO (pq 3) aa (ay _)) (dL (cN (ai aA (ai aA (pq 6) aa Oy) (dE dv aa) Oy)))))))))) (aj (bu (aC (DX T) (hr.mono Yk) T.Kv (a8 (pq 6) (a8 (pq 8) (a8 (ai aA (pq 1) (ao bp (ao cY (pq 8) aa) (aL bn U T.ad Qg (a8 (pq 1) ac))) Oy) (a8 (pq 3) ac))))))) (aj (aJ (PW.pt (gf (ax aW (pq 9) aa (ay _)) (hX (ax eX (ai aA (ai aA (pq 6) aa Oy) (dE dv aa) Oy) bN (ay _))))) (ag (gi (ai aA (ai aA (pq 6) aa Oy) (dE dv aa) Oy) (jw (ai aA (pq 6) aa Oy) (dE dv aa) ja))
  (aj (gi bN (jw (ai aA (pq 6) aa Oy) (dE dv aa) ja)))) (aj (aJ (PW.pt (gf (ax wN (pq 9) aa (ay _)) (hX (ax fO (aL bn U T.ad Qg (a8 (ai aA (pq 6) aa Oy) ac)) aa (ay _))))) (aj (bD PassesOwn.never U (ce (pq 6)) (aI (i:=10) iE.nd U Oi)
  (aj (bu (xk qq PySem.F.slot_list_pop PySem.F.type_list_pop y3 (pq 10)))))) (aj (bu (bL qq qE qF cE (ai aA (ai aA (pq 6) aa Oy) (dE dv aa) Oy) (a8 (aC (DR T) (hr.mono Yk) T.Ku (a8 (pq 8) (a8 (pq 1) (a8 (pq 2) (a8 (ai aA (ai aA (pq 6) aa Oy) (dE dv aa) Oy) ac))))) ac)))))))))))))
  (aj (az (pq 5)))))),?_⟩
 walk_at "q";refine⟨qC _,λb hb=>?_⟩;refine⟨_,U,ln1,λd h0=>⟨ln1,λt h1=>⟨ln1,λB h2=>⟨ln1,λC h3=>⟨(by show 4<=sizeLine;decide),λS hS=>?_⟩⟩⟩⟩⟩;have sb:a9 H (upd H b (.lst [])):=a9.new hb _;have g0:=a9.none sb h0;have e0:a9 H (upd (upd H b (.lst [])) d (.lst [.ref b])):=a9.over sb g0;have g1:=a9.none e0 h1;have f6:a9 H (upd (upd (upd H b (.lst [])) d (.lst [.ref b])) t (.lst [.non])):=a9.over e0 g1;have g2:=a9.none f6 h2;have d7:a9 H (upd (upd (upd (upd H b (.lst [])) d (.lst [.ref b])) t (.lst [.non])) B (.lst [.bl false])):=a9.over f6 g2;have g3:=a9.none d7 h3;have d5:a9 H (upd (upd (upd (upd (upd H b (.lst [])) d (.lst [.ref b])) t (.lst [.non])) B (.lst [.bl false])) C (.lst [.int 1])):=a9.over d7 g3;have gS:=a9.none d5 hS;have ne:∀{X:Hp}{u v:Addr}{o:HO},(upd X u o) v=none->v≠u:=λh e=>by rw[e,ah]at h;cases h
 have f1:=ne h0;have b3:=ne h1;have f3:t≠b:=ne (by rw[af b3]at h1;exact h1);have b6:=ne h2;have a0:(upd (upd H b (.lst [])) d (.lst [.ref b])) B=none:=by rw[af b6]at h2;exact h2
 have b4:=ne a0;have e':B≠b:=ne (by rw[af b4]at a0;exact a0);have b2:=ne h3;have b5:(upd (upd (upd H b (.lst [])) d (.lst [.ref b])) t (.lst [.non])) C=none:=by rw[af b2]at h3;exact h3
 have b7:=ne b5;have O:(upd (upd H b (.lst [])) d (.lst [.ref b])) C=none:=by rw[af b7]at b5;exact b5
 have c4:=ne O;have f4:C≠b:=ne (by rw[af c4]at O;exact O);have c6:=ne hS;have a':(upd (upd (upd (upd H b (.lst [])) d (.lst [.ref b])) t (.lst [.non])) B (.lst [.bl false])) S=none:=by rw[af c6]at hS;exact hS
 have a6:=ne a';have c5:(upd (upd (upd H b (.lst [])) d (.lst [.ref b])) t (.lst [.non])) S=none:=by rw[af a6]at a';exact a'
 have b0:=ne c5;have b8:(upd (upd H b (.lst [])) d (.lst [.ref b])) S=none:=by rw[af b0]at c5;exact c5
 have b1:=ne b8;have d1:S≠b:=ne (by rw[af b1]at b8;exact b8)
 have Z0:ZI H H (upd (upd (upd (upd (upd (upd H b (.lst [])) d (.lst [.ref b])) t (.lst [.non])) B (.lst [.bl false])) C (.lst [.int 1])) S (.lst [.ref d,.ref t,.ref B,.ref C])) S d t B C [⟨⟨.root,[],false,1⟩,b,b,b⟩]:=by
  refine{ hb:=a9.refl H,h0:=a9.over d5 gS,fz:=?_,nd:=?_,cS:=ah,c0:=?_,c1:=?_,c2:=?_,c3:=?_,zr:=?_ }
  .intro m X0;simp[bx,Fz.muts]at X0;rcases X0 with rfl|rfl|rfl|rfl|rfl|rfl<;>assumption
  .simp[bx,Fz.muts];exact⟨⟨b1,b0,a6,c6,d1⟩,⟨Ne.symm b3,Ne.symm b4,Ne.symm c4,f1⟩,⟨Ne.symm b6,Ne.symm b7,f3⟩,⟨Ne.symm b2,e'⟩,f4⟩
  .rw[af (Ne.symm b1),af (Ne.symm c4),af (Ne.symm b4),af (Ne.symm b3),ah];rfl
  .rw[af (Ne.symm b0),af (Ne.symm b7),af (Ne.symm b6),ah];rfl
  .rw[af (Ne.symm a6),af (Ne.symm b2),ah];rfl
  .rw[af (Ne.symm c6),ah];rfl
  .refine⟨⟨[],?_,.nil⟩,trivial,.inl ⟨U,U⟩⟩;show _=some (HO.lst ([]++[]));rw[af (Ne.symm d1),af (Ne.symm f4),af (Ne.symm e'),af (Ne.symm f3),af (Ne.symm f1),ah]
   rfl
 generalize upd (upd (upd (upd (upd (upd H b (.lst [])) d (.lst [.ref b])) t (.lst [.non])) B (.lst [.bl false])) C (.lst [.int 1])) S (.lst [.ref d,.ref t,.ref B,.ref C])=H1 at Z0 ⊢;exists _,U,lc,U,⟨_,Z0.hbH.seq d3⟩;have g7:(l.map V.int).length=l.length:=qc _
 refine dk (K:=K) (a:=lc) (xs:=l.map V.int) (λi L D=>∃(N:Hp)(z:LB)(v7 v8 v9 J:LC),L=[some (.ref lc),some (.ref ln),some (.ref lr),some (.int most),some (.int low),some (.ref b),some (.ref S),v7,v8,v9,J]/\ZI H N D S d t B C z/\z.map (·.f)=dJ names rooms most low (l.take i)/\kE z=b)
  ⟨H,_,_,_,_,_,U,Z0,U,U⟩ ?_ ?_ ?_
 .rintro i L D _ ⟨N,z,v7,v8,v9,J,_,Z,_⟩;exact Z.hbH.seq d3
 .rintro i _ L D d8 ⟨N,z,v7,v8,v9,J,rfl,Z,hz,I⟩;rw[qM]at d8;obtain⟨c,hc,rfl⟩:=qX.mp d8
  have hi:i<l.length:=by
   rcases Nat.lt_or_ge i l.length with h|h
   .exact h
   .rw[Qx h]at hc;cases hc
  obtain⟨x,r,vs,rfl,hx,g8⟩:=Z.top;obtain⟨e8,e9,d9⟩:=nN (names:=names) (rooms:=rooms) (most:=most) (low:=low) b' (l.take i) st0 ⟨U,by simp[st0,cards,ak],by simp[st0,aR]⟩ (by simp[st0]);have tok:=uP (names:=names) (rooms:=rooms) (most:=most) (low:=low) m0 m1 (l.take i) st0 (by intro f hf;simp[st0]at hf;subst hf;exact⟨Yk,Yk⟩);have g':(l.take i).foldl (λst c=>ck names rooms most low st (aG c 1)) st0=x.f::r.map (·.f):=hz.symm;rw[g']at e8 e9 d9 tok;have zl:(x::r).length<=13:=by simpa using e9
  have i1:cnt st0=0:=U
  have dl:x.f.ds.length<=1000:=by
   have:=Ac (f:=x.f) (r:=r.map (·.f));rw[qS]at d9;omega
  have tx:=tok x.f qw;have n0:=y7 c 1;have n1:=y8 c 1;have h7:dJ names rooms most low (l.take (i+1))=ck names rooms most low (x.f::r.map (·.f)) (aG c 1):=by rw[AQ hc,<- hz];rfl
  rw[h7];have W:(r.map (·.f)).length=r.length:=qc _;have a7:=Z.hbH.seq h6;have g6:=Z.hbH.seq g4;exists _,U,c,1,U,Yk,Yk;generalize aG c 1=n at n0 n1 ⊢;exists _,U,_,_,U,U,Yk;have l0:((((x::r).map λx=>V.ref x.c).reverse).length:Int)=(r.length:Int)+1:=by simp
  exists _,U,_,U,_,_,U,U,_,U;refine mF (Pc:=¬ c1P low n most r.length x.f.shut) (λk z=>k (Qb z.1)) ?_ λk go=>?_
  .intro nc;refine⟨_,U,jE ?_⟩
   try refine jE ?_
   exists _,U,U,_,U;refine mF (Pc:=(if n % 14=10 then x.f.op.ifT? else none)=none) (λk=>by rw[Q9 (f9 k)]) ?_ λk go=>?_
   .intro ne;refine jE ?_;exists _,U,_,_,U,U,_,U;refine mF (Pc:=¬ (10<=n % 14/\0<r.length)) (λk z=>k (Qb z.1)) ?_ λk go=>?_
    .intro nx;refine jE ?_;exists _,U,S,_,_,_,U,U,SqL.of Z.cS,U,_,U,d,_,_,_,U,U,SqL.of Z.c0,gP,.inl ⟨U,_,SqL.of hx⟩,_,U,_,U,_,U,_,U,S,_,_,_,U,U,SqL.of Z.cS,U,_,U,B,_,_,_,U,U,SqL.of Z.c2,gP;refine⟨n,ln,lr,names,rooms,x.f.shut,U,a7,g6,b',f',h9,n0,Yo,λG p xs b9 hp g9 f8=>?_⟩;have Z3:=Z.same b9;have p0:N p=none:=a9.none Z.h0 hp;exists x.c,_,_,U,U,b9 _ _ hx,qL (Nat.lt_succ_of_le (by rwa[g8.len])) Yk;refine⟨_,_,_,_,_,_,U,Z3.push (b9 _ _ hx) g9 p0 (f8 _ ah),?_,?_⟩
     .unfold ck;dsimp only;rw[W,Q9 nc,ne,Q9 nx]
      rfl
     .rw[<- I];exact zj U
    .have h8:=Ql k;exists _,U,S,_,_,_,U,U,SqL.of Z.cS,U,d,_,U,.inl (SqL.of Z.c0),_,_,U,U,_,U;rw[l0];refine dh (λk=>?_) (λk=>by have h:=go λz=>k (Qb Yo);exact h);have r0:0<r.length:=by have:=Ql k;omega
     cases r with
     |nil=>cases r0
     |cons g r=>
     obtain⟨q0,q1,q2,q3,f5,c',e5,d2,e6,d6⟩:=Z.ss;exists _,U,S,U,⟨_,SqL.of Z.cS⟩;generalize hA1:upd D d (.lst (((g::r).map λx=>V.ref x.c).reverse))=A1;generalize hA2:upd A1 t (.lst (((g::r).map Fz.o).reverse))=A2;generalize hA3:upd A2 B (.lst (((g::r).map λx=>V.bl x.f.shut).reverse))=A3;generalize hA4:upd A3 C (.lst (((g::r).map λx=>V.int x.f.times).reverse))=A4;have d4:A1 S=some (.lst [.ref d,.ref t,.ref B,.ref C]):=by rw[<- hA1,af q0];exact Z.cS
     have d':A2 S=some (.lst [.ref d,.ref t,.ref B,.ref C]):=by rwa[<- hA2,af q1]
     have R:A3 S=some (.lst [.ref d,.ref t,.ref B,.ref C]):=by rwa[<- hA3,af q2]
     have i0:A4 S=some (.lst [.ref d,.ref t,.ref B,.ref C]):=by rw[<- hA4,af q3];exact R
     have f7:A1 t=some (.lst (((x::g::r).map Fz.o).reverse)):=by rw[<- hA1,af (Ne.symm f5)];exact Z.c1
     have c8:A2 B=some (.lst (((x::g::r).map λx=>V.bl x.f.shut).reverse)):=by rw[<- hA2,af (Ne.symm d2),<- hA1,af (Ne.symm c')];exact Z.c2
     have f0:A3 C=some (.lst (((x::g::r).map λx=>V.int x.f.times).reverse)):=by rw[<- hA3,af (Ne.symm d6),<- hA2,af (Ne.symm e6),<- hA1,af (Ne.symm e5)];exact Z.c3
     refine dk (K:=K) (a:=S) (xs:=[.ref d,.ref t,.ref B,.ref C]) (λj L G=>(∃J,L=[some (.ref lc),some (.ref ln),some (.ref lr),some (.int most),some (.int low),some (.ref b),some (.ref S),some (.int c),some (.int n),some (.int (n % 14)),J])/\((j=0/\G=D)\/(j=1/\G=A1)\/(j=2/\G=A2)\/(j=3/\G=A3)\/(j=4/\G=A4))) ⟨⟨_,U⟩,.inl ⟨U,U⟩⟩ ?_ ?_ ?_
     .rintro j L G _ ⟨_,⟨_,rfl⟩|⟨_,rfl⟩|⟨_,rfl⟩|⟨_,rfl⟩|⟨_,rfl⟩⟩
      .exact SqL.of Z.cS
      .exact SqL.of d4
      .exact SqL.of d'
      .exact SqL.of R
      .exact SqL.of i0
     .rintro j y L G M ⟨⟨v,rfl⟩,⟨rfl,rfl⟩|⟨rfl,rfl⟩|⟨rfl,rfl⟩|⟨rfl,rfl⟩|⟨rfl,rfl⟩⟩
      .simp at M;subst M;refine⟨_,U,.inl ⟨U,_,SqL.of Z.c0⟩,d,_,_,U,U,Z.c0,mD,⟨_,U⟩,.inr (.inl ⟨U,?_⟩)⟩;rwa[mP]
      .simp at M;subst M;refine⟨_,U,.inl ⟨U,_,SqL.of f7⟩,t,_,_,U,U,f7,mD,⟨_,U⟩,.inr (.inr (.inl ⟨U,?_⟩))⟩;rwa[mP]
      .simp at M;subst M;refine⟨_,U,.inl ⟨U,_,SqL.of c8⟩,B,_,_,U,U,c8,mD,⟨_,U⟩,.inr (.inr (.inr (.inl ⟨U,?_⟩)))⟩;rwa[mP]
      .simp at M;subst M;refine⟨_,U,.inl ⟨U,_,SqL.of f0⟩,C,_,_,U,U,f0,mD,⟨_,U⟩,.inr (.inr (.inr (.inr ⟨U,?_⟩)))⟩;rwa[mP]
      .simp at M
     .rintro L G ⟨⟨v,rfl⟩,hj⟩
      have e4:G=A4:=by
       rcases hj with⟨j,_⟩|⟨j,_⟩|⟨j,_⟩|⟨j,_⟩|⟨_,e⟩
       .simp at j
       .simp at j
       .simp at j
       .simp at j
       .exact e
      subst e4
      obtain⟨h',Z'⟩:=Z.closed (H':=G) (λm u e1 e2 e3 e4 X0=>by rw[<- hA4,af e4,<- hA3,af e3,<- hA2,af e2,<- hA1,af e1];exact X0)
       (by rw[<- hA4,af e5,<- hA3,af c',<- hA2,af f5,<- hA1,ah]) (by rw[<- hA4,af e6,<- hA3,af d2,<- hA2,ah]) (by rw[<- hA4,af d6,<- hA3,ah]) (by rw[<- hA4,ah])
      refine⟨h',_,_,_,_,_,U,Z',?_,?_⟩
      .unfold ck;dsimp only;rw[W,Q9 nc,ne,Qa ⟨h8,r0⟩]
       rfl
      .rw[<- I];exact zj U
   .have c7:=eJ k;exists _,U,S,_,_,_,U,U,SqL.of Z.cS,U,_,U,t,_,_,_,U,U,SqL.of Z.c1,gP,U,_,U
    cases hop:x.f.op.ifT? with
    |none=>
     have xo:x.o=.non:=by unfold Fz.o;cases q:x.f.op<;>rw[q]at hop<;>first|rfl|cases hop
     rw[xo];have h:=go (by rwa[Qa c7]);exact h
    |some h5=>
     have q:x.f.op=.ifT h5:=by cases q:x.f.op<;>rw[q]at hop<;>simp[Op.ifT?]at hop;rw[hop]
     have xo:x.o=.ref x.e:=by unfold Fz.o;rw[q]
     rw[xo];refine aU (by simp) ?_;have g5:D d=some (.lst ((r.map λx=>V.ref x.c).reverse++[.ref x.c])):=by rw[Z.c0];simp
     have f2:D t=some (.lst ((r.map Fz.o).reverse++[.ref x.e])):=by rw[Z.c1,qZ,List.reverse_cons,xo]
     have sn:=Z.ss;exists _,U,S,_,_,_,U,U,SqL.of Z.cS,U,_,U,t,_,_,_,U,U,SqL.of f2,ym,_,U,S,_,_,_,U,U,SqL.of Z.cS,U,_,U,d,_,_,_,U,U,g5,yr;rw[ww];have R:(upd D d (.lst ((r.map λx=>V.ref x.c).reverse++[.ref x.e]))) S=some (.lst [.ref d,.ref t,.ref B,.ref C]):=by rw[af sn.1];exact Z.cS
     have h4:(upd D d (.lst ((r.map λx=>V.ref x.c).reverse++[.ref x.e]))) t=some (.lst ((r.map Fz.o).reverse++[.ref x.e])):=by rwa[af (Ne.symm sn.2.2.2.2.1)]
     exists _,U,S,_,_,_,U,U,SqL.of R,U,_,U,t,_,_,_,U,U,h4,yr;rw[ww];refine⟨_,_,_,_,_,_,U,Z.elsed q hx (λm u e1 e2 X0=>by rw[af e2,af e1];exact X0) (by rw[af sn.2.2.2.2.1,ah]) ah,?_,?_⟩
     .unfold ck;dsimp only;rw[W,Q9 nc,Qa c7,hop]
      rfl
     .cases r with
      |nil=>have:=e8.1;rw[q]at this;cases this
      |cons y _=>exact I
  .have a1:=Ql k;exists _,_,U,U,_,U;refine dh (λk=>?_) (λk=>by have h:=goB (Pc:=¬ c1P low n most r.length x.f.shut) go λz=>k (Qb z.2.1);exact h);have a2:=Ql k;exists _,U,S,_,_,_,U,U,SqL.of Z.cS,U,d,_,U,.inl (SqL.of Z.c0),_,_,U,U,_,U;rw[l0];refine dh (λk=>?_) (λk=>by have h:=goB (Pc:=¬ c1P low n most r.length x.f.shut) go λz=>k (Qb (by have:=z.2.2.1;omega));exact h);have a3:=Ql k;exists _,U,_,_,U,U,_,U;refine Fl (Pc:=n % 14<9\/0<most\/x.f.shut=true) (λk=>.inl (Ql k)) ?_ λk d0=>?_
   .intro pc;refine sU ?_;exists _,U,_,U,_,U,_,U,_,_,U,U,⟨Yk,Yk⟩,_,U,ln,_,U,.inl a7,_,_,U,U,(by rw[qc];omega),ln,_,_,_,U,U,a7,iP b' _,_,U;refine⟨H,N,S,d,t,B,C,x,r,n,most,nth names (n / 14),U,Z,Yo,dl,n0,Yo,m0,m1,tx.1,Yo,λH' y Z' e=>?_⟩;refine⟨N,y::x::r,_,_,_,_,U,Z',?_,I⟩;unfold ck;dsimp only;rwa[W,Qa ⟨a1,a2,Yo,pc⟩]
   .have a4:¬ n % 14<9:=λz=>k (Qb z);exists _,U,_,_,U,U,_,U;refine dh (λk=>d0 (.inr (.inl (Ql k)))) (λk=>?_);have a5:¬ 0<most:=λz=>k (Qb z);exists _,U,S,_,_,_,U,U,SqL.of Z.cS,U,_,U,B,_,_,_,U,U,SqL.of Z.c2,gP,_,U
    cases hsh:x.f.shut with
    |true=>exact d0 (.inr (.inr hsh))
    |false=>
     have h:=goB (Pc:=¬ c1P low n most r.length x.f.shut) go λz=>by
      rcases z.2.2.2 with z|z|z
      .exact a4 z
      .exact a5 z
      .rw[hsh]at z;cases z
     exact h
 .rintro L D ⟨N,z,v7,v8,v9,J,rfl,Z,hz,I⟩;rw[g7,qP]at hz;refine⟨_,U,q D b Z.hbH hb ?_⟩;have w:=Z.zr.whole Z.h0 (tl:=[]) (dt:=[]) .nil;rw[I,hz]at w
  have ne:dJ names rooms most low l≠[]:=by
   rw[<- hz];intro e;have:=Z.zr;rw[List.map_eq_nil_iff.mp e]at this;exact this
  unfold e7 kP;rw[kQ _ _ (by have:=List.length_pos_iff.mpr ne;omega)];exact w
theorem DL:Ω T base 17 a.J7 a.J8 ["program"] vx:=by
 refine T.Ko.F.ok lC ?_;rintro _ A _ s H _ Q E hr⟨p,la,ls,lb,b,ss,ds,us,C,rfl,d,a1,W,ha,hs,X,S,l,J,k⟩
 refine⟨_,(ag (aq (i:=1) lC.nd U Oi (ao jr (ao jr (ai au (pq 0) aa Oy) (aC (rW T) (hr.mono Yk) T.Hz (a8 (ai au (pq 0) aa Oy) ac))) (ba (a8 (gJ U T.Iv T.r_OUTLET) ac))))
  (ag (bD PassesOwn.never U (ce (ai au (pq 0) aa Oy)) (dM U (bh (aI (i:=2) lC.nd U Oi) (bh (aI (i:=3) lC.nd U Oi) d5)))
  (aj (bu (bL qq Qw Qv ic (pq 1) (a8 (ba (a8 (aC (rX T) (hr.mono Yk) T.HA (a8 (pq 2) ac)) (a8 (aC (sh T) (hr.mono Yk) T.HB (a8 (pq 2) ac)) ac))) ac)))))
  (aj (az (aL (tP U) U T.HK PyProof.Rows.Boot.«sorted» (a8 (d6 (mU U) U T.HJ PyProof.Rows.Boot.«set» (a8 (pq 1) ac)) ac)))))),?_⟩
 walk_at "q";have u:∀q∈cards ds,q∈C:=λq G=>S q (by unfold eB;simp[G]);exists _,U,p,_,_,_,U,U,SqT.of d.top,U;refine⟨_,U,p,_,_,_,U,U,SqT.of d.top,U,H,lb,ds,C,U,a9.refl H,d.bo,a1,W,u,l,J,λH1 l1 c s1 n1 h1 a3 y _=>?_⟩;have a5:c.length<64:=Nat.lt_of_le_of_lt (jG a3 λq G=>u q ((y q).mp G)) l;refine⟨la,l1,_,_,U,U,SqL.of (s1 _ _ d.as),SqL.of h1,bf (m:=3000) (by rw[qc,qc];omega),λp1 a2=>?_⟩;refine⟨ln1,λO B=>?_⟩;refine⟨p1,O,_,_,U,U,SqL.of (a9.new B _ _ _ ah),SqL.of ah,bf (m:=3000) (by rw[qh,qc,qc,Qf];omega),λj a0=>?_⟩;have s2:=s1.trans (a9.new a2 (.lst (b.map V.str++c.map V.str)));have s3:=s2.trans (a9.new B (.lst [V.str (">":Str)]));have n3:=a9.none s3 a0;have D:a9 H (upd (upd (upd H1 p1 (.lst (b.map V.str++c.map V.str))) O (.lst [V.str (">":Str)])) j (.lst (b.map V.str++c.map V.str++[V.str (">":Str)]))):=a9.over s3 n3;exists _,U,p,_,_,_,U,U,SqT.of (D _ _ d.top),U,ls,U,⟨_,SqL.of (D _ _ d.st)⟩;have ul:=d.ro.len
 have fl:∀i,((ss.take i).flatMap λs=>[s.1++(">":Str),s.1++("<":Str)]).length=2 * (ss.take i).length:=λi=>by
  induction ss.take i with
  |nil=>rfl
  |cons x r ih=>rw[qN,qh,ih,qJ];simp;omega
 refine dk (K:=K) (a:=ls) (xs:=us) (λi t e=>∃v o,t=[some (.ref p),some (.ref j),v,o]/\a9 H e/\e j=some (.lst ((b++c++[(">":Str)]++(ss.take i).flatMap λs=>[s.1++(">":Str),s.1++("<":Str)]).map V.str))) ⟨_,_,U,D,?_⟩ ?_ ?_ ?_
 .rw[ah];simp
 .rintro i t e _ ⟨v,o,_,g,f⟩;exact SqL.of (g _ _ d.st)
 .rintro i x t e I ⟨v,o,rfl,g,f⟩;obtain⟨px,q,n,rfl,hi,Z⟩:=d.ro.at i x I;have R:q.length<=1000:=X _ (qI hi);exists px,_,U,SqT.of (g _ _ Z),U,_,_,U,_,_,U,U;refine⟨_,U,.inl ⟨U,_,SqL.of f⟩,_,U,q,U,R,_,U,q,U,R,ln2,λp4 z=>?_⟩;refine⟨j,p4,_,_,U,U,a9.new z _ _ _ f,ah,bf (m:=3000) ?_,?_⟩
  .rw[qc,qh,fl,qh,qh];simp;omega
  exists _,_,U,a9.over (g.trans (a9.new z _)) n3;rw[ah,qA,hi];simp
 .rintro t e ⟨v,o,rfl,g,f⟩;rw[ul,qP]at f;have M:=fl ss.length;rw[qP]at M
  have X0:∀x,x∈b++c++[(">":Str)]++(ss.flatMap λs=>[s.1++(">":Str),s.1++("<":Str)])↔x∈eB b ss ds:=λx=>by
   unfold eB;simp only[qr,y x]
  refine⟨_,U,j,_,U,SqL.of f,?_,λL a4=>?_⟩
  .rw[qh,M,qh,qh,Qf];omega
  refine⟨L,_,C,U,ah,λx I=>S x ((X0 x).mp I),l,λr zs N nd hm so=>?_⟩;have s6:a9 e (upd e L (eO P w L (b++c++[(">":Str)]++(ss.flatMap λs=>[s.1++(">":Str),s.1++("<":Str)])))):=a9.new a4 _;exact k _ r zs ((g.trans s6).trans (a9.new N _)) ah nd (λx=>(hm x).trans (X0 x)) so
theorem DD:Ω T base 2 a.IX a.IY ["deed"] vd:=by
 refine T.Km.F.ok Bz ?_;rintro _ A _ s H _ Q E hr⟨I,p,x,g,c,b,C,rfl,j,h,c1,r,k⟩;exists _,(aj (az (aL (tP U) U T.HK PyProof.Rows.Boot.«sorted» (a8 (ao Df (d6 (mU U) U T.HJ PyProof.Rows.Boot.«set» (a8 (aC (xE T) (hr.mono Yk) T.Il (a8 (pq 0) ac)) ac)) (d6 (mU U) U T.HJ PyProof.Rows.Boot.«set» (a8 (ba (a8 (ai au (pq 0) aa Oy) ac)) ac))) ac))));walk_at "q";refine⟨_,U,I,_,_,U,j,.set h,λ_ l1 J n1 v=>?_⟩;have G:(ae.set x c g b).names.length<4:=by cases c<;>cases b<;>simp[ae.names,Val.names]
 refine⟨l1,_,U,SqL.of v,Yo,λl u=>?_⟩;have f:=J.trans (a9.new u (eO P w l (ae.set x c g b).names));refine⟨_,U,_,_,_,_,U,U,SqT.of (f _ _ (j _ _ h)),U,ln1,λD e=>?_⟩;have N:=f.trans (a9.new e (.lst [V.str x]));refine⟨D,[x],U,SqL.of ah,by simp,λn m=>?_⟩;have d:=(a9.new e (.lst [V.str x])).trans (a9.new m (eO P w n [x]));have y:=f.trans d;refine⟨l,n,_,_,U,U,d _ _ ah,ah,G,λo i=>?_⟩;have M:=y.trans (a9.new i (eO P w o ((ae.set x c g b).names.filter λk=>!decide (k∈[x]))));refine⟨o,_,C,U,ah,λq z=>c1 q (List.mem_filter.mp z).1,r,λ_ zs t nd B so=>?_⟩;have L:zs=rq x c b:=kU nd (λq=>(B q).trans (by simp[ae.names])) so;subst L;exact k _ _ (M.trans (a9.new t _)) ah
theorem rY:Ω T base 1 a.Jh a.Ji ["kind","cards"] nQ:=by
 refine T.HE.F.ok BB ?_;rintro _ A _ s H _ Q E _⟨f,l,zs,rfl,hl,k⟩;exists _,(aj (az (bc (a8 (pq 0) (a8 (d6 tO U T.wE PyProof.Rows.Boot.«tuple» (a8 (pq 1) ac)) (a8 (bc ac) (a8 bN (a8 bN ac))))))));walk_at "q";refine⟨_,U,_,U,l,_,U,.inl ⟨SqL.of hl,λpo c=>?_⟩⟩;refine⟨qC _,λ_ d=>⟨ln5,λp e=>?_⟩⟩;have g:a9 H (upd H po (.tup (zs.map V.str))):=a9.new c _;have b:=a9.new d (.tup []);exact k _ _ ((g.trans b).trans (a9.new e _)) (cR.new (r:=⟨f,zs,[],none,none⟩) (b _ _ ah) ah e)
theorem Dz:Ω T base 17 a.Jf a.Jg ["deed"] uV:=by
 refine T.Kr.F.ok wy ?_;rintro _ A _ s H _ Q E hr⟨H0,v,d,C,rfl,c,hd,a4,Z,X,J,y,S,k⟩
 refine⟨_,(ag (aq (i:=1) wy.nd U Oi (ai au (pq 0) aa Oy))
  (ag (aJ (ax aW (pq 1) aQ (ay _)) (aj (az (bc (a8 aQ (a8 (bc (a8 (ai au (pq 0) aa Oy) ac)) (a8 (d6 tO U T.wE PyProof.Rows.Boot.«tuple» (a8 (aC (DD T) (hr.mono Yk) T.Km (a8 (pq 0) ac)) ac)) (a8 bN (a8 bN ac)))))))) aN)
  (ag (aJ (ax aW (pq 1) aQ (ay _)) (aj (az (bc (a8 aQ (a8 (bc (a8 (aC (rX T) (hr.mono Yk) T.HA (a8 (ai au (pq 0) aa Oy) ac)) ac)) (a8 (bc (a8 (ai au (pq 0) aa Oy) ac)) (a8 (ai au (pq 0) aa Oy) (a8 bN ac)))))))) aN)
  (ag (aJ (ax aW (pq 1) aQ (ay _)) (aj (az (bc (a8 aQ (a8 (d6 tO U T.wE PyProof.Rows.Boot.«tuple» (a8 (aL (GE U) U T.HK PyProof.Rows.Boot.«sorted» (a8 (ba (a8 (ai au (pq 0) aa Oy) (a8 (aC (sh T) (hr.mono Yk) T.HB (a8 (ai au (pq 0) aa Oy) ac)) ac))) ac)) ac)) (a8 (bc ac) (a8 bN (a8 (ai au (pq 0) aa Oy) ac)))))))) aN)
  (ag (aJ (ax aW (pq 1) aQ (ay _)) (aj (az (bc (a8 aQ (a8 (bc (a8 (gJ U T.Iv T.r_OUTLET) ac)) (a8 (bc (a8 (ai au (pq 0) aa Oy) ac)) (a8 bN (a8 bN ac)))))))) aN)
  (aj (az (aC (rY T) (hr.mono Yk) T.HE (a8 (pq 1) (a8 (aC (rW T) (hr.mono Yk) T.Hz (a8 (ba (a8 (pq 0) ac)) ac)) ac)))))))))),?_⟩
 walk_at "q"
 have c1:∀q∈d.cards,q∈C:=λq t=>X q (by
  unfold cards;rw[ak,ak,qG,jF]
  exact List.mem_flatMap.mpr ⟨d,qw,t⟩)
 have bS:∀q z:Str,q++z∈d.others->q.length<=1000:=λq z t=>by
  have:=y _ (c1 _ (qQ _ t));rw[eh]at this;omega
 have dp:aR [d]<=12:=by simp only[aR];omega
 have fl:(ak [d]).length<=1000:=by rw[ak,ak,qG];exact Z
 have own:∀(o:Hp)(D:Str),a9 H o->∀p,o p=none->aS d=⟨D,srt (cards [d]),[],none,none⟩->RD H0 v d->nP [.ref p] (upd o p (.lst [v])) (λu H2=>nQ [.str D,u] H2 Q E0) E0:=λo D e p hp er hd=>by
  have g:=a9.new hp (.lst [v]);refine⟨_,p,[d],C,U,a9.refl _,.mk ah (.cons (RD.same ((c.trans e).trans g) hd) .nil),dp,fl,X,J,y,λH3 l zs G nl hl nd hm so=>?_⟩;refine⟨D,l,zs,U,hl,λH4 u n hu=>k H4 u ((e.trans g).trans (G.trans n)) ?_⟩;rwa[er,<- kU nd hm so]
 have I:=hd
 cases hd with
 |set h=>
  rename_i p x O sg L;exists _,U,_,_,_,_,U,U,SqT.of (c _ _ h),U;exists _,U,U,_,U;walk_at "yes";refine⟨_,U,_,_,_,_,U,U,SqT.of (c _ _ h),U,ln1,λp7 a2=>?_⟩;have W:=a9.new a2 (.tup [V.str x]);refine⟨_,U,H0,p,x,sg,O,L,C,U,c.trans W,h,λq t=>c1 q (Q5 _ t),J,λo l1 e B=>?_⟩;refine⟨l1,_,U,.inl ⟨SqL.of B,λp8 a0=>⟨ln5,λN b=>?_⟩⟩⟩;have R:=a9.new a0 (.tup ((rq x O L).map V.str));exact k _ _ (((W.trans e).trans R).trans (a9.new b _)) (cR.new (r:=aS (.set x O sg L)) (R _ _ (e _ _ ah)) ah b)
 |put h=>
  rename_i p q x;exists _,U,_,_,_,_,U,U,SqT.of (c _ _ h),U;exists _,U,U,_,U;walk_at "no";exists _,U,U,_,U;walk_at "yes";refine⟨_,U,_,_,_,_,U,U,SqT.of (c _ _ h),U,_,U,bS _ ">" (by simp[ae.others]),ln1,λm f=>?_⟩;have e:=a9.new f (.tup [V.str (q++(">":Str))]);refine⟨_,U,_,_,_,_,U,U,SqT.of (e _ _ (c _ _ h)),U,ln1,λM j=>?_⟩;have g:=a9.new j (.tup [V.str x]);refine⟨_,U,_,_,_,_,U,U,SqT.of (g _ _ (e _ _ (c _ _ h))),U,ln5,λN b=>?_⟩;exact k _ _ ((e.trans g).trans (a9.new b _)) (cR.new (r:=aS (.put q x)) (g _ _ ah) ah b)
 |get h=>
  rename_i p q x;exists _,U,_,_,_,_,U,U,SqT.of (c _ _ h),U;exists _,U,U,_,U;walk_at "no";exists _,U,U,_,U;walk_at "no";exists _,U,U,_,U;walk_at "yes";refine⟨_,U,_,_,_,_,U,U,SqT.of (c _ _ h),U,_,U,_,_,_,_,U,U,SqT.of (c _ _ h),U,_,U,bS _ "<" (by simp[ae.others]),ln2,λm f=>?_⟩;have e:=a9.new f (.lst [V.str x,V.str (q++("<":Str))]);refine⟨m,[x,q++("<":Str)],U,SqL.of ah,by simp,λM zs j pm so=>?_⟩;have g:=a9.new j (.lst (zs.map V.str));refine⟨M,_,U,.inl ⟨SqL.of ah,λp3 a1=>?_⟩⟩;have G:=a9.new a1 (.tup (zs.map V.str));refine⟨qC _,λp4 X0=>?_⟩;have n:=a9.new X0 (.tup []);refine⟨_,U,_,_,_,_,U,U,SqT.of (n _ _ (G _ _ (g _ _ (e _ _ (c _ _ h))))),U,ln5,λN b=>?_⟩;have ez:=uT pm so;refine k _ _ ((((e.trans g).trans G).trans n).trans (a9.new b _)) (cR.new (r:=aS (.get q x)) ?_ ah b);show _=some (HO.tup ((fj [x,q++("<":Str)]).map V.str));rw[<- ez];exact n _ _ ah
 |give h=>
  rename_i p x;exists _,U,_,_,_,_,U,U,SqT.of (c _ _ h),U;exists _,U,U,_,U;walk_at "no";exists _,U,U,_,U;walk_at "no";exists _,U,U,_,U;walk_at "no";exists _,U,U,_,U;walk_at "yes";refine⟨ln1,λm f=>?_⟩;have e:=a9.new f (.tup [V.str (">":Str)]);refine⟨_,U,_,_,_,_,U,U,SqT.of (e _ _ (c _ _ h)),U,ln1,λM j=>⟨ln5,λN b=>?_⟩⟩;have g:=a9.new j (.tup [V.str x]);exact k _ _ ((e.trans g).trans (a9.new b _)) (cR.new (r:=aS (.give x)) (g _ _ ah) ah b)
 |cond h B h2=>
  exists _,U,_,_,_,_,U,U,SqT.of (c _ _ h),U;exists _,U,U,_,U;walk_at "no";exists _,U,U,_,U;walk_at "no";exists _,U,U,_,U;walk_at "no";exists _,U,U,_,U;walk_at "no";exact⟨_,U,_,U,ln1,λm f=>own H "if" (a9.refl H) m f U I⟩
 |whl h B=>
  exists _,U,_,_,_,_,U,U,SqT.of (c _ _ h),U;exists _,U,U,_,U;walk_at "no";exists _,U,U,_,U;walk_at "no";exists _,U,U,_,U;walk_at "no";exists _,U,U,_,U;walk_at "no";exact⟨_,U,_,U,ln1,λm f=>own H "while" (a9.refl H) m f U I⟩
 |rep h B=>exact Qd U (S _ _)
theorem DK:Ω T base 1 a.Jj a.Jk ["deeds"] vv:=by
 refine T.Ks.F.ok je ?_;rintro _ A _ s H _ Q E hr⟨l,us,rs,rfl,hl,J,_,fed,one,k⟩
 refine⟨_,(ag (aq (i:=1) je.nd U Oi fu)
  (aj (bD PassesOwn.never U (jv U T.Ch (a8 (pq 0) ac)) (dM U (bh (aI (i:=2) je.nd U Oi) (bh (aI (i:=3) je.nd U Oi) d5)))
  (ag (aq (i:=4) je.nd U Oi (ai au (pq 3) aa Oy))
  (ag (aq (i:=5) je.nd U Oi (ai au (pq 3) aa Oy))
  (ag (aJ (ax eX (pq 4) bN (ay _)) (aj (eY (hr.one) (pq 1) (pq 4) (ao bC (dN hr.one (pq 1) (pq 4) aa ⟨U,U,U,U⟩) aa) U)) aN)
  (aj (aJ (ax eX (pq 5) bN (ay _)) (ag (aJ (ax aW (dN hr.one (pq 1) (pq 5) aa ⟨U,U,U,U⟩) aa (ay _)) (aj x9) aN)
  (aj (eY (hr.one) (pq 1) (pq 5) (ao gF (iL hr.one (pq 1) (pq 5) Oy) aa) U))) aN)))))))),?_⟩
 walk_at "q";intro p W;have Z:a9 H (upd H p (.dK [])):=a9.new W _;have ul:=J.len;exists _,U,l,us,U,SqL.of (Z _ _ hl);refine kA (K:=K) (l:=l) (xs:=us) (λi I d=>∃n m u o kvs,I=[some (.ref l),some (.ref p),n,m,u,o]/\a9 H d/\d p=some (.dK kvs)/\kvs.length<=2 * i/\j3 kvs (rs.take i)) ⟨_,_,_,_,[],U,Z,ah,qo _,λq=>U⟩ ?_ ?_ ?_
 .rintro i I d ⟨n,m,u,o,kvs,_,D,_⟩;exact SqL.of (D _ _ hl)
 .rintro i x I d pt hx ⟨n,m,u,o,kvs,rfl,D,hd,_,st⟩ C;obtain⟨r,j,g,po,_,rfl,X,_,_⟩:=J.at i x hx;have lt:i<rs.length:=(qp.mp j).1;have t:a9 H (upd d pt (.tup [.int i,.ref g])):=D.trans (a9.new C _);have b:(upd d pt (.tup [.int i,.ref g])) p=some (.dK kvs):=a9.new C _ _ _ hd;have B:(upd d pt (.tup [.int i,.ref g])) pt=some (.tup [.int i,.ref g]):=ah;generalize upd d pt (.tup [.int i,.ref g])=H3 at t b B ⊢;exists pt,_,U,SqT.of B,U,_,_,U,_,_,U,U;exists _,U,g,_,_,_,U,U,SqT.of (t _ _ X),U;exists _,U,g,_,_,_,U,U,SqT.of (t _ _ X),U;have tk:rs.take (i+1)=rs.take i++[r]:=by rw[qA,j];rfl
  have S:=one r (qI j);have M:=fed i r;have big:(10000:Nat)<sizeLine:=Yk;have L:kvs.length<sizeLine:=Yo
  have fin:∀(y:Hp)(c:LN) X0 w4,a9 H y->y p=some (.dK c)->c.length<=kvs.length+1->(∀q:Str,(aH c (.inr q)).getD (.int 0)=.int (bal (rs.take i++[r]) q))->
   ∃n m u o kvs,([some (.ref l),some (.ref p),some (.int i),some (.ref g),X0,w4]:St)=[some (.ref l),some (.ref p),n,m,u,o]/\a9 H y/\y p=some (.dK kvs)/\kvs.length<=2 * (i+1)/\j3 kvs (rs.take (i+1)):=λy c X0 w4 s4 h4 _ a0=>
   ⟨_,_,_,_,c,U,s4,h4,Yo,by rwa[tk]⟩
  clear hd C tk;obtain⟨_,ow,_,into,outof⟩:=r
  cases into with
  |none=>
   refine⟨_,U,U,_,U,ar U ?_⟩
   cases outof with
   |none=>
    refine⟨_,U,U,_,U,ar U ?_⟩;exact fin H3 kvs _ _ t b (Nat.le_succ _) λq=>by rw[fD,st q];simp
   |some q=>
    have pos:0<bal (rs.take i) q:=M q j U;have G:=st q
    obtain⟨v,N⟩:∃v,aH kvs (.inr q)=some v:=by
     cases e:aH kvs (.inr q)with
     |some v=>exact⟨v,U⟩
     |none=>
      rw[e]at G;have:(0:Int)=bal (rs.take i) q:=V.int.inj G;omega
    rw[N]at G;have ev:v=.int (bal (rs.take i) q):=G;subst ev;refine⟨_,U,U,_,U,aU U ?_⟩;exists _,U,p,U,.inl ⟨kvs,.inl b⟩,_,U,_,bT.k (k:=.inr q) b;rw[N];exists U,_,U;refine ifN (λz=>?_) ?_
    .have:bal (rs.take i) q=0:=V.int.inj z;omega
    exists _,U,_,U,p,_,U,by rw[<- N];exact bT.k (k:=.inr q) b,_,_,U,U;exists _,U,_,U,p,_,U,dR.k (k:=.inr q) b L;refine fin _ _ _ _ (a9.over t W) ah (dF _ _ _) λf=>?_;rw[d9,fD];by_cases e:f=q
    .subst e;simp
    .have R:¬ (Sum.inr f:Key)=Sum.inr q:=λz=>e (Sum.inr.inj z);have O:¬ q=f:=λz=>e z.symm;rw[Q9 R,st f];simp[O]
  |some q=>
   have on:outof=none:=by
    rcases S with h|h
    .cases h
    .exact h
   subst on;refine⟨_,U,U,_,U,aU U ?_⟩;exists _,U,p,U,.inl ⟨kvs,.inl b⟩,_,U,_,bT.k (k:=.inr q) b,_,_,st q,U;exists _,U,_,U,p,_,U,dR.k (k:=.inr q) b L;refine⟨_,U,U,_,U,ar U ?_⟩;refine fin _ _ _ _ (a9.over t W) ah (dF _ _ _) λf=>?_;rw[d9,fD];by_cases e:f=q
   .subst e;simp
   .have R:¬ (Sum.inr f:Key)=Sum.inr q:=λz=>e (Sum.inr.inj z);have O:¬ q=f:=λz=>e z.symm;rw[Q9 R,st f];simp[O]
 .rintro I d ⟨n,m,u,o,kvs,rfl,D,_⟩;exact k d D
theorem DJ:∀n:Nat,Ω T base (n+1) a.Jb a.Jc ["block"] (vt n):=by
 intro n
 induction n with
 |zero=>
  refine T.HC.F.ok jV λB A outer s H vs Q E hr h=>?_
  .obtain⟨_,_,_,_,_,_,h0,_⟩:=h;exact Qd h0 (QG _)
 |succ n G=>
  refine T.HC.F.ok jV ?_;rintro B A _ s H vs Q E hr⟨L,b,ds,rfl,f,hb,V,ra,k⟩
  refine⟨_,(ag (aq (i:=1) jV.nd U Oi (aL bn U T.ad Qg (a8 (pq 0) ac)))
   (ag (bD PassesOwn.never U (ce (pq 0)) (aI (i:=2) jV.nd U Oi)
   (aj (aJ (ax aW (ai au (pq 2) aa Oy) aQ (ay _)) (aj (aq (i:=1) jV.nd U Oi (ao bC (pq 1) (ao f7 (ai au (pq 2) aa Oy) (ao bC (aC G (hr.mono Yo) T.HC (a8 (ai au (pq 2) aa Oy) ac)) aa))))) aN)))
   (aj (az (pq 1))))),?_⟩
  walk_at "q";obtain⟨t,q⟩:=hb;rename_i vs;have I:=q.len;exists _,U,b,_,U,.inl (SqL.of (f _ _ t));exists _,U,b,U,⟨_,SqL.of (f _ _ t)⟩;refine dk (K:=K) (a:=b) (xs:=vs) (λi l j=>j=H/\∃v c,l=[some (.ref b),some (.int c),v]/\c=(vs.length:Int)-i+(aM (ds.take i)).length) ⟨U,_,_,U,by simp[aM]⟩ ?_ ?_ ?_
  .rintro i l j _ ⟨rfl,_⟩;exact SqL.of (f _ _ t)
  .rintro i x l j O ⟨rfl,v,c,rfl,y⟩;obtain⟨d,hd,o⟩:=q.at i x O;have tk:=pZ hd;by_cases nr:∀m g,d≠.rep m g
   .obtain⟨J,r,rfl,S⟩:=o.tuple;exists _,U,J,_,_,_,U,U,SqT.of (f _ _ S),at0,U,_,U;refine ifN (uh nr) ⟨U,_,_,U,?_⟩;rw[tk,rh nr,qh,Qf];omega
   .cases o with
    |rep h u=>
     rename_i p g m bs;obtain⟨D,R⟩:=(ra.at hd).rep;obtain⟨C,M⟩:=D m bs U;have N:=mR hd;rw[ae.depth]at N;refine⟨_,U,_,_,_,_,U,U,SqT.of (f _ _ h),U,U,_,U,aU Yd ?_⟩;exists _,U,_,U,_,_,_,_,U,U,SqT.of (f _ _ h),U,_,U,_,_,_,_,U,U,SqT.of (f _ _ h),U,L,g,bs,U,f,u,Yo,R,_,_,U,U,_,_,U,U,AZ C M,_,_,U,U;exists U,_,_,U;rw[tk,qh,bM,qJ,hU,qh,Qf];have e:(m.toNat:Int)=m:=Int.toNat_of_nonneg C;simp only[Int.natCast_add,Int.natCast_mul,e,Int.natCast_one];omega
    |_=>exact Qd (λm g z=>by cases z) nr
  .rintro l j ⟨rfl,v,c,rfl,y⟩;rw[I,qP]at y;have:c=((aM ds).length:Int):=Yo;rw[this];exact⟨_,U,k⟩
theorem Dy(T:Tx P w K mg a)(Z:aK P w K mg base CX0 (2 * n+18) a.Id a.Ie ["block"] (nO n)):aK P w K mg base CX0 (2 * n+19) a.Jd a.Je ["rounds","body"] (uU n):=by
 refine T.Kq.F.ok wx ?_;rintro _ A _ s H _ Q E hr⟨y,r,b,ds,C,rfl,_,_,x,hb,G,D,_,k⟩
 refine⟨_,(ag (aq (i:=2) wx.nd U Oi (aC (rY T) (hr.mono Yo) T.HE (a8 aQ (a8 (aC (rW T) (hr.mono Yo) T.Hz (a8 (pq 1) ac)) ac))))
  (ag (aJ (ax aW (pq 0) aa (ay _)) (aj (az (ba (a8 (pq 2) ac)))) aN)
  (aj (az (ao jr (ba (a8 (pq 2) ac)) (ao xw (ao jr (aC Z (hr.mono Yo) T.HD (a8 (pq 1) ac)) (ba (a8 (pq 2) ac))) (pq 0))))))),?_⟩
 walk_at "q";obtain⟨b1,b2,b3,X0,b5,_⟩:=id D;refine⟨_,U,y,b,ds,C,U,x,hb,b1,b2,b3,X0,b5,λ_ O zs s1 _ V nd S so=>?_⟩;have ez:=kU nd S so;subst ez;refine⟨_,O,_,U,V,λH2 g s2 q=>?_⟩;have q:cR H2 g (gq ds):=q;have e:=s1.trans s2;exists _,U,U,_,U;refine dh (λc=>?_) (λc=>?_)
 .obtain rfl:r=0:=eJ c;refine⟨_,U,ln1,λp l=>?_⟩;refine k _ p [g] (e.trans (a9.new l _)) (a9.none e l) ah ?_;rw[bM];exact .cons (q.same (a9.new l _)) .nil
 .have M:0<r:=by
   have:=f9 c;omega
  refine⟨_,U,ln1,λp l=>?_⟩;have t:=a9.new l (.lst [g]);have ri:=BQ (b:=ds) M;refine⟨_,U,y,b,ds,C,U,(x.trans e).trans t,hb,G,D,Yo,λ_ R d o _ h4 I=>?_⟩;refine⟨_,U,ln1,λp5 v=>?_⟩;have L:=a9.new v (.lst [g]);have u4:=I.len;refine⟨R,p5,_,_,U,U,SqL.of (L _ _ h4),SqL.of ah,bf (m:=3000) (by rw[Qf];omega),λp6 J=>?_⟩;have s6:=a9.new J (.lst (d++[g]));have ln:(bM (.rep r ds)).length=r.toNat * ((aM ds).length+1)+1:=by rw[bM,qJ,hU,qh,Qf]
  have lr:(d++[g]).length * r.toNat<=2000:=by
   rw[qh,Qf,u4,Nat.mul_comm];omega
  refine⟨_,U,p6,_,_,U,U,ah,Yo,Yo,bf (m:=3000) Yo,λX B=>?_⟩;have W:=a9.new B (.lst (List.replicate r.toNat (d++[g])).flatten);have j:=(L.trans s6).trans W;refine⟨p,X,_,_,U,U,SqL.of (j _ _ (o _ _ ah)),SqL.of ah,bf (m:=3000) ?_,λp8 u=>?_⟩
  .have:((List.replicate r.toNat (d++[g])).flatten).length=r.toNat * (d++[g]).length:=hU _ _;rw[Qf,this,Nat.mul_comm];omega
  .have N:=a9.new u (.lst ([g]++(List.replicate r.toNat (d++[g])).flatten));have f:=j.trans N;have z:cR _ g (gq ds):=(q.same t).same (o.trans f);have sf:=(e.trans t).trans (o.trans f);refine k _ p8 _ sf (a9.none ((e.trans t).trans (o.trans j)) u) ah ?_;rw[bM];exact .cons z (((I.same f).app (.cons z .nil)).reps r.toNat)
theorem DA:∀n:Nat,Ω T base (2 * n+18) a.Id a.Ie ["block"] (nO n):=by
 intro n
 induction n with
 |zero=>
  refine T.HD.F.ok lA λW A outer s H vs Q E hr h=>?_
  .obtain⟨_,_,_,_,_,_,_,h0,_⟩:=h;exact Qd h0 (QG _)
 |succ n ih=>
  refine T.HD.F.ok lA ?_;rintro W A _ s H vs Q E hr⟨R,b,ds,C,rfl,j,hb,a1,bi,a0,k⟩
  refine⟨_,(ag (aq (i:=1) lA.nd U Oi (ba ac))
   (ag (bD PassesOwn.never U (ce (pq 0)) (aI (i:=2) lA.nd U Oi)
   (aj (aJ (ax aW (ai au (pq 2) aa Oy) aQ (ay _)) (aj (bu (bL qq Qw Qv ic (pq 1) (a8 (aC (Dy T ih) (hr.mono Yo) T.Kq (a8 (ai au (pq 2) aa Oy) (a8 (ai au (pq 2) aa Oy) ac))) ac)))) (aj (bu (bL qq qE qF cE (pq 1) (a8 (aC (Dz T) (hr.mono Yo) T.Kr (a8 (pq 2) ac)) ac)))))))
   (aj (az (pq 1))))),?_⟩
  walk_at "q";obtain⟨b1,b2,O,N,X,b6⟩:=id bi;obtain⟨J,D⟩:=hb;rename_i vs;have vl:=D.len;refine⟨qC _,λc hc=>?_⟩;have S:=a9.new hc (.lst []);have big:(10000:Nat)<sizeLine:=Yk;exists _,U,b,U,⟨_,SqL.of (S _ _ (j _ _ J))⟩;refine dk (K:=K) (a:=b) (xs:=vs) (λi B l=>∃v us,B=[some (.ref b),some (.ref c),v]/\a9 H l/\l c=some (.lst us)/\aT l us (aM (ds.take i))) ⟨_,[],U,S,ah,by rw[List.take_zero,aM];exact .nil⟩ ?_ ?_ ?_
  .rintro i B l _ ⟨v,us,_,e,_⟩;exact SqL.of (e _ _ (j _ _ J))
  .rintro i x B l hx ⟨v,us,rfl,e,g,o⟩;obtain⟨d,hd,t⟩:=D.at i x hx;have tk:=pZ hd;have a2:=BU hd;have ue:=o.len;have dp:=yQ hd;obtain⟨f1,_⟩:=tw hd;by_cases nrd:∀m y,d≠.rep m y
   .obtain⟨px,r,rfl,hp⟩:=t.tuple;exists _,U,px,_,_,_,U,U,SqT.of (e _ _ (j _ _ hp)),at0,U,_,U;refine ifN (uh nrd) ?_;refine⟨_,U,.inl ⟨U,_,SqL.of g⟩,_,U,R,_,d,C,U,j.trans e,t,Yo,Yo,λq I=>O q (zg hd q I),N,X,nrd,λH3 u f V=>?_⟩;exists c,us,u,U,U,f _ _ g,Yo;exists _,us++[u],U,a9.over (e.trans f) hc,ah;rw[tk,rh nrd];exact((o.same f).off (f _ _ g)).snoc (V.off (f _ _ g))
   .cases t with
    |rep h L=>
     rename_i p y m bs _;obtain⟨r0,rb⟩:=(b6.at hd).rep;obtain⟨r1,r2⟩:=r0 m bs U;rw[ae.depth]at dp
     have M:(ak bs).length<=1000:=by
      simp only[ae.flat,qJ]at f1;omega
     have Z:∀q∈cards bs,q∈C:=λq I=>O q (zg hd q (by rw[ze];simp[ae.cards,ae.names,ae.others,ae.inner,I]));refine⟨_,U,_,_,_,_,U,U,SqT.of (e _ _ (j _ _ h)),U,U,_,U,aU Yd ?_⟩;refine⟨_,U,.inl ⟨U,_,SqL.of g⟩,_,U,_,_,_,_,U,U,SqT.of (e _ _ (j _ _ h)),U,_,U,_,_,_,_,U,U,SqT.of (e _ _ (j _ _ h)),U,R,m,y,bs,C,U,r1,r2,j.trans e,L,Yo,⟨Yo,M,Z,N,X,rb⟩,Yo,λH3 l3 X0 f n3 h3 G=>?_⟩;have u3:=G.len;exists c,l3,_,_,U,U,f _ _ g,h3,bf (m:=9000) Yo;exists _,us++X0,U,a9.over (e.trans f) hc,ah;rw[tk];exact((o.same f).app G).off (f _ _ g)
    |_=>exact Qd (λm y z=>by cases z) nrd
  .rintro B l ⟨v,us,rfl,e,g,o⟩;rw[vl,qP]at o;exact⟨_,U,k l c us e hc g o⟩
theorem DI:Ω T base 45 a.J9 a.Ja ["program"] vq:=by
 refine T.Kp.F.ok wA ?_;rintro _ A _ s H _ Q E hr⟨p,V,X0,x,e,ss,ds,us,C,rfl,d,o,j,ha,hs,D,B,t,f,ra,dl,fed,k⟩
 refine⟨_,(ag (aJ (ax fO (ao bC (aC (DJ T 13) (hr.mono Yk) T.HC (a8 (ai au (pq 0) aa Oy) ac)) aa) (gJ U T.Li T.r_MOST_DEEDS) (ay _)) (aj x9) aN)
  (ag (aq (i:=1) wA.nd U Oi (aC (DA T 13) (hr.mono Yk) T.HD (a8 (ai au (pq 0) aa Oy) ac)))
  (ag (bu (bL qq qE qF cE (pq 1) (a8 (aC (rY T) (hr.mono Yk) T.HE (a8 aQ (a8 (aC (DL T) (hr.mono Yk) T.Ko (a8 (pq 0) ac)) ac))) ac)))
  (ag (bu (aC (DK T) (hr.mono Yk) T.Ks (a8 (pq 1) ac)))
  (aj (az (pq 1))))))),?_⟩
 walk_at "q";have y:∀q∈cards ds,q∈C:=λq N=>B q (by unfold eB;simp[N]);exists _,U,p,_,_,_,U,U,SqT.of d.top,U,H,x,ds,U,a9.refl H,d.bo,Yo,ra,_,_,U,U;exists _,_,U,U,_,U;refine ar (Qc Yo) ?_;refine⟨_,U,p,_,_,_,U,U,SqT.of d.top,U,H,x,ds,C,U,a9.refl H,d.bo,Yo,⟨o,j,y,t,f,ra⟩,Yo,λ_ l c G n1 g n=>?_⟩;have big:(10000:Nat)<sizeLine:=Yk;have Z:=n.len;refine⟨_,U,.inl ⟨U,_,SqL.of g⟩,_,U,p,V,X0,x,e,ss,ds,us,C,U,d.same G,o,j,ha,hs,D,B,t,f,λ_ l2 zs I O nd R so=>?_⟩;refine⟨"end",l2,zs,U,O,λJ v L M=>?_⟩;exists l,c,v,U,U,L _ _ (I _ _ g),Yo;have b:=I.trans L;have X:=kU nd R so
 have m:aT (upd J l (.lst (c++[v]))) (c++[v]) (aM ds++[dZ e ss ds]):=by
  refine((n.same b).off (b _ _ g)).snoc ?_;unfold dZ;rw[<- X];exact M.off (b _ _ g)
 have W:a9 H (upd J l (.lst (c++[v]))):=a9.over (G.trans b) n1;refine⟨_,U,l,_,_,U,ah,m,by rw[qh,Qf];omega,fed.snoc U,λr z=>?_,λS u=>?_⟩
 .rcases qr.mp z with h|h
  .exact pY ds r h
  .rw[Q0.mp h];exact .inl U
 .exact⟨_,U,k S l _ (W.trans u) (u _ _ ah) (m.same u)⟩
theorem E3:Ω T base 1 a.JH a.JI ["_law_pick","_law_peak"] vS:=by
 refine T.Ky.F.ok BI ?_;rintro _ A _ s H _ Q E _⟨i,j,rfl,k⟩
 refine⟨_,(ag (aJ (ax aW (ao bp (pq 0) aa) aa (ay _)) (aj (az (ao bC aa (ao bp (ao cY (pq 0) aa) aa)))) aN)
  (ag (aJ (ax aW (ao bp (pq 0) aa) aa (ay _)) (aj (az (ao bC aa (ao bp (ao cY (pq 0) aa) aa)))) aN)
  (aj (az (ao bC aa (ao bp (ao cY (pq 0) aa) (aL (mV U) U T.HI PyProof.Rows.Boot.«max» (a8 aa (a8 (pq 1) ac))))))))),?_⟩
 walk_at "q";unfold sO at k;exists _,U,_,_,U,U,Yk,U,_,U;refine dh (λc=>?_) (λc=>?_)
 .rw[Qa (eJ c)]at k;exact⟨_,U,_,_,U,U,⟨Yk,Yk⟩,_,_,U,U,Yk,_,_,U,U,k⟩
 rw[Q9 (f9 c)]at k;exists _,U,_,_,U,U,Yk,U,_,U;refine dh (λc=>?_) (λc=>?_)
 .rw[Qa (eJ c)]at k;exact⟨_,U,_,_,U,U,⟨Yk,Yk⟩,_,_,U,U,Yk,_,_,U,U,k⟩
 rw[Q9 (f9 c)]at k;refine⟨_,U,_,_,U,U,⟨Yk,Yk⟩,_,U,1,j,U,_,_,U,U,?_,_,_,U,U,k⟩;split<;>omega
theorem DT:Ω T base 1 a.JF a.JG ["_law_moves_here","_law_q"] vH:=by
 refine T.Kx.F.ok gC ?_;rintro _ A _ s H _ Q E _⟨l,us,b,q,rfl,hl,g,_,k⟩
 refine⟨_,(ag (aq (i:=2) gC.nd U Oi aa)
  (ag (aq (i:=3) gC.nd U Oi aa)
  (ag (aq (i:=4) gC.nd U Oi aa)
  (ag (bD PassesOwn.never U (ce (pq 0)) (dM U (bh (aI (i:=5) gC.nd U Oi) (bh (aI (i:=6) gC.nd U Oi) d5)))
  (aj (aJ (ax aW (pq 6) (pq 1) (ay _)) (ag (aq (i:=2) gC.nd U Oi (ao bC (pq 2) (i5 (ax aW (pq 5) aQ (ay _)) aa (dE dv aa))))
  (ag (aq (i:=3) gC.nd U Oi (aL (zi U) U T.KJ PyProof.Rows.Boot.«min» (a8 (pq 3) (a8 (pq 2) ac))))
  (aj (aq (i:=4) gC.nd U Oi (aL (mV U) U T.HI PyProof.Rows.Boot.«max» (a8 (pq 4) (a8 (pq 2) ac))))))) aN)))
  (aj (az (bc (a8 (dE dv (pq 3)) (a8 (ao gF (pq 4) (pq 3)) ac))))))))),?_⟩
 walk_at "q";have j:=g.len;exists _,U,l,U,⟨_,SqL.of hl⟩;refine dk (K:=K) (a:=l) (xs:=us) (λi d c=>c=H/\∃v f,d=[some (.ref l),some (.str q),some (.int (aZ q (b.take i)).1),some (.int (aZ q (b.take i)).2.1),some (.int (aZ q (b.take i)).2.2),v,f]) ⟨U,_,_,U⟩ ?_ ?_ ?_
 .rintro i d c _ ⟨rfl,_⟩;exact SqL.of hl
 .rintro i x d c o ⟨rfl,v,f,rfl⟩;obtain⟨p,m,rfl,n,r⟩:=g.at i x o;have tk:b.take (i+1)=b.take i++[m]:=by rw[qA,n];rfl
  exists p,_,U,SqT.of r,U,_,_,U,_,_,U,U;exists _,U,_,U,U,_,U;rw[tk,rB];unfold dB gE;by_cases e:m.2=q
  .rw[Qa e];refine aU (by rw[e];simp) ?_;exists _,U,_,U,U,_,U;by_cases e2:m.1="put"
   .simp only[Qa e2];refine aU (by rw[e2];simp) ?_;exact⟨_,_,U,U,_,U,_,U,_,_,U,_,U,_,U,_,_,U,U,_,_,U⟩
   .simp only[Q9 e2];refine ar (by simp[e2]) ?_;exact⟨1,U,_,_,U,U,_,U,_,U,_,_,U,_,U,_,U,_,_,U,U,_,_,U⟩
  .rw[Q9 e];exact ar (by simp[e]) ⟨U,_,_,U⟩
 .rintro d c ⟨rfl,v,f,rfl⟩;rw[j,qP];exact⟨_,U,_,U,_,U,_,U,_,_,U,U,ln2,k⟩
theorem DZ:∀n:Nat,Ω T base (n+1) a.JD a.JE ["_law_block_here"] (vO n):=by
 intro n
 induction n with
 |zero=>
  refine T.HH.F.ok jf λa1 A outer s H vs Q E hr h=>?_
  .obtain⟨_,_,_,_,_,_,h0,_⟩:=h;exact Qd h0 (QG _)
 |succ n ih=>
 refine T.HH.F.ok jf ?_;rintro _ A _ s H vs Q E hr⟨H0,b,ds,rfl,f,hb,a2,ra,dl,k⟩
 refine⟨_,(ag (aq (i:=1) jf.nd U Oi (ba ac))
  (ag (bD PassesOwn.never U (ce (pq 0)) (aI (i:=2) jf.nd U Oi)
  (ag (aJ (PW.pt (c9 (ax aW (ai au (pq 2) aa Oy) aQ (ay _)) (dL (ax aW (ai au (pq 2) aa Oy) aQ (ay _))))) (aj (bu (bL qq qE qF cE (pq 1) (a8 (bc (a8 (ai au (pq 2) aa Oy) (a8 (ai au (pq 2) aa Oy) ac))) ac)))) aN)
  (aj (aJ (PW.pt (gf (ax aW (ai au (pq 2) aa Oy) aQ (ay _)) (hX (ax fO (ai au (pq 2) aa Oy) aa (ay _))))) (ag (aq (i:=3) jf.nd U Oi (aC ih (hr.mono Yo) T.HH (a8 (ai au (pq 2) aa Oy) ac)))
  (aj (bD PassesOwn.never U (gj U T.u8 (a8 (ai au (pq 2) aa Oy) ac)) (aI (i:=4) jf.nd U Oi)
  (aj (bu (bL qq Qw Qv ic (pq 1) (a8 (pq 3) ac))))))) aN))))
  (aj (az (pq 1))))),?_⟩
 walk_at "q";obtain⟨X0,O⟩:=hb;rename_i vs;have vl:=O.len;refine⟨qC _,λc hc=>?_⟩;have s1:=a9.new hc (.lst []);exists _,U,b,U,⟨_,SqL.of (s1 _ _ (f _ _ X0))⟩;refine dk (K:=K) (a:=b) (xs:=vs) (λi D B=>∃v N J us,D=[some (.ref b),some (.ref c),v,N,J]/\a9 H B/\B c=some (.lst us)/\RMs B us (bE (ds.take i))) ⟨_,_,_,[],U,s1,ah,by rw[List.take_zero,bE];exact .nil⟩ ?_ ?_ ?_
 .rintro i D B _ ⟨v,N,J,us,_,e,_⟩;exact SqL.of (e _ _ (f _ _ X0))
 .rintro i x D B hx ⟨v,N,J,us,rfl,e,g,o⟩;obtain⟨d,hd,a0⟩:=O.at i x hx;have tk:=y6 hd;have a3:=Ez hd;have ul:=o.len;rw[tk];have big:(10000:Nat)<sizeLine:=Yk
  cases a0 with
  |put h=>
   rename_i p q x;exists _,U,_,_,_,_,U,U,SqT.of (e _ _ (f _ _ h)),U,U,_,U;refine aU Yd (aU U ?_);refine⟨_,U,.inl ⟨U,_,SqL.of g⟩,_,U,_,_,_,_,U,U,SqT.of (e _ _ (f _ _ h)),U,_,U,_,_,_,_,U,U,SqT.of (e _ _ (f _ _ h)),U,ln2,λC r=>?_⟩;have l:=a9.new r (.tup [V.str "put",V.str q]);exists c,us,.ref C,U,U,l _ _ g,Yo;have y:a9 H (upd (upd B C (.tup [V.str "put",V.str q])) c (.lst (us++[.ref C]))):=a9.over (e.trans l) hc;refine⟨_,U,_,_,_,_,U,U,SqT.of (y _ _ (f _ _ h)),U,U,_,U,ar Yd (ar U ?_)⟩;exists _,_,_,us++[.ref C],U,y,ah;rw[cH];refine((o.same l).off (l _ _ g)).snoc (m:=("put",q)) ?_;rw[af (λz=>by rw[z,g]at r;cases r)];exact ah
  |get h=>
   rename_i p q x;exists _,U,_,_,_,_,U,U,SqT.of (e _ _ (f _ _ h)),U,U,_,U;refine ar Yd ?_;exists _,U,_,_,_,_,U,U,SqT.of (e _ _ (f _ _ h)),U,U,_,U;refine aU Yd ?_;refine⟨_,U,.inl ⟨U,_,SqL.of g⟩,_,U,_,_,_,_,U,U,SqT.of (e _ _ (f _ _ h)),U,_,U,_,_,_,_,U,U,SqT.of (e _ _ (f _ _ h)),U,ln2,λC r=>?_⟩;have l:=a9.new r (.tup [V.str "get",V.str q]);exists c,us,.ref C,U,U,l _ _ g,Yo;have y:a9 H (upd (upd B C (.tup [V.str "get",V.str q])) c (.lst (us++[.ref C]))):=a9.over (e.trans l) hc;refine⟨_,U,_,_,_,_,U,U,SqT.of (y _ _ (f _ _ h)),U,U,_,U,ar Yd (ar U ?_)⟩;exists _,_,_,us++[.ref C],U,y,ah;rw[cH];refine((o.same l).off (l _ _ g)).snoc (m:=("get",q)) ?_;rw[af (λz=>by rw[z,g]at r;cases r)];exact ah
  |set h=>
   exists _,U,_,_,_,_,U,U,SqT.of (e _ _ (f _ _ h)),U,U,_,U;refine ar Yd ?_;exists _,U,_,_,_,_,U,U,SqT.of (e _ _ (f _ _ h)),U,U,_,U;refine ar Yd ?_;exists _,U,_,_,_,_,U,U,SqT.of (e _ _ (f _ _ h)),U,U,_,U;refine ar Yd (ar U ?_);exact⟨_,_,_,us,U,e,g,by simpa[cH]using o⟩
  |give h=>
   exists _,U,_,_,_,_,U,U,SqT.of (e _ _ (f _ _ h)),U,U,_,U;refine ar Yd ?_;exists _,U,_,_,_,_,U,U,SqT.of (e _ _ (f _ _ h)),U,U,_,U;refine ar Yd ?_;exists _,U,_,_,_,_,U,U,SqT.of (e _ _ (f _ _ h)),U,U,_,U;refine ar Yd (ar U ?_);exact⟨_,_,_,us,U,e,g,by simpa[cH]using o⟩
  |cond h _ _=>
   exists _,U,_,_,_,_,U,U,SqT.of (e _ _ (f _ _ h)),U,U,_,U;refine ar Yd ?_;exists _,U,_,_,_,_,U,U,SqT.of (e _ _ (f _ _ h)),U,U,_,U;refine ar Yd ?_;exists _,U,_,_,_,_,U,U,SqT.of (e _ _ (f _ _ h)),U,U,_,U;refine ar Yd (ar U ?_);exact⟨_,_,_,us,U,e,g,by simpa[cH]using o⟩
  |whl h _=>
   exists _,U,_,_,_,_,U,U,SqT.of (e _ _ (f _ _ h)),U,U,_,U;refine ar Yd ?_;exists _,U,_,_,_,_,U,U,SqT.of (e _ _ (f _ _ h)),U,U,_,U;refine ar Yd ?_;exists _,U,_,_,_,_,U,U,SqT.of (e _ _ (f _ _ h)),U,U,_,U;refine ar Yd (ar U ?_);exact⟨_,_,_,us,U,e,g,by simpa[cH]using o⟩
  |rep h Z=>
   rename_i p bb m bs;obtain⟨r0,rb⟩:=(ra.at hd).rep;obtain⟨r1,r2⟩:=r0 m bs U;have dd:=mR hd;rw[ae.depth]at dd;have ml:(cH (.rep m bs)).length=m.toNat * (bE bs).length:=by rw[cH,hU]
   exists _,U,_,_,_,_,U,U,SqT.of (e _ _ (f _ _ h)),U,U,_,U;refine ar Yd ?_;exists _,U,_,_,_,_,U,U,SqT.of (e _ _ (f _ _ h)),U,U,_,U;refine ar Yd ?_;exists _,U,_,_,_,_,U,U,SqT.of (e _ _ (f _ _ h)),U,U,_,U;refine aU Yd ?_;exists _,U,_,_,_,_,U,U,SqT.of (e _ _ (f _ _ h)),U,_,_,U,U,_,U;refine dh (λS=>?_) (λS=>?_)
   .have mp:0<m:=Ql S
    have bl:(bE bs).length<=1000:=by
     have:1 * (bE bs).length<=m.toNat * (bE bs).length:=Nat.mul_le_mul_right _ Yo;omega
    refine⟨_,U,_,_,_,_,U,U,SqT.of (e _ _ (f _ _ h)),U,H0,bb,bs,U,f.trans e,Z,Yo,rb,bl,λH3 M L l n3 h3 r3=>?_⟩;have nl:M≠c:=λz=>by rw[z,g]at n3;cases n3
    have u3:=r3.len;have R:=e.trans l;exists _,U,_,_,_,_,U,U,SqT.of (R _ _ (f _ _ h)),U,_,U,Yo,Yo;refine ii (λj D G=>∃v,D=[some (.ref b),some (.ref c),some (.ref p),some (.ref M),v]/\a9 H G/\G M=some (.lst L)/\RMs G L (bE bs)/\∃u,G c=some (.lst u)/\RMs G u (bE (ds.take i)++reps j (bE bs))) ⟨_,U,R,h3,r3,us,l _ _ g,by rw[wJ,qG];exact o.same l⟩ ?_ ?_
    .rintro j D G hj ⟨v,rfl,y,W,X,u,t,I⟩;have u4:=I.len;rw[qh,hU]at u4;have jl:j * (bE bs).length<=m.toNat * (bE bs).length:=Nat.mul_le_mul_right _ Yo;exists _,U,.inl ⟨U,_,SqL.of t⟩,_,U,c,M,_,_,U,U,t,W,bf (m:=9000) Yo;exists _,U,a9.over y hc,by rw[af nl];exact W,X.off t,u++L,ah;rw[C5,<- qV];exact(I.app X).off t
    .rintro D G ⟨v,rfl,y,W,X,u,t,I⟩;exists _,_,_,u,U,y,t;rw[cH];exact I
   .have mz:m.toNat=0:=by
     have:=S;simp at this;omega
    exists _,_,_,us,U,e,g;rwa[cH,mz,wJ,qG]
 .rintro D B ⟨v,N,J,us,rfl,e,g,o⟩;rw[vl,qP]at o;exact⟨_,U,k B c us e hc g o⟩
theorem lV(c:Int)(n:Nat):(cO c n).length=n:=by
 unfold cO;split
 .rw[List.length_reverse,kj]
 .exact kj c n
theorem Gp(ns:LI):fA (ns.map V.int) (some 3) (some 63)=(fB ns 3 63).map V.int:=by
 unfold fA fB;have b:HT.sIx (ns.map V.int).length 0 (some 3)=min 3 ns.length:=by rw[qc];exact HT.sIx_nat _ _ 3
 have a:HT.sIx (ns.map V.int).length (ns.map V.int).length (some 63)=min 63 ns.length:=by rw[qc];exact HT.sIx_nat _ _ 63
 rw[b,a,List.map_take,List.map_drop]
seal cO
theorem DU:Ω T base 16 a.JJ a.JK ["_law_script","_law_most"] (vI K):=by
 refine T.Kz.F.ok eu ?_;rintro _ A _ s H _ Q E hr⟨l,ns,rfl,hl,e9,e7,c1,ml,c3,q⟩;have bl:(cC ns).length<=60:=qH (yg _) c3
 refine⟨_,(ag (aq (i:=2) eu.nd U Oi (aC (sj T) (hr.mono Yk) T.HF (a8 (pq 0) (a8 aa ac))))
  (ag (aq (i:=3) eu.nd U Oi (aC (sj T) (hr.mono Yk) T.HF (a8 (pq 0) (a8 aa ac))))
  (ag (aq (i:=4) eu.nd U (Or.inr U) (aC (sj T) (hr.mono Yk) T.HF (a8 (pq 0) (a8 aa ac))))
  (ag (aq (i:=5) eu.nd U (Or.inr U) (aC (xH T) (hr.mono Yk) T.Io (a8 (pq 2) (a8 (ao bC aa (ao bp (aC (gM T) (hr.mono Yk) T.or (a8 (pq 3) (a8 aa ac))) aa)) ac))))
  (ag (aq (i:=6) eu.nd U Oi (gH kX (pq 5) iI (fP (dE dv aa))))
  (ag (aq (i:=7) eu.nd U Oi (aC (xH T) (hr.mono Yk) T.Io (a8 (i5 (ax aW (ao bp (aC (gM T) (hr.mono Yk) T.or (a8 (pq 3) (a8 aa ac))) aa) aa (ay _)) (pq 2) (pq 3)) (a8 (aL (zi U) U T.KJ PyProof.Rows.Boot.«min» (a8 aa (a8 (ao bp (aC (gM T) (hr.mono Yk) T.or (a8 (pq 3) (a8 aa ac))) aa) ac))) ac))))
  (ag (aq (i:=8) eu.nd U Oi (aC (E5 T) (hr.mono Yk) T.Kw (a8 (gH kX (pq 0) (fP aa) (fP aa)) (a8 (pq 6) (a8 (pq 7) (a8 (pq 1) (a8 aa ac)))))))
  (ag (aq (i:=9) eu.nd U Oi (aC (DZ T 13) (hr.mono Yk) T.HH (a8 (pq 8) ac)))
  (ag (aq (i:=10) eu.nd U Oi (ba ac))
  (ag (aq (i:=11) eu.nd U Oi (ba ac))
  (ag (bD PassesOwn.never U (gj U T.u8 (a8 (aL bn U T.ad Qg (a8 (pq 7) ac)) ac)) (aI (i:=12) eu.nd U Oi)
  (ag (gi (aC (DT T) (hr.mono Yk) T.Kx (a8 (pq 9) (a8 (ai aA (pq 7) (pq 12) Oy) ac))) (dM U (bh (aI (i:=13) eu.nd U Oi) (bh (aI (i:=14) eu.nd U Oi) d5))))
  (ag (bu (bL qq Qw Qv ic (pq 10) (a8 (ao xw (ba (a8 (bc (a8 aQ (a8 (ai aA (pq 7) (pq 12) Oy) (a8 (ai aA (pq 6) (ao bp (pq 12) (aL bn U T.ad Qg (a8 (pq 6) ac))) Oy) ac)))) ac)) (pq 13)) ac)))
  (aj (bu (bL qq qE qF cE (pq 11) (a8 (bc (a8 (ai aA (pq 7) (pq 12) Oy) (a8 (aC (E3 T) (hr.mono Yk) T.Ky (a8 (aC (gM T) (hr.mono Yk) T.or (a8 (pq 4) (a8 (ao bC (pq 12) aa) ac))) (a8 (pq 14) ac))) ac))) ac)))))))
  (ag (ju (i:=15) eu.nd U Oi (k:=1) (Nc:=["_law_k","_law_words","_law_third"]) (js:=[5,4]) (show bg (aD lK) ["_law_script","_law_most","_law_first","_law_second","_law_third","_law_words","_law_names","_law_rooms","_law_body","_law_moves_here","_law_front","_law_stores_here","_law_k","_law_lacking","_law_peak","_law_asks"] _ 1 ["_law_k","_law_words","_law_third"] [5,4]from bg.mk U (by decide +kernel) (by decide +kernel) (by decide +kernel) U (by decide +kernel)) U (gj U T.u8 (a8 (aL bn U T.ad Qg (a8 (pq 5) ac)) ac)) (λ_ _ _ _ _=>(aI (i:=0) (show List.Nodup (["_law_k","_law_words","_law_third"]:LS)from by decide +kernel) U Oi)) (λ_ _ _ _ _=>(iH (ax aW (ao bp (aC (gM T) (hr.mono Yk) T.or (a8 (pq 2) (a8 (ao bC (pq 0) aa) ac))) aa) aa (ay _)))) (λ_ _ _ _ _=>(ai (jq (K:=K) U) (pq 1) (pq 0) Oy)))
  (aj (az (bc (a8 (pq 15) (a8 (pq 11) (a8 (ao jr (pq 10) (pq 8)) ac)))))))))))))))))),?_⟩
 walk_at "q";have e0:(0:Int).toNat=0:=U;have e1:(1:Int).toNat=1:=U;have e2:(2:Int).toNat=2:=U;exists _,U,l,ns,0,U,hl,Yo,Yk;exists _,U,l,ns,1,U,hl,Yo,Yk;exists _,U,l,ns,2,U,hl,Yo,Yk;rw[e0,e1,e2];have wl:(bZ ns).length=(2+aG (ns.getD 1 0) 1 % 4).toNat:=lV _ _;have nl:(bR ns).length=(bZ ns).length-1:=QI;have rl:(aF ns).length=(if aG (ns.getD 1 0) 3 % 5<3 then aG (ns.getD 1 0) 3 % 5 else 3).toNat:=lV _ _;have d0:(aF ns).length<=3:=by rw[rl];split<;>omega
 have cl:(fB ns 3 63).length<=100:=by unfold fB;rw[qS];omega
 refine⟨_,U,_,U,_,1,U,Yk,Yk,_,_,U,U,Yk,_,_,U,U,_,_,U,Yo,Yo,λH2 ln s2 e' d6=>?_⟩;have x:H2 ln=some (.lst ((bZ ns).map V.str)):=d6;refine⟨_,U,_,U,_,U,ln,_,U,SqL.of x,λc2 c8=>?_⟩;rw[Gq (bZ ns) Yo];have a4:a9 H2 (upd H2 c2 (.lst ((bZ ns).dropLast.map V.str))):=a9.new c8 _;have a5:(upd H2 c2 (.lst ((bZ ns).dropLast.map V.str))) c2=some (.lst ((bR ns).map V.str)):=ah;have b5:=s2.trans a4;have x:=a4 _ _ x;generalize upd H2 c2 (.lst ((bZ ns).dropLast.map V.str))=H2' at a5 b5 x ⊢;exists _,U,_,2,U,Yk,Yk,_,_,U,U,Yk,U,_,U;refine Fs U U ?_;refine⟨_,U,_,3,U,Yk,Yk,_,_,U,U,Yk,3,_,U,_,_,U,by split<;>omega,by split<;>omega,λH3 J s3 f1 R=>?_⟩
 have R:H3 J=some (.lst ((aF ns).map V.str)):=by
  rw[R];unfold aF
  congr 5
  exact propext ⟨eJ,λz=>by rw[z];rfl⟩
 have b7:=b5.trans s3;have d8:=s3 _ _ x;have b4:=s3 _ _ a5;refine⟨_,U,_,U,_,U,l,_,U,b7.seq hl,λc hc=>?_⟩;rw[Gp];have sc:a9 H3 (upd H3 c (.lst ((fB ns 3 63).map V.int))):=a9.new hc _;refine⟨_,U,_,U,_,U,c,c2,J,fB ns 3 63,bR ns,aF ns,2,7,U,SqL.of ah,SqL.of (sc _ _ b4),SqL.of (sc _ _ R),cl,Yo,Yo,Yo,Yk,Yk,λH4 b s4 nb hb=>?_⟩;have M:=sc.trans s4;have a6:=M _ _ d8;have c6:=M _ _ b4;have S:=M _ _ R;have d3:=b7.trans M;refine⟨_,U,H4,b,cC ns,U,a9.refl _,hb,Yo,c1,qH ml Yk,λH5 lm c7 B d' c5 d9=>?_⟩;refine⟨qC _,λD X0=>⟨qC _,λt N=>?_⟩⟩;have a3:D≠t:=λz=>by rw[z,ah]at N;cases N
 have s7:a9 H5 (upd (upd H5 D (.lst [])) t (.lst [])):=(a9.new X0 _).trans (a9.new N _);have d1:H5 t=none:=a9.none (a9.new X0 _) N;have c4:(((aF ns).map V.str).length:Int).toNat=(aF ns).length:=by simp
 have lw:(((bZ ns).map V.str).length:Int).toNat=(bZ ns).length:=by simp
 have e6:((bZ ns).map V.str).length=(bZ ns).length:=qc _;have e4:((aF ns).map V.str).length=(aF ns).length:=qc _;have big:(10000:Nat)<sizeLine:=Yk;exists _,U,J,_,U,.inl (SqL.of (s7 _ _ (B _ _ S))),_,U,Yo,Yo;rw[c4];refine ii (λi I r=>∃v v' a2 fs ss,I=[some (.ref l),some (.int 2),some (.int (ns.getD 0 0)),some (.int (ns.getD 1 0)),some (.int (ns.getD 2 0)),some (.ref ln),some (.ref c2),some (.ref J),some (.ref b),some (.ref lm),some (.ref D),some (.ref t),v,v',a2,none]/\a9 H5 r/\r D=some (.lst fs)/\RPs r fs (iS (aF ns) (bR ns) (bw ns) i)/\r t=some (.lst ss)/\RSs r ss (fY (aF ns) (ns.getD 2 0) (bw ns) i)) ⟨_,_,_,[],[],U,s7,by rw[af a3];exact ah,.nil,ah,.nil⟩ ?_ ?_
 .rintro i I r hi ⟨v,v',a2,fs,ss,rfl,u,hf,W,hs,rs⟩;rw[Int.zero_add];have e:atI ((aF ns).map V.str) (i:Int)=some (.str ((aF ns).getD i (">":Str))):=zx hi;have en:atI ((bR ns).map V.str) ((i:Int) % (((bR ns).map V.str).length:Int))=some (.str (nth (bR ns) (i:Int))):=iP Yo _;have f0:((bR ns).map V.str).length=(bR ns).length:=qc _;have fl:=W.len;have sl:=rs.len;rw[nG]at sl
  have fm:(iS (aF ns) (bR ns) (bw ns) i).length<=720:=by
   have h1:=mK (aF ns) (bR ns) (bw ns) i;rw[<- mL,qc]at h1;have:i * (bw ns).length<=3 * 240:=Nat.mul_le_mul Yo ml;omega
  have lk:=yp ((aF ns).getD i (">":Str)) (bw ns);have e8:=lP ((aF ns).getD i (">":Str)) (bw ns);refine⟨_,U,_,U,_,U,J,_,_,_,U,U,SqL.of (u _ _ (B _ _ S)),e,lm,c7,bw ns,_,U,u _ _ c5,d9.same u,Yo,λpr d7=>⟨pr,_,U,SqT.of ah,U,_,_,U,_,_,U,U,?_⟩⟩;have n:=a9.new d7 (.tup [.int (-(aZ ((aF ns).getD i (">":Str)) (bw ns)).2.1),.int ((aZ ((aF ns).getD i (">":Str)) (bw ns)).2.2-(aZ ((aF ns).getD i (">":Str)) (bw ns)).2.1)]);have O:=u.trans n;have a7:=O _ _ (B _ _ S);have a1:=O _ _ (B _ _ c6);have C:=n _ _ hf;have b0:=n _ _ hs;have b8:=W.same n;have b1:=rs.same n;generalize upd r pr (.tup [.int (-(aZ ((aF ns).getD i (">":Str)) (bw ns)).2.1),.int ((aZ ((aF ns).getD i (">":Str)) (bw ns)).2.2-(aZ ((aF ns).getD i (">":Str)) (bw ns)).2.1)])=H7 at O a7 a1 C b0 b8 b1 ⊢;clear n hf hs W rs;refine⟨_,U,.inl ⟨U,_,SqL.of C⟩,_,U,_,U,J,_,_,_,U,U,SqL.of a7,e,_,U,_,U,_,U,c2,_,U,.inl (SqL.of a1),_,_,U,U,Yo,c2,_,_,_,U,U,SqL.of a1,en,ln3,λpt c'=>⟨ln1,λpl d2=>?_⟩⟩;have st:=a9.new c' (.tup [.str "put",.str ((aF ns).getD i (">":Str)),.str (nth (bR ns) (i:Int))]);have b6:=a9.new d2 (.lst [.ref pt]);refine⟨_,U,pl,_,_,U,U,ah,Yo,Yo,by show 1 * gn _ _<=_;omega,λpq b3=>?_⟩;rw[FQ];have d:=(st.trans b6).trans (a9.new b3 (.lst (List.replicate (-(aZ ((aF ns).getD i (">":Str)) (bw ns)).2.1).toNat (.ref pt))));exists D,pq,_,_,U,U,d _ _ C,ah,bf (m:=9000) (by rw[List.length_replicate];show fs.length+gn _ _<=_;omega);have b':=(b6.trans (a9.new b3 (.lst (List.replicate (-(aZ ((aF ns).getD i (">":Str)) (bw ns)).2.1).toNat (.ref pt))))) _ _ (ah (H:=H7) (a:=pt) (o:=.tup [.str "put",.str ((aF ns).getD i (">":Str)),.str (nth (bR ns) (i:Int))]));have G:=a9.over (o:=.lst (fs++List.replicate (-(aZ ((aF ns).getD i (">":Str)) (bw ns)).2.1).toNat (.ref pt))) (O.trans d) X0;have X:RPs _ _ (iS (aF ns) (bR ns) (bw ns) (i+1)):=((b8.same d).app (RPs.rep (m:=((aF ns).getD i (">":Str),nth (bR ns) (i:Int))) b' (gn ((aF ns).getD i (">":Str)) (bw ns)))).off (o:=.lst (fs++List.replicate (-(aZ ((aF ns).getD i (">":Str)) (bw ns)).2.1).toNat (.ref pt))) (d _ _ C);have a0:=(b1.same d).off (o:=.lst (fs++List.replicate (-(aZ ((aF ns).getD i (">":Str)) (bw ns)).2.1).toNat (.ref pt))) (d _ _ C);have g:=(af (H:=(upd (upd (upd H7 pt (.tup [.str "put",.str ((aF ns).getD i (">":Str)),.str (nth (bR ns) (i:Int))])) pl (.lst [.ref pt])) pq (.lst (List.replicate (-(aZ ((aF ns).getD i (">":Str)) (bw ns)).2.1).toNat (.ref pt))))) (o:=.lst (fs++List.replicate (-(aZ ((aF ns).getD i (">":Str)) (bw ns)).2.1).toNat (.ref pt))) (Ne.symm a3)).trans (d _ _ b0);have Z:=ah (H:=(upd (upd (upd H7 pt (.tup [.str "put",.str ((aF ns).getD i (">":Str)),.str (nth (bR ns) (i:Int))])) pl (.lst [.ref pt])) pq (.lst (List.replicate (-(aZ ((aF ns).getD i (">":Str)) (bw ns)).2.1).toNat (.ref pt))))) (a:=D) (o:=.lst (fs++List.replicate (-(aZ ((aF ns).getD i (">":Str)) (bw ns)).2.1).toNat (.ref pt)));generalize upd (upd (upd (upd H7 pt (.tup [.str "put",.str ((aF ns).getD i (">":Str)),.str (nth (bR ns) (i:Int))])) pl (.lst [.ref pt])) pq (.lst (List.replicate (-(aZ ((aF ns).getD i (">":Str)) (bw ns)).2.1).toNat (.ref pt)))) D (.lst (fs++List.replicate (-(aZ ((aF ns).getD i (">":Str)) (bw ns)).2.1).toNat (.ref pt)))=H10 at G X a0 g Z ⊢;refine⟨_,U,.inl ⟨U,_,SqL.of g⟩,_,U,_,U,J,_,_,_,U,U,SqL.of (G _ _ (B _ _ S)),e,_,U,_,U,_,_,U,U,_,_,U,Yo,Yo,_,U,_,_,U,ln2,λpz j=>?_⟩;exists t,ss,.ref pz,U,U,a9.new j _ _ _ g,Yo;refine⟨_,_,_,_,ss++[.ref pz],U,a9.over (G.trans (a9.new j _)) d1,?_,(X.same (a9.new j _)).off (a9.new j _ _ _ g),ah,?_⟩
  .rw[af a3];exact a9.new j _ _ _ Z
  .exact((a0.same (a9.new j _)).snoc ah).off (a9.new j _ _ _ g)
 .rintro I r ⟨v,v',a2,fs,ss,rfl,u,hf,W,hs,rs⟩;exists _,U,ln,_,U,.inl (SqL.of (u _ _ (B _ _ a6))),_,U,Yo,Yo;rw[lw];refine yZ (λi ys I H9=>(∃v,I=[v,some (.ref ln),some (.int (ns.getD 2 0))])/\a9 r H9/\ys=(fE (bZ ns) (ns.getD 2 0) i).map V.str) ⟨⟨none,U⟩,a9.refl _,U⟩ ?_ (bf (m:=100) Yo) ?_ ?_
  .rintro i ys I H9 _ ⟨_,_,rfl⟩;rw[qc];exact tW _ _ _
  .rintro i ys I H9 hi ⟨⟨v,rfl⟩,d,rfl⟩;exists _,U,_,U,_,_,U,U,_,_,U,Yo,Yo,_,_,U,U,Yk,U,_,U;refine dh (λL=>?_) (λL=>?_)
   .have L:=eJ L;exists _,U,_,U,ln,_,_,_,U,U,SqL.of (d _ _ (u _ _ (B _ _ a6))),zx hi,⟨_,U⟩,d;rw[fE,Qa L];simp
   .have L:=f9 L;exists ⟨_,U⟩,d;rw[fE,Q9 L];simp
  rintro ys e3 H9 ⟨_,d,rfl⟩ la c0;have y:=d.trans (a9.new c0 (.lst ((fE (bZ ns) (ns.getD 2 0) (bZ ns).length).map V.str)));obtain⟨hv,b9⟩:=hb;rename_i b2;have sb:a9 H4 (upd H9 la (.lst ((fE (bZ ns) (ns.getD 2 0) (bZ ns).length).map V.str))):=B.trans (u.trans y);have bv:b2.length=(cC ns).length:=b9.len;have fl:=W.len
  have fm:(iS (aF ns) (bR ns) (bw ns) (aF ns).length).length<=720:=by
   have h1:=mK (aF ns) (bR ns) (bw ns) (aF ns).length;rw[<- mL,qc]at h1;have:(aF ns).length * (bw ns).length<=3 * 240:=Nat.mul_le_mul d0 ml;omega
  refine⟨_,U,_,U,_,U,_,U,D,b,_,_,U,U,SqL.of (y _ _ hf),SqL.of (sb _ _ hv),bf (m:=9000) Yo,λpb c9=>⟨ln3,λp hp=>?_⟩⟩;have d4:=a9.new c9 (.lst (fs++b2));have a':=a9.new hp (.tup [.ref la,.ref t,.ref pb]);have f:=d4.trans a';refine q _ p la t pb ss ((d3.trans sb).trans f) ⟨ah,f _ _ ah,f _ _ (y _ _ hs),rs.same (y.trans f),.mk (a' _ _ ah) (RDs.app ?_ (RDs.same (sb.trans f) b9))⟩;have:=(W.same (y.trans f)).rds;rw[mL]at this;exact this
theorem xB:Ω T base 1 a.ID a.IE ["cards","kind","owners"] uY:=by
 refine T.Ii.F.ok By ?_;rintro _ A _ s H _ Q E _⟨p,d,j,y,kvs,ow,rfl,B,hd,C,hl,k⟩;exists _,(aj (az (fQ (k:=1) (Nc:=["card","kind","owners"]) (js:=[1,2]) (show bg (aD lE) ["cards","kind","owners"] _ 1 ["card","kind","owners"] [1,2]from bg.mk U (by decide +kernel) (by decide +kernel) (by decide +kernel) U (by decide +kernel)) U (iJ (pq 0)) (λ_ _ _ _ _=>(aI (i:=0) (show List.Nodup (["card","kind","owners"]:LS)from by decide +kernel) U Oi)) (λ_ _ _ _ _=>(iH (ax m5 (pq 0) (pq 2) (by with_unfolding_all rfl)))) (λ_ _ _ _ _=>(bc (a8 (ai Fp (pq 2) (pq 0) Oy) (a8 (pq 1) (a8 (pq 0) ac))))))));walk_at "q";have big:(10000:Nat)<sizeLine:=Yk;exists _,U,p,U,⟨_,SqT.of B⟩;refine tJ (K:=K) (a:=p) (xs:=j.map V.str) (λi ys o m=>a9 H m/\(∃u,o=[u,some (.str y),some (.ref d)])/\RWs m ys (du ow y (j.take i))) ⟨a9.refl _,⟨_,U⟩,.nil⟩ ?_ (by rw[qc];omega) ?_ ?_ ?_
 .rintro i ys o m _ ⟨_,_,f⟩;have:=iZ ow y (j.take i);rw[f.len];rw[qS]at this;omega
 .rintro i ys o m ⟨b,_⟩;exact SqT.of (b _ _ B)
 .rintro i x ys o m r ⟨b,⟨u,rfl⟩,f⟩;rw[qM]at r
  cases e:j[i]? with
  |none=>rw[e]at r;cases r
  |some c=>
   rw[e]at r;obtain rfl:V.str c=x:=qR r;have tk:j.take (i+1)=j.take i++[c]:=by rw[qA,e];rfl
   rw[tk,GK];have v:=C c;exists _,U,_,U,d,kvs,.inr c,U,b _ _ hd,U
   cases eo:ow c with
   |none=>
    rw[eo]at v;have g:aH kvs (.inr c)=none:=v;rw[g];exists _,U;rw[Q9 (show ¬ (none:LC).isSome=true from λh=>nomatch h)];exact⟨b,⟨_,U⟩,by rwa[Option.map_none,Option.toList_none,qG]⟩
   |some n=>
    rw[eo]at v;have g:aH kvs (.inr c)=some (.int n):=v;rw[g];exists _,U;rw[Qa (show(some (V.int n)).isSome=true from rfl)];exists _,U,_,U,d,kvs,.inr c,.int n,U,b _ _ hd,U,g;refine⟨_,U,_,U,ln3,λq z=>?_⟩;exact⟨b.trans (a9.new z _),⟨_,U⟩,(f.same (a9.new z _)).snoc (e:=(n,y,c)) ah⟩
 .rintro ys o m ⟨b,_,f⟩ l t;rw[qc,qP]at f;exact k _ l ys (b.trans (a9.new t _)) (b.free t) ah (f.same (a9.new t _))
theorem xA:Ω T base 2 a.IB a.IC ["deeds"] uX:=by
 refine T.Ih.F.ok jb ?_;rintro _ A _ s H _ Q E hr⟨l,us,rs,rfl,hl,a7,_,a4,k⟩
 refine⟨_,(ag (aq (i:=1) jb.nd U Oi fu)
  (ag (aq (i:=2) jb.nd U Oi (ba ac))
  (ag (bD PassesOwn.never U (jv U T.Ch (a8 (pq 0) ac)) (dM U (bh (aI (i:=3) jb.nd U Oi) (bh (aI (i:=4) jb.nd U Oi) d5)))
  (ag (bu (bL qq qE qF cE (pq 2) (a8 (ao jr (aC (xB T) (hr.mono Yk) T.Ii (a8 (ai au (pq 4) aa Oy) (a8 aQ (a8 (pq 1) ac)))) (aC (xB T) (hr.mono Yk) T.Ii (a8 (ai au (pq 4) aa Oy) (a8 aQ (a8 (pq 1) ac))))) ac)))
  (aj (bD PassesOwn.never U (iJ (ai au (pq 4) aa Oy)) (aI (i:=5) jb.nd U Oi)
  (aj (eY (hr.one) (pq 1) (pq 5) (pq 3) U))))))
  (aj (az (pq 2)))))),?_⟩
 walk_at "q";have big:(4000000:Nat)<sizeLine:=Yk;intro d hd;refine⟨qC _,λb a3=>?_⟩;have s1:a9 H (upd H d (.dK [])):=a9.new hd _;have s2:=s1.trans (a9.new a3 (.lst []));have b6:(upd (upd H d (.dK [])) b (.lst [])) d=some (.dK []):=a9.new a3 _ _ _ ah;have b2:H b=none:=s1.free a3;exists _,U,l,us,U,SqL.of (s2 _ _ hl);refine kA (K:=K) (l:=l) (xs:=us) (λi p n=>∃v3 v4 C kvs f,p=[some (.ref l),some (.ref d),some (.ref b),v3,v4,C]/\a9 H n/\n d=some (.dK kvs)/\n b=some (.lst f)/\RWL n f (bH rs i)/\(∀v∈f,v≠.ref b)/\jM kvs (bO (rs.take i))/\kvs.length<=4000 * i) ⟨_,_,_,[],[],U,s2,b6,ah,.nil,(λv hv=>nomatch hv),λc=>U,qC _⟩ ?_ ?_ ?_
 .rintro i p n ⟨_,_,_,_,_,_,s3,_⟩;exact SqL.of (s3 _ _ hl)
 .rintro i x p n pt D ⟨v3,v4,C,kvs,f,rfl,s3,b3,a1,u,b0,own,kl⟩ b5;obtain⟨r,L,y,po,pr,rfl,h1,h2,h3⟩:=a7.at i x D;have lt:i<rs.length:=(qp.mp L).1;have st:a9 n (upd n pt (.tup [.int i,.ref y])):=a9.new b5 _;have X0:(upd n pt (.tup [.int i,.ref y])) pt=some (.tup [.int i,.ref y]):=ah;have W:=s3.trans st;have N:=st _ _ b3;have M:=st _ _ a1;have X:=u.same st;generalize upd n pt (.tup [.int i,.ref y])=H3 at W N M X X0 ⊢;obtain⟨so,_⟩:=a4 r (qI L);exists pt,_,U,SqT.of X0,U,_,_,U,_,_,U,U;have b4:=W _ _ h1;exists _,U,.inl ⟨U,_,SqL.of M⟩;exists _,U,y,_,_,_,U,U,SqT.of b4,U;refine⟨_,U,po,d,r.owns,"card",kvs,bO (rs.take i),U,W _ _ h2,N,own,Yo,λ_ l1 B s5 _ e1 w1=>?_⟩;exists _,U,y,_,_,_,U,U,SqT.of (s5 _ _ b4),U;refine⟨_,U,pr,d,r.reads,"copy",kvs,bO (rs.take i),U,s5 _ _ (W _ _ h3),s5 _ _ N,own,Yo,λH5 l2 G s6 _ e2 w2=>?_⟩;have n1:=iZ (bO (rs.take i)) "card" r.owns;have n2:=iZ (bO (rs.take i)) "copy" r.reads;refine⟨l1,l2,B,G,U,U,SqL.of (s6 _ _ e1),SqL.of e2,by rw[w1.len,w2.len];omega,λg f3=>?_⟩;have t:=(s5.trans s6).trans (a9.new f3 (.lst (B++G)));have w3:RWs (upd H5 g (.lst (B++G))) (B++G) (dr (rs.take i) r):=(RWs.app w2 (w1.same s6)).same (a9.new f3 _);have e3:(upd H5 g (.lst (B++G))) g=some (.lst (B++G)):=ah;have n3:g≠b:=λz=>by rw[z,(s5.trans s6) _ _ M]at f3;cases f3
  generalize upd H5 g (.lst (B++G))=H6 at t w3 e3 ⊢;have a0:=t _ _ M;have O:=t _ _ N;have nd:d≠b:=λz=>by rw[z,a0]at O;cases O
  have wl:=u.len;rw[j1 rs i Yo]at wl;exists b,f,_,U,U,a0,Yo;have s7:a9 H (upd H6 b (.lst (f++[.ref g]))):=a9.over (W.trans t) b2;have b1:(upd H6 b (.lst (f++[.ref g]))) b=some (.lst (f++[.ref g])):=ah;have a5:(upd H6 b (.lst (f++[.ref g]))) d=some (.dK kvs):=by rw[af nd];exact O
  have a2:∀v∈f++[V.ref g],v≠.ref b:=λv hv=>by
   rcases qr.mp hv with q|q
   .exact b0 v q
   .rw[Q0.mp q];exact λz=>n3 (V.ref.inj z)
  have a':RWL (upd H6 b (.lst (f++[.ref g]))) (f++[.ref g]) (bH rs (i+1)):=by
   rw[bH,L];exact((X.same t).snoc e3 w3).off a0 a2
  generalize upd H6 b (.lst (f++[.ref g]))=H7 at s7 b1 a5 a' ⊢;exists _,U,y,_,_,_,U,U,SqT.of (s7 _ _ h1),U;exists po,U,⟨_,SqT.of (s7 _ _ h2)⟩;refine tm (K:=K) (a:=po) (xs:=r.owns.map V.str) (λj p I=>∃C m,p=[some (.ref l),some (.ref d),some (.ref b),some (.int i),some (.ref y),C]/\a9 H I/\I d=some (.dK m)/\I b=some (.lst (f++[.ref g]))/\RWL I (f++[.ref g]) (bH rs (i+1))/\jM m (kq (bO (rs.take i)) i (r.owns.take j))/\m.length<=kvs.length+j) ⟨_,kvs,U,s7,a5,b1,a',λc=>by rw[own c];rfl,qo _⟩ ?_ ?_ ?_
  .rintro j p I _ ⟨_,_,_,R,_⟩;exact SqT.of (R _ _ h2)
  .rintro j x p I D ⟨C,m,rfl,R,J,S,Z,o,a6⟩;rw[qM]at D
   cases e:r.owns[j]? with
   |none=>rw[e]at D;cases D
   |some c=>
    rw[e]at D;obtain rfl:V.str c=x:=qR D;have jl:=(qp.mp e).1;exists _,U,_,U,_,U,d,_,U,dR.k (k:=.inr c) J Yo;refine⟨_,_,U,a9.over R hd,ah,?_,Z.offD J,?_,?_⟩
    .rw[af (Ne.symm nd)];exact S
    .rw[qA,e];exact o.put
    .have:=dF m (.inr c) (.int i);omega
  .rintro p I ⟨C,m,rfl,R,J,S,Z,o,a6⟩;rw[qc]at o a6;rw[qP]at o;refine⟨_,_,_,m,_,U,R,J,S,Z,a2,λc=>?_,Yo⟩;rw[o c,qA,L];show _=Option.map V.int (bO (rs.take i++[r]) c);rw[yo,qS,Nat.min_eq_left Yo]
   rfl
 .rintro p n ⟨v3,v4,C,kvs,f,rfl,s3,b3,a1,u,b0,own,kl⟩;rw[a7.len]at u;exact⟨_,U,k _ _ _ s3 b2 a1 u⟩
theorem xD:Ω T base 1 a.IF a.IG ["deeds","place"] vh:=by
 refine T.Ij.F.ok lB ?_;rintro _ A _ s H _ Q E _⟨l,us,rs,pl,f,rfl,hl,O,_,hf,k⟩
 refine⟨_,(ag (aq (i:=2) lB.nd U Oi fu)
  (ag (bD PassesOwn.never U (jv U T.Ch (a8 (pq 0) ac)) (dM U (bh (aI (i:=3) lB.nd U Oi) (bh (aI (i:=4) lB.nd U Oi) d5)))
  (aj (aJ (ax eX (ai au (pq 4) (pq 1) Oy) bN (ay _)) (aj (bu (bL qq qE qF cE (xj (pq 2) (ai au (pq 4) (pq 1) Oy) (ba ac) ⟨U,U,U,U⟩) (a8 (pq 3) ac)))) aN)))
  (aj (az (pq 2))))),?_⟩
 walk_at "q";have big:(4000000:Nat)<sizeLine:=Yk;intro d hd;have s1:a9 H (upd H d (.dK [])):=a9.new hd _;exists _,U,l,us,U,SqL.of (s1 _ _ hl);refine kA (K:=K) (l:=l) (xs:=us) (λi L g=>∃X W kvs,L=[some (.ref l),some (.int pl),some (.ref d),X,W]/\a9 H g/\g d=some (.dK kvs)/\RN g kvs (ap f (rs.take i))/\(∀(q:Str)(p:Addr),aH kvs (.inr q)=some (.ref p)->H p=none)/\kvs.length<=i) ⟨_,_,[],U,s1,ah,⟨λq=>.inl ⟨U,U⟩,λ_ _ _ h=>nomatch h⟩,(λ_ _ h=>nomatch h),qo _⟩ ?_ ?_ ?_
 .rintro i L g ⟨_,_,_,_,I,_⟩;exact SqL.of (I _ _ hl)
 .rintro i x L g pt hx ⟨X,W,kvs,rfl,I,G,rn,fr,kl⟩ a0;obtain⟨r,M,C,po,pr,rfl,X0,_,_⟩:=O.at i x hx;have lt:i<rs.length:=(qp.mp M).1;have st:a9 g (upd g pt (.tup [.int i,.ref C])):=a9.new a0 _;have D:(upd g pt (.tup [.int i,.ref C])) pt=some (.tup [.int i,.ref C]):=ah;have n:=I.trans st;have e:=st _ _ G;have j:=rn.same st;generalize upd g pt (.tup [.int i,.ref C])=H3 at n e j D ⊢;have tk:rs.take (i+1)=rs.take i++[r]:=by rw[qA,M];rfl
  have il:(rs.take i).length=i:=by rw[qS];omega
  have R:atI [V.str r.kind,.ref po,.ref pr,dc r.into,dc r.outof] pl=some (dc (f r)):=by
   rcases hf with⟨rfl,rfl⟩|⟨rfl,rfl⟩<;>rfl
  have ns:=m7 f (rs.take i) r;rw[il]at ns;exists pt,_,U,SqT.of D,U,_,_,U,_,_,U,U;exists _,U,_,U,C,_,pl,_,U,U,SqT.of (n _ _ X0),R
  cases ef:f r with
  |none=>
   refine⟨U,_,U,ar U ?_⟩;refine⟨_,_,kvs,U,n,e,j.eq λq=>?_,fr,Yo⟩;rw[tk,ns,ef];simp
  |some q=>
   refine⟨U,_,U,aU U ?_⟩;have S:ap f (rs.take (i+1)) q=ap f (rs.take i) q++[(i:Int)]:=by rw[tk,ns,ef,Qa U]
   have Z:∀B,B≠q->ap f (rs.take (i+1)) B=ap f (rs.take i) B:=λB z=>by rw[tk,ns,ef,Q9 (λy=>z (qR y).symm),qG]
   exists _,U,d,U,.inl ⟨kvs,.inl e⟩;exists _,U,_,U,C,_,pl,_,U,U,SqT.of (n _ _ X0),R;rw[ef];refine⟨qC _,λo u=>?_⟩;have t:a9 H3 (upd H3 o (.lst [])):=a9.new u _;refine⟨kvs,.inr q,t _ _ e,U,Yo,λv m=>?_,λm=>?_⟩
   .rcases j.at_ q with⟨b,_⟩|⟨p,b,c⟩
    .rw[b]at m;cases m
    .rw[b]at m;cases m;have nl:=xS f (rs.take i) q;rw[il]at nl;refine⟨.inl ⟨U,_,SqL.of (t _ _ c)⟩,_,U,p,_,_,U,U,t _ _ c,by rw[qc];omega,?_⟩;have np:p≠d:=λy=>by rw[y,e]at c;cases c
     refine⟨_,_,kvs,U,a9.over (n.trans t) (fr q p b),?_,(j.same t).old b S Z,fr,Yo⟩;rw[af (Ne.symm np)];exact t _ _ e
   .have N:o≠d:=λy=>by rw[y,e]at u;cases u
    have h0:(upd (upd H3 o (.lst [])) d (.dK (aX kvs (.inr q) (.ref o)))) o=some (.lst []):=by rw[af N];exact ah
    refine⟨.inl ⟨U,_,SqL.of h0⟩,_,U,o,_,_,U,U,h0,by show 0<sizeLine;decide,?_⟩
    have m0:ap f (rs.take i) q=[]:=by
     rcases j.at_ q with⟨_,b⟩|⟨p,b,_⟩
     .exact b
     .rw[b]at m;cases m
    rw[m0]at S;have kp:=dF kvs (.inr q) (.ref o);refine⟨_,_,_,U,a9.over (a9.over (n.trans t) hd) (n.free u),?_,j.new e u m S Z,λB p J=>?_,Yo⟩
    .rw[af (Ne.symm N)];exact ah
    .rw[d9]at J;split at J
     .cases J;exact n.free u
     .exact fr B p J
 .rintro L g ⟨X,W,kvs,rfl,I,G,rn,fr,kl⟩;rw[O.len,qP]at rn;exact⟨_,U,k _ _ _ I G rn fr⟩
theorem cU{l:Addr}(h:H l=none)(o:HO):∃H1,upd H l o=H1/\a9 H H1/\H1 l=some o:=⟨_,U,a9.new h o,ah⟩
theorem xC:Ω T base 2 a.Iz a.IA ["waits_by_cards","deeds","stores"] uZ:=by
 refine T.Ig.F.ok eV ?_;rintro _ A _ s H _ Q E hr⟨lc,l,ls,ws,us,sv,W,rs,ss,rfl,e',d',d7,sm,hl,c3,b6,e9,e8,_,f7,k⟩
 refine⟨_,(ag (ju (i:=3) eV.nd U Oi (k:=1) (Nc:=["row"]) (js:=[]) (show bg (aD lF) ["waits_by_cards","deeds","stores","waits","puts_by_store","gets_by_store","store","length","puts","gets","put","get","count","awaited"] _ 1 ["row"] []from bg.mk U (by decide +kernel) (by decide +kernel) (by decide +kernel) U (by decide +kernel)) U (ce (pq 0)) (λ_ _ _ _ _=>(aI (i:=0) (show List.Nodup (["row"]:LS)from by decide +kernel) U Oi)) (λ_ _ _ _ _=>gh) (λ_ _ _ _ _=>(d6 (Cu (K:=K) U) U T.mt PyProof.Rows.Boot.«list» (a8 (pq 0) ac))))
  (ag (aq (i:=4) eV.nd U Oi (aC (xD T) (hr.mono Yk) T.Ij (a8 (pq 1) (a8 (gJ U T.Ld T.r_INTO) ac))))
  (ag (aq (i:=5) eV.nd U Oi (aC (xD T) (hr.mono Yk) T.Ij (a8 (pq 1) (a8 (gJ U T.Le T.r_OUT_OF) ac))))
  (ag (bD PassesOwn.never U (ce (pq 2)) (dM U (bh (aI (i:=6) eV.nd U Oi) (bh (aI (i:=7) eV.nd U Oi) d5)))
  (ag (aq (i:=8) eV.nd U Oi (dN hr.one (pq 4) (pq 6) (ba ac) ⟨U,U,U,U⟩))
  (ag (aq (i:=9) eV.nd U Oi (dN hr.one (pq 5) (pq 6) (ba ac) ⟨U,U,U,U⟩))
  (ag (bD PassesOwn.never U (CW U T.Lc (a8 (pq 8) (a8 (pq 9) ac))) (dM U (bh (aI (i:=10) eV.nd U Oi) (bh (aI (i:=11) eV.nd U Oi) d5)))
  (aj (bu (bL qq qE qF cE (ai aA (pq 3) (pq 11) Oy) (a8 (bc (a8 (pq 10) (a8 aQ (a8 (pq 6) ac)))) ac)))))
  (aj (bD PassesOwn.never U (jv U T.Ch (a8 (gH kX (pq 8) (fP (pq 7)) iI) ac)) (dM U (bh (aI (i:=12) eV.nd U Oi) (bh (aI (i:=10) eV.nd U Oi) d5)))
  (ag (aq (i:=13) eV.nd U Oi (i5 (ax gb (pq 12) (aL bn U T.ad Qg (a8 (pq 9) ac)) (ay _)) (ai aA (pq 9) (pq 12) Oy) (ao gF (aL bn U T.ad Qg (a8 (pq 1) ac)) aa)))
  (aj (bu (bL qq qE qF cE (ai aA (pq 3) (pq 10) Oy) (a8 (bc (a8 (pq 13) (a8 aQ (a8 (pq 6) ac)))) ac)))))))))))
  (aj (az (pq 3))))))),?_⟩
 walk_at "q";have big:(4000000:Nat)<sizeLine:=Yk;have wl:=d'.len;exists _,U,lc,U,⟨_,SqL.of e'⟩;refine iq (xs:=ws) (λi ys D H2=>(∃v,D=[v])/\a9 H H2/\∃as,ys=as.map V.ref/\RWM H2 as (W.take i)/\∀p∈as,H p=none) ⟨⟨none,U⟩,a9.refl _,[],U,⟨List.nodup_nil,U,λi p es h=>by simp at h⟩,λp G=>nomatch G⟩ ?_ (by omega) ?_ ?_ ?_
 .rintro i ys D H2 _ ⟨_,_,as,rfl,rm,_⟩;rw[qc,rm.len,qS];omega
 .rintro i ys D H2 ⟨_,s2,_⟩;exact SqL.of (s2 _ _ e')
 .rintro i x ys D H2 r ⟨⟨v,rfl⟩,s2,as,rfl,rm,fr⟩;obtain⟨p,M,es,rfl,h1,h2,h3⟩:=d'.at i x r;refine⟨_,U,p,M,U,.inl (SqL.of (s2 _ _ h1)),λq hq=>?_⟩;refine⟨⟨_,U⟩,s2.trans (a9.new hq _),as++[q],by simp,?_,λp' g7=>?_⟩
  .rw[qA,h3];exact rm.push hq (h2.same s2)
  .rcases qr.mp g7 with m|m
   .exact fr p' m
   .rw[Q0.mp m];exact s2.free hq
 rintro ys _ H2 ⟨_,s2,as,rfl,rm,fr⟩ X0 f5;rw[wl,qP]at rm;have s3:a9 H2 (upd H2 X0 (.lst (as.map V.ref))):=a9.new f5 _;have f3:(upd H2 X0 (.lst (as.map V.ref))) X0=some (.lst (as.map V.ref)):=ah
 have g4:X0∉as:=λm=>by
  obtain⟨u,e⟩:=rm.there m;rw[f5]at e;cases e
 have c7:=rm.same s3;have a7:=s2.trans s3;generalize upd H2 X0 (.lst (as.map V.ref))=H3 at s3 f3 c7 a7 ⊢;refine⟨_,U,l,us,rs,3,Row.into,U,a7 _ _ hl,c3.same a7,b6,.inl ⟨U,U⟩,λ_ dp b0 s4 f4 g9 h4=>?_⟩;refine⟨_,U,l,us,rs,4,Row.outof,U,s4 _ _ (a7 _ _ hl),(c3.same a7).same s4,b6,.inr ⟨U,U⟩,λH5 dg b3 s5 e5 f8 g6=>?_⟩;have b':=s4.trans s5;have e0:=c7.same b';have g8:=sm;have SH:a9 H (cT as H5):=yW (a7.trans b') fr;have d0:cT as H5 X0=some (.lst (as.map V.ref)):=iV (b' _ _ f3) g4
 have e7:∀(p:Addr)(kvs:LN),H5 p=some (.dK kvs)->p∉as:=λp kvs G m=>by
  obtain⟨u,e⟩:=e0.there m;rw[G]at e;cases e
 have d3:cT as H5 dp=some (.dK b0):=iV (s5 _ _ f4) (e7 _ _ (s5 _ _ f4));have c8:cT as H5 dg=some (.dK b3):=iV e5 (e7 _ _ e5)
 have e6:∀p,H3 p=none->p∉as:=λp G m=>by
  obtain⟨u,e⟩:=c7.there m;rw[G]at e;cases e
 have f0:RN (cT as H5) b0 (ap Row.into rs):=(g9.same s5).cut λq p h=>e6 p (h4 q p h);have e4:RN (cT as H5) b3 (ap Row.outof rs):=f8.cut λq p h=>e6 p (s4.free (g6 q p h));have off:∀p∈as,cT as H5 p=none:=λp m=>yX m;have d8:a9 (cT as H5) H5:=yV as H5;generalize cT as H5=Hb at SH d0 d3 c8 f0 e4 off d8;exists _,U,ls,U,⟨_,SqL.of (d8 _ _ (SH _ _ e9))⟩;refine dk (K:=K) (a:=ls) (xs:=sv) (λj D H6=>∃v6 v7 v8 v9 L a5 J N,D=[some (.ref lc),some (.ref l),some (.ref ls),some (.ref X0),some (.ref dp),some (.ref dg),v6,v7,v8,v9,L,a5,J,N]/\a9 Hb H6/\RWM H6 as (cD rs ss W j)/\Sm (cD rs ss W j) (8000+2000 * j)) ⟨_,_,_,_,_,_,_,_,U,d8,e0,g8⟩ ?_ ?_ ?_
 .rintro j D H6 _ ⟨_,_,_,_,_,_,_,_,_,X,_⟩;exact SqL.of (X _ _ (SH _ _ e9))
 .rintro j x D H6 r ⟨v6,v7,v8,v9,L,a5,J,N,rfl,X,b4,c1⟩;obtain⟨ps,q,n,rfl,hs,h0⟩:=e8.at j x r;have n0:0<=n:=f7 _ (qI hs);have jl:=(qp.mp hs).1;exists ps,_,U,SqT.of (X _ _ (SH _ _ h0)),U,_,_,U,_,_,U,U;refine⟨_,U,dp,U,.inl ⟨b0,.inl (X _ _ d3)⟩,_,U,qC _,λl1 f1=>?_⟩;obtain⟨H7,eN,t7,g1⟩:=cU f1 (.lst []);rw[eN];exists _,bT.k (k:=.inr q) (t7 _ _ (X _ _ d3))
  have d9:∀(x:Addr),H6 x=none->x∉as:=λx r m=>by
   obtain⟨u,e⟩:=b4.there m;rw[r]at e;cases e
  have c6:∀(x:Addr)(o:HO),Hb x=some o->x∉as:=λx o r m=>by
   rw[off x m]at r;cases r
  obtain⟨pp,e1,h1,n1⟩:∃pp,(aH b0 (.inr q)).getD (.ref l1)=.ref pp/\H7 pp=some (.lst ((ap Row.into rs q).map V.int))/\pp∉as:=by
   rcases f0.at_ q with⟨b,c⟩|⟨p,b,c⟩
   .rw[b,c];exact⟨l1,U,g1,d9 _ f1⟩
   .rw[b];exact⟨p,U,t7 _ _ (X _ _ c),c6 _ _ c⟩
  rw[e1];refine⟨_,U,dg,U,.inl ⟨b3,.inl (t7 _ _ (X _ _ c8))⟩,_,U,qC _,λl2 f2=>?_⟩;obtain⟨H8,eN,t8,g2⟩:=cU f2 (.lst []);rw[eN];exists _,bT.k (k:=.inr q) (t8 _ _ (t7 _ _ (X _ _ c8)))
  obtain⟨gg,e2,h2,n2⟩:∃gg,(aH b3 (.inr q)).getD (.ref l2)=.ref gg/\H8 gg=some (.lst ((ap Row.outof rs q).map V.int))/\gg∉as:=by
   rcases e4.at_ q with⟨b,c⟩|⟨p,b,c⟩
   .rw[b,c];exact⟨l2,U,g2,d9 _ (t7.free f2)⟩
   .rw[b];exact⟨p,U,t8 _ _ (t7 _ _ (X _ _ c)),c6 _ _ c⟩
  rw[e2];have s8:=(X.trans t7).trans t8;have e3:=b4.same (t7.trans t8);have g3:ss.getD j ("",0)=(q,n):=by rw[qu,hs];rfl
  have fin:∀W',W'=j0 rs (q,n) (cD rs ss W j)->W'=cD rs ss W (j+1):=λW' e=>by rw[e,cD,g3]
  have ml:∀(f:Row->Option Str),(ap f rs q).length<=1000:=λf=>qH (xS f rs q) b6;have mi:=ml Row.into;have mo:=ml Row.outof
  have b8:∀(k:Nat)(x:Int),(ap Row.into rs q)[k]?=some x->0<=x/\x.toNat<as.length:=λk x r=>by
   obtain⟨a1,a2,_⟩:=m8 r;exact⟨a1,by rwa[rm.len,d7]⟩
  have c5:∀(k:Nat)(x:Int),(ap Row.outof rs q)[k]?=some x->0<=x/\x.toNat<as.length:=λk x r=>by
   obtain⟨a1,a2,_⟩:=m8 r;exact⟨a1,by rwa[rm.len,d7]⟩
  unfold j0 at fin;generalize cD rs ss W j=Wj at e3 c1 fin;generalize ap Row.into rs q=ips at h1 fin mi b8;generalize ap Row.outof rs q=igs at h2 fin mo c5;have sC:=yV as H8;have SC:a9 Hb (cT as H8):=yW s8 off;have c2:cT as H8 pp=some (.lst (ips.map V.int)):=iV (t8 _ _ h1) n1;have d4:cT as H8 gg=some (.lst (igs.map V.int)):=iV h2 n2;have c0:∀p∈as,cT as H8 p=none:=λp m=>yX m;generalize cT as H8=Hc at sC SC c2 d4 c0
  have step:∀(O:Hp)(Wk:List (List Wat))(B:Nat)(g:Int),a9 Hc O->RWM O as Wk->Sm Wk B->B<=300000->0<=g->g.toNat<as.length->∃p us,atI (as.map V.ref) g=some (.ref p)/\p∈as/\O p=some (.lst us)/\us.length<sizeLine/\∀(t:Addr)(e:Wat)(C:Hp),a9 O C->C t=some (eF e)->RWM (upd C p (.lst (us++[.ref t]))) as (gx Wk g.toNat e)/\a9 Hc (upd C p (.lst (us++[.ref t]))):=by
   intro O Wk B g s9 R a0 _ g0 gl;have G:as[g.toNat]?=some as[g.toNat]:=qi gl;have gw:g.toNat<Wk.length:=by rwa[<- R.len]
   have hw:Wk[g.toNat]?=some Wk[g.toNat]:=qi gw;obtain⟨M,c,d⟩:=R.at_ _ _ _ G hw;have ll:=a0 _ _ hw;refine⟨as[g.toNat],M,GV g0 (by rw[qM,G];rfl),List.getElem_mem gl,c,by rw[d.len];omega,λt e C I ht=>⟨(R.same I).add G (I _ _ c) ht,a9.over (s9.trans I) (c0 _ (List.getElem_mem gl))⟩⟩
  have c':Hc X0=some (.lst (as.map V.ref)):=SC _ _ d0;exists _,U,_,U,false,false,pp,gg,_,_,U,SqL.of (t8 _ _ h1),SqL.of h2;refine FN (K:=K) (b1:=false) (b2:=false) (l1:=pp) (l2:=gg) (xs:=ips.map V.int) (ys:=igs.map V.int) (λk D O=>∃L a5 J N,D=[some (.ref lc),some (.ref l),some (.ref ls),some (.ref X0),some (.ref dp),some (.ref dg),some (.str q),some (.int n),some (.ref pp),some (.ref gg),L,a5,J,N]/\a9 Hc O/\RWM O as (eS q ips igs Wj k)/\Sm (eS q ips igs Wj k) (8000+2000 * j+k)/\k<=1000) ⟨_,_,_,_,U,sC,e3,c1,qC _⟩ ?_ ?_ ?_
  .rintro k D O ⟨_,_,_,_,_,s9,_⟩;exact⟨SqL.of (s9 _ _ c2),SqL.of (s9 _ _ d4)⟩
  .rintro k x y D O pt r hy ⟨L,a5,J,N,rfl,s9,R,a0,kb⟩ c9;rw[qM]at r hy
   cases ex:ips[k]? with
   |none=>rw[ex]at r;cases r
   |some pv=>
   cases ey:igs[k]? with
   |none=>rw[ey]at hy;cases hy
   |some gv=>
   rw[ex]at r;rw[ey]at hy;obtain rfl:V.int pv=x:=qR r;obtain rfl:V.int gv=y:=qR hy;obtain⟨g0,gl⟩:=c5 k gv ey;have kl:=(qp.mp ex).1;obtain⟨p,M,ea,_,G,ul,add⟩:=step O _ _ gv s9 R a0 Yo g0 gl;obtain⟨C,eN,S,b5⟩:=cU c9 (.tup [.int pv,.int gv]);rw[eN];exists pt,_,U,SqT.of b5,U,_,_,U,_,_,U,U;exists _,U,_,U,X0,_,_,_,U,U,SqL.of (S _ _ (s9 _ _ c')),ea;refine⟨.inl ⟨U,_,SqL.of (S _ _ G)⟩,_,U,_,U,ln3,λt ft=>?_⟩;exists p,M,_,U,U,a9.new ft _ _ _ (S _ _ G),ul;obtain⟨r1,r2⟩:=add t (pv,"thing",q) _ (S.trans (a9.new ft _)) ah;have et:eS q ips igs Wj (k+1)=gx (eS q ips igs Wj k) gv.toNat (pv,"thing",q):=by rw[eS,qu,ey,qu,ex];rfl
   refine⟨_,_,_,_,U,r2,by rwa[et],by rw[et];exact a0.add,Yo⟩
  .rintro D O ⟨L,a5,J,N,rfl,s9,R,a0,kb⟩;rw[qc,qc]at R a0;generalize eS q ips igs Wj (min ips.length igs.length)=W9 at R a0 fin;exists _,U,_,U;refine⟨n,U,pp,_,U,SqL.of (s9 _ _ c2),λlx fx=>?_⟩;rw[Gr ips n0]
   have g5:lx∉as:=λm=>by
    obtain⟨u,e⟩:=R.there m;rw[fx]at e;cases e
   have tx:a9 O (upd O lx (.lst ((ips.drop n.toNat).map V.int))):=a9.new fx _;have b7:(upd O lx (.lst ((ips.drop n.toNat).map V.int))) lx=some (.lst ((ips.drop n.toNat).map V.int)):=ah;have c4:∀(k:Nat)(x:Int),(ips.drop n.toNat)[k]?=some x->0<=x/\x.toNat<as.length:=λk x r=>b8 _ x (by rw[List.getElem?_drop]at r;exact r);have mc:(ips.drop n.toNat).length<=1000:=by rw[Q8];omega
   generalize ips.drop n.toNat=ics at tx b7 c4 mc fin ⊢;have f6:=R.same tx;have sx:=s9.trans tx;generalize upd O lx (.lst (ics.map V.int))=Hx at tx b7 f6 sx ⊢;exists lx,_,U,SqL.of b7;refine kA (K:=K) (l:=lx) (xs:=ics.map V.int) (λk D C=>∃L J N,D=[some (.ref lc),some (.ref l),some (.ref ls),some (.ref X0),some (.ref dp),some (.ref dg),some (.str q),some (.int n),some (.ref pp),some (.ref gg),L,a5,J,N]/\a9 Hc C/\C lx=some (.lst (ics.map V.int))/\RWM C as (eI q rs.length ics igs W9 k)/\Sm (eI q rs.length ics igs W9 k) (8000+2000 * j+1000+k)/\k<=1000) ⟨_,_,_,U,sx,b7,f6,a0.mono Yo,qC _⟩ ?_ ?_ ?_
   .rintro k D C ⟨_,_,_,_,_,f',_⟩;exact SqL.of f'
   .rintro k x D C pt r ⟨L,J,N,rfl,I,d2,a6,Z,kb⟩ c9;rw[qM]at r
    cases ex:ics[k]? with
    |none=>rw[ex]at r;cases r
    |some pv=>
    rw[ex]at r;obtain rfl:V.int pv=x:=qR r;obtain⟨g0,gl⟩:=c4 k pv ex;have kl:=(qp.mp ex).1;obtain⟨p,M,ea,pa,G,ul,add⟩:=step C _ _ pv I a6 Z Yo g0 gl;obtain⟨a',eN,S,b5⟩:=cU c9 (.tup [.int k,.int pv]);rw[eN];exists pt,_,U,SqT.of b5,U,_,_,U,_,_,U,U;have gk:a' gg=some (.lst (igs.map V.int)):=S _ _ (I _ _ d4);have lk:a' l=some (.lst us):=S _ _ (I _ _ (SC _ _ (SH _ _ hl)));have er:∀aw:Int,aw=awaited rs.length igs k->eI q rs.length ics igs W9 (k+1)=gx (eI q rs.length ics igs W9 k) pv.toNat (aw,"room",q):=λaw e=>by rw[eI,qu,ex,e];rfl
    have g':=c3.len
    have d1:∀(aw:Int)(t:Addr),a' t=none->aw=awaited rs.length igs k->a9 Hc (upd (upd a' t (eF (aw,"room",q))) p (.lst (M++[.ref t])))/\(upd (upd a' t (eF (aw,"room",q))) p (.lst (M++[.ref t]))) lx=some (.lst (ics.map V.int))/\RWM (upd (upd a' t (eF (aw,"room",q))) p (.lst (M++[.ref t]))) as (eI q rs.length ics igs W9 (k+1))/\Sm (eI q rs.length ics igs W9 (k+1)) (8000+2000 * j+1000+(k+1)):=λaw t ft e=>by
     obtain⟨r1,r2⟩:=add t (aw,"room",q) _ (S.trans (a9.new ft _)) ah;refine⟨r2,?_,by rwa[er aw e],by rw[er aw e];exact Z.add⟩;have f9:lx≠p:=λy=>g5 (by rwa[y]);rw[af f9];exact a9.new ft _ _ _ (S _ _ d2)
    exists _,U,_,U,gg,_,U,.inl (SqL.of gk),_,_,U,U,_,U;rw[qc];by_cases z:k<igs.length
    .refine aU (Qb Yo) ?_;exists _,U,_,U,gg,_,k,.int igs[k],U,U,SqL.of gk,aO (by rw[qM,qi z];rfl);refine⟨_,U,_,U,X0,_,_,_,U,U,SqL.of (S _ _ (I _ _ c')),ea,.inl ⟨U,_,SqL.of (S _ _ G)⟩,_,U,_,U,ln3,λt ft=>?_⟩;exists p,M,_,U,U,a9.new ft _ _ _ (S _ _ G),ul;obtain⟨a1,a2,a3,a4⟩:=d1 igs[k] t ft (by unfold awaited;rw[Qa z,qu,qi z];rfl);exact⟨_,_,_,U,a1,a2,a3,a4,Yo⟩
    .refine ar (Qc Yo) ?_;exists _,U,l,_,U,.inl (SqL.of lk),_,_,U,U;refine⟨_,U,_,U,X0,_,_,_,U,U,SqL.of (S _ _ (I _ _ c')),ea,.inl ⟨U,_,SqL.of (S _ _ G)⟩,_,U,_,U,ln3,λt ft=>?_⟩;exists p,M,_,U,U,a9.new ft _ _ _ (S _ _ G),ul;obtain⟨a1,a2,a3,a4⟩:=d1 ((us.length:Int)-1) t ft (by unfold awaited;rw[Q9 z,g']);exact⟨_,_,_,U,a1,a2,a3,a4,Yo⟩
   .rintro D C ⟨L,J,N,rfl,I,d2,a6,Z,kb⟩;rw[qc]at a6 Z;have fe:=fin _ U;rw[fe]at a6 Z;exact⟨_,_,_,_,_,_,_,_,U,SC.trans I,a6,Z.mono Yo⟩
 .rintro D H6 ⟨v6,v7,v8,v9,L,a5,J,N,rfl,X,b4,c1⟩;rw[e8.len]at b4;exact⟨_,U,k _ _ _ (SH.trans X) (X _ _ d0) b4.rwl⟩
theorem DB:Ω T base 3 a.Ix a.Iy ["deeds","stores"] uW:=by
 refine T.Kf.F.ok Bx ?_;rintro _ A _ s H _ Q E hr⟨l,u,us,q,rs,ss,rfl,hl,e,d,b,j,m,g,f,k⟩;exists _,(aj (az (aC (xC T) (hr.mono Yk) T.Ig (a8 (aC (xA T) (hr.mono Yk) T.Ih (a8 (pq 0) ac)) (a8 (pq 0) (a8 (pq 1) ac))))));walk_at "q";refine⟨_,U,l,us,rs,U,hl,e,d,b,λ_ o r c _ hw i=>?_⟩;refine⟨_,U,_,U,o,l,u,r,us,q,_,rs,ss,U,hw,i,j1 rs _ (qo _),mZ b _,c _ _ hl,e.same c,d,c _ _ j,m.same c,g,f,λ_ l2 _ t n p=>?_⟩;exact k _ _ _ (c.trans t) n p
theorem G7{ss:LF}{ln:Str->Int}(h:rs[i]?=some r)(one:e8 r)(nd:(ss.map (·.1)).Nodup)(pos:∀s∈ss,0<=s.2)(d:∀s∈ss,ln s.1=s.2)(e:∀q,r.into=some q->∃n,(q,n)∈ss)(g:∀q,r.outof=some q->∃n,(q,n)∈ss)(fed:∀q,r.outof=some q->(ap Row.outof (rs.take i) q).length<(ap Row.into rs q).length):
 (cD rs ss (bH rs rs.length) ss.length)[i]?=some (bX rs ln i r):=by
 rw[mX h _ fed _ (qo _),qP,u7 h _ (qp.mp h).1 (qo _)];show some (_++_)=_
 congr 1
 unfold bX;rw[qV]
 congr 1
 cases eo:r.outof with
 |none=>
  have f:dy rs i r=[]:=by unfold dy;rw[eo]
  rw[f,Qt]
  cases a:r.into with
  |none=>
   have b:cX rs ln i r=[]:=by unfold cX;rw[a]
   rw[b,List.flatMap_eq_nil_iff];intro s _;unfold gX hE;rw[eo,a];simp
  |some q=>
   obtain⟨n,m⟩:=e q a
   rw[tq nd m λs _ hs=>by
    unfold gX hE;rw[eo,a]
    simp[Ne.symm hs]]
   have n0:=pos _ m;have el:=d _ m;unfold gX hE cX gu;rw[eo,a];show([]:List Wat)++(if some q=some q/\n.toNat<=(ap Row.into (rs.take i) q).length then _ else _)=(if 0<=((ap Row.into (rs.take i) q).length:Int)-ln q then _ else _);have c:ln q=n:=el;rw[Qt,c];by_cases z:n.toNat<=(ap Row.into (rs.take i) q).length
   .rw[Qa ⟨U,z⟩,Qa Yo,show(((ap Row.into (rs.take i) q).length:Int)-n).toNat=(ap Row.into (rs.take i) q).length-n.toNat by omega]
   .rw[Q9 (λy=>z y.2),Q9 Yo]
 |some q=>
  have a:r.into=none:=by
   rcases one with h|h
   .exact h
   .rw[eo]at h;cases h
  have b:cX rs ln i r=[]:=by unfold cX;rw[a]
  rw[b,qG];obtain⟨n,m⟩:=g q eo
  rw[tq nd m λs _ hs=>by
   unfold gX hE;rw[eo,a]
   simp[Ne.symm hs]]
  unfold gX hE dy;rw[eo,a];simp
theorem si:Ω T base 1 a.Jp a.Jq ["_law_found"] vA:=by
 refine T.HG.F.ok BG ?_;rintro _ A _ s H _ Q E _⟨i,rfl,k⟩;exists _,(aj (az (i6 (aL dS U T.ld PyProof.Rows.Boot.«isinstance» (a8 (pq 0) (a8 (dW (v:=.ty "int") U T.La PyProof.Rows.Boot.«int» rfl) ac))) (jx (D4 (aL dS U T.ld PyProof.Rows.Boot.«isinstance» (a8 (pq 0) (a8 (dW (v:=.ty "bool") U T.L9 PyProof.Rows.Boot.«bool» rfl) ac))))))));walk_at "q";refine⟨_,U,_,_,_,true,U,.int i,U,_,U,aU U ?_⟩;exact⟨_,U,_,_,_,false,U,.int i,U,_,U,k⟩
theorem kr{a:Addr}{o:HO}(h:upd H a o b=none):H b=none:=by
 by_cases z:b=a
 .rw[z,ah]at h;cases h
 .rw[af z]at h;exact h
theorem o1{d c:TS}(b:St->Hp->Prop)(hb:∀a H',b a H'->c D a H')(ha:∀N:St->Hp->Prop,(∀a H',b a H'->N a H')->d { D with nx:=N } Y H):uB d c D Y H:=ha _ hb
theorem tL(rs:List Row)(r:Row)(c:Str):cnO (rs++[r]) c=cnO rs c+r.owns.count c:=by
 unfold cnO;rw[Q4,List.count_append,List.flatMap_singleton]
theorem RCs.keep{H H':Hp}{rs:List Row}(e:∀c xs,H c=some (.tup xs)->H' c=some (.tup xs)):∀{vs:LV}{a:LS},RCs H rs vs a->RCs H' rs vs a
 |_,_,.nil=>.nil
 |_,_,.cons h r=>.cons (e _ _ h) (RCs.keep e r)
theorem RCs.snoc{H:Hp}{rs:List Row}{p:Addr}{c:Str}(h:H p=some (.tup [.str c,.int (cnO rs c)])):∀{vs:LV}{a:LS},RCs H rs vs a->RCs H rs (vs++[.ref p]) (a++[c])
 |_,_,.nil=>.cons h .nil
 |_,_,.cons h' r=>.cons h' (RCs.snoc h r)
theorem RCs.len{H:Hp}{rs:List Row}:∀{vs:LV}{a:LS},RCs H rs vs a->vs.length=a.length
 |_,_,.nil=>rfl
 |_,_,.cons _ r=>congrArg (·+1) (RCs.len r)
theorem RCs.at{H:Hp}{rs:List Row}:∀{vs:LV}{b:LS},RCs H rs vs b->∀(i:Nat)(v:V),vs[i]?=some v->∃p c,v=.ref p/\H p=some (.tup [.str c,.int (cnO rs c)])
 |_,_,.nil,i,v,h=>by simp at h
 |_,_,.cons (p:=p) (c:=c) a _,0,v,h=>⟨p,c,by simp at h;exact h.symm,a⟩
 |_,_,.cons _ r,i+1,v,h=>RCs.at r i v (by simpa using h)
def RAx(x:Addr)(H:Hp)(rs:List Row)(i:Nat)(r:Row)(v:V):Prop:=∃p l1 l2 F J,l1≠x/\l2≠x/\v=.ref p/\H p=some (.tup [.ref l1,.ref l2])/\H l1=some (.lst F)/\H l2=some (.lst J)/\RCs H (rs.take i) F r.owns/\RCs H (rs.take i) J r.reads
theorem RAx.keep{x:Addr}{H H':Hp}{rs:List Row}{i:Nat}{r:Row}{v:V}(h:RAx x H rs i r v)(a:∀c xs,H c=some (.tup xs)->H' c=some (.tup xs))(b:∀c xs,c≠x->H c=some (.lst xs)->H' c=some (.lst xs)):RAx x H' rs i r v:=by
 obtain⟨p,l1,l2,l,e,n1,n2,g,d,j,m,k,f⟩:=h;exact⟨p,l1,l2,l,e,n1,n2,g,a _ _ d,b _ _ n1 j,b _ _ n2 m,k.keep a,f.keep a⟩
theorem E6:Ω T base 2 a.JL a.JM ["_law_deeds"] vX:=by
 refine T.KA.F.ok ji ?_;rintro _ A _ s H _ Q E hr⟨l,us,rs,rfl,hl,b4,_,b1,k⟩
 refine⟨_,(ag (aq (i:=1) ji.nd U (Or.inr U) fu)
  (ag (aq (i:=2) ji.nd U Oi (ba ac))
  (ag (bD PassesOwn.never U (ce (pq 0)) (aI (i:=3) ji.nd U Oi)
  (ag (ju (i:=4) ji.nd U Oi (k:=1) (Nc:=["_law_card","_law_many"]) (js:=[1]) (show bg (aD k7) ["_law_deeds","_law_many","_law_rows","_law_row","_law_owned_here","_law_card"] _ 1 ["_law_card","_law_many"] [1]from bg.mk U (by decide +kernel) (by decide +kernel) (by decide +kernel) U (by decide +kernel)) U (iJ (ai au (pq 3) aa Oy)) (λ_ _ _ _ _=>(aI (i:=0) (show List.Nodup (["_law_card","_law_many"]:LS)from by decide +kernel) U Oi)) (λ_ _ _ _ _=>gh) (λ_ _ _ _ _=>(bc (a8 (pq 0) (a8 (dN hr.one (pq 1) (pq 0) aa ⟨U,U,U,U⟩) ac)))))
  (ag (bu (bL qq qE qF cE (pq 2) (a8 (bc (a8 (pq 4) (a8 (fQ (k:=1) (Nc:=["_law_card","_law_many"]) (js:=[1]) (show bg (aD k7) ["_law_deeds","_law_many","_law_rows","_law_row","_law_owned_here","_law_card"] _ 1 ["_law_card","_law_many"] [1]from bg.mk U (by decide +kernel) (by decide +kernel) (by decide +kernel) U (by decide +kernel)) U (iJ (ai au (pq 3) aa Oy)) (λ_ _ _ _ _=>(aI (i:=0) (show List.Nodup (["_law_card","_law_many"]:LS)from by decide +kernel) U Oi)) (λ_ _ _ _ _=>gh) (λ_ _ _ _ _=>(bc (a8 (pq 0) (a8 (dN hr.one (pq 1) (pq 0) aa ⟨U,U,U,U⟩) ac))))) ac))) ac)))
  (aj (bD PassesOwn.never U (iJ (ai au (pq 3) aa Oy)) (aI (i:=5) ji.nd U Oi)
  (aj (eY (hr.one) (pq 1) (pq 5) (ao bC (dN hr.one (pq 1) (pq 5) aa ⟨U,U,U,U⟩) aa) U)))))))
  (aj (az (pq 2)))))),?_⟩
 walk_at "q";have big:(5000000:Nat)<sizeLine:=Yk;have ul:=b4.len;refine λd hd=>⟨qC _,λb O=>?_⟩;have b2:b≠d:=λz=>by rw[z,ah]at O;cases O
 have b9:H b=none:=kr O;have s1:=(a9.new hd (.dK [])).trans (a9.new O (.lst []));exists _,U,l,U,⟨_,SqL.of (s1 _ _ hl)⟩;refine dk (K:=K) (a:=l) (xs:=us) (λi f G=>∃v3 v4 v5 kvs as,f=[some (.ref l),some (.ref d),some (.ref b),v3,v4,v5]/\a9 H G/\G d=some (.dK kvs)/\ud kvs (rs.take i)/\kvs.length<=4000 * i/\G b=some (.lst as)/\as.length=i/\∀j r,j<i->rs[j]?=some r->∃v,as[j]?=some v/\RAx b G rs j r v) ⟨_,_,_,[],[],U,s1,a9.new O _ _ _ ah,λc=>U,qo _,ah,U,λj r hj=>Qd hj (QG _)⟩ ?_ ?_ ?_
 .rintro i f G _ ⟨_,_,_,_,_,_,J,_⟩;exact SqL.of (J _ _ hl)
 .rintro i x f G B ⟨v3,v4,v5,kvs,as,rfl,J,a1,a3,b',q,a0,a5⟩;obtain⟨r,Z,px,po,pr,rfl,h1,h2,h3⟩:=b4.at i x B;have il:=(qp.mp Z).1;obtain⟨c1,c0⟩:=b1 r (qI Z);exists _,U,px,_,_,_,U,U,SqT.of (J _ _ h1),U,po,U,⟨_,SqT.of (J _ _ h2)⟩;refine yY (K:=K) (a:=po) (xs:=r.owns.map V.str) (λj ys f M=>(∃v,f=[v,some (.ref d)])/\a9 G M/\RCs M (rs.take i) ys (r.owns.take j)) ⟨⟨_,U⟩,a9.refl _,.nil⟩ ?_ (bf (m:=4000) (by rwa[qc])) ?_ ?_ ?_
  .rintro j ys f M _ ⟨_,_,h⟩;rw[h.len,qS];exact Nat.min_le_left _ _
  .rintro j ys f M ⟨_,N,_⟩;exact SqT.of (N _ _ (J _ _ h2))
  .rintro j x ys f M B ⟨⟨v,rfl⟩,N,rc⟩;rw[qM]at B;obtain⟨c,hc,rfl⟩:=qX.mp B;exists _,U,_,U,d,U,.inl ⟨kvs,.inl (N _ _ a1)⟩,_,U,_,bT.k (k:=.inr c) (N _ _ a1);rw[a3 c];refine⟨ln2,λp I=>⟨⟨_,U⟩,N.trans (a9.new I _),?_⟩⟩;rw[qA,hc];exact(rc.keep λc xs h=>a9.new I _ _ _ h).snoc ah
  rintro ys f M ⟨_,N,rc⟩ l1 a6;rw[qc,qP]at rc;have q1:=a9.new a6 (.lst ys);have W:=N.trans q1;have b6:=rc.keep λc xs h=>q1 _ _ h;have b0:upd M l1 (.lst ys) l1=some (.lst ys):=ah;have n1:l1≠b:=λz=>by rw[z,N _ _ q]at a6;cases a6
  generalize upd M l1 (.lst ys)=G3 at W b6 b0 ⊢;have a4:=J.trans W;exists _,U,.inl ⟨U,_,SqL.of (W _ _ q)⟩,_,U,_,U,px,_,_,_,U,U,SqT.of (a4 _ _ h1),U,pr,U,⟨_,SqT.of (a4 _ _ h3)⟩;refine yY (K:=K) (a:=pr) (xs:=r.reads.map V.str) (λj ys f u=>(∃v,f=[v,some (.ref d)])/\a9 G3 u/\RCs u (rs.take i) ys (r.reads.take j)) ⟨⟨_,U⟩,a9.refl _,.nil⟩ ?_ (bf (m:=4000) (by rwa[qc])) ?_ ?_ ?_
  .rintro j ys f u _ ⟨_,_,h⟩;rw[h.len,qS];exact Nat.min_le_left _ _
  .rintro j ys f u ⟨_,C,_⟩;exact SqT.of (C _ _ (a4 _ _ h3))
  .rintro j x ys f u B ⟨⟨v,rfl⟩,C,rc⟩;rw[qM]at B;obtain⟨c,hc,rfl⟩:=qX.mp B;have b5:=C _ _ (W _ _ a1);exists _,U,_,U,d,U,.inl ⟨kvs,.inl b5⟩,_,U,_,bT.k (k:=.inr c) b5;rw[a3 c];refine⟨ln2,λp I=>⟨⟨_,U⟩,C.trans (a9.new I _),?_⟩⟩;rw[qA,hc];exact(rc.keep λc xs h=>a9.new I _ _ _ h).snoc ah
  rintro t f u ⟨_,C,b7⟩ l2 a7;rw[qc,qP]at b7;have q2:=a9.new a7 (.lst t);have n2:l2≠b:=λz=>by rw[z,C _ _ (W _ _ q)]at a7;cases a7
  refine⟨ln2,λp I=>?_⟩;have q3:=a9.new I (.tup [.ref l1,.ref l2]);have s6:=W.trans (C.trans (q2.trans q3));exists b,as,.ref p,U,U,s6 _ _ q,Yo;have e5:∀c o,c≠b->G c=some o->upd (upd (upd u l2 (.lst t)) p (.tup [.ref l1,.ref l2])) b (.lst (as++[.ref p])) c=some o:=λc o n h=>by rw[af n];exact s6 _ _ h
  have c2:p≠b:=λz=>by rw[z,(q2 _ _ (C _ _ (W _ _ q)))]at I;cases I
  have a2:RAx b (upd (upd (upd u l2 (.lst t)) p (.tup [.ref l1,.ref l2])) b (.lst (as++[.ref p]))) rs i r (.ref p):=by
   have kt:∀c xs,(upd (upd u l2 (.lst t)) p (.tup [.ref l1,.ref l2])) c=some (.tup xs)->upd (upd (upd u l2 (.lst t)) p (.tup [.ref l1,.ref l2])) b (.lst (as++[.ref p])) c=some (.tup xs):=λc xs h=>by
    rw[af (λz=>by rw[z,s6 _ _ q]at h;cases h)];exact h
   exact⟨p,l1,l2,ys,t,n1,n2,U,kt _ _ ah,by rw[af n1];exact(C.trans (q2.trans q3)) _ _ b0,by rw[af n2];exact q3 _ _ ah,b6.keep λc xs h=>kt c xs ((C.trans (q2.trans q3)) _ _ h),b7.keep λc xs h=>kt c xs ((q2.trans q3) _ _ h)⟩
  have b3:upd (upd (upd u l2 (.lst t)) p (.tup [.ref l1,.ref l2])) b (.lst (as++[.ref p])) b=some (.lst (as++[.ref p])):=ah;generalize upd (upd (upd u l2 (.lst t)) p (.tup [.ref l1,.ref l2])) b (.lst (as++[.ref p]))=G5 at e5 a2 b3 ⊢;have a':=e5 _ _ b2.symm a1;have X0:a9 H G5:=λc o h=>e5 c o (λz=>by rw[z,b9]at h;cases h) (J c o h);have tk:rs.take (i+1)=rs.take i++[r]:=by rw[qA,Z];rfl
  exists _,U,px,_,_,_,U,U,SqT.of (X0 _ _ h1),U,po,U,⟨_,SqT.of (X0 _ _ h2)⟩;refine tm (K:=K) (a:=po) (xs:=r.owns.map V.str) (λj f S=>∃v5 g,f=[some (.ref l),some (.ref d),some (.ref b),some (.ref px),some (.ref l1),v5]/\(∀c,c≠d->S c=G5 c)/\S d=some (.dK g)/\g.length<=4000 * i+j/\∀c:Str,(aH g (.inr c)).getD (.int 0)=.int ((cnO (rs.take i) c+(r.owns.take j).count c:Nat):Int)) ⟨_,kvs,U,λ_ _=>U,a',b',λc=>a3 c⟩ ?_ ?_ ?_
  .rintro j f S _ ⟨v,g,_,R,_⟩;have pd:po≠d:=λz=>by rw[z,hd]at h2;cases h2
   exact SqT.of ((R po pd).trans (X0 _ _ h2))
  .rintro j x f S B ⟨v,g,rfl,R,L,b8,D⟩;rw[qM]at B;obtain⟨c,hc,rfl⟩:=qX.mp B;have jl:j<r.owns.length:=(qp.mp hc).1;exists _,U,d,U,.inl ⟨g,.inl L⟩,_,U,_,bT.k (k:=.inr c) L,_,_,D c,U;exists _,U,_,U,d,_,U,dR.k (k:=.inr c) L Yo;refine⟨_,_,U,λX h=>by rw[af h];exact R X h,ah,qH (dF _ _ _) Yo,λX=>?_⟩;rw[d9,qA,hc,List.count_append];by_cases e:X=c
   .subst e;simp;omega
   .have e1:¬ (Sum.inr X:Key)=Sum.inr c:=λz=>e (Sum.inr.inj z);rw[Q9 e1,D X]
    have:(some c).toList.count X=0:=by
     show[c].count X=0;rw[List.count_singleton];simp[Ne.symm e]
    rw[this]
    rfl
  .rintro f S ⟨v,g,rfl,R,L,b8,D⟩;rw[qc]at b8 D;rw[qP]at D;have kt:∀c xs,G5 c=some (.tup xs)->S c=some (.tup xs):=λc xs h=>(R c (λz=>by rw[z,a']at h;cases h)).trans h;have kl:∀c xs,c≠b->G5 c=some (.lst xs)->S c=some (.lst xs):=λc xs _ h=>(R c (λz=>by rw[z,a']at h;cases h)).trans h;refine⟨_,_,_,g,as++[.ref p],U,λc o h=>(R c (λz=>by rw[z,hd]at h;cases h)).trans (X0 c o h),L,λc=>?_,Yo,(R b b2).trans b3,by rw[qh,a0];rfl,λj r2 hj h=>?_⟩
   .rw[tk,tL];exact D c
   .rcases Nat.lt_or_eq_of_le (Nat.lt_succ_iff.mp hj)with lt|rfl
    .obtain⟨v,hv,z⟩:=a5 j r2 lt h;refine⟨v,by rwa[Qe Yo],?_⟩;have z5:=z.keep (H':=G5) (λc xs h=>e5 c _ (λy=>by rw[y,q]at h;cases h) h) (λc xs n h=>e5 c _ n h);exact z5.keep kt kl
    .rw[Z]at h;cases h;exact⟨.ref p,by rw[qT Yo,a0,Nat.sub_self];rfl,a2.keep kt kl⟩
 .rintro f G ⟨v3,v4,v5,kvs,as,rfl,J,_,_,_,q,a0,a5⟩;refine⟨_,U,k G b as J q ⟨by rw[a0,ul],λi r _ h=>?_⟩⟩;obtain⟨v,hv,p,l1,l2,u1,u2,_,_,z⟩:=a5 i r Yo h;exact⟨v,hv,p,l1,l2,u1,u2,z⟩
theorem xY(o:Option Str):nkV o=dc o:=by cases o<;>rfl
theorem A6(xs:NEs)(k:List NK)(b:Addr)(v:V)(j:List NK):br (hZ xs k b v) j=if j=k then some v else br xs j:=by
 unfold hZ;split
 .rename_i h
  have gen:∀ys:NEs,(br ys k).isSome=true->br (ys.map λx=>if x.1=k then(x.1,x.2.1,v)else x) j=if j=k then some v else br ys j:=by
   intro ys
   induction ys with
   |nil=>intro h;simp[br]at h
   |cons y r c=>
    intro h;by_cases d:y.1=k
    .by_cases a:j=k
     .subst a;simp[br,Qh,d]
     .have n1:¬ k=j:=λz=>a z.symm;rw[Q9 a]
      have rest:∀zs:NEs,br (zs.map λx=>if x.1=k then(x.1,x.2.1,v)else x) j=br zs j:=by
       intro zs
       induction zs with
       |nil=>rfl
       |cons z s f=>
        by_cases ez:z.1=k
        .simp[br,Qh,ez,n1]at f ⊢;exact f
        .by_cases e2:z.1=j
         .simp[br,Qh,ez,e2];rw[Q9 (by rwa[<- e2])];simp[e2];exact⟨_,_,U⟩
         .simp[br,Qh,ez,e2]at f ⊢;exact f
      exact rest (y::r)
    .have h':(br r k).isSome=true:=by simpa[br,Qh,d]using h
     have c:=c h';by_cases e2:y.1=j
     .have a:¬ j=k:=λz=>d (e2.trans z);rw[Q9 a];simp[br,Qh,d,e2];rw[Q9 a];simp[e2];exact⟨_,_,U⟩
     .simp[br,Qh,d,e2]at c ⊢;exact c
  exact gen xs h
 .rename_i h
  have h:br xs k=none:=by
   cases e:br xs k with
   |none=>rfl
   |some _=>rw[e]at h;simp at h
  have gen:∀ys:NEs,br ys k=none->br (ys++[(k,b,v)]) j=if j=k then some v else br ys j:=by
   intro ys
   induction ys with
   |nil=>
    intro _;by_cases a:j=k
    .subst a;simp[br]
    .have n1:¬ k=j:=λz=>a z.symm;simp[br,n1,a]
   |cons y r c=>
    intro h;have d:¬ y.1=k:=λz=>by simp[br,Qh,z]at h
    have h':br r k=none:=by simpa[br,Qh,d]using h
    have c:=c h';by_cases e2:y.1=j
    .have a:¬ j=k:=λz=>d (e2.trans z);rw[Q9 a];simp[br,Qh,e2]
    .simp only[Qu,br,Qh,e2,decide_false]at c ⊢;exact c
  exact gen xs h
theorem DY:Ω T base 2 a.JT a.JU ["_law_deeds"] vN:=by
 refine T.KC.F.ok jY ?_;rintro _ A _ s H _ Q E hr⟨l,us,rs,rfl,hl,rr,few,q⟩
 refine⟨_,(ag (aq (i:=1) jY.nd U Oi Da)
  (ag (aq (i:=2) jY.nd U Oi (ba ac))
  (ag (bD PassesOwn.never U (ce (pq 0)) (aI (i:=3) jY.nd U Oi)
  (ag (aq (i:=4) jY.nd U Oi (bc (a8 (ai au (pq 3) aa Oy) (a8 (ai au (pq 3) aa Oy) ac))))
  (ag (bu (bL qq qE qF cE (pq 2) (a8 (xh hr.one (pq 1) (pq 4) aa ⟨U,U,U,U⟩) ac)))
  (aj (CL (hr.one) (pq 1) (pq 4) (ao bC (xh hr.one (pq 1) (pq 4) aa ⟨U,U,U,U⟩) aa) U)))))
  (aj (az (pq 2)))))),?_⟩
 walk_at "q";refine λd hd=>⟨qC _,λn0 t=>?_⟩;have e0:=(a9.new hd (DNo P w d [])).trans (a9.new t (.lst []));have d0:=a9.new t (.lst []) _ _ (ah (H:=H) (a:=d) (o:=DNo P w d []));have l0:upd (upd H d (DNo P w d [])) n0 (.lst []) n0=some (.lst []):=ah;have N:H n0=none:=a9.none (a9.new hd (DNo P w d [])) t;have W:n0≠d:=λz=>by rw[z,ah]at t;cases t
 exists _,U,l,U,⟨_,SqL.of (e0 _ _ hl)⟩;refine dk (K:=K) (a:=l) (xs:=us) (λi L f=>∃xs v3 Z,L=[some (.ref l),some (.ref d),some (.ref n0),v3,Z]/\a9 H f/\f d=some (DNo P w d xs)/\jN f xs/\(∀k,(br xs k).getD (.int 0)=.int (nmR (rs.take i) k:Nat))/\xs.length<=i/\f n0=some (.lst ((List.range i).map λj:Nat=>V.int (cB rs j)))) ⟨[],_,_,U,e0,d0,λx c=>by simp at c,λk=>U,qo _,l0⟩ ?_ ?_ ?_
 .rintro i L f _ ⟨_,_,_,_,u,_⟩;exact SqL.of (u _ _ hl)
 .rintro i x L f c ⟨xs,v3,Z,rfl,u,R,O,M,xl,v⟩;obtain⟨r,C,px,po,_,rfl,h1,_,_⟩:=rr.at i x c;have lt:i<rs.length:=(qp.mp C).1;refine⟨_,U,px,_,3,_,U,U,SqT.of (u _ _ h1),U,_,U,px,_,4,_,U,U,SqT.of (u _ _ h1),U,ln2,λkp a2=>?_⟩;have I:=a9.new a2 (.tup [dc r.into,dc r.outof])
  have g:upd f kp (.tup [dc r.into,dc r.outof]) kp=some (.tup ((bW r).map nkV)):=by
   rw[ah];show _=some (HO.tup [nkV r.into,nkV r.outof]);rw[xY,xY]
  generalize upd f kp (.tup [dc r.into,dc r.outof])=H3 at I g ⊢;have G:=I _ _ R;have D:=I _ _ v;have X:jN H3 xs:=λx c=>I _ _ (O x c);have s3:=u.trans I;have big:(1001:Nat)<=sizeLine:=Yk;exists _,U,.inl ⟨U,_,SqL.of D⟩,_,U,d,xs,U,G,_,U,xs,bW r,kp,G,X,U,g,n0,_,_,U,U,D,bf (m:=1001) (by rw[qc,Qm];omega);rw[M (bW r)];have a1:∀{b:Addr}{ys:LV},H3 b=some (.tup ys)->b≠n0:=λh z=>by rw[z,D]at h;cases h
  have s4:a9 H (upd H3 n0 (.lst ((List.range i).map (λj:Nat=>V.int (cB rs j))++[.int (nmR (rs.take i) (bW r):Nat)]))):=a9.over s3 N;have p:upd H3 n0 (.lst ((List.range i).map (λj:Nat=>V.int (cB rs j))++[.int (nmR (rs.take i) (bW r):Nat)])) d=some (DNo P w d xs):=by rw[af W.symm];exact G
  have B:∀{b:Addr}{ys:LV},H3 b=some (.tup ys)->upd H3 n0 (.lst ((List.range i).map (λj:Nat=>V.int (cB rs j))++[.int (nmR (rs.take i) (bW r):Nat)])) b=some (.tup ys):=λh=>by rwa[af (a1 h)]
  have S:upd H3 n0 (.lst ((List.range i).map (λj:Nat=>V.int (cB rs j))++[.int (nmR (rs.take i) (bW r):Nat)])) n0=some (.lst ((List.range (i+1)).map λj:Nat=>V.int (cB rs j))):=by
   have J:cB rs i=(nmR (rs.take i) (bW r):Nat):=by unfold cB;rw[C]
   rw[ah,List.range_succ,qW,<- J]
   rfl
  generalize upd H3 n0 (.lst ((List.range i).map (λj:Nat=>V.int (cB rs j))++[.int (nmR (rs.take i) (bW r):Nat)]))=H4 at s4 p B S ⊢;have n:jN H4 xs:=λx c=>B (X x c);exists _,U,d,xs,U,p,_,U,xs,bW r,kp,p,n,U,B g,(nmR (rs.take i) (bW r):Nat),1,M (bW r),U,_,U,_,U,d,xs,bW r,kp,U,p,n,U,B g,Yo;have a0:∀{b:Addr}{ys:LV},H4 b=some (.tup ys)->b≠d:=λh z=>by rw[z,p]at h;cases h
  refine⟨_,_,_,U,a9.over s4 hd,ah,λx c=>?_,λk=>?_,qH (x8 _ _ _ _) Yo,by rw[af W];exact S⟩
  .have X0:H4 x.2.1=some (.tup (x.1.map nkV)):=by
    unfold hZ at c;split at c
    .obtain⟨y,hy,rfl⟩:=List.mem_map.mp c;by_cases e:y.1=bW r
     .rw[Qa e];exact n y hy
     .rw[Q9 e];exact n y hy
    .rcases qr.mp c with h|h
     .exact n x h
     .rw[Q0.mp h];exact B g
   rw[af (a0 X0)];exact X0
  .have tk:rs.take (i+1)=rs.take i++[r]:=by rw[qA,C];rfl
   have J:nmR (rs.take (i+1)) k=nmR (rs.take i) k+if bW r=k then 1 else 0:=by
    unfold nmR;rw[tk,qW,List.count_append,List.map_singleton,List.count_singleton];by_cases e:bW r=k
    .rw[Qa e,Qa (by simpa using e)]
    .rw[Q9 e,Q9 (by simpa using e)]
   rw[A6];by_cases e:k=bW r
   .subst e;rw[Qa U,J,Qa U]
    rfl
   .rw[Q9 e,J,Q9 (λz=>e z.symm),Nat.add_zero];exact M k
 .rintro L f ⟨xs,v3,Z,rfl,u,R,O,M,xl,v⟩;rw[rr.len]at v;exact⟨_,U,q _ n0 u N v⟩
theorem RCs.at2{H:Hp}{rs:List Row}:∀{vs:LV}{b:LS},RCs H rs vs b->∀(i:Nat)(v:V),vs[i]?=some v->∃p c,v=.ref p/\b[i]?=some c/\H p=some (.tup [.str c,.int (cnO rs c)])
 |_,_,.nil,i,v,h=>by simp at h
 |_,_,.cons (p:=p) (c:=c) a _,0,v,h=>⟨p,c,by simp at h;exact h.symm,U,a⟩
 |_,_,.cons _ r,i+1,v,h=>RCs.at2 r i v (by simpa using h)
theorem xI:Ω T base 2 a.JV a.JW ["_law_pairs","_law_card"] vL:=by
 refine T.Ir.F.ok oh ?_;rintro _ A _ s H _ Q E _⟨l,us,rs,k,c,rfl,hl,rc,q⟩
 refine⟨_,(ag (bD PassesOwn.never U (ce (pq 0)) (dM U (bh (aI (i:=2) oh.nd U Oi) (bh (aI (i:=3) oh.nd U Oi) d5)))
  (aj (aJ (ax aW (pq 2) (pq 1) (ay _)) (aj (az (pq 3))) aN)))
  (aj (az bN))),?_⟩
 walk_at "q";exists _,U,l,U,⟨_,SqL.of hl⟩;refine dk (K:=K) (a:=l) (xs:=us) (λi d b=>(∃g j,d=[some (.ref l),some (.str c),g,j])/\b=H/\c∉k.take i) ⟨⟨_,_,U⟩,U,by simp⟩ ?_ ?_ ?_
 .rintro i d b _ ⟨_,rfl,_⟩;exact SqL.of hl
 .rintro i x d b m ⟨⟨g,j,rfl⟩,rfl,no⟩;obtain⟨p,o,rfl,f,r⟩:=RCs.at2 rc i x m;exists p,_,U,SqT.of r,U,_,_,U,_,_,U,U;exists _,U,_,U,U,_,U;by_cases e:o=c
  .subst e;refine ifE U ?_;exists _,U;rw[Qa (qI f)]at q;exact q
  .refine ifN (λz=>e (by injection z)) ⟨⟨_,_,U⟩,U,?_⟩;rw[qA,f];intro n;rcases qr.mp n with h|h
   .exact no h
   .exact e (Q0.mp h).symm
 .rintro d b ⟨⟨g,j,rfl⟩,rfl,no⟩;rw[rc.len,qP]at no;rw[Q9 no]at q;exact q
theorem DW:Ω T base 3 a.JZ a.K0 ["_law_one","_law_many"] vK:=by
 refine T.KE.F.ok BH ?_;rintro _ A _ s H _ Q E hr⟨p,j,k,n,m,rfl,b,_,q⟩
 refine⟨_,(ag (aJ (PW.pt (c9 (cF (cN (aL dS U T.ld PyProof.Rows.Boot.«isinstance» (a8 (pq 0) (a8 (dW (v:=.ty "tuple") U T.wE PyProof.Rows.Boot.«tuple» rfl) ac))))) (c9 (ax eA (aL bn U T.ad Qg (a8 (pq 0) ac)) aa (ay _)) (c9 (cF (cN (aC (si T) (hr.mono Yk) T.HG (a8 (ai au (pq 0) aa Oy) ac)))) (dL (cF (lQ hV gb aa (ai au (pq 0) aa Oy) (pq 1)))))))) (aj (az cq)) aN)
  (aj (az (i6 (aL dS U T.ld PyProof.Rows.Boot.«isinstance» (a8 (ai au (pq 0) aa Oy) (a8 (dW (v:=.ty "str") U T.Cl PyProof.Rows.Boot.«str» rfl) ac))) (jx (aL dS U T.ld PyProof.Rows.Boot.«isinstance» (a8 (ai au (pq 0) aa Oy) (a8 (dW (v:=.ty "str") U T.Cl PyProof.Rows.Boot.«str» rfl) ac)))))))),?_⟩
 walk_at "q";refine⟨_,U,_,_,_,true,U,.tup b,U,_,U,ar U ?_⟩;refine⟨_,U,p,_,U,.inr (SqT.of b),U,_,U,ar U ?_⟩;refine⟨_,U,p,_,0,_,U,U,SqT.of b,U,_,U,_,U,ar U ?_⟩;refine⟨_,U,p,_,0,_,U,U,SqT.of b,U,_,_,U,U,_,U,aU (Qb Yo) ⟨_,U,_,_,U,U,_,U,ar (by rw[Qb Yo];rfl) ?_⟩⟩;refine⟨_,U,p,_,1,_,U,U,SqT.of b,U,_,_,_,true,U,.str k,U,_,U,aU U ?_⟩;exact⟨_,U,p,_,2,_,U,U,SqT.of b,U,_,_,_,true,U,.str n,U,q⟩
theorem xr(o:Option Str)(x:Str):jU (dc o) (.str x)=true:=by cases o<;>rfl
theorem E1:Ω T base 3 a.JX a.JY ["_law_deeds","_law_ahead_here","_law_numbers","_law_lengths","_law_k","_law_wait"] vQ:=by
 refine T.KD.F.ok iD ?_;rintro _ A _ s H _ Q E hr⟨l,la,o,d,p,us,as,rs,kvs,ln,i,r,e,rfl,b,hi,g,me,q⟩
 refine⟨_,(ag (gi (pq 5) (dM U (bh (aI (i:=6) iD.nd U Oi) (bh (aI (i:=7) iD.nd U Oi) (bh (aI (i:=8) iD.nd U (Or.inr U)) d5)))))
  (ag (aJ (PW.pt (c9 (ax aW (pq 7) aQ (ay _)) (dL (ax aW (pq 7) aQ (ay _))))) (ag (aq (i:=9) iD.nd U Oi (aC (xI T) (hr.mono Yk) T.Ir (a8 (ai au (ai aA (pq 1) (pq 4) Oy) (i5 (ax aW (pq 7) aQ (ay _)) aa aa) Oy) (a8 (pq 8) ac))))
  (ag (aq (i:=10) iD.nd U Oi (aC (xI T) (hr.mono Yk) T.Ir (a8 (ai au (ai aA (pq 1) (pq 6) Oy) aa Oy) (a8 (pq 8) ac))))
  (aj (az (i6 (fR eX (pq 9) bN (ay _)) (i6 (fR eX (pq 10) bN (ay _)) (jx (fR aW (pq 9) (ao bC (pq 10) aa) (ay _))))))))) aN)
  (ag (aJ (ax aW (pq 7) aQ (ay _)) (aj (az (i6 (fR aW (ai au (ai aA (pq 0) (pq 4) Oy) aa Oy) (pq 8) (ay _)) (i6 (fR aW (ai au (ai aA (pq 0) (pq 6) Oy) aa Oy) (pq 8) (ay _)) (jx (fR aW (ai aA (pq 2) (pq 6) Oy) (ai aA (pq 2) (pq 4) Oy) (ay _))))))) aN)
  (ag (aJ (PW.pt (c9 (ax eA (pq 7) aQ (ay _)) (c9 (ax eA (ai au (ai aA (pq 0) (pq 4) Oy) aa Oy) (pq 8) (ay _)) (dL (ax gb (ai aA (pq 2) (pq 4) Oy) (iL hr.one (pq 3) (pq 8) Oy) (ay _)))))) (aj (az cq)) aN)
  (ag (aq (i:=11) iD.nd U Oi (ao gF (ai aA (pq 2) (pq 4) Oy) (iL hr.one (pq 3) (pq 8) Oy)))
  (ag (aJ (ax aW (ai au (ai aA (pq 0) (pq 6) Oy) aa Oy) (pq 8) (ay _)) (aj (az (fR aW (ai aA (pq 2) (pq 6) Oy) (pq 11) (ay _)))) aN)
  (aj (az (i6 (fR aW (pq 6) (ao gF (aL bn U T.ad Qg (a8 (pq 0) ac)) aa) (ay _)) (jx (fR hV (aL bn U T.ad Qg (a8 (fQ (k:=1) (Nc:=["_law_row","_law_name"]) (js:=[8]) (show bg (aD lM) ["_law_deeds","_law_ahead_here","_law_numbers","_law_lengths","_law_k","_law_wait","_law_j","_law_kind","_law_name","_law_many","_law_below","_law_freed"] _ 1 ["_law_row","_law_name"] [8]from bg.mk U (by decide +kernel) (by decide +kernel) (by decide +kernel) U (by decide +kernel)) U (ce (pq 0)) (λ_ _ _ _ _=>(aI (i:=0) (show List.Nodup (["_law_row","_law_name"]:LS)from by decide +kernel) U Oi)) (λ_ _ _ _ _=>(iH (ax aW (ai (jp (K:=K) U) (pq 0) aa Oy) (pq 1) (ay _)))) (λ_ _ _ _ _=>(pq 0))) ac)) (pq 11) (ay _)))))))))))),?_⟩
 walk_at "q";have lt:=(qp.mp hi).1
 have L:∀{j:Nat}{r:Row},rs[j]?=some r->∃M po pr,us[j]?=some (.ref M)/\H M=some (.tup [.str r.kind,.ref po,.ref pr,dc r.into,dc r.outof]):=λ{j r} h=>by
  have B:=(qp.mp h).1;obtain⟨x,hx⟩:∃x,us[j]?=some x:=⟨_,qi (by rw[b.rr.len];exact B)⟩;obtain⟨u,a1,M,po,pr,rfl,C,_,_⟩:=b.rr.at j x hx;rw[h]at a1;cases a1;exact⟨M,po,pr,hx,C⟩
 have t:∀{j:Nat},j<rs.length->((List.range rs.length).map λi:Nat=>V.int (cB rs i))[j]?=some (.int (cB rs j)):=λ{j} h=>by rw[qM,List.getElem?_range h];rfl
 obtain⟨_,a0,pa,l1,l2,u1,u2,rfl,a2,a5,a6,a4,a7⟩:=b.ra.2 i r lt hi;obtain⟨pi,po,pr,Z,C⟩:=L hi
 cases me with
 |@card j c u n c1 c2 cn=>
  have B:=(qp.mp n).1;obtain⟨vb,O,pb,m1,m2,w1,w2,rfl,X0,W,a3,S,b0⟩:=b.ra.2 j u B n;have g:H p=some (.tup [.int j,.str "card",.str c]):=g;exists _,U,p,_,U,SqT.of g,U,_,_,U,_,_,U,_,_,U,U;refine⟨_,U,U,_,U,aU (Qb U) (aU U ?_)⟩;refine⟨_,U,_,U,la,_,_,_,U,U,SqL.of b.ha,aO a0,_,U,U,_,U,aU (Qb U) ⟨pa,_,0,_,U,U,SqT.of a2,U,_,U,l1,u1,_,r.owns,c,U,a5,a4,?_⟩⟩;rw[Qa c1];exists _,U,_,U,la,_,_,_,U,U,SqL.of b.ha,aO O,pb,_,0,_,U,U,SqT.of X0,U,_,U,m1,w1,_,u.owns,c,U,W,S;rw[Qa c2];refine⟨_,U,U,_,U,aU U ⟨_,U,U,_,U,aU U ⟨_,U,_,U,_,_,U,U,U,?_⟩⟩⟩;rw[Qb (by rw[cn];rfl)];exact q _ (a9.refl _)
 |@copy j c u n c1 c2 cn=>
  have B:=(qp.mp n).1;obtain⟨vb,O,pb,m1,m2,w1,w2,rfl,X0,W,a3,S,b0⟩:=b.ra.2 j u B n;have g:H p=some (.tup [.int j,.str "copy",.str c]):=g;exists _,U,p,_,U,SqT.of g,U,_,_,U,_,_,U,_,_,U,U;refine⟨_,U,U,_,U,ar Yd ⟨_,U,U,_,U,aU (Qb U) ?_⟩⟩;refine⟨_,U,_,U,la,_,_,_,U,U,SqL.of b.ha,aO a0,_,U,U,_,U,ar Yd ⟨pa,_,1,_,U,U,SqT.of a2,U,_,U,l2,u2,_,r.reads,c,U,a6,a7,?_⟩⟩;rw[Qa c1];exists _,U,_,U,la,_,_,_,U,U,SqL.of b.ha,aO O,pb,_,0,_,U,U,SqT.of X0,U,_,U,m1,w1,_,u.owns,c,U,W,S;rw[Qa c2];refine⟨_,U,U,_,U,aU U ⟨_,U,U,_,U,aU U ⟨_,U,_,U,_,_,U,U,U,?_⟩⟩⟩;rw[Qb (by rw[cn];rfl)];exact q _ (a9.refl _)
 |@thing j f u n I e2 N=>
  have B:=(qp.mp n).1;obtain⟨R,_,_,D,J⟩:=L n;rw[I]at C;rw[e2]at J;have g:H p=some (.tup [.int j,.str "thing",.str f]):=g;exists _,U,p,_,U,SqT.of g,U,_,_,U,_,_,U,_,_,U,U;refine⟨_,U,U,_,U,ar Yd ⟨_,U,U,_,U,ar Yd ?_⟩⟩;refine⟨_,U,U,_,U,aU (Qb U) ?_⟩;refine⟨_,U,_,U,l,_,_,_,U,U,SqL.of b.hl,aO Z,pi,_,4,_,U,U,SqT.of C,U,_,U,U,_,U,aU (Qb U) ?_⟩;refine⟨_,U,_,U,l,_,_,_,U,U,SqL.of b.hl,aO D,R,_,3,_,U,U,SqT.of J,U,_,U,U,_,U,aU (Qb U) ?_⟩;exists _,U,_,U,o,_,_,_,U,U,SqL.of b.hn,aO (t B),_,U,_,U,o,_,_,_,U,U,SqL.of b.hn,aO (t lt),U;rw[Qb (by rw[N])];exact q _ (a9.refl _)
 |@room j f u n I e2 e3 N=>
  have B:=(qp.mp n).1;obtain⟨R,_,_,D,J⟩:=L n;have X:=b.dl r (qI hi) f I;rw[I]at C;have g:H p=some (.tup [.int j,.str "room",.str f]):=g;exists _,U,p,_,U,SqT.of g,U,_,_,U,_,_,U,_,_,U,U;refine⟨_,U,U,_,U,ar Yd ⟨_,U,U,_,U,ar Yd ?_⟩⟩;refine⟨_,U,U,_,U,ar Yd ?_⟩;refine⟨_,U,U,_,U,ar Yd ?_⟩;refine⟨_,U,_,U,l,_,_,_,U,U,SqL.of b.hl,aO Z,pi,_,3,_,U,U,SqT.of C,U,_,U,U,_,U,ar (by show(!decide (V.str f=V.str f))=false;rw[Qb U];rfl) ?_⟩;refine⟨_,U,_,U,o,_,_,_,U,U,SqL.of b.hn,aO (t lt),_,U,_,U,d,_,U,.inl ⟨_,.inr f,.inl b.hd,U,X.symm⟩,_,_,U,U,_,U,ar (Qc Yo) ?_⟩;exists _,U,_,U,o,_,_,_,U,U,SqL.of b.hn,aO (t lt),_,U,_,U,d,_,U,.inl ⟨_,.inr f,.inl b.hd,U,X.symm⟩,_,_,U,U;rw[e3]at J;refine⟨_,U,_,U,l,_,_,_,U,U,SqL.of b.hl,aO D,R,_,4,_,U,U,SqT.of J,U,_,U,U,_,U,aU (Qb U) ?_⟩;exists _,U,_,U,o,_,_,_,U,U,SqL.of b.hn,aO (t B),_,U,U;rw[Qb (by rw[N])];exact q _ (a9.refl _)
 |@last j f u n I e2 e3 _ N=>
  have B:=(qp.mp n).1;obtain⟨R,_,_,D,J⟩:=L n;have X:=b.dl r (qI hi) f I;rw[I]at C;have g:H p=some (.tup [.int j,.str "room",.str f]):=g;exists _,U,p,_,U,SqT.of g,U,_,_,U,_,_,U,_,_,U,U;refine⟨_,U,U,_,U,ar Yd ⟨_,U,U,_,U,ar Yd ?_⟩⟩;refine⟨_,U,U,_,U,ar Yd ?_⟩;refine⟨_,U,U,_,U,ar Yd ?_⟩;refine⟨_,U,_,U,l,_,_,_,U,U,SqL.of b.hl,aO Z,pi,_,3,_,U,U,SqT.of C,U,_,U,U,_,U,ar (by show(!decide (V.str f=V.str f))=false;rw[Qb U];rfl) ?_⟩;refine⟨_,U,_,U,o,_,_,_,U,U,SqL.of b.hn,aO (t lt),_,U,_,U,d,_,U,.inl ⟨_,.inr f,.inl b.hd,U,X.symm⟩,_,_,U,U,_,U,ar (Qc Yo) ?_⟩;exists _,U,_,U,o,_,_,_,U,U,SqL.of b.hn,aO (t lt),_,U,_,U,d,_,U,.inl ⟨_,.inr f,.inl b.hd,U,X.symm⟩,_,_,U,U
  have ne:dc u.outof≠V.str f:=λz=>e3 (by
   cases ho:u.outof with
   |none=>rw[ho]at z;cases z
   |some x=>rw[ho]at z;injection z with z;rw[z])
  refine⟨_,U,_,U,l,_,_,_,U,U,SqL.of b.hl,aO D,R,_,4,_,U,U,SqT.of J,U,_,U,xr _ _,_,U,ar (Qc ne) ?_⟩;refine⟨_,U,_,U,l,_,U,.inl (SqL.of b.hl),_,_,U,U,U,_,U,aU (Qb (by rw[b.rr.len];congr 1;omega)) ?_⟩;exists _,U,l,U,⟨_,SqL.of b.hl⟩;refine tK (K:=K) (a:=l) (xs:=us) (λm ys Y G=>(∃v,Y=[v,some (.str f)])/\G=H/\ys.length=((rs.take m).filter λx=>decide (x.outof=some f)).length) ⟨⟨_,U⟩,U,U⟩ ?_ (bf (m:=1000) (by rw[b.rr.len];exact b.few)) ?_ ?_ ?_
  .rintro m ys Y G _ ⟨_,_,h⟩;have:=List.length_filter_le (λx:Row=>decide (x.outof=some f)) (rs.take m);rw[qS]at this;omega
  .rintro m ys Y G ⟨_,rfl,_⟩;exact SqL.of b.hl
  .rintro m z ys Y G hz ⟨⟨_,rfl⟩,rfl,yl⟩;obtain⟨x,hx,M,_,_,rfl,h3,_,_⟩:=b.rr.at m z hz;have tk:rs.take (m+1)=rs.take m++[x]:=by rw[qA,hx];rfl
   exists _,U,M,_,4,_,U,U,SqT.of h3,U,_,U,xr _ _,_,U;by_cases ho:x.outof=some f
   .refine aU (Qb (by rw[ho];rfl)) ⟨_,U,⟨_,U⟩,U,?_⟩;rw[qh,yl,tk,QA,qh,List.filter_cons_of_pos (by simpa using ho)]
    rfl
   .refine ar (Qc (λz=>ho (by
     cases h:x.outof with
     |none=>rw[h]at z;cases z
     |some y=>rw[h]at z;injection z with z;rw[z]))) ⟨⟨_,U⟩,U,?_⟩
    rw[yl,tk,QA,qh,List.filter_cons_of_neg (by simpa using ho)]
    rfl
  rintro ys Y G ⟨_,rfl,yl⟩ l5 a';rw[b.rr.len,qP]at yl;exists l5,_,U,.inl (SqL.of ah),_,U,_,_,U,U;rw[yl,Qb N];exact q _ (a9.new a' _)
theorem jC{rs:List Row}(nd:∀r∈rs,r.owns.Nodup)(c:Str):∀k,k<=rs.length->((bO (rs.take k) c).isSome=decide (0<cnO (rs.take k) c))/\∀n,bO (rs.take k) c=some n->∃(j:Nat)(f:Row),n=(j:Int)/\j<k/\rs[j]?=some f/\c∈f.owns/\cnO (rs.take k) c=cnO (rs.take j) c+1
 |0,_=>⟨U,λn h=>by simp[bO]at h⟩
 |k+1,hk=>by
  obtain⟨g,i⟩:=jC nd c k Yo;have hr:rs[k]?=some (rs[k]' Yo):=qi _;generalize rs[k]' Yo=r at hr;have tk:rs.take (k+1)=rs.take k++[r]:=by rw[qA,hr];rfl
  have tl:(rs.take k).length=k:=by rw[qS];omega
  rw[tk,yo,tL,tl];by_cases hc:c∈r.owns
  .have c1:r.owns.count c=1:=Nat.le_antisymm (List.nodup_iff_count.mp (nd r (qI hr)) c) (List.count_pos_iff.mpr hc);rw[Qa hc,c1];refine⟨by simp,λn h=>?_⟩;cases h;exact⟨k,r,U,Yo,hr,hc,U⟩
  .have c0:r.owns.count c=0:=List.count_eq_zero.mpr hc;rw[Q9 hc,c0,Nat.add_zero];refine⟨g,λn h=>?_⟩;obtain⟨j,f,e,lt,a,b,d⟩:=i n h;exact⟨j,f,e,Yo,a,b,d⟩
theorem GB(k j:List NK):[k].count j=if k=j then 1 else 0:=by
 rw[List.count_singleton];by_cases e:k=j
 .rw[Qa e,Qa (by simpa using e)]
 .rw[Q9 e,Q9 (by simpa using e)]
theorem m9{rs:List Row}(ow:∀r∈rs,e8 r)(q:Str):∀k,k<=rs.length->nmR (rs.take k) [some q,none]=(ap Row.into (rs.take k) q).length/\nmR (rs.take k) [none,some q]=(ap Row.outof (rs.take k) q).length/\((rs.take k).filter λx=>decide (x.outof=some q)).length=(ap Row.outof (rs.take k) q).length
 |0,_=>⟨U,U,U⟩
 |k+1,hk=>by
  obtain⟨c,b,f⟩:=m9 ow q k Yo;have hr:rs[k]?=some (rs[k]' Yo):=qi _;generalize rs[k]' Yo=r at hr;have tk:rs.take (k+1)=rs.take k++[r]:=by rw[qA,hr];rfl
  have one:=ow r (qI hr)
  have sn:∀j,nmR (rs.take k++[r]) j=nmR (rs.take k) j+if bW r=j then 1 else 0:=λj=>by
   unfold nmR;rw[qW,List.count_append,List.map_singleton,GB]
  rw[tk,sn,sn,m7,m7,qh,qh,QA,qh,c,b,f];refine⟨?_,?_,?_⟩
  .by_cases e:r.into=some q
   .have d:r.outof=none:=one.resolve_left (by rw[e];simp);rw[Qa e,Qa (by unfold bW;rw[e,d])]
    rfl
   .rw[Q9 e,Q9 (λz=>e (by unfold bW at z;exact(List.cons.inj z).1))]
    rfl
  .by_cases e:r.outof=some q
   .have a:r.into=none:=one.resolve_right (by rw[e];simp);rw[Qa e,Qa (by unfold bW;rw[e,a])]
    rfl
   .rw[Q9 e,Q9 (λz=>e (by unfold bW at z;exact(List.cons.inj (List.cons.inj z).2).1))]
    rfl
  .by_cases e:r.outof=some q
   .rw[Qa e,List.filter_cons_of_pos (by simpa using e)]
    rfl
   .rw[Q9 e,List.filter_cons_of_neg (by simpa using e)]
    rfl
theorem xV(ow:∀r∈rs,e8 r){q:Str}(h:rs[i]?=some r)(e:r.into=some q):cB rs i=((ap Row.into (rs.take i) q).length:Int):=by
 have lt:=(qp.mp h).1;have a:r.outof=none:=(ow r (qI h)).resolve_left (by rw[e];simp);unfold cB;rw[h];show((nmR (rs.take i) (bW r):Nat):Int)=_;have:bW r=[some q,none]:=by unfold bW;rw[e,a]
 rw[this,(m9 ow q i Yo).1]
theorem xU(ow:∀r∈rs,e8 r){q:Str}(h:rs[i]?=some r)(e:r.outof=some q):cB rs i=((ap Row.outof (rs.take i) q).length:Int):=by
 have lt:=(qp.mp h).1;have a:r.into=none:=(ow r (qI h)).resolve_right (by rw[e];simp);unfold cB;rw[h];show((nmR (rs.take i) (bW r):Nat):Int)=_;have:bW r=[none,some q]:=by unfold bW;rw[e,a]
 rw[this,(m9 ow q i Yo).2.1]
theorem iN{f:Row->Option Str}{rs:List Row}{q:Str}:∀k,k<=rs.length->∀(m:Nat)(n:Int),(ap f (rs.take k) q)[m]?=some n->∃(j:Nat)(a:Row),n=(j:Int)/\rs[j]?=some a/\f a=some q/\(ap f (rs.take j) q).length=m
 |0,_,m,n,h=>by simp[Tr.ap]at h
 |k+1,hk,m,n,h=>by
  have hr:rs[k]?=some (rs[k]' Yo):=qi _;generalize rs[k]' Yo=r at hr;have tk:rs.take (k+1)=rs.take k++[r]:=by rw[qA,hr];rfl
  have tl:(rs.take k).length=k:=by rw[qS];omega
  rw[tk,m7,tl]at h;by_cases lt:m<(ap f (rs.take k) q).length
  .rw[Qe lt]at h;exact iN k Yo m n h
  .rw[qT Yo]at h;by_cases e:f r=some q
   .rw[Qa e]at h
    have b:m-(ap f (rs.take k) q).length=0:=by
     have:=(qp.mp h).1;simp at this;omega
    rw[b]at h;cases h;exact⟨k,r,U,hr,e,Yo⟩
   .rw[Q9 e]at h;simp at h
theorem FZ{ln:Str->Int}(h:rs[i]?=some r)(nd:∀r∈rs,r.owns.Nodup)(ow:∀r∈rs,e8 r)(fed:∀q,r.outof=some q->(ap Row.outof (rs.take i) q).length<(ap Row.into rs q).length)(s:∀k,rs[rs.length-1]?=some k->k.outof=none):∀e∈bX rs ln i r,iw rs ln i r e/\∃j:Nat,e.1=(j:Int)/\j<rs.length:=λe g=>by
 have lt:=(qp.mp h).1;have l:∀{j:Nat}{k:Row},rs[j]?=some k->j<rs.length:=λh=>(qp.mp h).1;unfold bX dr at g;rw[qr,qr,qr]at g
 have card:∀{p:Str}{o:LS},e∈du (bO (rs.take i)) p o->∃(j:Nat)(c:Str)(k:Row),e=((j:Int),p,c)/\c∈o/\rs[j]?=some k/\c∈k.owns/\cnO (rs.take i) c=cnO (rs.take j) c+1:=λ{p o} g=>by
  unfold du at g;obtain⟨c,hc,m⟩:=List.mem_filterMap.mp g;obtain⟨n,hn,rfl⟩:=qX.mp m;obtain⟨j,k,rfl,_,a,b,d⟩:=(jC nd c i Yo).2 n hn;exact⟨j,c,k,U,hc,a,b,d⟩
 rcases g with((g|g)|g)|g
 .obtain⟨j,c,k,rfl,hc,a,b,d⟩:=card g;exact⟨.card a hc b d,j,U,l a⟩
 .obtain⟨j,c,k,rfl,hc,a,b,d⟩:=card g;exact⟨.copy a hc b d,j,U,l a⟩
 .unfold dy at g
  cases eo:r.outof with
  |none=>rw[eo]at g;simp at g
  |some q=>
   rw[eo]at g;have g:=Q0.mp g;have f:=fed q eo
   have ex:(ap Row.into (rs.take rs.length) q)[(ap Row.outof (rs.take i) q).length]?=some ((ap Row.into rs q).getD (ap Row.outof (rs.take i) q).length 0):=by
    rw[qP,qu,qi f]
    rfl
   obtain⟨j,k,m,a,b,d⟩:=iN rs.length (qo _) _ _ ex;rw[g,m];exact⟨.thing a eo b (by rw[xV ow a b,xU ow h eo,d]),j,U,l a⟩
 .unfold cX at g
  cases ei:r.into with
  |none=>rw[ei]at g;simp at g
  |some q=>
   rw[ei]at g;have w:=xV ow h ei;have g:e∈(if 0<=gu rs (ln q) i q then[(awaited rs.length (ap Row.outof rs q) (gu rs (ln q) i q).toNat,("room":Str),q)]else[]):=g;unfold gu at g;split at g
   .rename_i z;have g:=Q0.mp g;have t:ln q<=cB rs i:=Yo;unfold awaited at g;by_cases lk:(((ap Row.into (rs.take i) q).length:Int)-ln q).toNat<(ap Row.outof rs q).length
    .rw[Qa lk]at g
     have ex:(ap Row.outof (rs.take rs.length) q)[(((ap Row.into (rs.take i) q).length:Int)-ln q).toNat]?=some ((ap Row.outof rs q).getD (((ap Row.into (rs.take i) q).length:Int)-ln q).toNat 0):=by
      rw[qP,qu,qi lk]
      rfl
     obtain⟨j,k,m,a,b,d⟩:=iN rs.length (qo _) _ _ ex;rw[g,m];exact⟨.room a ei t b (by rw[xU ow a b,d];omega),j,U,l a⟩
    .rw[Q9 lk]at g;have hl:rs[rs.length-1]?=some (rs[rs.length-1]' Yo):=qi _;have v:=s _ hl;have nn:=(m9 ow q rs.length (qo _)).2.2;rw[qP]at nn;have u:(rs.length:Int)-1=((rs.length-1:Nat):Int):=Yo;rw[g,u];exact⟨.last hl ei t (by rw[v];simp) Yo (by rw[nn];omega),rs.length-1,U,Yo⟩
   .simp at g
theorem sW(x:Str):∀l:LS,∃zs:LS,zs.Perm (x::l)/\(∀p:Str,Spec.ltCps x.cps.toList p.cps.toList=false->PyProof.Rows.risingS p l=true->PyProof.Rows.risingS p zs=true)/\(PyProof.Rows.sortedS l=true->PyProof.Rows.sortedS zs=true)
 |[]=>⟨[x],.refl _,λp h _=>by simp[PyProof.Rows.risingS,h],λ_=>rfl⟩
 |y::r=>by
  by_cases lt:Spec.ltCps y.cps.toList x.cps.toList=true
  .obtain⟨zs,pm,h1,h2⟩:=sW x r
   have ns:Spec.ltCps x.cps.toList y.cps.toList=false:=by
    rw[PyProof.Rows.ltCps_eq,decide_eq_true_iff]at lt;rw[PyProof.Rows.ltCps_eq,decide_eq_false_iff_not];exact λz=>List.lt_irrefl _ (List.lt_trans lt z)
   refine⟨y::zs,((List.perm_cons y).mpr pm).trans (List.Perm.swap _ _ _),λp _ hr=>?_,λhs=>h1 y ns hs⟩;have hr:(!Spec.ltCps y.cps.toList p.cps.toList && PyProof.Rows.risingS y r)=true:=hr;show(!Spec.ltCps y.cps.toList p.cps.toList && PyProof.Rows.risingS y zs)=true;rw[Bool.and_eq_true]at hr ⊢;exact⟨hr.1,h1 y ns hr.2⟩
  .have lt:=Bool.eq_false_iff.mpr lt;refine⟨x::y::r,.refl _,λp a hr=>?_,λhs=>?_⟩
   .have hr:(!Spec.ltCps y.cps.toList p.cps.toList && PyProof.Rows.risingS y r)=true:=hr;rw[Bool.and_eq_true]at hr;show(!Spec.ltCps x.cps.toList p.cps.toList && (!Spec.ltCps y.cps.toList x.cps.toList && PyProof.Rows.risingS y r))=true;rw[a,lt,hr.2]
    rfl
   .show(!Spec.ltCps y.cps.toList x.cps.toList && PyProof.Rows.risingS y r)=true;rwa[lt]
theorem uR:∀l:LS,∃zs:LS,zs.Nodup/\(∀k,k∈zs↔k∈l)/\PyProof.Rows.sortedS zs=true
 |[]=>⟨[],List.nodup_nil,λ_=>Iff.rfl,U⟩
 |x::l=>by
  obtain⟨zs,nd,a,so⟩:=uR l;by_cases hx:x∈zs
  .exact⟨zs,nd,λk=>⟨λh=>qv _ ((a k).mp h),λh=>by
    rcases qD.mp h with rfl|h
    .exact hx
    .exact(a k).mpr h⟩,so⟩
  .obtain⟨ys,b,_,c⟩:=sW x zs;exact⟨ys,b.nodup_iff.mpr (List.nodup_cons.mpr ⟨hx,nd⟩),λk=>by rw[b.mem_iff,qD,qD,a],c so⟩
theorem AS(l:LS)(k:Str):k∈srt l↔k∈l:=by
 have h:=uR l;unfold srt;rw[dif_pos h];exact(Classical.choose_spec h).2.1 k
noncomputable def NC(p:Nat->Bool):Nat->Nat
 |0=>0
 |m+1=>NC p m+if p m=true then 1 else 0
theorem kM(p:Nat->Bool){m:Nat}(h:m<=n):NC p m<=NC p n:=by
 induction n with
 |zero=>rw[Nat.le_zero.mp h];exact qo _
 |succ n a=>
  by_cases e:m=n+1
  .rw[e];exact qo _
  .exact qH (a Yo) (Nat.le_add_right _ _)
theorem kN{q:Nat->Bool}{m:Nat}(h:∀j,j<m->p j=true->q j=true):NC p m<=NC q m:=by
 induction m with
 |zero=>exact qo _
 |succ m a=>
  have i:=a λj _=>h j Yo;unfold NC;by_cases e:p m=true
  .rw[Qa e,Qa (h m Yo e)];omega
  .rw[Q9 e];split<;>omega
theorem Hm{q:Nat->Bool}{m:Nat}(h:∀j,j<m->p j=q j):NC p m=NC q m:=
 Nat.le_antisymm (kN λj a e=>by rwa[<- h j a]) (kN λj a e=>by rwa[h j a])
theorem zI{m:Nat}(c:m<=n)(h:∀j,m<=j->j<n->p j=false):NC p n=NC p m:=by
 induction n with
 |zero=>rw[Nat.le_zero.mp c]
 |succ n b=>
  by_cases e:m=n+1
  .rw[e]
  .unfold NC;rw[b Yo λj a _=>h j a Yo,Q9 (by rw[h n Yo Yo];simp),Nat.add_zero];cases m<;>rfl
theorem Hl{m:Nat}(h:p j=true)(lt:j<m):NC p j<NC p m:=by
 have:=kM p (show j+1<=m from lt);rw[NC,Qa h]at this;omega
theorem Hn{q:Nat->Bool}{x:Nat}(lt:x<n)(a:p x=false)(e:∀j,j≠x->q j=p j):NC q n=NC p n+if q x=true then 1 else 0:=by
 induction n with
 |zero=>omega
 |succ n b=>
  unfold NC;by_cases z:x=n
  .subst z;rw[Hm (q:=p) λj _=>e j Yo,a];simp
  .rw[b Yo,e n (Ne.symm z)];omega
theorem zJ(p:Nat->Bool)(n:Nat):∀{o:LG},o.Nodup->(∀j∈o,j<n)->(o.filter p).length=NC (λj=>decide (j∈o) && p j) n
 |[],_,_=>by rw[zI (qC n) λj _ _=>by simp];rfl
 |x::o,nd,lt=>by
  have nx:=(List.nodup_cons.mp nd).1;have b:=zJ p n (List.nodup_cons.mp nd).2 λj a=>lt j (qv _ a);rw[Hn (p:=λj=>decide (j∈o) && p j) (x:=x) (lt x qw) (by simp[nx]) λj a=>by simp[a],<- b];by_cases e:p x=true
  .rw[List.filter_cons_of_pos e,Qa (by simp[e])];rfl
  .rw[List.filter_cons_of_neg e,Q9 (by simp[e])];rfl
noncomputable def atP(rs:List Row)(P:Row->Bool)(j:Nat):Bool:=(rs[j]?).any P
theorem mQ(rs:List Row)(P:Row->Bool):∀o:LG,((dnR rs o).filter P).length=(o.filter (atP rs P)).length
 |[]=>rfl
 |x::o=>by
  have a:=mQ rs P o;unfold dnR at a ⊢
  cases e:rs[x]? with
  |none=>rw[List.filterMap_cons_none e,a,List.filter_cons_of_neg (by simp[atP,e])]
  |some r=>
   rw[List.filterMap_cons_some e];by_cases h:P r=true
   .rw[List.filter_cons_of_pos h,List.filter_cons_of_pos (by simp[atP,e,h]),qJ,qJ,a]
   .rw[List.filter_cons_of_neg h,List.filter_cons_of_neg (by simp[atP,e,h]),a]
theorem eR(rs:List Row)(P:Row->Bool):∀k,k<=rs.length->((rs.take k).filter P).length=NC (atP rs P) k
 |0,_=>rfl
 |k+1,hk=>by
  have hr:rs[k]?=some (rs[k]' Yo):=qi _;rw[qA,hr,QA,qh,eR rs P k Yo,NC]
  congr 1
  show([rs[k]' Yo].filter P).length=_;unfold atP;rw[hr];by_cases h:P (rs[k]' Yo)=true<;>simp[h]
structure DnO(rs:List Row)(o:LG):Prop where
 nd:o.Nodup
 lt:∀j∈o,j<rs.length
theorem DnO.count{o:LG}(h:DnO rs o)(P:Row->Bool):((dnR rs o).filter P).length=NC (λj=>decide (j∈o) && atP rs P j) rs.length:=by
 rw[mQ,zJ _ rs.length h.nd h.lt]
def Pre(rs:List Row)(o:LG)(P:Row->Bool):Prop:=∀i j,atP rs P i=true->atP rs P j=true->i<j->j∈o->i∈o
theorem DnO.ge{o:LG}(h:DnO rs o){P:Row->Bool}{k:Nat}(hk:k<=rs.length)(all:∀j,j<k->atP rs P j=true->j∈o):((rs.take k).filter P).length<=((dnR rs o).filter P).length:=by
 rw[h.count,eR rs P k hk];exact qH (kN λj a e=>by simp[e,all j a e]) (kM _ hk)
theorem DnO.le{o:LG}(h:DnO rs o){P:Row->Bool}{k:Nat}(hk:k<=rs.length)(no:∀j,k<=j->atP rs P j=true->j∉o):((dnR rs o).filter P).length<=((rs.take k).filter P).length:=by
 rw[h.count,eR rs P k hk,zI hk λj a _=>by
  by_cases e:atP rs P j=true
  .simp[no j a e]
  .simp[e]]
 exact kN λj _ e=>by simp at e;exact e.2
theorem kR{P:Row->Bool}{k:Nat}(a:atP rs P j=true)(lt:j<k)(hk:k<=rs.length):((rs.take j).filter P).length<((rs.take k).filter P).length:=by
 rw[eR rs P j Yo,eR rs P k hk];exact Hl a lt
noncomputable def eC(c:Str)(r:Row):Bool:=decide (c∈r.owns)
theorem rT{R:List Row}(nd:∀r∈R,r.owns.Nodup)(c:Str):cnO R c=(R.filter (eC c)).length:=by
 induction R with
 |nil=>rfl
 |cons r R a=>
  have a:=a λr hr=>nd r (qv _ hr);unfold cnO at a ⊢;rw[qN,List.count_append,a];by_cases hc:c∈r.owns
  .rw[List.filter_cons_of_pos (by simp[eC,hc]),qJ,Nat.le_antisymm (List.nodup_iff_count.mp (nd r qw) c) (List.count_pos_iff.mpr hc)];omega
  .rw[List.filter_cons_of_neg (by simp[eC,hc]),List.count_eq_zero.mpr hc];omega
structure Clo(rs:List Row)(ln:Str->Int)(o:LG):Prop where
 dn:DnO rs o
 wt:∀k r,k∈o->rs[k]?=some r->∀e∈bX rs ln k r,∃j:Nat,e.1=(j:Int)/\j∈o
theorem fW:atP rs (eC c) j=true↔∃r,rs[j]?=some r/\c∈r.owns:=by
 unfold atP eC;cases rs[j]?<;>simp
theorem ED{ln:Str->Int}{k:Nat}(hc:c∈r.owns)(h:bO (rs.take k) c=some (j:Int)):((j:Int),("card":Str),c)∈bX rs ln k r:=by
 unfold bX dr du;refine Q5 _ (Q5 _ (Q5 _ (List.mem_filterMap.mpr ⟨c,hc,?_⟩)));rw[h]
 rfl
theorem kD(nd:∀r∈rs,r.owns.Nodup)(c:Str)(k:Nat):cnO (rs.take k) c=((rs.take k).filter (eC c)).length:=rT (λr hr=>nd r (List.mem_of_mem_take hr)) c
theorem yk(nd:∀r∈rs,r.owns.Nodup){k:Nat}(hk:k<=rs.length)(g:atP rs (eC c) i=true)(lt:i<k):∃j:Nat,bO (rs.take k) c=some (j:Int)/\i<=j/\j<k/\atP rs (eC c) j=true:=by
 obtain⟨l1,l2⟩:=jC nd c k hk;have p:=kR g lt hk;rw[kD nd,Qb Yo]at l1
 cases e:bO (rs.take k) c with
 |none=>rw[e]at l1;simp at l1
 |some n=>
  obtain⟨j,f,rfl,h,hr,hc,d⟩:=l2 n e;have b:atP rs (eC c) j=true:=fW.mpr ⟨f,hr,hc⟩;refine⟨j,U,?_,h,b⟩;by_cases z:i<=j
  .exact z
  .have a:=kR b (show j<i by omega) (by omega);rw[kD nd,kD nd]at d;omega
theorem Clo.chain{ln:Str->Int}{o:LG}(C:Clo rs ln o)(nd:∀r∈rs,r.owns.Nodup)(c:Str):Pre rs o (eC c):=λi j=>by
 induction j using Nat.strongRecOn with
 |_ j h=>
  intro b g lt f;obtain⟨a,e,le,l2,h'⟩:=yk nd (Nat.le_of_lt (C.dn.lt j f)) b lt;obtain⟨r,hr,hc⟩:=fW.mp g;obtain⟨x,ex,d⟩:=C.wt j r f hr _ (ED hc e);have ex:(a:Int)=(x:Int):=ex;have:x=a:=Yo;subst this;by_cases z:i=x
  .rwa[z]
  .exact h x l2 b h' Yo d
theorem Clo.owners{ln:Str->Int}{o:LG}(C:Clo rs ln o)(nd:∀r∈rs,r.owns.Nodup){k:Nat}(hk:k<=rs.length)(h:∀j:Nat,bO (rs.take k) c=some (j:Int)->j∈o):∀i,i<k->atP rs (eC c) i=true->i∈o:=λi lt a=>by
 obtain⟨j,e,le,_,h'⟩:=yk nd hk a lt;by_cases z:i=j
 .rw[z];exact h j e
 .exact C.chain nd c i j a h' Yo (h j e)
theorem yN{o:LG}(h:r∈dnR rs o):r∈rs:=by
 obtain⟨j,_,e⟩:=List.mem_filterMap.mp h;exact qI e
theorem Clo.card_ge{ln:Str->Int}{o:LG}(C:Clo rs ln o)(nd:∀r∈rs,r.owns.Nodup){k:Nat}(hk:k<=rs.length)(h:∀j:Nat,bO (rs.take k) c=some (j:Int)->j∈o):cnO (rs.take k) c<=cnO (dnR rs o) c:=by
 rw[kD nd,rT λr hr=>nd r (yN hr)];exact C.dn.ge hk (C.owners nd hk h)
theorem Clo.card_lt{ln:Str->Int}{o:LG}(C:Clo rs ln o)(nd:∀r∈rs,r.owns.Nodup){k:Nat}(hk:k<=rs.length)(h:bO (rs.take k) c=some (j:Int))(b:j∉o):cnO (dnR rs o) c<cnO (rs.take k) c:=by
 obtain⟨a,l,e,g,hr,hc,_⟩:=(jC nd c k hk).2 _ h;have:a=j:=Yo;subst this;have f:atP rs (eC c) a=true:=fW.mpr ⟨l,hr,hc⟩;rw[kD nd,rT λr hr=>nd r (yN hr)];refine Nat.lt_of_le_of_lt (C.dn.le (k:=a) Yo λi le m d=>?_) (kR f g hk);by_cases z:i=a
 .exact b (z▸d)
 .exact b (C.chain nd c a i f m Yo d)
noncomputable def isP(f:Row->Option Str)(q:Str)(r:Row):Bool:=decide (f r=some q)
theorem eD{f:Row->Option Str}{q:Str}:atP rs (isP f q) j=true↔∃r,rs[j]?=some r/\f r=some q:=by
 unfold atP isP;cases rs[j]?<;>simp
theorem Clo.pre{ln:Str->Int}{o:LG}(C:Clo rs ln o)(nd:∀r∈rs,r.owns.Nodup){f:Row->Option Str}{q:Str}(own:∀r∈rs,f r=some q->c∈r.owns):Pre rs o (isP f q):=λi j e d=>by
 obtain⟨r,hr,h⟩:=eD.mp e;obtain⟨b,a,h'⟩:=eD.mp d;exact C.chain nd c i j (fW.mpr ⟨r,hr,own r (qI hr) h⟩) (fW.mpr ⟨b,a,own b (qI a) h'⟩)
theorem rR{o:LG}(D:DnO rs o){P:Row->Bool}(p:Pre rs o P)(b:atP rs P j=true)(a:j∈o):((rs.take j).filter P).length+1<=((dnR rs o).filter P).length:=by
 have l:=D.lt j a;refine qH (kR b (Qj j) l) (D.ge l λi _ h=>?_);by_cases z:i=j
 .rwa[z]
 .exact p i j h b Yo a
theorem rQ{o:LG}(D:DnO rs o){P:Row->Bool}(p:Pre rs o P)(l:j<rs.length)(c:atP rs P j=true)(b:j∉o):((dnR rs o).filter P).length<=((rs.take j).filter P).length:=
 D.le Yo λi le h a=>by
  by_cases z:i=j
  .exact b (z▸a)
  .exact b (p j i c h Yo a)
theorem lT{o:LG}(D:DnO rs o){P:Row->Bool}(p:Pre rs o P){k:Nat}(l:k<rs.length)(hk:atP rs P k=true)(a:k∉o)(all:∀i,i<k->atP rs P i=true->i∈o):((dnR rs o).filter P).length=((rs.take k).filter P).length:=
 Nat.le_antisymm (rQ D p l hk a) (D.ge Yo all)
theorem jJ(R:List Row)(q:Str):bal R q=((R.filter (isP Row.into q)).length:Int)-((R.filter (isP Row.outof q)).length:Int):=U
theorem fU(f:Row->Option Str)(rs:List Row)(q:Str):(ap f rs q).length=(rs.filter (isP f q)).length:=sy f q rs
theorem Clo.pin{ln:Str->Int}{o:LG}(C:Clo rs ln o)(R:cK rs)(q:Str):Pre rs o (isP Row.into q):=C.pre R.nd λr hr h=>R.pi r hr q h
theorem Clo.pout{ln:Str->Int}{o:LG}(C:Clo rs ln o)(R:cK rs)(q:Str):Pre rs o (isP Row.outof q):=C.pre R.nd λr hr h=>R.po r hr q h
theorem nj(R:cK rs){k:Nat}{q:Str}(h:rs[k]?=some r)(e:r.outof=some q):∃(j:Nat)(c:Row),(ap Row.into rs q).getD (ap Row.outof (rs.take k) q).length 0=(j:Int)/\rs[j]?=some c/\c.into=some q/\((rs.take j).filter (isP Row.into q)).length=((rs.take k).filter (isP Row.outof q)).length:=by
 have f:=mN R.fed h e
 have ex:(ap Row.into (rs.take rs.length) q)[(ap Row.outof (rs.take k) q).length]?=some ((ap Row.into rs q).getD (ap Row.outof (rs.take k) q).length 0):=by
  rw[qP,qu,qi f]
  rfl
 obtain⟨j,c,g,a,b,d⟩:=iN rs.length (qo _) _ _ ex;exact⟨j,c,g,a,b,by rwa[<- fU,<- fU]⟩
theorem EC{ln:Str->Int}{k:Nat}{q:Str}(a:r.outof=some q):((ap Row.into rs q).getD (ap Row.outof (rs.take k) q).length 0,("thing":Str),q)∈bX rs ln k r:=by
 unfold bX dy;rw[a];exact Q5 _ (qQ _ (Q0.mpr U))
theorem Clo.bal_pos{ln:Str->Int}{o:LG}(C:Clo rs ln o)(R:cK rs)(q:Str):0<=bal (dnR rs o) q:=by
 rw[jJ]
 have:((dnR rs o).filter (isP Row.outof q)).length<=((dnR rs o).filter (isP Row.into q)).length:=by
  rw[mQ rs (isP Row.outof q)];by_cases z:∃g,g∈o/\atP rs (isP Row.outof q) g=true
  .have D:∀m,(∃g,g∈o/\atP rs (isP Row.outof q) g=true/\g<m)->∃g,g∈o/\atP rs (isP Row.outof q) g=true/\g<m/\∀x,x∈o->atP rs (isP Row.outof q) x=true->x<m->x<=g:=λm=>by
    induction m with
    |zero=>rintro⟨g,_,_,h⟩;omega
    |succ m B=>
     rintro⟨g,go,f,lt⟩;by_cases y:m∈o/\atP rs (isP Row.outof q) m=true
     .exact⟨m,y.1,y.2,Qj _,λx _ _ h=>Yo⟩
     .obtain⟨g',a,b,c,d⟩:=B ⟨g,go,f,by
       have:g≠m:=λe=>y ⟨e▸go,e▸f⟩
       omega⟩
      refine⟨g',a,b,Yo,λx n t h=>?_⟩;have:x≠m:=λe=>y ⟨e▸n,e▸t⟩;exact d x n t Yo
   obtain⟨E,p,u⟩:=z;obtain⟨g,go,f,_,top⟩:=D rs.length ⟨E,p,u,C.dn.lt _ p⟩;obtain⟨r,hr,v⟩:=eD.mp f;obtain⟨j,F,e,A,s,num⟩:=nj R hr v;obtain⟨x,ex,n⟩:=C.wt g r go hr _ (EC v);have:x=j:=Yo;subst this;have a:=rR C.dn (C.pin R q) (eD.mpr ⟨F,A,s⟩) n;rw[<- mQ rs (isP Row.outof q)];have l:=C.dn.lt g go
   have b:=C.dn.le (P:=isP Row.outof q) (k:=g+1) l λi le s w=>by
    have:=top i w s (C.dn.lt i w);omega
   have c:((rs.take (g+1)).filter (isP Row.outof q)).length=((rs.take g).filter (isP Row.outof q)).length+1:=by
    rw[eR _ _ _ l,eR _ _ _ Yo,NC,Qa f]
   omega
  .rw[List.filter_eq_nil_iff.mpr λg go e=>z ⟨g,go,e⟩];exact qC _
 omega
theorem Clo.thing{ln:Str->Int}{o:LG}(C:Clo rs ln o)(R:cK rs){k:Nat}{q:Str}(h:rs[k]?=some r)(u:k∉o)(g:r.outof=some q)(all:∀i,i<k->atP rs (eC (q++("<":Str))) i=true->i∈o):bQ o ((ap Row.into rs q).getD (ap Row.outof (rs.take k) q).length 0,("thing":Str),q)↔bal (dnR rs o) q≠0:=by
 have s:=(qp.mp h).1;obtain⟨j,l,e,a,b,num⟩:=nj R h g
 have v:=lT C.dn (C.pout R q) s (eD.mpr ⟨r,h,g⟩) u λi lt b=>by
  obtain⟨f,c,p⟩:=eD.mp b;exact all i lt (fW.mpr ⟨f,c,R.po f (qI c) q p⟩)
 have d:=eD.mpr ⟨l,a,b⟩;have t:=(qp.mp a).1;have n:=C.bal_pos R q;rw[jJ]at n ⊢;rw[e];constructor
 .rintro⟨x,ex,m⟩;have ex:(j:Int)=(x:Int):=ex;have:x=j:=Yo;subst this;have:=rR C.dn (C.pin R q) d m;omega
 .intro _;by_cases jo:j∈o
  .exact⟨j,U,jo⟩
  .have:=rQ C.dn (C.pin R q) t d jo;omega
theorem Clo.room{ln:Str->Int}{o:LG}(C:Clo rs ln o)(R:cK rs){k:Nat}{q:Str}(h:rs[k]?=some r)(s:k∉o)(c:r.into=some q)(all:∀i,i<k->atP rs (eC (q++(">":Str))) i=true->i∈o):(∀e∈cX rs ln k r,bQ o e)↔bal (dnR rs o) q<ln q:=by
 have F:=(qp.mp h).1
 have A:=lT C.dn (C.pin R q) F (eD.mpr ⟨r,h,c⟩) s λi lt c=>by
  obtain⟨m,f,D⟩:=eD.mp c;exact all i lt (fW.mpr ⟨m,f,R.pi m (qI f) q D⟩)
 have y:=fU Row.into (rs.take k) q;have H:=fU Row.outof rs q;rw[jJ,A,<- y];unfold cX gu;rw[c];show(∀e∈(if 0<=((ap Row.into (rs.take k) q).length:Int)-ln q then[(awaited rs.length (ap Row.outof rs q) (((ap Row.into (rs.take k) q).length:Int)-ln q).toNat,("room":Str),q)]else[]),bQ o e)↔_;by_cases z:0<=((ap Row.into (rs.take k) q).length:Int)-ln q
 .rw[Qa z];unfold awaited;by_cases t:(((ap Row.into (rs.take k) q).length:Int)-ln q).toNat<(ap Row.outof rs q).length
  .rw[Qa t]
   have ex:(ap Row.outof (rs.take rs.length) q)[(((ap Row.into (rs.take k) q).length:Int)-ln q).toNat]?=some ((ap Row.outof rs q).getD (((ap Row.into (rs.take k) q).length:Int)-ln q).toNat 0):=by
    rw[qP,qu,qi t]
    rfl
   obtain⟨j,B,E,a,b,d⟩:=iN rs.length (qo _) _ _ ex;rw[fU]at d;have G:=(qp.mp a).1;have g:=eD.mpr ⟨B,a,b⟩;rw[E];constructor
   .intro w;obtain⟨x,ex,l⟩:=w _ (Q0.mpr U);have ex:(j:Int)=(x:Int):=ex;have:x=j:=Yo;subst this;have:=rR C.dn (C.pout R q) g l;omega
   .intro lt e p;rw[Q0.mp p];by_cases jo:j∈o
    .exact⟨j,U,jo⟩
    .have:=rQ C.dn (C.pout R q) G g jo;omega
  .rw[Q9 t];obtain⟨rl,hl⟩:∃rl,rs[rs.length-1]?=some rl:=⟨_,qi Yo⟩;obtain⟨l1,l2,v⟩:=R.ends _ hl
   have no:rs.length-1∉o:=λu=>by
    have n:=qI h
    have ne:k≠rs.length-1:=λe=>by
     rw[<- e,h]at hl;rw[<- qR hl,c]at l1;cases l1
    exact s (C.chain R.nd (q++(">":Str)) k (rs.length-1) (fW.mpr ⟨r,h,R.pi r n q c⟩) (fW.mpr ⟨_,hl,v r n _ (R.pi r n q c)⟩) Yo u)
   have top:=C.dn.le (P:=isP Row.outof q) (k:=rs.length) (qo _) λj le g=>by
    obtain⟨m,f,_⟩:=eD.mp g;have:=(qp.mp f).1;omega
   rw[qP]at top;constructor
   .intro w;obtain⟨x,ex,l⟩:=w _ (Q0.mpr U);have:x=rs.length-1:=Yo;exact Qd (this▸l) no
   .intro lt;omega
 .rw[Q9 z];exact⟨λ_=>Yo,λ_ e p=>by simp at p⟩
theorem Clo.card_iff{ln:Str->Int}{o:LG}(C:Clo rs ln o)(R:cK rs){k:Nat}(h:rs[k]?=some r):(∀e∈dr (rs.take k) r,bQ o e)↔eQ rs (dnR rs o) k r:=by
 have m:=(qp.mp h).1
 have mem:∀{d:Str}{b:LS}{e:Wat},e∈du (bO (rs.take k)) d b↔∃c∈b,∃n,bO (rs.take k) c=some n/\e=(n,d,c):=λ{d b e}=>by
  unfold du;constructor
  .intro a;obtain⟨c,hc,l⟩:=List.mem_filterMap.mp a;obtain⟨n,hn,g⟩:=qX.mp l;exact⟨c,hc,n,hn,g.symm⟩
  .rintro⟨c,hc,n,hn,rfl⟩;exact List.mem_filterMap.mpr ⟨c,hc,by rw[hn];rfl⟩
 unfold dr eQ;constructor
 .intro w c hc;refine C.card_ge R.nd Yo λj f=>?_
  have:bQ o ((j:Int),(if c∈r.owns then("card":Str)else "copy"),c):=by
   refine w _ (qr.mpr ?_);by_cases z:c∈r.owns
   .rw[Qa z];exact .inl (mem.mpr ⟨c,z,_,f,U⟩)
   .rw[Q9 z];exact .inr (mem.mpr ⟨c,hc.resolve_left z,_,f,U⟩)
  obtain⟨x,ex,i⟩:=this;have:x=j:=Yo;exact this▸i
 .intro ok e a
  have fin:∀c,(c∈r.owns\/c∈r.reads)->∀n,bO (rs.take k) c=some n->∃j:Nat,n=(j:Int)/\j∈o:=λc hc n hn=>by
   obtain⟨j,_,rfl,_⟩:=(jC R.nd c k Yo).2 n hn;exists j,U;by_cases jo:j∈o
   .exact jo
   .have:=C.card_lt R.nd Yo hn jo;have:=ok c hc;omega
  rcases qr.mp a with a|a
  .obtain⟨c,hc,n,hn,rfl⟩:=mem.mp a;exact fin c (.inl hc) n hn
  .obtain⟨c,hc,n,hn,rfl⟩:=mem.mp a;exact fin c (.inr hc) n hn
theorem Clo.own_all{ln:Str->Int}{o:LG}(C:Clo rs ln o)(R:cK rs){k:Nat}(h:rs[k]?=some r)(ok:eQ rs (dnR rs o) k r)(hc:c∈r.owns):∀i,i<k->atP rs (eC c) i=true->i∈o:=by
 have b:=(qp.mp h).1;refine C.owners R.nd Yo λj a=>?_;by_cases jo:j∈o
 .exact jo
 .have:=C.card_lt R.nd Yo a jo;have:=ok c (.inl hc);omega
theorem Clo.thing_iff{ln:Str->Int}{o:LG}(C:Clo rs ln o)(R:cK rs){k:Nat}(h:rs[k]?=some r)(b:k∉o)(ok:eQ rs (dnR rs o) k r):(∀e∈dy rs k r,bQ o e)↔gy (dnR rs o) r:=by
 unfold dy gy
 cases ho:r.outof with
 |none=>exact⟨λ_ q z=>(by cases z),λ_ e a=>by simp at a⟩
 |some q=>
  have t:=C.thing R h b ho (C.own_all R h ok (R.po r (qI h) q ho));exact⟨λw _ z=>by cases z;exact t.mp (w _ (Q0.mpr U)),λw e a=>by rw[Q0.mp a];exact t.mpr (w q U)⟩
theorem Clo.room_iff{ln:Str->Int}{o:LG}(C:Clo rs ln o)(R:cK rs){k:Nat}(h:rs[k]?=some r)(b:k∉o)(ok:eQ rs (dnR rs o) k r):(∀e∈cX rs ln k r,bQ o e)↔ir ln (dnR rs o) r:=by
 unfold ir
 cases hi:r.into with
 |none=>
  unfold cX;rw[hi];exact⟨λ_ q z=>(by cases z),λ_ e a=>by simp at a⟩
 |some q=>
  have t:=C.room R h b hi (C.own_all R h ok (R.pi r (qI h) q hi));exact t.trans ⟨λw _ z=>by cases z;exact w,λw=>w q U⟩
theorem mO(R:cK rs){ln:Str->Int}{k:Nat}(h:rs[k]?=some r):∀e∈bX rs ln k r,e.2.1≠("room":Str)->∃j:Nat,e.1=(j:Int)/\j<k:=λe a l=>by
 have p:=(qp.mp h).1
 have card:∀{g:Str}{f:LS},e∈du (bO (rs.take k)) g f->∃j:Nat,e.1=(j:Int)/\j<k:=λ{g f} a=>by
  unfold du at a;obtain⟨c,hc,d⟩:=List.mem_filterMap.mp a;obtain⟨n,hn,rfl⟩:=qX.mp d;obtain⟨j,m,o,lt,_⟩:=(jC R.nd c k Yo).2 n hn;exact⟨j,o,lt⟩
 unfold bX dr at a;rw[qr,qr,qr]at a;rcases a with((a|a)|a)|a
 .exact card a
 .exact card a
 .unfold dy at a
  cases eo:r.outof with
  |none=>rw[eo]at a;simp at a
  |some q=>
   rw[eo]at a;rw[Q0.mp a];obtain⟨j,m,d,i,_,num⟩:=nj R h eo;exists j,d;have b:=R.fed k r q h eo;rw[jJ]at b;by_cases z:j<k
   .exact z
   .have s:=(qp.mp i).1;have:=kM (atP rs (isP Row.into q)) (show k<=j by omega);rw[<- eR _ _ _ Yo,<- eR _ _ _ Yo]at this;omega
 .unfold cX at a;split at a
  .split at a
   .exact Qd (by rw[Q0.mp a]) l
   .simp at a
  .simp at a
theorem C4(R:cK rs){ln:Str->Int}{ps:List (Nat×Wat)}(h0:ps≠[])(k:∀p∈ps,∃r,rs[p.1]?=some r/\p.2∈bX rs ln p.1 r)(next:∀i p,ps[i]?=some p->∃d,ps[(i+1) % ps.length]?=some d/\p.2.1=(d.1:Int)):∃p∈ps,p.2.2.1=("room":Str):=by
 by_cases z:∃p∈ps,p.2.2.1=("room":Str)
 .exact z
 have h:0<ps.length:=List.length_pos_iff.mpr h0
 have down:∀i p d,ps[i]?=some p->ps[(i+1) % ps.length]?=some d->d.1<p.1:=λi p d c g=>by
  have m:=qI c;obtain⟨r,hr,hd⟩:=k p m;obtain⟨j,_,lt⟩:=mO R hr p.2 hd λe=>z ⟨p,m,e⟩;obtain⟨_,f,_⟩:=next i p c
  rw[g]at f;cases f;omega
 have first:ps[0]?=some (ps[0]'h):=qi _
 have all:∀(i:Nat)(p:Nat×Wat),ps[i]?=some p->p.1<=(ps[0]'h).1:=λi=>by
  induction i with
  |zero=>intro p c;rw[first]at c;cases c;exact qo _
  |succ i n=>
   intro p c;have o:=(qp.mp c).1;have l:ps[i]?=some (ps[i]' Yo):=qi _;have:=n _ l;have:=down i _ p l (by rwa[Nat.mod_eq_of_lt o]);omega
 have hl:ps[ps.length-1]?=some (ps[ps.length-1]' Yo):=qi _;have a:=all _ _ hl;have b:=down (ps.length-1) _ _ hl (by rwa[show ps.length-1+1=ps.length by omega,Nat.mod_self]);omega
theorem bQ.more{o a:LG}(h:∀j∈o,j∈a){e:Wat}:bQ o e->bQ a e:=λ⟨j,b,c⟩=>⟨j,b,h j c⟩
theorem LkI.start(W:List (List Wat)):LkI W 0 [] [] (λ_=>0) (λ_=>[]):=
 ⟨List.nodup_nil,λk h=>(nomatch h),λt k h=>by simp at h,λ_=>qC _,λk e h=>by simp at h,List.nodup_nil,λk h=>(nomatch h),λ_ _=>List.nodup_nil,λ_ _ k h=>(nomatch h),λk h=>Qd h (QG k)⟩
theorem LkI.push{W:List (List Wat)}{m:Nat}{o:LG}(I:LkI W m o [] zs st):LkI W (m+1) o [m] zs st:=
 ⟨I.nd,λk h=>Qy (I.lt k h),I.ord,I.zl,I.zd,Qz _ _,λk h=>by
  rw[Q0.mp h]
  exact⟨Qj m,λz=>Qk m (I.lt m z)⟩,I.sn,λw hw k hk=>by
  obtain⟨a,b,_,d⟩:=I.so w hw k hk
  exact⟨Qy a,b,λz=>by rw[Q0.mp z]at a;exact Qk m a,d⟩,λk h=>by
  by_cases e:k=m
  .exact .inr (.inl (Q0.mpr e))
  .rcases I.al k Yo with a|a|a
   .exact .inl a
   .exact(nomatch a)
   .exact .inr (.inr a)⟩
theorem LkI.over{W:List (List Wat)}{m:Nat}{o R:LG}(I:LkI W m o R zs st){x z:Nat}(g:x∈R)(f:z<=(wsV W x).length)(hd:∀e∈(wsV W x).take z,bQ o e):LkI W m o R (λk=>if k=x then z else zs k) st:=
 ⟨I.nd,I.lt,I.ord,λk=>by
  show(if k=x then z else zs k)<=_;by_cases e:k=x
  .rwa[Qa e,e]
  .rw[Q9 e];exact I.zl k,λk e=>by
  show e∈(wsV W k).take (if k=x then z else zs k)->_;by_cases c:k=x
  .rw[Qa c,c];exact hd e
  .rw[Q9 c];exact I.zd k e,I.rn,I.ro,I.sn,λw hw k hk=>by
  obtain⟨a,b,c,d⟩:=I.so w hw k hk;exists a,b,c;have nx:¬ k=x:=λe=>c (by rwa[e]);show ∃e,(wsV W k)[if k=x then z else zs k]?=some e/\e.1=(w:Int);rw[Q9 nx]
  exact d,I.al⟩
theorem LkI.done{W:List (List Wat)}{m:Nat}{o R:LG}{x:Nat}(I:LkI W m o (R++[x]) zs st)(all:∀e∈wsV W x,bQ o e):LkI W m (o++[x]) (R++st x) zs st:=by
 obtain⟨v,f⟩:=I.ro x (qQ _ (Q0.mpr U));have rn:=List.nodup_append.mp I.rn;have n:∀{k},k∈o->k∈o++[x]:=λh=>Q5 _ h;have no:∀{w},w∉o++[x]->w∉o/\w≠x:=λh=>⟨λz=>h (n z),λz=>h (qQ _ (Q0.mpr z))⟩;have d:∀{k},k∉o->k≠x->k∉o++[x]:=λq y z=>(qr.mp z).elim q λz=>y (Q0.mp z);have g:∀{k},k∈R->k∈R++[x]:=λh=>Q5 _ h;have p:x∈R++[x]:=qQ _ (Q0.mpr U);refine⟨?_,?_,?_,I.zl,λk e h=>(I.zd k e h).more λj=>n,?_,?_,λw hw=>I.sn w (no hw).1,?_,?_⟩
 .rw[List.nodup_append];exact⟨I.nd,Qz _ _,λa ha b hb z=>f (by rwa[<- Q0.mp hb,<- z])⟩
 .intro k hk;rcases qr.mp hk with hk|hk
  .exact I.lt k hk
  .rwa[Q0.mp hk]
 .intro t k hk e i;by_cases tl:t<o.length
  .rw[Qe tl]at hk;rw[List.take_append_of_le_length Yo];exact I.ord t k hk e i
  .rw[qT Yo]at hk
   have:t-o.length=0:=by
    have:=(qp.mp hk).1;simp at this;omega
   rw[this]at hk;cases hk;have:t=o.length:=Yo;rw[this,List.take_left];exact all e i
 .rw[List.nodup_append];exact⟨rn.1,I.sn x f,λa ha b hb z=>(I.so x f b hb).2.2.1 (by rw[<- z];exact g ha)⟩
 .intro k hk;rcases qr.mp hk with hk|hk
  .obtain⟨a,b⟩:=I.ro k (g hk);exact⟨a,d b λz=>rn.2.2 k hk x (Q0.mpr U) z⟩
  .obtain⟨a,b,c,_⟩:=I.so x f k hk;exact⟨a,d b λz=>c (z▸p)⟩
 .intro w hw k hk;obtain⟨r,u⟩:=no hw;obtain⟨a,b,c,e,i,s⟩:=I.so w r k hk;refine⟨a,d b λz=>c (z▸p),λz=>?_,e,i,s⟩;rcases qr.mp z with z|z
  .exact c (g z)
  .obtain⟨_,_,_,_,l,_⟩:=I.so x f k z;rw[i]at l;cases l;exact u Yo
 .intro k hk;rcases I.al k hk with a|a|⟨w,hw,a⟩
  .exact .inl (n a)
  .rcases qr.mp a with a|a
   .exact .inr (.inl (Q5 _ a))
   .exact .inl (qQ _ a)
  .by_cases z:w=x
   .exact .inr (.inl (qQ _ (z▸a)))
   .exact .inr (.inr ⟨w,d hw z,a⟩)
theorem LkI.stick{W:List (List Wat)}{m:Nat}{o R:LG}{x w:Nat}{e:Wat}(I:LkI W m o (R++[x]) zs st)(q:(wsV W x)[zs x]?=some e)(l:e.1=(w:Int))(i:w∉o):LkI W m o R zs (λk=>if k=w then st w++[x]else st k):=by
 have j:x∈R++[x]:=qQ _ (Q0.mpr U);obtain⟨p,n⟩:=I.ro x j;have rn:=List.nodup_append.mp I.rn;have g:∀{k},k∈R->k∈R++[x]:=λh=>Q5 _ h;refine⟨I.nd,I.lt,I.ord,I.zl,I.zd,rn.1,λk h=>I.ro k (g h),λv f=>?_,λv f k hk=>?_,λk hk=>?_⟩
 .show(if v=w then st w++[x]else st v).Nodup;by_cases z:v=w
  .rw[Qa z,List.nodup_append];exact⟨I.sn w i,Qz _ _,λa ha b hb z=>(I.so w i a ha).2.2.1 (by rwa[z,Q0.mp hb])⟩
  .rw[Q9 z];exact I.sn v f
 .have hk:k∈(if v=w then st w++[x]else st v):=hk;by_cases z:v=w
  .rw[Qa z]at hk;rcases qr.mp hk with hk|hk
   .obtain⟨a,b,c,d⟩:=I.so w i k hk;exact⟨a,b,λy=>c (g y),z▸d⟩
   .rw[Q0.mp hk];exact⟨p,n,λy=>rn.2.2 x y x (Q0.mpr U) U,e,q,z▸l⟩
  .rw[Q9 z]at hk;obtain⟨a,b,c,d⟩:=I.so v f k hk;exact⟨a,b,λy=>c (g y),d⟩
 .rcases I.al k hk with a|a|⟨v,f,a⟩
  .exact .inl a
  .rcases qr.mp a with a|a
   .exact .inr (.inl a)
   .refine .inr (.inr ⟨w,i,?_⟩);show k∈(if w=w then st w++[x]else st w);rw[Qa U];exact qQ _ a
  .refine .inr (.inr ⟨v,f,?_⟩);show k∈(if v=w then st w++[x]else st v);by_cases z:v=w
   .rw[Qa z,<- z];exact Q5 _ a
   .rwa[Q9 z]
theorem jL{H:Hp}:∀{vs:LV}{es:List Wat},RWs H vs es->∀{i:Nat}{e:Wat},es[i]?=some e->∃p,vs[i]?=some (.ref p)/\H p=some (eF e)
 |_,_,.nil,i,e,h=>by simp at h
 |_,_,.cons h1 r,0,e,h=>by cases h;exact⟨_,U,h1⟩
 |_,_,.cons _ r,i+1,e,h=>jL r h
theorem bB.put(M:bB H0 H ow cn)(i:Nat){x:Addr}{o:HO}(h:ow[i]?=some x):bB H0 (upd H x o) ow (cn.set i o):=
 ⟨λc p hc=>by rw[af λz=>by rw[z,M.nw x (qI h)]at hc;cases hc];exact M.sa c p hc,M.nd,M.nw,λ{j y p} b a=>by
  by_cases e:i=j
  .subst e;rw[h]at b;cases b;rw[List.getElem?_set_self']at a
   cases hc:cn[i]? with
   |none=>rw[hc]at a;cases a
   |some q=>rw[hc]at a;rw[<- qR a];exact ah
  .rw[List.getElem?_set_ne e]at a;rw[af λz=>e ((List.getElem?_inj (qp.mp h).1 M.nd).mp (by rw[h,b,z]))]
   exact M.av b a⟩
theorem bB.same(M:bB H0 H ow cn)(s:a9 H H'):bB H0 H' ow cn:=⟨M.sa.trans s,M.nd,M.nw,λb a=>s _ _ (M.av b a)⟩
theorem bB.low{G:Hp}(M:bB G H ow cn)(s:a9 H0 G):bB H0 H ow cn:=⟨s.trans M.sa,M.nd,λx a=>a9.none s (M.nw x a),M.av⟩
theorem bB.side{G:Hp}(M:bB G H ow cn){c:Addr}(hc:c∉ow)(o:HO):bB (upd G c o) (upd H c o) ow cn:=
 ⟨λx p a=>by
  by_cases e:x=c
  .rw[e,ah]at a ⊢;exact a
  .rw[af e]at a ⊢;exact M.sa x p a,M.nd,λx a=>by rw[af λz=>hc (by rwa[<- z])];exact M.nw x a,λ{i x p} b d=>by rw[af λz=>hc (by rw[<- z];exact qI b)];exact M.av b d⟩
theorem iF{G:Hp}(s:a9 H0 G){c:Addr}(h:H0 c=none)(o:HO):a9 H0 (upd G c o):=λx p a=>by
 rw[af λz=>by rw[z,h]at a;cases a];exact s x p a
theorem rC(f g:Nat->α)(n x:Nat)(v:α)(h:∀j,g j=if j=x then v else f j):((List.range n).map f).set x v=(List.range n).map g:=by
 refine List.ext_getElem? λj=>?_;rw[qM];by_cases hj:j<n
 .rw[List.getElem?_range hj];show _=some (g j);rw[h j];by_cases e:x=j
  .subst e;rw[List.getElem?_set_self (by rwa[qc,Qm]),Qa U]
  .rw[List.getElem?_set_ne e,qM,List.getElem?_range hj,Q9 (Ne.symm e)]
   rfl
 .rw[Qx (by rw[List.length_set,qc,Qm];omega),Qx (by rw[Qm];omega)]
  rfl
theorem LkS.same{H H':Hp}{L:LkA}{W:List (List Wat)}(S:LkS a H L W)(s:a9 H H'):LkS a H' L W:=⟨s _ _ S.ob,s _ _ S.sk,S.ql,s _ _ S.hw,S.rl.same s,S.sm,S.tg,S.few⟩
section
variable {L:LkA}{W:List (List Wat)}{o:LG}
theorem LkH.od(M:LkH H0 H L W o zs st):H L.lo=some (.lst (bF o)):=bB.av M (i:=0) U U
theorem LkH.fi(M:LkH H0 H L W o zs st):H L.lf=some (.lst ((List.range W.length).map λj:Nat=>V.bl (decide (j∈o)))):=bB.av M (i:=1) U U
theorem LkH.ov(M:LkH H0 H L W o zs st):H L.lv=some (.lst ((List.range W.length).map λj:Nat=>V.int (zs j))):=bB.av M (i:=2) U U
theorem LkH.q(M:LkH H0 H L W o zs st){q:Addr}(a:L.qs[j]?=some q)(b:j<W.length):H q=some (.lst (bF (st j))):=bB.av M (i:=j+3) a (by
 show((List.range W.length).map _)[j]?=_;rw[qM,List.getElem?_range b]
 rfl)
theorem LkH.set(M:LkH H0 H L W o zs st){x z:Nat}:LkH H0 (upd H L.lv (.lst (((List.range W.length).map λj:Nat=>V.int (zs j)).set x (.int z)))) L W o (λk=>if k=x then z else zs k) st:=by
 rw[rC _ (λj:Nat=>V.int ((λk=>if k=x then z else zs k) j)) _ _ _ λj=>by show V.int ((if j=x then z else zs j:Nat):Int)=_;split<;>rfl];exact bB.put M 2 U
theorem LkH.ord(M:LkH H0 H L W o zs st){x:Nat}:bB H0 (upd H L.lo (.lst (bF o++[.int x]))) (L.lo::L.lf::L.lv::L.qs) (.lst (bF (o++[x]))::(cnL W.length o zs st).tail):=by
 rw[show bF o++[V.int x]=bF (o++[x])by unfold bF;rw[qW];rfl];exact bB.put M 0 U
theorem LkH.fin{x:Nat}(M:bB H0 H (L.lo::L.lf::L.lv::L.qs) (.lst (bF (o++[x]))::(cnL W.length o zs st).tail)):LkH H0 (upd H L.lf (.lst (((List.range W.length).map λj:Nat=>V.bl (decide (j∈o))).set x (.bl true)))) L W (o++[x]) zs st:=by
 rw[rC _ (λj:Nat=>V.bl (decide (j∈o++[x]))) _ _ _ λj=>by
  by_cases e:j=x
  .rw[Qa e,e,Qb (qQ _ (Q0.mpr U))]
  .rw[Q9 e]
   exact congrArg V.bl (decide_eq_decide.mpr ⟨λh=>(qr.mp h).resolve_right λz=>e (Q0.mp z),λh=>Q5 _ h⟩)]
 exact bB.put M 1 U
theorem LkH.stk(M:LkH H0 H L W o zs st){w x:Nat}{q:Addr}(a:L.qs[w]?=some q):LkH H0 (upd H q (.lst (bF (st w)++[.int x]))) L W o zs (λk=>if k=w then st w++[x]else st k):=by
 have h:=bB.put M (w+3) (o:=.lst (bF (st w)++[.int x])) a
 have e:(cnL W.length o zs st).set (w+3) (.lst (bF (st w)++[.int x]))=cnL W.length o zs (λk=>if k=w then st w++[x]else st k):=by
  show _::_::_::((List.range W.length).map _).set w _=_::_::_::(List.range W.length).map _
  rw[rC _ (λj:Nat=>HO.lst (bF ((λk=>if k=w then st w++[x]else st k) j))) _ _ _ λj=>by
   show HO.lst (bF (if j=w then st w++[x]else st j))=_;split
   .unfold bF;rw[qW];rfl
   .rfl]
 rw[e]at h;exact h
theorem LkH.has(M:LkH H0 H L W o zs st)(ql:L.qs.length=W.length){x:Addr}(b:x∈L.lo::L.lf::L.lv::L.qs):H x≠none:=by
 obtain⟨i,a⟩:=List.mem_iff_getElem?.mp b;have lt:=(qp.mp a).1;have l2:(cnL W.length o zs st).length=L.qs.length+3:=by simp[cnL,ql]
 rw[bB.av M a (qi (by rwa[l2]))];exact λz=>by cases z
end
theorem yw{x z:Nat}(h:z=zs x):(λk=>if k=x then z else zs k)=zs:=funext λk=>by
 by_cases e:k=x
 .rw[Qa e,h,e]
 .rw[Q9 e]
theorem mG(h:i<n):ixN n (i:Int)=some i:=by
 unfold ixN;rw[Qa Yo,Qa Yo];simp
theorem ER{a b c d e:V}:List.lookup ("waits":Str) [(("waits":Str),a),("order",b),("finished",c),("over",d),("stuck",e)]=some a:=ie
theorem mq{a b c d e:V}:List.lookup ("order":Str) [(("waits":Str),a),("order",b),("finished",c),("over",d),("stuck",e)]=some b:=(dX Yd).trans ie
theorem sJ{a b c d e:V}:List.lookup ("finished":Str) [(("waits":Str),a),("order",b),("finished",c),("over",d),("stuck",e)]=some c:=(dX Yd).trans ((dX Yd).trans ie)
theorem mh{a b c d e:V}:List.lookup ("over":Str) [(("waits":Str),a),("order",b),("finished",c),("over",d),("stuck",e)]=some d:=(dX Yd).trans ((dX Yd).trans ((dX Yd).trans ie))
theorem yc{a b c d e:V}:List.lookup ("stuck":Str) [(("waits":Str),a),("order",b),("finished",c),("over",d),("stuck",e)]=some e:=(dX Yd).trans ((dX Yd).trans ((dX Yd).trans ((dX Yd).trans ie)))
theorem my{f:Str}(h:f∉(["waits","order","finished","over","stuck"]:LS)){a b c d e:V}:List.lookup f [(("waits":Str),a),("order",b),("finished",c),("over",d),("stuck",e)]=none:=by
 have n:∀{g:Str},g∈(["waits","order","finished","over","stuck"]:LS)->(f == g)=false:=λi=>beq_eq_false_iff_ne.mpr λz=>h (z▸i);simp only[List.lookup,n (show("waits":Str)∈_ by simp),n (show("order":Str)∈_ by simp),n (show("finished":Str)∈_ by simp),n (show("over":Str)∈_ by simp),n (show("stuck":Str)∈_ by simp)]
structure fH(H G:Hp)(b:Addr)(o:HO)(ow:LK)(cn:List HO):Prop where
 off:∀c p,c≠b->H c=some p->G c=some p
 hb:G b=some o
 nd:ow.Nodup
 nb:b∉ow
 nw:∀x∈ow,H x=none
 len:cn.length=ow.length
 av:∀{i:Nat}{x:Addr}{p:HO},ow[i]?=some x->cn[i]?=some p->G x=some p
theorem fH.grow{G:Hp}{o:HO}(M:fH H G b o ow cn){x:Addr}(f:G x=none)(p:HO):fH H (upd G x p) b o (ow++[x]) (cn++[p]):=by
 have k:x≠b:=λz=>by rw[z,M.hb]at f;cases f
 have l:∀{y},y∈ow->y≠x:=λd z=>by
  obtain⟨i,a⟩:=List.mem_iff_getElem?.mp d;have lt:=(qp.mp a).1;have:=M.av a (qi (by rwa[M.len]));rw[z,f]at this;cases this
 have h0:H x=none:=by
  cases e:H x with
  |none=>rfl
  |some q=>rw[M.off x q k e]at f;cases f
 refine⟨λc q n h=>a9.new f _ _ _ (M.off c q n h),a9.new f _ _ _ M.hb,?_,λz=>?_,λy d=>?_,by rw[qh,qh,M.len];rfl,λ{i y q} a g=>?_⟩
 .rw[List.nodup_append];exact⟨M.nd,Qz _ _,λy d z m=>by rw[Q0.mp m];exact l d⟩
 .rcases qr.mp z with z|z
  .exact M.nb z
  .exact k (Q0.mp z).symm
 .rcases qr.mp d with d|d
  .exact M.nw y d
  .rwa[Q0.mp d]
 .by_cases lt:i<ow.length
  .rw[Qe lt]at a;rw[Qe (by rwa[M.len])]at g;exact a9.new f _ _ _ (M.av a g)
  .rw[qT Yo]at a;rw[qT (by rw[M.len];omega),M.len]at g
   cases e:i-ow.length with
   |zero=>rw[e]at a g;cases a;cases g;exact ah
   |succ j=>rw[e]at a;simp at a
theorem fH.put{G:Hp}{o:HO}(M:fH H G b o ow cn)(d:HO):fH H (upd G b d) b d ow cn:=
 ⟨λc q n h=>by rw[af n];exact M.off c q n h,ah,M.nd,M.nb,M.nw,M.len,λ{i y q} a e=>by rw[af λz=>M.nb (by rw[<- z];exact qI a)];exact M.av a e⟩
theorem Ec:Ω T base 1 a.HM a.HN ["self","waits"] (we a):=by
 refine T.KP.ok BK ?_;rintro _ A _ s H _ Q E _⟨b,g,e,us,rfl,hb,hw,hl,k⟩
 refine⟨_,(ag (i4 (pq 0) (pq 1) U)
  (ag (i4 (pq 0) (ba ac) U)
  (ag (i4 (pq 0) (fQ (k:=1) (Nc:=["deed"]) (js:=[]) (show bg (aD jn) ["self","waits"] _ 1 ["deed"] []from bg.mk U (by decide +kernel) (by decide +kernel) (by decide +kernel) U (by decide +kernel)) U (ce (pq 1)) (λ_ _ _ _ _=>(aI (i:=0) (show List.Nodup (["deed"]:LS)from by decide +kernel) U Oi)) (λ_ _ _ _ _=>gh) (λ_ _ _ _ _=>cq)) U)
  (ag (i4 (pq 0) (fQ (k:=1) (Nc:=["deed"]) (js:=[]) (show bg (aD jn) ["self","waits"] _ 1 ["deed"] []from bg.mk U (by decide +kernel) (by decide +kernel) (by decide +kernel) U (by decide +kernel)) U (ce (pq 1)) (λ_ _ _ _ _=>(aI (i:=0) (show List.Nodup (["deed"]:LS)from by decide +kernel) U Oi)) (λ_ _ _ _ _=>gh) (λ_ _ _ _ _=>aa)) U)
  (aj (i4 (pq 0) (fQ (k:=1) (Nc:=["deed"]) (js:=[]) (show bg (aD jn) ["self","waits"] _ 1 ["deed"] []from bg.mk U (by decide +kernel) (by decide +kernel) (by decide +kernel) U (by decide +kernel)) U (ce (pq 1)) (λ_ _ _ _ _=>(aI (i:=0) (show List.Nodup (["deed"]:LS)from by decide +kernel) U Oi)) (λ_ _ _ _ _=>gh) (λ_ _ _ _ _=>(ba ac))) U)))))),?_⟩
 walk_at "q";have nw:e≠b:=λz=>by rw[z,hb]at hw;cases hw
 have X:fH H H b _ [] []:=⟨λ_ _ _ h=>h,hb,List.nodup_nil,λz=>(nomatch z),λ_ z=>(nomatch z),U,λh=>by simp at h⟩;refine⟨_,U,_,U,b,a.dz,g,[],U,hb,T.f8,T.KL,by simp,?_⟩;rw[gG [] U Yd,Qt];have S:=X.put (.ins a.dz g [("waits",V.ref e)]);generalize upd H b (.ins a.dz g [("waits",V.ref e)])=H1 at S ⊢;refine⟨qC _,λd J=>?_⟩;have M2:=S.grow J (.lst []);refine⟨_,U,b,a.dz,g,_,U,M2.hb,T.f8,T.Cn,by simp,?_⟩;rw[gG ["waits"] U Yd];have t:fH H _ b (.ins a.dz g [("waits",V.ref e),("order",V.ref d)]) _ _:=M2.put (.ins a.dz g (([("waits",V.ref e)]:List (Str×V))++([("order",V.ref d)]:List (Str×V))));generalize upd (upd H1 d (.lst [])) b (.ins a.dz g (([("waits",V.ref e)]:List (Str×V))++([("order",V.ref d)]:List (Str×V))))=H2 at t ⊢;exists _,U,e,U,⟨_,SqL.of (t.off _ _ nw hw)⟩;refine iq (K:=K) (a:=e) (xs:=us) (λi ys l G=>(∃v,l=[v])/\G=H2/\ys=(List.range i).map λj:Nat=>V.bl (decide (j∈([]:LG)))) ⟨⟨_,U⟩,U,U⟩ ?_ (bf (m:=1000) hl) ?_ ?_ ?_
 .rintro i ys l G _ ⟨_,_,rfl⟩;rw[qc,Qm];exact qo _
 .rintro i ys l G ⟨_,rfl,_⟩;exact SqL.of (t.off _ _ nw hw)
 .rintro i x ys l G _ ⟨⟨v,rfl⟩,rfl,rfl⟩;exact⟨⟨_,U⟩,U,by rw[List.range_succ,qW];rfl⟩
 rintro ys l G ⟨_,rfl,rfl⟩ f I;have R:=t.grow I (.lst ((List.range us.length).map λj:Nat=>V.bl (decide (j∈([]:LG)))));refine⟨_,U,b,a.dz,g,_,U,R.hb,T.f8,T.HL,by simp,?_⟩;rw[gG ["waits","order"] U Yd];have u:fH H _ b (.ins a.dz g [("waits",V.ref e),("order",V.ref d),("finished",V.ref f)]) _ _:=R.put (.ins a.dz g (([("waits",V.ref e),("order",V.ref d)]:List (Str×V))++([("finished",V.ref f)]:List (Str×V))));generalize upd (upd G f (.lst ((List.range us.length).map λj:Nat=>V.bl (decide (j∈([]:LG)))))) b (.ins a.dz g (([("waits",V.ref e),("order",V.ref d)]:List (Str×V))++([("finished",V.ref f)]:List (Str×V))))=H3 at u ⊢;exists _,U,e,U,⟨_,SqL.of (u.off _ _ nw hw)⟩;refine iq (K:=K) (a:=e) (xs:=us) (λi ys l G=>(∃v,l=[v])/\G=H3/\ys=(List.range i).map λ_:Nat=>V.int ((0:Nat):Int)) ⟨⟨_,U⟩,U,U⟩ ?_ (bf (m:=1000) hl) ?_ ?_ ?_
 .rintro i ys l G _ ⟨_,_,rfl⟩;rw[qc,Qm];exact qo _
 .rintro i ys l G ⟨_,rfl,_⟩;exact SqL.of (u.off _ _ nw hw)
 .rintro i x ys l G _ ⟨⟨v,rfl⟩,rfl,rfl⟩;exact⟨⟨_,U⟩,U,by rw[List.range_succ,qW];rfl⟩
 rintro ys l G ⟨_,rfl,rfl⟩ q L;have C:=u.grow L (.lst ((List.range us.length).map λ_:Nat=>V.int ((0:Nat):Int)));refine⟨_,U,b,a.dz,g,_,U,C.hb,T.f8,T.Db,by simp,?_⟩;rw[gG ["waits","order","finished"] U Yd];have B:fH H _ b (.ins a.dz g [("waits",V.ref e),("order",V.ref d),("finished",V.ref f),("over",V.ref q)]) _ _:=C.put (.ins a.dz g (([("waits",V.ref e),("order",V.ref d),("finished",V.ref f)]:List (Str×V))++([("over",V.ref q)]:List (Str×V))));generalize upd (upd G q (.lst ((List.range us.length).map λ_:Nat=>V.int ((0:Nat):Int)))) b (.ins a.dz g (([("waits",V.ref e),("order",V.ref d),("finished",V.ref f)]:List (Str×V))++([("over",V.ref q)]:List (Str×V))))=H4 at B ⊢;exists _,U,e,U,⟨_,SqL.of (B.off _ _ nw hw)⟩;refine iq (K:=K) (a:=e) (xs:=us) (λi ys l G=>(∃v,l=[v])/\∃qs:LK,ys=qs.map V.ref/\qs.length=i/\fH H G b _ (d::f::q::qs) (.lst []::.lst ((List.range us.length).map λj:Nat=>V.bl (decide (j∈([]:LG))))::.lst ((List.range us.length).map λ_:Nat=>V.int ((0:Nat):Int))::(List.range i).map λ_:Nat=>HO.lst [])) ⟨⟨_,U⟩,[],U,U,B⟩ ?_ (bf (m:=1000) hl) ?_ ?_ ?_
 .rintro i ys l G _ ⟨_,qs,rfl,rfl,_⟩;rw[qc];exact qo _
 .rintro i ys l G ⟨_,qs,_,_,M⟩;exact SqL.of (M.off _ _ nw hw)
 .rintro i x ys l G _ ⟨⟨v,rfl⟩,qs,rfl,rfl,M⟩;refine⟨qC _,λc hc=>⟨⟨_,U⟩,qs++[c],by rw[qW];rfl,by rw[qh];rfl,?_⟩⟩;rw[List.range_succ,qW];exact M.grow hc (.lst [])
 rintro ys l G ⟨_,qs,rfl,ql,X0⟩ r F;have D:=X0.grow F (.lst (qs.map V.ref));refine⟨_,U,b,a.dz,g,_,U,D.hb,T.f8,T.Iw,by simp,?_⟩;rw[gG ["waits","order","finished","over"] U Yd];have M:fH H _ b (LkO a g e d f q r) _ _:=D.put (.ins a.dz g (([("waits",V.ref e),("order",V.ref d),("finished",V.ref f),("over",V.ref q)]:List (Str×V))++([("stuck",V.ref r)]:List (Str×V))));generalize upd (upd G r (.lst (qs.map V.ref))) b (.ins a.dz g (([("waits",V.ref e),("order",V.ref d),("finished",V.ref f),("over",V.ref q)]:List (Str×V))++([("stuck",V.ref r)]:List (Str×V))))=H5 at M ⊢;have nd:=List.nodup_append.mp M.nd;have nb:b∉d::f::q::qs:=λz=>M.nb (Q5 _ z);have W:r∉d::f::q::qs:=λz=>nd.2.2 _ z _ (Q0.mpr U) U;have at0:∀{i:Nat}{x:Addr}{p:HO},(d::f::q::qs)[i]?=some x->(cnL us.length [] (λ_=>0) λ_=>[])[i]?=some p->H5 x=some p:=λ{i x p} N O=>M.av (i:=i) (by rw[Qe (qp.mp N).1];exact N) ((Qe (qp.mp O).1).trans O);have y:H5 r=some (.lst (qs.map V.ref)):=M.av (i:=us.length+3) (by rw[qT (by simp[ql])];simp[ql]) (by rw[qT (by simp)];simp);refine k H5 (λc=>if c∈d::f::q::qs then none else H5 c) d f q r qs (λc o n h=>?_) ?_ ?_ ql ⟨λc o h=>?_,nd.1,λx Z=>Qa Z,at0⟩
 .show(if c∈d::f::q::qs then none else H5 c)=_;rw[Q9 λz=>by rw[M.nw c (Q5 _ z)]at h;cases h];exact M.off c o n h
 .show(if b∈d::f::q::qs then none else H5 b)=_;rw[Q9 nb];exact M.hb
 .show(if r∈d::f::q::qs then none else H5 r)=_;rwa[Q9 W]
 .have h:(if c∈d::f::q::qs then none else H5 c)=some o:=h;split at h
  .cases h
  .exact h
theorem xM:Ω T base 1 a.HR a.HS ["self","deed"] (w8 a):=by
 refine T.KU.ok oq ?_;rintro _ A _ s H _ Q E _⟨F,L,W,o,zs,st,x,rfl,S,M,J,_,k⟩
 refine⟨_,(ag (aq (i:=2) oq.nd U Oi (ai aA (cP (pq 0) U) (pq 1) Oy))
  (ag (lR PassesOwn.never (ax gb (ai aA (cP (pq 0) U) (pq 1) Oy) (aL bn U T.ad Qg (a8 (pq 2) ac)) (ay _)) (ag (aq (i:=3) oq.nd U Oi (ai aA (pq 2) (ai aA (cP (pq 0) U) (pq 1) Oy) Oy))
  (ag (aJ (cF (cN (ai aA (cP (pq 0) U) (ai au (pq 3) aa Oy) Oy))) (aj (az (pq 3))) aN)
  (aj (gi (ao bC (ai aA (cP (pq 0) U) (pq 1) Oy) aa) (jw (cP (pq 0) U) (pq 1) ja))))))
  (aj (az bN)))),?_⟩
 walk_at "q";have ul:=S.rl.len;obtain⟨wl,wu,es,X0,p,N,D⟩:=S.rl.at x (L.us[x]' Yo) (qi Yo);have ew:wsV W x=es:=by unfold wsV;rw[D];rfl
 have e9:=S.sm x es D;subst ew;have a0:=N.len;have X:atI L.us (x:Int)=some (.ref wl):=aO (by rw[qi Yo,X0]);exists _,U,L.b,_,L.dx,_,_,U,M.sa _ _ S.ob,T.f8,T.KL,ER,_,U,L.lw,L.us,_,_,U,U,SqL.of (M.sa _ _ S.hw),X;exists λm R G=>∃(z:Nat)(v:LC),R=[some (.ref L.b),some (.int x),some (.ref wl),v]/\LkH F G L W o (λk=>if k=x then z else zs k) st/\zs x<=z/\z+m=(wsV W x).length/\∀t e,zs x<=t->t<z->(wsV W x)[t]?=some e->bQ o e,⟨(wsV W x).length-zs x,zs x,_,U,by rw[yw U];exact M,qo _,Yo,λt e p _=>Yo⟩;rintro m R G ⟨z,v,rfl,c,O,_,r⟩;have d:atI ((List.range W.length).map λj:Nat=>V.int ((λk=>if k=x then z else zs k) j)) (x:Int)=some (.int z):=aO (by rw[qM,List.getElem?_range J];simp);exists _,U,L.b,_,L.dx,_,_,U,c.sa _ _ S.ob,T.f8,T.Db,mh,_,U,L.lv,_,_,_,U,U,SqL.of c.ov,d,_,U,wl,_,U,.inl (SqL.of (c.sa _ _ p)),_,_,U,U,_,U
 cases m with
 |zero=>exact ar (Qc Yo) ((k G z c O Yo r).1 Yo)
 |succ m=>
  refine aU (Qb Yo) ?_;have tl:z<(wsV W x).length:=Yo;have g:(wsV W x)[z]?=some ((wsV W x)[z]):=qi tl;generalize (wsV W x)[z]=e at g;obtain⟨q,hp,l⟩:=jL N g;obtain⟨j,B,jl⟩:=S.tg x e (qI g);refine⟨λn I=>∃(z:Nat)(v:LC),n=[some (.ref L.b),some (.int x),some (.ref wl),v]/\LkH F I L W o (λk=>if k=x then z else zs k) st/\zs x<=z/\z+m=(wsV W x).length/\∀t e,zs x<=t->t<z->(wsV W x)[t]?=some e->bQ o e,λn I h=>⟨m,Qj _,h⟩,?_⟩;have y:atI wu (z:Int)=some (.ref q):=aO hp
  have u:atI ((List.range W.length).map λx:Nat=>V.bl (decide (x∈o))) e.1=some (.bl (decide (j∈o))):=by
   rw[B];exact aO (by rw[qM,List.getElem?_range jl];rfl)
  exists _,U,_,U,L.b,_,L.dx,_,_,U,c.sa _ _ S.ob,T.f8,T.Db,mh,_,U,L.lv,_,_,_,U,U,SqL.of c.ov,d,wl,_,_,_,U,U,SqL.of (c.sa _ _ p),y;exists _,U,L.b,_,L.dx,_,_,U,c.sa _ _ S.ob,T.f8,T.HL,sJ,_,U,q,_,_,_,U,U,SqT.of (c.sa _ _ l),U,L.lf,_,_,_,U,U,SqL.of c.fi,u,_,U;by_cases jo:j∈o
  .refine ar (by rw[Qb jo];rfl) ?_;exists _,U,L.b,_,L.dx,_,_,U,c.sa _ _ S.ob,T.f8,T.Db,mh,_,U,L.lv,_,_,_,U,U,SqL.of c.ov,d,_,_,U,U;exists _,U,L.b,_,L.dx,_,_,U,c.sa _ _ S.ob,T.f8,T.Db,mh,_,U,L.lv,_,_,x,U,U,c.ov,mG (by rw[qc,Qm];exact J);have M2:=c.set (x:=x) (z:=z+1);refine⟨z+1,_,U,?_,Yo,Yo,λt C a1 _ f=>?_⟩
   .rw[show(λk=>if k=x then z+1 else(λk=>if k=x then z else zs k) k)=λk=>if k=x then z+1 else zs k from funext λk=>by dsimp only;split<;>rfl]at M2;exact M2
   .by_cases tz:t=z
    .rw[tz,g]at f;cases f;exact⟨j,B,jo⟩
    .exact r t C a1 Yo f
  .refine aU (by rw[Qc jo];rfl) ?_
   exact⟨_,U,(k G z c O Yo r).2 e q g (λ⟨Z,C,h'⟩=>jo (by
    have:Z=j:=Yo
    exact this▸h')) l⟩
theorem gm{l:LG}(nd:l.Nodup)(lt:∀k∈l,k<n):l.length<=n:=by
 have:=nd.length_le_of_subset (l₂:=List.range n) λk hk=>List.mem_range.mpr (lt k hk)
 rwa [Qm]at this
theorem y2(x y:LG):bF (x++y)=bF x++bF y:=qW
theorem iQ(x:LG):(bF x).length=x.length:=qc _
def LkP(m:Nat)(H0:Hp)(L:LkA)(W:List (List Wat))(J:Addr)(u:Nat)(Y:St)(G:Hp):Prop:=∃(o R:LG)(zs:Nat->Nat)(st:Nat->LG)(F:Hp)(O V:LC),Y=[some (.ref L.b),some (.int m),some (.ref J),O,V]/\LkI W (m+1) o R zs st/\a9 H0 F/\F J=some (.lst (bF R))/\LkH F G L W o zs st/\(W.length-o.length) * (W.length+1)+R.length=u
theorem Eb:Ω T base 2 a.HP a.HQ ["self","deed"] (wb a):=by
 refine T.KR.ok lD ?_;rintro _ A _ s H _ Q E hr⟨O,L,W,o0,a5,st0,m,rfl,S,M,I,hm,k⟩
 refine⟨_,(ag (aq (i:=2) lD.nd U Oi (ba (a8 (pq 1) ac)))
  (aj (lR PassesOwn.never (ax fO (aL bn U T.ad Qg (a8 (pq 2) ac)) aa (ay _)) (ag (aq (i:=3) lD.nd U Oi (xk qq PySem.F.slot_list_pop PySem.F.type_list_pop y3 (pq 2)))
  (ag (aq (i:=4) lD.nd U Oi (iK (pq 0) T.f8 T.KK (xM T) (hr.mono Yk) T.Kg .nil fS (a8 (pq 3) ac)))
  (aj (aJ (ax wM (pq 4) bN (ay _)) (ag (bu (bL qq qE qF cE (cP (pq 0) U) (a8 (pq 3) ac)))
  (ag (gi cq (jw (cP (pq 0) U) (pq 3) ja))
  (aj (bu (bL qq Qw Qv ic (pq 2) (a8 (ai aA (cP (pq 0) U) (pq 3) Oy) ac)))))) (aj (bu (bL qq qE qF cE (ai aA (cP (pq 0) U) (ai au (pq 4) aa Oy) Oy) (a8 (pq 3) ac))))))))))),?_⟩
 walk_at "q";have big:(10000:Nat)<sizeLine:=Yk;have few:=S.few;refine⟨_,U,ln1,λd a1=>?_⟩;have J:d∉L.lo::L.lf::L.lv::L.qs:=λz=>M.has S.ql z a1;have h0:O d=none:=a9.none M.sa a1;exists LkP m O L W d,⟨_,o0,[m],a5,st0,upd O d (.lst (bF [m])),_,_,U,I.push,a9.new h0 _,ah,bB.side M J _,U⟩;rintro μ Y G ⟨o,R,zs,st,G0,v3,v4,rfl,C,s0,a2,X0,a3⟩;exists _,U,d,_,U,.inl (SqL.of (X0.sa _ _ a2)),_,_,U,U,_,U;rcases List.eq_nil_or_concat R with rfl|⟨f,x,rfl⟩
 .exact ar Yk (k G o zs st (bB.low X0 s0) C)
 rw[List.concat_eq_append]at *;refine aU (Qb (by rw[iQ,qh,Qf];omega)) ?_;refine⟨λa0 G'=>∃u,u<μ/\LkP m O L W d u a0 G',λa0 G' h=>h,?_⟩;have D:=X0.sa _ _ a2;rw[y2]at D;have xR:x∈f++[x]:=qQ _ (Q0.mpr U);have xl:x<W.length:=by have:=(C.ro x xR).1;omega
 refine⟨_,U,.inl ⟨U,_,SqL.of D⟩,d,_,.int (x:Int),U,U,D,List.getLast?_eq_getElem?.symm.trans List.getLast?_concat,?_⟩;rw[show(bF f++bF [x]).dropLast=bF f from List.dropLast_concat];have M2:=bB.side X0 J (.lst (bF f));have X:=iF s0 h0 (.lst (bF f));have y:upd G0 d (.lst (bF f)) d=some (.lst (bF f)):=ah;generalize upd G0 d (.lst (bF f))=G02 at M2 X y;generalize upd G d (.lst (bF f))=G2 at M2 ⊢;have l:=S.same X;have qx:L.qs[x]?=some (L.qs[x]'(by have:=S.ql;omega)):=qi _;generalize L.qs[x]'(by have:=S.ql;omega)=q at qx;refine⟨_,U,L.b,L.dx,_,U,M2.sa _ _ l.ob,my Yd,_,U,G02,L,W,o,zs,st,x,U,l,M2,xl,C.zl x,λG3 z g z1 z2 z3=>?_⟩
 have tk:∀e∈(wsV W x).take z,bQ o e:=λe B=>by
  obtain⟨t,ht⟩:=List.mem_iff_getElem?.mp B;rw[List.getElem?_take]at ht;split at ht
  .rename_i lt;by_cases t0:t<zs x
   .exact C.zd x e (List.mem_iff_getElem?.mpr ⟨t,by rwa[List.getElem?_take,Qa t0]⟩)
   .exact z3 t e Yo lt ht
  .cases ht
 have Z:=C.over xR z2 tk;refine⟨λez=>?_,λe p B a6 hp=>?_⟩
 .have n:=Z.done λe B=>tk e (by rw[ez,qP];exact B);have l3:=gm n.rn λk hk=>(n.ro k hk).1;have l4:=gm n.nd λk hk=>n.lt k hk;rw[qh]at l3 l4;refine⟨_,U,U,_,U,aU U ?_⟩;refine⟨_,U,L.b,_,L.dx,_,_,U,g.sa _ _ l.ob,T.f8,T.Cn,mq,.inl ⟨U,_,SqL.of g.od⟩,_,U,L.lo,_,_,U,U,g.od,by rw[iQ];omega,?_⟩;have M4:=g.ord (x:=x);exists _,U,L.b,_,L.dx,_,_,U,M4.sa _ _ l.ob,T.f8,T.HL,sJ,_,U,L.lf,_,_,x,U,U,M4.av (i:=1) U U,mG (by rwa[qc,Qm]);have v:=LkH.fin M4;generalize upd (upd G3 L.lo _) L.lf _=G5 at v ⊢;have r:atI (L.qs.map V.ref) (x:Int)=some (.ref q):=aO (by rw[qM,qx];rfl);refine⟨_,U,.inl ⟨U,_,SqL.of (v.sa _ _ y)⟩,_,U,L.b,_,L.dx,_,_,U,v.sa _ _ l.ob,T.f8,T.Iw,yc,_,U,L.lk,_,_,_,U,U,SqL.of (v.sa _ _ l.sk),r,d,q,_,_,U,U,v.sa _ _ y,v.q qx xl,by rw[iQ,iQ];omega,?_⟩;rw[<- y2];refine⟨_,?_,o++[x],f++st x,_,st,_,_,_,U,n,iF X h0 _,ah,bB.side v J _,U⟩;rw[<- a3,qh,qh,qh,Qf];obtain⟨c,hc⟩:∃c,W.length-o.length=c+1:=⟨W.length-o.length-1,by have:[x].length=1:=U;omega⟩;rw[show W.length-(o.length+1)=c by omega,hc,Nat.succ_mul];omega
 .obtain⟨j,ej,jl⟩:=S.tg x e (qI B);have jo:j∉o:=λh=>a6 ⟨j,ej,h⟩;have n:=Z.stick (e:=e) (w:=j) (by show(wsV W x)[if x=x then z else zs x]?=_;rw[Qa U];exact B) ej jo;have l3:=gm (Z.sn j jo) λk hk=>(Z.so j jo k hk).1;have N:L.qs[j]?=some (L.qs[j]'(by have:=S.ql;omega)):=qi _;generalize L.qs[j]'(by have:=S.ql;omega)=q' at N;have r:atI (L.qs.map V.ref) e.1=some (.ref q'):=by rw[ej];exact aO (by rw[qM,N];rfl)
  have a4:=g.q N jl;refine⟨_,U,U,_,U,ar U ?_⟩;refine⟨_,U,L.b,_,L.dx,_,_,U,g.sa _ _ l.ob,T.f8,T.Iw,yc,_,U,p,_,_,_,U,U,SqT.of (g.sa _ _ hp),U,L.lk,_,_,_,U,U,SqL.of (g.sa _ _ l.sk),r,.inl ⟨U,_,SqL.of a4⟩,_,U,q',_,_,U,U,a4,by rw[iQ];omega,?_⟩;refine⟨_,?_,o,f,_,_,G02,_,_,U,n,X,y,g.stk N,U⟩;rw[<- a3,qh,Qf];omega
theorem yI(o:LG):∀n,(∃j,j<n/\j∉o)->∃i,i<n/\i∉o/\∀j,j<i->j∈o
 |0,⟨_,h,_⟩=>Yo
 |n+1,⟨j,h,h'⟩=>by
  by_cases z:∃j,j<n/\j∉o
  .obtain⟨i,a,b,c⟩:=yI o n z;exact⟨i,Yo,b,c⟩
  .have all:∀x,x<n->x∈o:=λx d=>by
    by_cases y:x∈o
    .exact y
    .exact Qd ⟨x,d,y⟩ z
   by_cases e:j=n
   .exact⟨n,Qj n,e▸h',all⟩
   .exact Qd (all j Yo) h'
noncomputable def nxO(ps:List (Nat×Wat))(d i:Nat):Nat:=((ps[i+1]?).map (·.1)).getD d
structure WyO(W:List (List Wat))(o:LG)(zs:Nat->Nat)(ps:List (Nat×Wat))(d:Nat):Prop where
 dl:d<W.length
 dn:d∉o
 nd:(ps.map (·.1)).Nodup
 is:∀i p,ps[i]?=some p->p.1∉o/\p.1<W.length/\(wsV W p.1)[zs p.1]?=some p.2/\¬ bQ o p.2/\p.2.1=(nxO ps d i:Int)
theorem WyO.snoc{W:List (List Wat)}{o:LG}{ps:List (Nat×Wat)}{d:Nat}{e:Wat}(h:WyO W o zs ps d)(u:(wsV W d)[zs d]?=some e)(r:e.1=(j:Int))(t:j<W.length)(n:j∉o)(new:∀p∈ps,p.1≠d):WyO W o zs (ps++[(d,e)]) j:=by
 have q:¬ bQ o e:=λ⟨x,ex,m⟩=>n (by
  have:x=j:=Yo
  exact this▸m)
 refine⟨t,n,?_,λi p l=>?_⟩
 .rw[qW,List.nodup_append];refine⟨h.nd,Qz _ _,λx m y s z=>?_⟩;obtain⟨p,l,rfl⟩:=List.mem_map.mp m;exact new p l (z.trans (Q0.mp s))
 .by_cases lt:i<ps.length
  .rw[Qe lt]at l;obtain⟨a,b,c,g,f⟩:=h.is i p l;exists a,b,c,g;rw[f];unfold nxO;by_cases l2:i+1<ps.length
   .rw[Qe l2,qi l2]
    rfl
   .rw[qT Yo,Qx Yo,show i+1-ps.length=0 by omega]
    rfl
  .rw[qT Yo]at l
   cases ei:i-ps.length with
   |succ k=>rw[ei]at l;simp at l
   |zero=>
    rw[ei]at l;cases l;exists h.dn,h.dl,u,q;unfold nxO;rw[Qx (by rw[qh];simp;omega)];exact r
theorem WyO.ring{W:List (List Wat)}{o:LG}{m:Nat}(I:LkI W m o [] zs st){ps:List (Nat×Wat)}{d:Nat}{e:Wat}(h:WyO W o zs ps d)(l:ps[i]?=some (d,e)):dG W o (ps.drop i):=by
 have q:=(qp.mp l).1;refine⟨λz=>?_,?_,λp k=>?_,λj p k=>?_⟩
 .have:=congrArg List.length z;rw[Q8]at this;simp at this;omega
 .rw[List.map_drop];exact List.Sublist.nodup (List.drop_sublist _ _) h.nd
 .obtain⟨j,n⟩:=List.mem_iff_getElem?.mp (List.mem_of_mem_drop k);obtain⟨a,b,c,g,_⟩:=h.is j p n;exact⟨a,b,_,c,I.zd p.1,g⟩
 .rw[List.getElem?_drop]at k;have r:=(qp.mp k).1;obtain⟨_,_,_,_,f⟩:=h.is _ p k;rw[f,Q8];unfold nxO;by_cases l2:i+j+1<ps.length
  .rw[Nat.mod_eq_of_lt Yo,List.getElem?_drop,show i+(j+1)=i+j+1 by omega,qi l2];exact⟨_,U,U⟩
  .rw[show j+1=ps.length-i by omega,Nat.mod_self,List.getElem?_drop,Nat.add_zero,l,Qx (by omega)];exact⟨_,U,U⟩
theorem pW{H H':Hp}(s:∀b xs,H b=some (.tup xs)->H' b=some (.tup xs)):∀{vs:LV}{es:List Wat},RWs H vs es->RWs H' vs es
 |_,_,.nil=>.nil
 |_,_,.cons h r=>.cons (s _ _ h) (pW s r)
theorem wH{H:Hp}:∀(i:Nat){vs:LV}{es:List Wat},RWs H vs es->RWs H (vs.drop i) (es.drop i)
 |0,_,_,h=>h
 |_+1,_,_,.nil=>.nil
 |i+1,_,_,.cons _ r=>wH i r
theorem Gs(xs:LV)(n:Nat):fA xs (some (n:Int)) none=xs.drop n:=by
 unfold fA;rw[HT.sIx_none,HT.sIx_nat];by_cases z:n<=xs.length
 .rw[Nat.min_eq_left z,List.take_of_length_le (by rw[Q8];omega)]
 .rw[Nat.min_eq_right Yo,List.drop_of_length_le (qo _),List.drop_of_length_le Yo];simp
def RgP(H0:Hp)(L:LkA)(W:List (List Wat))(o:LG)(zs:Nat->Nat)(st:Nat->LG)(dp J:Addr)(u:Nat)(Y:St)(G:Hp):Prop:=∃(ps:List (Nat×Wat))(d:Nat)(F:Hp)(kvs:LN)(us:LV)(O:LC),Y=[some (.ref L.b),some (.int d),some (.ref dp),some (.ref J),O]/\a9 H0 F/\F dp=some (.dK kvs)/\F J=some (.lst us)/\RWs F us (ps.map rgW)/\LkH F G L W o zs st/\WyO W o zs ps d/\(∀j:Nat,aH kvs (.inl (j:Int))=none->∀p∈ps,p.1≠j)/\(∀(j:Nat) v,aH kvs (.inl (j:Int))=some v->∃(i:Nat)(e:Wat),v=.int i/\ps[i]?=some (j,e))/\kvs.length<=ps.length/\ps.length+u=1001
theorem Ea:Ω T base 2 a.HU a.HV ["self"] (wa a):=by
 refine T.KW.ok jj ?_;rintro _ A _ s H _ Q E hr⟨J,L,W,o,zs,st,rfl,S,M,I,no,k⟩
 refine⟨_,(ag (aq (i:=1) jj.nd U Oi (bL qq PySem.F.slot_list_index PySem.F.type_list_index Eu (cP (pq 0) U) (a8 cq ac)))
  (ag (aq (i:=2) jj.nd U Oi fu)
  (ag (aq (i:=3) jj.nd U Oi (ba ac))
  (ag (lR PassesOwn.never (ax Di (pq 1) (pq 2) (by with_unfolding_all rfl)) (ag (eY (hr.one) (pq 2) (pq 1) (aL bn U T.ad Qg (a8 (pq 3) ac)) U)
  (ag (aq (i:=4) jj.nd U Oi (iK (pq 0) T.f8 T.KK (xM T) (hr.mono Yk) T.Kg .nil fS (a8 (pq 1) ac)))
  (ag (bu (bL qq qE qF cE (pq 3) (a8 (bc (a8 (pq 1) (a8 (ai au (pq 4) aa Oy) (a8 (ai au (pq 4) aa Oy) ac)))) ac)))
  (aj (aq (i:=1) jj.nd U Oi (ai au (pq 4) aa Oy)))))))
  (aj (az (gH kX (pq 3) (fP (iL hr.one (pq 2) (pq 1) Oy)) iI))))))),?_⟩
 walk_at "q";have big:(10000:Nat)<sizeLine:=Yk;have few:=S.few
 obtain⟨i0,il,i1,i2⟩:=yI o W.length (by
  by_cases z:∃j,j<W.length/\j∉o
  .exact z
  .have l1:=gm I.nd I.lt
   have l2:=List.nodup_range.length_le_of_subset (l₁:=List.range W.length) (l₂:=o) λk hk=>by
    by_cases y:k∈o
    .exact y
    .exact Qd ⟨k,List.mem_range.mp hk,y⟩ z
   rw[Qm]at l2
   omega)
 have hf:H L.lf=some (.lst (((List.range W.length).map λj:Nat=>decide (j∈o)).map V.bl)):=by rw[List.map_map];exact M.fi
 have b0:∀j,j<W.length->((List.range W.length).map λj:Nat=>decide (j∈o))[j]?=some (decide (j∈o)):=λj c=>by rw[qM,List.getElem?_range c];rfl
 refine⟨_,U,L.b,_,L.dx,_,_,U,M.sa _ _ S.ob,T.f8,T.HL,sJ,.inl ⟨U,_,SqL.of hf⟩,L.lf,_,false,i0,U,U,hf,by rw[b0 i0 il,Qc i1],λj c=>by rw[b0 j Yo,Qb (i2 j c)];rfl,by rwa[qc,Qm],?_⟩;refine λdp b3=>⟨qC _,λg r=>?_⟩;have a5:dp∉L.lo::L.lf::L.lv::L.qs:=λz=>M.has S.ql z b3;have a7:J dp=none:=a9.none M.sa b3;have M1:=bB.side M a5 (.dK []);have a':g∉L.lo::L.lf::L.lv::L.qs:=λz=>LkH.has M1 S.ql z r;have R:g≠dp:=λz=>by rw[z,ah]at r;cases r
 have b2:J g=none:=a9.none M.sa (kr r);have M2:=bB.side M1 a' (.lst []);have s2:=iF (iF (a9.refl J) a7 (.dK [])) b2 (.lst []);exists RgP J L W o zs st dp g,⟨1001,[],i0,_,[],[],_,U,s2,(by rw[af R.symm];exact ah),ah,.nil,M2,⟨il,i1,List.nodup_nil,λi p h=>by simp at h⟩,λj _ p h=>(nomatch h),λj v h=>(nomatch h),qo _,U⟩;rintro μ Y G ⟨ps,d,G0,kvs,us,v4,rfl,s3,t,N,Z,m,X0,kn,ks,kl,b'⟩
 have b8:ps.length<=W.length:=by
  have:=gm X0.nd (n:=W.length) λx hx=>by
   obtain⟨p,f,rfl⟩:=List.mem_map.mp hx;obtain⟨i,C⟩:=List.mem_iff_getElem?.mp f;exact(X0.is i p C).2.1
  rwa [qc]at this
 have a1:=Z.len;rw[qc]at a1;exists _,U,_,U,dp,kvs,.inl (d:Int),U,m.sa _ _ t,U,_,U
 cases ev:aH kvs (.inl (d:Int))with
 |some v=>
  refine ar U ?_;obtain⟨i,e,rfl,C⟩:=ks d v ev
  have hg:bT G dp (.int (d:Int)) (some (.int (i:Int))):=by
   have:=bT.k (k:=.inl (d:Int)) (m.sa _ _ t);rw[ev]at this;exact this
  refine⟨_,U,_,U,_,U,dp,_,U,hg,_,U,g,us,U,SqL.of (m.sa _ _ N),λlq b4=>?_⟩;rw[Gs];have q4:=a9.new b4 (.lst (us.drop i));refine k _ lq _ (ps.drop i) ((bB.low m s3).same q4) ah ?_ (X0.ring I C);rw[List.map_drop];exact(wH i Z).same (m.sa.trans q4)
 |none=>
  refine aU U ?_;refine⟨λa0 G'=>∃u,u<μ/\RgP J L W o zs st dp g u a0 G',λa0 G' h=>h,?_⟩;exists _,U,g,us,U,.inl (SqL.of (m.sa _ _ N)),_,U,_,U,dp,_,U,dR.k (k:=.inl (d:Int)) (m.sa _ _ t) Yo;have M4:=bB.side m a5 (.dK (aX kvs (.inl (d:Int)) (.int (us.length:Nat))));have s4:=iF s3 a7 (.dK (aX kvs (.inl (d:Int)) (.int (us.length:Nat))));have a6:upd G0 dp (.dK (aX kvs (.inl (d:Int)) (.int (us.length:Nat)))) dp=some _:=ah;have l:upd G0 dp (.dK (aX kvs (.inl (d:Int)) (.int (us.length:Nat)))) g=some (.lst us):=by rw[af R];exact N
  have a4:RWs (upd G0 dp (.dK (aX kvs (.inl (d:Int)) (.int (us.length:Nat))))) us (ps.map rgW):=pW (λb xs h=>by rw[af λz=>by rw[z,t]at h;cases h];exact h) Z;generalize upd G0 dp (.dK (aX kvs (.inl (d:Int)) (.int (us.length:Nat))))=G04 at M4 s4 a6 l a4;generalize upd G dp (.dK (aX kvs (.inl (d:Int)) (.int (us.length:Nat))))=G4 at M4 ⊢;have S4:=S.same s4
  obtain⟨w,D,e,O,ew⟩:∃w,w∉o/\∃e,(wsV W d)[zs d]?=some e/\e.1=(w:Int):=by
   rcases I.al d X0.dl with z|z|⟨w,D,hw⟩
   .exact Qd z X0.dn
   .cases z
   .exact⟨w,D,(I.so w D d hw).2.2.2⟩
  have wl:w<W.length:=by
   obtain⟨j,ej,jl⟩:=S.tg d e (qI O);omega
  have b6:¬ bQ o e:=λ⟨x,ex,hx⟩=>D (by
   have:x=w:=Yo
   exact this▸hx)
  refine⟨_,U,L.b,L.dx,_,U,bB.sa M4 _ _ S4.ob,my Yd,_,U,G04,L,W,o,zs,st,d,U,S4,M4,X0.dl,I.zl d,λG5 z B z1 z2 z3=>?_⟩
  have ez:z=zs d:=by
   by_cases lt:zs d<z
   .exact Qd (z3 (zs d) e (qo _) lt O) b6
   .omega
  rw[yw ez]at B;have c0:=(qp.mp O).1;refine⟨λz0=>Yo,λe' p a2 _ f=>?_⟩;rw[ez,O]at a2;cases a2;have b1:=B.sa _ _ f;refine⟨_,U,.inl ⟨U,_,SqL.of (B.sa _ _ l)⟩,_,U,_,U,p,_,_,_,U,U,SqT.of b1,U,_,U,p,_,_,_,U,U,SqT.of b1,U,ln3,λpt a3=>?_⟩;have b7:pt∉L.lo::L.lf::L.lv::L.qs:=λz=>B.has S.ql z a3;have b5:G04 pt=none:=a9.none B.sa a3;have M6:=bB.side B b7 (.tup [.int (d:Int),.str e.2.1,.str e.2.2]);have q:=a9.new b5 (.tup [.int (d:Int),.str e.2.1,.str e.2.2]);have X:upd G04 pt (.tup [.int (d:Int),.str e.2.1,.str e.2.2]) pt=some (eF (rgW (d,e))):=ah;generalize upd G04 pt (.tup [.int (d:Int),.str e.2.1,.str e.2.2])=G06 at M6 q X;generalize upd G5 pt (.tup [.int (d:Int),.str e.2.1,.str e.2.2])=G6 at M6 ⊢;exists g,us,.ref pt,U,U,bB.sa M6 _ _ (q _ _ l),Yo;have M7:=bB.side M6 a' (.lst (us++[.ref pt]));refine⟨_,U,p,_,_,_,U,U,SqT.of (bB.sa M7 _ _ (?_:_=some (eF e))),U,?_⟩
  .rw[af λz=>by rw[z,l]at f;cases f];exact q _ _ f
  rw[ew];refine⟨μ-1,Yo,ps++[(d,e)],w,_,aX kvs (.inl (d:Int)) (.int (us.length:Nat)),us++[.ref pt],_,U,iF (s4.trans q) b2 (.lst (us++[V.ref pt])),?_,ah,?_,M7,X0.snoc O ew wl D (kn d ev),λj c p f=>?_,λj v c=>?_,?_,?_⟩
  .rw[af R.symm];exact q _ _ a6
  .rw[qW];refine pW (λb xs h=>?_) ((a4.same q).snoc X);rw[af λz=>by rw[z,q _ _ l]at h;cases h];exact h
  .rw[d9]at c;split at c
   .cases c
   .rename_i ne;rcases qr.mp f with f|f
    .exact kn j c p f
    .rw[Q0.mp f];exact λz=>ne (by rw[show d=j from z])
  .rw[d9]at c;split at c
   .rename_i ej;cases c;have ej:=Sum.inl.inj ej;exact⟨us.length,e,U,by rw[a1,qT (qo _),Nat.sub_self,show j=d by omega];rfl⟩
   .obtain⟨i,e',ei,C⟩:=ks j v c;exact⟨i,e',ei,by rw[Qe (qp.mp C).1];exact C⟩
  .have:=dF kvs (.inl (d:Int)) (.int (us.length:Nat));rw[qh,Qf];omega
  .rw[qh,Qf];omega
theorem xF:Ω T base 3 a.IJ a.IK ["waits"] vm:=by
 refine T.Ik.F.ok o8 ?_;rintro _ A _ s H _ Q E hr⟨j,us,W,rfl,hw,rl,sm,tg,few,k⟩
 refine⟨_,(ag (aq (i:=1) o8.nd U Oi (xi T.Lk (Ec T) (hr.mono Yk) U T.Lj T.KQ .nil fS (a8 (pq 0) ac)))
  (ag (bD PassesOwn.never U (gj U T.u8 (a8 (aL bn U T.ad Qg (a8 (pq 0) ac)) ac)) (aI (i:=2) o8.nd U Oi)
  (aj (bu (iK (pq 1) T.f8 T.Ll (Eb T) (hr.mono Yk) T.KS .nil fS (a8 (pq 2) ac)))))
  (ag (aJ (ax aW (aL bn U T.ad Qg (a8 (cP (pq 1) U) ac)) (aL bn U T.ad Qg (a8 (pq 0) ac)) (ay _)) (aj (az (bc (a8 aQ (a8 (cP (pq 1) U) ac))))) aN)
  (aj (az (bc (a8 aQ (a8 (cP (pq 1) U) (a8 (D5 (pq 1) T.f8 T.Lm (Ea T) (hr.mono Yk) T.KY .nil fS) ac))))))))),?_⟩
 walk_at "q";have t:=rl.len;refine⟨_,U,λb f hb r ne=>⟨b,f,j,us,U,ah,?_,Yo,λ_ m l D J x qs off I C ql M=>⟨U,?_⟩⟩⟩
 .rw[af (λe=>by rw[e,hb]at hw;cases hw),af (λe=>by rw[e,r]at hw;cases hw)];exact hw
 have q:a9 H m:=λc o hc=>off c o (λe=>by rw[e,hb]at hc;cases hc) (by
  rw[af (λe=>by rw[e,hb]at hc;cases hc),af (λe=>by rw[e,r]at hc;cases hc)]
  exact hc)
 have S:LkS a m ⟨b,f,j,l,D,J,x,qs,us⟩ W:=⟨I,C,ql.trans t,q _ _ hw,rl.same q,sm,tg,few⟩;rw[t]at M;exists _,U,j,us,U,.inl (SqL.of (M.sa _ _ S.hw)),_,U,Yo,Yo;rw[show((us.length:Nat):Int).toNat=W.length by omega];refine ii (λi u G=>∃v o zs st,u=[some (.ref j),some (.ref b),v]/\LkH m G ⟨b,f,j,l,D,J,x,qs,us⟩ W o zs st/\LkI W i o [] zs st) ⟨_,_,_,_,U,M,LkI.start W⟩ ?_ ?_
 .rintro i u G V ⟨v,o,zs,st,rfl,d,n⟩;refine⟨_,U,b,f,_,U,d.sa _ _ S.ob,my Yd,_,U,m,_,W,o,zs,st,i,by rw[Int.zero_add];rfl,S,d,n,V,λN _ _ _ M2 X=>?_⟩;exact⟨_,_,_,_,U,M2,X⟩
 .rintro u G ⟨v,o,zs,st,rfl,d,n⟩;exists _,U,b,_,f,_,_,U,d.sa _ _ S.ob,T.f8,T.Cn,mq,l,_,U,.inl (SqL.of d.od),_,U,j,us,U,.inl (SqL.of (d.sa _ _ S.hw)),U,_,U;rw[iQ,t];by_cases eo:o.length=W.length
  .refine aU (by rw[eo,Qb U]) ?_;refine⟨_,U,b,_,f,_,_,U,d.sa _ _ S.ob,T.f8,T.Cn,mq,ln2,λp g=>?_⟩;exact(k _ p l o zs st ((q.trans d.sa).trans (a9.new g _)) (a9.new g _ _ _ d.od) n).1 eo ah
  .refine ar (Qc λz=>eo (by injection z with z;omega)) ?_;refine⟨_,U,b,_,f,_,_,U,d.sa _ _ S.ob,T.f8,T.Cn,mq,_,U,b,f,_,U,d.sa _ _ S.ob,my Yd,m,_,W,o,zs,st,U,S,d,n,eo,λN O B ps M2 y L R=>⟨ln3,λp g=>?_⟩⟩;exact(k _ p l o zs st ((q.trans M2.sa).trans (a9.new g _)) (a9.new g _ _ _ M2.od) n).2 O B ps ah (a9.new g _ _ _ y) (L.same (a9.new g _)) R
theorem rZ:Ω T base 4 a.IH a.II ["deeds","stores"] vn:=by
 refine T.Hw.F.ok BD ?_;rintro _ A _ s H _ Q E hr⟨l,n,us,t,rs,ss,W,rfl,hl,d,c,b,hs,e,sl,pos,rfl,sm,tg,few,k⟩;exists _,(aj (az (aC (xF T) (hr.mono Yk) T.Ik (a8 (aC (DB T) (hr.mono Yk) T.Kf (a8 (pq 0) (a8 (pq 1) ac))) ac))));walk_at "q";refine⟨_,U,_,U,l,n,us,t,rs,ss,U,hl,d,c,b,hs,e,sl,pos,λ_ i g r f q=>?_⟩;exact⟨i,g,_,U,f,q,sm,tg,few,λH' p m o zs st j=>k H' p m o zs st (r.trans j)⟩
theorem WkH.same{s b c a:Addr}{o:LG}(M:WkH H0 H s b c a rs o)(e:a9 H H'):WkH H0 H' s b c a rs o:=by
 obtain⟨k,d,i⟩:=M.c0;obtain⟨j,h,b1⟩:=M.c1;obtain⟨g,f,b2⟩:=M.c2;exact⟨e _ _ M.so,⟨k,e _ _ d,i⟩,⟨j,e _ _ h,b1⟩,⟨g,e _ _ f,b2⟩,M.nd,M.sa.trans e,M.n0,M.n1,M.n2⟩
theorem xK:Ω T base 2 a.JN a.JO ["_law_deeds","_law_ahead_here","_law_lengths","_law_state","_law_k"] vT:=by
 refine T.Ip.F.ok jh ?_;rintro _ A _ s H _ Q E hr⟨_,l,O,d,s,d0,d1,_,us,as,rs,kvs,ln,o,i,r,rfl,M,n,B,k⟩
 refine⟨_,(ag (bD PassesOwn.never U (ce (ai au (ai aA (pq 1) (pq 4) Oy) aa Oy)) (dM U (bh (aI (i:=5) jh.nd U Oi) (bh (aI (i:=6) jh.nd U Oi) d5)))
  (aj (aJ (ax gb (dN hr.one (ai aA (pq 3) aa Oy) (pq 5) aa ⟨U,U,U,U⟩) (pq 6) (ay _)) (aj (az aQ)) aN)))
  (ag (bD PassesOwn.never U (ce (ai au (ai aA (pq 1) (pq 4) Oy) aa Oy)) (dM U (bh (aI (i:=5) jh.nd U Oi) (bh (aI (i:=6) jh.nd U Oi) d5)))
  (aj (aJ (ax gb (dN hr.one (ai aA (pq 3) aa Oy) (pq 5) aa ⟨U,U,U,U⟩) (pq 6) (ay _)) (aj (az aQ)) aN)))
  (ag (aq (i:=7) jh.nd U Oi (ai aA (pq 0) (pq 4) Oy))
  (ag (aJ (PW.pt (gf (ax eX (ai au (pq 7) aa Oy) bN (ay _)) (hX (ax aW (dN hr.one (ai aA (pq 3) aa Oy) (ai au (pq 7) aa Oy) aa ⟨U,U,U,U⟩) aa (ay _))))) (aj (az aQ)) aN)
  (ag (aJ (PW.pt (gf (ax eX (ai au (pq 7) aa Oy) bN (ay _)) (hX (ax wN (dN hr.one (ai aA (pq 3) aa Oy) (ai au (pq 7) aa Oy) aa ⟨U,U,U,U⟩) (iL hr.one (pq 2) (ai au (pq 7) aa Oy) Oy) (ay _))))) (aj (az aQ)) aN)
  (aj (az aQ))))))),?_⟩
 walk_at "q";have il:i<rs.length:=(qp.mp B).1;have ul:=n.rr.len;obtain⟨v,hv,p,l1,l2,u1,u2,rfl,h1,h2,h3,X0,a0⟩:=n.ra.2 i r il B;have a2:atI as (i:Int)=some (.ref p):=aO hv;obtain⟨Z,C,W,_⟩:=M.c0;obtain⟨a1,I,S,_⟩:=M.c1;have so:=M.so;have sa:=M.sa;clear M;generalize dnR rs o=R at W S k;exists _,U,_,U,O,as,_,_,U,U,SqL.of (sa _ _ n.ha),a2,p,_,_,_,U,U,SqT.of (sa _ _ h1),U,l1,U,⟨_,SqL.of (sa _ _ h2)⟩;refine dk (K:=K) (a:=l1) (xs:=u1) (λj g G=>G=H/\(∃u m,g=[some (.ref l),some (.ref O),some (.ref d),some (.ref s),some (.int i),u,m,none])/\∀t c,t<j->r.owns[t]?=some c->cnO (rs.take i) c<=cnO R c) ⟨U,⟨_,_,U⟩,λt c h=>Qd h (QG t)⟩ ?_ ?_ ?_
 .rintro j g G _ ⟨rfl,_⟩;exact SqL.of (sa _ _ h2)
 .rintro j x g G hx ⟨rfl,⟨u,m,rfl⟩,ok⟩;obtain⟨pc,c,rfl,hc,L⟩:=X0.at2 j x hx;exists pc,_,U,SqT.of (sa _ _ L),U,_,_,U,_,_,U,U;exists _,U,s,_,_,_,U,U,SqL.of so,U,d0,U,.inl ⟨Z,.inl C⟩,_,U,_,bT.k (k:=.inr c) C,_,U,_,_,W c,U,_,U;by_cases lt:cnO R c<cnO (rs.take i) c
  .exact aU (Qb Yo) (k _ (.card λz=>by have:=z c (.inl (qI hc));omega))
  .refine ar (Qc Yo) ⟨U,⟨_,_,U⟩,λt c' ht h'=>?_⟩;by_cases e:t=j
   .rw[e,hc]at h';cases h';omega
   .exact ok t c' Yo h'
 rintro g G ⟨rfl,⟨u,m,rfl⟩,a6⟩;exists _,U,_,U,O,as,_,_,U,U,SqL.of (sa _ _ n.ha),a2,p,_,_,_,U,U,SqT.of (sa _ _ h1),U,l2,U,⟨_,SqL.of (sa _ _ h3)⟩;refine dk (K:=K) (a:=l2) (xs:=u2) (λj g J=>J=G/\(∃u m,g=[some (.ref l),some (.ref O),some (.ref d),some (.ref s),some (.int i),u,m,none])/\∀t c,t<j->r.reads[t]?=some c->cnO (rs.take i) c<=cnO R c) ⟨U,⟨_,_,U⟩,λt c h=>Qd h (QG t)⟩ ?_ ?_ ?_
 .rintro j g J _ ⟨rfl,_⟩;exact SqL.of (sa _ _ h3)
 .rintro j x g J hx ⟨rfl,⟨u,m,rfl⟩,ok⟩;obtain⟨pc,c,rfl,hc,L⟩:=a0.at2 j x hx;exists pc,_,U,SqT.of (sa _ _ L),U,_,_,U,_,_,U,U;exists _,U,s,_,_,_,U,U,SqL.of so,U,d0,U,.inl ⟨Z,.inl C⟩,_,U,_,bT.k (k:=.inr c) C,_,U,_,_,W c,U,_,U;by_cases lt:cnO R c<cnO (rs.take i) c
  .exact aU (Qb Yo) (k _ (.card λz=>by have:=z c (.inr (qI hc));omega))
  .refine ar (Qc Yo) ⟨U,⟨_,_,U⟩,λt c' ht h'=>?_⟩;by_cases e:t=j
   .rw[e,hc]at h';cases h';omega
   .exact ok t c' Yo h'
 rintro g J ⟨rfl,⟨u,m,rfl⟩,a7⟩
 have D:eQ rs R i r:=λc hc=>by
  rcases hc with hc|hc
  .obtain⟨t,ht⟩:=List.mem_iff_getElem?.mp hc;exact a6 t c (by rw[X0.len];exact(qp.mp ht).1) ht
  .obtain⟨t,ht⟩:=List.mem_iff_getElem?.mp hc;exact a7 t c (by rw[a0.len];exact(qp.mp ht).1) ht
 obtain⟨_,a3,f,po,_,ex,g1,_,_⟩:=n.rr.at i us[i] (qi Yo);rw[B]at a3;cases a3;have a4:atI us (i:Int)=some (.ref f):=aO (by rw[qi Yo,ex]);have b:=SqT.of (K:=K) (sa _ _ g1);exists _,U,_,U,l,us,_,_,U,U,SqL.of (sa _ _ n.hl),a4;dsimp only;refine o1 (λX G'=>G'=J/\X=[some (.ref l),some (.ref O),some (.ref d),some (.ref s),some (.int i),u,m,some (.ref f)]/\gy R r) ?_ λN go=>?_
 .rintro X G' ⟨rfl,rfl,tok⟩
  cases ei:r.into with
  |none=>
   rw[ei]at b;exact⟨_,U,f,_,_,_,U,U,b,U,U,_,U,ar U (ar U (k _ (.no D tok λq z=>by rw[ei]at z;cases z)))⟩
  |some q=>
   rw[ei]at b;refine⟨_,U,f,_,_,_,U,U,b,U,U,_,U,aU U ?_⟩
   have a5:bT G' d (.str q) (some (.int (ln q))):=by
    have:=bT.k (k:=.inr q) (sa _ _ n.hd);rw[n.dl r (qI B) q ei]at this;exact this
   exists _,U,s,_,_,_,U,U,SqL.of so,U,d1,U,.inl ⟨a1,.inl I⟩,_,U,f,_,_,_,U,U,b,U,_,bT.k (k:=.inr q) I,_,U,_,U,f,_,_,_,U,U,b,U,d,_,U,a5,_,_,S q,U,_,U;by_cases lt:bal R q<ln q
   .exact ar (Qc Yo) (k _ (.no D tok λq' z=>by rw[ei]at z;cases z;exact lt))
   .exact aU (Qb Yo) (k _ (.room D tok λz=>lt (z q ei)))
 .cases eo:r.outof with
  |none=>
   rw[eo]at b;exact⟨_,U,f,_,_,_,U,U,b,U,U,_,U,ar U (ar U (go _ _ ⟨U,U,λq z=>by rw[eo]at z;cases z⟩))⟩
  |some q=>
   rw[eo]at b;refine⟨_,U,f,_,_,_,U,U,b,U,U,_,U,aU U ?_⟩;exists _,U,s,_,_,_,U,U,SqL.of so,U,d1,U,.inl ⟨a1,.inl I⟩,_,U,f,_,_,_,U,U,b,U,_,bT.k (k:=.inr q) I;rw[S q];by_cases z:bal R q=0
   .exact⟨U,_,U,aU (Qb (by rw[z])) (k _ (.thing D λy=>y q eo z))⟩
   .exact⟨U,_,U,ifN (λy=>z (V.int.inj y)) (go _ _ ⟨U,U,λq' y=>by rw[eo]at y;cases y;exact z⟩)⟩
theorem G9(o:LG){k:Nat}(h:rs[k]?=some r):dnR rs (o++[k])=dnR rs o++[r]:=by
 unfold dnR;rw[List.filterMap_append];simp[h]
theorem E4:Ω T base 2 a.JP a.JQ ["_law_deeds","_law_state","_law_k"] vU:=by
 refine T.KB.F.ok oo ?_;rintro _ A _ s H _ Q E hr⟨H0,l,s,p,f,n,us,rs,o,i,r,rfl,M,hl,b1,a0,_,a4,k⟩
 refine⟨_,(ag (aq (i:=3) oo.nd U Oi (ai aA (pq 0) (pq 2) Oy))
  (ag (bD PassesOwn.never U (iJ (ai au (pq 3) aa Oy)) (aI (i:=4) oo.nd U Oi)
  (aj (eY (hr.one) (ai aA (pq 1) aa Oy) (pq 4) (ao bC (dN hr.one (ai aA (pq 1) aa Oy) (pq 4) aa ⟨U,U,U,U⟩) aa) U)))
  (ag (aJ (ax eX (ai au (pq 3) aa Oy) bN (ay _)) (aj (eY (hr.one) (ai aA (pq 1) aa Oy) (ai au (pq 3) aa Oy) (ao bC (dN hr.one (ai aA (pq 1) aa Oy) (ai au (pq 3) aa Oy) aa ⟨U,U,U,U⟩) aa) U)) aN)
  (ag (aJ (ax eX (ai au (pq 3) aa Oy) bN (ay _)) (aj (eY (hr.one) (ai aA (pq 1) aa Oy) (ai au (pq 3) aa Oy) (ao gF (dN hr.one (ai aA (pq 1) aa Oy) (ai au (pq 3) aa Oy) aa ⟨U,U,U,U⟩) aa) U)) aN)
  (aj (eY (hr.one) (ai aA (pq 1) aa Oy) (pq 2) cq U)))))),?_⟩
 walk_at "q";have il:i<rs.length:=(qp.mp a0).1;have ul:=b1.len;have ol:(o++[i]).length=o.length+1:=qh;have big:(5000000:Nat)<sizeLine:=Yk;obtain⟨c7,Z,b5,d3⟩:=M.c0;obtain⟨I,a7,a3,_⟩:=M.c1;obtain⟨R,b2,c9,_⟩:=M.c2;obtain⟨b7,a6,a8⟩:=M.nd;obtain⟨_,a',d,po,_,ex,W,g2,_⟩:=b1.at i us[i] (qi Yo);rw[a0]at a';cases a';have sm:=(a4 r (qI a0)).1;have c4:atI us (i:Int)=some (.ref d):=aO (by rw[qi Yo,ex]);exists _,U,_,U,l,us,_,_,U,U,SqL.of (M.sa _ _ hl),c4;have tk:=G9 o a0;have ns:∀{c:Addr}{g:LN},H c=some (.dK g)->s≠c:=λh z=>by have:=M.so;rw[z,h]at this;cases this
 exists _,U,d,_,_,_,U,U,SqT.of (M.sa _ _ W),U,po,U,⟨_,SqT.of (M.sa _ _ g2)⟩;have p0:po≠p:=λz=>by rw[z,M.n0]at g2;cases g2
 refine tm (K:=K) (a:=po) (xs:=r.owns.map V.str) (λj C G=>∃X0 g,C=[some (.ref l),some (.ref s),some (.int i),some (.ref d),X0]/\(∀c,c≠p->G c=H c)/\G p=some (.dK g)/\g.length<=4000 * o.length+j/\∀c:Str,(aH g (.inr c)).getD (.int 0)=.int ((cnO (dnR rs o) c+(r.owns.take j).count c:Nat):Int)) ⟨_,c7,U,λ_ _=>U,Z,d3,λc=>b5 c⟩ ?_ ?_ ?_
 .rintro j C G _ ⟨v,g,_,y,_⟩;exact SqT.of ((y po p0).trans (M.sa _ _ g2))
 .rintro j x C G hx ⟨v,g,rfl,y,O,b4,t⟩;rw[qM]at hx;obtain⟨c,hc,rfl⟩:=qX.mp hx;have jl:j<r.owns.length:=(qp.mp hc).1;have m:G s=some (.lst [.ref p,.ref f,.ref n]):=(y s (ns Z)).trans M.so;exists _,U,s,_,_,_,U,U,SqL.of m,U,p,U,.inl ⟨g,.inl O⟩,_,U,_,bT.k (k:=.inr c) O,_,_,t c,U;exists _,U,s,_,_,_,U,U,SqL.of m,U,_,U,p,_,U,dR.k (k:=.inr c) O Yo;refine⟨_,_,U,λX h=>by rw[af h];exact y X h,ah,qH (dF _ _ _) Yo,λX=>?_⟩;rw[d9,qA,hc,List.count_append];by_cases e:X=c
  .subst e;simp;omega
  .have e1:¬ (Sum.inr X:Key)=Sum.inr c:=λz=>e (Sum.inr.inj z);rw[Q9 e1,t X]
   have:(some c).toList.count X=0:=by
    show[c].count X=0;rw[List.count_singleton];simp[Ne.symm e]
   rw[this]
   rfl
 rintro C G ⟨X0,g,rfl,y,O,b4,t⟩;rw[qc]at b4 t;rw[qP]at t;have t1:=SqT.of (K:=K) ((y d (λz=>by rw[z,M.n0]at W;cases W)).trans (M.sa _ _ W));have m:G s=some (.lst [.ref p,.ref f,.ref n]):=(y s (ns Z)).trans M.so;have u:G f=some (.dK I):=(y f b7.symm).trans a7;have c3:G n=some (.dK R):=(y n a6.symm).trans b2;have b0:a9 H0 G:=λc o h=>(y c (λz=>by rw[z,M.n0]at h;cases h)).trans (M.sa c o h);have c5:ud g (dnR rs (o++[i])):=λc=>by rw[tk,tL];exact t c
 clear y t b5 Z a7 b2
 have last:∀(b:Hp)(B:LN)(X0:LC),b s=some (.lst [.ref p,.ref f,.ref n])->b p=some (.dK g)->b f=some (.dK B)->b n=some (.dK R)->a9 H0 b->j3 B (dnR rs (o++[i]))->B.length<=2 * (o++[i]).length->Q .non (upd b n (.dK (aX R (.inl (i:Int)) (.bl true)))):=λb B X0 h1 h2 h3 h4 h5 h6 h7=>by
  have c6:s≠n:=λz=>by rw[z,h4]at h1;cases h1
  refine k _ ⟨by rwa[af c6],⟨g,by rwa[af a6],c5,by rw[ol];omega⟩,⟨B,by rwa[af a8],h6,h7⟩,⟨_,ah,λj=>?_,qH (dF _ _ _) (by rw[ol];omega)⟩,M.nd,λc o h=>?_,M.n0,M.n1,M.n2⟩
  .rw[d9];by_cases e:j=i
   .rw[Qa (by rw[e]),e,Qb (qQ _ (Q0.mpr U))]
    rfl
   .rw[Q9 (λz=>e (by have:=Sum.inl.inj z;omega)),c9 j];exact decide_eq_decide.mpr ⟨λh=>Q5 _ h,λh=>(qr.mp h).resolve_right λz=>e (Q0.mp z)⟩
  .rw[af (λz=>by rw[z,M.n2]at h;cases h)];exact h5 c o h
 have b':I.length<sizeLine:=Yo;have b8:R.length<sizeLine:=Yo;have a5:∀{b:Hp},(∀c,c≠f->b c=G c)->b s=some (.lst [.ref p,.ref f,.ref n])/\b p=some (.dK g)/\b n=some (.dK R)/\a9 H0 b/\b d=G d:=λh=>⟨(h s (λz=>by rw[z,u]at m;cases m)).trans m,(h p b7).trans O,(h n a8.symm).trans c3,λc o e=>(h c (λz=>by rw[z,M.n1]at e;cases e)).trans (b0 c o e),h d (λz=>by rw[z,M.n1]at W;cases W)⟩;dsimp only[uD];refine o1 (λC b=>∃J,C=[some (.ref l),some (.ref s),some (.int i),some (.ref d),X0]/\(∀c,c≠f->b c=G c)/\b f=some (.dK J)/\J.length<=I.length+1/\∀q:Str,(aH J (.inr q)).getD (.int 0)=.int (bal (dnR rs o) q+(if r.into=some q then 1 else 0))) ?_ λN go=>?_
 .rintro C b ⟨J,rfl,e2,h2,_,a2⟩;obtain⟨b6,_,_,_,d5⟩:=a5 e2;have t2:SqT K b d _:=SqT.of (d5.trans (b0 _ _ W));refine o1 (λC G3=>∃S,C=[some (.ref l),some (.ref s),some (.int i),some (.ref d),X0]/\(∀c,c≠f->G3 c=G c)/\G3 f=some (.dK S)/\S.length<=I.length+2/\j3 S (dnR rs (o++[i]))) ?_ λN go=>?_
  .rintro C G3 ⟨S,rfl,e3,h3,_,c8⟩;obtain⟨b3,b9,a1,d4,_⟩:=a5 e3;exact⟨_,U,s,_,_,_,U,U,SqL.of b3,U,_,U,n,_,U,dR.k (k:=.inl (i:Int)) a1 b8,last G3 S X0 b3 b9 h3 a1 d4 c8 (by rw[ol];omega)⟩
  .have L:∀q:Str,bal (dnR rs (o++[i])) q=bal (dnR rs o) q+(if r.into=some q then 1 else 0)-(if r.outof=some q then 1 else 0):=λq=>by rw[tk,fD]
   cases eo:r.outof with
   |none=>
    rw[eo]at t2 L;refine⟨_,U,d,_,_,_,U,U,t2,U,U,_,U,ar U (go _ _ ⟨J,U,e2,h2,Yo,λq=>?_⟩)⟩;rw[a2 q,L q];simp
   |some q=>
    rw[eo]at t2 L;refine⟨_,U,d,_,_,_,U,U,t2,U,U,_,U,aU U ?_⟩;exists _,U,s,_,_,_,U,U,SqL.of b6,U,f,U,.inl ⟨J,.inl h2⟩,_,U,d,_,_,_,U,U,t2,U,_,bT.k (k:=.inr q) h2,_,_,a2 q,U;exists _,U,s,_,_,_,U,U,SqL.of b6,U,_,U,d,_,_,_,U,U,t2,U,f,_,U,dR.k (k:=.inr q) h2 Yo;refine go _ _ ⟨_,U,λc h=>by rw[af h];exact e2 c h,ah,qH (dF _ _ _) Yo,λD=>?_⟩;rw[d9,L D];by_cases e:D=q
    .subst e;simp
    .have e1:¬ (Sum.inr D:Key)=Sum.inr q:=λz=>e (Sum.inr.inj z);have e3:¬ (some q=some D):=λz=>e (qR z).symm;rw[Q9 e1,a2 D,Q9 e3];simp
 .cases ei:r.into with
  |none=>
   rw[ei]at t1;refine⟨_,U,d,_,_,_,U,U,t1,U,U,_,U,ar U (go _ _ ⟨I,U,λ_ _=>U,u,Yo,λq=>?_⟩)⟩;rw[a3 q,ei];simp
  |some q=>
   rw[ei]at t1;refine⟨_,U,d,_,_,_,U,U,t1,U,U,_,U,aU U ?_⟩;exists _,U,s,_,_,_,U,U,SqL.of m,U,f,U,.inl ⟨I,.inl u⟩,_,U,d,_,_,_,U,U,t1,U,_,bT.k (k:=.inr q) u,_,_,a3 q,U;exists _,U,s,_,_,_,U,U,SqL.of m,U,_,U,d,_,_,_,U,U,t1,U,f,_,U,dR.k (k:=.inr q) u b';refine go _ _ ⟨_,U,λc h=>by rw[af h],ah,dF _ _ _,λD=>?_⟩;rw[d9,ei];by_cases e:D=q
   .subst e;simp
   .have e1:¬ (Sum.inr D:Key)=Sum.inr q:=λz=>e (Sum.inr.inj z);have e3:¬ (some q=some D):=λz=>e (qR z).symm;rw[Q9 e1,a3 D,Q9 e3];simp
theorem xG:Ω T base 3 a.JR a.JS ["_law_deeds","_law_ahead_here","_law_lengths","_law_order"] vB:=by
 refine T.Iq.F.ok o9 ?_;rintro _ A _ s H _ Q E hr⟨l,V,d,I,us,as,rs,kvs,ln,o,rfl,g,D,nd,ol,ok,k⟩
 refine⟨_,(ag (aq (i:=4) o9.nd U Oi (ba (a8 fu (a8 fu (a8 fu ac)))))
  (ag (aJ (cF (cN (aL dS U T.ld PyProof.Rows.Boot.«isinstance» (a8 (pq 3) (a8 (dW (v:=.ty "list") U T.mt PyProof.Rows.Boot.«list» rfl) ac))))) (aj (az bN)) aN)
  (ag (bD PassesOwn.never U (ce (pq 3)) (aI (i:=5) o9.nd U Oi)
  (ag (aJ (PW.pt (c9 (cF (cN (aC (si T) (hr.mono Yk) T.HG (a8 (pq 5) ac)))) (c9 (cF (lQ hV gb aa (pq 5) (aL bn U T.ad Qg (a8 (pq 0) ac)))) (dL (ax m5 (pq 5) (ai aA (pq 4) aa Oy) (by with_unfolding_all rfl)))))) (aj (az bN)) aN)
  (ag (aJ (ax eA (aC (xK T) (hr.mono Yk) T.Ip (a8 (pq 0) (a8 (pq 1) (a8 (pq 2) (a8 (pq 4) (a8 (pq 5) ac)))))) aQ (ay _)) (aj (az bN)) aN)
  (aj (bu (aC (E4 T) (hr.mono Yk) T.KB (a8 (pq 0) (a8 (pq 4) (a8 (pq 5) ac)))))))))
  (aj (az (pq 4)))))),?_⟩
 walk_at "q";have ul:=g.rr.len;refine λe X0=>λf y=>λb m=>⟨ln3,λs hs=>?_⟩;have C:f≠e:=λz=>by rw[z,ah]at y;cases y
 have a2:b≠f:=λz=>by rw[z,ah]at m;cases m
 have X:b≠e:=λz=>by rw[z,af C.symm,ah]at m;cases m
 have q0:=a9.new X0 (.dK []);have S:=a9.new y (.dK []);have J:=a9.new m (.dK []);have q:=a9.new hs (.lst [.ref e,.ref f,.ref b])
 have p:WkH H (upd (upd (upd (upd H e (.dK [])) f (.dK [])) b (.dK [])) s (.lst [.ref e,.ref f,.ref b])) s e f b rs []:=
  ⟨ah,⟨[],(S.trans (J.trans q)) _ _ ah,λc=>U,qo _⟩,⟨[],(J.trans q) _ _ ah,λc=>U,qo _⟩,⟨[],q _ _ ah,λj=>U,qo _⟩,⟨C.symm,X.symm,a2.symm⟩,(q0.trans S).trans (J.trans q),X0,kr y,kr (kr m)⟩
 generalize upd (upd (upd (upd H e (.dK [])) f (.dK [])) b (.dK [])) s (.lst [.ref e,.ref f,.ref b])=H1 at p ⊢;refine⟨_,U,_,_,_,true,U,.lst (p.sa _ _ D),U,_,U,ar U ?_⟩;exists _,U,I,U,⟨_,SqL.of (p.sa _ _ D)⟩;refine dk (K:=K) (a:=I) (xs:=bF o) (λi B G=>∃L,B=[some (.ref l),some (.ref V),some (.ref d),some (.ref I),some (.ref s),L]/\WkH H G s e f b rs (o.take i)) ⟨_,U,p⟩ ?_ ?_ ?_
 .rintro i B G _ ⟨_,_,M⟩;exact SqL.of (M.sa _ _ D)
 .rintro i x B G N ⟨L,rfl,M⟩;unfold bF at N;rw[qM]at N;obtain⟨j,u,rfl⟩:=qX.mp N;obtain⟨r,n,Z,a0,R⟩:=ok i j u;have jl:=(qp.mp n).1;have il:=(qp.mp u).1
  have new:j∉o.take i:=λz=>by
   obtain⟨t,ht⟩:=List.mem_iff_getElem?.mp z;rw[List.getElem?_take]at ht;split at ht
   .rename_i lt;have:=(List.getElem?_inj il nd).mp (u.trans ht.symm);omega
   .cases ht
  obtain⟨W,a1,O,a3⟩:=M.c2;refine⟨_,U,(j:Int),U,_,U,ar U ?_⟩;refine⟨_,U,_,_,U,U,_,U,aU (Qb Yo) ⟨_,U,l,us,U,.inl (SqL.of (M.sa _ _ g.hl)),_,_,U,U,_,U,ar (by rw[Qb Yo];rfl) ?_⟩⟩;refine⟨_,U,_,U,s,_,_,_,U,U,SqL.of M.so,U,b,W,.inl (j:Int),U,a1,U,_,U,ar (by rw[O j,Qc new]) ?_⟩;refine⟨_,U,_,U,_,U,_,U,_,U,H,l,V,d,s,e,f,b,us,as,rs,kvs,ln,_,j,r,U,M,g,n,λz hz=>?_⟩
  have ez:z=("":Str):=by
   cases hz with
   |card h=>exact Qd Z h
   |thing _ h=>exact Qd a0 h
   |room _ _ h=>exact Qd R h
   |no=>rfl
  subst ez;refine⟨U,_,U,ar Yd ?_⟩;refine⟨_,U,_,U,_,U,H,l,s,e,f,b,us,rs,o.take i,j,r,U,M,g.hl,g.rr,n,by rw[qS];omega,g.sm,λG2 M2=>⟨_,U,?_⟩⟩;rw[qA,u];exact M2
 .rintro B G ⟨L,rfl,M⟩;rw[iQ,qP]at M;exact⟨_,U,k G s e f b M⟩
theorem mT{b:LA}(h:∀e∈ak b,e∈ak ds):∀c∈cards b,c∈cards ds:=λc hc=>by
 unfold cards at *;obtain⟨d,hd,h'⟩:=List.mem_flatMap.mp hc;exact List.mem_flatMap.mpr ⟨d,h d hd,h'⟩
mutual
theorem FR:∀(d e:ae),e∈d.flat->∀x∈e.flat,x∈d.flat
 |.set x a sg b,e,h=>by simp[ae.flat]at h;subst h;simp[ae.flat]
 |.put q x,e,h=>by simp[ae.flat]at h;subst h;simp[ae.flat]
 |.get q x,e,h=>by simp[ae.flat]at h;subst h;simp[ae.flat]
 |.give x,e,h=>by simp[ae.flat]at h;subst h;simp[ae.flat]
 |.cond x t o,e,h=>by
  rw[ae.flat,qD,qr]at h;rcases h with rfl|h|h
  .exact λx h=>h
  .intro y c;rw[ae.flat,qD,qr];exact .inr (.inl (iT t e h y c))
  .intro y c;rw[ae.flat,qD,qr];exact .inr (.inr (iT o e h y c))
 |.whl x b,e,h=>by
  rw[ae.flat,qD]at h;rcases h with rfl|h
  .exact λx h=>h
  .intro y c;rw[ae.flat,qD];exact .inr (iT b e h y c)
 |.rep n b,e,h=>by
  rw[ae.flat,qD]at h;rcases h with rfl|h
  .exact λx h=>h
  .intro y c;rw[ae.flat,qD];exact .inr (iT b e h y c)
theorem iT:∀(ds:LA)(e:ae),e∈ak ds->∀x∈e.flat,x∈ak ds
 |[],e,h=>by simp[ak]at h
 |d::r,e,h=>by
  rw[ak,qr]at h;intro y a;rw[ak,qr];rcases h with h|h
  .exact .inl (FR d e h y a)
  .exact .inr (iT r e h y a)
end
theorem zf{e:ae}(h:e∈ak ds):∀c∈cards [e],c∈cards ds:=mT λx a=>by
 rw[ak,ak,qG]at a;exact iT ds e h x a
def zD(rooms:LS)(d:ae):Prop:=∀q x,d=.put q x->q∈rooms
theorem B9(n:Int)(names rooms:LS)(shut:Bool):zD rooms (bK n names rooms shut):=λq x z=>by
 unfold bK at z;split at z
 .cases z
 .split at z
  .rename_i c;split at z
   .cases z
   .injection z with z1 z2;rw[<- z1];exact iO c.2.1 _
  .cases z
theorem GM{names:LS}{low:Int}(d:1<=most)(c:most<=98)(a:LI):∀q x,.put q x∈ak (e7 names rooms most low a)->q∈rooms:=λq x h=>
 mW (Pd:=zD rooms) ⟨λ_ _ _ q x z=>(by cases z),λ_ _ q x z=>(by cases z),λn b _ _ q x z=>(by cases z)⟩ (λk s=>B9 _ _ _ _) d c a _ h q x U
theorem iB(l:LS):(srt l).Nodup:=by
 unfold srt;split
 .rename_i h;exact(Classical.choose_spec h).1
 .exact List.nodup_nil
def eE(x:Str):Prop:=∀c∈x.cps.toList,c≠60
theorem eE.app{y:Str}(a:eE x)(b:eE y):eE (x++y):=λc hc=>by
 rw[show(x++y).cps.toList=x.cps.toList++y.cps.toList from iC x y,qr]at hc;exact hc.elim (a c) (b c)
theorem eE.slice{x:Str}(h:eE x)(a b:Option Int):eE (Txt.slice x a b):=λc hc=>by
 rw[show(Txt.slice x a b).cps.toList=_ from nU x a b]at hc;exact h c (List.mem_of_mem_drop (List.mem_of_mem_take hc))
theorem tZ(j:Int):eE (sgn (cu j)):=λd hd=>by
 simp[sgn]at hd;subst hd;unfold cu;have all:∀c∈df.cps.toList,c≠60:=Yd;rw[qu]
 cases e:df.cps.toList[j.toNat]? with
 |none=>decide
 |some c=>exact all c (qI e)
theorem sK(n:Int):∀k,eE (cJ n k)
 |0=>λc hc=>by simp[cJ]at hc;exact Qd hc (by decide +kernel +revert)
 |k+1=>by rw[cJ];exact(sK n k).app (tZ _)
theorem CP(c:Int)(n:Nat):∀w∈cO c n,eE w:=by
 have a:∀w∈dU c n,eE w:=λw hw=>by
  unfold dU at hw;obtain⟨k,_,rfl⟩:=List.mem_map.mp hw
  have d:eE (ci c k):=by
   have b:eE (ca c):=by unfold ca;exact sK _ _
   have s:eE (fq c k):=tZ _;unfold ci;split
   .exact((b.slice _ _).app s).app (b.slice _ _)
   .split
    .exact b.slice _ _
    .exact(s.app (sK _ _)).slice _ _
  unfold cW;split
  .exact(d.slice _ _).app (tZ _)
  .exact d
 unfold cO;split
 .intro w hw;exact a w (List.mem_reverse.mp hw)
 .exact a
def zK(names:LS)(d:ae):Prop:=∀q x,d=.get q x->x∈names
theorem Be(n:Int){names:LS}(h:0<names.length)(rooms:LS)(shut:Bool):zK names (bK n names rooms shut):=λq x z=>by
 unfold bK at z;split at z
 .cases z
 .split at z
  .split at z
   .injection z with z1 z2;rw[<- z2];exact iO h _
   .cases z
  .cases z
theorem GP{names:LS}{low:Int}(h:0<names.length)(d:1<=most)(c:most<=98)(a:LI):∀q x,.get q x∈ak (e7 names rooms most low a)->x∈names:=λq x e=>
 mW (Pd:=zK names) ⟨λ_ _ _ q x z=>(by cases z),λ_ _ q x z=>(by cases z),λn b _ _ q x z=>(by cases z)⟩ (λk s=>Be _ h _ _) d c a _ e q x U
theorem BZ(e:ae)(h:∀q x,e=.get q x->eE x):(aS e).owns.Nodup:=by
 cases e with
 |set x a c b=>exact Qz _ _
 |put q x=>exact Qz _ _
 |give x=>exact Qz _ _
 |get q x=>
  show(fj [x,q++("<":Str)]).Nodup
  have nx:x≠q++("<":Str):=λz=>by
   have:=h q x U 60;rw[z,show(q++("<":Str)).cps.toList=sl q++sl ("<":Str)from iC _ _]at this;exact this (qQ _ Yd) U
  unfold fj;split
  .rename_i h;exact(Classical.choose_spec h).1.nodup_iff.mpr (by simp[nx])
  .exact List.nodup_nil
 |cond x t o=>exact iB _
 |whl x b=>exact iB _
 |rep n b=>exact iB _
theorem kJ{us:LV}(s:a9 H H')(h:RAs H us rs n):RAs H' us rs n:=⟨h.1,λi r f hr=>by
 obtain⟨v,d,p,l1,l2,l,b,e,a,j,m,k,g⟩:=h.2 i r f hr
 exact⟨v,d,p,l1,l2,l,b,e,s _ _ a,s _ _ j,s _ _ m,k.keep λc xs h=>s _ _ h,g.keep λc xs h=>s _ _ h⟩⟩
theorem gz.same{H H':Hp}{l a d:Addr}{us as:LV}{rs:List Row}{kvs:LN}{ln:Str->Int}(s:a9 H H')(h:gz H l a d us as rs kvs ln):gz H' l a d us as rs kvs ln:=⟨s _ _ h.hl,h.rr.same s,s _ _ h.ha,kJ s h.ra,s _ _ h.hd,h.few,h.sm,h.dl⟩
theorem DS:Ω T base 4 a.K1 a.K2 ["_law_deeds","_law_ahead_here","_law_lengths","_law_state","_law_ring"] vG:=by
 refine T.KF.F.ok gB ?_;rintro _ A _ s H _ Q E hr⟨H0,l,la,d,s,d0,d1,d2,L,us,as,I,rs,kvs,ln,o,ps,rfl,M,C,g,N,nd,is,nx,rm,k⟩
 refine⟨_,(ag (aJ (PW.pt (c9 (cF (cN (aL dS U T.ld PyProof.Rows.Boot.«isinstance» (a8 (pq 4) (a8 (dW (v:=.ty "list") U T.mt PyProof.Rows.Boot.«list» rfl) ac))))) (dL (ax fO (aL bn U T.ad Qg (a8 (fQ (k:=1) (Nc:=["_law_one","_law_deeds"]) (js:=[0]) (show bg (aD lJ) ["_law_deeds","_law_ahead_here","_law_lengths","_law_state","_law_ring","_law_numbers","_law_seen","_law_rooms","_law_k","_law_at","_law_kind","_law_name"] _ 1 ["_law_one","_law_deeds"] [0]from bg.mk U (by decide +kernel) (by decide +kernel) (by decide +kernel) U (by decide +kernel)) U (ce (pq 4)) (λ_ _ _ _ _=>(aI (i:=0) (show List.Nodup (["_law_one","_law_deeds"]:LS)from by decide +kernel) U Oi)) (λ_ _ _ _ _=>(iH (cF (cN (aC (DW T) (hr.mono Yk) T.KE (a8 (pq 0) (a8 (aL (Cv (K:=K) U) U T.ad Qg (a8 (pq 1) ac)) ac))))))) (λ_ _ _ _ _=>(pq 0))) ac)) aa (ay _))))) (aj (az cq)) aN)
  (ag (aq (i:=5) gB.nd U Oi (aC (DY T) (hr.mono Yk) T.KC (a8 (pq 0) ac)))
  (ag (aq (i:=6) gB.nd U Oi fu)
  (ag (aq (i:=7) gB.nd U Oi aa)
  (ag (bD PassesOwn.never U (gj U T.u8 (a8 (aL bn U T.ad Qg (a8 (pq 4) ac)) ac)) (aI (i:=8) gB.nd U Oi)
  (ag (gi (ai aA (pq 4) (pq 8) Oy) (dM U (bh (aI (i:=9) gB.nd U Oi) (bh (aI (i:=10) gB.nd U Oi) (bh (aI (i:=11) gB.nd U Oi) d5)))))
  (ag (aJ (PW.pt (c9 (ax m5 (pq 9) (pq 6) (by with_unfolding_all rfl)) (dL (ax m5 (pq 9) (ai aA (pq 3) aa Oy) (by with_unfolding_all rfl))))) (aj (az cq)) aN)
  (ag (eY (hr.one) (pq 6) (pq 9) cq U)
  (ag (aJ (cF (cN (aC (E1 T) (hr.mono Yk) T.KD (a8 (pq 0) (a8 (pq 1) (a8 (pq 5) (a8 (pq 2) (a8 (pq 9) (a8 (bc (a8 (ai au (ai aA (pq 4) (ao bp (ao bC (pq 8) aa) (aL bn U T.ad Qg (a8 (pq 4) ac))) Oy) aa Oy) (a8 (pq 10) (a8 (pq 11) ac)))) ac))))))))) (aj (az cq)) aN)
  (aj (aJ (ax aW (pq 10) aQ (ay _)) (ag (CM (i:=7) gB.nd U Oi aa Fu)
  (aj (aJ (ax eA (aC (xK T) (hr.mono Yk) T.Ip (a8 (pq 0) (a8 (pq 1) (a8 (pq 2) (a8 (pq 3) (a8 (pq 9) ac)))))) aQ (ay _)) (aj (az cq)) aN))) aN)))))))
  (aj (az (fR fO (pq 7) aa (ay _))))))))),?_⟩
 walk_at "q";have ul:=C.rr.len;have rl:=N.len;rw[qc]at rl
 have c3:ps.length<=rs.length:=by
  have:=gm nd (n:=rs.length) λx hx=>by
   obtain⟨p,b,rfl⟩:=List.mem_map.mp hx;obtain⟨_,r,q,_⟩:=is p b;exact(qp.mp q).1
  rwa [qc]at this
 have few:=C.few;have big:(10000:Nat)<sizeLine:=Yk;refine⟨_,U,_,_,_,true,U,.lst (M.sa _ _ g),U,_,U,ar U ?_⟩;exists _,U,L,U,⟨_,SqL.of (M.sa _ _ g)⟩;refine tK (K:=K) (a:=L) (xs:=I) (λj ys u G=>(∃v0,u=[v0,some (.ref l)])/\G=H/\ys=[]) ⟨⟨_,U⟩,U,U⟩ ?_ (bf (m:=1000) Yo) ?_ ?_ ?_
 .rintro j ys u G _ ⟨_,_,rfl⟩;exact qC _
 .rintro j ys u G ⟨_,rfl,_⟩;exact SqL.of (M.sa _ _ g)
 .rintro j x ys u G hx ⟨⟨v0,rfl⟩,rfl,rfl⟩;have jl:=(qp.mp hx).1;have b:ps[j]?=some (ps[j]' Yo):=qi _;generalize ps[j]' Yo=p at b;obtain⟨pt,h1,h2⟩:=jL N (i:=j) (e:=rgW p) (by rw[qM,b];rfl);rw[hx]at h1;cases h1;obtain⟨_,r,q,_⟩:=is p (qI b);have pl:=(qp.mp q).1;exact⟨_,U,_,U,l,us,U,.inl (SqL.of (M.sa _ _ C.hl)),pt,p.1,p.2.2.1,p.2.2.2,us.length,U,M.sa _ _ h2,Yo,_,U,ar U ⟨⟨_,U⟩,U,U⟩⟩
 rintro ys u G ⟨_,rfl,rfl⟩ lx a2;have u1:a9 G (upd G lx (.lst [])):=a9.new a2 _;have M1:=M.same (a9.new a2 (.lst []));refine⟨lx,_,U,.inl (SqL.of ah),_,_,U,U,_,U,ar Yk ?_⟩;generalize upd G lx (.lst [])=H1 at M1 u1 ⊢;refine⟨_,U,l,us,rs,U,M1.sa _ _ C.hl,C.rr.same M1.sa,C.few,λH2 a4 s2 _ hn=>?_⟩;have M2:=M1.same s2;refine λds a5=>?_;obtain⟨H3,eN,q3,b9⟩:=cU a5 (.dK []);rw[eN];exists _,U,L,I,U,.inl (SqL.of (q3 _ _ (M2.sa _ _ g))),_,U,Yo,Yo;rw[show((I.length:Nat):Int).toNat=ps.length by omega];refine ii (λi u G=>∃(c:Int)(v8 v9 a0 a1:LC)(f:LN),u=[some (.ref l),some (.ref la),some (.ref d),some (.ref s),some (.ref L),some (.ref a4),some (.ref ds),some (.int c),v8,v9,a0,a1]/\a9 H2 G/\G ds=some (.dK f)/\f.length<=i/\(∀j:Nat,(aH f (.inl (j:Int))).isSome=true->∃t p,t<i/\ps[t]?=some p/\p.1=j)/\0<=c/\((∃t p,t<i/\ps[t]?=some p/\p.2.2.1=("room":Str))->0<c)) ⟨0,_,_,_,_,[],U,q3,b9,qo _,λj h=>(nomatch h),Int.le_refl _,λ⟨t,_,h,_⟩=>Qd h (QG t)⟩ ?_ ?_
 .rintro i u G hi ⟨c,v8,v9,a0,a1,f,rfl,sG,W,kl,J,c0,cr⟩;rw[Int.zero_add];have b:ps[i]?=some (ps[i]'hi):=qi _;generalize ps[i]'hi=p at b;obtain⟨no,r,q,me,room⟩:=is p (qI b);obtain⟨p',b7,en⟩:=nx i p b;obtain⟨pt,h1,h2⟩:=jL N (i:=i) (e:=rgW p) (by rw[qM,b];rfl);obtain⟨a3,b8,a'⟩:=jL N (i:=(i+1) % ps.length) (e:=rgW p') (by rw[qM,b7];rfl);have M3:=M2.same sG;have b5:atI I (i:Int)=some (.ref pt):=aO h1;exists _,U,_,U,L,_,_,_,U,U,SqL.of (M3.sa _ _ g),b5,pt,_,U,SqT.of (M3.sa _ _ h2),U,_,_,U,_,_,U,_,_,U,U;obtain⟨b',b4,b6,c5⟩:=M3.c2
  have c1:(aH f (.inl ((p.1:Nat):Int))).isSome=false:=by
   cases e:(aH f (.inl ((p.1:Nat):Int))).isSome with
   |false=>rfl
   |true=>
    obtain⟨t,Z,lt,ht,R⟩:=J p.1 e;have:=(List.getElem?_inj (l:=ps.map (·.1)) (i:=t) (j:=i) (by rw[qc];omega) nd).mp (by rw[qM,qM,ht,b];show some Z.1=some p.1;rw[R]);omega
  refine⟨_,U,_,U,ds,f,.inl ((p.1:Nat):Int),U,W,U,_,U,ar c1 ?_⟩;refine⟨_,U,_,U,s,_,_,_,U,U,SqL.of M3.so,U,d2,b',.inl ((p.1:Nat):Int),U,b4,U,_,U,ar (by rw[b6 p.1,Qc no]) ?_⟩;exists _,U,_,U,ds,_,U,dR.k (k:=.inl ((p.1:Nat):Int)) W Yo;have X0:=iF sG a5 (.dK (aX f (.inl ((p.1:Nat):Int)) (.bl true)));have O:upd G ds (.dK (aX f (.inl ((p.1:Nat):Int)) (.bl true))) ds=some _:=ah;have X:=qH (dF f (.inl ((p.1:Nat):Int)) (.bl true)) (Nat.succ_le_succ kl)
  have y:∀j:Nat,(aH (aX f (.inl ((p.1:Nat):Int)) (.bl true)) (.inl (j:Int))).isSome=true->∃t p,t<i+1/\ps[t]?=some p/\p.1=j:=λj h=>by
   rw[d9]at h;split at h
   .rename_i e;exact⟨i,p,Qj i,b,by have:=Sum.inl.inj e;omega⟩
   .obtain⟨t,Z,lt,ht,R⟩:=J j h;exact⟨t,Z,Yo,ht,R⟩
  generalize upd G ds (.dK (aX f (.inl ((p.1:Nat):Int)) (.bl true)))=G4 at X0 O ⊢;generalize aX f (.inl ((p.1:Nat):Int)) (.bl true)=kv4 at O X y;have M4:=M2.same X0
  have a7:atI I (((i:Int)+1) % (I.length:Int))=some (.ref a3):=by
   rw[rl,show((i:Int)+1) % (ps.length:Int)=(((i+1) % ps.length:Nat):Int)by simp];exact aO b8
  refine⟨_,U,_,U,_,U,_,U,_,U,_,U,_,U,_,_,U,U,_,U,L,I,U,.inl (SqL.of (M4.sa _ _ g)),_,_,U,U,Yo,L,_,_,_,U,U,SqL.of (M4.sa _ _ g),a7,a3,_,_,_,U,U,SqT.of (M4.sa _ _ a'),U,_,U,_,U,ln3,λpz b0=>?_⟩;have q5:=a9.new b0 (.tup [.int (p'.1:Int),.str p.2.2.1,.str p.2.2.2]);have a6:upd G4 pz (.tup [.int (p'.1:Int),.str p.2.2.1,.str p.2.2.2]) pz=some (eF p.2):=by rw[ah];unfold eF;rw[en]
  have D:=gz.same (M4.sa.trans q5) C;refine⟨l,la,a4,d,pz,us,as,rs,kvs,ln,p.1,r,p.2,U,⟨D.hl,D.rr,D.ha,D.ra,(X0.trans q5) _ _ hn,D.hd,D.few,D.sm,D.dl⟩,q,a6,me,λG6 s6=>⟨_,U,ar U ?_⟩⟩;have B:=q5.trans s6;have M6:=M4.same B;exists _,U,U,_,U;by_cases S:p.2.2.1=("room":Str)
  .refine aU (Qb (congrArg V.str S)) ?_;obtain⟨b1,b2,b3⟩:=room S;exists _,U,c,1,U,U;refine⟨_,U,_,U,_,U,_,U,_,U,H0,l,la,d,s,d0,d1,d2,us,as,rs,kvs,ln,o,p.1,r,U,M6,C,q,λz hz=>?_⟩
   have ez:z=("room":Str):=by
    cases hz with
    |card h=>exact Qd b1 h
    |thing _ h=>exact Qd b2 h
    |room=>rfl
    |no _ _ h=>exact Qd h b3
   subst ez;refine⟨U,_,U,ar Yd ?_⟩;exact⟨c+1,_,_,_,_,kv4,U,X0.trans B,B _ _ O,X,y,Yo,λ_=>Yo⟩
  .refine ar (Qc λz=>S (V.str.inj z)) ?_;refine⟨c,_,_,_,_,kv4,U,X0.trans B,B _ _ O,X,y,c0,λ⟨t,Z,lt,ht,R⟩=>cr ⟨t,Z,?_,ht,R⟩⟩;by_cases z:t=i
   .rw[z,b]at ht;cases ht;exact Qd R S
   .omega
 .rintro u G ⟨c,v8,v9,a0,a1,f,rfl,sG,W,kl,J,c0,cr⟩;obtain⟨p,b,S⟩:=rm;obtain⟨t,ht⟩:=List.mem_iff_getElem?.mp b;have:=cr ⟨t,p,(qp.mp ht).1,ht,S⟩;exists _,U,_,_,U,U;rw[Qb Yo];exact k _ ((u1.trans s2).trans sG)
theorem AT(x y:Str):y∈fj [x,y]:=by
 obtain⟨zs,a,_,so⟩:=sW x [y];rw[<- uT a (so U)];exact a.mem_iff.mpr (by simp)
theorem C2(e:ae):∀c∈(aS e).owns,c∈cards [e]:=by
 intro c hc
 cases e with
 |cond x t o=>exact eU _ c hc
 |whl x b=>exact eU _ c hc
 |rep n b=>exact eU _ c hc
 |get q x=>
  have:=uS _ c hc;simpa[cards,ak,ae.flat,ae.cards,ae.names,ae.others]using this
 |_=>
  simp[aS]at hc;simp[cards,ak,ae.flat,ae.cards,ae.names,ae.others,hc]
theorem BP{as:LS}{ss:LF}(nd:∀r∈aM ds++[dZ as ss ds],r.owns.Nodup)(ow:∀r∈aM ds++[dZ as ss ds],e8 r)(fed:Fed (aM ds++[dZ as ss ds])):cK (aM ds++[dZ as ss ds]):=by
 have a:∀{Pr:Row->Prop},(∀b,(∀e∈ak b,e∈ak ds)->Pr (gq b))->(∀e∈ak ds,Pr (aS e))->Pr (dZ as ss ds)->∀r∈aM ds++[dZ as ss ds],Pr r:=λf i j r hr=>by
  rcases qr.mp hr with hr|hr
  .rcases gD _ r hr with⟨b,rfl,hb⟩|⟨e,d,rfl,_⟩
   .exact f b hb
   .exact i e d
  .rwa[Q0.mp hr]
 have own:=a (Pr:=λr=>∀c∈r.owns,c∈eB as ss ds) (λb hb c hc=>by
  have:=mT hb c (eU _ c hc);unfold eB
  simp[this]) (λe d c hc=>by
  have:=zf d c (C2 e c hc);unfold eB
  simp[this]) λc hc=>eU _ c hc
 refine⟨nd,ow,a (λb _ q h=>(nomatch h)) (λe _ q h=>?_) λq h=>(nomatch h),a (λb _ q h=>(nomatch h)) (λe _ q h=>?_) λq h=>(nomatch h),fed,λ_ h=>?_⟩
 .cases e with
  |put g x=>cases h;exact Q0.mpr U
  |_=>cases h
 .cases e with
  |get g x=>cases h;exact AT _ _
  |_=>cases h
 .rw[qh,Qf,Nat.add_sub_cancel,qT (qo _),Nat.sub_self]at h;cases h;exact⟨U,U,λr hr c hc=>(AS _ c).mpr (own r hr c hc)⟩
section
variable {ln:Str->Int}{W:List (List Wat)}{o:LG}
theorem LkI.clo(I:LkI W rs.length o [] zs st)(dw:∀k r,rs[k]?=some r->wsV W k=bX rs ln k r)(t:Nat):Clo rs ln (o.take t):=
 ⟨⟨List.Sublist.nodup (List.take_sublist _ _) I.nd,λj a=>I.lt j (List.mem_of_mem_take a)⟩,λk r hk hr e d=>by
   obtain⟨i,b⟩:=List.mem_iff_getElem?.mp hk;rw[List.getElem?_take]at b;split at b
   .rename_i lt;obtain⟨j,c,a⟩:=I.ord i k b e (by rwa[dw k r hr]);exists j,c;rw[show o.take i=(o.take t).take i by rw[List.take_take,Nat.min_eq_left Yo]]at a;exact List.mem_of_mem_take a
   .cases b⟩
theorem LkI.oks(I:LkI W rs.length o [] zs st)(R:cK rs)(dw:∀k r,rs[k]?=some r->wsV W k=bX rs ln k r)(t k:Nat)(h:o[t]?=some k):∃r,rs[k]?=some r/\eQ rs (dnR rs (o.take t)) k r/\gy (dnR rs (o.take t)) r/\ir ln (dnR rs (o.take t)) r:=by
 have hr:rs[k]?=some (rs[k]'(I.lt k (qI h))):=qi _;generalize rs[k]'(I.lt k (qI h))=r at hr;have C:=I.clo dw t;have dn:=I.ord t k h;rw[dw k r hr]at dn
 have d:k∉o.take t:=λz=>by
  obtain⟨i,b⟩:=List.mem_iff_getElem?.mp z;rw[List.getElem?_take]at b;split at b
  .have:=(List.getElem?_inj (qp.mp h).1 I.nd).mp (h.trans b.symm);omega
  .cases b
 unfold bX at dn;have c:=(C.card_iff R hr).mp λe a=>dn e (Q5 _ (Q5 _ a));exact⟨r,hr,c,(C.thing_iff R hr d c).mp λe a=>dn e (Q5 _ (qQ _ a)),(C.room_iff R hr d c).mp λe a=>dn e (qQ _ a)⟩
theorem LkI.lack(I:LkI W rs.length o [] zs st)(R:cK rs)(dw:∀k r,rs[k]?=some r->wsV W k=bX rs ln k r){k:Nat}(hr:rs[k]?=some r)(d:k∉o):¬ j5 rs ln (dnR rs o) k r "":=λh=>by
 have C:=I.clo dw o.length;rw[qP]at C
 obtain⟨w,b,e,g,_⟩:∃w,w∉o/\∃e,(wsV W k)[zs k]?=some e/\e.1=(w:Int):=by
  rcases I.al k (qp.mp hr).1 with z|z|⟨w,b,hw⟩
  .exact Qd z d
  .cases z
  .exact⟨w,b,(I.so w b k hw).2.2.2⟩
 have a:=qI g;rw[dw k r hr]at a;generalize ez:("":Str)=z at h
 cases h with
 |card=>exact Qd ez Yd
 |thing=>exact Qd ez Yd
 |room=>exact Qd ez Yd
 |no c t q=>
  have:bQ o e:=by
   unfold bX at a;rw[qr,qr]at a;rcases a with(a|a)|a
   .exact(C.card_iff R hr).mpr c e a
   .exact(C.thing_iff R hr d c).mpr t e a
   .exact(C.room_iff R hr d c).mpr q e a
  obtain⟨x,ex,f⟩:=this
  exact b (by
   have:x=w:=Yo
   exact this▸f)
theorem dG.room(I:LkI W rs.length o [] zs st)(R:cK rs)(dw:∀k r,rs[k]?=some r->wsV W k=bX rs ln k r){k:Nat}(hr:rs[k]?=some r)(j:k∉o){e:Wat}{z:Nat}(a:(wsV W k)[z]?=some e)(all:∀e∈(wsV W k).take z,bQ o e)(i:¬ bQ o e)(l:e.2.1=("room":Str)):eQ rs (dnR rs o) k r/\gy (dnR rs o) r/\¬ ir ln (dnR rs o) r:=by
 have C:=I.clo dw o.length;rw[qP]at C;rw[dw k r hr]at a all
 have kind:∀e∈dr (rs.take k) r++dy rs k r,e.2.1≠("room":Str):=λe a=>by
  have d:∀{f:Str}{g:LS},f≠("room":Str)->e∈du (bO (rs.take k)) f g->e.2.1≠("room":Str):=λ{f g} n h=>by
   unfold du at h;obtain⟨c,_,m⟩:=List.mem_filterMap.mp h;obtain⟨_,_,rfl⟩:=qX.mp m;exact n
  unfold dr at a;rw[qr,qr]at a;rcases a with(a|a)|a
  .exact d Yd a
  .exact d Yd a
  .unfold dy at a;split at a
   .rw[Q0.mp a];exact show("thing":Str)≠"room" by decide +kernel
   .cases a
 unfold bX at a all
 have zl:(dr (rs.take k) r++dy rs k r).length<=z:=by
  by_cases lt:z<(dr (rs.take k) r++dy rs k r).length
  .rw[Qe lt]at a;exact Qd l (kind e (qI a))
  .omega
 have b:∀e∈dr (rs.take k) r++dy rs k r,bQ o e:=λe a=>all e (by
  rw[List.take_append,List.take_of_length_le zl]
  exact Q5 _ a)
 rw[qT zl]at a;have c:=(C.card_iff R hr).mp λe a=>b e (Q5 _ a);exact⟨c,(C.thing_iff R hr j c).mp λe a=>b e (qQ _ a),λq=>i ((C.room_iff R hr j c).mpr q e (qI a))⟩
theorem tD{k:Nat}:∀e∈dr (rs.take k) r++dy rs k r,e.2.1≠("room":Str):=λe a=>by
 have b:∀{d:Str}{f:LS},d≠("room":Str)->e∈du (bO (rs.take k)) d f->e.2.1≠("room":Str):=λ{d f} n h=>by
  unfold du at h;obtain⟨c,_,g⟩:=List.mem_filterMap.mp h;obtain⟨_,_,rfl⟩:=qX.mp g;exact n
 unfold dr at a;rw[qr,qr]at a;rcases a with(a|a)|a
 .exact b Yd a
 .exact b Yd a
 .unfold dy at a;split at a
  .rw[Q0.mp a];exact show("thing":Str)≠"room" by decide +kernel
  .cases a
theorem FY(R:cK rs){k:Nat}(h:rs[k]?=some r):∀e∈bX rs ln k r,∃j:Nat,e.1=(j:Int)/\j<rs.length:=λe b=>by
 have g:=(qp.mp h).1;by_cases z:e.2.1=("room":Str)
 .have b:e∈cX rs ln k r:=by
   unfold bX at b;rcases qr.mp b with b|b
   .exact Qd z (tD e b)
   .exact b
  unfold cX at b;split at b
  .split at b
   .rw[Q0.mp b];show ∃j:Nat,awaited _ _ _=(j:Int)/\_;unfold awaited;split
    .rename_i q _ _ lt;rw[qu,qi lt];have ex:(ap Row.outof (rs.take rs.length) q)[(gu rs (ln q) k q).toNat]?=some ((ap Row.outof rs q)[(gu rs (ln q) k q).toNat]'lt):=by rw[qP];exact qi lt
     obtain⟨j,f,d,a,_⟩:=iN rs.length (qo _) _ _ ex;exact⟨j,d,(qp.mp a).1⟩
    .exact⟨rs.length-1,Yo,Yo⟩
   .cases b
  .cases b
 .obtain⟨j,c,lt⟩:=mO R h e b z;exact⟨j,c,Yo⟩
theorem LkI.all(I:LkI W rs.length o [] zs st)(R:cK rs)(dw:∀k r,rs[k]?=some r->wsV W k=bX rs ln k r)(b:∀k r,rs[k]?=some r->cX rs ln k r=[]):∀(m k:Nat),k<m->k<rs.length->k∈o
 |0,k,h,_=>Yo
 |m+1,k,h,kl=>by
  rcases I.al k kl with z|z|⟨w,c,hw⟩
  .exact z
  .cases z
  .obtain⟨_,_,_,e,f,_⟩:=I.so w c k hw;have hr:rs[k]?=some (rs[k]'kl):=qi _;have a:=qI f;rw[dw k _ hr]at a
   have d:e.2.1≠("room":Str):=by
    unfold bX at a;rw[b k _ hr,qG]at a;exact tD e a
   obtain⟨j,_,lt⟩:=mO R hr e a d;have:j=w:=Yo;exact Qd (LkI.all I R dw b m w Yo Yo) c
theorem LkI.sub{u:Str->Int}{B:List (List Wat)}{d:LG}{F:Nat->Nat}{E:Nat->LG}(I:LkI W rs.length o [] zs st)(R:cK rs)(dw:∀k r,rs[k]?=some r->wsV W k=bX rs ln k r)(y:LkI B rs.length d [] F E)(p:∀k r,rs[k]?=some r->wsV B k=bX rs u k r)(le:∀r∈rs,∀q,r.into=some q->ln q<=u q):∀(m t k:Nat),t<m->o[t]?=some k->k∈d
 |0,t,k,h,_=>Yo
 |m+1,t,k,ht,h=>by
  by_cases ko:k∈d
  .exact ko
  obtain⟨r,hr,c,th,G⟩:=I.oks R dw t k h;have D:=(qp.mp hr).1;have v:=qI hr;have C:=I.clo dw t;have b:=y.clo p d.length;rw[qP]at b
  have sub:∀j∈o.take t,j∈d:=λj l=>by
   obtain⟨i,a⟩:=List.mem_iff_getElem?.mp l;rw[List.getElem?_take]at a;split at a
   .exact LkI.sub I R dw y p le m i j Yo a
   .cases a
  have s:k∉o.take t:=λz=>ko (sub k z);have w:=(b.card_iff R hr).mp λe x=>((C.card_iff R hr).mpr c e x).more sub;refine Qd (j5.no w ((b.thing_iff R hr ko w).mp λe x=>((C.thing_iff R hr s c).mpr th e x).more sub) λq f=>?_) (y.lack R p hr ko)
  have K:=lT C.dn (C.pin R q) D (eD.mpr ⟨r,hr,f⟩) s λi lt a=>by
   obtain⟨n,g,A⟩:=eD.mp a;exact C.own_all R hr c (R.pi r v q f) i lt (fW.mpr ⟨n,g,R.pi n (qI g) q A⟩)
  have H:=lT b.dn (b.pin R q) D (eD.mpr ⟨r,hr,f⟩) ko λi lt a=>by
   obtain⟨n,g,A⟩:=eD.mp a;exact b.own_all R hr w (R.pi r v q f) i lt (fW.mpr ⟨n,g,R.pi n (qI g) q A⟩)
  have J:((dnR rs (o.take t)).filter (isP Row.outof q)).length<=((dnR rs d).filter (isP Row.outof q)).length:=by
   rw[C.dn.count,b.dn.count];refine kN λj _ l=>?_;rw[Bool.and_eq_true,decide_eq_true_iff]at l ⊢;exact⟨sub j l.1,l.2⟩
  have b1:=G q f;have b2:=le r v q f;rw[jJ]at b1 ⊢;omega
end
def LkW(W:List (List Wat))(o:LG)(H:Hp)(O:Str)(xs:LV):Prop:=(O=("by":Str)/\xs=[]/\o.length=W.length)\/∃J F ps,O=("ring":Str)/\xs=[.ref J]/\H J=some (.lst F)/\RWs H F (ps.map rgW)/\dG W o ps
theorem mj{W:List (List Wat)}{o:LG}{f g:Addr}{G:Prop}(go:∀(h:Str)(xs:LV),H f=some (.tup (.str h::.ref g::xs))->LkW W o H h xs->G):(o.length=W.length->H f=some (.tup [.str "by",.ref g])->G)/\∀e us ps,H f=some (.tup [.str "ring",.ref g,.ref e])->H e=some (.lst us)->RWs H us (ps.map rgW)->dG W o ps->G:=
 ⟨λa b=>go _ _ b (.inl ⟨U,U,a⟩),λe us ps a b c d=>go _ _ a (.inr ⟨e,us,ps,U,U,b,c,d⟩)⟩
structure zE(rows:List Row)(ss:LF)(W:List (List Wat))(ln:Str->Int):Prop where
 dw:∀k r,rows[k]?=some r->wsV W k=bX rows ln k r
 sm:Sm W 9000
 tg:Tgt W
 wl:W.length=rows.length
 dl:∀r∈rows,∀q,r.into=some q->aH (cZ (cg ss)) (.inr q)=some (.int (ln q))
 lq:∀q n,(q,n)∈ss->ln q=n
theorem EO{rows:List Row}(l:cK rows)(nd:rms.Nodup)(f:∀r∈rows,r.owns.length<=4000/\r.reads.length<=4000)(mv:∀r∈rows,∀q,(r.into=some q\/r.outof=some q)->q∈rms){ss:LF}(nm:ss.map (·.1)=rms)(pos:∀s∈ss,0<=s.2):zE rows ss (cD rows ss (bH rows rows.length) ss.length) (dO (cZ (cg ss))):=by
 have j:(ss.map (·.1)).Nodup:=by rwa[nm]
 have b:∀q n,(q,n)∈ss->aH (cZ (cg ss)) (.inr q)=some (.int n):=λq n h=>AJ j h
 have kin:∀q∈rms,∃n,(q,n)∈ss:=λq m=>by
  rw[<- nm]at m;obtain⟨st,hs,e⟩:=List.mem_map.mp m;exact⟨st.2,by rwa[<- e]⟩
 have g:∀(i:Nat)(r:Row),rows[i]?=some r->(cD rows ss (bH rows rows.length) ss.length)[i]?=some (bX rows (dO (cZ (cg ss))) i r):=λi r h=>
  G7 h (l.ow r (qI h)) j pos (λst hs=>sI (b st.1 st.2 hs)) (λq e=>kin q (mv r (qI h) q (.inl e))) (λq e=>kin q (mv r (qI h) q (.inr e))) λq e=>mN l.fed h e
 have c:(cD rows ss (bH rows rows.length) ss.length).length=rows.length:=by rw[kF,j1 _ _ (qo _)]
 have dw:∀k r,rows[k]?=some r->wsV (cD rows ss (bH rows rows.length) ss.length) k=bX rows (dO (cZ (cg ss))) k r:=λk r h=>by unfold wsV;rw[g k r h];rfl
 refine⟨dw,λi es h=>?_,λk e d=>?_,c,λr hr q e=>?_,λq n h=>sI (b q n h)⟩
 .have t:=(qp.mp h).1;have a:rows[i]?=some (rows[i]' Yo):=qi _;rw[g i _ a]at h;cases h;generalize rows[i]' Yo=r at a;obtain⟨_,_⟩:=f r (qI a);have b1:=iZ (bO (rows.take i)) "card" r.owns;have b2:=iZ (bO (rows.take i)) "copy" r.reads;have p:(dy rows i r).length<=1:=by unfold dy;split<;>simp
  have o:(cX rows (dO (cZ (cg ss))) i r).length<=1:=by
   unfold cX;split
   .split<;>simp
   .simp
  unfold bX dr;rw[qh,qh,qh];omega
 .by_cases lt:k<rows.length
  .have a:rows[k]?=some (rows[k]'lt):=qi _;rw[dw k _ a]at d;rw[c];exact FY l a e d
  .unfold wsV at d;rw[Qx Yo]at d;cases d
 .obtain⟨n,hn⟩:=kin q (mv r hr q (.inl e));rw[b q n hn,sI (b q n hn)]
theorem ThR.app{l b:List Wat}(t:ThR l b)(r:List Wat):ThR (l++r) (b++r):=by
 refine⟨λz e h=>?_,λx a=>?_,by rw[qh,qh];exact Nat.add_le_add_right t.len _⟩
 .by_cases lt:z<b.length
  .rw[Qe lt]at h;obtain⟨f,d,g⟩:=t.ix z e h;have zl:=(qp.mp d).1;refine⟨f,by rwa[Qe zl],λx a=>?_⟩;rw[List.take_append_of_le_length Yo]at a;rw[List.take_append_of_le_length Yo];exact g x a
  .rw[qT Yo]at h;refine⟨l.length+(z-b.length),by rwa[qT Yo,Nat.add_sub_cancel_left],λx a=>?_⟩;rw[List.take_append,List.take_of_length_le Yo,Nat.add_sub_cancel_left]at a;rw[List.take_append,List.take_of_length_le Yo];rcases qr.mp a with a|a
   .obtain⟨y,c,e⟩:=t.all x a;exact⟨y,Q5 _ c,e⟩
   .exact⟨x,qQ _ a,U⟩
 .rcases qr.mp a with a|a
  .obtain⟨y,c,e⟩:=t.all x a;exact⟨y,Q5 _ c,e⟩
  .exact⟨x,qQ _ a,U⟩
theorem ux(es:List Wat):∀i,i<=es.length->ThR (es.take i) (db es i)
 |0,_=>⟨λz e h=>by simp[db]at h,λx b=>by simp at b,qo _⟩
 |i+1,h=>by
  have t:=ux es i Yo;have d:es[i]?=some (es[i]' Yo):=qi _;rw[qA,d,db,d];generalize es[i]' Yo=e;show ThR (es.take i++[e]) (if _ then _ else _);split
  .rename_i y;obtain⟨x,b,j⟩:=List.any_eq_true.mp y;refine⟨λz e h=>?_,λg a=>?_,by rw[qh];exact Nat.le_add_right_of_le t.len⟩
   .obtain⟨f,c,k⟩:=t.ix z e h;have zl:=(qp.mp c).1;refine⟨f,by rwa[Qe zl],λx b=>?_⟩;rw[List.take_append_of_le_length Yo]at b;exact k x b
   .rcases qr.mp a with a|a
    .exact t.all g a
    .exact⟨x,b,by rw[Q0.mp a];exact Ql j⟩
  .exact t.app [e]
theorem bQ.is{o:LG}{e c:Wat}(h:bQ o e)(x:e.1=c.1):bQ o c:=let ⟨j,a,b⟩:=h;⟨j,x▸a,b⟩
theorem LkI.thin{W g:List (List Wat)}{m:Nat}{o:LG}(I:LkI g m o [] zs st)(th:∀k,ThR (wsV W k) (wsV g k)):∃q,LkI W m o [] q st:=by
 have ex:∀k,∃z,z<=(wsV W k).length/\(∀x∈(wsV W k).take z,bQ o x)/\∀e,(wsV g k)[zs k]?=some e->(wsV W k)[z]?=some e:=λk=>by
  cases h:(wsV g k)[zs k]? with
  |none=>exact⟨0,qC _,λx l=>by simp at l,λe h=>nomatch h⟩
  |some e=>
   obtain⟨r,d,p⟩:=(th k).ix _ _ h;refine⟨r,Nat.le_of_lt (qp.mp d).1,λx l=>?_,λ_ h=>by cases h;exact d⟩;obtain⟨y,i,n⟩:=p x l;exact(I.zd k y i).is n
 obtain⟨f,j⟩:=Classical.axiomOfChoice ex;refine⟨f,I.nd,I.lt,λt k h e u=>?_,λk=>(j k).1,λk=>(j k).2.1,I.rn,I.ro,I.sn,λw s k hk=>?_,I.al⟩
 .obtain⟨y,i,n⟩:=(th k).all e u;exact(I.ord t k h y i).is n
 .obtain⟨a,b,c,e,d,p⟩:=I.so w s k hk;exact⟨a,b,c,e,(j k).2.2 e d,p⟩
theorem dG.thin{W c:List (List Wat)}{o:LG}{ps:List (Nat×Wat)}(G:dG c o ps)(th:∀k,ThR (wsV W k) (wsV c k))(wl:c.length=W.length):dG W o ps:=
 ⟨G.nn,G.nd,λp n=>by
  obtain⟨a,b,z,d,j,m⟩:=G.is p n;obtain⟨f,i,l⟩:=(th p.1).ix _ _ d
  exact⟨a,wl▸b,f,i,λx h=>by
   obtain⟨y,g,e⟩:=l x h
   exact(j y g).is e,m⟩,G.nx⟩
theorem dG.other{W:List (List Wat)}{o d:LG}{ps:List (Nat×Wat)}(G:dG W o ps)(h:∀j,j∈o↔j∈d):dG W d ps:=
 ⟨G.nn,G.nd,λp l=>by
  obtain⟨a,b,z,f,g,k⟩:=G.is p l
  exact⟨λx=>a ((h _).mpr x),b,z,f,λe i=>(g e i).more λj c=>(h j).mp c,λx=>k (x.more λj c=>(h j).mpr c)⟩,G.nx⟩
theorem mY{o:LG}(nd:o.Nodup)(lt:∀k∈o,k<n)(e:o.length=n)(k:Nat)(b:k<n):k∈o:=by
 by_cases h:k∈o
 .exact h
 .have:=gm (l:=k::o) (n:=n) (List.nodup_cons.mpr ⟨h,nd⟩) λy a=>by
   rcases qD.mp a with rfl|a
   .exact b
   .exact lt y a
  rw[qJ]at this;omega
theorem fc.prep(R:fc rs rms){ss:LF}(nm:ss.map (·.1)=rms)(pos:∀s∈ss,0<=s.2):zE rs ss (WF rs ss) (dO (cZ (cg ss))):=EO R.ro R.nd R.sm R.mv nm pos
theorem LeS.ln(R:fc rs rms){ss:LF}(nm:ss.map (·.1)=rms)(pos:∀s∈ss,0<=s.2)(c:ss'.map (·.1)=rms)(f:∀s∈ss',0<=s.2)(le:LeS ss ss'):∀r∈rs,∀q,r.into=some q->dO (cZ (cg ss)) q<=dO (cZ (cg ss')) q:=λr hr q e=>by
 have l:=R.mv r hr q (.inl e);obtain⟨i,g⟩:=List.mem_iff_getElem?.mp l
 have at_:∀(d:LF),d.map (·.1)=rms->∃n,d[i]?=some (q,n):=λd h=>by
  rw[<- h,qM]at g;obtain⟨⟨a,n⟩,j,m⟩:=qX.mp g;exact⟨n,by rw[j,<- m]⟩
 obtain⟨n,hn⟩:=at_ ss nm;obtain⟨k,b⟩:=at_ ss' c;rw[(R.prep nm pos).lq q n (qI hn),(R.prep c f).lq q k (qI b)];exact le i _ _ hn b
theorem LkI.le(R:fc rs rms){ss:LF}(nm:ss.map (·.1)=rms)(pos:∀s∈ss,0<=s.2)(b:ss'.map (·.1)=rms)(a:∀s∈ss',0<=s.2)(le:LeS ss ss'){o e:LG}{d:Nat->Nat}{c:Nat->LG}(I:LkI (WF rs ss) rs.length o [] zs st)(f:LkI (WF rs ss') rs.length e [] d c):∀k∈o,k∈e:=λk hk=>by
 obtain⟨t,ht⟩:=List.mem_iff_getElem?.mp hk;exact I.sub R.ro (R.prep nm pos).dw f (R.prep b a).dw (le.ln R nm pos b a) (t+1) t k (Qj t) ht
theorem Bu{ss:LF}{m:Int}:(aY ss i m).map (·.1)=ss.map (·.1):=by
 refine List.ext_getElem? λj=>?_;unfold aY;rw[qM,qM];by_cases e:i=j
 .subst e;rw[List.getElem?_set_self'];rw[qu];cases ss[i]?<;>rfl
 .rw[List.getElem?_set_ne e]
theorem gA{ss:LF}{m:Int}{s:Str×Int}(h:ss[i]?=some s):(aY ss i m)[i]?=some (s.1,m):=by
 unfold aY;rw[List.getElem?_set_self (qp.mp h).1,qu,h]
 rfl
theorem g9{ss:LF}{m:Int}(h:i≠j):(aY ss i m)[j]?=ss[j]?:=List.getElem?_set_ne h
theorem nZ{ss:LF}{m:Int}:(aY ss i m).length=ss.length:=List.length_set
theorem StO.set{ss:LF}(S:StO rms ss){m:Int}(a:0<=m):StO rms (aY ss i m):=⟨Bu.trans S.nm,λs hs=>by
 rcases List.mem_or_eq_of_mem_set hs with h|rfl
 .exact S.pos s h
 .exact a⟩
theorem uc{H:Hp}{p:Addr}{q:Str}{m:Int}(h:H p=some (.tup [.str q,.int m])):∀{vs:LV}{ss:LF}(i:Nat),RSs H vs ss->RSs H (vs.set i (.ref p)) (ss.set i (q,m))
 |_,_,_,.nil=>.nil
 |_,_,0,.cons _ r=>.cons h r
 |_,_,i+1,.cons h' r=>.cons h' (uc h i r)
theorem Ad(R:cK rs){ss:LF}{a:List (List Wat)}(wl:a.length=rs.length)(th:∀k,ThR (wsV (bH rs rs.length) k) (wsV a k))(k:Nat):ThR (wsV (WF rs ss) k) (wsV (cD rs ss a ss.length) k):=by
 by_cases lt:k<rs.length
 .have hr:rs[k]?=some rs[k]:=qi lt;have fed:=λq e=>mN R.fed hr (q:=q) e;have t:=th k;unfold wsV at t ⊢;unfold WF;rw[mX hr _ fed _ (qo _),mX hr _ fed _ (qo _)];rw[u7 hr _ lt (qo _),qi Yo]at t ⊢;exact t.app _
 .unfold wsV WF;rw[Qx (by rw[kF,j1 _ _ (qo _)];omega),Qx (by rw[kF];omega)];exact⟨λz e h=>by simp at h,λx b=>(nomatch b),qo _⟩
theorem LkI.down{rs:List Row}{W:List (List Wat)}{o:LG}{zs:Nat->Nat}{st:Nat->LG}(I:LkI W rs.length o [] zs st)(dn:∀k,k<rs.length->∀e∈wsV W k,∃j:Nat,e.1=(j:Int)/\j<k):∀(m k:Nat),k<m->k<rs.length->k∈o
 |0,k,h,_=>Yo
 |m+1,k,h,kl=>by
  rcases I.al k kl with z|z|⟨w,a,hw⟩
  .exact z
  .cases z
  .obtain⟨_,_,_,e,b,_⟩:=I.so w a k hw;obtain⟨j,_,lt⟩:=dn k kl e (qI b);have:j=w:=Yo;exact Qd (LkI.down I dn m w Yo Yo) a
theorem Ep{f:Row->Option Str}{q:Str}{k:Nat}(hk:k<=rs.length)(a:j<=rs.length)(h:(ap f (rs.take j) q).length<(ap f (rs.take k) q).length):j<k:=by
 rw[fU,fU,eR _ _ _ hk,eR _ _ _ a]at h;by_cases z:k<=j
 .have:=kM (atP rs (isP f q)) z;omega
 .omega
theorem C3(R:cK rs){ln:Str->Int}(m:∀q r,r∈rs->r.into=some q->∀i,i<=rs.length->bal (rs.take i) q<=ln q){k:Nat}(h:rs[k]?=some r):∀e∈cX rs ln k r,∃j:Nat,e.1=(j:Int)/\j<k:=λe c=>by
 have t:=(qp.mp h).1;have l:=qI h;unfold cX at c;split at c
 .rename_i q g;split at c
  .rename_i o;have b:=m q r l g (k+1) Yo;rw[qA,h]at b
   have n:r.outof=none:=by
    rcases R.ow r l with z|z
    .rw[g]at z;cases z
    .exact z
   have b:bal (rs.take k++[r]) q<=ln q:=b;rw[fD,g,n,Qa U,Q9 (λz=>nomatch z),jJ,<- fU,<- fU]at b;unfold gu at o c;generalize ez:(((ap Row.into (rs.take k) q).length:Int)-ln q).toNat=z at c;have zl:z<(ap Row.outof (rs.take k) q).length:=Yo
   have le:(ap Row.outof (rs.take k) q).length<=(ap Row.outof rs q).length:=by
    rw[fU,fU,eR _ _ _ Yo];have d:=eR rs (isP Row.outof q) rs.length (qo _);rw[qP]at d;rw[d];exact kM _ Yo
   rw[Q0.mp c];show ∃j:Nat,awaited _ _ _=(j:Int)/\_;unfold awaited;have lt:z<(ap Row.outof rs q).length:=Yo;rw[Qa lt,qu,qi lt];have ex:(ap Row.outof (rs.take rs.length) q)[z]?=some ((ap Row.outof rs q)[z]'lt):=by rw[qP];exact qi lt
   obtain⟨j,s,d,a,_,p⟩:=iN rs.length (qo _) _ _ ex;exact⟨j,d,Ep (f:=Row.outof) (q:=q) Yo (Nat.le_of_lt (qp.mp a).1) Yo⟩
  .cases c
 .cases c
theorem LkI.peaks(R:fc rs rms){ss:LF}(S:StO rms ss){o:LG}(I:LkI (WF rs ss) rs.length o [] zs st)(h:∀q n,(q,n)∈ss->∀i,i<=rs.length->bal (rs.take i) q<=n):∀k,k<rs.length->k∈o:=λk d=>by
 have P:=R.prep S.nm S.pos;refine I.down (λk d e a=>?_) (k+1) k (Qj k) d;have hr:rs[k]?=some rs[k]:=qi d;rw[P.dw k _ hr]at a;by_cases z:e.2.1=("room":Str)
 .have f:e∈cX rs (dO (cZ (cg ss))) k rs[k]:=by
   unfold bX at a;rcases qr.mp a with a|a
   .exact Qd z (tD e a)
   .exact a
  refine C3 R.ro (λq r hr e i j=>?_) hr e f;have g:=R.mv r hr q (.inl e);rw[<- S.nm]at g;obtain⟨⟨b,n⟩,hs,c⟩:=List.mem_map.mp g;have c:b=q:=c;subst c;rw[P.lq b n hs];exact h b n hs i j
 .exact mO R.ro hr e a z
theorem LeS.refl(ss:LF):LeS ss ss:=λi s _ h h'=>by
 rw[h]at h';cases h';exact Int.le_refl _
theorem StO.few{ss:LF}(S:StO rms ss)(h:rms.length<=100):ss.length<=100:=by
 rwa [<- S.nm,qc]at h
theorem StO.eqn{ss:LF}{s a:Str×Int}(S:StO rms ss)(b:StO rms ss')(h:ss[i]?=some s)(h':ss'[i]?=some a):s.1=a.1:=by
 have e:=congrArg (·[i]?) (S.nm.trans b.nm.symm);simpa[h,h']using e
theorem StO.len{ss:LF}(S:StO rms ss)(c:StO rms ss'):ss.length=ss'.length:=by
 have a:=congrArg List.length S.nm;have b:=congrArg List.length c.nm;rw[qc]at a b;omega
theorem LeS.trans{a b c:LF}(h:LeS a b)(k:LeS b c)(l:a.length=b.length):LeS a c:=λi s _ d e=>by
 have f:=(qp.mp d).1;have hb:b[i]?=some (b[i]' Yo):=qi _;exact Int.le_trans (h i _ _ d hb) (k i _ _ hb e)
theorem LeS.set{ss:LF}(h:LeS ss ss'){x y:Int}(l:x<=y):LeS (aY ss i x) (aY ss' i y):=λj s c a b=>by
 by_cases e:i=j
 .subst e;unfold aY at a b;rw[List.getElem?_set_self (by have:=(qp.mp a).1;rwa [List.length_set]at this)]at a;rw[List.getElem?_set_self (by have:=(qp.mp b).1;rwa [List.length_set]at this)]at b;cases a;cases b;exact l
 .rw[g9 e]at a b;exact h j s c a b
theorem LeS.less{ss:LF}{x n:Int}{q:Str}(h:ss[i]?=some (q,n))(l:x<=n):LeS (aY ss i x) ss:=λj s _ a b=>by
 by_cases e:i=j
 .subst e;rw[gA h]at a;rw[h]at b;cases a;cases b;exact l
 .rw[g9 e,b]at a;cases a;exact Int.le_refl _
theorem Bt{ss:LF}{n:Int}{q:Str}(h:ss[i]?=some (q,n)):aY ss i n=ss:=by
 refine List.ext_getElem? λj=>?_;by_cases e:i=j
 .subst e;rw[gA h,h]
 .rw[g9 e]
theorem Bs{ss:LF}{x y:Int}:aY (aY ss i x) i y=aY ss i y:=by
 refine List.ext_getElem? λj=>?_;by_cases e:i=j
 .subst e
  cases h:ss[i]? with
  |none=>rw[Qx (by rw[nZ,nZ];exact List.getElem?_eq_none_iff.mp h),Qx (by rw[nZ];exact List.getElem?_eq_none_iff.mp h)]
  |some s=>rw[gA (gA h),gA h]
 .rw[g9 e,g9 e,g9 e]
theorem NoS.le{ss:LF}(h:NoS rs rms ss)(S:StO rms ss)(c:StO rms ss')(l:LeS ss' ss):NoS rs rms ss':=λb o zs st a l2 I=>h b o zs st a (l2.trans l (a.len c)) I
theorem GW(R:fc rs rms){ss:LF}(S:StO rms ss){o:LG}(I:LkI (WF rs ss) rs.length o [] zs st)(e:o.length=rs.length):kO rs ss:=λ_ _ _ a k b=>LkI.le R S.nm S.pos S.nm S.pos (LeS.refl _) I a k (mY I.nd I.lt e k b)
theorem Er(R:fc rs rms){ss:LF}(S:StO rms ss){o:LG}(I:LkI (WF rs ss) rs.length o [] zs st){k:Nat}(d:k<rs.length)(c:k∉o):NoS rs rms ss:=λ_ _ _ _ a l2 b=>⟨k,d,λh=>c (LkI.le R a.nm a.pos S.nm S.pos l2 b I k h)⟩
theorem DC:Ω T base 1 a.IN a.IO ["waits"] vc:=by
 refine T.Kj.F.ok o7 ?_;rintro _ A _ s H _ Q E _⟨l,us,es,rfl,hl,q,few,k⟩
 refine⟨_,(ag (aq (i:=1) o7.nd U Oi fu)
  (ag (bD PassesOwn.never U (ce (pq 0)) (aI (i:=2) o7.nd U Oi)
  (aj (bu (xj (pq 1) (ai au (pq 2) aa Oy) (pq 2) ⟨U,U,U,U⟩))))
  (aj (az (D7 U U T.mt (pq 1)))))),?_⟩
 walk_at "q";intro d hd;have y:a9 H (upd H d (.dK [])):=a9.new hd _;have J:=q.len;have big:(10000:Nat)<sizeLine:=Yk;exists _,U,l,U,⟨us,SqL.of (y _ _ hl)⟩;refine dk (K:=K) (a:=l) (xs:=us) (λi n G=>∃v kvs,n=[some (.ref l),some (.ref d),v]/\a9 H G/\G d=some (.dK kvs)/\kvs.map (·.1)=(db es i).map (λe=>(Sum.inl e.1:Key))/\RWs G (kvs.map (·.2)) (db es i)/\kvs.length<=i) ⟨_,[],U,y,ah,U,.nil,qo _⟩ ?_ ?_ ?_
 .rintro i n G _ ⟨_,_,_,c,_⟩;exact SqL.of (c _ _ hl)
 .rintro i x n G B ⟨v,kvs,rfl,c,f,m,o,u⟩;have M:=(qp.mp B).1;have r:es[i]?=some (es[i]' Yo):=qi _;obtain⟨p,C,hw⟩:=jL q r;rw[B]at C;cases C;generalize es[i]' Yo=e at r hw;have j:db es (i+1)=if(db es i).any (λx=>decide (x.1=e.1))then db es i else db es i++[e]:=by rw[db,r]
  have b:(db es i).any (λx=>decide (x.1=e.1))=(aH kvs (.inl e.1)).isSome:=by
   rw[<- j8,show(kvs.any λL=>decide (L.1=(Sum.inl e.1:Key)))=(kvs.map (·.1)).any (λk=>decide (k=(Sum.inl e.1:Key)))by rw[List.any_map];rfl,m,List.any_map]
   congr 1
   funext x
   exact decide_eq_decide.mpr ⟨λz=>congrArg Sum.inl z,λz=>Sum.inl.inj z⟩
  refine⟨_,U,d,U,.inl ⟨kvs,.inl f⟩,_,U,p,_,_,_,U,U,SqT.of (c _ _ hw),at0,_,U,kvs,.inl e.1,f,U,Yo,λv D=>?_,λhn=>?_⟩
  .rw[D]at b;exact⟨_,kvs,U,c,f,by rwa[j,b],by rwa[j,b],Yo⟩
  .rw[hn]at b;refine⟨_,_,U,a9.over c hd,ah,?_,?_,?_⟩
   .rw[j,b,rP _ hn,qW,m];show _=List.map _ (_++[e]);rw[qW]
    rfl
   .rw[j,b,rP _ hn,qW];refine(RWs.offD f o).snoc ?_;rw[af λz=>by rw[z,hd]at hw;cases hw];exact c _ _ hw
   .rw[rP _ hn,qh];exact Nat.add_le_add_right u 1
 .rintro n G ⟨v,kvs,rfl,c,f,m,o,u⟩;refine⟨_,U,d,kvs,U,f,λI g=>?_⟩;have t:=k _ I (kvs.map (·.2)) (c.trans (a9.new g _)) (c.free g) ah;rw[<- J]at t;exact t (o.same (a9.new g _))
theorem DE:Ω T base 1 a.IP a.IQ ["deeds"] vf:=by
 refine T.Kk.F.ok jc ?_;rintro _ A _ s H _ Q E hr⟨l,us,rs,rfl,hl,L,_,fed,one,k⟩
 refine⟨_,(ag (aq (i:=1) jc.nd U Oi fu)
  (ag (aq (i:=2) jc.nd U Oi fu)
  (ag (bD PassesOwn.never U (ce (pq 0)) (aI (i:=3) jc.nd U Oi)
  (ag (aq (i:=4) jc.nd U Oi (ai au (pq 3) aa Oy))
  (ag (aq (i:=5) jc.nd U Oi (ai au (pq 3) aa Oy))
  (ag (aJ (ax eX (pq 4) bN (ay _)) (ag (eY (hr.one) (pq 1) (pq 4) (ao bC (dN hr.one (pq 1) (pq 4) aa ⟨U,U,U,U⟩) aa) U)
  (aj (eY (hr.one) (pq 2) (pq 4) (aL (mV U) U T.HI PyProof.Rows.Boot.«max» (a8 (dN hr.one (pq 2) (pq 4) aa ⟨U,U,U,U⟩) (a8 (iL hr.one (pq 1) (pq 4) Oy) ac))) U))) aN)
  (aj (aJ (ax eX (pq 5) bN (ay _)) (aj (eY (hr.one) (pq 1) (pq 5) (ao gF (iL hr.one (pq 1) (pq 5) Oy) aa) U)) aN))))))
  (aj (az (pq 2)))))),?_⟩
 walk_at "q";intro p Z d hd;have s0:a9 H (upd H p (.dK [])):=a9.new Z _;have dp:d≠p:=λz=>by rw[z,ah]at hd;cases hd
 have s1:a9 H (upd (upd H p (.dK [])) d (.dK [])):=s0.trans (a9.new hd _);have h1:(upd (upd H p (.dK [])) d (.dK [])) p=some (.dK []):=by rw[af dp.symm];exact ah
 have a0:H d=none:=s0.free hd;have ul:=L.len;have big:(10000:Nat)<sizeLine:=Yk;exists _,U,l,U,⟨us,SqL.of (s1 _ _ hl)⟩;refine dk (K:=K) (a:=l) (xs:=us) (λi J G=>∃W S v3 kvs c,J=[some (.ref l),some (.ref p),some (.ref d),W,S,v3]/\a9 H G/\G p=some (.dK kvs)/\kvs.length<=2 * i/\j3 kvs (rs.take i)/\G d=some (.dK c)/\c.length<=i/\PkI c rs i) ⟨_,_,_,[],[],U,s1,h1,qo _,λq=>U,ah,qo _,λq=>⟨0,U,Int.le_refl _,Int.le_refl _,λj D=>by rw[Nat.le_zero.mp D];exact Int.le_refl _⟩⟩ ?_ ?_ ?_
 .rintro i J G _ ⟨_,_,_,_,_,_,g,_⟩;exact SqL.of (g _ _ hl)
 .rintro i x J G hx ⟨W,S,v3,kvs,c,rfl,g,o,kl,st,B,pl,u⟩;obtain⟨r,f,px,po,_,rfl,g1,_,_⟩:=L.at i x hx;have lt:i<rs.length:=(qp.mp f).1;exists _,U,px,_,_,_,U,U,SqT.of (g _ _ g1),U;exists _,U,px,_,_,_,U,U,SqT.of (g _ _ g1),U;have tk:rs.take (i+1)=rs.take i++[r]:=by rw[qA,f];rfl
  have X0:=one r (qI f);have O:=fed i r;have N:kvs.length<sizeLine:=Yo
  have less:(∀q,bal (rs.take (i+1)) q<=bal (rs.take i) q)->PkI c rs (i+1):=λh q=>by
   obtain⟨n,X,a2,a3,C⟩:=u q;refine⟨n,X,a2,Yo,λj D=>?_⟩;rcases Nat.lt_or_ge i j with z|z
   .obtain rfl:j=i+1:=by omega
    exact Int.le_trans (h q) (C i (qo _))
   .exact C j z
  rw[tk]at less ⊢;clear tk;obtain⟨kd,ow,re,into,outof⟩:=r
  cases into with
  |none=>
   refine⟨_,U,U,_,U,ar U ?_⟩
   cases outof with
   |none=>
    refine⟨_,U,U,_,U,ar U ?_⟩;exact⟨_,_,_,kvs,c,U,g,o,Yo,λq=>by rw[fD,st q];simp,B,Yo,less λq=>by rw[fD];simp⟩
   |some q=>
    have pos:0<bal (rs.take i) q:=O q f U;have I:=st q
    obtain⟨v,hv⟩:∃v,aH kvs (.inr q)=some v:=by
     cases e:aH kvs (.inr q)with
     |some v=>exact⟨v,U⟩
     |none=>
      rw[e]at I;have:(0:Int)=bal (rs.take i) q:=V.int.inj I;omega
    rw[hv]at I;have ev:v=.int (bal (rs.take i) q):=I;subst ev;refine⟨_,U,U,_,U,aU U ?_⟩;exists _,U,_,U,p,_,U,by rw[<- hv];exact bT.k (k:=.inr q) o,_,_,U,U;exists _,U,_,U,p,_,U,dR.k (k:=.inr q) o N;refine⟨_,_,_,_,c,U,a9.over g Z,ah,by have:=dF kvs (.inr q) (.int (bal (rs.take i) q-1));omega,λb=>?_,by rw[af dp];exact B,Yo,less λb=>by rw[fD];simp;split<;>omega⟩;rw[d9,fD];by_cases e:b=q
    .subst e;simp
    .have y:¬ (Sum.inr b:Key)=Sum.inr q:=λz=>e (Sum.inr.inj z);have R:¬ q=b:=λz=>e z.symm;rw[Q9 y,st b];simp[R]
  |some q=>
   have on:outof=none:=by
    rcases X0 with h|h
    .cases h
    .exact h
   subst on
   have bq:∀b,bal (rs.take i++[⟨kd,ow,re,some q,none⟩]) b=if b=q then bal (rs.take i) q+1 else bal (rs.take i) b:=λb=>by
    rw[fD];by_cases e:b=q
    .subst e;simp
    .have R:¬ q=b:=λz=>e z.symm;simp[e,R]
   refine⟨_,U,U,_,U,aU U ?_⟩;exists _,U,p,U,.inl ⟨kvs,.inl o⟩,_,U,_,bT.k (k:=.inr q) o,_,_,st q,U;exists _,U,_,U,p,_,U,dR.k (k:=.inr q) o N;obtain⟨n,X,a2,a3,C⟩:=u q;have m:(upd G p (.dK (aX kvs (.inr q) (.int (bal (rs.take i) q+1))))) d=some (.dK c):=by rw[af dp];exact B
   have eP:aH (aX kvs (.inr q) (.int (bal (rs.take i) q+1))) (.inr q)=some (.int (bal (rs.take i) q+1)):=by rw[d9,Qa U]
   have t:(upd G p (.dK (aX kvs (.inr q) (.int (bal (rs.take i) q+1))))) p=some (.dK (aX kvs (.inr q) (.int (bal (rs.take i) q+1)))):=ah;have s3:a9 H (upd G p (.dK (aX kvs (.inr q) (.int (bal (rs.take i) q+1))))):=a9.over g Z;have a5:=dF kvs (.inr q) (.int (bal (rs.take i) q+1))
   have M:j3 (aX kvs (.inr q) (.int (bal (rs.take i) q+1))) (rs.take i++[⟨kd,ow,re,some q,none⟩]):=λb=>by
    rw[d9,bq b];by_cases e:b=q
    .subst e;simp
    .have y:¬ (Sum.inr b:Key)=Sum.inr q:=λz=>e (Sum.inr.inj z);rw[Q9 y,Q9 e,st b]
   generalize aX kvs (.inr q) (.int (bal (rs.take i) q+1))=kv3 at m eP t s3 a5 M ⊢;generalize upd G p (.dK kv3)=G2 at m t s3 ⊢;exists _,U,d,U,.inl ⟨c,.inl m⟩,_,U,_,bT.k (k:=.inr q) m;exists _,U,_,U,p,_,U,by rw[<- eP];exact bT.k (k:=.inr q) t,n,_,congrArg (·::_) X;exists _,U,_,U,d,_,U,dR.k (k:=.inr q) m Yo;refine⟨_,U,U,_,U,ar U ?_⟩;have bi:bal (rs.take i) q<=i:=Int.le_trans (C i (qo _)) a3;refine⟨_,_,_,kv3,_,U,a9.over s3 a0,by rwa[af dp.symm],Yo,M,ah,qH (dF _ _ _) Yo,λb=>?_⟩;rw[d9];by_cases e:b=q
   .subst e;rw[Qa U];refine⟨_,U,by split<;>omega,by split<;>omega,λj D=>?_⟩;rcases Nat.lt_or_ge i j with z|z
    .obtain rfl:j=i+1:=by omega
     rw[qA,f];show bal (rs.take i++[_]) b<=_;rw[bq b,Qa U];split<;>omega
    .have:=C j z;split<;>omega
   .have y:¬ (Sum.inr b:Key)=Sum.inr q:=λz=>e (Sum.inr.inj z);rw[Q9 y];obtain⟨n',b1,b2,_,b4⟩:=u b;refine⟨n',b1,b2,Yo,λj D=>?_⟩;rcases Nat.lt_or_ge i j with z|z
    .obtain rfl:j=i+1:=by omega
     rw[qA,f];show bal (rs.take i++[_]) b<=_;rw[bq b,Q9 e];exact b4 i (qo _)
    .exact b4 j z
 .rintro J G ⟨W,S,v3,kvs,c,rfl,g,o,kl,st,B,pl,u⟩;rw[ul]at u;exact⟨_,U,k G d c g B u⟩
section
variable {x z:V}
theorem EE:List.lookup ("deeds":Str) [(("deeds":Str),x),("by_cards",y),("stores",z)]=some x:=ie
theorem EF:List.lookup ("by_cards":Str) [(("deeds":Str),x),("by_cards",y),("stores",z)]=some y:=(dX Yd).trans ie
theorem jA:List.lookup ("stores":Str) [(("deeds":Str),x),("by_cards",y),("stores",z)]=some z:=(dX Yd).trans ((dX Yd).trans ie)
end
theorem ka{a:LV}{ss:LF}(r:RSs H a ss){q:Str}{n:Int}(h:ss[i]?=some (q,n)):∃pt,a[i]?=some (.ref pt)/\H pt=some (.tup [.str q,.int n]):=by
 have sl:=r.len;have e:=(qp.mp h).1;have b:a[i]?=some (a[i]' Yo):=qi _;obtain⟨pt,_,_,d,es,c⟩:=r.at i _ b;rw[h]at es;cases es;exact⟨pt,d▸b,c⟩
theorem xL:Ω T base 4 a.HY a.HZ ["self","place","length"] (w5 a):=by
 refine T.L1.ok wF ?_;rintro _ A _ s H _ Q E hr⟨_,M,rs,_,L,ss,i,m,rfl,S,D,_,m0,k⟩
 refine⟨_,(ag (aq (i:=3) wF.nd U Oi (d6 gc U T.mt PyProof.Rows.Boot.«list» (a8 (cP (pq 0) U) ac)))
  (ag (gi (bc (a8 (ai au (ai aA (pq 3) (pq 1) Oy) aa Oy) (a8 (pq 2) ac))) (jw (pq 3) (pq 1) ja))
  (aj (az (aC (xF T) (hr.mono Yk) T.Ik (a8 (aC (xC T) (hr.mono Yk) T.Ig (a8 (cP (pq 0) U) (a8 (cP (pq 0) U) (a8 (pq 3) ac)))) ac)))))),?_⟩
 walk_at "q";obtain⟨f,hs,v⟩:=D.hs;have sl:=v.len;obtain⟨pt,q,n,ev,es,Z⟩:=v.at i f[i] (qi Yo);have ei:f[i]?=some (.ref pt):=by rw[qi Yo,ev]
 refine⟨_,U,M.b,_,M.dx,_,_,U,D.sa _ _ S.ob,T.om,T.At,jA,M.ls,f,U,.inl (SqL.of hs),λl2 f2=>?_⟩;obtain⟨_,O,s2,J⟩:=cU f2 (.lst f);rw[O];refine⟨_,U,_,U,l2,_,_,_,U,U,SqL.of J,aO ei,pt,_,_,_,U,U,SqT.of (s2 _ _ Z),at0,_,U,ln2,λt ft=>?_⟩;obtain⟨r,O,N,u⟩:=cU ft (.tup [.str q,.int m]);rw[O];exists _,U,_,U,l2,f,i,i,U,U,N _ _ J,mG Yo;have X:r l2=some (.lst f):=N _ _ J;have y:a9 H (upd r l2 (.lst (f.set i (.ref t)))):=a9.over (s2.trans N) f2;have W:ss.set i (q,m)=aY ss i m:=by unfold aY;rw[qu,es];rfl
 have r4:RSs (upd r l2 (.lst (f.set i (.ref t)))) (f.set i (.ref t)) (aY ss i m):=by
  rw[<- W];exact uc (by rw[af (λz=>by rw[z,X]at u;cases u)];exact u) i (v.same y)
 have h4:(upd r l2 (.lst (f.set i (.ref t)))) l2=some (.lst (f.set i (.ref t))):=ah;generalize upd r l2 (.lst (f.set i (.ref t)))=H4 at y r4 h4 ⊢;have g:=D.sa.trans y;have C:=D.so.set (i:=i) m0;have P:=S.ok.prep C.nm C.pos;have a3:=C.few S.fr;have th:=λk=>Ad (ss:=aY ss i m) S.ok.ro S.wl S.th k;have G:(WF rs (aY ss i m)).length=rs.length:=P.wl;have F:(cD rs (aY ss i m) L (aY ss i m).length).length=rs.length:=by rw[kF,S.wl]
 have fw:=S.ok.few;refine⟨_,U,M.b,_,M.dx,_,_,U,g _ _ S.ob,T.om,T.KO,EF,_,U,M.b,_,M.dx,_,_,U,g _ _ S.ob,T.om,T.KN,EE,_,U,M.lc,M.l,l2,M.ws,M.us,_,L,rs,aY ss i m,U,g _ _ S.hc,S.rc.same g,S.wl,S.sm,g _ _ S.hl,S.rr.same g,S.ok.few,h4,r4,a3,C.pos,λ_ lw a0 s5 h5 r5=>?_⟩;refine⟨lw,a0,_,U,h5,r5,λj es X0=>?_,λj e he=>?_,Yo,λH' p lo o zs st s6 ho I=>?_⟩
 .have jl:=(qp.mp X0).1;have e1:wsV (cD rs (aY ss i m) L (aY ss i m).length) j=es:=by unfold wsV;rw[X0];rfl
  have B:=(th j).len;rw[e1]at B;refine qH B ?_;exact P.sm j _ (by unfold wsV;rw[qi Yo];rfl)
 .obtain⟨z,hz⟩:=List.mem_iff_getElem?.mp he;obtain⟨_,h1,_⟩:=(th j).ix z e hz;obtain⟨x,B,_⟩:=P.tg j e (qI h1);exact⟨x,B,Yo⟩
 .rw[F]at I;obtain⟨a4,V⟩:=I.thin th;rw[<- G]at V;have R:=k H' p lo o a4 st (y.trans (s5.trans s6)) ho V;exact⟨λa b=>R.1 Yo b,λlp us ps a b c d=>R.2 lp us ps a b c (d.thin th (F.trans G.symm))⟩
theorem MdH.same{b H H':Hp}{M:MdA}{a:LS}{ss:LF}(D:MdH b H M a ss)(s:a9 H H'):MdH b H' M a ss:=⟨D.sa.trans s,let ⟨c,h,r⟩:=D.hs;⟨c,s _ _ h,r.same s⟩,D.so⟩
theorem MdH.put{M:MdA}{ss:LF}(D:MdH H0 H M rms ss)(no:H0 M.ls=none){q:Str}{n x:Int}(c:ss[i]?=some (q,n))(b:0<=x){t:Addr}(ht:H t=some (.tup [.str q,.int x])){a:LV}(hs:H M.ls=some (.lst a))(rs:RSs H a ss):MdH H0 (upd H M.ls (.lst (a.set i (.ref t)))) M rms (aY ss i x):=
 ⟨a9.over D.sa no,⟨_,ah,by
  rw[show aY ss i x=ss.set i (q,x)by unfold aY;rw[qu,c];rfl]
  exact uc (by rw[af (λz=>by rw[z,hs]at ht;cases ht)];exact ht) i (RSs.off hs rs)⟩,D.so.set b⟩
theorem mf{f:Str}(h:f∉(["deeds","by_cards","stores"]:LS)){x z:V}:List.lookup f [(("deeds":Str),x),("by_cards",y),("stores",z)]=none:=by
 have n:∀{g:Str},g∈(["deeds","by_cards","stores"]:LS)->(f == g)=false:=λa=>beq_eq_false_iff_ne.mpr λz=>h (z▸a);rw[dX (n (by simp)),dX (n (by simp)),dX (n (by simp))]
 rfl
theorem E7:Ω T base 5 a.I0 a.Ia ["self","place","least"] (vY a):=by
 refine T.L3.ok jZ ?_;rintro _ A _ s H _ Q E hr⟨H0,M,rs,L,Wc,ss,i,q,n,m,rfl,S,D,l,_,mn,al,k⟩
 refine⟨_,(ag (aq (i:=3) jZ.nd U Oi (ai au (ai aA (cP (pq 0) U) (pq 1) Oy) aa Oy))
  (ag (lR PassesOwn.never (ax gb (pq 2) (pq 3) (ay _)) (ag (aq (i:=4) jZ.nd U Oi (ao cY (ao bC (pq 2) (pq 3)) aa))
  (aj (aJ (ax aW (ai au (iK (pq 0) T.om T.KM (xL T) (hr.mono Yk) T.Kh .nil fS (a8 (pq 1) (a8 (pq 4) ac))) aa Oy) aQ (ay _)) (aj (aq (i:=3) jZ.nd U Oi (pq 4))) (aj (aq (i:=2) jZ.nd U Oi (ao bC (pq 4) aa)))))))
  (aj (gi (bc (a8 (ai au (ai aA (cP (pq 0) U) (pq 1) Oy) aa Oy) (a8 (pq 3) ac))) (jw (cP (pq 0) U) (pq 1) ja))))),?_⟩
 walk_at "q";obtain⟨sv,hs,d⟩:=D.hs;have sl:=d.len;have il:=(qp.mp l).1;obtain⟨pt,ei,J⟩:=ka d l;exists _,U,M.b,_,M.dx,_,_,U,D.sa _ _ S.ob,T.om,T.At,jA,_,U,M.ls,_,_,_,U,U,SqL.of hs,aO ei,pt,_,_,_,U,U,SqT.of J,aO (j:=1) U;refine zW (λB G=>∃v x y,B=[some (.ref M.b),some (.int i),some (.int x),some (.int y),v]/\a9 H G/\m<=x/\x<=y/\y<=n/\kO rs (aY ss i y)/\(x=m\/NoS rs L (aY ss i (x-1)))) (λB _=>match B with|[_,_,some (.int x),some (.int y),_]=>(y-x).toNat|_=>0) ⟨_,m,n,U,a9.refl _,Int.le_refl _,mn,Int.le_refl _,by rwa[Bt l],.inl U⟩ ?_ (λ_ _ _ _ h ⟨p,e,q,e2,i,j,e3,e4,b,e5,r⟩=>⟨p,e,q,e2,i,j,e3,e4,b,e5,h _ _ r⟩);rintro B G ⟨v,x,y,rfl,c,W,_,V,F,C⟩;exists _,U,_,U,_,_,U,U,_,U;have f:=D.same c;by_cases lt:x<y
 .rw[Qa (Qb lt)];exists _,U,_,U,_,_,U,U,_,_,U,U,Yk;have Z:x<=(x+y) / 2:=Yo;have z2:(x+y) / 2<y:=Yo;generalize (x+y) / 2=z at Z z2 ⊢;have u:=D.so.set (i:=i) (m:=z) Yo;have wl:=(S.ok.prep u.nm u.pos).wl;refine⟨_,U,M.b,M.dx,_,U,f.sa _ _ S.ob,mf Yd,_,U,_,U,H0,M,rs,L,Wc,ss,i,z,U,S,f,Yo,Yo,λ_ p _ o zs st R _ I=>?_⟩;rw[wl]at I;refine mj λ_ xs hp X=>?_;exists p,_,_,_,U,U,SqT.of hp,at0,U,_,U;rcases X with⟨rfl,rfl,eo⟩|⟨_,_,ps,rfl,rfl,_,_,RG⟩
  .refine aU U ⟨_,U,⟨_,x,z,U,c.trans R,W,Z,Yo,GW S.ok u I (eo.trans wl),C⟩,?_⟩;show(z-x).toNat<(y-x).toNat;omega
  .obtain⟨N,X0⟩:∃N,N∈ps:=List.exists_mem_of_ne_nil _ RG.nn;obtain⟨ko,_,_⟩:=RG.is N X0;refine ar Yd ⟨_,U,_,_,U,U,⟨_,z+1,y,U,c.trans R,Yo,Yo,V,F,.inr ?_⟩,?_⟩
   .rw[Int.add_sub_cancel];exact Er S.ok u I Yo ko
   .show(y-(z+1)).toNat<(y-x).toNat;omega
 .rw[Q9 (by rw[Qc lt];exact qt)];obtain rfl:x=y:=Yo;refine⟨_,U,M.b,_,M.dx,_,_,U,f.sa _ _ S.ob,T.om,T.At,jA,_,U,M.ls,_,_,_,U,U,SqL.of (c _ _ hs),aO ei,pt,_,_,_,U,U,SqT.of (c _ _ J),at0,_,U,ln2,λt ft=>?_⟩;have g:=a9.new ft (.tup [.str q,.int x]);have O:=f.same g;exists _,U,M.b,_,M.dx,_,_,U,O.sa _ _ S.ob,T.om,T.At,jA,_,U,M.ls,sv,i,i,U,U,g _ _ (c _ _ hs),mG Yo;exact k _ x (O.put S.no l Yo ah (g _ _ (c _ _ hs)) ((d.same c).same g)) W V F C
theorem E8:Ω T base 5 a.Ib a.Ic ["self","place"] (vZ a):=by
 refine T.L6.ok wD ?_;rintro _ A _ s H _ Q E hr⟨B,M,rs,n,C,ss,i,q,x,rfl,S,D,l,_,no,k⟩
 refine⟨_,(ag (aq (i:=2) wD.nd U Oi (ai aA (cP (pq 0) U) (pq 1) Oy))
  (aj (az (bc (a8 (ai au (pq 2) aa Oy) (a8 (ai au (iK (pq 0) T.om T.KM (xL T) (hr.mono Yk) T.Kh .nil fS (a8 (pq 1) (a8 (ao gF (ai au (pq 2) aa Oy) aa) ac))) aa Oy) ac)))))),?_⟩
 walk_at "q";obtain⟨_,hs,d⟩:=D.hs;have sl:=d.len;have O:=(qp.mp l).1;obtain⟨pt,J,c⟩:=ka d l;have e:=D.so.set (i:=i) (m:=x-1) Yo;have wl:=(S.ok.prep e.nm e.pos).wl;exists _,U,M.b,_,M.dx,_,_,U,D.sa _ _ S.ob,T.om,T.At,jA,_,U,M.ls,_,_,_,U,U,SqL.of hs,aO J;refine⟨_,U,pt,_,_,_,U,U,SqT.of c,at0,_,U,M.b,M.dx,_,U,D.sa _ _ S.ob,mf Yd,_,U,_,U,pt,_,_,_,U,U,SqT.of c,aO (j:=1) U,_,_,U,U,B,M,rs,n,C,ss,i,x-1,U,S,D,Yo,Yo,λ_ p _ o zs st v _ I=>?_⟩;rw[wl]at I;obtain⟨u,z,y⟩:=no _ o zs st e (LeS.refl _) I;refine⟨λL=>Qd (mY I.nd I.lt (L.trans wl) u z) y,λg us ps F hl r N=>?_⟩;refine⟨p,_,_,_,U,U,SqT.of F,aO (j:=2) U,ln2,λt G=>?_⟩;have f:=a9.new G (.tup [.str q,.ref g]);exact k _ t g us ps o zs st (v.trans f) ah (f _ _ hl) (r.same f) I N
theorem zB{H:Hp}{b C a:Addr}{fs:List (Str×V)}{o:HO}(hb:H b=some (.ins C a fs)):∀{vs:LV}{es:List Wat},RWs H vs es->RWs (upd H b o) vs es
 |_,_,.nil=>.nil
 |_,_,.cons h r=>.cons (by rw[af (λz=>by rw[z,hb]at h;cases h)];exact h) (zB hb r)
theorem ub{H:Hp}{b C c:Addr}{fs:List (Str×V)}{o:HO}(hb:H b=some (.ins C c fs)):∀{vs:LV}{a:List (List Wat)},RWL H vs a->RWL (upd H b o) vs a
 |_,_,.nil=>.nil
 |_,_,.cons h r t=>.cons (by rw[af (λz=>by rw[z,hb]at h;cases h)];exact h) (zB hb r) (ub hb t)
theorem zC{H:Hp}{b C a:Addr}{fs:List (Str×V)}{o:HO}(hb:H b=some (.ins C a fs)):∀{vs:LV}{ss:LF},RSs H vs ss->RSs (upd H b o) vs ss
 |_,_,.nil=>.nil
 |_,_,.cons h r=>.cons (by rw[af (λz=>by rw[z,hb]at h;cases h)];exact h) (zC hb r)
theorem E9:Ω T base 4 a.HW a.HX ["self","deeds","stores"] (w6 a):=by
 refine T.KZ.ok wG ?_;rintro _ A _ s H _ Q E hr⟨Hc,b,g,l,lk,us,sv,rs,b3,ss,rfl,hb,sc,O,hl,rr,hk,a5,R,SO,fr,few,k⟩
 refine⟨_,(ag (i4 (pq 0) (pq 1) U)
  (ag (i4 (pq 0) (fQ (k:=1) (Nc:=["row"]) (js:=[]) (show bg (aD k9) ["self","deeds","stores","peaks"] _ 1 ["row"] []from bg.mk U (by decide +kernel) (by decide +kernel) (by decide +kernel) U (by decide +kernel)) U (ce (aC (xA T) (hr.mono Yk) T.Ih (a8 (pq 1) ac))) (λ_ _ _ _ _=>(aI (i:=0) (show List.Nodup (["row"]:LS)from by decide +kernel) U Oi)) (λ_ _ _ _ _=>gh) (λ_ _ _ _ _=>(aC (DC T) (hr.mono Yk) T.Kj (a8 (pq 0) ac)))) U)
  (ag (aq (i:=3) wG.nd U (Or.inr U) (aC (DE T) (hr.mono Yk) T.Kk (a8 (pq 1) ac)))
  (aj (i4 (pq 0) (fQ (k:=2) (Nc:=["store","length","peaks"]) (js:=[3]) (show bg (aD k9) ["self","deeds","stores","peaks"] _ 2 ["store","length","peaks"] [3]from bg.mk U (by decide +kernel) (by decide +kernel) (by decide +kernel) U (by decide +kernel)) U (ce (pq 2)) (λ_ _ _ _ _=>(lX 2 U (bh (aI (i:=0) (show List.Nodup (["store","length","peaks"]:LS)from by decide +kernel) U Oi) (bh (aI (i:=1) (show List.Nodup (["store","length","peaks"]:LS)from by decide +kernel) U Oi) d5)))) (λ_ _ _ _ _=>gh) (λ_ _ _ _ _=>(bc (a8 (pq 0) (a8 (aL (mV U) U T.HI PyProof.Rows.Boot.«max» (a8 (pq 1) (a8 (dN hr.one (pq 2) (pq 0) aa ⟨U,U,U,U⟩) ac))) ac))))) U))))),?_⟩
 walk_at "q";refine⟨_,U,_,U,b,a.gt,g,[],U,hb,T.om,T.KN,by simp,?_⟩;rw[gG [] U Yd,Qt];have c1:a9 Hc (upd H b (.ins a.gt g [("deeds",V.ref l)])):=a9.over sc O;have b1:(upd H b (.ins a.gt g [("deeds",V.ref l)])) b=some (.ins a.gt g [("deeds",V.ref l)]):=ah;generalize upd H b (.ins a.gt g [("deeds",V.ref l)])=H1 at c1 b1 ⊢;refine⟨_,U,l,us,rs,U,c1 _ _ hl,rr.same c1,R.few,R.sm,λH2 lw ws s2 _ X0 r2=>?_⟩;exists lw,U,⟨_,SqL.of X0⟩;have al:=j1 rs rs.length (qo _);have a4:Sm (bH rs rs.length) 8000:=mZ R.sm _;have wl:=r2.len;have fw:=R.few;refine iq (K:=K) (a:=lw) (xs:=ws) (λi ys j G=>(∃v,j=[v])/\a9 H2 G/\RWL G ys ((bH rs rs.length).take i |>.map λes=>db es es.length)) ⟨⟨_,U⟩,a9.refl _,.nil⟩ ?_ (bf (m:=1000) Yo) ?_ ?_ ?_
 .rintro i ys j G _ ⟨_,_,r⟩;rw[r.len,qc,qS];omega
 .rintro i ys j G ⟨_,d,_⟩;exact SqL.of (d _ _ X0)
 .rintro i x ys j G hx ⟨⟨v,rfl⟩,d,r⟩;obtain⟨p,b7,es,rfl,g1,g2,J⟩:=r2.at i x hx;refine⟨_,U,p,b7,es,U,d _ _ g1,g2.same d,qH (a4 i es J) Yk,λG2 _ _ t2 _ a' b2=>⟨⟨_,U⟩,d.trans t2,?_⟩⟩;rw[qA,J,qW];exact(r.same t2).snoc a' b2
 rintro ys j G ⟨_,d,r3⟩ y X;rw[wl,qP]at r3;generalize eWc:(bH rs rs.length).map (λes=>db es es.length)=Wc at r3;have wc:Wc.length=rs.length:=by rw[<- eWc,qc,al]
 have at_:∀k,wsV Wc k=db (wsV (bH rs rs.length) k) (wsV (bH rs rs.length) k).length:=λk=>by
  unfold wsV;rw[<- eWc,qM];cases(bH rs rs.length)[k]?<;>rfl
 have th:∀k,ThR (wsV (bH rs rs.length) k) (wsV Wc k):=λk=>by
  rw[at_ k];have:=ux (wsV (bH rs rs.length) k) _ (qo _)
  rwa [qP]at this
 have b0:Sm Wc 8000:=λi es h=>by
  have il:=(qp.mp h).1;have a1:=(th i).len;have a2:wsV Wc i=es:=by unfold wsV;rw[h];rfl
  have a3:(bH rs rs.length)[i]?=some (bH rs rs.length)[i]:=qi Yo;rw[a2]at a1;refine qH a1 (a4 i _ ?_);unfold wsV;rw[a3]
  rfl
 have L:=s2.trans d;have J:=a9.new X (.lst ys);have bG:=J _ _ (L _ _ b1);refine⟨_,U,b,a.gt,g,_,U,bG,T.om,T.KO,by simp,?_⟩;rw[gG ["deeds"] U Yd];obtain⟨S,eo⟩:∃o,HO.ins a.gt g (([("deeds",V.ref l)]:List (Str×V))++([("by_cards",V.ref y)]:List (Str×V)))=o:=⟨_,U⟩;rw[eo];have r4:=ub (o:=S) bG (r3.same J);have a7:y≠b:=λz=>by rw[z,L _ _ b1]at X;cases X
 have B:=a9.over (o:=S) ((c1.trans L).trans J) O;have h4:upd (upd G y (.lst ys)) b S y=some (.lst ys):=by rw[af a7];exact ah
 have b4:upd (upd G y (.lst ys)) b S b=some (.ins a.gt g [("deeds",V.ref l),("by_cards",V.ref y)]):=eo▸ah;generalize upd (upd G y (.lst ys)) b S=H4 at r4 B h4 b4 ⊢;refine⟨_,U,l,us,rs,U,B _ _ hl,rr.same B,R.few,R.ro.fed,R.ro.ow,λH5 dp f N h5 pk=>?_⟩;have c5:=B.trans N;have sl:=a5.len;have sn:=SO.few fr;exists _,U,lk,U,⟨_,SqL.of (c5 _ _ hk)⟩;refine iq (K:=K) (a:=lk) (xs:=sv) (λi ys j G=>(∃v1 v2,j=[v1,v2,some (.ref dp)])/\a9 H5 G/\RSs G ys ((ss.take i).map (mxS f))) ⟨⟨_,_,U⟩,a9.refl _,.nil⟩ ?_ (bf (m:=1000) Yo) ?_ ?_ ?_
 .rintro i ys j G _ ⟨_,_,r⟩;rw[r.len,qc,qS];omega
 .rintro i ys j G ⟨_,d,_⟩;exact SqL.of (d _ _ (c5 _ _ hk))
 .rintro i x ys j G hx ⟨⟨v1,v2,rfl⟩,d,r⟩;obtain⟨ps,q,n,rfl,es,b8⟩:=a5.at i x hx;obtain⟨pn,F,_⟩:=pk q;have W:pkN f q=pn:=by unfold pkN;rw[F]
  exists ps,_,U,SqT.of (d _ _ (c5 _ _ b8)),U,_,_,U,_,_,U,U;refine⟨_,U,_,U,_,U,dp,U,.inl ⟨f,.inl (d _ _ h5)⟩,_,U,_,bT.k (k:=.inr q) (d _ _ h5),n,pn,congrArg (λz=>[V.int n,z]) F,ln2,λt ft=>⟨⟨_,_,U⟩,d.trans (a9.new ft _),?_⟩⟩;rw[qA,es,qW];refine(r.same (a9.new ft _)).snoc ?_;rw[W];exact ah
 rintro a0 _ G2 ⟨_,C,r5⟩ Z D;rw[sl,qP]at r5;have g6:=a9.new D (.lst a0);have b6:=g6 _ _ (C _ _ (N _ _ b4));refine⟨_,U,b,a.gt,g,_,U,b6,T.om,T.At,by simp,?_⟩;rw[gG ["deeds","by_cards"] U Yd];have a6:Z≠b:=λz=>by rw[z,C _ _ (N _ _ b4)]at D;cases D
 have b5:H4 Z=none:=N.free (C.free D)
 have M:StO b3 (ss.map (mxS f)):=⟨by rw[List.map_map];exact SO.nm,λs hs=>by
  obtain⟨u,h',rfl⟩:=List.mem_map.mp hs;have:=SO.pos u h';unfold mxS;dsimp only
  split<;>omega⟩
 refine k _ (upd H4 b (MdO a ⟨b,g,l,y,Z,us,ys⟩)) y Z ys Wc (ss.map (mxS f)) (a9.over B O) ⟨ah,a9.over B O _ _ hl,rr.same (a9.over B O),by rwa[af a7],ub b4 r4,wc,b0,th,by rwa[af a6],R,fr⟩ ⟨λc o h=>?_,⟨a0,by rw[af a6];exact ah,zC b6 (r5.same g6)⟩,M⟩ ⟨M,λi s u h1 X0=>?_,λo zs st I=>?_,λi s u h=>Qd h (QG _),λs hs=>?_⟩
 .by_cases e:c=b
  .subst e;rw[ah]at h ⊢;exact h
  .rw[af e]at h ⊢;exact g6 _ _ (C _ _ (N _ _ h))
 .rw[qM,h1]at X0;cases X0;unfold mxS;dsimp only;split<;>omega
 .refine I.peaks R M λq n hq i hi=>?_;obtain⟨u,h',e⟩:=List.mem_map.mp hq;obtain⟨pn,F,_,_,e4⟩:=pk u.1;have W:pkN f u.1=pn:=by unfold pkN;rw[F]
  have:=e4 i hi;unfold mxS at e;cases e;rw[W];split<;>omega
 .obtain⟨u,h',rfl⟩:=List.mem_map.mp hs;obtain⟨pn,F,_,_,_⟩:=pk u.1;have W:pkN f u.1=pn:=by unfold pkN;rw[F]
  have:=few u h';unfold mxS;dsimp only;rw[W];split<;>omega
theorem RPp.same{H H':Hp}{rs:List Row}{ss:LF}(s:a9 H H'):∀{vs:LV}{is:LG},RPp H rs ss vs is->RPp H' rs ss vs is
 |_,_,.nil=>.nil
 |_,_,.cons a b c d e f r=>.cons (s _ _ a) (s _ _ b) (c.same s) d e f (r.same s)
theorem RPp.snoc{H:Hp}{rs:List Row}{ss:LF}{p h:Addr}{q:Str}{x:Int}{i:Nat}{g:LV}{ps:List (Nat×Wat)}{o:LG}{zs:Nat->Nat}{st:Nat->LG}(a:H p=some (.tup [.str q,.ref h]))(b:H h=some (.lst g))(c:RWs H g (ps.map rgW))(d:ss[i]?=some (q,x))(e:LkI (WF rs (aY ss i (x-1))) rs.length o [] zs st)(f:dG (WF rs (aY ss i (x-1))) o ps):∀{vs:LV}{is:LG},RPp H rs ss vs is->RPp H rs ss (vs++[.ref p]) (is++[i])
 |_,_,.nil=>.cons a b c d e f .nil
 |_,_,.cons a' b' c' d' e' f' r=>.cons a' b' c' d' e' f' (RPp.snoc a b c d e f r)
theorem RPp.len{H:Hp}{rs:List Row}{ss:LF}:∀{vs:LV}{is:LG},RPp H rs ss vs is->vs.length=is.length
 |_,_,.nil=>rfl
 |_,_,.cons _ _ _ _ _ _ r=>congrArg (·+1) r.len
theorem yd{kept ss:LF}{s t:Str×Int}(a:kept[i]?=some s)(b:ss[i]?=some t):lgP kept ss (i+1)=lgP kept ss i++if s.2<t.2 then[i]else[]:=by
 unfold lgP;rw[List.range_succ,QA]
 congr 1
 rw[List.filter_cons,qu,qu,a,b];by_cases z:s.2<t.2<;>simp[z]
theorem DG:Ω T base 6 a.IL a.IM ["deeds","stores"] vj:=by
 refine T.Ki.F.ok jd ?_;rintro _ A _ s H _ Q E hr⟨l,V,us,sv,rs,C,kept,rfl,hl,rr,hk,N,R,J,fr,few,k⟩
 refine⟨_,(ag (aq (i:=2) jd.nd U (Or.inr U) (xi T.Lp (E9 T) (hr.mono Yk) U T.Lo T.L0 .nil fS (a8 (pq 0) (a8 (pq 1) ac))))
  (ag (bD PassesOwn.never U (jv U T.Ch (a8 (pq 1) ac)) (dM U (bh (aI (i:=3) jd.nd U Oi) (bh (aI (i:=4) jd.nd U Oi) d5)))
  (aj (bu (iK (pq 2) T.om T.Lq (E7 T) (hr.mono Yk) T.L4 .nil fS (a8 (pq 3) (a8 (ai au (pq 4) aa Oy) ac))))))
  (ag (aq (i:=5) jd.nd U (Or.inr U) (cP (pq 2) U))
  (ag (ju (i:=6) jd.nd U Oi (k:=2) (Nc:=["place","store","mender","longer"]) (js:=[2,5]) (show bg (aD lH) ["deeds","stores","mender","place","store","longer","papers"] _ 2 ["place","store","mender","longer"] [2,5]from bg.mk U (by decide +kernel) (by decide +kernel) (by decide +kernel) U (by decide +kernel)) U (jv U T.Ch (a8 (pq 1) ac)) (λ_ _ _ _ _=>(lX 2 U (bh (aI (i:=0) (show List.Nodup (["place","store","mender","longer"]:LS)from by decide +kernel) U Oi) (bh (aI (i:=1) (show List.Nodup (["place","store","mender","longer"]:LS)from by decide +kernel) U Oi) d5)))) (λ_ _ _ _ _=>(iH (ax fO (ai (jp (K:=K) U) (ai (jq (K:=K) U) (pq 3) (pq 0) Oy) aa Oy) (ai (jp (K:=K) U) (pq 1) aa Oy) (ay _)))) (λ_ _ _ _ _=>(iK (pq 2) T.om T.Lr (E8 T) (hr.mono Yk) T.L7 .nil fS (a8 (pq 0) ac))))
  (aj (az (bc (a8 (pq 5) (a8 (pq 6) ac))))))))),?_⟩
 walk_at "q";refine⟨_,U,_,U,λb dx hb a4 ne=>⟨H,b,dx,l,V,us,sv,rs,C,kept,U,ah,λc o hc=>?_,hb,hl,rr,hk,N,R,J,fr,few,λ_ H0 lc W ws Wc _ c0 S D1 M1=>⟨U,?_⟩⟩⟩
 .rw[af (λe=>by rw[e,hb]at hc;cases hc),af (λe=>by rw[e,a4]at hc;cases hc)];exact hc
 have sl:=N.len;have sn:=J.few fr;generalize eM:(⟨b,dx,l,lc,W,us,ws⟩:MdA)=M at S D1;have eb:M.b=b:=by rw[<- eM]
 have a3:M.ls=W:=by rw[<- eM]
 exists _,U,V,sv,U,SqL.of (D1.sa _ _ (c0 _ _ hk));refine kA (K:=K) (l:=V) (xs:=sv) (λi v G=>∃v3 v4 ss,v=[some (.ref l),some (.ref V),some (.ref b),v3,v4,none,none]/\MdH H0 G M C ss/\Mnd rs C kept ss i) ⟨_,_,_,U,D1,M1⟩ ?_ ?_ ?_
 .rintro i v G ⟨_,_,_,_,D,_⟩;exact SqL.of (D.sa _ _ (c0 _ _ hk))
 .rintro i x v G pt hx ⟨v3,v4,ss,rfl,D,d⟩ a2;obtain⟨px,q,m,rfl,u,a1⟩:=N.at i x hx;obtain⟨G1,eN,t,hq⟩:=cU a2 (.tup [.int i,.ref px]);rw[eN];have B:=D.same t;have ml:=d.so.len J;have il:=(qp.mp u).1;obtain⟨⟨q',n⟩,hn⟩:∃s,ss[i]?=some s:=⟨_,qi Yo⟩;exists pt,_,U,SqT.of hq,U,_,_,U,_,_,U,U;refine⟨_,U,b,dx,_,U,by rw[<- eM]at S B;exact B.sa _ _ S.ob,mf Yd,_,U,_,U,px,_,_,_,U,U,SqT.of (B.sa _ _ (c0 _ _ a1)),aO (j:=1) U,H0,M,rs,C,Wc,ss,i,q',n,m,by rw[eb];rfl,S,B,hn,J.pos _ (qI u),d.ge i _ _ u hn,d.all,λG3 x D3 mx xn al no=>?_⟩;refine⟨_,_,_,U,D3,D3.so,λj s Z g f=>?_,al,λj s Z _ g f=>?_,λs hs=>?_⟩
  .by_cases e:i=j
   .subst e;rw[gA hn]at f;rw[u]at g;cases g;cases f;exact mx
   .rw[g9 e]at f;exact d.ge j s Z g f
  .by_cases e:i=j
   .subst e;rw[gA hn]at f;rw[u]at g;cases g;cases f;rwa[Bs]
   .have hs:=f;rw[g9 e]at f;rcases d.no j s Z Yo g f with y|y
    .exact .inl y
    .have p1:=J.pos s (qI g);have p2:=d.ge j s Z g f;by_cases z:Z.2=s.2
     .exact .inl z
     .exact .inr (y.le (d.so.set Yo) (D3.so.set Yo) (LeS.set (LeS.less hn xn) (Int.le_refl _)))
  .rcases List.mem_or_eq_of_mem_set hs with h|rfl
   .exact d.few s h
   .have:=d.few _ (qI hn);exact Int.le_trans xn this
 .rintro v G ⟨v3,v4,ss,rfl,D,d⟩;rw[sl]at d;obtain⟨a0,hs,X⟩:=D.hs;exists _,U,b,_,dx,_,_,U,by rw[<- eM]at S D;exact D.sa _ _ S.ob,T.om,T.At,jA;exists _,U,V,sv,U,SqL.of (D.sa _ _ (c0 _ _ hk));have ml:=d.so.len J;have sl':=X.len;refine Gx (K:=K) (l:=V) (xs:=sv) (λi ys v O=>(∃v0 v1,v=[v0,v1,some (.ref b),some (.ref W)])/\a9 G O/\RPp O rs ss ys (lgP kept ss i)) ⟨⟨_,_,U⟩,a9.refl _,.nil⟩ ?_ (bf (m:=1000) Yo) ?_ ?_ ?_
  .rintro i ys v O _ ⟨_,_,r⟩;rw[r.len];refine qH (List.length_filter_le _ _) ?_;rw[Qm];exact qo _
  .rintro i ys v O ⟨_,L,_⟩;exact SqL.of (L _ _ (D.sa _ _ (c0 _ _ hk)))
  .rintro i x ys v O pt hx ⟨⟨v0,v1,rfl⟩,L,r⟩ a2;obtain⟨px,q,m,rfl,u,a1⟩:=N.at i x hx;obtain⟨G1,eN,t,hq⟩:=cU a2 (.tup [.int i,.ref px]);rw[eN];have X0:=L.trans t;have B:=D.same X0;have il:=(qp.mp u).1;obtain⟨py,q',n,ev,hn,a5⟩:=X.at i a0[i] (qi Yo);have ei:a0[i]?=some (.ref py):=by rw[qi Yo,ev]
   have lg:=yd u hn;exists pt,_,U,SqT.of hq,U,_,_,U,_,_,U,U;exists _,U,_,U,W,_,_,_,U,U,SqL.of (by rw[<- a3];exact X0 _ _ hs),aO ei,py,_,_,_,U,U,SqT.of (X0 _ _ a5),aO (j:=1) U,_,U,px,_,_,_,U,U,SqT.of (B.sa _ _ (c0 _ _ a1)),aO (j:=1) U,_,_,U,U,_,U;by_cases z:m<n
   .rw[Qa (Qb z)];refine⟨_,U,b,dx,_,U,by rw[<- eM]at S B;exact B.sa _ _ S.ob,mf Yd,_,U,H0,M,rs,C,Wc,ss,i,q',n,by rw[eb];rfl,S,B,hn,by have:=J.pos _ (qI u);omega,?_,λG3 p _ _ ps o zs st t3 g f h3 I RG=>⟨⟨_,_,U⟩,X0.trans t3,?_⟩⟩
    .rcases d.no i _ _ il u hn with y|y
     .exact Qd (show n=m from y) (by omega)
     .exact y
    .rw[lg,Qa z];exact(r.same (t.trans t3)).snoc g f h3 hn I RG
   .rw[Q9 (by rw[Qc z];exact qt)];exact⟨⟨_,_,U⟩,X0,by rw[lg,Q9 z,qG];exact r.same t⟩
  .rintro ys v O ⟨_,L,r⟩ lp a6;refine⟨_,U,_,U,ln2,λp hp=>?_⟩;have t:=(a9.new a6 (.lst ys)).trans (a9.new hp (.tup [.ref W,.ref lp]));rw[sl]at r;exact k _ p W lp a0 ys ss (c0.trans (D.sa.trans (L.trans t))) ah (t _ _ (L _ _ (by rwa[<- a3]))) (X.same (L.trans t)) d (a9.new hp _ _ _ ah) (r.same t)
theorem nF{us:LV}{ss:LF}(r:RSs H us ss):∀(i:Nat)(x:Key×V),(cg ss)[i]?=some x->∃pt,us[i]?=some (.ref pt)/\H pt=some (.tup [kV x.1,x.2]):=λi x a=>by
 unfold cg at a;rw[qM]at a;obtain⟨st,b,rfl⟩:=qX.mp a;exact ka r b
theorem WkH.also{s g i f d:Addr}{o:LG}{ob:HO}(M:WkH H0 H s g i f rs o)(h:H d=none):WkH (upd H0 d ob) (upd H d ob) s g i f rs o:=by
 obtain⟨m,a,k⟩:=M.c0;obtain⟨l,e,b1⟩:=M.c1;obtain⟨j,b,b2⟩:=M.c2;have ne:∀{c:Addr}{x:HO},H c=some x->c≠d:=λhc z=>by rw[z,h]at hc;cases hc
 refine⟨by rw[af (ne M.so)];exact M.so,⟨m,by rwa[af (ne a)],k⟩,⟨l,by rwa[af (ne e)],b1⟩,⟨j,by rwa[af (ne b)],b2⟩,M.nd,λc x hc=>?_,by rw[af (ne a)];exact M.n0,by rw[af (ne e)];exact M.n1,by rw[af (ne b)];exact M.n2⟩;by_cases z:c=d
 .rw[z,ah]at hc ⊢;exact hc
 .rw[af z]at hc ⊢;exact M.sa _ _ hc
theorem DO:Ω T base 5 a.K3 a.K4 ["_law_rows","_law_ahead_here","_law_stores_here","_law_ring"] vC:=by
 refine T.KG.F.ok oa ?_;rintro _ A _ s H _ Q E hr⟨l,N,X,lr,us,as,J,ru,rs,_,n,ps,o,zs,st,rfl,hl,rr,ha,ra,hx,C,R,c,fr,a2,rp,I,G,k⟩
 refine⟨_,(ag (aq (i:=4) oa.nd U Oi (aC (rZ T) (hr.mono Yk) T.Hw (a8 (d6 gc U T.mt PyProof.Rows.Boot.«list» (a8 (pq 0) ac)) (a8 (d6 gc U T.mt PyProof.Rows.Boot.«list» (a8 (pq 2) ac)) ac))))
  (ag (aJ (PW.pt (c9 (cF (cN (aL dS U T.ld PyProof.Rows.Boot.«isinstance» (a8 (pq 4) (a8 (dW (v:=.ty "tuple") U T.wE PyProof.Rows.Boot.«tuple» rfl) ac))))) (c9 (ax eA (aL bn U T.ad Qg (a8 (pq 4) ac)) aa (ay _)) (dL (ax eA (ai au (pq 4) aa Oy) aQ (ay _)))))) (aj (az cq)) aN)
  (ag (aq (i:=5) oa.nd U Oi (aC (xG T) (hr.mono Yk) T.Iq (a8 (pq 0) (a8 (pq 1) (a8 (d6 (tQ U) U T.Iu PyProof.Rows.Boot.«dict» (a8 (pq 2) ac)) (a8 (ai au (pq 4) aa Oy) ac))))))
  (aj (az (i6 (fR eX (pq 5) bN (ay _)) (jx (aC (DS T) (hr.mono Yk) T.KF (a8 (pq 0) (a8 (pq 1) (a8 (d6 (tQ U) U T.Iu PyProof.Rows.Boot.«dict» (a8 (pq 2) ac)) (a8 (pq 5) (a8 (pq 3) ac))))))))))))),?_⟩
 walk_at "q";have P:=R.prep c.nm c.pos;have sn:=c.few fr;have fw:=R.few;have wl:=P.wl;refine⟨_,U,l,us,U,.inl (SqL.of hl),λlh b0=>?_⟩;obtain⟨_,eN,q6,a0⟩:=cU b0 (.lst us);rw[eN];refine⟨_,U,X,J,U,.inl (SqL.of (q6 _ _ hx)),λl8 a5=>?_⟩;obtain⟨_,eN,q7,X0⟩:=cU a5 (.lst J);rw[eN];have y:=q6.trans q7;refine⟨lh,l8,us,J,rs,n,WF rs n,U,q7 _ _ a0,rr.same y,R.few,R.sm,X0,C.same y,sn,c.pos,U,P.sm,P.tg,Yo,λH8 pf lo o2 _ _ s8 a6 r=>?_⟩;rw[wl]at r;have mem:∀j,j∈o↔j∈o2:=λj=>⟨LkI.le R c.nm c.pos c.nm c.pos (LeS.refl _) I r j,LkI.le R c.nm c.pos c.nm c.pos (LeS.refl _) r I j⟩;have t:=G.other mem;have L:=y.trans s8;refine mj λ_ xs x a4=>?_;rcases a4 with⟨rfl,rfl,eo⟩|⟨_,_,_,rfl,rfl,_,_,_⟩
 .obtain⟨p,B⟩:=List.exists_mem_of_ne_nil _ t.nn;obtain⟨po,pl,_⟩:=t.is p B;exact Qd (mY r.nd r.lt (eo.trans wl) p.1 Yo) po
 refine⟨_,U,_,_,_,true,U,.tup x,U,_,U,ar U ?_⟩;refine⟨_,U,pf,_,U,.inr (SqT.of x),U,_,U,ar (show(!decide (V.int ((3:Nat):Int)=V.int 3))=false by decide) ?_⟩;refine⟨_,U,pf,_,_,_,U,U,SqT.of x,at0,U,_,U,ar Yd ?_⟩;refine⟨_,U,_,U,_,U,X,J,cg n,U,L _ _ hx,by rw[C.len];simp[cg],bf (m:=1000) (by simp[cg];omega),nF (C.same L),λdl fl=>?_⟩;have a3:=P.dl;have u:=P.dw;have S:=a9.new fl (.dK (cZ (cg n)));have W:upd H8 dl (.dK (cZ (cg n))) dl=some (.dK (cZ (cg n))):=ah;have a1:=λ{G:Hp}(s:a9 H G)=>nF (C.same s);have b1:(cg n).length=n.length:=by simp[cg]
 generalize ekv:cZ (cg n)=kvs at *;generalize upd H8 dl (.dK kvs)=H9 at S W ⊢;have f:=L.trans S;have LQ:gz H9 l N dl us as rs kvs (dO kvs):=⟨f _ _ hl,rr.same f,f _ _ ha,kJ f ra,W,R.few,R.sm,a3⟩;have ol:=gm r.nd r.lt;refine⟨_,U,pf,_,_,_,U,U,SqT.of (S _ _ x),aO (j:=1) U,l,N,dl,lo,us,as,rs,kvs,dO kvs,o2,U,LQ,S _ _ a6,r.nd,Yo,r.oks R.ro u,λ_ a' d0 d1 d2 M=>?_⟩;have D:=f.trans M.sa;refine⟨_,U,U,_,U,aU U ?_⟩;refine⟨_,U,_,U,_,U,X,J,cg n,U,D _ _ hx,by rw[C.len,b1],bf (m:=1000) Yo,a1 D,λd Z=>?_⟩;rw[ekv];have u0:=a9.new (M.sa.free Z) (.dK kvs);have u1:=a9.new Z (.dK kvs);have g:=LQ.same u0;have a7:gz (upd H9 d (.dK kvs)) l N d us as rs kvs (dO kvs):=⟨g.hl,g.rr,g.ha,g.ra,ah,g.few,g.sm,g.dl⟩;refine⟨_,U,_,U,upd H9 d (.dK kvs),l,N,d,a',d0,d1,d2,lr,us,as,ru,rs,kvs,dO kvs,o2,ps,U,M.also Z,a7,u0 _ _ (f _ _ a2),(rp.same f).same u0,t.nd,λp B=>?_,t.nx,?_,λH' s'=>k H' ((D.trans u1).trans s')⟩
 .obtain⟨po,pl,z,O,z1,z2⟩:=t.is p B;have b:rs[p.1]?=some (rs[p.1]' Yo):=qi _;have hm:=qI O;rw[u p.1 _ b]at hm;exact⟨po,_,b,(FZ b R.ro.nd R.ro.ow (λq e=>mN R.ro.fed b e) (λr' h=>(R.ro.ends r' h).2.1) _ hm).1,dG.room r R.ro u b po O z1 z2⟩
 .refine C4 R.ro (ln:=dO kvs) t.nn (λp B=>?_) t.nx;obtain⟨_,pl,z,O,_⟩:=t.is p B;have b:rs[p.1]?=some (rs[p.1]' Yo):=qi _;exact⟨_,b,by rw[<- u p.1 _ b];exact qI O⟩
theorem uv{g f:LV}{ss kept:LF}(rs:RSs H g ss)(k:RSs H f kept)(h:StO rms ss)(d:StO rms kept)(o:i<kept.length):∃ps a q x y,g[i]?=some (.ref ps)/\f[i]?=some (.ref a)/\ss[i]?=some (q,x)/\kept[i]?=some (q,y)/\H ps=some (.tup [.str q,.int x])/\H a=some (.tup [.str q,.int y]):=by
 have sk:=h.len d;have b:kept[i]?=some kept[i]:=qi _;have c:ss[i]?=some (ss[i]' Yo):=qi _;have e:=h.eqn d c b;generalize kept[i]=s at b e;generalize ss[i]'_=s' at c e;obtain⟨q,y⟩:=s;obtain⟨_,x⟩:=s';cases e;obtain⟨ps,m,j⟩:=ka rs c;obtain⟨a,l,n⟩:=ka k b;exact⟨ps,a,q,x,y,m,l,c,b,j,n⟩
theorem DP:Ω T base 2 a.K5 a.K6 ["_law_found","_law_kept"] vD:=by
 refine T.KH.F.ok og ?_;rintro _ A _ s H _ Q E hr⟨g,c,_,I,_,ss,kept,rfl,hs,rs,hk,t,p,f,fr,le,few,k⟩
 refine⟨_,(ag (aJ (PW.pt (c9 (cF (cN (aL dS U T.ld PyProof.Rows.Boot.«isinstance» (a8 (pq 0) (a8 (dW (v:=.ty "list") U T.mt PyProof.Rows.Boot.«list» rfl) ac))))) (dL (ax eA (aL bn U T.ad Qg (a8 (pq 0) ac)) (aL bn U T.ad Qg (a8 (pq 1) ac)) (ay _))))) (aj (az cq)) aN)
  (ag (bD PassesOwn.never U (gj U T.u8 (a8 (aL bn U T.ad Qg (a8 (pq 1) ac)) ac)) (aI (i:=2) og.nd U Oi)
  (ag (aq (i:=3) og.nd U Oi (ai aA (pq 0) (pq 2) Oy))
  (ag (aJ (PW.pt (c9 (cF (cN (aL dS U T.ld PyProof.Rows.Boot.«isinstance» (a8 (pq 3) (a8 (dW (v:=.ty "tuple") U T.wE PyProof.Rows.Boot.«tuple» rfl) ac))))) (c9 (ax eA (aL bn U T.ad Qg (a8 (pq 3) ac)) aa (ay _)) (c9 (cF (cN (aL dS U T.ld PyProof.Rows.Boot.«isinstance» (a8 (ai au (pq 3) aa Oy) (a8 (dW (v:=.ty "str") U T.Cl PyProof.Rows.Boot.«str» rfl) ac))))) (dL (cF (cN (aC (si T) (hr.mono Yk) T.HG (a8 (ai au (pq 3) aa Oy) ac))))))))) (aj (az cq)) aN)
  (aj (aJ (PW.pt (c9 (ax eA (ai au (pq 3) aa Oy) (ai au (ai aA (pq 1) (pq 2) Oy) aa Oy) (ay _)) (dL (cF (lQ hV hV (ai au (ai aA (pq 1) (pq 2) Oy) aa Oy) (ai au (pq 3) aa Oy) aa))))) (aj (az cq)) aN)))))
  (aj (az cq)))),?_⟩
 walk_at "q";have sl:=rs.len;have B:=t.len;have sk:=p.len f;have sn:=f.few fr;refine⟨_,U,_,_,_,true,U,.lst hs,U,_,U,ar U ?_⟩;refine⟨_,U,g,_,U,.inl (SqL.of hs),_,U,c,_,U,.inl (SqL.of hk),U,_,U,ar (by rw[sl,B,sk,Qb U];rfl) ?_⟩;exists _,U,c,_,U,.inl (SqL.of hk),_,U,Yo,Yo;rw[show((I.length:Nat):Int).toNat=kept.length by omega];refine ii (λi l G=>G=H/\∃e m,l=[some (.ref g),some (.ref c),e,m]) ⟨U,_,_,U⟩ ?_ ?_
 .rintro i l G D ⟨rfl,e,m,rfl⟩;rw[Int.zero_add];obtain⟨ps,r,q,x,y,z,n,o,C,b,d⟩:=uv rs t p f D;have u:=le i _ _ C o;have J:=few _ (qI o);exists _,U,_,U,g,_,_,_,U,U,SqL.of hs,aO z;refine⟨_,U,_,_,_,true,U,.tup b,U,_,U,ar U ?_⟩;refine⟨_,U,ps,_,U,.inr (SqT.of b),U,_,U,ar (show(!decide (V.int ((2:Nat):Int)=V.int 2))=false by decide) ?_⟩;refine⟨_,U,ps,_,_,_,U,U,SqT.of b,at0,_,_,_,true,U,.str _,U,_,U,ar U ?_⟩;refine⟨_,U,ps,_,_,_,U,U,SqT.of b,aO (j:=1) U,x,U,_,U,ar U ?_⟩;refine⟨_,U,ps,_,_,_,U,U,SqT.of b,at0,_,U,_,U,c,_,_,_,U,U,SqL.of hk,aO n,r,_,_,_,U,U,SqT.of d,at0,U,_,U,ar (by rw[Qb U];rfl) ?_⟩;refine⟨_,U,_,U,c,_,_,_,U,U,SqL.of hk,aO n,r,_,_,_,U,U,SqT.of d,aO (j:=1) U,_,U,ps,_,_,_,U,U,SqT.of b,aO (j:=1) U,_,_,U,U,_,U,aU (Qb u) ⟨_,_,U,U,_,U,ar (by rw[Qb (show x<=2000 by omega)];rfl) ?_⟩⟩;exact⟨U,_,_,U⟩
 .rintro l G ⟨rfl,e,m,rfl⟩;exact k
theorem RPp.at{H:Hp}{rs:List Row}{ss:LF}:∀{vs:LV}{is:LG},RPp H rs ss vs is->∀{k i:Nat},is[k]?=some i->∃p j q x g ps o zs st,vs[k]?=some (.ref p)/\H p=some (.tup [.str q,.ref j])/\H j=some (.lst g)/\RWs H g (List.map rgW ps)/\ss[i]?=some (q,x)/\LkI (WF rs (aY ss i (x-1))) rs.length o [] zs st/\dG (WF rs (aY ss i (x-1))) o ps
 |_,_,.nil,k,i,h=>by simp at h
 |_,_,.cons a b c d e f r,0,i,h=>by cases h;exact⟨_,_,_,_,_,_,_,_,_,U,a,b,c,d,e,f⟩
 |_,_,.cons _ _ _ _ _ _ r,k+1,i,h=>RPp.at r (by simpa using h)
theorem EV{ss:LF}(nd:(ss.map (·.1)).Nodup){q:Str}{x:Int}(h:ss[i]?=some (q,x)):ss.map (λs=>(s.1,if s.1=q then s.2-1 else s.2))=aY ss i (x-1):=by
 refine List.ext_getElem? λj=>?_;rw[qM];by_cases e:i=j
 .subst e;rw[gA h,h];show some (q,if q=q then x-1 else x)=_;rw[Qa U]
 .rw[g9 e]
  cases hj:ss[j]? with
  |none=>rfl
  |some s=>
   show some (s.1,if s.1=q then s.2-1 else s.2)=_;rw[Q9 λz=>e ((List.getElem?_inj (l:=ss.map (·.1)) (by rw[qc];exact(qp.mp h).1) nd).mp (by rw[qM,qM,h,hj];show some q=some s.1;rw[z]))]
noncomputable def nmV(ss:LF)(i:Nat):V:=.str (ss.getD i ("",0)).1
theorem DV:Ω T base 6 a.K7 a.K8 ["_law_rows","_law_ahead_here","_law_kept","_law_longer","_law_papers_here"] nR:=by
 refine T.KI.F.ok jX ?_;rintro _ A _ s H _ Q E hr⟨l,la,X,N,lp,us,as,kv,sv,_,rs,b1,kept,ss,rfl,hl,rr,ha,ra,hk,rk,hs,S,hp,rp,R,Z,X0,fr,k⟩
 refine⟨_,(ag (aq (i:=5) jX.nd U (Or.inr U) (fQ (k:=1) (Nc:=["_law_k","_law_longer","_law_kept"]) (js:=[3,2]) (show bg (aD k6) ["_law_rows","_law_ahead_here","_law_kept","_law_longer","_law_papers_here","_law_names","_law_k","_law_one","_law_less"] _ 1 ["_law_k","_law_longer","_law_kept"] [3,2]from bg.mk U (by decide +kernel) (by decide +kernel) (by decide +kernel) U (by decide +kernel)) U (gj U T.u8 (a8 (aL bn U T.ad Qg (a8 (pq 2) ac)) ac)) (λ_ _ _ _ _=>(aI (i:=0) (show List.Nodup (["_law_k","_law_longer","_law_kept"]:LS)from by decide +kernel) U Oi)) (λ_ _ _ _ _=>(iH (ax fO (ai (jp (K:=K) U) (ai (jq (K:=K) U) (pq 1) (pq 0) Oy) aa Oy) (ai (jp (K:=K) U) (ai (jq (K:=K) U) (pq 2) (pq 0) Oy) aa Oy) (ay _)))) (λ_ _ _ _ _=>(ai (jp (K:=K) U) (ai (jq (K:=K) U) (pq 1) (pq 0) Oy) aa Oy))))
  (ag (aJ (PW.pt (c9 (cF (cN (aL dS U T.ld PyProof.Rows.Boot.«isinstance» (a8 (pq 4) (a8 (dW (v:=.ty "list") U T.mt PyProof.Rows.Boot.«list» rfl) ac))))) (dL (ax eA (aL bn U T.ad Qg (a8 (pq 4) ac)) (aL bn U T.ad Qg (a8 (pq 5) ac)) (ay _))))) (aj (az cq)) aN)
  (ag (bD PassesOwn.never U (gj U T.u8 (a8 (aL bn U T.ad Qg (a8 (pq 5) ac)) ac)) (aI (i:=6) jX.nd U (Or.inr U))
  (ag (aq (i:=7) jX.nd U Oi (ai aA (pq 4) (pq 6) Oy))
  (ag (aJ (PW.pt (c9 (cF (cN (aL dS U T.ld PyProof.Rows.Boot.«isinstance» (a8 (pq 7) (a8 (dW (v:=.ty "tuple") U T.wE PyProof.Rows.Boot.«tuple» rfl) ac))))) (c9 (ax eA (aL bn U T.ad Qg (a8 (pq 7) ac)) aa (ay _)) (c9 (cF (cN (aL dS U T.ld PyProof.Rows.Boot.«isinstance» (a8 (ai au (pq 7) aa Oy) (a8 (dW (v:=.ty "str") U T.Cl PyProof.Rows.Boot.«str» rfl) ac))))) (dL (ax eA (ai au (pq 7) aa Oy) (ai aA (pq 5) (pq 6) Oy) (ay _))))))) (aj (az cq)) aN)
  (ag (ju (i:=8) jX.nd U Oi (k:=2) (Nc:=["_law_q","_law_length_here","_law_names","_law_k"]) (js:=[5,6]) (show bg (aD k6) ["_law_rows","_law_ahead_here","_law_kept","_law_longer","_law_papers_here","_law_names","_law_k","_law_one","_law_less"] _ 2 ["_law_q","_law_length_here","_law_names","_law_k"] [5,6]from bg.mk U (by decide +kernel) (by decide +kernel) (by decide +kernel) U (by decide +kernel)) U (ce (pq 3)) (λ_ _ _ _ _=>(lX 2 U (bh (aI (i:=0) (show List.Nodup (["_law_q","_law_length_here","_law_names","_law_k"]:LS)from by decide +kernel) U Oi) (bh (aI (i:=1) (show List.Nodup (["_law_q","_law_length_here","_law_names","_law_k"]:LS)from by decide +kernel) U Oi) d5)))) (λ_ _ _ _ _=>gh) (λ_ _ _ _ _=>(bc (a8 (pq 0) (a8 (i5 (ax aW (pq 0) (ai (jq (K:=K) U) (pq 2) (pq 3) Oy) (ay _)) (ao gF (pq 1) aa) (pq 1)) ac)))))
  (aj (aJ (cF (cN (aC (DO T) (hr.mono Yk) T.KG (a8 (pq 0) (a8 (pq 1) (a8 (pq 8) (a8 (ai au (pq 7) aa Oy) ac))))))) (aj (az cq)) aN))))))
  (aj (az cq))))),?_⟩
 walk_at "q";have kl:=rk.len;have sl:=S.len;have sk:=X0.len Z;have sn:=Z.few fr;have big:(1000:Nat)<sizeLine:=Yk;exists _,U,X,kv,U,.inl (SqL.of hk),_,U,Yo,Yo;rw[show((kv.length:Nat):Int).toNat=kept.length by omega];refine yZ (λi ys b G=>(∃v,b=[v,some (.ref N),some (.ref X)])/\G=H/\ys=(lgP kept ss i).map (nmV ss)) ⟨⟨_,U⟩,U,U⟩ ?_ ?_ ?_ ?_
 .rintro i ys b G _ ⟨_,_,rfl⟩;rw[qc];refine qH (List.length_filter_le _ _) ?_;rw[Qm];exact qo _
 .omega
 .rintro i ys b G u ⟨⟨v,rfl⟩,rfl,rfl⟩;obtain⟨ps,pk,q,x,y,W,e2,B,M,a3,a7⟩:=uv S rk X0 Z u;exists _,U,_,U,N,_,_,_,U,U,SqL.of hs,aO W,ps,_,_,_,U,U,SqT.of a3,aO (j:=1) U,_,U,_,U,X,_,_,_,U,U,SqL.of hk,aO e2,pk,_,_,_,U,U,SqT.of a7,aO (j:=1) U,_,_,U,U,_,U;have lg:=yd M B;by_cases z:y<x
  .rw[Qa (Qb z)];exists _,U,_,U,N,_,_,_,U,U,SqL.of hs,aO W,ps,_,_,_,U,U,SqT.of a3,at0,⟨_,U⟩,U;rw[lg,Qa z,qW];show _=_++[nmV ss i];unfold nmV;rw[qu,B]
   rfl
  .rw[Q9 (by rw[Qc z];exact qt)];exact⟨⟨_,U⟩,U,by rw[lg,Q9 z,qG]⟩
 rintro ys b G ⟨_,rfl,rfl⟩ ln b0;obtain⟨H1,eN,u1,J⟩:=cU b0 (.lst ((lgP kept ss kept.length).map (nmV ss)));rw[eN]
 have mem:∀i∈lgP kept ss kept.length,∃q L x y,ss[i]?=some (q,x)/\kept[i]?=some (L,y)/\y<x:=λi u=>by
  unfold lgP at u;obtain⟨a1,a2⟩:=List.mem_filter.mp u;have il:=List.mem_range.mp a1;have B:ss[i]?=some (ss[i]' Yo):=qi _;have M:kept[i]?=some (kept[i]'il):=qi _;rw[qu,qu,B,M]at a2;exact⟨_,_,_,_,B,M,Ql a2⟩
 have pl:=rp.len
 have ll:(lgP kept ss kept.length).length<=100:=by
  refine qH (List.length_filter_le _ _) ?_;rwa[Qm]
 generalize lgP kept ss kept.length=is at *;refine⟨_,U,_,_,_,true,U,.lst (u1 _ _ hp),U,_,U,ar U ?_⟩;refine⟨_,U,lp,_,U,.inl (SqL.of (u1 _ _ hp)),_,U,ln,_,U,.inl (SqL.of J),U,_,U,ar (by rw[qc,pl,Qb U];rfl) ?_⟩;have lm:=qc (as:=is) (nmV ss);exists _,U,ln,_,U,.inl (SqL.of J),_,U,Yo,Yo;rw[show(((is.map (nmV ss)).length:Nat):Int).toNat=is.length by rw[qc];omega];refine ii (λi b G=>∃v6 v7 v8,b=[some (.ref l),some (.ref la),some (.ref X),some (.ref N),some (.ref lp),some (.ref ln),v6,v7,v8]/\a9 H1 G) ⟨_,_,_,U,a9.refl _⟩ ?_ ?_
 .rintro j b G2 hj ⟨v6,v7,v8,rfl,O⟩;rw[Int.zero_add];have u:is[j]?=some (is[j]'hj):=qi _;generalize is[j]'hj=i at u;obtain⟨p,lr,q,x,ru,ps,o,zs,st,W,D,a5,a6,B,I,RG⟩:=rp.at u;obtain⟨_,_,_,y,a0,M,lt⟩:=mem i (qI u);rw[B]at a0;cases a0;have y0:=Z.pos _ (qI M);have f:=u1.trans O
  have en:(is.map (nmV ss))[j]?=some (.str q):=by
   rw[qM,u];show some (nmV ss i)=_;unfold nmV;rw[qu,B]
   rfl
  exists _,U,_,U,lp,_,_,_,U,U,SqL.of (f _ _ hp),aO W;refine⟨_,U,_,_,_,true,U,.tup (f _ _ D),U,_,U,ar U ?_⟩;refine⟨_,U,p,_,U,.inr (SqT.of (f _ _ D)),U,_,U,ar (show(!decide (V.int ((2:Nat):Int)=V.int 2))=false by decide) ?_⟩;refine⟨_,U,p,_,_,_,U,U,SqT.of (f _ _ D),at0,_,_,_,true,U,.str _,U,_,U,ar U ?_⟩;refine⟨_,U,p,_,_,_,U,U,SqT.of (f _ _ D),at0,_,U,_,U,ln,_,_,_,U,U,SqL.of (O _ _ J),aO en,U,_,U,ar (by rw[Qb U];rfl) ?_⟩;exists _,U,N,U,⟨_,SqL.of (f _ _ hs)⟩;refine iq (K:=K) (a:=N) (xs:=sv) (λt ys b e=>(∃v0 v1,b=[v0,v1,some (.ref ln),some (.int j)])/\a9 G2 e/\RSs e ys ((ss.take t).map (λs=>(s.1,if s.1=q then s.2-1 else s.2)))) ⟨⟨_,_,U⟩,a9.refl _,.nil⟩ ?_ (bf (m:=1000) Yo) ?_ ?_ ?_
  .rintro t ys b e _ ⟨_,_,r⟩;rw[r.len,qc,qS];omega
  .rintro t ys b e ⟨_,C,_⟩;exact SqL.of (C _ _ (f _ _ hs))
  .rintro t v ys b e hv ⟨⟨v0,v1,rfl⟩,C,r⟩;obtain⟨pt,L,n,rfl,es,a'⟩:=S.at t v hv;have g:=f.trans C;exists pt,_,U,SqT.of (g _ _ a'),U,_,_,U,_,_,U,U;exists _,U,_,U,_,U,_,U,ln,_,_,_,U,U,SqL.of (C _ _ (O _ _ J)),aO en,U,_,U
   have fin:∀(z:Int),z=(if L=q then n-1 else n)->∀d,e d=none->a9 G2 (upd e d (.tup [.str L,.int z]))/\RSs (upd e d (.tup [.str L,.int z])) (ys++[.ref d]) ((ss.take (t+1)).map (λs=>(s.1,if s.1=q then s.2-1 else s.2))):=λz ez d c=>by
    exists C.trans (a9.new c _);rw[qA,es,qW];refine(r.same (a9.new c _)).snoc ?_;rw[ah,ez]
   by_cases eq:L=q
   .refine aU (Qb (congrArg V.str eq)) ⟨_,U,_,_,U,U,ln2,λd c=>⟨⟨_,_,U⟩,fin _ (Qa eq).symm d c⟩⟩
   .refine ar (Qc λz=>eq (V.str.inj z)) ⟨_,U,ln2,λd c=>⟨⟨_,_,U⟩,fin _ (Q9 eq).symm d c⟩⟩
  .rintro ys b e ⟨_,C,r⟩ lx a4;rw[sl,qP,EV (by rw[X0.nm];exact R.nd) B]at r;have u3:=a9.new a4 (.lst ys);have g:=(f.trans C).trans u3;refine⟨_,U,_,U,_,U,_,U,p,_,_,_,U,U,SqT.of (g _ _ D),aO (j:=1) U,l,la,lx,lr,us,as,ys,ru,rs,b1,aY ss i (x-1),ps,o,zs,st,U,g _ _ hl,rr.same g,g _ _ ha,kJ g ra,ah,r.same u3,R,X0.set Yo,fr,g _ _ a5,a6.same g,I,RG,λ_ s4=>⟨_,U,ar U ?_⟩⟩;exact⟨_,_,_,U,((O.trans C).trans u3).trans s4⟩
 .rintro b G2 ⟨v6,v7,v8,rfl,O⟩;exact k _
noncomputable def kpS(s:Str×Int):Str×Int:=(s.1,1+s.2 % 4)
theorem Fd(h:∀j:Nat,j<n->(aH kvs (.inl (j:Int))).isSome=true):n<=kvs.length:=by
 have ex:∀j:Nat,∃i:Nat,j<n->∃v,kvs[i]?=some ((Sum.inl (j:Int):Key),v):=λj=>by
  by_cases b:j<n
  .have:=h j b;unfold aH at this;obtain⟨v,g⟩:=Option.isSome_iff_exists.mp this;obtain⟨x,c,_⟩:=qX.mp g;have p:=List.find?_some c;obtain⟨i,m⟩:=List.mem_iff_getElem?.mp (List.mem_of_find?_eq_some c);exact⟨i,λ_=>⟨x.2,by rw[m,<- Ql p]⟩⟩
  .exact⟨0,λz=>Qd z b⟩
 obtain⟨f,d⟩:=Classical.axiomOfChoice ex
 have nd:((List.range n).map f).Nodup:=List.pairwise_map.mpr (List.Pairwise.imp_of_mem (λ{x y} c l ne e=>by
  obtain⟨v,a⟩:=d x (List.mem_range.mp c);obtain⟨_,o⟩:=d y (List.mem_range.mp l);rw[e,o]at a;have:=Sum.inl.inj (Prod.mk.inj (qR a)).1
  exact ne Yo) List.nodup_range)
 have:=gm nd (n:=kvs.length) λk hk=>by
  obtain⟨j,b,rfl⟩:=List.mem_map.mp hk;obtain⟨v,a⟩:=d j (List.mem_range.mp b);exact(qp.mp a).1
 rwa [qc,Qm]at this
theorem Mnd.same{kept ss:LF}(M:Mnd rs rms kept ss kept.length)(f:StO rms kept){o:LG}(I:LkI (WF rs kept) rs.length o [] zs st)(e:o.length=rs.length):ss=kept:=by
 have n:=M.so.len f;refine List.ext_getElem? λi=>?_;by_cases il:i<kept.length
 .have a:kept[i]?=some (kept[i]'il):=qi _;have b:ss[i]?=some (ss[i]' Yo):=qi _;rw[b,a]
  have g:(ss[i]' Yo).2=(kept[i]'il).2:=by
   rcases M.no i _ _ il a b with z|z
   .exact z
   .have ge:=M.ge i _ _ a b;by_cases ne:(ss[i]' Yo).2=(kept[i]'il).2
    .exact ne
    .obtain⟨k,m,l⟩:=z kept o zs st f (λj s h d c=>by
      by_cases ij:i=j
      .subst ij;rw[gA b]at c;rw[a]at d;cases d;cases c;show _<=_-1;omega
      .rw[g9 ij]at c
       exact M.ge j s h d c) I
     exact Qd (mY I.nd I.lt e k m) l
  rw[Prod.ext (M.so.eqn f b a) g]
 .rw[Qx Yo,Qx Yo]
theorem EU(ss:LF)(n:Nat):lgP ss ss n=[]:=by
 unfold lgP;rw[List.filter_eq_nil_iff];intro i _;simp
theorem DH:Ω T base 48 a.K9 a.Ka ["_law_script"] (jS K):=by
 refine T.L8.F.ok fL ?_;rintro _ A _ s H _ Q E hr⟨l,ns,rfl,hS,j2,_,_,k⟩
 refine⟨_,(ag (aq (i:=1) fL.nd U Oi (aC (DU T) (hr.mono Yk) T.Kz (a8 (pq 0) (a8 aa ac))))
  (ag (aq (i:=2) fL.nd U Oi (aC (DI T) (hr.mono Yk) T.Kp (a8 (pq 1) ac)))
  (ag (aq (i:=3) fL.nd U Oi (aC (E6 T) (hr.mono Yk) T.KA (a8 (pq 2) ac)))
  (ag (ju (i:=4) fL.nd U Oi (k:=2) (Nc:=["_law_q","_law_length_here"]) (js:=[]) (show bg (aD h8) ["_law_script","_law_program_here","_law_rows","_law_ahead_here","_law_kept","_law_handed","_law_stores_here","_law_found","_law_longer","_law_papers_here","_law_state"] _ 2 ["_law_q","_law_length_here"] []from bg.mk U (by decide +kernel) (by decide +kernel) (by decide +kernel) U (by decide +kernel)) U (ce (ai au (pq 1) aa Oy)) (λ_ _ _ _ _=>(lX 2 U (bh (aI (i:=0) (show List.Nodup (["_law_q","_law_length_here"]:LS)from by decide +kernel) U Oi) (bh (aI (i:=1) (show List.Nodup (["_law_q","_law_length_here"]:LS)from by decide +kernel) U Oi) d5)))) (λ_ _ _ _ _=>gh) (λ_ _ _ _ _=>(bc (a8 (pq 0) (a8 (ao bC aa (ao bp (pq 1) aa)) ac)))))
  (ag (aq (i:=5) fL.nd U Oi (d6 gc U T.mt PyProof.Rows.Boot.«list» (a8 (pq 2) ac)))
  (ag (aq (i:=6) fL.nd U Oi (d6 gc U T.mt PyProof.Rows.Boot.«list» (a8 (pq 4) ac)))
  (ag (aq (i:=7) fL.nd U Oi (aC (DG T) (hr.mono Yk) T.Ki (a8 (pq 5) (a8 (pq 6) ac))))
  (ag (aJ (PW.pt (c9 (ax (lZ hr.units) (pq 5) (pq 2) (ay _)) (c9 (ax (lZ hr.units) (pq 6) (pq 4) (ay _)) (c9 (cF (cN (aL dS U T.ld PyProof.Rows.Boot.«isinstance» (a8 (pq 7) (a8 (dW (v:=.ty "tuple") U T.wE PyProof.Rows.Boot.«tuple» rfl) ac))))) (dL (ax eA (aL bn U T.ad Qg (a8 (pq 7) ac)) aa (ay _))))))) (aj (az cq)) aN)
  (ag (gi (pq 7) (dM U (bh (aI (i:=8) fL.nd U Oi) (bh (aI (i:=9) fL.nd U Oi) d5))))
  (ag (aJ (cF (cN (aC (DP T) (hr.mono Yk) T.KH (a8 (pq 8) (a8 (pq 4) ac))))) (aj (az cq)) aN)
  (ag (aq (i:=10) fL.nd U Oi (aC (xG T) (hr.mono Yk) T.Iq (a8 (pq 2) (a8 (pq 3) (a8 (d6 (tQ U) U T.Iu PyProof.Rows.Boot.«dict» (a8 (pq 8) ac)) (a8 (ai au (aC (rZ T) (hr.mono Yk) T.Hw (a8 (d6 gc U T.mt PyProof.Rows.Boot.«list» (a8 (pq 2) ac)) (a8 (d6 gc U T.mt PyProof.Rows.Boot.«list» (a8 (pq 8) ac)) ac))) aa Oy) ac))))))
  (ag (aJ (PW.pt (c9 (ax wM (pq 10) bN (ay _)) (dL (ax eA (aL GI U T.ad Qg (a8 (ai aA (pq 10) aa Oy) ac)) (aL bn U T.ad Qg (a8 (pq 2) ac)) (ay _))))) (aj (az cq)) aN)
  (ag (aJ (PW.pt (gf (ax aW (ai au (aC (rZ T) (hr.mono Yk) T.Hw (a8 (d6 gc U T.mt PyProof.Rows.Boot.«list» (a8 (pq 2) ac)) (a8 (d6 gc U T.mt PyProof.Rows.Boot.«list» (a8 (pq 4) ac)) ac))) aa Oy) aQ (ay _)) (hX (PW.pt (c9 (ax (lZ hr.units) (pq 8) (pq 4) (ay _)) (dL (ax (lZ hr.units) (pq 9) (ba ac) (ay _)))))))) (aj (az cq)) aN)
  (aj (az (aC (DV T) (hr.mono Yk) T.KI (a8 (pq 2) (a8 (pq 3) (a8 (pq 4) (a8 (pq 8) (a8 (pq 9) ac))))))))))))))))))))),?_⟩
 walk_at "q";have wl:(bZ ns).length=(2+aG (ns.getD 1 0) 1 % 4).toNat:=lV _ _;have nl:(bR ns).length=(bZ ns).length-1:=QI;have rl:(aF ns).length=(if aG (ns.getD 1 0) 3 % 5<3 then aG (ns.getD 1 0) 3 % 5 else 3).toNat:=lV _ _;have i7:(aF ns).length<=3:=by rw[rl];split<;>omega
 have b':0<(bR ns).length:=Yo;obtain⟨h4,bd,i9⟩:=GN (rooms:=aF ns) (most:=2) (low:=7) b' (fB ns 3 63);have sub:∀x∈bR ns,x∈bZ ns:=λx f=>(List.dropLast_sublist _).subset f;have cl:(fB ns 3 63).length<=60:=by unfold fB;rw[qS];omega
 have d7:bU fG (cC ns):=tS Yk Yk _;have g8:(ak (cC ns)).length<=60:=qH i9 cl
 have k7:(aM (cC ns)).length<=360:=by
  have h:=GL (names:=bR ns) (rooms:=aF ns) (most:=2) (low:=7) Yk Yk (fB ns 3 63);change ((aM (cC ns)).length:Int)<=_ at h;omega
 have ml:(bw ns).length<=180:=by
  have h:=GO (names:=bR ns) (rooms:=aF ns) (most:=2) (low:=7) Yk Yk (fB ns 3 63);change ((bw ns).length:Int)<=_ at h;omega
 have fr:=yC (aF ns) (bR ns) (bw ns) b' _ (qo _)
 have fl:(dY ns).length<=540:=by
  have h1:=mK (aF ns) (bR ns) (bw ns) (aF ns).length;have:(aF ns).length * (bw ns).length<=3 * 180:=Nat.mul_le_mul i7 ml;unfold dY;omega
 obtain⟨ff,_,fd⟩:=CG (ds:=dY ns) λd hd=>by
  obtain⟨q,x,e,_⟩:=fr d hd;exact⟨q,x,e⟩
 have k3:aR (dY ns++cC ns)<=12:=by rwa[tG,yP fd,Nat.zero_max]
 have h6:(ak (dY ns++cC ns)).length<=1000:=by
  rw[fV,qh,ff];omega
 have b0:∀x∈cards (dY ns++cC ns),x∈bA (bZ ns) (aF ns):=λx f=>by
  rw[zh,qr]at f;rcases f with f|f
  .unfold cards at f;rw[ff]at f;obtain⟨d,hd,f⟩:=List.mem_flatMap.mp f;obtain⟨q,y,rfl,hq,hy⟩:=fr d hd;simp only[ae.cards,ae.names,ae.others,Qu,Qt,qD,qY,or_false]at f;unfold bA;simp only[qr,List.mem_map];rcases f with rfl|rfl
   .exact .inl (.inl (.inl (sub _ hy)))
   .exact .inl (.inl (.inr ⟨_,hq,U⟩))
  .exact GY sub x (h4 x f)
 have c8:zH (dY ns):=yB _ _ _ _
 have rA:bU fG (dY ns++cC ns):=by
  refine bU.app (λd hd n b z=>?_) d7;rw[ff]at hd;exact Qd z (c8 d hd n b)
 have e0:aM (dY ns++cC ns)=(dY ns).map aS++aM (cC ns):=by rw[lN,BV c8]
 have rwl:(aM (dY ns++cC ns)).length<=900:=by rw[e0,qh,qc];omega
 have fed:Fed (aM (dY ns++cC ns)):=by
  have h:=FV (rs:=aF ns) (names:=bR ns) (rows:=aM (cC ns)) (pY _) λr hr q ho=>by
   obtain⟨x,f⟩:=BR hr ho;exact zn Yk Yk _ q x f
  rw[sD]at h;rwa[e0]
 have b3:∀d∈ak (dY ns++cC ns),∀q x,d=.put q x\/d=.get q x->q∈aF ns:=λd hd q x e=>by
  rw[fV,ff]at hd;rcases qr.mp hd with m|m
  .obtain⟨_,y,e',hq,_⟩:=fr d m;rcases e with e|e
   .rw[e']at e;cases e;exact hq
   .rw[e']at e;cases e
  .rcases e with rfl|rfl
   .exact GM Yk Yk _ q x m
   .exact zn Yk Yk _ q x m
 have j3:∀q x,ae.get q x∈ak (dY ns++cC ns)->x∈bR ns:=λq x L=>by
  rw[fV,ff]at L;rcases qr.mp L with m|m
  .obtain⟨_,_,e,_⟩:=fr _ m;cases e
  .exact GP b' Yk Yk _ q x m
 generalize eds:dY ns++cC ns=ds at *;have g9:(bA (bZ ns) (aF ns)).length<64:=by rw[Hg];omega
 have i6:∀q∈bA (bZ ns) (aF ns),q.length<=1000:=GZ;have tok:∀s∈kH (bZ ns) (aF ns),PyData.strOk s=true:=Ae;have am:∀x∈fb ns,x∈bZ ns:=zy (qo _);have sm:∀s∈cM ns,s.1∈aF ns:=uL (qo _);have al:(fb ns).length<=5:=qH (tW _ _ _) Yo;have sl:(cM ns).length=(aF ns).length:=nG _ _ _ _;have k0:∀s∈cM ns,s.1.length<=1000:=λs hs=>qH (lU _ _ _ (sm s hs)) Yk;have pc:∀x∈eB (fb ns) (cM ns) ds,x∈bA (bZ ns) (aF ns):=CN am sm b0
 have b5:∀b:LA,(∀e∈ak b,e∈ak ds)->(srt (cards b)).length<=4000:=λb hb=>by
  have:=jG (iB (cards b)) λx f=>b0 x (mT hb x (eU _ x f));omega
 have b7:∀e,e∈ak ds->∀x∈ak [e],x∈ak ds:=λe L x f=>by
  rw[ak,ak,qG]at f;exact iT _ e L x f
 have c1:∀r∈aM ds,r.owns.length<=4000/\r.reads.length<=4000:=λr hr=>by
  rcases gD _ r hr with⟨b,rfl,hb⟩|⟨e,L,rfl,nr⟩
  .exact⟨b5 b hb,qC _⟩
  .have fe:=b5 [e] (b7 e L)
   cases e with
   |cond x t o|whl x b|rep n b=>exact⟨fe,qC _⟩
   |_=>exact BW (qH (tN [_]) (by simp))
 have e6:∀r∈aM ds,jK r:=λr hr=>by
  rcases gD _ r hr with⟨b,rfl,hb⟩|⟨e,L,rfl,_⟩
  .exact⟨show PyData.strOk ("gate":Str)=true by decide +kernel,λs hs=>tM _ (b0 s (mT hb s (eU _ s hs))),λs hs=>(nomatch hs),λq h=>(nomatch h),λq h=>(nomatch h)⟩
  .exact BY (λc hc=>tM _ (b0 c (zf L c hc))) λq x h=>tok q (by unfold kH;simp[b3 e L q x h])
 have c5:∀r∈aM ds,∀q,(r.into=some q\/r.outof=some q)->q∈aF ns:=λr hr q e=>by
  rcases gD _ r hr with⟨b,rfl,hb⟩|⟨d,hd,rfl,_⟩
  .rcases e with e|e<;>cases e
  .cases d<;>rcases e with e|e<;>cases e
   .exact b3 _ hd _ _ (.inl U)
   .exact b3 _ hd _ _ (.inr U)
 have e9:=pY ds
 have k1:(dZ (fb ns) (cM ns) ds).owns.length<=4000:=by
  have:=jG (iB (eB (fb ns) (cM ns) ds)) λx f=>pc x (eU _ x f);show(srt _).length<=4000;omega
 have f5:jK (dZ (fb ns) (cM ns) ds):=⟨show PyData.strOk ("end":Str)=true by decide +kernel,λs hs=>tM _ (pc s (eU _ s hs)),λs hs=>(nomatch hs),λq h=>(nomatch h),λq h=>(nomatch h)⟩;have f0:Fed (aM ds++[dZ (fb ns) (cM ns) ds]):=fed.snoc U;have J:(aM ds++[dZ (fb ns) (cM ns) ds]).length<=1000:=by rw[qh,Qf];omega
 have all:∀{Pr:Row->Prop},(∀r∈aM ds,Pr r)->Pr (dZ (fb ns) (cM ns) ds)->∀r∈aM ds++[dZ (fb ns) (cM ns) ds],Pr r:=λh1 W r hr=>by
  rcases qr.mp hr with hr|hr
  .exact h1 r hr
  .rw[Q0.mp hr];exact W
 have f1:=all (Pr:=e8) e9 (.inl U)
 have i8:=all (Pr:=λr=>r.owns.Nodup) (λr hr=>by
  rcases gD _ r hr with⟨b,rfl,hb⟩|⟨e,L,rfl,nr⟩
  .exact iB _
  .exact BZ e λq x z=>CP _ _ _ (sub x (j3 q x (z▸L)))) (iB _)
 have RO:=BP i8 f1 f0;generalize erows:aM ds++[dZ (fb ns) (cM ns) ds]=rows at *;have u:=all (Pr:=λr=>r.owns.length<=4000/\r.reads.length<=4000) c1 ⟨k1,qC _⟩;have g1:=all (Pr:=jK) e6 f5;have c6:=all (Pr:=λr=>∀q,(r.into=some q\/r.outof=some q)->q∈aF ns) c5 λq e=>by rcases e with e|e<;>cases e
 have k6:(cM ns).map (·.1)=aF ns:=by
  unfold cM;rw[uK _ _ _ _ (qo _),qP]
 refine⟨_,U,l,ns,U,hS,j2,bd,d7,qH ml Yk,g8,λ_ p la ls lb us _ rp=>?_⟩;rw[eds]at rp;refine⟨_,U,p,la,ls,lb,fb ns,cM ns,ds,us,bA (bZ ns) (aF ns),U,rp,k3,h6,Yo,Yo,k0,pc,g9,i6,rA,Yo,fed,λ_ S g s2 W B=>?_⟩;have j':=rp.same s2;rw[erows]at B;have i3:=B.len;have R:fc rows (aF ns):=⟨RO,CQ _ (by split<;>omega),u,c6,J⟩
 have SK:StO (aF ns) ((cM ns).map kpS):=⟨by rw[List.map_map];exact k6,λs hs=>by
  obtain⟨s',_,rfl⟩:=List.mem_map.mp hs;show 0<=1+s'.2 % 4
  omega⟩
 have kf:∀s∈(cM ns).map kpS,s.2<=1000:=λs hs=>by
  obtain⟨s',_,rfl⟩:=List.mem_map.mp hs;show 1+s'.2 % 4<=1000;omega
 have a6:(aF ns).length<=100:=Yo;refine⟨_,U,S,g,rows,U,W,B,J,u,λH3 a' as s3 d4 ra=>?_⟩;have a0:=j'.same s3;exists _,U,p,_,_,_,U,U,SqT.of a0.top,U,ls,U,⟨_,SqL.of a0.st⟩;refine iq (K:=K) (a:=ls) (xs:=us) (λi ys Y G=>(∃v0 v1,Y=[v0,v1])/\a9 H3 G/\RSs G ys (((cM ns).take i).map kpS)) ⟨⟨_,_,U⟩,a9.refl _,.nil⟩ ?_ (bf (m:=1000) (by rw[a0.ro.len];omega)) ?_ ?_ ?_
 .rintro i ys Y G _ ⟨_,_,r⟩;rw[r.len,qc,qS];omega
 .rintro i ys Y G ⟨_,sG,_⟩;exact SqL.of (sG _ _ a0.st)
 .rintro i x ys Y G f ⟨⟨v0,v1,rfl⟩,sG,r⟩;obtain⟨pt,q,n,rfl,es,i2⟩:=a0.ro.at i x f;exists pt,_,U,SqT.of (sG _ _ i2),U,_,_,U,_,_,U,U;refine⟨_,U,_,U,_,_,U,U,Yk,_,_,U,U,ln2,λt ft=>⟨⟨_,_,U⟩,sG.trans (a9.new ft _),?_⟩⟩;rw[qA,es,qW];exact(r.same (a9.new ft _)).snoc ah
 rintro ys Y G ⟨_,sG,r4⟩ lk g0;have j4:=a0.ro.len;rw[j4,qP]at r4;obtain⟨_,C,g4,d'⟩:=cU g0 (.lst ys);rw[C];have c':=r4.same g4;have b1:=sG.trans g4;have q4:=s3.trans b1;refine⟨_,U,S,g,U,.inl (SqL.of (q4 _ _ W)),λlh j6=>?_⟩;obtain⟨_,C,q5,b6⟩:=cU j6 (.lst g);rw[C];refine⟨_,U,lk,ys,U,.inl (SqL.of (q5 _ _ d')),λl8 h0=>?_⟩;obtain⟨_,C,q6,b4⟩:=cU h0 (.lst ys);rw[C];have N:=q5.trans q6;have e1:=q4.trans N;refine⟨_,U,_,U,lh,l8,g,ys,rows,aF ns,(cM ns).map kpS,U,q6 _ _ b6,B.same e1,b4,c'.same N,R,SK,a6,kf,λH7 pf lg lp X pv ss s7 c3 a3 a1 O d3 b9=>?_⟩;have q7:=e1.trans s7;have a2:SeqAt.shaped (.list (rows.map fN))=true:=Bl g1;have f7:PyData.eqv (.list (rows.map fN)) (.list (rows.map fN))=true:=SeqAt.eqv_refl _ (SeqAt.canLay_of_shaped a2)
 have a4:SeqAt.shaped (.list (((cM ns).map kpS).map fh))=true:=Bk λst hs=>by
  obtain⟨s',h5,rfl⟩:=List.mem_map.mp hs;exact tok s'.1 (by unfold kH;simp[sm s' h5])
 generalize ekp:(cM ns).map kpS=kept at *;have c7:PyData.eqv (.list (kept.map fh)) (.list (kept.map fh))=true:=SeqAt.eqv_refl _ (SeqAt.canLay_of_shaped a4);have a7:=s7 _ _ (N _ _ d');have Z:=(c'.same N).same s7;have g2:Dt K H7 (.ref lh) (.list (rows.map fN)):=.lst (SqL.of (s7 _ _ (q6 _ _ b6))) (B.same q7).dt;have i4:Dt K H7 (.ref S) (.list (rows.map fN)):=.lst (SqL.of (q7 _ _ W)) (B.same q7).dt;have j0:Dt K H7 (.ref l8) (.list (kept.map fh)):=.lst (SqL.of (s7 _ _ b4)) Z.dt;have j1:Dt K H7 (.ref lk) (.list (kept.map fh)):=.lst (SqL.of a7) Z.dt;refine⟨_,U,_,U,_,_,g2,i4,a2,a2,_,U,ar (by rw[f7];rfl) ?_⟩;refine⟨_,U,_,U,_,_,j0,j1,a4,a4,_,U,ar (by rw[c7];rfl) ?_⟩;refine⟨_,U,_,_,_,true,U,.tup c3,U,_,U,ar U ?_⟩;refine⟨_,U,pf,_,U,.inr (SqT.of c3),U,_,U,ar (show(!decide (V.int ((2:Nat):Int)=V.int 2))=false by decide) ?_⟩;exists _,U,pf,_,U,SqT.of c3,U,_,_,U,_,_,U,U;refine⟨_,U,_,U,lg,lk,X,ys,aF ns,ss,kept,U,a3,a1,a7,Z,O.so,SK,a6,O.ge,O.few,_,U,ar U ?_⟩;have Pr:=R.prep O.so.nm O.so.pos;have k9:=a1.len;have i1:=O.so.few a6;have k8:(cg ss).length=ss.length:=by simp[cg]
 refine⟨_,U,_,U,_,U,lg,X,cg ss,U,a3,Yo,bf (m:=1000) Yo,nF a1,λdl fl=>?_⟩;have g6:=Pr.dl;have k5:=Pr.dw;generalize cZ (cg ss)=kvs at *;obtain⟨_,C,q8,i0⟩:=cU fl (.dK kvs);rw[C];have f':=q7.trans q8;refine⟨_,U,S,g,U,.inl (SqL.of (f' _ _ W)),λk4 f8=>?_⟩;obtain⟨_,C,q9,e7⟩:=cU f8 (.lst g);rw[C];refine⟨_,U,lg,X,U,.inl (SqL.of (q9 _ _ (q8 _ _ a3))),λl9 g7=>?_⟩;obtain⟨_,C,qa,f6⟩:=cU g7 (.lst X);rw[C];have d8:=q9.trans qa;have a5:=q8.trans d8;have e2:=q7.trans a5;refine⟨k4,l9,g,X,rows,ss,WF rows ss,U,qa _ _ e7,B.same e2,J,u,f6,a1.same a5,i1,O.so.pos,U,Pr.sm,Pr.tg,by rw[Pr.wl];exact J,λHb pb lo o zs st sb h7 I=>?_⟩;rw[Pr.wl]at I;have all:=O.all o zs st I;refine mj λ_ xs h' _=>?_;have b2:=e2.trans sb;have g3:=d8.trans sb;have LQ:gz Hb S a' dl g as rows kvs (dO kvs):=⟨b2 _ _ W,B.same b2,(((b1.trans N).trans s7).trans (a5.trans sb)) _ _ d4,kJ (((b1.trans N).trans s7).trans (a5.trans sb)) ra,g3 _ _ i0,J,u,g6⟩;have ol:=gm I.nd I.lt;refine⟨pb,_,_,_,U,U,SqT.of h',aO (j:=1) U,S,a',dl,lo,g,as,rows,kvs,dO kvs,o,U,LQ,h7,I.nd,Yo,I.oks RO k5,λ_ sx _ d1 d2 M=>?_⟩;refine⟨_,U,U,_,U,ar U ?_⟩;obtain⟨c0,i5,i',_⟩:=M.c2
 have k2:c0.length=rows.length:=by
  have:=Fd (kvs:=c0) (n:=rows.length) λj hj=>by rw[i' j];exact Qb (all j hj)
  omega
 have b8:=b2.trans M.sa;have e5:=(a5.trans sb).trans M.sa;refine⟨_,U,sx,_,_,_,U,U,SqL.of M.so,U,d2,c0,U,i5,_,U,S,g,U,.inl (SqL.of (b8 _ _ W)),U,_,U,ar (by rw[k2,i3,Qb U];rfl) ?_⟩;have Pk:=R.prep SK.nm SK.pos;have j5:=SK.few a6;refine⟨_,U,S,g,U,.inl (SqL.of (b8 _ _ W)),λh3 f4=>?_⟩;obtain⟨_,C,qd,f2⟩:=cU f4 (.lst g);rw[C];refine⟨_,U,lk,ys,U,.inl (SqL.of (qd _ _ (e5 _ _ a7))),λj7 f3=>?_⟩;obtain⟨_,C,qe,c4⟩:=cU f3 (.lst ys);rw[C];have e3:=qd.trans qe;have g5:=b8.trans e3;have d9:=e5.trans e3;refine⟨h3,j7,g,ys,rows,kept,WF rows kept,U,qe _ _ f2,B.same g5,J,u,c4,Z.same d9,j5,SK.pos,U,Pk.sm,Pk.tg,by rw[Pk.wl];exact J,λHf pc _ _ _ _ sf _ I2=>?_⟩;rw[Pk.wl]at I2;refine mj λ_ _ h9 f9=>?_;have X0:=d9.trans sf
 have fin:∀G,a9 Hf G->nR [.ref S,.ref a',.ref lk,.ref lg,.ref lp] G Q E0:=λG sg=>by
  have D:=X0.trans sg;have e4:=((b1.trans N).trans s7).trans D;exact⟨S,a',lk,lg,lp,g,as,ys,X,pv,rows,aF ns,kept,ss,U,(q7.trans D) _ _ W,B.same (q7.trans D),e4 _ _ d4,kJ e4 ra,D _ _ a7,Z.same D,D _ _ a3,a1.same D,D _ _ d3,b9.same D,R,SK,O.so,a6,λH'=>k H'⟩
 exists pc,_,_,_,U,U,SqT.of h9,at0,U,_,U;rcases f9 with⟨rfl,rfl,eo⟩|⟨_,_,_,rfl,rfl,_,_,_⟩
 .refine aU U ?_;have es:=O.same SK I2 (eo.trans Pk.wl)
  have ep:pv=[]:=by
   rw[es,EU]at b9;cases b9
   rfl
  have j9:Dt K Hf (.ref lg) (.list (kept.map fh)):=.lst (SqL.of (X0 _ _ a3)) (es▸(a1.same X0).dt);have j8:Dt K Hf (.ref lk) (.list (kept.map fh)):=.lst (SqL.of (X0 _ _ a7)) (Z.same X0).dt;refine⟨_,U,_,U,_,_,j9,j8,a4,a4,_,U,ar (by rw[c7];rfl) ?_⟩;refine⟨_,U,qC _,λle g'=>?_⟩;have qg:=a9.new g' (.lst []);have d1:Dt K (upd Hf le (.lst [])) (.ref lp) (.list []):=.lst (SqL.of (qg _ _ (X0 _ _ (ep▸d3)))) .nil;refine⟨_,_,d1,.lst (SqL.of ah) .nil,U,U,_,U,ar U ?_⟩;exact⟨_,U,_,U,_,U,_,U,_,U,fin _ qg⟩
 .refine ar Yd (ar U ?_);exact⟨_,U,_,U,_,U,_,U,_,U,fin _ (a9.refl _)⟩
end
theorem fM(P:Params)(f:Addr)(st:Stmt){g:Value}{od e:Option Addr}{kV b d a ct:Value}(l:(hk P).lookup f=some ⟨g,od,.func (W.fnOf x qual (ip st) (gW st) (aD st) .none kV b d e a ct),osl⟩:=by k_is)
 (c:W.codeIn (hk P) a qual=true:=by k_is) (k:W.keepIn (hk P) (.ref f)=true:=by k_is):Fun (hk P) x qual st f (W.fnOf x qual (ip st) (gW st) (aD st) .none kV b d e a ct):=FM l c k
theorem bS(h:∀x0,R [x0]):∀us:LL,us.length=1->R us
 |[_],_=>h _
theorem d8(h:∀x0 a,R [x0,a]):∀us:LL,us.length=2->R us
 |[_,_],_=>h _ _
theorem jB(h:∀x0 a b,R [x0,a,b]):∀us:LL,us.length=3->R us
 |[_,_,_],_=>h _ _ _
theorem mC(h:∀x0 b c a,R [x0,b,c,a]):∀us:LL,us.length=4->R us
 |[_,_,_,_],_=>h _ _ _ _
theorem mB(h:∀x0 c d b a,R [x0,c,d,b,a]):∀us:LL,us.length=5->R us
 |[_,_,_,_,_],_=>h _ _ _ _ _
theorem EX(h:∀x0 a b d c e,R [x0,a,b,d,c,e]):∀us:LL,us.length=6->R us
 |[_,_,_,_,_,_],_=>h _ _ _ _ _ _
theorem mM{P:Params}{v:Value}(X:(hk P).In h)(G:h.Ns mainGlobals mg)(e:W.nsIn (hk P) mainGlobals x=some (some v):=by k_is):mg x=some v:=W.mg_of X G e
theorem nM{P:Params}(X:(hk P).In h)(G:h.Ns mainGlobals mg)(e:W.nsIn (hk P) mainGlobals x=some none:=by k_is):mg x=none:=W.mg_none_of X G e
theorem oM{P:Params}{f:Str}(e:W.findIn (hk P) (.ref C) f=some none:=by k_is):dP (hk P) C f:=e
set_option maxHeartbeats 0 in
theorem GX{fa:Addr}(X:(hk w.params).In h)(G:h.Ns mainGlobals mg)(a8:mg "law"=some (.ref fa)):
 ∃fd:FuncData,(∀(s:Shared)(v:Value),BindsTo s fd ⟨[v],[]⟩ [("_law_script",v)])/\∀base:Heap,(hk w.params).In base->base.Ns mainGlobals mg->aK PySem.Challenge.rw_handflow_k27_stores_mended.prog w (hk w.params) mg base CX0 48 fa fd ["_law_script"] (jS (hk w.params)):=by
 k_fill
 cases a8.symm.trans (mM (v:=.ref 485) X G);have F0:=fM w.params 21 oz;have F1:=fM w.params 26 lF;have F2:=fM w.params 33 oA;have F3:=fM w.params 38 lE;have F4:=fM w.params 45 oK;have F5:=fM w.params 57 jn;have b5:=F5.binds (ps:=["self","waits"]) λ_ _ _ _ _ _=>d8 λ_ _=>U;have F6:=fM w.params 64 pV;have b6:=F6.binds (ps:=["self","deed"]) λ_ _ _ _ _ _=>d8 λ_ _=>U;have F7:=fM w.params 71 pS;have b7:=F7.binds (ps:=["self","deed"]) λ_ _ _ _ _ _=>d8 λ_ _=>U;have F8:=fM w.params 78 pU;have b8:=F8.binds (ps:=["self"]) λ_ _ _ _ _ _=>bS λ_=>U;have F9:=fM w.params 92 oO;have g:=fM w.params 99 oN;have a5:=fM w.params 111 k9;have a7:=a5.binds (ps:=["self","deeds","stores"]) λ_ _ _ _ _ _=>jB λ_ _ _=>U;have u:=fM w.params 118 pR;have a6:=u.binds (ps:=["self","place","length"]) λ_ _ _ _ _ _=>jB λ_ _ _=>U;have r:=fM w.params 125 pP;have a':=r.binds (ps:=["self","place","least"]) λ_ _ _ _ _ _=>jB λ_ _ _=>U;have Q:=fM w.params 132 pQ;have a9:=Q.binds (ps:=["self","place"]) λ_ _ _ _ _ _=>d8 λ_ _=>U;have O:=fM w.params 144 lH;have z:=fM w.params 151 oC;have m:=fM w.params 158 oG;have W:=fM w.params 167 oV;have k:=fM w.params 174 oU;have x:=fM w.params 179 lG;have N:=fM w.params 186 oE;have a:=fM w.params 194 oB;have e:=fM w.params 201 oJ;have a0:=fM w.params 208 oF;have H:=fM w.params 215 oP;have c:=fM w.params 222 oT;have t:=fM w.params 273 oQ;have L:=fM w.params 280 oR;have A:=fM w.params 287 oy;have i:=fM w.params 294 ou;have n:=fM w.params 301 ox;have p:=fM w.params 308 oH;have y:=fM w.params 315 oS;have S:=fM w.params 322 pN;have a3:=fM w.params 329 pI;have M:=fM w.params 336 oW;have l:=fM w.params 343 pJ;have P:=fM w.params 350 ph;have X0:=fM w.params 357 pC;have q:=fM w.params 364 pA;have I:=fM w.params 371 pF;have b:=fM w.params 378 pO;have o:=fM w.params 385 pH;have D:=fM w.params 392 pB;have B:=fM w.params 399 pK;have R:=fM w.params 404 lK;have C:=fM w.params 409 k7;have j:=fM w.params 416 pL;have a1:=fM w.params 423 pM;have F:=fM w.params 430 oX;have J:=fM w.params 437 pG;have d:=fM w.params 444 pE;have K:=fM w.params 449 lM;have a2:=fM w.params 456 pD;have Z:=fM w.params 461 lJ;have V:=fM w.params 468 oY;have a4:=fM w.params 475 oZ;have E:=fM w.params 480 k6;have f:=fM w.params 485 h8;have wP:(hk w.params).lookup 159=some ⟨.type "tuple",none,.seq #[vs "while" 408,vs "repeat" 409],#[]⟩:=by k_is
 have wS:(hk w.params).lookup 160=some ⟨.type "tuple",none,.seq #[vs "if" 411,vs "while" 412],#[]⟩:=by k_is
 have wT:(hk w.params).lookup 187=some ⟨.type "tuple",none,.seq #[vs "give" 448,vs "while" 449],#[]⟩:=by k_is
 have T:Tx PySem.Challenge.rw_handflow_k27_stores_mended.prog w (hk w.params) mg (Adr.mk 21 _ 26 _ 33 _ 38 _ 45 _ 57 _ 64 _ 71 _ 78 _ 92 _ 99 _ 111 _ 118 _ 125 _ 132 _ 144 _ 151 _ 158 _ 167 _ 174 _ 179 _ 186 _ 194 _ 201 _ 208 _ 215 _ 222 _ 273 _ 280 _ 287 _ 294 _ 301 _ 308 _ 315 _ 322 _ 329 _ 336 _ 343 _ 350 _ 357 _ 364 _ 371 _ 378 _ 385 _ 392 _ 399 _ 404 _ 409 _ 416 _ 423 _ 430 _ 437 _ 444 _ 449 _ 456 _ 461 _ 468 _ 475 _ 480 _ 485 _ 189 191 159 160 446 187 555 81 135):=Tx.mk ⟨mM X G,F0,F0.binds λ_ _ _ _ _ _=>d8 λ_ _=>U⟩ ⟨mM X G,F1,F1.binds λ_ _ _ _ _ _=>jB λ_ _ _=>U⟩ ⟨mM X G,F2,F2.binds λ_ _ _ _ _ _=>bS λ_=>U⟩ ⟨mM X G,F3,F3.binds λ_ _ _ _ _ _=>jB λ_ _ _=>U⟩ ⟨mM X G,F4,F4.binds λ_ _ _ _ _ _=>d8 λ_ _=>U⟩ F5 b5 F6 b6 F7 b7 F8 b8 ⟨mM X G,F9,F9.binds λ_ _ _ _ _ _=>d8 λ_ _=>U⟩ ⟨mM X G,g,g.binds λ_ _ _ _ _ _=>bS λ_=>U⟩ a5 a7 u a6 r a' Q a9 ⟨mM X G,O,O.binds λ_ _ _ _ _ _=>d8 λ_ _=>U⟩ ⟨mM X G,z,z.binds λ_ _ _ _ _ _=>bS λ_=>U⟩ ⟨mM X G,m,m.binds λ_ _ _ _ _ _=>bS λ_=>U⟩ ⟨mM X G,W,W.binds λ_ _ _ _ _ _=>bS λ_=>U⟩ ⟨mM X G,k,k.binds λ_ _ _ _ _ _=>bS λ_=>U⟩ ⟨mM X G,x,x.binds λ_ _ _ _ _ _=>bS λ_=>U⟩ ⟨mM X G,N,N.binds λ_ _ _ _ _ _=>bS λ_=>U⟩ ⟨mM X G,a,a.binds λ_ _ _ _ _ _=>bS λ_=>U⟩ ⟨mM X G,e,e.binds λ_ _ _ _ _ _=>bS λ_=>U⟩ ⟨mM X G,a0,a0.binds λ_ _ _ _ _ _=>bS λ_=>U⟩ ⟨mM X G,H,H.binds λ_ _ _ _ _ _=>bS λ_=>U⟩ ⟨mM X G,c,c.binds λ_ _ _ _ _ _=>bS λ_=>U⟩ ⟨mM X G,t,t.binds λ_ _ _ _ _ _=>bS λ_=>U⟩ ⟨mM X G,L,L.binds λ_ _ _ _ _ _=>bS λ_=>U⟩ ⟨mM X G,A,A.binds λ_ _ _ _ _ _=>bS λ_=>U⟩ ⟨mM X G,i,i.binds λ_ _ _ _ _ _=>d8 λ_ _=>U⟩ ⟨mM X G,n,n.binds λ_ _ _ _ _ _=>bS λ_=>U⟩ ⟨mM X G,p,p.binds λ_ _ _ _ _ _=>d8 λ_ _=>U⟩ ⟨mM X G,y,y.binds λ_ _ _ _ _ _=>bS λ_=>U⟩ ⟨mM X G,S,S.binds λ_ _ _ _ _ _=>d8 λ_ _=>U⟩ ⟨mM X G,a3,a3.binds λ_ _ _ _ _ _=>d8 λ_ _=>U⟩ ⟨mM X G,M,M.binds λ_ _ _ _ _ _=>bS λ_=>U⟩ ⟨mM X G,l,l.binds λ_ _ _ _ _ _=>d8 λ_ _=>U⟩ ⟨mM X G,P,P.binds λ_ _ _ _ _ _=>bS λ_=>U⟩ ⟨mM X G,X0,X0.binds λ_ _ _ _ _ _=>d8 λ_ _=>U⟩ ⟨mM X G,q,q.binds λ_ _ _ _ _ _=>mC λ_ _ _ _=>U⟩ ⟨mM X G,I,I.binds λ_ _ _ _ _ _=>mC λ_ _ _ _=>U⟩ ⟨mM X G,b,b.binds λ_ _ _ _ _ _=>mB λ_ _ _ _ _=>U⟩ ⟨mM X G,o,o.binds λ_ _ _ _ _ _=>bS λ_=>U⟩ ⟨mM X G,D,D.binds λ_ _ _ _ _ _=>d8 λ_ _=>U⟩ ⟨mM X G,B,B.binds λ_ _ _ _ _ _=>d8 λ_ _=>U⟩ ⟨mM X G,R,R.binds λ_ _ _ _ _ _=>d8 λ_ _=>U⟩ ⟨mM X G,C,C.binds λ_ _ _ _ _ _=>bS λ_=>U⟩ ⟨mM X G,j,j.binds λ_ _ _ _ _ _=>mB λ_ _ _ _ _=>U⟩ ⟨mM X G,a1,a1.binds λ_ _ _ _ _ _=>jB λ_ _ _=>U⟩ ⟨mM X G,F,F.binds λ_ _ _ _ _ _=>mC λ_ _ _ _=>U⟩ ⟨mM X G,J,J.binds λ_ _ _ _ _ _=>bS λ_=>U⟩ ⟨mM X G,d,d.binds λ_ _ _ _ _ _=>d8 λ_ _=>U⟩ ⟨mM X G,K,K.binds λ_ _ _ _ _ _=>EX λ_ _ _ _ _ _=>U⟩ ⟨mM X G,a2,a2.binds λ_ _ _ _ _ _=>d8 λ_ _=>U⟩ ⟨mM X G,Z,Z.binds λ_ _ _ _ _ _=>mB λ_ _ _ _ _=>U⟩ ⟨mM X G,V,V.binds λ_ _ _ _ _ _=>mC λ_ _ _ _=>U⟩ ⟨mM X G,a4,a4.binds λ_ _ _ _ _ _=>d8 λ_ _=>U⟩ ⟨mM X G,E,E.binds λ_ _ _ _ _ _=>mB λ_ _ _ _ _=>U⟩ ⟨mM X G,f,f.binds λ_ _ _ _ _ _=>bS λ_=>U⟩ (nM X G) (nM X G) (nM X G) (nM X G) (nM X G) (nM X G) (nM X G) (nM X G) (nM X G) (nM X G) (nM X G) (nM X G) (nM X G) (nM X G) (nM X G) (nM X G) (mM X G) (mM X G) (mM X G) (λ_=>.inr ⟨_,_,_,wP,U,U,Yk,.cons ⟨_,U⟩ (.cons ⟨_,U⟩ (.nil))⟩) (mM X G) (λ_=>.inr ⟨_,_,_,wS,U,U,Yk,.cons ⟨_,U⟩ (.cons ⟨_,U⟩ (.nil))⟩) (mM X G) (mM X G) (λ_=>.inr ⟨_,_,_,wT,U,U,Yk,.cons ⟨_,U⟩ (.cons ⟨_,U⟩ (.nil))⟩) (mM X G) (mM X G) (Cls.mk (by k_is) (by k_is) (by k_is) (by k_is)) (Mk.mk (by k_is) (by k_is) (by k_is) (by k_is)) (ee.mk (by k_is) (by k_is) (by k_is)) (ee.mk (by k_is) (by k_is) (by k_is)) (ee.mk (by k_is) (by k_is) (by k_is)) oM oM oM oM oM (mM X G) (Cls.mk (by k_is) (by k_is) (by k_is) (by k_is)) (Mk.mk (by k_is) (by k_is) (by k_is) (by k_is)) (ee.mk (by k_is) (by k_is) (by k_is)) (ee.mk (by k_is) (by k_is) (by k_is)) (ee.mk (by k_is) (by k_is) (by k_is)) oM oM oM;exact⟨_,λs v=>.of_eq U,λbase _ _=>DH T⟩
theorem A5{l:W.OpenLaw}{q:Program}{d:DefRec}{K:Params->W.Frag}(hn:l.most=some 63)(b:d.params.defaults=[])
 (e:∀(w:World)(h:Heap),YP w h->(K w.params).In h)
 (F:∀(w:World)(mg:Str->LO)(c:Addr)(h:Heap),(K w.params).In h->h.Ns mainGlobals mg->mg d.name=some (.ref c)->
  ∃fd:FuncData,(∀(s:Shared)(u:Value),BindsTo s fd ⟨[u],[]⟩ [("_law_script",u)])/\∀base:Heap,(K w.params).In base->base.Ns mainGlobals mg->aK l.prog w (K w.params) mg base CX0 48 c fd ["_law_script"] (jS (K w.params))):
 W.WalkO q loose XP YP l.row.toRowW d [] (λf vs=>PySem.call f vs):=
 L2.A0 (n:=63) (k:=48) (x:="_law_script") (CX:=λ_=>CX0) (sp:=λw=>jS (K w.params)) hn Yk b ⟨U,Yk,Yk,U⟩ e F (λ_ _ a ns hl hb i g=>⟨a,ns,U,g,hl,hb,i,λ_=>U⟩) λ_ _ _ _ _ z=>z
noncomputable def Ga:PySem.DefRec:=⟨"law",ip h8,gW h8,aD h8,defPos h8⟩
theorem yx{p:Program}{w:World}{A:LO}:∀{m:Nat}{x d:W.SharedT}{y:Thread},goT p w A m x y=some d->W.topRun PySem.treeTable p w 11 A m x.abs y=some d.abs
 |0,_,_,_,h=>nomatch h
 |m+1,x,d,y,h=>by
  unfold goT at h;unfold W.topRun
  cases a:W.through y with
  |true=>rw[a]at h;cases h;rfl
  |false=>
   rw[a]at h
   cases b:W.stepOk 11 A y with
   |false=>rw[b]at h;cases h
   |true=>
    rw[b]at h
    cases c:W.stepT (denote PySem.treeTable) p w x y with
    |none=>rw[c]at h;cases h
    |some z=>rw[c]at h;rw[W.stepT_spec c];exact yx h
theorem EY{p q:Program}{Xt:Shared->Bool}{Yf:Shared->α}{Ya:World->α}{N:Nat}(e:W.opening p=W.plainProg p.main.scope.names)(b:Nat.ble 600 N=true)(f:∀s,fenceModules? p s=some s)
 (H:∀w,EndsT p q loose Xt Yf Ya N w):W.LeftO p q loose Xt Yf Ya N:=λw=>by
 obtain⟨⟨h,c,d,k,os⟩,u,j⟩:=qX.mp (W.boot_open e b f w);obtain⟨rfl,rfl,rfl,rfl⟩:h=W.boot_heap w.params/\c=#[]/\d=W.boot_drawn/\k=W.boot_toks:=by simpa using j
 obtain⟨s,r,l⟩:=qX.mp (H w os);have r:=yx r;rw[bs_is]at r;obtain⟨l1,l2,g⟩:_/\_/\_:=by simpa only[Prod.mk.injEq]using l
 have a:((W.boot_heap w.params).isNs mainGlobals && (#[]:Array GenState).size == 0)=true:=by kernel_rfl
 have i:(W.boot_heap w.params).objs.size=11:=by kernel_rfl
 have t:W.topFrom PySem.treeTable p w N ⟨W.boot_heap w.params,#[],W.boot_drawn,W.boot_toks,os⟩=some s.abs:=by
  unfold W.topFrom;dsimp only;rw[a,i,r];show(match W.staticsOk (PySem.importedModules p.main.body) (W.boot_heap w.params) s.abs.heap && W.namesBound p s.abs.heap && W.gensDone s.abs && W.laidKept (W.boot_heap w.params) s.abs.heap with|true=>_|false=>_)=_;rw[l1]
 unfold W.openEnds;rw[u];show(W.topFrom PySem.treeTable p w N _).map _=_;rw[t];exact congrArg some (Prod.ext l2 g)
set_option maxHeartbeats 0 in
theorem left:W.LeftO PySem.Challenge.pw_handflow_k27_stores_mended vw [] xt hkH.obs hkH.val 6220:=EY (by kernel_rfl) Yk (λ_=>by kernel_rfl) leftF
end K27
open PySem PySem.W PyProof.Rows
set_option maxRecDepth 100000 in
set_option maxHeartbeats 0 in
theorem PySem.Challenge.cw_handflow_k27_stores_mended_holds : PySem.Challenge.rw_handflow_k27_stores_mended.Holds := by
 w_on;refine holds_law K27.said fun said=>?_
 refine holds_open (q:=K27.vw) (loose:=[]) (Xt:=K27.xt) (XP:=XL K27.vw []) (Yf:=Hook.obs K27.hkH) (Ya:=Hook.val K27.hkH) (YP:=Hook.says K27.hkH) (d:=K27.Ga) (kwd:=[]) (N:=6220) K27.left (Hook.of K27.hkH) (Hook.keeps K27.hkH) (fun s e=>xl_of s (Bool.and_eq_true_iff.mp e).1) XL.keeps (by kernel_rfl) (by kernel_rfl) (by kernel_rfl) (fun s e=>recFacts_of (Bool.and_eq_true_iff.mp e).2) (by rfl) (by first|assumption|decide +kernel) (by decide +kernel) ⟨rfl,rfl,rfl,rfl,rfl,by decide +kernel⟩ ?hw ?hc
 (case hw=>w_witness2)
 refine K27.A5 (l:=PySem.Challenge.rw_handflow_k27_stores_mended) rfl (by kernel_rfl) (K:=K27.hk) (fun w h X0=>PySem.W.kIn_of (K:=K27.hk) (as:=K27.hks) (e:=K27.hk_as) X0) ?F
 case F=>exact fun w mg fa h X G e=>K27.GX X G e
