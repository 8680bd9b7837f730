import PyProof.Rows.All
import Wide.All
import OpenK.AllK
import Wide.FinOn
import Lean
import PyProof.EqAt
import PyProof.EqKinds
import PyProof.TupleCall
import PySem.Challenge.RW_handflow_k47_whole_two_paces
set_option Elab.async false
set_option maxRecDepth 100000
set_option linter.all false
theorem U{α:Sort u}{a:α}:a=a:=rfl
theorem Oi{p:Prop}{α:Sort u}{a:α}:a=a\/p:=.inl rfl
theorem Oy{α:Sort u}{β:Sort v}{γ:Sort w}{f:α->β->γ}:∀a b,f a b=f a b:=λ_ _=>rfl
section
open PySem PySem.Spec PyProof.Rows PySem.W
theorem Qy{p:Prop}(h:p:=by decide +kernel):p:=h
theorem Qz{p:Prop}(h:p:=by decide):p:=h
theorem Yd{p:Prop}(h:p:=by omega):p:=h
abbrev Yk:=Value->Shared->Prop
def q5:=@wpAny_bind
def q9:=@List.length_map
def qa:=@Heap.get?_push_of_some
def qb:=@List.length_append
def qc:=@List.getElem?_eq_getElem
def qd:=@wpAny_pure
def qe:=@Nat.le_refl
def qf:=@List.getElem?_eq_some_iff
def qg:=@PySem.F.plainAttrs_list
def qh:=@List.mem_append
def qi:=@Bool.false_ne_true
def qj:=@List.getD_eq_getElem?_getD
def qk:=@List.mem_cons_of_mem
def qm:=@List.mem_cons_self
def qp:=@Heap.get?_push_size
def qq:=@Heap.lt_size
def qr:=@List.take_add_one
def qt:=@Nat.zero_le
def qu:=@List.mem_cons
def qv:=@PySem.F.slot_list_append
def qw:=@PySem.F.type_list_append
def qx:=@List.append_nil
def qy:=@Nat.le_trans
def qz:=@List.mem_of_getElem?
def qA:=@List.length_cons
def qC:=@List.size_toArray
def qD:=@Nat.lt_of_lt_of_le
def qE:=@List.getElem?_map
def qG:=@Nat.ne_of_lt
def qH:=@List.take_length
def qI:=@List.mem_append_right
def qJ:=@Option.some.inj
def qK:=@List.length_take
def qL:=@List.getElem?_append_right
def qM:=@Array.length_toList
def qN:=@List.append_assoc
def qO:=@List.map_append
def qP:=@Option.map_eq_some_iff
def qQ:=@List.not_mem_nil
def qR:=@List.map_cons
def qS:=@List.mem_singleton
def qT:=@Array.getElem?_toList
def qU:=@List.flatMap_append
def qV:=@List.mem_append_left
def qX:=@Int.toNat_natCast
def qY:=@List.length_drop
def qZ:=@if_neg
def Q0:=@if_pos
def Q1:=@decide_eq_true
def Q3:=@decide_eq_false
def Q4:=@absurd
def Q5:=@List.getElem?_append_left
def Q6:=@List.length_singleton
def Q7:=@PySem.boot_len
def Q8:=@List.find?_cons
def Q9:=@Int.emod_nonneg
def Qa:=@Nat.lt_succ_self
def Qb:=@Nat.lt_irrefl
def Qc:=@of_decide_eq_true
def Qd:=@List.length_range
def Qe:=@Int.emod_lt_of_pos
def Qf:=@Heap.size_push
def Qg:=@Heap.get?_update_self
def Qh:=@PySem.mem_of_lookup
def Qi:=@wpAny_call_entry
def Qj:=@Bool.false_eq_true
def Qk:=@List.nil_append
def Qm:=@PySem.F.type_list_extend
def Qn:=@PySem.F.slot_list_extend
def Qo:=@List.getElem?_eq_none
def Qq:=@List.pairwise_singleton
def Qr:=@List.filter_append
def Qs:=@Heap.get?_update_other
def Qt:=@List.take_append_drop
def Qu:=@wpAny_holding
def Qv:=@wpAny_seqItems
def Qw:=@PySem.W.kia_one
def Qx:=@Nat.not_lt_zero
end
namespace L2
open PySem PySem.Spec PyProof.Rows PySem.W
def inClass(s:Stmt)(j:Nat):Stmt:=match s with
 |.ClassDef _ _ _ body _ _ _ _ _ _ _=>body.getD j (.Pass ⟨0,0,0,0⟩)
 |_=>.Pass ⟨0,0,0,0⟩
def cz(s:Stmt):Arguments:=match s with
 |.FunctionDef _ a _ _ _ _ _ _ _ _=>a
 |_=>{ posonlyargs:=[],args:=[],vararg:=none,kwonlyargs:=[],kw_defaults:=[],kwarg:=none,defaults:=[] }
def cm(s:Stmt):List Stmt:=match s with
 |.FunctionDef _ _ b _ _ _ _ _ _ _=>b
 |_=>[]
def aj(s:Stmt):Scope:=match s with
 |.FunctionDef _ _ _ _ _ _ sc _ _ _=>sc
 |_=>{ kind:=.function,names:=[],isGenerator:=false,isCoroutine:=false }
end L2
namespace K47
open PySem L2
set_option maxHeartbeats 0 in
theorem said:PySem.W.OpenLaw.wellSaid PySem.Challenge.rw_handflow_k47_whole_two_paces=true:=by kernel_rfl
def top(i:Nat):Stmt:=PySem.Challenge.pw_handflow_k47_whole_two_paces.main.body.getD i (.Pass ⟨0,0,0,0⟩)
noncomputable def defPos(s:Stmt):Pos:=match s with
 |.FunctionDef _ _ _ _ _ _ _ _ _ p=>p
 |_=>⟨0,0,0,0⟩
abbrev vs(x:String)(t:Nat):Value:=.str (Str.ofString x) t
abbrev de(P:Params)(x:String)(t:Nat)(v:Value):DictEntry:=⟨PyData.keyHash P (Str.ofString x),vs x t,v⟩
abbrev co(a b:String)(t l n r:Nat)(x y z u:Value)(m:Nat):Obj:=Obj.mk (.type "code") none (Data.fields #[vs a t,vs b (t+1),vs "/claim/cut.py" (t+2),.int l 0,.int n 0,.int 0 0,.int 0 0,.int 3 0,.ref r,.bool true,.int 181 0,.ref (r+1),x,y,z,u,.int m 0,.int l 0,vs "/claim/cut.py" (m+1)]) #[]
abbrev fo(a b:String)(s:Stmt)(m:String)(t c:Nat):Obj:=Obj.mk (.type "function") none (.func (PySem.W.fnOf a b (cz s) (cm s) (aj s) .none .none .none (vs m t) none (.ref c) .none)) #[]
noncomputable def hk:Params->PySem.W.Frag:=λP=>
 (nat_lit 2,Obj.mk .none none (Data.dict #[]) #[]) ::
 (nat_lit 3,Obj.mk (.type "dict") none (Data.dict #[de P "__name__" 165 (vs "law_handflow_k47_whole_two_paces" 676),de P "__doc__" 166 .none,de P "__package__" 167 .none,de P "__loader__" 168 (.builtin "__main__.__loader__#opaque"),de P "__spec__" 169 .none,de P "__annotations__" 170 (.ref 6),de P "__builtins__" 171 (.ref 4),de P "__file__" 173 (vs "/claim/cut.py" 172),de P "__cached__" 174 .none,de P "Queue" 255 (.ref 66),de P "WHEEL" 259 (.int 1000000000000000000000000000000 258),de P "done" 268 (.ref 77),de P "reckoned" 277 (.ref 84),de P "Yard" 355 (.ref 139),de P "Part" 392 (.ref 167),de P "Pass" 426 (.ref 193),de P "Work" 466 (.ref 219),de P "Choose" 506 (.ref 245),de P "Merge" 553 (.ref 278),de P "on_side" 561 (.ref 287),de P "part_of" 569 (.ref 294),de P "Play" 654 (.ref 342),de P "play" 667 (.ref 354),de P "history" 675 (.ref 359),de P "_law_cell" 685 (.ref 366),de P "_law_mixed" 694 (.ref 373),de P "_law_number" 703 (.ref 380),de P "_law_thing" 711 (.ref 387),de P "_law_line" 717 (.ref 392),de P "_law_picked" 730 (.ref 399),de P "_law_side" 739 (.ref 406),de P "_law_part" 745 (.ref 411),de P "_law_net" 751 (.ref 416),de P "_law_rests" 757 (.ref 421),de P "_law_pace" 763 (.ref 426),de P "_law_stood" 769 (.ref 431),de P "_law_begins" 778 (.ref 438),de P "_law_told" 792 (.ref 445),de P "law" 810 (.ref 452)] 39) #[]) ::
 (nat_lit 27,co "__init__" "Queue.__init__" 201 4 2 22 .none (.ref 24) (.ref 25) (.ref 26) 206) ::
 (nat_lit 28,fo "__init__" "Queue.__init__" (inClass (top 1) 0) "handflow.queues" 187 27) ::
 (nat_lit 34,co "standing" "Queue.standing" 209 8 1 29 .none (.ref 31) (.ref 32) (.ref 33) 213) ::
 (nat_lit 35,fo "standing" "Queue.standing" (inClass (top 1) 1) "handflow.queues" 187 34) ::
 (nat_lit 41,co "head" "Queue.head" 216 11 1 36 .none (.ref 38) (.ref 39) (.ref 40) 220) ::
 (nat_lit 42,fo "head" "Queue.head" (inClass (top 1) 2) "handflow.queues" 187 41) ::
 (nat_lit 48,co "lay" "Queue.lay" 223 14 2 43 .none (.ref 45) (.ref 46) (.ref 47) 228) ::
 (nat_lit 49,fo "lay" "Queue.lay" (inClass (top 1) 3) "handflow.queues" 187 48) ::
 (nat_lit 55,co "take" "Queue.take" 231 17 1 50 .none (.ref 52) (.ref 53) (.ref 54) 236) ::
 (nat_lit 56,fo "take" "Queue.take" (inClass (top 1) 4) "handflow.queues" 187 55) ::
 (nat_lit 62,co "rest" "Queue.rest" 239 22 1 57 .none (.ref 59) (.ref 60) (.ref 61) 243) ::
 (nat_lit 63,fo "rest" "Queue.rest" (inClass (top 1) 5) "handflow.queues" 187 62) ::
 (nat_lit 64,Obj.mk (.type "tuple") none (Data.seq #[vs "gone" 246,vs "laid" 247]) #[]) ::
 (nat_lit 65,Obj.mk (.type "dict") none (Data.dict #[de P "__module__" 196 (vs "handflow.queues" 187),de P "__firstlineno__" 200 (.int 2 199),de P "__init__" 208 (.ref 28),de P "standing" 215 (.ref 35),de P "head" 222 (.ref 42),de P "lay" 230 (.ref 49),de P "take" 238 (.ref 56),de P "rest" 245 (.ref 63),de P "__static_attributes__" 248 (.ref 64),de P "__dict__" 250 (.ref 67),de P "__weakref__" 252 (.ref 68),de P "__doc__" 253 .none] 4) #[]) ::
 (nat_lit 66,Obj.mk (.type "type") none (Data.cls (ClassData.mk (Str.ofString "Queue") [.type "object"] [.ref 66,.type "object"] 65 (Str.ofString "Queue") true [] [] false none false)) #[none,none,some (vs "Queue" 189),some (vs "Queue" 197),some (.builtin "object.__new__"),some (.bool true)]) ::
 (nat_lit 67,Obj.mk (.type "getset_descriptor") none (Data.fields #[vs "__dict__" 249,.ref 66,.builtin "function.__dict__",.builtin "function.__dict__#set"]) #[]) ::
 (nat_lit 68,Obj.mk (.type "getset_descriptor") none (Data.fields #[vs "__weakref__" 251,.ref 66,.builtin "ExceptionGroup.__weakref__",.none]) #[]) ::
 (nat_lit 76,co "done" "done" 260 26 3 71 .none (.ref 73) (.ref 74) (.ref 75) 266) ::
 (nat_lit 77,fo "done" "done" (top 4) "handflow.wheel" 256 76) ::
 (nat_lit 83,co "reckoned" "reckoned" 269 34 3 78 .none (.ref 80) (.ref 81) (.ref 82) 275) ::
 (nat_lit 84,fo "reckoned" "reckoned" (top 5) "handflow.wheel" 256 83) ::
 (nat_lit 95,co "__init__" "Yard.__init__" 292 49 2 92 .none .none .none (.ref 94) 295) ::
 (nat_lit 96,fo "__init__" "Yard.__init__" (inClass (top 7) 0) "handflow.parts" 278 95) ::
 (nat_lit 102,co "holds" "Yard.holds" 298 53 2 97 .none (.ref 99) (.ref 100) (.ref 101) 303) ::
 (nat_lit 103,fo "holds" "Yard.holds" (inClass (top 7) 1) "handflow.parts" 278 102) ::
 (nat_lit 109,co "room" "Yard.room" 306 56 2 104 .none (.ref 106) (.ref 107) (.ref 108) 312) ::
 (nat_lit 110,fo "room" "Yard.room" (inClass (top 7) 2) "handflow.parts" 278 109) ::
 (nat_lit 116,co "first" "Yard.first" 315 60 2 111 .none (.ref 113) (.ref 114) (.ref 115) 320) ::
 (nat_lit 117,fo "first" "Yard.first" (inClass (top 7) 3) "handflow.parts" 278 116) ::
 (nat_lit 123,co "hand" "Yard.hand" 323 63 3 118 .none (.ref 120) (.ref 121) (.ref 122) 329) ::
 (nat_lit 124,fo "hand" "Yard.hand" (inClass (top 7) 4) "handflow.parts" 278 123) ::
 (nat_lit 130,co "taken" "Yard.taken" 332 66 2 125 .none (.ref 127) (.ref 128) (.ref 129) 337) ::
 (nat_lit 131,fo "taken" "Yard.taken" (inClass (top 7) 5) "handflow.parts" 278 130) ::
 (nat_lit 135,co "stands" "Yard.stands" 340 69 1 132 .none .none .none (.ref 134) 343) ::
 (nat_lit 136,fo "stands" "Yard.stands" (inClass (top 7) 6) "handflow.parts" 278 135) ::
 (nat_lit 137,Obj.mk (.type "tuple") none (Data.seq #[vs "lengths" 346,vs "queues" 347]) #[]) ::
 (nat_lit 138,Obj.mk (.type "dict") none (Data.dict #[de P "__module__" 287 (vs "handflow.parts" 278),de P "__firstlineno__" 291 (.int 47 290),de P "__init__" 297 (.ref 96),de P "holds" 305 (.ref 103),de P "room" 314 (.ref 110),de P "first" 322 (.ref 117),de P "hand" 331 (.ref 124),de P "taken" 339 (.ref 131),de P "stands" 345 (.ref 136),de P "__static_attributes__" 348 (.ref 137),de P "__dict__" 350 (.ref 140),de P "__weakref__" 352 (.ref 141),de P "__doc__" 353 .none] 4) #[]) ::
 (nat_lit 139,Obj.mk (.type "type") none (Data.cls (ClassData.mk (Str.ofString "Yard") [.type "object"] [.ref 139,.type "object"] 138 (Str.ofString "Yard") true [] [] false none false)) #[none,none,some (vs "Yard" 280),some (vs "Yard" 288),some (.builtin "object.__new__"),some (.bool true)]) ::
 (nat_lit 140,Obj.mk (.type "getset_descriptor") none (Data.fields #[vs "__dict__" 349,.ref 139,.builtin "function.__dict__",.builtin "function.__dict__#set"]) #[]) ::
 (nat_lit 141,Obj.mk (.type "getset_descriptor") none (Data.fields #[vs "__weakref__" 351,.ref 139,.builtin "ExceptionGroup.__weakref__",.none]) #[]) ::
 (nat_lit 156,co "__init__" "Part.__init__" 368 73 2 151 .none (.ref 153) (.ref 154) (.ref 155) 373) ::
 (nat_lit 157,fo "__init__" "Part.__init__" (inClass (top 8) 0) "handflow.parts" 278 156) ::
 (nat_lit 163,co "wants" "Part.wants" 376 76 2 158 .none (.ref 160) (.ref 161) (.ref 162) 381) ::
 (nat_lit 164,fo "wants" "Part.wants" (inClass (top 8) 1) "handflow.parts" 278 163) ::
 (nat_lit 165,Obj.mk (.type "tuple") none (Data.seq #[vs "ins" 384]) #[]) ::
 (nat_lit 166,Obj.mk (.type "dict") none (Data.dict #[de P "__module__" 363 (vs "handflow.parts" 278),de P "__firstlineno__" 367 (.int 71 366),de P "__init__" 375 (.ref 157),de P "wants" 383 (.ref 164),de P "__static_attributes__" 385 (.ref 165),de P "__dict__" 387 (.ref 168),de P "__weakref__" 389 (.ref 169),de P "__doc__" 390 .none] 4) #[]) ::
 (nat_lit 167,Obj.mk (.type "type") none (Data.cls (ClassData.mk (Str.ofString "Part") [.type "object"] [.ref 167,.type "object"] 166 (Str.ofString "Part") true [] [.ref 193,.ref 219,.ref 245,.ref 278] false none false)) #[none,none,some (vs "Part" 356),some (vs "Part" 364),some (.builtin "object.__new__"),some (.bool true)]) ::
 (nat_lit 168,Obj.mk (.type "getset_descriptor") none (Data.fields #[vs "__dict__" 386,.ref 167,.builtin "function.__dict__",.builtin "function.__dict__#set"]) #[]) ::
 (nat_lit 169,Obj.mk (.type "getset_descriptor") none (Data.fields #[vs "__weakref__" 388,.ref 167,.builtin "ExceptionGroup.__weakref__",.none]) #[]) ::
 (nat_lit 172,Obj.mk (.type "tuple") none (Data.seq #[.ref 167]) #[]) ::
 (nat_lit 184,co "__init__" "Pass.__init__" 405 80 4 179 .none (.ref 181) (.ref 182) (.ref 183) 412) ::
 (nat_lit 185,fo "__init__" "Pass.__init__" (inClass (top 9) 0) "handflow.parts" 278 184) ::
 (nat_lit 189,co "made" "Pass.made" 415 85 2 186 .none .none .none (.ref 188) 418) ::
 (nat_lit 190,fo "made" "Pass.made" (inClass (top 9) 1) "handflow.parts" 278 189) ::
 (nat_lit 191,Obj.mk (.type "tuple") none (Data.seq #[vs "outs" 421,vs "route" 422]) #[]) ::
 (nat_lit 192,Obj.mk (.type "dict") none (Data.dict #[de P "__module__" 400 (vs "handflow.parts" 278),de P "__firstlineno__" 404 (.int 78 403),de P "__init__" 414 (.ref 185),de P "made" 420 (.ref 190),de P "__static_attributes__" 423 (.ref 191),de P "__doc__" 424 .none] 2) #[]) ::
 (nat_lit 193,Obj.mk (.type "type") none (Data.cls (ClassData.mk (Str.ofString "Pass") [.ref 167] [.ref 193,.ref 167,.type "object"] 192 (Str.ofString "Pass") true [] [] false none false)) #[some (.ref 172),none,some (vs "Pass" 393),some (vs "Pass" 401),some (.builtin "object.__new__"),some (.bool true)]) ::
 (nat_lit 196,Obj.mk (.type "tuple") none (Data.seq #[.ref 167]) #[]) ::
 (nat_lit 208,co "__init__" "Work.__init__" 439 89 5 203 .none (.ref 205) (.ref 206) (.ref 207) 447) ::
 (nat_lit 209,fo "__init__" "Work.__init__" (inClass (top 10) 0) "handflow.parts" 278 208) ::
 (nat_lit 215,co "made" "Work.made" 450 95 2 210 .none (.ref 212) (.ref 213) (.ref 214) 457) ::
 (nat_lit 216,fo "made" "Work.made" (inClass (top 10) 1) "handflow.parts" 278 215) ::
 (nat_lit 217,Obj.mk (.type "tuple") none (Data.seq #[vs "out" 460,vs "sides" 461,vs "sign" 462]) #[]) ::
 (nat_lit 218,Obj.mk (.type "dict") none (Data.dict #[de P "__module__" 434 (vs "handflow.parts" 278),de P "__firstlineno__" 438 (.int 87 437),de P "__init__" 449 (.ref 209),de P "made" 459 (.ref 216),de P "__static_attributes__" 463 (.ref 217),de P "__doc__" 464 .none] 2) #[]) ::
 (nat_lit 219,Obj.mk (.type "type") none (Data.cls (ClassData.mk (Str.ofString "Work") [.ref 167] [.ref 219,.ref 167,.type "object"] 218 (Str.ofString "Work") true [] [] false none false)) #[some (.ref 196),none,some (vs "Work" 427),some (vs "Work" 435),some (.builtin "object.__new__"),some (.bool true)]) ::
 (nat_lit 222,Obj.mk (.type "tuple") none (Data.seq #[.ref 167]) #[]) ::
 (nat_lit 234,co "__init__" "Choose.__init__" 479 101 6 229 .none (.ref 231) (.ref 232) (.ref 233) 488) ::
 (nat_lit 235,fo "__init__" "Choose.__init__" (inClass (top 11) 0) "handflow.parts" 278 234) ::
 (nat_lit 241,co "made" "Choose.made" 491 108 2 236 .none (.ref 238) (.ref 239) (.ref 240) 496) ::
 (nat_lit 242,fo "made" "Choose.made" (inClass (top 11) 1) "handflow.parts" 278 241) ::
 (nat_lit 243,Obj.mk (.type "tuple") none (Data.seq #[vs "noughts" 499,vs "ones" 500,vs "told" 501,vs "which" 502]) #[]) ::
 (nat_lit 244,Obj.mk (.type "dict") none (Data.dict #[de P "__module__" 474 (vs "handflow.parts" 278),de P "__firstlineno__" 478 (.int 99 477),de P "__init__" 490 (.ref 235),de P "made" 498 (.ref 242),de P "__static_attributes__" 503 (.ref 243),de P "__doc__" 504 .none] 2) #[]) ::
 (nat_lit 245,Obj.mk (.type "type") none (Data.cls (ClassData.mk (Str.ofString "Choose") [.ref 167] [.ref 245,.ref 167,.type "object"] 244 (Str.ofString "Choose") true [] [] false none false)) #[some (.ref 222),none,some (vs "Choose" 467),some (vs "Choose" 475),some (.builtin "object.__new__"),some (.bool true)]) ::
 (nat_lit 248,Obj.mk (.type "tuple") none (Data.seq #[.ref 167]) #[]) ::
 (nat_lit 260,co "__init__" "Merge.__init__" 519 114 5 255 .none (.ref 257) (.ref 258) (.ref 259) 527) ::
 (nat_lit 261,fo "__init__" "Merge.__init__" (inClass (top 12) 0) "handflow.parts" 278 260) ::
 (nat_lit 267,co "wants" "Merge.wants" 530 120 2 262 .none (.ref 264) (.ref 265) (.ref 266) 536) ::
 (nat_lit 268,fo "wants" "Merge.wants" (inClass (top 12) 1) "handflow.parts" 278 267) ::
 (nat_lit 274,co "made" "Merge.made" 539 126 2 269 .none (.ref 271) (.ref 272) (.ref 273) 544) ::
 (nat_lit 275,fo "made" "Merge.made" (inClass (top 12) 2) "handflow.parts" 278 274) ::
 (nat_lit 276,Obj.mk (.type "tuple") none (Data.seq #[vs "noughts" 547,vs "ones" 548,vs "outs" 549]) #[]) ::
 (nat_lit 277,Obj.mk (.type "dict") none (Data.dict #[de P "__module__" 514 (vs "handflow.parts" 278),de P "__firstlineno__" 518 (.int 112 517),de P "__init__" 529 (.ref 261),de P "wants" 538 (.ref 268),de P "made" 546 (.ref 275),de P "__static_attributes__" 550 (.ref 276),de P "__doc__" 551 .none] 2) #[]) ::
 (nat_lit 278,Obj.mk (.type "type") none (Data.cls (ClassData.mk (Str.ofString "Merge") [.ref 167] [.ref 278,.ref 167,.type "object"] 277 (Str.ofString "Merge") true [] [] false none false)) #[some (.ref 248),none,some (vs "Merge" 507),some (vs "Merge" 515),some (.builtin "object.__new__"),some (.bool true)]) ::
 (nat_lit 286,co "on_side" "on_side" 554 128 2 281 .none (.ref 283) (.ref 284) (.ref 285) 559) ::
 (nat_lit 287,fo "on_side" "on_side" (top 13) "handflow.parts" 278 286) ::
 (nat_lit 293,co "part_of" "part_of" 562 130 1 288 .none (.ref 290) (.ref 291) (.ref 292) 567) ::
 (nat_lit 294,fo "part_of" "part_of" (top 14) "handflow.parts" 278 293) ::
 (nat_lit 305,co "__init__" "Play.__init__" 584 142 5 302 .none .none .none (.ref 304) 587) ::
 (nat_lit 306,fo "__init__" "Play.__init__" (inClass (top 16) 0) "handflow.player" 570 305) ::
 (nat_lit 312,co "to_its_end" "Play.to_its_end" 590 155 1 307 .none (.ref 309) (.ref 310) (.ref 311) 597) ::
 (nat_lit 313,fo "to_its_end" "Play.to_its_end" (inClass (top 16) 1) "handflow.player" 570 312) ::
 (nat_lit 319,co "give" "Play.give" 600 167 3 314 .none (.ref 316) (.ref 317) (.ref 318) 609) ::
 (nat_lit 320,fo "give" "Play.give" (inClass (top 16) 2) "handflow.player" 570 319) ::
 (nat_lit 324,co "take" "Play.take" 612 180 3 321 .none .none .none (.ref 323) 615) ::
 (nat_lit 325,fo "take" "Play.take" (inClass (top 16) 3) "handflow.player" 570 324) ::
 (nat_lit 331,co "await_turn" "Play.await_turn" 618 199 3 326 .none (.ref 328) (.ref 329) (.ref 330) 624) ::
 (nat_lit 332,fo "await_turn" "Play.await_turn" (inClass (top 16) 4) "handflow.player" 570 331) ::
 (nat_lit 338,co "rest_of" "Play.rest_of" 627 203 2 333 .none (.ref 335) (.ref 336) (.ref 337) 633) ::
 (nat_lit 339,fo "rest_of" "Play.rest_of" (inClass (top 16) 5) "handflow.player" 570 338) ::
 (nat_lit 340,Obj.mk (.type "tuple") none (Data.seq #[vs "doers" 636,vs "givers" 637,vs "held" 638,vs "log" 639,vs "pace" 640,vs "spare" 641,vs "takers" 642,vs "takings" 643,vs "without_room" 644,vs "without_thing" 645,vs "yard" 646]) #[]) ::
 (nat_lit 341,Obj.mk (.type "dict") none (Data.dict #[de P "__module__" 579 (vs "handflow.player" 570),de P "__firstlineno__" 583 (.int 140 582),de P "__init__" 589 (.ref 306),de P "to_its_end" 599 (.ref 313),de P "give" 611 (.ref 320),de P "take" 617 (.ref 325),de P "await_turn" 626 (.ref 332),de P "rest_of" 635 (.ref 339),de P "__static_attributes__" 647 (.ref 340),de P "__dict__" 649 (.ref 343),de P "__weakref__" 651 (.ref 344),de P "__doc__" 652 .none] 4) #[]) ::
 (nat_lit 342,Obj.mk (.type "type") none (Data.cls (ClassData.mk (Str.ofString "Play") [.type "object"] [.ref 342,.type "object"] 341 (Str.ofString "Play") true [] [] false none false)) #[none,none,some (vs "Play" 572),some (vs "Play" 580),some (.builtin "object.__new__"),some (.bool true)]) ::
 (nat_lit 343,Obj.mk (.type "getset_descriptor") none (Data.fields #[vs "__dict__" 648,.ref 342,.builtin "function.__dict__",.builtin "function.__dict__#set"]) #[]) ::
 (nat_lit 344,Obj.mk (.type "getset_descriptor") none (Data.fields #[vs "__weakref__" 650,.ref 342,.builtin "ExceptionGroup.__weakref__",.none]) #[]) ::
 (nat_lit 347,Obj.mk (.type "tuple") none (Data.seq #[.none,.int 5000 655]) #[]) ::
 (nat_lit 353,co "play" "play" 656 208 4 348 .none (.ref 350) (.ref 351) (.ref 352) 665) ::
 (nat_lit 354,Obj.mk (.type "function") none (.func (PySem.W.fnOf "play" "play" (cz (top 17)) (cm (top 17)) (aj (top 17)) (.ref 347) .none .none (vs "handflow.player" 570) none (.ref 353) .none)) #[]) ::
 (nat_lit 358,co "history" "history" 670 213 3 355 .none .none .none (.ref 357) 673) ::
 (nat_lit 359,fo "history" "history" (top 19) "handflow.history" 668 358) ::
 (nat_lit 365,co "_law_cell" "_law_cell" 678 220 2 360 .none (.ref 362) (.ref 363) (.ref 364) 683) ::
 (nat_lit 366,fo "_law_cell" "_law_cell" (top 21) "law_handflow_k47_whole_two_paces" 676 365) ::
 (nat_lit 372,co "_law_mixed" "_law_mixed" 686 224 2 367 .none (.ref 369) (.ref 370) (.ref 371) 692) ::
 (nat_lit 373,fo "_law_mixed" "_law_mixed" (top 22) "law_handflow_k47_whole_two_paces" 676 372) ::
 (nat_lit 379,co "_law_number" "_law_number" 695 227 2 374 .none (.ref 376) (.ref 377) (.ref 378) 701) ::
 (nat_lit 380,fo "_law_number" "_law_number" (top 23) "law_handflow_k47_whole_two_paces" 676 379) ::
 (nat_lit 386,co "_law_thing" "_law_thing" 704 236 2 381 .none (.ref 383) (.ref 384) (.ref 385) 709) ::
 (nat_lit 387,fo "_law_thing" "_law_thing" (top 24) "law_handflow_k47_whole_two_paces" 676 386) ::
 (nat_lit 391,co "_law_line" "_law_line" 712 240 2 388 .none .none .none (.ref 390) 715) ::
 (nat_lit 392,fo "_law_line" "_law_line" (top 25) "law_handflow_k47_whole_two_paces" 676 391) ::
 (nat_lit 398,co "_law_picked" "_law_picked" 718 247 5 393 .none (.ref 395) (.ref 396) (.ref 397) 728) ::
 (nat_lit 399,fo "_law_picked" "_law_picked" (top 26) "law_handflow_k47_whole_two_paces" 676 398) ::
 (nat_lit 405,co "_law_side" "_law_side" 731 256 3 400 .none (.ref 402) (.ref 403) (.ref 404) 737) ::
 (nat_lit 406,fo "_law_side" "_law_side" (top 27) "law_handflow_k47_whole_two_paces" 676 405) ::
 (nat_lit 410,co "_law_part" "_law_part" 740 260 5 407 .none .none .none (.ref 409) 743) ::
 (nat_lit 411,fo "_law_part" "_law_part" (top 28) "law_handflow_k47_whole_two_paces" 676 410) ::
 (nat_lit 415,co "_law_net" "_law_net" 746 280 1 412 .none .none .none (.ref 414) 749) ::
 (nat_lit 416,fo "_law_net" "_law_net" (top 29) "law_handflow_k47_whole_two_paces" 676 415) ::
 (nat_lit 420,co "_law_rests" "_law_rests" 752 289 2 417 .none .none .none (.ref 419) 755) ::
 (nat_lit 421,fo "_law_rests" "_law_rests" (top 30) "law_handflow_k47_whole_two_paces" 676 420) ::
 (nat_lit 425,co "_law_pace" "_law_pace" 758 294 2 422 .none .none .none (.ref 424) 761) ::
 (nat_lit 426,fo "_law_pace" "_law_pace" (top 31) "law_handflow_k47_whole_two_paces" 676 425) ::
 (nat_lit 430,co "_law_stood" "_law_stood" 764 300 2 427 .none .none .none (.ref 429) 767) ::
 (nat_lit 431,fo "_law_stood" "_law_stood" (top 32) "law_handflow_k47_whole_two_paces" 676 430) ::
 (nat_lit 437,co "_law_begins" "_law_begins" 770 307 2 432 .none (.ref 434) (.ref 435) (.ref 436) 776) ::
 (nat_lit 438,fo "_law_begins" "_law_begins" (top 33) "law_handflow_k47_whole_two_paces" 676 437) ::
 (nat_lit 444,co "_law_told" "_law_told" 779 312 4 439 .none (.ref 441) (.ref 442) (.ref 443) 790) ::
 (nat_lit 445,fo "_law_told" "_law_told" (top 34) "law_handflow_k47_whole_two_paces" 676 444) ::
 (nat_lit 451,co "law" "law" 793 322 1 446 .none (.ref 448) (.ref 449) (.ref 450) 808) ::
 (nat_lit 452,fo "law" "law" (top 35) "law_handflow_k47_whole_two_paces" 676 451) ::
 []
noncomputable def hks:List Addr:=[2,3,27,28,34,35,41,42,48,49,55,56,62,63,64,65,66,67,68,76,77,83,84,95,96,102,103,109,110,116,117,123,124,130,131,135,136,137,138,139,140,141,156,157,163,164,165,166,167,168,169,172,184,185,189,190,191,192,193,196,208,209,215,216,217,218,219,222,234,235,241,242,243,244,245,248,260,261,267,268,274,275,276,277,278,286,287,293,294,305,306,312,313,319,320,324,325,331,332,338,339,340,341,342,343,344,347,353,354,358,359,365,366,372,373,379,380,386,387,391,392,398,399,405,406,410,411,415,416,420,421,425,426,430,431,437,438,444,445,451,452]
theorem hk_as:∀P,hks=(hk P).map (·.1):=λ_=>by kernel_rfl
noncomputable def vw:Program:=PySem.W.view PySem.Challenge.pw_handflow_k47_whole_two_paces [1,3,4,5,7,8,9,10,11,12,13,14,16,19,21,22,23,24,25,26,27,28,29,30,31,32,33,34,35]
noncomputable def hkH:PySem.W.Hook:=PySem.W.kHook hk hks hk_as
noncomputable def xt(s:Shared):Bool:=PySem.W.xlAt vw [] s && PySem.W.recOk (PySem.W.RowW.records (PySem.W.OpenRow.toRowW (PySem.W.OpenLaw.row PySem.Challenge.rw_handflow_k47_whole_two_paces))) s
noncomputable def bt(P:Params):PySem.W.BT:=(.node (PySem.W.boot_o_0 P) (.node (PySem.W.boot_o_1 P) (.node (PySem.W.boot_o_3 P) (.node (PySem.W.boot_o_7 P) .nil .nil) .nil) (.node (PySem.W.boot_o_5 P) (.node (PySem.W.boot_o_9 P) .nil .nil) .nil)) (.node (PySem.W.boot_o_2 P) (.node (PySem.W.boot_o_4 P) (.node (PySem.W.boot_o_8 P) .nil .nil) .nil) (.node (PySem.W.boot_o_6 P) (.node (PySem.W.boot_o_10 P) .nil .nil) .nil)))
theorem bt_is(P:Params):PySem.W.absHeap (bt P) 11 {}=PySem.W.boot_heap P:=by kernel_rfl
noncomputable def bs(P:Params)(os:OsState):PySem.W.SharedT:=⟨bt P,11,{},#[],PySem.W.boot_drawn,PySem.W.boot_toks,os⟩
theorem bs_is(P:Params)(os:OsState):(bs P os).abs=⟨PySem.W.boot_heap P,#[],PySem.W.boot_drawn,PySem.W.boot_toks,os⟩:=by
 unfold bs PySem.W.SharedT.abs;rw[bt_is]
def goT(p:Program)(w:World)(A:Option Value):Nat->PySem.W.SharedT->Thread->Option PySem.W.SharedT
 |0,_,_=>none
 |m+1,x,y=>match PySem.W.through y with
  |true=>some x
  |false=>match PySem.W.stepOk 11 A y with
   |false=>none
   |true=>match PySem.W.stepT (denote PySem.treeTable) p w x y with
    |none=>none
    |some (x',y')=>goT p w A m x' y'
noncomputable abbrev annB(w:World):Option Value:=(PySem.W.boot_heap w.params).nsMap mainGlobals "__annotations__"
def EndsT(p q:Program)(loose:List Str)(Xt:Shared->Bool){α:Type}(Yf:Shared->α)(Ya:World->α)(N:Nat)(w:World):Prop:=
 ∀os:OsState,(goT p w (annB w) N (bs w.params os) (PySem.W.topStub p)).map (λs=>(PySem.W.staticsOk (PySem.importedModules p.main.body) (PySem.W.boot_heap w.params) s.abs.heap && PySem.W.namesBound p s.abs.heap && PySem.W.gensDone s.abs && PySem.W.laidKept (PySem.W.boot_heap w.params) s.abs.heap,PySem.W.openSeen q loose (PySem.importedModules p.main.body) Xt true s.abs,Yf s.abs))=some (true,PySem.W.openGood q loose,Ya w)
set_option maxHeartbeats 0 in
theorem leftF:∀w:World,EndsT PySem.Challenge.pw_handflow_k47_whole_two_paces vw [("play":Str)] xt hkH.obs hkH.val 6710 w:=λw os=>by kernel_rfl
end K47
namespace L2
open PySem PySem.Spec PyProof.Rows
abbrev Key:=Sum Int Str
def eW:Key->Value->Bool
 |.inl k,v=>Value.isInt k v
 |.inr x,v=>Value.isStrOf x v
def yq(w:World):Key->Int
 |.inl k=>hashInt k
 |.inr x=>hashStr w x
theorem dk:∀{k:Key}{v:Value},eW k v=true->(∃i t,k=Sum.inl i/\v=Value.int i t)\/(∃x t,k=Sum.inr x/\v=Value.str x t)
 |.inl i,v,h=>by
  obtain⟨t,e⟩:=Value.isInt_shape (k:=i) (v:=v) h;exact .inl ⟨i,t,U,e⟩
 |.inr x,v,h=>by
  obtain⟨t,e⟩:=Value.isStrOf_shape (x:=x) (v:=v) h;exact .inr ⟨x,t,U,e⟩
theorem yp(i:Int)(t:Tok):eW (.inl i) (.int i t)=true:=by simp[eW,Value.isInt]
theorem ym(x:Str)(t:Tok):eW (.inr x) (.str x t)=true:=by simp[eW,Value.isStrOf]
theorem yk(a b:Int):decide ((Sum.inl a:Key)=Sum.inl b)=(a == b):=by
 by_cases e:a=b
 ·subst e;simp
 ·have h:¬ (Sum.inl a:Key)=Sum.inl b:=λq=>e (Sum.inl.inj q);rw[Q3 h];exact(beq_eq_false_iff_ne.mpr e).symm
theorem yg(a b:Str):decide ((Sum.inr a:Key)=Sum.inr b)=decide (a=b):=by
 by_cases e:a=b
 ·subst e;simp
 ·have h:¬ (Sum.inr a:Key)=Sum.inr b:=λq=>e (Sum.inr.inj q);rw[Q3 h,Q3 e]
theorem yj(a:Int)(b:Str):decide ((Sum.inl a:Key)=Sum.inr b)=false:=Q3 (λq=>nomatch q)
theorem yh(a:Str)(b:Int):decide ((Sum.inr a:Key)=Sum.inl b)=false:=Q3 (λq=>nomatch q)
def bU(prog:Program)(w:World):PySem.KeyKind prog w Key where
 is:=eW
 hash:=yq w
 inj:=λv a b ha hb=>by
  rcases dk ha with⟨i,t,rfl,rfl⟩|⟨x,t,rfl,rfl⟩
  ·rcases dk hb with⟨j,u,rfl,e⟩|⟨y,u,rfl,e⟩
   ·injection e with e1 _;rw[e1]
   ·exact nomatch e
  ·rcases dk hb with⟨j,u,rfl,e⟩|⟨y,u,rfl,e⟩
   ·exact nomatch e
   ·injection e with e1 _;rw[e1]
 byValue:=λk v h=>by
  rcases dk h with⟨i,t,rfl,rfl⟩|⟨x,t,rfl,rfl⟩<;>rfl
 pyHash:=λhv h=>by
  rcases dk hv with⟨i,t,rfl,rfl⟩|⟨x,t,rfl,rfl⟩
  ·exact wpAny_pyHash_int h
  ·exact wpAny_pyHash_str h
 eqBool:=λhu hv h=>by
  rcases dk hu with⟨i,t,rfl,rfl⟩|⟨x,t,rfl,rfl⟩
  ·rcases dk hv with⟨j,u,rfl,rfl⟩|⟨y,u,rfl,rfl⟩
   ·rw[yk]at h;exact wpAny_eqBool_int h
   ·rw[yj]at h;exact SeqAt.EqAt.int_str i t y u _ _ _ _ h
  ·rcases dk hv with⟨j,u,rfl,rfl⟩|⟨y,u,rfl,rfl⟩
   ·rw[yh]at h;exact SeqAt.EqAt.str_int x t j u _ _ _ _ h
   ·rw[yg]at h;exact wpAny_eqBool_str h
 «strs»:=λk x t v h=>by
  rcases dk h with⟨i,u,rfl,e⟩|⟨y,u,rfl,e⟩
  ·exact nomatch e
  ·injection e with e1 _;subst e1;cases v<;>rfl
theorem xN(prog:Program)(w:World)(i:Int)(t:Tok):(bU prog w).is (.inl i) (.int i t)=true:=yp i t
theorem xM(prog:Program)(w:World)(x:Str)(t:Tok):(bU prog w).is (.inr x) (.str x t)=true:=ym x t
inductive V where
 |non|bl (b:Bool)|int (i:Int)|str (x:Str)|byt (b:Array UInt8)|flt (b:UInt64)|ref (a:Addr)|ty (n:String)
 deriving DecidableEq
def aB:V->Value->Prop
 |.non,u=>u=Value.none
 |.bl b,u=>u=Value.bool b
 |.int i,u=>∃t,u=Value.int i t
 |.str x,u=>∃t,u=Value.str x t
 |.byt b,u=>∃t,u=Value.bytes b t
 |.flt b,u=>∃t,u=Value.float b t
 |.ref a,u=>u=Value.ref a
 |.ty n,u=>u=Value.type n
abbrev ao:List V->List Value->Prop:=Paired aB
theorem ao.length{xs:List V}{us:List Value}(r:ao xs us):xs.length=us.length:=Paired.length r
theorem ao.get:∀{xs:List V}{us:List Value}{i:Nat}{x:V},ao xs us->xs[i]?=some x->∃u,us[i]?=some u/\aB x u
 |_,_,_,_,.nil,e=>by simp at e
 |_,_,0,_,.cons r _,e=>by simp at e;subst e;exact⟨_,U,r⟩
 |_,_,i+1,x,.cons _ t,e=>by
  obtain⟨u,h1,h2⟩:=ao.get (i:=i) (x:=x) t (by simpa using e);exact⟨u,by simpa using h1,h2⟩
theorem ao.set{x:V}{u:Value}(r:aB x u):∀{xs:List V}{us:List Value}(i:Nat),ao xs us->ao (xs.set i x) (us.set i u)
 |_,_,_,.nil=>.nil
 |_,_,0,.cons _ t=>.cons r t
 |_,_,i+1,.cons q t=>.cons q (ao.set r i t)
theorem ao.append:∀{xs ys:List V}{us ws:List Value},ao xs us->ao ys ws->ao (xs++ys) (us++ws)
 |_,_,_,_,.nil,s=>s
 |_,_,_,_,.cons r t,s=>.cons r (ao.append t s)
theorem ao.take:∀{xs:List V}{us:List Value}(n:Nat),ao xs us->ao (xs.take n) (us.take n)
 |_,_,0,_=>.nil
 |_,_,_+1,.nil=>.nil
 |_,_,n+1,.cons r t=>.cons r (ao.take n t)
theorem ao.drop:∀{xs:List V}{us:List Value}(n:Nat),ao xs us->ao (xs.drop n) (us.drop n)
 |_,_,0,r=>r
 |_,_,_+1,.nil=>.nil
 |_,_,n+1,.cons _ t=>ao.drop n t
def bW:Option V->Option Value->Prop
 |some v,some u=>aB v u
 |none,none=>True
 |_,_=>False
def KV{κ:Type}:List (κ×V)->List (κ×Value)->Prop:=Paired λ(p:κ×V)(q:κ×Value)=>p.1=q.1/\aB p.2 q.2
def kV:Key->V
 |.inl i=>.int i
 |.inr x=>.str x
inductive HO where
 |lst (xs:List V)
 |tup (xs:List V)
 |dK (kvs:List (Key×V))|dT (kvs:List (List Key×V))
 |set (S:Int->Bool) (n:Nat)
 |ins (C dx:Addr) (fs:List (Str×V))
 |own (x:Addr)
 |xd (fs:List (Str×V))
 |met (f x:Addr)
 |rng (lo hi:Int)
 |frz (o:Obj) (u:HO)
 |tbl (ps:Array Value)
 |ext (φ:Heap->Prop)
abbrev Hp:=Addr->Option HO
def upd(H:Hp)(a:Addr)(o:HO):Hp:=λb=>if b=a then some o else H b
theorem af{H:Hp}{a:Addr}{o:HO}:upd H a o a=some o:=by unfold upd;rw[Q0 U]
theorem ah{H:Hp}{a b:Addr}{o:HO}(h:b≠a):upd H a o b=H b:=by unfold upd;rw[qZ h]
theorem ca{H:Hp}{a b:Addr}{o:HO}(h:H a=some o)(h':H b=none):a≠b:=by
 intro e;subst e;rw[h]at h';cases h'
section
variable (P:Program) (w:World)
def bx(H:Hp)(h:Heap)(a:Addr):HO->Prop
 |.lst xs=>xs.length<=sizeLine/\∃(its:List Value)(n:Nat),ao xs its/\h.get? a=some { cls:=.type "list",data:=.seq its.toArray n }
 |.tup xs=>xs.length<=sizeLine/\∃its:List Value,ao xs its/\IsTup h a its.toArray
 |.dK kvs=>kvs.length<=sizeLine/\(a == sysModules)=false/\∃vs,KV kvs vs/\h.DictOf (bU P w) a vs
 |.dT kvs=>kvs.length<=sizeLine/\(a == sysModules)=false/\∃xs:List (List Key×Addr×Value),
  Paired (λ(p:List Key×V)(q:List Key×Addr×Value)=>p.1=q.1/\H q.2.1=some (.tup (p.1.map kV))/\aB p.2 q.2.2) kvs xs /\
  ∃o es ep,h.get? a=some o/\o.ExactDict/\o.data=.dict es ep/\es.toList=xs.map (entryOfKey (tupleKind (bU P w)))/\(xs.map (·.1)).Nodup
 |.set S n=>h.SetOf (intKind P w) a S n
 |.ins C dx fs=>H dx=some (.own a)/\fs.length<=1000/\dx≠a/\h.get? a=some (PySem.W.instObj C dx) /\
  ∃mA,h.Ns1 dx mA/\(∀f,bW (fs.lookup f) (mA f))/\PySem.Within mA (fs.map (·.1))
 |.own _=>∃o,h.get? a=some o
 |.xd fs=>∃mA,h.Ns1 a mA/\∀f,bW (fs.lookup f) (mA f)
 |.rng lo hi=>∃t u v,h.get? a=some { cls:=.type "range",data:=.fields #[.int lo t,.int hi u,.int 1 v] }
 |.frz o u=>h.get? a=some o/\bx H h a u
 |.tbl ps=>h.get? a=some { cls:=.none,data:=.fields ps }
 |.met f x=>h.get? a=some (PySem.W.methodObj (.ref f) (.ref x))
 |.ext φ=>φ h/\(∃o,h.get? a=some o)/\∀h1 h2:Heap,φ h1->(∀o,h1.get? a=some o->h2.get? a=some o)->φ h2
def HOk(H:Hp)(h:Heap):Prop:=∀a o,H a=some o->bx P w H h a o
end
section
variable {P:Program}{w:World}{H H':Hp}{h h':Heap}{a:Addr}{o:HO}
theorem bx.lt(x:bx P w H h a o):a<h.objs.size:=by
 cases o with
 |lst xs=>obtain⟨_,_,_,_,e⟩:=x;exact qq e
 |tup xs=>obtain⟨_,_,_,p⟩:=x;exact p.lt
 |dK kvs=>obtain⟨_,_,_,_,o,_,_,e,_⟩:=x;exact qq e
 |dT kvs=>obtain⟨_,_,_,_,o,_,_,e,_⟩:=x;exact qq e
 |set S n=>obtain⟨o,_,_,_,e,_⟩:=x;exact qq e
 |ins C dx fs=>obtain⟨_,_,_,e,_⟩:=x;exact qq e
 |own y=>obtain⟨_,e⟩:=x;exact qq e
 |xd fs=>obtain⟨_,⟨_,_,_,e,_⟩,_⟩:=x;exact qq e
 |rng lo hi=>obtain⟨_,_,_,e⟩:=x;exact qq e
 |frz ob u=>obtain⟨e,_⟩:=x;exact qq e
 |tbl ps=>exact qq (show h.get? a=some _ from x)
 |met f y=>exact qq (show h.get? a=some _ from x)
 |ext φ=>obtain⟨_,⟨_,e⟩,_⟩:=x;exact qq e
theorem Paired.mapP{α β:Type}{F G:α->β->Prop}:∀{l₁:List α}{l₂:List β},Paired F l₁ l₂->(∀a b,F a b->G a b)->Paired G l₁ l₂
 |_,_,.nil,_=>.nil
 |_,_,.cons r t,f=>.cons (f _ _ r) (Paired.mapP t f)
theorem bx.stay(x:bx P w H h a o)(k:∀b u,(b=a\/H b=some (.own a))->h.get? b=some u->h'.get? b=some u)
 (ho:∀b,H b=some (.own a)->H' b=some (.own a)) (ht:∀b xs,H b=some (.tup xs)->H' b=some (.tup xs)):bx P w H' h' a o:=by
 induction o with
 |lst xs=>obtain⟨z,its,n,r,e⟩:=x;exact⟨z,its,n,r,k _ _ (.inl U) e⟩
 |tup xs=>obtain⟨z,its,r,ob,e,c⟩:=x;exact⟨z,its,r,ob,k _ _ (.inl U) e,c⟩
 |dK kvs=>obtain⟨z,y,vs,r,ob,es,ep,e,c⟩:=x;exact⟨z,y,vs,r,ob,es,ep,k _ _ (.inl U) e,c⟩
 |dT kvs=>
  obtain⟨z,y,xs,r,ob,es,ep,e,c⟩:=x;exact⟨z,y,xs,Paired.mapP r λp q z=>⟨z.1,ht _ _ z.2.1,z.2.2⟩,ob,es,ep,k _ _ (.inl U) e,c⟩
 |set S n=>obtain⟨ob,es,ep,t,e,c⟩:=x;exact⟨ob,es,ep,t,k _ _ (.inl U) e,c⟩
 |ins C dx fs=>
  obtain⟨d,z,ne,e,mA,⟨od,es,ep,e2,c⟩,r⟩:=x;exact⟨ho _ d,z,ne,k _ _ (.inl U) e,mA,⟨od,es,ep,k _ _ (.inr d) e2,c⟩,r⟩
 |own y=>obtain⟨ob,e⟩:=x;exact⟨ob,k _ _ (.inl U) e⟩
 |xd fs=>obtain⟨mA,⟨od,es,ep,e,c⟩,r⟩:=x;exact⟨mA,⟨od,es,ep,k _ _ (.inl U) e,c⟩,r⟩
 |rng lo hi=>obtain⟨t,u,v,e⟩:=x;exact⟨t,u,v,k _ _ (.inl U) e⟩
 |frz ob u ih=>obtain⟨e,q⟩:=x;exact⟨k _ _ (.inl U) e,ih q⟩
 |tbl ps=>
  have e:h.get? a=some { cls:=.none,data:=.fields ps }:=x;show h'.get? a=some { cls:=.none,data:=.fields ps };exact k a _ (.inl U) e
 |met f y=>
  have e:h.get? a=some (PySem.W.methodObj (.ref f) (.ref y)):=x;show h'.get? a=some (PySem.W.methodObj (.ref f) (.ref y));exact k a _ (.inl U) e
 |ext φ=>obtain⟨p,⟨o,e⟩,st⟩:=x;exact⟨st _ _ p λo q=>k _ _ (.inl U) q,⟨o,k _ _ (.inl U) e⟩,st⟩
theorem HOk.lt(x:HOk P w H h)(e:H a=some o):a<h.objs.size:=(x a o e).lt
theorem HOk.fresh(x:HOk P w H h)(e:h.objs.size<=a):H a=none:=by
 cases q:H a with
 |none=>rfl
 |some u=>exact Q4 (qD (x.lt q) e) (Qb _)
theorem HOk.kept(x:HOk P w H h)(k:∀b u,h.get? b=some u->h'.get? b=some u):HOk P w H h':=λa o e=>
 (x a o e).stay (λb u _ q=>k b u q) (λ_ q=>q) λ_ _ q=>q
theorem HOk.laid(x:HOk P w H h)(k:∀b u,h.get? b=some u->h'.get? b=some u)(hp:h.objs.size<=a)(new:bx P w (upd H a o) h' a o):HOk P w (upd H a o) h':=λb u e=>by
 have hn:=x.fresh hp;by_cases hb:b=a
 ·subst hb;rw[af]at e;cases e;exact new
 ·rw[ah hb]at e;exact(x b u e).stay (λc v _ q=>k c v q) (λc q=>by rw[ah (ca q hn)];exact q) λc xs q=>by rw[ah (ca q hn)];exact q
end
def Rd(H:Hp)(a:Addr)(u:HO):Prop:=H a=some u\/∃o,H a=some (.frz o u)
theorem Rd.of{H:Hp}{a:Addr}{u:HO}(h:H a=some u):Rd H a u:=.inl h
theorem Rd.ok{P:Program}{w:World}{H:Hp}{h:Heap}{a:Addr}{u:HO}(r:Rd H a u)(x:HOk P w H h):bx P w H h a u:=by
 rcases r with r|⟨o,r⟩
 ·exact x a u r
 ·obtain⟨_,q⟩:=x a _ r;exact q
def Mut:Option HO->Prop
 |some (.lst _)=>True
 |some (.dK _)=>True
 |some (.dT _)=>True
 |some (.set _ _)=>True
 |some (.ins _ _ _)=>True
 |some (.ext _)=>True
 |_=>False
section
variable {P:Program}{w:World}{H:Hp}{h h':Heap}{x e:Addr}{o':HO}
theorem HOk.write(ok:HOk P w H h)(mu:Mut (H x))(he:e=x\/H e=some (.own x))(k:∀b u,b≠e->h.get? b=some u->h'.get? b=some u)(heo:∃u,h'.get? e=some u)
 (new:bx P w (upd H x o') h' x o'):HOk P w (upd H x o') h':=λb u q=>by
 have nown:∀c y,H c=some (.own y)->c≠x:=λc y r z=>by subst z;rw[r]at mu;exact mu
 have ntup:∀c xs,H c=some (.tup xs)->c≠x:=λc xs r z=>by subst z;rw[r]at mu;exact mu
 by_cases hb:b=x
 ·subst hb;rw[af]at q;cases q;exact new
 ·rw[ah hb]at q;by_cases hbe:b=e
  ·have q':H b=some (.own x):=by
    rcases he with z|z
    ·exact Q4 (hbe.trans z) hb
    ·rw[hbe];exact z
   rw[q]at q';cases q';obtain⟨v,hv⟩:=heo;exact⟨v,by rw[hbe];exact hv⟩
  ·refine(ok b u q).stay (λc v hc r=>k c v ?_ r) (λc r=>by rw[ah (nown c b r)];exact r) λc xs r=>by rw[ah (ntup c xs r)];exact r
   rcases hc with rfl|hc
   ·exact hbe
   ·rintro rfl;rcases he with z|z
    ·exact nown c b hc z
    ·rw[hc]at z;cases z;exact hb U
end
structure Un(fs ex:List Addr)(H H':Hp)(h h':Heap):Prop where
 keep:∀b o,h.get? b=some o->H b=none->b∉fs->b∉ex->h'.get? b=some o
 slot:∀b o,h.get? b=some o->H b=none->b∈fs->b∉ex->∃sl,h'.get? b=some { o with slots:=sl }
 free:∀b o,h.get? b=some o->H b=none->b∉ex->H' b=none
 there:∀b o,h.get? b=some o->b∉ex->∃o',h'.get? b=some o'
 tups:∀b xs,H b=some (.tup xs)->H' b=some (.tup xs)
 frzs:∀b o u,H b=some (.frz o u)->H' b=some (.frz o u)
 tbls:∀b ps,H b=some (.tbl ps)->∃more,H' b=some (.tbl (ps++more))
section
variable {fs fs' ex ex':List Addr}{H H1 H2:Hp}{h h1 h2 h':Heap}{a x e:Addr}{o:HO}
theorem Un.any(u:Un fs ex H H1 h h1){b:Addr}{ob:Obj}(q:h.get? b=some ob)(n:H b=none)(hx:b∉ex):∃sl,h1.get? b=some { ob with slots:=sl }:=by
 by_cases hb:b∈fs
 ·exact u.slot b ob q n hb hx
 ·exact⟨ob.slots,u.keep b ob q n hb hx⟩
theorem Un.kept(k:∀b u,h.get? b=some u->h'.get? b=some u):Un fs ex H H h h':=
 ⟨λb ob q _ _ _=>k b ob q,λb ob q _ _ _=>⟨ob.slots,k b ob q⟩,λ_ _ _ n _=>n,λb ob q _=>⟨ob,k b ob q⟩,λ_ _ q=>q,λ_ _ _ q=>q,λ_ ps q=>⟨#[],by rw[q];simp⟩⟩
theorem Un.refl:Un fs ex H H h h:=Un.kept λ_ _ q=>q
theorem Un.laid(k:∀b u,h.get? b=some u->h'.get? b=some u)(hp:h.objs.size<=a)(hn:H a=none):Un fs ex H (upd H a o) h h' where
 keep:=λb u q _ _ _=>k b u q
 slot:=λb u q _ _ _=>⟨u.slots,k b u q⟩
 free:=λb u q n _=>by rw[ah (qG (qD (qq q) hp))];exact n
 there:=λb u q _=>⟨u,k b u q⟩
 tups:=λb xs q=>by rw[ah (ca q hn)];exact q
 frzs:=λb u xs q=>by rw[ah (ca q hn)];exact q
 tbls:=λb ps q=>⟨#[],by rw[ah (ca q hn),q];simp⟩
theorem Un.write(mu:Mut (H x))(he:e=x\/H e=some (.own x))(k:∀b u,b≠e->h.get? b=some u->h'.get? b=some u)(heo:∃u,h'.get? e=some u):Un fs ex H (upd H x o) h h':=by
 have hx:∀b,H b=none->b≠x:=λb n z=>by subst z;rw[n]at mu;exact mu
 have hb:∀b,H b=none->b≠e:=λb n z=>by
  subst z;rcases he with r|r
  ·exact hx b n r
  ·rw[n]at r;cases r
 have hm:∀b u,H b=some u->¬ Mut (some u)->b≠x:=λb u q nm z=>by subst z;rw[q]at mu;exact nm mu
 refine⟨λb u q n _ _=>k b u (hb b n) q,λb u q n _ _=>⟨u.slots,k b u (hb b n) q⟩,λb u q n _=>by rw[ah (hx b n)];exact n,λb u q _=>?_,
  λb xs q=>by rw[ah (hm b _ q λz=>z)];exact q,λb u xs q=>by rw[ah (hm b _ q λz=>z)];exact q,λb ps q=>⟨#[],by rw[ah (hm b _ q λz=>z),q];simp⟩⟩
 by_cases hbe:b=e
 ·subst hbe;exact heo
 ·exact⟨u,k b u hbe q⟩
end
def trk(h:Heap)(H:Hp):List Addr:=(List.range h.objs.size).filter λa=>(H a).isSome
def dB(h:Heap)(H:Hp):Heap:=PySem.W.hideAll h (trk h H)
theorem yH(h:Heap)(H:Hp):(dB h H).objs.size=h.objs.size:=PySem.W.hideAll_size _ _
theorem yI{h:Heap}{H:Hp}{b:Addr}{o:Obj}(e:h.get? b=some o)(n:H b=none):(dB h H).get? b=some o:=
 PySem.W.hideAll_get _ e λhm=>by
  have q:(H b).isSome=true:=(List.mem_filter.mp hm).2;rw[n]at q;simp at q
theorem xF{h:Heap}{H:Hp}{b:Addr}{o:Obj}(e:(dB h H).get? b=some o):h.get? b=some o/\H b=none:=by
 have e':h.get? b=some o:=PySem.W.of_hideAll (trk h H) e;refine⟨e',?_⟩
 cases q:H b with
 |none=>rfl
 |some x=>
  have hm:b∈trk h H:=List.mem_filter.mpr ⟨List.mem_range.mpr (qq e'),by simp[q]⟩;have z:(dB h H).get? b=none:=PySem.W.hideAll_none (trk h H) hm;rw[z]at e;cases e
structure Mod(K:W.Frag)(mg:Str->Option Value)(base:Heap):Prop where
 kin:K.In base
 glob:base.Ns mainGlobals mg
 blt:∃mb,base.Ns builtinsNs mb/\∀x:Str,x≠"__name__"->mb x=bootBuiltins x
 nolimit:base.NoLimit
structure Cx where
 prog:Program
 w:World
 K:W.Frag
 mg:Str->Option Value
 base:Heap
 A:Around
 N:List Str
 s₀:Shared
 H₀:Hp
 env:Env
 outer:List Env
 stack:List Env
 ex:List Addr
 fn:Str->Bool
 calm:Bool
 pn:List (Addr×Obj)
 xe:Value->Shared->Prop
def frs(l:List Env):List Addr:=l.filterMap (·.frame)
abbrev Cx.fs(X:Cx):List Addr:=frs X.outer
def Vis(sc:Scope)(x:Str):Prop:=sc.names.lookup x=some .local\/sc.names.lookup x=some .cell\/sc.names.lookup x=some .free
def Loc(sc:Scope)(x:Str):Prop:=sc.names.lookup x=some .local\/sc.names.lookup x=some .cell
def zL(env:Env)(h:Heap)(m:Str->Option Value)(x:Str)(u:Value):Prop:=
 (env.kindOf x=some .local/\m x=some u)\/((env.kindOf x=some .cell\/env.kindOf x=some .free)/\∃c,env.cells.lookup x=some c/\h.IsCell c (some u))
structure Cx.Ok(X:Cx):Prop where
 mod:Mod X.K X.mg X.base
 kind:X.env.scope.kind=.function
 glob:X.env.globals=mainGlobals
 blt:X.env.builtins=builtinsNs
 above:X.s₀.heap.objs.size<=X.env.locals
 inj:∀x y c,X.env.cells.lookup x=some c->X.env.cells.lookup y=some c->x=y
 has:∀x,(X.env.kindOf x=some .cell\/X.env.kindOf x=some .free)->∃c,X.env.cells.lookup x=some c
 cab:∀x c,X.fn x=true->X.env.cells.lookup x=some c->X.s₀.heap.objs.size<=c
 hd:X.calm=true->X.A.handled=none
 frames:X.A.frames=some X.stack
 stk:X.stack=X.outer\/(X.stack=X.env::X.outer/\X.env.frame=some X.env.locals)
 exf:∀b∈X.ex,b≠X.env.locals/\∀x c,X.env.cells.lookup x=some c->c≠b
 bs:∀b o,X.base.get? b=some o->X.s₀.heap.get? b=some o/\X.H₀ b=none
 bsz:X.base.objs.size<=X.s₀.heap.objs.size
 noex:∀b o,X.base.get? b=some o->b∉X.ex
 exfs:∀b∈X.ex,b∉X.fs
 funs:X.s₀.heap.FunFrames X.base X.outer
 frf:∀b∈X.fs,X.H₀ b=none
structure Inv(X:Cx)(pins:List (Addr×Obj))(σ:List (Option V))(H:Hp)(s:Shared):Prop where
 ok:X.Ok
 os:s.os=X.s₀.os
 bare:AllBare s.gens
 base:Un X.fs X.ex X.H₀ H X.s₀.heap s.heap
 loc:∃m,s.heap.Ns X.env.locals m/\∀(i:Nat)(x:Str)(v:V),X.N[i]?=some x->σ[i]?=some (some v)->Vis X.env.scope x->∃u,aB v u/\zL X.env s.heap m x u
 cell:∀x c,X.env.cells.lookup x=some c->∃v,s.heap.IsCell c v
 free:H X.env.locals=none
 freeC:∀x c,X.env.cells.lookup x=some c->H c=none
 pin:∀p∈X.pn++pins,s.heap.get? p.1=some p.2/\H p.1=none/\p.1≠X.env.locals/\p.1∉X.fs/\∀v,p.2.data≠.cell v
 hok:HOk X.prog X.w H s.heap
 len:σ.length=X.N.length
section
variable {X:Cx}{pins:List (Addr×Obj)}{σ:List (Option V)}{H H':Hp}{s:Shared}{h':Heap}
theorem Cx.Ok.nofr(ok:X.Ok){b:Addr}{o:Obj}(e:X.base.get? b=some o):b∉X.fs:=λhb=>by
 have:=(ok.funs.mem hb).1;rw[e]at this;cases this
theorem Inv.bs(I:Inv X pins σ H s):∀b o,X.base.get? b=some o->s.heap.get? b=some o/\H b=none:=λb o e=>
 ⟨I.base.keep b o (I.ok.bs b o e).1 (I.ok.bs b o e).2 (I.ok.nofr e) (I.ok.noex b o e),I.base.free b o (I.ok.bs b o e).1 (I.ok.bs b o e).2 (I.ok.noex b o e)⟩
theorem Inv.bk(I:Inv X pins σ H s):∀b o,X.base.get? b=some o->s.heap.get? b=some o:=λb o e=>(I.bs b o e).1
theorem Inv.mod(I:Inv X pins σ H s):Mod X.K X.mg X.base:=I.ok.mod
theorem Inv.kIn(I:Inv X pins σ H s):X.K.In s.heap:=I.ok.mod.kin.keeps I.bk
theorem Inv.lt(I:Inv X pins σ H s):X.env.locals<s.heap.objs.size:=let ⟨_,hn,_⟩:=I.loc;hn.lt
theorem Inv.sz(I:Inv X pins σ H s):X.s₀.heap.objs.size<=s.heap.objs.size:=qy I.ok.above (Nat.le_of_lt I.lt)
theorem Inv.nofs(I:Inv X pins σ H s){a:Addr}(h:s.heap.objs.size<=a):a∉X.fs:=λhb=>by
 obtain⟨_,o,ho,_⟩:=I.ok.funs.mem hb;exact Q4 (qD (qq ho) (qy I.sz h)) (Qb _)
theorem Inv.cne(I:Inv X pins σ H s):∀x c,X.env.cells.lookup x=some c->c≠X.env.locals:=λx c e z=>by
 obtain⟨v,o,ho,hd⟩:=I.cell x c e;obtain⟨m,⟨o',es,ep,ho',hd',_⟩,_⟩:=I.loc;rw[z,ho']at ho;cases ho;rw[hd']at hd;cases hd
theorem Inv.funs(I:Inv X pins σ H s):s.heap.FunFrames X.base X.outer:=by
 have all:∀(l:List Env),(∀b∈frs l,b∈X.fs)->X.s₀.heap.FunFrames X.base l->s.heap.FunFrames X.base l:=by
  intro l
  induction l with
  |nil=>intro _ _;trivial
  |cons env r ih=>
   intro hs hl;obtain⟨hk,⟨L,o,hf,hn,ho,hd⟩,hr⟩:=hl;have hL:L∈X.fs:=hs L (by unfold frs;rw[List.filterMap_cons,hf];exact qm);obtain⟨sl,e⟩:=I.base.slot L o ho (I.ok.frf L hL) hL λz=>I.ok.exfs L z hL;exact⟨hk,⟨L,_,hf,hn,e,hd⟩,ih (λb hb=>hs b (by unfold frs;rw[List.filterMap_cons,hf];exact qk _ hb)) hr⟩
 exact all X.outer (λ_ hb=>hb) I.ok.funs
theorem Inv.stack(I:Inv X pins σ H s):s.heap.FunFrames X.base X.stack:=by
 rcases I.ok.stk with e|⟨e,hf⟩
 ·rw[e];exact I.funs
 ·rw[e];obtain⟨m,hn,_⟩:=I.loc;refine .cons (by rw[I.ok.kind];decide) hf hn ?_ I.funs;exact Heap.get?_none_of_le (qy I.ok.bsz I.ok.above)
theorem Inv.stkSub(I:Inv X pins σ H s):∀b∈frs X.stack,b∈X.env.locals::X.fs:=λb hb=>by
 rcases I.ok.stk with e|⟨e,hf⟩
 ·rw[e]at hb;exact qk _ hb
 ·rw[e]at hb;unfold frs at hb;rw[List.filterMap_cons,hf]at hb;exact hb
theorem Inv.stkFree(I:Inv X pins σ H s):∀b∈frs X.stack,H b=none:=λb hb=>by
 rcases qu.mp (I.stkSub b hb)with e|hb
 ·rw[e];exact I.free
 ·obtain⟨_,o,ho,_⟩:=I.ok.funs.mem hb;exact I.base.free b o ho (I.ok.frf b hb) λz=>I.ok.exfs b z hb
theorem Inv.step{g':Array GenState}{t':Nat}{d':Drawn}{ch:List Addr}(I:Inv X pins σ H s)
 (hch:∀b∈ch,(b∈X.ex\/X.s₀.heap.objs.size<=b)/\b≠X.env.locals/\(∀x c,X.env.cells.lookup x=some c->c≠b)/\∀p∈X.pn++pins,p.1≠b)
 (keep:∀b o,b≠X.env.locals->b∉X.fs->b∉ch->s.heap.get? b=some o->H b=none->h'.get? b=some o)
 (slot:∀b o,b≠X.env.locals->b∈X.fs->b∉ch->s.heap.get? b=some o->H b=none->∃sl,h'.get? b=some { o with slots:=sl }) (free:∀b o,b∉ch->s.heap.get? b=some o->H b=none->H' b=none)
 (there:∀b o,b∉ch->s.heap.get? b=some o->∃o',h'.get? b=some o')
 (tups:∀b xs,H b=some (.tup xs)->H' b=some (.tup xs)) (frzs:∀b o u,H b=some (.frz o u)->H' b=some (.frz o u)) (tbls:∀b ps,H b=some (.tbl ps)->∃more,H' b=some (.tbl (ps++more)))
 (ns:∀m,s.heap.Ns X.env.locals m->h'.Ns X.env.locals m) (hok:HOk X.prog X.w H' h') (hg:AllBare g'):
 Inv X pins σ H' { s with heap:=h',gens:=g',drawn:=d',toks:=t' }:=by
 have neL:∀b o,X.s₀.heap.get? b=some o->b≠X.env.locals:=λb o e=>qG (qD (qq e) I.ok.above)
 have neC:∀b o,X.s₀.heap.get? b=some o->b∉X.ex->b∉ch:=λb o e hx hb=>by
  rcases(hch b hb).1 with z|z
  ·exact hx z
  ·exact Q4 (qD (qq e) z) (Qb _)
 have cellK:∀x c,X.env.cells.lookup x=some c->∀v,s.heap.IsCell c v->h'.IsCell c v:=λx c e v ⟨o,ho,hd⟩=>by
  have nch:c∉ch:=λz=>(hch c z).2.2.1 x c e U;by_cases hc:c∈X.fs
  ·obtain⟨sl,q⟩:=slot c o (I.cne x c e) hc nch ho (I.freeC x c e);exact⟨_,q,hd⟩
  ·exact⟨o,keep c o (I.cne x c e) hc nch ho (I.freeC x c e),hd⟩
 refine⟨I.ok,I.os,hg,⟨λb o e n hb hx=>?_,λb o e n hb hx=>?_,λb o e n hx=>?_,λb o e hx=>?_,λb xs e=>tups b xs (I.base.tups b xs e),λb o xs e=>frzs b o xs (I.base.frzs b o xs e),λb ps e=>?_⟩,?_,λx c e=>?_,?_,λx c e=>?_,λp hp=>?_,hok,I.len⟩
 ·exact keep b o (neL b o e) hb (neC b o e hx) (I.base.keep b o e n hb hx) (I.base.free b o e n hx)
 ·obtain⟨sl,e1⟩:=I.base.slot b o e n hb hx;obtain⟨sl',e2⟩:=slot b _ (neL b o e) hb (neC b o e hx) e1 (I.base.free b o e n hx);exact⟨sl',e2⟩
 ·obtain⟨o',e1⟩:=I.base.there b o e hx;exact free b o' (neC b o e hx) e1 (I.base.free b o e n hx)
 ·obtain⟨o',e1⟩:=I.base.there b o e hx;exact there b o' (neC b o e hx) e1
 ·obtain⟨m1,e1⟩:=I.base.tbls b ps e;obtain⟨m2,e2⟩:=tbls b _ e1;exact⟨m1++m2,by rw[e2,Array.append_assoc]⟩
 ·obtain⟨m,hn,hl⟩:=I.loc;refine⟨m,ns m hn,λi x v e1 e2 e3=>?_⟩;obtain⟨u,r,l⟩:=hl i x v e1 e2 e3;refine⟨u,r,?_⟩;rcases l with l|⟨k,c,e,z⟩
  ·exact .inl l
  ·exact .inr ⟨k,c,e,cellK x c e _ z⟩
 ·obtain⟨v,z⟩:=I.cell x c e;exact⟨v,cellK x c e v z⟩
 ·obtain⟨m,⟨o,_,_,ho,_⟩,_⟩:=I.loc;exact free _ o (λz=>(hch _ z).2.1 U) ho I.free
 ·obtain⟨v,o,ho,hd⟩:=I.cell x c e;exact free c o (λz=>(hch c z).2.2.1 x c e U) ho (I.freeC x c e)
 ·obtain⟨e,n,ne,nf,d⟩:=I.pin p hp;have nch:p.1∉ch:=λz=>(hch p.1 z).2.2.2 p hp U;exact⟨keep p.1 p.2 ne nf nch e n,free p.1 p.2 nch e n,ne,nf,d⟩
theorem Inv.un{t':Nat}(I:Inv X pins σ H s)(u:Un X.fs [] H H' s.heap h')(hok:HOk X.prog X.w H' h'):Inv X pins σ H' { s with heap:=h',toks:=t' }:=by
 obtain⟨m,⟨o,es,ep,ho,r⟩,_⟩:=id I.loc;obtain⟨sl,hL⟩:=u.any ho I.free (by simp)
 exact I.step (g':=s.gens) (d':=s.drawn) (ch:=[]) (λ_ z=>nomatch z) (λb o _ hb _ e n=>u.keep b o e n hb (by simp)) (λb o _ hb _ e n=>u.slot b o e n hb (by simp)) (λb o _ e n=>u.free b o e n (by simp)) (λb o _ e=>u.there b o e (by simp)) u.tups u.frzs u.tbls (λm' hm=>by
  obtain⟨o',es',ep',ho',r'⟩:=hm;rw[ho]at ho';cases ho'
  exact⟨_,es',ep',hL,r'⟩) hok I.bare
theorem Inv.call{g':Array GenState}{t':Nat}{d':Drawn}{ch:List Addr}(I:Inv X pins σ H s)(u:Un (frs X.stack) ch H H' s.heap h')(hok:HOk X.prog X.w H' h')(hg:AllBare g')
 (hch:∀b∈ch,(b∈X.ex\/X.s₀.heap.objs.size<=b)/\b≠X.env.locals/\(∀x c,X.env.cells.lookup x=some c->c≠b)/\∀p∈X.pn++pins,p.1≠b):
 Inv X pins σ H' { s with heap:=h',gens:=g',drawn:=d',toks:=t' }:=by
 obtain⟨m,⟨o,es,ep,ho,r⟩,_⟩:=id I.loc;obtain⟨sl,hL⟩:=u.any ho I.free λz=>(hch _ z).2.1 U
 exact I.step (ch:=ch) hch (λb o hL hb hc e n=>u.keep b o e n (λz=>(qu.mp (I.stkSub b z)).elim hL hb) hc) (λb o _ _ hc e n=>u.any e n hc) (λb o hc e n=>u.free b o e n hc) (λb o hc e=>u.there b o e hc) u.tups u.frzs u.tbls (λm' hm=>by
  obtain⟨o',es',ep',ho',r'⟩:=hm;rw[ho]at ho';cases ho'
  exact⟨_,es',ep',hL,r'⟩) hok hg
theorem Inv.turned{t':Nat}{it:Addr}(I:Inv X pins σ H s)(k:∀b o,b≠it->s.heap.get? b=some o->h'.get? b=some o)(hn:H it=none)(hL:it≠X.env.locals)
 (h1:it∈X.ex\/X.s₀.heap.objs.size<=it) (h2:∀x c,X.env.cells.lookup x=some c->c≠it) (h3:∀p∈X.pn++pins,p.1≠it):Inv X pins σ H { s with heap:=h',toks:=t' }:=by
 have nit:∀b u,H b=some u->b≠it:=λb u e z=>by rw[z,hn]at e;cases e
 refine I.step (g':=s.gens) (d':=s.drawn) (ch:=[it]) (λb hb=>?_) (λb o _ _ hc e _=>k b o (λz=>hc (by simp[z])) e) (λb o _ _ hc e _=>⟨o.slots,k b o (λz=>hc (by simp[z])) e⟩) (λ_ _ _ _ n=>n)
  (λb o hc e=>⟨o,k b o (λz=>hc (by simp[z])) e⟩) (λ_ _ e=>e) (λ_ _ _ e=>e) (λb ps e=>⟨#[],by rw[e];simp⟩) (λm hm=>?_) (λb u e=>?_) I.bare
 ·have e:b=it:=by simpa using hb
  subst e;exact⟨h1,hL,h2,h3⟩
 ·obtain⟨o,es,ep,ho,r⟩:=hm;exact⟨o,es,ep,k _ o (Ne.symm hL) ho,r⟩
 ·refine(I.hok b u e).stay (λc v hc q=>k c v ?_ q) (λ_ q=>q) λ_ _ q=>q;rcases hc with z|z
  ·rw[z];exact nit b u e
  ·exact nit c _ z
theorem Inv.tok(I:Inv X pins σ H s)(t:Nat):Inv X pins σ H { s with toks:=t }:=I.un (h':=s.heap) (t':=t) Un.refl I.hok
theorem Inv.kept{t':Nat}(I:Inv X pins σ H s)(k:∀b u,s.heap.get? b=some u->h'.get? b=some u):Inv X pins σ H { s with heap:=h',toks:=t' }:=I.un (Un.kept k) (I.hok.kept k)
theorem Inv.laid{a:Addr}{o:HO}{t':Nat}(I:Inv X pins σ H s)(k:∀b u,s.heap.get? b=some u->h'.get? b=some u)(hp:s.heap.objs.size<=a)(new:bx X.prog X.w (upd H a o) h' a o):
 Inv X pins σ (upd H a o) { s with heap:=h',toks:=t' }:=I.un (Un.laid k hp (I.hok.fresh hp)) (I.hok.laid k hp new)
theorem Inv.write{x e:Addr}{o:HO}{t':Nat}(I:Inv X pins σ H s)(mu:Mut (H x))(he:e=x\/H e=some (.own x))(k:∀b u,b≠e->s.heap.get? b=some u->h'.get? b=some u)(heo:∃u,h'.get? e=some u)
 (new:bx X.prog X.w (upd H x o) h' x o):Inv X pins σ (upd H x o) { s with heap:=h',toks:=t' }:=I.un (Un.write mu he k heo) (I.hok.write mu he k heo new)
theorem Inv.pins_of{pins':List (Addr×Obj)}(I:Inv X pins σ H s)(h:∀p∈pins',s.heap.get? p.1=some p.2/\H p.1=none/\p.1≠X.env.locals/\p.1∉X.fs/\∀v,p.2.data≠.cell v):Inv X pins' σ H s:=
 ⟨I.ok,I.os,I.bare,I.base,I.loc,I.cell,I.free,I.freeC,λp hp=>(qh.mp hp).elim (λz=>I.pin p (qV _ z)) (h p),I.hok,I.len⟩
theorem oZ{N:List Str}(hN:N.Nodup){i j:Nat}{x:Str}(a:N[i]?=some x)(b:N[j]?=some x):i=j:=by
 obtain⟨h1,e1⟩:=qf.mp a;obtain⟨h2,e2⟩:=qf.mp b;exact(List.getElem_inj hN).mp (e1.trans e2.symm)
theorem mj{M:Model}{A:Around}{E:Yk}{i:Nat}{x:Str}{v:V}{u:Value}{Q:Unit->Shared->Prop}(I:Inv X pins σ H s)(hN:X.N.Nodup)(hi:X.N[i]?=some x)(hx:Loc X.env.scope x)(r:aB v u)
 (h:∀s',Inv X pins (σ.set i (some v)) H s'->(∃a,Heap.SameBut a s.heap s'.heap/\(a=X.env.locals\/X.env.cells.lookup x=some a))->Q () s') (hf:X.fn x=true\/X.env.scope.names.lookup x=some .local:=by first|exact .inl U|exact .inr U|assumption):wpAny M A (storeName X.env x u) Q E s:=by
 obtain⟨m,hn,hl⟩:=id I.loc;have hcls:(X.env.scope.kind == .class || (X.env.scope.kind == .module && X.env.locals != X.env.globals))=false:=by rw[I.ok.kind];rfl
 have hiσ:i<σ.length:=by rw[I.len];exact(qf.mp hi).1
 have cne:=I.cne
 have tracked:∀{a:Addr}{h':Heap},(∃o,s.heap.get? a=some o/\H a=none)->Heap.SameBut a s.heap h'->HOk X.prog X.w H h':=λ{a h'} ha hs b ob e=>by
  obtain⟨_,_,hfree⟩:=ha;refine(I.hok b ob e).stay (λc w' hc q=>(hs.2 c ?_).trans q) (λ_ q=>q) λ_ _ q=>q;rintro rfl;rcases hc with rfl|hc
  ·rw[hfree]at e;cases e
  ·rw[hfree]at hc;cases hc
 rcases hx with hk|hk
 ·refine wpAny_storeName_local hk hn (λh' hn' hs=>?_) hcls;obtain⟨oL,_,_,hoL,_⟩:=id hn;refine h _ ⟨I.ok,I.os,I.bare,⟨λb o e n hb hx=>?_,λb o e n hb hx=>?_,I.base.free,λb o e hx=>?_,I.base.tups,I.base.frzs,I.base.tbls⟩,⟨_,hn',λj y v' e1 e2 e3=>?_⟩,λy c e=>?_,I.free,I.freeC,λp hp=>?_,tracked ⟨oL,hoL,I.free⟩ hs,by simpa using I.len⟩ ⟨_,hs,.inl U⟩
  ·exact(hs.2 b (qG (qD (qq e) I.ok.above))).trans (I.base.keep b o e n hb hx)
  ·obtain⟨sl,e1⟩:=I.base.slot b o e n hb hx;exact⟨sl,(hs.2 b (qG (qD (qq e) I.ok.above))).trans e1⟩
  ·obtain⟨o',e1⟩:=I.base.there b o e hx;exact⟨o',(hs.2 b (qG (qD (qq e) I.ok.above))).trans e1⟩
  ·by_cases hj:j=i
   ·subst hj;rw[hi]at e1;cases e1;rw[List.getElem?_set_self hiσ]at e2;cases e2;exact⟨u,r,.inl ⟨hk,by simp⟩⟩
   ·rw[List.getElem?_set_ne (Ne.symm hj)]at e2;obtain⟨u',r',q⟩:=hl j y v' e1 e2 e3;refine⟨u',r',?_⟩;rcases q with⟨k,e⟩|⟨k,c,e,z⟩
    ·refine .inl ⟨k,?_⟩;have:y≠x:=λe=>hj (oZ hN e1 (e▸hi));simp[this,e]
    ·exact .inr ⟨k,c,e,z.sameBut hs (cne y c e)⟩
  ·obtain⟨w',z⟩:=I.cell y c e;exact⟨w',z.sameBut hs (cne y c e)⟩
  ·obtain⟨e,n,ne,nf,d⟩:=I.pin p hp;exact⟨(hs.2 p.1 ne).trans e,n,ne,nf,d⟩
 ·have hfn:X.fn x=true:=by
   rcases hf with z|z
   ·exact z
   ·rw[z]at hk;cases hk
  obtain⟨c,hc⟩:=I.ok.has x (.inl hk);obtain⟨w',z⟩:=I.cell x c hc;refine wpAny_storeName_cell I.ok.kind hk hc z (λh' hc' hs=>?_);obtain⟨oc,hoc,hocd⟩:=id z;refine h { s with heap:=h' } ⟨I.ok,I.os,I.bare,⟨λb o e n hb hx=>?_,λb o e n hb hx=>?_,I.base.free,λb o e hx=>?_,I.base.tups,I.base.frzs,I.base.tbls⟩,⟨m,hn.sameBut hs (Ne.symm (cne x c hc)),λj y v' e1 e2 e3=>?_⟩,λy c' e=>?_,I.free,I.freeC,λp hp=>?_,tracked ⟨oc,hoc,I.freeC x c hc⟩ hs,by simpa using I.len⟩ ⟨c,hs,.inr hc⟩
  ·exact(hs.2 b (qG (qD (qq e) (I.ok.cab x c hfn hc)))).trans (I.base.keep b o e n hb hx)
  ·obtain⟨sl,e1⟩:=I.base.slot b o e n hb hx;exact⟨sl,(hs.2 b (qG (qD (qq e) (I.ok.cab x c hfn hc)))).trans e1⟩
  ·obtain⟨o',e1⟩:=I.base.there b o e hx;exact⟨o',(hs.2 b (qG (qD (qq e) (I.ok.cab x c hfn hc)))).trans e1⟩
  ·by_cases hj:j=i
   ·subst hj;rw[hi]at e1;cases e1;rw[List.getElem?_set_self hiσ]at e2;cases e2;exact⟨u,r,.inr ⟨.inl hk,c,hc,hc'⟩⟩
   ·rw[List.getElem?_set_ne (Ne.symm hj)]at e2;obtain⟨u',r',q⟩:=hl j y v' e1 e2 e3;refine⟨u',r',?_⟩;rcases q with q|⟨k,c',e,z'⟩
    ·exact .inl q
    ·refine .inr ⟨k,c',e,z'.sameBut hs ?_⟩;rintro rfl;exact hj (oZ hN e1 (I.ok.inj _ _ _ e hc▸hi))
  ·by_cases hcc:c'=c
   ·subst hcc;exact⟨_,hc'⟩
   ·obtain⟨w2,z2⟩:=I.cell y c' e;exact⟨w2,z2.sameBut hs hcc⟩
  ·obtain⟨e,n,ne,nf,d⟩:=I.pin p hp;refine⟨(hs.2 p.1 ?_).trans e,n,ne,nf,d⟩;intro q;rw[q,hoc]at e;have q':oc=p.2:=qJ e;exact d w' (by rw[<- q'];exact hocd)
theorem mq{M:Model}{A:Around}{E:Yk}{i:Nat}{x:Str}{v:V}{u:Value}{Q:Unit->Shared->Prop}(I:Inv X pins σ H s)(hN:X.N.Nodup)(hi:X.N[i]?=some x)(hx:Loc X.env.scope x)(r:aB v u)
 (h:∀s',Inv X pins (σ.set i (some v)) H s'->Q () s') (hf:X.fn x=true\/X.env.scope.names.lookup x=some .local:=by first|exact .inl U|exact .inr U|assumption):wpAny M A (storeName X.env x u) Q E s:=
 mj I hN hi hx r (λs' I' _=>h s' I') hf
theorem Inv.call'{s':Shared}{ch:List Addr}(I:Inv X pins σ H s)(ho:s'.os=s.os)(u:Un (frs X.stack) ch H H' s.heap s'.heap)(hok:HOk X.prog X.w H' s'.heap)(hg:AllBare s'.gens)
 (hch:∀b∈ch,(b∈X.ex\/X.s₀.heap.objs.size<=b)/\b≠X.env.locals/\(∀x c,X.env.cells.lookup x=some c->c≠b)/\∀p∈X.pn++pins,p.1≠b):Inv X pins σ H' s':=by
 obtain⟨h',g',d',t',o'⟩:=s';have e:o'=s.os:=ho;subst e;exact I.call (g':=g') (t':=t') (d':=d') u hok hg hch
end
abbrev XK:=Value->Option Addr->Hp->Prop
abbrev St:=List (Option V)
abbrev VK:=V->Hp->Prop
abbrev TE:=St->Hp->VK->Prop
abbrev TT:=St->Hp->(Bool->Hp->Prop)->Prop
abbrev TA:=St->Hp->(List V->Hp->Prop)->Prop
structure dG where
 nx:St->Hp->Prop
 rt:VK
 bk:St->Hp->Prop:=λ_ _=>False
 ct:St->Hp->Prop:=λ_ _=>False
abbrev TS:=dG->St->Hp->Prop
def EP(X:Cx)(pins:List (Addr×Obj))(σ:St)(Q:VK)(u:Value)(s':Shared):Prop:=∃v H',Inv X pins σ H' s'/\aB v u/\Q v H'
def TP(X:Cx)(pins:List (Addr×Obj))(σ:St)(Q:Bool->Hp->Prop)(b:Bool)(s':Shared):Prop:=∃H',Inv X pins σ H' s'/\Q b H'
def AP(X:Cx)(pins:List (Addr×Obj))(σ:St)(Q:List V->Hp->Prop)(us:List Value)(s':Shared):Prop:=∃vs H',Inv X pins σ H' s'/\ao vs us/\Q vs H'
def SP(X:Cx)(pins:List (Addr×Obj))(D:dG)(f:Flow)(s':Shared):Prop:=
 match f with
 |.next=>∃σ' H',Inv X pins σ' H' s'/\D.nx σ' H'
 |.brk=>∃σ' H',Inv X pins σ' H' s'/\D.bk σ' H'
 |.cont=>∃σ' H',Inv X pins σ' H' s'/\D.ct σ' H'
 |.ret u=>∃v σ' H',Inv X pins σ' H' s'/\aB v u/\D.rt v H'
def PE(X:Cx)(e:Expr)(t:TE):Prop:=
 ∀(pins:List (Addr×Obj))(s:Shared)(σ:St)(H:Hp)(Q:VK),Inv X pins σ H s->t σ H Q->wpAny (model X.prog X.w) X.A (eval e X.env) (EP X pins σ Q) X.xe s
def PT(X:Cx)(e:Expr)(t:TT):Prop:=
 ∀(pins:List (Addr×Obj))(s:Shared)(σ:St)(H:Hp)(Q:Bool->Hp->Prop),Inv X pins σ H s->t σ H Q->wpAny (model X.prog X.w) X.A (isTrue e X.env (eval e X.env)) (TP X pins σ Q) X.xe s
def PW(X:Cx)(e:Expr)(t:TT):Prop:=
 ∀(whole:Sem Value)(pins:List (Addr×Obj))(s:Shared)(σ:St)(H:Hp)(Q:Bool->Hp->Prop),Inv X pins σ H s->t σ H Q->wpAny (model X.prog X.w) X.A (isTrue e X.env whole) (TP X pins σ Q) X.xe s
theorem PW.pt{X:Cx}{e:Expr}{t:TT}(h:PW X e t):PT X e t:=h _
def PA(X:Cx)(es:List Expr)(t:TA):Prop:=
 ∀(pos:Pos)(pins:List (Addr×Obj))(s:Shared)(σ:St)(H:Hp)(Q:List V->Hp->Prop),Inv X pins σ H s->t σ H Q->wpAny (model X.prog X.w) X.A (spliced (backTo pos (starEach es X.env))) (AP X pins σ Q) X.xe s
def PS(X:Cx)(st:Stmt)(t:TS):Prop:=
 ∀(pins:List (Addr×Obj))(s:Shared)(σ:St)(H:Hp)(D:dG),Inv X pins σ H s->t D σ H->wpAny (model X.prog X.w) X.A (exec st X.env) (SP X pins D) X.xe s
def PSs(X:Cx)(st:List Stmt)(t:TS):Prop:=
 ∀(pins:List (Addr×Obj))(s:Shared)(σ:St)(H:Hp)(D:dG),Inv X pins σ H s->t D σ H->wpAny (model X.prog X.w) X.A (execs st X.env) (SP X pins D) X.xe s
theorem thn{α:Type}{t:Sem α}{Q Q':α->Shared->Prop}{M:Model}{A:Around}{E:Yk}{s:Shared}(h:wpAny M A t Q E s)(hQ:∀a s,Q a s->Q' a s):wpAny M A t Q' E s:=wpAny_mono h hQ λ_ _ x=>x
section
variable {X:Cx}
theorem bin{a b:Expr}{ta tb:TE}(ha:PE X a ta)(hb:PE X b tb){pins:List (Addr×Obj)}{s:Shared}{σ:St}{H:Hp}{R:V->V->Hp->Prop}(I:Inv X pins σ H s)(h:ta σ H λx H1=>tb σ H1 λy H2=>R x y H2)
 {α:Type}{Q:α->Shared->Prop}{f:Value->Value->Sem α}
 (hf:∀v u s2 x y H2,Inv X pins σ H2 s2->aB x v->aB y u->R x y H2->wpAny (model X.prog X.w) X.A (f v u) Q X.xe s2):
 wpAny (model X.prog X.w) X.A (eval a X.env) (λv s₁=>wpAny (model X.prog X.w) X.A (eval b X.env) (λu s₂=>wpAny (model X.prog X.w) X.A (f v u) Q X.xe s₂) X.xe s₁) X.xe s:=by
 refine thn (ha pins s σ H _ I h) λv s1 ⟨x,H1,I1,r1,q1⟩=>?_;refine thn (hb pins s1 σ H1 _ I1 q1) λu s2 ⟨y,H2,I2,r2,q2⟩=>?_;exact hf v u s2 x y H2 I2 r1 r2 q2
def m9(i:Nat):TE:=λσ H Q=>∃v,σ[i]?=some (some v)/\Q v H
def tC(v:V):TE:=λ_ H Q=>Q v H
theorem vR{i:Nat}{x:Str}{pos:Pos}(hN:X.N[i]?=some x)(hv:Vis X.env.scope x)(hd:(x == ("__debug__":Str))=false:=by decide)(hcd:(x == ("__classdict__":Str))=false:=by decide):PE X (.Name x pos) (m9 i):=by
 intro pins s σ H Q I h;obtain⟨v,e,h⟩:=h;obtain⟨m,hn,hl⟩:=I.loc;obtain⟨u,r,l⟩:=hl i x v hN e hv;have fin:EP X pins σ Q u s:=⟨v,H,I,r,h⟩;rcases l with⟨hk,hm⟩|⟨hk,c,hc,hcell⟩
 ·exact wpAny_Name (wpAny_loadName_local I.ok.kind hk hn hm fin) hd
 ·rcases hk with hk|hk
  ·exact wpAny_Name (wpAny_loadName_cell I.ok.kind hk hc hcell fin) hd
  ·exact wpAny_Name (wpAny_loadName_free I.ok.kind hk hc hcell fin hcd) hd
theorem aa{i j pos}:PE X (.Constant (.int i) j pos) (tC (.int i)):=λ_ _ _ H _ I h=>wpAny_Constant_int ⟨.int i,H,I.tok _,⟨_,U⟩,h⟩
theorem cG{b j pos}:PE X (.Constant (.bool b) j pos) (tC (.bl b)):=λ_ _ _ H _ I h=>Constant_bool ⟨.bl b,H,I,U,h⟩
theorem eN{j pos}:PE X (.Constant .none j pos) (tC .non):=λ_ _ _ H _ I h=>Constant_none ⟨.non,H,I,U,h⟩
theorem bF{x j pos}:PE X (.Constant (.str x) j pos) (tC (.str x)):=λ_ _ _ H _ I h=>Calls.Constant_str ⟨.str x,H,I.tok _,⟨_,U⟩,h⟩
def Gl(X:Cx)(x:Str):Prop:=X.env.kindOf x=some .globalImplicit
theorem iw{E:Yk}{pins:List (Addr×Obj)}{s:Shared}{σ:St}{H:Hp}{x:Str}{u:Value}{pos:Pos}{Q:Yk}(I:Inv X pins σ H s)(hg:Gl X x)(hm:X.mg x=some u)(h:Q u s)
 (hd:(x == ("__debug__":Str))=false:=by decide):wpAny (model X.prog X.w) X.A (eval (.Name x pos) X.env) Q E s:=
 Calls.Name_function_global I.ok.kind hg (Calls.loadGlobal_global (by rw[I.ok.glob];exact I.mod.glob.keeps I.bk) hm h) hd
theorem di{E:Yk}{pins:List (Addr×Obj)}{s:Shared}{σ:St}{H:Hp}{x:Str}{u:Value}{pos:Pos}{Q:Yk}(I:Inv X pins σ H s)(hg:Gl X x)(hm:X.mg x=none)(hv:bootBuiltins x=some u)(h:Q u s)
 (hn:x≠"__name__":=by decide) (hd:(x == ("__debug__":Str))=false:=by decide):wpAny (model X.prog X.w) X.A (eval (.Name x pos) X.env) Q E s:=by
 obtain⟨mb,h1,h2⟩:=I.mod.blt;exact Calls.Name_function_global I.ok.kind hg (Calls.loadGlobal_builtin (by rw[I.ok.glob];exact I.mod.glob.keeps I.bk) hm (by rw[I.ok.blt];exact h1.keeps I.bk) ((h2 x hn).trans hv) h) hd
theorem vW{x:Str}{v:V}{u:Value}{pos:Pos}(hg:Gl X x)(hm:X.mg x=some u)(r:aB v u)(hd:(x == ("__debug__":Str))=false:=by decide):PE X (.Name x pos) (tC v):=
 λ_ _ _ H _ I h=>iw I hg hm ⟨v,H,I,r,h⟩ hd
theorem kA{x:Str}{v:V}{u:Value}{pos:Pos}(hg:Gl X x)(hm:X.mg x=none)(hv:bootBuiltins x=some u)(r:aB v u)(hn:x≠"__name__":=by decide)(hd:(x == ("__debug__":Str))=false:=by decide):PE X (.Name x pos) (tC v):=
 λ_ _ _ H _ I h=>di I hg hm hv ⟨v,H,I,r,h⟩ hn hd
variable {a b:Expr}{ta tb:TE}{pos:Pos}
def PC(X:Cx)(op:CmpOp)(a b:Expr)(t:TE):Prop:=
 ∀(pins:List (Addr×Obj))(s:Shared)(σ:St)(H:Hp)(Q:VK),Inv X pins σ H s->t σ H Q->
  wpAny (model X.prog X.w) X.A (eval a X.env) (λv s₁=>wpAny (model X.prog X.w) X.A (eval b X.env) (λu s₂=>wpAny (model X.prog X.w) X.A (compareOp op v u) (EP X pins σ Q) X.xe s₂) X.xe s₁) X.xe s
def tB(t:TE):TT:=λσ H Q=>t σ H λx H1=>∃c,x=.bl c/\Q c H1
theorem zP{op:CmpOp}{t:TE}(h:PC X op a b t)(h1:behindInMarks op b=false:=by first|exact nobehind _ Qz Qz|rfl):PT X (.Compare a [op] [b] pos) (tB t):=by
 intro pins s σ H Q I hw;refine wpAny_isTrue_Compare1 (thn (h pins s σ H _ I hw) λv s1 h1=>thn h1 λu s2 h2=>thn h2 λc s3 ⟨x,H1,I1,r1,q1⟩=>?_) h1;obtain⟨d,rfl,q⟩:=q1;cases r1;exact wpAny_truthy_bool ⟨H1,I1,q⟩
theorem vF{e:Expr}{t:TE}(h:PE X e t)(he:∀whole,isTrue e X.env whole=(do let v <- whole;standAt e.pos;holding [v] (truthy v)):=by intro _;rfl):PT X e (tB t):=by
 intro pins s σ H Q I hw;refine isTrue_plain (thn (h pins s σ H _ I hw) λv s1 ⟨x,H1,I1,r1,q1⟩=>?_) (he _);obtain⟨d,rfl,q⟩:=q1;cases r1;exact wpAny_truthy_bool ⟨H1,I1,q⟩
variable {tA tB':TT}{rest:List Expr}
def tP(t u:TT):TT:=λσ H Q=>t σ H λc H1=>if c=true then u σ H1 Q else Q false H1
def tOr(t u:TT):TT:=λσ H Q=>t σ H λc H1=>if c=true then Q true H1 else u σ H1 Q
def tw(t:TT):TT:=λσ H Q=>t σ H λc H1=>Q (!c) H1
theorem ow(ha:PT X a tA):PW X (.BoolOp .And [a] pos) tA:=by
 intro wh pins s σ H Q I h;refine isTrue_and (thn (ha pins s σ H Q I h) λc s1 e=>?_)
 cases c with
 |true=>exact isTrue_and_nil e
 |false=>exact e
theorem i7(ha:PT X a tA):PW X (.BoolOp .Or [a] pos) tA:=by
 intro wh pins s σ H Q I h;refine isTrue_or (thn (ha pins s σ H Q I h) λc s1 e=>?_)
 cases c with
 |false=>exact isTrue_or_nil e
 |true=>exact e
theorem ox(ha:PT X a tA)(hb:PW X (.BoolOp .And (b::rest) pos) tB'):PW X (.BoolOp .And (a::b::rest) pos) (tP tA tB'):=by
 intro wh pins s σ H Q I h;refine isTrue_and (thn (ha pins s σ H _ I h) λc s1 ⟨H1,I1,q1⟩=>?_)
 cases c with
 |true=>exact hb wh pins s1 σ H1 Q I1 q1
 |false=>exact⟨H1,I1,q1⟩
theorem i8(ha:PT X a tA)(hb:PW X (.BoolOp .Or (b::rest) pos) tB'):PW X (.BoolOp .Or (a::b::rest) pos) (tOr tA tB'):=by
 intro wh pins s σ H Q I h;refine isTrue_or (thn (ha pins s σ H _ I h) λc s1 ⟨H1,I1,q1⟩=>?_)
 cases c with
 |true=>exact⟨H1,I1,q1⟩
 |false=>exact hb wh pins s1 σ H1 Q I1 q1
theorem dQ(ha:PT X a tA):PT X (.UnaryOp .Not a pos) (tw tA):=by
 intro pins s σ H Q I h;exact isTrue_not (ha pins s σ H (λc H1=>Q (!c) H1) I h)
def tO(ta tb:TE):TE:=λσ H Q=>ta σ H λx H1=>∃c,x=.bl c/\if c=true then tb σ H1 Q else Q (.bl false) H1
def tq(ta tb:TE):TE:=λσ H Q=>ta σ H λx H1=>∃c,x=.bl c/\if c=true then Q (.bl true) H1 else tb σ H1 Q
def tu(ta:TE):TE:=λσ H Q=>ta σ H λx H1=>∃c,x=.bl c/\Q (.bl (!c)) H1
theorem ig{op}{t:TE}(h:PE X a t):PE X (.BoolOp op [a] pos) t:=λpins s σ H Q I hw=>BoolOp_one (h pins s σ H Q I hw)
theorem oH(ha:PE X a ta)(hb:PE X (.BoolOp .And (b::rest) pos) tb):PE X (.BoolOp .And (a::b::rest) pos) (tO ta tb):=by
 intro pins s σ H Q I h;refine BoolOp_and (thn (ha pins s σ H _ I h) λv s1 ⟨x,H1,I1,r1,q1⟩=>?_);obtain⟨c,rfl,q1⟩:=q1;cases r1;refine wpAny_truthy_bool ?_
 cases c with
 |true=>exact hb pins s1 σ H1 Q I1 q1
 |false=>exact⟨.bl false,H1,I1,U,q1⟩
theorem oE(ha:PE X a ta)(hb:PE X (.BoolOp .Or (b::rest) pos) tb):PE X (.BoolOp .Or (a::b::rest) pos) (tq ta tb):=by
 intro pins s σ H Q I h;refine BoolOp_or (thn (ha pins s σ H _ I h) λv s1 ⟨x,H1,I1,r1,q1⟩=>?_);obtain⟨c,rfl,q1⟩:=q1;cases r1;refine wpAny_truthy_bool ?_
 cases c with
 |false=>exact hb pins s1 σ H1 Q I1 q1
 |true=>exact⟨.bl true,H1,I1,U,q1⟩
theorem vT(ha:PE X a ta):PE X (.UnaryOp .Not a pos) (tu ta):=by
 intro pins s σ H Q I h;refine UnaryOp_ (thn (ha pins s σ H _ I h) λv s1 ⟨x,H1,I1,r1,q1⟩=>?_);obtain⟨c,rfl,q1⟩:=q1;cases r1;exact not_of (wpAny_truthy_bool ⟨.bl (!c),H1,I1,U,q1⟩)
def tIf(t:TT)(ta tb:TE):TE:=λσ H Q=>t σ H λc H1=>if c=true then ta σ H1 Q else tb σ H1 Q
theorem dU{c:Expr}(hc:PT X c tA)(ha:PE X a ta)(hb:PE X b tb):PE X (.IfExp c a b pos) (tIf tA ta tb):=by
 intro pins s σ H Q I h;refine wpAny_IfExp (thn (hc pins s σ H _ I h) λd s1 ⟨H1,I1,q1⟩=>?_)
 cases d with
 |true=>exact ha pins s1 σ H1 Q I1 q1
 |false=>exact hb pins s1 σ H1 Q I1 q1
end
def SqL(K:W.Frag)(H:Hp)(a:Addr)(xs:List V):Prop:=
 Rd H a (.lst xs) \/
  ∃(o:Obj)(its:Array Value)(n:Nat),K.lookup a=some o/\o.cls=.type "list"/\o.dict=none/\o.data=.seq its n/\its.size<=sizeLine/\ao xs its.toList
def SqT(K:W.Frag)(H:Hp)(a:Addr)(xs:List V):Prop:=
 Rd H a (.tup xs) \/
  ∃(o:Obj)(its:Array Value)(n:Nat),K.lookup a=some o/\o.cls=.type "tuple"/\o.data=.seq its n/\its.size<=sizeLine/\ao xs its.toList
def zH:Value->Option V
 |.none=>some .non
 |.bool b=>some (.bl b)
 |.int i _=>some (.int i)
 |.str x _=>some (.str x)
 |.bytes b _=>some (.byt b)
 |.float b _=>some (.flt b)
 |.ref a=>some (.ref a)
 |.type n=>some (.ty n)
 |_=>none
theorem aB.abs{x:V}{u:Value}(r:aB x u):zH u=some x:=by
 cases x with
 |non=>cases r;rfl
 |bl _=>cases r;rfl
 |int _=>obtain⟨t,rfl⟩:=r;rfl
 |str _=>obtain⟨t,rfl⟩:=r;rfl
 |byt _=>obtain⟨t,rfl⟩:=r;rfl
 |flt _=>obtain⟨t,rfl⟩:=r;rfl
 |ref _=>cases r;rfl
 |ty _=>cases r;rfl
theorem aB.inj{x y:V}{u:Value}(r:aB x u)(q:aB y u):x=y:=qJ (r.abs.symm.trans q.abs)
theorem ao.inj:∀{xs ys:List V}{us:List Value},ao xs us->ao ys us->xs=ys
 |_,_,_,.nil,.nil=>rfl
 |_,_,_,.cons r t,.cons r' t'=>by rw[r.inj r',ao.inj t t']
section
variable {X:Cx}{pins:List (Addr×Obj)}{σ:St}{H:Hp}{s:Shared}{a:Addr}{xs ys:List V}
theorem SqL.of{K:W.Frag}(h:H a=some (.lst xs)):SqL K H a xs:=.inl (.inl h)
theorem SqT.of{K:W.Frag}(h:H a=some (.tup xs)):SqT K H a xs:=.inl (.inl h)
theorem Inv.list(I:Inv X pins σ H s)(h:SqL X.K H a xs):∃its:List Value,ao xs its/\PlainL s.heap a its.toArray/\xs.length<=sizeLine:=by
 rcases h with h|⟨o,its,n,hk,hc,hd,hs,hz,r⟩
 ·obtain⟨z,its,n,r,e⟩:=h.ok I.hok;exact⟨its,r,⟨_,n,e,U,U,U⟩,z⟩
 ·refine⟨its.toList,r,⟨o,n,I.kIn a o hk,hc,hd,by simpa using hs⟩,?_⟩;have e:=r.length;simp only[qM]at e;omega
theorem Inv.tuple(I:Inv X pins σ H s)(h:SqT X.K H a xs):∃its:List Value,ao xs its/\IsTup s.heap a its.toArray/\xs.length<=sizeLine:=by
 rcases h with h|⟨o,its,n,hk,hc,hs,hz,r⟩
 ·obtain⟨z,its,r,p⟩:=h.ok I.hok;exact⟨its,r,p,z⟩
 ·refine⟨its.toList,r,⟨o,I.kIn a o hk,hc,n,by simpa using hs⟩,?_⟩;have e:=r.length;simp only[qM]at e;omega
theorem Inv.list_inj(I:Inv X pins σ H s)(h:SqL X.K H a xs)(h':SqL X.K H a ys):xs=ys:=by
 obtain⟨its,r,⟨o,n,e,_,_,d⟩,_⟩:=I.list h;obtain⟨its',r',⟨o',n',e',_,_,d'⟩,_⟩:=I.list h';rw[e]at e';cases e';rw[d]at d';injection d' with d1 _;have:its=its':=by simpa using congrArg Array.toList d1
 subst this;exact r.inj r'
theorem Inv.tuple_inj(I:Inv X pins σ H s)(h:SqT X.K H a xs)(h':SqT X.K H a ys):xs=ys:=by
 obtain⟨its,r,⟨o,e,_,n,d⟩,_⟩:=I.tuple h;obtain⟨its',r',⟨o',e',_,n',d'⟩,_⟩:=I.tuple h';rw[e]at e';cases e';rw[d]at d';injection d' with d1 _;have:its=its':=by simpa using congrArg Array.toList d1
 subst this;exact r.inj r'
end
abbrev Cx.wish(X:Cx)(E:Yk):Cx:={ X with xe:=E }
abbrev Cx.nox(X:Cx):Cx:=X.wish λ_ _=>False
theorem Cx.Ok.wish{X:Cx}(ok:X.Ok)(E:Yk):(X.wish E).Ok:=
 ⟨ok.mod,ok.kind,ok.glob,ok.blt,ok.above,ok.inj,ok.has,ok.cab,ok.hd,ok.frames,ok.stk,ok.exf,ok.bs,ok.bsz,ok.noex,ok.exfs,ok.funs,ok.frf⟩
theorem Cx.Ok.unwish{X:Cx}{E:Yk}(ok:(X.wish E).Ok):X.Ok:=
 ⟨ok.mod,ok.kind,ok.glob,ok.blt,ok.above,ok.inj,ok.has,ok.cab,ok.hd,ok.frames,ok.stk,ok.exf,ok.bs,ok.bsz,ok.noex,ok.exfs,ok.funs,ok.frf⟩
section
variable {X:Cx}{pins:List (Addr×Obj)}{σ:St}{H:Hp}{s:Shared}{E:Yk}
theorem Inv.wish(I:Inv X pins σ H s)(E:Yk):Inv (X.wish E) pins σ H s:=⟨I.ok.wish E,I.os,I.bare,I.base,I.loc,I.cell,I.free,I.freeC,I.pin,I.hok,I.len⟩
theorem Inv.unwish(I:Inv (X.wish E) pins σ H s):Inv X pins σ H s:=⟨I.ok.unwish,I.os,I.bare,I.base,I.loc,I.cell,I.free,I.freeC,I.pin,I.hok,I.len⟩
theorem SP.unwish{D:dG}{f:Flow}{s':Shared}(h:SP (X.wish E) pins D f s'):SP X pins D f s':=by
 cases f with
 |next=>obtain⟨σ',H',I,q⟩:=h;exact⟨σ',H',I.unwish,q⟩
 |brk=>obtain⟨σ',H',I,q⟩:=h;exact⟨σ',H',I.unwish,q⟩
 |cont=>obtain⟨σ',H',I,q⟩:=h;exact⟨σ',H',I.unwish,q⟩
 |ret u=>obtain⟨v,σ',H',I,r,q⟩:=h;exact⟨v,σ',H',I.unwish,r,q⟩
theorem PSs.nox{st:List Stmt}{t:TS}(h:PSs X.nox st t):PSs X st t:=λpins s σ H D I hw=>
 wpAny_mono (h pins s σ H D (I.wish _) hw) (λ_ _ q=>q.unwish) λ_ _ z=>False.elim z
end
section
variable {X:Cx}{st:Stmt}{rest:List Stmt}{t u:TS}{e:Expr}{te:TE}{pos:Pos}
def md:TS:=λD σ H=>D.nx σ H
def gQ(t u:TS):TS:=λD σ H=>t { D with nx:=u D } σ H
theorem aW:PSs X [] md:=λ_ _ σ H _ I h=>wpAny_execs_nil ⟨σ,H,I,h⟩
theorem ae(h1:PS X st t)(h2:PSs X rest u):PSs X (st::rest) (gQ t u):=by
 intro pins s σ H D I h;refine wpAny_execs_cons (thn (h1 pins s σ H { D with nx:=u D } I h) λf s1 q=>?_)
 cases f with
 |next=>
  obtain⟨σ',H',I',q⟩:=q;exact h2 pins s1 σ' H' D I' q
 |ret v=>exact q
 |brk=>exact q
 |cont=>exact q
theorem ai(h1:PS X st t):PSs X [st] t:=by
 intro pins s σ H D I h;refine wpAny_execs_cons (thn (h1 pins s σ H D I h) λf s1 q=>?_)
 cases f with
 |next=>exact wpAny_execs_nil q
 |ret v=>exact q
 |brk=>exact q
 |cont=>exact q
theorem Inv.quiet{pins:List (Addr×Obj)}{σ:St}{H:Hp}{s:Shared}(I:Inv X pins σ H s):interactive X.env=false:=by simp[interactive,I.ok.kind]
def tJ(te:TE):TS:=λD σ H=>te σ H λ_ H1=>D.nx σ H1
theorem bM(he:PE X e te)(hs:swapsWith e none pos.line X.env=pure false:=by rfl):PS X (.Expr e pos) (tJ te):=by
 intro pins s σ H D I h;exact wpAny_Expr_any (thn (he pins s σ H _ I h) λv s1 ⟨x,H1,I1,r1,q1⟩=>⟨σ,H1,I1,q1⟩) I.quiet hs
def t9(te:TE):TS:=λD σ H=>te σ H D.rt
theorem au(he:PE X e te):PS X (.Return (some e) pos) (t9 te):=by
 intro pins s σ H D I h;exact wpAny_Return_some (thn (he pins s σ H _ I h) λv s1 ⟨x,H1,I1,r1,q1⟩=>⟨x,σ,H1,I1,r1,q1⟩)
def t7:TS:=λD _ H=>D.rt .non H
theorem vI:PS X (.Return none pos) t7:=λ_ _ σ H _ I h=>wpAny_Return_none ⟨.non,σ,H,I,U,h⟩
def tH(c:TT)(t u:TS):TS:=λD σ H=>c σ H λb H1=>if b=true then t D σ H1 else u D σ H1
theorem aX{c:Expr}{a b:List Stmt}{tc:TT}(hc:PT X c tc)(ha:PSs X a t)(hb:PSs X b u):PS X (.If c a b pos) (tH tc t u):=by
 intro pins s σ H D I h;refine wpAny_If (thn (hc pins s σ H _ I h) λd s1 ⟨H1,I1,q1⟩=>?_)
 cases d with
 |true=>exact ha pins s1 σ H1 D I1 q1
 |false=>exact hb pins s1 σ H1 D I1 q1
end
abbrev TG:=V->St->Hp->(St->Hp->Prop)->Prop
abbrev TGs:=List V->St->Hp->(St->Hp->Prop)->Prop
def PG(X:Cx)(target:Expr)(t:TG):Prop:=
 ∀(pins:List (Addr×Obj))(s:Shared)(σ:St)(H:Hp)(v:V)(u:Value)(Q:St->Hp->Prop),Inv X pins σ H s->aB v u->t v σ H Q->
  wpAny (model X.prog X.w) X.A (assign target X.env u) (λ_ s'=>∃σ' H',Inv X pins σ' H' s'/\Q σ' H') X.xe s
def PGs(X:Cx)(ts:List Expr)(t:TGs):Prop:=
 ∀(pins:List (Addr×Obj))(s:Shared)(σ:St)(H:Hp)(vs:List V)(us:List Value)(Q:St->Hp->Prop),Inv X pins σ H s->ao vs us->t vs σ H Q->
  wpAny (model X.prog X.w) X.A (assignInOrder ((assignEach ts X.env).map (·.2)) us) (λ_ s'=>∃σ' H',Inv X pins σ' H' s'/\Q σ' H') X.xe s
abbrev lK:=V->V->V->Hp->(Hp->Prop)->Prop
def si(X:Cx)(t:lK):Prop:=
 ∀(pins:List (Addr×Obj))(s:Shared)(σ:St)(H:Hp)(o i v:V)(ov iv u:Value)(Q:Hp->Prop),Inv X pins σ H s->aB o ov->aB i iv->aB v u->t o i v H Q->
  wpAny (model X.prog X.w) X.A (setItem ov iv u) (λ_ s'=>∃H',Inv X pins σ H' s'/\Q H') X.xe s
section
variable {X:Cx}{pos:Pos}
def aI(i:Nat):TG:=λv σ H Q=>Q (σ.set i (some v)) H
theorem aP{i:Nat}{x:Str}(hN:X.N.Nodup)(hi:X.N[i]?=some x)(hx:Loc X.env.scope x)(hf:X.fn x=true\/X.env.scope.names.lookup x=some .local:=by first|exact .inl U|exact .inr U|assumption):PG X (.Name x pos) (aI i):=by
 intro pins s σ H v u Q I r h;exact wpAny_assign_Name (mq I hN hi hx r (λs' I'=>⟨_,H,I',h⟩) hf)
def yO:TGs:=λvs σ H Q=>vs=[]/\Q σ H
def yP(t:TG)(u:TGs):TGs:=λvs σ H Q=>∃v r,vs=v::r/\t v σ H λσ' H'=>u r σ' H' Q
theorem dc:PGs X [] yO:=by
 intro pins s σ H vs us Q I r h;obtain⟨e,h⟩:=h;subst e;cases r;exact assignInOrder_nil ⟨σ,H,I,h⟩
theorem bN{e:Expr}{es:List Expr}{t:TG}{u:TGs}(h1:PG X e t)(h2:PGs X es u)
 (hs:(assignEach (e::es) X.env).map (·.2)=assign e X.env::(assignEach es X.env).map (·.2):=by rfl):PGs X (e::es) (yP t u):=by
 intro pins s σ H vs us Q I r h;obtain⟨v,vr,e1,h⟩:=h;subst e1
 cases r with
 |cons r rr=>
  rw[hs];refine assignInOrder_cons (thn (h1 pins s σ H _ _ _ I r h) λ_ s1 ⟨σ1,H1,I1,q1⟩=>?_);exact h2 pins s1 σ1 H1 _ _ Q I1 rr q1
def qW(K:W.Frag)(n:Nat)(t:TGs):TG:=λv σ H Q=>∃a xs,v=.ref a/\SqT K H a xs/\xs.length=n/\t xs σ H Q
theorem gy{es:List Expr}{k:Nat}{t:TGs}{n:Nat}(hc:X.calm=true)(h:PGs X es t)
 (hn:(assignEach es X.env).length=n:=by rfl) (hst:(assignEach es X.env).findIdx? (·.1)=none:=by rfl):PG X (.Tuple es k pos) (qW X.K n t):=by
 intro pins s σ H v u Q I r hw;obtain⟨a,xs,e1,hq,hl,hw⟩:=hw;subst e1;cases r;obtain⟨its,rv,ht,hz⟩:=I.tuple hq;refine assign_Tuple_tuple (I.ok.hd hc) ht (by simp[hn,<- hl,rv.length]) hst λh' hx=>?_;have I1:Inv X pins σ H { s with heap:=h' }:=I.kept (t':=s.toks) λb o e=>hx b o (qG (qq e)) e;exact h pins _ σ H xs _ Q I1 (by simpa using rv) hw
def yN(to ti:TE)(t:lK):TG:=λv σ H Q=>to σ H λo H1=>ti σ H1 λi H2=>t o i v H2 λH3=>Q σ H3
theorem fB{o i:Expr}{to ti:TE}{t:lK}(ho:PE X o to)(hi:PE X i ti)(hs:si X t)
 (ha:∀v,assign (.Subscript o i pos) X.env v=(do
  let ov <- holding [v] (eval o X.env)
  let iv <- holding [v,ov] (eval i X.env)
  standAt pos
  holding [v,ov,iv] (setItem ov iv v)
  release [v,ov,iv] []):=by intro _;rfl):PG X (.Subscript o i pos) (yN to ti t):=by
 intro pins s σ H v u Q I r h;rw[ha];refine q5 (Qu (thn (ho pins s σ H _ I h) λov s1 ⟨x,H1,I1,r1,q1⟩=>?_));refine q5 (Qu (thn (hi pins s1 σ H1 _ I1 q1) λiv s2 ⟨y,H2,I2,r2,q2⟩=>?_));refine q5 (wpAny_standAt (q5 (Qu (thn (hs pins s2 σ H2 x y v ov iv u _ I2 r1 r2 r q2) λ_ s3 ⟨H3,I3,q3⟩=>?_))));exact wpAny_release ⟨σ,H3,I3,q3⟩
def j7(te:TE)(g:TG):TS:=λD σ H=>te σ H λx H1=>g x σ H1 D.nx
theorem eK{tg e:Expr}{te:TE}{g:TG}(he:PE X e te)(hg:PG X tg g)(hs:swapsWithSole [tg] e pos.line X.env=pure false:=by rfl)(hw:swappedStores [tg] e X.env=pure none:=by rfl)
 (h1:(assignEach [tg] X.env).map (·.2)=[assign tg X.env]:=by rfl):PS X (.Assign [tg] e pos) (j7 te g):=by
 intro pins s σ H D I h;refine wpAny_Assign_stores (thn (he pins s σ H _ I h) λv s1 ⟨x,H1,I1,r1,q1⟩=>?_) hs hw;rw[h1];exact thn (hg pins s1 σ H1 x v _ I1 r1 q1) λ_ s2 q=>q
theorem aK{i:Nat}{x:Str}{e:Expr}{te:TE}{pos':Pos}(hN:X.N.Nodup)(hi:X.N[i]?=some x)(hx:Loc X.env.scope x)(he:PE X e te)(hs:swapsWith e (some (.Name x pos')) pos.line X.env=pure false:=by rfl)(hf:X.fn x=true\/X.env.scope.names.lookup x=some .local:=by first|exact .inl U|exact .inr U|assumption):
 PS X (.Assign [.Name x pos'] e pos) (j7 te (aI i)):=by
 intro pins s σ H D I h;refine wpAny_Assign_Name (thn (he pins s σ H _ I h) λv s1 ⟨y,H1,I1,r1,q1⟩=>?_) hs;exact mq I1 hN hi hx r1 (λs2 I2=>⟨_,H1,I2,q1⟩) hf
end
section
variable {X:Cx}{pos:Pos}
def sZ(c:TT)(tb:TS):TS:=λD σ H=>∃W:Nat->St->Hp->Prop,(∃m,W m σ H)/\∀m σ H,W m σ H->
 c σ H λb H1=>if b=true then ∃N:St->Hp->Prop,(∀σ' H',N σ' H'->∃m',m'<m/\W m' σ' H')/\tb { D with nx:=N,ct:=N,bk:=D.nx } σ H1 else D.nx σ H1
theorem vH{c:Expr}{body:List Stmt}{tc:TT}{tb:TS}(hp:PassesOwn (model X.prog X.w) X.A X.env X.xe)(hc:PT X c tc)(hb:PSs X body tb):PS X (.While c body [] pos) (sZ tc tb):=by
 intro pins s σ H D I h;obtain⟨W,⟨m0,w0⟩,turn⟩:=h;refine wpAny_While (codeAny_whileLoop (λn s'=>∃σ' H',Inv X pins σ' H' s'/\W n σ' H') ?_ m0 ⟨σ,H,I,w0⟩);rintro n s1 ⟨σ1,H1,I1,w1⟩;refine wpAny_passesOwn hp (thn (hc pins s1 σ1 H1 _ I1 (turn n σ1 H1 w1)) λb s2 ⟨H2,I2,q2⟩=>?_)
 cases b with
 |true=>
  obtain⟨N,hN,q2⟩:=q2;rw[Q0 U];refine wpAny_passesOwn hp (thn (hb pins s2 σ1 H2 _ I2 q2) λf s3 q3=>?_)
  cases f with
  |next=>
   obtain⟨σ3,H3,I3,n3⟩:=q3;obtain⟨m',hm,w3⟩:=hN σ3 H3 n3;exact⟨m',hm,σ3,H3,I3,w3⟩
  |cont=>
   obtain⟨σ3,H3,I3,n3⟩:=q3;obtain⟨m',hm,w3⟩:=hN σ3 H3 n3;exact⟨m',hm,σ3,H3,I3,w3⟩
  |brk=>exact q3
  |ret v=>exact q3
 |false=>
  rw[qZ qi];exact wpAny_execs_nil ⟨σ1,H2,I2,q2⟩
end
structure It where
 go:Nat->Hp->Prop
 yld:Nat->Hp->V->Hp->Prop
 stop:Nat->Hp->Prop
def cq(X:Cx)(pins:List (Addr×Obj))(H:Hp)(b:Addr):Prop:=
 H b=none/\b≠X.env.locals/\b∉X.fs/\(b∈X.ex\/X.s₀.heap.objs.size<=b)/\(∀x c,X.env.cells.lookup x=some c->c≠b)/\∀p∈X.pn++pins,p.1≠b
theorem Inv.fpOk{X:Cx}{pins:List (Addr×Obj)}{σ:St}{H H':Hp}{s:Shared}{b:Addr}(I:Inv X pins σ H s)(hb:s.heap.objs.size<=b)(hn:H' b=none):cq X pins H' b:=by
 refine⟨hn,Nat.ne_of_gt (qD I.lt hb),I.nofs hb,.inr (qy I.sz hb),λx c e z=>?_,λp hp z=>?_⟩
 ·obtain⟨v,q⟩:=I.cell x c e;exact Q4 (qD q.lt (by rw[z];exact hb)) (Qb _)
 ·exact Q4 (qD (qq (I.pin p hp).1) (by rw[z];exact hb)) (Qb _)
structure f6(P:Program)(w:World)(K:W.Frag)(tg:Expr)(J:It)(fp:List Addr)(it:Addr)(tn:Nat->Heap->Prop):Prop where
 mem:it∈fp
 obj:∀i h,tn i h->∀b∈fp,∃o,h.get? b=some o/\∀v,o.data≠.cell v
 keep:∀i h h',tn i h->(∀b∈fp,∀o,h.get? b=some o->h'.get? b=some o)->tn i h'
 item:∀(X:Cx),X.prog=P->X.w=w->X.K=K->X.calm=true->∀(i:Nat)(pins:List (Addr×Obj))(s:Shared)(σ:St)(H:Hp)(E:Yk),Inv X pins σ H s->(∀b∈fp,cq X pins H b)->tn i s.heap->J.go i H->
  wpAny (model P w) X.A (pyNext (.ref it)) (λr s1=>∃u,r=some u /\
   wpAny (model P w) X.A (letOwnedTupleGo tg (.ref it) u) (λ_ s2=>∃x H',Inv X pins σ H' s2/\aB x u/\J.yld i H x H'/\tn (i+1) s2.heap/\∀b∈fp,H' b=none) E s1) E s
 done:∀(X:Cx),X.prog=P->X.w=w->X.K=K->X.calm=true->∀(i:Nat)(pins:List (Addr×Obj))(s:Shared)(σ:St)(H:Hp)(E:Yk),Inv X pins σ H s->(∀b∈fp,cq X pins H b)->tn i s.heap->J.stop i H->
  wpAny (model P w) X.A (pyNext (.ref it)) (λr s1=>r=none/\Inv X pins σ H s1) E s
 self:∀(A:Around)(i:Nat)(s:Shared)(Q:Yk)(E:Yk),tn i s.heap->Q (.ref it) s->wpAny (model P w) A (pyIter (.ref it)) Q E s
abbrev TI:=St->Hp->(It->Hp->Prop)->Prop
def PIE(X:Cx)(pins:List (Addr×Obj))(σ:St)(tg:Expr)(R:It->Hp->Prop)(itv:Value)(s2:Shared):Prop:=
 ∃(it:Addr)(fp:List Addr)(tn:Nat->Heap->Prop)(J:It)(H':Hp),itv=.ref it/\Inv X pins σ H' s2/\f6 X.prog X.w X.K tg J fp it tn/\tn 0 s2.heap/\(∀b∈fp,cq X pins H' b)/\R J H'
def PI(X:Cx)(tg iter:Expr)(wi:TI):Prop:=
 ∀(pins:List (Addr×Obj))(s:Shared)(σ:St)(H:Hp)(R:It->Hp->Prop),Inv X pins σ H s->wi σ H R->
  wpAny (model X.prog X.w) X.A (eval iter X.env) (λv s1=>wpAny (model X.prog X.w) X.A (pyIter v) (PIE X pins σ tg R) X.xe s1) X.xe s
theorem kR{M:Model}{A:Around}{E:Yk}{s:Shared}{tg:Expr}{it:Addr}{u:Value}{o:Obj}{n:String}{vs:Array Value}{Q:Unit->Shared->Prop}(ho:s.heap.get? it=some o)(hc:o.cls=.type n)(hd:o.data=.fields vs)
 (hn:["enumerate","zip","dict_itemiterator","dict_reverseitemiterator","odict_iterator","itertools.zip_longest","itertools.pairwise"].contains n=false) (hQ:Q () s):wpAny M A (letOwnedTupleGo tg (.ref it) u) Q E s:=by
 unfold letOwnedTupleGo
 cases tg<;>first
  |exact qd hQ
  |(cases u<;>first
   |exact qd hQ
   |(refine q5 (wpAny_load ho ?_)
     rw[hc,hd];show wpAny M A (if(["enumerate","zip","dict_itemiterator","dict_reverseitemiterator","odict_iterator","itertools.zip_longest","itertools.pairwise"].contains n && vs[0]? == some (rawInt _))=true then _ else _) Q E s;rw[qZ (by intro h;rw[hn,Bool.false_and]at h;cases h)]
     exact qd hQ))
def Itl(K:W.Frag)(a:Addr):It:=
 ⟨λi H=>∃xs x,SqL K H a xs/\xs[i]?=some x,λi H x H'=>H'=H/\∀xs,SqL K H a xs->xs[i]?=some x,λi H=>∃xs,SqL K H a xs/\xs.length<=i⟩
def Itt(K:W.Frag)(a:Addr):It:=
 ⟨λi H=>∃xs x,SqT K H a xs/\xs[i]?=some x,λi H x H'=>H'=H/\∀xs,SqT K H a xs->xs[i]?=some x,λi H=>∃xs,SqT K H a xs/\xs.length<=i⟩
def Itr(lo:Int)(n:Nat):It:=⟨λi _=>i<n,λi H x H'=>H'=H/\x=.int (lo+i),λi _=>n<=i⟩
theorem sW{P:Program}{w:World}{K:W.Frag}{tg:Expr}(a it:Addr):f6 P w K tg (Itl K a) [it] it (λi h=>h.IsListIter it a i) where
 mem:=by simp
 obj:=λi h st b hb=>by
  have e:b=it:=by simpa using hb
  subst e;obtain⟨o,e,c,d⟩:=st;exact⟨o,e,λv z=>by rw[d]at z;cases z⟩
 keep:=λi h h' st k=>st.at λo e=>k it (by simp) o e
 item:=by
  intro X hP hw hK hc i pins s σ H E I hf st hg;subst hP hw hK;obtain⟨xs,x,hq,hx⟩:=hg;obtain⟨its,rv,p,hz⟩:=I.list hq;obtain⟨u,hu,ru⟩:=rv.get hx;obtain⟨f0,f1,f2,f3,f4,f5⟩:=hf it (by simp);refine wpAny_pyNext_list_item st p.isList (x:=u) (by simpa using hu) λh' st' sb=>?_;have I1:Inv X pins σ H { s with heap:=h' }:=I.turned (t':=s.toks) (λb o hb e=>(sb.2 b hb).trans e) f0 f1 f3 f4 f5;obtain⟨o,e,c,d⟩:=id st';exact⟨u,U,kR (s:={ s with heap:=h' }) e c d Qz ⟨x,H,I1,ru,⟨U,λys hy=>by rw[I.list_inj hy hq];exact hx⟩,st',λb hb=>(hf b hb).1⟩⟩
 done:=by
  intro X hP hw hK hc i pins s σ H E I hf st hg;subst hP hw hK;obtain⟨xs,hq,hx⟩:=hg;obtain⟨its,rv,p,hz⟩:=I.list hq;obtain⟨f0,f1,f2,f3,f4,f5⟩:=hf it (by simp);have hl:=rv.length;exact wpAny_pyNext_list_end (I.ok.hd hc) st p.isList (by simp;omega) λh' eb=>⟨U,I.turned (t':=s.toks) (λb o hb e=>eb b o hb e) f0 f1 f3 f4 f5⟩
 self:=λ_ _ _ _ _ st h=>wpAny_pyIter_listiter st h
theorem sU{P:Program}{w:World}{K:W.Frag}{tg:Expr}(a it:Addr):f6 P w K tg (Itt K a) [it] it (λi h=>h.IsTupleIter it a i) where
 mem:=by simp
 obj:=λi h st b hb=>by
  have e:b=it:=by simpa using hb
  subst e;obtain⟨o,e,c,d⟩:=st;exact⟨o,e,λv z=>by rw[d]at z;cases z⟩
 keep:=λi h h' st k=>st.at λo e=>k it (by simp) o e
 item:=by
  intro X hP hw hK hc i pins s σ H E I hf st hg;subst hP hw hK;obtain⟨xs,x,hq,hx⟩:=hg;obtain⟨its,rv,p,hz⟩:=I.tuple hq;obtain⟨u,hu,ru⟩:=rv.get hx;obtain⟨f0,f1,f2,f3,f4,f5⟩:=hf it (by simp);refine wpAny_pyNext_tuple_item st (show s.heap.IsTuple a its.toArray from p) (x:=u) (by simpa using hu) λh' st' sb=>?_;have I1:Inv X pins σ H { s with heap:=h' }:=I.turned (t':=s.toks) (λb o hb e=>(sb.2 b hb).trans e) f0 f1 f3 f4 f5;obtain⟨o,e,c,d⟩:=id st';exact⟨u,U,kR (s:={ s with heap:=h' }) e c d Qz ⟨x,H,I1,ru,⟨U,λys hy=>by rw[I.tuple_inj hy hq];exact hx⟩,st',λb hb=>(hf b hb).1⟩⟩
 done:=by
  intro X hP hw hK hc i pins s σ H E I hf st hg;subst hP hw hK;obtain⟨xs,hq,hx⟩:=hg;obtain⟨its,rv,p,hz⟩:=I.tuple hq;obtain⟨f0,f1,f2,f3,f4,f5⟩:=hf it (by simp);have hl:=rv.length;exact wpAny_pyNext_tuple_end (I.ok.hd hc) st (show s.heap.IsTuple a its.toArray from p) (by simp;omega) λh' eb=>⟨U,I.turned (t':=s.toks) (λb o hb e=>eb b o hb e) f0 f1 f3 f4 f5⟩
 self:=λ_ _ _ _ _ st h=>wpAny_pyIter_tupleiter st h
theorem sV{P:Program}{w:World}{K:W.Frag}{tg:Expr}(it:Addr)(lo:Int)(n:Nat):f6 P w K tg (Itr lo n) [it] it (λi h=>IsRangeIter h it (lo+(i:Nat) * 1) ((n:Int)-(i:Nat)) 1) where
 mem:=by simp
 obj:=λi h st b hb=>by
  have e:b=it:=by simpa using hb
  subst e
  exact⟨_,st,λv z=>by
   have z':Data.fields _=Data.cell v:=z
   cases z'⟩
 keep:=λi h h' st k=>k it (by simp) _ st
 item:=by
  intro X hP hw hK hc i pins s σ H E I hf st hg;subst hP hw hK;obtain⟨f0,f1,f2,f3,f4,f5⟩:=hf it (by simp);have W:=Walks.range (prog:=X.prog) (w:=X.w) (I.ok.hd hc) it lo 1 n;refine W.item i s _ _ hg st λv h' tk hv st' kk=>?_;obtain⟨t,rfl⟩:=hv;have I1:Inv X pins σ H { s with heap:=h',toks:=tk }:=I.turned (λb o hb e=>kk b o (by simpa using hb) e) f0 f1 f3 f4 f5;refine⟨_,U,kR (s:={ s with heap:=h',toks:=tk }) (n:="range_iterator") st' U U Qz ⟨.int (lo+i),H,I1,⟨t,?_⟩,⟨U,U⟩,st',λb hb=>(hf b hb).1⟩⟩;rw[Int.mul_one]
 done:=by
  intro X hP hw hK hc i pins s σ H E I hf st hg;subst hP hw hK;obtain⟨f0,f1,f2,f3,f4,f5⟩:=hf it (by simp);exact wpAny_pyNext_range_end (I.ok.hd hc) st (by have:n<=i:=hg;omega) λh' eb=>⟨U,I.turned (t':=s.toks) (λb o hb e=>eb b o hb e) f0 f1 f3 f4 f5⟩
 self:=λ_ _ _ _ _ st h=>wpAny_pyIter_rangeiter st h
section
variable {X:Cx}{tg:Expr}
def yF(K:W.Frag)(tl:TE):TI:=λσ H R=>tl σ H λx H1=>∃a,x=.ref a/\(∃xs,SqL K H1 a xs)/\R (Itl K a) H1
def yE(K:W.Frag)(tl:TE):TI:=λσ H R=>tl σ H λx H1=>∃a,x=.ref a/\(∃xs,SqT K H1 a xs)/\R (Itt K a) H1
theorem c6{l:Expr}{tl:TE}(hl:PE X l tl):PI X tg l (yF X.K tl):=by
 intro pins s σ H R I h;refine thn (hl pins s σ H _ I h) λv s1 ⟨x,H1,I1,r1,q1⟩=>?_;obtain⟨a,e,⟨xs,hq⟩,q⟩:=q1;subst e;cases r1;obtain⟨its,rv,p,hz⟩:=I1.list hq;refine wpAny_pyIter_list p.isList ?_;refine⟨s1.heap.objs.size,[s1.heap.objs.size],_,_,H1,U,I1.kept (t':=s1.toks) λb o e=>qa _ e,sW a _,⟨_,qp _ U,U,U⟩,λb hb=>?_,q⟩;have e:b=s1.heap.objs.size:=by simpa using hb
 subst e;exact I1.fpOk (qe _) (I1.hok.fresh (qe _))
theorem ku{l:Expr}{tl:TE}(hl:PE X l tl):PI X tg l (yE X.K tl):=by
 intro pins s σ H R I h;refine thn (hl pins s σ H _ I h) λv s1 ⟨x,H1,I1,r1,q1⟩=>?_;obtain⟨a,e,⟨xs,hq⟩,q⟩:=q1;subst e;cases r1;obtain⟨its,rv,p,hz⟩:=I1.tuple hq;refine wpAny_pyIter_tuple (show s1.heap.IsTuple a its.toArray from p) ?_;refine⟨s1.heap.objs.size,[s1.heap.objs.size],_,_,H1,U,I1.kept (t':=s1.toks) λb o e=>qa _ e,sU a _,⟨_,qp _ U,U,U⟩,λb hb=>?_,q⟩;have e:b=s1.heap.objs.size:=by simpa using hb
 subst e;exact I1.fpOk (qe _) (I1.hok.fresh (qe _))
theorem uX{pins:List (Addr×Obj)}{σ:St}{H:Hp}{s:Shared}{R:It->Hp->Prop}{E:Yk}{lo hi:Int}{t u v:Tok}{tk:Nat}(I:Inv X pins σ H s)(h1:-(2 ^ 62)<=lo)(h2:lo<2 ^ 62)(h3:-(2 ^ 62)<=hi)(h4:hi<2 ^ 62)
 (q:R (Itr lo (hi-lo).toNat) H):wpAny (model X.prog X.w) X.A (pyIter (.ref s.heap.objs.size)) (PIE X pins σ tg R) E { s with heap:=s.heap.push { cls:=.type "range",data:=.fields #[.int lo t,.int hi u,.int 1 v] },toks:=tk }:=by
 refine wpAny_pyIter_range (IsRange.new ..) (small_one h1 h2 h3 h4) ?_;have I1:Inv X pins σ H { s with heap:=s.heap.push { cls:=.type "range",data:=.fields #[.int lo t,.int hi u,.int 1 v] },toks:=tk }:=I.kept λb o e=>qa _ e
 refine⟨(s.heap.push { cls:=.type "range",data:=.fields #[.int lo t,.int hi u,.int 1 v] }).objs.size,[(s.heap.push { cls:=.type "range",data:=.fields #[.int lo t,.int hi u,.int 1 v] }).objs.size],_,_,H,U,
  I1.kept (t':=tk) λb o e=>qa _ e,sV _ lo (hi-lo).toNat,?_,λb hb=>?_,q⟩
 ·have e1:lo+((0:Nat):Int) * 1=lo:=by simp
  have e2:(((hi-lo).toNat:Nat):Int)-((0:Nat):Int)=Builtin.Range.rangeSize lo hi 1:=by rw[rangeSize_one];split<;>omega
  show IsRangeIter _ _ (lo+((0:Nat):Int) * 1) ((((hi-lo).toNat:Nat):Int)-((0:Nat):Int)) 1;rw[e1,e2];exact qp _ U
 ·have e:b=(s.heap.push { cls:=.type "range",data:=.fields #[.int lo t,.int hi u,.int 1 v] }).objs.size:=by simpa using hb
  subst e;exact I1.fpOk (qe _) (I1.hok.fresh (qe _))
def kP(ta:TA):TI:=λσ H R=>ta σ H λvs H1=>∃j:Int,vs=[.int j]/\-(2 ^ 62)<=j/\j<2 ^ 62/\R (Itr 0 j.toNat) H1
theorem vQ{a:Expr}{ta:TA}{p pos:Pos}(hg:Gl X "range")(hm:X.mg "range"=none)(ha:PA X [a] ta)(hs:starEach [a] X.env=[(false,eval a X.env)]:=by rfl):PI X tg (.Call (.Name "range" p) [a] [] pos) (kP ta):=by
 intro pins s σ H R I h;refine Call_ (di I hg hm boot_range (PyProof.Rows.callWith_type1 (thn (ha pos pins s σ H _ I h) λus s1 ⟨vs,H1,I1,r1,q1⟩=>?_) hs U));obtain⟨j,e,q1,q2,q⟩:=q1;subst e
 cases r1 with
 |cons r rr=>
  cases rr;obtain⟨t,rfl⟩:=r;exact call_range_1 (uX I1 Yd Yd q1 q2 (by simpa using q))
def tI(wi:TI)(g:TG)(tb:TS):TS:=λD σ H=>wi σ H λJ H1=>∃W:Nat->Nat->St->Hp->Prop,(∃m,W 0 m σ H1)/\∀i m σ H,W i m σ H->
 (J.stop i H/\D.nx σ H)\/(J.go i H/\∃N:St->Hp->Prop,(∀σ' H',N σ' H'->∃m',m'<m/\W (i+1) m' σ' H')/\∀x H',J.yld i H x H'->g x σ H' λσ2 H2=>tb { D with nx:=N,ct:=N,bk:=D.nx } σ2 H2)
def gx(fp:List Addr)(h:Heap):List (Addr×Obj):=fp.filterMap λb=>(h.get? b).map λo=>(b,o)
theorem iu{fp:List Addr}{h:Heap}{b:Addr}{o:Obj}(hb:b∈fp)(e:h.get? b=some o):(b,o)∈gx fp h:=List.mem_filterMap.mpr ⟨b,hb,by rw[e];rfl⟩
theorem xE{fp:List Addr}{h:Heap}{p:Addr×Obj}(hp:p∈gx fp h):p.1∈fp/\h.get? p.1=some p.2:=by
 obtain⟨b,hb,e⟩:=List.mem_filterMap.mp hp
 cases q:h.get? b with
 |none=>rw[q]at e;cases e
 |some o=>
  rw[q]at e;have e':(b,o)=p:=qJ e;subst e';exact⟨hb,q⟩
theorem Inv.pinned{pins:List (Addr×Obj)}{σ:St}{H:Hp}{s:Shared}{fp:List Addr}(I:Inv X pins σ H s)(hf:∀b∈fp,cq X pins H b)(ho:∀b∈fp,∃o,s.heap.get? b=some o/\∀v,o.data≠.cell v):Inv X (pins++gx fp s.heap) σ H s:=
 I.pins_of λp hp=>(qh.mp hp).elim (λz=>I.pin p (qI _ z)) λz=>by
  obtain⟨hb,e⟩:=xE z;obtain⟨f0,f1,f2,_⟩:=hf p.1 hb;obtain⟨o,e',d⟩:=ho p.1 hb;rw[e]at e';cases e';exact⟨e,f0,f1,f2,d⟩
theorem Inv.unpinned{pins pl:List (Addr×Obj)}{σ:St}{H:Hp}{s:Shared}(I:Inv X (pins++pl) σ H s):Inv X pins σ H s:=I.pins_of λp hp=>I.pin p (qI _ (qV _ hp))
theorem cE{iter:Expr}{body:List Stmt}{wi:TI}{g:TG}{tb:TS}{pos:Pos}(hp:PassesOwn (model X.prog X.w) X.A X.env X.xe)(hc:X.calm=true)(hi:PI X tg iter wi)(hg:PG X tg g)(hb:PSs X body tb)
 (hs:∀x,foldedSetIterable iter X.env x=pure x:=by intro _;rfl):PS X (.For tg iter body [] pos) (tI wi g tb):=by
 intro pins s σ H D I h;refine wpAny_For (thn (hi pins s σ H _ I h) λv s1 h1=>thn h1 λitv s2 h2=>?_) hs;obtain⟨it,fp,tn,J,H2,e,I2,T,st2,f2,W,⟨m0,w0⟩,turn⟩:=h2;subst e;have stat:∀{H':Hp},(∀b∈fp,H' b=none)->∀b∈fp,cq X pins H' b:=λhn b hb=>⟨hn b hb,(f2 b hb).2⟩;refine codeAny_forLoop_any (λn s'=>∃i σ' H',Inv X pins σ' H' s'/\tn i s'.heap/\(∀b∈fp,H' b=none)/\W i n σ' H') ?_ m0 ⟨0,σ,H2,I2,st2,λb hb=>(f2 b hb).1,w0⟩;rintro n s3 ⟨i,σ3,H3,I3,st3,fr3,w3⟩;rcases turn i n σ3 H3 w3 with⟨stop,qn⟩|⟨go,N,hN,step⟩
 ·refine wpAny_passesOwn hp (thn (T.done X U U U hc i pins s3 σ3 H3 X.xe I3 (stat fr3) st3 stop) λr s4 ⟨hr,I4⟩=>?_);subst hr;exact wpAny_execs_nil ⟨σ3,H3,I4,qn⟩
 ·refine wpAny_passesOwn hp (thn (T.item X U U U hc i pins s3 σ3 H3 X.xe I3 (stat fr3) st3 go) λr s4 ⟨u,hr,h4⟩=>?_);subst hr;refine wpAny_passesOwn hp (thn h4 λ_ s5 ⟨x,H5,I5,r5,y5,st5,fr5⟩=>?_);have I5':=I5.pinned (stat fr5) (T.obj _ _ st5);refine wpAny_passesOwn hp (thn (hg _ s5 σ3 H5 x u _ I5' r5 (step x H5 y5)) λ_ s6 ⟨σ6,H6,I6,q6⟩=>?_);refine wpAny_passesOwn hp (thn (hb _ s6 σ6 H6 _ I6 q6) λf s7 q7=>?_)
  have again:∀{σ7:St}{H7:Hp},Inv X (pins++gx fp s5.heap) σ7 H7 s7->N σ7 H7->∃m,m<n/\∃i σ' H',Inv X pins σ' H' s7/\tn i s7.heap/\(∀b∈fp,H' b=none)/\W i m σ' H':=λ{σ7 H7} I7 n7=>by
   obtain⟨m',hm,w7⟩:=hN σ7 H7 n7;refine⟨m',hm,i+1,σ7,H7,I7.unpinned,T.keep _ _ _ st5 λb hb o e=>(I7.pin (b,o) (qI _ (qI _ (iu hb e)))).1,λb hb=>?_,w7⟩;obtain⟨o,e,d⟩:=T.obj _ _ st5 b hb;exact(I7.pin (b,o) (qI _ (qI _ (iu hb e)))).2.1
  cases f with
  |next=>obtain⟨σ7,H7,I7,n7⟩:=q7;exact again I7 n7
  |cont=>obtain⟨σ7,H7,I7,n7⟩:=q7;exact again I7 n7
  |brk=>obtain⟨σ7,H7,I7,q7⟩:=q7;exact⟨σ7,H7,I7.unpinned,q7⟩
  |ret v=>obtain⟨x7,σ7,H7,I7,r7,q7⟩:=q7;exact⟨x7,σ7,H7,I7.unpinned,r7,q7⟩
end
theorem e9{K:W.Frag}{a:Addr}{xs:List V}{g:TG}{tb:TS}{D:dG}{σ:St}{H:Hp}(Pv:Nat->St->Hp->Prop)(h0:Pv 0 σ H)(hl:∀i σ H,i<=xs.length->Pv i σ H->SqL K H a xs)
 (hs:∀i x σ H,xs[i]?=some x->Pv i σ H->g x σ H λσ2 H2=>tb { D with nx:=Pv (i+1),ct:=Pv (i+1),bk:=D.nx } σ2 H2) (hd:∀σ H,Pv xs.length σ H->D.nx σ H):
 ∃W:Nat->Nat->St->Hp->Prop,(∃m,W 0 m σ H)/\∀i m σ H,W i m σ H->
  ((Itl K a).stop i H/\D.nx σ H)\/((Itl K a).go i H/\∃N:St->Hp->Prop,(∀σ' H',N σ' H'->∃m',m'<m/\W (i+1) m' σ' H')/\∀x H',(Itl K a).yld i H x H'->g x σ H' λσ2 H2=>tb { D with nx:=N,ct:=N,bk:=D.nx } σ2 H2):=by
 refine⟨λi m σ H=>m=xs.length-i/\i<=xs.length/\Pv i σ H,⟨xs.length,by simp,qt _,h0⟩,?_⟩;rintro i m σ H ⟨rfl,hi,p⟩;have q:=hl i σ H hi p;by_cases hlt:i<xs.length
 ·refine .inr ⟨⟨xs,xs[i],q,by simp[hlt]⟩,Pv (i+1),λσ' H' p'=>⟨xs.length-(i+1),Yd,U,hlt,p'⟩,λx H' y=>?_⟩;obtain⟨e,y⟩:=y;subst e;exact hs i x σ _ (y xs q) p
 ·have e:i=xs.length:=by omega
  subst e;exact .inl ⟨⟨xs,q,qe _⟩,hd σ H p⟩
theorem rA{K:W.Frag}{a:Addr}{xs:List V}{g:TG}{tb:TS}{D:dG}{σ:St}{H:Hp}(Pv:Nat->St->Hp->Prop)(h0:Pv 0 σ H)(hl:∀i σ H,i<=xs.length->Pv i σ H->SqT K H a xs)
 (hs:∀i x σ H,xs[i]?=some x->Pv i σ H->g x σ H λσ2 H2=>tb { D with nx:=Pv (i+1),ct:=Pv (i+1),bk:=D.nx } σ2 H2) (hd:∀σ H,Pv xs.length σ H->D.nx σ H):
 ∃W:Nat->Nat->St->Hp->Prop,(∃m,W 0 m σ H)/\∀i m σ H,W i m σ H->
  ((Itt K a).stop i H/\D.nx σ H)\/((Itt K a).go i H/\∃N:St->Hp->Prop,(∀σ' H',N σ' H'->∃m',m'<m/\W (i+1) m' σ' H')/\∀x H',(Itt K a).yld i H x H'->g x σ H' λσ2 H2=>tb { D with nx:=N,ct:=N,bk:=D.nx } σ2 H2):=by
 refine⟨λi m σ H=>m=xs.length-i/\i<=xs.length/\Pv i σ H,⟨xs.length,by simp,qt _,h0⟩,?_⟩;rintro i m σ H ⟨rfl,hi,p⟩;have q:=hl i σ H hi p;by_cases hlt:i<xs.length
 ·refine .inr ⟨⟨xs,xs[i],q,by simp[hlt]⟩,Pv (i+1),λσ' H' p'=>⟨xs.length-(i+1),Yd,U,hlt,p'⟩,λx H' y=>?_⟩;obtain⟨e,y⟩:=y;subst e;exact hs i x σ _ (y xs q) p
 ·have e:i=xs.length:=by omega
  subst e;exact .inl ⟨⟨xs,q,qe _⟩,hd σ H p⟩
theorem iM{lo:Int}{n:Nat}{g:TG}{tb:TS}{D:dG}{σ:St}{H:Hp}(Pv:Nat->St->Hp->Prop)(h0:Pv 0 σ H)
 (hs:∀i σ H,i<n->Pv i σ H->g (.int (lo+i)) σ H λσ2 H2=>tb { D with nx:=Pv (i+1),ct:=Pv (i+1),bk:=D.nx } σ2 H2) (hd:∀σ H,Pv n σ H->D.nx σ H):
 ∃W:Nat->Nat->St->Hp->Prop,(∃m,W 0 m σ H)/\∀i m σ H,W i m σ H->
  ((Itr lo n).stop i H/\D.nx σ H)\/((Itr lo n).go i H/\∃N:St->Hp->Prop,(∀σ' H',N σ' H'->∃m',m'<m/\W (i+1) m' σ' H')/\∀x H',(Itr lo n).yld i H x H'->g x σ H' λσ2 H2=>tb { D with nx:=N,ct:=N,bk:=D.nx } σ2 H2):=by
 refine⟨λi m σ H=>m=n-i/\i<=n/\Pv i σ H,⟨n,by simp,qt _,h0⟩,?_⟩;rintro i m σ H ⟨rfl,hi,p⟩;by_cases hlt:i<n
 ·refine .inr ⟨hlt,Pv (i+1),λσ' H' p'=>⟨n-(i+1),Yd,U,hlt,p'⟩,λx H' y=>?_⟩;obtain⟨e,y⟩:=y;subst e y;exact hs i σ _ hlt p
 ·have e:i=n:=by omega
  subst e;exact .inl ⟨qe _,hd σ H p⟩
abbrev R2:=V->V->Hp->VK->Prop
def OpR(X:Cx)(f:Value->Value->Sem Value)(r:R2):Prop:=
 ∀(pins:List (Addr×Obj))(s:Shared)(σ:St)(H:Hp)(x y:V)(v u:Value)(Q:VK),Inv X pins σ H s->aB x v->aB y u->r x y H Q->
  wpAny (model X.prog X.w) X.A (f v u) (EP X pins σ Q) X.xe s
def UnR(X:Cx)(f:Value->Sem Value)(r:V->Hp->VK->Prop):Prop:=
 ∀(pins:List (Addr×Obj))(s:Shared)(σ:St)(H:Hp)(x:V)(v:Value)(Q:VK),Inv X pins σ H s->aB x v->r x H Q->
  wpAny (model X.prog X.w) X.A (f v) (EP X pins σ Q) X.xe s
def bZ(X:Cx)(f:Value)(r:List V->Hp->VK->Prop):Prop:=
 ∀(pins:List (Addr×Obj))(s:Shared)(σ:St)(H:Hp)(xs:List V)(us:List Value)(Q:VK),Inv X pins σ H s->ao xs us->r xs H Q->
  wpAny (model X.prog X.w) X.A (call f us) (EP X pins σ Q) X.xe s
def TruR(X:Cx)(r:V->Hp->(Bool->Hp->Prop)->Prop):Prop:=
 ∀(pins:List (Addr×Obj))(s:Shared)(σ:St)(H:Hp)(x:V)(v:Value)(Q:Bool->Hp->Prop),Inv X pins σ H s->aB x v->r x H Q->
  wpAny (model X.prog X.w) X.A (truthy v) (TP X pins σ Q) X.xe s
def tOp(r:R2)(ta tb:TE):TE:=λσ H Q=>ta σ H λx H1=>tb σ H1 λy H2=>r x y H2 Q
def rI(C:Int->Int->Prop)(g:Int->Int->V):R2:=λx y H Q=>∃i j,x=.int i/\y=.int j/\C i j/\Q (g i j) H
def rI0(g:Int->Int->V):R2:=λx y H Q=>∃i j,x=.int i/\y=.int j/\Q (g i j) H
section
variable {X:Cx}{a b c:Expr}{ta tb tc:TE}{pos:Pos}
theorem lC(ha:PE X a ta)(hb:PE X b tb){pins:List (Addr×Obj)}{s:Shared}{σ:St}{H:Hp}{R:V->V->Hp->Prop}(I:Inv X pins σ H s)
 (h:ta σ H λx H1=>tb σ H1 λy H2=>R x y H2) {Q:Yk}{f:Value->Value->Sem Value}
 (hf:∀v u s2 x y H2,Inv X pins σ H2 s2->aB x v->aB y u->R x y H2->wpAny (model X.prog X.w) X.A (f v u) Q X.xe s2):
 wpAny (model X.prog X.w) X.A (eval a X.env) (λv s₁=>wpAny (model X.prog X.w) X.A (eval b X.env) (λu s₂=>wpAny (model X.prog X.w) X.A (f v u) Q X.xe s₂) X.xe s₁) X.xe s:=by
 refine thn (ha pins s σ H _ I h) λv s1 ⟨x,H1,I1,r1,q1⟩=>?_;refine thn (hb pins s1 σ H1 _ I1 q1) λu s2 ⟨y,H2,I2,r2,q2⟩=>?_;exact hf v u s2 x y H2 I2 r1 r2 q2
theorem ag{op:Operator}{r:R2}(ho:OpR X (binaryOp op) r)(ha:PE X a ta)(hb:PE X b tb):PE X (.BinOp a op b pos) (tOp r ta tb):=by
 intro pins s σ H Q I h;exact wpAny_BinOp (lC ha hb I h λv u s2 x y H2 I2 rx ry q=>ho pins s2 σ H2 x y v u Q I2 rx ry q)
theorem opI{f:Value->Value->Sem Value}{C:Int->Int->Prop}{g:Int->Int->Int}
 (rule:∀(i j:Int)(t u:Tok)(s:Shared)(Q:Yk)(E:Yk),C i j->Q (.int (g i j) s.toks) { s with toks:=s.toks+1 }->wpAny (model X.prog X.w) X.A (f (.int i t) (.int j u)) Q E s):
 OpR X f (rI C λi j=>.int (g i j)):=by
 intro pins s σ H x y v u Q I rx ry h;obtain⟨i,j,rfl,rfl,hc,q⟩:=h;obtain⟨t,rfl⟩:=rx;obtain⟨t',rfl⟩:=ry;exact rule i j t t' s _ _ hc ⟨.int (g i j),H,I.tok _,⟨_,U⟩,q⟩
theorem gz{f:Value->Value->Sem Value}{g:Int->Int->Int}
 (rule:∀(i j:Int)(t u:Tok)(s:Shared)(Q:Yk)(E:Yk),Q (.int (g i j) s.toks) { s with toks:=s.toks+1 }->wpAny (model X.prog X.w) X.A (f (.int i t) (.int j u)) Q E s):
 OpR X f (rI0 λi j=>.int (g i j)):=by
 intro pins s σ H x y v u Q I rx ry h;obtain⟨i,j,rfl,rfl,q⟩:=h;obtain⟨t,rfl⟩:=rx;obtain⟨t',rfl⟩:=ry;exact rule i j t t' s _ _ ⟨.int (g i j),H,I.tok _,⟨_,U⟩,q⟩
theorem oN{f:Value->Value->Sem Value}{g:Int->Int->Bool}
 (rule:∀(i j:Int)(t u:Tok)(s:Shared)(Q:Yk)(E:Yk),Q (.bool (g i j)) s->wpAny (model X.prog X.w) X.A (f (.int i t) (.int j u)) Q E s):
 OpR X f (rI0 λi j=>.bl (g i j)):=by
 intro pins s σ H x y v u Q I rx ry h;obtain⟨i,j,rfl,rfl,q⟩:=h;obtain⟨t,rfl⟩:=rx;obtain⟨t',rfl⟩:=ry;exact rule i j t t' s _ _ ⟨.bl (g i j),H,I,U,q⟩
def zO(i j:Int):Prop:=0<j/\j<1073741824
def zN(i j:Int):Prop:=0<=j/\j<=1000000/\i.natAbs<2 ^ 64
theorem wA:OpR X (binaryOp .Add) (rI0 λi j=>.int (i+j)):=gz λ_ _ _ _ _ _ _ q=>add_int q
theorem wa:OpR X (binaryOp .Sub) (rI0 λi j=>.int (i-j)):=gz λ_ _ _ _ _ _ _ q=>sub_int q
theorem wu:OpR X (binaryOp .FloorDiv) (rI zO λi j=>.int (i / j)):=opI λi j _ _ _ _ _ hc q=>by
 have h1:(0:Int)<j:=hc.1;have h2:j<1073741824:=hc.2;exact floordiv_int Yd (by rw[Int.fdiv_eq_ediv_of_nonneg i Yd];exact q) (.inl (PyProof.noPylong_small Yd))
theorem wj:OpR X (binaryOp .Mod) (rI (λ_ j=>0<j) λi j=>.int (i % j)):=opI λi j _ _ _ _ _ hc q=>by
 have h1:(0:Int)<j:=hc;exact mod_int' Yd (by rw[Int.fmod_eq_emod_of_nonneg i Yd];exact q)
theorem wb:OpR X (binaryOp .Pow) (rI zN λi j=>.int (i ^ j.toNat)):=opI λ_ _ _ _ _ _ _ hc q=>pow_int_small hc.1 hc.2.1 hc.2.2 q
theorem wz:OpR X (binaryOp .BitAnd) (rI0 λi j=>.int (Builtin.bitAnd i j)):=gz λ_ _ _ _ _ _ _ q=>and_int q
theorem wc:OpR X (binaryOp .BitOr) (rI0 λi j=>.int (Builtin.bitOr i j)):=gz λ_ _ _ _ _ _ _ q=>or_int q
theorem w8:OpR X (binaryOp .BitXor) (rI0 λi j=>.int (Builtin.bitXor i j)):=gz λ_ _ _ _ _ _ _ q=>xor_int q
end
def nN:V->V->Bool
 |.non,.non=>true|.non,.int _=>true|.int _,.non=>true|.non,.bl _=>true|.bl _,.non=>true|.non,.str _=>true|.str _,.non=>true
 |.int _,.int _=>true|.bl _,.bl _=>true|.str _,.str _=>true|.byt _,.byt _=>true
 |.int _,.str _=>true|.str _,.int _=>true|.bl _,.str _=>true|.str _,.bl _=>true
 |_,_=>false
def rEq:R2:=λx y H Q=>nN x y=true/\Q (.bl (decide (x=y))) H
theorem yZ{i j:Int}:decide (V.int i=V.int j)=(i == j):=by
 rw[Bool.eq_iff_iff];simp
theorem zb{i j:Bool}:decide (V.bl i=V.bl j)=(i == j):=by
 rw[Bool.eq_iff_iff];simp
theorem yY{i j:Str}:decide (V.str i=V.str j)=(i == j):=by
 rw[Bool.eq_iff_iff];simp
theorem za{i j:Array UInt8}:decide (V.byt i=V.byt j)=(i.toList == j.toList):=by
 rw[Bool.eq_iff_iff];cases i;cases j;simp
section
variable {X:Cx}{a b c:Expr}{ta tb tc:TE}{pos:Pos}
theorem cj{pins:List (Addr×Obj)}{σ:St}{H:Hp}{s:Shared}{Q:VK}{k k':Bool}(I:Inv X pins σ H s)(q:Q (.bl k) H)(e:k=k'):EP X pins σ Q (.bool k') s:=by
 subst e;exact⟨.bl k,H,I,U,q⟩
theorem wv:OpR X (compareOp .Eq) rEq:=by
 intro pins s σ H x y v u Q I rx ry h;obtain⟨hs,q⟩:=h
 cases x with
 |non=>
  cases rx
  cases y with
  |non=>cases ry;exact PySem.EqNone.eq_none_none (cj I q (by simp))
  |bl j=>cases ry;exact PySem.EqNone.eq_none_bool (cj I q (by simp))
  |int j=>obtain⟨t',rfl⟩:=ry;exact PySem.EqNone.eq_none_int (cj I q (by simp))
  |str j=>obtain⟨t',rfl⟩:=ry;exact PySem.EqNone.eq_none_str (cj I q (by simp))
  |_=>exact Q4 (show false=true from hs) qi
 |bl i=>
  cases rx
  cases y with
  |non=>cases ry;exact PySem.EqNone.eq_bool_none (cj I q (by simp))
  |bl j=>cases ry;exact eq_bool (cj I q zb)
  |str j=>obtain⟨t',rfl⟩:=ry;exact PySem.EqMixed.eq_bool_str (cj I q (by simp))
  |_=>exact Q4 (show false=true from hs) qi
 |int i=>
  obtain⟨t,rfl⟩:=rx
  cases y with
  |non=>cases ry;exact PySem.EqNone.eq_int_none (cj I q (by simp))
  |int j=>obtain⟨t',rfl⟩:=ry;exact eq_int (cj I q yZ)
  |str j=>obtain⟨t',rfl⟩:=ry;exact PySem.EqMixed.eq_int_str (cj I q (by simp))
  |_=>exact Q4 (show false=true from hs) qi
 |str i=>
  obtain⟨t,rfl⟩:=rx
  cases y with
  |non=>cases ry;exact PySem.EqNone.eq_str_none (cj I q (by simp))
  |bl j=>cases ry;exact PySem.EqMixed.eq_str_bool (cj I q (by simp))
  |int j=>obtain⟨t',rfl⟩:=ry;exact PySem.EqMixed.eq_str_int (cj I q (by simp))
  |str j=>obtain⟨t',rfl⟩:=ry;exact eq_str (cj I q yY)
  |_=>exact Q4 (show false=true from hs) qi
 |byt i=>
  obtain⟨t,rfl⟩:=rx
  cases y with
  |byt j=>obtain⟨t',rfl⟩:=ry;exact PySem.W.eq_bytes (cj I q za)
  |_=>exact Q4 (show false=true from hs) qi
 |_=>cases y<;>exact Q4 (show false=true from hs) qi
theorem wn:OpR X (compareOp .Lt) (rI0 λi j=>.bl (decide (i<j))):=oN λ_ _ _ _ _ _ _ q=>lt_int q
theorem wq:OpR X (compareOp .Gt) (rI0 λi j=>.bl (decide (j<i))):=oN λ_ _ _ _ _ _ _ q=>gt_int q
theorem wo:OpR X (compareOp .Is) (λx y H Q=>y=.non/\Q (.bl (decide (x=.non))) H):=by
 intro pins s σ H x y v u Q I rx ry h;obtain⟨rfl,q⟩:=h;cases ry;refine is_none_gen (cj I q ?_)
 cases x<;>first
  |(cases rx;rfl)
  |(obtain⟨t,rfl⟩:=rx;rfl)
theorem wf:OpR X (compareOp .IsNot) (λx y H Q=>y=.non/\Q (.bl (!decide (x=.non))) H):=by
 intro pins s σ H x y v u Q I rx ry h;obtain⟨rfl,q⟩:=h;cases ry;refine isnot_none_gen (cj I q ?_)
 cases x<;>first
  |(cases rx;rfl)
  |(obtain⟨t,rfl⟩:=rx;rfl)
theorem aJ(b:Expr){op:CmpOp}(h:op≠.In:=by decide)(h2:op≠.NotIn:=by decide):behindInMarks op b=false:=by
 have e1:(op == CmpOp.In)=false:=by cases op<;>first|rfl|exact Q4 U h
 have e2:(op == CmpOp.NotIn)=false:=by cases op<;>first|rfl|exact Q4 U h2
 cases b<;>simp[behindInMarks,e1,e2]
theorem ij{op:CmpOp}{r:R2}(ho:OpR X (compareOp op) r)(ha:PE X a ta)(hb:PE X b tb)(hm:behindInMarks op b=false):PE X (.Compare a [op] [b] pos) (tOp r ta tb):=by
 intro pins s σ H Q I h;exact wpAny_Compare1 (lC ha hb I h λv u s2 x y H2 I2 rx ry q=>ho pins s2 σ H2 x y v u Q I2 rx ry q) hm
def j3(t:TE):TT:=λσ H Q=>t σ H λx H'=>∃k,x=.bl k/\Q k H'
theorem vG{op:CmpOp}{r:R2}(ho:OpR X (compareOp op) r)(ha:PE X a ta)(hb:PE X b tb)(hm:behindInMarks op b=false):PT X (.Compare a [op] [b] pos) (j3 (tOp r ta tb)):=by
 intro pins s σ H Q I h
 refine wpAny_isTrue_Compare1 (thn (ha pins s σ H _ I h) λv s1 ⟨x,H1,I1,r1,q1⟩=>thn (hb pins s1 σ H1 _ I1 q1) λu s2 ⟨y,H2,I2,r2,q2⟩=>
  thn (ho pins s2 σ H2 x y v u _ I2 r1 r2 q2) λc s3 ⟨z,H3,I3,r3,k,e,q3⟩=>?_) hm
 subst e;cases r3;exact wpAny_truthy_bool ⟨H3,I3,q3⟩
theorem gE:(sizeLine:Nat)<2 ^ 63:=by rw[sizeLine_eq];decide
theorem eD{x:V}{us:List Value}(r:ao [x] us):∃u,us=[u]/\aB x u:=by
 cases r with
 |cons r1 r2=>cases r2;exact⟨_,U,r1⟩
theorem gO{x y:V}{us:List Value}(r:ao [x,y] us):∃u w',us=[u,w']/\aB x u/\aB y w':=by
 cases r with
 |cons r1 r2=>
  cases r2 with
  |cons r3 r4=>cases r4;exact⟨_,_,U,r1,r3⟩
theorem rS(hc:X.calm=true):bZ X (.builtin "min") (λxs H Q=>∃i j,xs=[.int i,.int j]/\Q (.int (if j<i then j else i)) H):=by
 intro pins s σ H xs us Q I r h;obtain⟨i,j,rfl,q⟩:=h;obtain⟨u,w',rfl,⟨t,rfl⟩,⟨t',rfl⟩⟩:=gO r;refine min_two_ints (I.ok.hd hc) λh' tk k=>⟨_,H,I.kept k,?_,q⟩;by_cases hj:j<i
 ·rw[Q0 hj,Q0 hj];exact⟨_,U⟩
 ·rw[qZ hj,qZ hj];exact⟨_,U⟩
end
structure f7(h:Heap)(x dx C:Addr)(mA:Str->Option Value):Prop where
 obj:h.get? x=some (PySem.W.instObj C dx)
 ns:h.Ns1 dx mA
 ne:dx≠x
theorem xX{h:Heap}{dx:Addr}{mA:Str->Option Value}(n:h.Ns1 dx mA):∃od,h.get? dx=some od/\∀name,PySem.W.lookIn name od=some (mA name):=by
 obtain⟨o,es,ep,ho,hd,hk,_,hm⟩:=n;refine⟨o,ho,λname=>?_⟩;have e:=hm name;unfold nsFind findBy at e;rw[<- Array.find?_toList]at e;unfold PySem.W.lookIn;rw[hd];dsimp only;split
 ·rename_i y q;rw[q]at e;exact congrArg some e
 ·rename_i q;rw[q]at e
  have a:es.toList.any (·.refKey)=false:=by
   rw[List.any_eq_false];intro y hy;obtain⟨z,t,hkey⟩:=hk y (Array.mem_toList_iff.mp hy);simp[DictEntry.refKey,hkey]
  have a':¬ es.toList.any (·.refKey)=true:=by rw[a];exact qi
  rw[qZ a'];exact congrArg some e
theorem f7.look{h:Heap}{x dx C:Addr}{mA:Str->Option Value}(I:f7 h x dx C mA):∃od,PySem.W.InstAt h x (PySem.W.instObj C dx) C (some od)/\∀name,PySem.W.lookIn name od=some (mA name):=
 let ⟨od,ho,hl⟩:=xX I.ns
 ⟨od,⟨I.obj,U,U,ho⟩,hl⟩
section
variable {prog:Program}{w:World}{A:Around}{E:Yk}{s:Shared}{K:W.Frag}{x dx C f:Addr}{mA:Str->Option Value}{name:Str}{v:Value}
theorem yM{expr:Bool}{Q:Yk}(X:K.In s.heap)(I:f7 s.heap x dx C mA)(hg:PySem.W.plainGet K C name=true)(hh:PySem.W.hasDictIn K C=true)
 (ha:PySem.W.findIn K (.ref C) name=some none) (hv:mA name=some v) (hv':PySem.W.handedIn v=true) (h:Q v { s with toks:=s.toks+1 }):
 wpAny (model prog w) A (getAttr (.ref x) name expr) Q E s:=by
 obtain⟨od,J,hl⟩:=I.look;exact PySem.W.get_value X J (PySem.W.plainGet_of hg).1 (PySem.W.findObj_own hh ha U (by rw[hl,hv])) hv' h
theorem yL{pl:Sem Bool}{Q:Value×List Value->Shared->Prop}(X:K.In s.heap)(I:f7 s.heap x dx C mA)(hg:PySem.W.plainGet K C name=true)
 (hf:PySem.W.findIn K (.ref C) name=some (some (.ref f))) (ht:PySem.W.isFn K (.ref f)=true) (hv:mA name=none) (h:Q (.ref f,[.ref x]) s):
 wpAny (model prog w) A (getMethod (.ref x) name pl) Q E s:=by
 obtain⟨od,J,hl⟩:=I.look;exact PySem.W.method_fn X J (PySem.W.plainGet_of hg).1 (PySem.W.plainGet_of hg).2 hf (beq_iff_eq.mp ht) (by show(PySem.W.lookIn name od).map (·.isSome)=some false;rw[hl,hv];rfl) h
theorem ud{ns:List Str}{Q:Unit->Shared->Prop}(X:K.In s.heap)(I:f7 s.heap x dx C mA)
 (hs:PySem.W.findIn K (.ref C) "__setattr__"=some (some (.builtin "object.__setattr__"))) (hp:PySem.W.plainOver K C=true) (ht:PySem.W.takerIn K C name=some none) (hh:PySem.W.hasDictIn K C=true)
 (hw:PySem.Within mA ns) (hsz:ns.length<=sizeLine)
 (h:∀h',f7 h' x dx C (λy=>if y=name then some v else mA y)->Heap.SameBut dx s.heap h'->Q () { s with heap:=h',toks:=s.toks+2 }):
 wpAny (model prog w) A (setAttr (.ref x) name v) Q E s:=by
 obtain⟨od,J,hl⟩:=I.look;refine PySem.W.set_plain X J hs (PySem.W.osa_open (s:={ s with toks:=s.toks+1 }) (r:=none) X J hp ht λb=>?_);obtain⟨cd,hc,hd'⟩:=PySem.W.any_some hh;have hx:s.heap.get? x=some ⟨.ref C,some dx,.plain,#[]⟩:=I.obj;refine q5 (qd (q5 (q5 (wpAny_loadPart hx (q5 (PySem.W.Looks.here (s:={ s with toks:=s.toks+1 }) (PySem.W.looks_clsIn X hc) ?_))))));rw[hd'];refine qd (a:=some dx) (q5 (qd (q5 ?_)));refine wpAny_nsSet1 (s:={ s with toks:=s.toks+1 }) I.ns λh' hn2 hs2=>?_;obtain⟨oD,esD,epD,hoD,hdD,hcD⟩:=hn2.count (PySem.Within.cons name v hw);refine q5 (wpAny_lookBehind hoD (by rw[hdD];exact pastItsLine_dict (qy hcD (by rw[qA];omega))) ?_);exact qd (h _ ⟨(hs2.2 _ (Ne.symm I.ne)).trans I.obj,hn2,I.ne⟩ hs2)
theorem xS{R:Result->Shared->Prop}{vs:List Value}{kw:List (Str×Value)}(X:K.In s.heap)(hm:PySem.W.makesIn K C=true)
 (hi:PySem.W.findIn K (.ref C) "__init__"=some (some (.ref f))) (hf:PySem.W.typeIn K (.ref f)=some (.type "function"))
 (h:codeAny (model prog w) (A.under (.builtin "type.__call__" ⟨.ref C::vs,kw⟩)) (.call (.ref f) ⟨.ref (s.heap.objs.size+1)::vs,kw⟩) (PySem.W.InitBack (s.heap.objs.size+1) R)
  { s with heap:=(s.heap.push PySem.W.emptyDict).push (PySem.W.instObj C s.heap.objs.size) }):
 codeAny (model prog w) A (.call (.ref C) ⟨vs,kw⟩) R s:=by
 obtain⟨hh,g,d,t,os⟩:=s;exact PySem.W.make_core (PySem.W.makes_of X hm) (PySem.W.looks_findIn X hi) (λself=>PySem.W.bind_fn X self hf) (.inl U) h
end
def bo(f:Str)(v:V):List (Str×V)->List (Str×V)
 |[]=>[(f,v)]
 |(g,x)::r=>if g=f then(g,v)::r else(g,x)::bo f v r
theorem pA(f g:Str)(v:V):∀fs:List (Str×V),(bo f v fs).lookup g=if g=f then some v else fs.lookup g
 |[]=>by
  show List.lookup g [(f,v)]=_;by_cases h:g=f
  ·have hb:(g == f)=true:=beq_iff_eq.mpr h;simp only[List.lookup,hb,Q0 h]
  ·have hb:(g == f)=false:=beq_eq_false_iff_ne.mpr h;simp only[List.lookup,hb,qZ h]
 |(k,x)::r=>by
  have ih:=pA f g v r;rw[show bo f v ((k,x)::r)=(if k=f then(k,v)::r else(k,x)::bo f v r)from rfl];by_cases hk:k=f
  ·rw[Q0 hk];by_cases h:g=k
   ·have hb:(g == k)=true:=beq_iff_eq.mpr h;simp only[List.lookup,hb,Q0 (h.trans hk)]
   ·have hb:(g == k)=false:=beq_eq_false_iff_ne.mpr h;simp only[List.lookup,hb,qZ (λe:g=f=>h (e.trans hk.symm))]
  ·rw[qZ hk];by_cases h:g=k
   ·have hb:(g == k)=true:=beq_iff_eq.mpr h;simp only[List.lookup,hb,qZ (λe:g=f=>hk (h.symm.trans e))]
   ·have hb:(g == k)=false:=beq_eq_false_iff_ne.mpr h;simp only[List.lookup,hb];exact ih
theorem kL(f:Str)(v:V):∀fs:List (Str×V),f∈(bo f v fs).map (·.1)/\∀g,g∈fs.map (·.1)->g∈(bo f v fs).map (·.1)
 |[]=>⟨by simp[bo],λg h=>by simp at h⟩
 |(k,x)::r=>by
  obtain⟨i1,i2⟩:=kL f v r;rw[show bo f v ((k,x)::r)=(if k=f then(k,v)::r else(k,x)::bo f v r)from rfl];by_cases hk:k=f
  ·rw[Q0 hk];subst hk;exact⟨by simp,λg h=>by simpa using h⟩
  ·rw[qZ hk];refine⟨?_,λg h=>?_⟩
   ·rw[qR];exact qk _ i1
   ·rw[qR]at h ⊢;rcases qu.mp h with e|e
    ·exact qu.mpr (.inl e)
    ·exact qk _ (i2 g e)
theorem pC(f:Str)(v:V):∀fs:List (Str×V),(bo f v fs).length<=fs.length+1
 |[]=>by simp[bo]
 |(k,x)::r=>by
  have ih:=pC f v r;rw[show bo f v ((k,x)::r)=(if k=f then(k,v)::r else(k,x)::bo f v r)from rfl];by_cases hk:k=f
  ·rw[Q0 hk,qA,qA];omega
  ·rw[qZ hk,qA,qA];omega
theorem bW.some_of{v:V}{o:Option Value}(r:bW (some v) o):∃u,o=some u/\aB v u:=by
 cases o with
 |none=>exact(show False from r).elim
 |some u=>exact⟨u,U,r⟩
theorem bW.none_of{o:Option Value}(r:bW none o):o=none:=by
 cases o with
 |none=>rfl
 |some u=>exact(show False from r).elim
theorem yJ{v:V}{u:Value}(r:aB v u):PySem.W.handedIn u=true:=by
 cases v with
 |non=>cases(show u=Value.none from r);rfl
 |bl b=>cases(show u=Value.bool b from r);rfl
 |int i=>obtain⟨t,e⟩:=(show ∃t,u=Value.int i t from r);cases e;rfl
 |str x=>obtain⟨t,e⟩:=(show ∃t,u=Value.str x t from r);cases e;rfl
 |byt b=>obtain⟨t,e⟩:=(show ∃t,u=Value.bytes b t from r);cases e;rfl
 |flt b=>obtain⟨t,e⟩:=(show ∃t,u=Value.float b t from r);cases e;rfl
 |ref a=>cases(show u=Value.ref a from r);rfl
 |ty n=>cases(show u=Value.type n from r);rfl
section
variable {P:Program}{w:World}{H H':Hp}{h h':Heap}{a C dx:Addr}{fs fs':List (Str×V)}
theorem iB(hok:HOk P w H h)(e:H a=some (.ins C dx fs)):∃mA,f7 h a dx C mA/\(∀f,bW (fs.lookup f) (mA f))/\PySem.Within mA (fs.map (·.1))/\fs.length<=1000/\H dx=some (.own a):=by
 obtain⟨d,z,ne,ob,mA,n,r,q⟩:=(show bx P w H h a (.ins C dx fs)from hok a _ e);exact⟨mA,⟨ob,n,ne⟩,r,q,z,d⟩
end
structure Cls(K:W.Frag)(C:Addr):Prop where
 pg:PySem.W.plainGet K C Str.empty=true
 hd:PySem.W.hasDictIn K C=true
 po:PySem.W.plainOver K C=true
 sa:PySem.W.findIn K (.ref C) "__setattr__"=some (some (.builtin "object.__setattr__"))
theorem Cls.get{K:W.Frag}{C:Addr}(c:Cls K C)(f:Str):PySem.W.plainGet K C f=true:=c.pg
def aY(K:W.Frag)(C:Addr)(f:Str):Prop:=PySem.W.findIn K (.ref C) f=some none
theorem aY.taker{K:W.Frag}{C:Addr}{f:Str}(n:aY K C f):PySem.W.takerIn K C f=some none:=by
 unfold PySem.W.takerIn;rw[show PySem.W.findIn K (.ref C) f=some none from n]
 rfl
structure aG(K:W.Frag)(C:Addr)(m:Str)(f:Addr):Prop where
 at_:PySem.W.findIn K (.ref C) m=some (some (.ref f))
 fn:PySem.W.isFn K (.ref f)=true
 kp:PySem.W.keepIn K (.ref f)=true
section
variable {X:Cx}{pins:List (Addr×Obj)}{σ:St}{H:Hp}{s:Shared}{a C dx:Addr}{fs:List (Str×V)}{f:Str}{v:V}{A:Around}{E:Yk}
theorem yK{b:Bool}{Q:Yk}(I:Inv X pins σ H s)(e:H a=some (.ins C dx fs))(c:Cls X.K C)(n:aY X.K C f)(l:fs.lookup f=some v)
 (h:∀u s',Inv X pins σ H s'->aB v u->Q u s'):wpAny (model X.prog X.w) A (getAttr (.ref a) f b) Q E s:=by
 obtain⟨mA,O,r,_,_,_⟩:=iB I.hok e;obtain⟨u,hu,ru⟩:=bW.some_of (v:=v) (o:=mA f) (by rw[<- l];exact r f);exact yM I.kIn O (c.get f) c.hd n hu (yJ ru) (h u _ (I.tok _) ru)
theorem iL{m:Str}{g:Addr}{pl:Sem Bool}{Q:Value×List Value->Shared->Prop}(I:Inv X pins σ H s)(e:H a=some (.ins C dx fs))(c:Cls X.K C)(k:aG X.K C m g)(l:fs.lookup m=none)
 (h:Q (.ref g,[.ref a]) s):wpAny (model X.prog X.w) A (getMethod (.ref a) m pl) Q E s:=by
 obtain⟨mA,O,r,_,_,_⟩:=iB I.hok e;have hn:mA m=none:=bW.none_of (by rw[<- l];exact r m);exact yL I.kIn O (c.get m) k.at_ k.fn hn h
theorem uc{y:V}{u:Value}{Q:Unit->Shared->Prop}(I:Inv X pins σ H s)(e:H a=some (.ins C dx fs))(c:Cls X.K C)(n:aY X.K C f)(hl:fs.length<1000)(ry:aB y u)
 (h:∀s',Inv X pins σ (upd H a (.ins C dx (bo f y fs))) s'->Q () s'):wpAny (model X.prog X.w) A (setAttr (.ref a) f u) Q E s:=by
 obtain⟨mA,O,r,wi,_,ho⟩:=iB I.hok e;have hz:(fs.map (·.1)).length<=sizeLine:=by rw[q9,sizeLine_eq];omega
 refine ud I.kIn O c.sa c.po n.taker c.hd wi hz λh' O' sb=>h _ ?_;have hd:∃o,h'.get? dx=some o:=let ⟨o,_,_,e',_⟩:=O'.ns;⟨o,e'⟩;refine I.write (x:=a) (e:=dx) (by rw[e];exact True.intro) (.inr ho) (λb q hb z=>(sb.2 b hb).trans z) hd ?_;refine⟨by rw[ah O.ne];exact ho,?_,O.ne,O'.obj,_,O'.ns,λg=>?_,λg hg=>?_⟩
 ·have:=pC f y fs;omega
 ·show bW ((bo f y fs).lookup g) (if g=f then some u else mA g);rw[pA];by_cases q:g=f
  ·rw[Q0 q,Q0 q];exact ry
  ·rw[qZ q,qZ q];exact r g
 ·by_cases q:g=f
  ·rw[q];exact(kL f y fs).1
  ·refine(kL f y fs).2 g (wi g λz=>hg ?_);show(if g=f then some u else mA g)=none;rw[qZ q];exact z
theorem Inv.made(I:Inv X pins σ H s):Inv X pins σ (upd (upd H s.heap.objs.size (.own (s.heap.objs.size+1))) (s.heap.objs.size+1) (.ins C s.heap.objs.size []))
 { s with heap:=(s.heap.push PySem.W.emptyDict).push (PySem.W.instObj C s.heap.objs.size) }:=by
 have e1:(s.heap.push PySem.W.emptyDict).get? s.heap.objs.size=some PySem.W.emptyDict:=qp s.heap U
 have e2:((s.heap.push PySem.W.emptyDict).push (PySem.W.instObj C s.heap.objs.size)).get? (s.heap.objs.size+1)=some (PySem.W.instObj C s.heap.objs.size):=by
  have:=qp (s.heap.push PySem.W.emptyDict) (o:=PySem.W.instObj C s.heap.objs.size) U
  rwa [Qf]at this
 have e3:(s.heap.push PySem.W.emptyDict).Ns s.heap.objs.size (λ_=>none):=⟨PySem.W.emptyDict,#[],_,e1,U,(λe he=>Q4 he (by simp)),λ_=>U⟩;have I1:=I.laid (a:=s.heap.objs.size) (o:=.own (s.heap.objs.size+1)) (h':=s.heap.push PySem.W.emptyDict) (t':=s.toks) (λb u q=>qa _ q) (qe _) ⟨_,e1⟩;refine I1.laid (a:=s.heap.objs.size+1) (o:=.ins C s.heap.objs.size []) (t':=s.toks) (λb u q=>qa _ q) (Nat.le_of_eq (Qf _ _)) ?_;have ne:s.heap.objs.size≠s.heap.objs.size+1:=qG (Qa _);refine⟨by rw[ah ne,af],qt _,ne,e2,λ_=>none,(Heap.Ns1.of_empty e3).at λo q=>qa _ q,λ_=>True.intro,λy hy=>Q4 U hy⟩
theorem zC{prog:Program}{w:World}{env:Env}{e:Expr}{f:Str}{pos:Pos}{s:Shared}{Q:Yk}(hb:attributeBase e f env (eval e env)=eval e env)
 (h:wpAny (model prog w) A (eval e env) (λo s₁=>wpAny (model prog w) A (getAttr o f true) Q E s₁) E s):wpAny (model prog w) A (eval (.Attribute e f pos) env) Q E s:=
 Attribute_any_ h (by rw[arm_eval_Attribute,hb])
end
def gR(K:W.Frag)(ta:TE)(f:Str):TE:=λσ H Q=>ta σ H λx H1=>∃a C dx fs v,x=.ref a/\H1 a=some (.ins C dx fs)/\Cls K C/\aY K C f/\fs.lookup f=some v/\Q v H1
def uQ(K:W.Frag)(ta tv:TE)(f:Str):TS:=λD σ H=>tv σ H λy H1=>ta σ H1 λx H2=>∃a C dx fs,x=.ref a/\H2 a=some (.ins C dx fs)/\Cls K C/\aY K C f/\fs.length<1000 /\
 D.nx σ (upd H2 a (.ins C dx (bo f y fs)))
section
variable {X:Cx}{o e value:Expr}{f:Str}{pos pos' tpos:Pos}{ta tv:TE}
theorem oG(he:PE X e ta)(hb:attributeBase e f X.env (eval e X.env)=eval e X.env):PE X (.Attribute e f pos) (gR X.K ta f):=by
 intro pins s σ H Q I h;refine zC hb (thn (he pins s σ H _ I h) λu s1 ⟨x,H1,I1,rx,a,C,dx,fs,v,ex,ea,c,n,l,q⟩=>?_);subst ex;obtain rfl:u=Value.ref a:=rx;exact yK I1 ea c n l λu' s2 I2 ru=>⟨v,H1,I2,ru,q⟩
theorem bp(ha:PE X o ta)(hv:PE X value tv)(hs:swapsWith value (some (.Attribute o f pos')) pos.line X.env=pure false):PS X (.Assign [.Attribute o f pos'] value pos) (uQ X.K ta tv f):=by
 intro pins s σ H D I h;refine plainObj_wpAny_Assign_Attribute (thn (hv pins s σ H _ I h) λu s1 ⟨y,H1,I1,ry,q⟩=>thn (ha pins s1 σ H1 _ I1 q) λov s2 ⟨x,H2,I2,rx,a,C,dx,fs,ex,ea,c,n,l,q2⟩=>?_) hs;subst ex;obtain rfl:ov=Value.ref a:=rx;exact uc I2 ea c n l ry λs3 I3=>⟨σ,_,I3,q2⟩
theorem zQ{pl:Sem Bool}{m:Str}{apos:Pos}{args:List Expr}{pins:List (Addr×Obj)}{s:Shared}{σ:St}{H:Hp}{Q:Yk}{te:TE}(he:PE X e te)(I:Inv X pins σ H s)
 (h:te σ H λx H1=>∃a C dx fs g,x=.ref a/\H1 a=some (.ins C dx fs)/\Cls X.K C/\aG X.K C m g/\fs.lookup m=none /\
  ∀s1,Inv X pins σ H1 s1->wpAny (model X.prog X.w) X.A (callWith pos (.ref g) [.ref a] (backTo pos (starEach args X.env)) (backToKw pos (keywordEach [] X.env))) Q X.xe s1)
 (ht:eval (.Call (.Attribute e m apos) args [] pos) X.env=(do
  let ov <- eval e X.env
  standAt apos.atName
  let (f,first) <- holding [ov] (getMethod ov m pl)
  callWith pos f first (backTo pos (starEach args X.env)) (backToKw pos (keywordEach [] X.env)))):
 wpAny (model X.prog X.w) X.A (eval (.Call (.Attribute e m apos) args [] pos) X.env) Q X.xe s:=by
 refine PySem.W.methodCall_KW (pl:=pl) (thn (he pins s σ H _ I h) λu s1 ⟨x,H1,I1,rx,a,C,dx,fs,g,ex,ea,c,k,l,q⟩=>?_) ht;subst ex;obtain rfl:u=Value.ref a:=rx;exact iL I1 ea c k l (q s1 I1)
end
section
variable {X:Cx}{pins:List (Addr×Obj)}{σ:St}{H:Hp}{s:Shared}{A:Around}{E:Yk}{Q:Yk}{c:Value}{b:Bool}
inductive cK(K:W.Frag)(H:Hp):V->Value->Prop where
 |non:cK K H .non (.type "NoneType")
 |bl (x:Bool):cK K H (.bl x) (.type "bool")
 |int (i:Int):cK K H (.int i) (.type "int")
 |str (x:Str):cK K H (.str x) (.type "str")
 |flt (x:UInt64):cK K H (.flt x) (.type "float")
 |lst {a:Addr}{xs:List V}(e:H a=some (.lst xs)):cK K H (.ref a) (.type "list")
 |frz {a:Addr}{o:Obj}{xs:List V}(e:H a=some (.frz o (.lst xs))):cK K H (.ref a) (.type "list")
 |tup {a:Addr}{xs:List V}(e:H a=some (.tup xs)):cK K H (.ref a) (.type "tuple")
 |dK {a:Addr}{kvs:List (Key×V)}(e:H a=some (.dK kvs)):cK K H (.ref a) (.type "dict")
 |dT {a:Addr}{kvs:List (List Key×V)}(e:H a=some (.dT kvs)):cK K H (.ref a) (.type "dict")
 |ins {a C dx:Addr}{fs:List (Str×V)}(e:H a=some (.ins C dx fs)) (cl:Cls K C) (ha:PySem.W.findIn K (.ref C) "__class__"=some (some (.builtin "object.__class__")))
  (hn:PySem.W.specialIn K (.builtin "object.__class__") "__get__"=some (some (.builtin "getset_descriptor.__get__"))) (htk:PySem.W.takesIn K (.builtin "object.__class__")=some true)
  (hm:PySem.W.mroIn K C (.type "object")=some true):cK K H (.ref a) (.ref C)
theorem yz{x:V}{u t:Value}(I:Inv X pins σ H s)(rx:aB x u)(ty:cK X.K H x t)(e:PySem.W.kitOne X.K t c=some b)(h:∀tk,Q (.bool b) { s with toks:=tk }):
 wpAny (model X.prog X.w) A (call (.builtin "isinstance") [u,c]) Q E s:=by
 cases ty with
 |non=>cases(show u=Value.none from rx);exact Qw PySem.W.kitx_none I.kIn True.intro e (λz=>nomatch z) h
 |bl y=>cases(show u=Value.bool y from rx);exact Qw PySem.W.kitx_bool I.kIn True.intro e (λz=>nomatch z) h
 |int i=>obtain⟨t,q⟩:=(show ∃t,u=Value.int i t from rx);cases q;exact Qw PySem.W.kitx_int I.kIn True.intro e (λz=>nomatch z) h
 |str y=>obtain⟨t,q⟩:=(show ∃t,u=Value.str y t from rx);cases q;exact Qw PySem.W.kitx_str I.kIn True.intro e (λz=>nomatch z) h
 |flt y=>obtain⟨t,q⟩:=(show ∃t,u=Value.float y t from rx);cases q;exact Qw PySem.W.kitx_float I.kIn True.intro e (λz=>nomatch z) h
 |@lst a xs ea=>
  cases(show u=Value.ref a from rx);obtain⟨_,_,n,_,h1⟩:=(show bx X.prog X.w H s.heap a (.lst xs)from I.hok a _ ea);exact Qw PySem.W.kitx_list I.kIn ⟨_,h1,U⟩ e (λz=>nomatch z) h
 |@frz a ob xs ea=>
  cases(show u=Value.ref a from rx);obtain⟨_,_,_,n,_,h1⟩:=(show bx X.prog X.w H s.heap a (.frz ob (.lst xs))from I.hok a _ ea);exact Qw PySem.W.kitx_list I.kIn ⟨_,h1,U⟩ e (λz=>nomatch z) h
 |@tup a xs ea=>
  cases(show u=Value.ref a from rx);obtain⟨_,_,_,p⟩:=(show bx X.prog X.w H s.heap a (.tup xs)from I.hok a _ ea);obtain⟨o,h1,h2,_⟩:=p;exact Qw PySem.W.kitx_tuple I.kIn ⟨o,h1,h2⟩ e (λz=>nomatch z) h
 |@dK a kvs ea=>
  cases(show u=Value.ref a from rx);obtain⟨_,_,vs,_,p⟩:=(show bx X.prog X.w H s.heap a (.dK kvs)from I.hok a _ ea);obtain⟨o,es,ep,h1,h2,_⟩:=p;exact Qw PySem.W.kitx_dict I.kIn ⟨o,h1,h2.1⟩ e (λz=>nomatch z) h
 |@dT a kvs ea=>
  cases(show u=Value.ref a from rx);obtain⟨_,_,xs,_,o,es,ep,h1,h2,_⟩:=(show bx X.prog X.w H s.heap a (.dT kvs)from I.hok a _ ea);exact Qw PySem.W.kitx_dict I.kIn ⟨o,h1,h2.1⟩ e (λz=>nomatch z) h
 |@ins a C dx fs ea cl ha hn htk hm=>
  cases(show u=Value.ref a from rx);obtain⟨mA,O,_⟩:=iB I.hok ea;obtain⟨od,J,_⟩:=O.look;exact Qw (PySem.W.kitx_own (cl.get _) cl.hd ha hn htk hm) I.kIn J e (λz=>nomatch z) h
end
structure bw(k:Nat)(A:Around):Prop where
 hd:A.handled=none
 dp:A.depth+3 * k+5<recursionLimit
 un:A.units+16 * k+200<cLine
 gd:A.guards=some []
theorem bw.mono{j k:Nat}{A:Around}(r:bw k A)(h:j<=k):bw j A:=⟨r.hd,by have:=r.dp;omega,by have:=r.un;omega,r.gd⟩
theorem bw.deeper{k:Nat}{A:Around}(r:bw (k+1) A)(env:Env):bw k (A.deeper env):=
 ⟨r.hd,by have:=r.dp;show A.depth+1+3 * k+5<_;omega,by have:=r.un;show A.units+3+16 * k+200<_;omega,r.gd⟩
theorem xU{A:Around}{C:Addr}{us:List Value}{kw:List (Str×Value)}:(A.under (.builtin "type.__call__" ⟨.ref C::us,kw⟩)).depth=A.depth+1:=by
 first|rfl|simp[Around.under,Code.weight,Code.isCreation,Code.isGuard,Code.isCaller,Code.frames,Code.isFrame,guardIds]
theorem xR{A:Around}{C:Addr}{us:List Value}{kw:List (Str×Value)}:(A.under (.builtin "type.__call__" ⟨.ref C::us,kw⟩)).units=A.units+1:=by
 first|rfl|simp[Around.under,Code.cUnits,Code.frames,Code.isFrame]
theorem xT{A:Around}{C:Addr}{us:List Value}{kw:List (Str×Value)}:(A.under (.builtin "type.__call__" ⟨.ref C::us,kw⟩)).guards=A.guards:=by
 first|rfl|simp[Around.under,Code.guards,Code.isGuard,guardIds,Around.pushGuards]
theorem bw.make{k:Nat}{A:Around}(r:bw (k+1) A)(C:Addr)(us:List Value)(kw:List (Str×Value)):bw k (A.under (.builtin "type.__call__" ⟨.ref C::us,kw⟩)):=
 ⟨r.hd,by have:=r.dp;rw[xU];omega,by have:=r.un;rw[xR];omega,by rw[xT];exact r.gd⟩
theorem bw.depth{k:Nat}{A:Around}(r:bw k A):A.depth<recursionLimit:=by have:=r.dp;omega
theorem bw.units{k:Nat}{A:Around}(r:bw k A):A.units+64<cLine:=by have:=r.un;omega
def j5:TA:=λ_ H Q=>Q [] H
def tN(ta:TE)(tr:TA):TA:=λσ H Q=>ta σ H λx H1=>tr σ H1 λxs H2=>Q (x::xs) H2
section
variable {X:Cx}{e:Expr}{es:List Expr}{te:TE}{t:TA}{pos:Pos}
theorem ac:PA X [] j5:=λ_ _ _ _ H Q I h=>Calls.spliced_nil ⟨[],H,I,.nil,h⟩
theorem a8(ha:PE X e te)(hr:PA X es t)(hs:starEach (e::es) X.env=(false,eval e X.env)::starEach es X.env:=by rfl):PA X (e::es) (tN te t):=by
 intro pos pins s σ H Q I h;rw[hs];show wpAny _ _ (spliced ((false,eval e X.env)::backTo pos (starEach es X.env))) _ _ s;refine Calls.spliced_cons (thn (ha pins s σ H _ I h) λu s1 ⟨x,H1,I1,r1,q1⟩=>?_);exact thn (hr pos pins s1 σ H1 _ I1 q1) λus s2 ⟨xs,H2,I2,r2,q2⟩=>⟨x::xs,H2,I2,.cons r1 r2,q2⟩
def j2(t:TA):TE:=λσ H Q=>t σ H λxs H1=>xs.length<=sizeLine/\∀p,H1 p=none->Q (.ref p) (upd H1 p (.tup xs))
def j6(t:TA):TE:=λσ H Q=>t σ H λxs H1=>xs.length<=sizeLine/\∀p,H1 p=none->Q (.ref p) (upd H1 p (.lst xs))
theorem vS{x1}(h:PA X es t):PE X (.Tuple es x1 pos) (j2 t):=by
 intro pins s σ H Q I hq;refine wpAny_Tuple_spliced (thn (h pos pins s σ H _ I hq) λus s1 ⟨xs,H1,I1,r,z,q⟩=>⟨by rw[<- r.length];exact z,?_⟩);have hf:H1 s1.heap.objs.size=none:=I1.hok.fresh (qe _);refine⟨.ref s1.heap.objs.size,upd H1 s1.heap.objs.size (.tup xs),I1.laid (t':=s1.toks) (λb u e=>qa _ e) (qe _) ?_,U,q _ hf⟩;exact⟨z,us,r,⟨_,qp _ U,U,_,U⟩⟩
theorem vU(h:PA X es t):PE X (.List es pos) (j6 t):=by
 intro pins s σ H Q I hq;refine wpAny_List_spliced (thn (h pos pins s σ H _ I hq) λus s1 ⟨xs,H1,I1,r,z,q⟩=>⟨by rw[<- r.length];exact z,?_⟩);have hf:H1 s1.heap.objs.size=none:=I1.hok.fresh (qe _);refine⟨.ref s1.heap.objs.size,upd H1 s1.heap.objs.size (.lst xs),I1.laid (t':=s1.toks) (λb u e=>qa _ e) (qe _) ?_,U,q _ hf⟩;exact⟨z,us,0,r,qp _ U⟩
end
abbrev Sp:=List V->Hp->VK->XK->Prop
abbrev CXT:=List Env->Hp->Shared->XK->Value->Shared->Prop
structure fb(P:Program)(w:World)(K:W.Frag)(mg:Str->Option Value)(base:Heap)(A:Around)(outer:List Env)(s:Shared)(H:Hp):Prop where
 frames:A.frames=some outer
 mod:Mod K mg base
 bs:∀b o,base.get? b=some o->s.heap.get? b=some o/\H b=none
 bsz:base.objs.size<=s.heap.objs.size
 funs:s.heap.FunFrames base outer
 frf:∀b∈frs outer,H b=none
 hok:HOk P w H s.heap
 bare:AllBare s.gens
def CE(outer:List Env)(P:Program)(w:World)(H:Hp)(s:Shared)(Q:VK)(u:Value)(s':Shared):Prop:=
 ∃v H',s'.os=s.os/\AllBare s'.gens/\Un (frs outer) [] H H' s.heap s'.heap/\HOk P w H' s'.heap/\aB v u/\Q v H'
def CR(CX:CXT)(outer:List Env)(P:Program)(w:World)(H:Hp)(s:Shared)(Q:VK)(E:XK)(r:Result)(s':Shared):Prop:=
 match r with
 |.ok (.ret u)=>CE outer P w H s Q u s'
 |.ok _=>False
 |.error e=>CX outer H s E e s'
structure aC(P:Program)(w:World)(K:W.Frag)(mg:Str->Option Value)(base:Heap)(CX:CXT)(k:Nat)(f:Addr)(fd:FuncData)(ps:List Str)(sp:Sp):Prop where
 len:∀vs H Q E,sp vs H Q E->vs.length=ps.length
 run:∀(A:Around)(outer:List Env)(s:Shared)(H:Hp)(args:Args)(us:List Value)(vs:List V)(Q:VK)(E:XK),bw k A->fb P w K mg base A outer s H->BindsTo s fd args (ps.zip us)->ao vs us->sp vs H Q E->
  codeAny (model P w) A (.call (.ref f) args) (CR CX outer P w H s Q E) s
theorem fb.make{P:Program}{w:World}{K:W.Frag}{mg:Str->Option Value}{base:Heap}{A:Around}{outer:List Env}{s:Shared}{H:Hp}(e:fb P w K mg base A outer s H)(C:Addr)(us:List Value)(kw:List (Str×Value)):
 fb P w K mg base (A.under (.builtin "type.__call__" ⟨.ref C::us,kw⟩)) outer s H:=⟨by first|exact e.frames|(simpa[Around.under,Code.envs,Code.isFrame,pushEnvs]using e.frames),e.mod,e.bs,e.bsz,e.funs,e.frf,e.hok,e.bare⟩
section
variable {X:Cx}{pins:List (Addr×Obj)}{σ:St}{H:Hp}{s s':Shared}
theorem Inv.env0(I:Inv X pins σ H s):fb X.prog X.w X.K X.mg X.base X.A X.stack s H:=
 ⟨I.ok.frames,I.ok.mod,I.bs,qy I.ok.bsz I.sz,I.stack,I.stkFree,I.hok,I.bare⟩
theorem Inv.after{Q:VK}{u:Value}(I:Inv X pins σ H s)(h:CE X.stack X.prog X.w H s Q u s'):EP X pins σ Q u s':=by
 obtain⟨v,H',os,bare,un,hok,r,q⟩:=h;obtain⟨hh,g,d,t,os'⟩:=s';obtain rfl:os'=s.os:=os;exact⟨v,H',I.call (h':=hh) (g':=g) (d':=d) (t':=t) (ch:=[]) un hok bare (λb z=>Q4 z (by simp)),r,q⟩
end
def mh(sp:Sp)(dvs:List V)(E:XK)(t:TA):TE:=λσ H Q=>t σ H λvs H1=>sp (vs++dvs) H1 Q E
def me(C:Addr)(m:Str)(sp:Sp)(dvs:List V)(E:XK)(ta:TE)(t:TA):TE:=λσ H Q=>ta σ H λx H1=>∃a dx fs,x=.ref a/\H1 a=some (.ins C dx fs)/\fs.lookup m=none /\
 t σ H1 λvs H2=>sp (x::(vs++dvs)) H2 Q E
def tE(C:Addr)(sp:Sp)(dvs:List V)(E:XK)(t:TA):TE:=λσ H Q=>t σ H λvs H1=>∀x dx,H1 x=none->H1 dx=none->dx≠x->
 sp (.ref x::(vs++dvs)) (upd (upd H1 dx (.own x)) x (.ins C dx [])) (λv H2=>v=.non/\Q (.ref x) H2) E
def aD(K:W.Frag)(fd:FuncData)(ps:List Str)(ds:List Value):Prop:=
 ∀(s:Shared)(us:List Value),K.In s.heap->(us++ds).length=ps.length->BindsTo s fd ⟨us,[]⟩ (ps.zip (us++ds))
theorem aD.all{K:W.Frag}{fd:FuncData}{ps:List Str}(h:∀us:List Value,us.length=ps.length->bindArgs fd ⟨us,[]⟩=pure (ps.zip us)):aD K fd ps []:=λs us _ hl=>by
 rw[qx]at hl ⊢;exact .of_eq (h us hl)
def eB(CX:CXT)(X:Cx)(E:XK):Prop:=∀(pins:List (Addr×Obj))(σ:St)(H:Hp)(s:Shared)(e:Value)(s':Shared),Inv X pins σ H s->CX X.stack H s E e s'->X.xe e s'
section
variable {X:Cx}{CX:CXT}{k:Nat}{f C:Addr}{fd:FuncData}{ps:List Str}{sp:Sp}{dvs:List V}{ds:List Value}{E:XK}{x m:Str}{p pos apos:Pos}{e o:Expr}{es:List Expr}{ta:TE}{t:TA}
theorem gm{pins:List (Addr×Obj)}{σ:St}{H:Hp}{s:Shared}{Q:VK}{us:List Value}{vs:List V}(F:aC X.prog X.w X.K X.mg X.base CX k f fd ps sp)(hr:bw k X.A)(hb:aD X.K fd ps ds)(hd:ao dvs ds)(hx:eB CX X E)
 (I:Inv X pins σ H s) (r:ao vs us) (h:sp (vs++dvs) H Q E):wpAny (model X.prog X.w) X.A (call (.ref f) us) (EP X pins σ Q) X.xe s:=by
 have r2:ao (vs++dvs) (us++ds):=r.append hd;have hl:(us++ds).length=ps.length:=by rw[<- r2.length];exact F.len _ _ _ _ h
 refine wpAny_call (codeAny_mono (F.run X.A X.stack s H ⟨us,[]⟩ (us++ds) (vs++dvs) Q E hr I.env0 (hb s us I.kIn hl) r2 h) λr s' hq=>?_)
 cases r with
 |error e=>exact hx pins σ H s e s' I hq
 |ok fl=>
  cases fl with
  |ret u=>exact I.after hq
  |next=>exact False.elim hq
  |brk=>exact False.elim hq
  |cont=>exact False.elim hq
theorem aR(F:aC X.prog X.w X.K X.mg X.base CX k f fd ps sp)(hr:bw k X.A)(hg:Gl X x)(hm:X.mg x=some (.ref f))(hk:PySem.W.keepIn X.K (.ref f)=true)(hb:aD X.K fd ps ds)(hd:ao dvs ds)(hx:eB CX X E)
 (ha:PA X (e::es) t) (hdb:(x == ("__debug__":Str))=false:=by decide) (he:starEach (e::es) X.env=(false,eval e X.env)::starEach es X.env:=by rfl) (hpl:(backTo pos (starEach es X.env)).any (·.1)=false:=by rfl):
 PE X (.Call (.Name x p) (e::es) [] pos) (mh sp dvs E t):=by
 intro pins s σ H Q I h;refine wpAny_Call_Name_kw (iw I hg hm ?_ hdb);refine PySem.W.callWith_K (h₀:=X.base) I.ok.mod.kin hk (thn (ha pos pins s σ H _ I h) λus s1 ⟨vs,H1,I1,r,q⟩=>⟨I1.kIn,?_⟩) he hpl;exact gm F hr hb hd hx I1 r q
theorem cU{pl:Sem Bool}(he:PE X o ta)(c:Cls X.K C)(hm:aG X.K C m f)(F:aC X.prog X.w X.K X.mg X.base CX k f fd ps sp)(hr:bw k X.A)(hb:aD X.K fd ps ds)(hd:ao dvs ds)(hx:eB CX X E)(ha:PA X (e::es) t)
 (hst:starEach (e::es) X.env=(false,eval e X.env)::starEach es X.env:=by rfl) (hpl:(backTo pos (starEach es X.env)).any (·.1)=false:=by rfl)
 (ht:eval (.Call (.Attribute o m apos) (e::es) [] pos) X.env=(do
  let ov <- eval o X.env
  standAt apos.atName
  let (f,first) <- holding [ov] (getMethod ov m pl)
  callWith pos f first (backTo pos (starEach (e::es) X.env)) (backToKw pos (keywordEach [] X.env))):=by rfl):
 PE X (.Call (.Attribute o m apos) (e::es) [] pos) (me C m sp dvs E ta t):=by
 intro pins s σ H Q I h;refine PySem.W.methodCall_KW (pl:=pl) (thn (he pins s σ H _ I h) λu s1 ⟨x,H1,I1,rx,a,dx,fs,ex,ea,l,q⟩=>?_) ht;subst ex;obtain rfl:u=Value.ref a:=rx;refine iL I1 ea c hm l ?_;refine PySem.W.callWith_K (first:=[.ref a]) (h₀:=X.base) I.ok.mod.kin hm.kp (thn (ha pos pins s1 σ H1 _ I1 q) λus s2 ⟨vs,H2,I2,r,q2⟩=>⟨I2.kIn,?_⟩) hst hpl;exact gm (us:=.ref a::us) (vs:=.ref a::vs) F hr hb hd hx I2 (.cons U r) q2
theorem eO{pl:Sem Bool}(he:PE X o ta)(c:Cls X.K C)(hm:aG X.K C m f)(F:aC X.prog X.w X.K X.mg X.base CX k f fd ps sp)(hr:bw k X.A)(hb:aD X.K fd ps ds)(hd:ao dvs ds)(hx:eB CX X E)
 (ht:eval (.Call (.Attribute o m apos) [] [] pos) X.env=(do
  let ov <- eval o X.env
  standAt apos.atName
  let (f,first) <- holding [ov] (getMethod ov m pl)
  callWith pos f first (backTo pos (starEach [] X.env)) (backToKw pos (keywordEach [] X.env))):=by rfl):
 PE X (.Call (.Attribute o m apos) [] [] pos) (me C m sp dvs E ta j5):=by
 intro pins s σ H Q I h;refine PySem.W.methodCall_KW (pl:=pl) (thn (he pins s σ H _ I h) λu s1 ⟨x,H1,I1,rx,a,dx,fs,ex,ea,l,q⟩=>?_) ht;subst ex;obtain rfl:u=Value.ref a:=rx;refine iL I1 ea c hm l ?_;exact PySem.W.callWith_K0 (first:=[.ref a]) I1.kIn hm.kp (gm (us:=[.ref a]) (vs:=[.ref a]) F hr hb hd hx I1 (.cons U .nil) q)
structure Mk(K:W.Frag)(C f:Addr):Prop where
 makes:PySem.W.makesIn K C=true
 init:PySem.W.findIn K (.ref C) "__init__"=some (some (.ref f))
 fn:PySem.W.isFn K (.ref f)=true
 kp:PySem.W.keepIn K (.ref C)=true
theorem uR{pins:List (Addr×Obj)}{σ:St}{H:Hp}{s:Shared}{Q:VK}{us:List Value}{vs:List V}(M:Mk X.K C f)(F:aC X.prog X.w X.K X.mg X.base CX k f fd ps sp)(hr:bw (k+1) X.A)(hb:aD X.K fd ps ds)(hd:ao dvs ds)
 (hx:eB CX X E) (I:Inv X pins σ H s) (r:ao vs us)
 (h:∀x dx,H x=none->H dx=none->dx≠x->sp (.ref x::(vs++dvs)) (upd (upd H dx (.own x)) x (.ins C dx [])) (λv H2=>v=.non/\Q (.ref x) H2) E):
 wpAny (model X.prog X.w) X.A (call (.ref C) us) (EP X pins σ Q) X.xe s:=by
 have hq:=h (s.heap.objs.size+1) s.heap.objs.size (I.hok.fresh (Nat.le_succ _)) (I.hok.fresh (qe _)) (qG (Qa _));have I2:=Inv.made (C:=C) I;have r2:ao (V.ref (s.heap.objs.size+1)::(vs++dvs)) (Value.ref (s.heap.objs.size+1)::(us++ds)):=.cons U (r.append hd)
 have hl:(Value.ref (s.heap.objs.size+1)::us++ds).length=ps.length:=by
  have e:=r2.length;rw[F.len _ _ _ _ hq]at e;exact e.symm
 refine wpAny_call (xS (f:=f) I.kIn M.makes M.init (beq_iff_eq.mp M.fn) (codeAny_mono (F.run _ X.stack _ _ ⟨Value.ref (s.heap.objs.size+1)::us,[]⟩ (Value.ref (s.heap.objs.size+1)::(us++ds)) _ _ E (hr.make C us [])
  (I2.env0.make C us []) (hb _ (Value.ref (s.heap.objs.size+1)::us) I2.kIn hl) r2 hq) λr s' hq'=>?_))
 cases r with
 |error e=>exact hx pins σ _ _ e s' I2 hq'
 |ok fl=>
  cases fl with
  |ret u=>
   obtain⟨v,H',I3,rv,ev,q3⟩:=I2.after hq';subst ev;exact⟨rv,⟨V.ref (s.heap.objs.size+1),H',I3,U,q3⟩⟩
  |next=>exact False.elim hq'
  |brk=>exact False.elim hq'
  |cont=>exact False.elim hq'
theorem eP(M:Mk X.K C f)(F:aC X.prog X.w X.K X.mg X.base CX k f fd ps sp)(hr:bw (k+1) X.A)(hg:Gl X x)(hm:X.mg x=some (.ref C))(hb:aD X.K fd ps ds)(hd:ao dvs ds)(hx:eB CX X E)
 (ha:PA X (e::es) t) (hdb:(x == ("__debug__":Str))=false:=by decide) (he:starEach (e::es) X.env=(false,eval e X.env)::starEach es X.env:=by rfl) (hpl:(backTo pos (starEach es X.env)).any (·.1)=false:=by rfl):
 PE X (.Call (.Name x p) (e::es) [] pos) (tE C sp dvs E t):=by
 intro pins s σ H Q I h;refine wpAny_Call_Name_kw (iw I hg hm ?_ hdb);refine PySem.W.callWith_K (h₀:=X.base) I.ok.mod.kin M.kp (thn (ha pos pins s σ H _ I h) λus s1 ⟨vs,H1,I1,r,q⟩=>⟨I1.kIn,?_⟩) he hpl;exact uR M F hr hb hd hx I1 r q
end
section
variable {X:Cx}{CX:CXT}{k:Nat}{f C:Addr}{fd:FuncData}{ps ks:List Str}{sp:Sp}{E:XK}{x m:Str}{p pos apos kpos:Pos}{e o:Expr}{es:List Expr}{kws:List Keyword}{te ta:TE}{t tk:TA}{nm:Option Str}
variable {g:List Value->List Value->List Value}{gV:List V->List V->List V}
end
structure aH(N P:List Str)(sc:Scope):Prop where
 kind:sc.kind=.function
 co:sc.isCoroutine=false
 gen:sc.isGenerator=false
 nd:N.Nodup
 pre:N.take P.length=P
 par:∀x∈P,sc.names.lookup x=some .local\/sc.names.lookup x=some .cell
 nofree:∀y∈sc.names,y.2≠.free
theorem rT{kindOf:Str->Option NameKind}{x:Str}:∀{binds:List (Str×Value)}{m:Str->Option Value},(∀v,(x,v)∉binds)->bindL kindOf binds m x=m x
 |[],_,_=>rfl
 |(n,v)::r,m,h=>by
  unfold bindL;rw[rT λw hw=>h w (qk _ hw)];split
  ·have:x≠n:=by rintro rfl;exact h v qm
   simp[this]
  ·rfl
theorem rV{kindOf:Str->Option NameKind}{x:Str}:∀{binds:List (Str×Value)}{m:Str->Option Value},(∀v,(x,v)∉binds)->bindC kindOf binds m x=m x
 |[],_,_=>rfl
 |(n,v)::r,m,h=>by
  unfold bindC;rw[rV λw hw=>h w (qk _ hw)];split
  ·rfl
  ·have:x≠n:=by rintro rfl;exact h v qm
   simp[this]
theorem rU{kindOf:Str->Option NameKind}{x:Str}{v:Value}:∀{P:List Str}{vs:List Value}{i:Nat}{m:Str->Option Value},P.Nodup->P[i]?=some x->vs[i]?=some v->kindOf x=some .local->
 bindL kindOf (P.zip vs) m x=some v
 |[],_,_,_,_,h,_,_=>by simp at h
 |_::_,[],_,_,_,_,h,_=>by simp at h
 |p::P,w::vs,0,m,nd,h1,h2,hk=>by
  simp at h1 h2;subst h1;subst h2;show bindL kindOf ((p,w)::P.zip vs) m p=_;unfold bindL;rw[rT λv hv=>(List.nodup_cons.mp nd).1 (List.of_mem_zip hv).1,Q0 hk];simp
 |p::P,w::vs,i+1,m,nd,h1,h2,hk=>by
  show bindL kindOf ((p,w)::P.zip vs) m x=_;unfold bindL;exact rU (i:=i) (List.nodup_cons.mp nd).2 (by simpa using h1) (by simpa using h2) hk
theorem rW{kindOf:Str->Option NameKind}{x:Str}{v:Value}:∀{P:List Str}{vs:List Value}{i:Nat}{m:Str->Option Value},P.Nodup->P[i]?=some x->vs[i]?=some v->kindOf x≠some .local->
 bindC kindOf (P.zip vs) m x=some v
 |[],_,_,_,_,h,_,_=>by simp at h
 |_::_,[],_,_,_,_,h,_=>by simp at h
 |p::P,w::vs,0,m,nd,h1,h2,hk=>by
  simp at h1 h2;subst h1;subst h2;show bindC kindOf ((p,w)::P.zip vs) m p=_;unfold bindC;rw[rV λv hv=>(List.nodup_cons.mp nd).1 (List.of_mem_zip hv).1,qZ hk];simp
 |p::P,w::vs,i+1,m,nd,h1,h2,hk=>by
  show bindC kindOf ((p,w)::P.zip vs) m x=_;unfold bindC;exact rW (i:=i) (List.nodup_cons.mp nd).2 (by simpa using h1) (by simpa using h2) hk
def start(N:List Str)(vs:List V):St:=vs.map some++List.replicate (N.length-vs.length) none
def dD(CX:CXT)(P:Program)(w:World)(K:W.Frag)(mg:Str->Option Value)(base:Heap)(N:List Str)(qual:Str)(scope:Scope)(f:Addr)(cd:Value)(A:Around)(outer:List Env)(s:Shared)(H:Hp)(E:XK):Cx where
 prog:=P
 w:=w
 K:=K
 mg:=mg
 base:=base
 A:=A.deeper (envOfC qual scope s.heap.objs.size f cd)
 N:=N
 s₀:=s
 H₀:=H
 env:=envOfC qual scope s.heap.objs.size f cd
 outer:=outer
 stack:=envOfC qual scope s.heap.objs.size f cd::outer
 ex:=[]
 calm:=true
 fn:=λ_=>true
 pn:=[]
 xe:=λe s'=>wpAny (model P w) (A.deeper (envOfC qual scope s.heap.objs.size f cd)) (leaving (envOfC qual scope s.heap.objs.size f cd) e) (λ_ s''=>CX outer H s E e s'') (λe' s''=>CX outer H s E e' s'') s'
theorem rO{sc:Scope}{n:Nat}{x:Str}(h:sc.names.lookup x=some .cell):∃c,(cellsFrom n sc.names []).lookup x=some c:=by
 have q:=PySem.W.cellsFrom_some sc.names n [] (.inl h);exact Option.isSome_iff_exists.mp q
theorem yB{CX:CXT}{P:Program}{w:World}{K:W.Frag}{mg:Str->Option Value}{base:Heap}{N ps:List Str}{qual:Str}{scope:Scope}{f:Addr}{cd:Value}{A:Around}{outer:List Env}{s s1:Shared}{H:Hp}{E:XK}{us:List Value}{vs:List V}
 (S:aH N ps scope) (hd:A.handled=none) (e0:fb P w K mg base A outer s H) (hl:vs.length=ps.length) (r:ao vs us)
 (x:InCallC s s.heap.objs.size (bindL (envOfC qual scope s.heap.objs.size f cd).kindOf (ps.zip us) λ_=>none) (cellsFrom (s.heap.objs.size+1) scope.names []) (bindC (envOfC qual scope s.heap.objs.size f cd).kindOf (ps.zip us) λ_=>none) s1):
 Inv (dD CX P w K mg base N qual scope f cd A outer s H E) [] (start N vs) H s1:=by
 have hpl:ps.length<=N.length:=by have:=congrArg List.length S.pre;rw[qK]at this;omega
 obtain⟨h1,tk,rfl,hk⟩:=x.done;have noA:∀b:Addr,b∉(dD CX P w K mg base N qual scope f cd A outer s H E).ex:=λb z=>Q4 (show b∈([]:List Addr)from z) (by simp)
 refine⟨⟨e0.mod,S.kind,U,U,qe _,λy z c h1 h2=>?_,λy hy=>?_,λy c _ h=>?_,λ_=>hd,Around.frames_deeper e0.frames,.inr ⟨U,U⟩,λb z=>Q4 z (noA b),e0.bs,e0.bsz,λb _ _=>noA b,λb z=>Q4 z (noA b),e0.funs,e0.frf⟩,
  rfl,e0.bare,Un.kept hk,⟨_,x.toInCall.ns,λi y v h1 h2 h3=>?_⟩,λy c h=>⟨_,x.cell y c h⟩,e0.hok.fresh (qe _),λy c h=>?_,λp hp=>Q4 (show p∈([]:List (Addr×Obj))from hp) (by simp),e0.hok.kept hk,?_⟩
 ·exact name_of_addr x.apart (Qh h1) (Qh h2)
 ·have hy:scope.names.lookup y=some .cell\/scope.names.lookup y=some .free:=hy;rcases hy with hy|hy
  ·exact rO hy
  ·exact Q4 U (S.nofree _ (Qh hy))
 ·exact Nat.le_of_lt (x.above y c (Qh h))
 ·have hi:i<vs.length:=by
   unfold start at h2;by_cases hi:i<vs.length
   ·exact hi
   ·rw[qL (by simpa using hi)]at h2;rw[List.getElem?_replicate]at h2;split at h2<;>cases h2
  have ha:vs[i]?=some v:=by
   unfold start at h2;rw[Q5 (by simpa using hi),qE]at h2
   cases e:vs[i]? with
   |none=>rw[e]at h2;cases h2
   |some a=>rw[e]at h2;cases h2;rfl
  obtain⟨u,hu,rv⟩:=r.get ha
  have hp:ps[i]?=some y:=by
   rw[<- S.pre,List.getElem?_take_of_lt Yd];exact h1
  have ndP:ps.Nodup:=by rw[<- S.pre];exact S.nd.sublist (List.take_sublist _ _)
  refine⟨u,rv,?_⟩;rcases S.par y (qz hp)with k|k
  ·exact .inl ⟨k,rU ndP hp hu k⟩
  ·obtain⟨c,e⟩:=rO (n:=s.heap.objs.size+1) k;refine .inr ⟨.inl k,c,e,?_⟩;have q:=x.cell y c e;rw[rW ndP hp hu (by show scope.names.lookup y≠_;rw[k];decide)]at q;exact q
 ·exact e0.hok.fresh (Nat.le_of_lt (x.above y c (Qh h)))
 ·unfold start;show _=N.length;rw[qb,q9,List.length_replicate];omega
theorem rC{CX:CXT}{P:Program}{w:World}{K:W.Frag}{mg:Str->Option Value}{base:Heap}{k:Nat}{f:Addr}{name qual:Str}{params:Arguments}{body:List Stmt}{scope:Scope}{dV kV doc pm cdv ct oc:Value}{an od:Option Addr}
 {osl:Array (Option Value)}{N ps:List Str}{sp:Sp}(lk:K.lookup f=some ⟨oc,od,.func (PySem.W.fnOf name qual params body scope dV kV doc pm an cdv ct),osl⟩) (hcd:PySem.W.codeIn K cdv qual=true) (S:aH N ps scope)
 (len:∀vs H Q E,sp vs H Q E->vs.length=ps.length)
 (hbody:∀(A:Around)(outer:List Env)(s:Shared)(H:Hp)(vs:List V)(Q:VK)(E:XK),bw k (A.deeper (envOfC qual scope s.heap.objs.size f cdv))->sp vs H Q E->
  ∃t,PSs (dD CX P w K mg base N qual scope f cdv A outer s H E) body t/\t { nx:=λ_ H'=>Q .non H',rt:=Q } (start N vs) H):
 aC P w K mg base CX (k+1) f (PySem.W.fnOf name qual params body scope dV kV doc pm an cdv ct) ps sp:=by
 refine⟨len,λA outer s H args us vs Q E hr e0 hb r hsp=>?_⟩;have hl:=len _ _ _ _ hsp;have KX:K.In s.heap:=e0.mod.kin.keeps λb o e=>(e0.bs b o e).1;have lim:s.heap.NoLimit:=e0.mod.nolimit.keeps λb o e=>(e0.bs b o e).1
 have hkind:∀y∈ps.zip us,scope.names.lookup y.1=some .local\/(scope.names.lookup y.1=some .cell/\((cellsFrom (s.heap.objs.size+1) scope.names []).lookup y.1).isSome=true):=λ⟨n,v⟩ hy=>by
  rcases S.par n (List.of_mem_zip hy).1 with q|q
  ·exact .inl q
  ·exact .inr ⟨q,PySem.W.cellsFrom_some _ _ _ (.inl q)⟩
 refine codeAny_call_function hr.depth (KX _ _ lk) U S.co S.gen U (PySem.W.codeRec_of KX hcd) (hb _ _ _ _ ?_);refine wpAny_newFunctionEnv_cells S.kind hkind λenv he s1 x=>?_;subst he;refine⟨lim.keeps x.toInCall.keep,codeAny_func ?_⟩;obtain⟨t,ht,hq⟩:=hbody A outer s H vs Q E (hr.deeper _) hsp;have I:Inv (dD CX P w K mg base N qual scope f cdv A outer s H E) [] (start N vs) H s1:=yB S hr.hd e0 hl r x;refine wpAny_mono (ht [] s1 (start N vs) H _ I hq) (λfl s' hs=>?_) λe s' hs=>hs
 have fin:∀{σ':St}{H':Hp}{v:V}{u:Value},Inv (dD CX P w K mg base N qual scope f cdv A outer s H E) [] σ' H' s'->aB v u->Q v H'->CE outer P w H s Q u s':=
  λ{σ' H' v u} J rv q=>⟨v,H',J.os,J.bare,J.base,J.hok,rv,q⟩
 cases fl with
 |ret u=>
  obtain⟨v,σ',H',J,rv,q⟩:=hs;exact fin J rv q
 |next=>
  obtain⟨σ',H',J,q⟩:=hs;exact fin (v:=V.non) (u:=Value.none) J U q
 |brk=>
  obtain⟨_,_,_,q⟩:=hs;exact False.elim q
 |cont=>
  obtain⟨_,_,_,q⟩:=hs;exact False.elim q
section
variable {X:Cx}{x:Str}{p pos:Pos}{e:Expr}{es:List Expr}{t:TA}{id T:String}{r:List V->Hp->VK->Prop}
def tCB(r:List V->Hp->VK->Prop)(t:TA):TE:=λσ H Q=>t σ H λvs H1=>r vs H1 Q
theorem bz(hc:bZ X (.builtin id) r)(hg:Gl X x)(hm:X.mg x=none)(hv:bootBuiltins x=some (.builtin id))(ha:PA X (e::es) t)(hn:x≠"__name__":=by decide)(hdb:(x == ("__debug__":Str))=false:=by decide)
 (he:starEach (e::es) X.env=(false,eval e X.env)::starEach es X.env:=by rfl) (hpl:(backTo pos (starEach es X.env)).any (·.1)=false:=by rfl):PE X (.Call (.Name x p) (e::es) [] pos) (tCB r t):=by
 intro pins s σ H Q I h;refine wpAny_Call_Name_kw (di I hg hm hv ?_ hn hdb);exact PyProof.Rows.callWith_builtin1 (thn (ha pos pins s σ H _ I h) λus s1 ⟨vs,H1,I1,r1,q1⟩=>hc pins s1 σ H1 vs us Q I1 r1 q1) he hpl
theorem fD(hc:bZ X (.type T) r)(hg:Gl X x)(hm:X.mg x=none)(hv:bootBuiltins x=some (.type T))(ha:PA X (e::es) t)(hn:x≠"__name__":=by decide)(hdb:(x == ("__debug__":Str))=false:=by decide)
 (he:starEach (e::es) X.env=(false,eval e X.env)::starEach es X.env:=by rfl) (hpl:(backTo pos (starEach es X.env)).any (·.1)=false:=by rfl):PE X (.Call (.Name x p) (e::es) [] pos) (tCB r t):=by
 intro pins s σ H Q I h;refine wpAny_Call_Name_kw (di I hg hm hv ?_ hn hdb);exact PyProof.Rows.callWith_type1 (thn (ha pos pins s σ H _ I h) λus s1 ⟨vs,H1,I1,r1,q1⟩=>hc pins s1 σ H1 vs us Q I1 r1 q1) he hpl
end
end L2
namespace HT
open PySem PyProof.Rows
section
open PySem.SeqAt
open PySem.AutoSeq1 (wpAny_loadPart')
open PySem.MeetsSeq PySem.MeetsSeq2 PySem.MeetsSeq3
end
section
variable {prog:Program}{w:World}{A:Around}{E:Yk}{s:Shared}
theorem cat_tup{t b:Addr}{vs ws:List Value}{Q:Yk}(ht:IsTup s.heap t vs.toArray)(hb:IsTup s.heap b ws.toArray)(hv:vs≠[])
 (h1:ws=[]->Q (.ref t) s) (h2:ws≠[]->Q (.ref s.heap.objs.size) { s with heap:=s.heap.push { cls:=.type "tuple",data:=.seq (vs++ws).toArray } })
 (hsz:vs.length+ws.length<=sizeLine):wpAny (model prog w) A (binaryOp .Add (.ref t) (.ref b)) Q E s:=by
 obtain⟨⟨cls,dd,data,sl⟩,ho,hc,n,hd⟩:=id ht;obtain⟨⟨cls2,dd2,data2,sl2⟩,ho2,hc2,n2,hd2⟩:=id hb;simp only at hc hd hc2 hd2;subst hc hd hc2 hd2;have e:vs.toArray++ws.toArray=(vs++ws).toArray:=by simp
 by_cases hw:ws=[]
 ·exact concat_meets ⟨_,ho,U⟩ ⟨_,ho2,U⟩ noFill_tuple_add seq_tuple_add PySem.F.slot_tuple_add PySem.F.entry_tuple_add (PySem.F.args_tuple_add_2 _ _)
   (tuple_addW1 t b vs.toArray ws.toArray n n2 dd dd2 sl sl2 (by simpa using hv) (by simp[hw])) ⟨ho,ho2,h1 hw⟩
 ·refine concat_meets ⟨_,ho,U⟩ ⟨_,ho2,U⟩ noFill_tuple_add seq_tuple_add PySem.F.slot_tuple_add PySem.F.entry_tuple_add (PySem.F.args_tuple_add_2 _ _)
   (tuple_addW2 t b vs.toArray ws.toArray n n2 dd dd2 sl sl2 (by simpa using hv) (by simpa using hw) (by rw[qC,qC];exact hsz)) ⟨ho,ho2,?_⟩
  rw[e];exact h2 hw
def sIx(n d:Nat):Option Int->Nat
 |none=>d
 |some v=>if v<0 then(v+(n:Int)).toNat else min v.toNat n
theorem sIx_nat(n d k:Nat):sIx n d (some (k:Int))=min k n:=by
 show(if(k:Int)<0 then((k:Int)+(n:Int)).toNat else min (k:Int).toNat n)=min k n;rw[qZ Yd,qX]
theorem uP(n d:Nat)(hd:d<=n)(o:Option Int):sIx n d o<=n:=by
 cases o with
 |none=>exact hd
 |some v=>
  show(if v<0 then(v+(n:Int)).toNat else min v.toNat n)<=n;by_cases hv:v<0
  ·rw[Q0 hv];omega
  ·rw[qZ hv];exact Nat.min_le_right _ _
theorem rN(v:Int)(n d:Nat):(if v<0 then max (v+(n:Int)) 0 else min v (n:Int))=((sIx n d (some v):Nat):Int):=by
 show(if v<0 then max (v+(n:Int)) 0 else min v (n:Int))=(((if v<0 then(v+(n:Int)).toNat else min v.toNat n):Nat):Int);by_cases hv:v<0
 ·simp only[Q0 hv];omega
 ·simp only[qZ hv];omega
theorem zG(lo hi:Option Int)(n:Nat):Builtin.Slice.sliceAdjust lo hi 1 (n:Int)=(((sIx n 0 lo:Nat):Int),((sIx n n hi:Nat):Int)):=by
 have h1:¬ ((1:Int)<0):=Yd;unfold Builtin.Slice.sliceAdjust;simp only[h1,if_false];refine Prod.ext ?_ ?_
 ·cases lo with
  |none=>rfl
  |some v=>exact rN v n 0
 ·cases hi with
  |none=>rfl
  |some v=>exact rN v n n
theorem vM(i j:Nat):Builtin.Slice.slicePlaces (i:Int) (j:Int) 1=j-i:=by
 unfold Builtin.Slice.slicePlaces;have h1:(1:Int) > 0:=Yd;simp only[h1,if_true,Int.ediv_one];split<;>omega
theorem nJ{v:Value}{o:Option Int}{Q:Option Int->Shared->Prop}(p:IsPart v o)(h:Q o s):wpAny (model prog w) A (Builtin.Slice.slicePartIndex v) Q E s:=by
 cases p with
 |none=>exact slicePart_none h
 |int i t=>exact slicePart_int h
theorem u9{sl:Addr}{vl vu:Value}{lo hi:Option Int}{n:Nat}{Q:Int×Int×Nat->Shared->Prop}(hs:s.heap.IsSliceOf sl vl vu .none)(pl:IsPart vl lo)(pu:IsPart vu hi)
 (h:Q (((sIx n 0 lo:Nat):Int),1,sIx n n hi-sIx n 0 lo) s):wpAny (model prog w) A (Builtin.Slice.sliceApplied (.ref sl) (pure (n:Int))) Q E s:=by
 obtain⟨os,hos,hcs,hds⟩:=id hs;unfold Builtin.Slice.sliceApplied Builtin.Slice.sliceFields;refine q5 (q5 (wpAny_field hos hds (x:=vl) U (q5 (wpAny_field hos hds (x:=vu) U (q5 (wpAny_field hos hds (x:=.none) U (qd ?_)))))));refine q5 (slicePart_none ?_);show wpAny _ _ (if((1:Int) == 0)=true then _ else _) _ _ s;rw[qZ Qz];refine q5 (nJ pl (q5 (nJ pu (q5 (qd ?_)))));show wpAny _ _ (match Builtin.Slice.sliceAdjust lo hi 1 (n:Int)with|(lo,hi)=>pure (lo,(1:Int),Builtin.Slice.slicePlaces lo hi 1)) _ _ s;rw[zG lo hi n];show wpAny _ _ (pure (((sIx n 0 lo:Nat):Int),(1:Int),Builtin.Slice.slicePlaces ((sIx n 0 lo:Nat):Int) ((sIx n n hi:Nat):Int) 1)) _ _ s;rw[vM];exact qd h
theorem vN(xs:Array Value)(i k:Nat):((List.range k).filterMap λ(m:Nat)=>xs[((i:Int)+(m:Int) * 1).toNat]?).toArray=((xs.toList.drop i).take k).toArray:=by
 have e:(λ(m:Nat)=>xs[((i:Int)+(m:Int) * 1).toNat]?)=λm=>xs[i+m]?:=by
  funext m
  have:((i:Int)+(m:Int) * 1).toNat=i+m:=Yd;rw[this]
 rw[e];have:=pick_run xs i k;rw[List.filterMap_map]at this;have e2:((λx=>xs[x]?) ∘ λx=>i+x)=λm=>xs[i+m]?:=U;rw[e2]at this;rw[this]
theorem getItem_tuple_cut{t sl:Addr}{items:Array Value}{vl vu:Value}{lo hi:Option Int}{Q:Yk}(ht:IsTup s.heap t items)(hs:s.heap.IsSliceOf sl vl vu .none)(pl:IsPart vl lo)(pu:IsPart vu hi)
 (hw:¬ (sIx items.size 0 lo=0/\sIx items.size items.size hi=items.size))
 (h:Q (.ref s.heap.objs.size) { s with heap:=s.heap.push { cls:=.type "tuple",data:=.seq ((items.toList.drop (sIx items.size 0 lo)).take (sIx items.size items.size hi-sIx items.size 0 lo)).toArray } })
 (hsz:items.size<=sizeLine):wpAny (model prog w) A (getItem (.ref t) (.ref sl)) Q E s:=by
 have htake:sizeOk (.seq ((items.toList.drop (sIx items.size 0 lo)).take (sIx items.size items.size hi-sIx items.size 0 lo)).toArray):=by
  show((items.toList.drop (sIx items.size 0 lo)).take (sIx items.size items.size hi-sIx items.size 0 lo)).toArray.size<=sizeLine;rw[qC,qK,qY,qM];omega
 have hj:sIx items.size items.size hi<=items.size:=uP _ _ (qe _) hi;obtain⟨os,hos,hcs,hds⟩:=id hs;have hTs:s.TypeIs (.ref sl) "slice":=⟨os,hos,hcs⟩;unfold getItem
 try with_reducible refine Qu ?_
 first|refine q5 (qd ?_)|skip
 refine q5 (wpAny_sequenceKey ht.typeIs Qz ?_)
 refine q5 (wpAny_callSpecial?_slot (name:=Str.ofString "__getitem__") ht.typeIs PyProof.Rows.slot_tuple_getitem
  (Qi PyProof.Rows.slot_tuple_getitem ht.typeIs entry_tuple_getitem ?_ (args_tuple_getitem _ _)))
 show wpAny _ _ (Builtin.Tuple.tupleItemsOf (.ref t) >>= _) _ _ s;refine q5 (tupleItemsOf_ ht ?_);refine q5 (wpAny_typeOf hTs ?_);rw[Q0 Qz];refine q5 (u9 hs pl pu ?_)
 have hno:¬ ((((sIx items.size 0 lo:Nat):Int) == 0 && (1:Int) == 1 && (sIx items.size items.size hi-sIx items.size 0 lo) == items.size)=true):=by
  intro q;rw[Bool.and_eq_true,Bool.and_eq_true]at q;have q1:((sIx items.size 0 lo:Nat):Int)=0:=eq_of_beq q.1.1;have q2:sIx items.size items.size hi-sIx items.size 0 lo=items.size:=eq_of_beq q.2;exact hw ⟨Yd,Yd⟩
 show wpAny _ _ (if(((sIx items.size 0 lo:Nat):Int) == 0 && (1:Int) == 1 && (sIx items.size items.size hi-sIx items.size 0 lo) == items.size)=true then _ else _) _ _ s;rw[qZ hno,vN]
 first
  |exact q5 (m:=Builtin.Tuple.tupleExact _) (wpAny_newObj_type (qd ⟨_,rfl,qd h⟩) htake)
  |exact q5 (m:=Builtin.Tuple.tupleExact _) (wpAny_newObj_type (q5 (qd (qd ⟨_,rfl,qd h⟩))) htake)
  |exact q5 (q5 (m:=Builtin.Tuple.tupleExact _) (wpAny_newObj_type (qd (qd ⟨_,rfl,qd h⟩)) htake))
  |exact q5 (q5 (m:=Builtin.Tuple.tupleExact _) (wpAny_newObj_type (qd ⟨_,rfl,qd h⟩) htake))
end
end HT
namespace L2
open PySem PySem.Spec PyProof.Rows
abbrev TO:=St->Hp->(Option Int->Hp->Prop)->Prop
def PO(X:Cx)(e:Option Expr)(t:TO):Prop:=
 ∀(pins:List (Addr×Obj))(s:Shared)(σ:St)(H:Hp)(Q:Option Int->Hp->Prop),Inv X pins σ H s->t σ H Q->
  wpAny (model X.prog X.w) X.A (evalPart e X.env) (λu s'=>∃o H',Inv X pins σ H' s'/\IsPart u o/\Q o H') X.xe s
def tz:TO:=λ_ H Q=>Q none H
def tj(t:TE):TO:=λσ H Q=>t σ H λx H1=>∃i,x=.int i/\Q (some i) H1
section
variable {X:Cx}{e:Expr}{te:TE}{lo hi:Option Expr}{tl th:TO}{pos p2:Pos}
theorem dR:PO X none tz:=by
 intro pins s σ H Q I h;rw[evalPart_none];exact qd ⟨none,H,I,.none,h⟩
theorem bQ(h:PE X e te):PO X (some e) (tj te):=by
 intro pins s σ H Q I hw;rw[evalPart_some];refine thn (h pins s σ H _ I hw) λu s1 ⟨x,H1,I1,r1,q1⟩=>?_;obtain⟨i,rfl,q⟩:=q1;obtain⟨t,rfl⟩:=r1;exact⟨some i,H1,I1,.int i t,q⟩
def SlR(X:Cx)(r:V->Option Int->Option Int->Hp->VK->Prop):Prop:=
 ∀(pins:List (Addr×Obj))(s:Shared)(σ:St)(H:Hp)(x:V)(v vl vu:Value)(lo hi:Option Int)(sl:Addr)(Q:VK),Inv X pins σ H s->aB x v->s.heap.IsSliceOf sl vl vu .none->IsPart vl lo->IsPart vu hi->r x lo hi H Q->
  ∃T id,typeLookup (.type T) "__getitem__"=pure (some (.builtin id))/\s.TypeIs v T/\wpAny (model X.prog X.w) X.A (getItem v (.ref sl)) (EP X pins σ Q) X.xe s
def tSl(r:V->Option Int->Option Int->Hp->VK->Prop)(te:TE)(tl th:TO):TE:=λσ H Q=>te σ H λx H1=>tl σ H1 λl H2=>th σ H2 λu H3=>r x l u H3 Q
theorem df{r:V->Option Int->Option Int->Hp->VK->Prop}(hr:SlR X r)(he:PE X e te)(hl:PO X lo tl)(hu:PO X hi th):PE X (.Subscript e (.Slice lo hi none p2) pos) (tSl r te tl th):=by
 intro pins s σ H Q I h;refine Subscript_ (thn (he pins s σ H _ I h) λv s1 ⟨x,H1,I1,r1,q1⟩=>?_);refine wpAny_Slice (thn (hl pins s1 σ H1 _ I1 q1) λvl s2 ⟨l,H2,I2,pl,q2⟩=>thn (hu pins s2 σ H2 _ I2 q2) λvu s3 ⟨u,H3,I3,pu,q3⟩=>?_);rw[evalPart_none];refine qd ?_;have I4:Inv X pins σ H3 { s3 with heap:=s3.heap.push { cls:=.type "slice",data:=.fields #[vl,vu,.none] } }:=I3.kept (t':=s3.toks) λb ob q=>qa _ q;obtain⟨T,id,hT,ht,hg⟩:=hr pins { s3 with heap:=s3.heap.push { cls:=.type "slice",data:=.fields #[vl,vu,.none] } } σ H3 x v vl vu l u s3.heap.objs.size Q I4 r1 (Heap.IsSliceOf.new ..) pl pu q3;show wpAny (model X.prog X.w) X.A (subscriptTail e (.Slice lo hi none p2) v (.ref s3.heap.objs.size)) (EP X pins σ Q) X.xe { s3 with heap:=s3.heap.push { cls:=.type "slice",data:=.fields #[vl,vu,.none] } };exact tail_any (ops:=[.ref s3.heap.objs.size,v]) ht hT hg (by with_unfolding_all rfl)
def c7(xs:List V)(lo hi:Option Int):List V:=(xs.drop (HT.sIx xs.length 0 lo)).take (HT.sIx xs.length xs.length hi-HT.sIx xs.length 0 lo)
theorem rJ(xs:List V)(lo hi:Option Int):(c7 xs lo hi).length<=xs.length:=by
 unfold c7;rw[qK,qY];omega
def uY(K:W.Frag):V->Option Int->Option Int->Hp->VK->Prop:=λx lo hi H Q=>∃a xs,x=.ref a/\SqT K H a xs /\
 ¬ (HT.sIx xs.length 0 lo=0/\HT.sIx xs.length xs.length hi=xs.length)/\∀p,H p=none->Q (.ref p) (upd H p (.tup (c7 xs lo hi)))
theorem g6:SlR X (uY X.K):=by
 intro pins s σ H x v vl vu lo hi sl Q I rx hs pl pu h;obtain⟨a,xs,rfl,hx,hw,q⟩:=h;cases rx;obtain⟨its,r,ht,hz⟩:=I.tuple hx;have hlen:its.toArray.size=xs.length:=by rw[qC];exact r.length.symm
 refine⟨"tuple",_,PyProof.Rows.slot_tuple_getitem.lookup,ht.typeIs,?_⟩;refine HT.getItem_tuple_cut ht hs pl pu (by rw[hlen];exact hw) ?_ (by rw[hlen];exact hz);rw[hlen];refine⟨.ref s.heap.objs.size,_,I.laid (t':=s.toks) (o:=.tup (c7 xs lo hi)) (λb ob q=>qa _ q) (qe _) ?_,U,q _ (I.hok.fresh (qe _))⟩;exact⟨qy (rJ xs lo hi) hz,_,(r.drop (HT.sIx xs.length 0 lo)).take (HT.sIx xs.length xs.length hi-HT.sIx xs.length 0 lo),IsTup.new _ _⟩
def vi(K:W.Frag):R2:=λx y H Q=>∃a b xs ys,x=.ref a/\y=.ref b/\SqT K H a xs/\SqT K H b ys/\xs≠[]/\xs.length+ys.length<=sizeLine /\
 (ys=[]->Q (.ref a) H)/\(ys≠[]->∀p,H p=none->Q (.ref p) (upd H p (.tup (xs++ys))))
theorem ao.nil_iff{xs:List V}{us:List Value}(r:ao xs us):us=[]↔xs=[]:=by
 cases r with
 |nil=>simp
 |cons _ _=>simp
theorem wx:OpR X (binaryOp .Add) (vi X.K):=by
 intro pins s σ H x y v u Q I rx ry h;obtain⟨a,b,xs,ys,rfl,rfl,ha,hb,hx,hz,q1,q2⟩:=h;cases rx;cases ry;obtain⟨its,r1,p1,_⟩:=I.tuple ha;obtain⟨its2,r2,p2,_⟩:=I.tuple hb;refine HT.cat_tup p1 p2 (λz=>hx (r1.nil_iff.mp z)) (λz=>⟨.ref a,H,I,U,q1 (r2.nil_iff.mp z)⟩) (λz=>?_) (by rw[<- r1.length,<- r2.length];exact hz);refine⟨.ref s.heap.objs.size,_,I.laid (t':=s.toks) (o:=.tup (xs++ys)) (λb ob q=>qa _ q) (qe _) ?_,U,q2 (λw=>z (r2.nil_iff.mpr w)) _ (I.hok.fresh (qe _))⟩;exact⟨by rw[qb];exact hz,_,r1.append r2,IsTup.new _ _⟩
end
def ixN(n:Nat)(i:Int):Option Nat:=if 0<=i then(if i<n then some i.toNat else none)else if -(n:Int)<=i then some (i+n).toNat else none
def atI{α:Type}(xs:List α)(i:Int):Option α:=(ixN xs.length i).bind λj=>xs[j]?
theorem pI{n:Nat}{i:Int}{j:Nat}(h:ixN n i=some j):seqIndex? i n=some j/\j<n/\-(n:Int)<=i/\i<n:=by
 unfold ixN at h;by_cases h0:0<=i
 ·rw[Q0 h0]at h;by_cases h1:i<n
  ·rw[Q0 h1]at h;have e:i.toNat=j:=qJ h;exact⟨by rw[seqIndex_of h0 h1,e],Yd,Yd,h1⟩
  ·rw[qZ h1]at h;cases h
 ·rw[qZ h0]at h;by_cases h1:-(n:Int)<=i
  ·rw[Q0 h1]at h;have e:(i+n).toNat=j:=qJ h;exact⟨by rw[seqIndex_neg Yd h1,e],Yd,h1,Yd⟩
  ·rw[qZ h1]at h;cases h
theorem lH{α:Type}{xs:List α}{i:Int}{v:α}(h:atI xs i=some v):∃j,seqIndex? i xs.length=some j/\xs[j]?=some v/\j<xs.length/\-(xs.length:Int)<=i/\i<xs.length:=by
 unfold atI at h
 cases e:ixN xs.length i with
 |none=>rw[e]at h;cases h
 |some j=>
  rw[e]at h;obtain⟨h1,h2,h3,h4⟩:=pI e;exact⟨j,h1,h,h2,h3,h4⟩
theorem bP{α:Type}{xs:List α}{j:Nat}{v:α}(h:xs[j]?=some v):atI xs (j:Int)=some v:=by
 have hj:j<xs.length:=(qf.mp h).1
 have e:ixN xs.length (j:Int)=some j:=by
  unfold ixN;rw[Q0 Yd,Q0 Yd];simp
 unfold atI;rw[e];exact h
def zK(b:Expr):Prop:=∀o i,subscripted b false o i=operate [o,i] (getItem o i)
def IxR(X:Cx)(r:R2):Prop:=
 ∀(value slice:Expr)(pins:List (Addr×Obj))(s:Shared)(σ:St)(H:Hp)(x y:V)(v u:Value)(Q:VK),Inv X pins σ H s->aB x v->aB y u->r x y H Q->
  subscripted slice false v u=operate [v,u] (getItem v u)->wpAny (model X.prog X.w) X.A (subscriptTail value slice v u) (EP X pins σ Q) X.xe s
def MtR(X:Cx)(id:String)(r:V->List V->Hp->VK->Prop):Prop:=
 ∀(pins:List (Addr×Obj))(s:Shared)(σ:St)(H:Hp)(x:V)(xs:List V)(v:Value)(us:List Value)(Q:VK),Inv X pins σ H s->aB x v->ao xs us->r x xs H Q->
  wpAny (model X.prog X.w) X.A (call (.builtin id) (v::us)) (EP X pins σ Q) X.xe s
section
variable {X:Cx}{a b:Expr}{ta tb:TE}{pos:Pos}
theorem am{r:R2}(hr:IxR X r)(ha:PE X a ta)(hb:PE X b tb)(hs:zK b):PE X (.Subscript a b pos) (tOp r ta tb):=by
 intro pins s σ H Q I h;exact Subscript_ (lC ha hb I h λv u s2 x y H2 I2 rx ry q=>hr a b pins s2 σ H2 x y v u Q I2 rx ry q (hs _ _))
def vg(K:W.Frag):R2:=λx y H Q=>∃p xs i v,x=.ref p/\y=.int i/\SqL K H p xs/\atI xs i=some v/\Q v H
def ve(K:W.Frag):R2:=λx y H Q=>∃p xs i v,x=.ref p/\y=.int i/\SqT K H p xs/\atI xs i=some v/\Q v H
def vf:R2:=λx y H Q=>∃z i c,x=.str z/\y=.int i/\z.length<=sizeLine/\atI z.cps.toList i=some c/\Q (.str ⟨#[c]⟩) H
theorem yy:IxR X (vg X.K):=by
 intro value slice pins s σ H x y v u Q I rx ry h hs;obtain⟨p,xs,i,z,rfl,rfl,hq,he,q⟩:=h;cases rx;obtain⟨t,rfl⟩:=ry;obtain⟨its,r,pl,hz⟩:=I.list hq;obtain⟨j,h1,h2,h3,h4,h5⟩:=lH he;obtain⟨w,ew,rw'⟩:=r.get h2;have hl:=r.length;have hn:=gE;have fin:EP X pins σ Q w s:=⟨z,H,I,rw',q⟩;by_cases h0:0<=i
 ·have hj:i.toNat=j:=by
   rw[seqIndex_of h0 h5]at h1;exact qJ h1
  exact item_listR pl.isList h0 Yd (by rw[hj];simpa using ew) fin hs
 ·have hj:(i+(its.toArray.size:Int)).toNat=j:=by
   rw[seqIndex_neg Yd h4]at h1;rw[qC,<- hl];exact qJ h1
  exact subscriptTail_builtinR (x:=w) pl.isList.typeIs slot_list_getitem.lookup
   (wpAny_getItem_list_neg (Q:=λr s'=>r=w/\EP X pins σ Q r s') pl.isList Yd (by rw[qC]<;>omega) Yd (by rw[hj];simpa using ew) ⟨U,fin⟩) hs
theorem yw:IxR X (ve X.K):=by
 intro value slice pins s σ H x y v u Q I rx ry h hs;obtain⟨p,xs,i,z,rfl,rfl,hq,he,q⟩:=h;cases rx;obtain⟨t,rfl⟩:=ry;obtain⟨its,r,pl,hz⟩:=I.tuple hq;obtain⟨j,h1,h2,h3,h4,h5⟩:=lH he;obtain⟨w,ew,rw'⟩:=r.get h2;have hl:=r.length;have hn:=gE;have fin:EP X pins σ Q w s:=⟨z,H,I,rw',q⟩
 exact subscriptTail_builtinR (x:=w) pl.typeIs slot_tuple_getitem.lookup
  (getItem_tuple (j:=j) (Q:=λr s'=>r=w/\EP X pins σ Q r s') pl Yd Yd (by rw[qC,<- hl];exact h1) (by simpa using ew) ⟨U,fin⟩) hs
theorem yx:IxR X vf:=by
 intro value slice pins s σ H x y v u Q I rx ry h hs;obtain⟨z,i,c,rfl,rfl,hz,he,q⟩:=h;obtain⟨t,rfl⟩:=rx;obtain⟨t',rfl⟩:=ry;obtain⟨j,h1,h2,h3,h4,h5⟩:=lH he;have hl:z.cps.toList.length=z.length:=by simp[Str.length]
 rw[hl]at h1 h4 h5;have hn:=gE
 exact tail_any (typeIs_str s z t) slot_str_getitem.lookup (getItem_str (c:=c) (by
  have e1:decide (i < -(2 ^ 63:Int))=false:=Q3 Yd;have e2:decide (i >= 2 ^ 63)=false:=Q3 Yd
  rw[e1,e2,Bool.or_false]) (by rw[h1];simpa using h2) ⟨.str ⟨#[c]⟩,H,I.tok _,⟨_,U⟩,q⟩) hs
theorem xQ(its:List Value)(n j:Nat)(u:Value):Obj.mapSeq (·.setIfInBounds j u) { cls:=.type "list",data:=.seq its.toArray n }={ cls:=.type "list",data:=.seq (its.set j u).toArray n }:=by
 simp[Obj.mapSeq]
theorem Inv.lst{pins:List (Addr×Obj)}{σ:St}{H:Hp}{s:Shared}{p:Addr}{xs:List V}(I:Inv X pins σ H s)(h:H p=some (.lst xs)):
 ∃(its:List Value)(n:Nat),ao xs its/\s.heap.get? p=some { cls:=.type "list",data:=.seq its.toArray n }/\xs.length<=sizeLine:=by
 obtain⟨z,its,n,r,e⟩:=I.hok p _ h;exact⟨its,n,r,e,z⟩
theorem Inv.lstUpd{pins:List (Addr×Obj)}{σ:St}{H:Hp}{s:Shared}{p:Addr}{xs ys:List V}{its its':List Value}{n n':Nat}{f:Obj->Obj}(I:Inv X pins σ H s)(h:H p=some (.lst xs))
 (ho:s.heap.get? p=some { cls:=.type "list",data:=.seq its.toArray n }) (hf:f { cls:=.type "list",data:=.seq its.toArray n }={ cls:=.type "list",data:=.seq its'.toArray n' }) (r:ao ys its') (hz:ys.length<=sizeLine) (t:Nat):
 Inv X pins σ (upd H p (.lst ys)) { s with heap:=s.heap.update p f,toks:=t }:=by
 have e:(s.heap.update p f).get? p=some { cls:=.type "list",data:=.seq its'.toArray n' }:=by
  rw[Qg f ho (by rw[hf]<;>rfl),hf]
 refine I.write (x:=p) (e:=p) (by rw[h];trivial) (.inl U) (λb u hb q=>(Qs _ _ (Ne.symm hb)).trans q) ⟨_,e⟩ ?_;exact⟨hz,its',n',r,e⟩
def vc:V->V->V->Hp->(Hp->Prop)->Prop:=λo i v H Q=>∃p xs k j,o=.ref p/\i=.int k/\H p=some (.lst xs)/\ixN xs.length k=some j/\Q (upd H p (.lst (xs.set j v)))
theorem fg:si X vc:=by
 intro pins s σ H o i v ov iv u Q I ro ri rv h;obtain⟨p,xs,k,j,rfl,rfl,hp,hj,q⟩:=h;cases ro;obtain⟨t,rfl⟩:=ri;obtain⟨its,n,r,ho,hz⟩:=I.lst hp;obtain⟨h1,h2,h3,h4⟩:=pI hj;have hl:=r.length;have hn:=gE
 have I':Inv X pins σ (upd H p (.lst (xs.set j v))) { s with heap:=s.heap.update p (Obj.mapSeq (·.setIfInBounds j u)) }:=
  I.lstUpd hp ho (xQ its n j u) (r.set rv j) (by rw[List.length_set];exact hz) s.toks
 by_cases h0:0<=k
 ·have hk:k.toNat=j:=by
   rw[seqIndex_of h0 h4]at h1;exact qJ h1
  exact PySem.W.ki_setAt ho h0 Yd (by rw[qC,<- hl];exact h4) (by rw[hk];exact⟨_,I',q⟩)
 ·have hk:(k+(its.toArray.size:Int)).toNat=j:=by
   rw[seqIndex_neg Yd h3]at h1;rw[qC,<- hl];exact qJ h1
  exact PySem.W.ki_setBack ho Yd (by rw[qC,<- hl];exact h3) Yd (by rw[hk];exact⟨_,I',q⟩)
theorem u5(lo hi:Option Int)(n:Nat):(sliceBounds lo hi none n).1=((HT.sIx n 0 lo:Nat):Int)/\(sliceBounds lo hi none n).2.1=((HT.sIx n n hi:Nat):Int)/\(sliceBounds lo hi none n).2.2=1:=by
 refine⟨?_,?_,U⟩
 ·cases lo with
  |none=>simp[sliceBounds,HT.sIx]
  |some i=>
   simp only[sliceBounds,HT.sIx,Option.getD_none,show(1:Int) > 0 by decide,if_true];by_cases h:i<0
   ·simp only[h,if_true]<;>omega
   ·simp only[h,if_false]<;>omega
 ·cases hi with
  |none=>simp[sliceBounds,HT.sIx]
  |some i=>
   simp only[sliceBounds,HT.sIx,Option.getD_none,show(1:Int) > 0 by decide,if_true];by_cases h:i<0
   ·simp only[h,if_true]<;>omega
   ·simp only[h,if_false]<;>omega
theorem u7(its:List Value)(lo hi:Option Int):slicePick its.toArray lo hi none=((its.drop (HT.sIx its.length 0 lo)).take (HT.sIx its.length its.length hi-HT.sIx its.length 0 lo)).toArray:=by
 obtain⟨h1,h2,h3⟩:=u5 lo hi its.toArray.size;unfold slicePick;rw[h1,h2,h3];simp only[sliceRange_one,pick_run,qC]<;>rfl
def uZ(K:W.Frag):V->Option Int->Option Int->Hp->VK->Prop:=λx lo hi H Q=>∃a xs,x=.ref a/\SqL K H a xs/\∀p,H p=none->Q (.ref p) (upd H p (.lst (c7 xs lo hi)))
theorem g9:SlR X (uZ X.K):=by
 intro pins s σ H x v vl vu lo hi sl Q I rx hs pl pu h;obtain⟨a,xs,rfl,hx,q⟩:=h;cases rx;obtain⟨its,r,ht,hz⟩:=I.list hx;have hlen:=r.length;refine⟨"list",_,slot_list_getitem.lookup,ht.isList.typeIs,?_⟩;refine wpAny_getItem_list_slice ht.isList hs pl pu .none (by simp) ?_ (by rw[qC]<;>omega);rw[u7,<- hlen];refine⟨.ref s.heap.objs.size,_,I.laid (t':=s.toks) (o:=.lst (c7 xs lo hi)) (λb ob q=>qa _ q) (qe _) ?_,U,q _ (I.hok.fresh (qe _))⟩;exact⟨qy (rJ xs lo hi) hz,_,0,(r.drop (HT.sIx xs.length 0 lo)).take (HT.sIx xs.length xs.length hi-HT.sIx xs.length 0 lo),qp _ U⟩
theorem zw:bZ X (.builtin "len") (λxs H Q=>∃p ys,xs=[.ref p]/\(SqL X.K H p ys\/SqT X.K H p ys)/\Q (.int ys.length) H):=by
 intro pins s σ H xs us Q I r h;obtain⟨p,ys,rfl,hq,q⟩:=h;obtain⟨u,rfl,rx⟩:=eD r;cases rx;have hn:=gE;rcases hq with hq|hq
 ·obtain⟨its,r',pl,hz⟩:=I.list hq;have hlen:=r'.length;exact Calls.call_len_list pl.isList (by simp only[qC]<;>omega) ⟨.int ys.length,H,I.tok _,⟨s.toks+1,by rw[qC,hlen]⟩,q⟩
 ·obtain⟨its,r',pl,hz⟩:=I.tuple hq;have hlen:=r'.length;exact len_tuple pl (by simp only[qC]<;>omega) ⟨.int ys.length,H,I.tok _,⟨s.toks+1,by rw[qC,hlen]⟩,q⟩
theorem zv:bZ X (.type "list") (λxs H Q=>∃p ys,xs=[.ref p]/\(SqL X.K H p ys\/SqT X.K H p ys)/\∀l,H l=none->Q (.ref l) (upd H l (.lst ys))):=by
 intro pins s σ H xs us Q I r h;obtain⟨p,ys,rfl,hq,q⟩:=h;obtain⟨u,rfl,rx⟩:=eD r;cases rx
 have fin:∀(its:List Value),ao ys its->ys.length<=sizeLine->∀(h':Heap)(c':Nat),(∀b o',s.heap.get? b=some o'->h'.get? b=some o')->
  h'.get? s.heap.objs.size=some { cls:=.type "list",dict:=none,data:=.seq its.toArray c',slots:=#[] }->EP X pins σ Q (.ref s.heap.objs.size) { s with heap:=h' }:=λits r' hz h' c' kp e=>
  ⟨.ref s.heap.objs.size,_,I.laid (t':=s.toks) kp (qe _) (show bx X.prog X.w _ h' _ (.lst ys)from⟨hz,its,c',r',e⟩),U,q _ (I.hok.fresh (qe _))⟩
 rcases hq with hq|hq
 ·obtain⟨its,r',pl,hz⟩:=I.list hq;have hlen:=r'.length;obtain⟨o,ho,hc,n,hd⟩:=pl.isList;exact call_list_seq p (.inl U) ho hc hd (λh' c' kp e=>fin its r' hz h' c' kp e) (by simp only[qC]<;>omega)
 ·obtain⟨its,r',pl,hz⟩:=I.tuple hq;have hlen:=r'.length;obtain⟨o,ho,hc,n,hd⟩:=pl;exact call_list_seq p (.inr U) ho hc hd (λh' c' kp e=>fin its r' hz h' c' kp e) (by simp only[qC]<;>omega)
theorem ly:bZ X (.type "tuple") (λxs H Q=>∃p ys,xs=[.ref p]/\((SqL X.K H p ys/\∀l,H l=none->Q (.ref l) (upd H l (.tup ys)))\/(SqT X.K H p ys/\Q (.ref p) H))):=by
 intro pins s σ H xs us Q I r h;obtain⟨p,ys,rfl,h⟩:=h;obtain⟨u,rfl,rx⟩:=eD r;cases rx;rcases h with⟨hq,q⟩|⟨hq,q⟩
 ·obtain⟨its,r',pl,hz⟩:=I.list hq;have hlen:=r'.length;refine call_tuple_list pl.isList (λh' kp=>?_) (by simp only[qC]<;>omega);have I1:Inv X pins σ H { s with heap:=h' }:=I.kept (t':=s.toks) kp
  have I2:Inv X pins σ (upd H h'.objs.size (.tup ys)) { s with heap:=h'.push { cls:=.type "tuple",data:=.seq its.toArray } }:=
   I1.laid (t':=s.toks) (λb o e=>qa _ e) (qe _) (show bx X.prog X.w _ _ _ (.tup ys)from⟨hz,its,r',IsTup.new _ _⟩)
  exact⟨.ref h'.objs.size,_,I2,U,q _ (I1.hok.fresh (qe _))⟩
 ·obtain⟨its,r',pl,hz⟩:=I.tuple hq;exact call_tuple_same pl ⟨.ref p,H,I,U,q⟩
def tyV(K:W.Frag)(T:String)(x:V)(H:Hp):Prop:=match x with
 |.str _=>T="str"
 |.int _=>T="int"
 |.ref p=>(T="list"/\∃xs,SqL K H p xs)\/(T="tuple"/\∃o,K.lookup p=some o/\o.cls=.type "tuple"/\o.dict=none) \/
  (T="dict"/\((∃kvs,H p=some (.dK kvs))\/∃kvs,H p=some (.dT kvs)))\/(T="set"/\∃S n,H p=some (.set S n))
 |_=>False
theorem sS{pins:List (Addr×Obj)}{σ:St}{H:Hp}{s:Shared}{T:String}{x:V}{v:Value}(I:Inv X pins σ H s)(r:aB x v)(ty:tyV X.K T x H):
 s.TypeIs v T/\∀a,v=.ref a->∃ob,s.heap.get? a=some ob/\ob.dict=none:=by
 cases x with
 |str z=>
  obtain⟨t,rfl⟩:=r;cases(show T="str" from ty);exact⟨typeIs_str s z t,λ_ e=>nomatch e⟩
 |int i=>
  obtain⟨t,rfl⟩:=r;cases(show T="int" from ty);exact⟨typeIs_int s i t,λ_ e=>nomatch e⟩
 |ref p=>
  cases r;rcases ty with⟨rfl,xs,hq⟩|⟨rfl,o,hk,hc,hd⟩|⟨rfl,hk⟩|⟨rfl,S,n,hk⟩
  ·obtain⟨its,_,pl,_⟩:=I.list hq;refine⟨pl.isList.typeIs,λa e=>?_⟩;cases e;obtain⟨o,n,e,c,hd,_⟩:=pl;exact⟨o,e,hd⟩
  ·refine⟨⟨o,I.kIn p o hk,hc⟩,λa e=>?_⟩;cases e;exact⟨o,I.kIn _ o hk,hd⟩
  ·have z:∃o,s.heap.get? p=some o/\o.ExactDict:=by
    rcases hk with⟨kvs,hk⟩|⟨kvs,hk⟩
    ·obtain⟨_,_,_,_,o,_,_,e,ex,_⟩:=I.hok p _ hk;exact⟨o,e,ex⟩
    ·obtain⟨_,_,_,_,o,_,_,e,ex,_⟩:=I.hok p _ hk;exact⟨o,e,ex⟩
   obtain⟨o,e,ex⟩:=z;refine⟨⟨o,e,ex.1⟩,λa e2=>?_⟩;cases e2;exact⟨o,e,ex.2.1⟩
  ·obtain⟨o,_,_,_,e,ex,_⟩:=I.hok p _ hk;refine⟨⟨o,e,ex.1⟩,λa e2=>?_⟩;cases e2;exact⟨o,e,ex.2.1⟩
 |_=>exact False.elim ty
def tBM(K:W.Frag)(T:String)(r:V->List V->Hp->VK->Prop)(to:TE)(t:TA):TE:=λσ H Q=>to σ H λx H1=>tyV K T x H1/\t σ H1 λxs H2=>r x xs H2 Q
variable {o e:Expr}{es:List Expr}{to:TE}{t:TA}{name:Str}{apos cpos:Pos}{T id:String}{r:V->List V->Hp->VK->Prop}
theorem w6(pa:PlainAttrs T)(slot:Slot T name id)(hty:typeOf (.builtin id)=pure (.type "method_descriptor"))(hm:MtR X id r)(ho:PE X o to)(ha:PA X (e::es) t)
 (hbase:attributeBase o name X.env (eval o X.env)=eval o X.env:=by rfl)
 (hfew:((backTo cpos (starEach (e::es) X.env)).all (λx=>!x.1) && (backToKw cpos (keywordEach [] X.env)).all (λx=>x.1.isSome)
  && decide ((e::es).length+([]:List Keyword).length+(if([]:List Keyword).isEmpty then 0 else 1)<30))=true:=by rfl)
 (hline:(apos.endLine == cpos.line)=true:=by rfl) (hs:starEach (e::es) X.env=(false,eval e X.env)::starEach es X.env:=by rfl) (hplain:(backTo cpos (starEach es X.env)).any (·.1)=false:=by rfl):
 PE X (.Call (.Attribute o name apos) (e::es) [] cpos) (tBM X.K T r to t):=by
 intro pins s σ H Q I h;refine wpAny_Call_method_late hbase hfew hline U (thn (ho pins s σ H _ I h) λv s1 ⟨x,H1,I1,r1,ty,q1⟩=>?_);obtain⟨h1,h2⟩:=sS I1 r1 ty;refine⟨T,id,pa,slot,hty,h1,h2,?_⟩;have hA:=ha cpos pins s1 σ H1 _ I1 q1;rw[hs]at hA ⊢;refine Calls.callWith_builtin (by show(false || (backTo cpos (starEach es X.env)).any (·.1))=false;rw[hplain]<;>rfl) (Calls.evalArgs_plain ?_);exact thn hA λus s2 ⟨vs,H2,I2,r2,q2⟩=>hm pins s2 σ H2 x vs v us Q I2 r1 r2 q2
end
def MtM(X:Cx)(id:String)(r:V->List V->Hp->VK->Prop):Prop:=
 ∀(pins:List (Addr×Obj))(s:Shared)(σ:St)(H:Hp)(x:V)(xs:List V)(v:Value)(us:List Value)(Q:VK),Inv X pins σ H s->aB x v->ao xs us->r x xs H Q->
  wpAny (model X.prog X.w) X.A (call (.builtin id) (v::us)) (EP X pins σ Q) X.xe s
theorem ao.one:∀{x:V}{us:List Value},ao [x] us->∃u,us=[u]/\aB x u
 |_,_,.cons r .nil=>⟨_,U,r⟩
theorem ao.eraseIdx:∀{xs:List V}{us:List Value}(i:Nat),ao xs us->ao (xs.eraseIdx i) (us.eraseIdx i)
 |_,_,_,.nil=>.nil
 |_,_,0,.cons _ t=>t
 |_,_,i+1,.cons r t=>.cons r (ao.eraseIdx i t)
theorem pE{α:Type}:∀(l:List α)(i:Nat),(l.eraseIdx i).length<=l.length
 |[],_=>qe _
 |_::_,0=>Nat.le_succ _
 |_::r,i+1=>Nat.succ_le_succ (pE r i)
section
variable {X:Cx}{pins:List (Addr×Obj)}{σ:St}{H:Hp}{s:Shared}{l b:Addr}{xs ys zs:List V}
theorem Inv.lset{its its':List Value}{n:Nat}{f:Array Value->Array Value}{t':Nat}(I:Inv X pins σ H s)(hH:H l=some (.lst xs))
 (e:s.heap.get? l=some { cls:=.type "list",data:=.seq its.toArray n }) (hf:f its.toArray=its'.toArray) (hv:ao ys its') (hz:ys.length<=sizeLine):
 Inv X pins σ (upd H l (.lst ys)) { s with heap:=s.heap.update l (Obj.mapSeq f),toks:=t' }:=by
 have q:=PySem.IsL.update e f;rw[hf]at q;refine I.write (x:=l) (e:=l) (by rw[hH];exact trivial) (.inl U) (λb' u hb hu=>(Qs s.heap (Obj.mapSeq f) (Ne.symm hb)).trans hu) ⟨_,q⟩ ?_;exact⟨hz,its',_,hv,q⟩
theorem Inv.lnew{its:List Value}{t':Nat}(I:Inv X pins σ H s)(hv:ao ys its)(hz:ys.length<=sizeLine):
 Inv X pins σ (upd H s.heap.objs.size (.lst ys)) { s with heap:=s.heap.push { cls:=.type "list",data:=.seq its.toArray },toks:=t' }:=
 I.laid (λ_ _ q=>qa _ q) (qe _) ⟨hz,its,0,hv,qp _ U⟩
theorem Inv.fresh(I:Inv X pins σ H s):H s.heap.objs.size=none:=I.hok.fresh (qe _)
theorem Inv.lstM(I:Inv X pins σ H s)(hH:H l=some (.lst xs)):xs.length<=sizeLine/\∃(its:List Value)(n:Nat),ao xs its/\xs.length=its.length/\s.heap.get? l=some { cls:=.type "list",data:=.seq its.toArray n }:=by
 obtain⟨z,its,n,r,e⟩:=I.hok l _ hH;exact⟨z,its,n,r,r.length,e⟩
theorem xI{n:Nat}(h:n<=sizeLine):Builtin.List.listTooLong n=false:=by
 unfold Builtin.List.listTooLong;exact Q3 Yd
end
section
variable {X:Cx}
def vk:V->List V->Hp->VK->Prop:=λx vs H Q=>∃l xs y,x=.ref l/\vs=[y]/\H l=some (.lst xs)/\xs.length<sizeLine/\Q .non (upd H l (.lst (xs++[y])))
theorem xL:MtM X "list.append" vk:=by
 intro pins s σ H x vs v us Q I rx rv h;obtain⟨l,xs,y,rfl,rfl,hH,hz,q⟩:=h;cases rx;obtain⟨u,rfl,ru⟩:=rv.one;obtain⟨z,its,n,r,hl,e⟩:=I.lstM hH;refine call_meets F.slot_list_append ⟨_,e,U⟩ F.entry_list_append (F.args_list_append_2 _ _) (PySem.list_append l its.toArray n u (by rw[qC];omega)) ⟨e,?_⟩;refine⟨.non,_,I.lset (its':=its++[u]) hH e (by simp) (r.append (.cons ru .nil)) ?_,U,q⟩;rw[qb,Q6];omega
def vh:V->List V->Hp->VK->Prop:=λx vs H Q=>∃l b xs zs,x=.ref l/\vs=[.ref b]/\H l=some (.lst xs)/\H b=some (.lst zs)/\xs.length+zs.length<=sizeLine/\Q .non (upd H l (.lst (xs++zs)))
theorem kF:MtM X "list.extend" vh:=by
 intro pins s σ H x vs v us Q I rx rv h;obtain⟨l,b,xs,zs,rfl,rfl,hH,hB,hz,q⟩:=h;cases rx;obtain⟨u,rfl,ru⟩:=rv.one;cases ru;obtain⟨z,its,n,r,hl,e⟩:=I.lstM hH;obtain⟨z2,its2,n2,r2,hl2,e2⟩:=I.lstM hB;have hsz:its.toArray.size+its2.toArray.size<=sizeLine:=by rw[qC,qC];omega
 have hlong:¬ (!its.toArray.isEmpty && Builtin.List.listTooLong (its.toArray.size+its2.toArray.size))=true:=by
  rw[xI hsz,Bool.and_false];exact qi
 refine call_meets F.slot_list_extend ⟨_,e,U⟩ F.entry_list_extend (F.args_list_extend_2 _ _)
  (AutoSeq1.list_extend_list_list_0 l its.toArray n b its2.toArray n2 hlong (by rw[qC];omega) Yd) ⟨e,e2,?_⟩
 refine⟨.non,_,I.lset (its':=its++its2) hH e (by simp) (r.append r2) ?_,U,q⟩;rw[qb];omega
def vd:V->List V->Hp->VK->Prop:=λx vs H Q=>∃l xs i k y,x=.ref l/\vs=[.int i]/\H l=some (.lst xs)/\-(2 ^ 63)<=i/\i<2 ^ 63/\seqIndex? i xs.length=some k/\xs[k]?=some y/\Q y (upd H l (.lst (xs.eraseIdx k)))
theorem xK:MtM X "list.pop" vd:=by
 intro pins s σ H x vs v us Q I rx rv h;obtain⟨l,xs,i,k,y,rfl,rfl,hH,h1,h2,hk,hy,q⟩:=h;cases rx;obtain⟨u,rfl,ru⟩:=rv.one;obtain⟨t,rfl⟩:=ru;obtain⟨z,its,n,r,hl,e⟩:=I.lstM hH;obtain⟨w,hw,rw'⟩:=r.get hy
 refine call_meets F.slot_list_pop ⟨_,e,U⟩ F.entry_list_pop (F.args_list_pop_2 _ _)
  (MeetsSeq.list_pop_at l its.toArray n i t k w (fitsIndex_both h1 h2) (by rw[qC,<- hl];exact hk) (by rw[<- qT];exact hw) (by rw[qC];omega)) ⟨e,?_⟩
 refine⟨y,_,I.lset (its':=its.eraseIdx k) hH e ?_ (r.eraseIdx k) ?_,rw',q⟩
 ·show its.toArray.eraseIdxIfInBounds k=(its.eraseIdx k).toArray;rw[List.eraseIdxIfInBounds_toArray]
 ·have:=pE xs k;omega
end
section
variable {prog:Program}{w:World}{A:Around}{E:Yk}{s:Shared}
set_option maxRecDepth 100000 in
end
section
variable {X:Cx}
end
section
variable {κ:Type} [DecidableEq κ]
def cD(kvs:List (κ×V))(k:κ):Option V:=(kvs.find? λkv=>decide (kv.1=k)).map (·.2)
def cO(kvs:List (κ×V))(k:κ)(v:V):List (κ×V):=
 if(kvs.any λkv=>decide (kv.1=k))=true then kvs.map (λkv=>if kv.1=k then(kv.1,v)else kv)else kvs++[(k,v)]
def dm(kvs:List (κ×V))(k:κ):List (κ×V):=kvs.filter λkv=>decide (kv.1≠k)
theorem lW{p:κ×V}{r:List (κ×V)}{k:κ}(e:p.1=k):cD (p::r) k=some p.2:=by simp[cD,Q8,e]
theorem lX{p:κ×V}{r:List (κ×V)}{k:κ}(e:¬ p.1=k):cD (p::r) k=cD r k:=by simp[cD,Q8,e]
theorem pB(kvs:List (κ×V))(k:κ)(v:V):(cO kvs k v).length<=kvs.length+1:=by
 unfold cO;split
 ·rw[q9];omega
 ·rw[qb,qA,List.length_nil];omega
theorem bW.isSome_eq{o:Option V}{u:Option Value}(r:bW o u):o.isSome=u.isSome:=by
 cases o with
 |none=>cases u with
  |none=>rfl
  |some _=>exact(show False from r).elim
 |some _=>cases u with
  |none=>exact(show False from r).elim
  |some _=>rfl
theorem KV.val{kvs:List (κ×V)}{vs:List (κ×Value)}(r:KV kvs vs)(k:κ):bW (cD kvs k) (valueAt vs k):=by
 unfold KV at r
 induction r with
 |nil=>exact True.intro
 |@cons p q ps qs h t ih=>
  obtain⟨h1,h2⟩:=h;by_cases e:p.1=k
  ·have e':q.1=k:=h1.symm.trans e;have b:valueAt (q::qs) k=some q.2:=by simp[valueAt,Q8,e']
   rw[lW e,b];exact h2
  ·have e':¬ q.1=k:=λz=>e (h1.trans z);have b:valueAt (q::qs) k=valueAt qs k:=by simp[valueAt,Q8,e']
   rw[lX e,b];exact ih
theorem KV.any{kvs:List (κ×V)}{vs:List (κ×Value)}(r:KV kvs vs)(k:κ):(kvs.any λkv=>decide (kv.1=k))=vs.any λkv=>decide (kv.1=k):=by
 unfold KV at r
 induction r with
 |nil=>rfl
 |cons h t ih=>rw[List.any_cons,List.any_cons,ih,h.1]
theorem KV.repl{kvs:List (κ×V)}{vs:List (κ×Value)}(r:KV kvs vs)(k:κ){y:V}{u:Value}(ry:aB y u):
 KV (kvs.map λkv=>if kv.1=k then(kv.1,y)else kv) (vs.map λkv=>if kv.1=k then(kv.1,u)else kv):=by
 unfold KV at r ⊢
 induction r with
 |nil=>exact .nil
 |@cons p q ps qs h t ih=>
  rw[qR,qR];refine .cons ?_ ih;obtain⟨h1,h2⟩:=h;by_cases e:p.1=k
  ·rw[Q0 e,Q0 (h1.symm.trans e)];exact⟨h1,ry⟩
  ·rw[qZ e,qZ (λz=>e (h1.trans z))];exact⟨h1,h2⟩
theorem KV.put{kvs:List (κ×V)}{vs:List (κ×Value)}(r:KV kvs vs)(k:κ){y:V}{u:Value}(ry:aB y u):KV (cO kvs k y) (stored vs k u):=by
 unfold cO stored;rw[r.any k];by_cases e:(vs.any λkv=>decide (kv.1=k))=true
 ·rw[Q0 e,Q0 e];exact r.repl k ry
 ·rw[qZ e,qZ e];exact Paired.snoc r ⟨U,ry⟩
theorem KV.drop{kvs:List (κ×V)}{vs:List (κ×Value)}(r:KV kvs vs)(k:κ):KV (dm kvs k) (without vs k):=by
 unfold KV at r ⊢;unfold dm without
 induction r with
 |nil=>exact .nil
 |@cons p q ps qs h t ih=>
  obtain⟨h1,h2⟩:=h;rw[List.filter_cons,List.filter_cons];by_cases e:p.1=k
  ·have a:¬ decide (p.1≠k)=true:=by simp[e]
   have b:¬ decide (q.1≠k)=true:=by simp[h1.symm.trans e]
   rw[qZ a,qZ b];exact ih
  ·have e':¬ q.1=k:=λz=>e (h1.trans z);have a:decide (p.1≠k)=true:=by simp[e]
   have b:decide (q.1≠k)=true:=by simp[e']
   rw[Q0 a,Q0 b];exact .cons ⟨h1,h2⟩ ih
theorem KV.length{kvs:List (κ×V)}{vs:List (κ×Value)}(r:KV kvs vs):kvs.length=vs.length:=Paired.length r
theorem rH(kvs:List (κ×V))(k:κ):(dm kvs k).length<=kvs.length:=List.length_filter_le _ _
end
theorem gG{P:Program}{w:World}{k:Key}{u:Value}(r:aB (kV k) u):(bU P w).is k u=true:=by
 cases k with
 |inl i=>obtain⟨t,e⟩:=(show ∃t,u=Value.int i t from r);subst e;exact xN P w i t
 |inr x=>obtain⟨t,e⟩:=(show ∃t,u=Value.str x t from r);subst e;exact xM P w x t
theorem pK{P:Program}{w:World}:∀{ks:List Key}{us:List Value},ao (ks.map kV) us->ItemsAre (bU P w) ks us
 |[],_,r=>by rw[List.map_nil]at r;cases r;exact .nil
 |k::ks,_,r=>by
  rw[qR]at r
  cases r with
  |cons h t=>exact .cons (gG h) (pK t)
abbrev KT(H:Hp):List (List Key×V)->List (List Key×Addr×Value)->Prop:=Paired λp q=>p.1=q.1/\H q.2.1=some (.tup (p.1.map kV))/\aB p.2 q.2.2
section
variable {P:Program}{w:World}{H:Hp}{h:Heap}{a:Addr}
theorem o8{u:HO}(ok:HOk P w H h)(e:Rd H a u):bx P w H h a u:=e.ok ok
theorem kZ{kvs:List (Key×V)}(ok:HOk P w H h)(e:Rd H a (.dK kvs)):kvs.length<=sizeLine/\(a == sysModules)=false/\∃vs,KV kvs vs/\h.DictOf (bU P w) a vs:=
 show bx P w H h a (.dK kvs)from o8 ok e
theorem gJ{kvs:List (Key×V)}(ok:HOk P w H h)(e:H a=some (.dK kvs)):kvs.length<=sizeLine/\(a == sysModules)=false/\∃vs,KV kvs vs/\h.DictOf (bU P w) a vs:=kZ ok (.inl e)
theorem yi{ks:List Key}(ok:HOk P w H h)(e:H a=some (.tup (ks.map kV))):(tupleKind (bU P w)).is h ks a:=by
 obtain⟨_,its,r,o,h1,h2,n,h3⟩:=(show bx P w H h a (.tup (ks.map kV))from ok a _ e);exact⟨o,its.toArray,n,h1,h2,h3,by simpa using pK r⟩
theorem yT{kvs:List (List Key×V)}(ok:HOk P w H h)(e:Rd H a (.dT kvs)):kvs.length<=sizeLine/\(a == sysModules)=false /\
 ∃xs,KT H kvs xs/\h.DictOfH (tupleKind (bU P w)) a xs:=by
 obtain⟨z,y,xs,r,o,es,ep,h1,h2,h3,h4,h5⟩:=(show bx P w H h a (.dT kvs)from o8 ok e);refine⟨z,y,xs,r,o,es,ep,h1,h2,h3,h4,λx hx=>?_,h5⟩
 have all:∀{l:List (List Key×V)}{m:List (List Key×Addr×Value)},KT H l m->∀x∈m,(tupleKind (bU P w)).is h x.1 x.2.1:=by
  intro l m q
  induction q with
  |nil=>intro x hx;exact nomatch hx
  |@cons p q ps qs hq t ih=>
   intro x hx;rcases qu.mp hx with e|hx
   ·subst e;exact yi ok (by rw[<- hq.1];exact hq.2.1)
   ·exact ih x hx
 exact all r x hx
end
section
variable {X:Cx}{pins:List (Addr×Obj)}{σ:St}{H:Hp}{s:Shared}{a:Addr}{y v:V}{u r:Value}{o:Option V}{A:Around}{E:Yk}
theorem Inv.big(I:Inv X pins σ H s):sysModules<s.heap.objs.size:=by
 have h:mainGlobals<s.heap.objs.size:=(I.mod.glob.keeps I.bk).lt;exact Nat.lt_trans Qz h
theorem iO{h':Heap}{t':Nat}{ob:HO}(I:Inv X pins σ H s)(mu:Mut (H a))(hs:Heap.SameBut a s.heap h')(he:∃q,h'.get? a=some q)(new:bx X.prog X.w (upd H a ob) h' a ob):
 Inv X pins σ (upd H a ob) { s with heap:=h',toks:=t' }:=
 I.write (x:=a) (e:=a) mu (.inl U) (λb q hb z=>(hs.2 b hb).trans z) he new
theorem iN{P:Program}{w:World}{H':Hp}{h':Heap}{kvs:List (Key×V)}{vs:List (Key×Value)}(z:kvs.length<=sizeLine)(hd:(a == sysModules)=false)(rel:KV kvs vs)(dd:h'.DictOf (bU P w) a vs):
 bx P w H' h' a (.dK kvs):=⟨z,hd,vs,rel,dd⟩
end
section
variable {X:Cx}{pins:List (Addr×Obj)}{σ:St}{H:Hp}{s:Shared}{a:Addr}{kvs:List (Key×V)}{k:Key}{u:Value}{A:Around}{E:Yk}
theorem zR{Q:Unit->Shared->Prop}(I:Inv X pins σ H s)(e:H a=some (.dK kvs))(ry:aB (kV k) u)(l:(cD kvs k).isSome=true)(h:∀s',Inv X pins σ (upd H a (.dK (dm kvs k))) s'->Q () s'):
 wpAny (model X.prog X.w) A (delItem (.ref a) u) Q E s:=by
 obtain⟨z,hd,vs,rel,dd⟩:=gJ I.hok e
 refine wpAny_delItem_slot dd.typeIs Qz PySem.F.slot_dict_delitem
  (call_meetsIn PySem.F.slot_dict_delitem dd.typeIs PySem.F.entry_dict_delitem (PySem.F.args_dict_delitem_2 _ _) (meets_dict_delitem_pairs (bU X.prog X.w) a (gG ry)) ⟨vs,dd,by rw[<- rel.length];exact z,by rw[<- (rel.val k).isSome_eq];exact l,λh' dd' hs=>h _ ?_⟩)
 have he:∃q,h'.get? a=some q:=let ⟨q,_,_,hq,_⟩:=dd';⟨q,hq⟩;exact iO I (by rw[e];exact True.intro) hs he (iN (qy (rH kvs k) z) hd (rel.drop k) dd')
theorem zd{v:V}{more:List Value}{Q:Yk}(I:Inv X pins σ H s)(e:H a=some (.dK kvs))(ry:aB (kV k) u)(l:cD kvs k=some v)(hm:more=[]\/∃x,more=[x])
 (h:∀w' s',Inv X pins σ (upd H a (.dK (dm kvs k))) s'->aB v w'->Q w' s'):wpAny (model X.prog X.w) A (call (.builtin "dict.pop") (.ref a::u::more)) Q E s:=by
 obtain⟨z,hd,vs,rel,dd⟩:=gJ I.hok e;obtain⟨w',hw,rw'⟩:=bW.some_of (v:=v) (o:=valueAt vs k) (by rw[<- l];exact rel.val k)
 have hp:(keyPart u).isSome=true:=by
  cases k with
  |inl i=>obtain⟨t,q⟩:=(show ∃t,u=Value.int i t from ry);subst q;rfl
  |inr x=>obtain⟨t,q⟩:=(show ∃t,u=Value.str x t from ry);subst q;rfl
 have ha:argsOk "dict.pop" ⟨.ref a::u::more,[]⟩:=by
  rcases hm with q|⟨x,q⟩
  ·subst q;exact PySem.F.args_dict_pop_2 _ _
  ·subst q;exact PySem.F.args_dict_pop_3 _ _ _
 refine call_meetsIn PySem.F.slot_dict_pop dd.typeIs PySem.F.entry_dict_pop ha (meets_dict_pop_there (bU X.prog X.w) a (gG ry) more hm hp)
  ⟨vs,w',dd,by rw[<- rel.length];exact z,hw,λh' dd' hs=>h w' _ ?_ rw'⟩
 have he:∃q,h'.get? a=some q:=let ⟨q,_,_,hq,_⟩:=dd';⟨q,hq⟩;exact iO I (by rw[e];exact True.intro) hs he (iN (qy (rH kvs k) z) hd (rel.drop k) dd')
theorem ze{Q:Yk}(I:Inv X pins σ H s)(e:Rd H a (.dK kvs))(h:∀t s',Inv X pins σ H s'->Q (.int kvs.length t) s'):wpAny (model X.prog X.w) A (call (.builtin "len") [.ref a]) Q E s:=by
 obtain⟨z,hd,vs,rel,dd⟩:=kZ I.hok e;refine call_len_dict hd dd (by rw[<- rel.length];rw[sizeLine_eq]at z;omega) ?_;rw[<- rel.length];exact h _ _ (I.tok _)
end
section
variable {X:Cx}{o i e value:Expr}{pos pos' tpos:Pos}{td ty tv:TE}
end
theorem yX{P:Program}{w:World}{H:Hp}(h:Heap)(hb:sysModules<h.objs.size):bx P w H (h.push { cls:=.type "dict",data:=.dict #[] }) h.objs.size (.dK []):=
 ⟨qt _,beq_eq_false_iff_ne.mpr (Ne.symm (qG hb)),[],.nil,Heap.DictOf.new h⟩
section
variable {X:Cx}{pos:Pos}
end
def j4:List (TE×TE)->St->Hp->(List (V×V)->Hp->Prop)->Prop
 |[],_,H,Q=>Q [] H
 |(tk,tv)::r,σ,H,Q=>tk σ H λx H1=>tv σ H1 λy H2=>j4 r σ H2 λps H3=>Q ((x,y)::ps) H3
abbrev VV:List (V×V)->List (Value×Value)->Prop:=Paired λp q=>aB p.1 q.1/\aB p.2 q.2
def PPs(X:Cx)(pos:Pos)(keys:List (Option Expr))(values:List Expr)(trs:List (TE×TE)):Prop:=
 ∀(pins:List (Addr×Obj))(s:Shared)(σ:St)(H:Hp)(Q:List (V×V)->Hp->Prop),Inv X pins σ H s->j4 trs σ H Q->
  wpAny (model X.prog X.w) X.A (evalPairs (pairTrees keys values X.env pos)) (λvs s'=>∃ps H',Inv X pins σ H' s'/\VV ps vs/\Q ps H') X.xe s
theorem vJ{X:Cx}{pos:Pos}:PPs X pos [] [] []:=λpins s σ H Q I h=>pairTrees_nil_walk ⟨[],H,I,.nil,h⟩
theorem vK{X:Cx}{pos:Pos}{k v:Expr}{ks:List (Option Expr)}{vs:List Expr}{tk tv:TE}{trs:List (TE×TE)}(hk:PE X k tk)(hv:PE X v tv)(hr:PPs X pos ks vs trs):
 PPs X pos (some k::ks) (v::vs) ((tk,tv)::trs):=λpins s σ H Q I h=>
 pairTrees_cons_walk (thn (hk pins s σ H _ I h) λu s1 ⟨x,H1,I1,rx,q1⟩=>thn (hv pins s1 σ H1 _ I1 q1) λw2 s2 ⟨y,H2,I2,ry,q2⟩=>
  thn (hr pins s2 σ H2 _ I2 q2) λws s3 ⟨ps,H3,I3,rel,q3⟩=>⟨(x,y)::ps,H3,I3,.cons ⟨rx,ry⟩ rel,q3⟩)
def fG(kvs more:List (Key×V)):List (Key×V):=more.foldl (λacc kv=>cO acc kv.1 kv.2) kvs
theorem KV.merge:∀{more:List (Key×V)}{rs:List (Key×Value)}{kvs:List (Key×V)}{vs:List (Key×Value)},KV more rs->KV kvs vs->KV (fG kvs more) (merged vs rs):=by
 intro more rs kvs vs r;unfold KV at r
 induction r generalizing kvs vs with
 |nil=>intro q;exact q
 |@cons p q ps qs h t ih=>
  intro r0
  have e:KV (cO kvs p.1 p.2) (stored vs q.1 q.2):=by
   have:=r0.put p.1 h.2;rw[<- h.1];exact this
  exact ih e
theorem pD:∀(more kvs:List (Key×V)),(fG kvs more).length<=kvs.length+more.length
 |[],kvs=>by show kvs.length<=kvs.length+0;omega
 |p::r,kvs=>by
  have h1:=pD r (cO kvs p.1 p.2);have h2:=pB kvs p.1 p.2;show(fG (cO kvs p.1 p.2) r).length<=_;rw[qA];omega
theorem rP{P:Program}{w:World}:∀{kvs:List (Key×V)}{ws:List (Value×Value)},VV (kvs.map λkv=>(kV kv.1,kv.2)) ws->∃rs,Carries (bU P w) ws rs/\KV kvs rs
 |[],_,r=>by rw[List.map_nil]at r;cases r;exact⟨[],True.intro,.nil⟩
 |p::kvs,_,r=>by
  rw[qR]at r
  cases r with
  |@cons a b as bs h t=>
   obtain⟨rs,c,q⟩:=rP (P:=P) (w:=w) t;obtain⟨b1,b2⟩:=b;exact⟨(p.1,b2)::rs,⟨gG h.1,U,c⟩,.cons ⟨U,h.2⟩ q⟩
def tK(trs:List (TE×TE)):TE:=λσ H Q=>∀p,H p=none->j4 trs σ (upd H p (.dK [])) λps H2=>H2 p=some (.dK [])/\∃kvs:List (Key×V),ps=kvs.map (λkv=>(kV kv.1,kv.2))/\kvs.length<=15/\Q (.ref p) (upd H2 p (.dK (fG [] kvs)))
theorem w4{X:Cx}{pos:Pos}{keys:List (Option Expr)}{values:List Expr}{trs:List (TE×TE)}(h:PPs X pos keys values trs)(hall:keys.all (·.isSome)=true)(hl:keys.length=values.length)(h0:keys≠[])
 (h15:keys.length<=15):PE X (.Dict keys values pos) (tK trs):=by
 intro pins s σ H Q I q;have hn:=I.hok.fresh (qe s.heap.objs.size);have I1:=I.laid (a:=s.heap.objs.size) (o:=.dK []) (h':=s.heap.push { cls:=.type "dict",data:=.dict #[] }) (t':=s.toks) (λ_ _ q=>qa _ q) (qe _) (yX s.heap I.big);refine wpAny_Dict_walk (knd:=bU X.prog X.w) hall hl h0 h15 (thn (h pins _ σ _ _ I1 (q _ hn)) λws s2 ⟨ps,H2,I2,rel,e,kvs,ep,lk,q2⟩=>?_);subst ep;obtain⟨rs,c,rk⟩:=rP (P:=X.prog) (w:=X.w) rel;obtain⟨z,hd,vs0,r0,dd⟩:=gJ I2.hok e;cases r0;refine⟨rs,c,dd,λh' dd' hs=>⟨.ref s.heap.objs.size,_,?_,U,q2⟩⟩
 have hz:(fG [] kvs).length<=sizeLine:=by
  have h1:=pD kvs [];rw[List.length_nil]at h1;rw[sizeLine_eq];omega
 have he:∃q,h'.get? s.heap.objs.size=some q:=let ⟨q,_,_,hq,_⟩:=dd';⟨q,hq⟩;exact iO I2 (by rw[e];exact True.intro) hs he (iN hz hd (rk.merge .nil) dd')
structure M1(X:Cx)(o:Expr)(m:Str)(apos:Pos)(e:Expr)(cpos:Pos):Prop where
 base:attributeBase o m X.env (eval o X.env)=eval o X.env
 few:((backTo cpos (starEach [e] X.env)).all (λx=>!x.1) && (backToKw cpos (keywordEach [] X.env)).all (λx=>x.1.isSome)
  && decide (([e]:List Expr).length+([]:List Keyword).length+(if([]:List Keyword).isEmpty then 0 else 1)<30))=true
 line:(apos.endLine == cpos.line)=true
 trees:backTo cpos (starEach [e] X.env)=[(false,eval e X.env)]
structure M2(X:Cx)(o:Expr)(m:Str)(apos:Pos)(e f:Expr)(cpos:Pos):Prop where
 base:attributeBase o m X.env (eval o X.env)=eval o X.env
 few:((backTo cpos (starEach [e,f] X.env)).all (λx=>!x.1) && (backToKw cpos (keywordEach [] X.env)).all (λx=>x.1.isSome)
  && decide (([e,f]:List Expr).length+([]:List Keyword).length+(if([]:List Keyword).isEmpty then 0 else 1)<30))=true
 line:(apos.endLine == cpos.line)=true
 trees:backTo cpos (starEach [e,f] X.env)=[(false,eval e X.env),(false,eval f X.env)]
def IsD(H:Hp)(a:Addr):Prop:=(∃kvs,Rd H a (.dK kvs))\/∃kvs,Rd H a (.dT kvs)
theorem pL{X:Cx}{pins:List (Addr×Obj)}{σ:St}{H:Hp}{s:Shared}{a:Addr}(I:Inv X pins σ H s)(d:IsD H a):
 s.TypeIs (.ref a) "dict"/\(∀b,Value.ref a=.ref b->∃ob,s.heap.get? b=some ob/\ob.dict=none)/\(a == sysModules)=false:=by
 rcases d with⟨kvs,e⟩|⟨kvs,e⟩
 ·obtain⟨_,hd,vs,_,dd⟩:=kZ I.hok e;refine⟨dd.typeIs,λb q=>?_,hd⟩;cases q;obtain⟨ob,_,_,h1,h2,_⟩:=dd;exact⟨ob,h1,h2.2.1⟩
 ·obtain⟨_,hd,xs,_,dd⟩:=yT I.hok e;refine⟨dd.typeIs,λb q=>?_,hd⟩;cases q;obtain⟨ob,_,_,h1,h2,_⟩:=dd;exact⟨ob,h1,h2.2.1⟩
section
variable {X:Cx}{pins:List (Addr×Obj)}{σ:St}{H:Hp}{s:Shared}{a:Addr}{y d:V}{u r:Value}{o:Option V}{A:Around}{E:Yk}
end
def tM(td ty:TE):TE:=λσ H Q=>td σ H λx H1=>∃a,x=.ref a/\IsD H1 a/\ty σ H1 λy H2=>∃kvs k v,H2 a=some (.dK kvs)/\y=kV k/\cD kvs k=some v/\Q v (upd H2 a (.dK (dm kvs k)))
section
variable {X:Cx}{o e f:Expr}{apos cpos:Pos}{td ty tx:TE}
theorem vZ(ho:PE X o td)(he:PE X e ty)(m:M1 X o "pop" apos e cpos):PE X (.Call (.Attribute o "pop" apos) [e] [] cpos) (tM td ty):=by
 intro pins s σ H Q I h;refine wpAny_Call_method m.base m.few m.line PySem.F.plainAttrs_dict PySem.F.slot_dict_pop PySem.F.type_dict_pop (thn (ho pins s σ H _ I h) λu s1 ⟨x,H1,I1,rx,a,ex,d,q1⟩=>?_);subst ex;obtain rfl:u=Value.ref a:=rx;obtain⟨t1,t2,_⟩:=pL I1 d;refine⟨t1,t2,?_⟩;rw[m.trees];refine Calls.callWith_builtin U (Calls.evalArgs_plain (Calls.spliced_cons (thn (he pins s1 σ H1 _ I1 q1) λiv s2 ⟨y,H2,I2,ry,kvs,k,v,ea,ey,l,q2⟩=>Calls.spliced_nil ?_)));subst ey;exact zd I2 ea ry l (.inl U) λw' s3 I3 rw'=>⟨v,_,I3,rw',q2⟩
end
section
variable {X:Cx}{pins:List (Addr×Obj)}{σ:St}{H:Hp}{s:Shared}{a:Addr}{kvs:List (Key×V)}{A:Around}{E:Yk}
end
section
variable {X:Cx}{pins:List (Addr×Obj)}{σ:St}{H:Hp}{s:Shared}{a:Addr}{y:V}{u:Value}{A:Around}{E:Yk}
end
end L2
namespace Att
open PySem PySem.W PySem.Calls PyProof.Rows
theorem yC{P:Params}{h:Heap}:∀(ns:List Int)(vs:List Value),WellAll P h vs (ns.map WData.int)->IntsAre vs ns:=by
 intro ns
 induction ns with
 |nil=>
  intro vs w;rw[List.map_nil]at w;cases w;exact .nil
 |cons n ns ih=>
  intro vs w;rw[qR]at w
  cases w with
  |cons a b=>
   cases a;exact .cons _ _ (ih _ b)
theorem uf{l:OpenLaw}{n:Nat}(hn:l.most=some n){P:Params}{h:Heap}{args:List WData}{vals:List Value}
 (hpre:l.row.toRowW.claim.pre args=true) (hwl:WellAll P h vals args):
 ∃a vs ns,vals=[Value.ref a]/\args=[WData.list (ns.map WData.int)]/\h.get? a=some { cls:=.type "list",data:=.seq vs.toArray }/\IntsAre vs ns/\ns.length<=n:=by
 have hsh:WShape.hasAll [] args [.list .int]=true:=(pre_splitW hpre).1;have hc:l.pre.holds [] { args:=args }=true:=(pre_splitW hpre).2;obtain⟨d,r,rfl,h1,h2⟩:=hasAllW_cons hsh;obtain rfl:=hasAllW_nil h2;obtain⟨xs,rfl,h3⟩:=hasW_list h1;obtain⟨ns,rfl⟩:=items_int h3
 have hlen:ns.length<=n:=by
  unfold OpenLaw.pre at hc
  have h4:(WTm.not (.lt (.lit (.int (n:Int))) (.len (.arg 0)))).holds [] { args:=[.list (ns.map .int)] }=true:=by
   have h4:=(holds_andW hc).1;rw[hn]at h4;exact h4
  have h5:=condW_of h4 (w_not (w_lt w_lit (w_len_list (w_arg U))));rw[q9]at h5;refine Nat.le_of_not_lt λq=>?_;have q':(n:Int)<((ns.length:Nat):Int):=Yd
  first
   |(rw[Q1 q']at h5;exact Q4 h5 Qz)
   |(simp at h5;omega)
 cases hwl with
 |cons w1 w2=>
  cases w2
  cases w1 with
  |list ho hall=>exact⟨_,_,ns,U,U,ho,yC ns _ hall,hlen⟩
theorem vL(l:OpenLaw)(args:List WData):l.row.toRowW.claim.post args (.bool true) args=true:=
 postW_of (r:=l.row.toRowW) (X:=(true == true))
  (show WShape.has [] (.bool true) .bool=true by first|rfl|decide|simp[WShape.has,WShape.arms,WShape.armsAll])
  (show(WTm.eq .res (.lit (.bool true))).value [] { args:=args,res:=some (.bool true),after:=args }=some (.bool (true == true))from w_eq_bool (w_res U) w_lit) U
section
variable {prog:Program}{w:World}{A:Around}{E:Yk}{s:Shared}{K:Frag}
end
end Att
namespace L2
open PySem PySem.Spec PyProof.Rows
theorem iZ:∀{vs:List Value}{ns:List Int},IntsAre vs ns->ao (ns.map V.int) vs
 |_,_,.nil=>.nil
 |_,_,.cons n t h=>.cons ⟨t,U⟩ (iZ h)
def iU(H:Hp):Prop:=∀b,H b=none\/∃o xs,H b=some (.frz o (.lst xs))
theorem ye{P:Program}{w:World}{K:W.Frag}{mg mb:Str->Option Value}{CX:CXT}{k:Nat}{fa a:Addr}{fd:FuncData}{x:Str}{sp:Sp}{s₁:Shared}{vs:List Value}{ns:List Int}
 (KX:K.In s₁.heap) (hns:s₁.heap.Ns mainGlobals mg) (hb:s₁.heap.Ns builtinsNs mb) (hbb:∀x:Str,x≠"__name__"->mb x=bootBuiltins x) (hlim:s₁.heap.NoLimit) (hg:s₁.gens=#[])
 (ha:s₁.heap.get? a=some { cls:=.type "list",data:=.seq vs.toArray }) (hi:IntsAre vs ns) (hl:ns.length<=sizeLine) (hr:bw k callerA)
 (F:∀base:Heap,K.In base->base.Ns mainGlobals mg->aC P w K mg base CX k fa fd [x] sp) (hbind:∀(s:Shared)(u:Value),BindsTo s fd ⟨[u],[]⟩ [(x,u)])
 (hsp:∀H:Hp,iU H->SqL K H a (ns.map V.int)->sp [.ref a] H (λv _=>v=.bl true) λ_ _ _=>False)
 (hCX:∀H e s',CX [] H s₁ (λ_ _ _=>False) e s'->False):
 codeAny (model P w) callerA (.call (.ref fa) ⟨[.ref a],[]⟩) (λr s'=>r=.ok (.ret (.bool true))/\OldK s₁.heap s'.heap/\s'.os=s₁.os/\AllBare s'.gens) s₁:=by
 have rv:=iZ hi;have cX:=hi.length
 have core:∀H:Hp,iU H->SqL K H a (ns.map V.int)->HOk P w H s₁.heap->(∀b,H b≠none->b=a)->(H a≠none->K.lookup a=none)->
  codeAny (model P w) callerA (.call (.ref fa) ⟨[.ref a],[]⟩) (λr s'=>r=.ok (.ret (.bool true))/\OldK s₁.heap s'.heap/\s'.os=s₁.os/\AllBare s'.gens) s₁:=by
  intro H hO hS hok hA hK;have base_of:∀{b:Addr}{o:Obj},s₁.heap.get? b=some o->H b=none->(dB s₁.heap H).get? b=some o:=λe n=>yI e n
  have noA:∀{b:Addr}{o:Obj}{es:Array DictEntry}{ep:Nat},s₁.heap.get? b=some o->o.data=.dict es ep->H b=none:=λ{b o es ep} e d=>by
   cases q:H b with
   |none=>rfl
   |some u=>
    have e':b=a:=hA b (by rw[q];simp);subst e';rw[ha]at e;cases e;have d':Data.seq vs.toArray _=Data.dict es ep:=d;cases d'
  have nsK:∀{b:Addr}{m:Str->Option Value},s₁.heap.Ns b m->(dB s₁.heap H).Ns b m:=λ{b m}⟨o,es,ep,e,d,r⟩=>⟨o,es,ep,base_of e (noA e d),d,r⟩
  have hKb:K.In (dB s₁.heap H):=λb o e=>base_of (KX b o e) (by
   cases q:H b with
   |none=>rfl
   |some u=>
    have e':b=a:=hA b (by rw[q];simp);subst e'
    rw[hK (by rw[q];simp)]at e;cases e)
  have hM:Mod K mg (dB s₁.heap H):=⟨hKb,nsK hns,⟨mb,nsK hb,hbb⟩,let ⟨mc,h1,h2⟩:=hlim;⟨mc,nsK h1,h2⟩⟩;have e0:fb P w K mg (dB s₁.heap H) callerA [] s₁ H:=⟨U,hM,λb o e=>xF e,Nat.le_of_eq (yH _ _),trivial,λb hb=>Q4 (show b∈([]:List Addr)from hb) (by simp),hok,.of_eq hg⟩;refine codeAny_mono ((F _ hKb (nsK hns)).run callerA [] s₁ H ⟨[.ref a],[]⟩ [.ref a] [.ref a] _ _ hr e0 (hbind s₁ (.ref a)) (.cons U .nil) (hsp H hO hS)) λr s' h=>?_
  cases r with
  |error e=>exact(hCX H e s' h).elim
  |ok fl=>
   cases fl with
   |next=>exact False.elim h
   |brk=>exact False.elim h
   |cont=>exact False.elim h
   |ret u=>
    obtain⟨v,H',os,bare,un,hok',r',q⟩:=h;have q':v=.bl true:=q;subst q';obtain rfl:u=Value.bool true:=r';refine⟨U,OldK.of_keep λb o e=>?_,os,bare⟩
    cases q:H b with
    |none=>exact un.keep b o e q (by intro z;exact Q4 (show b∈([]:List Addr)from z) (by simp)) (by simp)
    |some u=>
     rcases hO b with z|⟨ob,xs,z⟩
     ·rw[q]at z;cases z
     ·have z2:=un.frzs b ob _ z;obtain⟨e1,_⟩:=hok b _ z;obtain⟨e2,_⟩:=hok' b _ z2;rw[e]at e1;cases e1;exact e2
 cases hk:K.lookup a with
 |some o=>
  have e:=KX a o hk;rw[ha]at e;cases e;refine core (λ_=>none) (λ_=>.inl U) (.inr ⟨_,vs.toArray,_,hk,U,U,U,by rw[qC,cX];exact hl,by simpa using rv⟩) (λb u z=>by have z':(none:Option HO)=some u:=z;cases z') (λb z=>Q4 U z) λz=>Q4 U z
 |none=>
  refine core (λb=>if b=a then some (.frz { cls:=.type "list",data:=.seq vs.toArray } (.lst (ns.map V.int)))else none) (λb=>?_) (.inl (.inr ⟨{ cls:=.type "list",data:=.seq vs.toArray },Q0 U⟩)) (λb u z=>?_) (λb z=>?_) λ_=>hk
  ·by_cases hb:b=a
   ·exact .inr ⟨_,_,Q0 hb⟩
   ·exact .inl (qZ hb)
  ·by_cases hb:b=a
   ·have z':=(Q0 hb).symm.trans z;cases z';subst hb;exact⟨ha,by rw[q9];exact hl,vs,_,rv,ha⟩
   ·have z':=(qZ hb).symm.trans z;cases z'
  ·by_cases hb:b=a
   ·exact hb
   ·exact Q4 (qZ hb) z
abbrev CX0:CXT:=λ_ _ _ _ _ _=>False
abbrev E0:XK:=λ_ _ _=>False
theorem ar{X:Cx}:eB CX0 X E0:=λ_ _ _ _ _ _ _ h=>h.elim
structure Fun(K:W.Frag)(x qual:Str)(st:Stmt)(f:Addr)(fd:FuncData):Prop where
 ex:∃(oc:Value)(od:Option Addr)(kV doc pm:Value)(an:Option Addr)(cdv ct:Value)(osl:Array (Option Value)),
  fd=PySem.W.fnOf x qual (cz st) (cm st) (aj st) .none kV doc pm an cdv ct/\K.lookup f=some ⟨oc,od,.func fd,osl⟩/\PySem.W.codeIn K cdv qual=true
 kp:PySem.W.keepIn K (.ref f)=true
section
variable {P:Program}{w:World}{K:W.Frag}{mg:Str->Option Value}{base:Heap}
theorem Fun.ok{x qual:Str}{st:Stmt}{f:Addr}{fd:FuncData}{N ps:List Str}{k:Nat}{sp:Sp}(F:Fun K x qual st f fd)(S:aH N ps (aj st))(len:∀vs H Q E,sp vs H Q E->vs.length=ps.length)
 (hbody:∀(cdv:Value)(A:Around)(outer:List Env)(s:Shared)(H:Hp)(vs:List V)(Q:VK)(E:XK),bw k (A.deeper (envOfC qual (aj st) s.heap.objs.size f cdv))->sp vs H Q E->
  ∃t,PSs (dD CX0 P w K mg base N qual (aj st) f cdv A outer s H E).nox (cm st) t/\t { nx:=λ_ H'=>Q .non H',rt:=Q } (start N vs) H):aC P w K mg base CX0 (k+1) f fd ps sp:=by
 obtain⟨oc,od,kV,doc,pm,an,cdv,ct,osl,rfl,lk,hcd⟩:=F.ex;refine rC lk hcd S len λA outer s H vs Q E hr hsp=>?_;obtain⟨t,h,q⟩:=hbody cdv A outer s H vs Q E hr hsp;exact⟨t,h.nox,q⟩
theorem Fun.binds{x qual:Str}{st:Stmt}{f:Addr}{fd:FuncData}{ps:List Str}(F:Fun K x qual st f fd)
 (h:∀(kV doc pm:Value)(an:Option Addr)(cdv ct:Value)(us:List Value),us.length=ps.length->bindArgs (PySem.W.fnOf x qual (cz st) (cm st) (aj st) .none kV doc pm an cdv ct) ⟨us,[]⟩=pure (ps.zip us)):aD K fd ps []:=by
 obtain⟨oc,od,kV,doc,pm,an,cdv,ct,osl,rfl,lk,hcd⟩:=F.ex;exact .all (h kV doc pm an cdv ct)
theorem yR{x qual:Str}{st:Stmt}{f:Addr}{oc:Value}{od an:Option Addr}{osl:Array (Option Value)}{kV doc pm cdv ct:Value}(l:K.lookup f=some ⟨oc,od,.func (PySem.W.fnOf x qual (cz st) (cm st) (aj st) .none kV doc pm an cdv ct),osl⟩)
 (c:PySem.W.codeIn K cdv qual=true) (k:PySem.W.keepIn K (.ref f)=true):Fun K x qual st f (PySem.W.fnOf x qual (cz st) (cm st) (aj st) .none kV doc pm an cdv ct):=⟨⟨oc,od,kV,doc,pm,an,cdv,ct,osl,U,l,c⟩,k⟩
end
section
variable {X:Cx}
end
theorem gH{A B:Prop}(h:B):if false=true then A else B:=by
 rw[qZ qi];exact h
theorem bh{c A B:Prop}[Decidable c](h1:c->A)(h2:¬ c->B):if c then A else B:=by
 by_cases h:c
 ·rw[Q0 h];exact h1 h
 ·rw[qZ h];exact h2 h
def a9(H H':Hp):Prop:=∀b o,H b=some o->H' b=some o
theorem a9.refl(H:Hp):a9 H H:=λ_ _ h=>h
theorem a9.trans{H H1 H2:Hp}(a:a9 H H1)(b:a9 H1 H2):a9 H H2:=λc o h=>b c o (a c o h)
theorem a9.seq{K:W.Frag}{H H':Hp}{a:Addr}{xs:List V}(e:a9 H H')(h:SqL K H a xs):SqL K H' a xs:=by
 rcases h with(h|⟨o,h⟩)|h
 ·exact .inl (.inl (e _ _ h))
 ·exact .inl (.inr ⟨o,e _ _ h⟩)
 ·exact .inr h
section
variable {X:Cx}
theorem zx:bZ X (.builtin "len") (λxs H Q=>∃a kvs,xs=[V.ref a]/\H a=some (.dK kvs)/\Q (.int kvs.length) H):=by
 intro pins s σ H xs us Q I r h;obtain⟨a,kvs,rfl,ha,q⟩:=h;obtain⟨u,rfl,ru⟩:=eD r;cases ru;exact ze I (.inl ha) λt s' I'=>⟨.int kvs.length,H,I',⟨t,U⟩,q⟩
end
section
variable {κ:Type} [DecidableEq κ]
end
def cH(cells:List (Str×Addr)):List (Str×NameKind)->List (Str×Addr)->List (Str×Addr)
 |[],acc=>acc
 |(n,k)::r,acc=>cH cells r (if k == .free then(match cells.lookup n with|some c=>(n,c)::acc|none=>acc)else acc)
theorem zt{scope:Scope}{env:Env}(h:∀y∈scope.names,y.2=.free->∃c,env.cells.lookup y.1=some c):closureFor scope env=pure (cH env.cells scope.names []):=by
 simp only[closureFor];generalize ([]:List (Str×Addr))=acc
 revert h
 generalize scope.names=l;intro h
 induction l generalizing acc with
 |nil=>simp[cH]
 |cons x r ih=>
  obtain⟨n,k⟩:=x;rw[List.forIn_cons];have hr:∀y∈r,y.2=NameKind.free->∃c,env.cells.lookup y.1=some c:=λy hy=>h y (qk _ hy);by_cases hk:k=.free
  ·subst hk;obtain⟨c,e⟩:=h (n,.free) qm U;have e':List.lookup n env.cells=some c:=e;have e2:cellOf env n=pure c:=by unfold cellOf;rw[e']
   simp only[beq_self_eq_true,if_true,e2,pure_bind,cH,e'];exact ih _ hr
  ·have hb:(k == NameKind.free)=false:=by simpa using hk
   simp only[hb,Qj,if_false,pure_bind,cH];exact ih _ hr
theorem rf(cells:List (Str×Addr)):∀(l:List (Str×NameKind))(acc:List (Str×Addr))(p:Str×Addr),p∈cH cells l acc->p∈acc\/(p.1,NameKind.free)∈l/\cells.lookup p.1=some p.2
 |[],_,_,h=>.inl h
 |(n,k)::r,acc,p,h=>by
  have h':p∈cH cells r (if k == .free then(match cells.lookup n with|some c=>(n,c)::acc|none=>acc)else acc):=h;rcases rf cells r _ p h' with q|⟨q1,q2⟩
  ·by_cases hk:k=.free
   ·subst hk;simp only[beq_self_eq_true,if_true]at q
    cases e:cells.lookup n with
    |none=>rw[e]at q;exact .inl q
    |some c=>
     rw[e]at q;rcases qu.mp q with rfl|q
     ·exact .inr ⟨qm,e⟩
     ·exact .inl q
   ·have hb:(k == NameKind.free)=false:=by simpa using hk
    simp only[hb,Qj,if_false]at q;exact .inl q
  ·exact .inr ⟨qk _ q1,q2⟩
theorem pk{α β:Type}[BEq α][LawfulBEq α]{x:α}:∀{l:List (α×β)}{c:β},(x,c)∈l->∃d,l.lookup x=some d
 |(a,b)::r,c,h=>by
  by_cases e:x=a
  ·subst e;exact⟨b,by simp⟩
  ·rcases qu.mp h with q|q
   ·cases q;exact Q4 U e
   ·obtain⟨d,hd⟩:=pk q;refine⟨d,?_⟩;have e':(x == a)=false:=by simpa using e
    simp only[List.lookup_cons,e'];exact hd
theorem rh(cells:List (Str×Addr))(x:Str)(c:Addr)(e:cells.lookup x=some c):∀(l:List (Str×NameKind))(acc:List (Str×Addr)),((x,NameKind.free)∈l\/(x,c)∈acc)->(x,c)∈cH cells l acc
 |[],_,h=>h.elim (λq=>nomatch q) id
 |(n,k)::r,acc,h=>by
  refine rh cells x c e r _ ?_;rcases h with h|h
  ·rcases qu.mp h with q|q
   ·cases q;refine .inr ?_;rw[e];exact qm
   ·exact .inl q
  ·refine .inr ?_;by_cases hk:(k == NameKind.free)=true
   ·rw[Q0 hk]
    cases cells.lookup n with
    |none=>exact h
    |some _=>exact qk _ h
   ·rw[qZ hk];exact h
theorem e8{cells:List (Str×Addr)}{names:List (Str×NameKind)}{x:Str}{c:Addr}(h:(cH cells names []).lookup x=some c):cells.lookup x=some c:=by
 have hm:=Qh h;rcases rf cells names [] _ hm with q|⟨_,q⟩
 ·exact nomatch q
 ·exact q
theorem rj{cells:List (Str×Addr)}{names:List (Str×NameKind)}{x:Str}{c:Addr}(hm:(x,NameKind.free)∈names)(e:cells.lookup x=some c):(cH cells names []).lookup x=some c:=by
 obtain⟨d,hd⟩:=pk (rh cells x c e names [] (.inl hm));have:=e8 hd;rw[e]at this;rw[hd,this]
theorem o6{scope:Scope}{env:Env}{x:Str}{k:NameKind}(h:(relabel scope env).names.lookup x=some k):∃k',scope.names.lookup x=some k'/\(k'=k\/(k'=.free/\k=.cell)):=by
 have go:∀(l:List (Str×NameKind)),(l.map λ(n,k)=>if(k == NameKind.free && env.scope.kind == .function && env.kindOf n == some .cell)then(n,NameKind.cell)else(n,k)).lookup x=some k->∃k',l.lookup x=some k'/\(k'=k\/(k'=.free/\k=.cell)):=by
  intro l
  induction l with
  |nil=>intro h;simp at h
  |cons p r ih=>
   obtain⟨n,kk⟩:=p;intro h;simp only[qR]at h;by_cases hx:x=n
   ·subst hx;by_cases hc:(kk == NameKind.free && env.scope.kind == .function && env.kindOf x == some .cell)=true
    ·rw[Q0 hc]at h;simp at h
     have:kk=.free:=by
      simp only[Bool.and_eq_true,beq_iff_eq]at hc;exact hc.1.1
     exact⟨kk,by simp,.inr ⟨this,h.symm⟩⟩
    ·rw[qZ hc]at h;simp at h;exact⟨kk,by simp,.inl h⟩
   ·have e':(x == n)=false:=by simpa using hx
    have:∀b:Bool,(if b=true then(n,NameKind.cell)else(n,kk)).1=n:=λb=>by cases b<;>rfl
    rw[List.lookup_cons,this,e']at h;obtain⟨k',h1,h2⟩:=ih h;exact⟨k',by rw[List.lookup_cons,e'];exact h1,h2⟩
 exact go scope.names h
theorem uV{scope:Scope}{env:Env}{x:Str}(h:scope.names.lookup x=some .free):(relabel scope env).names.lookup x=some .cell\/(relabel scope env).names.lookup x=some .free:=by
 have go:∀(l:List (Str×NameKind)),l.lookup x=some .free->(l.map λ(n,k)=>if(k == NameKind.free && env.scope.kind == .function && env.kindOf n == some .cell)then(n,NameKind.cell)else(n,k)).lookup x=some .cell\/(l.map λ(n,k)=>if(k == NameKind.free && env.scope.kind == .function && env.kindOf n == some .cell)then(n,NameKind.cell)else(n,k)).lookup x=some .free:=by
  intro l
  induction l with
  |nil=>intro h;simp at h
  |cons p r ih=>
   obtain⟨n,kk⟩:=p;intro h;simp only[qR];by_cases hx:x=n
   ·subst hx;simp at h;by_cases hc:(kk == NameKind.free && env.scope.kind == .function && env.kindOf x == some .cell)=true
    ·rw[Q0 hc];simp
    ·rw[qZ hc];simp[h]
   ·have e':(x == n)=false:=by simpa using hx
    have t:∀b:Bool,(if b=true then(n,NameKind.cell)else(n,kk)).1=n:=λb=>by cases b<;>rfl
    rw[List.lookup_cons,e']at h;rw[List.lookup_cons,t,e'];exact ih h
 exact go scope.names h
section
variable {prog:Program}{w:World}{A:Around}{R:Result->Shared->Prop}{s:Shared}
theorem zr{elt target iter:Expr}{ifs:List Expr}{scope:Scope}{pos:Pos}{it acc:Value}{env:Env}(I:Nat->Shared->Prop)
 (turn:∀n s,I n s->wpAny (model prog w) A (pyNext it) (λr s₁=>match r with
  |none=>R (.ok .next) s₁
  |some v=>wpAny (model prog w) A (letOwnedTupleGo target it v) (λ_ s₁'=>wpAny (model prog w) A (assign target env v) (λ_ s₂=>
   wpAny (model prog w) A (forIn ifs true λc r=>if r=true then do let ok <- isTrue c env (eval c env);pure (ForInStep.yield ok)else pure (ForInStep.yield r)) (λok s₃=>
    if ok=true then wpAny (model prog w) A (eval elt env) (λx s₄=>
     wpAny (model prog w) A (call (.builtin "list.append") [acc,x]) (λ_ s₅=>∃m,m<n/\I m s₅) (λ_ _=>False) s₄) (λ_ _=>False) s₃
    else ∃m,m<n/\I m s₃) (λ_ _=>False) s₂) (λ_ _=>False) s₁') (λ_ _=>False) s₁) (λ_ _=>False) s)
 (n:Nat) (h:I n s):
 codeAny (model prog w) A (.compLoop (.ListComp elt [⟨target,iter,ifs,0⟩] scope pos) 0 it acc env) R s:=by
 refine codeAny_loop U I (λn s hI=>?_) n h;show wpAny _ A ((compTurn (.ListComp elt [⟨target,iter,ifs,0⟩] scope pos) 0 it acc env).onRaise (λx=>do noteFrame x env;theTreesLotGoes x)) _ _ s;refine wpAny_noted ?_;rw[compTurn_list];refine q5 (wpAny_standAt (q5 (wpAny_mono (turn n s hI) (λr s₁ h₁=>?_) λ_ _ h'=>h'.elim)))
 cases r with
 |none=>exact qd h₁
 |some v=>
  refine q5 (wpAny_mono h₁ (λ_ s₁' h₁'=>?_) λ_ _ h'=>h'.elim);refine q5 (wpAny_mono h₁' (λ_ s₂ h₂=>q5 (wpAny_mono h₂ (λok s₃ h₃=>?_) λ_ _ h'=>h'.elim)) λ_ _ h'=>h'.elim)
  cases ok with
  |false=>exact qd ⟨U,h₃⟩
  |true=>
   exact q5 (q5 (wpAny_mono h₃ (λx s₄ h₄=>q5 (wpAny_mono h₄ (λ_ s₅ h₅=>qd (qd ⟨U,h₅⟩)) λ_ _ h'=>h'.elim)) λ_ _ h'=>h'.elim))
end
structure aL(esc:Scope)(N:List Str)(scope:Scope)(k:Nat)(Nc:List Str)(js:List Nat):Prop where
 kind:scope.kind=.function
 cell:∀y∈scope.names,y.2≠.cell
 names:∀y∈scope.names,y.2=.local->scope.names.lookup y.1=some .local
 free:∀y∈scope.names,y.2=.free->esc.names.lookup y.1=some .cell\/esc.names.lookup y.1=some .free
 len:Nc.length=k+js.length
 out:∀p∈(Nc.drop k).zip js,N[p.2]?=some p.1/\scope.names.lookup p.1=some .free
def eZ(k:Nat)(js:List Nat)(σ:St):St:=List.replicate k none++js.map λj=>(σ[j]?).join
def Cx.comp(X:Cx)(pins:List (Addr×Obj))(Nc:List Str)(scope:Scope)(fp:List Addr)(s:Shared)(H:Hp)(C:Addr):Cx:=
 { X with N:=Nc,s₀:=s,H₀:=H,env:=compEnvC scope (cH X.env.cells scope.names []) C X.env,outer:=X.stack,stack:=X.stack,ex:=fp,fn:=λ_=>false,pn:=X.pn++pins,xe:=λ_ _=>False }
section
variable {X:Cx}{pins:List (Addr×Obj)}{σ:St}{H:Hp}{s:Shared}{scope:Scope}{Nc:List Str}{js:List Nat}{k:Nat}
theorem aL.some(S:aL X.env.scope X.N scope k Nc js)(I:Inv X pins σ H s):∀y∈scope.names,y.2=.free->∃c,X.env.cells.lookup y.1=some c:=λy hy hk=>I.ok.has y.1 (S.free y hy hk)
theorem aL.clos(S:aL X.env.scope X.N scope k Nc js)(I:Inv X pins σ H s):closureFor scope X.env=pure (cH X.env.cells scope.names []):=zt (S.some I)
theorem zn(S:aL X.env.scope X.N scope k Nc js)(I:Inv X pins σ H s){fp:List Addr}(hf:∀b∈fp,cq X pins H b)(hlt:∀b∈fp,b<s.heap.objs.size){C:Addr}(hC:s.heap.objs.size<=C):(X.comp pins Nc scope fp s H C).Ok:=by
 have ltC:∀b,b<s.heap.objs.size->b≠C:=λb hb=>qG (qD hb hC)
 have notstk:∀b∈fp,b∉frs X.stack:=λb hb z=>by
  rcases qu.mp (I.stkSub b z)with e|e
  ·exact(hf b hb).2.1 e
  ·exact(hf b hb).2.2.1 e
 refine⟨I.ok.mod,S.kind,I.ok.glob,I.ok.blt,hC,λx y c h1 h2=>I.ok.inj x y c (e8 h1) (e8 h2),λx hx=>?_,λx c h=>?_,I.ok.hd,I.ok.frames,.inl U,λb hb=>⟨?_,λx c e=>(hf b hb).2.2.2.2.1 x c (e8 e)⟩,
  λb o e=>⟨(I.bs b o e).1,(I.bs b o e).2⟩,qy I.ok.bsz I.sz,λb o e hb=>?_,notstk,I.stack,I.stkFree⟩
 ·have hx':(relabel scope X.env).names.lookup x=some .cell\/(relabel scope X.env).names.lookup x=some .free:=hx
  have hfree:(x,NameKind.free)∈scope.names:=by
   rcases hx' with h|h
   ·obtain⟨k',h1,h2⟩:=o6 h;rcases h2 with rfl|⟨rfl,_⟩
    ·exact Q4 U (S.cell _ (Qh h1))
    ·exact Qh h1
   ·obtain⟨k',h1,h2⟩:=o6 h;rcases h2 with rfl|⟨rfl,_⟩
    ·exact Qh h1
    ·exact Qh h1
  obtain⟨c,hc⟩:=S.some I (x,.free) hfree U;exact⟨c,rj hfree hc⟩
 ·exact Q4 (show false=true from h) qi
 ·exact ltC b (hlt b hb)
 ·rcases(hf b hb).2.2.2.1 with q|q
  ·exact I.ok.noex b o e q
  ·exact Q4 (qD (qq e) (qy I.ok.bsz q)) (Qb _)
theorem zp(S:aL X.env.scope X.N scope k Nc js)(I:Inv X pins σ H s){fp:List Addr}(hf:∀b∈fp,cq X pins H b)(hlt:∀b∈fp,b<s.heap.objs.size){C:Addr}(hC:s.heap.objs.size<=C){s1:Shared}
 (os:s1.os=s.os) (bare:AllBare s1.gens) (kept:∀b o,s.heap.get? b=some o->s1.heap.get? b=some o) (ns:∃m,s1.heap.Ns C m):Inv (X.comp pins Nc scope fp s H C) [] (eZ k js σ) H s1:=by
 have ltC:∀b,b<s.heap.objs.size->b≠C:=λb hb=>qG (qD hb hC);refine⟨zn S I hf hlt hC,os,bare,Un.kept kept,?_,λx c e=>?_,I.hok.fresh hC,λx c e=>I.freeC x c (e8 e),λp hp=>?_,I.hok.kept kept,?_⟩
 ·obtain⟨mc,hns⟩:=ns;refine⟨mc,hns,λi x v e1 e2 e3=>?_⟩;have e1':Nc[i]?=some x:=e1;by_cases hi:i<k
  ·unfold eZ at e2;rw[Q5 (by simpa using hi),List.getElem?_replicate,Q0 hi]at e2;cases e2
  ·obtain⟨i',rfl⟩:∃i',i=k+i':=⟨i-k,Yd⟩;unfold eZ at e2;rw[qL (by simp),List.length_replicate,Nat.add_sub_cancel_left,qE]at e2
   cases ej:js[i']? with
   |none=>rw[ej]at e2;cases e2
   |some j=>
    rw[ej]at e2;have e2':(σ[j]?).join=some v:=qJ e2
    have e4:σ[j]?=some (some v):=by
     cases q:σ[j]? with
     |none=>rw[q]at e2';cases e2'
     |some z=>rw[q]at e2';cases z with
      |none=>cases e2'
      |some z=>cases e2';rfl
    have hm:(x,j)∈(Nc.drop k).zip js:=qz (i:=i') (List.getElem?_zip_eq_some.mpr ⟨by rw[List.getElem?_drop];exact e1',ej⟩);obtain⟨hN,hfr⟩:=S.out _ hm;have hfm:(x,NameKind.free)∈scope.names:=Qh hfr;have hk:=S.free _ hfm U;obtain⟨m,hn,hl⟩:=I.loc;obtain⟨u,r,l⟩:=hl j x v hN e4 (.inr hk);refine⟨u,r,?_⟩;rcases l with⟨hk',_⟩|⟨_,c,hc,o,ho,hd⟩
    ·have hk'':X.env.scope.names.lookup x=some .local:=hk';rcases hk with hk|hk
     ·rw[hk]at hk'';cases hk''
     ·rw[hk]at hk'';cases hk''
    ·exact .inr ⟨uV hfr,c,rj hfm hc,o,kept _ _ ho,hd⟩
 ·obtain⟨v,o,ho,hd⟩:=I.cell x c (e8 e);exact⟨v,o,kept _ _ ho,hd⟩
 ·have hp':p∈X.pn++pins:=by
   rcases qh.mp hp with z|z
   ·exact z
   ·exact nomatch z
  obtain⟨e,n,ne,nf,d⟩:=I.pin p hp';refine⟨kept _ _ e,n,ltC _ (qq e),λz=>?_,d⟩;rcases qu.mp (I.stkSub _ z)with q|q
  ·exact ne q
  ·exact nf q
 ·show(eZ k js σ).length=Nc.length;unfold eZ;rw[qb,List.length_replicate,q9,S.len]
theorem zq(I:Inv X pins σ H s){fp:List Addr}(hf:∀b∈fp,cq X pins H b){C D:Addr}(hDs:s.heap.objs.size<=D){pins':List (Addr×Obj)}{σ':St}{H':Hp}{s':Shared}{ys:List V}{its:List Value}{n:Nat}
 (J:Inv (X.comp pins Nc scope fp s H C) pins' σ' H' s') (hD:H' D=none) (hz:ys.length<=sizeLine) (hv:ao ys its) (ho:s'.heap.get? D=some { cls:=.type "list",data:=.seq its.toArray n }):
 Inv X pins σ (upd H' D (.lst ys)) s':=by
 have B:Un (frs X.stack) fp H H' s.heap s'.heap:=J.base;have neD:∀b o,s.heap.get? b=some o->b≠D:=λb o e=>qG (qD (qq e) hDs);refine I.call' (ch:=fp) J.os ⟨B.keep,B.slot,λb o e n hx=>?_,B.there,λb xs e=>?_,λb o u e=>?_,λb ps e=>?_⟩ (λb o e=>?_) J.bare λb hb=>⟨(hf b hb).2.2.2.1,(hf b hb).2.1,(hf b hb).2.2.2.2.1,(hf b hb).2.2.2.2.2⟩
 ·rw[ah (neD b o e)];exact B.free b o e n hx
 ·rw[ah (ca (B.tups b xs e) hD)];exact B.tups b xs e
 ·rw[ah (ca (B.frzs b o u e) hD)];exact B.frzs b o u e
 ·obtain⟨more,q⟩:=B.tbls b ps e;exact⟨more,by rw[ah (ca q hD)];exact q⟩
 ·by_cases hb:b=D
  ·subst hb;rw[af]at e;cases e;exact⟨hz,its,n,hv,ho⟩
  ·rw[ah hb]at e;exact(J.hok b o e).stay (λc v _ q=>q) (λc q=>by rw[ah (ca q hD)];exact q) λc xs q=>by rw[ah (ca q hD)];exact q
end
def PTs(Y:Cx)(ifs:List Expr)(t:TT):Prop:=
 ∀(pins:List (Addr×Obj))(s:Shared)(σ:St)(H:Hp)(Q:Bool->Hp->Prop),Inv Y pins σ H s->t σ H Q->
  wpAny (model Y.prog Y.w) Y.A (forIn ifs true λc r=>if r=true then do let ok <- isTrue c Y.env (eval c Y.env);pure (ForInStep.yield ok)else pure (ForInStep.yield r)) (TP Y pins σ Q) Y.xe s
def dH:TT:=λ_ H Q=>Q true H
theorem bX{Y:Cx}:PTs Y [] dH:=λ_ _ _ H _ I h=>wpAny_tests_nil ⟨H,I,h⟩
theorem vE{Y:Cx}{c:Expr}{t:TT}(h:PT Y c t):PTs Y [c] t:=λpins s σ H Q I hq=>wpAny_tests_one (h pins s σ H Q I hq)
def d5(J:It)(g:TG)(tt:TT)(te:TE)(Fin:List V->Hp->Prop)(W:Nat->Nat->List V->St->Hp->Prop):Prop:=
 ∀i m ys σ H,W i m ys σ H->(J.stop i H/\ys.length<=sizeLine/\Fin ys H)\/(J.go i H/\ys.length<sizeLine/\∃N:List V->St->Hp->Prop,(∀ys' σ' H',N ys' σ' H'->∃m',m'<m/\W (i+1) m' ys' σ' H') /\
  ∀x H',J.yld i H x H'->g x σ H' λσ2 H2=>tt σ2 H2 λb H3=>if b=true then te σ2 H3 λy H4=>N (ys++[y]) σ2 H4 else N ys σ2 H3)
section
variable {X:Cx}{pins:List (Addr×Obj)}{σ:St}{H:Hp}{s:Shared}{scope:Scope}{Nc:List Str}{js:List Nat}{k:Nat}{tg iter elt:Expr}{ifs:List Expr}{pos:Pos}{g:TG}{tt:TT}{te:TE}
theorem rM{J:It}{fp:List Addr}{it:Addr}{tn:Nat->Heap->Prop}{Fin:List V->Hp->Prop}{W:Nat->Nat->List V->St->Hp->Prop}{RR:Value->Addr->Result->Shared->Prop}{E:Yk}{m0:Nat}
 (S:aL X.env.scope X.N scope k Nc js) (hc:X.calm=true) (I:Inv X pins σ H s) (T:f6 X.prog X.w X.K tg J fp it tn) (st:tn 0 s.heap) (hf:∀b∈fp,cq X pins H b)
 (hg:∀pins fp s H C,PG (X.comp pins Nc scope fp s H C) tg g) (ht:∀pins fp s H C,PTs (X.comp pins Nc scope fp s H C) ifs tt) (he:∀pins fp s H C,PE (X.comp pins Nc scope fp s H C) elt te)
 (w0:W 0 m0 [] (eZ k js σ) H) (turn:d5 J g tt te Fin W)
 (hRR:∀D C s' ys H',Inv X pins σ (upd H' D (.lst ys)) s'->cq X pins (upd H' D (.lst ys)) C->(∃m,s'.heap.Ns C m)->H' D=none->Fin ys H'->RR (.ref D) C (.ok .next) s'):
 wpAny (model X.prog X.w) X.A (newList []) (λacc s₃=>wpAny (model X.prog X.w) X.A (newFunctionEnv scope X.env.globals (cH X.env.cells scope.names []) [] X.env.qual none .none (some X.env)) (λcenv s₄=>
  codeAny (model X.prog X.w) X.A (.compStart (.ListComp elt [⟨tg,iter,ifs,0⟩] scope pos) 0 (.ref it) acc { cenv with scope:=relabel scope X.env }) (RR acc cenv.locals) s₄) E s₃) E s:=by
 refine wpAny_newObj_type (wpAny_newFunctionEnv S.cell (by intro y hy;simp at hy) (λh₁ hns₁ hsb₁=>?_) S.kind);dsimp only at hns₁ hsb₁ ⊢;generalize hH2:s.heap.push { cls:=.type "list",dict:=none,data:=.seq ([]:List Value).toArray }=H2 at hns₁ hsb₁ ⊢;have hC:H2.objs.size=s.heap.objs.size+1:=by rw[<- hH2,Qf]
 have hCle:s.heap.objs.size<=H2.objs.size:=by rw[hC];exact Nat.le_succ _
 have hDC:s.heap.objs.size≠H2.objs.size:=by rw[hC];exact qG (Qa _)
 have old:∀b o,s.heap.get? b=some o->h₁.get? b=some o:=λb o e=>
  hsb₁.extBut b o (qG (qD (qq e) hCle)) (qa _ (hH2▸qa _ e))
 have hacc:h₁.get? s.heap.objs.size=some { cls:=.type "list",data:=.seq ([]:List Value).toArray 0 }:=hsb₁.extBut _ _ hDC (qa _ (hH2▸qp _ U));have hob:∀b∈fp,∃o,s.heap.get? b=some o:=λb hb=>let ⟨o,e,_⟩:=T.obj 0 _ st b hb;⟨o,e⟩;have hlt:∀b∈fp,b<s.heap.objs.size:=λb hb=>let ⟨_,e⟩:=hob b hb;qq e
 have notstk:∀b∈fp,b∉frs X.stack:=λb hb z=>by
  rcases qu.mp (I.stkSub b z)with e|e
  ·exact(hf b hb).2.1 e
  ·exact(hf b hb).2.2.1 e
 have hDstk:s.heap.objs.size∉frs X.stack:=λz=>by
  rcases qu.mp (I.stkSub _ z)with e|e
  ·have:=I.lt;rw[<- e]at this;exact Qb _ this
  ·exact I.nofs (qe _) e
 let dpin:List Value->Nat->List (Addr×Obj):=λits n=>[(s.heap.objs.size,{ cls:=.type "list",data:=.seq its.toArray n })]
 have fpok:∀{H':Hp}{its:List Value}{n:Nat},(∀b∈fp,H' b=none)->∀b∈fp,cq (X.comp pins Nc scope fp s H H2.objs.size) (dpin its n) H' b:=λ{H' its n} hn b hb=>
  ⟨hn b hb,qG (qD (hlt b hb) hCle),notstk b hb,.inl hb,λx c e=>(hf b hb).2.2.2.2.1 x c (e8 e),λp hp z=>by
   rcases qh.mp hp with q|q
   ·exact(hf b hb).2.2.2.2.2 p q z
   ·have e:p=(s.heap.objs.size,_):=qS.mp q;rw[e]at z
    exact Q4 (hlt b hb) (by rw[<- z];exact Qb _)⟩
 have loop:∀s₃:Shared,s₃={ s with heap:=h₁,toks:=s.toks+([]:List (Str×Value)).length }->
  codeAny (model X.prog X.w) X.A (.compLoop (.ListComp elt [⟨tg,iter,ifs,0⟩] scope pos) 0 (.ref it) (.ref s.heap.objs.size) (compEnvC scope (cH X.env.cells scope.names []) H2.objs.size X.env)) (RR (.ref s.heap.objs.size) H2.objs.size) s₃:=by
  rintro s₃ rfl
  refine zr (λn s'=>∃i ys its nn σc H',Inv (X.comp pins Nc scope fp s H H2.objs.size) [] σc H' s'/\tn i s'.heap/\(∀b∈fp,H' b=none)/\H' s.heap.objs.size=none/\ao ys its /\
   s'.heap.get? s.heap.objs.size=some { cls:=.type "list",data:=.seq its.toArray nn }/\W i n ys σc H') ?_ m0 ?_
  ·rintro n s3 ⟨i,ys,its,nn,σ3,H3,I3,st3,fr3,hD3,hv3,ho3,w3⟩
   have I3':Inv (X.comp pins Nc scope fp s H H2.objs.size) (dpin its nn) σ3 H3 s3:=I3.pins_of λp hp=>by
    have e:p=(s.heap.objs.size,_):=qS.mp hp;subst e;exact⟨ho3,hD3,hDC,hDstk,λv z=>by cases z⟩
   rcases turn i n ys σ3 H3 w3 with⟨stop,hz,fin⟩|⟨go,hz,N,hN,step⟩
   ·refine thn (T.done (X.comp pins Nc scope fp s H H2.objs.size) U U U hc i (dpin its nn) s3 σ3 H3 (λ_ _=>False) I3' (fpok fr3) st3 stop) λr s4 ⟨hr,I4⟩=>?_;subst hr;have ho4:=(I4.pin _ (qI _ (qS.mpr U))).1;obtain⟨m4,hn4,_⟩:=I4.loc;refine hRR _ _ s4 ys H3 (zq I hf (qe _) I4 hD3 hz hv3 ho4) (I.fpOk hCle ?_) ⟨m4,hn4⟩ hD3 fin;rw[ah (Ne.symm hDC)];exact I4.free
   ·refine thn (T.item (X.comp pins Nc scope fp s H H2.objs.size) U U U hc i (dpin its nn) s3 σ3 H3 (λ_ _=>False) I3' (fpok fr3) st3 go) λr s4 ⟨u,hr,h4⟩=>?_;subst hr;refine thn h4 λ_ s5 ⟨x,H5,I5,r5,y5,st5,fr5⟩=>?_;have I5':=I5.pinned (fpok fr5) (T.obj _ _ st5);refine thn (hg pins fp s H H2.objs.size _ s5 σ3 H5 x u _ I5' r5 (step x H5 y5)) λ_ s6 ⟨σ6,H6,I6,q6⟩=>?_;refine thn (ht pins fp s H H2.objs.size _ s6 σ6 H6 _ I6 q6) λok s7 ⟨H7,I7,q7⟩=>?_
    have keepIt:∀{σ':St}{H':Hp}{s':Shared},Inv (X.comp pins Nc scope fp s H H2.objs.size) (dpin its nn++gx fp s5.heap) σ' H' s'->
     s'.heap.get? s.heap.objs.size=some { cls:=.type "list",data:=.seq its.toArray nn }/\H' s.heap.objs.size=none/\(∀b∈fp,H' b=none)/\(∀b∈fp,∀o,s5.heap.get? b=some o->s'.heap.get? b=some o):=λ{σ' H' s'} J=>by
     have p1:=J.pin (s.heap.objs.size,_) (qI _ (qV _ (qS.mpr U)));refine⟨p1.1,p1.2.1,λb hb=>?_,λb hb o e=>(J.pin (b,o) (qI _ (qI _ (iu hb e)))).1⟩;obtain⟨o,e,_⟩:=T.obj _ _ st5 b hb;exact(J.pin (b,o) (qI _ (qI _ (iu hb e)))).2.1
    cases ok with
    |true=>
     rw[Q0 U]at q7 ⊢;refine thn (he pins fp s H H2.objs.size _ s7 σ6 H7 _ I7 q7) λy s8 ⟨v,H8,I8,r8,q8⟩=>?_;obtain⟨ho8,hD8,fr8,k8⟩:=keepIt I8;refine append_at (hsz:=by have:=hv3.length;show its.toArray.size<=sizeLine;rw[qC,<- this];exact Nat.le_of_lt hz) ho8 λh9 hs9 ho9=>?_;obtain⟨m',hm',w9⟩:=hN _ _ _ q8;have I8u:Inv (X.comp pins Nc scope fp s H H2.objs.size) [] σ6 H8 s8:=I8.pins_of λp hp=>nomatch hp
     have I9:Inv (X.comp pins Nc scope fp s H H2.objs.size) [] σ6 H8 { s8 with heap:=h9 }:=I8u.turned (t':=s8.toks) (it:=s.heap.objs.size) (λb o hb e=>(hs9.2 b hb).trans e) hD8 hDC (.inr (qe _)) (λx c e z=>by
      obtain⟨v,q⟩:=I.cell x c (e8 e)
      exact Q4 q.lt (by rw[z];exact Qb _)) λp hp z=>by
       have hp':p∈X.pn++pins:=by
        rcases qh.mp hp with q|q
        ·exact q
        ·exact nomatch q
       exact Q4 (qq (I.pin p hp').1) (by rw[z];exact Qb _)
     refine⟨m',hm',i+1,ys++[v],its++[y],nn+1,σ6,H8,I9,T.keep _ _ _ st5 λb hb o e=>(hs9.2 b (qG (hlt b hb))).trans (k8 b hb o e),fr8,hD8,hv3.append (.cons r8 .nil),?_,w9⟩;show h9.get? s.heap.objs.size=_;rw[ho9];simp
    |false=>
     rw[qZ qi]at q7 ⊢;obtain⟨ho8,hD8,fr8,k8⟩:=keepIt I7;obtain⟨m',hm',w9⟩:=hN _ _ _ q7;exact⟨m',hm',i+1,ys,its,nn,σ6,H7,I7.pins_of λp hp=>(nomatch hp),T.keep _ _ _ st5 k8,fr8,hD8,hv3,ho8,w9⟩
  ·exact⟨0,[],[],0,_,H,zp S I hf hlt hCle U I.bare old ⟨_,hns₁⟩,T.keep _ _ _ st λb _ o e=>old b o e,λb hb=>(hf b hb).1,I.hok.fresh (qe _),.nil,hacc,w0⟩
 exact codeAny_compStart_list (loop _ U) (T.self X.A 0 _ _ _ (T.keep _ _ _ st λb _ o e=>old b o e) (loop _ U))
def mf(wi:TI)(k:Nat)(js:List Nat)(g:TG)(tt:TT)(te:TE):TE:=λσ H Q=>wi σ H λJ H1=>∃W:Nat->Nat->List V->St->Hp->Prop,(∃m,W 0 m [] (eZ k js σ) H1) /\
 d5 J g tt te (λys H=>∀D,H D=none->Q (.ref D) (upd H D (.lst ys))) W
theorem cs{wi:TI}(S:aL X.env.scope X.N scope k Nc js)(hc:X.calm=true)(hi:PI X tg iter wi)
 (hg:∀pins fp s H C,PG (X.comp pins Nc scope fp s H C) tg g) (ht:∀pins fp s H C,PTs (X.comp pins Nc scope fp s H C) ifs tt) (he:∀pins fp s H C,PE (X.comp pins Nc scope fp s H C) elt te)
 (hs:∀x,foldedSetIterable iter X.env x=pure x:=by intro _;rfl):PE X (.ListComp elt [⟨tg,iter,ifs,0⟩] scope pos) (mf wi k js g tt te):=by
 intro pins s σ H Q I h;rw[eval_ListComp];refine wpAny_comprehension_free (use:=none) U hs (S.clos I) S.kind S.names (thn (hi pins s σ H _ I h) λxv s1 h1=>thn h1 λitv s2 h2=>?_);obtain⟨it,fp,tn,J,H2,e,I2,T,st2,f2,W,⟨m0,w0⟩,turn⟩:=h2;subst e;refine rM (RR:=λacc C=>compPost (model X.prog X.w) X.A X.xe none (EP X pins σ Q) acc C) S hc I2 T st2 f2 hg ht he w0 turn λD C s' ys H' I' fC ns hD fin=>?_;obtain⟨m,hn⟩:=ns;exact⟨m,hn,λh' hs'=>⟨.ref D,_,I'.turned (t':=s'.toks) (λb o hb e=>(hs'.2 b hb).trans e) fC.1 fC.2.1 fC.2.2.2.1 fC.2.2.2.2.1 fC.2.2.2.2.2,U,fin D hD⟩⟩
theorem i9{wi:TI}{i:Nat}{x:Str}{px spos:Pos}(hN:X.N.Nodup)(hi':X.N[i]?=some x)(hx:Loc X.env.scope x)(S:aL X.env.scope X.N scope k Nc js)(hc:X.calm=true)(hi:PI X tg iter wi)
 (hg:∀pins fp s H C,PG (X.comp pins Nc scope fp s H C) tg g) (ht:∀pins fp s H C,PTs (X.comp pins Nc scope fp s H C) ifs tt) (he:∀pins fp s H C,PE (X.comp pins Nc scope fp s H C) elt te)
 (hsw:swapsWith (.ListComp elt [⟨tg,iter,ifs,0⟩] scope pos) (some (.Name x px)) spos.line X.env=pure true:=by rfl)
 (hs:∀x,foldedSetIterable iter X.env x=pure x:=by intro _;rfl) (hf:X.fn x=true\/X.env.scope.names.lookup x=some .local:=by first|exact .inl U|exact .inr U|assumption):
 PS X (.Assign [.Name x px] (.ListComp elt [⟨tg,iter,ifs,0⟩] scope pos) spos) (j7 (mf wi k js g tt te) (aI i)):=by
 intro pins s σ H D I h;rw[exec_Assign_Name_used _ _ _ _ hsw];refine q5 (wpAny_standAt (q5 ?_));show wpAny _ X.A (do let _ <- comprehension (.ListComp elt [⟨tg,iter,ifs,0⟩] scope pos) scope X.env _ (newList []) false (eval iter X.env) (some (assign (.Name x px) X.env))) _ _ s
 refine q5 (wpAny_mono (wpAny_comprehension_free (use:=some (assign (.Name x px) X.env)) (Q:=λ_ s'=>SP X pins D .next s') U hs (S.clos I) S.kind S.names
  (thn (hi pins s σ H _ I h) λxv s1 h1=>thn h1 λitv s2 h2=>?_)) (λ_ s' hq=>qd (qd hq)) λ_ _ e=>e)
 obtain⟨it,fp,tn,J,H2,e,I2,T,st2,f2,W,⟨m0,w0⟩,turn⟩:=h2;subst e;refine rM (RR:=λacc C=>compPost (model X.prog X.w) X.A X.xe (some (assign (.Name x px) X.env)) (λ_ s'=>SP X pins D .next s') acc C) S hc I2 T st2 f2 hg ht he w0 turn λA C s' ys H' I' fC ns hD fin=>?_;obtain⟨m,hn⟩:=ns;show wpAny _ X.A (assign (.Name x px) X.env (.ref A)) _ _ _;refine wpAny_assign_Name (mj I' hN hi' hx (v:=.ref A) U (λs'' I'' ⟨a,sb,ha⟩=>?_) hf)
 have hCa:C≠a:=by
  rcases ha with ha|ha
  ·rw[ha];exact fC.2.1
  ·exact λz=>fC.2.2.2.2.1 x a ha z.symm
 exact⟨m,hn.sameBut sb hCa,λh' hs'=>⟨_,_,I''.turned (t':=s''.toks) (λb o hb e=>(hs'.2 b hb).trans e) fC.1 fC.2.1 fC.2.2.2.1 fC.2.2.2.2.1 fC.2.2.2.2.2,fin A hD⟩⟩
end
section
variable {X:Cx}{tg:Expr}
theorem wg:OpR X (binaryOp .Mult) (rI IntMulOk λi j=>.int (i * j)):=opI λ_ _ _ _ _ _ _ hc q=>mul_int q hc
theorem zy:bZ X (.builtin "isinstance") (λxs H Q=>∃x t T b,xs=[x,.ty T]/\cK X.K H x t/\PySem.W.kitOne X.K t (.type T)=some b/\Q (.bl b) H):=by
 intro pins s σ H xs us Q I r h;obtain⟨x,t,T,b,rfl,ty,e,q⟩:=h;obtain⟨u,c,rfl,ru,rc⟩:=gO r;have ec:c=.type T:=rc;subst ec;exact yz I ru ty e λtk=>⟨.bl b,H,I.tok tk,U,q⟩
def vj(K:W.Frag):R2:=λx y H Q=>∃l b xs zs,x=.ref l/\y=.ref b/\SqL K H l xs/\SqL K H b zs/\xs.length+zs.length<=sizeLine/\∀p,H p=none->Q (.ref p) (upd H p (.lst (xs++zs)))
theorem wy:OpR X (binaryOp .Add) (vj X.K):=by
 intro pins s σ H x y v u Q I rx ry h;obtain⟨l,b,xs,zs,rfl,rfl,hH,hB,hz,q⟩:=h;cases rx;cases ry;obtain⟨its,r,pl,z1⟩:=I.list hH;obtain⟨its2,r2,pl2,z2⟩:=I.list hB;have hl1:=r.length;have hl2:=r2.length;obtain⟨⟨cls,dd,data,sl⟩,n,ho,hc,_,hd⟩:=pl;obtain⟨⟨cls2,dd2,data2,sl2⟩,n2,ho2,hc2,_,hd2⟩:=pl2;simp only at hc hd hc2 hd2;subst hc hd hc2 hd2;refine concat_meets ⟨_,ho,U⟩ ⟨_,ho2,U⟩ noFill_list_add seq_list_add PySem.F.slot_list_add PySem.F.entry_list_add (PySem.F.args_list_add_2 _ _) (list_addW l b its.toArray its2.toArray n n2 dd dd2 sl sl2 (by rw[qC,qC];omega)) ⟨ho,ho2,?_⟩;have ea:its.toArray++its2.toArray=(its++its2).toArray:=by simp
 rw[ea];exact⟨.ref _,_,I.lnew (t':=s.toks) (r.append r2) (by rw[qb];omega),U,q _ I.fresh⟩
end
section
variable {X:Cx}
end
theorem fU{te:TE}{N N':V->St->Hp->Prop}{M:St->Hp->Prop}:(λ(σ2:St)(H2:Hp)=>dH σ2 H2 λb H3=>if b=true then te σ2 H3 λy H4=>N y σ2 H4 else M σ2 H3)=λσ2 H2=>te σ2 H2 λy H4=>N y σ2 H4:=by
 funext σ2 H2
 unfold dH;dsimp only;rw[Q0 U]
def lv(e:Expr):Option V:=match e with
 |.Constant (.str x) _ _=>some (.str x)
 |.Constant (.int i) _ _=>some (.int i)
 |.Constant (.bool b) _ _=>some (.bl b)
 |.Constant .none _ _=>some .non
 |_=>none
def lh:List Expr->Option (List V)
 |[]=>some []
 |e::es=>match lv e,lh es with
  |some v,some vs=>some (v::vs)
  |_,_=>none
def t5(vs:List V):TA:=λ_ H Q=>Q vs H
theorem w5{X:Cx}{e:Expr}{v:V}(h:lv e=some v):PE X e (tC v)/\∀es,starEach (e::es) X.env=(false,eval e X.env)::starEach es X.env:=by
 unfold lv at h;split at h
 ·cases h;exact⟨bF,λ_=>U⟩
 ·cases h;exact⟨aa,λ_=>U⟩
 ·cases h;exact⟨cG,λ_=>U⟩
 ·cases h;exact⟨eN,λ_=>U⟩
 ·cases h
theorem oI{X:Cx}:∀{es:List Expr}{vs:List V},lh es=some vs->PA X es (t5 vs)
 |[],vs,h=>by cases h;exact ac
 |e::es,vs,h=>by
  unfold lh at h;split at h
  ·rename_i v ws h1 h2;cases h;obtain⟨p,s⟩:=w5 (X:=X) h1;exact a8 p (oI h2) (s es)
  ·cases h
section
variable {X:Cx}
theorem xD:OpR X (binaryOp .Add) (λx y H Q=>∃i j,x=.int i/\y=.int j/\Q (.int (i+j)) H):=wA
theorem xr:OpR X (binaryOp .Sub) (λx y H Q=>∃i j,x=.int i/\y=.int j/\Q (.int (i-j)) H):=wa
theorem bY:OpR X (binaryOp .Mult) (λx y H Q=>∃i j,x=.int i/\y=.int j/\IntMulOk i j/\Q (.int (i * j)) H):=wg
theorem xB:OpR X (binaryOp .FloorDiv) (λx y H Q=>∃i j,x=.int i/\y=.int j/\(0<j/\j<1073741824)/\Q (.int (i / j)) H):=wu
theorem xw:OpR X (binaryOp .Mod) (λx y H Q=>∃i j,x=.int i/\y=.int j/\0<j/\Q (.int (i % j)) H):=wj
theorem gA:OpR X (binaryOp .Pow) (λx y H Q=>∃i j,x=.int i/\y=.int j/\(0<=j/\j<=1000000/\i.natAbs<2 ^ 64)/\Q (.int (i ^ j.toNat)) H):=wb
theorem xx:OpR X (compareOp .Lt) (λx y H Q=>∃i j,x=.int i/\y=.int j/\Q (.bl (decide (i<j))) H):=wn
theorem xy:OpR X (compareOp .Gt) (λx y H Q=>∃i j,x=.int i/\y=.int j/\Q (.bl (decide (j<i))) H):=wq
end
end L2
namespace Att
open PySem PySem.W PySem.Calls PyProof.Rows
theorem ug{ns:List Int}(h:WData.layableAll [WData.list (ns.map WData.int)]=true):∀n∈ns,Builtin.Int.intBits n<=2 ^ 20:=λn hn=>by
 have h1:=layableW_arg h _ (qS.mpr U);have h2:=layableW_item h1 (WData.int n) (List.mem_map.mpr ⟨n,hn,U⟩);exact PyData.bits_of_layable (layable0_of_all (lay0_int h2))
theorem attach_callB{l:OpenLaw}{n:Nat}{q:Program}{loose:List Str}{XP:(Str->Option Value)->Heap->Prop}{YP:World->Heap->Prop}{d:DefRec}
 (hn:l.most=some n) (hdf:d.params.defaults=[])
 (call:∀(w:World)(s₀ s₁:Shared)(mg mb:Str->Option Value)(fa:Addr)(o:Obj)(pm cd doc:Value)(a:Addr)(vs:List Value)(ns:List Int),
  Ground q loose [] XP w s₀ mg mb s₁.heap->YP w s₁.heap->
  s₁.heap.get? fa=some o->o.data=.func (docDef d.name d.params d.body d.scope pm cd doc)->s₁.heap.CodeRec cd d.name->mg d.name=some (.ref fa)->
  s₁.heap.get? a=some { cls:=.type "list",data:=.seq vs.toArray }->IntsAre vs ns->ns.length<=n->(∀k∈ns,Builtin.Int.intBits k<=2 ^ 20)->s₁.gens=#[]->
  codeAny (model l.prog w) callerA (.call (.ref fa) ⟨[.ref a],[]⟩) (λr s'=>r=.ok (.ret (.bool true))/\OldK s₁.heap s'.heap/\s'.os=s₁.os/\AllBare s'.gens) s₁):
 WalkO q loose XP YP l.row.toRowW d [] (λf vs=>PySem.call f vs):=by
 intro w s₀ s₁ mg mb G Y fa o pm cd doc dV kV ho hd hcd hD hmg hg args vals as hpre hlay hrd hwl hlo;obtain rfl:dV=.none:=Dflts.none hD hdf;obtain rfl:kV=.none:=Dflts.noKw hD;obtain⟨a,vs,ns,rfl,rfl,hobj,hints,hlen⟩:=uf hn hpre hwl;refine enter_call (codeAny_mono (call w s₀ s₁ mg mb fa o pm cd doc a vs ns G Y ho (fd_plain hd) hcd hmg hobj hints hlen (ug hlay) hg) λr s' hq=>?_);obtain⟨rfl,h2,h3,h4⟩:=hq;exact⟨.inl ⟨.bool true,.bool true,[],U,λ_=>U,.bool true,vL l _,λ_=>⟨List.Pairwise.nil,λ_ hm=>(nomatch hm)⟩⟩,h2,h3,h4⟩
end Att
namespace L2
open PySem PySem.Spec PyProof.Rows
theorem sO{l:PySem.W.OpenLaw}{n k:Nat}{q:Program}{loose:List Str}{XP:(Str->Option Value)->Heap->Prop}{YP:World->Heap->Prop}{d:DefRec}{K:Params->PySem.W.Frag}{CX:World->CXT}{sp:World->Sp}{x:Str}
 (hn:l.most=some n) (hn2:n<=sizeLine) (hdf:d.params.defaults=[]) (hr:bw k callerA)
 (hY:∀(w:World)(h:Heap),YP w h->(K w.params).In h)
 (F:∀(w:World)(mg:Str->Option Value)(fa:Addr)(h:Heap),(K w.params).In h->h.Ns mainGlobals mg->mg d.name=some (.ref fa)->
  ∃fd:FuncData,(∀(s:Shared)(u:Value),BindsTo s fd ⟨[u],[]⟩ [(x,u)]) /\
   ∀base:Heap,(K w.params).In base->base.Ns mainGlobals mg->aC l.prog w (K w.params) mg base (CX w) k fa fd [x] (sp w))
 (hsp:∀(w:World)(H:Hp)(a:Addr)(ns:List Int),ns.length<=n->(∀k∈ns,Builtin.Int.intBits k<=2 ^ 20)->iU H->SqL (K w.params) H a (ns.map V.int)->sp w [.ref a] H (λv _=>v=.bl true) λ_ _ _=>False)
 (hCX:∀(w:World)(H:Hp)(s:Shared)(e:Value)(s':Shared),CX w [] H s (λ_ _ _=>False) e s'->False):
 PySem.W.WalkO q loose XP YP l.row.toRowW d [] (λf vs=>PySem.call f vs):=by
 refine Att.attach_callB hn hdf λw s₀ s₁ mg mb fa o pm cd doc a vs ns G Y ho hd hcd hmg hobj hints hlen hbits hg=>?_;have KX:=hY w _ Y;obtain⟨fd,hb,hF⟩:=F w mg fa _ KX G.T.g hmg;exact ye KX G.T.g G.T.b G.T.builtins G.T.nolimit hg hobj hints (qy hlen hn2) hr hF hb (λH hO hS=>hsp w H a ns hlen hbits hO hS) λH e s'=>hCX w H s₁ e s'
theorem a9.new{H:Hp}{p:Addr}(h:H p=none)(o:HO):a9 H (upd H p o):=λb u q=>by rw[ah (ca q h)];exact q
theorem yu{α:Type}{P R:α->Prop}{c A:Prop}{inst:Decidable c}(w:α)(hw:P w)(rest:∀w,P w->R w)(h:c->(∀w,P w->R w)->A):if c then A else R w:=by
 by_cases hc:c
 ·rw[Q0 hc];exact h hc rest
 ·rw[qZ hc];exact rest w hw
theorem yt{α:Type}{P R:α->Prop}{c A B:Prop}{inst:Decidable c}{w:α}(hw:P w)(rest:∀w,P w->R w)(h:c->(∀w,P w->R w)->A)(e:B=R w:=by rfl):@ite Prop c inst A B:=by
 subst e;exact yu w hw rest h
theorem bf{n m:Nat}(h:n<=m)(hm:m<=1000000:=by decide):n<=sizeLine:=qy h (qy hm (by rw[sizeLine_eq];decide))
theorem xY{i:Int}(h:i.natAbs<2 ^ 1000):i.natAbs.log2<1920:=by
 by_cases h0:i.natAbs=0
 ·rw[h0];decide
 ·exact Nat.lt_trans ((Nat.log2_lt h0).mpr h) Qz
def SIt(h:Heap):Bool->Addr->Addr->Nat->Prop
 |false,it,l,k=>h.IsListIter it l k
 |true,it,l,k=>h.IsTupleIter it l k
def SSq(h:Heap):Bool->Addr->Array Value->Prop
 |false,l,xs=>h.IsList l xs
 |true,l,xs=>h.IsTuple l xs
theorem SIt.obj{h:Heap}:∀{b:Bool}{it l:Addr}{k:Nat},SIt h b it l k->∃o,h.get? it=some o/\∃vs,o.data=.fields vs
 |false,_,_,_,⟨o,e,_,d⟩=>⟨o,e,_,d⟩
 |true,_,_,_,⟨o,e,_,d⟩=>⟨o,e,_,d⟩
theorem SIt.keep{h h':Heap}:∀{b:Bool}{it l:Addr}{k:Nat},SIt h b it l k->(∀o,h.get? it=some o->h'.get? it=some o)->SIt h' b it l k
 |false,_,_,_,⟨o,e,r⟩,f=>⟨o,f o e,r⟩
 |true,_,_,_,⟨o,e,r⟩,f=>⟨o,f o e,r⟩
theorem SSq.keep{h h':Heap}:∀{b:Bool}{l:Addr}{xs:Array Value},SSq h b l xs->(∀o,h.get? l=some o->h'.get? l=some o)->SSq h' b l xs
 |false,_,_,⟨o,e,r⟩,f=>⟨o,f o e,r⟩
 |true,_,_,⟨o,e,r⟩,f=>⟨o,f o e,r⟩
theorem SSq.obj{h:Heap}:∀{b:Bool}{l:Addr}{xs:Array Value},SSq h b l xs->∃o,h.get? l=some o/\∃n,o.data=.seq xs n
 |false,_,_,⟨o,e,_,n,d⟩=>⟨o,e,n,d⟩
 |true,_,_,⟨o,e,_,n,d⟩=>⟨o,e,n,d⟩
section
variable {prog:Program}{w:World}{A:Around}{E:Yk}{s:Shared}
theorem xG{it t:Addr}{k:Nat}{xs:Array Value}{x:Value}{Q:Yk}(hi:s.heap.IsTupleIter it t k)(ht:s.heap.IsTuple t xs)(hx:xs[k]?=some x)
 (q:∀g,g.IsTupleIter it t (k+1)->Heap.SameBut it s.heap g->Q x { s with heap:=g }):wpAny (model prog w) A (Builtin.SmallTypes.nextOf (.ref it)) Q E s:=by
 obtain⟨o,e,c,d⟩:=id hi;obtain⟨ot,et,_,nt,dt⟩:=ht;unfold Builtin.SmallTypes.nextOf;refine q5 (wpAny_callSpecial?_slot (name:=Str.ofString "__next__") hi.typeIs PySem.F.slot_tuple_iterator_next (Qi PySem.F.slot_tuple_iterator_next hi.typeIs PySem.F.entry_tuple_iterator_next ?_ (PySem.F.args_tuple_iterator_next_1 _)));show wpAny _ _ (field (.ref it) 0 >>= _) _ _ _;refine q5 (wpAny_field e d (x:=.ref t) U ?_);show wpAny _ _ (if(Value.ref t == Value.none)=true then _ else _) _ _ _;rw[qZ (show ¬ (Value.ref t == Value.none)=true from qi)];show wpAny _ _ (field (.ref it) 1 >>= _) _ _ _;refine q5 (wpAny_field e d (x:=.int k 0) U ?_);show wpAny _ _ (seqItems? (.ref t) >>= _) _ _ _;refine q5 (Qv et dt ?_);simp only[qX,hx];refine q5 (wpAny_setField e d (by simp) (qd ⟨x,U,qd (q _ ?_ (Heap.SameBut.update ..))⟩));exact⟨_,Qg _ e (Obj.isFreed_of_fields (Obj.data_mapFields d _)),(Obj.cls_mapFields ..).trans c,by rw[Obj.data_mapFields d];simp[rawInt]⟩
theorem xH{it t:Addr}{k:Nat}{xs:Array Value}{Q:Yk}(hh:A.handled=none)(hi:s.heap.IsTupleIter it t k)(ht:s.heap.IsTuple t xs)(hx:xs[k]?=none)
 (q:∀g x,Heap.ExtBut it s.heap g->(∃o,g.get? x=some o/\o.cls=.type "StopIteration")->E (.ref x) { s with heap:=g }):wpAny (model prog w) A (Builtin.SmallTypes.nextOf (.ref it)) Q E s:=by
 obtain⟨o,e,c,d⟩:=id hi;obtain⟨ot,et,_,nt,dt⟩:=ht;unfold Builtin.SmallTypes.nextOf;refine q5 (wpAny_callSpecial?_slot (name:=Str.ofString "__next__") hi.typeIs PySem.F.slot_tuple_iterator_next (Qi PySem.F.slot_tuple_iterator_next hi.typeIs PySem.F.entry_tuple_iterator_next ?_ (PySem.F.args_tuple_iterator_next_1 _)));show wpAny _ _ (field (.ref it) 0 >>= _) _ _ _;refine q5 (wpAny_field e d (x:=.ref t) U ?_);show wpAny _ _ (if(Value.ref t == Value.none)=true then _ else _) _ _ _;rw[qZ (show ¬ (Value.ref t == Value.none)=true from qi)];show wpAny _ _ (field (.ref it) 1 >>= _) _ _ _;refine q5 (wpAny_field e d (x:=.int k 0) U ?_);show wpAny _ _ (seqItems? (.ref t) >>= _) _ _ _;refine q5 (Qv et dt ?_);simp only[qX,hx];refine q5 (wpAny_rule (q5 (wpAny_setField e d (by simp) ?_)));show wpAny _ _ (newExc (.type "StopIteration") [] >>= _) _ _ _;refine q5 ?_;simp only[newExc,newTuple];refine q5 (wpAny_newObj_type ?_ (by size_fits));refine q5 (m:=firstArgMember _ _) (wpAny_of_eq (a:=Value.none) (by first|rfl|(simp only[firstArgMember];rfl)) (wpAny_newObj_type ?_ (by size_fits)));simp only[raiseNew];refine q5 (wpAny_handled ?_);first|rw[show A.in1.handled=none from hh]|rw[hh]
 refine q5 (qd (wpAny_throw (q _ _ (((Heap.SameBut.update ..).extBut.push _).push _) ⟨_,qp _ U,U⟩)))
theorem fE{it l:Addr}{k:Nat}{xs:Array Value}{x:Value}{Q:Yk}:∀{b:Bool},SIt s.heap b it l k->SSq s.heap b l xs->xs[k]?=some x->
 (∀g,SIt g b it l (k+1)->Heap.SameBut it s.heap g->Q x { s with heap:=g })->wpAny (model prog w) A (Builtin.SmallTypes.nextOf (.ref it)) Q E s
 |false,a,c,d,q=>wpAny_nextOf_list_item a c d q
 |true,a,c,d,q=>xG a c d q
theorem iq{it l:Addr}{k:Nat}{xs:Array Value}{Q:Yk}(hh:A.handled=none):∀{b:Bool},SIt s.heap b it l k->SSq s.heap b l xs->xs[k]?=none->
 (∀g x,Heap.ExtBut it s.heap g->(∃o,g.get? x=some o/\o.cls=.type "StopIteration")->E (.ref x) { s with heap:=g })->wpAny (model prog w) A (Builtin.SmallTypes.nextOf (.ref it)) Q E s
 |false,a,c,d,q=>wpAny_nextOf_list_end hh a c d q
 |true,a,c,d,q=>xH hh a c d q
structure ZAp(z TI TO i1 i2 l1 l2:Addr):Prop where
 a:TI≠z/\TO≠z/\i1≠z/\i2≠z/\TI≠TO/\TI≠i1/\TI≠i2/\TO≠i1/\TO≠i2/\i1≠i2
 l:∀c,c=l1\/c=l2->c≠z/\c≠TO/\c≠i1/\c≠i2/\c≠TI
theorem sE{z TI TO i1 i2 l1 l2:Addr}{b1 b2:Bool}{k1 k2:Nat}{xs ys:Array Value}{x y a b:Value}{Q:Yk}(D:ZAp z TI TO i1 i2 l1 l2)
 (hz:IsZip s.heap z TI TO .none) (hI:IsPair s.heap TI (.ref i1) (.ref i2)) (hO:IsPair s.heap TO a b) (t1:SIt s.heap b1 i1 l1 k1) (t2:SIt s.heap b2 i2 l2 k2) (q1:SSq s.heap b1 l1 xs) (q2:SSq s.heap b2 l2 ys) (ex:xs[k1]?=some x) (ey:ys[k2]?=some y)
 (q:∀g,IsZip g z TI TO (rawInt s.heap.objs.size)->IsPair g TO x y->SIt g b1 i1 l1 (k1+1)->SIt g b2 i2 l2 (k2+1)->IsPair g s.heap.objs.size x y->(∀c o,c≠z->c≠TO->c≠i1->c≠i2->s.heap.get? c=some o->g.get? c=some o)->Q (.ref s.heap.objs.size) { s with heap:=g }):
 wpAny (model prog w) A (Builtin.«zip.__next__» ⟨[.ref z],[]⟩) (λfin s'=>∃v,fin=.done (.ret v)/\Q v s') E s:=by
 obtain⟨⟨nIz,nOz,n1z,n2z,nIO,nI1,nI2,nO1,nO2,n12⟩,lne⟩:=D;obtain⟨m1z,m1O,m11,m12,m1I⟩:=lne l1 (.inl U);obtain⟨m2z,m2O,m21,m22,m2I⟩:=lne l2 (.inr U);show wpAny _ _ (field (.ref z) 2 >>= _) _ _ _;refine q5 (wpAny_field hz U (x:=.bool false) U ?_);show wpAny _ _ (field (.ref z) 3 >>= _) _ _ _;refine q5 (wpAny_field hz U (x:=.ref TI) U (q5 (Qv hI U ?_)));show wpAny _ _ (Builtin.SmallTypes.ownedTupleIsFree (.ref z) >>= _) _ _ _;refine q5 ?_;unfold Builtin.SmallTypes.ownedTupleIsFree;refine q5 (wpAny_field hz U (x:=.none) U (qd ?_));simp only[if_true];refine q5 (wpAny_rule (q5 (wpAny_field hz U (x:=.ref TO) U (q5 (wpAny_setField_rec hz (by simp) λg1 z1 s1=>?_)))));replace z1:IsZip g1 z TI TO .ellipsis:=z1;refine q5 ?_;simp only[List.zipIdx_cons,List.zipIdx_nil,List.forIn_cons,List.forIn_nil];refine q5 (q5 (wpAny_onRaise ?_));show wpAny _ _ (Builtin.SmallTypes.nextOf (.ref i1) >>= _) _ _ _;refine q5 (fE (b:=b1) (t1.keep λo e=>s1.extBut _ _ n1z e) (q1.keep λo e=>s1.extBut _ _ m1z e) ex λg2 u1 s2=>qd ?_);have o2:IsPair g2 TO a b:=s2.extBut _ _ nO1 (s1.extBut _ _ nOz hO);refine q5 (Qv o2 U (q5 (wpAny_updateSeq_pair o2 λg3 o3 s3=>q5 (wpAny_letGo (qd ?_)))));replace o3:IsPair g3 TO x b:=o3;refine q5 (q5 (wpAny_onRaise ?_));show wpAny _ _ (Builtin.SmallTypes.nextOf (.ref i2) >>= _) _ _ _;refine q5 (fE (b:=b2) (t2.keep λo e=>s3.extBut _ _ nO2.symm (s2.extBut _ _ n12.symm (s1.extBut _ _ n2z e))) (q2.keep λo e=>s3.extBut _ _ m2O (s2.extBut _ _ m21 (s1.extBut _ _ m2z e))) ey λg4 u2 s4=>qd ?_);have o4:IsPair g4 TO x b:=s4.extBut _ _ nO2 o3;refine q5 (Qv o4 U (q5 (wpAny_updateSeq_pair o4 λg5 o5 s5=>q5 (wpAny_letGo (qd (qd ?_))))));replace o5:IsPair g5 TO x y:=o5;refine q5 (Qv o5 U (q5 (wpAny_newTuple ?_)));have sz:g5.objs.size=s.heap.objs.size:=by rw[s5.1,s4.1,s3.1,s2.1,s1.1]
 have z5:IsZip g5 z TI TO .ellipsis:=s5.extBut _ _ nOz.symm (s4.extBut _ _ n2z.symm (s3.extBut _ _ nOz.symm (s2.extBut _ _ n1z.symm z1)));have k5:∀c o,c≠z->c≠TO->c≠i1->c≠i2->s.heap.get? c=some o->g5.get? c=some o:=λc o h1 h2 h3 h4 e=>s5.extBut _ _ h2 (s4.extBut _ _ h4 (s3.extBut _ _ h2 (s2.extBut _ _ h3 (s1.extBut _ _ h1 e))));have v1:SIt g5 b1 i1 l1 (k1+1):=u1.keep λo e=>s5.extBut _ _ nO1.symm (s4.extBut _ _ n12 (s3.extBut _ _ nO1.symm e));have v2:SIt g5 b2 i2 l2 (k2+1):=u2.keep λo e=>s5.extBut _ _ nO2.symm e;have zlt:z<g5.objs.size:=qq z5;show wpAny _ _ (Builtin.SmallTypes.ownedTupleHandOut (.ref z) (.ref g5.objs.size) >>= _) _ _ _;refine q5 ?_;unfold Builtin.SmallTypes.ownedTupleHandOut;have z6:IsZip (g5.push { cls:=.type "tuple",data:=.seq #[x,y] }) z TI TO .ellipsis:=qa _ z5;refine q5 (wpAny_setField_rec z6 (by simp) λg7 z7 s7=>?_);replace z7:IsZip g7 z TI TO (rawInt g5.objs.size):=z7;refine wpAny_setField_rec z7 (by simp) λg8 z8 s8=>?_;replace z8:IsZip g8 z TI TO (rawInt g5.objs.size):=z8;have up:∀c o,c≠z->g5.get? c=some o->g8.get? c=some o:=λc o h1 e=>s8.extBut _ _ h1 (s7.extBut _ _ h1 (qa _ e));have t8:IsPair g8 g5.objs.size x y:=s8.extBut _ _ (Nat.ne_of_gt zlt) (s7.extBut _ _ (Nat.ne_of_gt zlt) (qp _ U));rw[sz]at z8 t8;refine qd ⟨_,U,?_⟩;show Q (.ref g5.objs.size) _;rw[sz];exact q g8 z8 (up _ _ nOz o5) (v1.keep λo e=>up _ o n1z e) (v2.keep λo e=>up _ o n2z e) t8 λc o h1 h2 h3 h4 e=>up c o h1 (k5 c o h1 h2 h3 h4 e)
theorem sF{z TI TO i1 i2 l1 l2:Addr}{b1 b2:Bool}{k1 k2:Nat}{xs ys:Array Value}{a b:Value}{Q:Fin->Shared->Prop}(hh:A.handled=none)(D:ZAp z TI TO i1 i2 l1 l2)
 (hz:IsZip s.heap z TI TO .none) (hI:IsPair s.heap TI (.ref i1) (.ref i2)) (hO:IsPair s.heap TO a b) (t1:SIt s.heap b1 i1 l1 k1) (t2:SIt s.heap b2 i2 l2 k2) (q1:SSq s.heap b1 l1 xs) (q2:SSq s.heap b2 l2 ys) (hend:xs[k1]?=none\/ys[k2]?=none)
 (q:∀g e,(∀c o,c≠z->c≠TO->c≠i1->c≠i2->s.heap.get? c=some o->g.get? c=some o)->(∃o,g.get? e=some o/\o.cls=.type "StopIteration")->E (.ref e) { s with heap:=g }):
 wpAny (model prog w) A (Builtin.«zip.__next__» ⟨[.ref z],[]⟩) Q E s:=by
 obtain⟨⟨nIz,nOz,n1z,n2z,nIO,nI1,nI2,nO1,nO2,n12⟩,lne⟩:=D;obtain⟨m1z,m1O,m11,m12,m1I⟩:=lne l1 (.inl U);obtain⟨m2z,m2O,m21,m22,m2I⟩:=lne l2 (.inr U);show wpAny _ _ (field (.ref z) 2 >>= _) _ _ _;refine q5 (wpAny_field hz U (x:=.bool false) U ?_);show wpAny _ _ (field (.ref z) 3 >>= _) _ _ _;refine q5 (wpAny_field hz U (x:=.ref TI) U (q5 (Qv hI U ?_)));show wpAny _ _ (Builtin.SmallTypes.ownedTupleIsFree (.ref z) >>= _) _ _ _;refine q5 ?_;unfold Builtin.SmallTypes.ownedTupleIsFree;refine q5 (wpAny_field hz U (x:=.none) U (qd ?_));simp only[if_true];refine q5 (wpAny_rule (q5 (wpAny_field hz U (x:=.ref TO) U (q5 (wpAny_setField_rec hz (by simp) λg1 z1 s1=>?_)))));replace z1:IsZip g1 z TI TO .ellipsis:=z1;refine q5 ?_;simp only[List.zipIdx_cons,List.zipIdx_nil,List.forIn_cons,List.forIn_nil];refine q5 (q5 (wpAny_onRaise ?_));show wpAny _ _ (Builtin.SmallTypes.nextOf (.ref i1) >>= _) _ _ _
 cases ex:xs[k1]? with
 |none=>
  refine q5 (iq (b:=b1) hh (t1.keep λo e=>s1.extBut _ _ n1z e) (q1.keep λo e=>s1.extBut _ _ m1z e) ex λg2 v s2 hv=>?_);obtain⟨ov,ev,cv⟩:=hv;have z2:IsZip g2 z TI TO .ellipsis:=s2 _ _ n1z.symm z1;have nv:v≠z:=λh=>by subst h;rw[z2]at ev;cases ev;simp at cv
  exact wpAny_setField_rec z2 (by simp) λg3 _ s3=>q g3 v (λc o h1 _ h3 _ e=>s3.extBut _ _ h1 (s2 _ _ h3 (s1.extBut _ _ h1 e))) ⟨ov,s3.extBut _ _ nv ev,cv⟩
 |some x=>
  have ey:ys[k2]?=none:=by rcases hend with h|h;rw[ex]at h;cases h;exact h
  refine q5 (fE (b:=b1) (t1.keep λo e=>s1.extBut _ _ n1z e) (q1.keep λo e=>s1.extBut _ _ m1z e) ex λg2 u1 s2=>qd ?_);have o2:IsPair g2 TO a b:=s2.extBut _ _ nO1 (s1.extBut _ _ nOz hO);refine q5 (Qv o2 U (q5 (wpAny_updateSeq_pair o2 λg3 o3 s3=>q5 (wpAny_letGo (qd ?_)))));refine q5 (q5 (wpAny_onRaise ?_));show wpAny _ _ (Builtin.SmallTypes.nextOf (.ref i2) >>= _) _ _ _;refine q5 (iq (b:=b2) hh (t2.keep λo e=>s3.extBut _ _ nO2.symm (s2.extBut _ _ n12.symm (s1.extBut _ _ n2z e))) (q2.keep λo e=>s3.extBut _ _ m2O (s2.extBut _ _ m21 (s1.extBut _ _ m2z e))) ey λg4 v s4 hv=>?_);obtain⟨ov,ev,cv⟩:=hv;have z4:IsZip g4 z TI TO .ellipsis:=s4 _ _ n2z.symm (s3.extBut _ _ nOz.symm (s2.extBut _ _ n1z.symm z1));have nv:v≠z:=λh=>by subst h;rw[z4]at ev;cases ev;simp at cv
  exact wpAny_setField_rec z4 (by simp) λg5 _ s5=>q g5 v (λc o h1 h2 h3 h4 e=>s5.extBut _ _ h1 (s4 _ _ h4 (s3.extBut _ _ h2 (s2.extBut _ _ h3 (s1.extBut _ _ h1 e))))) ⟨ov,s5.extBut _ _ nv ev,cv⟩
end
section
variable {X:Cx}{pins:List (Addr×Obj)}{σ:St}{H:Hp}{s:Shared}{h':Heap}
theorem Inv.turnedL{t':Nat}{ch:List Addr}(I:Inv X pins σ H s)(k:∀b o,b∉ch->s.heap.get? b=some o->h'.get? b=some o)(hf:∀b∈ch,cq X pins H b):Inv X pins σ H { s with heap:=h',toks:=t' }:=by
 have nit:∀b u,H b=some u->b∉ch:=λb u e z=>by rw[(hf b z).1]at e;cases e
 have hL:X.env.locals∉ch:=λz=>(hf _ z).2.1 U
 refine I.step (g':=s.gens) (d':=s.drawn) (ch:=ch) (λb hb=>⟨(hf b hb).2.2.2.1,(hf b hb).2.1,(hf b hb).2.2.2.2.1,(hf b hb).2.2.2.2.2⟩) (λb o _ _ hc e _=>k b o hc e) (λb o _ _ hc e _=>⟨o.slots,k b o hc e⟩) (λ_ _ _ _ n=>n)
  (λb o hc e=>⟨o,k b o hc e⟩) (λ_ _ e=>e) (λ_ _ _ e=>e) (λb ps e=>⟨#[],by rw[e];simp⟩) (λm hm=>?_) (λb u e=>?_) I.bare
 ·obtain⟨o,es,ep,ho,r⟩:=hm;exact⟨o,es,ep,k _ o hL ho,r⟩
 ·refine(I.hok b u e).stay (λc v hc q=>k c v ?_ q) (λ_ q=>q) λ_ _ q=>q;rcases hc with z|z
  ·rw[z];exact nit b u e
  ·exact nit c _ z
theorem Inv.track{T:Addr}{o:HO}(I:Inv X pins σ H s)(f:cq X pins H T)(hs:X.s₀.heap.objs.size<=T)(new:bx X.prog X.w (upd H T o) s.heap T o):Inv X pins σ (upd H T o) s:=by
 obtain⟨f0,f1,f2,_,f4,f5⟩:=f;have old:∀b u,X.s₀.heap.get? b=some u->b≠T:=λb u e=>qG (qD (qq e) hs);refine⟨I.ok,I.os,I.bare,⟨I.base.keep,I.base.slot,λb u e n hx=>?_,I.base.there,λb xs e=>?_,λb u v e=>?_,λb ps e=>?_⟩,I.loc,I.cell,?_,λx c e=>?_,λp hp=>?_,λb u e=>?_,I.len⟩
 ·rw[ah (old b u e)];exact I.base.free b u e n hx
 ·rw[ah (ca (I.base.tups b xs e) f0)];exact I.base.tups b xs e
 ·rw[ah (ca (I.base.frzs b u v e) f0)];exact I.base.frzs b u v e
 ·obtain⟨more,q⟩:=I.base.tbls b ps e;exact⟨more,by rw[ah (ca q f0)];exact q⟩
 ·rw[ah (Ne.symm f1)];exact I.free
 ·rw[ah (f4 x c e)];exact I.freeC x c e
 ·obtain⟨e,n,ne,nf,d⟩:=I.pin p hp;exact⟨e,by rw[ah (f5 p hp)];exact n,ne,nf,d⟩
 ·by_cases hb:b=T
  ·subst hb;rw[af]at e;cases e;exact new
  ·rw[ah hb]at e;exact(I.hok b u e).stay (λc v _ q=>q) (λc q=>by rw[ah (ca q f0)];exact q) λc xs q=>by rw[ah (ca q f0)];exact q
end
def SqB(K:W.Frag)(H:Hp):Bool->Addr->List V->Prop
 |false,a,xs=>SqL K H a xs
 |true,a,xs=>SqT K H a xs
theorem SqB.at{X:Cx}{pins:List (Addr×Obj)}{σ:St}{H:Hp}{s:Shared}(I:Inv X pins σ H s):∀{b:Bool}{a:Addr}{xs:List V},SqB X.K H b a xs->∃its:List Value,ao xs its/\SSq s.heap b a its.toArray/\xs.length<=sizeLine
 |false,_,_,h=>let ⟨its,r,p,z⟩:=I.list h;⟨its,r,p.isList,z⟩
 |true,_,_,h=>let ⟨its,r,p,z⟩:=I.tuple h;⟨its,r,p,z⟩
theorem SqB.inj{X:Cx}{pins:List (Addr×Obj)}{σ:St}{H:Hp}{s:Shared}(I:Inv X pins σ H s):∀{b:Bool}{a:Addr}{xs ys:List V},SqB X.K H b a xs->SqB X.K H b a ys->xs=ys
 |false,_,_,_,h,h'=>I.list_inj h h'
 |true,_,_,_,h,h'=>I.tuple_inj h h'
def Itz(K:W.Frag)(b1 b2:Bool)(l1 l2:Addr):It:=
 ⟨λi H=>∃xs ys x y,SqB K H b1 l1 xs/\SqB K H b2 l2 ys/\xs[i]?=some x/\ys[i]?=some y,
  λi H v H'=>∃p x y,H p=none/\v=.ref p/\H'=upd H p (.tup [x,y])/\(∀xs,SqB K H b1 l1 xs->xs[i]?=some x)/\∀ys,SqB K H b2 l2 ys->ys[i]?=some y,
  λi H=>∃xs ys,SqB K H b1 l1 xs/\SqB K H b2 l2 ys/\(xs.length<=i\/ys.length<=i)⟩
section
variable {prog:Program}{w:World}{A:Around}{E:Yk}{s:Shared}
theorem lS{z TI TO i1 i2 l1 l2:Addr}{b1 b2:Bool}{k1 k2:Nat}{xs ys:Array Value}{x y a b:Value}{Q:Option Value->Shared->Prop}(D:ZAp z TI TO i1 i2 l1 l2)
 (hz:IsZip s.heap z TI TO .none) (hI:IsPair s.heap TI (.ref i1) (.ref i2)) (hO:IsPair s.heap TO a b) (t1:SIt s.heap b1 i1 l1 k1) (t2:SIt s.heap b2 i2 l2 k2) (q1:SSq s.heap b1 l1 xs) (q2:SSq s.heap b2 l2 ys) (ex:xs[k1]?=some x) (ey:ys[k2]?=some y)
 (q:∀g,IsZip g z TI TO (rawInt s.heap.objs.size)->IsPair g TO x y->SIt g b1 i1 l1 (k1+1)->SIt g b2 i2 l2 (k2+1)->IsPair g s.heap.objs.size x y->(∀c o,c≠z->c≠TO->c≠i1->c≠i2->s.heap.get? c=some o->g.get? c=some o)->Q (some (.ref s.heap.objs.size)) { s with heap:=g }):
 wpAny (model prog w) A (pyNext (.ref z)) Q E s:=by
 have ty:s.TypeIs (.ref z) "zip":=⟨_,hz,U⟩;unfold pyNext;exact q5 (wpAny_attempt (wpAny_callSpecial?_slot (name:=Str.ofString "__next__") ty PySem.F.slot_zip_next (Qi PySem.F.slot_zip_next ty PySem.F.entry_zip_next (sE D hz hI hO t1 t2 q1 q2 ex ey λg a1 a2 a3 a4 a5 a6=>qd (q g a1 a2 a3 a4 a5 a6)) (PySem.F.args_zip_next_1 _))))
theorem lT{z TI TO i1 i2 l1 l2:Addr}{b1 b2:Bool}{k1 k2:Nat}{xs ys:Array Value}{a b:Value}{Q:Option Value->Shared->Prop}(hh:A.handled=none)(D:ZAp z TI TO i1 i2 l1 l2)
 (hz:IsZip s.heap z TI TO .none) (hI:IsPair s.heap TI (.ref i1) (.ref i2)) (hO:IsPair s.heap TO a b) (t1:SIt s.heap b1 i1 l1 k1) (t2:SIt s.heap b2 i2 l2 k2) (q1:SSq s.heap b1 l1 xs) (q2:SSq s.heap b2 l2 ys) (hend:xs[k1]?=none\/ys[k2]?=none)
 (q:∀g,(∀c o,c≠z->c≠TO->c≠i1->c≠i2->s.heap.get? c=some o->g.get? c=some o)->Q none { s with heap:=g }):wpAny (model prog w) A (pyNext (.ref z)) Q E s:=by
 have ty:s.TypeIs (.ref z) "zip":=⟨_,hz,U⟩;unfold pyNext;refine q5 (wpAny_attempt (wpAny_callSpecial?_slot (name:=Str.ofString "__next__") ty PySem.F.slot_zip_next (Qi PySem.F.slot_zip_next ty PySem.F.entry_zip_next (sF hh D hz hI hO t1 t2 q1 q2 hend λg e hk he=>?_) (PySem.F.args_zip_next_1 _))));obtain⟨o,ho,hc⟩:=he;exact q5 (wpAny_isInstance (T:="StopIteration") (b:=true) ⟨o,ho,hc⟩ isSubtype_stop (qd (q _ hk)))
end
theorem sT{P:Program}{w:World}{K:W.Frag}{elts:List Expr}{kk:Nat}{tp:Pos}{b1 b2:Bool}(z TI TO i1 i2 l1 l2:Addr)(D:ZAp z TI TO i1 i2 l1 l2):
 f6 P w K (.Tuple elts kk tp) (Itz K b1 b2 l1 l2) [z,TI,TO,i1,i2] z (λi h=>IsZip h z TI TO .none/\IsPair h TI (.ref i1) (.ref i2)/\(∃a b,IsPair h TO a b)/\SIt h b1 i1 l1 i/\SIt h b2 i2 l2 i) where
 mem:=by simp
 obj:=λi h st b hb=>by
  obtain⟨hz,hI,⟨a,c,hO⟩,t1,t2⟩:=st;simp only[qu,qQ,or_false]at hb;rcases hb with rfl|rfl|rfl|rfl|rfl
  ·exact⟨_,hz,λv q=>by cases q⟩
  ·exact⟨_,hI,λv q=>by cases q⟩
  ·exact⟨_,hO,λv q=>by cases q⟩
  ·obtain⟨o,e,vs,d⟩:=t1.obj;exact⟨o,e,λv q=>by rw[d]at q;cases q⟩
  ·obtain⟨o,e,vs,d⟩:=t2.obj;exact⟨o,e,λv q=>by rw[d]at q;cases q⟩
 keep:=λi h h' st k=>by
  obtain⟨hz,hI,⟨a,c,hO⟩,t1,t2⟩:=st;exact⟨k z (by simp) _ hz,k TI (by simp) _ hI,⟨a,c,k TO (by simp) _ hO⟩,t1.keep λo e=>k i1 (by simp) o e,t2.keep λo e=>k i2 (by simp) o e⟩
 item:=by
  intro X hP hw hK hc i pins s σ H E I hf st hg;subst hP hw hK;obtain⟨hz,hI,⟨a,c,hO⟩,t1,t2⟩:=st;obtain⟨xs,ys,x,y,hx,hy,ex,ey⟩:=hg;obtain⟨its,rv,q1,z1⟩:=SqB.at I hx;obtain⟨jts,rw',q2,z2⟩:=SqB.at I hy;obtain⟨u,hu,ru⟩:=rv.get ex;obtain⟨v,hv,rv'⟩:=rw'.get ey;refine lS D hz hI hO t1 t2 q1 q2 (x:=u) (y:=v) (by simpa using hu) (by simpa using hv) λg a1 a2 a3 a4 a5 a6=>⟨_,U,?_⟩;refine wpAny_letOwnedTupleGo_zip a1 λg' a1' sb=>?_;obtain⟨⟨nIz,nOz,n1z,n2z,nIO,nI1,nI2,nO1,nO2,n12⟩,lne⟩:=id D
  have hT:∀b∈[z,TI,TO,i1,i2],s.heap.objs.size≠b:=λb hb=>by
   have:∃o,s.heap.get? b=some o:=by
    simp only[qu,qQ,or_false]at hb;rcases hb with rfl|rfl|rfl|rfl|rfl
    ·exact⟨_,hz⟩
    ·exact⟨_,hI⟩
    ·exact⟨_,hO⟩
    ·obtain⟨o,e,_⟩:=t1.obj;exact⟨o,e⟩
    ·obtain⟨o,e,_⟩:=t2.obj;exact⟨o,e⟩
   obtain⟨o,e⟩:=this;exact Nat.ne_of_gt (qq e)
  have kk:∀b o,b∉[z,TI,TO,i1,i2]->s.heap.get? b=some o->g'.get? b=some o:=λb o hb e=>by
   simp only[qu,qQ,or_false,not_or]at hb;exact sb.extBut _ _ hb.1 (a6 b o hb.1 hb.2.2.1 hb.2.2.2.1 hb.2.2.2.2 e)
  have I1:Inv X pins σ H { s with heap:=g' }:=I.turnedL (t':=s.toks) kk hf;have pT:IsPair g' s.heap.objs.size u v:=sb.extBut _ _ (hT z (by simp)) a5;have fT:cq X pins H s.heap.objs.size:=I.fpOk (qe _) (I.hok.fresh (qe _));have I2:Inv X pins σ (upd H s.heap.objs.size (.tup [x,y])) { s with heap:=g' }:=I1.track fT I.sz ⟨by show 2<=sizeLine;decide,[u,v],.cons ru (.cons rv' .nil),⟨_,pT,U,_,U⟩⟩;refine⟨.ref s.heap.objs.size,_,I2,U,⟨_,x,y,I.hok.fresh (qe _),U,U,λxs' h=>by rw[SqB.inj I h hx];exact ex,λys' h=>by rw[SqB.inj I h hy];exact ey⟩,?_,λb hb=>?_⟩
  ·exact⟨a1',sb.extBut _ _ nIz (a6 TI _ nIz nIO nI1 nI2 hI),⟨u,v,sb.extBut _ _ nOz a2⟩,a3.keep λo e=>sb.extBut _ _ n1z e,a4.keep λo e=>sb.extBut _ _ n2z e⟩
  ·rw[ah (Ne.symm (hT b hb))];exact(hf b hb).1
 done:=by
  intro X hP hw hK hc i pins s σ H E I hf st hg;subst hP hw hK;obtain⟨hz,hI,⟨a,c,hO⟩,t1,t2⟩:=st;obtain⟨xs,ys,hx,hy,hend⟩:=hg;obtain⟨its,rv,q1,z1⟩:=SqB.at I hx;obtain⟨jts,rw',q2,z2⟩:=SqB.at I hy;have e1:=rv.length;have e2:=rw'.length
  refine lT (I.ok.hd hc) D hz hI hO t1 t2 q1 q2 (by
   rcases hend with h|h
   ·exact .inl (by simp;omega)
   ·exact .inr (by simp;omega)) λg k=>⟨U,I.turnedL (t':=s.toks) (ch:=[z,TI,TO,i1,i2]) (λb o hb e=>?_) hf⟩
  simp only[qu,qQ,or_false,not_or]at hb;exact k b o hb.1 hb.2.2.1 hb.2.2.2.1 hb.2.2.2.2 e
 self:=λ_ _ _ _ _ st h=>wpAny_pyIter_zip st.1 h
def dA(b:Bool)(l:Addr):Obj:={ cls:=.type (if b=true then "tuple_iterator" else "list_iterator"),data:=.fields #[.ref l,.int 0 0] }
theorem SIt.new{h:Heap}:∀{b:Bool}{it l:Addr},h.get? it=some (dA b l)->SIt h b it l 0
 |false,_,_,e=>⟨_,e,U,U⟩
 |true,_,_,e=>⟨_,e,U,U⟩
def zg2(h:Heap)(b1 b2:Bool)(l1 l2:Addr):Heap:=(h.push (dA b1 l1)).push (dA b2 l2)
def zg3(h:Heap)(b1 b2:Bool)(l1 l2:Addr):Heap:=(zg2 h b1 b2 l1 l2).push { cls:=.type "tuple",data:=.seq #[.ref h.objs.size,.ref (h.push (dA b1 l1)).objs.size] }
def zg4(h:Heap)(b1 b2:Bool)(l1 l2:Addr):Heap:=(zg3 h b1 b2 l1 l2).push { cls:=.type "tuple",data:=.seq #[.none,.none] }
def zg5(h:Heap)(b1 b2:Bool)(l1 l2:Addr):Heap:=(zg4 h b1 b2 l1 l2).push { cls:=.type "zip",data:=.fields #[.none,.bool false,.bool false,.ref (zg2 h b1 b2 l1 l2).objs.size,.ref (zg3 h b1 b2 l1 l2).objs.size] }
theorem pJ{prog:Program}{w:World}{A:Around}{E:Yk}{s:Shared}{l:Addr}{xs:Array Value}{Q:Yk}:∀{b:Bool},SSq s.heap b l xs->Q (.ref s.heap.objs.size) { s with heap:=s.heap.push (dA b l) }->wpAny (model prog w) A (pyIter (.ref l)) Q E s
 |false,h,q=>wpAny_pyIter_list h q
 |true,h,q=>wpAny_pyIter_tuple h q
theorem SSq.push{h:Heap}{b:Bool}{l:Addr}{xs:Array Value}(x:SSq h b l xs)(o:Obj):SSq (h.push o) b l xs:=x.keep λ_ e=>qa _ e
set_option maxHeartbeats 8000000 in
theorem fS(b1 b2:Bool)(l1 l2:Addr)(xs ys:Array Value):
 Meets (Builtin.«zip.__new__» ⟨[.type "zip",.ref l1,.ref l2],[]⟩) (λ_ R s=>SSq s.heap b1 l1 xs/\SSq s.heap b2 l2 ys/\R (.ok (.ret (.ref (zg4 s.heap b1 b2 l1 l2).objs.size))) { s with heap:=zg5 s.heap b1 b2 l1 l2 }):=
 .of_wp λprog w A R s h=>by
  obtain⟨hp,g,d,tk,os⟩:=s;obtain⟨h1,h2,h⟩:=h;have hsub:=PySem.sub_zip;have e1:SSq (Shared.heap ⟨hp,g,d,tk,os⟩) b1 l1 xs:=h1;have e2:SSq (Shared.heap ⟨hp.push (dA b1 l1),g,d,tk,os⟩) b2 l2 ys:=SSq.push h2 _
  wp_walk using pJ e1,pJ e2
  exact⟨_,U,h⟩
section
variable {prog:Program}{w:World}{A:Around}{E:Yk}{s:Shared}
theorem rQ{b1 b2:Bool}{l1 l2:Addr}{xs ys:Array Value}{Q:Yk}(h1:SSq s.heap b1 l1 xs)(h2:SSq s.heap b2 l2 ys)
 (h:∀g n,n=s.heap.objs.size->IsZip g (n+4) (n+2) (n+3) .none->IsPair g (n+2) (.ref n) (.ref (n+1))->IsPair g (n+3) .none .none->SIt g b1 n l1 0->SIt g b2 (n+1) l2 0->
  (∀c o,s.heap.get? c=some o->g.get? c=some o)->Q (.ref (n+4)) { s with heap:=g }):wpAny (model prog w) A (call (.type "zip") [.ref l1,.ref l2]) Q E s:=by
 refine callType_new PySem.F.called_zip Qz (PySem.F.typeCall_zip_2 _ _) (PySem.F.newCall_zip_2 _ _) (λobj=>PySem.F.args_object_init_3 obj _ _) PySem.F.entry_zip_new (fS b1 b2 l1 l2 xs ys) ⟨h1,h2,?_⟩;have e1:(s.heap.push (dA b1 l1)).objs.size=s.heap.objs.size+1:=Qf ..;have e2:(zg2 s.heap b1 b2 l1 l2).objs.size=s.heap.objs.size+2:=by unfold zg2;rw[Qf,e1]
 have e3:(zg3 s.heap b1 b2 l1 l2).objs.size=s.heap.objs.size+3:=by unfold zg3;rw[Qf,e2]
 have e4:(zg4 s.heap b1 b2 l1 l2).objs.size=s.heap.objs.size+4:=by unfold zg4;rw[Qf,e3]
 have p:∀{c:Addr}{o:Obj},(zg4 s.heap b1 b2 l1 l2).get? c=some o->(zg5 s.heap b1 b2 l1 l2).get? c=some o:=λq=>qa _ q;have p4:∀{c:Addr}{o:Obj},(zg3 s.heap b1 b2 l1 l2).get? c=some o->(zg4 s.heap b1 b2 l1 l2).get? c=some o:=λq=>qa _ q;have p3:∀{c:Addr}{o:Obj},(zg2 s.heap b1 b2 l1 l2).get? c=some o->(zg3 s.heap b1 b2 l1 l2).get? c=some o:=λq=>qa _ q;have p2:∀{c:Addr}{o:Obj},(s.heap.push (dA b1 l1)).get? c=some o->(zg2 s.heap b1 b2 l1 l2).get? c=some o:=λq=>qa _ q;have g5:(zg5 s.heap b1 b2 l1 l2).get? (zg4 s.heap b1 b2 l1 l2).objs.size=some _:=qp _ U;have g4:(zg5 s.heap b1 b2 l1 l2).get? (zg3 s.heap b1 b2 l1 l2).objs.size=some _:=p (qp _ U);have g3:(zg5 s.heap b1 b2 l1 l2).get? (zg2 s.heap b1 b2 l1 l2).objs.size=some _:=p (p4 (qp _ U));have g2:(zg5 s.heap b1 b2 l1 l2).get? (s.heap.push (dA b1 l1)).objs.size=some _:=p (p4 (p3 (qp _ U)));have g1:(zg5 s.heap b1 b2 l1 l2).get? s.heap.objs.size=some _:=p (p4 (p3 (p2 (qp _ U))));show _/\_;rw[e2,e3,e4]at g5;rw[e1,e2]at g3;rw[e3]at g4;rw[e1]at g2;rw[e4];exact⟨⟨_,g5,U⟩,h _ _ U g5 g3 g4 (SIt.new g1) (SIt.new g2) λc o x=>p (p4 (p3 (p2 (qa _ x))))⟩
end
section
variable {X:Cx}
def yD(K:W.Frag)(ta:TA):TI:=λσ H R=>ta σ H λvs H1=>∃b1 b2 l1 l2 xs ys,vs=[.ref l1,.ref l2]/\SqB K H1 b1 l1 xs/\SqB K H1 b2 l2 ys/\R (Itz K b1 b2 l1 l2) H1
theorem vP{a b:Expr}{ta:TA}{p pos tp:Pos}{elts:List Expr}{kk:Nat}(hg:Gl X "zip")(hm:X.mg "zip"=none)(ha:PA X [a,b] ta)(hs:starEach [a,b] X.env=[(false,eval a X.env),(false,eval b X.env)]:=by rfl)(hs2:starEach [b] X.env=[(false,eval b X.env)]:=by rfl):
 PI X (.Tuple elts kk tp) (.Call (.Name "zip" p) [a,b] [] pos) (yD X.K ta):=by
 intro pins s σ H R I h;refine Call_ (di I hg hm PyProof.Rows.Boot.«zip» (PyProof.Rows.callWith_type1 (thn (ha pos pins s σ H _ I h) λus s1 ⟨vs,H1,I1,r1,q1⟩=>?_) (by rw[hs,hs2]) (by rw[hs2];rfl)));obtain⟨b1,b2,l1,l2,xs,ys,rfl,hx,hy,q⟩:=q1;obtain⟨u,u',rfl,ru,ru'⟩:=gO r1;cases ru;cases ru';obtain⟨its,rv,s1',z1⟩:=SqB.at I1 hx;obtain⟨jts,rw',s2',z2⟩:=SqB.at I1 hy;refine rQ s1' s2' λg n hn a1 a2 a3 a4 a5 k=>?_
 have lt:∀c,c=l1\/c=l2->c<n:=λc hc=>by
  rw[hn];rcases hc with rfl|rfl
  ·obtain⟨o,e,_⟩:=s1'.obj;exact qq e
  ·obtain⟨o,e,_⟩:=s2'.obj;exact qq e
 refine wpAny_pyIter_zip a1 ⟨n+4,[n+4,n+2,n+3,n,n+1],_,_,H1,U,I1.kept (t':=s1.toks) k,sT (n+4) (n+2) (n+3) n (n+1) l1 l2 ⟨?_,λc hc=>?_⟩,⟨a1,a2,⟨_,_,a3⟩,a4,a5⟩,λb hb=>?_,q⟩
 ·have e:∀i j:Nat,i≠j->n+i≠n+j:=λi j h z=>h (Nat.add_left_cancel z);exact⟨e 2 4 Qz,e 3 4 Qz,e 0 4 Qz,e 1 4 Qz,e 2 3 Qz,e 2 0 Qz,e 2 1 Qz,e 3 0 Qz,e 3 1 Qz,e 0 1 Qz⟩
 ·have q:=lt c hc;have e:∀i:Nat,c≠n+i:=λi=>qG (qD q (Nat.le_add_right _ _));exact⟨e 4,e 3,e 0,e 1,e 2⟩
 ·have e:∀i:Nat,cq X pins H1 (n+i):=λi=>I1.fpOk (by rw[hn];exact Nat.le_add_right _ _) (I1.hok.fresh (by rw[hn];exact Nat.le_add_right _ _));simp only[qu,qQ,or_false]at hb;rcases hb with rfl|rfl|rfl|rfl|rfl
  ·exact e 4
  ·exact e 2
  ·exact e 3
  ·exact e 0
  ·exact e 1
end
open PySem.Builtin.Str in
section
variable {X:Cx}
end
@[irreducible] def rStrAny:List V->Hp->VK->Prop:=λxs H Q=>(∃z:Str,xs=[.str z]/\Q (.str z) H)\/∃i:Int,xs=[.int i]/\i.natAbs.log2<1920/\Q (.str (toString i)) H
section
variable {X:Cx}
end
mutual
inductive Dt(K:W.Frag)(H:Hp):V->PyData->Prop
 |non:Dt K H .non .none
 |bl (b:Bool):Dt K H (.bl b) (.bool b)
 |int (i:Int):Dt K H (.int i) (.int i)
 |str (x:Str):Dt K H (.str x) (.str x)
 |lst {a:Addr}{xs:List V}{ds:List PyData}:SqL K H a xs->d0 K H xs ds->Dt K H (.ref a) (.list ds)
 |tup {a:Addr}{xs:List V}{ds:List PyData}:SqT K H a xs->d0 K H xs ds->Dt K H (.ref a) (.tuple ds)
inductive d0(K:W.Frag)(H:Hp):List V->List PyData->Prop
 |nil:d0 K H [] []
 |cons {v:V}{vs:List V}{d:PyData}{ds:List PyData}:Dt K H v d->d0 K H vs ds->d0 K H (v::vs) (d::ds)
end
section
variable {X:Cx}{pins:List (Addr×Obj)}{σ:St}{H:Hp}{s:Shared}
mutual
theorem Dt.reads(I:Inv X pins σ H s):∀{v:V}{d:PyData},Dt X.K H v d->∀{u:Value},aB v u->∃as,Reads s.heap u d as
 |_,_,.non,_,r=>by cases r;exact⟨_,.none⟩
 |_,_,.bl b,_,r=>by cases r;exact⟨_,.bool b⟩
 |_,_,.int i,_,r=>by obtain⟨t,rfl⟩:=r;exact⟨_,.int i t⟩
 |_,_,.str x,_,r=>by obtain⟨t,rfl⟩:=r;exact⟨_,.str x t⟩
 |_,_,.lst hq ha,_,r=>by
  cases r;obtain⟨its,rv,⟨o,n,e,c,_,d⟩,_⟩:=I.list hq;obtain⟨as,z⟩:=d0.reads I ha rv;exact⟨_,.list e c d (by simpa using z)⟩
 |_,_,.tup hq ha,_,r=>by
  cases r;obtain⟨its,rv,⟨o,e,c,n,d⟩,_⟩:=I.tuple hq;obtain⟨as,z⟩:=d0.reads I ha rv;exact⟨_,.tuple e c d (by simpa using z)⟩
theorem d0.reads(I:Inv X pins σ H s):∀{vs:List V}{ds:List PyData},d0 X.K H vs ds->∀{us:List Value},ao vs us->∃as,ReadsAll s.heap us ds as
 |_,_,.nil,_,r=>by cases r;exact⟨_,.nil⟩
 |_,_,.cons h t,_,r=>by
  cases r with
  |cons r1 r2=>
   obtain⟨as,z⟩:=Dt.reads I h r1;obtain⟨bs,z'⟩:=d0.reads I t r2;exact⟨_,.cons z z'⟩
end
end
section
variable {X:Cx}
theorem oK(hu:X.A.units+64<cLine):OpR X (compareOp .Eq) (λx y H Q=>∃d e,Dt X.K H x d/\Dt X.K H y e/\SeqAt.shaped d=true/\SeqAt.shaped e=true/\Q (.bl (PyData.eqv d e)) H):=by
 intro pins s σ H x y v u Q I rx ry h;obtain⟨d,e,h1,h2,s1,s2,q⟩:=h;obtain⟨as,r1⟩:=h1.reads I rx;obtain⟨bs,r2⟩:=h2.reads I ry;exact eq_dataH r1 r2 s1 s2 hu ⟨.bl _,H,I,U,q⟩
theorem kB(hu:X.A.units+64<cLine):OpR X (compareOp .NotEq) (λx y H Q=>∃d e,Dt X.K H x d/\Dt X.K H y e/\SeqAt.shaped d=true/\SeqAt.shaped e=true/\Q (.bl (!PyData.eqv d e)) H):=by
 intro pins s σ H x y v u Q I rx ry h;obtain⟨d,e,h1,h2,s1,s2,q⟩:=h;obtain⟨as,r1⟩:=h1.reads I rx;obtain⟨bs,r2⟩:=h2.reads I ry;exact ne_dataH r1 r2 s1 s2 hu ⟨.bl _,H,I,U,q⟩
end
theorem rK{K:W.Frag}{a:Addr}{xs:List V}{g:TG}{tt:TT}{te:TE}{Fin:List V->Hp->Prop}{σ:St}{H:Hp}(Pv:Nat->List V->St->Hp->Prop)(h0:Pv 0 [] σ H)(hz:∀i ys σ H,i<=xs.length->Pv i ys σ H->ys.length<=i)(hx:xs.length<=sizeLine)(hl:∀i ys σ H,Pv i ys σ H->SqL K H a xs)
 (hs:∀i x ys σ H,xs[i]?=some x->Pv i ys σ H->g x σ H λσ2 H2=>tt σ2 H2 λb H3=>if b=true then te σ2 H3 λy H4=>Pv (i+1) (ys++[y]) σ2 H4 else Pv (i+1) ys σ2 H3)
 (hd:∀ys σ H,Pv xs.length ys σ H->Fin ys H):∃W:Nat->Nat->List V->St->Hp->Prop,(∃m,W 0 m [] σ H)/\d5 (Itl K a) g tt te Fin W:=by
 refine⟨λi m ys σ H=>m=xs.length-i/\i<=xs.length/\Pv i ys σ H,⟨_,U,qt _,h0⟩,?_⟩;rintro i m ys σ H ⟨rfl,hi,p⟩;have hl':=hz i ys σ H hi p;have q:=hl i ys σ H p;by_cases hlt:i<xs.length
 ·refine .inr ⟨⟨xs,xs[i],q,by simp[hlt]⟩,Yd,Pv (i+1),λys' σ' H' p'=>⟨_,Yd,U,hlt,p'⟩,λv H' y=>?_⟩;obtain⟨e,y⟩:=y;subst e;exact hs i v ys σ _ (y xs q) p
 ·have e:i=xs.length:=by omega
  subst e;exact .inl ⟨⟨xs,q,qe _⟩,Yd,hd ys σ H p⟩
theorem zi{K:W.Frag}{b1 b2:Bool}{l1 l2:Addr}{xs zs:List V}{g:TG}{tt:TT}{te:TE}{Fin:List V->Hp->Prop}{σ:St}{H:Hp}(Pv:Nat->List V->St->Hp->Prop)(h0:Pv 0 [] σ H)(hz:∀i ys σ H,Pv i ys σ H->ys.length<=i)(hx:xs.length<=sizeLine)(hl:∀i ys σ H,Pv i ys σ H->SqB K H b1 l1 xs/\SqB K H b2 l2 zs)
 (hs:∀i x z ys σ H p,xs[i]?=some x->zs[i]?=some z->Pv i ys σ H->H p=none->g (.ref p) σ (upd H p (.tup [x,z])) λσ2 H2=>tt σ2 H2 λb H3=>if b=true then te σ2 H3 λy H4=>Pv (i+1) (ys++[y]) σ2 H4 else Pv (i+1) ys σ2 H3)
 (hd:∀ys σ H,Pv (min xs.length zs.length) ys σ H->Fin ys H):∃W:Nat->Nat->List V->St->Hp->Prop,(∃m,W 0 m [] σ H)/\d5 (Itz K b1 b2 l1 l2) g tt te Fin W:=by
 refine⟨λi m ys σ H=>m=min xs.length zs.length-i/\i<=min xs.length zs.length/\Pv i ys σ H,⟨_,U,qt _,h0⟩,?_⟩;rintro i m ys σ H ⟨rfl,hi,p⟩;have hl':=hz i ys σ H p;obtain⟨q1,q2⟩:=hl i ys σ H p;by_cases hlt:i<min xs.length zs.length
 ·have h1:i<xs.length:=by omega
  have h2:i<zs.length:=Yd;refine .inr ⟨⟨xs,zs,xs[i],zs[i],q1,q2,by simp[h1],by simp[h2]⟩,Yd,Pv (i+1),λys' σ' H' p'=>⟨_,Yd,U,hlt,p'⟩,λv H' y=>?_⟩;obtain⟨a,x,y,hn,rfl,rfl,e1,e2⟩:=y;exact hs i x y ys σ H a (e1 xs q1) (e2 zs q2) p hn
 ·have e:i=min xs.length zs.length:=by omega
  subst e;exact .inl ⟨⟨xs,zs,q1,q2,Yd⟩,Yd,hd ys σ H p⟩
end L2
namespace L2
open PySem PySem.Spec PyProof.Rows
section
variable {X:Cx}{tg:Expr}
end
section
variable {X:Cx}
end
end L2
namespace L2
open PySem PySem.Spec PyProof.Rows PySem.NumText
theorem fA{X:Cx}{pins:List (Addr×Obj)}{Nc:List Str}{scope:Scope}{fp:List Addr}{s:Shared}{H:Hp}{C:Addr}{es:List Expr}{k:Nat}{t:TGs}{pos:Pos}(n:Nat)(hc:X.calm=true)(h:PGs (X.comp pins Nc scope fp s H C) es t)
 (hn:(assignEach es (X.comp pins Nc scope fp s H C).env).length=n:=by rfl) (hst:(assignEach es (X.comp pins Nc scope fp s H C).env).findIdx? (·.1)=none:=by rfl):PG (X.comp pins Nc scope fp s H C) (.Tuple es k pos) (qW X.K n t):=
 gy (X:=X.comp pins Nc scope fp s H C) hc h hn hst
end L2
namespace L2
open PySem PySem.Spec PyProof.Rows PySem.W
section
variable {prog:Program}{w:World}{A:Around}{R:Result->Shared->Prop}{E:Yk}{h:Heap}{g:Array GenState}{d:Drawn}{t:Nat}{os:OsState}
variable {nm q:Str}{C N f:Addr}{bs bm:List Value}{hdct:Bool}{sn:List Str}{sub:List Value}{ab:Bool}{col:Option Bool}{dd:Option Addr}{k0 k1 k2 k3 k5:Option Value}
end
section
variable {prog:Program}{w:World}{A:Around}{R:Result->Shared->Prop}{E:Yk}{h:Heap}{g:Array GenState}{d:Drawn}{t:Nat}{os:OsState}
variable {nm q:Str}{C N x:Addr}{bs bm:List Value}{sn:List Str}{sub:List Value}{ab:Bool}{col:Option Bool}{dd:Option Addr}{k0 k1 k2 k3 k5:Option Value}{newId:String}{name:Str}{v:Value}{o:Obj}{fs:Array Value}
end
section
variable {prog:Program}{w:World}{A:Around}{R:Result->Shared->Prop}{E:Yk}{h:Heap}{g:Array GenState}{d:Drawn}{t:Nat}{os:OsState}
variable {nm q:Str}{C N e:Addr}{bs bm:List Value}{hdct:Bool}{sn:List Str}{sub:List Value}{ab:Bool}{col:Option Bool}{dd:Option Addr}{k0 k1 k2 k3 k5:Option Value}{newId:String}{oe:Obj}
end
section
variable {X:Cx}{pins:List (Addr×Obj)}{σ:St}{H:Hp}{s:Shared}{a C f dx:Addr}
end
section
variable {X:Cx}{pins:List (Addr×Obj)}{σ:St}{H:Hp}{s:Shared}{a C f dx:Addr}{h':Heap}
end
section
variable {M:Model}{A:Around}{E:Yk}{s:Shared}{base:Heap}{env:Env}{outer:List Env}{L e:Addr}{oe:Obj}{vs:Array Value}
end
section
variable {P:Program}{w:World}{K:W.Frag}{mg:Str->Option Value}{base:Heap}{N:List Str}{qual:Str}{scope:Scope}{f:Addr}{cdv:Value}{A:Around}{outer:List Env}{s0:Shared}{H0:Hp}{E:XK}
end
section
variable {M:Model}{A:Around}{E:Yk}{env:Env}
variable {nm q:Str}{C N:Addr}{bs bm:List Value}{hdct:Bool}{sn:List Str}{sub:List Value}{ab:Bool}{col:Option Bool}{dd:Option Addr}{k0 k1 k2 k3 k5:Option Value}{newId:String}
end
section
variable {X:Cx}{CX:CXT}{k:Nat}{f C:Addr}{fd:FuncData}{ps:List Str}{sp:Sp}{x:Str}{p pos cpos:Pos}{e:Expr}{es:List Expr}{t:TA}
end
section
variable {M:Model}{A:Around}{E:Yk}{h:Heap}{g:Array GenState}{d:Drawn}{t:Nat}{os:OsState}{e:Addr}{oe:Obj}
variable {nm q:Str}{C N:Addr}{bs bm:List Value}{hdct:Bool}{sn:List Str}{sub:List Value}{ab:Bool}{col:Option Bool}{dd:Option Addr}{k0 k1 k2 k3 k5:Option Value}{newId:String}
variable {nm' q':Str}{C' N':Addr}{bs' bm':List Value}{hdct':Bool}{sn':List Str}{sub':List Value}{ab':Bool}{col':Option Bool}{dd':Option Addr}{k0' k1' k2' k3' k5':Option Value}{newId':String}
end
section
variable {X:Cx}{pins:List (Addr×Obj)}{σ:St}{H:Hp}{s:Shared}{a:Addr}{oe:Obj}{vs:Array Value}{ex:List Addr}{fl:Value}{h':Heap}
end
section
variable {X:Cx}{k:Nat}{f C0:Addr}{fd:FuncData}{ps:List Str}{sp:Sp}{dvs:List V}{ds:List Value}{fx cx y m n:Str}{iy im inn:Nat}{p pos apos py cp pm pn pa hpos tpos:Pos}{e:Expr}{es:List Expr}{t:TA}
end
section
variable {prog:Program}{w:World}{A:Around}{E:Yk}{h:Heap}{g:Array GenState}{d:Drawn}{t:Nat}{os:OsState}{a dx:Addr}{o:Obj}{vs:Array Value}
 {nm q:Str}{C N:Addr}{bs bm:List Value}{sn:List Str}{sub:List Value}{ab:Bool}{col:Option Bool}{dd:Option Addr}{k0 k1 k2 k3 k5:Option Value}{newId:String}{mA:Str->Option Value}{name:Str}{v:Value}
end
section
variable {X:Cx}{e:Expr}{te:TE}{pos:Pos}
end
section
variable {P:Program}{w:World}{K:W.Frag}{mg:Str->Option Value}{base:Heap}
end
section
variable {prog:Program}{w:World}{A:Around}{E:Yk}{h:Heap}{g:Array GenState}{d:Drawn}{t:Nat}{os:OsState}{a:Addr}{o:Obj}{vs:Array Value}
 {nm q:Str}{C N:Addr}{bs bm:List Value}{sn:List Str}{sub:List Value}{ab:Bool}{col:Option Bool}{dd:Option Addr}{k0 k1 k2 k3 k5:Option Value}{newId:String}
end
section
variable {X:Cx}
end
section
variable {X:Cx}
theorem xA:OpR X (binaryOp .FloorDiv) (λx y H Q=>∃i j,x=.int i/\y=.int j/\(0<j/\j.natAbs.log2<9000)/\Q (.int (i / j)) H):=by
 have z:OpR X (binaryOp .FloorDiv) (rI (λ_ j=>0<j/\j.natAbs.log2<9000) λi j=>.int (i / j)):=opI λi j _ _ _ _ _ hc q=>by
  have h1:(0:Int)<j:=hc.1;exact floordiv_int Yd (by rw[Int.fdiv_eq_ediv_of_nonneg i Yd];exact q) (.inl (PyProof.noPylong_of_log2 hc.2))
 exact z
theorem xC:OpR X (binaryOp .BitAnd) (λx y H Q=>∃i j,x=.int i/\y=.int j/\Q (.int (Builtin.bitAnd i j)) H):=wz
theorem xu:OpR X (binaryOp .BitOr) (λx y H Q=>∃i j,x=.int i/\y=.int j/\Q (.int (Builtin.bitOr i j)) H):=wc
theorem xq:OpR X (binaryOp .BitXor) (λx y H Q=>∃i j,x=.int i/\y=.int j/\Q (.int (Builtin.bitXor i j)) H):=w8
end
theorem dI{x y:Str}(c:decide (V.str x=V.str y)=true):x=y:=by injection (Qc c)
theorem dJ{x y:Str}(c:¬ decide (V.str x=V.str y)=true):¬ x=y:=λe=>c (Q1 (by rw[e]))
theorem dY{x y:Int}(c:decide (V.int x=V.int y)=true):x=y:=by injection (Qc c)
theorem dZ{x y:Int}(c:¬ decide (V.int x=V.int y)=true):¬ x=y:=λe=>c (Q1 (by rw[e]))
section
variable {P:Program}{w:World}{A:Around}{E:Yk}{s:Shared}
end
section
variable {P:Program}{w:World}{A:Around}{E:Yk}{s:Shared}
end
section
variable {P:Program}{w:World}{A:Around}{E:Yk}{s:Shared}
end
section
variable {P:Program}{w:World}{A:Around}{E:Yk}{s:Shared}
end
section
variable {P:Program}{w:World}{A:Around}{E:Yk}{s:Shared}
end
section
variable {P:Program}{w:World}{A:Around}{E:Yk}{s:Shared}
set_option maxHeartbeats 3200000 in
end
section
variable {X:Cx}
end
section
variable {P:Program}{w:World}{A:Around}{E:Yk}{s:Shared}
end
section
variable {X:Cx}
end
theorem zk{K:W.Frag}{a:Addr}{xs:List V}{g:TG}{tt:TT}{te:TE}{Fin:List V->Hp->Prop}{σ:St}{H:Hp}(Pv:Nat->List V->St->Hp->Prop)(h0:Pv 0 [] σ H)(hz:∀i ys σ H,i<=xs.length->Pv i ys σ H->ys.length<=i)(hx:xs.length<=sizeLine)(hl:∀i ys σ H,Pv i ys σ H->SqT K H a xs)
 (hs:∀i x ys σ H,xs[i]?=some x->Pv i ys σ H->g x σ H λσ2 H2=>tt σ2 H2 λb H3=>if b=true then te σ2 H3 λy H4=>Pv (i+1) (ys++[y]) σ2 H4 else Pv (i+1) ys σ2 H3)
 (hd:∀ys σ H,Pv xs.length ys σ H->Fin ys H):∃W:Nat->Nat->List V->St->Hp->Prop,(∃m,W 0 m [] σ H)/\d5 (Itt K a) g tt te Fin W:=by
 refine⟨λi m ys σ H=>m=xs.length-i/\i<=xs.length/\Pv i ys σ H,⟨_,U,qt _,h0⟩,?_⟩;rintro i m ys σ H ⟨rfl,hi,p⟩;have few:=hz i ys σ H hi p;have q:=hl i ys σ H p;by_cases lt:i<xs.length
 ·refine .inr ⟨⟨xs,xs[i],q,by simp[lt]⟩,Yd,Pv (i+1),λys' σ' H' p'=>⟨_,Yd,U,lt,p'⟩,λv H' y=>?_⟩;obtain⟨e,y⟩:=y;subst e;exact hs i v ys σ _ (y xs q) p
 ·obtain rfl:i=xs.length:=by omega
  exact .inl ⟨⟨xs,q,qe _⟩,Yd,hd ys σ H p⟩
theorem bS{b:Bool}{A B:Prop}(h:b=true)(x:A):if b=true then A else B:=by rw[Q0 h];exact x
theorem bj{b:Bool}{A B:Prop}(h:b=false)(x:B):if b=true then A else B:=by rw[qZ (by rw[h];decide)];exact x
end L2
namespace Tr
open PySem PySem.Spec PyProof.Rows L2
theorem a9.over{H0 H:Hp}{f:Addr}{o:HO}(h:a9 H0 H)(hf:H0 f=none):a9 H0 (upd H f o):=λb u q=>by
 rw[ah (ca q hf)];exact h b u q
theorem a9.none{H0 H:Hp}{f:Addr}(h:a9 H0 H)(hf:H f=none):H0 f=none:=by
 cases q:H0 f with
 |none=>rfl
 |some o=>rw[h _ _ q]at hf;cases hf
section
variable {Hb H0 H H1:Hp}{S s0 s1 s2 s3:Addr}{z:List Fz}
end
section
variable {Hb H0 H H1:Hp}{S s0 s1 s2 s3:Addr}{z:List Fz}
end
section
variable {Hb H0 H H':Hp}{S s0 s1 s2 s3:Addr}{z:List Fz}
end
section
variable {Hb H0 H H4:Hp}{S s0 s1 s2 s3:Addr}
end
end Tr
namespace Tr
end Tr
namespace Tr
open PySem PySem.Spec PyProof.Rows L2
end Tr
namespace L2
open PySem PySem.Spec PyProof.Rows
theorem zm{n:Nat}{g:TG}{tt:TT}{te:TE}{Fin:List V->Hp->Prop}{σ:St}{H:Hp}(Pv:Nat->List V->St->Hp->Prop)(h0:Pv 0 [] σ H)(hz:∀i ys σ H,i<=n->Pv i ys σ H->ys.length<=i)(hx:n<=sizeLine)
 (hs:∀i ys σ H,i<n->Pv i ys σ H->g (.int i) σ H λσ2 H2=>tt σ2 H2 λb H3=>if b=true then te σ2 H3 λy H4=>Pv (i+1) (ys++[y]) σ2 H4 else Pv (i+1) ys σ2 H3)
 (hd:∀ys σ H,Pv n ys σ H->Fin ys H):∃W:Nat->Nat->List V->St->Hp->Prop,(∃m,W 0 m [] σ H)/\d5 (Itr 0 n) g tt te Fin W:=by
 refine⟨λi m ys σ H=>m=n-i/\i<=n/\Pv i ys σ H,⟨_,U,qt _,h0⟩,?_⟩;rintro i m ys σ H ⟨rfl,hi,p⟩;have few:=hz i ys σ H hi p;by_cases lt:i<n
 ·refine .inr ⟨lt,Yd,Pv (i+1),λys' σ' H' p'=>⟨_,Yd,U,lt,p'⟩,λv H' y=>?_⟩;obtain⟨e,y⟩:=y;rw[Int.zero_add]at y;subst e y;exact hs i ys σ _ lt p
 ·obtain rfl:i=n:=by omega
  exact .inl ⟨qe _,Yd,hd ys σ H p⟩
theorem fK{n:Nat}{g:TG}{te:TE}{Fin:List V->Hp->Prop}{σ:St}{H:Hp}(Pv:Nat->List V->St->Hp->Prop)(h0:Pv 0 [] σ H)(hz:∀i ys σ H,i<=n->Pv i ys σ H->ys.length<=i)(hx:n<=sizeLine)
 (hs:∀i ys σ H,i<n->Pv i ys σ H->g (.int i) σ H λσ2 H2=>te σ2 H2 λy H4=>Pv (i+1) (ys++[y]) σ2 H4)
 (hd:∀ys σ H,Pv n ys σ H->Fin ys H):∃W:Nat->Nat->List V->St->Hp->Prop,(∃m,W 0 m [] σ H)/\d5 (Itr 0 n) g dH te Fin W:=
 zm Pv h0 hz hx (λi ys σ H lt p=>by
  rw[fU (N':=λ_ _ _=>True)]
  exact hs i ys σ H lt p) hd
theorem dE{K:W.Frag}{a:Addr}{xs:List V}{g:TG}{te:TE}{Fin:List V->Hp->Prop}{σ:St}{H:Hp}(Pv:Nat->List V->St->Hp->Prop)(h0:Pv 0 [] σ H)(hz:∀i ys σ H,i<=xs.length->Pv i ys σ H->ys.length<=i)(hx:xs.length<=sizeLine)(hl:∀i ys σ H,Pv i ys σ H->SqL K H a xs)
 (hs:∀i x ys σ H,xs[i]?=some x->Pv i ys σ H->g x σ H λσ2 H2=>te σ2 H2 λy H4=>Pv (i+1) (ys++[y]) σ2 H4)
 (hd:∀ys σ H,Pv xs.length ys σ H->Fin ys H):∃W:Nat->Nat->List V->St->Hp->Prop,(∃m,W 0 m [] σ H)/\d5 (Itl K a) g dH te Fin W:=
 rK Pv h0 hz hx hl (λi x ys σ H hx p=>by
  rw[fU (N':=λ_ _ _=>True)]
  exact hs i x ys σ H hx p) hd
end L2
namespace Tr
open PySem PySem.Spec PyProof.Rows L2
end Tr
namespace L2
open PySem
section
variable {P:Program}{w:World}{A:Around}{E:Yk}{s:Shared}
end
section
variable {P:Program}{w:World}{A:Around}{E:Yk}{s:Shared}
set_option maxHeartbeats 3200000 in
end
end L2
namespace L2
open PySem PySem.Spec PyProof.Rows
section
variable {X:Cx}
end
section
variable {X:Cx}
end
def Ite(K:W.Frag)(l:Addr):It:=
 ⟨λi H=>∃xs x,SqL K H l xs/\xs[i]?=some x,
  λi H v H'=>∃p x,H p=none/\v=.ref p/\H'=upd H p (.tup [.int i,x])/\∀xs,SqL K H l xs->xs[i]?=some x,
  λi H=>∃xs,SqL K H l xs/\xs.length<=i⟩
theorem sX{P:Program}{w:World}{K:W.Frag}{elts:List Expr}{kk:Nat}{tp:Pos}(e it l:Addr)(ne:e≠it):
 f6 P w K (.Tuple elts kk tp) (Ite K l) [e,it] e (λi h=>(∃old,IsEnum h e it i old)/\h.IsListIter it l i) where
 mem:=by simp
 obj:=λi h st b hb=>by
  obtain⟨⟨old,he⟩,o,eo,c,d⟩:=st;simp only[qu,qQ,or_false]at hb;rcases hb with rfl|rfl
  ·exact⟨_,he,λv q=>by cases q⟩
  ·exact⟨o,eo,λv q=>by rw[d]at q;cases q⟩
 keep:=λi h h' st k=>by
  obtain⟨⟨old,he⟩,o,eo,r⟩:=st;exact⟨⟨old,k e (by simp) _ he⟩,o,k it (by simp) o eo,r⟩
 item:=by
  intro X hP hw hK hc i pins s σ H E I hf st hg;subst hP hw hK;obtain⟨⟨old,he⟩,hit⟩:=st;obtain⟨xs,x,hx,ex⟩:=hg;obtain⟨its,rv,pl,z1⟩:=I.list hx;obtain⟨u,hu,ru⟩:=rv.get ex;refine wpAny_pyNext_enum_item he hit pl.isList (x:=u) (by simpa using hu) ne λg a1 a2 a3 a4 a5=>⟨_,U,?_⟩;refine wpAny_letOwnedTupleGo_enum a1 λg' a1' sb=>?_
  have hT:∀b∈[e,it],s.heap.objs.size≠b:=λb hb=>by
   simp only[qu,qQ,or_false]at hb;rcases hb with rfl|rfl
   ·exact Nat.ne_of_gt (qq he)
   ·obtain⟨o,eo,_⟩:=hit;exact Nat.ne_of_gt (qq eo)
  have ky:∀b o,b∉[e,it]->s.heap.get? b=some o->g'.get? b=some o:=λb o hb q=>by
   simp only[qu,qQ,or_false,not_or]at hb;exact sb.extBut _ _ hb.1 (a5 b o hb.1 hb.2 q)
  have I1:Inv X pins σ H { s with heap:=g',toks:=s.toks+1 }:=I.turnedL (t':=s.toks+1) ky hf;have pT:=sb.extBut _ _ (hT e (by simp)) a3;have fT:cq X pins H s.heap.objs.size:=I.fpOk (qe _) (I.hok.fresh (qe _));have I2:Inv X pins σ (upd H s.heap.objs.size (.tup [.int i,x])) { s with heap:=g',toks:=s.toks+1 }:=I1.track fT I.sz ⟨by show 2<=sizeLine;decide,[.int i s.toks,u],.cons ⟨_,U⟩ (.cons ru .nil),⟨_,pT,U,_,U⟩⟩;refine⟨.ref s.heap.objs.size,_,I2,U,⟨_,x,I.hok.fresh (qe _),U,U,λxs' h=>by rw[I.list_inj h hx];exact ex⟩,⟨⟨u,a1'⟩,?_⟩,λb hb=>?_⟩
  ·obtain⟨o,eo,r⟩:=a2;exact⟨o,sb.extBut _ _ (Ne.symm ne) eo,r⟩
  ·rw[ah (Ne.symm (hT b hb))];exact(hf b hb).1
 done:=by
  intro X hP hw hK hc i pins s σ H E I hf st hg;subst hP hw hK;obtain⟨⟨old,he⟩,hit⟩:=st;obtain⟨xs,hx,hend⟩:=hg;obtain⟨its,rv,pl,z1⟩:=I.list hx;have e1:=rv.length;refine wpAny_pyNext_enum_end (I.ok.hd hc) he hit pl.isList (by simp;omega) λg k=>⟨U,I.turnedL (t':=s.toks) (ch:=[e,it]) (λb o hb q=>?_) hf⟩;simp only[qu,qQ,or_false,not_or]at hb;exact k b o hb.2 q
 self:=λ_ _ _ _ _ st h=>by
  obtain⟨⟨old,he⟩,_⟩:=st;exact wpAny_pyIter_enum he h
section
variable {X:Cx}
def yG(K:W.Frag)(ta:TA):TI:=λσ H R=>ta σ H λvs H1=>∃l xs,vs=[.ref l]/\SqL K H1 l xs/\R (Ite K l) H1
theorem oC{a:Expr}{ta:TA}{p pos tp:Pos}{elts:List Expr}{kk:Nat}(hg:Gl X "enumerate")(hm:X.mg "enumerate"=none)(ha:PA X [a] ta)(hs:starEach [a] X.env=[(false,eval a X.env)]:=by rfl):
 PI X (.Tuple elts kk tp) (.Call (.Name "enumerate" p) [a] [] pos) (yG X.K ta):=by
 intro pins s σ H R I h;refine Call_ (di I hg hm PyProof.Rows.Boot.«enumerate» (PyProof.Rows.callWith_type1 (thn (ha pos pins s σ H _ I h) λus s1 ⟨vs,H1,I1,r1,q1⟩=>?_) (by rw[hs];rfl) (by rfl)));obtain⟨l,xs,rfl,hx,q⟩:=q1;obtain⟨u,rfl,ru⟩:=eD r1;cases ru;obtain⟨its,rv,pl,z1⟩:=I1.list hx;refine call_enumerate_list pl.isList λg a1 a2 a3 k=>?_;refine wpAny_pyIter_enum a1 ⟨s1.heap.objs.size+1,[s1.heap.objs.size+1,s1.heap.objs.size],_,_,H1,U,I1.kept (t':=s1.toks) k,sX _ _ l (Nat.succ_ne_self _),⟨⟨_,a1⟩,a2⟩,λb hb=>?_,q⟩;simp only[qu,qQ,or_false]at hb;rcases hb with rfl|rfl
 ·exact I1.fpOk (Nat.le_succ _) (I1.hok.fresh (Nat.le_succ _))
 ·exact I1.fpOk (qe _) (I1.hok.fresh (qe _))
end
end L2
namespace L2
end L2
namespace Tr
open PySem PySem.Spec PyProof.Rows L2
end Tr
namespace L2
open PySem PySem.Spec PyProof.Rows
end L2
namespace Tr
open PySem PySem.Spec PyProof.Rows L2
end Tr
namespace L2
open PySem PySem.Spec PyProof.Rows
structure lQ(K:W.Frag)(C:Addr)(m:Str)(f:Addr):Prop where
 ga:PySem.W.specialIn K (.ref C) "__getattribute__"=some (some (.builtin "type.__getattribute__"))
 rd:PySem.W.readsIn K C (.type "type")=true
 fc:PySem.W.findCls K (.ref C) (.type "type") m=some (.val (.ref f))
 kp:PySem.W.keepIn K (.ref f)=true
section
variable {X:Cx}{CX:CXT}{k:Nat}{f C:Addr}{fd:FuncData}{ps:List Str}{sp:Sp}{E:XK}{x m:Str}{p pos apos:Pos}{e o:Expr}{es:List Expr}{t:TA}{te ta:TE}{ds:List Value}{dvs:List V}
theorem ik{pl:Sem Bool}(hg:Gl X x)(hmg:X.mg x=some (.ref C))(c:lQ X.K C m f)(F:aC X.prog X.w X.K X.mg X.base CX k f fd ps sp)(hr:bw k X.A)(hb:aD X.K fd ps ds)(hd:ao dvs ds)(hx:eB CX X E)(ha:PA X (e::es) t)(hdb:(x == ("__debug__":Str))=false:=by decide)
 (hst:starEach (e::es) X.env=(false,eval e X.env)::starEach es X.env:=by rfl) (hpl:(backTo pos (starEach es X.env)).any (·.1)=false:=by rfl)
 (ht:eval (.Call (.Attribute (.Name x p) m apos) (e::es) [] pos) X.env=(do
  let ov <- eval (.Name x p) X.env
  standAt apos.atName
  let (f,first) <- holding [ov] (getMethod ov m pl)
  callWith pos f first (backTo pos (starEach (e::es) X.env)) (backToKw pos (keywordEach [] X.env))):=by rfl):
 PE X (.Call (.Attribute (.Name x p) m apos) (e::es) [] pos) (mh sp dvs E t):=by
 intro pins s σ H Q I h;refine PySem.W.methodCall_KW (pl:=pl) (iw I hg hmg ?_ hdb) ht;refine PySem.W.method_cls I.kIn c.ga (PySem.W.cls_value I.kIn c.rd c.fc U ?_);have I2:Inv X pins σ H { s with toks:=s.toks+1 }:=I.tok _;refine PySem.W.callWith_K (first:=[]) (h₀:=X.base) I.ok.mod.kin c.kp (thn (ha pos pins _ σ H _ I2 h) λus s2 ⟨vs,H2,I3,r,q2⟩=>⟨I3.kIn,?_⟩) hst hpl;exact gm (us:=us) (vs:=vs) F hr hb hd hx I3 r q2
def lO(X:Cx)(C:Addr)(m:Str)(sp:Sp):Prop:=∃(k:Nat)(f:Addr)(fd:FuncData)(ps:List Str),Cls X.K C/\aG X.K C m f/\aC X.prog X.w X.K X.mg X.base CX0 k f fd ps sp/\bw k X.A/\aD X.K fd ps []
def tD(X:Cx)(m:Str)(ta:TE)(t:TA):TE:=λσ H Q=>ta σ H λx H1=>∃a C dx fs sp,x=.ref a/\H1 a=some (.ins C dx fs)/\fs.lookup m=none/\lO X C m sp/\t σ H1 λvs H2=>sp (x::vs) H2 Q E0
theorem oF{pl:Sem Bool}(he:PE X o ta)(ha:PA X (e::es) t)
 (hst:starEach (e::es) X.env=(false,eval e X.env)::starEach es X.env:=by rfl) (hpl:(backTo pos (starEach es X.env)).any (·.1)=false:=by rfl)
 (ht:eval (.Call (.Attribute o m apos) (e::es) [] pos) X.env=(do
  let ov <- eval o X.env
  standAt apos.atName
  let (f,first) <- holding [ov] (getMethod ov m pl)
  callWith pos f first (backTo pos (starEach (e::es) X.env)) (backToKw pos (keywordEach [] X.env))):=by rfl):
 PE X (.Call (.Attribute o m apos) (e::es) [] pos) (tD X m ta t):=by
 intro pins s σ H Q I h;refine PySem.W.methodCall_KW (pl:=pl) (thn (he pins s σ H _ I h) λu s1 ⟨x,H1,I1,rx,a,C,dx,fs,sp,ex,ea,l,⟨k,f,fd,ps,c,hm,F,hr,hb⟩,q⟩=>?_) ht;subst ex;obtain rfl:u=Value.ref a:=rx;refine iL I1 ea c hm l ?_;refine PySem.W.callWith_K (first:=[.ref a]) (h₀:=X.base) I.ok.mod.kin hm.kp (thn (ha pos pins s1 σ H1 _ I1 q) λus s2 ⟨vs,H2,I2,r,q2⟩=>⟨I2.kIn,?_⟩) hst hpl;exact gm (us:=.ref a::us) (vs:=.ref a::vs) (dvs:=[]) F hr hb .nil ar I2 (.cons U r) (by rw[qx];exact q2)
end
theorem c8{f:Str}{v:V}:∀{fs:List (Str×V)}(ks:List Str),fs.map (·.1)=ks->(ks.all λg=>!decide (g=f))=true->bo f v fs=fs++[(f,v)]
 |[],_,_,_=>rfl
 |(g,x)::r,ks,e,h=>by
  subst e;simp only[qR,List.all_cons,Bool.and_eq_true,Bool.not_eq_true',decide_eq_false_iff_not]at h;rw[bo,qZ h.1,c8 (r.map (·.1)) U h.2]
  rfl
theorem cL{H:Hp}{p:Addr}{o o':HO}:upd (upd H p o) p o'=upd H p o':=by
 funext b
 by_cases e:b=p
 ·subst e;rw[af,af]
 ·rw[ah e,ah e,ah e]
theorem cV{k:Str}{v:V}{r:List (Str×V)}:List.lookup k ((k,v)::r)=some v:=by simp[List.lookup]
theorem aQ{k g:Str}{v:V}{r:List (Str×V)}(h:(k == g)=false):List.lookup k ((g,v)::r)=List.lookup k r:=by simp[List.lookup,h]
theorem ef{α:Type}{xs:List α}{i:Int}{v:α}(h:0<=i)(e:xs[i.toNat]?=some v):atI xs i=some v:=by
 have:=bP (xs:=xs) (j:=i.toNat) (v:=v) e
 rwa [Int.toNat_of_nonneg h]at this
inductive gq(i:Nat)(σ:St)(H:Hp)(Q:VK):Prop
 |mk (v:V) (h:σ[i]?=some (some v)) (q:Q v H):gq i σ H Q
theorem vq(i:Nat):gq i=m9 i:=by
 funext σ H Q
 exact propext ⟨λ⟨v,h,q⟩=>⟨v,h,q⟩,λ⟨v,h,q⟩=>⟨v,h,q⟩⟩
inductive qB(x:V)(H:Hp)(Q:Bool->Hp->Prop):Prop
 |mk (k:Bool) (h:x=.bl k) (q:Q k H):qB x H Q
theorem oo(Q:Bool->Hp->Prop):(λx H=>qB x H Q)=λx H=>∃k,x=V.bl k/\Q k H:=by
 funext x H
 exact propext ⟨λ⟨v,h,q⟩=>⟨v,h,q⟩,λ⟨v,h,q⟩=>⟨v,h,q⟩⟩
def eJ(t:TE):TT:=λσ H Q=>t σ H λx H'=>qB x H' Q
theorem vx(t:TE):eJ t=j3 t:=by
 funext σ H Q
 unfold eJ j3;rw[oo]
theorem vv(t:TE):eJ t=tB t:=by
 funext σ H Q
 unfold eJ tB;rw[oo]
inductive ou(x y:V)(H:Hp)(Q:VK):Prop
 |mk (i j:Int) (h1:x=.int i) (h2:y=.int j) (q:Q (.int (i+j)) H):ou x y H Q
inductive oa(x y:V)(H:Hp)(Q:VK):Prop
 |mk (i j:Int) (h1:x=.int i) (h2:y=.int j) (q:Q (.int (i-j)) H):oa x y H Q
inductive oj(x y:V)(H:Hp)(Q:VK):Prop
 |mk (i j:Int) (h1:x=.int i) (h2:y=.int j) (c:0<j/\j<1073741824) (q:Q (.int (i / j)) H):oj x y H Q
inductive oh(x y:V)(H:Hp)(Q:VK):Prop
 |mk (i j:Int) (h1:x=.int i) (h2:y=.int j) (c:0<j) (q:Q (.int (i % j)) H):oh x y H Q
inductive qLt(x y:V)(H:Hp)(Q:VK):Prop
 |mk (i j:Int) (h1:x=.int i) (h2:y=.int j) (q:Q (.bl (decide (i<j))) H):qLt x y H Q
inductive qGt(x y:V)(H:Hp)(Q:VK):Prop
 |mk (i j:Int) (h1:x=.int i) (h2:y=.int j) (q:Q (.bl (decide (j<i))) H):qGt x y H Q
inductive qEq(x y:V)(H:Hp)(Q:VK):Prop
 |mk (c:nN x y=true) (q:Q (.bl (decide (x=y))) H):qEq x y H Q
inductive ke(x y:V)(H:Hp)(Q:VK):Prop
 |mk (c:y=.non) (q:Q (.bl (decide (x=.non))) H):ke x y H Q
inductive og(x y:V)(H:Hp)(Q:VK):Prop
 |mk (c:y=.non) (q:Q (.bl (!decide (x=.non))) H):og x y H Q
inductive kc(K:W.Frag)(x y:V)(H:Hp)(Q:VK):Prop
 |mk (p:Addr) (xs:List V) (i:Int) (v:V) (h1:x=.ref p) (h2:y=.int i) (h3:SqL K H p xs) (h4:atI xs i=some v) (q:Q v H):kc K x y H Q
inductive ka(K:W.Frag)(x y:V)(H:Hp)(Q:VK):Prop
 |mk (p:Addr) (xs:List V) (i:Int) (v:V) (h1:x=.ref p) (h2:y=.int i) (h3:SqT K H p xs) (h4:atI xs i=some v) (q:Q v H):ka K x y H Q
inductive k9(K:W.Frag)(xs:List V)(H:Hp)(Q:VK):Prop
 |mk (p:Addr) (ys:List V) (h1:xs=[.ref p]) (h2:SqL K H p ys\/SqT K H p ys) (q:Q (.int ys.length) H):k9 K xs H Q
inductive oi(K:W.Frag)(xs:List V)(H:Hp)(Q:VK):Prop
 |mk (x:V) (t:Value) (T:String) (b:Bool) (h1:xs=[x,.ty T]) (h2:cK K H x t) (h3:PySem.W.kitOne K t (.type T)=some b) (q:Q (.bl b) H):oi K xs H Q
inductive k7(K:W.Frag)(xs:List V)(H:Hp)(Q:VK):Prop
 |mk (p:Addr) (ys:List V) (h1:xs=[.ref p]) (h2:SqL K H p ys\/SqT K H p ys) (q:∀l,H l=none->Q (.ref l) (upd H l (.lst ys))):k7 K xs H Q
inductive oq(x:V)(vs:List V)(H:Hp)(Q:VK):Prop
 |mk (l:Addr) (xs:List V) (y:V) (h1:x=.ref l) (h2:vs=[y]) (h3:H l=some (.lst xs)) (h4:xs.length<sizeLine) (q:Q .non (upd H l (.lst (xs++[y])))):oq x vs H Q
inductive om(K:W.Frag)(x y:V)(H:Hp)(Q:VK):Prop
 |mk (l b:Addr) (xs zs:List V) (h1:x=.ref l) (h2:y=.ref b) (h3:SqL K H l xs) (h4:SqL K H b zs) (h5:xs.length+zs.length<=sizeLine) (q:∀p,H p=none->Q (.ref p) (upd H p (.lst (xs++zs)))):om K x y H Q
inductive gu(A B:Prop):Prop
 |mk (h:A) (q:B):gu A B
theorem kh(A B:Prop):gu A B=(A/\B):=propext ⟨λ⟨a,b⟩=>⟨a,b⟩,λ⟨a,b⟩=>⟨a,b⟩⟩
section
variable {X:Cx}
theorem pq(i:Nat){x:Str}{pos:Pos}(hN:X.N[i]?=some x:=by rfl)(hv:Vis X.env.scope x:=by first|exact Or.inl U|exact Or.inr Oi|exact Or.inr (Or.inr U))(hd:(x == ("__debug__":Str))=false:=by decide)
 (hcd:(x == ("__classdict__":Str))=false:=by decide):PE X (.Name x pos) (gq i):=by
 rw[vq];exact vR hN hv hd hcd
theorem aO{op:CmpOp}{r:R2}{a b:Expr}{ta tb:TE}{pos:Pos}(ho:OpR X (compareOp op) r)(ha:PE X a ta)(hb:PE X b tb)(hm:behindInMarks op b=false):PT X (.Compare a [op] [b] pos) (eJ (tOp r ta tb)):=by
 rw[vx];exact vG ho ha hb hm
theorem d4{e:Expr}{t:TE}(h:PE X e t)(he:∀whole,isTrue e X.env whole=(do let v <- whole;standAt e.pos;holding [v] (truthy v)):=by intro _;rfl):PT X e (eJ t):=by
 rw[vv];exact vF h he
theorem OpR.as{f:Value->Value->Sem Value}{r r':R2}(h:OpR X f r)(e:∀x y H Q,r' x y H Q->r x y H Q):OpR X f r':=λpins s σ H x y v u Q I rx ry q=>h pins s σ H x y v u Q I rx ry (e _ _ _ _ q)
theorem bZ.as{f:Value}{r r':List V->Hp->VK->Prop}(h:bZ X f r)(e:∀x H Q,r' x H Q->r x H Q):bZ X f r':=λpins s σ H x u Q I rx q=>h pins s σ H x u Q I rx (e _ _ _ q)
theorem IxR.as{r r':R2}(h:IxR X r)(e:∀x y H Q,r' x y H Q->r x y H Q):IxR X r':=λa b pins s σ H x y v u Q I rx ry q=>h a b pins s σ H x y v u Q I rx ry (e _ _ _ _ q)
theorem bE:OpR X (binaryOp .Add) ou:=xD.as λ_ _ _ _ ⟨i,j,a,b,q⟩=>⟨i,j,a,b,q⟩
theorem gp:OpR X (binaryOp .Sub) oa:=xr.as λ_ _ _ _ ⟨i,j,a,b,q⟩=>⟨i,j,a,b,q⟩
theorem bL:OpR X (binaryOp .FloorDiv) oj:=xB.as λ_ _ _ _ ⟨i,j,a,b,c,q⟩=>⟨i,j,a,b,c,q⟩
theorem aT:OpR X (binaryOp .Mod) oh:=xw.as λ_ _ _ _ ⟨i,j,a,b,c,q⟩=>⟨i,j,a,b,c,q⟩
theorem fy:OpR X (compareOp .Lt) qLt:=xx.as λ_ _ _ _ ⟨i,j,a,b,q⟩=>⟨i,j,a,b,q⟩
theorem i4:OpR X (compareOp .Gt) qGt:=xy.as λ_ _ _ _ ⟨i,j,a,b,q⟩=>⟨i,j,a,b,q⟩
theorem bi:OpR X (compareOp .Eq) qEq:=wv.as λ_ _ _ _ ⟨c,q⟩=>⟨c,q⟩
theorem jV:OpR X (compareOp .Is) ke:=wo.as λ_ _ _ _ ⟨c,q⟩=>⟨c,q⟩
theorem vn:OpR X (compareOp .IsNot) og:=wf.as λ_ _ _ _ ⟨c,q⟩=>⟨c,q⟩
theorem jW:OpR X (binaryOp .Add) (om X.K):=wy.as λ_ _ _ _ ⟨l,b,xs,zs,h1,h2,h3,h4,h5,q⟩=>⟨l,b,xs,zs,h1,h2,h3,h4,h5,q⟩
theorem aV:IxR X (kc X.K):=yy.as λ_ _ _ _ ⟨p,xs,i,v,a,b,c,d,q⟩=>⟨p,xs,i,v,a,b,c,d,q⟩
theorem aZ:IxR X (ka X.K):=yw.as λ_ _ _ _ ⟨p,xs,i,v,a,b,c,d,q⟩=>⟨p,xs,i,v,a,b,c,d,q⟩
theorem o9{K:W.Frag}(e:X.K=K):IxR X (kc K):=by
 subst e;exact aV
theorem vm{K:W.Frag}(e:X.K=K):IxR X (ka K):=by
 subst e;exact aZ
theorem c5:bZ X (.builtin "len") (k9 X.K):=zw.as λ_ _ _ ⟨p,ys,a,b,q⟩=>⟨p,ys,a,b,q⟩
theorem jY:bZ X (.builtin "isinstance") (oi X.K):=zy.as λ_ _ _ ⟨x,t,T,b,h1,h2,h3,q⟩=>⟨x,t,T,b,h1,h2,h3,q⟩
theorem jX:bZ X (.type "list") (k7 X.K):=zv.as λ_ _ _ ⟨p,ys,a,b,q⟩=>⟨p,ys,a,b,q⟩
theorem vo{K:W.Frag}(e:X.K=K):bZ X (.type "list") (k7 K):=by
 subst e;exact jX
theorem d8:MtM X "list.append" oq:=λpins s σ H x xs v us Q I rx rv ⟨l,ys,y,h1,h2,h3,h4,q⟩=>xL pins s σ H x xs v us Q I rx rv ⟨l,ys,y,h1,h2,h3,h4,q⟩
inductive kf(K:W.Frag)(f:Str)(x:V)(H:Hp)(Q:VK):Prop
 |mk (a C dx:Addr) (fs:List (Str×V)) (v:V) (h1:x=.ref a) (h2:H a=some (.ins C dx fs)) (h3:Cls K C) (h4:aY K C f) (h5:fs.lookup f=some v) (q:Q v H):kf K f x H Q
def kg(K:W.Frag)(ta:TE)(f:Str):TE:=λσ H Q=>ta σ H λx H1=>kf K f x H1 Q
theorem vA(K:W.Frag)(ta:TE)(f:Str):kg K ta f=gR K ta f:=by
 funext σ H Q
 unfold kg gR
 have:(λx H1=>kf K f x H1 Q)=λx H1=>∃a C dx fs v,x=V.ref a/\H1 a=some (.ins C dx fs)/\Cls K C/\aY K C f/\fs.lookup f=some v/\Q v H1:=by
  funext x H1
  exact propext ⟨λ⟨a,C,dx,fs,v,h1,h2,h3,h4,h5,q⟩=>⟨a,C,dx,fs,v,h1,h2,h3,h4,h5,q⟩,λ⟨a,C,dx,fs,v,h1,h2,h3,h4,h5,q⟩=>⟨a,C,dx,fs,v,h1,h2,h3,h4,h5,q⟩⟩
 rw[this]
theorem az{e:Expr}{ta:TE}{f:Str}{pos:Pos}(he:PE X e ta)(hb:attributeBase e f X.env (eval e X.env)=eval e X.env):PE X (.Attribute e f pos) (kg X.K ta f):=by
 rw[vA];exact oG he hb
def jZ(t:TA):TE:=λσ H Q=>t σ H λxs H1=>gu (xs.length<=sizeLine) (∀p,H1 p=none->Q (.ref p) (upd H1 p (.tup xs)))
def i6(t:TA):TE:=λσ H Q=>t σ H λxs H1=>gu (xs.length<=sizeLine) (∀p,H1 p=none->Q (.ref p) (upd H1 p (.lst xs)))
theorem vt(t:TA):jZ t=j2 t:=by
 funext σ H Q
 unfold jZ j2;simp only[kh]
theorem vy(t:TA):i6 t=j6 t:=by
 funext σ H Q
 unfold i6 j6;simp only[kh]
theorem cr{x1}{es:List Expr}{t:TA}{pos:Pos}(h:PA X es t):PE X (.Tuple es x1 pos) (jZ t):=by
 rw[vt];exact vS h
theorem bR{es:List Expr}{t:TA}{pos:Pos}(h:PA X es t):PE X (.List es pos) (i6 t):=by
 rw[vy];exact vU h
inductive k6(vs:List V)(H:Hp)(R:It->Hp->Prop):Prop
 |mk (j:Int) (h:vs=[.int j]) (h1:-(2 ^ 62)<=j) (h2:j<2 ^ 62) (q:R (Itr 0 j.toNat) H):k6 vs H R
def kM(ta:TA):TI:=λσ H R=>ta σ H λvs H1=>k6 vs H1 R
theorem yv(ta:TA):kM ta=kP ta:=by
 funext σ H R
 unfold kM kP
 have:(λvs H1=>k6 vs H1 R)=λvs H1=>∃j:Int,vs=[V.int j]/\-(2 ^ 62)<=j/\j<2 ^ 62/\R (Itr 0 j.toNat) H1:=by
  funext vs H1
  exact propext ⟨λ⟨j,h,h1,h2,q⟩=>⟨j,h,h1,h2,q⟩,λ⟨j,h,h1,h2,q⟩=>⟨j,h,h1,h2,q⟩⟩
 rw[this]
theorem db{tg a:Expr}{ta:TA}{p pos:Pos}(hg:Gl X "range")(hm:X.mg "range"=none)(ha:PA X [a] ta)(hs:starEach [a] X.env=[(false,eval a X.env)]:=by rfl):PI X tg (.Call (.Name "range" p) [a] [] pos) (kM ta):=by
 rw[yv];exact vQ hg hm ha hs
def qBM(K:W.Frag)(T:String)(r:V->List V->Hp->VK->Prop)(to:TE)(t:TA):TE:=λσ H Q=>to σ H λx H1=>gu (tyV K T x H1) (t σ H1 λxs H2=>r x xs H2 Q)
theorem vB(K:W.Frag)(T:String)(r:V->List V->Hp->VK->Prop)(to:TE)(t:TA):qBM K T r to t=tBM K T r to t:=by
 funext σ H Q
 unfold qBM tBM;simp only[kh]
theorem cF{o e:Expr}{es:List Expr}{to:TE}{t:TA}{name:Str}{apos cpos:Pos}{T id:String}{r:V->List V->Hp->VK->Prop}(pa:PlainAttrs T)(slot:Slot T name id)(hty:typeOf (.builtin id)=pure (.type "method_descriptor"))(hm:MtR X id r)(ho:PE X o to)(ha:PA X (e::es) t)
 (hbase:attributeBase o name X.env (eval o X.env)=eval o X.env:=by rfl)
 (hfew:((backTo cpos (starEach (e::es) X.env)).all (λx=>!x.1) && (backToKw cpos (keywordEach [] X.env)).all (λx=>x.1.isSome)
  && decide ((e::es).length+([]:List Keyword).length+(if([]:List Keyword).isEmpty then 0 else 1)<30))=true:=by rfl)
 (hline:(apos.endLine == cpos.line)=true:=by rfl) (hs:starEach (e::es) X.env=(false,eval e X.env)::starEach es X.env:=by rfl) (hplain:(backTo cpos (starEach es X.env)).any (·.1)=false:=by rfl):
 PE X (.Call (.Attribute o name apos) (e::es) [] cpos) (qBM X.K T r to t):=by
 rw[vB];exact w6 pa slot hty hm ho ha hbase hfew hline hs hplain
end
abbrev cJ(h:Heap)(z TI TO t:Addr)(f:Bool):Prop:=h.get? z=some { cls:=.type "zip",dict:=none,data:=.fields #[rawInt t,.bool f,.bool false,.ref TI,.ref TO],slots:=#[] }
section
variable {prog:Program}{w:World}{A:Around}{E:Yk}{s:Shared}
theorem lU{z TI TO t:Addr}{f:Bool}{ot:Obj}{Q:Bool->Shared->Prop}(hz:cJ s.heap z TI TO t f)(ht:s.heap.get? t=some ot)
 (q:∀g,cJ g z TI TO t true->Heap.SameBut z s.heap g->Q false { s with heap:=g }):wpAny (model prog w) A (Builtin.SmallTypes.ownedTupleIsFree (.ref z)) Q E s:=by
 unfold Builtin.SmallTypes.ownedTupleIsFree;refine q5 (wpAny_field hz U (x:=rawInt t) U ?_);show wpAny _ _ (loadIfAlive ((t:Int).toNat) >>= _) _ _ _;rw[qX];refine q5 (PySem.W.kdx_alive ht ?_);simp only[Option.isNone_some,Qj,if_false];refine q5 (wpAny_field hz U (x:=.bool f) U ?_)
 cases f with
 |true=>
  rw[qZ (show ¬ ((Value.bool true != Value.bool true)=true)from qi)];exact qd (q _ hz (Heap.SameBut.refl _ _))
 |false=>
  rw[Q0 (show(Value.bool false != Value.bool true)=true from rfl)];refine q5 (wpAny_setField_rec hz (by simp) λh₃ he₃ hs₃=>?_);exact qd (q _ he₃ hs₃)
theorem sC{z TI TO i1 i2 l1 l2 t:Addr}{f b1 b2:Bool}{ot:Obj}{k1 k2:Nat}{xs ys:Array Value}{x y:Value}{Q:Yk}(D:ZAp z TI TO i1 i2 l1 l2)
 (hz:cJ s.heap z TI TO t f) (ht:s.heap.get? t=some ot) (hI:IsPair s.heap TI (.ref i1) (.ref i2)) (t1:SIt s.heap b1 i1 l1 k1) (t2:SIt s.heap b2 i2 l2 k2) (q1:SSq s.heap b1 l1 xs) (q2:SSq s.heap b2 l2 ys) (ex:xs[k1]?=some x) (ey:ys[k2]?=some y)
 (q:∀g,cJ g z TI TO t true->SIt g b1 i1 l1 (k1+1)->SIt g b2 i2 l2 (k2+1)->IsPair g s.heap.objs.size x y->(∀c o,c≠z->c≠i1->c≠i2->s.heap.get? c=some o->g.get? c=some o)->Q (.ref s.heap.objs.size) { s with heap:=g }):
 wpAny (model prog w) A (Builtin.«zip.__next__» ⟨[.ref z],[]⟩) (λfin s'=>∃v,fin=.done (.ret v)/\Q v s') E s:=by
 obtain⟨⟨nIz,nOz,n1z,n2z,nIO,nI1,nI2,nO1,nO2,n12⟩,lne⟩:=D;obtain⟨m1z,m1O,m11,m12,m1I⟩:=lne l1 (.inl U);obtain⟨m2z,m2O,m21,m22,m2I⟩:=lne l2 (.inr U);show wpAny _ _ (field (.ref z) 2 >>= _) _ _ _;refine q5 (wpAny_field hz U (x:=.bool false) U ?_);show wpAny _ _ (field (.ref z) 3 >>= _) _ _ _;refine q5 (wpAny_field hz U (x:=.ref TI) U (q5 (Qv hI U ?_)));show wpAny _ _ (Builtin.SmallTypes.ownedTupleIsFree (.ref z) >>= _) _ _ _;refine q5 (lU hz ht λg1 z1 s1=>?_);simp only[Qj,if_false];simp only[List.forIn_toArray,List.forIn_cons,List.forIn_nil];refine q5 (q5 (q5 (Qu ?_)));show wpAny _ _ (Builtin.SmallTypes.nextOf (.ref i1) >>= _) _ _ _;refine q5 (fE (b:=b1) (t1.keep λo e=>s1.extBut _ _ n1z e) (q1.keep λo e=>s1.extBut _ _ m1z e) ex λg2 u1 s2=>qd ?_);refine qd ?_;refine q5 (q5 (Qu ?_));show wpAny _ _ (Builtin.SmallTypes.nextOf (.ref i2) >>= _) _ _ _;refine q5 (fE (b:=b2) (t2.keep λo e=>s2.extBut _ _ n12.symm (s1.extBut _ _ n2z e)) (q2.keep λo e=>s2.extBut _ _ m21 (s1.extBut _ _ m2z e)) ey λg4 u2 s4=>qd ?_);refine qd (qd ?_);have sz:g4.objs.size=s.heap.objs.size:=by rw[s4.1,s2.1,s1.1]
 refine q5 (wpAny_newTuple (hsz:=(by show 2<=sizeLine;decide)) ?_);refine qd ⟨_,U,?_⟩;show Q (.ref g4.objs.size) _;have tp:IsPair (g4.push { cls:=.type "tuple",data:=.seq #[x,y] }) g4.objs.size x y:=qp _ U;rw[sz]at tp ⊢;have z4:cJ g4 z TI TO t true:=s4.extBut _ _ n2z.symm (s2.extBut _ _ n1z.symm z1);exact q _ (qa _ z4) (u1.keep λo e=>qa _ (s4.extBut _ _ n12 e)) (u2.keep λo e=>qa _ e) tp λc o h1 h2 h3 e=>qa _ (s4.extBut _ _ h3 (s2.extBut _ _ h2 (s1.extBut _ _ h1 e)))
theorem sD{z TI TO i1 i2 l1 l2 t:Addr}{f b1 b2:Bool}{ot:Obj}{k1 k2:Nat}{xs ys:Array Value}{Q:Fin->Shared->Prop}(hh:A.handled=none)(D:ZAp z TI TO i1 i2 l1 l2)
 (hz:cJ s.heap z TI TO t f) (ht:s.heap.get? t=some ot) (hI:IsPair s.heap TI (.ref i1) (.ref i2)) (t1:SIt s.heap b1 i1 l1 k1) (t2:SIt s.heap b2 i2 l2 k2) (q1:SSq s.heap b1 l1 xs) (q2:SSq s.heap b2 l2 ys) (hend:xs[k1]?=none\/ys[k2]?=none)
 (q:∀g e,(∀c o,c≠z->c≠i1->c≠i2->s.heap.get? c=some o->g.get? c=some o)->(∃o,g.get? e=some o/\o.cls=.type "StopIteration")->E (.ref e) { s with heap:=g }):
 wpAny (model prog w) A (Builtin.«zip.__next__» ⟨[.ref z],[]⟩) Q E s:=by
 obtain⟨⟨nIz,nOz,n1z,n2z,nIO,nI1,nI2,nO1,nO2,n12⟩,lne⟩:=D;obtain⟨m1z,m1O,m11,m12,m1I⟩:=lne l1 (.inl U);obtain⟨m2z,m2O,m21,m22,m2I⟩:=lne l2 (.inr U);show wpAny _ _ (field (.ref z) 2 >>= _) _ _ _;refine q5 (wpAny_field hz U (x:=.bool false) U ?_);show wpAny _ _ (field (.ref z) 3 >>= _) _ _ _;refine q5 (wpAny_field hz U (x:=.ref TI) U (q5 (Qv hI U ?_)));show wpAny _ _ (Builtin.SmallTypes.ownedTupleIsFree (.ref z) >>= _) _ _ _;refine q5 (lU hz ht λg1 z1 s1=>?_);simp only[Qj,if_false];simp only[List.forIn_toArray,List.forIn_cons,List.forIn_nil];refine q5 (q5 (q5 (Qu ?_)));show wpAny _ _ (Builtin.SmallTypes.nextOf (.ref i1) >>= _) _ _ _
 cases ex:xs[k1]? with
 |none=>
  refine q5 (iq (b:=b1) hh (t1.keep λo e=>s1.extBut _ _ n1z e) (q1.keep λo e=>s1.extBut _ _ m1z e) ex λg2 v s2 hv=>?_);exact q _ _ (λc o h1 h2 _ e=>s2 _ _ h2 (s1.extBut _ _ h1 e)) hv
 |some x=>
  have ey:ys[k2]?=none:=by rcases hend with h|h;rw[ex]at h;cases h;exact h
  refine q5 (fE (b:=b1) (t1.keep λo e=>s1.extBut _ _ n1z e) (q1.keep λo e=>s1.extBut _ _ m1z e) ex λg2 u1 s2=>qd ?_);refine qd ?_;refine q5 (q5 (Qu ?_));show wpAny _ _ (Builtin.SmallTypes.nextOf (.ref i2) >>= _) _ _ _;refine q5 (iq (b:=b2) hh (t2.keep λo e=>s2.extBut _ _ n12.symm (s1.extBut _ _ n2z e)) (q2.keep λo e=>s2.extBut _ _ m21 (s1.extBut _ _ m2z e)) ey λg4 v s4 hv=>?_);exact q _ _ (λc o h1 h2 h3 e=>s4 _ _ h3 (s2.extBut _ _ h2 (s1.extBut _ _ h1 e))) hv
theorem oJ{h:Heap}{z TI TO t t':Addr}{f f':Bool}(a:cJ h z TI TO t f)(b:cJ h z TI TO t' f'):t=t':=by
 have e:=a.symm.trans b;simp only[Option.some.injEq,Obj.mk.injEq,Data.fields.injEq,true_and,and_true]at e;have e2:=congrArg Array.toList e;simp only[List.cons.injEq]at e2;have e3:=e2.1;unfold rawInt at e3;injection e3 with e3 _;exact Int.ofNat.inj e3
inductive ZSt(h:Heap)(z TI TO i1 i2:Addr):Nat->Prop
 |first {a b:Value}:IsZip h z TI TO .none->IsPair h TO a b->ZSt h z TI TO i1 i2 0
 |more {t:Addr}{f:Bool}{ot:Obj}{k:Nat}:cJ h z TI TO t f->h.get? t=some ot->t≠z/\t≠i1/\t≠i2->ZSt h z TI TO i1 i2 (k+1)
theorem sv{z TI TO i1 i2 l1 l2:Addr}{b1 b2:Bool}{k:Nat}{xs ys:Array Value}{x y:Value}{Q:Option Value->Shared->Prop}(D:ZAp z TI TO i1 i2 l1 l2)
 (hz:ZSt s.heap z TI TO i1 i2 k) (hI:IsPair s.heap TI (.ref i1) (.ref i2)) (t1:SIt s.heap b1 i1 l1 k) (t2:SIt s.heap b2 i2 l2 k) (q1:SSq s.heap b1 l1 xs) (q2:SSq s.heap b2 l2 ys) (ex:xs[k]?=some x) (ey:ys[k]?=some y)
 (q:∀g,ZSt g z TI TO i1 i2 (k+1)->SIt g b1 i1 l1 (k+1)->SIt g b2 i2 l2 (k+1)->IsPair g s.heap.objs.size x y->(∀c o,c≠z->c≠TO->c≠i1->c≠i2->s.heap.get? c=some o->g.get? c=some o)->(∀t f,cJ g z TI TO t f->t=s.heap.objs.size\/∃f',cJ s.heap z TI TO t f')->Q (some (.ref s.heap.objs.size)) { s with heap:=g }):
 wpAny (model prog w) A (pyNext (.ref z)) Q E s:=by
 cases hz with
 |first hz hO=>
  refine lS D hz hI hO t1 t2 q1 q2 ex ey λg a1 a2 a3 a4 a5 a6=>q g (.more a1 a5 ?_) a3 a4 a5 a6 λt f h=>.inl (oJ h a1);obtain⟨o1,e1,_⟩:=t1.obj;obtain⟨o2,e2,_⟩:=t2.obj;exact⟨Nat.ne_of_gt (qq hz),Nat.ne_of_gt (qq e1),Nat.ne_of_gt (qq e2)⟩
 |@more t0 f0 ot0 k0 hz ht nt=>
  have ty:s.TypeIs (.ref z) "zip":=⟨_,hz,U⟩;unfold pyNext;refine q5 (wpAny_attempt (wpAny_callSpecial?_slot (name:=Str.ofString "__next__") ty PySem.F.slot_zip_next (Qi PySem.F.slot_zip_next ty PySem.F.entry_zip_next (sC D hz ht hI t1 t2 q1 q2 ex ey λg a1 a3 a4 a5 a6=>qd (q g ?_ a3 a4 a5 (λc o h1 _ h3 h4 e=>a6 c o h1 h3 h4 e) λt' f' h=>.inr ⟨f0,by rw[oJ h a1];exact hz⟩)) (PySem.F.args_zip_next_1 _))));exact .more a1 (a6 _ _ nt.1 nt.2.1 nt.2.2 ht) nt
theorem sw{z TI TO i1 i2 l1 l2:Addr}{b1 b2:Bool}{k:Nat}{xs ys:Array Value}{Q:Option Value->Shared->Prop}(hh:A.handled=none)(D:ZAp z TI TO i1 i2 l1 l2)
 (hz:ZSt s.heap z TI TO i1 i2 k) (hI:IsPair s.heap TI (.ref i1) (.ref i2)) (t1:SIt s.heap b1 i1 l1 k) (t2:SIt s.heap b2 i2 l2 k) (q1:SSq s.heap b1 l1 xs) (q2:SSq s.heap b2 l2 ys) (hend:xs[k]?=none\/ys[k]?=none)
 (q:∀g,(∀c o,c≠z->c≠TO->c≠i1->c≠i2->s.heap.get? c=some o->g.get? c=some o)->Q none { s with heap:=g }):wpAny (model prog w) A (pyNext (.ref z)) Q E s:=by
 cases hz with
 |first hz hO=>exact lT hh D hz hI hO t1 t2 q1 q2 hend q
 |more hz ht nt=>
  have ty:s.TypeIs (.ref z) "zip":=⟨_,hz,U⟩;unfold pyNext;refine q5 (wpAny_attempt (wpAny_callSpecial?_slot (name:=Str.ofString "__next__") ty PySem.F.slot_zip_next (Qi PySem.F.slot_zip_next ty PySem.F.entry_zip_next (sD hh D hz ht hI t1 t2 q1 q2 hend λg e hk he=>?_) (PySem.F.args_zip_next_1 _))));obtain⟨o,ho,hc⟩:=he;exact q5 (wpAny_isInstance (T:="StopIteration") (b:=true) ⟨o,ho,hc⟩ isSubtype_stop (qd (q _ λc o h1 _ h3 h4 e=>hk c o h1 h3 h4 e)))
theorem ZSt.obj{h:Heap}{z TI TO i1 i2:Addr}{k:Nat}(hz:ZSt h z TI TO i1 i2 k):∃o,h.get? z=some o/\o.cls=.type "zip":=by
 cases hz with
 |first h _=>exact⟨_,h,U⟩
 |more h _ _=>exact⟨_,h,U⟩
theorem ZSt.keep{h h':Heap}{z TI TO i1 i2 S:Addr}{k:Nat}(hz:ZSt h z TI TO i1 i2 k)(e:∀b o,b≠S->h.get? b=some o->h'.get? b=some o)(nz:z≠S)(nO:TO≠S)(nt:∀t f,cJ h z TI TO t f->t≠S):ZSt h' z TI TO i1 i2 k:=by
 cases hz with
 |first h hO=>exact .first (e _ _ nz h) (e _ _ nO hO)
 |more h ht n=>exact .more (e _ _ nz h) (e _ _ (nt _ _ h) ht) n
structure fN(n0:Nat)(h:Heap)(xs ys:Array Value)(av:List Addr)(acc:Array Value)(k:Nat):Prop where
 n:acc.size=k
 at_:∀(j:Nat)(v:Value),acc[j]?=some v->∃(t:Addr)(x y:Value),v=Value.ref t/\xs[j]?=some x/\ys[j]?=some y/\IsPair h t x y/\t∉av/\n0<=t
 inc:∀(i j:Nat)(t t':Addr),i<j->acc[i]?=some (.ref t)->acc[j]?=some (.ref t')->t<t'
theorem fN.keep{n0:Nat}{h h':Heap}{xs ys:Array Value}{av:List Addr}{acc:Array Value}{k:Nat}(g:fN n0 h xs ys av acc k)(e:∀b o,b∉av->h.get? b=some o->h'.get? b=some o):fN n0 h' xs ys av acc k:=
 ⟨g.n,λj v hj=>let ⟨t,x,y,a,b,c,d,n,m⟩:=g.at_ j v hj;⟨t,x,y,a,b,c,e _ _ n d,n,m⟩,g.inc⟩
theorem su{n0:Nat}{z TI TO i1 i2 l1 l2 S:Addr}{b1 b2:Bool}{xs ys:Array Value}{res:Value}{n:Nat}{R:Result->Shared->Prop}(hh:A.handled=none)(D:ZAp z TI TO i1 i2 l1 l2)(hS:S∉[z,TI,TO,i1,i2,l1,l2])(hn:n=min xs.size ys.size)(hsz:n<=sizeLine)(hO:TO<n0):
 ∀(m k:Nat)(s:Shared)(acc:Array Value)(c:Nat),n-k=m->k<=n->ZSt s.heap z TI TO i1 i2 k->(∀t f,cJ s.heap z TI TO t f->t≠S)->IsPair s.heap TI (.ref i1) (.ref i2)->n0<=s.heap.objs.size->SIt s.heap b1 i1 l1 k->SIt s.heap b2 i2 l2 k->SSq s.heap b1 l1 xs->SSq s.heap b2 l2 ys->
 s.heap.get? S=some { cls:=.type "list",dict:=none,data:=.seq acc c,slots:=#[] }->fN n0 s.heap xs ys [S,z,TI,TO,i1,i2] acc k->
 (∀h' tk acc' c',(∀b o,b∉[S,z,TO,i1,i2]->s.heap.get? b=some o->h'.get? b=some o)->h'.get? S=some { cls:=.type "list",dict:=none,data:=.seq acc' c',slots:=#[] }->fN n0 h' xs ys [S,z,TI,TO,i1,i2] acc' n->R (.ok (.ret res)) { s with heap:=h',toks:=tk })->
 codeAny (model prog w) A (.builtin "list.extend.loop" ⟨[.ref S,.ref z,res],[]⟩) R s:=by
 simp only[qu,qQ,or_false,not_or]at hS;obtain⟨nSz,nSI,nSO,nS1,nS2,nSl1,nSl2⟩:=hS;obtain⟨⟨nIz,nOz,n1z,n2z,nIO,nI1,nI2,nO1,nO2,n12⟩,lne⟩:=id D;obtain⟨m1z,m1O,m11,m12,m1I⟩:=lne l1 (.inl U);obtain⟨m2z,m2O,m21,m22,m2I⟩:=lne l2 (.inr U);intro m
 induction m with
 |zero=>
  intro k s acc c hk hi hz nt hI hn0 t1 t2 q1 q2 hl hg hR;have hkn:k=n:=Yd;subst hkn;refine codeAny_builtin F.entry_extend_loop ?_;rw[Around.under_plainId F.plain_extend_loop _];show wpAny _ A.in1 (pyNext (.ref z) >>= _) _ _ s
  refine q5 (sw (by simpa using hh) D hz hI t1 t2 q1 q2 (by
   by_cases h:xs.size<=k
   ·exact .inl (Array.getElem?_eq_none h)
   ·exact .inr (Array.getElem?_eq_none Yd)) λg hk=>?_)
  refine qd (hR g s.toks acc c (λb o hb e=>?_) (hk S _ nSz nSO nS1 nS2 hl) (hg.keep λb o hb e=>?_))
  ·simp only[qu,qQ,or_false,not_or]at hb;exact hk b o hb.2.1 hb.2.2.1 hb.2.2.2.1 hb.2.2.2.2 e
  ·simp only[qu,qQ,or_false,not_or]at hb;exact hk b o hb.2.1 hb.2.2.2.1 hb.2.2.2.2.1 hb.2.2.2.2.2 e
 |succ m ih=>
  intro k s acc c hk hi hz nt hI hn0 t1 t2 q1 q2 hl hg hR;have hlt:k<n:=Yd;have kx:k<xs.size:=Yd;have ky:k<ys.size:=Yd;refine codeAny_builtin F.entry_extend_loop ?_;rw[Around.under_plainId F.plain_extend_loop _];show wpAny _ A.in1 (pyNext (.ref z) >>= _) _ _ s;refine q5 (sv D hz hI t1 t2 q1 q2 (Array.getElem?_eq_getElem kx) (Array.getElem?_eq_getElem ky) λg a1 a3 a4 a5 a6 a7=>?_);have hl':=a6 S _ nSz nSO nS1 nS2 hl;have big:∀b o,s.heap.get? b=some o->s.heap.objs.size≠b:=λb o e=>Nat.ne_of_gt (qq e);have oth:∀b o,b≠S->g.get? b=some o->(g.update S (Obj.mapSeq (·.push (.ref s.heap.objs.size)))).get? b=some o:=λb o hb e=>(Qs _ _ (Ne.symm hb)).trans e
  have nt':∀t f,cJ g z TI TO t f->t≠S:=λt f h=>by
   rcases a7 t f h with rfl|⟨f',h'⟩
   ·exact big _ _ hl
   ·exact nt t f' h'
  obtain⟨oz,ez,_⟩:=hz.obj;obtain⟨o1,e1,_⟩:=t1.obj;obtain⟨o2,e2,_⟩:=t2.obj;show wpAny _ A.in1 (updateSeq S (·.push (.ref s.heap.objs.size)) >>= _) _ _ _;refine q5 (wpAny_updateSeq hl' U (qd ⟨plainId_quiet F.plain_extend_loop _,ih (k+1) { s with heap:=g.update S (Obj.mapSeq (·.push (.ref s.heap.objs.size))) } (acc.push (.ref s.heap.objs.size)) _ Yd hlt ?_ ?_ ?_ ?_ ?_ ?_ ?_ ?_ (Qg _ hl' U) ?_ λh' tk acc' c' kp hl'' hg'=>?_⟩) (by rw[hg.n];omega) (by show(acc.push _).size<=sizeLine+1;rw[Array.size_push,hg.n];omega))
  ·exact a1.keep oth (Ne.symm nSz) (Ne.symm nSO) nt'
  ·exact λt f h=>nt' t f ((Qs _ _ nSz).symm.trans h)
  ·exact oth _ _ (Ne.symm nSI) (a6 _ _ nIz nIO nI1 nI2 hI)
  ·exact qy hn0 (Nat.le_of_lt (qq (oth _ _ (big _ _ hl) a5)))
  ·exact a3.keep λo e=>oth _ _ (Ne.symm nS1) e
  ·exact a4.keep λo e=>oth _ _ (Ne.symm nS2) e
  ·exact q1.keep λo e=>oth _ _ (Ne.symm nSl1) (a6 _ _ m1z m1O m11 m12 e)
  ·exact q2.keep λo e=>oth _ _ (Ne.symm nSl2) (a6 _ _ m2z m2O m21 m22 e)
  ·have old:∀(j:Nat)(t:Addr),acc[j]?=some (.ref t)->t<s.heap.objs.size:=λj t hj=>by
    obtain⟨t',x,y,a,_,_,d,_⟩:=hg.at_ j _ hj;cases a;exact qq d
   refine⟨by rw[Array.size_push,hg.n],λj v hj=>?_,λi j t t' lt hi hj=>?_⟩
   rotate_left
   ·rw[Array.getElem?_push]at hi hj;split at hj
    ·rename_i ej;cases hj;rw[qZ Yd]at hi;exact old i t hi
    ·split at hi
     ·rename_i ei;have:=(Array.getElem?_eq_some_iff.mp hj).1;omega
     ·exact hg.inc i j t t' lt hi hj
   rw[Array.getElem?_push]at hj;split at hj
   ·rename_i ej;rw[hg.n]at ej;cases hj;subst ej;refine⟨_,_,_,U,Array.getElem?_eq_getElem kx,Array.getElem?_eq_getElem ky,oth _ _ (big _ _ hl) a5,?_⟩;simp only[qu,qQ,or_false,not_or];exact⟨⟨big _ _ hl,big _ _ ez,big _ _ hI,Nat.ne_of_gt (qD hO hn0),big _ _ e1,big _ _ e2⟩,hn0⟩
   ·obtain⟨t,x,y,a,b,c',d,n,m⟩:=hg.at_ j v hj;refine⟨t,x,y,a,b,c',?_,n,m⟩;simp only[qu,qQ,or_false,not_or]at n;exact oth _ _ n.1 (a6 _ _ n.2.1 n.2.2.2.1 n.2.2.2.2.1 n.2.2.2.2.2 d)
  ·refine hR h' tk acc' c' (λb o hb e=>kp b o hb ?_) hl'' hg';simp only[qu,qQ,or_false,not_or]at hb;exact oth _ _ hb.1 (a6 _ _ hb.2.1 hb.2.2.1 hb.2.2.2.1 hb.2.2.2.2 e)
theorem sq:typeLookup (.type "zip") "__len__"=pure none:=by rw[typeLookup_type,builtinLookup_eq_fast];kernel_rfl
theorem ss:typeLookup (.type "zip") "__length_hint__"=pure none:=by rw[typeLookup_type,builtinLookup_eq_fast];kernel_rfl
theorem y7{z TI TO i1 i2 l1 l2:Addr}{b1 b2:Bool}{xs ys:Array Value}{n n0:Nat}{Q:Yk}(hh:A.handled=none)(D:ZAp z TI TO i1 i2 l1 l2)(hn:n=min xs.size ys.size)(hsz:n<=sizeLine)(hO:TO<n0)(hn0:n0<=s.heap.objs.size)
 (hz:IsZip s.heap z TI TO .none) (hTO:IsPair s.heap TO .none .none) (hI:IsPair s.heap TI (.ref i1) (.ref i2)) (t1:SIt s.heap b1 i1 l1 0) (t2:SIt s.heap b2 i2 l2 0) (q1:SSq s.heap b1 l1 xs) (q2:SSq s.heap b2 l2 ys)
 (h:∀h' tk acc c',(∀b o,b∉[z,TO,i1,i2]->s.heap.get? b=some o->h'.get? b=some o)->h'.get? s.heap.objs.size=some { cls:=.type "list",data:=.seq acc c' }->fN n0 h' xs ys [s.heap.objs.size,z,TI,TO,i1,i2] acc n->Q (.ref s.heap.objs.size) { s with heap:=h',toks:=tk }):
 wpAny (model prog w) A (call (.type "list") [.ref z]) Q E s:=by
 refine callType_codes (Q₁:=λob s1=>ob=.ref s.heap.objs.size/\s1={ s with heap:=s.heap.push { cls:=.type "list",data:=.seq #[] } }) F.called_list (F.typeCall_list_1 _) F.entry_list_init (code_list_new _ ⟨U,U⟩) λob s1 h1=>?_;obtain⟨rfl,rfl⟩:=h1;have hS:(s.heap.push { cls:=.type "list",data:=.seq #[] }).get? s.heap.objs.size=some { cls:=.type "list",data:=.seq #[] }:=qp _ U;refine⟨⟨_,hS,U⟩,F.args_list_init_2 _ _,?_⟩;show wpAny _ _ (do let old <- Builtin.List.listItems (.ref s.heap.objs.size);Builtin.List.listUpdate (.ref s.heap.objs.size) (λ_=>#[]);letGo old.toList.reverse;Builtin.List.listExtendWith (.ref s.heap.objs.size) (.ref z) .none) _ _ _;refine q5 ?_;unfold Builtin.List.listItems;refine q5 (Qv hS U (qd ?_));refine q5 ?_;show wpAny _ _ (updateSeq s.heap.objs.size (λ_=>#[])) _ _ _;refine wpAny_updateSeq hS U ?_;have hS2:=Qg (Obj.mapSeq (λ_=>(#[]:Array Value))) hS U;refine q5 (wpAny_letGo ?_)
 have oth:∀b o,b≠s.heap.objs.size->s.heap.get? b=some o->((s.heap.push { cls:=.type "list",data:=.seq #[] }).update s.heap.objs.size (Obj.mapSeq (λ_=>(#[]:Array Value)))).get? b=some o:=
  λb o hb e=>(Qs _ _ (Ne.symm hb)).trans (qa _ e)
 have nb:∀b o,s.heap.get? b=some o->b≠s.heap.objs.size:=λb o e=>qG (qq e);obtain⟨o1,e1,_⟩:=t1.obj;obtain⟨o2,e2,_⟩:=t2.obj;obtain⟨o3,e3,_⟩:=q1.obj;obtain⟨o4,e4,_⟩:=q2.obj;have hz2:=oth _ _ (nb _ _ hz) hz;have hO2:=oth _ _ (nb _ _ hTO) hTO;have hI2:=oth _ _ (nb _ _ hI) hI;have t12:=t1.keep λo e=>oth _ _ (nb _ _ e1) e;have t22:=t2.keep λo e=>oth _ _ (nb _ _ e2) e;have q12:=q1.keep λo e=>oth _ _ (nb _ _ e3) e;have q22:=q2.keep λo e=>oth _ _ (nb _ _ e4) e;have bigger:n0<=((s.heap.push { cls:=.type "list",data:=.seq #[] }).update s.heap.objs.size (Obj.mapSeq (λ_=>(#[]:Array Value)))).objs.size:=qy hn0 (Nat.le_of_lt (qq hS2));generalize (s.heap.push { cls:=.type "list",data:=.seq #[] }).update s.heap.objs.size (Obj.mapSeq (λ_=>(#[]:Array Value)))=g0 at hz2 hO2 hI2 t12 t22 q12 q22 hS2 oth bigger ⊢;have ty:Shared.TypeIs { s with heap:=g0 } (.ref z) "zip":=⟨_,hz2,U⟩;have nz:=nb _ _ hz;unfold Builtin.List.listExtendWith;refine q5 (wpAny_typeOf ty ?_);have h1:Builtin.List.listSameRef (.ref s.heap.objs.size) (.ref z)=false:=by simp[Builtin.List.listSameRef,Ne.symm nz]
 have h2:(Value.type "zip" == Value.type "list")=false:=Qz;have h3:(Value.type "zip" == Value.type "tuple")=false:=Qz;simp only[h1,h2,h3,Bool.or_false,Qj,if_false];refine q5 (wpAny_pyIter_zip hz2 ?_);refine q5 (Qu ?_);unfold Builtin.List.listLengthHint;refine q5 (wpAny_specialOf ty sq ?_);show wpAny _ _ (specialOf (Value.ref z) (Str.ofString "__length_hint__") >>= _) _ _ _;refine q5 (wpAny_specialOf ty ss ?_);refine qd ?_
 show wpAny _ _ (rule "list.extend.makes-room" >>= λ_=>Builtin.List.listTouch (.ref s.heap.objs.size) >>= λ_=>
  again (.builtin "list.extend.loop" ⟨[.ref s.heap.objs.size,.ref z,.none],[]⟩)) _ _ _
 refine q5 (wpAny_rule ?_);refine q5 ?_;show wpAny _ _ (updateSeq s.heap.objs.size (·.push .none) >>= λ_=>updateSeq s.heap.objs.size (·.pop)) _ _ _;refine q5 (wpAny_updateSeq hS2 U ?_);have hS3:=Qg (Obj.mapSeq (·.push Value.none)) hS2 U;refine wpAny_updateSeq (hz:=by seq_fits) hS3 U ?_;have hS4:=Qg (Obj.mapSeq (·.pop)) hS3 U
 have oth2:∀b o,b≠s.heap.objs.size->g0.get? b=some o->((g0.update s.heap.objs.size (Obj.mapSeq (·.push Value.none))).update s.heap.objs.size (Obj.mapSeq (·.pop))).get? b=some o:=
  λb o hb e=>(Qs _ _ (Ne.symm hb)).trans ((Qs _ _ (Ne.symm hb)).trans e)
 have big2:n0<=((g0.update s.heap.objs.size (Obj.mapSeq (·.push Value.none))).update s.heap.objs.size (Obj.mapSeq (·.pop))).objs.size:=qy hn0 (Nat.le_of_lt (qq hS4))
 have notin:s.heap.objs.size∉[z,TI,TO,i1,i2,l1,l2]:=by
  simp only[qu,qQ,or_false,not_or];exact⟨Ne.symm nz,Ne.symm (nb _ _ hI),Ne.symm (nb _ _ hTO),Ne.symm (nb _ _ e1),Ne.symm (nb _ _ e2),Ne.symm (nb _ _ e3),Ne.symm (nb _ _ e4)⟩
 refine qd ⟨plainId_quiet F.plain_extend_loop _,su (n0:=n0) (by simpa using hh) D notin hn hsz hO n 0 _ _ _ (Nat.sub_zero n) (qt _) (.first (oth2 _ _ nz hz2) (oth2 _ _ (nb _ _ hTO) hO2)) (λt f hf=>?_) (oth2 _ _ (nb _ _ hI) hI2) big2 (t12.keep λo e=>oth2 _ _ (nb _ _ e1) e) (t22.keep λo e=>oth2 _ _ (nb _ _ e2) e) (q12.keep λo e=>oth2 _ _ (nb _ _ e3) e) (q22.keep λo e=>oth2 _ _ (nb _ _ e4) e) hS4 ⟨U,λj v hj=>by simp[Array.pop]at hj,λi j t t' _ hi _=>by simp[Array.pop]at hi⟩ λh' tk acc c' kp hl hg=>⟨U,?_⟩⟩
 ·have:=(oth2 _ _ nz hz2).symm.trans hf;simp[rawInt]at this
 ·refine h h' tk acc c' (λb o hb e=>?_) hl hg;refine kp b o ?_ (oth2 _ _ (nb _ _ e) (oth _ _ (nb _ _ e) e));simp only[qu,qQ,or_false,not_or]at hb ⊢;exact⟨nb _ _ e,hb⟩
end
section
variable {X:Cx}{pins:List (Addr×Obj)}{σ:St}
theorem lY{H0:Hp}{s0 s:Shared}(I0:Inv X pins σ H0 s0):∀(ts:List Addr)(ps:List (V×V))(H:Hp),Inv X pins σ H s->ts.length=ps.length->ts.Pairwise (·<·)->(∀t∈ts,s0.heap.objs.size<=t/\H t=none)->
 (∀(j:Nat)(t:Addr)(p:V×V),ts[j]?=some t->ps[j]?=some p->∃u v,aB p.1 u/\aB p.2 v/\IsPair s.heap t u v)->
 ∃H',Inv X pins σ H' s/\a9 H H'/\(∀b,b∉ts->H' b=H b)/\∀(j:Nat)(t:Addr)(p:V×V),ts[j]?=some t->ps[j]?=some p->H' t=some (.tup [p.1,p.2])
 |[],_,H,I,_,_,_,_=>⟨H,I,a9.refl _,λ_ _=>rfl,λj t p h=>by simp at h⟩
 |t::ts,[],_,_,hl,_,_,_=>by simp at hl
 |t::ts,p::ps,H,I,hl,pw,fr,ob=>by
  obtain⟨u,v,ru,rv,pT⟩:=ob 0 t p U U;obtain⟨ht,hn⟩:=fr t qm;obtain⟨pw1,pw2⟩:=List.pairwise_cons.mp pw;have I2:Inv X pins σ (upd H t (.tup [p.1,p.2])) s:=I.track (I0.fpOk ht hn) (qy I0.sz ht) ⟨by show 2<=sizeLine;decide,[u,v],.cons ru (.cons rv .nil),⟨_,pT,U,_,U⟩⟩;obtain⟨H',I3,s3,o3,a3⟩:=lY I0 ts ps _ I2 (by simpa using hl) pw2 (λt' ht'=>⟨(fr t' (qk _ ht')).1,by rw[ah (Nat.ne_of_gt (pw1 t' ht'))];exact(fr t' (qk _ ht')).2⟩) λj t' p' h1 h2=>ob (j+1) t' p' (by simpa using h1) (by simpa using h2);refine⟨H',I3,(a9.new hn _).trans s3,λb hb=>?_,λj t' p' h1 h2=>?_⟩
  ·have nb:b≠t:=λz=>hb (by rw[z];exact qm);rw[o3 b λz=>hb (qk _ z),ah nb]
  ·cases j with
   |zero=>
    simp at h1 h2;subst h1;subst h2;exact s3 _ _ af
   |succ j=>exact a3 j t' p' (by simpa using h1) (by simpa using h2)
theorem o7:∀vs:List Value,(∀v∈vs,∃t,v=.ref t)->∃ts:List Addr,vs=ts.map Value.ref
 |[],_=>⟨[],U⟩
 |v::vs,h=>by
  obtain⟨t,rfl⟩:=h v qm;obtain⟨ts,e⟩:=o7 vs λv hv=>h v (qk _ hv);exact⟨t::ts,by rw[e];rfl⟩
def tF(K:W.Frag)(ta:TA):TE:=λσ H Q=>ta σ H λvs H1=>∃b1 b2 l1 l2 xs ys,vs=[.ref l1,.ref l2]/\SqB K H1 b1 l1 xs/\SqB K H1 b2 l2 ys /\
 ∀H' l (ts:List Addr),a9 H1 H'->H1 l=none->H' l=some (.lst (ts.map V.ref))->ts.length=min xs.length ys.length->(∀(j:Nat)(t:Addr)(x y:V),ts[j]?=some t->xs[j]?=some x->ys[j]?=some y->H' t=some (.tup [x,y])/\H1 t=none)->Q (.ref l) H'
theorem ii{a b:Expr}{ta:TA}{p1 p2 pos1 pos2:Pos}(hc:X.calm=true)(hg:Gl X "list")(hm:X.mg "list"=none)(hg2:Gl X "zip")(hm2:X.mg "zip"=none)(ha:PA X [a,b] ta)
 (hs:starEach [a,b] X.env=[(false,eval a X.env),(false,eval b X.env)]:=by rfl) (hs2:starEach [b] X.env=[(false,eval b X.env)]:=by rfl)
 (hs3:starEach [.Call (.Name "zip" p2) [a,b] [] pos2] X.env=[(false,eval (.Call (.Name "zip" p2) [a,b] [] pos2) X.env)]:=by rfl):
 PE X (.Call (.Name "list" p1) [.Call (.Name "zip" p2) [a,b] [] pos2] [] pos1) (tF X.K ta):=by
 intro pins s σ H Q I h;refine wpAny_Call_Name_kw (di I hg hm PyProof.Rows.Boot.«list» ?_);refine PyProof.Rows.callWith_type1 ?_ (by rw[hs3];rfl) U;rw[hs3];show wpAny _ _ (spliced ((false,eval (.Call (.Name "zip" p2) [a,b] [] pos2) X.env)::backTo pos1 [])) _ _ s;refine Calls.spliced_cons ?_;refine Call_ (di I hg2 hm2 PyProof.Rows.Boot.«zip» (PyProof.Rows.callWith_type1 (thn (ha pos2 pins s σ H _ I h) λus s1 ⟨vs,H1,I1,r1,q1⟩=>?_) (by rw[hs,hs2]) (by rw[hs2];rfl)));obtain⟨b1,b2,l1,l2,xs,ys,rfl,hx,hy,q⟩:=q1;obtain⟨u,u',rfl,ru,ru'⟩:=gO r1;cases ru;cases ru';obtain⟨its,rv,s1',z1⟩:=SqB.at I1 hx;obtain⟨jts,rw',s2',z2⟩:=SqB.at I1 hy;have dh:=rv.length;have len2:=rw'.length;refine rQ s1' s2' λg n hn a1 a2 a3 a4 a5 k=>?_
 have lt:∀c,c=l1\/c=l2->c<n:=λc hc=>by
  rw[hn];rcases hc with rfl|rfl
  ·obtain⟨o,e,_⟩:=s1'.obj;exact qq e
  ·obtain⟨o,e,_⟩:=s2'.obj;exact qq e
 have D:ZAp (n+4) (n+2) (n+3) n (n+1) l1 l2:=by
  refine⟨?_,λc hc=>?_⟩
  ·have e:∀i j:Nat,i≠j->n+i≠n+j:=λi j h z=>h (Nat.add_left_cancel z);exact⟨e 2 4 Qz,e 3 4 Qz,e 0 4 Qz,e 1 4 Qz,e 2 3 Qz,e 2 0 Qz,e 2 1 Qz,e 3 0 Qz,e 3 1 Qz,e 0 1 Qz⟩
  ·have q:=lt c hc;have e:∀i:Nat,c≠n+i:=λi=>qG (qD q (Nat.le_add_right _ _));exact⟨e 4,e 3,e 0,e 1,e 2⟩
 refine Calls.spliced_nil ?_;have gsz:n+5<=g.objs.size:=qq a1;refine y7 (n:=min xs.length ys.length) (n0:=n+5) (s:={ s1 with heap:=g }) (I1.ok.hd hc) D (by simp only[qC];omega) Yd (Nat.lt_add_of_pos_right Qz:n+3<n+3+2) gsz a1 a3 a2 a4 a5 (s1'.keep λo e=>k _ _ e) (s2'.keep λo e=>k _ _ e) λh' tk acc c' kp gl zg=>?_
 have keep:∀b o,s1.heap.get? b=some o->h'.get? b=some o:=λb o e=>by
  have lb:b<n:=by rw[hn];exact qq e
  refine kp b o ?_ (k b o e);simp only[qu,qQ,or_false,not_or];refine⟨?_,?_,?_,?_⟩<;>intro z<;>rw[z]at lb
  ·exact Q4 lb (Nat.not_lt.mpr (Nat.le_add_right _ _))
  ·exact Q4 lb (Nat.not_lt.mpr (Nat.le_add_right _ _))
  ·exact Q4 lb (Qb _)
  ·exact Q4 lb (Nat.not_lt.mpr (Nat.le_add_right _ _))
 have J:Inv X pins σ H1 { s1 with heap:=h',toks:=tk }:=I1.kept keep
 obtain⟨ts,ets⟩:=o7 acc.toList λv hv=>by
  obtain⟨j,hj,ej⟩:=List.mem_iff_getElem.mp hv;obtain⟨t,x,y,e,_⟩:=zg.at_ j v (by rw[<- qT,qc hj,ej]);exact⟨t,e⟩
 have tl:ts.length=min xs.length ys.length:=by
  have:=congrArg List.length ets;rw[q9,qM,zg.n]at this;exact this.symm
 have at_:∀(j:Nat)(t:Addr),ts[j]?=some t->acc[j]?=some (.ref t):=λj t h=>by
  rw[<- qT,ets,qE,h]
  rfl
 have info:∀(j:Nat)(t:Addr),ts[j]?=some t->∃u v,its[j]?=some u/\jts[j]?=some v/\IsPair h' t u v/\t∉[g.objs.size,n+4,n+2,n+3,n,n+1]/\n+5<=t:=λj t h=>by
  obtain⟨t',u,v,e,e1,e2,pp,na,nn⟩:=zg.at_ j _ (at_ j t h);cases e;exact⟨u,v,by simpa using e1,by simpa using e2,pp,na,nn⟩
 have mem:∀t∈ts,∃j:Nat,ts[j]?=some t:=λt ht=>by
  obtain⟨j,hj,ej⟩:=List.mem_iff_getElem.mp ht;exact⟨j,by rw[qc hj,ej]⟩
 have old:∀t∈ts,s1.heap.objs.size<=t:=λt ht=>by
  obtain⟨j,hj⟩:=mem t ht;obtain⟨_,_,_,_,_,_,nn⟩:=info j t hj;rw[<- hn];omega
 have pw:ts.Pairwise (·<·):=List.pairwise_iff_getElem.mpr λi j hi hj lt=>zg.inc i j _ _ lt (at_ i _ (qc hi)) (at_ j _ (qc hj));have zl:(xs.zip ys).length=min xs.length ys.length:=List.length_zip;have zat:∀(j:Nat)(x y:V),xs[j]?=some x->ys[j]?=some y->(xs.zip ys)[j]?=some (x,y):=λj x y h1 h2=>List.getElem?_zip_eq_some.mpr ⟨h1,h2⟩
 obtain⟨H',I3,s3,o3,a3⟩:=lY (s:={ s1 with heap:=h',toks:=tk }) I1 ts (xs.zip ys) H1 J (by rw[tl,zl]) pw (λt ht=>⟨old t ht,I1.hok.fresh (old t ht)⟩) λj t p h1 h2=>by
  obtain⟨h3,h4⟩:=List.getElem?_zip_eq_some.mp h2;obtain⟨u,v,e1,e2,pp,_⟩:=info j t h1;obtain⟨u',hu,ru⟩:=rv.get h3;obtain⟨v',hv,rv'⟩:=rw'.get h4;rw[e1]at hu;rw[e2]at hv;cases hu;cases hv;exact⟨u,v,ru,rv',pp⟩
 have lL:s1.heap.objs.size<=g.objs.size:=by rw[<- hn];omega
 have nL:g.objs.size∉ts:=λhm=>by
  obtain⟨j,hj⟩:=mem _ hm;obtain⟨_,_,_,_,_,na,_⟩:=info j _ hj;exact na (by simp)
 have fL:H1 g.objs.size=none:=I1.hok.fresh lL;have hL:H' g.objs.size=none:=by rw[o3 _ nL];exact fL
 have vr:∀ts:List Addr,ao (ts.map V.ref) (ts.map Value.ref):=λts=>by
  induction ts with
  |nil=>exact .nil
  |cons t ts ih=>exact .cons U ih
 have I4:Inv X pins σ (upd H' g.objs.size (.lst (ts.map V.ref))) { s1 with heap:=h',toks:=tk }:=I3.track (I1.fpOk lL hL) (qy I1.sz lL) ⟨by rw[q9,tl];omega,ts.map Value.ref,c',vr ts,by rw[<- ets];simpa using gl⟩;refine⟨.ref g.objs.size,_,I4,U,q _ g.objs.size ts (s3.trans (a9.new hL _)) fL af tl λj t x y h1 h2 h3=>⟨?_,I1.hok.fresh (old t (qz h1))⟩⟩;exact a9.new hL _ _ _ (a3 j t (x,y) h1 (zat j x y h2 h3))
end
theorem zh{K:W.Frag}{b1 b2:Bool}{l1 l2:Addr}{xs zs:List V}{g:TG}{te:TE}{Fin:List V->Hp->Prop}{σ:St}{H:Hp}(Pv:Nat->List V->St->Hp->Prop)(h0:Pv 0 [] σ H)(hz:∀i ys σ H,Pv i ys σ H->ys.length<=i)(hx:xs.length<=sizeLine)(hl:∀i ys σ H,Pv i ys σ H->SqB K H b1 l1 xs/\SqB K H b2 l2 zs)
 (hs:∀i x z ys σ H p,xs[i]?=some x->zs[i]?=some z->Pv i ys σ H->H p=none->g (.ref p) σ (upd H p (.tup [x,z])) λσ2 H2=>te σ2 H2 λy H4=>Pv (i+1) (ys++[y]) σ2 H4)
 (hd:∀ys σ H,Pv (min xs.length zs.length) ys σ H->Fin ys H):∃W:Nat->Nat->List V->St->Hp->Prop,(∃m,W 0 m [] σ H)/\d5 (Itz K b1 b2 l1 l2) g dH te Fin W:=
 zi Pv h0 hz hx hl (λi x z ys σ H p h1 h2 h3 h4=>by
  rw[fU (N':=λ_ _ _=>True)]
  exact hs i x z ys σ H p h1 h2 h3 h4) hd
section
variable {X:Cx}{pins:List (Addr×Obj)}{σ:St}{H:Hp}{s:Shared}{a:Addr}{kvs:List (Key×V)}{k:Key}{z:V}{u r:Value}{A:Around}{E:Yk}
theorem bW.not_got{o:Option V}(h:bW o none):o=none:=by
 cases o with
 |none=>rfl
 |some v=>exact h.elim
theorem bW.got{o:Option V}{u:Value}(h:bW o (some u)):∃v,o=some v/\aB v u:=by
 cases o with
 |none=>exact h.elim
 |some v=>exact⟨v,U,h⟩
theorem zc{Q:Yk}(I:Inv X pins σ H s)(e:H a=some (.dK kvs))(ry:aB (kV k) u)(rz:aB z r)(few:kvs.length<sizeLine)
 (h1:∀v w' s',cD kvs k=some v->Inv X pins σ H s'->aB v w'->Q w' s') (h2:∀s',cD kvs k=none->Inv X pins σ (upd H a (.dK (cO kvs k z))) s'->Q r s'):
 wpAny (model X.prog X.w) A (call (.builtin "dict.setdefault") [.ref a,u,r]) Q E s:=by
 obtain⟨zz,hd,vs,rel,dd⟩:=gJ I.hok e;have hz:vs.length<=sizeLine:=by rw[<- rel.length];exact zz
 have hl:(cO kvs k z).length<=sizeLine:=by have:=pB kvs k z;omega
 have rv:=rel.val k;refine call_meetsIn PySem.F.slot_dict_setdefault dd.typeIs PySem.F.entry_dict_setdefault (PySem.F.args_dict_setdefault_3 _ _ _) (kt_meets_setdefault (bU X.prog X.w) a (gG ry) hd r) ⟨vs,dd,hz,λv' hv'=>?_,λhn h' dd' hs=>?_⟩
 ·rw[hv']at rv;obtain⟨v,e1,e2⟩:=bW.got rv;exact h1 v v' _ e1 (I.tok _) e2
 ·rw[hn]at rv;have he:∃q,h'.get? a=some q:=let ⟨q,_,_,hq,_⟩:=dd';⟨q,hq⟩;exact h2 _ (bW.not_got rv) (iO I (by rw[e];exact True.intro) hs he (iN hl hd (rel.put k rz) dd'))
end
def tL(td ty tx:TE):TE:=λσ H Q=>td σ H λx H1=>∃a,x=.ref a/\IsD H1 a/\ty σ H1 λy H2=>tx σ H2 λz H3=>∃kvs k,H3 a=some (.dK kvs)/\y=kV k/\kvs.length<sizeLine /\
 (∀v,cD kvs k=some v->Q v H3)/\(cD kvs k=none->Q z (upd H3 a (.dK (cO kvs k z))))
section
variable {X:Cx}{o e f:Expr}{apos cpos:Pos}{td ty tx:TE}
theorem vY(ho:PE X o td)(he:PE X e ty)(hf:PE X f tx)(m:M2 X o "setdefault" apos e f cpos):PE X (.Call (.Attribute o "setdefault" apos) [e,f] [] cpos) (tL td ty tx):=by
 intro pins s σ H Q I h;refine wpAny_Call_method m.base m.few m.line PySem.F.plainAttrs_dict PySem.F.slot_dict_setdefault PySem.F.type_dict_setdefault (thn (ho pins s σ H _ I h) λu s1 ⟨x,H1,I1,rx,a,ex,d,q1⟩=>?_);subst ex;obtain rfl:u=Value.ref a:=rx;obtain⟨t1,t2,_⟩:=pL I1 d;refine⟨t1,t2,?_⟩;rw[m.trees]
 refine Calls.callWith_builtin U (Calls.evalArgs_plain (Calls.spliced_cons (thn (he pins s1 σ H1 _ I1 q1) λiv s2 ⟨y,H2,I2,ry,q2⟩=>
  Calls.spliced_cons (thn (hf pins s2 σ H2 _ I2 q2) λfv s3 ⟨z,H3,I3,rz,kvs,k,eH,ey,few,g1,g2⟩=>Calls.spliced_nil ?_))))
 subst ey;exact zc I3 eH ry rz few (λv w' s' ev I4 rw'=>⟨v,H3,I4,rw',g1 v ev⟩) λs' en I4=>⟨z,_,I4,rz,g2 en⟩
end
section
variable {prog:Program}{w:World}{A:Around}{E:Yk}{s:Shared}
end
section
variable {prog:Program}{w:World}{A:Around}{R:Result->Shared->Prop}{K:Type} [DecidableEq K] {knd:KeyKind prog w K}
end
section
variable {prog:Program}{w:World}{A:Around}{E:Yk}{K:Type} [DecidableEq K] {knd:KeyKind prog w K}{s:Shared}
end
section
variable {X:Cx}{pins:List (Addr×Obj)}{σ:St}{H:Hp}{s:Shared}
end
end L2
namespace Tr
open PySem PySem.Spec PyProof.Rows L2
end Tr
namespace L2
open PySem PySem.Spec PyProof.Rows
section
variable {X:Cx}
end
end L2
namespace Tr
open PySem PySem.Spec PyProof.Rows L2
end Tr
namespace L2
open PySem
section
variable {P:Program}{w:World}{A:Around}{E:Yk}{s:Shared}
end
end L2
namespace L2
open PySem PySem.Spec PyProof.Rows
section
variable {X:Cx}
end
section
variable {P:Program}{w:World}{A:Around}{E:Yk}{s:Shared}
end
section
variable {X:Cx}
theorem yA{P:Program}{w:World}{k:Key}{u:Value}(h:(bU P w).is k u=true):aB (kV k) u:=by
 have h:eW k u=true:=h;rcases dk h with⟨i,t,rfl,rfl⟩|⟨x,t,rfl,rfl⟩
 ·exact⟨t,U⟩
 ·exact⟨t,U⟩
end
theorem rL{K:W.Frag}{l:Addr}{xs:List V}{g:TG}{te:TE}{Fin:List V->Hp->Prop}{σ:St}{H:Hp}(Pv:Nat->List V->St->Hp->Prop)(h0:Pv 0 [] σ H)(hz:∀i ys σ H,Pv i ys σ H->ys.length<=i)(hx:xs.length<=sizeLine)(hl:∀i ys σ H,Pv i ys σ H->SqL K H l xs)
 (hs:∀i x ys σ H p,xs[i]?=some x->Pv i ys σ H->H p=none->g (.ref p) σ (upd H p (.tup [.int i,x])) λσ2 H2=>te σ2 H2 λy H4=>Pv (i+1) (ys++[y]) σ2 H4)
 (hd:∀ys σ H,Pv xs.length ys σ H->Fin ys H):∃W:Nat->Nat->List V->St->Hp->Prop,(∃m,W 0 m [] σ H)/\d5 (Ite K l) g dH te Fin W:=by
 refine⟨λi m ys σ H=>m=xs.length-i/\i<=xs.length/\Pv i ys σ H,⟨_,U,qt _,h0⟩,?_⟩;rintro i m ys σ H ⟨rfl,hi,p⟩;have hl':=hz i ys σ H p;have q:=hl i ys σ H p;by_cases hlt:i<xs.length
 ·refine .inr ⟨⟨xs,xs[i],q,by simp[hlt]⟩,Yd,Pv (i+1),λys' σ' H' p'=>⟨_,Yd,U,hlt,p'⟩,λv H' y=>?_⟩;obtain⟨a,x,hn,rfl,rfl,e1⟩:=y;rw[fU (N':=λ_ _ _=>True)];exact hs i x ys σ H a (e1 xs q) p hn
 ·obtain rfl:i=xs.length:=by omega
  exact .inl ⟨⟨xs,q,qe _⟩,Yd,hd ys σ H p⟩
section
variable {P:Program}{w:World}{K:W.Frag}{mg:Str->Option Value}{base:Heap}
end
end L2
namespace Tr
open PySem PySem.Spec PyProof.Rows L2
structure OnW(x:Int):Prop where
 lo:0<=x
 hi:x<1000000000000000000000000000000
def jU(sg:Str)(a b:Int):Int:=
 if sg="+" then a+b else if sg="-" then a-b else if sg="*" then a * b else if sg="&" then Builtin.bitAnd a b else if sg="|" then Builtin.bitOr a b else Builtin.bitXor a b
def fJ(sg:Str)(a b:Int):Int:=
 if sg="/" then(if b=0 then 0 else a / b)else if sg="<" then(if a<b then 1 else 0)else if sg="=" then(if a=b then 1 else 0)else jU sg a b % 1000000000000000000000000000000
theorem yV{sg:Str}{x y:Int}(hx:OnW x)(hy:OnW y):OnW (fJ sg x y):=by
 have x0:=hx.lo;have x1:=hx.hi;unfold fJ;split
 ·split
  ·exact⟨Qz,Qz⟩
  ·rename_i h;have y0:=hy.lo;have y1:0<y:=Yd;exact⟨Int.ediv_nonneg x0 y0,Int.lt_of_le_of_lt (Int.ediv_le_self y x0) x1⟩
 split
 ·split<;>exact⟨Qz,Qz⟩
 split
 ·split<;>exact⟨Qz,Qz⟩
 exact⟨Q9 _ Qz,Qe _ Qz⟩
end Tr
namespace L2
open PySem PySem.Spec PyProof.Rows
section
variable {X:Cx}
end
section
variable {X:Cx}
end
end L2
namespace L2
open PySem PySem.Spec PyProof.Rows PySem.W
section
variable {X:Cx}{k:Nat}{f C0:Addr}{fd:FuncData}{ps:List Str}{sp:Sp}{dvs:List V}{ds:List Value}{fx cx y m n:Str}{iy im inn:Nat}{p pos apos py cp pm pn pa hpos:Pos}{e:Expr}{es:List Expr}{t:TA}
end
section
variable {X:Cx}
end
end L2
namespace Tr
open PySem PySem.Spec PyProof.Rows L2
end Tr
namespace L2
open PySem PySem.Spec PyProof.Rows PySem.W
section
variable {P:Program}{w:World}{K:W.Frag}{mg:Str->Option Value}{base:Heap}
end
theorem vX{X:Cx}{K:W.Frag}{e:Expr}{f:Str}{ta:TE}{pos:Pos}(hk:X.K=K)(he:PE X e ta)(hb:attributeBase e f X.env (eval e X.env)=eval e X.env):PE X (.Attribute e f pos) (gR K ta f):=by
 subst hk;exact oG he hb
end L2
namespace L2
open PySem PySem.F PySem.Spec PyProof.Rows PySem.W
set_option maxRecDepth 100000
section
variable {prog:Program}{w:World}{A:Around}{E:Yk}{s:Shared}
end
section
variable {X:Cx}
end
section
variable {X:Cx}
end
section
variable {X:Cx}
end
section
variable {X:Cx}
end
section
variable {X:Cx}{pins:List (Addr×Obj)}{σ:St}{H:Hp}{s:Shared}
end
section
variable {X:Cx}{k:Nat}{f C:Addr}{fd:FuncData}{ps:List Str}{sp:Sp}{x:Str}{p pos cpos:Pos}{e:Expr}{es:List Expr}{t:TA}
end
section
variable {X:Cx}
end
section
variable {X:Cx}
end
section
variable {X:Cx}{e:Expr}{te:TE}{pos:Pos}
end
section
variable {X:Cx}{K:W.Frag}{o e:Expr}{es:List Expr}{to:TE}{t:TA}{name:Str}{apos cpos:Pos}{T id:String}{r:V->List V->Hp->VK->Prop}
end
section
variable {X:Cx}
end
section
variable {prog:Program}{w:World}{A:Around}{E:Yk}{s:Shared}{κ:KeyKind}
section
variable {left:Bool}{key:Keyed}{arr:Array Keyed}{base n hint:Nat}{st:SortSt}{Q:Option Nat->SortSt->Prop}
end
end
section
variable {prog:Program}{w:World}{A:Around}{E:Yk}{s:Shared}{κ:KeyKind}
section
variable {r:Keyed->Keyed->Prop}{T o X Y Z:List Keyed}
end
section
variable {a b out:Array Keyed}{ia ib n:Nat}
end
end
section
variable {prog:Program}{w:World}{A:Around}{E:Yk}{s:Shared}{κ:KeyKind}
section
variable {a b out:Array Keyed}{ia ib n:Nat}
end
end
section
variable {prog:Program}{w:World}{A:Around}{E:Yk}{s:Shared}{κ:KeyKind}
section
variable {a b out:Array Keyed}{na nb n:Nat}
end
end
section
variable {prog:Program}{w:World}{A:Around}{E:Yk}{s:Shared}{κ:KeyKind}
section
variable {arr:Array Keyed}{P X Y R:List Keyed}
end
end
section
variable {prog:Program}{w:World}{A:Around}{E:Yk}{s:Shared}{κ:KeyKind}
section
variable {st0 st:SortSt}{lo:Nat}
end
end
section
variable {prog:Program}{w:World}{A:Around}{E:Yk}{s:Shared}{κ:KeyKind}
section
variable {a₀:Array Keyed}{st:SortSt}{Xs:List (List Keyed)}{R:List Keyed}
end
section
variable {a₀:Array Keyed}{st:SortSt}{Xs:List (List Keyed)}{R:List Keyed}{lo n:Nat}
end
end
section
variable {prog:Program}{w:World}{A:Around}{E:Yk}{s:Shared}
end
section
variable {P:Program}{w:World}{A:Around}{E:Yk}{s:Shared}
end
section
variable {X:Cx}
end
section
variable {P:Program}{w:World}{A:Around}{E:Yk}{s:Shared}
end
section
variable {P:Program}{w:World}{A:Around}{E:Yk}{s:Shared}
end
section
variable {X:Cx}
end
section
variable {P:Program}{w:World}{A:Around}{E:Yk}{s:Shared}
end
section
variable {X:Cx}
end
end L2
namespace Tr
open PySem PySem.Spec PyProof.Rows L2
section
variable {Hb H0 H0' H H' H1:Hp}{own:List Addr}{z:List Fz}
end
section
variable {Hb H0 H0' H H' H1:Hp}{s0 s1 s2:Addr}{z:List Fz}
end
end Tr
namespace L2
open PySem PySem.Spec PyProof.Rows PySem.W
section
variable {X:Cx}{k:Nat}{f C0:Addr}{fd:FuncData}{ps:List Str}{sp:Sp}{dvs:List V}{ds:List Value}{fx cx y m n:Str}{iy im inn:Nat}{p pos apos py cp pm pn pl pa hpos tpos:Pos}{e:Expr}{es:List Expr}{t:TA}
end
end L2
namespace Tr
open PySem PySem.Spec PyProof.Rows L2
end Tr
namespace L2
open PySem PySem.Spec PyProof.Rows
theorem pM:∀{ys:List Int}{its:List Value},ao (ys.map V.int) its->IntsAre its ys
 |[],[],_=>.nil
 |y::ys,_::_,.cons h r=>by
  obtain⟨t,rfl⟩:=h;exact .cons y t (pM r)
section
variable {X:Cx}
theorem rR(hc:X.calm=true):bZ X (.builtin "sorted") (λxs H Q=>∃(p:Addr)(ys:List Int),xs=[.ref p]/\SqL X.K H p (ys.map V.int)/\ys.length<64 /\
 ∀l zs,H l=none->zs.Perm ys->List.Pairwise (λx1 x2=>x1<=x2) zs->Q (.ref l) (upd H l (.lst (zs.map V.int)))):=by
 intro pins s σ H xs us Q I r h;obtain⟨p,ys,rfl,hq,hz,q⟩:=h;obtain⟨u,rfl,rx⟩:=eD r;cases rx;obtain⟨its,r',pl,_⟩:=I.list hq;have hlen:=r'.length;rw[q9]at hlen;refine sorted_ints (vs:=its) pl.isList (pM r') Yd λout zs hS hp so=>?_;obtain⟨n,at1⟩:=sortedAll_at s.heap its out;have lz:zs.length<=sizeLine:=by rw[hp.length_eq];exact qy (Nat.le_of_lt hz) Qz
 have J:=I.laid (t':=s.toks) (h':=sortedAll s.heap its out) (a:=s.heap.objs.size+1) (o:=.lst (zs.map V.int)) (λb o q=>sortedAll_old q) (Nat.le_succ _) ⟨by rw[q9];exact lz,out.toList,n,iZ hS,at1⟩;exact⟨.ref (s.heap.objs.size+1),_,J,U,q _ zs (I.hok.fresh (Nat.le_succ _)) hp so⟩
end
section
variable {P:Program}{w:World}{A:Around}{E:Yk}{s:Shared}
end
section
variable {X:Cx}
end
section
variable {P:Program}{w:World}{A:Around}{E:Yk}{s:Shared}
end
section
variable {X:Cx}
end
section
variable {X:Cx}
end
end L2
namespace Tr
open PySem PySem.Spec PyProof.Rows L2
section
variable {Hb H0 H0' H H' H1:Hp}{s0 s1 s2:Addr}{z:List Fz}{os:List V}
end
end Tr
namespace L2
open PySem PySem.Spec PyProof.Rows
@[reducible] def intKey:KeyKind where
  α:=Int
  blt a b:=decide (a<b)
  irrefl a:=by simp
  trans a b c h1 h2:=by simp only[decide_eq_true_eq]at *;omega
  negTrans a b c h:=by simp only[decide_eq_true_eq]at *;omega
  total a b h1 h2:=by simp only[decide_eq_false_iff_not]at *;omega
  keyOf v:=match v with|.int n _=>some n|_=>none
  dflt:=0
section
variable {prog:Program}{w:World}{A:Around}{E:Yk}{s:Shared}
end
section
variable {X:Cx}
end
end L2
namespace Tr
open PySem PySem.Spec PyProof.Rows L2
end Tr
namespace L2
open PySem PySem.Spec PyProof.Rows
section
variable {P:Program}{w:World}{A:Around}{E:Yk}{s:Shared}{κ:Type} [DecidableEq κ] {knd:PySem.KeyKind P w κ}
end
section
variable {X:Cx}
end
end L2
namespace Tr
open PySem PySem.Spec PyProof.Rows L2
end Tr
namespace L2
open PySem PySem.Spec PyProof.Rows
section
variable {n m:Nat}{p:Array Nat}
end
section
variable {prog:Program}{w:World}{A:Around}{E:Yk}{s:Shared}
end
section
variable {X:Cx}
end
theorem zj{K:W.Frag}{a:Addr}{xs:List V}{g:TG}{te:TE}{Fin:List V->Hp->Prop}{σ:St}{H:Hp}(Pv:Nat->List V->St->Hp->Prop)(h0:Pv 0 [] σ H)(hz:∀i ys σ H,i<=xs.length->Pv i ys σ H->ys.length<=i)(hx:xs.length<=sizeLine)(hl:∀i ys σ H,Pv i ys σ H->SqT K H a xs)
 (hs:∀i x ys σ H,xs[i]?=some x->Pv i ys σ H->g x σ H λσ2 H2=>te σ2 H2 λy H4=>Pv (i+1) (ys++[y]) σ2 H4)
 (hd:∀ys σ H,Pv xs.length ys σ H->Fin ys H):∃W:Nat->Nat->List V->St->Hp->Prop,(∃m,W 0 m [] σ H)/\d5 (Itt K a) g dH te Fin W:=
 zk Pv h0 hz hx hl (λi x ys σ H hx p=>by
  rw[fU (N':=λ_ _ _=>True)]
  exact hs i x ys σ H hx p) hd
end L2
namespace Tr
open PySem PySem.Spec PyProof.Rows L2
end Tr
namespace L2
open PySem
section
variable {P:Program}{w:World}{A:Around}{E:Yk}{s:Shared}
set_option maxHeartbeats 3200000 in
end
open PySem.Spec PyProof.Rows
section
variable {X:Cx}
end
end L2
namespace Tr
open PySem PySem.Spec PyProof.Rows L2
end Tr
namespace L2
open PySem PySem.Spec PyProof.Rows
end L2
namespace Tr
open PySem PySem.Spec PyProof.Rows L2 PySem.NumText
end Tr
namespace HT
open PySem PyProof.Rows
section
variable {prog:Program}{w:World}{A:Around}{E:Yk}{s:Shared}
end
end HT
namespace L2
open PySem PySem.Spec PyProof.Rows
section
variable {X:Cx}
end
end L2
namespace Tr
open PySem PySem.Spec PyProof.Rows L2
end Tr
namespace L2
open PySem PySem.Spec PyProof.Rows
section
variable {prog:Program}{w:World}{A:Around}{E:Yk}{s:Shared}
end
section
variable {X:Cx}{pins:List (Addr×Obj)}{σ:St}{H:Hp}{s:Shared}{a:Addr}{A:Around}{E:Yk}
end
section
variable {X:Cx}{o e f i value:Expr}{apos cpos pos pos':Pos}{td ty tx tv:TE}
end
section
variable {X:Cx}
theorem vp{K:W.Frag}(e:X.K=K):bZ X (.builtin "len") (k9 K):=by
 subst e;exact c5
end
end L2
namespace L2
open PySem PySem.Spec PyProof.Rows PySem.W
section
variable {X:Cx}{pins:List (Addr×Obj)}{σ:St}{H:Hp}{s:Shared}{tg:Expr}
theorem KV.nth:∀{kvs:List (Key×V)}{vs:List (Key×Value)},KV kvs vs->∀{i:Nat}{k:Key}{x:Value},vs[i]?=some (k,x)->∃q,kvs[i]?=some q/\q.1=k
 |_,_,.nil,i,k,x,h=>by simp at h
 |_,_,.cons r _,0,k,x,h=>by cases h;exact⟨_,U,r.1⟩
 |_,_,.cons _ t,i+1,k,x,h=>KV.nth (i:=i) t (by simpa using h)
end
section
variable {X:Cx}{pins:List (Addr×Obj)}{σ:St}{H:Hp}{s:Shared}{scope:Scope}{x0:Str}{Nc:List Str}{js:List Nat}{k:Nat}
end
section
variable {X:Cx}{pins:List (Addr×Obj)}{σ:St}{H:Hp}{s:Shared}{scope:Scope}{x0:Str}{Nc:List Str}{js:List Nat}{k:Nat}{tg iter elt:Expr}{ifs:List Expr}{pos:Pos}{g:TG}{tt:TT}{te:TE}
end
theorem rX(f:Nat->Int):∀k,argBest (λi j=>decide (f i<f j)) k<=k/\∀i,i<=k->f (argBest (λi j=>decide (f i<f j)) k)<=f i
 |0=>⟨qe _,λi h=>by rw[Nat.le_zero.mp h];exact Int.le_refl _⟩
 |k+1=>by
  obtain⟨a,b⟩:=rX f k;unfold argBest;by_cases c:f (k+1)<f (argBest (λi j=>decide (f i<f j)) k)
  ·rw[Q0 (Q1 c)];refine⟨qe _,λi hi=>?_⟩;by_cases e:i=k+1
   ·rw[e];exact Int.le_refl _
   ·have:=b i Yd;omega
  ·rw[qZ (by rw[Q3 c];exact qi)];refine⟨Yd,λi hi=>?_⟩;by_cases e:i=k+1
   ·rw[e];omega
   ·exact b i Yd
section
variable {X:Cx}
theorem zu(hc:X.calm=true):bZ X (.builtin "min") (λxs H Q=>∃(p:Addr)(kvs:List (Key×V))(ks:List Int),xs=[.ref p]/\H p=some (.dK kvs)/\kvs.map (·.1)=ks.map Sum.inl/\ks≠[]/\∀m,m∈ks->(∀k∈ks,m<=k)->Q (.int m) H):=by
 intro pins s σ H xs us Q I r h;obtain⟨p,kvs,ks,rfl,hq,ek,hne,q⟩:=h;obtain⟨u,rfl,rx⟩:=eD r;cases rx;obtain⟨z,hd,vs,rel,dd⟩:=gJ I.hok hq;obtain⟨ep,da⟩:=dd.dictAt;have kl:=rel.length;have el:kvs.length=ks.length:=by have:=congrArg List.length ek;rwa [q9,q9]at this
 have n0:0<ks.length:=List.length_pos_iff.mpr hne;have ho:∃o,s.heap.get? p=some o:=let ⟨o,_,e,_⟩:=da;⟨o,e⟩;obtain⟨o,ho⟩:=ho;have hlt:=qq ho;have W:=(Walks.dictKeys (prog:=X.prog) (w:=X.w) (knd:=bU X.prog X.w) (A:=X.A.in1) (I.ok.hd hc) s.heap.objs.size p (qG hlt) vs ep).toS
 have key:∀i v,(∃k x,vs[i]?=some (k,x)/\(bU X.prog X.w).is k v=true)->∃t,v=.int (ks.getD i 0) t:=λi v ⟨k,x,hx,hk⟩=>by
  obtain⟨y,hy,e⟩:=KV.nth rel hx;have e2:(kvs.map (·.1))[i]?=some k:=by rw[qE,hy];exact congrArg some e
  rw[ek,qE]at e2;obtain⟨j,hj,rfl⟩:=qP.mp e2;have:=yA hk;rw[qj,hj];exact this
 refine call_min_walkS (wpAny_pyIter_dict hd da ⟨s.heap.objs.size,_,_,_,_,_,_,_,U,W,⟨⟨_,qp _ U,U,U⟩,da.push _⟩,?_,Yd,CmpOf.ints_lt (λi=>ks.getD i 0) key,λv s' hP hm=>?_⟩)
 ·intro b hb;rw[Qf];simp only[qu,qQ,or_false]at hb;rcases hb with rfl|rfl
  ·exact Qa _
  ·exact Nat.lt_succ_of_lt hlt
 ·obtain⟨t,rfl⟩:=key _ v hP;obtain⟨b1,b2⟩:=rX (λi=>ks.getD i 0) (vs.length-1);obtain⟨h',g',d',t',os'⟩:=s';have eg:g'=s.gens:=hm.gens;have ed:d'=s.drawn:=hm.drawn;have eo:os'=s.os:=hm.os;subst eg ed eo;have bl:argBest (λi j=>decide (ks.getD i 0<ks.getD j 0)) (vs.length-1)<ks.length:=Yd;refine⟨.int (ks.getD (argBest (λi j=>decide (ks.getD i 0<ks.getD j 0)) (vs.length-1)) 0),H,?_,⟨t,U⟩,q _ ?_ λk hk=>?_⟩
  ·refine I.kept (t':=t') (h':=h') λb o e=>hm.heap b o (λz=>?_) (qa _ e);rw[qS]at z;rw[z]at e;exact Q4 (qq e) (Qb _)
  ·rw[qj,qc bl];exact List.getElem_mem bl
  ·obtain⟨i,hi⟩:=List.mem_iff_getElem?.mp hk;have il:=(qf.mp hi).1;have:=b2 i Yd;rw[qj (l:=ks) (i:=i),hi]at this;exact this
def tG(te:TE):TE:=λσ H Q=>te σ H λx H1=>∃n:Nat,x=.int n/\n<=100000/\∀l,H1 l=none->Q (.ref l) (upd H1 l (.lst ((List.range n).map λj:Nat=>V.int j)))
theorem sQ{acc:List Value}{n:Nat}(hl:acc.length=n)(h:∀(i:Nat)(v:Value),acc[i]?=some v->∃t,v=.int (i:Int) t):ao ((List.range n).map λj:Nat=>V.int j) acc:=by
 have go:∀(k m:Nat)(acc:List Value),acc.length=m->(∀(i:Nat)(v:Value),acc[i]?=some v->∃t,v=.int ((k+i:Nat):Int) t)->ao ((List.range' k m).map λj:Nat=>V.int j) acc:=by
  intro k m
  induction m generalizing k with
  |zero=>
   intro acc hl _;cases List.length_eq_zero_iff.mp hl;exact .nil
  |succ m ih=>
   intro acc hl h
   cases acc with
   |nil=>cases hl
   |cons u r=>
    rw[List.range'_succ,qR];refine .cons ?_ (ih (k+1) r (by simpa using hl) λi v hv=>?_)
    ·obtain⟨t,rfl⟩:=h 0 u U;exact⟨t,U⟩
    ·obtain⟨t,rfl⟩:=h (i+1) v (by simpa using hv);exact⟨t,by rw[show k+(i+1)=k+1+i by omega]⟩
 rw[List.range_eq_range'];exact go 0 n acc hl λi v hv=>by rw[Nat.zero_add];exact h i v hv
theorem vV{e:Expr}{te:TE}{p1 p2 pos1 pos2:Pos}(hc:X.calm=true)(hg:Gl X "list")(hm:X.mg "list"=none)(hg2:Gl X "range")(hm2:X.mg "range"=none)(he:PE X e te)
 (hs:starEach [e] X.env=[(false,eval e X.env)]:=by rfl) (hs2:starEach [.Call (.Name "range" p2) [e] [] pos2] X.env=[(false,eval (.Call (.Name "range" p2) [e] [] pos2) X.env)]:=by rfl):
 PE X (.Call (.Name "list" p1) [.Call (.Name "range" p2) [e] [] pos2] [] pos1) (tG te):=by
 intro pins s σ H Q I h;refine wpAny_Call_Name_kw (di I hg hm PyProof.Rows.Boot.«list» ?_);refine PyProof.Rows.callWith_type1 ?_ (by rw[hs2];rfl) U;rw[hs2];show wpAny _ _ (spliced ((false,eval (.Call (.Name "range" p2) [e] [] pos2) X.env)::backTo pos1 [])) _ _ s;refine Calls.spliced_cons ?_;refine wpAny_Call_Name_kw (di I hg2 hm2 boot_range ?_);refine PyProof.Rows.callWith_type1 ?_ (by rw[hs];rfl) U;rw[hs];show wpAny _ _ (spliced ((false,eval e X.env)::backTo pos2 [])) _ _ s;refine Calls.spliced_cons (thn (he pins s σ H _ I h) λu s1 ⟨x,H1,I1,r1,q1⟩=>?_);refine Calls.spliced_nil ?_;obtain⟨n,rfl,hn,q⟩:=q1;obtain⟨t,rfl⟩:=r1;refine call_range_1 ?_;refine Calls.spliced_nil ?_;refine call_list_range (n:=n) (I1.ok.hd hc) (IsRange.new ..) (small_one Yd Yd Yd Yd) (by rw[rangeSize_one];split<;>omega) Yd λh' tk acc c' kp gl hI=>?_;have kp1:∀b o,s1.heap.get? b=some o->h'.get? b=some o:=λb o e=>kp b o (qa _ e)
 have hv:ao ((List.range n).map λj:Nat=>V.int j) acc.toList:=sQ (by rw[qM];exact hI.1) λi v hv=>by
  obtain⟨t,e⟩:=hI.2 i v (by simpa using hv);exact⟨t,by rw[e];congr 1;omega⟩
 have sz:(s1.heap.push { cls:=.type "range",data:=.fields #[.int 0 s1.toks,.int n t,.int 1 (s1.toks+1)] }).objs.size=s1.heap.objs.size+1:=Qf ..;have big:(100000:Nat)<=sizeLine:=Qz;have J:=I1.laid (t':=tk) (h':=h') (a:=(s1.heap.push { cls:=.type "range",data:=.fields #[.int 0 s1.toks,.int n t,.int 1 (s1.toks+1)] }).objs.size) (o:=.lst ((List.range n).map λj:Nat=>V.int j)) kp1 (by rw[sz];exact Nat.le_succ _) ⟨by rw[q9,Qd];omega,acc.toList,c',hv,by simpa using gl⟩;exact⟨.ref (s1.heap.push { cls:=.type "range",data:=.fields #[.int 0 s1.toks,.int n t,.int 1 (s1.toks+1)] }).objs.size,_,J,U,q _ (I1.hok.fresh (by rw[sz];exact Nat.le_succ _))⟩
end
structure f9(K:W.Frag)(x qual:Str)(st:Stmt)(f:Addr)(fd:FuncData)(dvs:Array Value):Prop where
 ex:∃(oc:Value)(od:Option Addr)(kV doc pm:Value)(an:Option Addr)(cdv ct:Value)(osl:Array (Option Value))(dt:Addr)(d2:Option Addr)(n:Nat)(e2:Array (Option Value)),
  fd=PySem.W.fnOf x qual (cz st) (cm st) (aj st) (.ref dt) kV doc pm an cdv ct/\K.lookup f=some ⟨oc,od,.func fd,osl⟩/\PySem.W.codeIn K cdv qual=true/\K.lookup dt=some ⟨.type "tuple",d2,.seq dvs n,e2⟩
 kp:PySem.W.keepIn K (.ref f)=true
section
variable {P:Program}{w:World}{K:W.Frag}{mg:Str->Option Value}{base:Heap}
theorem f9.ok{x qual:Str}{st:Stmt}{f:Addr}{fd:FuncData}{dvs:Array Value}{N ps:List Str}{k:Nat}{sp:Sp}(F:f9 K x qual st f fd dvs)(S:aH N ps (aj st))(len:∀vs H Q E,sp vs H Q E->vs.length=ps.length)
 (hbody:∀(cdv:Value)(A:Around)(outer:List Env)(s:Shared)(H:Hp)(vs:List V)(Q:VK)(E:XK),bw k (A.deeper (envOfC qual (aj st) s.heap.objs.size f cdv))->sp vs H Q E->
  ∃t,PSs (dD CX0 P w K mg base N qual (aj st) f cdv A outer s H E).nox (cm st) t/\t { nx:=λ_ H'=>Q .non H',rt:=Q } (start N vs) H):aC P w K mg base CX0 (k+1) f fd ps sp:=by
 obtain⟨oc,od,kV,doc,pm,an,cdv,ct,osl,dt,d2,n,e2,rfl,lk,hcd,lt⟩:=F.ex;refine rC lk hcd S len λA outer s H vs Q E hr hsp=>?_;obtain⟨t,h,q⟩:=hbody cdv A outer s H vs Q E hr hsp;exact⟨t,h.nox,q⟩
theorem f9.binds{x qual:Str}{st:Stmt}{f:Addr}{fd:FuncData}{dvs:Array Value}{ps:List Str}(F:f9 K x qual st f fd dvs)(ds:List Value)
 (h:∀(kV doc pm:Value)(an:Option Addr)(cdv ct:Value)(dt:Addr)(o:Obj)(n:Nat)(s:Shared)(us:List Value),s.heap.get? dt=some o->o.data=.seq dvs n->(us++ds).length=ps.length->
  BindsTo s (PySem.W.fnOf x qual (cz st) (cm st) (aj st) (.ref dt) kV doc pm an cdv ct) ⟨us,[]⟩ (ps.zip (us++ds))):aD K fd ps ds:=by
 obtain⟨oc,od,kV,doc,pm,an,cdv,ct,osl,dt,d2,n,e2,rfl,lk,hcd,lt⟩:=F.ex;exact λs us X hl=>h kV doc pm an cdv ct dt _ n s us (X _ _ lt) U hl
theorem yQ{x qual:Str}{st:Stmt}{f dt:Addr}{oc:Value}{od an d2:Option Addr}{osl e2:Array (Option Value)}{n:Nat}{kV doc pm cdv ct:Value}{dvs i2:Array Value}(l:K.lookup f=some ⟨oc,od,.func (PySem.W.fnOf x qual (cz st) (cm st) (aj st) (.ref dt) kV doc pm an cdv ct),osl⟩)
 (c:PySem.W.codeIn K cdv qual=true) (k:PySem.W.keepIn K (.ref f)=true) (t:K.lookup dt=some ⟨.type "tuple",d2,.seq i2 n,e2⟩) (hi:i2=dvs):f9 K x qual st f (PySem.W.fnOf x qual (cz st) (cm st) (aj st) (.ref dt) kV doc pm an cdv ct) dvs:=by
 subst hi;exact⟨⟨oc,od,kV,doc,pm,an,cdv,ct,osl,dt,d2,n,e2,U,l,c,t⟩,k⟩
end
def dS(xs:List V)(lo hi st:Option Int):List V:=(sliceRange (sliceBounds lo hi st xs.length).1 (sliceBounds lo hi st xs.length).2.1 (sliceBounds lo hi st xs.length).2.2).filterMap λi=>xs[i]?
theorem ao.pick{xs:List V}{us:List Value}(r:ao xs us):∀(is:List Nat),ao (is.filterMap λi=>xs[i]?) (is.filterMap λi=>us[i]?)
 |[]=>.nil
 |i::is=>by
  cases h:xs[i]? with
  |none=>
   have h2:us[i]?=none:=by
    rw[List.getElem?_eq_none_iff]at h ⊢;rw[<- r.length];exact h
   rw[List.filterMap_cons_none h,List.filterMap_cons_none h2];exact ao.pick r is
  |some x=>
   obtain⟨u,hu,rx⟩:=r.get h;rw[List.filterMap_cons_some h,List.filterMap_cons_some hu];exact .cons rx (ao.pick r is)
theorem vO{xs:List V}{lo hi st:Option Int}:(dS xs lo hi st).length<=(sliceRange (sliceBounds lo hi st xs.length).1 (sliceBounds lo hi st xs.length).2.1 (sliceBounds lo hi st xs.length).2.2).length:=List.length_filterMap_le _ _
def t6(K:W.Frag)(te:TE)(tl th ts:TO):TE:=λσ H Q=>te σ H λx H1=>tl σ H1 λl H2=>th σ H2 λu H3=>ts σ H3 λz H4=>∃a xs,x=.ref a/\SqL K H4 a xs/\z≠some 0/\(dS xs l u z).length<=sizeLine/\∀p,H4 p=none->Q (.ref p) (upd H4 p (.lst (dS xs l u z)))
section
variable {X:Cx}
theorem kz{e st:Expr}{lo hi:Option Expr}{te:TE}{tl th ts:TO}{pos p2:Pos}(he:PE X e te)(hl:PO X lo tl)(hu:PO X hi th)(hs:PO X (some st) ts):PE X (.Subscript e (.Slice lo hi (some st) p2) pos) (t6 X.K te tl th ts):=by
 intro pins s σ H Q I h;refine Subscript_ (thn (he pins s σ H _ I h) λv s1 ⟨x,H1,I1,r1,q1⟩=>?_);refine wpAny_Slice (thn (hl pins s1 σ H1 _ I1 q1) λvl s2 ⟨l,H2,I2,pl,q2⟩=>thn (hu pins s2 σ H2 _ I2 q2) λvu s3 ⟨u,H3,I3,pu,q3⟩=>thn (hs pins s3 σ H3 _ I3 q3) λvz s4 ⟨z,H4,I4,pz,q4⟩=>?_);obtain⟨a,xs,rfl,hx,nz,hlen,q⟩:=q4;cases r1;have I5:Inv X pins σ H4 { s4 with heap:=s4.heap.push { cls:=.type "slice",data:=.fields #[vl,vu,vz] } }:=I4.kept (t':=s4.toks) λb ob q=>qa _ q;obtain⟨its,r,ht,hz⟩:=I5.list hx;have el:its.toArray.size=xs.length:=by rw[qC];exact r.length.symm
 have hg:wpAny (model X.prog X.w) X.A (getItem (.ref a) (.ref s4.heap.objs.size)) (EP X pins σ Q) X.xe { s4 with heap:=s4.heap.push { cls:=.type "slice",data:=.fields #[vl,vu,vz] } }:=by
  refine wpAny_getItem_list_slice ht.isList (Heap.IsSliceOf.new ..) pl pu pz nz ?_ (by rw[el];exact hz);refine⟨.ref (s4.heap.push { cls:=.type "slice",data:=.fields #[vl,vu,vz] }).objs.size,_,I5.laid (t':=s4.toks) (o:=.lst (dS xs l u z)) (λb ob q=>qa _ q) (qe _) ?_,U,q _ (I5.hok.fresh (qe _))⟩;refine⟨hlen,(sliceRange (sliceBounds l u z xs.length).1 (sliceBounds l u z xs.length).2.1 (sliceBounds l u z xs.length).2.2).filterMap (λi=>its[i]?),0,r.pick _,?_⟩
  have e:slicePick its.toArray l u z=((sliceRange (sliceBounds l u z xs.length).1 (sliceBounds l u z xs.length).2.1 (sliceBounds l u z xs.length).2.2).filterMap (λi=>its[i]?)).toArray:=by
   unfold slicePick;rw[el];simp
  rw[e];exact qp _ U
 exact tail_any (ops:=[.ref a,.ref s4.heap.objs.size]) ht.isList.typeIs slot_list_getitem.lookup hg (by with_unfolding_all rfl)
end
theorem kq{xs:List V}{lo hi:Int}(h:hi=lo+48)(h0:0<=lo):(dS xs (some lo) (some hi) (some 3)).length<=16:=by
 refine qy vO ?_;unfold sliceRange sliceBounds;simp only[Option.getD_some,q9,Qd];rw[qZ (by omega:¬ lo<0),qZ (by omega:¬ hi<0)];simp only[show(3:Int) > 0 from by decide,if_true];split<;>omega
open PySem.SeqAt
open PySem.AutoSeq1 (wpAny_loadPart')
open PySem.MeetsSeq PySem.MeetsSeq2 PySem.MeetsSeq3
section
variable {prog:Program}{w:World}{A:Around}
variable {R:Result->Shared->Prop}{I:Addr}{fp wr:List Addr}{n:Nat}{P:Nat->Value->Prop}{St:Nat->Heap->Prop}
end
section
variable {X:Cx}
end
end L2
set_option Elab.async false
set_option maxRecDepth 100000
set_option maxHeartbeats 4000000
namespace K47
open PySem L2 Tr
seal PE PT PW PA PS PSs PG PGs PI PTs PO OpR UnR bZ TruR IxR SlR
local macro_rules|`(tactic| walk_at "rds")=>`(tactic| first|assumption|decide|omega)
local macro_rules|`(tactic| walk_at "rd")=>`(tactic| repeat (first|refine⟨_,rfl,?_⟩|refine⟨_,_,rfl,rfl,?_⟩|refine⟨rfl,_,rfl,?_⟩|refine⟨_,_,rfl,rfl,by walk_at "rds",?_⟩|refine And.intro (by walk_at "rds") ?_))
local macro_rules|`(tactic| walk_at "yes")=>`(tactic| refine bS (by decide +kernel) ?_)
local macro_rules|`(tactic| walk_at "no")=>`(tactic| refine bj (by decide +kernel) ?_)
abbrev jE:Stmt:=inClass (top 1) 0
abbrev jA:Stmt:=inClass (top 1) 1
abbrev jD:Stmt:=inClass (top 1) 2
abbrev jC:Stmt:=inClass (top 1) 3
abbrev jz:Stmt:=inClass (top 1) 4
abbrev jB:Stmt:=inClass (top 1) 5
abbrev jh:Stmt:=top 4
abbrev jd:Stmt:=top 5
abbrev gj:Stmt:=inClass (top 7) 0
abbrev jt:Stmt:=inClass (top 7) 1
abbrev jr:Stmt:=inClass (top 7) 2
abbrev jw:Stmt:=inClass (top 7) 3
abbrev ju:Stmt:=inClass (top 7) 4
abbrev jq:Stmt:=inClass (top 7) 5
abbrev hV:Stmt:=inClass (top 7) 6
abbrev jL:Stmt:=inClass (top 8) 0
abbrev jK:Stmt:=inClass (top 8) 1
abbrev jJ:Stmt:=inClass (top 9) 0
abbrev hX:Stmt:=inClass (top 9) 1
abbrev jy:Stmt:=inClass (top 10) 0
abbrev jx:Stmt:=inClass (top 10) 1
abbrev jQ:Stmt:=inClass (top 11) 0
abbrev jP:Stmt:=inClass (top 11) 1
abbrev jO:Stmt:=inClass (top 12) 0
abbrev jM:Stmt:=inClass (top 12) 1
abbrev jN:Stmt:=inClass (top 12) 2
abbrev jg:Stmt:=top 13
abbrev jf:Stmt:=top 14
abbrev dO:Stmt:=inClass (top 16) 0
abbrev jF:Stmt:=inClass (top 16) 1
abbrev jH:Stmt:=inClass (top 16) 2
abbrev fw:Stmt:=inClass (top 16) 3
abbrev jI:Stmt:=inClass (top 16) 4
abbrev jG:Stmt:=inClass (top 16) 5
abbrev je:Stmt:=top 17
abbrev gZ:Stmt:=top 19
abbrev jo:Stmt:=top 21
abbrev jn:Stmt:=top 22
abbrev jm:Stmt:=top 23
abbrev jj:Stmt:=top 24
abbrev hU:Stmt:=top 25
abbrev jl:Stmt:=top 26
abbrev jk:Stmt:=top 27
abbrev hG:Stmt:=top 28
abbrev eI:Stmt:=top 29
abbrev hE:Stmt:=top 30
abbrev hJ:Stmt:=top 31
abbrev h6:Stmt:=top 32
abbrev jp:Stmt:=top 33
abbrev ji:Stmt:=top 34
abbrev eF:Stmt:=top 35
theorem uD:aH ["self","things"] ["self","things"] (aj jE):=⟨U,U,U,Qy,U,Qy,Qy⟩
theorem uz:aH ["self"] ["self"] (aj jA):=⟨U,U,U,Qy,U,Qy,Qy⟩
theorem uC:aH ["self"] ["self"] (aj jD):=⟨U,U,U,Qy,U,Qy,Qy⟩
theorem uB:aH ["self","thing"] ["self","thing"] (aj jC):=⟨U,U,U,Qy,U,Qy,Qy⟩
theorem nV:aH ["self","thing"] ["self"] (aj jz):=⟨U,U,U,Qy,U,Qy,Qy⟩
theorem uA:aH ["self"] ["self"] (aj jB):=⟨U,U,U,Qy,U,Qy,Qy⟩
theorem uj:aH ["sign","a","b"] ["sign","a","b"] (aj jh):=⟨U,U,U,Qy,U,Qy,Qy⟩
theorem uh:aH ["sign","a","b"] ["sign","a","b"] (aj jd):=⟨U,U,U,Qy,U,Qy,Qy⟩
theorem ux:aH ["self","lines"] ["self","lines"] (aj gj):=⟨U,U,U,Qy,U,Qy,Qy⟩
theorem uu:aH ["self","line"] ["self","line"] (aj jt):=⟨U,U,U,Qy,U,Qy,Qy⟩
theorem nU:aH ["self","line","length"] ["self","line"] (aj jr):=⟨U,U,U,Qy,U,Qy,Qy⟩
theorem uw:aH ["self","line"] ["self","line"] (aj jw):=⟨U,U,U,Qy,U,Qy,Qy⟩
theorem uv:aH ["self","line","thing"] ["self","line","thing"] (aj ju):=⟨U,U,U,Qy,U,Qy,Qy⟩
theorem ur:aH ["self","line"] ["self","line"] (aj jq):=⟨U,U,U,Qy,U,Qy,Qy⟩
theorem ut:aH ["self"] ["self"] (aj hV):=⟨U,U,U,Qy,U,Qy,Qy⟩
theorem uJ:aH ["self","ins"] ["self","ins"] (aj jL):=⟨U,U,U,Qy,U,Qy,Qy⟩
theorem uI:aH ["self","yard"] ["self","yard"] (aj jK):=⟨U,U,U,Qy,U,Qy,Qy⟩
theorem uH:aH ["self","ins","outs","route"] ["self","ins","outs","route"] (aj jJ):=⟨U,U,U,Qy,U,Qy,Qy⟩
theorem uG:aH ["self","things"] ["self","things"] (aj hX):=⟨U,U,U,Qy,U,Qy,Qy⟩
theorem uy:aH ["self","ins","out","sign","sides"] ["self","ins","out","sign","sides"] (aj jy):=⟨U,U,U,Qy,U,Qy,Qy⟩
theorem jc:aH ["self","things","left","right"] ["self","things"] (aj jx):=⟨U,U,U,Qy,U,Qy,Qy⟩
theorem uN:aH ["self","ins","which","ones","noughts","told"] ["self","ins","which","ones","noughts","told"] (aj jQ):=⟨U,U,U,Qy,U,Qy,Qy⟩
theorem uM:aH ["self","things"] ["self","things"] (aj jP):=⟨U,U,U,Qy,U,Qy,Qy⟩
theorem uL:aH ["self","told","ones","noughts","outs"] ["self","told","ones","noughts","outs"] (aj jO):=⟨U,U,U,Qy,U,Qy,Qy⟩
theorem nX:aH ["self","yard","thing"] ["self","yard"] (aj jM):=⟨U,U,U,Qy,U,Qy,Qy⟩
theorem uK:aH ["self","things"] ["self","things"] (aj jN):=⟨U,U,U,Qy,U,Qy,Qy⟩
theorem ui:aH ["side","things"] ["side","things"] (aj jg):=⟨U,U,U,Qy,U,Qy,Qy⟩
theorem nP:aH ["row","kind"] ["row"] (aj jf):=⟨U,U,U,Qy,U,Qy,Qy⟩
theorem uF:aH ["self","lines","parts","pace","most"] ["self","lines","parts","pace","most"] (aj dO):=⟨U,U,U,Qy,U,Qy,Qy⟩
theorem gg:aH ["self","now","part","takers"] ["self"] (aj jF):=⟨U,U,U,Qy,U,Qy,Qy⟩
theorem fj:aH ["self","now","part","things","line","thing"] ["self","now","part"] (aj jH):=⟨U,U,U,Qy,U,Qy,Qy⟩
theorem gh:aH ["self","now","part","wanted","line","things"] ["self","now","part"] (aj fw):=⟨U,U,U,Qy,U,Qy,Qy⟩
theorem uE:aH ["self","turn","parts"] ["self","turn","parts"] (aj jI):=⟨U,U,U,Qy,U,Qy,Qy⟩
theorem nW:aH ["self","part","row"] ["self","part"] (aj jG):=⟨U,U,U,Qy,U,Qy,Qy⟩
theorem ja:aH ["lines","parts","pace","most","playing","still"] ["lines","parts","pace","most"] (aj je):=⟨U,U,U,Qy,U,Qy,Qy⟩
theorem fh:aH ["lines","log","line","things","turn","part","word","handed"] ["lines","log","line"] (aj gZ):=⟨U,U,U,Qy,U,Qy,Qy⟩
theorem uq:aH ["_law_script","_law_k"] ["_law_script","_law_k"] (aj jo):=⟨U,U,U,Qy,U,Qy,Qy⟩
theorem nS:aH ["_law_cell_here","_law_k","_law_m"] ["_law_cell_here","_law_k"] (aj jn):=⟨U,U,U,Qy,U,Qy,Qy⟩
theorem nR:aH ["_law_cell_here","_law_way","_law_c"] ["_law_cell_here","_law_way"] (aj jm):=⟨U,U,U,Qy,U,Qy,Qy⟩
theorem uk:aH ["_law_cell_here","_law_way"] ["_law_cell_here","_law_way"] (aj jj):=⟨U,U,U,Qy,U,Qy,Qy⟩
theorem gf:aH ["_law_cell_here","_law_k","_law_m","_law_length","_law_many"] ["_law_cell_here","_law_k"] (aj hU):=⟨U,U,U,Qy,U,Qy,Qy⟩
theorem jb:aH ["_law_pool","_law_other","_law_lines","_law_many","_law_way","_law_out","_law_k"] ["_law_pool","_law_other","_law_lines","_law_many","_law_way"] (aj jl):=⟨U,U,U,Qy,U,Qy,Qy⟩
theorem um:aH ["_law_way","_law_width","_law_cell_here"] ["_law_way","_law_width","_law_cell_here"] (aj jk):=⟨U,U,U,Qy,U,Qy,Qy⟩
theorem cM:aH ["_law_cell_here","_law_k","_law_takers","_law_givers","_law_lines","_law_m","_law_n","_law_w","_law_ins","_law_outs","_law_out","_law_left","_law_at"] ["_law_cell_here","_law_k","_law_takers","_law_givers","_law_lines"] (aj hG):=⟨U,U,U,Qy,U,Qy,Qy⟩
theorem dN:aH ["_law_script","_law_cells","_law_many","_law_takers","_law_givers","_law_parts","_law_seeds","_law_lines"] ["_law_script"] (aj eI):=⟨U,U,U,Qy,U,Qy,Qy⟩
theorem nQ:aH ["_law_cell_here","_law_k","_law_m"] ["_law_cell_here","_law_k"] (aj hE):=⟨U,U,U,Qy,U,Qy,Qy⟩
theorem uo:aH ["_law_script","_law_way"] ["_law_script","_law_way"] (aj hJ):=⟨U,U,U,Qy,U,Qy,Qy⟩
theorem gY:aH ["_law_lines","_law_log","_law_rows","_law_entry","_law_pair"] ["_law_lines","_law_log"] (aj h6):=⟨U,U,U,Qy,U,Qy,Qy⟩
theorem nT:aH ["_law_one","_law_other","_law_k"] ["_law_one","_law_other"] (aj jp):=⟨U,U,U,Qy,U,Qy,Qy⟩
theorem gc:aH ["_law_lines","_law_log","_law_rows","_law_way","_law_j","_law_k","_law_found","_law_thing_here"] ["_law_lines","_law_log","_law_rows","_law_way"] (aj ji):=⟨U,U,U,Qy,U,Qy,Qy⟩
theorem cQ:aH ["_law_script","_law_lines","_law_parts","_law_m","_law_n","_law_ones","_law_first","_law_second","_law_one","_law_two","_law_k","_law_many"] ["_law_script"] (aj eF):=⟨U,U,U,Qy,U,Qy,Qy⟩
set_option genInjectivity false in
structure Adr where
 At:Addr
 Au:FuncData
 Av:Addr
 Aw:FuncData
 Ax:Addr
 Ay:FuncData
 Az:Addr
 AA:FuncData
 AB:Addr
 AC:FuncData
 AD:Addr
 AE:FuncData
 done:Addr
 AF:FuncData
 AG:Addr
 AH:FuncData
 AI:Addr
 AJ:FuncData
 AK:Addr
 AL:FuncData
 AM:Addr
 AN:FuncData
 AO:Addr
 AQ:FuncData
 AR:Addr
 AS:FuncData
 AT:Addr
 AU:FuncData
 AV:Addr
 AW:FuncData
 Ag:Addr
 AX:FuncData
 A6:Addr
 AY:FuncData
 AZ:Addr
 B0:FuncData
 B2:Addr
 B7:FuncData
 Ba:Addr
 Bb:FuncData
 Bc:Addr
 Bd:FuncData
 Be:Addr
 Bf:FuncData
 Bg:Addr
 Bh:FuncData
 Bi:Addr
 Bj:FuncData
 Bk:Addr
 Bl:FuncData
 Bm:Addr
 Bn:FuncData
 Bo:Addr
 Bp:FuncData
 Bq:Addr
 Br:FuncData
 Bs:Addr
 Bt:FuncData
 Bu:Addr
 Bv:FuncData
 Bw:Addr
 Bx:FuncData
 Aa:Addr
 By:FuncData
 Bz:Addr
 BA:FuncData
 BB:Addr
 BC:FuncData
 BD:Addr
 Ab:FuncData
 BE:Tok
 BF:Addr
 BG:FuncData
 BH:Addr
 BI:FuncData
 BJ:Addr
 BK:FuncData
 BL:Addr
 BM:FuncData
 BN:Addr
 BO:FuncData
 BP:Addr
 BQ:FuncData
 BR:Addr
 BS:FuncData
 BU:Addr
 BV:FuncData
 BW:Addr
 BX:FuncData
 BY:Addr
 BZ:FuncData
 C1:Addr
 C2:FuncData
 C3:Addr
 C4:FuncData
 C5:Addr
 C6:FuncData
 C7:Addr
 C8:FuncData
 C9:Addr
 Ca:FuncData
 Cc:Addr
 Cd:FuncData
 Cu:Tok
 ld:Addr
 or:Addr
 A7:Addr
 wS:Addr
 wP:Addr
 r6:Addr
 u8:Addr
 gt:Addr
structure Tx(P:Program)(w:World)(K:W.Frag)(mg:Str->Option Value)(a:Adr):Prop where
 Do:Fun K "__init__" "Queue.__init__" jE a.At a.Au
 Dp:aD K a.Au ["self","things"] []
 Dr:Fun K "standing" "Queue.standing" jA a.Av a.Aw
 Cv:aD K a.Aw ["self"] []
 Ds:Fun K "head" "Queue.head" jD a.Ax a.Ay
 Du:aD K a.Ay ["self"] []
 Dv:Fun K "lay" "Queue.lay" jC a.Az a.AA
 Dw:aD K a.AA ["self","thing"] []
 Dx:Fun K "take" "Queue.take" jz a.AB a.AC
 Dy:aD K a.AC ["self"] []
 Dz:Fun K "rest" "Queue.rest" jB a.AD a.AE
 DA:aD K a.AE ["self"] []
 Cw:Fun K "done" "done" jh a.done a.AF
 DB:aD K a.AF ["sign","a","b"] []
 DC:mg "done"=some (.ref a.done)
 Cy:Fun K "reckoned" "reckoned" jd a.AG a.AH
 DD:aD K a.AH ["sign","a","b"] []
 DE:mg "reckoned"=some (.ref a.AG)
 DF:Fun K "__init__" "Yard.__init__" gj a.AI a.AJ
 DG:aD K a.AJ ["self","lines"] []
 DH:Fun K "holds" "Yard.holds" jt a.AK a.AL
 Cz:aD K a.AL ["self","line"] []
 DI:Fun K "room" "Yard.room" jr a.AM a.AN
 DJ:aD K a.AN ["self","line"] []
 DK:Fun K "first" "Yard.first" jw a.AO a.AQ
 DL:aD K a.AQ ["self","line"] []
 DM:Fun K "hand" "Yard.hand" ju a.AR a.AS
 DN:aD K a.AS ["self","line","thing"] []
 DO:Fun K "taken" "Yard.taken" jq a.AT a.AU
 DP:aD K a.AU ["self","line"] []
 DQ:Fun K "stands" "Yard.stands" hV a.AV a.AW
 DR:aD K a.AW ["self"] []
 DS:Fun K "__init__" "Part.__init__" jL a.Ag a.AX
 Ah:aD K a.AX ["self","ins"] []
 DT:Fun K "wants" "Part.wants" jK a.A6 a.AY
 Ce:aD K a.AY ["self","yard"] []
 DU:Fun K "__init__" "Pass.__init__" jJ a.AZ a.B0
 DV:aD K a.B0 ["self","ins","outs","route"] []
 DW:Fun K "made" "Pass.made" hX a.B2 a.B7
 DX:aD K a.B7 ["self","things"] []
 DY:Fun K "__init__" "Work.__init__" jy a.Ba a.Bb
 DZ:aD K a.Bb ["self","ins","out","sign","sides"] []
 E1:Fun K "made" "Work.made" jx a.Bc a.Bd
 E2:aD K a.Bd ["self","things"] []
 E3:Fun K "__init__" "Choose.__init__" jQ a.Be a.Bf
 E4:aD K a.Bf ["self","ins","which","ones","noughts","told"] []
 E5:Fun K "made" "Choose.made" jP a.Bg a.Bh
 E6:aD K a.Bh ["self","things"] []
 E7:Fun K "__init__" "Merge.__init__" jO a.Bi a.Bj
 E8:aD K a.Bj ["self","told","ones","noughts","outs"] []
 E9:Fun K "wants" "Merge.wants" jM a.Bk a.Bl
 Ea:aD K a.Bl ["self","yard"] []
 Eb:Fun K "made" "Merge.made" jN a.Bm a.Bn
 Ec:aD K a.Bn ["self","things"] []
 Cf:Fun K "on_side" "on_side" jg a.Bo a.Bp
 CA:aD K a.Bp ["side","things"] []
 CB:mg "on_side"=some (.ref a.Bo)
 CC:Fun K "part_of" "part_of" jf a.Bq a.Br
 Ed:aD K a.Br ["row"] []
 Ee:mg "part_of"=some (.ref a.Bq)
 Ef:Fun K "__init__" "Play.__init__" dO a.Bs a.Bt
 Eg:aD K a.Bt ["self","lines","parts","pace","most"] []
 Eh:Fun K "to_its_end" "Play.to_its_end" jF a.Bu a.Bv
 Ei:aD K a.Bv ["self"] []
 Ej:Fun K "give" "Play.give" jH a.Bw a.Bx
 Ek:aD K a.Bx ["self","now","part"] []
 El:Fun K "take" "Play.take" fw a.Aa a.By
 Em:aD K a.By ["self","now","part"] []
 En:Fun K "await_turn" "Play.await_turn" jI a.Bz a.BA
 CD:aD K a.BA ["self","turn","parts"] []
 Eo:Fun K "rest_of" "Play.rest_of" jG a.BB a.BC
 Ep:aD K a.BC ["self","part"] []
 Cg:f9 K "play" "play" je a.BD a.Ab #[.none,.int 5000 a.BE]
 Fs:aD K a.Ab ["lines","parts","pace","most"] [.int 5000 a.BE]
 Ft:aD K a.Ab ["lines","parts","pace","most"] [.none,.int 5000 a.BE]
 CF:aD K a.Ab ["lines","parts","pace","most"] []
 CG:mg "play"=some (.ref a.BD)
 CH:Fun K "history" "history" gZ a.BF a.BG
 Er:aD K a.BG ["lines","log","line"] []
 Es:mg "history"=some (.ref a.BF)
 Ac:Fun K "_law_cell" "_law_cell" jo a.BH a.BI
 Ai:aD K a.BI ["_law_script","_law_k"] []
 Aj:mg "_law_cell"=some (.ref a.BH)
 zX:Fun K "_law_mixed" "_law_mixed" jn a.BJ a.BK
 A1:aD K a.BK ["_law_cell_here","_law_k"] []
 A2:mg "_law_mixed"=some (.ref a.BJ)
 Ch:Fun K "_law_number" "_law_number" jm a.BL a.BM
 CI:aD K a.BM ["_law_cell_here","_law_way"] []
 CJ:mg "_law_number"=some (.ref a.BL)
 CK:Fun K "_law_thing" "_law_thing" jj a.BN a.BO
 Eu:aD K a.BO ["_law_cell_here","_law_way"] []
 Ev:mg "_law_thing"=some (.ref a.BN)
 CL:Fun K "_law_line" "_law_line" hU a.BP a.BQ
 Ew:aD K a.BQ ["_law_cell_here","_law_k"] []
 Ex:mg "_law_line"=some (.ref a.BP)
 zV:Fun K "_law_picked" "_law_picked" jl a.BR a.BS
 zY:aD K a.BS ["_law_pool","_law_other","_law_lines","_law_many","_law_way"] []
 zZ:mg "_law_picked"=some (.ref a.BR)
 Ci:Fun K "_law_side" "_law_side" jk a.BU a.BV
 CM:aD K a.BV ["_law_way","_law_width","_law_cell_here"] []
 CN:mg "_law_side"=some (.ref a.BU)
 CO:Fun K "_law_part" "_law_part" hG a.BW a.BX
 Ey:aD K a.BX ["_law_cell_here","_law_k","_law_takers","_law_givers","_law_lines"] []
 Ez:mg "_law_part"=some (.ref a.BW)
 CP:Fun K "_law_net" "_law_net" eI a.BY a.BZ
 EA:aD K a.BZ ["_law_script"] []
 EB:mg "_law_net"=some (.ref a.BY)
 CQ:Fun K "_law_rests" "_law_rests" hE a.C1 a.C2
 EC:aD K a.C2 ["_law_cell_here","_law_k"] []
 ED:mg "_law_rests"=some (.ref a.C1)
 Cj:Fun K "_law_pace" "_law_pace" hJ a.C3 a.C4
 CS:aD K a.C4 ["_law_script","_law_way"] []
 CT:mg "_law_pace"=some (.ref a.C3)
 Ck:Fun K "_law_stood" "_law_stood" h6 a.C5 a.C6
 CU:aD K a.C6 ["_law_lines","_law_log"] []
 CV:mg "_law_stood"=some (.ref a.C5)
 Cl:Fun K "_law_begins" "_law_begins" jp a.C7 a.C8
 CW:aD K a.C8 ["_law_one","_law_other"] []
 CY:mg "_law_begins"=some (.ref a.C7)
 Cm:Fun K "_law_told" "_law_told" ji a.C9 a.Ca
 CZ:aD K a.Ca ["_law_lines","_law_log","_law_rows","_law_way"] []
 D0:mg "_law_told"=some (.ref a.C9)
 EE:Fun K "law" "law" eF a.Cc a.Cd
 Fu:aD K a.Cd ["_law_script"] []
 Fv:mg "law"=some (.ref a.Cc)
 EF:mg "bool"=none
 D3:mg "enumerate"=none
 EG:mg "int"=none
 Cn:mg "isinstance"=none
 wp:mg "len"=none
 zW:mg "list"=none
 Co:mg "min"=none
 zT:mg "range"=none
 D4:mg "sorted"=none
 Cp:mg "tuple"=none
 Ad:mg "zip"=none
 EH:mg "WHEEL"=some (.int 1000000000000000000000000000000 a.Cu)
 EI:mg "Queue"=some (.ref a.ld)
 wE:Cls K a.ld
 EJ:Mk K a.ld a.At
 D5:aG K a.ld "standing" a.Av
 EK:aG K a.ld "head" a.Ax
 EL:aG K a.ld "lay" a.Az
 EM:aG K a.ld "take" a.AB
 EN:aG K a.ld "rest" a.AD
 A8:aY K a.ld "laid"
 A4:aY K a.ld "gone"
 EO:mg "Yard"=some (.ref a.or)
 wT:Cls K a.or
 EQ:Mk K a.or a.AI
 D6:aG K a.or "holds" a.AK
 ER:aG K a.or "room" a.AM
 ES:aG K a.or "first" a.AO
 ET:aG K a.or "hand" a.AR
 EU:aG K a.or "taken" a.AT
 EV:aG K a.or "stands" a.AV
 D7:aY K a.or "lengths"
 A9:aY K a.or "queues"
 Ak:mg "Part"=some (.ref a.A7)
 Fw:Cls K a.A7
 Fx:Mk K a.A7 a.Ag
 Fy:aG K a.A7 "wants" a.A6
 FA:aY K a.A7 "ins"
 EW:mg "Pass"=some (.ref a.wS)
 A0:Cls K a.wS
 EX:Mk K a.wS a.AZ
 EY:aG K a.wS "made" a.B2
 EZ:aG K a.wS "wants" a.A6
 D8:aY K a.wS "ins"
 Da:aY K a.wS "outs"
 Dc:aY K a.wS "route"
 Fa:mg "Work"=some (.ref a.wP)
 zU:Cls K a.wP
 Fb:Mk K a.wP a.Ba
 Fc:aG K a.wP "made" a.Bc
 Fd:aG K a.wP "wants" a.A6
 Dd:aY K a.wP "ins"
 De:aY K a.wP "out"
 Df:aY K a.wP "sign"
 Cq:aY K a.wP "sides"
 Fe:mg "Choose"=some (.ref a.r6)
 xz:Cls K a.r6
 Ff:Mk K a.r6 a.Be
 Fg:aG K a.r6 "made" a.Bg
 Fh:aG K a.r6 "wants" a.A6
 Dg:aY K a.r6 "ins"
 Dh:aY K a.r6 "which"
 Di:aY K a.r6 "ones"
 Dj:aY K a.r6 "noughts"
 Cr:aY K a.r6 "told"
 Fi:mg "Merge"=some (.ref a.u8)
 zS:Cls K a.u8
 Fj:Mk K a.u8 a.Bi
 Fk:aG K a.u8 "wants" a.Bk
 Fl:aG K a.u8 "made" a.Bm
 Al:aY K a.u8 "ins"
 Dk:aY K a.u8 "ones"
 Dl:aY K a.u8 "noughts"
 Dm:aY K a.u8 "outs"
 Fm:mg "Play"=some (.ref a.gt)
 f8:Cls K a.gt
 Fn:Mk K a.gt a.Bs
 Fo:aG K a.gt "to_its_end" a.Bu
 Fp:aG K a.gt "give" a.Bw
 Fq:aG K a.gt "take" a.Aa
 Dn:aG K a.gt "await_turn" a.Bz
 Fr:aG K a.gt "rest_of" a.BB
 A5:aY K a.gt "yard"
 Cs:aY K a.gt "doers"
 Am:aY K a.gt "pace"
 An:aY K a.gt "spare"
 Ao:aY K a.gt "log"
 Ct:aY K a.gt "held"
 Ap:aY K a.gt "takings"
 Ae:aY K a.gt "givers"
 Af:aY K a.gt "takers"
 Aq:aY K a.gt "without_room"
 Ar:aY K a.gt "without_thing"
 As:lQ K a.A7 "__init__" a.Ag
theorem Tx.r_WHEEL{P:Program}{w:World}{K:W.Frag}{mg:Str->Option Value}{a:Adr}(_:Tx P w K mg a):aB (.int 1000000000000000000000000000000) (.int 1000000000000000000000000000000 a.Cu):=⟨_,U⟩
def ay(o:List Nat):List V:=o.map λj:Nat=>V.int j
theorem p30:(10:Int) ^ (30:Int).toNat=1000000000000000000000000000000:=Qy
theorem p60:(10:Int) ^ (60:Int).toNat=1000000000000000000000000000000000000000000000000000000000000:=Qy
inductive mr(vs:List V)(H:Hp)(Q:VK)(E:XK):Prop
 |mk (sg:Str) (a b:Int) (h0_:vs=[.str sg,.int a,.int b]) (h1_:OnW a) (h2_:OnW b) (h3_:Q (.int (jU sg a b)) H):mr vs H Q E
inductive mz(vs:List V)(H:Hp)(Q:VK)(E:XK):Prop
 |mk (sg:Str) (a b:Int) (h0_:vs=[.str sg,.int a,.int b]) (h1_:OnW a) (h2_:OnW b) (h3_:Q (.int (fJ sg a b)) H):mz vs H Q E
inductive tT(vs:List V)(H:Hp)(Q:VK)(E:XK):Prop
 |mk (sg:Str) (a b:Int) (h0_:vs=[.str sg,.int a,.int b]) (h1_:OnW a) (h2_:OnW b) (h3_:Q (.int (fJ sg a b)) H):tT vs H Q E
theorem d6{x:Int}(h:OnW x):Builtin.Int.intBits x<=2 ^ 20:=qy ((PySem.intBits_le_iff (m:=100)).mpr (by have:=h.lo;have:=h.hi;omega)) Qz
theorem sI{x:Int}(h:OnW x):x.natAbs.log2<9000:=Nat.lt_trans (xY (by have:=h.lo;have:=h.hi;omega)) Qz
inductive mL(vs:List V)(H:Hp)(Q:VK)(E:XK):Prop
 |mk (c k:Int) (h0_:vs=[.int c,.int k]) (h1_:(0<=k/\k<=2000)) (h2_:∀m:Int,0<=m->m<2147483647->Q (.int m) H):mL vs H Q E
inductive mJ(vs:List V)(H:Hp)(Q:VK)(E:XK):Prop
 |mk (c k:Int) (h0_:vs=[.int c,.int k]) (h1_:(0<=k/\k<=2147483647)) (h2_:∀m:Int,OnW m->Q (.int m) H):mJ vs H Q E
inductive Sd
 |num (n:Int)
 |thing (i:Int)
inductive RS(H:Hp):V->Sd->Prop
 |num {p:Addr}{n:Int}:H p=some (.tup [.str "is",.int n])->RS H (.ref p) (.num n)
 |thing {p:Addr}{i:Int}:H p=some (.tup [.str "in",.int i])->RS H (.ref p) (.thing i)
theorem RS.same{H H':Hp}(e:a9 H H'){v:V}{r:Sd}(h:RS H v r):RS H' v r:=by
 cases h with
 |num a=>exact .num (e _ _ a)
 |thing a=>exact .thing (e _ _ a)
def Sd.ok(w:Nat):Sd->Prop
 |.num n=>OnW n
 |.thing i=>0<=i/\i<w
def Sd.worth(xs:List Int):Sd->Int
 |.num n=>n
 |.thing i=>xs.getD i.toNat 0
inductive mE(vs:List V)(H:Hp)(Q:VK)(E:XK):Prop
 |mk (i j c:Int) (h0_:vs=[.int i,.int j,.int c]) (h1_:(0<=i/\i<=2000)) (h2_:0<j) (h3_:∀H' v (s:Sd),a9 H H'->RS H' v s->s.ok j.toNat->Q v H'):mE vs H Q E
inductive PR
 |pass (ins outs route:List Int)
 |work (ins:List Int) (out:Int) (sg:Str) (l r:Sd)
 |choose (ins:List Int) (which:Int) (ones noughts:List Int) (told:Int)
 |merge (told:Int) (ones noughts outs:List Int)
def PR.wide:PR->Nat
 |.pass ins _ _=>ins.length
 |.work ins _ _ _ _=>ins.length
 |.choose ins _ _ _ _=>ins.length
 |.merge _ _ _ outs=>1+outs.length
structure Fit(nl:Nat)(xs:List Int):Prop where
 lo:∀x∈xs,0<=x
 hi:∀x∈xs,x<nl
 nd:(xs.map Int.toNat).Nodup
def PR.ok:PR->Prop
 |.pass ins outs route=>outs.length=route.length/\outs.length<=9/\ins.length<=9/\∀r∈route,0<=r/\r<ins.length
 |.work ins _ _ l r=>ins.length<=9/\l.ok ins.length/\r.ok ins.length
 |.choose ins which ones noughts _=>0<=which/\which<ins.length/\ones.length=ins.length/\noughts.length=ins.length/\ins.length<=9
 |.merge _ ones noughts outs=>outs.length<=9/\ones.length=outs.length/\noughts.length=outs.length
def PR.fit(nl:Nat):PR->Prop
 |.pass ins outs _=>Fit nl ins/\Fit nl outs
 |.work ins out _ _ _=>Fit nl ins/\Fit nl [out]
 |.choose ins _ ones noughts told=>Fit nl ins/\Fit nl (ones++[told])/\Fit nl (noughts++[told])
 |.merge told ones noughts outs=>Fit nl (told::ones)/\Fit nl (told::noughts)/\Fit nl outs
def PR.made(xs:List Int):PR->List (Int×Int)
 |.pass _ outs route=>outs.zip (route.map λr=>xs.getD r.toNat 0)
 |.work _ out sg l r=>[(out,fJ sg (l.worth xs) (r.worth xs))]
 |.choose _ which ones noughts told=>if xs.getD which.toNat 0=0 then noughts.zip xs++[(told,0)]else ones.zip xs++[(told,1)]
 |.merge _ _ _ outs=>outs.zip xs.tail
def PR.kind:PR->Nat
 |.pass ..=>0
 |.work ..=>1
 |.choose ..=>2
 |.merge ..=>3
def PR.word:PR->Str
 |.pass ..=>"pass"
 |.work ..=>"work"
 |.choose ..=>"choose"
 |.merge ..=>"merge"
inductive RR(H:Hp):V->PR->Prop
 |pass {p t0 t1 t2:Addr}{ins outs route:List Int}:H p=some (.tup [.str "pass",.ref t0,.ref t1,.ref t2])->H t0=some (.tup (ins.map V.int))->H t1=some (.tup (outs.map V.int))->H t2=some (.tup (route.map V.int))->RR H (.ref p) (.pass ins outs route)
 |work {p t0:Addr}{ins:List Int}{out:Int}{sg:Str}{sa sb:V}{l r:Sd}:H p=some (.tup [.str "work",.ref t0,.int out,.str sg,sa,sb])->H t0=some (.tup (ins.map V.int))->RS H sa l->RS H sb r->RR H (.ref p) (.work ins out sg l r)
 |choose {p t0 t1 t2:Addr}{ins ones noughts:List Int}{which told:Int}:H p=some (.tup [.str "choose",.ref t0,.int which,.ref t1,.ref t2,.int told])->H t0=some (.tup (ins.map V.int))->H t1=some (.tup (ones.map V.int))->H t2=some (.tup (noughts.map V.int))->RR H (.ref p) (.choose ins which ones noughts told)
 |merge {p t1 t2 t3:Addr}{told:Int}{ones noughts outs:List Int}:H p=some (.tup [.str "merge",.int told,.ref t1,.ref t2,.ref t3])->H t1=some (.tup (ones.map V.int))->H t2=some (.tup (noughts.map V.int))->H t3=some (.tup (outs.map V.int))->RR H (.ref p) (.merge told ones noughts outs)
theorem RR.same{H H':Hp}(e:a9 H H'){v:V}{r:PR}(h:RR H v r):RR H' v r:=by
 cases h with
 |pass a b c d=>exact .pass (e _ _ a) (e _ _ b) (e _ _ c) (e _ _ d)
 |work a b c d=>exact .work (e _ _ a) (e _ _ b) (c.same e) (d.same e)
 |choose a b c d=>exact .choose (e _ _ a) (e _ _ b) (e _ _ c) (e _ _ d)
 |merge a b c d=>exact .merge (e _ _ a) (e _ _ b) (e _ _ c) (e _ _ d)
inductive RPt(a:Adr)(H:Hp):V->PR->Prop
 |pass {p dx t0 t1 t2:Addr}{ins outs route:List Int}:H p=some (.ins a.wS dx [("ins",.ref t0),("outs",.ref t1),("route",.ref t2)])->H t0=some (.tup (ins.map V.int))->H t1=some (.tup (outs.map V.int))->H t2=some (.tup (route.map V.int))->RPt a H (.ref p) (.pass ins outs route)
 |work {p dx t0 ts:Addr}{ins:List Int}{out:Int}{sg:Str}{sa sb:V}{l r:Sd}:H p=some (.ins a.wP dx [("ins",.ref t0),("out",.int out),("sign",.str sg),("sides",.ref ts)])->H t0=some (.tup (ins.map V.int))->H ts=some (.tup [sa,sb])->RS H sa l->RS H sb r->RPt a H (.ref p) (.work ins out sg l r)
 |choose {p dx t0 t1 t2:Addr}{ins ones noughts:List Int}{which told:Int}:H p=some (.ins a.r6 dx [("ins",.ref t0),("which",.int which),("ones",.ref t1),("noughts",.ref t2),("told",.int told)])->H t0=some (.tup (ins.map V.int))->H t1=some (.tup (ones.map V.int))->H t2=some (.tup (noughts.map V.int))->RPt a H (.ref p) (.choose ins which ones noughts told)
 |merge {p dx t0 t1 t2 t3:Addr}{told:Int}{ones noughts outs:List Int}:H p=some (.ins a.u8 dx [("ins",.ref t0),("ones",.ref t1),("noughts",.ref t2),("outs",.ref t3)])->H t0=some (.tup [.int told])->H t1=some (.tup (ones.map V.int))->H t2=some (.tup (noughts.map V.int))->H t3=some (.tup (outs.map V.int))->RPt a H (.ref p) (.merge told ones noughts outs)
theorem RPt.same{a:Adr}{H H':Hp}(e:a9 H H'){v:V}{r:PR}(h:RPt a H v r):RPt a H' v r:=by
 cases h with
 |pass a b c d=>exact .pass (e _ _ a) (e _ _ b) (e _ _ c) (e _ _ d)
 |work a b c d f=>exact .work (e _ _ a) (e _ _ b) (e _ _ c) (d.same e) (f.same e)
 |choose a b c d=>exact .choose (e _ _ a) (e _ _ b) (e _ _ c) (e _ _ d)
 |merge a b c d f=>exact .merge (e _ _ a) (e _ _ b) (e _ _ c) (e _ _ d) (e _ _ f)
inductive RPs(H:Hp):List V->List (Int×Int)->Prop
 |nil:RPs H [] []
 |cons {p:Addr}{vs:List V}{x:Int×Int}{xs:List (Int×Int)}:H p=some (.tup [.int x.1,.int x.2])->RPs H vs xs->RPs H (.ref p::vs) (x::xs)
theorem RPs.same{H H':Hp}(e:a9 H H'):∀{vs:List V}{xs:List (Int×Int)},RPs H vs xs->RPs H' vs xs
 |_,_,.nil=>.nil
 |_,_,.cons a r=>.cons (e _ _ a) (RPs.same e r)
theorem RPs.len{H:Hp}:∀{vs:List V}{xs:List (Int×Int)},RPs H vs xs->vs.length=xs.length
 |_,_,.nil=>rfl
 |_,_,.cons _ r=>congrArg (·+1) (RPs.len r)
theorem RPs.app{H:Hp}:∀{vs us:List V}{xs ys:List (Int×Int)},RPs H vs xs->RPs H us ys->RPs H (vs++us) (xs++ys)
 |_,_,_,_,.nil,h=>h
 |_,_,_,_,.cons a r,h=>.cons a (RPs.app r h)
theorem RPs.snoc{H:Hp}{p:Addr}{x:Int×Int}(a:H p=some (.tup [.int x.1,.int x.2])){vs:List V}{xs:List (Int×Int)}(h:RPs H vs xs):RPs H (vs++[.ref p]) (xs++[x]):=h.app (.cons a .nil)
theorem RPs.zip{H:Hp}:∀{ts:List Addr}{xs ys:List Int},ts.length=min xs.length ys.length->(∀(j:Nat)(t:Addr)(x y:V),ts[j]?=some t->(xs.map V.int)[j]?=some x->(ys.map V.int)[j]?=some y->H t=some (.tup [x,y]))->RPs H (ts.map V.ref) (xs.zip ys)
 |[],[],_,_,_=>by simp;exact .nil
 |[],_::_,[],_,_=>.nil
 |[],_::_,_::_,h,_=>by simp at h
 |_::_,[],_,h,_=>by simp at h
 |_::_,_::_,[],h,_=>by simp at h
 |t::ts,x::xs,y::ys,h,at_=>by
  refine .cons (at_ 0 t _ _ U U U) (RPs.zip (by simp at h;omega) λj t' x' y' h1 h2 h3=>at_ (j+1) t' x' y' (by simpa using h1) (by simpa using h2) (by simpa using h3))
def cX:Option Int->V
 |none=>.non
 |some n=>.int n
abbrev Ln:=Option Int×List Int
inductive RLn(H:Hp):List V->List Ln->Prop
 |nil:RLn H [] []
 |cons {p t:Addr}{vs:List V}{x:Ln}{xs:List Ln}:H p=some (.tup [cX x.1,.ref t])->H t=some (.tup (x.2.map V.int))->RLn H vs xs->RLn H (.ref p::vs) (x::xs)
theorem RLn.keep{H H':Hp}(e:∀b ys,H b=some (.tup ys)->H' b=some (.tup ys)):∀{vs:List V}{xs:List Ln},RLn H vs xs->RLn H' vs xs
 |_,_,.nil=>.nil
 |_,_,.cons a b r=>.cons (e _ _ a) (e _ _ b) (RLn.keep e r)
theorem RLn.same{H H':Hp}(e:a9 H H'){vs:List V}{xs:List Ln}(h:RLn H vs xs):RLn H' vs xs:=h.keep λb ys=>e b _
theorem RLn.len{H:Hp}:∀{vs:List V}{xs:List Ln},RLn H vs xs->vs.length=xs.length
 |_,_,.nil=>rfl
 |_,_,.cons _ _ r=>congrArg (·+1) (RLn.len r)
theorem RLn.at{H:Hp}:∀{vs:List V}{xs:List Ln},RLn H vs xs->∀(i:Nat)(v:V),vs[i]?=some v->∃p t x,v=.ref p/\xs[i]?=some x/\H p=some (.tup [cX x.1,.ref t])/\H t=some (.tup (x.2.map V.int))
 |_,_,.nil,i,v,h=>by simp at h
 |_,_,.cons (p:=p) (t:=t) (x:=x) a b r,0,v,h=>by
  simp at h;exact⟨p,t,x,h.symm,U,a,b⟩
 |_,_,.cons a b r,i+1,v,h=>RLn.at r i v (by simpa using h)
theorem RLn.snoc{H:Hp}{p t:Addr}{x:Ln}(a:H p=some (.tup [cX x.1,.ref t]))(b:H t=some (.tup (x.2.map V.int))):∀{vs:List V}{xs:List Ln},RLn H vs xs->RLn H (vs++[.ref p]) (xs++[x])
 |_,_,.nil=>.cons a b .nil
 |_,_,.cons a' b' r=>.cons a' b' (RLn.snoc a b r)
def RQ(a:Adr)(H:Hp)(q:Addr×Addr×Addr)(s:List Int×Nat):Prop:=H q.1=some (.ins a.ld q.2.1 [("laid",.ref q.2.2),("gone",.int s.2)])/\H q.2.2=some (.lst (s.1.map V.int))/\s.2<=s.1.length/\s.1.length<=10000000
structure RY(a:Adr)(H:Hp)(y dx la lq:Addr)(qs:List (Addr×Addr×Addr))(st:List (List Int×Nat))(ls:List (Option Int)):Prop where
 o:H y=some (.ins a.or dx [("lengths",.ref la),("queues",.ref lq)])
 l:H lq=some (.lst (qs.map λq=>V.ref q.1))
 n:qs.length=st.length
 q:∀(i:Nat)(q:Addr×Addr×Addr)(s:List Int×Nat),qs[i]?=some q->st[i]?=some s->RQ a H q s
 w:H la=some (.lst (ls.map cX))
 m:ls.length=st.length
def iI(s:List Int×Nat):V:=match s.1.drop s.2 with
 |[]=>.non
 |x::_=>.int x
inductive nh(K:W.Frag)(a:Adr)(vs:List V)(H:Hp)(Q:VK)(E:XK):Prop
 |mk (p dx t:Addr) (xs:List Int) (h0_:vs=[.ref p,.ref t]) (h1_:H p=some (.ins a.ld dx [])) (h2_:SqT K H t (xs.map V.int)) (h3_:∀l,H l=none->Q .non (upd (upd H l (.lst (xs.map V.int))) p (.ins a.ld dx [("laid",.ref l),("gone",.int 0)]))):nh K a vs H Q E
inductive mZ(a:Adr)(vs:List V)(H:Hp)(Q:VK)(E:XK):Prop
 |mk (q:Addr×Addr×Addr) (s:List Int×Nat) (h0_:vs=[.ref q.1]) (h1_:RQ a H q s) (h2_:Q (.int ((s.1.length:Int)-s.2)) H):mZ a vs H Q E
inductive nc(a:Adr)(vs:List V)(H:Hp)(Q:VK)(E:XK):Prop
 |mk (q:Addr×Addr×Addr) (s:List Int×Nat) (h0_:vs=[.ref q.1]) (h1_:RQ a H q s) (h2_:Q (iI s) H):nc a vs H Q E
inductive n9(a:Adr)(vs:List V)(H:Hp)(Q:VK)(E:XK):Prop
 |mk (q:Addr×Addr×Addr) (s:List Int×Nat) (x:Int) (h0_:vs=[.ref q.1,.int x]) (h1_:RQ a H q s) (h2_:Q .non (upd H q.2.2 (.lst ((s.1++[x]).map V.int)))):n9 a vs H Q E
inductive mY(a:Adr)(vs:List V)(H:Hp)(Q:VK)(E:XK):Prop
 |mk (q:Addr×Addr×Addr) (s:List Int×Nat) (x:Int) (h0_:vs=[.ref q.1]) (h1_:RQ a H q s) (h2_:s.1[s.2]?=some x) (h3_:Q (.int x) (upd H q.1 (.ins a.ld q.2.1 [("laid",.ref q.2.2),("gone",.int (s.2+1:Nat))]))):mY a vs H Q E
inductive n8(a:Adr)(vs:List V)(H:Hp)(Q:VK)(E:XK):Prop
 |mk (q:Addr×Addr×Addr) (s:List Int×Nat) (h0_:vs=[.ref q.1]) (h1_:RQ a H q s) (h2_:∀l,H l=none->Q (.ref l) (upd H l (.lst ((s.1.drop s.2).map V.int)))):n8 a vs H Q E
def cw(xs:List Ln):List (List Int×Nat):=xs.map λx=>(x.2,0)
inductive mW(a:Adr)(vs:List V)(H:Hp)(Q:VK)(E:XK):Prop
 |mk (p dx l:Addr) (us:List V) (xs:List Ln) (h0_:vs=[.ref p,.ref l]) (h1_:H p=some (.ins a.or dx [])) (h2_:H l=some (.lst us)) (h3_:RLn H us xs) (h4_:xs.length<=1000) (h5_:(∀x∈xs,x.2.length<=50) /\
 ∀H' la lq qs,(∀b o,b≠p->H b=some o->H' b=some o)->RY a H' p dx la lq qs (cw xs) (xs.map (·.1))->(qs.map λq=>q.2.2).Nodup->(qs.map λq=>q.1).Nodup->(∀q∈qs,H q.2.2=none/\q.1≠p/\H q.1=none)->(H lq=none/\lq∉(qs.map λq=>q.2.2))->(H la=none/\la∉(qs.map λq=>q.2.2))->Q .non H'):mW a vs H Q E
inductive mT(a:Adr)(vs:List V)(H:Hp)(Q:VK)(E:XK):Prop
 |mk (y dx la lq:Addr) (qs:List (Addr×Addr×Addr)) (st:List (List Int×Nat)) (ls:List (Option Int)) (i:Int) (s:List Int×Nat) (h0_:vs=[.ref y,.int i]) (h1_:RY a H y dx la lq qs st ls) (h2_:0<=i) (h3_:st[i.toNat]?=some s) (h4_:Q (.int ((s.1.length:Int)-s.2)) H):mT a vs H Q E
def cN(L:Option Int)(n:Int):Bool:=match L with
 |none=>true
 |some m=>decide (n<m)
inductive mS(a:Adr)(vs:List V)(H:Hp)(Q:VK)(E:XK):Prop
 |mk (y dx la lq:Addr) (qs:List (Addr×Addr×Addr)) (st:List (List Int×Nat)) (ls:List (Option Int)) (i:Int) (s:List Int×Nat) (L:Option Int) (h0_:vs=[.ref y,.int i]) (h1_:RY a H y dx la lq qs st ls) (h2_:0<=i) (h3_:st[i.toNat]?=some s) (h4_:ls[i.toNat]?=some L) (h5_:Q (.bl (cN L ((s.1.length:Int)-s.2))) H):mS a vs H Q E
inductive mV(a:Adr)(vs:List V)(H:Hp)(Q:VK)(E:XK):Prop
 |mk (y dx la lq:Addr) (qs:List (Addr×Addr×Addr)) (st:List (List Int×Nat)) (ls:List (Option Int)) (i:Int) (s:List Int×Nat) (h0_:vs=[.ref y,.int i]) (h1_:RY a H y dx la lq qs st ls) (h2_:0<=i) (h3_:st[i.toNat]?=some s) (h4_:Q (iI s) H):mV a vs H Q E
inductive mU(a:Adr)(vs:List V)(H:Hp)(Q:VK)(E:XK):Prop
 |mk (y dx la lq:Addr) (qs:List (Addr×Addr×Addr)) (st:List (List Int×Nat)) (ls:List (Option Int)) (i x:Int) (q:Addr×Addr×Addr) (s:List Int×Nat) (h0_:vs=[.ref y,.int i,.int x]) (h1_:RY a H y dx la lq qs st ls) (h2_:0<=i) (h3_:st[i.toNat]?=some s) (h4_:qs[i.toNat]?=some q) (h5_:Q .non (upd H q.2.2 (.lst ((s.1++[x]).map V.int)))):mU a vs H Q E
inductive mQ(a:Adr)(vs:List V)(H:Hp)(Q:VK)(E:XK):Prop
 |mk (y dx la lq:Addr) (qs:List (Addr×Addr×Addr)) (st:List (List Int×Nat)) (ls:List (Option Int)) (i x:Int) (q:Addr×Addr×Addr) (s:List Int×Nat) (h0_:vs=[.ref y,.int i]) (h1_:RY a H y dx la lq qs st ls) (h2_:0<=i) (h3_:st[i.toNat]?=some s) (h4_:qs[i.toNat]?=some q) (h5_:s.1[s.2]?=some x) (h6_:Q (.int x) (upd H q.1 (.ins a.ld q.2.1 [("laid",.ref q.2.2),("gone",.int (s.2+1:Nat))]))):mQ a vs H Q E
def dP(st:List (List Int×Nat)):List (List Int):=st.map λs=>s.1.drop s.2
inductive RIs(H:Hp):List V->List (List Int)->Prop
 |nil:RIs H [] []
 |cons {p:Addr}{vs:List V}{xs:List Int}{xss:List (List Int)}:H p=some (.lst (xs.map V.int))->RIs H vs xss->RIs H (.ref p::vs) (xs::xss)
theorem RIs.same{H H':Hp}(e:a9 H H'):∀{vs:List V}{xss:List (List Int)},RIs H vs xss->RIs H' vs xss
 |_,_,.nil=>.nil
 |_,_,.cons a r=>.cons (e _ _ a) (RIs.same e r)
theorem RIs.len{H:Hp}:∀{vs:List V}{xss:List (List Int)},RIs H vs xss->vs.length=xss.length
 |_,_,.nil=>rfl
 |_,_,.cons _ r=>congrArg (·+1) (RIs.len r)
theorem RIs.snoc{H:Hp}{p:Addr}{xs:List Int}(a:H p=some (.lst (xs.map V.int))):∀{vs:List V}{xss:List (List Int)},RIs H vs xss->RIs H (vs++[.ref p]) (xss++[xs])
 |_,_,.nil=>.cons a .nil
 |_,_,.cons a' r=>.cons a' (RIs.snoc a r)
theorem RIs.at{H:Hp}:∀{vs:List V}{xss:List (List Int)},RIs H vs xss->∀(i:Nat)(xs:List Int),xss[i]?=some xs->∃p,vs[i]?=some (.ref p)/\H p=some (.lst (xs.map V.int))
 |_,_,.nil,i,v,h=>by simp at h
 |_,_,.cons (p:=p) a r,0,v,h=>by
  simp at h;subst h;exact⟨p,U,a⟩
 |_,_,.cons a r,i+1,v,h=>by
  obtain⟨p,e,h'⟩:=RIs.at r i v (by simpa using h);exact⟨p,by simpa using e,h'⟩
def fQ(H0:Hp)(vs:List V):Prop:=∀p,V.ref p∈vs->H0 p=none
inductive mR(a:Adr)(vs:List V)(H:Hp)(Q:VK)(E:XK):Prop
 |mk (y dx la lq:Addr) (qs:List (Addr×Addr×Addr)) (st:List (List Int×Nat)) (ls:List (Option Int)) (h0_:vs=[.ref y]) (h1_:RY a H y dx la lq qs st ls) (h2_:qs.length<=1000) (h3_:∀H' l us,a9 H H'->H l=none->H' l=some (.lst us)->RIs H' us (dP st)->fQ H us->Q (.ref l) H'):mR a vs H Q E
inductive nF(a:Adr)(vs:List V)(H:Hp)(Q:VK)(E:XK):Prop
 |mk (p C dx:Addr) (u:V) (h0_:vs=[.ref p,u]) (h1_:H p=some (.ins C dx [])) (h2_:(C=a.wS\/C=a.wP\/C=a.r6\/C=a.u8)) (h3_:Q .non (upd H p (.ins C dx [("ins",u)]))):nF a vs H Q E
inductive nE(a:Adr)(vs:List V)(H:Hp)(Q:VK)(E:XK):Prop
 |mk (p dx:Addr) (u v x:V) (h0_:vs=[.ref p,u,v,x]) (h1_:H p=some (.ins a.wS dx [])) (h2_:Q .non (upd H p (.ins a.wS dx [("ins",u),("outs",v),("route",x)]))):nE a vs H Q E
inductive mX(a:Adr)(vs:List V)(H:Hp)(Q:VK)(E:XK):Prop
 |mk (p dx:Addr) (u v x y:V) (h0_:vs=[.ref p,u,v,x,y]) (h1_:H p=some (.ins a.wP dx [])) (h2_:Q .non (upd H p (.ins a.wP dx [("ins",u),("out",v),("sign",x),("sides",y)]))):mX a vs H Q E
inductive nH(a:Adr)(vs:List V)(H:Hp)(Q:VK)(E:XK):Prop
 |mk (p dx:Addr) (u v x y z:V) (h0_:vs=[.ref p,u,v,x,y,z]) (h1_:H p=some (.ins a.r6 dx [])) (h2_:Q .non (upd H p (.ins a.r6 dx [("ins",u),("which",v),("ones",x),("noughts",y),("told",z)]))):nH a vs H Q E
inductive nG(a:Adr)(vs:List V)(H:Hp)(Q:VK)(E:XK):Prop
 |mk (p dx:Addr) (u v x y:V) (h0_:vs=[.ref p,u,v,x,y]) (h1_:H p=some (.ins a.u8 dx [])) (h2_:∀t,H t=none->Q .non (upd (upd H t (.tup [u])) p (.ins a.u8 dx [("ins",.ref t),("ones",v),("noughts",x),("outs",y)]))):nG a vs H Q E
structure Ent where
 now:Int
 part:Nat
 took:Bool
 hs:List (Int×Int)
structure PlS where
 st:Nat->List Int×Nat
 held:Nat->List (Int×Int)
 tks:Nat->Nat
 gv:List (Int×List Nat)
 tr:List Nat
 wr:Nat->List Nat
 wt:Nat->List Nat
 sp:Nat
 lg:List Ent
def put{α:Type}(f:Nat->α)(i:Nat)(v:α):Nat->α:=λk=>if k=i then v else f k
theorem aE{α:Type}{f:Nat->α}{i:Nat}{v:α}:put f i v i=v:=Q0 U
theorem ax{α:Type}{f:Nat->α}{i k:Nat}{v:α}(h:k≠i):put f i v k=f k:=qZ h
def aA(S:PlS)(i:Nat):List Int:=(S.st i).1.drop (S.st i).2
def roomF(ls:Nat->Option Int)(S:PlS)(i:Nat):Bool:=cN (ls i) (((S.st i).1.length:Int)-(S.st i).2)
def aq(S:PlS):PR->List Int
 |.pass ins _ _=>ins
 |.work ins _ _ _ _=>ins
 |.choose ins _ _ _ _=>ins
 |.merge t o n _=>match aA S t.toNat with
  |[]=>[t]
  |x::_=>t::(if x=0 then n else o)
abbrev Gv:=List (Int×List Nat)
def aF(g:Gv):List Int:=g.map (·.1)
def atG(g:Gv)(k:Int):List Nat:=((g.find? λkv=>decide (kv.1=k)).map (·.2)).getD []
def ck(g:Gv)(k:Int):Gv:=g.filter λkv=>decide (kv.1≠k)
def bc(g:Gv)(t:Int)(ps:List Nat):Gv:=if ps=[]then g else if t∈aF g then g.map (λkv=>if kv.1=t then(kv.1,kv.2++ps)else kv)else g++[(t,ps)]
def ak(S:PlS)(p:Int×Int):PlS:={ S with st:=put S.st p.1.toNat ((S.st p.1.toNat).1++[p.2],(S.st p.1.toNat).2),tr:=S.tr++S.wt p.1.toNat,wt:=put S.wt p.1.toNat [] }
def gS(S:PlS)(i:Nat)(x:Nat):PlS:={ S with wr:=put S.wr i (S.wr i++[x]) }
def dC(S:PlS)(now:Int)(x:Nat):PlS:=
 let S':=(S.held x).foldl ak S
 { S' with lg:=S'.lg++[⟨now,x,false,S.held x⟩],tr:=S'.tr++[x] }
def cu(ls:Nat->Option Int)(S:PlS)(now:Int)(x:Nat):PlS:=
 match(S.held x).find? λp=>!roomF ls S p.1.toNat with
 |some p=>gS S p.1.toNat x
 |none=>dC S now x
def cY(S:PlS)(ws:List Int):Option Int:=ws.find? λi=>(aA S i.toNat).isEmpty
def aN(S:PlS)(i:Int):Int:=(aA S i.toNat).headD 0
def bu(f:Nat->List Int×Nat)(ws:List Int):Nat->List Int×Nat:=ws.foldl (λf i=>put f i.toNat ((f i.toNat).1,(f i.toNat).2+1)) f
def be(now:Int)(S:PlS)(i:Int):PlS:={ S with gv:=bc S.gv (now+1) (S.wr i.toNat),wr:=put S.wr i.toNat [] }
def bI(pace:List (List Int))(x k:Nat):Int:=if pace.length=0 then 0 else
 let r:=pace.getD (x % pace.length) []
 if r.length=0 then 0 else r.getD (k % r.length) 0
def fX(S:PlS)(i x:Nat):PlS:={ S with wt:=put S.wt i (S.wt i++[x]) }
def bK(r:PR)(pace:List (List Int))(S:PlS)(now:Int)(x:Nat):PlS:=
 let ws:=aq S r
 let xs:=ws.map (aN S)
 { S with st:=bu S.st ws,sp:=S.sp-1,lg:=S.lg++[⟨now,x,true,ws.zip xs⟩],held:=put S.held x (r.made xs),gv:=bc S.gv (now+1+bI pace x (S.tks x)) [x],tks:=put S.tks x (S.tks x+1) }
def aU(r:PR)(pace:List (List Int))(S:PlS)(now:Int)(x:Nat):PlS:=(aq S r).foldl (be now) (bK r pace S now x)
theorem m6:∀{ws:List Int}{f:Nat->List Int×Nat}{j:Nat},j∉ws.map Int.toNat->bu f ws j=f j
 |[],_,_,_=>rfl
 |w::ws,f,j,h=>by
  show bu (put f w.toNat _) ws j=_;rw[m6 λz=>h (qk _ z),ax λz=>h (by rw[z];exact qm)]
theorem sY{ws:List Int}{f:Nat->List Int×Nat}{w:Int}:bu f (ws++[w])=put (bu f ws) w.toNat ((bu f ws w.toNat).1,(bu f ws w.toNat).2+1):=by unfold bu;rw[List.foldl_append];rfl
theorem fY:∀{ws:List Int}{f:Nat->List Int×Nat}{j:Nat},(bu f ws j).1=(f j).1
 |[],_,_=>rfl
 |w::ws,f,j=>by
  show(bu (put f w.toNat _) ws j).1=_;rw[fY];by_cases e:j=w.toNat
  ·rw[e,aE]
  ·rw[ax e]
theorem j1:∀{ws:List Int}{f:Nat->List Int×Nat},(ws.map Int.toNat).Nodup->(∀w∈ws,(f w.toNat).2<(f w.toNat).1.length)->(∀j,(f j).2<=(f j).1.length)->∀j,(bu f ws j).2<=(bu f ws j).1.length
 |[],_,_,_,h0,j=>h0 j
 |w::ws,f,nd,h,h0,j=>by
  have nd:w.toNat∉ws.map Int.toNat/\(ws.map Int.toNat).Nodup:=List.nodup_cons.mp nd;refine j1 (f:=put f w.toNat ((f w.toNat).1,(f w.toNat).2+1)) nd.2 (λv hv=>?_) (λi=>?_) j
  ·rw[ax λe=>nd.1 (by rw[<- e];exact List.mem_map.mpr ⟨v,hv,U⟩)];exact h v (qk _ hv)
  ·by_cases e:i=w.toNat
   ·rw[e,aE];exact h w qm
   ·rw[ax e];exact h0 i
theorem Fit.sub{nl:Nat}{xs ys:List Int}(h:Fit nl ys)(s:xs.Sublist ys):Fit nl xs:=⟨λx hx=>h.lo x (s.subset hx),λx hx=>h.hi x (s.subset hx),h.nd.sublist (s.map _)⟩
theorem iY{nl:Nat}{S:PlS}{r:PR}(h:r.fit nl):Fit nl (aq S r):=by
 cases r with
 |pass=>exact h.1
 |work=>exact h.1
 |choose=>exact h.1
 |merge t o n _=>
  show Fit nl (match aA S t.toNat with|[]=>[t]|x::_=>t::(if x=0 then n else o))
  cases aA S t.toNat with
  |nil=>exact h.1.sub (List.Sublist.cons_cons _ (List.nil_sublist _))
  |cons x _=>
   show Fit nl (t::(if x=0 then n else o));split
   ·exact h.2.1
   ·exact h.1
theorem iW{S:PlS}{r:PR}(ok:r.ok)(h:cY S (aq S r)=none):(aq S r).length=r.wide:=by
 cases r with
 |pass=>rfl
 |work=>rfl
 |choose=>rfl
 |merge t o n outs=>
  obtain⟨_,l1,l2⟩:=ok;have h:=List.find?_eq_none.mp h;show(match aA S t.toNat with|[]=>[t]|x::_=>t::(if x=0 then n else o)).length=1+outs.length
  have ht:¬ (aA S t.toNat).isEmpty=true:=h t (by
   show t∈(match aA S t.toNat with|[]=>[t]|x::_=>t::(if x=0 then n else o))
   cases aA S t.toNat<;>exact qm)
  cases e:aA S t.toNat with
  |nil=>rw[e]at ht;exact Q4 U ht
  |cons x _=>
   show(t::(if x=0 then n else o)).length=_;rw[qA];split<;>omega
theorem lV{S:PlS}{r:PR}(ok:r.ok):(aq S r).length<=10:=by
 cases r with
 |pass ins=>have:=ok.2.2.1;show ins.length<=10;omega
 |work ins=>have:=ok.1;show ins.length<=10;omega
 |choose ins=>have:=ok.2.2.2.2;show ins.length<=10;omega
 |merge t o n outs=>
  obtain⟨_,l1,l2⟩:=ok;show(match aA S t.toNat with|[]=>[t]|x::_=>t::(if x=0 then n else o)).length<=10
  cases aA S t.toNat with
  |nil=>exact(by decide:1<=10)
  |cons x _=>show(t::(if x=0 then n else o)).length<=10;rw[qA];split<;>omega
inductive Ph
 |top
 |giv (now:Int) (rem:List Nat)
 |tak (now:Int) (rem:List Nat)
def xO(g:Gv)(k:Int):Prop:=k∈aF g/\∀j∈aF g,k<=j
def fO(xs:List Nat):Prop:=List.Pairwise (λx y:Nat=>x<=y) xs
inductive br(ls:Nat->Option Int)(prt:Nat->PR)(pace:List (List Int))(S0:PlS):Ph->PlS->Prop
 |base:br ls prt pace S0 .top S0
 |turn {S:PlS}{k:Int}{r:List Nat}:br ls prt pace S0 .top S->xO S.gv k->r.Perm (atG S.gv k)->fO r->br ls prt pace S0 (.giv k r) { S with gv:=ck S.gv k }
 |give {S:PlS}{k:Int}{x:Nat}{r:List Nat}:br ls prt pace S0 (.giv k (x::r)) S->br ls prt pace S0 (.giv k r) (cu ls S k x)
 |half {S:PlS}{k:Int}{r:List Nat}:br ls prt pace S0 (.giv k []) S->r.Perm S.tr->fO r->br ls prt pace S0 (.tak k r) { S with tr:=[] }
 |wait {S:PlS}{k i:Int}{x:Nat}{r:List Nat}:br ls prt pace S0 (.tak k (x::r)) S->cY S (aq S (prt x))=some i->br ls prt pace S0 (.tak k r) (fX S i.toNat x)
 |take {S:PlS}{k:Int}{x:Nat}{r:List Nat}:br ls prt pace S0 (.tak k (x::r)) S->cY S (aq S (prt x))=none->S.sp≠0->br ls prt pace S0 (.tak k r) (aU (prt x) pace S k x)
 |over {S:PlS}{k:Int}:br ls prt pace S0 (.tak k []) S->br ls prt pace S0 .top S
inductive Loc
 |tr
 |wt (i:Nat)
 |wr (i:Nat)
 |gv (k:Int)
 |rem
def OnL(n:Nat)(loc:Nat->Loc)(l:Loc)(ys:List Nat):Prop:=ys.Nodup/\∀x∈ys,x<n/\loc x=l
theorem OnL.nil{n:Nat}{loc:Nat->Loc}{l:Loc}:OnL n loc l []:=⟨List.nodup_nil,λ_ h=>(nomatch h)⟩
open Classical in
noncomputable def eu(loc:Nat->Loc)(l' l:Loc):Nat->Loc:=λx=>if loc x=l' then l else loc x
theorem OnL.app{n:Nat}{loc:Nat->Loc}{l l':Loc}{ys zs:List Nat}(h:OnL n loc l ys)(h':OnL n loc l' zs)(ne:l≠l'):OnL n (eu loc l' l) l (ys++zs):=by
 refine⟨List.nodup_append.mpr ⟨h.1,h'.1,λx hx y hy e=>?_⟩,λx hx=>?_⟩
 ·exact ne ((h.2 x hx).2.symm.trans (e▸(h'.2 y hy).2))
 ·unfold eu;rcases qh.mp hx with m|m
  ·exact⟨(h.2 x m).1,by rw[qZ (by rw[(h.2 x m).2];exact ne)];exact(h.2 x m).2⟩
  ·exact⟨(h'.2 x m).1,Q0 (h'.2 x m).2⟩
theorem OnL.other{n:Nat}{loc:Nat->Loc}{l l' m:Loc}{ys:List Nat}(h:OnL n loc m ys)(ne:m≠l'):OnL n (eu loc l' l) m ys:=
 ⟨h.1,λx hx=>⟨(h.2 x hx).1,by unfold eu;rw[qZ (by rw[(h.2 x hx).2];exact ne)];exact(h.2 x hx).2⟩⟩
theorem OnL.off{n:Nat}{loc:Nat->Loc}{l m:Loc}{ys:List Nat}{x:Nat}(h:OnL n loc m ys)(hx:x∉ys):OnL n (put loc x l) m ys:=
 ⟨h.1,λy hy=>⟨(h.2 y hy).1,(ax λe:y=x=>hx (e▸hy)).trans (h.2 y hy).2⟩⟩
theorem OnL.snoc{n:Nat}{loc:Nat->Loc}{l:Loc}{ys:List Nat}{x:Nat}(h:OnL n loc l ys)(hx:x∉ys)(lt:x<n):OnL n (put loc x l) l (ys++[x]):=by
 refine⟨List.nodup_append.mpr ⟨h.1,Qq _ _,λy hy z hz e=>hx (by rw[<- qS.mp hz,<- e];exact hy)⟩,λy hy=>?_⟩;rcases qh.mp hy with m|m
 ·exact(h.off hx).2 y m
 ·rw[qS.mp m];exact⟨lt,aE⟩
theorem OnL.perm{n:Nat}{loc:Nat->Loc}{l:Loc}{ys zs:List Nat}(h:OnL n loc l ys)(p:zs.Perm ys):OnL n loc l zs:=⟨p.nodup_iff.mpr h.1,λx hx=>h.2 x (p.mem_iff.mp hx)⟩
theorem OnL.len{n:Nat}{loc:Nat->Loc}{l:Loc}{ys:List Nat}(h:OnL n loc l ys):ys.length<=n:=by
 have:=h.1.length_le_of_subset (l₂:=List.range n) λk hk=>List.mem_range.mpr (h.2 k hk).1
 rwa [Qd]at this
theorem OnL.len2{n:Nat}{loc:Nat->Loc}{l l':Loc}{ys zs:List Nat}(h:OnL n loc l ys)(h':OnL n loc l' zs)(ne:l≠l'):ys.length+zs.length<=n:=by
 have:=(h.app h' ne).len
 rwa [qb]at this
structure aM(n:Nat)(loc:Nat->Loc)(rem:List Nat)(S:PlS):Prop where
 tr:OnL n loc .tr S.tr
 wt:∀i,OnL n loc (.wt i) (S.wt i)
 wr:∀i,OnL n loc (.wr i) (S.wr i)
 gk:(aF S.gv).Nodup
 gv:∀kv∈S.gv,OnL n loc (.gv kv.1) kv.2
 rm:OnL n loc .rem rem
theorem fI:∀{g:Gv}{k:Int},k∈aF g->(k,atG g k)∈g
 |(j,ps)::g,k,h=>by
  unfold atG;by_cases e:j=k
  ·rw[List.find?_cons_of_pos (by simpa using e)];subst e;exact qm
  ·rw[List.find?_cons_of_neg (by simpa using e)];exact qk _ (fI (g:=g) ((qu.mp h).resolve_left (Ne.symm e)))
theorem pH{g:Gv}{k j:Int}:j∈aF (ck g k)↔j∈aF g/\j≠k:=by
 unfold aF ck;simp only[List.mem_map,List.mem_filter,decide_eq_true_eq];constructor
 ·rintro⟨kv,⟨h,ne⟩,rfl⟩;exact⟨⟨kv,h,U⟩,ne⟩
 ·rintro⟨⟨kv,h,rfl⟩,ne⟩;exact⟨kv,⟨h,ne⟩,U⟩
theorem yf{g:Gv}{k:Int}(h:(aF g).Nodup):(aF (ck g k)).Nodup:=h.sublist (List.filter_sublist.map _)
theorem kY:∀{g:Gv}{k:Int},k∈aF g->(ck g k).length<g.length
 |(j,ps)::g,k,h=>by
  unfold ck;by_cases e:j=k
  ·rw[List.filter_cons_of_neg (by simpa using e)];exact Nat.lt_succ_of_le (List.length_filter_le _ _)
  ·rw[List.filter_cons_of_pos (by simpa using e)];exact Nat.succ_lt_succ (kY (g:=g) ((qu.mp h).resolve_left (Ne.symm e)))
theorem iz{g:Gv}{t:Int}{ps:List Nat}{j:Int}:j∈aF (bc g t ps)↔j∈aF g\/(ps≠[]/\j=t):=by
 unfold bc;by_cases e:ps=[]
 ·rw[Q0 e];exact⟨.inl,λh=>h.resolve_right λz=>z.1 e⟩
 rw[qZ e];by_cases m:t∈aF g
 ·rw[Q0 m];unfold aF;rw[List.map_map,show((λkv:Int×List Nat=>kv.1) ∘ λkv:Int×List Nat=>if kv.1=t then(kv.1,kv.2++ps)else kv)=λkv=>kv.1 from funext λkv=>by show(if kv.1=t then(kv.1,kv.2++ps)else kv).1=_;split<;>rfl];exact⟨.inl,λh=>h.elim id λz=>z.2▸m⟩
 ·rw[qZ m];unfold aF;rw[qO,qh];exact⟨λh=>h.imp id λz=>⟨e,qS.mp z⟩,λh=>h.imp id λz=>qS.mpr z.2⟩
theorem iR{g:Gv}{t:Int}{ps:List Nat}:(bc g t ps).length<=g.length+1:=by
 unfold bc;split
 ·omega
 ·split
  ·rw[q9];omega
  ·rw[qb];exact qe _
theorem zA{g:Gv}{t:Int}{ps:List Nat}(h:t∈aF g):(bc g t ps).length=g.length:=by
 unfold bc;split
 ·rfl
 ·first|rw[Q0 h,q9]|rw[q9]
theorem rY{g:Gv}{t:Int}{ps:List Nat}(h:(aF g).Nodup):(aF (bc g t ps)).Nodup:=by
 unfold bc;split
 ·exact h
 split
 ·unfold aF at *;rw[List.map_map,show((λkv:Int×List Nat=>kv.1) ∘ λkv:Int×List Nat=>if kv.1=t then(kv.1,kv.2++ps)else kv)=λkv=>kv.1 from funext λkv=>by show(if kv.1=t then(kv.1,kv.2++ps)else kv).1=_;split<;>rfl];exact h
 ·rename_i m;unfold aF at *;rw[qO];exact List.nodup_append.mpr ⟨h,Qq _ _,λx hx y hy z=>m (by have e:x=t:=z.trans (qS.mp hy);exact e▸hx)⟩
theorem cI{g:Gv}{j k:Int}{ps:List Nat}:atG ((j,ps)::g) k=if j=k then ps else atG g k:=by
 unfold atG;by_cases e:j=k
 ·rw[List.find?_cons_of_pos (by simpa using e),Q0 e];rfl
 ·rw[List.find?_cons_of_neg (by simpa using e),qZ e]
theorem lE:∀{g:Gv}{k:Int},k∉aF g->atG g k=[]
 |[],_,_=>rfl
 |(j,ps)::g,k,h=>by
  rw[cI,qZ λe:j=k=>h (e▸qm)];exact lE λz=>h (qk _ z)
theorem se:∀{g:Gv}{t k:Int}{ps:List Nat},t∉aF g->atG (g++[(t,ps)]) k=if k=t then ps else atG g k
 |[],t,k,ps,_=>by
  rw[Qk,cI];by_cases e:t=k
  ·rw[Q0 e,Q0 e.symm]
  ·rw[qZ e,qZ λz=>e z.symm]
 |(j,qs)::g,t,k,ps,h=>by
  rw[List.cons_append,cI,cI];by_cases e:j=k
  ·rw[Q0 e,Q0 e,qZ λz=>h (by rw[<- z,<- e];exact qm)]
  ·rw[qZ e,qZ e];exact se λz=>h (qk _ z)
theorem lF:∀{g:Gv}{t k:Int}{ps:List Nat},t∈aF g->atG (g.map λkv=>if kv.1=t then(kv.1,kv.2++ps)else kv) k=if k=t then atG g t++ps else atG g k
 |(j,qs)::g,t,k,ps,h=>by
  rw[qR];by_cases e:j=t
  ·show atG ((if j=t then(j,qs++ps)else(j,qs))::_) k=_;rw[Q0 e,cI,cI,cI,Q0 e];by_cases e2:k=t
   ·rw[Q0 (e.trans e2.symm),Q0 e2]
   ·rw[qZ λz=>e2 (z.symm.trans e),qZ e2,qZ λz=>e2 (z.symm.trans e)];by_cases m:t∈aF g
    ·rw[lF m,qZ e2]
    ·rw[show(g.map λkv=>if kv.1=t then(kv.1,kv.2++ps)else kv)=g from(List.map_congr_left (g:=id) λkv hk=>qZ λz=>m (List.mem_map.mpr ⟨kv,hk,z⟩)).trans (List.map_id _)]
  ·show atG ((if j=t then(j,qs++ps)else(j,qs))::_) k=_;have m:=(qu.mp h).resolve_left λz=>e z.symm;rw[qZ e,cI,cI,cI,qZ e];by_cases e2:j=k
   ·rw[Q0 e2,qZ λz=>e (e2.trans z),Q0 e2]
   ·rw[qZ e2,lF m,qZ e2]
theorem rZ{g:Gv}{t k:Int}{ps:List Nat}:atG (bc g t ps) k=if k=t then atG g t++ps else atG g k:=by
 unfold bc;by_cases e:ps=[]
 ·rw[Q0 e,e,qx];split
  ·rename_i z;rw[z]
  ·rfl
 rw[qZ e];by_cases m:t∈aF g
 ·rw[Q0 m,lF m]
 ·rw[qZ m,se m,lE m,Qk]
theorem aM.hand{n:Nat}{loc:Nat->Loc}{rem:List Nat}{S:PlS}(I:aM n loc rem S)(p:Int×Int):aM n (eu loc (.wt p.1.toNat) .tr) rem (ak S p):=by
 refine⟨I.tr.app (I.wt _) nofun,λi=>?_,λi=>(I.wr i).other nofun,I.gk,λkv h=>(I.gv kv h).other nofun,I.rm.other nofun⟩;show OnL n _ (.wt i) (put S.wt p.1.toNat [] i);by_cases e:i=p.1.toNat
 ·rw[e,aE];exact OnL.nil
 ·rw[ax e];exact(I.wt i).other λz=>e (Loc.wt.inj z)
theorem aM.hands{n:Nat}{rem:List Nat}:∀(ps:List (Int×Int)){loc:Nat->Loc}{S:PlS},aM n loc rem S->∃loc',aM n loc' rem (ps.foldl ak S)
 |[],loc,_,I=>⟨loc,I⟩
 |p::ps,_,_,I=>aM.hands ps (I.hand p)
section
variable {n:Nat}{loc:Nat->Loc}{rem:List Nat}{S:PlS}{x:Nat}
theorem aM.not(I:aM n loc (x::rem) S):loc x=.rem/\x<n/\x∉rem:=⟨(I.rm.2 x qm).2,(I.rm.2 x qm).1,(List.nodup_cons.mp I.rm.1).1⟩
theorem aM.notin(I:aM n loc (x::rem) S){l:Loc}{ys:List Nat}(h:OnL n loc l ys)(ne:l≠.rem):x∉ys:=λz=>ne ((h.2 x z).2.symm.trans I.not.1)
theorem aM.rest(I:aM n loc (x::rem) S){l:Loc}:OnL n (put loc x l) .rem rem:=OnL.off ⟨(List.nodup_cons.mp I.rm.1).2,λy hy=>I.rm.2 y (qk _ hy)⟩ I.not.2.2
theorem aM.stuck(I:aM n loc (x::rem) S)(i:Nat):aM n (put loc x (.wr i)) rem (gS S i x):=by
 refine⟨I.tr.off (I.notin I.tr nofun),λj=>(I.wt j).off (I.notin (I.wt j) nofun),λj=>?_,I.gk,λkv h=>(I.gv kv h).off (I.notin (I.gv kv h) nofun),I.rest⟩;show OnL n _ (.wr j) (put S.wr i (S.wr i++[x]) j);by_cases e:j=i
 ·rw[e,aE];exact(I.wr i).snoc (I.notin (I.wr i) nofun) I.not.2.1
 ·rw[ax e];exact(I.wr j).off (I.notin (I.wr j) nofun)
theorem aM.wait(I:aM n loc (x::rem) S)(i:Nat):aM n (put loc x (.wt i)) rem (fX S i x):=by
 refine⟨I.tr.off (I.notin I.tr nofun),λj=>?_,λj=>(I.wr j).off (I.notin (I.wr j) nofun),I.gk,λkv h=>(I.gv kv h).off (I.notin (I.gv kv h) nofun),I.rest⟩;show OnL n _ (.wt j) (put S.wt i (S.wt i++[x]) j);by_cases e:j=i
 ·rw[e,aE];exact(I.wt i).snoc (I.notin (I.wt i) nofun) I.not.2.1
 ·rw[ax e];exact(I.wt j).off (I.notin (I.wt j) nofun)
theorem aM.toTr(I:aM n loc (x::rem) S)(lg:List Ent):aM n (put loc x .tr) rem { S with lg:=lg,tr:=S.tr++[x] }:=
 ⟨I.tr.snoc (I.notin I.tr nofun) I.not.2.1,λj=>(I.wt j).off (I.notin (I.wt j) nofun),λj=>(I.wr j).off (I.notin (I.wr j) nofun),I.gk,λkv h=>(I.gv kv h).off (I.notin (I.gv kv h) nofun),I.rest⟩
theorem kG{g:Gv}{t:Int}{ps:List Nat}{kv:Int×List Nat}(h:kv∈bc g t ps):(kv∈g/\(kv.1=t->ps=[]))\/(kv.1=t/\kv.2=ps/\t∉aF g)\/(kv.1=t/\∃qs,(t,qs)∈g/\kv.2=qs++ps):=by
 unfold bc at h;by_cases e:ps=[]
 ·rw[Q0 e]at h;exact .inl ⟨h,λ_=>e⟩
 rw[qZ e]at h;by_cases m:t∈aF g
 ·rw[Q0 m]at h;obtain⟨jv,hj,ej⟩:=List.mem_map.mp h;by_cases c:jv.1=t
  ·rw[Q0 c]at ej;exact .inr (.inr ⟨by rw[<- ej];exact c,jv.2,by rw[<- c];exact hj,by rw[<- ej]⟩)
  ·rw[qZ c]at ej;rw[<- ej];exact .inl ⟨hj,λz=>Q4 z c⟩
 ·rw[qZ m]at h;rcases qh.mp h with h|h
  ·exact .inl ⟨h,λz=>Q4 (List.mem_map.mpr ⟨kv,h,z⟩) m⟩
  ·rw[qS.mp h];exact .inr (.inl ⟨U,U,m⟩)
theorem aM.toGv(I:aM n loc (x::rem) S)(t:Int):aM n (put loc x (.gv t)) rem { S with gv:=bc S.gv t [x] }:=by
 refine⟨I.tr.off (I.notin I.tr nofun),λj=>(I.wt j).off (I.notin (I.wt j) nofun),λj=>(I.wr j).off (I.notin (I.wr j) nofun),show(aF (bc S.gv t [x])).Nodup from rY I.gk,λkv h=>?_,I.rest⟩;have h:kv∈bc S.gv t [x]:=h;rcases kG h with⟨h,_⟩|⟨h1,h2,_⟩|⟨h1,qs,h2,h3⟩
 ·exact(I.gv kv h).off (I.notin (I.gv kv h) nofun)
 ·rw[h1,h2];exact OnL.snoc (ys:=[]) OnL.nil (λz=>nomatch z) I.not.2.1
 ·rw[h1,h3];exact(I.gv _ h2).snoc (I.notin (I.gv _ h2) nofun) I.not.2.1
theorem aM.free(I:aM n loc rem S)(now i:Int):aM n (eu loc (.wr i.toNat) (.gv (now+1))) rem (be now S i):=by
 refine⟨I.tr.other nofun,λj=>(I.wt j).other nofun,λj=>?_,show(aF (bc S.gv (now+1) (S.wr i.toNat))).Nodup from rY I.gk,λkv h=>?_,I.rm.other nofun⟩
 ·show OnL n _ (.wr j) (put S.wr i.toNat [] j);by_cases e:j=i.toNat
  ·rw[e,aE];exact OnL.nil
  ·rw[ax e];exact(I.wr j).other λz=>e (Loc.wr.inj z)
 ·rcases kG h with⟨h,_⟩|⟨h1,h2,_⟩|⟨h1,qs,h2,h3⟩
  ·exact(I.gv kv h).other nofun
  ·rw[h1,h2];exact OnL.app (ys:=[]) OnL.nil (I.wr _) nofun
  ·rw[h1,h3];exact(I.gv _ h2).app (I.wr _) nofun
theorem aM.frees(now:Int):∀(ws:List Int){loc:Nat->Loc}{S:PlS},aM n loc rem S->∃loc',aM n loc' rem (ws.foldl (be now) S)
 |[],loc,_,I=>⟨loc,I⟩
 |i::ws,_,_,I=>aM.frees now ws (I.free now i)
theorem aM.eq(I:aM n loc rem S){S':PlS}(e1:S'.tr=S.tr)(e2:S'.wt=S.wt)(e3:S'.wr=S.wr)(e4:S'.gv=S.gv):aM n loc rem S':=
 ⟨by rw[e1];exact I.tr,by rw[e2];exact I.wt,by rw[e3];exact I.wr,by rw[e4];exact I.gk,by rw[e4];exact I.gv,I.rm⟩
theorem aM.turn(I:aM n loc [] S){k:Int}{r:List Nat}(hk:k∈aF S.gv)(p:r.Perm (atG S.gv k)):aM n (eu loc (.gv k) .rem) r { S with gv:=ck S.gv k }:=by
 have q:OnL n _ .rem (atG S.gv k):=OnL.app (ys:=[]) I.rm (I.gv _ (fI hk)) nofun
 refine⟨I.tr.other nofun,λj=>(I.wt j).other nofun,λj=>(I.wr j).other nofun,yf I.gk,λkv h=>?_,q.perm p⟩;have h:=List.mem_filter.mp h;exact(I.gv kv h.1).other λz=>Qc h.2 (Loc.gv.inj z)
theorem aM.half(I:aM n loc [] S){r:List Nat}(p:r.Perm S.tr):aM n (eu loc .tr .rem) r { S with tr:=[] }:=
 ⟨OnL.nil,λj=>(I.wt j).other nofun,λj=>(I.wr j).other nofun,I.gk,λkv h=>(I.gv kv h).other nofun,(OnL.app (ys:=[]) I.rm I.tr nofun).perm p⟩
end
inductive Rl
 |b|lg|hl|tl|gd|tk|wrl|wtl
 |qo (i:Nat)
 |ql (i:Nat)
 |wr (i:Nat)
 |wt (i:Nat)
 |gv (k:Int)
 deriving DecidableEq
def at'{α:Type}(f:Rl->α)(r:Rl)(v:α):Rl->α:=λs=>if s=r then v else f s
theorem bO{α:Type}{f:Rl->α}{r:Rl}{v:α}:at' f r v r=v:=Q0 U
theorem bq{α:Type}{f:Rl->α}{r s:Rl}{v:α}(h:s≠r):at' f r v s=f s:=qZ h
structure ba(H0 H:Hp)(D:Rl->Prop)(ad:Rl->Addr)(c:Rl->HO):Prop where
 sa:a9 H0 H
 nw:∀r,D r->H0 (ad r)=none
 inj:∀r s,D r->D s->ad r=ad s->r=s
 av:∀r,D r->H (ad r)=some (c r)
section
variable {H0 H:Hp}{D:Rl->Prop}{ad:Rl->Addr}{c:Rl->HO}
theorem ba.put(M:ba H0 H D ad c)(r:Rl)(h:D r)(o:HO):ba H0 (upd H (ad r) o) D ad (at' c r o):=
 ⟨λx p hx=>by rw[ah λz=>by rw[z,M.nw r h]at hx;cases hx];exact M.sa x p hx,M.nw,M.inj,λs hs=>by
  by_cases e:s=r
  ·rw[e,af,bO]
  ·rw[ah λz=>e (M.inj s r hs h z),bq e];exact M.av s hs⟩
theorem ba.new(M:ba H0 H D ad c)(r:Rl){x:Addr}(hx:H x=none)(o:HO):ba H0 (upd H x o) (λs=>s=r\/D s) (at' ad r x) (at' c r o):=by
 have ne:∀s,D s->ad s≠x:=λs hs z=>by have:=M.av s hs;rw[z,hx]at this;cases this
 refine⟨λy p hy=>a9.new hx _ _ _ (M.sa y p hy),λs hs=>?_,λs t hs ht e=>?_,λs hs=>?_⟩
 ·by_cases e:s=r
  ·rw[e,bO];exact a9.none M.sa hx
  ·rw[bq e];exact M.nw s (hs.resolve_left e)
 ·by_cases e1:s=r
  ·by_cases e2:t=r
   ·rw[e1,e2]
   ·rw[e1,bO,bq e2]at e;exact Q4 e.symm (ne t (ht.resolve_left e2))
  ·by_cases e2:t=r
   ·rw[e2,bO,bq e1]at e;exact Q4 e (ne s (hs.resolve_left e1))
   ·rw[bq e1,bq e2]at e;exact M.inj s t (hs.resolve_left e1) (ht.resolve_left e2) e
 ·by_cases e:s=r
  ·rw[e,bO,bO,af]
  ·rw[bq e,bq e,ah (ne s (hs.resolve_left e))];exact M.av s (hs.resolve_left e)
theorem ba.base(M:ba H0 H D ad c){x:Addr}(hx:H x=none)(o:HO):ba (upd H0 x o) (upd H x o) D ad c:=by
 have ne:∀s,D s->ad s≠x:=λs hs z=>by have:=M.av s hs;rw[z,hx]at this;cases this
 refine⟨λy p hy=>?_,λs hs=>by rw[ah (ne s hs)];exact M.nw s hs,M.inj,λs hs=>by rw[ah (ne s hs)];exact M.av s hs⟩;by_cases e:y=x
 ·rw[e,af]at hy ⊢;exact hy
 ·rw[ah e]at hy ⊢;exact M.sa y p hy
theorem ba.more(M:ba H0 H D ad c){H':Hp}(s:a9 H H'):∃H0',a9 H0 H0'/\(∀x o,H x=none->H' x=some o->H0' x=some o)/\ba H0' H' D ad c:=by
 classical
 refine⟨λx=>if H x=none then H' x else H0 x,λx o h=>?_,λx o hx h=>(Q0 hx).trans h,λx o h=>?_,λr hr=>?_,M.inj,λr hr=>s _ _ (M.av r hr)⟩
 ·show(if H x=none then H' x else H0 x)=_;rw[qZ (by rw[M.sa _ _ h];exact λz=>by cases z)];exact h
 ·have h:(if H x=none then H' x else H0 x)=some o:=h;split at h
  ·exact h
  ·exact s _ _ (M.sa _ _ h)
 ·show(if H (ad r)=none then H' (ad r)else H0 (ad r))=_;rw[qZ (by rw[M.av r hr];exact λz=>by cases z)];exact M.nw r hr
theorem ba.less(M:ba H0 H D ad c){D':Rl->Prop}(h:∀r,D' r->D r){c':Rl->HO}(e:∀r,D' r->c r=c' r):ba H0 H D' ad c':=
 ⟨M.sa,λr hr=>M.nw r (h r hr),λr s hr hs=>M.inj r s (h r hr) (h s hs),λr hr=>by rw[<- e r hr];exact M.av r (h r hr)⟩
end
structure PlC where
 b:Addr
 dx:Addr
 y:Addr
 dy:Addr
 la:Addr
 lq:Addr
 dl:Addr
 pc:Addr
 dq:Nat->Addr
 qo:Nat->Addr
 us:List V
 pv:List V
 n:Nat
 nl:Nat
 prt:Nat->PR
 ls:Nat->Option Int
 pace:List (List Int)
structure PlB(a:Adr)(H0:Hp)(C:PlC):Prop where
 yo:H0 C.y=some (.ins a.or C.dy [("lengths",.ref C.la),("queues",.ref C.lq)])
 la:H0 C.la=some (.lst ((List.range C.nl).map λi=>cX (C.ls i)))
 lq:H0 C.lq=some (.lst ((List.range C.nl).map λi=>V.ref (C.qo i)))
 dl:H0 C.dl=some (.lst C.us)
 du:∀x,x<C.n->∃v,C.us[x]?=some v/\RPt a H0 v (C.prt x)
 pc:H0 C.pc=some (.lst C.pv)
 pr:RIs H0 C.pv C.pace
 ok:∀x,x<C.n->(C.prt x).ok/\(C.prt x).fit C.nl
 n:C.n<60
 nl:C.nl<=1000
 pl:C.pace.length<=1000
 pb:∀r∈C.pace,r.length<=1000
theorem PlB.same{a:Adr}{H H':Hp}{C:PlC}(B:PlB a H C)(s:a9 H H'):PlB a H' C:=
 ⟨s _ _ B.yo,s _ _ B.la,s _ _ B.lq,s _ _ B.dl,λx hx=>let ⟨v,e,h⟩:=B.du x hx;⟨v,e,h.same s⟩,s _ _ B.pc,B.pr.same s,B.ok,B.n,B.nl,B.pl,B.pb⟩
def plN:List Str:=["yard","doers","pace","spare","log","held","takings","givers","takers","without_room","without_thing"]
def plV(C:PlC)(ad:Rl->Addr)(sp:Nat):List V:=[.ref C.y,.ref C.dl,.ref C.pc,.int sp,.ref (ad .lg),.ref (ad .hl),.ref (ad .tl),.ref (ad .gd),.ref (ad .tk),.ref (ad .wrl),.ref (ad .wtl)]
def plO(a:Adr)(C:PlC)(ad:Rl->Addr)(sp:Nat):HO:=.ins a.gt C.dx (plN.zip (plV C ad sp))
def cnP(a:Adr)(C:PlC)(ad:Rl->Addr)(hd:Nat->Addr)(lgv:List V)(S:PlS):Rl->HO
 |.b=>plO a C ad S.sp
 |.lg=>.lst lgv
 |.hl=>.lst ((List.range C.n).map λx=>V.ref (hd x))
 |.tl=>.lst ((List.range C.n).map λx=>V.int (S.tks x))
 |.gd=>.dK (S.gv.map λkv=>(Sum.inl kv.1,V.ref (ad (.gv kv.1))))
 |.tk=>.lst (ay S.tr)
 |.wrl=>.lst ((List.range C.nl).map λi=>V.ref (ad (.wr i)))
 |.wtl=>.lst ((List.range C.nl).map λi=>V.ref (ad (.wt i)))
 |.qo i=>.ins a.ld (C.dq i) [("laid",.ref (ad (.ql i))),("gone",.int (S.st i).2)]
 |.ql i=>.lst ((S.st i).1.map V.int)
 |.wr i=>.lst (ay (S.wr i))
 |.wt i=>.lst (ay (S.wt i))
 |.gv k=>.lst (ay (atG S.gv k))
def dmP(nl:Nat)(ks:List Int):Rl->Prop
 |.qo i=>i<nl
 |.ql i=>i<nl
 |.wr i=>i<nl
 |.wt i=>i<nl
 |.gv k=>k∈ks
 |_=>True
inductive REs(H:Hp):List V->List Ent->Prop
 |nil:REs H [] []
 |cons {p l:Addr}{vs us:List V}{e:Ent}{es:List Ent}:H p=some (.tup [.int e.now,.int e.part,.str (if e.took then "took" else "gave"),.ref l])->H l=some (.lst us)->RPs H us e.hs->REs H vs es->REs H (.ref p::vs) (e::es)
theorem REs.same{H H':Hp}(s:a9 H H'):∀{vs:List V}{es:List Ent},REs H vs es->REs H' vs es
 |_,_,.nil=>.nil
 |_,_,.cons a b c r=>.cons (s _ _ a) (s _ _ b) (c.same s) (REs.same s r)
theorem REs.snoc{H:Hp}{p l:Addr}{us:List V}{e:Ent}(h1:H p=some (.tup [.int e.now,.int e.part,.str (if e.took then "took" else "gave"),.ref l]))(h2:H l=some (.lst us))(h3:RPs H us e.hs):∀{vs:List V}{es:List Ent},REs H vs es->REs H (vs++[.ref p]) (es++[e])
 |_,_,.nil=>.cons h1 h2 h3 .nil
 |_,_,.cons a b c r=>.cons a b c (REs.snoc h1 h2 h3 r)
theorem REs.len{H:Hp}:∀{vs:List V}{es:List Ent},REs H vs es->vs.length=es.length
 |_,_,.nil=>rfl
 |_,_,.cons _ _ _ r=>congrArg (·+1) (REs.len r)
structure PlH(a:Adr)(H0 H:Hp)(C:PlC)(ad:Rl->Addr)(hd:Nat->Addr)(lgv:List V)(S:PlS):Prop where
 own:ba H0 H (dmP C.nl (aF S.gv)) ad (cnP a C ad hd lgv S)
 b:ad .b=C.b
 qo:∀i,i<C.nl->ad (.qo i)=C.qo i
 hd:∀x,x<C.n->∃vs,H0 (hd x)=some (.lst vs)/\RPs H0 vs (S.held x)
 lg:REs H0 lgv S.lg
structure cy(C:PlC)(k:Nat)(S:PlS):Prop where
 st:∀i,(S.st i).1.length+k<=10000000/\(S.st i).2<=(S.st i).1.length
 lg:S.lg.length+k<=10000000
 gv:S.gv.length+k<=10000000
 on:∀i,∀v∈(S.st i).1,OnW v
 hn:∀x,x<C.n->(∀p∈S.held x,0<=p.1/\p.1<C.nl/\OnW p.2)/\(S.held x).length<=10/\((S.held x).map λp=>p.1.toNat).Nodup
structure Gd(C:PlC)(k:Nat)(rem:List Nat)(S:PlS):Prop where
 loc:∃loc,aM C.n loc rem S
 cap:cy C k S
def bB(S:PlS):Nat:=130 * (3 * S.sp+S.gv.length)
inductive nr(a:Adr)(vs:List V)(H:Hp)(Q:VK)(E:XK):Prop
 |mk (H0:Hp) (C:PlC) (ad:Rl->Addr) (hd:Nat->Addr) (lgv:List V) (S:PlS) (x:Nat) (h0_:vs=[.ref C.b,.int x]) (h1_:PlB a H0 C) (h2_:PlH a H0 H C ad hd lgv S) (h3_:x<C.n) (h4_:Q (.int (bI C.pace x (S.tks x))) H):nr a vs H Q E
inductive nC(a:Adr)(vs:List V)(H:Hp)(Q:VK)(E:XK):Prop
 |mk (H0:Hp) (C:PlC) (ad:Rl->Addr) (hd:Nat->Addr) (lgv:List V) (S:PlS) (t:Int) (l:Addr) (ps:List Nat) (h0_:vs=[.ref C.b,.int t,.ref l]) (h1_:PlB a H0 C) (h2_:PlH a H0 H C ad hd lgv S) (h3_:H l=some (.lst (ay ps))) (h4_:(∀k∈aF S.gv,l≠ad (.gv k))) (h5_:S.gv.length<10000000) (h6_:ps.length<=1000) (h7_:(∀kv∈S.gv,kv.2.length<=1000)) (h8_:(aF S.gv).Nodup /\
 ∀H' ad',PlH a H0 H' C ad' hd lgv { S with gv:=bc S.gv t ps }->(∀r,(∀k,r≠.gv k)->ad' r=ad r)->Q .non H'):nC a vs H Q E
inductive nu(a:Adr)(vs:List V)(H:Hp)(Q:VK)(E:XK):Prop
 |mk (H0:Hp) (C:PlC) (ad:Rl->Addr) (hd:Nat->Addr) (lgv:List V) (S:PlS) (now:Int) (x:Nat) (rem:List Nat) (h0_:vs=[.ref C.b,.int now,.int x]) (h1_:PlB a H0 C) (h2_:PlH a H0 H C ad hd lgv S) (h3_:Gd C 20 (x::rem) S /\
 ∀H0' H' ad' lgv',a9 H0 H0'->PlH a H0' H' C ad' hd lgv' (cu C.ls S now x)->Q .non H'):nu a vs H Q E
inductive nj(a:Adr)(vs:List V)(H:Hp)(Q:VK)(E:XK):Prop
 |mk (H0:Hp) (C:PlC) (ad:Rl->Addr) (hd:Nat->Addr) (lgv:List V) (S:PlS) (now:Int) (x:Nat) (rem:List Nat) (h0_:vs=[.ref C.b,.int now,.int x]) (h1_:PlB a H0 C) (h2_:PlH a H0 H C ad hd lgv S) (h3_:Gd C 20 (x::rem) S /\
 (∀i,cY S (aq S (C.prt x))=some i->∀H0' H',a9 H0 H0'->PlH a H0' H' C ad hd lgv (fX S i.toNat x)->Q (.bl true) H') /\
 (cY S (aq S (C.prt x))=none->S.sp=0->∀H0' H',a9 H0 H0'->PlH a H0' H' C ad hd lgv S->Q (.bl false) H') /\
 (cY S (aq S (C.prt x))=none->S.sp≠0->∀H0' H' ad' hd' lgv',a9 H0 H0'->PlH a H0' H' C ad' hd' lgv' (aU (C.prt x) C.pace S now x)->Q (.bl true) H')):nj a vs H Q E
def gM(C:PlC)(S S':PlS)(q:Bool->Prop):Prop:=(br C.ls C.prt C.pace S .top S'->S'.gv=[]->q true)/\∀k x r,br C.ls C.prt C.pace S (.tak k (x::r)) S'->cY S' (aq S' (C.prt x))=none->S'.sp=0->q false
inductive ni(a:Adr)(vs:List V)(H:Hp)(Q:VK)(E:XK):Prop
 |mk (H0:Hp) (C:PlC) (ad:Rl->Addr) (hd:Nat->Addr) (lgv:List V) (S:PlS) (h0_:vs=[.ref C.b]) (h1_:PlB a H0 C) (h2_:PlH a H0 H C ad hd lgv S) (h3_:Gd C (bB S+20) [] S) (h4_:∀H0' H' ad' hd' lgv' S',a9 H0 H0'->PlH a H0' H' C ad' hd' lgv' S'->gM C S S' (λb=>Q (.bl b) H')):ni a vs H Q E
inductive mx(vs:List V)(H:Hp)(Q:VK)(E:XK):Prop
 |mk (v:V) (l:Addr) (s:Sd) (xs:List Int) (h0_:vs=[v,.ref l]) (h1_:RS H v s) (h2_:s.ok xs.length) (h3_:H l=some (.lst (xs.map V.int))) (h4_:Q (.int (s.worth xs)) H):mx vs H Q E
inductive tX(vs:List V)(H:Hp)(Q:VK)(E:XK):Prop
 |mk (v:V) (l:Addr) (s:Sd) (xs:List Int) (h0_:vs=[v,.ref l]) (h1_:RS H v s) (h2_:s.ok xs.length) (h3_:H l=some (.lst (xs.map V.int))) (h4_:Q (.int (s.worth xs)) H):tX vs H Q E
inductive fe(a:Adr)(n:Nat)(vs:List V)(H:Hp)(Q:VK)(E:XK):Prop
 |mk (v:V) (l:Addr) (r:PR) (xs:List Int) (h0_:vs=[v,.ref l]) (h1_:r.kind=n) (h2_:RPt a H v r) (h3_:r.ok) (h4_:H l=some (.lst (xs.map V.int))) (h5_:xs.length=r.wide) (h6_:(∀x∈xs,OnW x)) (h7_:∀H' l' us,a9 H H'->H l'=none->H' l'=some (.lst us)->fQ H us->RPs H' us (r.made xs)->Q (.ref l') H'):fe a n vs H Q E
inductive mv(a:Adr)(vs:List V)(H:Hp)(Q:VK)(E:XK):Prop
 |mk (H0:Hp) (v:V) (r:PR) (h0_:vs=[v]) (h1_:a9 H0 H) (h2_:RR H0 v r) (h3_:∀H' p,a9 H H'->H p=none->(∀K0,a9 H0 K0->(∀x o,H x=none->H' x=some o->K0 x=some o)->RPt a K0 (.ref p) r)->Q (.ref p) H'):mv a vs H Q E
inductive gT(a:Adr)(m:Bool)(vs:List V)(H:Hp)(Q:VK)(E:XK):Prop
 |mk (C:PlC) (S:PlS) (v:V) (r:PR) (qs:List (Addr×Addr×Addr)) (ls:List (Option Int)) (h0_:vs=[v,.ref C.y]) (h1_:decide (r.kind=3)=m) (h2_:RPt a H v r) (h3_:r.ok) (h4_:r.fit C.nl) (h5_:RY a H C.y C.dy C.la C.lq qs ((List.range C.nl).map S.st) ls) (h6_:∀H' t,a9 H H'->(H' t=some (.tup ((aq S r).map V.int)))->Q (.ref t) H'):gT a m vs H Q E
def RPc(H:Hp)(v:V)(pace:List (List Int)):Prop:=(v=.non/\pace=[])\/∃pc pv,v=.ref pc/\H pc=some (.lst pv)/\RIs H pv pace
inductive mO(K:W.Frag)(vs:List V)(H:Hp)(Q:VK)(E:XK):Prop
 |mk (l:Addr) (ns:List Int) (k:Int) (h0_:vs=[.ref l,.int k]) (h1_:SqL K H l (ns.map V.int)) (h2_:0<=k) (h3_:∀c:Int,Q (.int c) H):mO K vs H Q E
inductive mC(vs:List V)(H:Hp)(Q:VK)(E:XK):Prop
 |mk (c k:Int) (h0_:vs=[.int c,.int k]) (h1_:(0<=k/\k<=2147483647)) (h2_:∀m:Int,OnW m->Q (.int m) H):mC vs H Q E
inductive mN(vs:List V)(H:Hp)(Q:VK)(E:XK):Prop
 |mk (c k:Int) (h0_:vs=[.int c,.int k]) (h1_:(0<=k/\k<=1000)) (h2_:∀H' p t (x:Ln),a9 H H'->H' p=some (.tup [cX x.1,.ref t])->H' t=some (.tup (x.2.map V.int))->x.2.length<=4->(∀n∈x.2,OnW n)->Q (.ref p) H'):mN vs H Q E
inductive mF(vs:List V)(H:Hp)(Q:VK)(E:XK):Prop
 |mk (c k:Int) (h0_:vs=[.int c,.int k]) (h1_:(0<=k/\k<=1000)) (h2_:∀H' l (xs:List Int),a9 H H'->H l=none->H' l=some (.lst (xs.map V.int))->(∀x∈xs,0<=x)->xs.length<=4->Q (.ref l) H'):mF vs H Q E
inductive mI(K:W.Frag)(vs:List V)(H:Hp)(Q:VK)(E:XK):Prop
 |mk (l:Addr) (ns:List Int) (way:Int) (h0_:vs=[.ref l,.int way]) (h1_:SqL K H l (ns.map V.int)) (h2_:ns.length<=63) (h3_:(0<=way/\way<2147483647)) (h4_:∀H' v pace,a9 H H'->RPc H' v pace->pace.length<=16->(∀r∈pace,r.length<=4/\∀x∈r,0<=x)->Q v H'):mI K vs H Q E
inductive fZ(K:W.Frag)(vs:List V)(H:Hp)(Q:VK)(E:XK):Prop
 |mk (a:Addr) (ns:List Int) (h0_:vs=[.ref a]) (h1_:SqL K H a (ns.map V.int)) (h2_:ns.length<=63) (h3_:(∀n∈ns,Builtin.Int.intBits n<=2 ^ 20)) (h4_:iU H) (h5_:∀H',Q (.bl true) H'):fZ K vs H Q E
theorem ln1:1<=sizeLine:=Qz
theorem ln2:2<=sizeLine:=Qz
theorem xZ:3<=sizeLine:=Qz
theorem ln4:4<=sizeLine:=Qz
theorem ln5:5<=sizeLine:=Qz
theorem ln6:6<=sizeLine:=Qz
section
variable {P:Program}{w:World}{K:W.Frag}{mg:Str->Option Value}{base:Heap}{a:Adr}
theorem gC{v u:V}:List.lookup ("laid":Str) [(("laid":Str),v),("gone",u)]=some v:=cV
theorem gD{v u:V}:List.lookup ("gone":Str) [(("laid":Str),v),("gone",u)]=some u:=(aQ Qy).trans cV
theorem fH{k:Str}{v u:V}(h:((k == ("laid":Str)) || (k == ("gone":Str)))=false):List.lookup k [(("laid":Str),v),("gone",u)]=none:=by
 rw[Bool.or_eq_false_iff]at h;rw[aQ h.1,aQ h.2]
 rfl
theorem xW{v u:V}:List.lookup ("lengths":Str) [(("lengths":Str),v),("queues",u)]=some v:=cV
theorem gB{v u:V}:List.lookup ("queues":Str) [(("lengths":Str),v),("queues",u)]=some u:=(aQ Qy).trans cV
theorem eV{k:Str}{v u:V}(h:((k == ("lengths":Str)) || (k == ("queues":Str)))=false):List.lookup k [(("lengths":Str),v),("queues",u)]=none:=by
 rw[Bool.or_eq_false_iff]at h;rw[aQ h.1,aQ h.2]
 rfl
theorem x8(T:Tx P w K mg a):aC P w K mg base CX0 1 a.At a.Au ["self","things"] (nh K a):=by
 refine T.Do.ok uD (λvs H Q E h=>?_) (λcdv A outer s H vs Q E hr h=>?_)
 ·obtain⟨_,_,_,_,rfl,_⟩:=h
  rfl
 obtain⟨p,dx,t,xs,rfl,hp,ht,k⟩:=h
 refine⟨_,(ae (bp (pq 0) (fD jX U T.zW PyProof.Rows.Boot.«list» (a8 (pq 1) ac)) U)
  (ai (bp (pq 0) aa U))),?_⟩
 refine⟨_,U,t,_,U,.inr ht,λl hl=>?_⟩;have ne:p≠l:=λz=>by rw[z,hl]at hp;cases hp
 refine⟨_,U,p,a.ld,dx,[],U,by rw[ah ne];exact hp,T.wE,T.A8,by simp,?_⟩;rw[c8 [] U Qy,Qk];refine⟨_,U,p,a.ld,dx,_,U,af,T.wE,T.A4,by simp,?_⟩;rw[c8 ["laid"] U Qy,cL];exact k l hl
theorem oX(T:Tx P w K mg a):aC P w K mg base CX0 1 a.Av a.Aw ["self"] (mZ a):=by
 refine T.Dr.ok uz (λvs H Q E h=>?_) (λcdv A outer s H vs Q E hr h=>?_)
 ·obtain⟨_,_,rfl,_⟩:=h
  rfl
 obtain⟨q,st,rfl,⟨h1,h2,h3,h4⟩,k⟩:=h;refine⟨_,(ai (au (ag gp (bz c5 U T.wp Q7 (a8 (az (pq 0) U) ac)) (az (pq 0) U)))),?_⟩;refine⟨_,U,q.1,_,_,_,_,U,h1,T.wE,T.A8,gC,q.2.2,_,U,.inl (SqL.of h2),?_⟩;refine⟨_,U,q.1,_,_,_,_,U,h1,T.wE,T.A4,gD,_,_,U,U,?_⟩;rw[q9];exact k
theorem x6(T:Tx P w K mg a):aC P w K mg base CX0 2 a.Ax a.Ay ["self"] (nc a):=by
 refine T.Ds.ok uC (λvs H Q E h=>?_) (λcdv A outer s H vs Q E hr h=>?_)
 ·obtain⟨_,_,rfl,_⟩:=h
  rfl
 obtain⟨q,st,rfl,rq,k⟩:=h;refine⟨_,(ai (au (dU (aO i4 (eO (pq 0) T.wE T.D5 (oX T) (hr.mono Qz) T.Cv .nil ar) aa (aJ _)) (am aV (az (pq 0) U) (az (pq 0) U) Oy) eN))),?_⟩;obtain⟨h1,h2,h3,h4⟩:=id rq;refine⟨_,U,q.1,_,_,U,h1,fH Qy,q,st,U,rq,_,_,U,U,_,U,?_⟩;unfold iI at k;refine bh (λc=>?_) (λc=>?_)
 ·have lt:st.2<st.1.length:=by
   have:=Qc c;omega
  rw[List.drop_eq_getElem_cons lt]at k;have e1:atI (st.1.map V.int) (st.2:Int)=some (.int st.1[st.2]):=bP (by rw[qE,qc lt];rfl);exact⟨_,U,q.1,_,_,_,_,U,h1,T.wE,T.A8,gC,_,U,q.1,_,_,_,_,U,h1,T.wE,T.A4,gD,q.2.2,_,_,_,U,U,SqL.of h2,e1,k⟩
 ·have le:st.1.length<=st.2:=by
   have:=c;simp at this;omega
  rw[List.drop_of_length_le le]at k;exact k
theorem yd{xs:List Int}(h:xs.length<=10000000):(xs.map V.int).length<sizeLine:=by
 have:(10000000:Nat)<sizeLine:=Qz;rw[q9];omega
theorem wZ(T:Tx P w K mg a):aC P w K mg base CX0 1 a.Az a.AA ["self","thing"] (n9 a):=by
 refine T.Dv.ok uB (λvs H Q E h=>?_) (λcdv A outer s H vs Q E hr h=>?_)
 ·obtain⟨_,_,_,rfl,_⟩:=h
  rfl
 obtain⟨q,st,x,rfl,⟨h1,h2,h3,h4⟩,k⟩:=h;refine⟨_,(ai (bM (cF qg qv qw d8 (az (pq 0) U) (a8 (pq 1) ac)))),?_⟩;refine⟨_,U,q.1,_,_,_,_,U,h1,T.wE,T.A8,gC,.inl ⟨U,_,SqL.of h2⟩,_,U,q.2.2,_,_,U,U,h2,yd h4,?_⟩;rw[qO]at k;exact k
theorem wX(T:Tx P w K mg a):aC P w K mg base CX0 1 a.AB a.AC ["self"] (mY a):=by
 refine T.Dx.ok nV (λvs H Q E h=>?_) (λcdv A outer s H vs Q E hr h=>?_)
 ·obtain⟨_,_,_,rfl,_⟩:=h
  rfl
 obtain⟨q,st,x,rfl,⟨h1,h2,h3,h4⟩,hx,k⟩:=h
 refine⟨_,(ae (aK (i:=1) nV.nd U Oi (am aV (az (pq 0) U) (az (pq 0) U) Oy))
  (ae (bp (pq 0) (ag bE (az (pq 0) U) aa) U)
  (ai (au (pq 1))))),?_⟩
 have e1:atI (st.1.map V.int) (st.2:Int)=some (.int x):=bP (by rw[qE,hx];rfl);refine⟨_,U,q.1,_,_,_,_,U,h1,T.wE,T.A8,gC,_,U,q.1,_,_,_,_,U,h1,T.wE,T.A4,gD,q.2.2,_,_,_,U,U,SqL.of h2,e1,?_⟩;refine⟨_,U,q.1,_,_,_,_,U,h1,T.wE,T.A4,gD,_,_,U,U,_,U,q.1,_,_,_,U,h1,T.wE,T.A4,by simp,?_⟩;refine⟨_,U,?_⟩
 have e2:bo (("gone":Str)) (V.int ((st.2:Int)+1)) [(("laid":Str),V.ref q.2.2),(("gone":Str),V.int st.2)]=[(("laid":Str),V.ref q.2.2),(("gone":Str),V.int ((st.2+1:Nat):Int))]:=by
  rw[bo,qZ Qy,bo,Q0 U]
  rfl
 rw[e2];exact k
theorem wY(T:Tx P w K mg a):aC P w K mg base CX0 1 a.AD a.AE ["self"] (n8 a):=by
 refine T.Dz.ok uA (λvs H Q E h=>?_) (λcdv A outer s H vs Q E hr h=>?_)
 ·obtain⟨_,_,rfl,_⟩:=h
  rfl
 obtain⟨q,st,rfl,⟨h1,h2,h3,h4⟩,k⟩:=h;refine⟨_,(ai (au (df g9 (az (pq 0) U) (bQ (az (pq 0) U)) dR))),?_⟩;refine⟨_,U,q.1,_,_,_,_,U,h1,T.wE,T.A8,gC,_,U,q.1,_,_,_,_,U,h1,T.wE,T.A4,gD,_,U,q.2.2,_,U,SqL.of h2,λl hl=>?_⟩
 have e:c7 (st.1.map V.int) (some (st.2:Int)) none=(st.1.drop st.2).map V.int:=by
  unfold c7;rw[HT.sIx_nat];have e2:HT.sIx (st.1.map V.int).length (st.1.map V.int).length none=(st.1.map V.int).length:=U;rw[e2,q9,Nat.min_eq_left h3,List.map_drop,List.take_of_length_le (by rw[qY,q9];omega)]
 rw[e];exact k l hl
theorem RQ.same{H H':Hp}{q:Addr×Addr×Addr}{s:List Int×Nat}(e:a9 H H')(h:RQ a H q s):RQ a H' q s:=⟨e _ _ h.1,e _ _ h.2.1,h.2.2.1,h.2.2.2⟩
theorem RY.at{H:Hp}{y dx la lq:Addr}{qs:List (Addr×Addr×Addr)}{st:List (List Int×Nat)}{ls:List (Option Int)}(h:RY a H y dx la lq qs st ls){i:Int}{s:List Int×Nat}(h0:0<=i)(hs:st[i.toNat]?=some s):∃q,qs[i.toNat]?=some q/\RQ a H q s/\atI (qs.map λq=>V.ref q.1) i=some (.ref q.1):=by
 have lt:i.toNat<qs.length:=by
  have:=(qf.mp hs).1;have:=h.n;omega
 have e:qs[i.toNat]?=some qs[i.toNat]:=qc lt;have ei:i=(i.toNat:Int):=(Int.toNat_of_nonneg h0).symm;refine⟨_,e,h.q _ _ _ e hs,?_⟩;exact ef h0 (by rw[qE,e];rfl)
theorem wR(T:Tx P w K mg a):aC P w K mg base CX0 3 a.AO a.AQ ["self","line"] (mV a):=by
 refine T.DK.ok uw (λvs H Q E h=>?_) (λcdv A outer s H vs Q E hr h=>?_)
 ·obtain⟨_,_,_,_,_,_,_,_,_,rfl,_⟩:=h
  rfl
 obtain⟨y,dx,la,lq,qs,st,ls,i,s,rfl,ry,i0,hs,k⟩:=h;refine⟨_,(ai (au (eO (am aV (az (pq 0) U) (pq 1) Oy) T.wE T.EK (x6 T) (hr.mono Qz) T.Du .nil ar))),?_⟩;obtain⟨q,hq,rq,e⟩:=ry.at i0 hs;exact⟨_,U,y,_,_,_,_,U,ry.o,T.wT,T.A9,gB,_,U,lq,_,_,_,U,U,SqL.of ry.l,e,q.1,_,_,U,rq.1,fH Qy,q,s,U,rq,k⟩
theorem wQ(T:Tx P w K mg a):aC P w K mg base CX0 3 a.AR a.AS ["self","line","thing"] (mU a):=by
 refine T.DM.ok uv (λvs H Q E h=>?_) (λcdv A outer s H vs Q E hr h=>?_)
 ·obtain⟨_,_,_,_,_,_,_,_,_,_,_,rfl,_⟩:=h
  rfl
 obtain⟨y,dx,la,lq,qs,st,ls,i,x,q,s,rfl,ry,i0,hs,hq',k⟩:=h;refine⟨_,(ai (bM (cU (am aV (az (pq 0) U) (pq 1) Oy) T.wE T.EL (wZ T) (hr.mono Qz) T.Dw .nil ar (a8 (pq 2) ac)))),?_⟩;obtain⟨q2,hq,rq,e⟩:=ry.at i0 hs;rw[hq']at hq;cases hq;exact⟨_,U,y,_,_,_,_,U,ry.o,T.wT,T.A9,gB,_,U,lq,_,_,_,U,U,SqL.of ry.l,e,q.1,_,_,U,rq.1,fH Qy,_,U,q,s,x,U,rq,k⟩
theorem wM(T:Tx P w K mg a):aC P w K mg base CX0 3 a.AT a.AU ["self","line"] (mQ a):=by
 refine T.DO.ok ur (λvs H Q E h=>?_) (λcdv A outer s H vs Q E hr h=>?_)
 ·obtain⟨_,_,_,_,_,_,_,_,_,_,_,rfl,_⟩:=h
  rfl
 obtain⟨y,dx,la,lq,qs,st,ls,i,x,q,s,rfl,ry,i0,hs,hq',hx,k⟩:=h;refine⟨_,(ai (au (eO (am aV (az (pq 0) U) (pq 1) Oy) T.wE T.EM (wX T) (hr.mono Qz) T.Dy .nil ar))),?_⟩;obtain⟨q2,hq,rq,e⟩:=ry.at i0 hs;rw[hq']at hq;cases hq;exact⟨_,U,y,_,_,_,_,U,ry.o,T.wT,T.A9,gB,_,U,lq,_,_,_,U,U,SqL.of ry.l,e,q.1,_,_,U,rq.1,fH Qy,q,s,x,U,rq,hx,k⟩
theorem oW(T:Tx P w K mg a):aC P w K mg base CX0 2 a.AK a.AL ["self","line"] (mT a):=by
 refine T.DH.ok uu (λvs H Q E h=>?_) (λcdv A outer s H vs Q E hr h=>?_)
 ·obtain⟨_,_,_,_,_,_,_,_,_,rfl,_⟩:=h
  rfl
 obtain⟨y,dx,la,lq,qs,st,ls,i,s,rfl,ry,i0,hs,k⟩:=h;refine⟨_,(ai (au (eO (am aV (az (pq 0) U) (pq 1) Oy) T.wE T.D5 (oX T) (hr.mono Qz) T.Cv .nil ar))),?_⟩;obtain⟨q,hq,rq,e⟩:=ry.at i0 hs;exact⟨_,U,y,_,_,_,_,U,ry.o,T.wT,T.A9,gB,_,U,lq,_,_,_,U,U,SqL.of ry.l,e,q.1,_,_,U,rq.1,fH Qy,q,s,U,rq,k⟩
theorem wO(T:Tx P w K mg a):aC P w K mg base CX0 3 a.AM a.AN ["self","line"] (mS a):=by
 refine T.DI.ok nU (λvs H Q E h=>?_) (λcdv A outer s H vs Q E hr h=>?_)
 ·obtain⟨_,_,_,_,_,_,_,_,_,_,rfl,_⟩:=h
  rfl
 obtain⟨y,dx,la,lq,qs,st,ls,i,s,L,rfl,ry,i0,hs,hL,k⟩:=h
 refine⟨_,(ae (aK (i:=2) nU.nd U Oi (am aV (az (pq 0) U) (pq 1) Oy))
  (ai (au (oE (ij jV (pq 2) eN (aJ _)) (ig (ij fy (cU (pq 0) T.wT T.D6 (oW T) (hr.mono Qz) T.Cz .nil ar (a8 (pq 1) ac)) (pq 2) (aJ _))))))),?_⟩
 have e:atI (ls.map cX) i=some (cX L):=ef i0 (by rw[qE,hL];rfl);refine⟨_,U,y,_,_,_,_,U,ry.o,T.wT,T.D7,xW,_,U,la,_,_,_,U,U,SqL.of ry.w,e,?_⟩
 cases L with
 |none=>exact⟨_,U,U,_,U,bS U k⟩
 |some m=>exact⟨_,U,U,_,U,bj U ⟨_,U,y,_,_,U,ry.o,eV Qy,_,U,y,dx,la,lq,qs,st,ls,i,s,U,ry,i0,hs,_,U,_,_,U,U,k⟩⟩
theorem wN(T:Tx P w K mg a):aC P w K mg base CX0 3 a.AV a.AW ["self"] (mR a):=by
 refine T.DQ.ok ut (λvs H Q E h=>?_) (λcdv A outer s H vs Q E hr h=>?_)
 ·obtain⟨_,_,_,_,_,_,_,rfl,_⟩:=h
  rfl
 obtain⟨y,dx,la,lq,qs,st,ls,rfl,ry,few,k⟩:=h;refine⟨_,(ai (au (cs (k:=1) (Nc:=["queue"]) (js:=[]) (show aL (aj hV) ["self"] _ 1 ["queue"] []from aL.mk U (by decide +kernel) (by decide +kernel) (by decide +kernel) U (by decide +kernel)) U (c6 (az (pq 0) U)) (λ_ _ _ _ _=>(aP (i:=0) (show List.Nodup (["queue"]:List Str)from by decide +kernel) U Oi)) (λ_ _ _ _ _=>bX) (λ_ _ _ _ _=>(eO (pq 0) T.wE T.EN (wY T) (hr.mono Qz) T.DA .nil ar))))),?_⟩;have hl:=ry.l;have ql:(qs.map λq=>V.ref q.1).length=qs.length:=q9 _;refine⟨_,U,y,_,_,_,_,U,ry.o,T.wT,T.A9,gB,lq,U,⟨_,SqL.of hl⟩,?_⟩;refine dE (xs:=qs.map λq=>V.ref q.1) (λi ys σ H3=>(∃v,σ=[v])/\a9 H H3/\RIs H3 ys (dP (st.take i))/\fQ H ys) ⟨⟨none,U⟩,a9.refl _,.nil,λp h=>by simp at h⟩ ?_ (bf (m:=1000) Yd) ?_ ?_ ?_
 ·rintro i ys σ H3 _ ⟨_,_,r3,_⟩;rw[r3.len];unfold dP;rw[q9,qK];omega
 ·rintro i ys σ H3 ⟨_,s3,_⟩;exact SqL.of (s3 _ _ hl)
 ·rintro i x ys σ H3 hx ⟨⟨v,rfl⟩,s3,r3,an⟩;rw[qE]at hx;obtain⟨q,hq,rfl⟩:=qP.mp hx
  have li:i<st.length:=by
   have:=(qf.mp hq).1;have:=ry.n;omega
  have hs:st[i]?=some st[i]:=qc li;have rq:=(ry.q i q _ hq hs).same s3;refine⟨_,U,q.1,_,_,U,rq.1,fH Qy,q,_,U,rq,λl hl'=>⟨⟨_,U⟩,s3.trans (a9.new hl' _),?_,λp hp=>?_⟩⟩
  ·have tk:dP (st.take (i+1))=dP (st.take i)++[st[i].1.drop st[i].2]:=by
    unfold dP;rw[qr,hs,qO]
    rfl
   rw[tk];exact(r3.same (a9.new hl' _)).snoc af
  ·rcases qh.mp hp with hp|hp
   ·exact an p hp
   ·cases qS.mp hp;exact a9.none s3 hl'
 rintro ys σ3 H3 ⟨_,s3,r3,an⟩ l hl';rw[ql,ry.n,qH]at r3;exact k _ l ys (s3.trans (a9.new hl' _)) (a9.none s3 hl') af (r3.same (a9.new hl' _)) an
theorem wU(T:Tx P w K mg a):aC P w K mg base CX0 3 a.AI a.AJ ["self","lines"] (mW a):=by
 refine T.DF.ok ux (λvs H Q E h=>?_) (λcdv A outer s H vs Q E hr h=>?_)
 ·obtain⟨_,_,_,_,_,rfl,_⟩:=h
  rfl
 obtain⟨p,dx,l,us,xs0,rfl,hp,hl,hln,few,sm,k⟩:=h
 refine⟨_,(ae (bp (pq 0) (cs (k:=2) (Nc:=["length","first"]) (js:=[]) (show aL (aj gj) ["self","lines"] _ 2 ["length","first"] []from aL.mk U (by decide +kernel) (by decide +kernel) (by decide +kernel) U (by decide +kernel)) U (c6 (pq 1)) (λ_ _ _ _ _=>(fA 2 U (bN (aP (i:=0) (show List.Nodup (["length","first"]:List Str)from by decide +kernel) U Oi) (bN (aP (i:=1) (show List.Nodup (["length","first"]:List Str)from by decide +kernel) U Oi) dc)))) (λ_ _ _ _ _=>bX) (λ_ _ _ _ _=>(pq 0))) U)
  (ai (bp (pq 0) (cs (k:=2) (Nc:=["length","first"]) (js:=[]) (show aL (aj gj) ["self","lines"] _ 2 ["length","first"] []from aL.mk U (by decide +kernel) (by decide +kernel) (by decide +kernel) U (by decide +kernel)) U (c6 (pq 1)) (λ_ _ _ _ _=>(fA 2 U (bN (aP (i:=0) (show List.Nodup (["length","first"]:List Str)from by decide +kernel) U Oi) (bN (aP (i:=1) (show List.Nodup (["length","first"]:List Str)from by decide +kernel) U Oi) dc)))) (λ_ _ _ _ _=>bX) (λ_ _ _ _ _=>(eP T.EJ (x8 T) (hr.mono Qz) U T.EI T.Dp .nil ar (a8 (pq 1) ac)))) U))),?_⟩
 have ul:=hln.len;refine⟨_,U,l,U,⟨_,SqL.of hl⟩,?_⟩;refine dE (xs:=us) (λi ys σ H3=>(∃v v',σ=[v,v'])/\H3=H/\ys=(xs0.take i).map λx=>cX x.1) ⟨⟨none,none,U⟩,U,U⟩ ?_ (bf (m:=1000) Yd) ?_ ?_ ?_
 ·rintro i ys σ H3 _ ⟨_,_,rfl⟩;rw[q9,qK];omega
 ·rintro i ys σ H3 ⟨_,rfl,_⟩;exact SqL.of hl
 ·rintro i x ys σ H3 hx ⟨⟨v,v',rfl⟩,rfl,hy⟩;obtain⟨px,t,xl,rfl,hi,h1,h2⟩:=hln.at i x hx;refine⟨px,_,U,SqT.of h1,U,_,_,U,_,_,U,U,?_⟩;exact⟨_,U,⟨_,_,U⟩,U,by rw[hy,qr,hi,qO];rfl⟩
 rintro ys σ3 H3 ⟨_,rfl,hy⟩ la hla;rw[ul,qH]at hy;have nla:p≠la:=λz=>by rw[z,hla]at hp;cases hp
 have s1:a9 H3 (upd H3 la (.lst ys)):=a9.new hla _;refine⟨_,U,p,a.or,dx,[],U,by rw[ah nla];exact hp,T.wT,T.D7,by simp,?_⟩;rw[c8 [] U Qy,Qk]
 have keep:∀b o,b≠p->H3 b=some o->(upd (upd H3 la (.lst ys)) p (.ins a.or dx [("lengths",.ref la)])) b=some o:=λb o nb hb=>by
  rw[ah nb];exact s1 _ _ hb
 have new:∀b,(upd (upd H3 la (.lst ys)) p (.ins a.or dx [("lengths",.ref la)])) b=none->H3 b=none/\b≠p/\b≠la:=λb hb=>by
  have nb:b≠p:=λz=>by rw[z,af]at hb;cases hb
  have nl:b≠la:=λz=>by rw[ah nb,z,af]at hb;cases hb
  rw[ah nb,ah nl]at hb;exact⟨hb,nb,nl⟩
 have hp4:(upd (upd H3 la (.lst ys)) p (.ins a.or dx [("lengths",.ref la)])) p=some (.ins a.or dx [("lengths",.ref la)]):=af;have ntup:∀b xs,H3 b=some (.tup xs)->b≠p:=λb xs hb z=>by rw[z,hp]at hb;cases hb
 have nlst:∀b xs,H3 b=some (.lst xs)->b≠p:=λb xs hb z=>by rw[z,hp]at hb;cases hb
 have hla4:(upd (upd H3 la (.lst ys)) p (.ins a.or dx [("lengths",.ref la)])) la=some (.lst ys):=by rw[ah (Ne.symm nla)];exact af
 generalize upd (upd H3 la (.lst ys)) p (.ins a.or dx [("lengths",.ref la)])=H4 at keep new hp4 hla4 ⊢;have hl4:H4 l=some (.lst us):=keep _ _ (nlst _ _ hl) hl;refine⟨_,U,l,U,⟨_,SqL.of hl4⟩,?_⟩
 refine dE (xs:=us) (λi ys σ H5=>(∃v v',σ=[v,v'])/\a9 H4 H5/\∃qs:List (Addr×Addr×Addr),ys=qs.map (λq=>V.ref q.1)/\qs.length=(xs0.take i).length/\(∀(j:Nat) q s,qs[j]?=some q->(cw (xs0.take i))[j]?=some s->RQ a H5 q s)/\(qs.map λq=>q.2.2).Nodup/\(qs.map λq=>q.1).Nodup/\∀q∈qs,H4 q.2.2=none/\H4 q.1=none)
  ⟨⟨none,none,U⟩,a9.refl _,[],U,U,λj q s h=>by simp at h,List.nodup_nil,List.nodup_nil,λq h=>by simp at h⟩ ?_ (bf (m:=1000) Yd) ?_ ?_ ?_
 ·rintro i ys σ H5 _ ⟨_,_,qs,rfl,h,_⟩;rw[q9,h,qK];omega
 ·rintro i ys σ H5 ⟨_,s5,_⟩;exact SqL.of (s5 _ _ hl4)
 ·rintro i x ys σ H5 hx ⟨⟨v,v',rfl⟩,s5,qs,rfl,ql,hq,nd1,nd2,fr⟩;obtain⟨px,t,xl,rfl,hi,h1,h2⟩:=hln.at i x hx;have h1':=s5 _ _ (keep _ _ (ntup _ _ h1) h1);have h2':=s5 _ _ (keep _ _ (ntup _ _ h2) h2);refine⟨px,_,U,SqT.of h1',U,_,_,U,_,_,U,U,?_⟩;refine⟨_,U,λo dq ho hdq ndo=>?_⟩;have nt:t≠dq:=λz=>by rw[z,hdq]at h2';cases h2'
  have nt':t≠o:=λz=>by rw[z,ho]at h2';cases h2'
  refine⟨o,dq,t,xl.2,U,af,SqT.of (by rw[ah nt',ah nt];exact h2'),λll hll=>⟨U,?_⟩⟩;have nlo:ll≠o:=λz=>by rw[z,af]at hll;cases hll
  have nld:ll≠dq:=λz=>by rw[ah nlo,z,af]at hll;cases hll
  have hll5:H5 ll=none:=by rw[ah nlo,ah nld]at hll;exact hll
  have s6:a9 H5 (upd (upd (upd (upd H5 dq (.own o)) o (.ins a.ld dq [])) ll (.lst (xl.2.map V.int))) o (.ins a.ld dq [("laid",.ref ll),("gone",.int 0)])):=λb ob hb=>by
   have n1:b≠o:=λz=>by rw[z,ho]at hb;cases hb
   have n2:b≠dq:=λz=>by rw[z,hdq]at hb;cases hb
   have n3:b≠ll:=λz=>by rw[z,hll5]at hb;cases hb
   rw[ah n1,ah n3,ah n1,ah n2];exact hb
  have none4:∀b,H5 b=none->H4 b=none:=λb hb=>a9.none s5 hb
  have inH5:∀q∈qs,(∃z,H5 q.1=some z)/\∃z,H5 q.2.2=some z:=λq hm=>by
   obtain⟨j,hj,ej⟩:=List.mem_iff_getElem.mp hm;have e1:qs[j]?=some q:=by rw[qc hj,ej]
   have lt:j<(cw (xs0.take i)).length:=by unfold cw;rw[q9,<- ql];exact hj
   have r:=hq j q _ e1 (qc lt);exact⟨⟨_,r.1⟩,_,r.2.1⟩
  have rnew:RQ a (upd (upd (upd (upd H5 dq (.own o)) o (.ins a.ld dq [])) ll (.lst (xl.2.map V.int))) o (.ins a.ld dq [("laid",.ref ll),("gone",.int 0)])) (o,dq,ll) (xl.2,0):=
   ⟨af,by rw[ah nlo];exact af,qt _,qy (sm xl (qz hi)) Qz⟩
  refine⟨⟨_,_,U⟩,s5.trans s6,qs++[(o,dq,ll)],by rw[qO];rfl,by rw[qr,hi];simp[ql],λj q s hj hs=>?_,?_,?_,λq hm=>?_⟩
  ·have bt:cw (xs0.take (i+1))=cw (xs0.take i)++[(xl.2,0)]:=by unfold cw;rw[qr,hi,qO];rfl
   have bl:(cw (xs0.take i)).length=qs.length:=by unfold cw;rw[q9,ql]
   rw[bt]at hs;by_cases lt:j<qs.length
   ·rw[Q5 lt]at hj;rw[Q5 Yd]at hs;exact(hq j q s hj hs).same s6
   ·rw[qL Yd]at hj hs;rw[bl]at hs
    cases ej:j-qs.length with
    |zero=>
     rw[ej]at hj hs;cases qJ hj;cases qJ hs;exact rnew
    |succ n=>rw[ej]at hj;simp at hj
  ·rw[qO,List.nodup_append];refine⟨nd1,by simp,λx hx y hy z=>?_⟩;obtain⟨q,hm,rfl⟩:=List.mem_map.mp hx;obtain⟨_,w',hw'⟩:=inH5 q hm;simp at hy;subst hy;rw[z,hll5]at hw';cases hw'
  ·rw[qO,List.nodup_append];refine⟨nd2,by simp,λx hx y hy z=>?_⟩;obtain⟨q,hm,rfl⟩:=List.mem_map.mp hx;obtain⟨⟨w',hw'⟩,_⟩:=inH5 q hm;simp at hy;subst hy;rw[z,ho]at hw';cases hw'
  ·rcases qh.mp hm with hm|hm
   ·exact fr q hm
   ·rw[qS.mp hm];exact⟨none4 _ hll5,none4 _ ho⟩
 rintro ys2 σ5 H5 ⟨_,s5,qs,rfl,ql,hq,nd1,nd2,fr⟩ lq hlq;rw[ul,qH]at ql hq;have s6:=s5.trans (a9.new hlq (.lst (qs.map λq=>V.ref q.1)))
 have nq:p≠lq:=λz=>by
  have:=s5 _ _ hp4;rw[z,hlq]at this;cases this
 refine⟨_,U,p,a.or,dx,_,U,s6 _ _ hp4,T.wT,T.A9,by simp,?_⟩;rw[c8 ["lengths"] U Qy];have up:∀b o,b≠p->(upd H5 lq (.lst (qs.map λq=>V.ref q.1))) b=some o->(upd (upd H5 lq (.lst (qs.map λq=>V.ref q.1))) p (.ins a.or dx ([(("lengths":Str),V.ref la)]++[(("queues":Str),V.ref lq)]))) b=some o:=λb o nb hb=>by rw[ah nb];exact hb
 refine k _ la lq qs (λb o nb hb=>up _ _ nb (s6 _ _ (keep _ _ nb hb))) ⟨af,up _ _ (Ne.symm nq) af,by rw[ql];unfold cw;rw[q9],λi q s hi hs=>?_,?_,by unfold cw;rw[q9,q9]⟩ nd1 nd2 (λq hm=>⟨(new _ (fr q hm).1).1,(new _ (fr q hm).2).2.1,(new _ (fr q hm).2).1⟩) ⟨(new _ (a9.none s5 hlq)).1,?_⟩ ⟨hla,?_⟩
 ·have r:=(hq i q s hi hs).same (a9.new hlq (.lst (qs.map λq=>V.ref q.1)));have fq:=fr q (qz hi);exact⟨up _ _ (new _ fq.2).2.1 r.1,up _ _ (new _ fq.1).2.1 r.2.1,r.2.2⟩
 ·refine up _ _ (Ne.symm nla) (s6 _ _ ?_);rw[hla4,hy,List.map_map]
  rfl
 ·intro hm;obtain⟨q,hm,e⟩:=List.mem_map.mp hm;obtain⟨j,hj,ej⟩:=List.mem_iff_getElem.mp hm;have lt:j<(cw xs0).length:=by unfold cw;rw[q9,<- ql];exact hj
  have r:=hq j q _ (by rw[qc hj,ej]) (qc lt);have:=r.2.1;rw[e,hlq]at this;cases this
 ·intro hm;obtain⟨q,hm,e⟩:=List.mem_map.mp hm;have:=(new _ (fr q hm).1).2.2;exact this e
theorem ip(T:Tx P w K mg a):aC P w K mg base CX0 1 a.Ag a.AX ["self","ins"] (nF a):=by
 refine T.DS.ok uJ (λvs H Q E h=>?_) (λcdv A outer s H vs Q E hr h=>?_)
 ·obtain⟨_,_,_,_,rfl,_⟩:=h
  rfl
 obtain⟨p,C,dx,u,rfl,hp,hC,k⟩:=h;refine⟨_,(ai (bp (pq 0) (pq 1) U)),?_⟩
 have cn:Cls K C/\aY K C "ins":=by
  rcases hC with rfl|rfl|rfl|rfl
  ·exact⟨T.A0,T.D8⟩
  ·exact⟨T.zU,T.Dd⟩
  ·exact⟨T.xz,T.Dg⟩
  ·exact⟨T.zS,T.Al⟩
 exact⟨_,U,_,U,p,C,dx,[],U,hp,cn.1,cn.2,by simp,k⟩
theorem xh(T:Tx P w K mg a):aC P w K mg base CX0 2 a.AZ a.B0 ["self","ins","outs","route"] (nE a):=by
 refine T.DU.ok uH (λvs H Q E h=>?_) (λcdv A outer s H vs Q E hr h=>?_)
 ·obtain⟨_,_,_,_,_,rfl,_⟩:=h
  rfl
 obtain⟨p,dx,u,v,x,rfl,hp,k⟩:=h
 refine⟨_,(ae (bM (ik U T.Ak T.As (ip T) (hr.mono Qz) T.Ah .nil ar (a8 (pq 0) (a8 (pq 1) ac))))
  (ae (bp (pq 0) (pq 2) U)
  (ai (bp (pq 0) (pq 3) U)))),?_⟩
 refine⟨_,U,_,U,p,a.wS,dx,u,U,hp,.inl U,?_⟩;refine⟨_,U,_,U,p,a.wS,dx,_,U,af,T.A0,T.Da,by simp,?_⟩;rw[c8 ["ins"] U Qy];refine⟨_,U,_,U,p,a.wS,dx,_,U,af,T.A0,T.Dc,by simp,?_⟩;rw[c8 ["ins","outs"] U Qy,cL,cL];exact k
theorem wW(T:Tx P w K mg a):aC P w K mg base CX0 2 a.Ba a.Bb ["self","ins","out","sign","sides"] (mX a):=by
 refine T.DY.ok uy (λvs H Q E h=>?_) (λcdv A outer s H vs Q E hr h=>?_)
 ·obtain⟨_,_,_,_,_,_,rfl,_⟩:=h
  rfl
 obtain⟨p,dx,u,v,x,y,rfl,hp,k⟩:=h
 refine⟨_,(ae (bM (ik U T.Ak T.As (ip T) (hr.mono Qz) T.Ah .nil ar (a8 (pq 0) (a8 (pq 1) ac))))
  (ae (bp (pq 0) (pq 2) U)
  (ae (bp (pq 0) (pq 3) U)
  (ai (bp (pq 0) (pq 4) U))))),?_⟩
 refine⟨_,U,_,U,p,a.wP,dx,u,U,hp,.inr (.inl U),?_⟩;refine⟨_,U,_,U,p,a.wP,dx,_,U,af,T.zU,T.De,by simp,?_⟩;rw[c8 ["ins"] U Qy];refine⟨_,U,_,U,p,a.wP,dx,_,U,af,T.zU,T.Df,by simp,?_⟩;rw[c8 ["ins","out"] U Qy];refine⟨_,U,_,U,p,a.wP,dx,_,U,af,T.zU,T.Cq,by simp,?_⟩;rw[c8 ["ins","out","sign"] U Qy,cL,cL,cL];exact k
theorem xp(T:Tx P w K mg a):aC P w K mg base CX0 2 a.Be a.Bf ["self","ins","which","ones","noughts","told"] (nH a):=by
 refine T.E3.ok uN (λvs H Q E h=>?_) (λcdv A outer s H vs Q E hr h=>?_)
 ·obtain⟨_,_,_,_,_,_,_,rfl,_⟩:=h
  rfl
 obtain⟨p,dx,u,v,x,y,z,rfl,hp,k⟩:=h
 refine⟨_,(ae (bM (ik U T.Ak T.As (ip T) (hr.mono Qz) T.Ah .nil ar (a8 (pq 0) (a8 (pq 1) ac))))
  (ae (bp (pq 0) (pq 2) U)
  (ae (bp (pq 0) (pq 3) U)
  (ae (bp (pq 0) (pq 4) U)
  (ai (bp (pq 0) (pq 5) U)))))),?_⟩
 refine⟨_,U,_,U,p,a.r6,dx,u,U,hp,.inr (.inr (.inl U)),?_⟩;refine⟨_,U,_,U,p,a.r6,dx,_,U,af,T.xz,T.Dh,by simp,?_⟩;rw[c8 ["ins"] U Qy];refine⟨_,U,_,U,p,a.r6,dx,_,U,af,T.xz,T.Di,by simp,?_⟩;rw[c8 ["ins","which"] U Qy];refine⟨_,U,_,U,p,a.r6,dx,_,U,af,T.xz,T.Dj,by simp,?_⟩;rw[c8 ["ins","which","ones"] U Qy];refine⟨_,U,_,U,p,a.r6,dx,_,U,af,T.xz,T.Cr,by simp,?_⟩;rw[c8 ["ins","which","ones","noughts"] U Qy,cL,cL,cL,cL];exact k
theorem xk(T:Tx P w K mg a):aC P w K mg base CX0 2 a.Bi a.Bj ["self","told","ones","noughts","outs"] (nG a):=by
 refine T.E7.ok uL (λvs H Q E h=>?_) (λcdv A outer s H vs Q E hr h=>?_)
 ·obtain⟨_,_,_,_,_,_,rfl,_⟩:=h
  rfl
 obtain⟨p,dx,u,v,x,y,rfl,hp,k⟩:=h
 refine⟨_,(ae (bM (ik U T.Ak T.As (ip T) (hr.mono Qz) T.Ah .nil ar (a8 (pq 0) (a8 (cr (a8 (pq 1) ac)) ac))))
  (ae (bp (pq 0) (pq 2) U)
  (ae (bp (pq 0) (pq 3) U)
  (ai (bp (pq 0) (pq 4) U))))),?_⟩
 refine⟨_,U,_,U,ln1,λt ht=>?_⟩;have ne:p≠t:=λz=>by rw[z,ht]at hp;cases hp
 refine⟨p,a.u8,dx,.ref t,U,by rw[ah ne];exact hp,.inr (.inr (.inr U)),?_⟩;refine⟨_,U,_,U,p,a.u8,dx,_,U,af,T.zS,T.Dk,by simp,?_⟩;rw[c8 ["ins"] U Qy];refine⟨_,U,_,U,p,a.u8,dx,_,U,af,T.zS,T.Dl,by simp,?_⟩;rw[c8 ["ins","ones"] U Qy];refine⟨_,U,_,U,p,a.u8,dx,_,U,af,T.zS,T.Dm,by simp,?_⟩;rw[c8 ["ins","ones","noughts"] U Qy,cL,cL,cL];exact k t ht
theorem wB(T:Tx P w K mg a):aC P w K mg base CX0 1 a.AG a.AH ["sign","a","b"] mr:=by
 refine T.Cy.ok uh (λvs H Q E h=>?_) (λcdv A outer s H vs Q E hr h=>?_)
 ·obtain⟨_,_,_,rfl,_⟩:=h
  rfl
 obtain⟨sg,x,y,rfl,hx,hy,k⟩:=h
 refine⟨_,(ae (aX (aO bi (pq 0) bF (aJ _)) (ai (au (ag bE (pq 1) (pq 2)))) aW)
  (ae (aX (aO bi (pq 0) bF (aJ _)) (ai (au (ag gp (pq 1) (pq 2)))) aW)
  (ae (aX (aO bi (pq 0) bF (aJ _)) (ai (au (ag bY (pq 1) (pq 2)))) aW)
  (ae (aX (aO bi (pq 0) bF (aJ _)) (ai (au (ag xC (pq 1) (pq 2)))) aW)
  (ae (aX (aO bi (pq 0) bF (aJ _)) (ai (au (ag xu (pq 1) (pq 2)))) aW)
  (ai (au (ag xq (pq 1) (pq 2))))))))),?_⟩
 unfold jU at k;walk_at "rd";refine bh (λc=>?_) (λc=>?_)
 ·rw[Q0 (dI c)]at k;walk_at "rd";exact k
 rw[qZ (dJ c)]at k;walk_at "rd";refine bh (λc=>?_) (λc=>?_)
 ·rw[Q0 (dI c)]at k;walk_at "rd";exact k
 rw[qZ (dJ c)]at k;walk_at "rd";refine bh (λc=>?_) (λc=>?_)
 ·rw[Q0 (dI c)]at k;walk_at "rd";exact⟨IntMulOk.of_bits (d6 hx) (d6 hy),k⟩
 rw[qZ (dJ c)]at k;walk_at "rd";refine bh (λc=>?_) (λc=>?_)
 ·rw[Q0 (dI c)]at k;walk_at "rd";exact k
 rw[qZ (dJ c)]at k;walk_at "rd";refine bh (λc=>?_) (λc=>?_)
 ·rw[Q0 (dI c)]at k;walk_at "rd";exact k
 rw[qZ (dJ c)]at k;walk_at "rd";exact k
theorem wG(T:Tx P w K mg a):aC P w K mg base CX0 2 a.done a.AF ["sign","a","b"] mz:=by
 refine T.Cw.ok uj (λvs H Q E h=>?_) (λcdv A outer s H vs Q E hr h=>?_)
 ·obtain⟨_,_,_,rfl,_⟩:=h
  rfl
 obtain⟨sg,x,y,rfl,hx,hy,k⟩:=h
 refine⟨_,(ae (aX (aO bi (pq 0) bF (aJ _)) (ai (au (dU (aO bi (pq 2) aa (aJ _)) aa (ag xA (pq 1) (pq 2))))) aW)
  (ae (aX (aO bi (pq 0) bF (aJ _)) (ai (au (dU (aO fy (pq 1) (pq 2) (aJ _)) aa aa))) aW)
  (ae (aX (aO bi (pq 0) bF (aJ _)) (ai (au (dU (aO bi (pq 1) (pq 2) (aJ _)) aa aa))) aW)
  (ai (au (ag aT (aR (wB T) (hr.mono Qz) U T.DE T.Cy.kp T.DD .nil ar (a8 (pq 0) (a8 (pq 1) (a8 (pq 2) ac)))) (vW U T.EH T.r_WHEEL))))))),?_⟩
 unfold fJ at k;walk_at "rd";refine bh (λc=>?_) (λc=>?_)
 ·rw[Q0 (dI c)]at k;walk_at "rd";refine bh (λc=>?_) (λc=>?_)
  ·rw[Q0 (dY c)]at k;exact k
  ·have c':=dZ c;rw[qZ c']at k;walk_at "rd";exact⟨⟨by have:=hy.lo;omega,sI hy⟩,k⟩
 rw[qZ (dJ c)]at k;walk_at "rd";refine bh (λc=>?_) (λc=>?_)
 ·rw[Q0 (dI c)]at k;walk_at "rd";refine bh (λc=>?_) (λc=>?_)
  ·rw[Q0 (Qc c)]at k;exact k
  ·rw[qZ (λz=>c (Q1 z))]at k;exact k
 rw[qZ (dJ c)]at k;walk_at "rd";refine bh (λc=>?_) (λc=>?_)
 ·rw[Q0 (dI c)]at k;walk_at "rd";refine bh (λc=>?_) (λc=>?_)
  ·rw[Q0 (dY c)]at k;exact k
  ·rw[qZ (dZ c)]at k;exact k
 rw[qZ (dJ c)]at k;walk_at "rd";refine⟨sg,x,y,U,hx,hy,?_⟩;walk_at "rd";exact k
theorem iV{xs:List Int}{i:Int}(h0:0<=i)(h1:i<xs.length):atI (xs.map V.int) i=some (.int (xs.getD i.toNat 0)):=by
 have lt:i.toNat<xs.length:=Yd;exact ef h0 (by rw[qE,qc lt,qj,qc lt];rfl)
theorem gN{s:Sd}{xs:List Int}(h:s.ok xs.length)(on:∀x∈xs,OnW x):OnW (s.worth xs):=by
 cases s with
 |num n=>exact h
 |thing i=>
  obtain⟨h0,h1⟩:=h;have lt:i.toNat<xs.length:=Yd;show OnW (xs.getD i.toNat 0);rw[qj,qc lt];exact on _ (List.getElem_mem lt)
theorem fS{H1:Hp}{ts:List Addr}{xs ys:List V}(tl:ts.length=min xs.length ys.length)(at_:∀(j:Nat)(t:Addr)(x y:V),ts[j]?=some t->xs[j]?=some x->ys[j]?=some y->H1 t=none):fQ H1 (ts.map V.ref):=λp hp=>by
 obtain⟨q,hq,e⟩:=List.mem_map.mp hp;cases e;obtain⟨j,hj⟩:=List.mem_iff_getElem?.mp hq;have lt:=(qf.mp hj).1;exact at_ j p _ _ hj (qc Yd) (qc Yd)
theorem oP(T:Tx P w K mg a):aC P w K mg base CX0 1 a.Bo a.Bp ["side","things"] mx:=by
 refine T.Cf.ok ui (λvs H Q E h=>?_) (λcdv A outer s H vs Q E hr h=>?_)
 ·obtain⟨_,_,_,_,rfl,_⟩:=h
  rfl
 obtain⟨v,l,sd,xs,rfl,hs,ok,hl,k⟩:=h;refine⟨_,(ai (au (dU (aO bi (am aZ (pq 0) aa Oy) bF (aJ _)) (am aV (pq 1) (am aZ (pq 0) aa Oy) Oy) (am aZ (pq 0) aa Oy)))),?_⟩
 cases hs with
 |num h=>exact⟨_,U,_,_,_,_,U,U,SqT.of h,U,U,_,U,bj Qy ⟨_,U,_,_,_,_,U,U,SqT.of h,U,k⟩⟩
 |thing h=>exact⟨_,U,_,_,_,_,U,U,SqT.of h,U,U,_,U,bS Qy ⟨_,U,_,U,_,_,_,_,U,U,SqT.of h,U,l,_,_,_,U,U,SqL.of hl,iV ok.1 ok.2,k⟩⟩
theorem lf2{k1 k2:Str}{u v:V}{r:List (Str×V)}(h:(k2 == k1)=false):List.lookup k2 ((k1,u)::(k2,v)::r)=some v:=(aQ h).trans cV
theorem lf3{k1 k2 k3:Str}{u v x:V}{r:List (Str×V)}(h:(k3 == k1)=false)(h':(k3 == k2)=false):List.lookup k3 ((k1,u)::(k2,v)::(k3,x)::r)=some x:=(aQ h).trans (lf2 h')
theorem lf4{k1 k2 k3 k4:Str}{u v x y:V}{r:List (Str×V)}(h:(k4 == k1)=false)(h':(k4 == k2)=false)(h2:(k4 == k3)=false):List.lookup k4 ((k1,u)::(k2,v)::(k3,x)::(k4,y)::r)=some y:=(aQ h).trans (lf3 h' h2)
theorem lf5{k1 k2 k3 k4 k5:Str}{u v x y z:V}{r:List (Str×V)}(h:(k5 == k1)=false)(h':(k5 == k2)=false)(h2:(k5 == k3)=false)(h3:(k5 == k4)=false):List.lookup k5 ((k1,u)::(k2,v)::(k3,x)::(k4,y)::(k5,z)::r)=some z:=(aQ h).trans (lf4 h' h2 h3)
theorem wV(T:Tx P w K mg a):aC P w K mg base CX0 3 a.Bc a.Bd ["self","things"] (fe a 1):=by
 refine T.E1.ok jc (λvs H Q E h=>?_) (λcdv A outer s H vs Q E hr h=>?_)
 ·obtain⟨_,_,_,_,rfl,_⟩:=h
  rfl
 obtain⟨v,l,r,xs,rfl,kd,hp,ok,hl,wide,on,k⟩:=h
 refine⟨_,(ae (aK (i:=2) jc.nd U Oi (aR (oP T) (hr.mono Qz) U T.CB T.Cf.kp T.CA .nil ar (a8 (am aZ (az (pq 0) U) aa Oy) (a8 (pq 1) ac))))
  (ae (aK (i:=3) jc.nd U Oi (aR (oP T) (hr.mono Qz) U T.CB T.Cf.kp T.CA .nil ar (a8 (am aZ (az (pq 0) U) aa Oy) (a8 (pq 1) ac))))
  (ai (au (bR (a8 (cr (a8 (az (pq 0) U) (a8 (aR (wG T) (hr.mono Qz) U T.DC T.Cw.kp T.DB .nil ar (a8 (az (pq 0) U) (a8 (pq 2) (a8 (pq 3) ac)))) ac))) ac)))))),?_⟩
 cases hp with
 |pass _ _ _ _=>simp[PR.kind]at kd
 |choose _ _ _ _=>simp[PR.kind]at kd
 |merge _ _ _ _ _=>simp[PR.kind]at kd
 |work h1 h0 h2 h3 h4=>
  rename_i p dx t0 ts ins out sg sa sb sl sr;obtain⟨_,o1,o2⟩:=ok;change xs.length=ins.length at wide;rw[<- wide]at o1 o2;refine⟨_,U,p,_,_,_,_,U,h1,T.zU,T.Cq,lf4 Qy Qy Qy,ts,_,_,_,U,U,SqT.of h2,U,_,U,sa,l,sl,xs,U,h3,o1,hl,?_⟩;refine⟨_,U,p,_,_,_,_,U,h1,T.zU,T.Cq,lf4 Qy Qy Qy,ts,_,_,_,U,U,SqT.of h2,U,_,U,sb,l,sr,xs,U,h4,o2,hl,?_⟩;refine⟨_,U,p,_,_,_,_,U,h1,T.zU,T.De,lf2 Qy,_,U,p,_,_,_,_,U,h1,T.zU,T.Df,lf3 Qy Qy,_,U,_,U,sg,_,_,U,gN o1 on,gN o2 on,ln2,λt ht=>⟨ln1,λl' hl'=>?_⟩⟩;exact k _ l' _ ((a9.new ht _).trans (a9.new hl' _)) (a9.none (a9.new ht _) hl') af (λp hp=>by cases qS.mp hp;exact ht) (.cons (a9.new hl' _ _ _ af) .nil)
theorem xg(T:Tx P w K mg a):aC P w K mg base CX0 1 a.B2 a.B7 ["self","things"] (fe a 0):=by
 refine T.DW.ok uG (λvs H Q E h=>?_) (λcdv A outer s H vs Q E hr h=>?_)
 ·obtain⟨_,_,_,_,rfl,_⟩:=h
  rfl
 obtain⟨v,l,r,xs,rfl,kd,hp,ok,hl,wide,on,k⟩:=h;refine⟨_,(ai (au (cs (k:=2) (Nc:=["line","place","things"]) (js:=[1]) (show aL (aj hX) ["self","things"] _ 2 ["line","place","things"] [1]from aL.mk U (by decide +kernel) (by decide +kernel) (by decide +kernel) U (by decide +kernel)) U (vP U T.Ad (a8 (az (pq 0) U) (a8 (az (pq 0) U) ac))) (λ_ _ _ _ _=>(fA 2 U (bN (aP (i:=0) (show List.Nodup (["line","place","things"]:List Str)from by decide +kernel) U Oi) (bN (aP (i:=1) (show List.Nodup (["line","place","things"]:List Str)from by decide +kernel) U Oi) dc)))) (λ_ _ _ _ _=>bX) (λ_ _ _ _ _=>(cr (a8 (pq 0) (a8 (am (o9 (K:=K) U) (pq 2) (pq 1) Oy) ac))))))),?_⟩
 cases hp with
 |work _ _ _ _ _=>simp[PR.kind]at kd
 |choose _ _ _ _=>simp[PR.kind]at kd
 |merge _ _ _ _ _=>simp[PR.kind]at kd
 |pass h1 h0 h2 h3=>
  rename_i p dx t0 t1 t2 ins outs route;obtain⟨o1,o2,o3,o4⟩:=ok;change xs.length=ins.length at wide;refine⟨_,U,p,_,_,_,_,U,h1,T.A0,T.Da,lf2 Qy,_,U,p,_,_,_,_,U,h1,T.A0,T.Dc,lf3 Qy Qy,true,true,t1,t2,_,_,U,SqT.of h2,SqT.of h3,?_⟩;have lz:(outs.zip (route.map λr=>xs.getD r.toNat 0)).length=outs.length:=by rw[List.length_zip,q9];omega
  refine zh (K:=K) (b1:=true) (b2:=true) (l1:=t1) (l2:=t2) (xs:=outs.map V.int) (zs:=route.map V.int) (λi ys σ H3=>(∃v v',σ=[v,v',some (.ref l)])/\a9 H H3/\fQ H ys/\RPs H3 ys ((outs.zip (route.map λr=>xs.getD r.toNat 0)).take i)) ⟨⟨none,none,U⟩,a9.refl _,λ_ h=>(nomatch h),.nil⟩ ?_ (bf (m:=1000) (by rw[q9];omega)) ?_ ?_ ?_
  ·rintro i ys σ H3 ⟨_,_,_,r3⟩;rw[r3.len,qK];omega
  ·rintro i ys σ H3 ⟨_,s3,_⟩;exact⟨SqT.of (s3 _ _ h2),SqT.of (s3 _ _ h3)⟩
  ·rintro i x z ys σ H3 pt hx hz ⟨⟨v,v',rfl⟩,s3,n3,r3⟩ hpt;rw[qE]at hx hz;obtain⟨x,hx',rfl⟩:=qP.mp hx;obtain⟨z,hz',rfl⟩:=qP.mp hz;have zo:=o4 z (qz hz');have s4:=s3.trans (a9.new hpt (.tup [.int x,.int z]));refine⟨pt,_,U,SqT.of af,U,_,_,U,_,_,U,U,?_⟩;refine⟨_,U,_,U,_,U,l,_,_,_,U,U,SqL.of (s4 _ _ hl),iV zo.1 Yd,ln2,λt ht=>⟨⟨_,_,U⟩,s4.trans (a9.new ht _),λp hp=>(qh.mp hp).elim (n3 p) λz=>by cases qS.mp z;exact a9.none s4 ht,?_⟩⟩;have e:(outs.zip (route.map λr=>xs.getD r.toNat 0))[i]?=some (x,xs.getD z.toNat 0):=List.getElem?_zip_eq_some.mpr ⟨hx',by rw[qE,hz'];rfl⟩;rw[qr,e];exact RPs.snoc (x:=(x,xs.getD z.toNat 0)) af ((r3.same (a9.new hpt _)).same (a9.new ht _))
  rintro ys σ3 H3 ⟨_,s3,n3,r3⟩ l' hl';rw[q9,q9,<- o1,Nat.min_self,<- lz,qH]at r3;exact k _ l' ys (s3.trans (a9.new hl' _)) (a9.none s3 hl') af n3 (r3.same (a9.new hl' _))
theorem xn(T:Tx P w K mg a):aC P w K mg base CX0 1 a.Bg a.Bh ["self","things"] (fe a 2):=by
 refine T.E5.ok uM (λvs H Q E h=>?_) (λcdv A outer s H vs Q E hr h=>?_)
 ·obtain⟨_,_,_,_,rfl,_⟩:=h
  rfl
 obtain⟨v,l,r,xs,rfl,kd,hp,ok,hl,wide,on,k⟩:=h
 refine⟨_,(ae (aX (aO bi (am aV (pq 1) (az (pq 0) U) Oy) aa (aJ _)) (ai (au (ag jW (ii U U T.zW U T.Ad (a8 (az (pq 0) U) (a8 (pq 1) ac))) (bR (a8 (cr (a8 (az (pq 0) U) (a8 aa ac))) ac))))) aW)
  (ai (au (ag jW (ii U U T.zW U T.Ad (a8 (az (pq 0) U) (a8 (pq 1) ac))) (bR (a8 (cr (a8 (az (pq 0) U) (a8 aa ac))) ac)))))),?_⟩
 cases hp with
 |work _ _ _ _ _=>simp[PR.kind]at kd
 |pass _ _ _ _=>simp[PR.kind]at kd
 |merge _ _ _ _ _=>simp[PR.kind]at kd
 |choose h1 h0 h2 h3=>
  rename_i p dx t0 t1 t2 ins ones noughts which told;obtain⟨o1,o2,o3,o4,o5⟩:=ok;change xs.length=ins.length at wide;refine⟨_,U,_,U,p,_,_,_,_,U,h1,T.xz,T.Dh,lf2 Qy,l,_,_,_,U,U,SqL.of hl,iV o1 Yd,U,_,U,?_⟩;have km:PR.made xs (.choose ins which ones noughts told)=if xs.getD which.toNat 0=0 then noughts.zip xs++[(told,0)]else ones.zip xs++[(told,1)]:=U;rw[km]at k;refine bh (λc=>?_) (λc=>?_)
  ·rw[Q0 (dY c)]at k;refine⟨_,U,p,_,_,_,_,U,h1,T.xz,T.Dj,lf4 Qy Qy Qy,_,U,true,false,t2,l,_,_,U,SqT.of h3,SqL.of hl,λH3 lz ts s3 nl hz tl at_=>?_⟩;have rz:=RPs.zip (H:=H3) (ts:=ts) (xs:=noughts) (ys:=xs) (by rw[tl,q9,q9]) λj t x y a b c=>(at_ j t x y a b c).1;refine⟨_,U,p,_,_,_,_,U,s3 _ _ h1,T.xz,T.Cr,lf5 Qy Qy Qy Qy,ln2,λt4 ht4=>⟨ln1,λl4 hl4=>?_⟩⟩;have s4:=(a9.new ht4 (.tup [.int told,.int 0])).trans (a9.new hl4 (.lst [.ref t4]));refine⟨lz,l4,_,_,U,U,SqL.of (s4 _ _ hz),SqL.of af,bf (m:=1000) (by rw[q9,tl,q9,q9,Q6];omega),λl5 hl5=>?_⟩;have s5:=a9.new hl5 (.lst (ts.map V.ref++[.ref t4]));exact k _ l5 _ (s3.trans (s4.trans s5)) (a9.none (s3.trans s4) hl5) af (λp hp=>(qh.mp hp).elim (fS tl (λj t x y a b c=>(at_ j t x y a b c).2) p) λz=>by cases qS.mp z;exact a9.none s3 ht4) (RPs.same s5 (RPs.snoc (x:=(told,0)) (a9.new hl4 _ _ _ af) (rz.same s4)))
  ·rw[qZ (dZ c)]at k;refine⟨_,U,p,_,_,_,_,U,h1,T.xz,T.Di,lf3 Qy Qy,_,U,true,false,t1,l,_,_,U,SqT.of h2,SqL.of hl,λH3 lz ts s3 nl hz tl at_=>?_⟩;have rz:=RPs.zip (H:=H3) (ts:=ts) (xs:=ones) (ys:=xs) (by rw[tl,q9,q9]) λj t x y a b c=>(at_ j t x y a b c).1;refine⟨_,U,p,_,_,_,_,U,s3 _ _ h1,T.xz,T.Cr,lf5 Qy Qy Qy Qy,ln2,λt4 ht4=>⟨ln1,λl4 hl4=>?_⟩⟩;have s4:=(a9.new ht4 (.tup [.int told,.int 1])).trans (a9.new hl4 (.lst [.ref t4]));refine⟨lz,l4,_,_,U,U,SqL.of (s4 _ _ hz),SqL.of af,bf (m:=1000) (by rw[q9,tl,q9,q9,Q6];omega),λl5 hl5=>?_⟩;have s5:=a9.new hl5 (.lst (ts.map V.ref++[.ref t4]));exact k _ l5 _ (s3.trans (s4.trans s5)) (a9.none (s3.trans s4) hl5) af (λp hp=>(qh.mp hp).elim (fS tl (λj t x y a b c=>(at_ j t x y a b c).2) p) λz=>by cases qS.mp z;exact a9.none s3 ht4) (RPs.same s5 (RPs.snoc (x:=(told,1)) (a9.new hl4 _ _ _ af) (rz.same s4)))
theorem xj(T:Tx P w K mg a):aC P w K mg base CX0 1 a.Bm a.Bn ["self","things"] (fe a 3):=by
 refine T.Eb.ok uK (λvs H Q E h=>?_) (λcdv A outer s H vs Q E hr h=>?_)
 ·obtain⟨_,_,_,_,rfl,_⟩:=h
  rfl
 obtain⟨v,l,r,xs,rfl,kd,hp,ok,hl,wide,on,k⟩:=h;refine⟨_,(ai (au (ii U U T.zW U T.Ad (a8 (az (pq 0) U) (a8 (df g9 (pq 1) (bQ aa) dR) ac))))),?_⟩
 cases hp with
 |work _ _ _ _ _=>simp[PR.kind]at kd
 |pass _ _ _ _=>simp[PR.kind]at kd
 |choose _ _ _ _=>simp[PR.kind]at kd
 |merge h1 h0 hb hc h2=>
  rename_i p dx t0 t1 t2 t3 told ones noughts outs;change xs.length=1+outs.length at wide;refine⟨_,U,p,_,_,_,_,U,h1,T.zS,T.Dm,lf4 Qy Qy Qy,_,U,_,U,l,_,U,SqL.of hl,λlc hlc=>?_⟩
  have ec:c7 (xs.map V.int) (some 1) none=xs.tail.map V.int:=by
   unfold c7
   have e1:HT.sIx (xs.map V.int).length 0 (some 1)=1:=by
    have:=HT.sIx_nat (xs.map V.int).length 0 1;rw[show((1:Nat):Int)=1 from rfl]at this;rw[this,q9];omega
   have e2:HT.sIx (xs.map V.int).length (xs.map V.int).length none=(xs.map V.int).length:=U;rw[e1,e2,List.drop_one,<- List.map_tail,List.take_of_length_le (by rw[q9,q9,List.length_tail];omega)]
  rw[ec];refine⟨true,false,t3,lc,_,_,U,SqT.of (a9.new hlc _ _ _ h2),SqL.of af,λH3 lz ts s3 nl hz tl at_=>?_⟩;have rz:=RPs.zip (H:=H3) (ts:=ts) (xs:=outs) (ys:=xs.tail) (by rw[tl,q9,q9]) λj t x y a b c=>(at_ j t x y a b c).1;exact k _ lz _ ((a9.new hlc _).trans s3) (a9.none (a9.new hlc _) nl) hz (λp hp=>a9.none (a9.new hlc _) (fS tl (λj t x y a b c=>(at_ j t x y a b c).2) p hp)) rz
theorem kC(T:Tx P w K mg a):aC P w K mg base CX0 1 a.A6 a.AY ["self","yard"] (gT a false):=by
 refine T.DT.ok uI (λvs H Q E h=>?_) (λcdv A outer s H vs Q E hr h=>?_)
 ·obtain⟨_,_,_,_,_,_,rfl,_⟩:=h
  rfl
 obtain⟨C,S,v,r,qs,ls,rfl,kd,hp,ok,ft,ry,k⟩:=h;refine⟨_,(ai (au (az (pq 0) U))),?_⟩
 cases hp with
 |pass h1 h0 _ _=>exact⟨_,U,_,_,_,_,_,U,h1,T.A0,T.D8,cV,k _ _ (a9.refl _) h0⟩
 |work h1 h0 _ _ _=>exact⟨_,U,_,_,_,_,_,U,h1,T.zU,T.Dd,cV,k _ _ (a9.refl _) h0⟩
 |choose h1 h0 _ _=>exact⟨_,U,_,_,_,_,_,U,h1,T.xz,T.Dg,cV,k _ _ (a9.refl _) h0⟩
 |merge _ _ _ _ _=>simp[PR.kind]at kd
theorem kJ{u v x y:V}:List.lookup ("ins":Str) [(("ins":Str),u),("ones",v),("noughts",x),("outs",y)]=some u:=cV
theorem y4{u v x y:V}:List.lookup ("ones":Str) [(("ins":Str),u),("ones",v),("noughts",x),("outs",y)]=some v:=(aQ Qy).trans cV
theorem y6{u v x y:V}:List.lookup ("noughts":Str) [(("ins":Str),u),("ones",v),("noughts",x),("outs",y)]=some x:=(aQ Qy).trans ((aQ Qy).trans cV)
theorem xi(T:Tx P w K mg a):aC P w K mg base CX0 4 a.Bk a.Bl ["self","yard"] (gT a true):=by
 refine T.E9.ok nX (λvs H Q E h=>?_) (λcdv A outer s H vs Q E hr h=>?_)
 ·obtain⟨_,_,_,_,_,_,rfl,_⟩:=h
  rfl
 obtain⟨C,S,v,r,qs,ls,rfl,kd,hp,ok,ft,ry,k⟩:=h
 refine⟨_,(ae (aK (i:=2) nX.nd U Oi (cU (pq 1) T.wT T.ES (wR T) (hr.mono Qz) T.DL .nil ar (a8 (am aZ (az (pq 0) U) aa Oy) ac)))
  (ae (aX (aO jV (pq 2) eN (aJ _)) (ai (au (az (pq 0) U))) aW)
  (ai (au (ag wx (az (pq 0) U) (dU (aO bi (pq 2) aa (aJ _)) (az (pq 0) U) (az (pq 0) U))))))),?_⟩
 cases hp with
 |pass _ _ _ _=>simp[PR.kind]at kd
 |work _ _ _ _ _=>simp[PR.kind]at kd
 |choose _ _ _ _=>simp[PR.kind]at kd
 |merge h1 h2 h3 h4 h5=>
  rename_i p dx' ta tb tc td told ones noughts outs;have t0:=ft.1.lo told qm;have lt:told.toNat<C.nl:=by have:=ft.1.hi told qm;omega
  have hs:((List.range C.nl).map S.st)[told.toNat]?=some (S.st told.toNat):=by rw[qE,List.getElem?_range lt];rfl
  obtain⟨ol,l1,l2⟩:=ok;refine⟨_,U,C.y,_,_,U,ry.o,eV Qy,_,U,p,_,_,_,_,U,h1,T.zS,T.Al,kJ,ta,_,_,_,U,U,SqT.of h2,U,C.y,C.dy,C.la,C.lq,qs,_,ls,told,_,U,ry,t0,hs,?_⟩;unfold iI;have kk:=k;simp only[aq,aA]at kk;generalize (S.st told.toNat).1.drop (S.st told.toNat).2=row at kk ⊢
  cases row with
  |nil=>
   refine⟨_,U,U,_,U,bS U ?_⟩;exact⟨_,U,p,_,_,_,_,U,h1,T.zS,T.Al,kJ,kk H ta (a9.refl _) h2⟩
  |cons x row=>
   refine⟨_,U,U,_,U,bj U ?_⟩;refine⟨_,U,p,_,_,_,_,U,h1,T.zS,T.Al,kJ,?_⟩;refine⟨_,U,U,_,U,?_⟩;dsimp only at kk;refine bh (λc=>?_) (λc=>?_)
   ·rw[Q0 (dY c)]at kk;refine⟨_,U,p,_,_,_,_,U,h1,T.zS,T.Dl,y6,ta,tc,_,_,U,U,SqT.of h2,SqT.of h4,by simp,bf (m:=1000) (by rw[q9,Q6];omega),λe=>?_,λ_ p6 hp6=>?_⟩
    ·rw[List.map_eq_nil_iff]at e;subst e;exact kk H ta (a9.refl _) h2
    ·exact kk _ p6 (a9.new hp6 _) af
   ·rw[qZ (dZ c)]at kk;refine⟨_,U,p,_,_,_,_,U,h1,T.zS,T.Dk,y4,ta,tb,_,_,U,U,SqT.of h2,SqT.of h3,by simp,bf (m:=1000) (by rw[q9,Q6];omega),λe=>?_,λ_ p6 hp6=>?_⟩
    ·rw[List.map_eq_nil_iff]at e;subst e;exact kk H ta (a9.refl _) h2
    ·exact kk _ p6 (a9.new hp6 _) af
theorem wC(T:Tx P w K mg a):aC P w K mg base CX0 4 a.Bq a.Br ["row"] (mv a):=by
 refine T.CC.ok nP (λvs H Q E h=>?_) (λcdv A outer s H vs Q E hr h=>?_)
 ·obtain⟨_,_,_,rfl,_⟩:=h
  rfl
 obtain⟨H0,v,r,rfl,s0,hr',k⟩:=h
 refine⟨_,(ae (aK (i:=1) nP.nd U Oi (am aZ (pq 0) aa Oy))
  (ae (aX (aO bi (pq 1) bF (aJ _)) (ai (au (eP T.EX (xh T) (hr.mono Qz) U T.EW T.DV .nil ar (a8 (am aZ (pq 0) aa Oy) (a8 (am aZ (pq 0) aa Oy) (a8 (am aZ (pq 0) aa Oy) ac)))))) aW)
  (ae (aX (aO bi (pq 1) bF (aJ _)) (ai (au (eP T.Fb (wW T) (hr.mono Qz) U T.Fa T.DZ .nil ar (a8 (am aZ (pq 0) aa Oy) (a8 (am aZ (pq 0) aa Oy) (a8 (am aZ (pq 0) aa Oy) (a8 (df g6 (pq 0) (bQ aa) dR) ac))))))) aW)
  (ae (aX (aO bi (pq 1) bF (aJ _)) (ai (au (eP T.Ff (xp T) (hr.mono Qz) U T.Fe T.E4 .nil ar (a8 (am aZ (pq 0) aa Oy) (a8 (am aZ (pq 0) aa Oy) (a8 (am aZ (pq 0) aa Oy) (a8 (am aZ (pq 0) aa Oy) (a8 (am aZ (pq 0) aa Oy) ac)))))))) aW)
  (ai (au (eP T.Fj (xk T) (hr.mono Qz) U T.Fi T.E8 .nil ar (a8 (am aZ (pq 0) aa Oy) (a8 (am aZ (pq 0) aa Oy) (a8 (am aZ (pq 0) aa Oy) (a8 (am aZ (pq 0) aa Oy) ac))))))))))),?_⟩
 have over:∀(H1:Hp)(o dx:Addr)(u u' u2:HO),H1 o=none->H1 dx=none->a9 H1 (upd (upd (upd H1 dx u) o u') o u2):=λH1 o dx u u' u2 ho hd b ob hb=>by
  have n1:b≠o:=λz=>by rw[z,ho]at hb;cases hb
  have n2:b≠dx:=λz=>by rw[z,hd]at hb;cases hb
  rw[ah n1,ah n1,ah n2];exact hb
 cases hr' with
 |pass h1 h2 h3 h4=>
  rename_i p t0 t1 t2 ins outs route;refine⟨_,U,p,_,_,_,U,U,SqT.of (s0 _ _ h1),U,?_⟩;refine⟨_,U,U,_,U,bS Qy ?_⟩;refine⟨_,U,p,_,_,_,U,U,SqT.of (s0 _ _ h1),U,_,U,p,_,_,_,U,U,SqT.of (s0 _ _ h1),U,_,U,p,_,_,_,U,U,SqT.of (s0 _ _ h1),U,λo dx ho hd nd=>?_⟩;exact⟨o,dx,_,_,_,U,af,U,k _ _ (over _ _ _ _ _ _ ho hd) ho λK0 sk nw=>.pass (nw _ _ ho af) (sk _ _ h2) (sk _ _ h3) (sk _ _ h4)⟩
 |work h1 h2 h3 h4=>
  rename_i p t0 ins out sg sa sb sl sr;refine⟨_,U,p,_,_,_,U,U,SqT.of (s0 _ _ h1),U,?_⟩;refine⟨_,U,U,_,U,bj Qy ?_⟩;refine⟨_,U,U,_,U,bS Qy ?_⟩;refine⟨_,U,p,_,_,_,U,U,SqT.of (s0 _ _ h1),U,_,U,p,_,_,_,U,U,SqT.of (s0 _ _ h1),U,_,U,p,_,_,_,U,U,SqT.of (s0 _ _ h1),U,_,U,_,U,p,_,U,SqT.of (s0 _ _ h1),?_,λtt htt=>?_⟩
  ·rintro⟨z,_⟩;exact Q4 z (by show ¬ (HT.sIx 6 0 (some 4)=0);decide)
  intro o dx ho hd nd;have s2:=(a9.new htt (.tup (c7 [V.str "work",.ref t0,.int out,.str sg,sa,sb] (some 4) none)));exact⟨o,dx,_,_,_,_,U,af,U,k _ _ (s2.trans (over _ _ _ _ _ _ ho hd)) (a9.none s2 ho) λK0 sk nw=>.work (nw _ _ (a9.none s2 ho) af) (sk _ _ h2) (nw _ _ htt (over _ _ _ _ _ _ ho hd _ _ af)) (h3.same sk) (h4.same sk)⟩
 |choose h1 h2 h3 h4=>
  rename_i p t0 t1 t2 ins ones noughts which told;refine⟨_,U,p,_,_,_,U,U,SqT.of (s0 _ _ h1),U,?_⟩;refine⟨_,U,U,_,U,bj Qy ?_⟩;refine⟨_,U,U,_,U,bj Qy ?_⟩;refine⟨_,U,U,_,U,bS Qy ?_⟩;refine⟨_,U,p,_,_,_,U,U,SqT.of (s0 _ _ h1),U,_,U,p,_,_,_,U,U,SqT.of (s0 _ _ h1),U,_,U,p,_,_,_,U,U,SqT.of (s0 _ _ h1),U,_,U,p,_,_,_,U,U,SqT.of (s0 _ _ h1),U,_,U,p,_,_,_,U,U,SqT.of (s0 _ _ h1),U,λo dx ho hd nd=>?_⟩;exact⟨o,dx,_,_,_,_,_,U,af,U,k _ _ (over _ _ _ _ _ _ ho hd) ho λK0 sk nw=>.choose (nw _ _ ho af) (sk _ _ h2) (sk _ _ h3) (sk _ _ h4)⟩
 |merge h1 h2 h3 h4=>
  rename_i p ta tb tc told ones noughts outs;refine⟨_,U,p,_,_,_,U,U,SqT.of (s0 _ _ h1),U,?_⟩;refine⟨_,U,U,_,U,bj Qy ?_⟩;refine⟨_,U,U,_,U,bj Qy ?_⟩;refine⟨_,U,U,_,U,bj Qy ?_⟩;refine⟨_,U,p,_,_,_,U,U,SqT.of (s0 _ _ h1),U,_,U,p,_,_,_,U,U,SqT.of (s0 _ _ h1),U,_,U,p,_,_,_,U,U,SqT.of (s0 _ _ h1),U,_,U,p,_,_,_,U,U,SqT.of (s0 _ _ h1),U,λo dx ho hd nd=>?_⟩;refine⟨o,dx,_,_,_,_,U,af,λtt htt=>⟨U,?_⟩⟩;have nto:tt≠o:=λz=>by rw[z,af]at htt;cases htt
  have ntd:tt≠dx:=λz=>by rw[ah nto,z,af]at htt;cases htt
  have ht0:H tt=none:=by rw[ah nto,ah ntd]at htt;exact htt
  have sm:a9 H (upd (upd (upd (upd H dx (.own o)) o (.ins a.u8 dx [])) tt (.tup [.int told])) o (.ins a.u8 dx [("ins",.ref tt),("ones",.ref ta),("noughts",.ref tb),("outs",.ref tc)])):=λb ob hb=>by
   have n1:b≠o:=λz=>by rw[z,ho]at hb;cases hb
   have n2:b≠dx:=λz=>by rw[z,hd]at hb;cases hb
   have n3:b≠tt:=λz=>by rw[z,ht0]at hb;cases hb
   rw[ah n1,ah n3,ah n1,ah n2];exact hb
  exact k _ _ sm ho λK0 sk nw=>.merge (nw _ _ ho af) (nw _ _ ht0 (by rw[ah nto];exact af)) (sk _ _ h2) (sk _ _ h3) (sk _ _ h4)
theorem cW{f:Str}{v:V}:∀{ns:List Str}{vs:List V}(i:Nat),ns[i]?=some f->((ns.take i).contains f)=false->vs[i]?=some v->(ns.zip vs).lookup f=some v
 |[],_,i,h,_,_=>by simp at h
 |_::_,[],i,_,_,h=>by simp at h
 |n::ns,u::vs,0,h,_,h'=>by cases h;cases h';exact cV
 |n::ns,u::vs,i+1,h,c,h'=>by
  have c:(f == n || (ns.take i).contains f)=false:=c;rw[Bool.or_eq_false_iff]at c;exact(aQ c.1).trans (cW i h c.2 h')
theorem eS{f:Str}:∀{ns:List Str}{vs:List V},ns.contains f=false->(ns.zip vs).lookup f=none
 |[],_,_=>rfl
 |_::_,[],_=>rfl
 |n::ns,u::vs,c=>by
  have c:(f == n || ns.contains f)=false:=c;rw[Bool.or_eq_false_iff]at c;exact(aQ c.1).trans (eS c.2)
theorem ki{f:Str}{v:V}:∀{ns:List Str}{vs:List V}(i:Nat),ns[i]?=some f->((ns.take i).contains f)=false->i<vs.length->bo f v (ns.zip vs)=ns.zip (vs.set i v)
 |[],_,i,h,_,_=>by simp at h
 |_::_,[],i,_,_,h=>Q4 h (Qx _)
 |n::ns,u::vs,0,h,_,h'=>by cases h;show bo _ _ ((_,_)::_)=_;rw[bo,Q0 U];rfl
 |n::ns,u::vs,i+1,h,c,h'=>by
  have c:(f == n || (ns.take i).contains f)=false:=c;rw[Bool.or_eq_false_iff]at c;have ne:¬ n=f:=λz=>by have:=c.1;rw[z]at this;simp at this
  show bo _ _ ((n,u)::ns.zip vs)=_;rw[bo,qZ ne,ki i h c.2 (Nat.lt_of_succ_lt_succ h')]
  rfl
section
variable {H0 H:Hp}{C:PlC}{ad:Rl->Addr}{hd:Nat->Addr}{lgv:List V}{S:PlS}
theorem PlH.ob(M:PlH a H0 H C ad hd lgv S):H C.b=some (plO a C ad S.sp):=M.b▸M.own.av .b trivial
end
theorem lz0{x:List V}{v:V}(h:x[0]?=some v):List.lookup ("yard":Str) (plN.zip x)=some v:=cW 0 U Qy h
theorem lz1{x:List V}{v:V}(h:x[1]?=some v):List.lookup ("doers":Str) (plN.zip x)=some v:=cW 1 U Qy h
theorem lz2{x:List V}{v:V}(h:x[2]?=some v):List.lookup ("pace":Str) (plN.zip x)=some v:=cW 2 U Qy h
theorem lz3{x:List V}{v:V}(h:x[3]?=some v):List.lookup ("spare":Str) (plN.zip x)=some v:=cW 3 U Qy h
theorem lz4{x:List V}{v:V}(h:x[4]?=some v):List.lookup ("log":Str) (plN.zip x)=some v:=cW 4 U Qy h
theorem lz5{x:List V}{v:V}(h:x[5]?=some v):List.lookup ("held":Str) (plN.zip x)=some v:=cW 5 U Qy h
theorem lz6{x:List V}{v:V}(h:x[6]?=some v):List.lookup ("takings":Str) (plN.zip x)=some v:=cW 6 U Qy h
theorem lz7{x:List V}{v:V}(h:x[7]?=some v):List.lookup ("givers":Str) (plN.zip x)=some v:=cW 7 U Qy h
theorem lz8{x:List V}{v:V}(h:x[8]?=some v):List.lookup ("takers":Str) (plN.zip x)=some v:=cW 8 U Qy h
theorem lz9{x:List V}{v:V}(h:x[9]?=some v):List.lookup ("without_room":Str) (plN.zip x)=some v:=cW 9 U Qy h
theorem kH{x:List V}{v:V}(h:x[10]?=some v):List.lookup ("without_thing":Str) (plN.zip x)=some v:=cW 10 U Qy h
theorem xb(T:Tx P w K mg a):aC P w K mg base CX0 1 a.BB a.BC ["self","part"] (nr a):=by
 refine T.Eo.ok nW (λvs H Q E h=>?_) (λcdv A outer s H vs Q E hr h=>?_)
 ·obtain⟨_,_,_,_,_,_,_,rfl,_⟩:=h
  rfl
 obtain⟨H0,C,ad,hd,lgv,S,x,rfl,B,M,hx,k⟩:=h
 refine⟨_,(ae (aX (aO bi (bz c5 U T.wp Q7 (a8 (az (pq 0) U) ac)) aa (aJ _)) (ai (au aa)) aW)
  (ae (aK (i:=2) nW.nd U Oi (am aV (az (pq 0) U) (ag aT (pq 1) (bz c5 U T.wp Q7 (a8 (az (pq 0) U) ac))) Oy))
  (ai (au (dU (aO i4 (bz c5 U T.wp Q7 (a8 (pq 2) ac)) aa (aJ _)) (am aV (pq 2) (ag aT (am aV (az (pq 0) U) (pq 1) Oy) (bz c5 U T.wp Q7 (a8 (pq 2) ac))) Oy) aa))))),?_⟩
 have hp:=M.own.sa _ _ B.pc;have ho:=M.ob;have pl:=B.pr.len;unfold bI at k;refine⟨_,U,C.b,_,C.dx,_,_,U,ho,T.f8,T.Am,lz2 U,C.pc,_,U,.inl (SqL.of hp),U,_,U,bh (λc=>?_) (λc=>?_)⟩
 ·rw[Q0 (by have:=dY c;omega)]at k;exact k
 have n0:C.pace.length≠0:=λz=>dZ c (by rw[pl,z];rfl);rw[qZ n0]at k;have lt:x % C.pace.length<C.pace.length:=Nat.mod_lt _ Yd;obtain⟨pr,e1,h1⟩:=B.pr.at (x % C.pace.length) (C.pace[x % C.pace.length]) (qc lt);have eg:C.pace.getD (x % C.pace.length) []=C.pace[x % C.pace.length]:=by rw[qj,qc lt];rfl
 rw[eg]at k;have hw:=M.own.sa _ _ h1;generalize C.pace[x % C.pace.length]=row at *
 have hat:atI C.pv ((x:Int) % (C.pv.length:Int))=some (.ref pr):=by
  rw[pl];exact bP (j:=x % C.pace.length) e1
 refine⟨_,U,C.b,_,C.dx,_,_,U,ho,T.f8,T.Am,lz2 U,_,U,_,U,C.b,_,C.dx,_,_,U,ho,T.f8,T.Am,lz2 U,C.pc,_,U,.inl (SqL.of hp),_,_,U,U,Yd,C.pc,_,_,_,U,U,SqL.of hp,hat,?_⟩;refine⟨_,U,pr,_,U,.inl (SqL.of hw),_,_,U,U,_,U,bh (λc=>?_) (λc=>?_)⟩
 ·have r0:row.length≠0:=λz=>by
   have:=Qc c;rw[q9,z]at this;exact Q4 this Qz
  rw[qZ r0]at k;have lt2:S.tks x % row.length<row.length:=Nat.mod_lt _ Yd;have eg2:row.getD (S.tks x % row.length) 0=row[S.tks x % row.length]:=by rw[qj,qc lt2];rfl
  rw[eg2]at k;have ht:=M.own.av .tl trivial;have hat2:atI ((List.range C.n).map λx=>V.int (S.tks x)) (x:Int)=some (.int (S.tks x)):=bP (by rw[qE,List.getElem?_range hx];rfl)
  have hat3:atI (row.map V.int) (((S.tks x:Nat):Int) % ((row.map V.int).length:Int))=some (.int row[S.tks x % row.length]):=by
   rw[q9];exact bP (j:=S.tks x % row.length) (by rw[qE,qc lt2];rfl)
  exact⟨_,U,_,U,C.b,_,C.dx,_,_,U,ho,T.f8,T.Ap,lz6 U,_,U,ad .tl,_,_,_,U,U,SqL.of ht,hat2,_,U,pr,_,U,.inl (SqL.of hw),_,_,U,U,by rw[q9];omega,pr,_,_,_,U,U,SqL.of hw,hat3,k⟩
 ·have r0:row.length=0:=by
   by_cases z:row.length=0
   ·exact z
   ·exact Q4 (Q1 (by rw[q9];omega)) c
  rw[Q0 r0]at k;exact k
theorem gP{ad:Rl->Addr}:∀{g:Gv}{t:Int},cD (g.map λkv=>((Sum.inl kv.1:Key),V.ref (ad (.gv kv.1)))) (Sum.inl t)=if t∈aF g then some (.ref (ad (.gv t)))else none
 |[],t=>rfl
 |(j,ps)::g,t=>by
  rw[qR];by_cases e:j=t
  ·rw[lW (by show(Sum.inl j:Key)=_;rw[e]),Q0 (by rw[<- e];exact qm),e]
  ·rw[lX (by intro z;exact e (Sum.inl.inj z)),gP];have:t∈aF ((j,ps)::g)↔t∈aF g:=⟨λh=>(qu.mp h).resolve_left λz=>e z.symm,qk _⟩;by_cases m:t∈aF g
   ·rw[Q0 m,Q0 (this.mpr m)]
   ·rw[qZ m,qZ λz=>m (this.mp z)]
theorem vD{ad:Rl->Addr}{g:Gv}{t:Int}{v:V}(h:t∉aF g):cO (g.map λkv=>((Sum.inl kv.1:Key),V.ref (ad (.gv kv.1)))) (Sum.inl t) v=(g.map λkv=>((Sum.inl kv.1:Key),V.ref (ad (.gv kv.1))))++[(Sum.inl t,v)]:=by
 unfold cO;rw[qZ];intro z;obtain⟨kv,hk,e⟩:=List.any_eq_true.mp z;obtain⟨jv,hj,rfl⟩:=List.mem_map.mp hk;exact h (List.mem_map.mpr ⟨jv,hj,Sum.inl.inj (Qc e)⟩)
section
variable {H0 H:Hp}{C:PlC}{ad:Rl->Addr}{hd:Nat->Addr}{lgv:List V}{S:PlS}
theorem ba.up{H':Hp}{D:Rl->Prop}{c:Rl->HO}(M:ba H0 H D ad c)(s:a9 H H'):ba H0 H' D ad c:=⟨M.sa.trans s,M.nw,M.inj,λr hr=>s _ _ (M.av r hr)⟩
theorem PlH.up{H':Hp}(M:PlH a H0 H C ad hd lgv S)(s:a9 H H'):PlH a H0 H' C ad hd lgv S:=⟨M.own.up s,M.b,M.qo,M.hd,M.lg⟩
theorem PlH.low{H0' H':Hp}(M:PlH a H0 H C ad hd lgv S)(s:a9 H0 H0')(o:ba H0' H' (dmP C.nl (aF S.gv)) ad (cnP a C ad hd lgv S)):PlH a H0' H' C ad hd lgv S:=⟨o,M.b,M.qo,λx hx=>let ⟨vs,h1,h2⟩:=M.hd x hx;⟨vs,s _ _ h1,h2.same s⟩,M.lg.same s⟩
theorem zB{g:Gv}{t:Int}{ps:List Nat}(m:t∈aF g):(bc g t ps).map (λkv=>((Sum.inl kv.1:Key),V.ref (ad (.gv kv.1))))=g.map (λkv=>((Sum.inl kv.1:Key),V.ref (ad (.gv kv.1)))):=by
 unfold bc;split
 ·rfl
 ·first|rw[Q0 m]|skip
  rw[List.map_map]
  exact List.map_congr_left λkv _=>by
   show(λkv:Int×List Nat=>((Sum.inl kv.1:Key),V.ref (ad (.gv kv.1)))) (if kv.1=t then(kv.1,kv.2++ps)else kv)=_;split<;>rfl
theorem PlH.more(M:PlH a H0 H C ad hd lgv S){t:Int}(m:t∈aF S.gv)(ps:List Nat):PlH a H0 (upd H (ad (.gv t)) (.lst (ay (atG S.gv t)++ay ps))) C ad hd lgv { S with gv:=bc S.gv t ps }:=by
 have o:=M.own.put (.gv t) m (.lst (ay (atG S.gv t)++ay ps));refine⟨o.less (λr hr=>?_) λr hr=>?_,M.b,M.qo,M.hd,M.lg⟩
 ·cases r with
  |gv k=>exact(iz.mp hr).elim id λz=>z.2▸m
  |_=>exact hr
 ·cases r with
  |gv k=>
   show _=HO.lst (ay (atG (bc S.gv t ps) k));rw[rZ];by_cases e:k=t
   ·rw[e,bO,Q0 U];unfold ay;rw[qO]
   ·rw[bq λz=>e (Rl.gv.inj z),qZ e]
    rfl
  |gd=>
   show HO.dK _=HO.dK ((bc S.gv t ps).map _);rw[zB m]
  |_=>rfl
theorem PlH.newTurn(M:PlH a H0 H C ad hd lgv S){t:Int}(m:t∉aF S.gv){ps:List Nat}(hp:ps≠[]){z:Addr}(hz:H z=none):PlH a H0 (upd (upd (upd H z (.lst [])) (ad .gd) (.dK ((S.gv.map λkv=>((Sum.inl kv.1:Key),V.ref (ad (.gv kv.1))))++[(Sum.inl t,.ref z)]))) z (.lst (ay ps))) C (at' ad (.gv t) z) hd lgv { S with gv:=bc S.gv t ps }:=by
 have o1:=M.own.new (.gv t) hz (.lst []);have o2:=o1.put .gd (.inr trivial) (.dK ((S.gv.map λkv=>((Sum.inl kv.1:Key),V.ref (ad (.gv kv.1))))++[(Sum.inl t,.ref z)]));have o3:=o2.put (.gv t) (.inl U) (.lst (ay ps));rw[bO]at o3;have ea:bc S.gv t ps=S.gv++[(t,ps)]:=by unfold bc;rw[qZ hp,qZ m]
 refine⟨o3.less (λr hr=>?_) λr hr=>?_,M.b,M.qo,M.hd,M.lg⟩
 ·cases r with
  |gv k=>exact(iz.mp hr).elim .inr λz=>.inl (by rw[z.2])
  |_=>exact .inr hr
 ·cases r with
  |gv k=>
   show _=HO.lst (ay (atG (bc S.gv t ps) k));rw[rZ];by_cases e:k=t
   ·rw[e,bO,Q0 U,lE m,Qk]
   ·rw[bq λz=>e (Rl.gv.inj z),qZ e];show at' (cnP a C ad hd lgv S) (.gv t) (.lst []) (.gv k)=_;rw[bq λz=>e (Rl.gv.inj z)]
    rfl
  |gd=>
   show HO.dK _=HO.dK ((bc S.gv t ps).map λkv=>((Sum.inl kv.1:Key),V.ref (at' ad (.gv t) z (.gv kv.1))));rw[ea,qO];refine congrArg HO.dK (congr (congrArg HAppend.hAppend (List.map_congr_left λkv hk=>?_)) ?_)
   ·rw[bq λz=>m (by have e:=Rl.gv.inj z;rw[<- e];exact List.mem_map.mpr ⟨kv,hk,U⟩)]
   ·show _=[((Sum.inl t:Key),V.ref (at' ad (.gv t) z (.gv t)))];rw[bO]
  |_=>rfl
end
theorem oY(T:Tx P w K mg a):aC P w K mg base CX0 1 a.Bz a.BA ["self","turn","parts"] (nC a):=by
 refine T.En.ok uE (λvs H Q E h=>?_) (λcdv A outer s H vs Q E hr h=>?_)
 ·obtain⟨_,_,_,_,_,_,_,_,_,rfl,_⟩:=h
  rfl
 obtain⟨H0,C,ad,hd,lgv,S,t,l,ps,rfl,B,M,hl,hn,gl,pl,gb,nd,k⟩:=h;refine⟨_,(ai (aX (aO i4 (bz c5 U T.wp Q7 (a8 (pq 2) ac)) aa (aJ _)) (ai (bM (cF qg Qn Qm kF (vY (az (pq 0) U) (pq 1) (bR ac) ⟨U,U,U,U⟩) (a8 (pq 2) ac)))) aW)),?_⟩;refine⟨_,U,l,_,U,.inl (SqL.of hl),_,_,U,U,_,U,bh (λc=>?_) (λc=>?_)⟩
 ·have p0:ps≠[]:=λz=>by rw[z]at c;exact Q4 c Qz
  have ho:=M.ob;have hg:=M.own.av .gd trivial;refine⟨_,U,C.b,_,C.dx,_,_,U,ho,T.f8,T.Ae,lz7 U,ad .gd,U,.inl ⟨_,.of hg⟩,_,U,qt _,λz hz=>?_⟩;have ng:ad .gd≠z:=λe=>by rw[e,hz]at hg;cases hg
  have nl:l≠z:=λe=>by rw[e,hz]at hl;cases hl
  have ngl:l≠ad .gd:=λe=>by rw[e,hg]at hl;cases hl
  have big:(10000000:Nat)<sizeLine:=Qz;refine⟨_,.inl t,by rw[ah ng];exact hg,U,by rw[q9];omega,λv hv=>?_,λhv=>?_⟩
  ·rw[gP]at hv;split at hv
   ·rename_i m;cases hv;have M1:=M.up (a9.new hz (.lst []));have h1:=M1.own.av (.gv t) m;have lb:(atG S.gv t).length<=1000:=gb _ (fI m);refine⟨.inl ⟨U,_,SqL.of h1⟩,_,U,ad (.gv t),l,_,_,U,U,h1,by rw[ah nl];exact hl,?_,?_⟩
    ·unfold ay;rw[q9,q9];omega
    exact k _ ad (M1.more m ps) λ_ _=>U
   ·cases hv
  ·rw[gP]at hv;split at hv
   ·cases hv
   rename_i m;rw[vD m];have M2:=M.newTurn m p0 hz;refine⟨.inl ⟨U,_,SqL.of (xs:=[]) (by rw[ah (Ne.symm ng),af])⟩,_,U,z,l,_,_,U,U,(by rw[ah (Ne.symm ng),af]:_=some (HO.lst [])),(by rw[ah ngl,ah nl];exact hl),?_,?_⟩
   ·show 0+_<=_;unfold ay;rw[q9];omega
   ·exact k _ _ M2 λr hr=>bq (hr t)
 ·have p0:ps=[]:=by
   cases ps with
   |nil=>rfl
   |cons p ps=>exact Q4 (Q1 (by show(0:Int)<(((ay (p::ps)).length:Nat):Int);unfold ay;rw[q9,qA];omega)) c
  have:=k H ad (by rw[p0];exact M) λ_ _=>U;exact this
section
variable {H0 H:Hp}{C:PlC}{ad:Rl->Addr}{hd:Nat->Addr}{lgv:List V}{S:PlS}
def qsP(C:PlC)(ad:Rl->Addr):List (Addr×Addr×Addr):=(List.range C.nl).map λi=>(C.qo i,C.dq i,ad (.ql i))
def stP(C:PlC)(S:PlS):List (List Int×Nat):=(List.range C.nl).map S.st
def lsP(C:PlC):List (Option Int):=(List.range C.nl).map C.ls
theorem cg{α:Type}{f:Nat->α}{n i:Nat}(h:i<n):((List.range n).map f)[i]?=some (f i):=by rw[qE,List.getElem?_range h];rfl
theorem PlH.ry(M:PlH a H0 H C ad hd lgv S)(B:PlB a H0 C)(cp:∀i,(S.st i).2<=(S.st i).1.length/\(S.st i).1.length<=10000000):RY a H C.y C.dy C.la C.lq (qsP C ad) (stP C S) (lsP C):=by
 refine⟨M.own.sa _ _ B.yo,?_,by unfold qsP stP;simp,λi q s hq hs=>?_,?_,by unfold lsP stP;simp⟩
 ·rw[M.own.sa _ _ B.lq];unfold qsP;rw[List.map_map]
  rfl
 ·have lt:i<C.nl:=by have:=(qf.mp hs).1;unfold stP at this;simpa using this
  unfold qsP at hq;unfold stP at hs;rw[cg lt]at hq hs;cases hq;cases hs;exact⟨M.qo i lt▸M.own.av (.qo i) lt,M.own.av (.ql i) lt,(cp i).1,(cp i).2⟩
 ·rw[M.own.sa _ _ B.la];unfold lsP;rw[List.map_map]
  rfl
end
theorem RPs.at{H:Hp}:∀{vs:List V}{xs:List (Int×Int)},RPs H vs xs->∀{i:Nat}{v:V},vs[i]?=some v->∃p x,v=.ref p/\xs[i]?=some x/\H p=some (.tup [.int x.1,.int x.2])
 |_,_,.nil,i,v,h=>by simp at h
 |_,_,.cons (p:=p) (x:=x) a r,0,v,h=>by cases h;exact⟨p,x,U,U,a⟩
 |_,_,.cons a r,i+1,v,h=>RPs.at r (by simpa using h)
theorem kX{α:Type}{p:α->Bool}:∀{l:List α}{i:Nat}{y:α},l[i]?=some y->p y=true->(∀z∈l.take i,p z=false)->l.find? p=some y
 |[],i,y,h,_,_=>by simp at h
 |x::l,0,y,h,hy,_=>by cases h;rw[List.find?_cons_of_pos hy]
 |x::l,i+1,y,h,hy,hz=>by
  rw[List.find?_cons_of_neg (by rw[hz x qm];exact qi)];exact kX (i:=i) (by simpa using h) hy λz hm=>hz z (qk _ hm)
theorem kQ:∀(ps:List (Int×Int))(S:PlS)(j:Nat),((ps.foldl ak S).st j).1.length<=(S.st j).1.length+ps.length/\(S.st j).1.length<=((ps.foldl ak S).st j).1.length/\((ps.foldl ak S).st j).2=(S.st j).2
 |[],S,j=>⟨qe _,qe _,U⟩
 |p::ps,S,j=>by
  obtain⟨h1,h2,h3⟩:=kQ ps (ak S p) j
  have e:((ak S p).st j).1.length<=(S.st j).1.length+1/\(S.st j).1.length<=((ak S p).st j).1.length/\((ak S p).st j).2=(S.st j).2:=by
   show((put S.st p.1.toNat _ j).1.length<=_)/\_<=(put S.st p.1.toNat _ j).1.length/\(put S.st p.1.toNat _ j).2=_;by_cases c:j=p.1.toNat
   ·rw[c,aE];exact⟨by rw[qb];exact qe _,by rw[qb];exact Nat.le_add_right _ _,U⟩
   ·rw[ax c];exact⟨Nat.le_succ _,qe _,U⟩
  show((ps.foldl ak (ak S p)).st j).1.length<=_/\_<=((ps.foldl ak (ak S p)).st j).1.length/\((ps.foldl ak (ak S p)).st j).2=_;rw[qA];omega
theorem pX:∀(ps:List (Int×Int))(S:PlS),(ps.foldl ak S).lg=S.lg
 |[],_=>rfl
 |p::ps,S=>pX ps (ak S p)
theorem pY:∀(ps:List (Int×Int))(S:PlS),(ps.foldl ak S).held=S.held
 |[],_=>rfl
 |p::ps,S=>pY ps (ak S p)
theorem ir(x y:List Nat):ay (x++y)=ay x++ay y:=qO
theorem eU(x:List Nat):(ay x).length=x.length:=q9 _
theorem iA{n i:Nat}(h:i<n):ixN n (i:Int)=some i:=by
 unfold ixN;rw[Q0 Yd,Q0 Yd];simp
theorem hZ{α β:Type}{f:Nat->β}{g:β->α}{n i:Nat}{v:β}:((List.range n).map λj=>g (f j)).set i (g v)=(List.range n).map λj=>g (put f i v j):=by
 refine List.ext_getElem? λj=>?_;by_cases hj:j<n
 ·rw[cg hj];by_cases e:i=j
  ·subst e;rw[List.getElem?_set_self (by rw[q9,Qd];exact hj),aE]
  ·rw[List.getElem?_set_ne e,cg hj,ax (Ne.symm e)]
 ·rw[Qo (by rw[List.length_set,q9,Qd];omega),Qo (by rw[q9,Qd];omega)]
section
variable {H0 H:Hp}{C:PlC}{ad:Rl->Addr}{hd:Nat->Addr}{lgv:List V}{S:PlS}
theorem PlH.stuck(M:PlH a H0 H C ad hd lgv S){i x:Nat}(hi:i<C.nl):PlH a H0 (upd H (ad (.wr i)) (.lst (ay (S.wr i)++[.int x]))) C ad hd lgv (gS S i x):=by
 have o:=M.own.put (.wr i) hi (.lst (ay (S.wr i)++[.int x]));refine⟨o.less (λr hr=>hr) λr hr=>?_,M.b,M.qo,M.hd,M.lg⟩
 cases r with
 |wr j=>
  show _=HO.lst (ay (put S.wr i (S.wr i++[x]) j));by_cases e:j=i
  ·rw[e,bO,aE,ir];rfl
  ·rw[bq λz=>e (Rl.wr.inj z),ax e];rfl
 |_=>rfl
theorem PlH.wait(M:PlH a H0 H C ad hd lgv S){i x:Nat}(hi:i<C.nl):PlH a H0 (upd H (ad (.wt i)) (.lst (ay (S.wt i)++[.int x]))) C ad hd lgv (fX S i x):=by
 have o:=M.own.put (.wt i) hi (.lst (ay (S.wt i)++[.int x]));refine⟨o.less (λr hr=>hr) λr hr=>?_,M.b,M.qo,M.hd,M.lg⟩
 cases r with
 |wt j=>
  show _=HO.lst (ay (put S.wt i (S.wt i++[x]) j));by_cases e:j=i
  ·rw[e,bO,aE,ir];rfl
  ·rw[bq λz=>e (Rl.wt.inj z),ax e];rfl
 |_=>rfl
theorem zE{ad:Rl->Addr}{i:Nat}{z:Addr}:(λj=>V.ref (at' ad (.wt i) z (.wt j)))=λj=>V.ref (put (λj=>ad (.wt j)) i z j):=funext λj=>by
 by_cases e:j=i
 ·rw[e,bO,aE]
 ·rw[bq λz=>e (Rl.wt.inj z),ax e]
theorem zD{ad:Rl->Addr}{i:Nat}{z:Addr}:(λj=>V.ref (at' ad (.wr i) z (.wr j)))=λj=>V.ref (put (λj=>ad (.wr j)) i z j):=funext λj=>by
 by_cases e:j=i
 ·rw[e,bO,aE]
 ·rw[bq λz=>e (Rl.wr.inj z),ax e]
theorem PlH.hand(M:PlH a H0 H C ad hd lgv S){p:Int×Int}(hi:p.1.toNat<C.nl){z:Addr}(hz:upd (upd H (ad (.ql p.1.toNat)) (.lst (((S.st p.1.toNat).1++[p.2]).map V.int))) (ad .tk) (.lst (ay S.tr++ay (S.wt p.1.toNat))) z=none):
 PlH a H0 (upd (upd (upd (upd H (ad (.ql p.1.toNat)) (.lst (((S.st p.1.toNat).1++[p.2]).map V.int))) (ad .tk) (.lst (ay S.tr++ay (S.wt p.1.toNat)))) z (.lst [])) (ad .wtl) (.lst (((List.range C.nl).map λi=>V.ref (ad (.wt i))).set p.1.toNat (.ref z)))) C (at' ad (.wt p.1.toNat) z) hd lgv (ak S p):=by
 have o1:=M.own.put (.ql p.1.toNat) hi (.lst (((S.st p.1.toNat).1++[p.2]).map V.int));have o2:=o1.put .tk trivial (.lst (ay S.tr++ay (S.wt p.1.toNat)));have o3:=o2.new (.wt p.1.toNat) hz (.lst []);have o4:=o3.put .wtl (.inr trivial) (.lst (((List.range C.nl).map λi=>V.ref (ad (.wt i))).set p.1.toNat (.ref z)));refine⟨o4.less (λr hr=>.inr hr) λr hr=>?_,M.b,M.qo,M.hd,M.lg⟩
 cases r with
 |wt j=>
  show at' _ (Rl.wt _) _ (Rl.wt j)=HO.lst (ay (put S.wt p.1.toNat [] j));by_cases e:j=p.1.toNat
  ·rw[e,bO,aE];rfl
  ·rw[bq λz=>e (Rl.wt.inj z),ax e];rfl
 |ql j=>
  show at' _ (Rl.ql _) _ (Rl.ql j)=HO.lst ((put S.st p.1.toNat _ j).1.map V.int);by_cases e:j=p.1.toNat
  ·rw[e,bO,aE]
  ·rw[bq λz=>e (Rl.ql.inj z),ax e];rfl
 |qo j=>
  show HO.ins _ _ [_,("gone",V.int ((S.st j).2:Nat))]=HO.ins _ _ [_,("gone",V.int ((put S.st p.1.toNat _ j).2:Nat))];by_cases e:j=p.1.toNat
  ·rw[e,aE];rfl
  ·rw[ax e];rfl
 |tk=>
  show HO.lst _=HO.lst (ay (S.tr++S.wt p.1.toNat));rw[ir]
 |wtl=>
  show HO.lst _=HO.lst ((List.range C.nl).map λj=>V.ref (at' ad (.wt p.1.toNat) z (.wt j)));rw[zE,hZ]
 |_=>rfl
theorem PlH.ent(M:PlH a H0 H C ad hd lgv S){e:Ent}{z l:Addr}{us:List V}(hz:H z=none)(h2:H0 l=some (.lst us))(h3:RPs H0 us e.hs):
 PlH a (upd H0 z (.tup [.int e.now,.int e.part,.str (if e.took then "took" else "gave"),.ref l])) (upd (upd H z (.tup [.int e.now,.int e.part,.str (if e.took then "took" else "gave"),.ref l])) (ad .lg) (.lst (lgv++[.ref z]))) C ad hd (lgv++[.ref z]) { S with lg:=S.lg++[e] }:=by
 have s0:a9 H0 (upd H0 z (.tup [.int e.now,.int e.part,.str (if e.took then "took" else "gave"),.ref l])):=a9.new (a9.none M.own.sa hz) _;have o:=(M.own.base hz (.tup [.int e.now,.int e.part,.str (if e.took then "took" else "gave"),.ref l])).put .lg trivial (.lst (lgv++[.ref z]));refine⟨o.less (λr hr=>hr) λr hr=>?_,M.b,M.qo,λx hx=>let ⟨vs,h1,h2⟩:=M.hd x hx;⟨vs,s0 _ _ h1,h2.same s0⟩,REs.snoc af (s0 _ _ h2) (h3.same s0) (M.lg.same s0)⟩;cases r<;>rfl
theorem PlH.trx(M:PlH a H0 H C ad hd lgv S)(x:Nat):PlH a H0 (upd H (ad .tk) (.lst (ay S.tr++[.int x]))) C ad hd lgv { S with tr:=S.tr++[x] }:=by
 have o:=M.own.put .tk trivial (.lst (ay S.tr++[.int x]));refine⟨o.less (λr hr=>hr) λr hr=>?_,M.b,M.qo,M.hd,M.lg⟩
 cases r with
 |tk=>show HO.lst _=HO.lst (ay (S.tr++[x]));rw[ir];rfl
 |_=>rfl
end
theorem xc(T:Tx P w K mg a):aC P w K mg base CX0 4 a.Bw a.Bx ["self","now","part"] (nu a):=by
 refine T.Ej.ok fj (λvs H Q E h=>?_) (λcdv A outer s H vs Q E hr h=>?_)
 ·obtain⟨_,_,_,_,_,_,_,_,_,rfl,_⟩:=h
  rfl
 obtain⟨H0,C,ad,hd,lgv,S,now,x,rem,rfl,B,M,G,k⟩:=h
 refine⟨_,(ae (aK (i:=3) fj.nd U Oi (am aV (az (pq 0) U) (pq 2) Oy))
  (ae (cE PassesOwn.never U (c6 (pq 3)) (gy U (bN (aP (i:=4) fj.nd U Oi) (bN (aP (i:=5) fj.nd U Oi) dc)))
  (ai (aX (dQ (d4 (cU (az (pq 0) U) T.wT T.ER (wO T) (hr.mono Qz) T.DJ .nil ar (a8 (pq 4) ac)))) (ae (bM (cF qg qv qw d8 (am aV (az (pq 0) U) (pq 4) Oy) (a8 (pq 2) ac)))
  (ai vI)) aW)))
  (ae (cE PassesOwn.never U (c6 (pq 3)) (gy U (bN (aP (i:=4) fj.nd U Oi) (bN (aP (i:=5) fj.nd U Oi) dc)))
  (ae (bM (cU (az (pq 0) U) T.wT T.ET (wQ T) (hr.mono Qz) T.DN .nil ar (a8 (pq 4) (a8 (pq 5) ac))))
  (ae (bM (cF qg Qn Qm kF (az (pq 0) U) (a8 (am aV (az (pq 0) U) (pq 4) Oy) ac)))
  (ai (eK (bR ac) (fB (az (pq 0) U) (pq 4) fg))))))
  (ae (bM (cF qg qv qw d8 (az (pq 0) U) (a8 (cr (a8 (pq 1) (a8 (pq 2) (a8 bF (a8 (pq 3) ac))))) ac)))
  (ai (bM (cF qg qv qw d8 (az (pq 0) U) (a8 (pq 2) ac)))))))),?_⟩
 obtain⟨loc,I⟩:=G.loc;have hx:=I.not.2.1;have ho:=M.ob;obtain⟨vs,hv0,hvs⟩:=M.hd x hx;have hv:=M.own.sa _ _ hv0;have vl:=hvs.len;have cp:=G.cap;have hh:=M.own.av .hl trivial;have ry:=M.ry B λi=>⟨(cp.st i).2,by have:=(cp.st i).1;omega⟩;have hat:atI ((List.range C.n).map λx=>V.ref (hd x)) (x:Int)=some (.ref (hd x)):=bP (cg hx);refine⟨_,U,C.b,_,C.dx,_,_,U,ho,T.f8,T.Ct,lz5 U,_,U,ad .hl,_,_,_,U,U,SqL.of hh,hat,?_⟩;refine⟨_,U,hd x,U,⟨_,SqL.of hv⟩,?_⟩;refine e9 (K:=K) (a:=hd x) (xs:=vs) (λi σ G=>(∃v4 v5,σ=[some (.ref C.b),some (.int now),some (.int x),some (.ref (hd x)),v4,v5])/\G=H/\∀p∈(S.held x).take i,roomF C.ls S p.1.toNat=true) ⟨⟨_,_,U⟩,U,λp hp=>by simp at hp⟩ ?_ ?_ ?_
 ·rintro i σ G _ ⟨_,rfl,_⟩;exact SqL.of hv
 ·rintro i v σ G hi ⟨⟨v4,v5,rfl⟩,rfl,hp⟩;obtain⟨p,y,rfl,hy,hpy⟩:=hvs.at hi;have hp1:=M.own.sa _ _ hpy;have yr:=(cp.hn x hx).1 y (qz hy);have lt:y.1.toNat<C.nl:=Yd;refine⟨p,_,U,SqT.of hp1,U,_,_,U,_,_,U,U,?_⟩;refine⟨_,U,C.b,_,C.dx,_,_,U,ho,T.f8,T.A5,lz0 U,C.y,C.dy,_,U,ry.o,eV Qy,_,U,C.y,C.dy,C.la,C.lq,_,_,_,y.1,S.st y.1.toNat,C.ls y.1.toNat,U,ry,yr.1,cg lt,cg lt,_,U,?_⟩
  cases c:roomF C.ls S y.1.toNat with
  |true=>
   refine bj (by rw[show cN (C.ls y.1.toNat) (((S.st y.1.toNat).1.length:Int)-(S.st y.1.toNat).2)=true from c];rfl) ⟨⟨_,_,U⟩,U,λq hq=>?_⟩;rw[qr,hy,qh]at hq;rcases hq with hq|hq
   ·exact hp q hq
   ·rw[qS.mp hq];exact c
  |false=>
   have hwr:=M.own.av .wrl trivial;have hwi:=M.own.av (.wr y.1.toNat) lt
   have hatw:atI ((List.range C.nl).map λi=>V.ref (ad (.wr i))) y.1=some (.ref (ad (.wr y.1.toNat))):=by
    rw[<- Int.toNat_of_nonneg yr.1];exact bP (cg lt)
   have wl:=(I.wr y.1.toNat).len;have nb:=B.n;refine bS (by rw[show cN (C.ls y.1.toNat) (((S.st y.1.toNat).1.length:Int)-(S.st y.1.toNat).2)=false from c];rfl) ?_;refine⟨_,U,C.b,_,C.dx,_,_,U,ho,T.f8,T.Aq,lz9 U,_,U,ad .wrl,_,_,_,U,U,SqL.of hwr,hatw,.inl ⟨U,_,SqL.of hwi⟩,_,U,ad (.wr y.1.toNat),_,_,U,U,hwi,bf (m:=1000) (by rw[eU];omega),?_⟩;refine k H0 _ ad lgv (a9.refl _) ?_
   rw[show cu C.ls S now x=gS S y.1.toNat x by
    unfold cu
    rw[kX hy (by rw[c];rfl) λz hz=>by rw[hp z hz];rfl]]
   exact M.stuck lt
 ·rintro σ G ⟨⟨v4,v5,rfl⟩,rfl,hp⟩;rw[List.take_of_length_le Yd]at hp
  have eg:cu C.ls S now x=dC S now x:=by
   unfold cu;rw[List.find?_eq_none.mpr λp hm=>by rw[hp p hm];exact qi]
  rw[eg]at k;refine⟨_,U,hd x,U,⟨_,SqL.of hv⟩,?_⟩;refine e9 (K:=K) (a:=hd x) (xs:=vs) (λi σ G=>(∃v4 v5,σ=[some (.ref C.b),some (.int now),some (.int x),some (.ref (hd x)),v4,v5])/\∃ad' loc',aM C.n loc' (x::rem) (((S.held x).take i).foldl ak S)/\PlH a H0 G C ad' hd lgv (((S.held x).take i).foldl ak S)) ⟨⟨_,_,U⟩,ad,loc,I,M⟩ ?_ ?_ ?_
  ·rintro i σ G _ ⟨_,ad',loc',_,M1⟩;exact SqL.of (M1.own.sa _ _ hv0)
  ·rintro i v σ G hi ⟨⟨v4,v5,rfl⟩,ad',loc',I1,M1⟩;obtain⟨p,y,rfl,hy,hpy⟩:=hvs.at hi;have hp1:=M1.own.sa _ _ hpy;have yr:=(cp.hn x hx).1 y (qz hy);have lt:y.1.toNat<C.nl:=Yd;have hl10:=(cp.hn x hx).2.1
   have es:((S.held x).take (i+1)).foldl ak S=ak (((S.held x).take i).foldl ak S) y:=by
    rw[qr,hy,List.foldl_append]
    rfl
   have hst:=kQ ((S.held x).take i) S;generalize ((S.held x).take i).foldl ak S=S1 at I1 M1 es hst;have tl:((S.held x).take i).length<=10:=qy (List.length_take_le' _ _) hl10;have ry1:=M1.ry B λj=>⟨by have:=hst j;have:=cp.st j;omega,by have:=hst j;have:=cp.st j;omega⟩;refine⟨p,_,U,SqT.of hp1,U,_,_,U,_,_,U,U,?_⟩;refine⟨_,U,C.b,_,C.dx,_,_,U,M1.ob,T.f8,T.A5,lz0 U,C.y,C.dy,_,U,ry1.o,eV Qy,_,U,_,U,C.y,C.dy,C.la,C.lq,_,_,_,y.1,y.2,_,S1.st y.1.toNat,U,ry1,yr.1,cg lt,cg lt,?_⟩;have o1:=M1.own.put (.ql y.1.toNat) lt (.lst (((S1.st y.1.toNat).1++[y.2]).map V.int));have b1:upd G (ad' (.ql y.1.toNat)) (.lst (((S1.st y.1.toNat).1++[y.2]).map V.int)) C.b=some (plO a C ad' S1.sp):=M1.b▸o1.av .b trivial;have t1:_=some (HO.lst (ay S1.tr)):=o1.av .tk trivial;have w1:_=some (HO.lst ((List.range C.nl).map λi=>V.ref (ad' (.wt i)))):=o1.av .wtl trivial;have v1:_=some (HO.lst (ay (S1.wt y.1.toNat))):=o1.av (.wt y.1.toNat) lt
   have hatw:atI ((List.range C.nl).map λi=>V.ref (ad' (.wt i))) y.1=some (.ref (ad' (.wt y.1.toNat))):=by
    rw[<- Int.toNat_of_nonneg yr.1];exact bP (cg lt)
   have lb:=I1.tr.len2 (I1.wt y.1.toNat) nofun
   have nb:=B.n;have big:(1000:Nat)<sizeLine:=Qz;refine⟨_,U,C.b,_,C.dx,_,_,U,b1,T.f8,T.Af,lz8 U,.inl ⟨U,_,SqL.of t1⟩,_,U,C.b,_,C.dx,_,_,U,b1,T.f8,T.Ar,kH U,_,U,ad' .wtl,_,_,_,U,U,SqL.of w1,hatw,ad' .tk,ad' (.wt y.1.toNat),_,_,U,U,t1,v1,by rw[eU,eU];omega,?_⟩;have o2:=o1.put .tk trivial (.lst (ay S1.tr++ay (S1.wt y.1.toNat)));refine⟨qt _,λz hz=>?_⟩;have M3:=M1.hand (p:=y) lt hz;have o3:=o2.up (a9.new hz (.lst []));have b3:_=some (plO a C ad' S1.sp):=M1.b▸o3.av .b trivial;have w3:_=some (HO.lst ((List.range C.nl).map λi=>V.ref (ad' (.wt i)))):=o3.av .wtl trivial;refine⟨_,U,C.b,_,C.dx,_,_,U,b3,T.f8,T.Ar,kH U,_,U,ad' .wtl,_,_,y.1.toNat,U,U,w3,?_,?_⟩
   ·rw[q9,Qd,<- Int.toNat_of_nonneg yr.1];exact iA lt
   exact⟨⟨_,_,U⟩,_,_,by rw[es];exact I1.hand y,by rw[es];exact M3⟩
  ·rintro σ G ⟨⟨v4,v5,rfl⟩,ad',loc',I1,M1⟩;rw[List.take_of_length_le Yd]at I1 M1;have el:=pX (S.held x) S;have eh:=pY (S.held x) S;have tb:=I1.tr.len;have nb:=B.n;have ll:=M1.lg.len;have l7:=cp.lg;have big:(10000000:Nat)<sizeLine:=Qz;have h2:H0 (hd x)=some (.lst vs):=hv0;unfold dC at k;generalize (S.held x).foldl ak S=S1 at I1 M1 el eh k tb ll;have hlg:=M1.own.av .lg trivial;refine⟨_,U,C.b,_,C.dx,_,_,U,M1.ob,T.f8,T.Ao,lz4 U,.inl ⟨U,_,SqL.of hlg⟩,_,U,_,U,_,U,ln4,λz hz=>?_⟩;have M2:=M1.ent (e:=⟨now,x,false,S.held x⟩) hz h2 hvs;have nz:ad' .lg≠z:=λe=>by rw[e,hz]at hlg;cases hlg
   refine⟨ad' .lg,_,_,U,U,by rw[ah nz];exact hlg,?_,?_⟩
   ·show lgv.length<_;rw[ll,el];omega
   have t2:=M2.own.av .tk trivial;refine⟨_,U,C.b,_,C.dx,_,_,U,M2.ob,T.f8,T.Af,lz8 U,.inl ⟨U,_,SqL.of t2⟩,_,U,ad' .tk,_,_,U,U,t2,bf (m:=1000) (by show(ay S1.tr).length+1<=1000;rw[eU];omega),?_⟩;exact k _ _ ad' _ (a9.new (a9.none M1.own.sa hz) _) (M2.trx x)
theorem sJ(T:Tx P w K mg a){H:Hp}{v:V}{r:PR}(h:RPt a H v r){X:Cx}(e1:X.prog=P)(e2:X.w=w)(e3:X.K=K)(e4:X.mg=mg)(hr:bw 4 X.A):∃p C dx fs,v=.ref p/\H p=some (.ins C dx fs)/\List.lookup ("wants":Str) fs=none/\lO X C "wants" (gT a (decide (r.kind=3))):=by
 subst e1 e2 e3 e4
 cases h with
 |pass h1 _ _ _=>exact⟨_,_,_,_,U,h1,by rw[aQ Qy,aQ Qy,aQ Qy];rfl,1,_,_,_,T.A0,T.EZ,kC T,hr.mono Qz,T.Ce⟩
 |work h1 _ _ _ _=>exact⟨_,_,_,_,U,h1,by rw[aQ Qy,aQ Qy,aQ Qy,aQ Qy];rfl,1,_,_,_,T.zU,T.Fd,kC T,hr.mono Qz,T.Ce⟩
 |choose h1 _ _ _=>exact⟨_,_,_,_,U,h1,by rw[aQ Qy,aQ Qy,aQ Qy,aQ Qy,aQ Qy];rfl,1,_,_,_,T.xz,T.Fh,kC T,hr.mono Qz,T.Ce⟩
 |merge h1 _ _ _ _=>exact⟨_,_,_,_,U,h1,by rw[aQ Qy,aQ Qy,aQ Qy,aQ Qy];rfl,4,_,_,_,T.zS,T.Fk,xi T,hr.mono Qz,T.Ea⟩
theorem xP(T:Tx P w K mg a){H:Hp}{v:V}{r:PR}(h:RPt a H v r){X:Cx}(e1:X.prog=P)(e2:X.w=w)(e3:X.K=K)(e4:X.mg=mg)(hr:bw 3 X.A):∃p C dx fs,v=.ref p/\H p=some (.ins C dx fs)/\List.lookup ("made":Str) fs=none/\lO X C "made" (fe a r.kind):=by
 subst e1 e2 e3 e4
 cases h with
 |pass h1 _ _ _=>exact⟨_,_,_,_,U,h1,by rw[aQ Qy,aQ Qy,aQ Qy];rfl,1,_,_,_,T.A0,T.EY,xg T,hr.mono Qz,T.DX⟩
 |work h1 _ _ _ _=>exact⟨_,_,_,_,U,h1,by rw[aQ Qy,aQ Qy,aQ Qy,aQ Qy];rfl,3,_,_,_,T.zU,T.Fc,wV T,hr.mono Qz,T.E2⟩
 |choose h1 _ _ _=>exact⟨_,_,_,_,U,h1,by rw[aQ Qy,aQ Qy,aQ Qy,aQ Qy,aQ Qy];rfl,1,_,_,_,T.xz,T.Fg,xn T,hr.mono Qz,T.E6⟩
 |merge h1 _ _ _ _=>exact⟨_,_,_,_,U,h1,by rw[aQ Qy,aQ Qy,aQ Qy,aQ Qy];rfl,1,_,_,_,T.zS,T.Fl,xj T,hr.mono Qz,T.Ec⟩
section
variable {H0 H:Hp}{C:PlC}{ad:Rl->Addr}{hd:Nat->Addr}{lgv:List V}{S:PlS}
theorem PlH.adopt(M:PlH a H0 H C ad hd lgv S){t:Addr}{ys:List V}(ht:H t=some (.tup ys)):∃H0',a9 H0 H0'/\H0' t=some (.tup ys)/\PlH a H0' H C ad hd lgv S:=by
 have ne:∀r,dmP C.nl (aF S.gv) r->ad r≠t:=λr hr z=>by
  have:=M.own.av r hr;rw[z,ht]at this;cases r<;>cases this
 have s:a9 H0 (upd H0 t (.tup ys)):=λc o h=>by
  by_cases e:c=t
  ·rw[e,af];rw[e]at h;exact ht.symm.trans (M.own.sa _ _ h)
  ·rw[ah e];exact h
 refine⟨_,s,af,M.low s ⟨λc o h=>?_,λr hr=>by rw[ah (ne r hr)];exact M.own.nw r hr,M.own.inj,M.own.av⟩⟩;by_cases e:c=t
 ·rw[e,af]at h;rw[e];exact ht.trans h
 ·rw[ah e]at h;exact M.own.sa _ _ h
theorem PlH.ground(M:PlH a H0 H C ad hd lgv S){H':Hp}(s:a9 H H'):∃H0',a9 H0 H0'/\(∀x o,H x=none->H' x=some o->H0' x=some o)/\PlH a H0' H' C ad hd lgv S:=by
 obtain⟨H0',s0,h,o⟩:=M.own.more s;exact⟨H0',s0,h,M.low s0 o⟩
theorem RPs.new{H' K0:Hp}:∀{us:List V}{ps:List (Int×Int)},RPs H' us ps->fQ H us->(∀x o,H x=none->H' x=some o->K0 x=some o)->RPs K0 us ps
 |_,_,.nil,_,_=>.nil
 |_,_,.cons h r,n,k=>.cons (k _ _ (n _ qm) h) (RPs.new r (λp hp=>n p (qk _ hp)) k)
theorem PlH.earth(M:PlH a H0 H C ad hd lgv S){z:Addr}(hz:H z=none)(o:HO):PlH a (upd H0 z o) (upd H z o) C ad hd lgv S:=M.low (a9.new (a9.none M.own.sa hz) _) (M.own.base hz o)
theorem PlH.spare(M:PlH a H0 H C ad hd lgv S){n:Nat}{v:V}(e:v=.int n):PlH a H0 (upd H C.b (.ins a.gt C.dx (plN.zip ((plV C ad S.sp).set 3 v)))) C ad hd lgv { S with sp:=n }:=by
 subst e;have o:=M.own.put .b trivial (plO a C ad n);rw[M.b]at o;refine⟨o.less (λr hr=>hr) λr hr=>?_,M.b,M.qo,M.hd,M.lg⟩;cases r<;>rfl
theorem PlH.takeOne(M:PlH a H0 H C ad hd lgv S){i:Nat}(hi:i<C.nl):PlH a H0 (upd H (C.qo i) (.ins a.ld (C.dq i) [("laid",.ref (ad (.ql i))),("gone",.int ((S.st i).2+1:Nat))])) C ad hd lgv { S with st:=put S.st i ((S.st i).1,(S.st i).2+1) }:=by
 have o:=M.own.put (.qo i) hi (.ins a.ld (C.dq i) [("laid",.ref (ad (.ql i))),("gone",.int ((S.st i).2+1:Nat))]);rw[M.qo i hi]at o;refine⟨o.less (λr hr=>hr) λr hr=>?_,M.b,M.qo,M.hd,M.lg⟩
 cases r with
 |qo j=>
  show _=HO.ins a.ld (C.dq j) [_,("gone",V.int ((put S.st i _ j).2:Nat))];by_cases e:j=i
  ·rw[e,bO,aE]
  ·rw[bq λz=>e (Rl.qo.inj z),ax e];rfl
 |ql j=>
  show HO.lst _=HO.lst ((put S.st i _ j).1.map V.int);by_cases e:j=i
  ·rw[e,aE]
  ·rw[ax e]
 |_=>rfl
theorem PlH.hold(M:PlH a H0 H C ad hd lgv S){x:Nat}{l:Addr}{us:List V}{ps:List (Int×Int)}(h1:H0 l=some (.lst us))(h2:RPs H0 us ps):PlH a H0 (upd H (ad .hl) (.lst (((List.range C.n).map λj=>V.ref (hd j)).set x (.ref l)))) C ad (put hd x l) lgv { S with held:=put S.held x ps }:=by
 have o:=M.own.put .hl trivial (.lst (((List.range C.n).map λj=>V.ref (hd j)).set x (.ref l)));refine⟨o.less (λr hr=>hr) λr hr=>?_,M.b,M.qo,λy hy=>?_,M.lg⟩
 ·cases r with
  |hl=>show HO.lst _=HO.lst ((List.range C.n).map λj=>V.ref (put hd x l j));rw[hZ]
  |_=>rfl
 ·show ∃vs,H0 (put hd x l y)=_/\RPs H0 vs (put S.held x ps y);by_cases e:y=x
  ·rw[e,aE,aE];exact⟨us,h1,h2⟩
  ·rw[ax e,ax e];exact M.hd y hy
theorem PlH.count(M:PlH a H0 H C ad hd lgv S){x n:Nat}{v:V}(e:v=.int n):PlH a H0 (upd H (ad .tl) (.lst (((List.range C.n).map λj=>V.int (S.tks j)).set x v))) C ad hd lgv { S with tks:=put S.tks x n }:=by
 subst e;have o:=M.own.put .tl trivial (.lst (((List.range C.n).map λj=>V.int (S.tks j)).set x (.int n)));refine⟨o.less (λr hr=>hr) λr hr=>?_,M.b,M.qo,M.hd,M.lg⟩
 cases r with
 |tl=>
  have:=hZ (f:=S.tks) (g:=λk:Nat=>V.int k) (n:=C.n) (i:=x) (v:=n);exact congrArg HO.lst this
 |_=>rfl
theorem PlH.clear(M:PlH a H0 H C ad hd lgv S){i:Nat}{z:Addr}(hz:H z=none):PlH a H0 (upd (upd H z (.lst [])) (ad .wrl) (.lst (((List.range C.nl).map λi=>V.ref (ad (.wr i))).set i (.ref z)))) C (at' ad (.wr i) z) hd lgv { S with wr:=put S.wr i [] }:=by
 have o3:=M.own.new (.wr i) hz (.lst []);have o4:=o3.put .wrl (.inr trivial) (.lst (((List.range C.nl).map λi=>V.ref (ad (.wr i))).set i (.ref z)));refine⟨o4.less (λr hr=>.inr hr) λr hr=>?_,M.b,M.qo,M.hd,M.lg⟩
 cases r with
 |wr j=>
  show at' _ (Rl.wr _) _ (Rl.wr j)=HO.lst (ay (put S.wr i [] j));by_cases e:j=i
  ·rw[e,bO,aE];rfl
  ·rw[bq λz=>e (Rl.wr.inj z),ax e];rfl
 |wrl=>
  show HO.lst _=HO.lst ((List.range C.nl).map λj=>V.ref (at' ad (.wr i) z (.wr j)));rw[zD,hZ]
 |_=>rfl
end
theorem xa(T:Tx P w K mg a):aC P w K mg base CX0 5 a.Aa a.By ["self","now","part"] (nj a):=by
 refine T.El.ok gh (λvs H Q E h=>?_) (λcdv A outer s H vs Q E hr h=>?_)
 ·obtain⟨_,_,_,_,_,_,_,_,_,rfl,_⟩:=h
  rfl
 obtain⟨H0,C,ad,hd,lgv,S,now,x,rem,rfl,B,M,G,k1,k2,k3⟩:=h
 refine⟨_,(ae (aK (i:=3) gh.nd U Oi (oF (am aV (az (pq 0) U) (pq 2) Oy) (a8 (az (pq 0) U) ac)))
  (ae (cE PassesOwn.never U (ku (pq 3)) (aP (i:=4) gh.nd U Oi)
  (ai (aX (aO bi (cU (az (pq 0) U) T.wT T.D6 (oW T) (hr.mono Qz) T.Cz .nil ar (a8 (pq 4) ac)) aa (aJ _)) (ae (bM (cF qg qv qw d8 (am aV (az (pq 0) U) (pq 4) Oy) (a8 (pq 2) ac)))
  (ai (au cG))) aW)))
  (ae (aX (aO bi (az (pq 0) U) aa (aJ _)) (ai (au cG)) aW)
  (ae (bp (pq 0) (ag gp (az (pq 0) U) aa) U)
  (ae (i9 (i:=5) gh.nd U Oi (k:=1) (Nc:=["line","self"]) (js:=[0]) (show aL (aj fw) ["self","now","part","wanted","line","things"] _ 1 ["line","self"] [0]from aL.mk U (by decide +kernel) (by decide +kernel) (by decide +kernel) U (by decide +kernel)) U (ku (pq 3)) (λ_ _ _ _ _=>(aP (i:=0) (show List.Nodup (["line","self"]:List Str)from by decide +kernel) U Oi)) (λ_ _ _ _ _=>bX) (λ_ _ _ _ _=>(cU (vX (K:=K) U (pq 1) U) T.wT T.EU (wM T) (hr.mono Qz) T.DP .nil ar (a8 (pq 0) ac))))
  (ae (bM (cF qg qv qw d8 (az (pq 0) U) (a8 (cr (a8 (pq 1) (a8 (pq 2) (a8 bF (a8 (ii U U T.zW U T.Ad (a8 (pq 3) (a8 (pq 5) ac))) ac))))) ac)))
  (ae (eK (oF (am aV (az (pq 0) U) (pq 2) Oy) (a8 (pq 5) ac)) (fB (az (pq 0) U) (pq 2) fg))
  (ae (bM (cU (pq 0) T.f8 T.Dn (oY T) (hr.mono Qz) T.CD .nil ar (a8 (ag bE (ag bE (pq 1) aa) (cU (pq 0) T.f8 T.Fr (xb T) (hr.mono Qz) T.Ep .nil ar (a8 (pq 2) ac))) (a8 (bR (a8 (pq 2) ac)) ac))))
  (ae (eK (ag bE (am aV (az (pq 0) U) (pq 2) Oy) aa) (fB (az (pq 0) U) (pq 2) fg))
  (ae (cE PassesOwn.never U (ku (pq 3)) (aP (i:=4) gh.nd U Oi)
  (ae (bM (cU (pq 0) T.f8 T.Dn (oY T) (hr.mono Qz) T.CD .nil ar (a8 (ag bE (pq 1) aa) (a8 (am aV (az (pq 0) U) (pq 4) Oy) ac))))
  (ai (eK (bR ac) (fB (az (pq 0) U) (pq 4) fg)))))
  (ai (au cG)))))))))))),?_⟩
 obtain⟨loc,I⟩:=G.loc;have hx:=I.not.2.1;obtain⟨v,hv,rp⟩:=B.du x hx;obtain⟨rok,rft⟩:=B.ok x hx;have cp:=G.cap;have ry:=M.ry B λi=>⟨(cp.st i).2,by have:=(cp.st i).1;omega⟩;have rpH:=rp.same M.own.sa;have nb:=B.n;have big:(10000000:Nat)<sizeLine:=Qz;obtain⟨p,cC,dx',fs,rfl,hp,lw,mw⟩:=sJ T rpH (X:=(dD CX0 P w K mg base ["self","now","part","wanted","line","things"] "Play.take" (aj fw) a.Aa cdv A outer s H E).nox) U U U U (hr.mono Qz);have hatd:atI C.us (x:Int)=some (.ref p):=bP hv;refine⟨_,U,C.b,_,C.dx,_,_,U,M.ob,T.f8,T.Cs,lz1 U,_,U,C.dl,_,_,_,U,U,SqL.of (M.own.sa _ _ B.dl),hatd,p,cC,dx',fs,_,U,hp,lw,mw,_,U,C.b,_,C.dx,_,_,U,M.ob,T.f8,T.A5,lz0 U,C,S,_,C.prt x,_,_,U,U,rpH,rok,rft,ry,λH1 t s1 ht=>?_⟩;have M0:=M.up s1;obtain⟨H0',s0,ht0,M1⟩:=M0.adopt ht;have B1:=B.same s0;have ft:=iY (S:=S) rft;have few:=lV (S:=S) rok;have ww:=iW (S:=S) rok;generalize hws:aq S (C.prt x)=ws at ht ht0 ft few ww k1 k2 k3;have ry1:=M1.ry B1 λi=>⟨(cp.st i).2,by have:=(cp.st i).1;omega⟩;dsimp only[aI];refine⟨_,U,t,U,⟨_,SqT.of ht⟩,?_⟩;refine rA (K:=K) (a:=t) (xs:=ws.map V.int) (λi σ G=>(∃v4 v5,σ=[some (.ref C.b),some (.int now),some (.int x),some (.ref t),v4,v5])/\G=H1/\∀w∈ws.take i,(aA S w.toNat).isEmpty=false) ⟨⟨_,_,U⟩,U,λp hp=>by simp at hp⟩ ?_ ?_ ?_
 ·rintro i σ G _ ⟨_,rfl,_⟩;exact SqT.of ht
 ·rintro i v σ G hi ⟨⟨v4,v5,rfl⟩,rfl,hp⟩;rw[qE]at hi;obtain⟨w,hw,rfl⟩:=qP.mp hi;have wl:=ft.lo w (qz hw);have wh:=ft.hi w (qz hw);have lt:w.toNat<C.nl:=Yd;refine⟨_,U,C.b,_,C.dx,_,_,U,M1.ob,T.f8,T.A5,lz0 U,C.y,C.dy,_,U,ry1.o,eV Qy,_,U,C.y,C.dy,C.la,C.lq,_,_,_,w,S.st w.toNat,U,ry1,wl,cg lt,U,_,U,?_⟩;have hg:=(cp.st w.toNat).2
  have er:(((S.st w.toNat).1.length:Int)-(S.st w.toNat).2=0)↔(aA S w.toNat).isEmpty=true:=by
   unfold aA;rw[List.isEmpty_iff,List.drop_eq_nil_iff];omega
  refine bh (λc=>?_) (λc=>?_)
  ·have ce:=er.mp (dY c);have hwr:=M1.own.av .wtl trivial;have hwi:=M1.own.av (.wt w.toNat) lt
   have hatw:atI ((List.range C.nl).map λi=>V.ref (ad (.wt i))) w=some (.ref (ad (.wt w.toNat))):=by
    conv=>lhs;arg 2;rw[<- Int.toNat_of_nonneg wl]
    exact bP (cg lt)
   have wl':=(I.wt w.toNat).len;refine⟨_,U,C.b,_,C.dx,_,_,U,M1.ob,T.f8,T.Ar,kH U,_,U,ad .wtl,_,_,_,U,U,SqL.of hwr,hatw,.inl ⟨U,_,SqL.of hwi⟩,_,U,ad (.wt w.toNat),_,_,U,U,hwi,bf (m:=1000) (by rw[eU];omega),?_⟩;exact k1 w (kX hw ce hp) H0' _ s0 (M1.wait lt)
  ·have ce:(aA S w.toNat).isEmpty=false:=by
    cases e:(aA S w.toNat).isEmpty with
    |false=>rfl
    |true=>exact Q4 (er.mpr e) (dZ c)
   refine⟨⟨_,_,U⟩,U,λq hq=>?_⟩;rw[qr,hw,qh]at hq;rcases hq with hq|hq
   ·exact hp q hq
   ·rw[qS.mp hq];exact ce
 rintro σ G ⟨⟨v4,v5,rfl⟩,rfl,hp⟩;rw[q9,qH]at hp;have nl:cY S ws=none:=List.find?_eq_none.mpr λw hw=>by rw[hp w hw];exact qi
 have k2:=k2 nl;have k3:=k3 nl;have ww:=ww nl;refine⟨_,U,C.b,_,C.dx,_,_,U,M1.ob,T.f8,T.An,lz3 U,U,_,U,bh (λc=>?_) (λc=>?_)⟩
 ·exact k2 (by have:=dY c;omega) H0' _ s0 M1
 have sp0:S.sp≠0:=λz=>dZ c (by rw[z];rfl);have k3:=k3 sp0;refine⟨_,U,C.b,_,C.dx,_,_,U,M1.ob,T.f8,T.An,lz3 U,_,_,U,U,_,U,C.b,_,C.dx,_,U,M1.ob,T.f8,T.An,by simp[plN,plV],?_⟩;rw[ki 3 U Qy (by show 3<11;decide)];have M2:=M1.spare (n:=S.sp-1) (v:=.int ((S.sp:Int)-1)) (by congr 1;omega)
 have rne:∀w∈ws,(S.st w.toNat).2<(S.st w.toNat).1.length:=λw hw=>by
  have:=hp w hw;unfold aA at this
  cases e:(S.st w.toNat).1.drop (S.st w.toNat).2 with
  |nil=>rw[e]at this;cases this
  |cons y r=>
   by_cases z:(S.st w.toNat).2<(S.st w.toNat).1.length
   ·exact z
   ·rw[List.drop_eq_nil_iff.mpr Yd]at e;cases e
 have hth:∀w∈ws,(S.st w.toNat).1[(S.st w.toNat).2]?=some (aN S w):=λw hw=>by
  have lt:=rne w hw;unfold aN aA;rw[List.drop_eq_getElem_cons lt,qc lt]
  rfl
 refine⟨_,U,t,U,⟨_,SqT.of (M2.own.sa _ _ ht0)⟩,?_⟩;refine zj (K:=K) (a:=t) (xs:=ws.map V.int) (λi ys σ G=>(∃v,σ=[v,some (.ref C.b)])/\ys=((ws.take i).map (aN S)).map V.int/\PlH a H0' G C ad hd lgv { S with sp:=S.sp-1,st:=bu S.st (ws.take i) }) ⟨⟨_,U⟩,U,M2⟩ ?_ (bf (m:=1000) (by rw[q9];omega)) ?_ ?_ ?_
 ·rintro i ys σ G hi ⟨_,rfl,_⟩;rw[q9,q9];exact List.length_take_le _ _
 ·rintro i ys σ G ⟨_,_,Mi⟩;exact SqT.of (Mi.own.sa _ _ ht0)
 ·rintro i v ys σ G hi ⟨⟨v',rfl⟩,rfl,Mi⟩;rw[qE]at hi;obtain⟨w,hw,rfl⟩:=qP.mp hi;have wm:=qz hw;have wl:=ft.lo w wm;have wh:=ft.hi w wm;have lt:w.toNat<C.nl:=Yd;have nd:=ft.nd;have nd2:((ws.take i).map Int.toNat).Nodup:=nd.sublist ((List.take_sublist _ _).map _)
  have off:w.toNat∉(ws.take i).map Int.toNat:=by
   have e:(ws.take (i+1)).map Int.toNat=(ws.take i).map Int.toNat++[w.toNat]:=by rw[qr,hw,qO];rfl
   have n3:((ws.take (i+1)).map Int.toNat).Nodup:=nd.sublist ((List.take_sublist _ _).map _);rw[e,List.nodup_append]at n3;exact λz=>n3.2.2 _ z _ (qS.mpr U) U
  have es:bu S.st (ws.take i) w.toNat=S.st w.toNat:=m6 off;have ryi:=Mi.ry B1 λj=>⟨j1 nd2 (λu hu=>rne u (List.mem_of_mem_take hu)) (λj=>(cp.st j).2) j,by show(bu S.st (ws.take i) j).1.length<=_;rw[fY];have:=(cp.st j).1;omega⟩;have tm:=Mi.takeOne lt;refine⟨_,U,C.b,_,C.dx,_,_,U,Mi.ob,T.f8,T.A5,lz0 U,C.y,C.dy,_,U,ryi.o,eV Qy,_,U,C.y,C.dy,C.la,C.lq,_,_,_,w,aN S w,_,_,U,ryi,wl,cg lt,cg lt,?_,?_⟩
  ·show(bu S.st (ws.take i) w.toNat).1[(bu S.st (ws.take i) w.toNat).2]?=_;rw[es];exact hth w wm
  ·refine⟨⟨_,U⟩,?_,?_⟩
   ·rw[qr,hw,qO,qO];rfl
   ·rw[qr,hw];show PlH a H0' _ C ad hd lgv { S with sp:=S.sp-1,st:=bu S.st (ws.take i++[w]) };rw[sY];exact tm
 rintro ys σ3 G3 ⟨_,rfl,M3⟩ l hl;rw[q9,qH]at M3 ⊢;have M4:=M3.earth hl (.lst ((ws.map (aN S)).map V.int));have s4:a9 H0' (upd H0' l (.lst ((ws.map (aN S)).map V.int))):=a9.new (a9.none M3.own.sa hl) _;have hl4:upd H0' l (.lst ((ws.map (aN S)).map V.int)) l=some (.lst ((ws.map (aN S)).map V.int)):=af;have ht4:=s4 _ _ ht0;have B4:=B1.same s4;have s04:=s0.trans s4;generalize upd H0' l (.lst ((ws.map (aN S)).map V.int))=K0 at M4 s4 hl4 ht4 B4 s04;generalize upd G3 l (.lst ((ws.map (aN S)).map V.int))=G4 at M4 ⊢;dsimp only[aI];have hlg:=M4.own.av .lg trivial;refine⟨_,U,C.b,_,C.dx,_,_,U,M4.ob,T.f8,T.Ao,lz4 U,.inl ⟨U,_,SqL.of hlg⟩,_,U,_,U,_,U,_,U,true,false,t,l,_,_,U,SqT.of (M4.own.sa _ _ ht4),SqL.of (M4.own.sa _ _ hl4),λH5 lz ts s5 nlz hz tl at_=>?_⟩;obtain⟨K1,s6,new6,M5⟩:=M4.ground s5;have hz0:=new6 _ _ nlz hz;have rz:RPs K1 (ts.map V.ref) (ws.zip (ws.map (aN S))):=RPs.zip (by rw[tl,q9,q9]) λj t x y a b c=>new6 _ _ (at_ j t x y a b c).2 (at_ j t x y a b c).1;refine⟨ln4,λz hz'=>?_⟩;have M6:=M5.ent (e:=⟨now,x,true,ws.zip (ws.map (aN S))⟩) hz' hz0 rz;have hlg5:=M5.own.av .lg trivial;have nz:ad .lg≠z:=λe=>by rw[e,hz']at hlg5;cases hlg5
 have ll:=M5.lg.len;refine⟨ad .lg,_,_,U,U,by rw[ah nz];exact hlg5,?_,?_⟩
 ·show lgv.length<_;have:=cp.lg;have ll:lgv.length=S.lg.length:=ll;omega
 have s7:a9 K1 _:=a9.new (a9.none M5.own.sa hz') (.tup [.int now,.int x,.str "took",.ref lz]);have s07:=s04.trans (s6.trans s7);have B6:=B4.same (s6.trans s7);have hl6:=(s6.trans s7) _ _ hl4;have ht6:=(s6.trans s7) _ _ ht4;have rp6:=rp.same s07;change PlH a (upd K1 z (.tup [.int now,.int x,.str "took",.ref lz])) (upd (upd H5 z (.tup [.int now,.int x,.str "took",.ref lz])) (ad .lg) (.lst (lgv++[.ref z]))) C ad hd (lgv++[.ref z]) { S with sp:=S.sp-1,st:=bu S.st ws,lg:=S.lg++[⟨now,x,true,ws.zip (ws.map (aN S))⟩] }at M6;show gQ _ _ _ _ (upd (upd H5 z (.tup [.int now,.int x,.str "took",.ref lz])) (ad .lg) (.lst (lgv++[.ref z])));generalize upd K1 z (.tup [.int now,.int x,.str "took",.ref lz])=K2 at M6 s7 s07 B6 hl6 ht6 rp6;generalize upd (upd H5 z (.tup [.int now,.int x,.str "took",.ref lz])) (ad .lg) (.lst (lgv++[.ref z]))=G6 at M6 ⊢;have rp6H:=rp6.same M6.own.sa;obtain⟨p',cC',dx'',fs',ep,hp6,lm,mm⟩:=xP T rp6H (X:=(dD CX0 P w K mg base ["self","now","part","wanted","line","things"] "Play.take" (aj fw) a.Aa cdv A outer s H E).nox) U U U U (hr.mono Qz);cases ep
 have on:∀v∈ws.map (aN S),OnW v:=λv hv=>by
  obtain⟨w,hw,rfl⟩:=List.mem_map.mp hv;exact cp.on w.toNat _ (qz (hth w hw))
 refine⟨_,U,C.b,_,C.dx,_,_,U,M6.ob,T.f8,T.Cs,lz1 U,_,U,C.dl,_,_,_,U,U,SqL.of (M6.own.sa _ _ B6.dl),hatd,p,cC',dx'',fs',_,U,hp6,lm,mm,_,U,_,l,C.prt x,ws.map (aN S),U,U,rp6H,rok,M6.own.sa _ _ hl6,by rw[q9];exact ww,on,λH7 l7 us7 s8 n7 h7 an7 r7=>?_⟩;obtain⟨K3,s9,new9,M7⟩:=M6.ground s8;have M8:=M7.hold (x:=x) (new9 _ _ n7 h7) (RPs.new r7 an7 new9);have B8:=B6.same s9;have ht8:=s9 _ _ ht6;have s08:=s07.trans s9;have hh:=M7.own.av .hl trivial;refine⟨_,U,C.b,_,C.dx,_,_,U,M7.ob,T.f8,T.Ct,lz5 U,_,U,ad .hl,_,_,x,U,U,hh,iA (by rw[q9,Qd];exact hx),?_⟩;show gQ _ _ _ _ (upd H7 (ad .hl) (.lst (((List.range C.n).map λj=>V.ref (hd j)).set x (.ref l7))));generalize upd H7 (ad .hl) (.lst (((List.range C.n).map λj=>V.ref (hd j)).set x (.ref l7)))=G8 at M8 ⊢;refine⟨_,U,C.b,C.dx,_,U,M8.ob,eS Qy,_,U,_,_,U,U,_,U,C.b,C.dx,_,U,M8.ob,eS Qy,_,U,K3,C,ad,_,_,_,x,U,B8,M8,hx,_,_,U,U,_,U,ln1,λz9 hz9=>?_⟩;have M9:=M8.earth hz9 (.lst (ay [x]));have s10:a9 K3 (upd K3 z9 (.lst (ay [x]))):=a9.new (a9.none M8.own.sa hz9) _;have B9:=B8.same s10;have ht9:=s10 _ _ ht8;have s09:=s08.trans s10;refine⟨_,C,ad,_,_,_,_,z9,[x],U,B9,M9,af,λk hk e=>?_,?_,by show 1<=1000;decide,λkv hkv=>?_,I.gk,λH10 ad10 M10 ead=>?_⟩
 ·have:=M8.own.av (.gv k) hk;rw[<- e,hz9]at this;cases this
 ·have:=cp.gv;show S.gv.length<_;omega
 ·have:=(I.gv kv hkv).len;omega
 generalize upd K3 z9 (.lst (ay [x]))=K4 at M10 s10 B9 ht9 s09;have tl10:=M10.own.av .tl trivial;have hat10:atI ((List.range C.n).map λx=>V.int (S.tks x)) (x:Int)=some (.int (S.tks x)):=bP (cg hx);refine⟨_,U,C.b,_,C.dx,_,_,U,M10.ob,T.f8,T.Ap,lz6 U,_,U,ad10 .tl,_,_,_,U,U,SqL.of tl10,hat10,_,_,U,U,_,U,C.b,_,C.dx,_,_,U,M10.ob,T.f8,T.Ap,lz6 U,_,U,ad10 .tl,_,_,x,U,U,tl10,iA (by rw[q9,Qd];exact hx),?_⟩;have M11:=M10.count (x:=x) (n:=S.tks x+1) (v:=.int ((S.tks x:Int)+1)) U
 have e11:({ S with sp:=S.sp-1,st:=bu S.st ws,lg:=S.lg++[⟨now,x,true,ws.zip (ws.map (aN S))⟩],held:=put S.held x ((C.prt x).made (ws.map (aN S))),gv:=bc S.gv (now+1+bI C.pace x (S.tks x)) [x],tks:=put S.tks x (S.tks x+1) }:PlS)=bK (C.prt x) C.pace S now x:=by
  unfold bK;rw[hws]
 have I11:aM C.n (put loc x (.gv (now+1+bI C.pace x (S.tks x)))) rem (bK (C.prt x) C.pace S now x):=(I.toGv (now+1+bI C.pace x (S.tks x))).eq U U U U
 have g11:(bK (C.prt x) C.pace S now x).gv.length<=S.gv.length+1:=by
  show(bc S.gv (now+1+bI C.pace x (S.tks x)) [x]).length<=_;exact iR
 have M11:PlH a K4 _ C ad10 _ _ (bK (C.prt x) C.pace S now x):=e11▸M11;have k3:∀H0' H' ad' hd' lgv',a9 H0 H0'->PlH a H0' H' C ad' hd' lgv' (ws.foldl (be now) (bK (C.prt x) C.pace S now x))->Q (.bl true) H':=λa1 a2 a3 a4 a5 a6 a7=>k3 a1 a2 a3 a4 a5 a6 (by unfold aU;rw[hws];exact a7);generalize bK (C.prt x) C.pace S now x=S11 at M11 I11 g11 k3;refine⟨_,U,t,U,⟨_,SqT.of (M11.own.sa _ _ ht9)⟩,?_⟩;refine rA (K:=K) (a:=t) (xs:=ws.map V.int) (λi σ G=>(∃v4,σ=[some (.ref C.b),some (.int now),some (.int x),some (.ref t),v4,some (.ref l)])/\∃ad' loc',aM C.n loc' rem ((ws.take i).foldl (be now) S11)/\((ws.take i).foldl (be now) S11).gv.length<=S.gv.length+1+i/\PlH a K4 G C ad' (put hd x l7) (lgv++[.ref z]) ((ws.take i).foldl (be now) S11)) ⟨⟨_,U⟩,_,_,I11,g11,M11⟩ ?_ ?_ ?_
 ·rintro i σ G _ ⟨_,ad',loc',_,_,Mi⟩;exact SqT.of (Mi.own.sa _ _ ht9)
 ·rintro i v σ G hi ⟨⟨v4,rfl⟩,ad',loc',Ii,gi,Mi⟩;rw[qE]at hi;obtain⟨w,hw,rfl⟩:=qP.mp hi;have il:=(qf.mp hw).1;have wm:=qz hw;have wl:=ft.lo w wm;have wh:=ft.hi w wm;have lt:w.toNat<C.nl:=Yd
  have es:(ws.take (i+1)).foldl (be now) S11=be now ((ws.take i).foldl (be now) S11) w:=by
   rw[qr,hw,List.foldl_append]
   rfl
  generalize (ws.take i).foldl (be now) S11=Si at Ii gi Mi es;have hwr:=Mi.own.av .wrl trivial;have hwi:=Mi.own.av (.wr w.toNat) lt
  have hatw:atI ((List.range C.nl).map λi=>V.ref (ad' (.wr i))) w=some (.ref (ad' (.wr w.toNat))):=by
   conv=>lhs;arg 2;rw[<- Int.toNat_of_nonneg wl]
   exact bP (cg lt)
  have wl2:=(Ii.wr w.toNat).len;dsimp only[aI];refine⟨_,U,C.b,C.dx,_,U,Mi.ob,eS Qy,_,U,_,_,U,U,_,U,C.b,_,C.dx,_,_,U,Mi.ob,T.f8,T.Aq,lz9 U,_,U,ad' .wrl,_,_,_,U,U,SqL.of hwr,hatw,?_⟩;refine⟨_,C,ad',_,_,_,_,ad' (.wr w.toNat),Si.wr w.toNat,U,B9,Mi,hwi,λk hk e=>?_,?_,Yd,λkv hkv=>?_,Ii.gk,λH12 ad12 M12 ead2=>?_⟩
  ·exact nomatch Mi.own.inj (.wr w.toNat) (.gv k) lt hk e
  ·have:=cp.gv;omega
  ·have:=(Ii.gv kv hkv).len;omega
  refine⟨qt _,λz13 hz13=>?_⟩;have M13:=M12.clear (i:=w.toNat) hz13;have M12u:=M12.up (a9.new hz13 (.lst []));have w13:=M12u.own.av .wrl trivial;refine⟨_,U,C.b,_,C.dx,_,_,U,M12u.ob,T.f8,T.Aq,lz9 U,_,U,ad12 .wrl,_,_,w.toNat,U,U,w13,?_,?_⟩
  ·rw[q9,Qd]
   conv=>lhs;arg 2;rw[<- Int.toNat_of_nonneg wl]
   exact iA lt
  refine⟨⟨_,U⟩,_,_,by rw[es];exact Ii.free now w,?_,by rw[es];exact M13⟩;rw[es];have:(bc Si.gv (now+1) (Si.wr w.toNat)).length<=Si.gv.length+1:=iR;show(bc Si.gv (now+1) (Si.wr w.toNat)).length<=_;omega
 rintro σ G ⟨⟨v4',rfl⟩,ad',loc',_,_,Mi⟩;rw[q9,qH]at Mi;exact k3 K4 _ ad' _ _ s09 Mi
structure Hs(nl:Nat)(ps:List (Int×Int)):Prop where
 ok:∀p∈ps,0<=p.1/\p.1<nl/\OnW p.2
 few:ps.length<=10
 nd:(ps.map λp=>p.1.toNat).Nodup
theorem lR:∀(ls xs:List Int),((ls.zip xs).map λp=>p.1.toNat).Sublist (ls.map Int.toNat)
 |[],_=>List.Sublist.slnil
 |_::_,[]=>List.nil_sublist _
 |l::ls,x::xs=>List.Sublist.cons_cons _ (lR ls xs)
theorem Hs.zip{nl:Nat}{ls xs:List Int}(f:Fit nl ls)(few:ls.length<=10)(on:∀x∈xs,OnW x):Hs nl (ls.zip xs):=by
 refine⟨λp hp=>?_,by rw[List.length_zip];omega,?_⟩
 ·have h:=List.of_mem_zip (a:=p.1) (b:=p.2) hp;exact⟨f.lo _ h.1,f.hi _ h.1,on _ h.2⟩
 ·exact f.nd.sublist (lR ls xs)
theorem xV{nl:Nat}{r:PR}{xs:List Int}(ok:r.ok)(ft:r.fit nl)(wide:xs.length=r.wide)(on:∀x∈xs,OnW x):Hs nl (r.made xs):=by
 have on0:∀i:Nat,i<xs.length->OnW (xs.getD i 0):=λi hi=>by
  rw[qj,qc hi];exact on _ (List.getElem_mem hi)
 cases r with
 |pass ins outs route=>
  obtain⟨o1,o2,o3,o4⟩:=ok;change xs.length=ins.length at wide;refine Hs.zip ft.2 Yd λx hx=>?_;obtain⟨r,hr,rfl⟩:=List.mem_map.mp hx;have:=o4 r hr;exact on0 _ Yd
 |work ins out sg l r=>
  obtain⟨o1,o2,o3⟩:=ok;change xs.length=ins.length at wide;refine⟨λp hp=>?_,by show 1<=10;decide,Qq _ _⟩;rw[qS.mp hp];exact⟨ft.2.lo _ qm,ft.2.hi _ qm,yV (gN (wide▸o2) on) (gN (wide▸o3) on)⟩
 |choose ins which ones noughts told=>
  obtain⟨o1,o2,o3,o4,o5⟩:=ok;change xs.length=ins.length at wide
  have go:∀(ls:List Int)(v:Int),Fit nl (ls++[told])->ls.length=ins.length->OnW v->Hs nl (ls.zip xs++[(told,v)]):=λls v f e ov=>by
   rw[show ls.zip xs++[(told,v)]=(ls++[told]).zip (xs++[v])by rw[List.zip_append Yd];rfl];refine Hs.zip f (by rw[qb,Q6];omega) λx hx=>?_;rcases qh.mp hx with h|h
   ·exact on x h
   ·rw[qS.mp h];exact ov
  show Hs nl (if xs.getD which.toNat 0=0 then noughts.zip xs++[(told,0)]else ones.zip xs++[(told,1)]);split
  ·exact go _ _ ft.2.2 o4 ⟨Qz,Qz⟩
  ·exact go _ _ ft.2.1 o3 ⟨Qz,Qz⟩
 |merge told ones noughts outs=>
  obtain⟨o1,o2,o3⟩:=ok;exact Hs.zip ft.2.2 Yd λx hx=>on x (List.mem_of_mem_tail hx)
theorem pV:∀(ps:List (Int×Int))(S:PlS)(j:Nat),j∉ps.map (λp=>p.1.toNat)->(ps.foldl ak S).st j=S.st j
 |[],_,_,_=>rfl
 |p::ps,S,j,h=>by
  show(ps.foldl ak (ak S p)).st j=_;rw[pV ps _ j λz=>h (qk _ z)];exact ax λz=>h (by rw[z];exact qm)
theorem pS:∀(ps:List (Int×Int))(S:PlS)(j:Nat),(ps.map λp=>p.1.toNat).Nodup->((ps.foldl ak S).st j).1.length<=(S.st j).1.length+1
 |[],_,_,_=>Nat.le_succ _
 |p::ps,S,j,nd=>by
  have nd:p.1.toNat∉ps.map (λp=>p.1.toNat)/\(ps.map λp=>p.1.toNat).Nodup:=List.nodup_cons.mp nd;show((ps.foldl ak (ak S p)).st j).1.length<=_;by_cases e:j=p.1.toNat
  ·rw[e,pV ps _ _ nd.1];show(put S.st p.1.toNat _ p.1.toNat).1.length<=_;rw[aE,qb];exact qe _
  ·have:=pS ps (ak S p) j nd.2
   rwa [show(ak S p).st j=S.st j from ax e]at this
theorem eX:∀(ps:List (Int×Int))(S:PlS),(ps.foldl ak S).gv=S.gv/\(ps.foldl ak S).sp=S.sp/\(ps.foldl ak S).lg=S.lg/\(ps.foldl ak S).held=S.held/\(ps.foldl ak S).tks=S.tks/\(ps.foldl ak S).wr=S.wr
 |[],_=>⟨U,U,U,U,U,U⟩
 |p::ps,S=>eX ps (ak S p)
theorem pU:∀(ps:List (Int×Int))(S:PlS),(∀p∈ps,OnW p.2)->(∀i,∀v∈(S.st i).1,OnW v)->∀i,∀v∈((ps.foldl ak S).st i).1,OnW v
 |[],_,_,h=>h
 |p::ps,S,hp,h=>by
  refine pU ps (ak S p) (λq hq=>hp q (qk _ hq)) λi v hv=>?_;have hv:v∈(put S.st p.1.toNat ((S.st p.1.toNat).1++[p.2],(S.st p.1.toNat).2) i).1:=hv;by_cases e:i=p.1.toNat
  ·rw[e,aE]at hv;rcases qh.mp hv with hv|hv
   ·exact h _ v hv
   ·rw[qS.mp hv];exact hp p qm
  ·rw[ax e]at hv;exact h i v hv
section
variable {C:PlC}{k:Nat}{S:PlS}{x:Nat}
theorem cy.mono{k':Nat}(h:cy C k S)(le:k'<=k):cy C k' S:=⟨λi=>⟨by have:=(h.st i).1;omega,(h.st i).2⟩,by have:=h.lg;omega,by have:=h.gv;omega,h.on,h.hn⟩
theorem cy.gave(h:cy C (k+1) S)(hx:x<C.n)(now:Int):cy C k (dC S now x):=by
 obtain⟨e1,e2,e3,e4,e5,e6⟩:=eX (S.held x) S;obtain⟨h1,h2,h3⟩:=h.hn x hx;refine⟨λi=>?_,?_,?_,pU _ S (λp hp=>(h1 p hp).2.2) h.on,λy hy=>?_⟩
 ·show((((S.held x).foldl ak S).st i).1.length+k<=_)/\(((S.held x).foldl ak S).st i).2<=(((S.held x).foldl ak S).st i).1.length;have a1:=pS (S.held x) S i h3;have a2:=kQ (S.held x) S i;have a3:=h.st i;omega
 ·show(((S.held x).foldl ak S).lg++[_]).length+k<=_;rw[e3,qb,Q6];have:=h.lg;omega
 ·show((S.held x).foldl ak S).gv.length+k<=_;rw[e1];have:=h.gv;omega
 ·show(∀p∈((S.held x).foldl ak S).held y,_)/\(((S.held x).foldl ak S).held y).length<=10/\((((S.held x).foldl ak S).held y).map _).Nodup;rw[e4];exact h.hn y hy
theorem re(now:Int):∀(ws:List Int)(S:PlS),(ws.foldl (be now) S).gv.length<=S.gv.length+1/\(now+1∈aF S.gv->(ws.foldl (be now) S).gv.length=S.gv.length)
 |[],_=>⟨Nat.le_succ _,λ_=>rfl⟩
 |w::ws,S=>by
  obtain⟨h1,h2⟩:=re now ws (be now S w);show(ws.foldl (be now) (be now S w)).gv.length<=_/\(_->(ws.foldl (be now) (be now S w)).gv.length=_);have e:(be now S w).gv=bc S.gv (now+1) (S.wr w.toNat):=U;rw[e]at h1 h2;by_cases m:now+1∈aF S.gv
  ·have:=h2 (iz.mpr (.inl m));rw[zA m]at this;exact⟨Yd,λ_=>this⟩
  ·refine⟨?_,λz=>Q4 z m⟩;by_cases c:S.wr w.toNat=[]
   ·rw[c]at h1;exact h1
   ·rw[h2 (iz.mpr (.inr ⟨c,U⟩))];exact iR
theorem eY(now:Int):∀(ws:List Int)(S:PlS),(ws.foldl (be now) S).st=S.st/\(ws.foldl (be now) S).sp=S.sp/\(ws.foldl (be now) S).lg=S.lg/\(ws.foldl (be now) S).held=S.held/\(ws.foldl (be now) S).tks=S.tks/\(ws.foldl (be now) S).tr=S.tr/\(ws.foldl (be now) S).wt=S.wt
 |[],_=>⟨U,U,U,U,U,U,U⟩
 |w::ws,S=>eY now ws (be now S w)
theorem pG(h:cY S (aq S (C.prt x))=none):∀w∈aq S (C.prt x),(S.st w.toNat).2<(S.st w.toNat).1.length:=λw hw=>by
 have:=List.find?_eq_none.mp h w hw;by_cases z:(S.st w.toNat).2<(S.st w.toNat).1.length
 ·exact z
 ·exact Q4 (by unfold aA;rw[List.drop_eq_nil_iff.mpr Yd];rfl) this
theorem m3(h:cy C k S)(n:cY S (aq S (C.prt x))=none):∀v∈(aq S (C.prt x)).map (aN S),OnW v:=λv hv=>by
 obtain⟨w,hw,rfl⟩:=List.mem_map.mp hv;have lt:=pG n w hw;unfold aN aA;rw[List.drop_eq_getElem_cons lt];exact h.on w.toNat _ (List.getElem_mem lt)
theorem j0{r:PR}{pace:List (List Int)}{now:Int}:(aU r pace S now x).gv.length<=S.gv.length+2:=by
 have h:=(re now (aq S r) (bK r pace S now x)).1;have e:(bK r pace S now x).gv.length<=S.gv.length+1:=iR (g:=S.gv) (t:=now+1+bI pace x (S.tks x)) (ps:=[x]);unfold aU;omega
theorem cy.taken(h:cy C (k+3) S)(B:(C.prt x).ok/\(C.prt x).fit C.nl)(n:cY S (aq S (C.prt x))=none)(now:Int):cy C k (aU (C.prt x) C.pace S now x):=by
 obtain⟨e1,e2,e3,e4,e5,e6,e7⟩:=eY now (aq S (C.prt x)) (bK (C.prt x) C.pace S now x);have ft:=iY (S:=S) B.2;refine⟨λi=>?_,?_,?_,λi v hv=>?_,λy hy=>?_⟩
 ·unfold aU;rw[e1];have:=j1 ft.nd (pG n) (λj=>(h.st j).2) i;refine⟨?_,this⟩;show(bu S.st (aq S (C.prt x)) i).1.length+k<=_;rw[fY];have:=(h.st i).1;omega
 ·unfold aU;rw[e3];show(S.lg++[_]).length+k<=_;rw[qb,Q6];have:=h.lg;omega
 ·have:=j0 (S:=S) (r:=C.prt x) (pace:=C.pace) (now:=now) (x:=x);have:=h.gv;omega
 ·unfold aU at hv;rw[e1]at hv;have hv:v∈(bu S.st (aq S (C.prt x)) i).1:=hv;rw[fY]at hv;exact h.on i v hv
 ·unfold aU;rw[e4];show(∀p∈put S.held x _ y,_)/\(put S.held x _ y).length<=10/\((put S.held x _ y).map _).Nodup;by_cases e:y=x
  ·rw[e,aE];have q:=xV B.1 B.2 (xs:=(aq S (C.prt x)).map (aN S)) (by rw[q9];exact iW B.1 n) (m3 h n);exact⟨q.ok,q.few,q.nd⟩
  ·rw[ax e];exact h.hn y hy
end
def GdP(C:PlC):Ph->PlS->Prop
 |.top,S=>Gd C (bB S+20) [] S
 |.giv _ r,S=>Gd C (bB S+r.length+84) r S
 |.tak _ r,S=>Gd C (bB S+r.length+20) r S
theorem kS{ls:Nat->Option Int}{S:PlS}{now:Int}{x:Nat}:(cu ls S now x).sp=S.sp/\(cu ls S now x).gv=S.gv:=by
 unfold cu;split
 ·exact⟨U,U⟩
 ·exact⟨(eX (S.held x) S).2.1,(eX (S.held x) S).1⟩
theorem br.gd{C:PlC}(okC:∀x,x<C.n->(C.prt x).ok/\(C.prt x).fit C.nl)(n60:C.n<60){S0:PlS}(g0:Gd C (bB S0+20) [] S0){ph:Ph}{S:PlS}(h:br C.ls C.prt C.pace S0 ph S):GdP C ph S:=by
 induction h with
 |base=>exact g0
 |@turn S k r h hk p rs ih=>
  obtain⟨⟨loc,I⟩,cp⟩:=ih;have I':=I.turn hk.1 p;have rl:=I'.rm.len;have dl:=kY hk.1;refine⟨⟨_,I'⟩,?_⟩
  have c2:=cp.mono (k':=bB { S with gv:=ck S.gv k }+r.length+84) (by
   unfold bB;show 130 * (3 * S.sp+(ck S.gv k).length)+r.length+84<=130 * (3 * S.sp+S.gv.length)+20
   omega)
  exact⟨c2.st,c2.lg,qy (Nat.add_le_add_right (Nat.le_of_lt dl) _) c2.gv,c2.on,c2.hn⟩
 |@give S k x r h ih=>
  obtain⟨⟨loc,I⟩,cp⟩:=ih;have hx:=I.not.2.1;obtain⟨e1,e2⟩:=kS (ls:=C.ls) (S:=S) (now:=k) (x:=x);have eb:bB (cu C.ls S k x)=bB S:=by unfold bB;rw[e1,e2]
  show Gd C (bB (cu C.ls S k x)+r.length+84) r (cu C.ls S k x);rw[eb];have cp:cy C (bB S+(r.length+1)+84) S:=cp;unfold cu;split
  ·exact⟨⟨_,I.stuck _⟩,let c:=cp.mono (k':=bB S+r.length+84) Yd;⟨c.st,c.lg,c.gv,c.on,c.hn⟩⟩
  ·obtain⟨loc',I'⟩:=aM.hands (S.held x) I;exact⟨⟨_,I'.toTr _⟩,(cp.mono (k':=bB S+r.length+84+1) Yd).gave hx k⟩
 |@half S k r h p rs ih=>
  obtain⟨⟨loc,I⟩,cp⟩:=ih;have I':=I.half p;have rl:=I'.rm.len;have cp:cy C (bB S+0+84) S:=cp;have c2:=cp.mono (k':=bB S+r.length+20) Yd;exact⟨⟨_,I'⟩,⟨c2.st,c2.lg,c2.gv,c2.on,c2.hn⟩⟩
 |@wait S k i x r h hl ih=>
  obtain⟨⟨loc,I⟩,cp⟩:=ih;have cp:cy C (bB S+(r.length+1)+20) S:=cp;have c2:=cp.mono (k':=bB S+r.length+20) Yd;exact⟨⟨_,I.wait i.toNat⟩,⟨c2.st,c2.lg,c2.gv,c2.on,c2.hn⟩⟩
 |@take S k x r h hl hs ih=>
  obtain⟨⟨loc,I⟩,cp⟩:=ih;have cp:cy C (bB S+(r.length+1)+20) S:=cp;have hx:=I.not.2.1;have e2:(aU (C.prt x) C.pace S k x).sp=S.sp-1:=(eY k (aq S (C.prt x)) (bK (C.prt x) C.pace S k x)).2.1;have e3:=j0 (S:=S) (r:=C.prt x) (pace:=C.pace) (now:=k) (x:=x)
  have le:bB (aU (C.prt x) C.pace S k x)+r.length+20+3<=bB S+(r.length+1)+20:=by
   unfold bB;rw[e2];omega
  obtain⟨loc',I'⟩:=aM.frees k (aq S (C.prt x)) (((I.toGv (k+1+bI C.pace x (S.tks x))).eq (S':=bK (C.prt x) C.pace S k x) U U U U));exact⟨⟨loc',I'⟩,(cp.mono le).taken (okC x hx) hl k⟩
 |over h ih=>exact ih
theorem yU{ad:Rl->Addr}{g:Gv}{t:Int}:dm (g.map λkv=>((Sum.inl kv.1:Key),V.ref (ad (.gv kv.1)))) (Sum.inl t)=(ck g t).map λkv=>((Sum.inl kv.1:Key),V.ref (ad (.gv kv.1))):=by
 unfold dm ck;rw[List.filter_map];refine congrArg _ (List.filter_congr λkv _=>?_);exact decide_eq_decide.mpr ⟨λh z=>h (congrArg Sum.inl z),λh z=>h (Sum.inl.inj z)⟩
theorem lG:∀{g:Gv}{k m:Int},k≠m->atG (ck g m) k=atG g k
 |[],_,_,_=>rfl
 |(j,ps)::g,k,m,h=>by
  unfold ck;by_cases e:j=m
  ·rw[List.filter_cons_of_neg (by simpa using e),cI,qZ λz=>h (z.symm.trans e)];exact lG h
  ·rw[List.filter_cons_of_pos (by simpa using e),cI,cI];split
   ·rfl
   ·exact lG h
theorem kE(xs:List Nat):ay xs=(xs.map λj:Nat=>(j:Int)).map V.int:=by unfold ay;rw[List.map_map];rfl
theorem nI{zs:List Int}{ys:List Nat}(p:zs.Perm (ys.map λj:Nat=>(j:Int)))(h:List.Pairwise (λx1 x2=>x1<=x2) zs):∃r:List Nat,zs.map V.int=ay r/\r.Perm ys/\fO r:=by
 refine⟨zs.map Int.toNat,?_,?_,?_⟩
 ·rw[kE,List.map_map (f:=Int.toNat)];refine congrArg (List.map V.int) (((List.map_congr_left λz hz=>?_).trans (List.map_id zs)).symm);obtain⟨y,_,e⟩:=List.mem_map.mp (p.mem_iff.mp hz);rw[<- e]
  rfl
 ·have:=p.map Int.toNat;rw[List.map_map,show(Int.toNat ∘ λj:Nat=>(j:Int))=id from rfl,List.map_id]at this;exact this
 ·exact List.pairwise_map.mpr (h.imp λ{a b} le=>Yd)
section
variable {H0 H:Hp}{C:PlC}{ad:Rl->Addr}{hd:Nat->Addr}{lgv:List V}{S:PlS}
theorem PlH.pop(M:PlH a H0 H C ad hd lgv S)(t:Int):PlH a H0 (upd H (ad .gd) (.dK (dm (S.gv.map λkv=>((Sum.inl kv.1:Key),V.ref (ad (.gv kv.1)))) (Sum.inl t)))) C ad hd lgv { S with gv:=ck S.gv t }:=by
 have o:=M.own.put .gd trivial (.dK (dm (S.gv.map λkv=>((Sum.inl kv.1:Key),V.ref (ad (.gv kv.1)))) (Sum.inl t)));refine⟨o.less (λr hr=>?_) λr hr=>?_,M.b,M.qo,M.hd,M.lg⟩
 ·cases r with
  |gv k=>exact(pH.mp hr).1
  |_=>exact hr
 ·cases r with
  |gv k=>
   show HO.lst (ay (atG S.gv k))=HO.lst (ay (atG (ck S.gv t) k));rw[lG (pH.mp hr).2]
  |gd=>
   show HO.dK _=HO.dK ((ck S.gv t).map _);rw[yU]
  |_=>rfl
theorem PlH.newTk(M:PlH a H0 H C ad hd lgv S){z:Addr}(hz:H z=none):PlH a H0 (upd (upd H z (.lst [])) C.b (.ins a.gt C.dx (plN.zip ((plV C ad S.sp).set 8 (.ref z))))) C (at' ad .tk z) hd lgv { S with tr:=[] }:=by
 have o3:=M.own.new .tk hz (.lst []);have o4:=o3.put .b (.inr trivial) (.ins a.gt C.dx (plN.zip ((plV C ad S.sp).set 8 (.ref z))));have eb:at' ad .tk z .b=C.b:=M.b;rw[eb]at o4;refine⟨o4.less (λr hr=>.inr hr) λr hr=>?_,M.b,M.qo,M.hd,M.lg⟩;cases r<;>rfl
end
def PlW(a:Adr)(H0:Hp)(C:PlC)(S0:PlS)(ph:Ph)(u:Nat)(G:Hp):Prop:=∃(H1:Hp)(ad:Rl->Addr)(hd:Nat->Addr)(lgv:List V)(S:PlS),a9 H0 H1/\PlH a H1 G C ad hd lgv S/\br C.ls C.prt C.pace S0 ph S/\3 * S.sp+S.gv.length<=u
theorem x9(T:Tx P w K mg a):aC P w K mg base CX0 6 a.Bu a.Bv ["self"] (ni a):=by
 refine T.Eh.ok gg (λvs H Q E h=>?_) (λcdv A outer s H vs Q E hr h=>?_)
 ·obtain⟨_,_,_,_,_,_,rfl,_⟩:=h
  rfl
 obtain⟨H0,C,ad,hd,lgv,S0,rfl,B,M,G0,k⟩:=h
 refine⟨_,(ae (vH PassesOwn.never (aO i4 (bz zx U T.wp Q7 (a8 (az (pq 0) U) ac)) aa (aJ _)) (ae (aK (i:=1) gg.nd U Oi (bz (zu U) U T.Co PyProof.Rows.Boot.«min» (a8 (az (pq 0) U) ac)))
  (ae (cE PassesOwn.never U (c6 (bz (rR U) U T.D4 PyProof.Rows.Boot.«sorted» (a8 (vZ (az (pq 0) U) (pq 1) ⟨U,U,U,U⟩) ac))) (aP (i:=2) gg.nd U Oi)
  (ai (bM (cU (pq 0) T.f8 T.Fp (xc T) (hr.mono Qz) T.Ek .nil ar (a8 (pq 1) (a8 (pq 2) ac))))))
  (ae (aK (i:=3) gg.nd U Oi (bz (rR U) U T.D4 PyProof.Rows.Boot.«sorted» (a8 (az (pq 0) U) ac)))
  (ae (bp (pq 0) (bR ac) U)
  (ai (cE PassesOwn.never U (c6 (pq 3)) (aP (i:=2) gg.nd U Oi)
  (ai (aX (dQ (d4 (cU (pq 0) T.f8 T.Fq (xa T) (hr.mono Qz) T.Em .nil ar (a8 (pq 1) (a8 (pq 2) ac))))) (ai (au cG)) aW)))))))))
  (ai (au cG))),?_⟩
 have gd:∀{ph:Ph}{S:PlS},br C.ls C.prt C.pace S0 ph S->GdP C ph S:=λh=>h.gd B.ok B.n G0;have nb:=B.n;refine⟨λu σ G=>(∃v1 v2 v3,σ=[some (.ref C.b),v1,v2,v3])/\PlW a H0 C S0 .top u G,⟨_,⟨_,_,_,U⟩,H0,ad,hd,lgv,S0,a9.refl _,M,.base,qe _⟩,?_⟩;rintro u σ G ⟨⟨v1,v2,v3,rfl⟩,H1,ad1,hd1,lgv1,S1,s1,M1,R1,u1⟩;have hgd:=M1.own.av .gd trivial;refine⟨_,U,C.b,_,C.dx,_,_,U,M1.ob,T.f8,T.Ae,lz7 U,ad1 .gd,_,U,hgd,_,_,U,U,_,U,?_⟩
 cases hg:S1.gv with
 |nil=>exact bj (by rfl) ((k H1 G ad1 hd1 lgv1 S1 s1 M1).1 R1 hg)
 |cons kv0 g0=>
 rw[<- hg];have g1:S1.gv≠[]:=by rw[hg];exact List.cons_ne_nil _ _
 refine bS (Q1 (by rw[hg,qR,qA];omega)) ?_;refine⟨λσ G=>(∃v1 v2 v3,σ=[some (.ref C.b),v1,v2,v3])/\∃u',u'<u/\PlW a H0 C S0 .top u' G,λσ' G' ⟨h1,u',lt,h2⟩=>⟨u',lt,h1,h2⟩,?_⟩;refine⟨_,U,C.b,_,C.dx,_,_,U,M1.ob,T.f8,T.Ae,lz7 U,ad1 .gd,_,aF S1.gv,U,hgd,by unfold aF;rw[List.map_map,List.map_map];rfl,λz=>g1 (List.map_eq_nil_iff.mp z),λm hm hmin=>?_⟩;dsimp only[aI];have hgl:=M1.own.av (.gv m) hm;have I1:=gd R1;obtain⟨⟨loc1,L1⟩,cp1⟩:=I1;have ll:=(L1.gv _ (fI hm)).len;have M2:=M1.pop m;have hgl2:=M2.own.sa;refine⟨_,U,C.b,_,C.dx,_,_,U,M1.ob,T.f8,T.Ae,lz7 U,ad1 .gd,U,.inl ⟨_,.of hgd⟩,_,U,_,.inl m,_,hgd,U,by rw[gP,Q0 hm],ad1 (.gv m),(atG S1.gv m).map (λj:Nat=>(j:Int)),U,?_,by rw[q9];exact Nat.lt_of_le_of_lt ll Yd,λl zs hl perm srt=>?_⟩
 ·rw[<- kE];exact SqL.of (by rw[ah λe=>nomatch M1.own.inj (.gv m) .gd hm trivial e];exact hgl)
 obtain⟨r,er,rp,rr⟩:=nI perm srt;rw[er];have M3:=M2.earth hl (.lst (ay r));have s3:a9 H1 (upd H1 l (.lst (ay r))):=a9.new (a9.none M2.own.sa hl) _;have hl3:upd H1 l (.lst (ay r)) l=some (.lst (ay r)):=af;have R2:=R1.turn ⟨hm,hmin⟩ rp rr;have s03:=s1.trans s3;generalize upd H1 l (.lst (ay r))=H3 at M3 s3 hl3 s03;refine⟨l,U,⟨_,SqL.of (M3.own.sa _ _ hl3)⟩,?_⟩;refine e9 (K:=K) (a:=l) (xs:=ay r) (λi σ G=>(∃v2 v3,σ=[some (.ref C.b),some (.int m),v2,v3])/\(∃u',u'<u/\PlW a H3 C S0 (.giv m (r.drop i)) u' G)) ⟨⟨_,_,U⟩,_,?_,H3,ad1,hd1,lgv1,_,a9.refl _,M3,R2,qe _⟩ ?_ ?_ ?_
 ·show 3 * S1.sp+(ck S1.gv m).length<u;have:=kY hm;omega
 ·rintro i σ G _ ⟨_,u',_,H4,ad4,hd4,lgv4,S4,s4,M4,_⟩;exact SqL.of (M4.own.sa _ _ (s4 _ _ hl3))
 ·rintro i v σ G hi ⟨⟨v2,v3,rfl⟩,u',lu,H4,ad4,hd4,lgv4,S4,s4,M4,R4,u4⟩;unfold ay at hi;rw[qE]at hi;obtain⟨x,hx,rfl⟩:=qP.mp hi
  have ed:r.drop i=x::r.drop (i+1):=by
   have lt:=(qf.mp hx).1;rw[List.drop_eq_getElem_cons lt];rw[qc lt]at hx;cases hx
   rfl
  rw[ed]at R4;have G4:=gd R4;dsimp only[aI];refine⟨_,U,C.b,C.dx,_,U,M4.ob,eS Qy,_,U,_,U,H4,C,ad4,hd4,lgv4,S4,m,x,r.drop (i+1),U,B.same (s03.trans s4),M4,⟨G4.loc,G4.cap.mono Yd⟩,λH5 G5 ad5 lgv5 s5 M5=>?_⟩;refine⟨⟨_,_,U⟩,u',lu,H5,ad5,hd4,lgv5,_,s4.trans s5,M5,R4.give,?_⟩;rw[kS.1,kS.2];exact u4
 rintro σ G ⟨⟨v2,v3,rfl⟩,u',lu,H4,ad4,hd4,lgv4,S4,s4,M4,R4,u4⟩;rw[eU,List.drop_length]at R4;obtain⟨⟨loc4,L4⟩,cp4⟩:=gd R4;have htk:=M4.own.av .tk trivial;have tl:=L4.tr.len;refine⟨_,U,C.b,_,C.dx,_,_,U,M4.ob,T.f8,T.Af,lz8 U,ad4 .tk,S4.tr.map (λj:Nat=>(j:Int)),U,by rw[<- kE];exact SqL.of htk,by rw[q9];omega,λl2 zs2 hl2 perm2 srt2=>?_⟩;dsimp only[aI];obtain⟨r2,er2,rp2,rr2⟩:=nI perm2 srt2;rw[er2];have M5:=M4.earth hl2 (.lst (ay r2));have s5:a9 H4 (upd H4 l2 (.lst (ay r2))):=a9.new (a9.none M4.own.sa hl2) _;have hl5:upd H4 l2 (.lst (ay r2)) l2=some (.lst (ay r2)):=af;have R5:=R4.half rp2 rr2;have s05:=s03.trans (s4.trans s5);generalize upd H4 l2 (.lst (ay r2))=H5 at M5 s5 hl5 s05;generalize upd G l2 (.lst (ay r2))=G5 at M5 ⊢;refine⟨qt _,λz hz=>?_⟩;have M6:=M5.newTk hz;have M5u:=M5.up (a9.new hz (.lst []));refine⟨_,U,C.b,_,C.dx,_,U,M5u.ob,T.f8,T.Af,by simp[plN,plV],?_⟩;rw[ki 8 U Qy (by show 8<11;decide)];refine⟨_,U,l2,U,⟨_,SqL.of (M6.own.sa _ _ hl5)⟩,?_⟩;refine e9 (K:=K) (a:=l2) (xs:=ay r2) (λi σ G=>(∃v2,σ=[some (.ref C.b),some (.int m),v2,some (.ref l2)])/\PlW a H5 C S0 (.tak m (r2.drop i)) u' G) ⟨⟨_,U⟩,H5,_,hd4,lgv4,_,a9.refl _,M6,R5,u4⟩ ?_ ?_ ?_
 ·rintro i σ G _ ⟨_,H6,ad6,hd6,lgv6,S6,s6,M6,_⟩;exact SqL.of (M6.own.sa _ _ (s6 _ _ hl5))
 ·rintro i v σ G hi ⟨⟨v2',rfl⟩,H6,ad6,hd6,lgv6,S6,s6,M6,R6,u6⟩;unfold ay at hi;rw[qE]at hi;obtain⟨x,hx,rfl⟩:=qP.mp hi
  have ed:r2.drop i=x::r2.drop (i+1):=by
   have lt:=(qf.mp hx).1;rw[List.drop_eq_getElem_cons lt];rw[qc lt]at hx;cases hx
   rfl
  rw[ed]at R6;have G6:=gd R6;dsimp only[aI];refine⟨_,U,C.b,C.dx,_,U,M6.ob,eS Qy,_,U,_,U,H6,C,ad6,hd6,lgv6,S6,m,x,r2.drop (i+1),U,B.same (s05.trans s6),M6,⟨G6.loc,G6.cap.mono Yd⟩,λi' hl H7 G7 s7 M7=>?_,λhl hs H7 G7 s7 M7=>?_,λhl hs H7 G7 ad7 hd7 lgv7 s7 M7=>?_⟩
  ·exact⟨_,U,bj U ⟨⟨_,U⟩,H7,ad6,hd6,lgv6,_,s6.trans s7,M7,R6.wait hl,u6⟩⟩
  ·exact⟨_,U,bS U ((k H7 G7 ad6 hd6 lgv6 S6 (s05.trans (s6.trans s7)) M7).2 m x _ R6 hl hs)⟩
  ·refine⟨_,U,bj U ⟨⟨_,U⟩,H7,ad7,hd7,lgv7,_,s6.trans s7,M7,R6.take hl hs,?_⟩⟩;have e2:(aU (C.prt x) C.pace S6 m x).sp=S6.sp-1:=(eY m (aq S6 (C.prt x)) (bK (C.prt x) C.pace S6 m x)).2.1;have e3:=j0 (S:=S6) (r:=C.prt x) (pace:=C.pace) (now:=m) (x:=x);rw[e2];omega
 rintro σ G ⟨⟨v2',rfl⟩,H6,ad6,hd6,lgv6,S6,s6,M6,R6,u6⟩;rw[eU,List.drop_length]at R6;exact⟨⟨_,_,_,U⟩,u',lu,H6,ad6,hd6,lgv6,S6,s05.trans s6,M6,R6.over,u6⟩
section
variable {H0 H:Hp}{D:Rl->Prop}{ad:Rl->Addr}{c:Rl->HO}
open Classical in
theorem ba.join(M:ba H0 H D ad c){H':Hp}(s:a9 H H'){D2:Rl->Prop}{ad2:Rl->Addr}{c2:Rl->HO}(nw:∀r,D2 r->H (ad2 r)=none)(inj:∀r s,D2 r->D2 s->ad2 r=ad2 s->r=s)(av:∀r,D2 r->H' (ad2 r)=some (c2 r)):
 ∃H0',a9 H0 H0'/\(∀x o,H x=none->(∀r,D2 r->ad2 r≠x)->H' x=some o->H0' x=some o)/\ba H0' H' (λr=>D2 r\/D r) (λr=>if D2 r then ad2 r else ad r) (λr=>if D2 r then c2 r else c r):=by
 have ne:∀r s,D2 r->D s->ad2 r≠ad s:=λr s hr hs z=>by have:=M.av s hs;rw[<- z,nw r hr]at this;cases this
 refine⟨λx=>if(∃r,D2 r/\ad2 r=x)then none else if H x=none then H' x else H0 x,λx o h=>?_,λx o hx hn h=>?_,⟨λx o h=>?_,λr hr=>?_,λr t hr ht e=>?_,λr hr=>?_⟩⟩
 ·show(if(∃r,D2 r/\ad2 r=x)then none else if H x=none then H' x else H0 x)=_;have hx:=M.sa _ _ h;rw[qZ (λ⟨r,hr,e⟩=>by rw[<- e,nw r hr]at hx;cases hx),qZ (by rw[hx];exact λz=>by cases z)];exact h
 ·show(if(∃r,D2 r/\ad2 r=x)then none else if H x=none then H' x else H0 x)=_;rw[qZ (λ⟨r,hr,e⟩=>hn r hr e),Q0 hx];exact h
 ·have h:(if(∃r,D2 r/\ad2 r=x)then none else if H x=none then H' x else H0 x)=some o:=h;split at h
  ·cases h
  split at h
  ·exact h
  ·exact s _ _ (M.sa _ _ h)
 ·show(if(∃t,D2 t/\ad2 t=(if D2 r then ad2 r else ad r))then none else _)=_;by_cases e:D2 r
  ·rw[Q0 e,Q0 ⟨r,e,U⟩]
  ·have hr:=hr.resolve_left e;rw[qZ e,qZ (λ⟨t,ht,z⟩=>ne t r ht hr z),qZ (by rw[M.av r hr];exact λz=>by cases z)];exact M.nw r hr
 ·have e:(if D2 r then ad2 r else ad r)=(if D2 t then ad2 t else ad t):=e;by_cases e1:D2 r
  ·by_cases e2:D2 t
   ·rw[Q0 e1,Q0 e2]at e;exact inj r t e1 e2 e
   ·rw[Q0 e1,qZ e2]at e;exact Q4 e (ne r t e1 (ht.resolve_left e2))
  ·by_cases e2:D2 t
   ·rw[qZ e1,Q0 e2]at e;exact Q4 e.symm (ne t r e2 (hr.resolve_left e1))
   ·rw[qZ e1,qZ e2]at e;exact M.inj r t (hr.resolve_left e1) (ht.resolve_left e2) e
 ·show H' (if D2 r then ad2 r else ad r)=some (if D2 r then c2 r else c r);by_cases e:D2 r
  ·rw[Q0 e,Q0 e];exact av r e
  ·rw[qZ e,qZ e];exact s _ _ (M.av r (hr.resolve_left e))
end
inductive RRs(H:Hp):List V->List PR->Prop
 |nil:RRs H [] []
 |cons {v:V}{vs:List V}{r:PR}{rs:List PR}:RR H v r->RRs H vs rs->RRs H (v::vs) (r::rs)
theorem RRs.same{H H':Hp}(s:a9 H H'):∀{vs:List V}{rs:List PR},RRs H vs rs->RRs H' vs rs
 |_,_,.nil=>.nil
 |_,_,.cons a r=>.cons (a.same s) (RRs.same s r)
theorem RRs.len{H:Hp}:∀{vs:List V}{rs:List PR},RRs H vs rs->vs.length=rs.length
 |_,_,.nil=>rfl
 |_,_,.cons _ r=>congrArg (·+1) (RRs.len r)
theorem RRs.at{H:Hp}:∀{vs:List V}{rs:List PR},RRs H vs rs->∀{i:Nat}{v:V},vs[i]?=some v->∃r,rs[i]?=some r/\RR H v r
 |_,_,.nil,i,v,h=>by simp at h
 |_,_,.cons a r,0,v,h=>by cases h;exact⟨_,U,a⟩
 |_,_,.cons a r,i+1,v,h=>RRs.at r (by simpa using h)
def bd(rs:List PR):Nat->PR:=λx=>rs.getD x (.merge 0 [] [] [])
def bv(xs:List Ln):Nat->Ln:=λi=>xs.getD i (none,[])
def ci(xs:List Ln)(n most:Nat):PlS:={ st:=λi=>((bv xs i).2,0),held:=λ_=>[],tks:=λ_=>0,gv:=[(0,[])],tr:=List.range n,wr:=λ_=>[],wt:=λ_=>[],sp:=most,lg:=[] }
structure zJ(a:Adr)(H H1 H':Hp)(b:Addr)(C:PlC)(ad:Rl->Addr)(hd:Nat->Addr)(xs:List Ln)(rs:List PR)(pace:List (List Int))(most:Nat):Prop where
 B:PlB a H1 C
 M:PlH a H1 H' C ad hd [] (ci xs rs.length most)
 b:C.b=b
 prt:C.prt=bd rs
 ls:C.ls=λi=>(bv xs i).1
 n:C.n=rs.length
 nl:C.nl=xs.length
 pace:C.pace=pace
 keep:∀q o,q≠C.b->H q=some o->H1 q=some o
inductive nD(a:Adr)(vs:List V)(H:Hp)(Q:VK)(E:XK):Prop
 |mk (b dx ll lp pc:Addr) (us ps pv:List V) (xs:List Ln) (rs:List PR) (pace:List (List Int)) (most:Nat) (h0_:vs=[.ref b,.ref ll,.ref lp,.ref pc,.int most]) (h1_:H b=some (.ins a.gt dx [])) (h2_:H ll=some (.lst us)) (h3_:RLn H us xs) (h4_:H lp=some (.lst ps)) (h5_:RRs H ps rs) (h6_:H pc=some (.lst pv)) (h7_:RIs H pv pace) (h8_:rs.length<60) (h9_:xs.length<=1000) (h10_:(∀x∈xs,x.2.length<=50)) (h11_:pace.length<=1000) (h12_:(∀r∈pace,r.length<=1000)) (h13_:(∀r∈rs,r.ok/\r.fit xs.length)) (h14_:∀H1 H' C ad hd,zJ a H H1 H' b C ad hd xs rs pace most->Q .non H'):nD a vs H Q E
theorem ba.cong{H0 H:Hp}{D:Rl->Prop}{ad:Rl->Addr}{c:Rl->HO}(M:ba H0 H D ad c){D':Rl->Prop}{ad':Rl->Addr}{c':Rl->HO}(h:∀r,D' r->D r/\ad' r=ad r/\c' r=c r):ba H0 H D' ad' c':=
 ⟨M.sa,λr hr=>by rw[(h r hr).2.1];exact M.nw r (h r hr).1,λr s hr hs e=>M.inj r s (h r hr).1 (h s hs).1 (by rw[<- (h r hr).2.1,<- (h s hs).2.1];exact e),λr hr=>by rw[(h r hr).2.1,(h r hr).2.2];exact M.av r (h r hr).1⟩
def dF(K G:Hp)(f:Nat->Rl)(D:Rl->Prop)(ad:Rl->Addr)(c:Rl->HO)(i:Nat)(ys:List V):Prop:=∃(ad':Rl->Addr)(c':Rl->HO),ys=(List.range i).map (λj=>V.ref (ad' (f j)))/\(∀r,D r->ad' r=ad r/\c' r=c r)/\(∀j,j<i->c' (f j)=.lst [])/\ba K G (λr=>(∃j,j<i/\r=f j)\/D r) ad' c'
theorem dF.start{K G:Hp}{f:Nat->Rl}{D:Rl->Prop}{ad:Rl->Addr}{c:Rl->HO}(M:ba K G D ad c):dF K G f D ad c 0 []:=⟨ad,c,U,λ_ _=>⟨U,U⟩,λj h=>Q4 h (Qx _),M.less (λr hr=>hr.resolve_left λ⟨j,h,_⟩=>Qx _ h) λ_ _=>U⟩
theorem dF.step{K G:Hp}{f:Nat->Rl}{D:Rl->Prop}{ad:Rl->Addr}{c:Rl->HO}{i:Nat}{ys:List V}(fi:∀j k,f j=f k->j=k)(fd:∀j,¬ D (f j))(M:dF K G f D ad c i ys){x:Addr}(hx:G x=none):dF K (upd G x (.lst [])) f D ad c (i+1) (ys++[.ref x]):=by
 obtain⟨ad',c',rfl,h1,h2,o⟩:=M;refine⟨at' ad' (f i) x,at' c' (f i) (.lst []),?_,λr hr=>?_,λj hj=>?_,?_⟩
 ·rw[List.range_succ,qO];refine congr (congrArg HAppend.hAppend (List.map_congr_left λj hj=>?_)) ?_
  ·rw[bq λe=>qG (List.mem_range.mp hj) (fi j i e)]
  ·show _=[V.ref (at' ad' (f i) x (f i))];rw[bO]
 ·have ne:r≠f i:=λe=>fd i (e▸hr);rw[bq ne,bq ne];exact h1 r hr
 ·by_cases e:j=i
  ·rw[e,bO]
  ·rw[bq λz=>e (fi j i z)];exact h2 j Yd
 ·refine(o.new (f i) hx (.lst [])).less (λr hr=>?_) λ_ _=>U;rcases hr with⟨j,hj,rfl⟩|hr
  ·by_cases e:j=i
   ·exact .inl (by rw[e])
   ·exact .inr (.inl ⟨j,Yd,U⟩)
  ·exact .inr (.inr hr)
theorem RS.keep{H H':Hp}(e:∀b ys,H b=some (.tup ys)->H' b=some (.tup ys)){v:V}{r:Sd}(h:RS H v r):RS H' v r:=by
 cases h with
 |num a=>exact .num (e _ _ a)
 |thing a=>exact .thing (e _ _ a)
theorem RR.keep{H H':Hp}(e:∀b ys,H b=some (.tup ys)->H' b=some (.tup ys)){v:V}{r:PR}(h:RR H v r):RR H' v r:=by
 cases h with
 |pass a b c d=>exact .pass (e _ _ a) (e _ _ b) (e _ _ c) (e _ _ d)
 |work a b c d=>exact .work (e _ _ a) (e _ _ b) (c.keep e) (d.keep e)
 |choose a b c d=>exact .choose (e _ _ a) (e _ _ b) (e _ _ c) (e _ _ d)
 |merge a b c d=>exact .merge (e _ _ a) (e _ _ b) (e _ _ c) (e _ _ d)
theorem RRs.keep{H H':Hp}(e:∀b ys,H b=some (.tup ys)->H' b=some (.tup ys)):∀{vs:List V}{rs:List PR},RRs H vs rs->RRs H' vs rs
 |_,_,.nil=>.nil
 |_,_,.cons a r=>.cons (a.keep e) (RRs.keep e r)
theorem RIs.keep{H H':Hp}(e:∀b ys,H b=some (.lst ys)->H' b=some (.lst ys)):∀{vs:List V}{xss:List (List Int)},RIs H vs xss->RIs H' vs xss
 |_,_,.nil=>.nil
 |_,_,.cons a r=>.cons (e _ _ a) (RIs.keep e r)
def kO(nl:Nat):Rl->Prop
 |.qo i=>i<nl
 |.ql i=>i<nl
 |.b=>True
 |_=>False
def iD(b:Addr)(qs:List (Addr×Addr×Addr)):Rl->Addr
 |.qo i=>(qs.getD i (b,b,b)).1
 |.ql i=>(qs.getD i (b,b,b)).2.2
 |_=>b
def iC(a:Adr)(b:Addr)(o:HO)(qs:List (Addr×Addr×Addr))(xs:List Ln):Rl->HO
 |.qo i=>.ins a.ld (qs.getD i (b,b,b)).2.1 [("laid",.ref (qs.getD i (b,b,b)).2.2),("gone",.int (0:Nat))]
 |.ql i=>.lst ((bv xs i).2.map V.int)
 |_=>o
theorem oy{f:Str}{v:V}:∀{l:List (Str×V)},(∀p∈l,p.1≠f)->bo f v l=l++[(f,v)]
 |[],_=>rfl
 |(g,u)::l,h=>by
  rw[bo,qZ (h _ qm),oy λp hp=>h p (qk _ hp)]
  rfl
def obO(a:Adr)(dx:Addr)(k:Nat)(vs:List V):HO:=.ins a.gt dx ((plN.take k).zip vs)
theorem vC{k:Nat}{f:Str}{v:V}{vs:List V}(hl:vs.length=k)(hf:plN[k]?=some f)(hn:(plN.take k).contains f=false):bo f v ((plN.take k).zip vs)=(plN.take (k+1)).zip (vs++[v]):=by
 have kl:=(qf.mp hf).1;rw[oy λp hp e=>?_,qr,hf,List.zip_append (by rw[qK,hl];omega)]
 ·rfl
 ·have:=(List.of_mem_zip (a:=p.1) (b:=p.2) hp).1;rw[e]at this;rw[List.contains_iff_mem.mpr this]at hn;cases hn
theorem d9{a:Adr}{dx:Addr}{k:Nat}{f:Str}{v:V}{vs ws:List V}(hl:vs.length=k)(hf:plN[k]?=some f)(hn:(plN.take k).contains f=false)(e:vs++[v]=ws):HO.ins a.gt dx (bo f v ((plN.take k).zip vs))=obO a dx (k+1) ws:=by
 rw[vC hl hf hn,e]
 rfl
theorem dg{k:Nat}{vs:List V}:((plN.take k).zip vs).length<1000:=by
 rw[List.length_zip,qK];have:plN.length=11:=U;omega
theorem pd{α β:Type}{l:List α}{d:α}{f:α->β}{n:Nat}(h:l.length=n):l.map f=(List.range n).map λi=>f (l.getD i d):=by
 refine List.ext_getElem? λi=>?_;by_cases hi:i<n
 ·rw[cg hi,qE,qc Yd,qj,qc Yd]
  rfl
 ·rw[Qo (by rw[q9];omega),Qo (by rw[q9,Qd];omega)]
theorem xf(T:Tx P w K mg a):aC P w K mg base CX0 5 a.Bs a.Bt ["self","lines","parts","pace","most"] (nD a):=by
 refine T.Ef.ok uF (λvs H Q E h=>?_) (λcdv A outer s H vs Q E hr h=>?_)
 ·obtain⟨_,_,_,_,_,_,_,_,_,_,_,_,rfl,_⟩:=h
  rfl
 obtain⟨b,dx,ll,lp,pc,us,ps,pv,xs,rs,pace,most,rfl,hb,hll,rln,hlp,rrs,hpc,ris,n60,nl,fl,pl,pb,okr,k⟩:=h
 refine⟨_,(ae (bp (pq 0) (eP T.EQ (wU T) (hr.mono Qz) U T.EO T.DG .nil ar (a8 (pq 1) ac)) U)
  (ae (bp (pq 0) (cs (k:=1) (Nc:=["row"]) (js:=[]) (show aL (aj dO) ["self","lines","parts","pace","most"] _ 1 ["row"] []from aL.mk U (by decide +kernel) (by decide +kernel) (by decide +kernel) U (by decide +kernel)) U (c6 (pq 2)) (λ_ _ _ _ _=>(aP (i:=0) (show List.Nodup (["row"]:List Str)from by decide +kernel) U Oi)) (λ_ _ _ _ _=>bX) (λ_ _ _ _ _=>(aR (wC T) (hr.mono Qz) U T.Ee T.CC.kp T.Ed .nil ar (a8 (pq 0) ac)))) U)
  (ae (bp (pq 0) (pq 3) U)
  (ae (bp (pq 0) (pq 4) U)
  (ae (bp (pq 0) (bR ac) U)
  (ae (bp (pq 0) (cs (k:=1) (Nc:=["part"]) (js:=[]) (show aL (aj dO) ["self","lines","parts","pace","most"] _ 1 ["part"] []from aL.mk U (by decide +kernel) (by decide +kernel) (by decide +kernel) U (by decide +kernel)) U (c6 (pq 2)) (λ_ _ _ _ _=>(aP (i:=0) (show List.Nodup (["part"]:List Str)from by decide +kernel) U Oi)) (λ_ _ _ _ _=>bX) (λ_ _ _ _ _=>(bR ac))) U)
  (ae (bp (pq 0) (cs (k:=1) (Nc:=["part"]) (js:=[]) (show aL (aj dO) ["self","lines","parts","pace","most"] _ 1 ["part"] []from aL.mk U (by decide +kernel) (by decide +kernel) (by decide +kernel) U (by decide +kernel)) U (c6 (pq 2)) (λ_ _ _ _ _=>(aP (i:=0) (show List.Nodup (["part"]:List Str)from by decide +kernel) U Oi)) (λ_ _ _ _ _=>bX) (λ_ _ _ _ _=>aa)) U)
  (ae (bp (pq 0) (w4 (vK aa (bR ac) vJ) U U (List.cons_ne_nil _ _) Qz) U)
  (ae (bp (pq 0) (vV U U T.zW U T.zT (bz c5 U T.wp Q7 (a8 (pq 2) ac))) U)
  (ae (bp (pq 0) (cs (k:=1) (Nc:=["line"]) (js:=[]) (show aL (aj dO) ["self","lines","parts","pace","most"] _ 1 ["line"] []from aL.mk U (by decide +kernel) (by decide +kernel) (by decide +kernel) U (by decide +kernel)) U (c6 (pq 1)) (λ_ _ _ _ _=>(aP (i:=0) (show List.Nodup (["line"]:List Str)from by decide +kernel) U Oi)) (λ_ _ _ _ _=>bX) (λ_ _ _ _ _=>(bR ac))) U)
  (ai (bp (pq 0) (cs (k:=1) (Nc:=["line"]) (js:=[]) (show aL (aj dO) ["self","lines","parts","pace","most"] _ 1 ["line"] []from aL.mk U (by decide +kernel) (by decide +kernel) (by decide +kernel) U (by decide +kernel)) U (c6 (pq 1)) (λ_ _ _ _ _=>(aP (i:=0) (show List.Nodup (["line"]:List Str)from by decide +kernel) U Oi)) (λ_ _ _ _ _=>bX) (λ_ _ _ _ _=>(bR ac))) U)))))))))))),?_⟩
 let K0:Hp:=λc=>if c=b then none else H c
 have k0:∀c o,c≠b->H c=some o->K0 c=some o:=λc o n h=>(qZ n).trans h;have kt:∀c ys,H c=some (.tup ys)->K0 c=some (.tup ys):=λc ys h=>k0 c _ (λz=>by rw[z,hb]at h;cases h) h;have kl:∀c ys,H c=some (.lst ys)->K0 c=some (.lst ys):=λc ys h=>k0 c _ (λz=>by rw[z,hb]at h;cases h) h
 have M0:ba K0 H (λr=>r=.b) (λ_=>b) (λ_=>.ins a.gt dx []):=⟨λc o h=>by
  have h:(if c=b then none else H c)=some o:=h;split at h
  ·cases h
  ·exact h,λ_ _=>Q0 U,λr t hr ht _=>hr.trans ht.symm,λ_ _=>hb⟩
 refine⟨_,U,λy dy hy hdy ny=>?_⟩
 have sy:a9 H (upd (upd H dy (.own y)) y (.ins a.or dy [])):=λc o h=>by
  have n1:c≠y:=λz=>by rw[z,hy]at h;cases h
  have n2:c≠dy:=λz=>by rw[z,hdy]at h;cases h
  rw[ah n1,ah n2];exact h
 refine⟨y,dy,ll,us,xs,U,af,sy _ _ hll,rln.same sy,nl,fl,λH' la lq qs hk ry n2 n1 nq hlq hla=>?_⟩;have s1:a9 H H':=λc o h=>hk c o (λz=>by rw[z,hy]at h;cases h) (sy _ _ h)
 have hq:∀i,i<xs.length->qs[i]?=some (qs.getD i (b,b,b)):=λi hi=>by
  have:i<qs.length:=by have:=ry.n;unfold cw at this;rw[q9]at this;omega
  rw[qj,qc this]
  rfl
 have rq:∀i,i<xs.length->RQ a H' (qs.getD i (b,b,b)) ((bv xs i).2,0):=λi hi=>ry.q i _ _ (hq i hi) (by unfold cw bv;rw[qE,qj,qc hi];rfl)
 obtain⟨K1,sk1,new1,O1⟩:=M0.join s1 (D2:=λr=>match r with|.qo i=>i<xs.length|.ql i=>i<xs.length|_=>False) (ad2:=iD b qs) (c2:=iC a b (.ins a.gt dx []) qs xs) (λr hr=>by
  cases r with
  |qo i=>exact a9.none sy (nq _ (qz (hq i hr))).2.2
  |ql i=>exact a9.none sy (nq _ (qz (hq i hr))).1
  |_=>exact Q4 hr id) (λr t hr ht e=>by
  have l1:∀i,i<xs.length->(qs.map λq=>q.1)[i]?=some (qs.getD i (b,b,b)).1:=λi hi=>by rw[qE,hq i hi];rfl
  have l2:∀i,i<xs.length->(qs.map λq=>q.2.2)[i]?=some (qs.getD i (b,b,b)).2.2:=λi hi=>by rw[qE,hq i hi];rfl
  cases r with
  |qo i=>
   cases t with
   |qo j=>exact congrArg Rl.qo ((List.getElem?_inj (qf.mp (l1 i hr)).1 n1).mp (by rw[l1 i hr,l1 j ht];exact congrArg some e))
   |ql j=>
    have h1:=(rq i hr).1;have e:(qs.getD i (b,b,b)).1=(qs.getD j (b,b,b)).2.2:=e;rw[e,(rq j ht).2.1]at h1;cases h1
   |_=>exact Q4 ht id
  |ql i=>
   cases t with
   |ql j=>exact congrArg Rl.ql ((List.getElem?_inj (qf.mp (l2 i hr)).1 n2).mp (by rw[l2 i hr,l2 j ht];exact congrArg some e))
   |qo j=>
    have h1:=(rq j ht).1;have e:(qs.getD i (b,b,b)).2.2=(qs.getD j (b,b,b)).1:=e;rw[<- e,(rq i hr).2.1]at h1;cases h1
   |_=>exact Q4 ht id
  |_=>exact Q4 hr id) (λr hr=>by
  cases r with
  |qo i=>exact(rq i hr).1
  |ql i=>exact(rq i hr).2.1
  |_=>exact Q4 hr id)
 have M1:ba K1 H' (kO xs.length) (iD b qs) (iC a b (.ins a.gt dx []) qs xs):=O1.cong λr hr=>by
  cases r with
  |qo i=>exact⟨.inl hr,(Q0 hr).symm,(Q0 hr).symm⟩
  |ql i=>exact⟨.inl hr,(Q0 hr).symm,(Q0 hr).symm⟩
  |b=>exact⟨.inr U,(qZ id).symm,(qZ id).symm⟩
  |_=>exact Q4 hr id
 have isD:∀c o,H c=none->H' c=some o->(∀i,i<xs.length->(qs.getD i (b,b,b)).1≠c/\(qs.getD i (b,b,b)).2.2≠c)->K1 c=some o:=λc o h1 h2 h3=>new1 c o h1 (λr hr=>by
  cases r with
  |qo i=>exact(h3 i hr).1
  |ql i=>exact(h3 i hr).2
  |_=>exact Q4 hr id) h2
 have ky:=isD y _ hy ry.o λi hi=>⟨(nq _ (qz (hq i hi))).2.1,λz=>(by have h:=(rq i hi).2.1;rw[z,ry.o]at h;cases h)⟩;have kla:=isD la _ (a9.none sy hla.1) ry.w λi hi=>⟨λz=>(by have h:=(rq i hi).1;rw[z,ry.w]at h;cases h),λz=>hla.2 (List.mem_map.mpr ⟨_,qz (hq i hi),z⟩)⟩;have klq:=isD lq _ (a9.none sy hlq.1) ry.l λi hi=>⟨λz=>(by have h:=(rq i hi).1;rw[z,ry.l]at h;cases h),λz=>hlq.2 (List.mem_map.mpr ⟨_,qz (hq i hi),z⟩)⟩;refine⟨U,_,U,b,a.gt,dx,[],U,s1 _ _ hb,T.f8,T.A5,by simp,?_⟩;rw[show HO.ins a.gt dx (bo ("yard":Str) (V.ref y) [])=obO a dx 1 [.ref y]from rfl];have M2:=M1.put .b trivial (obO a dx 1 [.ref y]);change ba K1 (upd H' b (obO a dx 1 [.ref y])) _ _ _ at M2;generalize upd H' b (obO a dx 1 [.ref y])=G2 at M2 ⊢;have lp1:=sk1 _ _ (kl _ _ hlp);have rr1:=(rrs.keep kt).same sk1;have pl1:=rrs.len;refine⟨_,U,lp,U,⟨_,SqL.of (M2.sa _ _ lp1)⟩,?_⟩;refine dE (K:=K) (a:=lp) (xs:=ps) (λi ys σ G=>(∃v,σ=[v])/\∃K2,a9 K1 K2/\ys.length=i/\(∀j,j<i->∃v,ys[j]?=some v/\RPt a K2 v (bd rs j))/\ba K2 G (kO xs.length) (iD b qs) (at' (iC a b (.ins a.gt dx []) qs xs) .b (obO a dx 1 [.ref y]))) ⟨⟨_,U⟩,K1,a9.refl _,U,λj h=>Q4 h (Qx _),M2⟩ ?_ (bf (m:=1000) Yd) ?_ ?_ ?_
 ·rintro i ys σ G _ ⟨_,K2,_,e,_⟩;rw[e];exact qe _
 ·rintro i ys σ G ⟨_,K2,s2,_,_,M⟩;exact SqL.of (M.sa _ _ (s2 _ _ lp1))
 ·rintro i v ys σ G hi ⟨⟨v',rfl⟩,K2,s2,e2,r2,M⟩;obtain⟨r,hr2,rr⟩:=rr1.at hi;dsimp only[aI];refine⟨_,U,K2,v,r,U,M.sa,rr.same s2,λG' p sg np f=>?_⟩;obtain⟨K3,s3,new3,M3⟩:=M.more sg;refine⟨⟨_,U⟩,K3,s2.trans s3,by rw[qb,e2];rfl,λj hj=>?_,M3⟩;by_cases e:j=i
  ·refine⟨.ref p,by rw[e,qL Yd,e2,Nat.sub_self];rfl,?_⟩;rw[show bd rs j=r by unfold bd;rw[e,qj,hr2];rfl];exact f K3 s3 new3
  ·obtain⟨v,h1,h2⟩:=r2 j Yd;exact⟨v,by rw[Q5 Yd];exact h1,h2.same s3⟩
 rintro ys σ3 G3 ⟨_,K2,s2,yl,dr,M3⟩ dl hdl;have M4:=M3.base hdl (.lst ys);have s4:a9 K2 (upd K2 dl (.lst ys)):=a9.new (a9.none M3.sa hdl) _;have hd4:upd K2 dl (.lst ys) dl=some (.lst ys):=af;have dr4:∀j,j<ps.length->∃v,ys[j]?=some v/\RPt a (upd K2 dl (.lst ys)) v (bd rs j):=λj hj=>let ⟨v,h1,h2⟩:=dr j hj;⟨v,h1,h2.same s4⟩;have sk4:=sk1.trans (s2.trans s4);have s14:=s2.trans s4;generalize upd K2 dl (.lst ys)=K4 at M4 s4 hd4 dr4 sk4 s14;generalize upd G3 dl (.lst ys)=G4 at M4 ⊢;have b4:G4 b=some (obO a dx 1 [.ref y]):=M4.av .b trivial;refine⟨_,U,b,a.gt,dx,_,U,b4,T.f8,T.Cs,dg,?_⟩;rw[d9 (k:=1) (f:="doers") (v:=.ref dl) (vs:=[.ref y]) (ws:=[.ref y,.ref dl]) U U Qy U];have M5:=M4.put .b trivial (obO a dx 2 [.ref y,.ref dl]);change ba K4 (upd G4 b (obO a dx 2 [.ref y,.ref dl])) _ _ _ at M5;refine⟨_,U,_,U,b,a.gt,dx,_,U,M5.av .b trivial,T.f8,T.Am,dg,?_⟩;rw[d9 (k:=2) (f:="pace") (v:=.ref pc) (vs:=[.ref y,.ref dl]) (ws:=[.ref y,.ref dl,.ref pc]) U U Qy U];have M6:=M5.put .b trivial (obO a dx 3 [.ref y,.ref dl,.ref pc]);refine⟨_,U,_,U,b,a.gt,dx,_,U,M6.av .b trivial,T.f8,T.An,dg,?_⟩;rw[d9 (k:=3) (f:="spare") (v:=.int most) (vs:=[.ref y,.ref dl,.ref pc]) (ws:=[.ref y,.ref dl,.ref pc,.int most]) U U Qy U];have M7:=M6.put .b trivial (obO a dx 4 [.ref y,.ref dl,.ref pc,.int most]);refine⟨qt _,λlg hlg=>?_⟩;have M8:=M7.new .lg hlg (.lst []);refine⟨_,U,b,a.gt,dx,_,U,M8.av .b (.inr trivial),T.f8,T.Ao,dg,?_⟩;rw[d9 (k:=4) (f:="log") (v:=.ref lg) (vs:=[.ref y,.ref dl,.ref pc,.int most]) (ws:=[.ref y,.ref dl,.ref pc,.int most,.ref lg]) U U Qy U];have M9:=M8.put .b (.inr trivial) (obO a dx 5 [.ref y,.ref dl,.ref pc,.int most,.ref lg]);have lp4:=s14 _ _ lp1
 let D9:Rl->Prop:=λs=>s=.lg\/kO xs.length s
 let ad9:Rl->Addr:=at' (iD b qs) .lg lg
 let c9:Rl->HO:=at' (at' (iC a b (.ins a.gt dx []) qs xs) .lg (.lst [])) .b (obO a dx 5 [.ref y,.ref dl,.ref pc,.int most,.ref lg])
 have M9:ba K4 _ D9 ad9 c9:=M9.less (λ_ h=>h) λr _=>by cases r<;>rfl
 refine⟨_,U,lp,U,⟨_,SqL.of (M9.sa _ _ lp4)⟩,?_⟩;refine dE (K:=K) (a:=lp) (xs:=ps) (λi ys σ G=>(∃v,σ=[v])/\∃(K':Hp)(hd:Nat->Addr),a9 K4 K'/\ys=(List.range i).map (λj=>V.ref (hd j))/\(∀j,j<i->K' (hd j)=some (.lst []))/\ba K' G D9 ad9 c9) ⟨⟨_,U⟩,K4,λ_=>b,a9.refl _,U,λj h=>Q4 h (Qx _),M9⟩ ?_ (bf (m:=1000) Yd) ?_ ?_ ?_
 ·rintro i ys σ G _ ⟨_,K',hd,_,rfl,_⟩;rw[q9,Qd];exact qe _
 ·rintro i ys σ G ⟨_,K',hd,s',_,_,M⟩;exact SqL.of (M.sa _ _ (s' _ _ lp4))
 ·rintro i v ys σ G hi ⟨⟨v',rfl⟩,K',hd,s',rfl,h',M⟩;refine⟨qt _,λz hz=>⟨⟨_,U⟩,upd K' z (.lst []),put hd i z,s'.trans (a9.new (a9.none M.sa hz) _),?_,λj hj=>?_,M.base hz _⟩⟩
  ·rw[List.range_succ,qO];refine congr (congrArg HAppend.hAppend (List.map_congr_left λj hj=>?_)) ?_
   ·rw[ax (qG (List.mem_range.mp hj))]
   ·show _=[V.ref (put hd i z i)];rw[aE]
  ·by_cases e:j=i
   ·rw[e,aE,af]
   ·rw[ax e];exact a9.new (a9.none M.sa hz) _ _ _ (h' j Yd)
 rintro ys9 σ9 G9 ⟨_,K5,hd,s5,rfl,hh,M10⟩ hl hhl;have M11:=M10.new .hl hhl (.lst ((List.range ps.length).map λj=>V.ref (hd j)));refine⟨_,U,b,a.gt,dx,_,U,M11.av .b (.inr (.inr trivial)),T.f8,T.Ct,dg,?_⟩;rw[d9 (k:=5) (f:="held") (v:=.ref hl) (vs:=[.ref y,.ref dl,.ref pc,.int most,.ref lg]) (ws:=[.ref y,.ref dl,.ref pc,.int most,.ref lg,.ref hl]) U U Qy U];have M12:=M11.put .b (.inr (.inr trivial)) (obO a dx 6 [.ref y,.ref dl,.ref pc,.int most,.ref lg,.ref hl]);have lp5:=s5 _ _ lp4
 let D12:Rl->Prop:=λs=>s=.hl\/D9 s
 let ad12:Rl->Addr:=at' ad9 .hl hl
 let c12:Rl->HO:=at' (at' c9 .hl (.lst ((List.range ps.length).map λj=>V.ref (hd j)))) .b (obO a dx 6 [.ref y,.ref dl,.ref pc,.int most,.ref lg,.ref hl])
 have M12:ba K5 _ D12 ad12 c12:=M12;refine⟨_,U,lp,U,⟨_,SqL.of (M12.sa _ _ lp5)⟩,?_⟩;refine dE (K:=K) (a:=lp) (xs:=ps) (λi ys σ G=>(∃v,σ=[v])/\ys=(List.range i).map (λ_=>V.int ((0:Nat):Int))/\ba K5 G D12 ad12 c12) ⟨⟨_,U⟩,U,M12⟩ ?_ (bf (m:=1000) Yd) ?_ ?_ ?_
 ·rintro i ys σ G _ ⟨_,rfl,_⟩;rw[q9,Qd];exact qe _
 ·rintro i ys σ G ⟨_,_,M⟩;exact SqL.of (M.sa _ _ lp5)
 ·rintro i v ys σ G hi ⟨⟨v',rfl⟩,rfl,M⟩;exact⟨⟨_,U⟩,by rw[List.range_succ,qO];rfl,M⟩
 rintro ys12 σ12 G12 ⟨_,rfl,M12'⟩ tl htl;have M13:=M12'.new .tl htl (.lst ((List.range ps.length).map λ_=>V.int ((0:Nat):Int)));refine⟨_,U,b,a.gt,dx,_,U,M13.av .b (.inr (.inr (.inr trivial))),T.f8,T.Ap,dg,?_⟩;rw[d9 (k:=6) (f:="takings") (v:=.ref tl) (vs:=[.ref y,.ref dl,.ref pc,.int most,.ref lg,.ref hl]) (ws:=[.ref y,.ref dl,.ref pc,.int most,.ref lg,.ref hl,.ref tl]) U U Qy U];have M14:=M13.put .b (.inr (.inr (.inr trivial))) (obO a dx 7 [.ref y,.ref dl,.ref pc,.int most,.ref lg,.ref hl,.ref tl])
 let D14:Rl->Prop:=λs=>s=.tl\/D12 s
 let ad14:Rl->Addr:=at' ad12 .tl tl
 let c14:Rl->HO:=at' (at' c12 .tl (.lst ((List.range ps.length).map λ_=>V.int ((0:Nat):Int)))) .b (obO a dx 7 [.ref y,.ref dl,.ref pc,.int most,.ref lg,.ref hl,.ref tl])
 have M14:ba K5 _ D14 ad14 c14:=M14;intro gd hgd;refine⟨qt _,λgl hgl=>?_⟩;have M15:=M14.new .gd hgd (.dK []);have M16:=M15.new (.gv 0) hgl (.lst []);have hgd2:=M16.av .gd (.inr (.inl U));refine⟨hgd2,[(.inl 0,.ref gl)],U,by show 1<=15;decide,?_⟩;have M17:=M16.put .gd (.inr (.inl U)) (.dK (fG [] [(.inl 0,.ref gl)]));have hb17:_=some (obO a dx 7 [.ref y,.ref dl,.ref pc,.int most,.ref lg,.ref hl,.ref tl]):=M17.av .b (.inr (.inr (.inr (.inr (.inr trivial)))));refine⟨_,U,b,a.gt,dx,_,U,hb17,T.f8,T.Ae,dg,?_⟩;rw[d9 (k:=7) (f:="givers") (v:=.ref gd) (vs:=[.ref y,.ref dl,.ref pc,.int most,.ref lg,.ref hl,.ref tl]) (ws:=[.ref y,.ref dl,.ref pc,.int most,.ref lg,.ref hl,.ref tl,.ref gd]) U U Qy U];have M18:=M17.put .b (.inr (.inr (.inr (.inr (.inr trivial))))) (obO a dx 8 [.ref y,.ref dl,.ref pc,.int most,.ref lg,.ref hl,.ref tl,.ref gd]);refine⟨_,U,lp,_,U,.inl (SqL.of (M18.sa _ _ lp5)),ps.length,U,Yd,λtk htk=>?_⟩;have M19:=M18.new .tk htk (.lst ((List.range ps.length).map λj:Nat=>V.int j));refine⟨_,U,b,a.gt,dx,_,U,M19.av .b (.inr (.inr (.inr (.inr (.inr (.inr trivial)))))),T.f8,T.Af,dg,?_⟩;rw[d9 (k:=8) (f:="takers") (v:=.ref tk) (vs:=[.ref y,.ref dl,.ref pc,.int most,.ref lg,.ref hl,.ref tl,.ref gd]) (ws:=[.ref y,.ref dl,.ref pc,.int most,.ref lg,.ref hl,.ref tl,.ref gd,.ref tk]) U U Qy U];have M20:=M19.put .b (.inr (.inr (.inr (.inr (.inr (.inr trivial)))))) (obO a dx 9 [.ref y,.ref dl,.ref pc,.int most,.ref lg,.ref hl,.ref tl,.ref gd,.ref tk])
 let D20:Rl->Prop:=λs=>s=.tk\/s=.gv 0\/s=.gd\/D14 s
 let ad20:Rl->Addr:=at' (at' (at' ad14 .gd gd) (.gv 0) gl) .tk tk
 let c20:Rl->HO:=at' (at' (at' (at' c14 .gd (.dK [(.inl 0,.ref gl)])) (.gv 0) (.lst [])) .tk (.lst ((List.range ps.length).map λj:Nat=>V.int j))) .b (obO a dx 9 [.ref y,.ref dl,.ref pc,.int most,.ref lg,.ref hl,.ref tl,.ref gd,.ref tk])
 have M20:ba K5 _ D20 ad20 c20:=M20.less (λ_ h=>h) λr _=>by cases r<;>rfl
 have ll5:=s5 _ _ (s14 _ _ (sk1 _ _ (kl _ _ hll)));have ul:=rln.len;refine⟨_,U,ll,U,⟨_,SqL.of (M20.sa _ _ ll5)⟩,?_⟩;refine dE (K:=K) (a:=ll) (xs:=us) (λi ys σ G=>(∃v,σ=[v])/\dF K5 G Rl.wr D20 ad20 c20 i ys) ⟨⟨_,U⟩,dF.start M20⟩ ?_ (bf (m:=1000) Yd) ?_ ?_ ?_
 ·rintro i ys σ G _ ⟨_,_,_,rfl,_⟩;rw[q9,Qd];exact qe _
 ·rintro i ys σ G ⟨_,_,_,_,_,_,M⟩;exact SqL.of (M.sa _ _ ll5)
 ·rintro i v ys σ G hi ⟨⟨v',rfl⟩,M⟩;exact⟨qt _,λz hz=>⟨⟨_,U⟩,M.step (λj k e=>Rl.wr.inj e) (λj h=>by rcases h with h|h|h|h|h|h|h<;>first|cases h|exact h) hz⟩⟩
 rintro ysR σR GR ⟨_,adR,cR,rfl,eR,fR,MR⟩ wrl hwrl;have M21:=MR.new .wrl hwrl (.lst ((List.range us.length).map λj=>V.ref (adR (.wr j))));have Db:D20 .b:=.inr (.inr (.inr (.inr (.inr (.inr trivial)))));have ebR:adR .b=b:=(eR .b Db).1
 have hb21:upd GR wrl (.lst ((List.range us.length).map λj=>V.ref (adR (.wr j)))) b=some (obO a dx 9 [.ref y,.ref dl,.ref pc,.int most,.ref lg,.ref hl,.ref tl,.ref gd,.ref tk]):=by
  have h:=M21.av .b (.inr (.inr Db));rw[show at' adR .wrl wrl .b=b from ebR,show at' cR .wrl (.lst ((List.range us.length).map λj=>V.ref (adR (.wr j)))) .b=obO a dx 9 [.ref y,.ref dl,.ref pc,.int most,.ref lg,.ref hl,.ref tl,.ref gd,.ref tk]from(eR .b Db).2]at h;exact h
 refine⟨_,U,b,a.gt,dx,_,U,hb21,T.f8,T.Aq,dg,?_⟩;rw[d9 (k:=9) (f:="without_room") (v:=.ref wrl) (vs:=[.ref y,.ref dl,.ref pc,.int most,.ref lg,.ref hl,.ref tl,.ref gd,.ref tk]) (ws:=[.ref y,.ref dl,.ref pc,.int most,.ref lg,.ref hl,.ref tl,.ref gd,.ref tk,.ref wrl]) U U Qy U];have M22:=M21.put .b (.inr (.inr Db)) (obO a dx 10 [.ref y,.ref dl,.ref pc,.int most,.ref lg,.ref hl,.ref tl,.ref gd,.ref tk,.ref wrl]);rw[show at' adR .wrl wrl .b=b from ebR]at M22
 let D22:Rl->Prop:=λs=>s=.wrl\/(∃j,j<us.length/\s=.wr j)\/D20 s
 let ad22:Rl->Addr:=at' adR .wrl wrl
 let c22:Rl->HO:=at' (at' cR .wrl (.lst ((List.range us.length).map λj=>V.ref (adR (.wr j))))) .b (obO a dx 10 [.ref y,.ref dl,.ref pc,.int most,.ref lg,.ref hl,.ref tl,.ref gd,.ref tk,.ref wrl])
 have M22:ba K5 _ D22 ad22 c22:=M22;refine⟨_,U,ll,U,⟨_,SqL.of (M22.sa _ _ ll5)⟩,?_⟩;refine dE (K:=K) (a:=ll) (xs:=us) (λi ys σ G=>(∃v,σ=[v])/\dF K5 G Rl.wt D22 ad22 c22 i ys) ⟨⟨_,U⟩,dF.start M22⟩ ?_ (bf (m:=1000) Yd) ?_ ?_ ?_
 ·rintro i ys σ G _ ⟨_,_,_,rfl,_⟩;rw[q9,Qd];exact qe _
 ·rintro i ys σ G ⟨_,_,_,_,_,_,M⟩;exact SqL.of (M.sa _ _ ll5)
 ·rintro i v ys σ G hi ⟨⟨v',rfl⟩,M⟩;exact⟨qt _,λz hz=>⟨⟨_,U⟩,M.step (λj k e=>Rl.wt.inj e) (λj h=>by rcases h with h|⟨_,_,h⟩|h|h|h|h|h|h|h<;>first|cases h|exact h) hz⟩⟩
 rintro ysT σT GT ⟨_,adT,cT,rfl,eT,fT,MT⟩ wtl hwtl;have M23:=MT.new .wtl hwtl (.lst ((List.range us.length).map λj=>V.ref (adT (.wt j))));have Db2:D22 .b:=.inr (.inr Db);have ebT:adT .b=b:=(eT .b Db2).1.trans ebR
 have hb23:upd GT wtl (.lst ((List.range us.length).map λj=>V.ref (adT (.wt j)))) b=some (obO a dx 10 [.ref y,.ref dl,.ref pc,.int most,.ref lg,.ref hl,.ref tl,.ref gd,.ref tk,.ref wrl]):=by
  have h:=M23.av .b (.inr (.inr Db2));rw[show at' adT .wtl wtl .b=b from ebT,show at' cT .wtl (.lst ((List.range us.length).map λj=>V.ref (adT (.wt j)))) .b=obO a dx 10 [.ref y,.ref dl,.ref pc,.int most,.ref lg,.ref hl,.ref tl,.ref gd,.ref tk,.ref wrl]from(eT .b Db2).2]at h;exact h
 refine⟨_,U,b,a.gt,dx,_,U,hb23,T.f8,T.Ar,dg,?_⟩;rw[d9 (k:=10) (f:="without_thing") (v:=.ref wtl) (vs:=[.ref y,.ref dl,.ref pc,.int most,.ref lg,.ref hl,.ref tl,.ref gd,.ref tk,.ref wrl]) (ws:=[.ref y,.ref dl,.ref pc,.int most,.ref lg,.ref hl,.ref tl,.ref gd,.ref tk,.ref wrl,.ref wtl]) U U Qy U];have M24:=M23.put .b (.inr (.inr Db2)) (obO a dx 11 [.ref y,.ref dl,.ref pc,.int most,.ref lg,.ref hl,.ref tl,.ref gd,.ref tk,.ref wrl,.ref wtl]);rw[show at' adT .wtl wtl .b=b from ebT]at M24
 let C:PlC:={ b:=b,dx:=dx,y:=y,dy:=dy,la:=la,lq:=lq,dl:=dl,pc:=pc,dq:=λi=>(qs.getD i (b,b,b)).2.1,qo:=λi=>(qs.getD i (b,b,b)).1,us:=ys,pv:=pv,n:=rs.length,nl:=xs.length,prt:=bd rs,ls:=λi=>(bv xs i).1,pace:=pace }
 have eA:∀r,D20 r->r≠.wrl->r≠.wtl->at' adT .wtl wtl r=ad20 r:=λr h n1 n2=>by
  rw[bq n2,(eT r (.inr (.inr h))).1];show at' adR .wrl wrl r=_;rw[bq n1,(eR r h).1]
 have s15:=s14.trans s5;refine k K5 _ C (at' adT .wtl wtl) hd ⟨?_,⟨?_,?_,?_,?_,.nil⟩,U,U,U,U,U,U,?_⟩
 ·refine⟨s15 _ _ ky,?_,?_,s5 _ _ hd4,λx hx=>?_,s15 _ _ (sk1 _ _ (kl _ _ hpc)),((ris.keep kl).same sk1).same s15,λx hx=>?_,n60,nl,pl,pb⟩
  ·rw[s15 _ _ kla,List.map_map];exact congrArg some (congrArg HO.lst (pd (d:=((none,[]):Ln)) U))
  ·rw[s15 _ _ klq];exact congrArg some (congrArg HO.lst (pd (d:=(b,b,b)) (by have:=ry.n;unfold cw at this;rw[q9]at this;exact this)))
  ·obtain⟨v,h1,h2⟩:=dr4 x (by have:x<rs.length:=hx;omega);exact⟨v,h1,h2.same s5⟩
  ·have hx:x<rs.length:=hx;refine okr _ ?_;show rs.getD x _∈rs;rw[qj,qc hx];exact List.getElem_mem hx
 ·have eps:ps.length=rs.length:=pl1;have Dq:∀i,i<xs.length->D20 (.qo i)/\D20 (.ql i):=λi hi=>⟨.inr (.inr (.inr (.inr (.inr (.inr hi))))),.inr (.inr (.inr (.inr (.inr (.inr hi)))))⟩;have D1:D20 .lg/\D20 .hl/\D20 .tl/\D20 .gd/\D20 .tk/\D20 (.gv 0):=⟨.inr (.inr (.inr (.inr (.inr (.inl U))))),.inr (.inr (.inr (.inr (.inl U)))),.inr (.inr (.inr (.inl U))),.inr (.inr (.inl U)),.inl U,.inr (.inl U)⟩
  have eC:∀r,D20 r->r≠.wrl->r≠.wtl->r≠.b->at' (at' cT .wtl (.lst ((List.range us.length).map λj=>V.ref (adT (.wt j))))) .b (obO a dx 11 [.ref y,.ref dl,.ref pc,.int most,.ref lg,.ref hl,.ref tl,.ref gd,.ref tk,.ref wrl,.ref wtl]) r=c20 r:=λr h n1 n2 n3=>by
   rw[bq n3,bq n2,(eT r (.inr (.inr h))).2];show at' (at' cR .wrl _) .b _ r=_;rw[bq n3,bq n1,(eR r h).2]
  have aw:∀i,i<xs.length->at' adT .wtl wtl (.wr i)=adR (.wr i):=λi hi=>(eT (.wr i) (.inr (.inl ⟨i,Yd,U⟩))).1;refine M24.less (λr hr=>?_) (λr hr=>?_)
  ·cases r with
   |b=>exact .inr (.inr Db2)
   |lg=>exact .inr (.inr (.inr (.inr D1.1)))
   |hl=>exact .inr (.inr (.inr (.inr D1.2.1)))
   |tl=>exact .inr (.inr (.inr (.inr D1.2.2.1)))
   |gd=>exact .inr (.inr (.inr (.inr D1.2.2.2.1)))
   |tk=>exact .inr (.inr (.inr (.inr D1.2.2.2.2.1)))
   |wrl=>exact .inr (.inr (.inl U))
   |wtl=>exact .inl U
   |qo i=>exact .inr (.inr (.inr (.inr (Dq i hr).1)))
   |ql i=>exact .inr (.inr (.inr (.inr (Dq i hr).2)))
   |wr i=>exact .inr (.inr (.inr (.inl ⟨i,by have:i<xs.length:=hr;omega,U⟩)))
   |wt i=>exact .inr (.inl ⟨i,by have:i<xs.length:=hr;omega,U⟩)
   |gv k=>
    have e:k=0:=qS.mp hr;rw[e];exact .inr (.inr (.inr (.inr D1.2.2.2.2.2)))
  ·cases r with
   |b=>
    rw[bO];show obO a dx 11 _=plO a C (at' adT .wtl wtl) most;unfold plO plV;rw[eA .lg D1.1 nofun nofun,eA .hl D1.2.1 nofun nofun,eA .tl D1.2.2.1 nofun nofun,eA .gd D1.2.2.2.1 nofun nofun,eA .tk D1.2.2.2.2.1 nofun nofun,bO,show at' adT .wtl wtl .wrl=wrl from(eT .wrl (.inl U)).1]
    rfl
   |lg=>rw[eC .lg D1.1 nofun nofun nofun];rfl
   |hl=>
    rw[eC .hl D1.2.1 nofun nofun nofun];show HO.lst ((List.range ps.length).map _)=HO.lst ((List.range rs.length).map _);rw[eps]
   |tl=>
    rw[eC .tl D1.2.2.1 nofun nofun nofun];show HO.lst ((List.range ps.length).map _)=HO.lst ((List.range rs.length).map _);rw[eps]
    rfl
   |gd=>
    rw[eC .gd D1.2.2.2.1 nofun nofun nofun];show HO.dK [(Sum.inl 0,V.ref gl)]=HO.dK [(Sum.inl 0,V.ref (at' adT .wtl wtl (.gv 0)))];rw[eA (.gv 0) D1.2.2.2.2.2 nofun nofun]
    rfl
   |tk=>
    rw[eC .tk D1.2.2.2.2.1 nofun nofun nofun];show HO.lst ((List.range ps.length).map _)=HO.lst (ay (List.range rs.length));rw[eps]
    rfl
   |wrl=>
    refine((eT .wrl (.inl U)).2).trans ?_;show HO.lst ((List.range us.length).map λj=>V.ref (adR (.wr j)))=HO.lst ((List.range xs.length).map λi=>V.ref (at' adT .wtl wtl (.wr i)));rw[ul];exact congrArg HO.lst (List.map_congr_left λi hi=>by rw[aw i (List.mem_range.mp hi)])
   |wtl=>
    show HO.lst ((List.range us.length).map λj=>V.ref (adT (.wt j)))=HO.lst ((List.range xs.length).map λi=>V.ref (at' adT .wtl wtl (.wt i)));rw[ul]
    rfl
   |qo i=>
    rw[eC (.qo i) (Dq i hr).1 nofun nofun nofun];show HO.ins _ _ [("laid",V.ref (qs.getD i (b,b,b)).2.2),_]=HO.ins _ _ [("laid",V.ref (at' adT .wtl wtl (.ql i))),_];rw[eA (.ql i) (Dq i hr).2 nofun nofun]
    rfl
   |ql i=>rw[eC (.ql i) (Dq i hr).2 nofun nofun nofun];rfl
   |wr i=>
    have hi:i<us.length:=by have:i<xs.length:=hr;omega
    exact((eT (.wr i) (.inr (.inl ⟨i,hi,U⟩))).2).trans (fR i hi)
   |wt i=>
    have hi:i<us.length:=by have:i<xs.length:=hr;omega
    exact fT i hi
   |gv k=>
    have e:k=0:=qS.mp hr;rw[e,eC (.gv 0) D1.2.2.2.2.2 nofun nofun nofun]
    rfl
 ·exact ebT
 ·exact λi hi=>eA (.qo i) (.inr (.inr (.inr (.inr (.inr (.inr hi)))))) nofun nofun
 ·exact λx hx=>⟨[],hh x (by have:x<rs.length:=hx;omega),.nil⟩
 ·exact λq o n h=>s15 _ _ (sk1 _ _ (k0 q o n h))
def sf(xs:List Ln)(rs:List PR)(pace:List (List Int))(most:Nat)(S:PlS):Bool->Prop
 |true=>br (λi=>(bv xs i).1) (bd rs) pace (ci xs rs.length most) .top S/\S.gv=[]
 |false=>∃k x r,br (λi=>(bv xs i).1) (bd rs) pace (ci xs rs.length most) (.tak k (x::r)) S/\cY S (aq S (bd rs x))=none/\S.sp=0
structure lJ(H H':Hp)(t:Addr)(xs:List Ln)(rs:List PR)(pace:List (List Int))(most:Nat)(S:PlS)(still:Bool)(lg st:Addr)(lgv us:List V):Prop where
 sa:a9 H H'
 tp:H' t=some (.tup [.bl still,.ref lg,.ref st])
 hl:H' lg=some (.lst lgv)
 es:REs H' lgv S.lg
 hs:H' st=some (.lst us)
 ri:RIs H' us ((List.range xs.length).map (aA S))
 nd:sf xs rs pace most S still
inductive mt(a:Adr)(vs:List V)(H:Hp)(Q:VK)(E:XK):Prop
 |mk (ll lp:Addr) (v:V) (us ps:List V) (xs:List Ln) (rs:List PR) (pace:List (List Int)) (most:Nat) (h0_:vs=[.ref ll,.ref lp,v,.int most]) (h1_:H ll=some (.lst us)) (h2_:RLn H us xs) (h3_:H lp=some (.lst ps)) (h4_:RRs H ps rs) (h5_:RPc H v pace) (h6_:rs.length<60) (h7_:xs.length<=1000) (h8_:(∀x∈xs,x.2.length<=50)) (h9_:(∀x∈xs,∀n∈x.2,OnW n)) (h10_:pace.length<=1000) (h11_:(∀r∈pace,r.length<=1000)) (h12_:(∀r∈rs,r.ok/\r.fit xs.length)) (h13_:most<=5000) (h14_:∀H' t S still lg st lgv us',lJ H H' t xs rs pace most S still lg st lgv us'->Q (.ref t) H'):mt a vs H Q E
theorem gM.of{C:PlC}{xs:List Ln}{rs:List PR}{pace:List (List Int)}{most:Nat}{S':PlS}{q:Bool->Prop}(h1:C.ls=λi=>(bv xs i).1)(h2:C.prt=bd rs)(h3:C.pace=pace)(h:∀b,sf xs rs pace most S' b->q b):gM C (ci xs rs.length most) S' q:=by
 unfold gM;rw[h1,h2,h3];exact⟨λa b=>h true ⟨a,b⟩,λk x r a b c=>h false ⟨k,x,r,a,b,c⟩⟩
theorem kN{C:PlC}{xs:List Ln}{rs:List PR}{most:Nat}(hn:C.n=rs.length)(fl:∀x∈xs,x.2.length<=50)(fo:∀x∈xs,∀n∈x.2,OnW n)(hm:most<=5000):Gd C (bB (ci xs rs.length most)+20) [] (ci xs rs.length most):=by
 have ln:∀i,(bv xs i).2.length<=50/\∀n∈(bv xs i).2,OnW n:=λi=>by
  unfold bv;rw[qj]
  cases h:xs[i]? with
  |none=>exact⟨qt _,λ_ z=>(nomatch z)⟩
  |some x=>exact⟨fl x (qz h),fo x (qz h)⟩
 have eb:bB (ci xs rs.length most)=130 * (3 * most+1):=U;refine⟨⟨λ_=>.tr,⟨⟨List.nodup_range,λx hx=>⟨by rw[hn];exact List.mem_range.mp hx,U⟩⟩,λ_=>.nil,λ_=>.nil,Qq _ _,λkv h=>?_,.nil⟩⟩,⟨λi=>⟨?_,qt _⟩,?_,?_,λi=>(ln i).2,λx _=>⟨λp hp=>(nomatch hp),qt _,List.nodup_nil⟩⟩⟩
 ·rw[qS.mp h];exact .nil
 ·rw[eb];show(bv xs i).2.length+_<=_;have:=(ln i).1;omega
 ·rw[eb];show 0+_<=_;omega
 ·rw[eb];show 1+_<=_;omega
theorem oO(T:Tx P w K mg a):aC P w K mg base CX0 7 a.BD a.Ab ["lines","parts","pace","most"] (mt a):=by
 refine T.Cg.ok ja (λvs H Q E h=>?_) (λcdv A outer s H vs Q E hr h=>?_)
 ·obtain⟨_,_,_,_,_,_,_,_,_,rfl,_⟩:=h
  rfl
 obtain⟨ll,lp,v,us,ps,xs,rs,pace,most,rfl,hll,rln,hlp,rrs,rpc,n60,nl,fl,fo,pl,pb,okr,hm,k⟩:=h
 refine⟨_,(ae (aK (i:=4) ja.nd U Oi (eP T.Fn (xf T) (hr.mono Qz) U T.Fm T.Eg .nil ar (a8 (pq 0) (a8 (pq 1) (a8 (dU (aO jV (pq 2) eN (aJ _)) (bR ac) (pq 2)) (a8 (pq 3) ac))))))
  (ae (aK (i:=5) ja.nd U Oi (eO (pq 4) T.f8 T.Fo (x9 T) (hr.mono Qz) T.Ei .nil ar))
  (ai (au (cr (a8 (pq 5) (a8 (az (pq 4) U) (a8 (eO (az (pq 4) U) T.wT T.EV (wN T) (hr.mono Qz) T.DR .nil ar) ac)))))))),?_⟩
 have pick:∀Q2:VK,(∀pc pv H2,a9 H H2->H2 pc=some (.lst pv)->RIs H2 pv pace->Q2 (.ref pc) H2)->tIf (eJ (tOp ke (gq 2) (tC V.non))) (i6 j5) (gq 2) (L2.start ["lines","parts","pace","most","playing","still"] [V.ref ll,V.ref lp,v,V.int most]) H Q2:=by
  intro Q2 h;rcases rpc with⟨rfl,rfl⟩|⟨pc,pv,rfl,hpc,ris⟩
  ·exact⟨_,U,U,_,U,bS U ⟨qt _,λz hz=>h z [] _ (a9.new hz _) af .nil⟩⟩
  ·exact⟨_,U,U,_,U,bj U ⟨_,U,h pc pv H (a9.refl _) hpc ris⟩⟩
 refine⟨_,U,_,U,pick _ λpc pv H2 s2 hpc ris=>⟨_,U,λb dx hb hdx nb=>?_⟩⟩
 have s3:a9 H2 (upd (upd H2 dx (.own b)) b (.ins a.gt dx [])):=λc o h=>by
  have n1:c≠b:=λz=>by rw[z,hb]at h;cases h
  have n2:c≠dx:=λz=>by rw[z,hdx]at h;cases h
  rw[ah n1,ah n2];exact h
 have s23:=s2.trans s3;refine⟨b,dx,ll,lp,pc,us,ps,pv,xs,rs,pace,most,U,af,s23 _ _ hll,rln.same s23,s23 _ _ hlp,rrs.same s23,s3 _ _ hpc,ris.same s3,n60,nl,fl,pl,pb,okr,λK1 H4 C ad hd R=>⟨U,?_⟩⟩;have sK:a9 H K1:=λc o h=>R.keep c o (by rw[R.b];intro z;have:=s2 _ _ h;rw[z,hb]at this;cases this) (s23 _ _ h);have eb:=R.b;subst eb;have M:=R.M;have hob:=M.ob;dsimp only[aI];refine⟨_,U,C.b,C.dx,_,U,hob,eS Qy,K1,C,ad,hd,[],_,U,R.B,M,kN R.n fl fo hm,λK5 H5 ad5 hd5 lgv5 S5 s5 M5=>?_⟩;refine gM.of R.ls R.prt R.pace λstill he=>?_;dsimp only[aI];have B5:=R.B.same s5
 have g5:∀i,(S5.st i).2<=(S5.st i).1.length/\(S5.st i).1.length<=10000000:=by
  have ini:=kN (C:=C) (most:=most) R.n fl fo hm;have rg:∀{ph:Ph},br C.ls C.prt C.pace (ci xs rs.length most) ph S5->GdP C ph S5:=λh=>h.gd R.B.ok R.B.n ini
  cases still with
  |true=>
   have:=(rg (ph:=.top) (by rw[R.ls,R.prt,R.pace];exact he.1)).cap;exact λi=>⟨(this.st i).2,by have:=(this.st i).1;omega⟩
  |false=>
   obtain⟨k',x,r,h1,_⟩:=he;have:=(rg (ph:=.tak k' (x::r)) (by rw[R.ls,R.prt,R.pace];exact h1)).cap;exact λi=>⟨(this.st i).2,by have:=(this.st i).1;omega⟩
 have ry5:=M5.ry B5 g5;have ob5:=M5.ob;refine⟨_,U,_,U,C.b,_,C.dx,_,_,U,ob5,T.f8,T.Ao,lz4 U,_,U,C.b,_,C.dx,_,_,U,ob5,T.f8,T.A5,lz0 U,C.y,C.dy,_,U,ry5.o,eV Qy,C.y,C.dy,C.la,C.lq,_,_,_,U,ry5,?_,λH6 l us6 s6 nl6 hl6 ri6 an6=>⟨?_,λt ht=>?_⟩⟩
 ·unfold qsP;rw[q9,Qd,R.nl];exact nl
 ·exact(by decide:3<=sizeLine)
 have s7:=a9.new ht (.tup [.bl still,.ref (ad5 .lg),.ref l]);have s57:a9 H5 _:=s6.trans s7;have lg5:=M5.own.av .lg trivial;refine k _ t S5 still (ad5 .lg) l lgv5 us6 ⟨sK.trans (s5.trans (M5.own.sa.trans s57)),af,s57 _ _ lg5,(M5.lg.same M5.own.sa).same s57,s7 _ _ hl6,?_,he⟩
 have e:dP (stP C S5)=(List.range xs.length).map (aA S5):=by
  unfold dP stP;rw[List.map_map,R.nl]
  rfl
 exact(e▸ri6).same s7
def bD(f:Nat->List Int):PR->List Int
 |.pass ins _ _=>ins
 |.work ins _ _ _ _=>ins
 |.choose ins _ _ _ _=>ins
 |.merge t o n _=>match f t.toNat with
  |[]=>[t]
  |x::_=>t::(if x=0 then n else o)
theorem iX{S:PlS}:∀r:PR,aq S r=bD (aA S) r
 |.pass ..=>rfl
 |.work ..=>rfl
 |.choose ..=>rfl
 |.merge ..=>rfl
structure WS where
 rows:Nat->List Int
 post:Nat->Option (List (Int×Int))
 due:Nat->Int
 tks:Nat->Nat
 l1:Int
 l2:Int
 l3:Int
def bT(f:Nat->List Int)(hs:List (Int×Int)):Nat->List Int:=hs.foldl (λf p=>put f p.1.toNat (f p.1.toNat++[p.2])) f
def cS(f:Nat->List Int)(hs:List (Int×Int)):Nat->List Int:=hs.foldl (λf p=>put f p.1.toNat (f p.1.toNat).tail) f
def bg(prt:Nat->PR)(pace:List (List Int))(W:WS)(e:Ent):WS:=
 if e.took then{ rows:=cS W.rows e.hs,post:=put W.post e.part (some ((prt e.part).made (e.hs.map (·.2)))),due:=put W.due e.part (e.now+1+bI pace e.part (W.tks e.part)),tks:=put W.tks e.part (W.tks e.part+1),l1:=e.now,l2:=1,l3:=e.part }
 else{ W with rows:=bT W.rows e.hs,post:=put W.post e.part none,l1:=e.now,l2:=0,l3:=e.part }
def y8(a b c a' b' c':Int):Prop:=a<a'\/(a=a'/\(b<b'\/(b=b'/\c<c')))
structure OkE(n nl:Nat)(ls:Nat->Option Int)(prt:Nat->PR)(W:WS)(e:Ent):Prop where
 now:0<=e.now
 part:e.part<n
 hs:Hs nl e.hs
 sz:∀i,(W.rows i).length<10000000
 lex:y8 W.l1 W.l2 W.l3 e.now (if e.took then 1 else 0) e.part
 tk:e.took=true->W.post e.part=none/\e.hs.map (·.1)=bD W.rows (prt e.part)/\(∀p∈e.hs,(W.rows p.1.toNat).head?=some p.2)/\e.hs.length=(prt e.part).wide
 gv:e.took=false->W.post e.part=some e.hs/\W.due e.part<=e.now/\∀p∈e.hs,cN (ls p.1.toNat) ((W.rows p.1.toNat).length:Int)=true
def bH(n nl:Nat)(ls:Nat->Option Int)(prt:Nat->PR)(pace:List (List Int)):WS->List Ent->Prop
 |_,[]=>True
 |W,e::es=>OkE n nl ls prt W e/\bH n nl ls prt pace (bg prt pace W e) es
theorem bH.snoc{n nl:Nat}{ls:Nat->Option Int}{prt:Nat->PR}{pace:List (List Int)}:∀{es:List Ent}{W:WS}{e:Ent},bH n nl ls prt pace W es->OkE n nl ls prt (es.foldl (bg prt pace) W) e->bH n nl ls prt pace W (es++[e])
 |[],_,_,_,h=>⟨h,trivial⟩
 |_::_,_,_,a,h=>⟨a.1,bH.snoc a.2 h⟩
theorem uT{S:PlS}(h:∀i,(S.st i).2<=(S.st i).1.length)(p:Int×Int):aA (ak S p)=put (aA S) p.1.toNat (aA S p.1.toNat++[p.2])/\∀i,((ak S p).st i).2<=((ak S p).st i).1.length:=by
 refine⟨funext λi=>?_,λi=>?_⟩
 ·show(put S.st p.1.toNat _ i).1.drop (put S.st p.1.toNat _ i).2=_;by_cases e:i=p.1.toNat
  ·rw[e,aE,aE];exact List.drop_append_of_le_length (h _)
  ·rw[ax e,ax e];rfl
 ·show(put S.st p.1.toNat _ i).2<=(put S.st p.1.toNat _ i).1.length;by_cases e:i=p.1.toNat
  ·rw[e,aE,qb];exact Nat.le_add_right_of_le (h _)
  ·rw[ax e];exact h i
theorem jS:∀(ps:List (Int×Int)){S:PlS},(∀i,(S.st i).2<=(S.st i).1.length)->aA (ps.foldl ak S)=bT (aA S) ps
 |[],_,_=>rfl
 |p::ps,S,h=>by
  obtain⟨h1,h2⟩:=uT h p;show aA (ps.foldl ak (ak S p))=bT (put (aA S) p.1.toNat (aA S p.1.toNat++[p.2])) ps;rw[jS ps h2,h1]
theorem jR:∀(ws xs:List Int)(f:Nat->List Int×Nat),ws.length=xs.length->(λi=>(bu f ws i).1.drop (bu f ws i).2)=cS (λi=>(f i).1.drop (f i).2) (ws.zip xs)
 |[],_,f,_=>rfl
 |_::_,[],_,h=>by simp at h
 |w::ws,x::xs,f,h=>by
  have e:(λi=>((put f w.toNat ((f w.toNat).1,(f w.toNat).2+1)) i).1.drop ((put f w.toNat ((f w.toNat).1,(f w.toNat).2+1)) i).2)=put (λi=>(f i).1.drop (f i).2) w.toNat ((f w.toNat).1.drop (f w.toNat).2).tail:=funext λi=>by
   show((put f w.toNat ((f w.toNat).1,(f w.toNat).2+1)) i).1.drop ((put f w.toNat ((f w.toNat).1,(f w.toNat).2+1)) i).2=_;by_cases e:i=w.toNat
   ·rw[e,aE,aE,List.tail_drop]
   ·rw[ax e,ax e]
  show(λi=>(bu (put f w.toNat ((f w.toNat).1,(f w.toNat).2+1)) ws i).1.drop (bu (put f w.toNat ((f w.toNat).1,(f w.toNat).2+1)) ws i).2)=cS (put (λi=>(f i).1.drop (f i).2) w.toNat ((f w.toNat).1.drop (f w.toNat).2).tail) (ws.zip xs);rw[jR ws xs _ (by simpa using h),e]
theorem pW:∀(ps:List (Int×Int))(S:PlS),(∀x∈(ps.foldl ak S).tr,x∈S.tr\/∃i,x∈S.wt i)/\∀i,∀x∈(ps.foldl ak S).wt i,x∈S.wt i
 |[],_=>⟨λ_ h=>.inl h,λ_ _ h=>h⟩
 |p::ps,S=>by
  obtain⟨h1,h2⟩:=pW ps (ak S p)
  have e2:∀i,∀x∈(ak S p).wt i,x∈S.wt i:=λi x h=>by
   have h:x∈put S.wt p.1.toNat [] i:=h;by_cases e:i=p.1.toNat
   ·rw[e,aE]at h;cases h
   ·rwa [ax e]at h
  refine⟨λx hx=>?_,λi x hx=>e2 i x (h2 i x hx)⟩;rcases h1 x hx with h|⟨i,h⟩
  ·rcases qh.mp h with h|h
   ·exact .inl h
   ·exact .inr ⟨_,h⟩
  ·exact .inr ⟨i,e2 i x h⟩
theorem lD{g:Gv}{now t:Int}{ps:List Nat}{A:Int->Nat->Prop}(h:∀kv∈g,now<kv.1/\∀x∈kv.2,A kv.1 x)(lt:now<t)(hp:∀x∈ps,A t x):∀kv∈bc g t ps,now<kv.1/\∀x∈kv.2,A kv.1 x:=λkv hk=>by
 rcases kG hk with⟨h',_⟩|⟨h1,h2,_⟩|⟨h1,qs,h2,h3⟩
 ·exact h kv h'
 ·rw[h1,h2];exact⟨lt,hp⟩
 ·rw[h1,h3];refine⟨lt,λx hx=>?_⟩;rcases qh.mp hx with hx|hx
  ·exact(h _ h2).2 x hx
  ·exact hp x hx
theorem kW{now:Int}{A:Int->Nat->Prop}{B:Nat->Prop}(hAB:∀x,B x->A (now+1) x):∀(ws:List Int)(S:PlS),(∀kv∈S.gv,now<kv.1/\∀x∈kv.2,A kv.1 x)->(∀i,∀x∈S.wr i,B x)->(∀kv∈(ws.foldl (be now) S).gv,now<kv.1/\∀x∈kv.2,A kv.1 x)/\∀i,∀x∈(ws.foldl (be now) S).wr i,B x
 |[],_,h1,h2=>⟨h1,h2⟩
 |w::ws,S,h1,h2=>by
  refine kW hAB ws (be now S w) (lD h1 Yd λx hx=>hAB x (h2 _ x hx)) λi x hx=>?_;have hx:x∈put S.wr w.toNat [] i:=hx;by_cases e:i=w.toNat
  ·rw[e,aE]at hx;cases hx
  ·rw[ax e]at hx;exact h2 i x hx
theorem nZ{pace:List (List Int)}(h:∀r∈pace,∀x∈r,0<=x)(x k:Nat):0<=bI pace x k:=by
 unfold bI;split
 ·exact Int.le_refl _
 ·show 0<=(if(pace.getD (x % pace.length) []).length=0 then 0 else(pace.getD (x % pace.length) []).getD (k % (pace.getD (x % pace.length) []).length) 0);split
  ·exact Int.le_refl _
  ·rename_i n1 n2;have l1:x % pace.length<pace.length:=Nat.mod_lt _ Yd;have e1:pace.getD (x % pace.length) []=pace[x % pace.length]:=by rw[qj,qc l1];rfl
   rw[e1]at n2 ⊢;have l2:k % (pace[x % pace.length]).length<(pace[x % pace.length]).length:=Nat.mod_lt _ Yd;rw[qj,qc l2];exact h _ (List.getElem_mem l1) _ (List.getElem_mem l2)
structure Sim(W:WS)(now:Int)(S:PlS):Prop where
 rows:W.rows=aA S
 tks:W.tks=S.tks
 tr:∀x∈S.tr,W.post x=none
 wt:∀i,∀x∈S.wt i,W.post x=none
 gv:∀kv∈S.gv,now<kv.1/\∀x∈kv.2,W.post x=some (S.held x)/\W.due x<=kv.1
 wr:∀i,∀x∈S.wr i,W.post x=some (S.held x)/\W.due x<=now
def bb(xs:List Ln):WS:={ rows:=λi=>(bv xs i).2,post:=λ_=>none,due:=λ_=>0,tks:=λ_=>0,l1:=0,l2:=0,l3:=-1 }
def eE(es:List Ent):Nat:=(es.filter λe=>e.took).length
def lN(W:WS)(S:PlS):Ph->Prop
 |.top=>∃now,Sim W now S/\-1<=now/\∀k∈aF S.gv,W.l1<k\/(W.l1=k/\W.l2=0/\W.l3=-1)
 |.giv k r=>Sim W k S/\0<=k/\fO r/\(∀x∈r,W.post x=some (S.held x)/\W.due x<=k)/\(W.l1<k\/(W.l1=k/\W.l2=0/\∀x∈r,W.l3<x))
 |.tak k r=>Sim W k S/\0<=k/\fO r/\(∀x∈r,W.post x=none)/\(W.l1<k\/(W.l1=k/\(W.l2=0\/(W.l2=1/\∀x∈r,W.l3<x))))
theorem Sim.as{W:WS}{now now':Int}{S S':PlS}(I:Sim W now S)(e1:S'.st=S.st)(e2:S'.tks=S.tks)(e3:S'.held=S.held)(tr:∀x∈S'.tr,W.post x=none)(wt:∀i,∀x∈S'.wt i,W.post x=none)(gv:∀kv∈S'.gv,now'<kv.1/\∀x∈kv.2,W.post x=some (S'.held x)/\W.due x<=kv.1)(wr:∀i,∀x∈S'.wr i,W.post x=some (S'.held x)/\W.due x<=now'):Sim W now' S':=
 ⟨I.rows.trans (by unfold aA;rw[e1]),I.tks.trans e2.symm,tr,wt,gv,wr⟩
theorem jT{n:Nat}{loc:Nat->Loc}{x:Nat}{r:List Nat}{S:PlS}(I:aM n loc (x::r) S)(rs:fO (x::r)):∀y∈r,x<y:=λy hy=>by
 have h1:=List.rel_of_pairwise_cons rs hy;have h2:x≠y:=λz=>I.not.2.2 (z▸hy);omega
theorem br.sim{C:PlC}(okC:∀x,x<C.n->(C.prt x).ok/\(C.prt x).fit C.nl)(n60:C.n<60)(nn:∀r∈C.pace,∀x∈r,0<=x){xs:List Ln}{most:Nat}(g0:Gd C (bB (ci xs C.n most)+20) [] (ci xs C.n most)){ph:Ph}{S:PlS}(h:br C.ls C.prt C.pace (ci xs C.n most) ph S):bH C.n C.nl C.ls C.prt C.pace (bb xs) S.lg/\lN (S.lg.foldl (bg C.prt C.pace) (bb xs)) S ph/\eE S.lg+S.sp=most:=by
 induction h with
 |base=>
  refine⟨trivial,⟨-1,⟨U,U,λ_ _=>U,λ_ _ h=>(nomatch h),λkv h=>?_,λ_ _ h=>(nomatch h)⟩,by omega,λk hk=>?_⟩,Nat.zero_add _⟩
  ·rw[qS.mp h];exact⟨by show(-1:Int)<0;decide,λ_ h=>(nomatch h)⟩
  ·rw[qS.mp hk];exact .inr ⟨U,U,U⟩
 |@turn S k r h hk p rs ih=>
  obtain⟨w,⟨now,I,m1,ll⟩,c⟩:=ih;have fk:=fI hk.1;have nk:=I.gv _ fk;refine⟨w,⟨I.as U U U I.tr I.wt (λkv hv=>?_) (λi x hx=>?_),by have:now<k:=nk.1;omega,rs,λx hx=>nk.2 x (p.mem_iff.mp hx),?_⟩,c⟩
  ·have hv:=List.mem_filter.mp hv;have ne:kv.1≠k:=Qc hv.2;have le:=hk.2 kv.1 (List.mem_map.mpr ⟨kv,hv.1,U⟩);exact⟨Yd,(I.gv kv hv.1).2⟩
  ·have:=I.wr i x hx;exact⟨this.1,by have:=this.2;have:now<k:=nk.1;omega⟩
  ·rcases ll k hk.1 with z|⟨z1,z2,z3⟩
   ·exact .inl z
   ·exact .inr ⟨z1,z2,λx _=>by show(S.lg.foldl (bg C.prt C.pace) (bb xs)).l3<x;rw[z3];omega⟩
 |@give S k x r h ih=>
  obtain⟨w,⟨I,k0,rs,rm,ll⟩,c⟩:=ih;obtain⟨⟨loc,L⟩,cp⟩:=h.gd okC n60 g0;have hx:=L.not.2.1;have lt:=jT L rs;have px:=rm x qm;unfold cu;split
  ·rename_i q hq;refine⟨w,⟨I.as U U U I.tr I.wt I.gv (λi y hy=>?_),k0,rs.of_cons,λy hy=>rm y (qk _ hy),ll.imp id λz=>⟨z.1,z.2.1,λy hy=>z.2.2 y (qk _ hy)⟩⟩,c⟩;have hy:y∈put S.wr q.1.toNat (S.wr q.1.toNat++[x]) i:=hy;by_cases e:i=q.1.toNat
   ·rw[e,aE]at hy;rcases qh.mp hy with hy|hy
    ·exact I.wr _ y hy
    ·rw[qS.mp hy];exact px
   ·rw[ax e]at hy;exact I.wr i y hy
  ·rename_i hq;have hq:=List.find?_eq_none.mp hq;obtain⟨e1,e2,e3,e4,e5,e6⟩:=eX (S.held x) S;obtain⟨m1,m2⟩:=pW (S.held x) S;have hh:=cp.hn x hx
   have el:(dC S k x).lg=S.lg++[⟨k,x,false,S.held x⟩]:=by
    show((S.held x).foldl ak S).lg++_=_;rw[e3]
   have le:∀i,(S.st i).2<=(S.st i).1.length:=λi=>(cp.st i).2
   have sz:∀i,((S.lg.foldl (bg C.prt C.pace) (bb xs)).rows i).length<10000000:=λi=>by
    rw[I.rows];unfold aA;rw[qY];have:=(cp.st i).1;omega
   have ok:OkE C.n C.nl C.ls C.prt (S.lg.foldl (bg C.prt C.pace) (bb xs)) ⟨k,x,false,S.held x⟩:=by
    refine⟨k0,hx,⟨hh.1,hh.2.1,hh.2.2⟩,sz,?_,nofun,λ_=>⟨px.1,px.2,λp hp=>?_⟩⟩
    ·rcases ll with z|⟨z1,z2,z3⟩
     ·exact .inl z
     ·exact .inr ⟨z1,.inr ⟨z2,z3 x qm⟩⟩
    ·have:=hq p hp;rw[I.rows];unfold roomF at this
     have e:((aA S p.1.toNat).length:Int)=((S.st p.1.toNat).1.length:Int)-(S.st p.1.toNat).2:=by
      unfold aA;rw[qY];have:=le p.1.toNat;omega
     rw[e];simpa using this
   rw[el,List.foldl_append];refine⟨w.snoc ok,?_,?_⟩
   ·generalize hW:S.lg.foldl (bg C.prt C.pace) (bb xs)=W at I rm ll;show lN { W with rows:=bT W.rows (S.held x),post:=put W.post x none,l1:=k,l2:=0,l3:=x } (dC S k x) (.giv k r);have oth:∀{l:Loc}{ys:List Nat},OnL C.n loc l ys->l≠.rem->∀y∈ys,put W.post x none y=W.post y:=λh1 h2 y hy=>ax λz=>L.notin h1 h2 (z▸hy);refine⟨⟨?_,?_,λy hy=>?_,λi y hy=>?_,λkv hv=>?_,λi y hy=>?_⟩,k0,rs.of_cons,λy hy=>?_,.inr ⟨U,U,λy hy=>by have:=lt y hy;show(x:Int)<y;omega⟩⟩
    ·show bT W.rows (S.held x)=aA ((S.held x).foldl ak S);rw[jS _ le,I.rows]
    ·show W.tks=((S.held x).foldl ak S).tks;rw[e5];exact I.tks
    ·show put W.post x none y=none;rcases qh.mp hy with hy|hy
     ·rcases m1 y hy with hy|⟨i,hy⟩
      ·rw[oth L.tr nofun y hy];exact I.tr y hy
      ·rw[oth (L.wt i) nofun y hy];exact I.wt i y hy
     ·rw[qS.mp hy];exact aE
    ·show put W.post x none y=none;rw[oth (L.wt i) nofun y (m2 i y hy)];exact I.wt i y (m2 i y hy)
    ·have hv:kv∈((S.held x).foldl ak S).gv:=hv;rw[e1]at hv;refine⟨(I.gv kv hv).1,λy hy=>?_⟩;show put W.post x none y=some (((S.held x).foldl ak S).held y)/\W.due y<=kv.1;rw[oth (L.gv kv hv) nofun y hy,e4];exact(I.gv kv hv).2 y hy
    ·have hy:y∈((S.held x).foldl ak S).wr i:=hy;rw[e6]at hy;show put W.post x none y=some (((S.held x).foldl ak S).held y)/\W.due y<=k;rw[oth (L.wr i) nofun y hy,e4];exact I.wr i y hy
    ·show put W.post x none y=some (((S.held x).foldl ak S).held y)/\W.due y<=k;rw[ax λz:y=x=>L.not.2.2 (z▸hy),e4];exact rm y (qk _ hy)
   ·show eE (S.lg++[⟨k,x,false,S.held x⟩])+((S.held x).foldl ak S).sp=most;unfold eE;rw[e2,Qr];simpa[eE]using c
 |@half S k r h p rs ih=>
  obtain⟨w,⟨I,k0,_,_,ll⟩,c⟩:=ih;refine⟨w,⟨I.as U U U (λ_ h=>(nomatch h)) I.wt I.gv I.wr,k0,rs,λx hx=>I.tr x (p.mem_iff.mp hx),ll.imp id λz=>⟨z.1,.inl z.2.1⟩⟩,c⟩
 |@wait S k i x r h hl ih=>
  obtain⟨w,⟨I,k0,rs,rm,ll⟩,c⟩:=ih;refine⟨w,⟨I.as U U U I.tr (λj y hy=>?_) I.gv I.wr,k0,rs.of_cons,λy hy=>rm y (qk _ hy),ll.imp id λz=>⟨z.1,z.2.imp id λz=>⟨z.1,λy hy=>z.2 y (qk _ hy)⟩⟩⟩,c⟩;have hy:y∈put S.wt i.toNat (S.wt i.toNat++[x]) j:=hy;by_cases e:j=i.toNat
  ·rw[e,aE]at hy;rcases qh.mp hy with hy|hy
   ·exact I.wt _ y hy
   ·rw[qS.mp hy];exact rm x qm
  ·rw[ax e]at hy;exact I.wt j y hy
 |@take S k x r h hl hs ih=>
  obtain⟨w,⟨I,k0,rs,rm,ll⟩,c⟩:=ih;obtain⟨⟨loc,L⟩,cp⟩:=h.gd okC n60 g0;have hx:=L.not.2.1;have lt:=jT L rs;have px:=rm x qm;have okx:=okC x hx;have ww:=iW okx.1 hl;obtain⟨e1,e2,e3,e4,e5,e6,e7⟩:=eY k (aq S (C.prt x)) (bK (C.prt x) C.pace S k x);have el:(aU (C.prt x) C.pace S k x).lg=S.lg++[⟨k,x,true,(aq S (C.prt x)).zip ((aq S (C.prt x)).map (aN S))⟩]:=e3;have z1:((aq S (C.prt x)).zip ((aq S (C.prt x)).map (aN S))).map (·.1)=aq S (C.prt x):=List.map_fst_zip (by rw[q9];exact qe _);have z2:((aq S (C.prt x)).zip ((aq S (C.prt x)).map (aN S))).map (·.2)=(aq S (C.prt x)).map (aN S):=List.map_snd_zip (by rw[q9];exact qe _)
  have sz:∀i,((S.lg.foldl (bg C.prt C.pace) (bb xs)).rows i).length<10000000:=λi=>by
   rw[I.rows];unfold aA;rw[qY];have:=(cp.st i).1;omega
  have ok:OkE C.n C.nl C.ls C.prt (S.lg.foldl (bg C.prt C.pace) (bb xs)) ⟨k,x,true,(aq S (C.prt x)).zip ((aq S (C.prt x)).map (aN S))⟩:=by
   refine⟨k0,hx,Hs.zip (iY okx.2) (lV okx.1) (m3 cp hl),sz,?_,λ_=>⟨px,?_,λp hp=>?_,?_⟩,nofun⟩
   ·rcases ll with z|⟨z1,z⟩
    ·exact .inl z
    ·refine .inr ⟨z1,?_⟩;rcases z with z|⟨z2,z3⟩
     ·exact .inl (by rw[z];show(0:Int)<1;decide)
     ·exact .inr ⟨z2,z3 x qm⟩
   ·rw[I.rows,<- iX];exact z1
   ·rw[I.rows]
    have hp':p.2=aN S p.1/\p.1∈aq S (C.prt x):=by
     obtain⟨i,hi,e⟩:=List.mem_iff_getElem.mp hp;rw[<- e,List.getElem_zip,List.getElem_map];exact⟨U,List.getElem_mem _⟩
    have:=List.find?_eq_none.mp hl p.1 hp'.2;rw[hp'.1];unfold aN
    cases hr:aA S p.1.toNat with
    |nil=>rw[hr]at this;exact Q4 U this
    |cons a as=>rfl
   ·show((aq S (C.prt x)).zip ((aq S (C.prt x)).map (aN S))).length=_;rw[List.length_zip,q9,Nat.min_self];exact ww
  rw[el,List.foldl_append];refine⟨w.snoc ok,?_,?_⟩
  ·generalize hW:S.lg.foldl (bg C.prt C.pace) (bb xs)=W at I rm ll;show lN { rows:=cS W.rows ((aq S (C.prt x)).zip ((aq S (C.prt x)).map (aN S))),post:=put W.post x (some ((C.prt x).made (((aq S (C.prt x)).zip ((aq S (C.prt x)).map (aN S))).map (·.2)))),due:=put W.due x (k+1+bI C.pace x (W.tks x)),tks:=put W.tks x (W.tks x+1),l1:=k,l2:=1,l3:=x } (aU (C.prt x) C.pace S k x) (.tak k r);rw[z2];have rn:=nZ nn x (S.tks x);have oth:∀{l:Loc}{ys:List Nat},OnL C.n loc l ys->l≠.rem->∀y∈ys,y≠x:=λh1 h2 y hy z=>L.notin h1 h2 (z▸hy);have eh:(aU (C.prt x) C.pace S k x).held=put S.held x ((C.prt x).made ((aq S (C.prt x)).map (aN S))):=e4
   have fk:=kW (now:=k) (A:=λj y=>put W.post x (some ((C.prt x).made ((aq S (C.prt x)).map (aN S)))) y=some ((aU (C.prt x) C.pace S k x).held y)/\put W.due x (k+1+bI C.pace x (W.tks x)) y<=j) (B:=λy=>put W.post x (some ((C.prt x).made ((aq S (C.prt x)).map (aN S)))) y=some ((aU (C.prt x) C.pace S k x).held y)/\put W.due x (k+1+bI C.pace x (W.tks x)) y<=k) (λy hy=>⟨hy.1,by have:=hy.2;omega⟩) (aq S (C.prt x)) (bK (C.prt x) C.pace S k x) (by
    refine lD (t:=k+1+bI C.pace x (S.tks x)) (ps:=[x]) (A:=λj y=>put W.post x (some ((C.prt x).made ((aq S (C.prt x)).map (aN S)))) y=some ((aU (C.prt x) C.pace S k x).held y)/\put W.due x (k+1+bI C.pace x (W.tks x)) y<=j) (λkv hv=>⟨(I.gv kv hv).1,λy hy=>?_⟩) Yd λy hy=>?_
    ·have ne:=oth (L.gv kv hv) nofun y hy
     rw[eh,ax ne,ax ne,ax ne];exact(I.gv kv hv).2 y hy
    ·rw[qS.mp hy,eh,aE,aE,aE]
     exact⟨U,by rw[I.tks];exact Int.le_refl _⟩) (λi y hy=>by
    have ne:=oth (L.wr i) nofun y hy
    rw[eh,ax ne,ax ne,ax ne]
    exact I.wr i y hy)
   refine⟨⟨?_,?_,λy hy=>?_,λi y hy=>?_,fk.1,fk.2⟩,k0,rs.of_cons,λy hy=>?_,.inr ⟨U,.inr ⟨U,λy hy=>by have:=lt y hy;show(x:Int)<y;omega⟩⟩⟩
   ·show cS W.rows _=λi=>((aU (C.prt x) C.pace S k x).st i).1.drop ((aU (C.prt x) C.pace S k x).st i).2;unfold aU;rw[e1];rw[show(bK (C.prt x) C.pace S k x).st=bu S.st (aq S (C.prt x))from rfl,jR _ ((aq S (C.prt x)).map (aN S)) _ (by rw[q9]),I.rows]
    rfl
   ·show put W.tks x (W.tks x+1)=(aU (C.prt x) C.pace S k x).tks;unfold aU;rw[e5,I.tks]
    rfl
   ·have hy:y∈(aU (C.prt x) C.pace S k x).tr:=hy;unfold aU at hy;rw[e6]at hy;show put W.post x _ y=none;rw[ax (oth L.tr nofun y hy)];exact I.tr y hy
   ·have hy:y∈(aU (C.prt x) C.pace S k x).wt i:=hy;unfold aU at hy;rw[e7]at hy;show put W.post x _ y=none;rw[ax (oth (L.wt i) nofun y hy)];exact I.wt i y hy
   ·show put W.post x _ y=none;rw[ax λz:y=x=>L.not.2.2 (z▸hy)];exact rm y (qk _ hy)
  ·show eE (S.lg++[_])+(aU (C.prt x) C.pace S k x).sp=most;unfold aU;rw[e2];show eE (S.lg++[_])+(S.sp-1)=most;unfold eE at c ⊢;rw[Qr,qb];show _+1+_=_;omega
 |@over S k h ih=>
  obtain⟨w,⟨I,k0,_,_,ll⟩,c⟩:=ih;refine⟨w,⟨k,I,Yd,λj hj=>.inl ?_⟩,c⟩;obtain⟨kv,hv,rfl⟩:=List.mem_map.mp hj;have:=(I.gv kv hv).1;rcases ll with z|z<;>omega
inductive Shp:Nat->PyData->Prop
 |non (n:Nat):Shp n .none
 |int (n:Nat) (i:Int):Shp n (.int i)
 |str (n:Nat) {s:Str}:PyData.strOk s=true->Shp n (.str s)
 |lst {n:Nat}{ds:List PyData}:(∀d∈ds,Shp n d)->Shp (n+1) (.list ds)
 |tup {n:Nat}{ds:List PyData}:(∀d∈ds,Shp n d)->Shp (n+1) (.tuple ds)
theorem kK:∀{ds:List PyData},(∀d∈ds,PyData.canLay0 d=true)->PyData.canLayAll0 ds=true
 |[],_=>by simp[PyData.canLayAll0]
 |d::ds,h=>by simp[PyData.canLayAll0,h d qm,kK λe he=>h e (qk _ he)]
theorem l6{n:Nat}:∀{ds:List PyData},(∀d∈ds,PyData.depth d<=n)->PyData.depthAll ds<=n
 |[],_=>by simp[PyData.depthAll]
 |d::ds,h=>by
  have h1:=h d qm;have h2:=l6 (ds:=ds) λe he=>h e (qk _ he);simp[PyData.depthAll];omega
theorem Shp.lay{n:Nat}{d:PyData}(h:Shp n d):PyData.canLay0 d=true/\PyData.depth d<=n+1:=by
 induction h with
 |non n=>exact⟨by simp[PyData.canLay0],by simp[PyData.depth]⟩
 |int n i=>exact⟨by simp[PyData.canLay0],by simp[PyData.depth]⟩
 |str n h=>exact⟨by simp[PyData.canLay0,h],by simp[PyData.depth]⟩
 |lst h ih=>
  have h1:=kK λd hd=>(ih d hd).1;have h2:=l6 λd hd=>(ih d hd).2;exact⟨by simp[PyData.canLay0,h1],by simp[PyData.depth];omega⟩
 |tup h ih=>
  have h1:=kK λd hd=>(ih d hd).1;have h2:=l6 λd hd=>(ih d hd).2;exact⟨by simp[PyData.canLay0,h1],by simp[PyData.depth];omega⟩
theorem Shp.shaped{n:Nat}{d:PyData}(h:Shp n d)(le:n<=9):SeqAt.shaped d=true:=by
 obtain⟨h1,h2⟩:=h.lay;unfold SeqAt.shaped;simp[h1];omega
theorem gI{n:Nat}{d:PyData}(h:Shp n d)(le:n<=9):PyData.eqv d d=true:=SeqAt.eqv_refl _ (SeqAt.canLay_of_shaped (h.shaped le))
theorem ee{K:W.Frag}{H:Hp}:∀xs:List Int,d0 K H (xs.map V.int) (xs.map PyData.int)
 |[]=>.nil
 |x::r=>.cons (.int x) (ee r)
theorem gU{n:Nat}(xs:List Int):∀d∈xs.map PyData.int,Shp n d:=λd hd=>by
 obtain⟨x,_,rfl⟩:=List.mem_map.mp hd;exact .int _ _
theorem RIs.dt{K:W.Frag}{H:Hp}:∀{vs:List V}{xss:List (List Int)},RIs H vs xss->d0 K H vs (xss.map λxs=>.list (xs.map PyData.int))
 |_,_,.nil=>.nil
 |_,_,.cons h r=>.cons (.lst (SqL.of h) (ee _)) (RIs.dt r)
theorem nK(xss:List (List Int)):Shp 2 (.list (xss.map λxs=>.list (xs.map PyData.int))):=.lst λd hd=>by
 obtain⟨xs,_,rfl⟩:=List.mem_map.mp hd;exact .lst (gU xs)
def PR.sgOk:PR->Prop
 |.work _ _ sg _ _=>PyData.strOk sg=true
 |_=>True
theorem ua(i:Int):PyData.strOk ⟨#[("+-*/<=&|^":Str).cps.toList.getD (i % 9).toNat 0]⟩=true:=by
 have h:(i % 9).toNat<9:=Yd;have all:∀k:Nat,k<9->PyData.strOk ⟨#[("+-*/<=&|^":Str).cps.toList.getD k 0]⟩=true:=Qy;exact all _ h
def dmW(nl n:Nat):Rl->Prop
 |.ql i=>i<nl
 |.wt x=>x<n
 |_=>False
def cnW(W:WS)(hv:Nat->V):Rl->HO
 |.ql i=>.lst ((W.rows i).map V.int)
 |.wt x=>.lst [hv x,.int (W.due x),.int (W.tks x)]
 |_=>.lst []
def zM(H:Hp)(v:V):Option (List (Int×Int))->Prop
 |none=>v=.non
 |some ps=>∃l us,v=.ref l/\H l=some (.lst us)/\RPs H us ps
structure WH(H0 H:Hp)(nl n:Nat)(lr lp:Addr)(ad:Rl->Addr)(hv:Nat->V)(W:WS):Prop where
 own:ba H0 H (dmW nl n) ad (cnW W hv)
 lr:H0 lr=some (.lst ((List.range nl).map λi=>V.ref (ad (.ql i))))
 lp:H0 lp=some (.lst ((List.range n).map λx=>V.ref (ad (.wt x))))
 hv:∀x,x<n->zM H0 (hv x) (W.post x)
section
variable {H0 H:Hp}{nl n:Nat}{lr lp:Addr}{ad:Rl->Addr}{hv:Nat->V}{W:WS}
end
inductive tY(vs:List V)(H:Hp)(Q:VK)(E:XK):Prop
 |mk (v:V) (l:Addr) (r:PR) (xs:List Int) (h0_:vs=[v,.ref l]) (h1_:RR H v r) (h2_:r.ok) (h3_:H l=some (.lst (xs.map V.int))) (h4_:xs.length=r.wide) (h5_:(∀x∈xs,OnW x)) (h6_:∀H' l' us,a9 H H'->H' l'=some (.lst us)->RPs H' us (r.made xs)->H l'=none->Q (.ref l') H'):tY vs H Q E
inductive tQ(vs:List V)(H:Hp)(Q:VK)(E:XK):Prop
 |mk (v:V) (r:PR) (lr:Addr) (f:Nat->List Int) (ra:Nat->Addr) (nl:Nat) (h0_:vs=[v,.ref lr]) (h1_:RR H v r) (h2_:r.ok) (h3_:r.fit nl) (h4_:H lr=some (.lst ((List.range nl).map λi=>V.ref (ra i)))) (h5_:(∀i,i<nl->H (ra i)=some (.lst ((f i).map V.int)))) (h6_:∀H' t,a9 H H'->H' t=some (.tup ((bD f r).map V.int))->Q (.ref t) H'):tQ vs H Q E
inductive tV(vs:List V)(H:Hp)(Q:VK)(E:XK):Prop
 |mk (v:V) (pace:List (List Int)) (x k:Nat) (h0_:vs=[v,.int x,.int k]) (h1_:RPc H v pace) (h2_:∀H',a9 H H'->Q (.int (bI pace x k)) H'):tV vs H Q E
inductive tW(vs:List V)(H:Hp)(Q:VK)(E:XK):Prop
 |mk (l:Addr) (us:List V) (ps:List (Int×Int)) (nl:Nat) (h0_:vs=[.ref l,.int nl]) (h1_:H l=some (.lst us)) (h2_:RPs H us ps) (h3_:(∀p∈ps,0<=p.1/\p.1<nl/\OnW p.2)) (h4_:Q (.bl true) H):tW vs H Q E
inductive u0(vs:List V)(H:Hp)(Q:VK)(E:XK):Prop
 |mk (e l ll lp:Addr) (us ls ps:List V) (Et:Ent) (h0_:vs=[.ref e,.ref ll,.ref lp]) (h1_:H e=some (.tup [.int Et.now,.int Et.part,.str (if Et.took then "took" else "gave"),.ref l])) (h2_:H l=some (.lst us)) (h3_:RPs H us Et.hs) (h4_:H ll=some (.lst ls)) (h5_:H lp=some (.lst ps)) (h6_:0<=Et.now) (h7_:Et.part<ps.length) (h8_:(∀p∈Et.hs,0<=p.1/\p.1<ls.length/\OnW p.2)) (h9_:∀H',a9 H H'->Q (.bl true) H'):u0 vs H Q E
def uU(xs:List Ln)(f:Nat->List Int)(ps:List (Int×Int)):Bool:=ps.all λp=>cN (bv xs p.1.toNat).1 ((f p.1.toNat).length:Int)
inductive tU(vs:List V)(H:Hp)(Q:VK)(E:XK):Prop
 |mk (ll lr l:Addr) (ls us:List V) (xs:List Ln) (f:Nat->List Int) (ra:Nat->Addr) (ps:List (Int×Int)) (h0_:vs=[.ref ll,.ref lr,.ref l]) (h1_:H ll=some (.lst ls)) (h2_:RLn H ls xs) (h3_:H lr=some (.lst ((List.range xs.length).map λi=>V.ref (ra i)))) (h4_:(∀i,i<xs.length->H (ra i)=some (.lst ((f i).map V.int)))) (h5_:H l=some (.lst us)) (h6_:RPs H us ps) (h7_:(∀p∈ps,0<=p.1/\p.1<xs.length)) (h8_:Q (.bl (uU xs f ps)) H):tU vs H Q E
structure WG(H0:Hp)(ll lq e:Addr)(v:V)(xs:List Ln)(rs:List PR)(pace:List (List Int))(Et:Ent):Prop where
 e:∃l us,H0 e=some (.tup [.int Et.now,.int Et.part,.str (if Et.took then "took" else "gave"),.ref l])/\H0 l=some (.lst us)/\RPs H0 us Et.hs
 l:∃ls,H0 ll=some (.lst ls)/\RLn H0 ls xs
 q:∃ps,H0 lq=some (.lst ps)/\RRs H0 ps rs
 p:RPc H0 v pace
 ok:∀r∈rs,r.ok/\r.fit xs.length
inductive tS(vs:List V)(H:Hp)(Q:VK)(E:XK):Prop
 |mk (H0:Hp) (ll lq e lr lp:Addr) (v:V) (xs:List Ln) (rs:List PR) (pace:List (List Int)) (Et:Ent) (ad:Rl->Addr) (hv:Nat->V) (W:WS) (h0_:vs=[.ref e,.ref ll,.ref lq,v,.ref lr,.ref lp]) (h1_:WG H0 ll lq e v xs rs pace Et) (h2_:WH H0 H xs.length rs.length lr lp ad hv W) (h3_:Et.took=true) (h4_:OkE rs.length xs.length (λi=>(bv xs i).1) (bd rs) W Et) (h5_:∀H0' H' hv',a9 H0 H0'->WH H0' H' xs.length rs.length lr lp ad hv' (bg (bd rs) pace W Et)->Q (.bl true) H'):tS vs H Q E
inductive tZ(vs:List V)(H:Hp)(Q:VK)(E:XK):Prop
 |mk (H0:Hp) (ll lq e lr lp:Addr) (v:V) (xs:List Ln) (rs:List PR) (pace:List (List Int)) (Et:Ent) (ad:Rl->Addr) (hv:Nat->V) (W:WS) (h0_:vs=[.ref e,.ref ll,.ref lr,.ref lp]) (h1_:WG H0 ll lq e v xs rs pace Et) (h2_:WH H0 H xs.length rs.length lr lp ad hv W) (h3_:Et.took=false) (h4_:OkE rs.length xs.length (λi=>(bv xs i).1) (bd rs) W Et) (h5_:∀H0' H' hv',a9 H0 H0'->WH H0' H' xs.length rs.length lr lp ad hv' (bg (bd rs) pace W Et)->Q (.bl true) H'):tZ vs H Q E
inductive tR(vs:List V)(H:Hp)(Q:VK)(E:XK):Prop
 |mk (ll lq lg:Addr) (v:V) (us ps lgv:List V) (xs:List Ln) (rs:List PR) (pace:List (List Int)) (es:List Ent) (h0_:vs=[.ref ll,.ref lq,v,.ref lg]) (h1_:H ll=some (.lst us)) (h2_:RLn H us xs) (h3_:H lq=some (.lst ps)) (h4_:RRs H ps rs) (h5_:RPc H v pace) (h6_:H lg=some (.lst lgv)) (h7_:REs H lgv es) (h8_:(∀r∈rs,r.ok/\r.fit xs.length)) (h9_:xs.length<=1000) (h10_:rs.length<60) (h11_:bH rs.length xs.length (λi=>(bv xs i).1) (bd rs) pace (bb xs) es) (h12_:∀H' lr us',a9 H H'->H' lr=some (.lst us')->RIs H' us' ((List.range xs.length).map (es.foldl (bg (bd rs) pace) (bb xs)).rows)->Q (.ref lr) H'):tR vs H Q E
inductive AlI(H:Hp):Nat->V->V->Prop
 |int (n:Nat) (i:Int):AlI H n (.int i) (.int i)
 |lst {n:Nat}{a b:Addr}{xs ys:List V}:H a=some (.lst xs)->H b=some (.lst ys)->xs.length=ys.length->xs.length<=10000000->(∀(i:Nat)(x y:V),xs[i]?=some x->ys[i]?=some y->AlI H n x y)->AlI H (n+1) (.ref a) (.ref b)
inductive u3(n:Nat)(vs:List V)(H:Hp)(Q:VK)(E:XK):Prop
 |mk (x y:V) (m:Nat) (h0_:vs=[x,y]) (h1_:m<n) (h2_:AlI H m x y) (h3_:Q (.bl true) H):u3 n vs H Q E
theorem io(T:Tx P w K mg a):aC P w K mg base CX0 1 a.BH a.BI ["_law_script","_law_k"] (mO K):=by
 refine T.Ac.ok uq (λvs H Q E h=>?_) (λcdv A outer s H vs Q E hr h=>?_)
 ·obtain⟨_,_,_,rfl,_⟩:=h
  rfl
 obtain⟨l,ns,k,rfl,hS,k0,q⟩:=h
 refine⟨_,(ae (aX (aO fy (pq 1) (bz c5 U T.wp Q7 (a8 (pq 0) ac)) (aJ _)) (ai (au (am aV (pq 0) (pq 1) Oy))) aW)
  (ai (au aa))),?_⟩
 refine⟨_,U,_,U,l,_,U,.inl hS,_,_,U,U,_,U,bh (λc=>?_) (λc=>?_)⟩
 ·have lt:k.toNat<ns.length:=by
   have:=Qc c;rw[q9]at this;omega
  exact⟨_,U,_,U,l,_,_,_,U,U,hS,ef k0 (by rw[qE,qc lt];rfl),q _⟩
 ·exact q _
theorem ub(i:Int):atI ("+-*/<=&|^":Str).cps.toList (i % 9)=some (("+-*/<=&|^":Str).cps.toList.getD (i % 9).toNat 0):=by
 have h1:0<=i % 9:=Q9 _ Qz;have h2:i % 9<9:=Qe _ Qz;have ln:("+-*/<=&|^":Str).cps.toList.length=9:=Qy;have lt:(i % 9).toNat<("+-*/<=&|^":Str).cps.toList.length:=Yd;have:=bP (xs:=("+-*/<=&|^":Str).cps.toList) (j:=(i % 9).toNat) (v:=("+-*/<=&|^":Str).cps.toList.getD (i % 9).toNat 0) (by rw[qj,qc lt];rfl)
 rwa [Int.toNat_of_nonneg h1]at this
theorem eQ(T:Tx P w K mg a):aC P w K mg base CX0 1 a.BJ a.BK ["_law_cell_here","_law_k"] mL:=by
 refine T.zX.ok nS (λvs H Q E h=>?_) (λcdv A outer s H vs Q E hr h=>?_)
 ·obtain⟨_,_,rfl,_⟩:=h
  rfl
 obtain⟨c,k,rfl,hk,q⟩:=h
 refine⟨_,(ae (aK (i:=2) nS.nd U Oi (ag aT (ag bE (ag bY (ag aT (pq 0) aa) aa) (ag bY (ag bE (ag bE (ag bY (pq 1) (pq 1)) (ag bY aa (pq 1))) aa) aa)) aa))
  (ai (au (ag aT (ag bY (pq 2) (pq 2)) aa)))),?_⟩
 have kb:Builtin.Int.intBits k<=64:=intBits_le_64 Yd Yd;walk_at "rd";refine⟨IntMulOk.of_right (intBits_le_64 Qz Qz),?_⟩;walk_at "rd";refine⟨IntMulOk.of_right kb,?_⟩;walk_at "rd";refine⟨IntMulOk.of_right kb,?_⟩;walk_at "rd";refine⟨IntMulOk.of_right (intBits_le_64 Qz Qz),?_⟩;walk_at "rd";have m0:=Q9 (c % 2147483647 * 48271+(k * k+3 * k+7) * 69621) (show(2147483647:Int)≠0 by decide);have m1:=Qe (c % 2147483647 * 48271+(k * k+3 * k+7) * 69621) (show(0:Int)<2147483647 by decide);generalize (c % 2147483647 * 48271+(k * k+3 * k+7) * 69621) % 2147483647=m at m0 m1 ⊢;refine⟨IntMulOk.of_right (intBits_le_64 Yd Yd),?_⟩;walk_at "rd";exact q _ (Q9 _ Qz) (Qe _ Qz)
theorem oU(T:Tx P w K mg a):aC P w K mg base CX0 1 a.BL a.BM ["_law_cell_here","_law_way"] mJ:=by
 refine T.Ch.ok nR (λvs H Q E h=>?_) (λcdv A outer s H vs Q E hr h=>?_)
 ·obtain⟨_,_,rfl,_⟩:=h
  rfl
 obtain⟨c,k,rfl,hk,q⟩:=h
 refine⟨_,(ae (aK (i:=2) nR.nd U Oi (ag aT (pq 0) (ag gA aa aa)))
  (ae (aX (aO bi (ag aT (pq 1) aa) aa (aJ _)) (ai (au (ag aT (pq 2) aa))) aW)
  (ae (aX (aO bi (ag aT (pq 1) aa) aa (aJ _)) (ai (au (ag gp (ag gp (ag gA aa aa) aa) (ag aT (pq 2) aa)))) aW)
  (ae (aX (aO bi (ag aT (pq 1) aa) aa (aJ _)) (ai (au (ag aT (pq 2) (ag gA aa aa)))) aW)
  (ai (au (ag aT (ag bY (ag bY (ag bE (pq 2) aa) (ag bE (ag bY (pq 1) (pq 1)) aa)) aa) (ag gA aa aa)))))))),?_⟩
 walk_at "rd";have m0:=Q9 c (show(10:Int) ^ (60:Int).toNat≠0 by rw[p60];decide);have m1:=Qe c (show(0:Int)<(10:Int) ^ (60:Int).toNat by rw[p60];decide);generalize c % (10:Int) ^ (60:Int).toNat=m at m0 m1 ⊢;rw[p60]at m1;refine bh (λ_=>?_) (λ_=>?_)
 ·walk_at "rd";exact q _ ⟨Yd,Yd⟩
 walk_at "rd";refine bh (λ_=>?_) (λ_=>?_)
 ·walk_at "rd";rw[p30];exact q _ ⟨Yd,Yd⟩
 walk_at "rd";refine bh (λ_=>?_) (λ_=>?_)
 ·walk_at "rd";rw[p30];exact q _ ⟨Yd,Yd⟩
 walk_at "rd";refine⟨IntMulOk.of_right (intBits_le_64 Yd Yd),?_⟩;have k2:0<=k * k:=Int.mul_nonneg hk.1 hk.1;have k3:k * k<=2147483647 * 2147483647:=Int.mul_le_mul hk.2 hk.2 hk.1 Qz;generalize k * k=y at k2 k3;walk_at "rd";have b1:Builtin.Int.intBits (m+1)<=2 ^ 20:=qy ((PySem.intBits_le_iff (m:=250)).mpr Yd) Qz;have b2:Builtin.Int.intBits (y+11)<=2 ^ 20:=qy ((PySem.intBits_le_iff (m:=250)).mpr Yd) Qz;refine⟨IntMulOk.of_bits b1 b2,?_⟩;have y2:0<=(m+1) * (y+11):=Int.mul_nonneg Yd Yd;have y3:(m+1) * (y+11)<=1000000000000000000000000000000000000000000000000000000000000 * 5000000000000000000:=Int.mul_le_mul Yd Yd Yd Qz;generalize (m+1) * (y+11)=z at y2 y3 ⊢;walk_at "rd";refine⟨IntMulOk.of_bits (qy ((PySem.intBits_le_iff (m:=400)).mpr Yd) Qz) Qy,?_⟩;walk_at "rd";rw[p30];exact q _ ⟨Q9 _ Qz,Qe _ Qz⟩
theorem y9(m:Int):∃L:Option Int,atI [V.int 1,.int 1,.int 2,.int 3,.non] (m % 5)=some (cX L)/\∀n,L=some n->1<=n:=by
 have h0:0<=m % 5:=Q9 _ Qz;have h1:m % 5<5:=Qe _ Qz;generalize m % 5=i at h0 h1;obtain rfl|rfl|rfl|rfl|rfl:i=0\/i=1\/i=2\/i=3\/i=4:=Yd
 ·exact⟨some 1,U,λn e=>by cases e;decide⟩
 ·exact⟨some 1,U,λn e=>by cases e;decide⟩
 ·exact⟨some 2,U,λn e=>by cases e;decide⟩
 ·exact⟨some 3,U,λn e=>by cases e;decide⟩
 ·exact⟨none,U,λn e=>by cases e⟩
theorem wH(T:Tx P w K mg a):aC P w K mg base CX0 2 a.BN a.BO ["_law_cell_here","_law_way"] mC:=by
 refine T.CK.ok uk (λvs H Q E h=>?_) (λcdv A outer s H vs Q E hr h=>?_)
 ·obtain⟨_,_,rfl,_⟩:=h
  rfl
 obtain⟨c,k,rfl,hk,q⟩:=h
 refine⟨_,(ae (aX (aO bi (ag aT (pq 1) aa) aa (aJ _)) (ai (au (aR (oU T) (hr.mono Qz) U T.CJ T.Ch.kp T.CI .nil ar (a8 (pq 0) (a8 (ag bL (pq 1) aa) ac))))) aW)
  (ai (au (ag aT (ag bL (pq 1) aa) aa)))),?_⟩
 refine⟨_,U,_,_,U,U,Qz,U,_,U,?_⟩;refine bh (λ_=>?_) (λ_=>?_)
 ·exact⟨_,U,_,U,_,_,U,U,⟨Qz,Qz⟩,_,_,U,⟨Yd,Yd⟩,q⟩
 ·exact⟨_,U,_,_,U,U,⟨Qz,Qz⟩,_,_,U,U,Qz,q _ ⟨Yd,Yd⟩⟩
theorem wL(T:Tx P w K mg a):aC P w K mg base CX0 3 a.BP a.BQ ["_law_cell_here","_law_k"] mN:=by
 refine T.CL.ok gf (λvs H Q E h=>?_) (λcdv A outer s H vs Q E hr h=>?_)
 ·obtain⟨_,_,rfl,_⟩:=h
  rfl
 obtain⟨c,k,rfl,hk,q⟩:=h
 refine⟨_,(ae (aK (i:=2) gf.nd U (Or.inr U) (aR (eQ T) (hr.mono Qz) U T.A2 T.zX.kp T.A1 .nil ar (a8 (pq 0) (a8 (ag bE (pq 1) aa) ac))))
  (ae (aK (i:=3) gf.nd U Oi (am aV (bR (oI U)) (ag aT (pq 2) aa) Oy))
  (ae (aK (i:=4) gf.nd U Oi (ag aT (ag bL (pq 2) aa) aa))
  (ae (aX (aO vn (pq 3) eN (aJ _)) (ai (aK (i:=4) gf.nd U Oi (bz (rS U) U T.Co PyProof.Rows.Boot.«min» (a8 (pq 4) (a8 (pq 3) ac))))) aW)
  (ai (au (cr (a8 (pq 3) (a8 (fD ly U T.Cp PyProof.Rows.Boot.«tuple» (a8 (cs (k:=1) (Nc:=["_law_j","_law_cell_here","_law_m"]) (js:=[0,2]) (show aL (aj hU) ["_law_cell_here","_law_k","_law_m","_law_length","_law_many"] _ 1 ["_law_j","_law_cell_here","_law_m"] [0,2]from aL.mk U (by decide +kernel) (by decide +kernel) (by decide +kernel) U (by decide +kernel)) U (db U T.zT (a8 (pq 4) ac)) (λ_ _ _ _ _=>(aP (i:=0) (show List.Nodup (["_law_j","_law_cell_here","_law_m"]:List Str)from by decide +kernel) U Oi)) (λ_ _ _ _ _=>bX) (λ_ _ _ _ _=>(aR (wH T) (hr.mono Qz) U T.Ev T.CK.kp T.Eu .nil ar (a8 (pq 1) (a8 (ag bL (pq 2) (ag bE aa (ag bY aa (pq 0)))) ac))))) ac)) ac))))))))),?_⟩
 refine⟨_,U,_,U,_,_,U,U,_,_,U,⟨Yd,Yd⟩,λm m0 m1=>?_⟩;obtain⟨L,eL,hL⟩:=y9 m;refine⟨ln5,λl hl=>⟨_,U,_,_,U,U,Qz,l,_,_,_,U,U,SqL.of af,eL,?_⟩⟩;have s1:=a9.new hl (.lst [V.int 1,.int 1,.int 2,.int 3,.non]);refine⟨_,U,_,_,U,U,⟨Qz,Qz⟩,_,_,U,U,Qz,?_⟩;have a0:0<=m / 5 % 4/\m / 5 % 4<=4:=Yd;generalize m / 5 % 4=mn at a0 ⊢;refine⟨_,U,U,_,U,?_⟩;generalize upd H l (.lst [V.int 1,.int 1,.int 2,.int 3,.non])=H1 at s1 ⊢;refine yt (w:=mn) (P:=λmn=>0<=mn/\mn<=4) a0 (λmn hm=>?_) (λcc go=>?_)
 ·refine⟨_,U,_,U,_,U,Yd,Yd,?_⟩;refine fK (λi ys σ H3=>(∃v,σ=[v,some (.int c),some (.int m)])/\H3=H1/\∃xs:List Int,ys=xs.map V.int/\xs.length=i/\∀n∈xs,OnW n) ⟨⟨none,U⟩,U,[],U,U,λ_ h=>(nomatch h)⟩ ?_ (bf (m:=100) Yd) ?_ ?_
  ·rintro i ys σ H3 _ ⟨_,_,xs,rfl,h,_⟩;rw[q9,h];exact qe _
  ·rintro i ys σ H3 hi ⟨⟨v,rfl⟩,rfl,xs,rfl,hl,ho⟩;have dv:(20:Int)+7 * (i:Int)≠0:=Yd;have q0:=Int.ediv_nonneg (a:=m) (b:=20+7 * (i:Int)) m0 Yd;have q1:=Int.ediv_le_self (a:=m) (20+7 * (i:Int)) m0;refine⟨_,U,_,U,_,U,_,_,U,U,IntMulOk.of_bits (d6 ⟨Qz,Qz⟩) (d6 ⟨Yd,Yd⟩),_,_,U,U,_,_,U,U,⟨Yd,Yd⟩,_,_,U,⟨q0,Yd⟩,λx hx=>⟨⟨_,U⟩,U,xs++[x],by rw[qO];rfl,by rw[qb,hl];rfl,λn hn=>?_⟩⟩;rcases qh.mp hn with hn|hn
   ·exact ho n hn
   ·rw[qS.mp hn];exact hx
  rintro ys σ3 H3 ⟨_,rfl,xs,rfl,hl,ho⟩ lc hlc;refine⟨lc,_,U,.inl ⟨SqL.of af,λt ht=>⟨ln2,λp hp=>?_⟩⟩⟩;have s2:=(a9.new hlc (.lst (xs.map V.int))).trans (a9.new ht (.tup (xs.map V.int)));exact q _ p t (L,xs) (s1.trans (s2.trans (a9.new hp _))) af (a9.new hp _ _ _ af) (by show xs.length<=4;omega) ho
 ·cases L with
  |none=>exact Q4 cc Qz
  |some n=>
   have:=hL n U;refine⟨_,U,_,U,_,_,U,go _ ?_⟩;split<;>omega
theorem oS(T:Tx P w K mg a):aC P w K mg base CX0 2 a.BU a.BV ["_law_way","_law_width","_law_cell_here"] mE:=by
 refine T.Ci.ok um (λvs H Q E h=>?_) (λcdv A outer s H vs Q E hr h=>?_)
 ·obtain⟨_,_,_,rfl,_⟩:=h
  rfl
 obtain⟨i,j,c,rfl,hi,hj,k⟩:=h
 refine⟨_,(ae (aX (aO bi (ag aT (pq 0) aa) aa (aJ _)) (ai (au (cr (a8 bF (a8 (aR (oU T) (hr.mono Qz) U T.CJ T.Ch.kp T.CI .nil ar (a8 (pq 2) (a8 (ag bL (pq 0) aa) ac))) ac))))) aW)
  (ai (au (cr (a8 bF (a8 (ag aT (ag bL (pq 0) aa) (pq 1)) ac)))))),?_⟩
 refine⟨_,U,_,_,U,U,Qz,U,_,U,?_⟩;refine bh (λ_=>?_) (λ_=>?_)
 ·refine⟨_,U,_,U,_,_,U,U,⟨Qz,Qz⟩,_,_,U,⟨Yd,Yd⟩,λm hm=>⟨ln2,λp hp=>k _ _ (.num m) (a9.new hp _) (.num af) hm⟩⟩
 ·exact⟨_,U,_,_,U,U,⟨Qz,Qz⟩,_,U,_,_,U,U,hj,ln2,λp hp=>k _ _ (.thing (i / 3 % j)) (a9.new hp _) (.thing af) ⟨Q9 _ Yd,by have:=Qe (i / 3) hj;omega⟩⟩
theorem iP(xs:List Int){n:Int}(h0:0<=n)(h1:n<=xs.length):c7 (xs.map V.int) none (some n)=(xs.take n.toNat).map V.int:=by
 unfold c7;have e1:HT.sIx (xs.map V.int).length 0 none=0:=U
 have e2:HT.sIx (xs.map V.int).length (xs.map V.int).length (some n)=n.toNat:=by
  have:=HT.sIx_nat (xs.map V.int).length (xs.map V.int).length n.toNat;rw[Int.toNat_of_nonneg h0]at this;rw[this,q9];omega
 rw[e1,e2,List.drop_zero,Nat.sub_zero,List.map_take]
theorem j9{A' B':TS}{D:dG}{σ:St}{H:Hp}(Pv:St->Hp->Prop)(hb:∀σ' H',Pv σ' H'->B' D σ' H')(ha:∀N:St->Hp->Prop,(∀σ' H',Pv σ' H'->N σ' H')->A' { D with nx:=N } σ H):gQ A' B' D σ H:=ha _ hb
structure bn(m:Nat)(xs:List Int):Prop where
 nd:xs.Nodup
 lt:∀x∈xs,0<=x/\x<m
theorem bn.len{m:Nat}{xs:List Int}(h:bn m xs):xs.length<=m:=by
 have nd:(xs.map Int.toNat).Nodup:=by
  refine List.nodup_iff_pairwise_ne.mpr (List.pairwise_map.mpr ((List.nodup_iff_pairwise_ne.mp h.nd).imp_of_mem λ{x y} hx hy n e=>n ?_));have:=h.lt x hx;have:=h.lt y hy;omega
 have:=nd.length_le_of_subset (l₂:=List.range m) λk hk=>by
  obtain⟨x,hx,rfl⟩:=List.mem_map.mp hk;have:=h.lt x hx;exact List.mem_range.mpr Yd
 rwa [q9,Qd]at this
theorem bn.fit{m:Nat}{xs:List Int}(h:bn m xs):Fit m xs:=by
 refine⟨λx hx=>(h.lt x hx).1,λx hx=>(h.lt x hx).2,?_⟩;refine List.nodup_iff_pairwise_ne.mpr (List.pairwise_map.mpr ((List.nodup_iff_pairwise_ne.mp h.nd).imp_of_mem λ{x y} hx hy n e=>n ?_));have:=h.lt x hx;have:=h.lt y hy;omega
theorem bn.more{m:Nat}{xs:List Int}(h:bn m xs):bn (m+1) (xs++[(m:Int)]):=by
 refine⟨List.nodup_append.mpr ⟨h.nd,Qq _ _,λx hx y hy e=>?_⟩,λx hx=>?_⟩
 ·have:=(h.lt x hx).2;rw[e,qS.mp hy]at this;omega
 ·rcases qh.mp hx with hx|hx
  ·have:=h.lt x hx;omega
  ·rw[qS.mp hx];omega
theorem bn.sub{m:Nat}{xs ys:List Int}(h:bn m ys)(s:xs.Sublist ys):bn m xs:=⟨h.nd.sublist s,λx hx=>h.lt x (s.subset hx)⟩
theorem rG{f:Int->V}:∀(xs:List Int)(k:Nat),(xs.map f).eraseIdx k=(xs.eraseIdx k).map f
 |[],_=>rfl
 |_::_,0=>rfl
 |x::xs,k+1=>congrArg (f x::·) (rG xs k)
theorem rF:∀{xs:List Int}{k:Nat}{x:Int},xs[k]?=some x->(x::xs.eraseIdx k).Perm xs
 |[],k,x,h=>by simp at h
 |y::xs,0,x,h=>by cases h;exact List.Perm.refl _
 |y::xs,k+1,x,h=>(List.Perm.swap y x _).trans ((rF (xs:=xs) (k:=k) (by simpa using h)).cons y)
theorem bn.pick{m:Nat}{xs out:List Int}{k:Nat}{x:Int}(h:bn m (out++xs))(hk:xs[k]?=some x):bn m ((out++[x])++xs.eraseIdx k):=by
 have lt:=(qf.mp hk).1
 have p:((out++[x])++xs.eraseIdx k).Perm (out++xs):=by
  rw[qN];refine List.Perm.append_left _ ?_;exact rF hk
 exact⟨p.nodup_iff.mpr h.nd,λy hy=>h.lt y (p.mem_iff.mp hy)⟩
inductive mG(K:W.Frag)(vs:List V)(H:Hp)(Q:VK)(E:XK):Prop
 |mk (lt lg lm:Addr) (ts gs Ut Ug:List Int) (m:Nat) (many way:Int) (h0_:vs=[.ref lt,.ref lg,.ref lm,.int many,.int way]) (h1_:H lt=some (.lst (ts.map V.int))) (h2_:H lg=some (.lst (gs.map V.int))) (h3_:H lm=some (.lst [.int m])) (h4_:(lt≠lg/\lt≠lm/\lg≠lm)) (h5_:bn m (Ut++ts)) (h6_:bn m (Ug++gs)) (h7_:m<=800) (h8_:(0<=many/\many<=5)) (h9_:(0<=way/\way<2147483647)) (h10_:∀H' p out ts' gs' m',(∀c o,c≠lt->c≠lg->c≠lm->H c=some o->H' c=some o)->H' lt=some (.lst (ts'.map V.int))->H' lg=some (.lst (gs'.map V.int))->H' lm=some (.lst [.int (m':Nat)])->H' p=some (.tup (out.map V.int))->H p=none->(out.length:Int)=many->bn m' ((Ut++out)++ts')->bn m' (Ug++gs')->m<=m'->m'<=m+5->Q (.ref p) H'):mG K vs H Q E
theorem dW(T:Tx P w K mg a):aC P w K mg base CX0 1 a.BR a.BS ["_law_pool","_law_other","_law_lines","_law_many","_law_way"] (mG K):=by
 refine T.zV.ok jb (λvs H Q E h=>?_) (λcdv A outer s H vs Q E hr h=>?_)
 ·obtain⟨_,_,_,_,_,_,_,_,_,_,rfl,_⟩:=h
  rfl
 obtain⟨lt,lg,lm,ts,gs,Ut,Ug,m,many,way,rfl,ht,hg,hm,⟨n1,n2,n3⟩,pt,pg,m8,hmany,hway,k⟩:=h
 refine⟨_,(ae (aK (i:=5) jb.nd U Oi (bR ac))
  (ae (cE PassesOwn.never U (db U T.zT (a8 (pq 3) ac)) (aP (i:=6) jb.nd U Oi)
  (ae (aX (aO bi (bz c5 U T.wp Q7 (a8 (pq 0) ac)) aa (aJ _)) (ae (bM (cF qg qv qw d8 (pq 0) (a8 (am aV (pq 2) aa Oy) ac)))
  (ae (bM (cF qg qv qw d8 (pq 1) (a8 (am aV (pq 2) aa Oy) ac)))
  (ai (eK (ag bE (am aV (pq 2) aa Oy) aa) (fB (pq 2) aa fg))))) aW)
  (ai (bM (cF qg qv qw d8 (pq 5) (a8 (cF qg PySem.F.slot_list_pop PySem.F.type_list_pop xK (pq 0) (a8 (ag aT (ag bE (pq 4) (ag bY aa (pq 6))) (bz c5 U T.wp Q7 (a8 (pq 0) ac))) ac)) ac))))))
  (ai (au (fD ly U T.Cp PyProof.Rows.Boot.«tuple» (a8 (pq 5) ac)))))),?_⟩
 refine⟨qt _,λlo hlo=>?_⟩;have n4:lt≠lo:=λz=>by rw[z,hlo]at ht;cases ht
 have n5:lg≠lo:=λz=>by rw[z,hlo]at hg;cases hg
 have n6:lm≠lo:=λz=>by rw[z,hlo]at hm;cases hm
 dsimp only[aI];refine⟨_,U,_,U,Yd,Yd,?_⟩;refine iM (λi σ G=>(∃v,σ=[some (.ref lt),some (.ref lg),some (.ref lm),some (.int many),some (.int way),some (.ref lo),v])/\∃(ts' gs' out:List Int)(m':Nat),G lt=some (.lst (ts'.map V.int))/\G lg=some (.lst (gs'.map V.int))/\G lm=some (.lst [.int m'])/\G lo=some (.lst (out.map V.int))/\(∀c o,c≠lt->c≠lg->c≠lm->H c=some o->G c=some o)/\out.length=i/\bn m' ((Ut++out)++ts')/\bn m' (Ug++gs')/\m<=m'/\m'<=m+i) ⟨⟨_,U⟩,ts,gs,[],m,by rw[ah n4];exact ht,by rw[ah n5];exact hg,by rw[ah n6];exact hm,af,λc o _ _ _ h=>a9.new hlo _ _ _ h,U,(by rw[qx];exact pt),pg,qe _,qe _⟩ ?_ ?_
 ·rintro i σ G hi ⟨⟨v,rfl⟩,ts',gs',out,m',g1,g2,g3,g4,fr,ol,po,pg',mm,mi⟩;have i5:i<5:=Yd;have tl:=po.len;have gl:=pg'.len;rw[qb]at tl gl;dsimp only[aI];refine j9 (λσ G=>(∃v,σ=[some (.ref lt),some (.ref lg),some (.ref lm),some (.int many),some (.int way),some (.ref lo),v]/\v=some (.int ((0:Int)+i)))/\∃(ts' gs':List Int)(m':Nat),G lt=some (.lst (ts'.map V.int))/\G lg=some (.lst (gs'.map V.int))/\G lm=some (.lst [.int m'])/\G lo=some (.lst (out.map V.int))/\(∀c o,c≠lt->c≠lg->c≠lm->H c=some o->G c=some o)/\ts'≠[]/\bn m' ((Ut++out)++ts')/\bn m' (Ug++gs')/\m<=m'/\m'<=m+(i+1)) ?_ (λN hN=>?_)
  rotate_left
  ·refine⟨_,U,lt,_,U,.inl (SqL.of g1),U,_,U,bh (λc=>?_) (λc=>?_)⟩
   ·have e0:ts'=[]:=by
     have:=dY c;rw[q9]at this;exact List.length_eq_zero_iff.mp Yd
    subst e0;have hat:∀{x:V},atI [x] (0:Int)=some x:=U;refine⟨_,U,.inl ⟨U,_,SqL.of g1⟩,_,U,lm,_,_,_,U,U,SqL.of g3,hat,lt,_,_,U,U,g1,bf (m:=1000) (by rw[q9];exact(by decide:1<=1000)),?_⟩;have a2:upd G lt (.lst (([]:List Int).map V.int++[.int m'])) lg=some (.lst (gs'.map V.int)):=by rw[ah (Ne.symm n1)];exact g2
    have a3:upd G lt (.lst (([]:List Int).map V.int++[.int m'])) lm=some (.lst [.int m']):=by rw[ah (Ne.symm n2)];exact g3
    refine⟨_,U,.inl ⟨U,_,SqL.of a2⟩,_,U,lm,_,_,_,U,U,SqL.of a3,hat,lg,_,_,U,U,a2,bf (m:=1000) (by rw[q9];omega),?_⟩;have b3:upd (upd G lt (.lst (([]:List Int).map V.int++[.int m']))) lg (.lst (gs'.map V.int++[.int m'])) lm=some (.lst [.int m']):=by rw[ah (Ne.symm n3)];exact a3
    refine⟨_,U,lm,_,_,_,U,U,SqL.of b3,hat,_,_,U,U,_,U,lm,_,_,0,U,U,b3,U,?_⟩;refine hN _ _ ⟨⟨_,U,U⟩,[(m':Int)],gs'++[(m':Int)],m'+1,?_,?_,af,?_,λc o c1 c2 c3 h=>?_,List.cons_ne_nil _ _,?_,(by rw[<- qN];exact pg'.more),Yd,Yd⟩
    ·rw[ah n2,ah n1,af];rfl
    ·rw[ah n3,af,qO];rfl
    ·rw[ah (Ne.symm n6),ah (Ne.symm n5),ah (Ne.symm n4)];exact g4
    ·rw[ah c3,ah c2,ah c1];exact fr c o c1 c2 c3 h
    ·rw[qx]at po;exact po.more
   ·exact hN _ _ ⟨⟨_,U,U⟩,ts',gs',m',g1,g2,g3,g4,fr,λz=>dZ c (by rw[z];rfl),po,pg',mm,Yd⟩
  ·rintro σ G ⟨⟨v',rfl,rfl⟩,ts2,gs2,m2,g1,g2,g3,g4,fr,ne,po,pg2,mm,mi⟩;have tl2:=po.len;rw[qb]at tl2;have l0:0<ts2.length:=List.length_pos_iff.mpr ne;have p0:=Q9 (way+3 * (0+(i:Int))) (b:=(ts2.length:Int)) Yd;have p1:=Qe (way+3 * (0+(i:Int))) (b:=(ts2.length:Int)) Yd;refine⟨_,U,.inl ⟨U,_,SqL.of g4⟩,_,U,.inl ⟨U,_,SqL.of g1⟩,_,U,_,U,_,_,U,U,IntMulOk.of_bits (d6 ⟨Qz,Qz⟩) (d6 ⟨Yd,Yd⟩),_,_,U,U,_,U,lt,_,U,.inl (SqL.of g1),_,_,U,U,by rw[q9];omega,?_⟩;rw[q9];have hx:ts2[((way+3 * (0+(i:Int))) % (ts2.length:Int)).toNat]?=some (ts2[((way+3 * (0+(i:Int))) % (ts2.length:Int)).toNat]' Yd):=qc _;generalize ts2[((way+3 * (0+(i:Int))) % (ts2.length:Int)).toNat]' Yd=x at hx;generalize (way+3 * (0+(i:Int))) % (ts2.length:Int)=j at p0 p1 hx
   have hj:seqIndex? j (ts2.map V.int).length=some j.toNat:=by
    unfold seqIndex?;rw[q9];simp only[qZ (by omega:¬ j<0)];rw[Q0 (by simp;omega)]
   refine⟨lt,_,j,j.toNat,.int x,U,U,g1,Yd,Yd,hj,by rw[qE,hx];rfl,?_⟩;have b4:upd G lt (.lst ((ts2.map V.int).eraseIdx j.toNat)) lo=some (.lst (out.map V.int)):=by rw[ah (Ne.symm n4)];exact g4
   refine⟨lo,_,_,U,U,b4,bf (m:=1000) (by rw[q9];omega),?_⟩;refine⟨⟨_,U⟩,ts2.eraseIdx j.toNat,gs2,out++[x],m2,?_,?_,?_,?_,λc o c1 c2 c3 h=>?_,by rw[qb,ol];rfl,(by rw[<- qN Ut];exact po.pick hx),pg2,mm,mi⟩
   ·rw[ah n4,af,rG]
   ·rw[ah n5,ah (Ne.symm n1)];exact g2
   ·rw[ah n6,ah (Ne.symm n2)];exact g3
   ·rw[af,qO];rfl
   ·have c4:c≠lo:=λz=>by rw[z,hlo]at h;cases h
    rw[ah c4,ah c1];exact fr c o c1 c2 c3 h
 ·rintro σ G ⟨⟨v,rfl⟩,ts',gs',out,m',g1,g2,g3,g4,fr,ol,po,pg',mm,mi⟩;refine⟨_,U,lo,_,U,.inl ⟨SqL.of g4,λp hp=>?_⟩⟩;have d1:lt≠p:=λz=>by rw[z,hp]at g1;cases g1
  have d2:lg≠p:=λz=>by rw[z,hp]at g2;cases g2
  have d3:lm≠p:=λz=>by rw[z,hp]at g3;cases g3
  have h0:H p=none:=by
   cases e:H p with
   |none=>rfl
   |some o=>rw[fr p o (Ne.symm d1) (Ne.symm d2) (Ne.symm d3) e]at hp;cases hp
  refine k _ p out ts' gs' m' (λc o c1 c2 c3 h=>a9.new hp _ _ _ (fr c o c1 c2 c3 h)) (by rw[ah d1];exact g1) (by rw[ah d2];exact g2) (by rw[ah d3];exact g3) af h0 Yd po pg' mm Yd
theorem wI(T:Tx P w K mg a):aC P w K mg base CX0 2 a.C1 a.C2 ["_law_cell_here","_law_k"] mF:=by
 refine T.CQ.ok nQ (λvs H Q E h=>?_) (λcdv A outer s H vs Q E hr h=>?_)
 ·obtain⟨_,_,rfl,_⟩:=h
  rfl
 obtain⟨c,k,rfl,hk,q⟩:=h
 refine⟨_,(ae (aK (i:=2) nQ.nd U (Or.inr U) (aR (eQ T) (hr.mono Qz) U T.A2 T.zX.kp T.A1 .nil ar (a8 (pq 0) (a8 (ag bE (pq 1) aa) ac))))
  (ae (aX (aO bi (ag aT (pq 2) aa) aa (aJ _)) (ai (au (bR (a8 (ag bL (pq 2) aa) (a8 aa (a8 (ag aT (ag bL (pq 2) aa) (ag gA aa aa)) ac)))))) aW)
  (ai (au (cs (k:=1) (Nc:=["_law_j","_law_m"]) (js:=[2]) (show aL (aj hE) ["_law_cell_here","_law_k","_law_m"] _ 1 ["_law_j","_law_m"] [2]from aL.mk U (by decide +kernel) (by decide +kernel) (by decide +kernel) U (by decide +kernel)) U (db U T.zT (a8 (ag aT (ag bL (pq 2) aa) aa) ac)) (λ_ _ _ _ _=>(aP (i:=0) (show List.Nodup (["_law_j","_law_m"]:List Str)from by decide +kernel) U Oi)) (λ_ _ _ _ _=>bX) (λ_ _ _ _ _=>(ag aT (ag bL (pq 1) (ag bE aa (ag bY aa (pq 0)))) aa))))))),?_⟩
 have pw:(0:Int)<(10:Int) ^ (30:Int).toNat:=by rw[p30];decide
 refine⟨_,U,_,U,_,_,U,U,_,_,U,⟨Yd,Yd⟩,λm m0 m1=>?_⟩;dsimp only[aI];refine⟨_,U,_,_,U,U,Qz,U,_,U,bh (λcc=>?_) (λcc=>?_)⟩
 ·refine⟨_,U,_,_,U,U,⟨Qz,Qz⟩,_,U,_,_,U,U,⟨Qz,Qz⟩,_,_,U,U,⟨Qz,Qz,Qz⟩,_,_,U,U,pw,xZ,λl hl=>?_⟩
  exact q _ l [m / 9,0,m / 7 % (10:Int) ^ (30:Int).toNat] (a9.new hl _) hl af (λx hx=>by
   simp only[qu,qQ,or_false]at hx;rcases hx with rfl|rfl|rfl
   ·omega
   ·omega
   ·exact Q9 _ Yd) (by show 3<=4;decide)
 ·refine⟨_,U,_,_,U,U,⟨Qz,Qz⟩,_,_,U,U,Qz,_,U,Yd,Yd,?_⟩;have k4:0<=m / 9 % 4/\m / 9 % 4<=4:=Yd;refine fK (λi ys σ H3=>(∃v,σ=[v,some (.int m)])/\H3=H/\∃xs:List Int,ys=xs.map V.int/\xs.length=i/\∀x∈xs,0<=x) ⟨⟨none,U⟩,U,[],U,U,λ_ h=>(nomatch h)⟩ ?_ (bf (m:=100) Yd) ?_ ?_
  ·rintro i ys σ H3 _ ⟨_,_,xs,rfl,h,_⟩;rw[q9,h];exact qe _
  ·rintro i ys σ H3 hi ⟨⟨v,rfl⟩,rfl,xs,rfl,hl,ho⟩;refine⟨_,U,_,U,_,_,U,U,IntMulOk.of_bits (d6 ⟨Qz,Qz⟩) (d6 ⟨Yd,Yd⟩),_,_,U,U,_,_,U,U,⟨Yd,Yd⟩,_,_,U,U,Qz,⟨_,U⟩,U,xs++[_],by rw[qO];rfl,by rw[qb,hl];rfl,λn hn=>?_⟩;rcases qh.mp hn with hn|hn
   ·exact ho n hn
   ·rw[qS.mp hn];exact Q9 _ Qz
  rintro ys σ3 H3 ⟨_,rfl,xs,rfl,hl,ho⟩ l hl';exact q _ l xs (a9.new hl' _) hl' af ho Yd
theorem ko(xs:List Int)(lo hi st:Option Int):∃ys:List Int,dS (xs.map V.int) lo hi st=ys.map V.int/\ys.length=(dS (xs.map V.int) lo hi st).length:=by
 have go:∀is:List Nat,∃ys:List Int,(is.filterMap λi=>(xs.map V.int)[i]?)=ys.map V.int:=by
  intro is
  induction is with
  |nil=>exact⟨[],U⟩
  |cons i is ih=>
   obtain⟨ys,e⟩:=ih
   cases h:xs[i]? with
   |none=>exact⟨ys,by rw[List.filterMap_cons_none (by rw[qE,h];rfl)];exact e⟩
   |some x=>exact⟨x::ys,by rw[List.filterMap_cons_some (b:=V.int x) (by rw[qE,h];rfl),e];rfl⟩
 obtain⟨ys,e⟩:=go (sliceRange (sliceBounds lo hi st (xs.map V.int).length).1 (sliceBounds lo hi st (xs.map V.int).length).2.1 (sliceBounds lo hi st (xs.map V.int).length).2.2);have e:dS (xs.map V.int) lo hi st=ys.map V.int:=e;exact⟨ys,e,by rw[e,q9]⟩
theorem oT(T:Tx P w K mg a):aC P w K mg base CX0 3 a.C3 a.C4 ["_law_script","_law_way"] (mI K):=by
 refine T.Cj.ok uo (λvs H Q E h=>?_) (λcdv A outer s H vs Q E hr h=>?_)
 ·obtain⟨_,_,_,rfl,_⟩:=h
  rfl
 obtain⟨l,ns,way,rfl,hl,n63,hw,q⟩:=h
 refine⟨_,(ae (aX (aO bi (ag aT (pq 1) aa) aa (aJ _)) (ai (au eN)) aW)
  (ae (aX (aO bi (ag aT (pq 1) aa) aa (aJ _)) (ai (au (bR ac))) aW)
  (ai (au (cs (k:=2) (Nc:=["_law_k","_law_cell_here","_law_way"]) (js:=[1]) (show aL (aj hJ) ["_law_script","_law_way"] _ 2 ["_law_k","_law_cell_here","_law_way"] [1]from aL.mk U (by decide +kernel) (by decide +kernel) (by decide +kernel) U (by decide +kernel)) U (oC U T.D3 (a8 (kz (pq 0) (bQ aa) (bQ aa) (bQ aa)) ac)) (λ_ _ _ _ _=>(fA 2 U (bN (aP (i:=0) (show List.Nodup (["_law_k","_law_cell_here","_law_way"]:List Str)from by decide +kernel) U Oi) (bN (aP (i:=1) (show List.Nodup (["_law_k","_law_cell_here","_law_way"]:List Str)from by decide +kernel) U Oi) dc)))) (λ_ _ _ _ _=>bX) (λ_ _ _ _ _=>(aR (wI T) (hr.mono Qz) U T.ED T.CQ.kp T.EC .nil ar (a8 (ag bE (pq 1) (pq 2)) (a8 (pq 0) ac))))))))),?_⟩
 refine⟨_,U,_,_,U,U,Qz,U,_,U,bh (λcc=>?_) (λcc=>?_)⟩
 ·exact q H .non [] (a9.refl _) (.inl ⟨U,U⟩) (qt _) λ_ h=>(nomatch h)
 refine⟨_,U,_,_,U,U,Qz,U,_,U,bh (λcc=>?_) (λcc=>?_)⟩
 ·exact⟨qt _,λz hz=>q _ (.ref z) [] (a9.new hz _) (.inr ⟨z,[],U,af,.nil⟩) (qt _) λ_ h=>(nomatch h)⟩
 obtain⟨ys,ey,yl⟩:=ko ns (some 6) (some 54) (some 3);have y16:ys.length<=16:=by rw[yl];exact kq Qz Qz
 refine⟨_,U,_,U,_,U,_,U,l,_,U,hl,Qz,bf (m:=100) (by rw[<- yl];omega),λp hp=>?_⟩;rw[ey];refine⟨p,_,U,SqL.of af,?_⟩;have s1:=a9.new hp (.lst (ys.map V.int));have hp1:upd H p (.lst (ys.map V.int)) p=some (.lst (ys.map V.int)):=af;generalize upd H p (.lst (ys.map V.int))=H1 at s1 hp1;refine rL (K:=K) (l:=p) (xs:=ys.map V.int) (λi zs σ G=>(∃v v',σ=[v,v',some (.int way)])/\a9 H1 G/\∃xss:List (List Int),xss.length=i/\RIs G zs xss/\∀r∈xss,r.length<=4/\∀x∈r,0<=x) ⟨⟨_,_,U⟩,a9.refl _,[],U,.nil,λ_ h=>(nomatch h)⟩ ?_ (bf (m:=100) (by rw[q9];omega)) ?_ ?_ ?_
 ·rintro i zs σ G ⟨_,_,xss,e,r,_⟩;rw[r.len,e];exact qe _
 ·rintro i zs σ G ⟨_,s2,_⟩;exact SqL.of (s2 _ _ hp1)
 ·rintro i x zs σ G pt hx ⟨⟨v,v',rfl⟩,s2,xss,e,r,ok⟩ hpt;rw[qE]at hx;obtain⟨n,hn,rfl⟩:=qP.mp hx;have il:=(qf.mp hn).1;refine⟨pt,_,U,SqT.of af,U,_,_,U,_,_,U,U,?_⟩;refine⟨_,U,_,U,_,_,U,U,_,U,_,_,U,⟨Yd,Yd⟩,λG' l' xs' s3 n3 h3 o3 l3=>?_⟩;have s4:=(a9.new hpt (.tup [.int (i:Int),.int n])).trans s3;refine⟨⟨_,_,U⟩,s2.trans s4,xss++[xs'],by rw[qb,e];rfl,(r.same s4).snoc h3,λr' hr'=>?_⟩;rcases qh.mp hr' with h|h
  ·exact ok r' h
  ·rw[qS.mp h];exact⟨l3,o3⟩
 rintro zs σ G ⟨_,s2,xss,e,r,ok⟩ l2 hl2;rw[q9]at e;exact q _ (.ref l2) xss (s1.trans (s2.trans (a9.new hl2 _))) (.inr ⟨l2,zs,U,af,r.same (a9.new hl2 _)⟩) Yd ok
theorem Fit.up{nl nl':Nat}{xs:List Int}(h:Fit nl xs)(le:nl<=nl'):Fit nl' xs:=⟨h.lo,λx hx=>by have:=h.hi x hx;omega,h.nd⟩
structure bC(H:Hp)(lt lg lm:Addr)(Ut Ug ts gs:List Int)(m:Nat):Prop where
 t:H lt=some (.lst (ts.map V.int))
 g:H lg=some (.lst (gs.map V.int))
 l:H lm=some (.lst [.int m])
 ne:lt≠lg/\lt≠lm/\lg≠lm
 pt:bn m (Ut++ts)
 pg:bn m (Ug++gs)
def bG(lt lg lm:Addr)(H:Hp):Hp:=λc=>if c=lt\/c=lg\/c=lm then none else H c
section
variable {lt lg lm:Addr}{H H':Hp}{Ut Ug ts gs ts' gs':List Int}{m m':Nat}
theorem iG:a9 (bG lt lg lm H) H:=λc o h=>by
 have h:(if c=lt\/c=lg\/c=lm then none else H c)=some o:=h;split at h
 ·cases h
 ·exact h
theorem iH{c:Addr}{o:HO}(h1:c≠lt)(h2:c≠lg)(h3:c≠lm)(h:H c=some o):bG lt lg lm H c=some o:=by
 show(if c=lt\/c=lg\/c=lm then none else H c)=_;rw[qZ (by rintro(z|z|z);exact h1 z;exact h2 z;exact h3 z)];exact h
theorem cP(h:∀c o,c≠lt->c≠lg->c≠lm->H c=some o->H' c=some o):a9 (bG lt lg lm H) (bG lt lg lm H'):=λc o e=>by
 have e:(if c=lt\/c=lg\/c=lm then none else H c)=some o:=e;split at e
 ·cases e
 ·rename_i n;exact iH (λz=>n (.inl z)) (λz=>n (.inr (.inl z))) (λz=>n (.inr (.inr z))) (h c o (λz=>n (.inl z)) (λz=>n (.inr (.inl z))) (λz=>n (.inr (.inr z))) e)
theorem bC.tup(P:bC H lt lg lm Ut Ug ts gs m){c:Addr}{xs:List V}(h:H c=some (.tup xs)):bG lt lg lm H c=some (.tup xs):=
 iH (λz=>by rw[z,P.t]at h;cases h) (λz=>by rw[z,P.g]at h;cases h) (λz=>by rw[z,P.l]at h;cases h) h
theorem bC.same(P:bC H lt lg lm Ut Ug ts gs m)(s:a9 H H'):bC H' lt lg lm Ut Ug ts gs m:=⟨s _ _ P.t,s _ _ P.g,s _ _ P.l,P.ne,P.pt,P.pg⟩
theorem bC.hid(s:a9 H H'):a9 (bG lt lg lm H) (bG lt lg lm H'):=cP λc o _ _ _ h=>s c o h
theorem bC.swap(P:bC H lt lg lm Ut Ug ts gs m):bC H lg lt lm Ug Ut gs ts m:=⟨P.g,P.t,P.l,⟨Ne.symm P.ne.1,P.ne.2.2,P.ne.2.1⟩,P.pg,P.pt⟩
end
theorem Fit.perm{nl:Nat}{xs ys:List Int}(h:Fit nl ys)(p:xs.Perm ys):Fit nl xs:=⟨λx hx=>h.lo x (p.mem_iff.mp hx),λx hx=>h.hi x (p.mem_iff.mp hx),(p.map Int.toNat).nodup_iff.mpr h.nd⟩
theorem zf(xs:List Int){n m:Int}(h0:0<=n)(h1:n<=m)(h2:m<=xs.length):c7 (xs.map V.int) (some n) (some m)=((xs.drop n.toNat).take (m.toNat-n.toNat)).map V.int:=by
 unfold c7
 have e1:HT.sIx (xs.map V.int).length 0 (some n)=n.toNat:=by
  have:=HT.sIx_nat (xs.map V.int).length 0 n.toNat;rw[Int.toNat_of_nonneg h0]at this;rw[this,q9];omega
 have e2:HT.sIx (xs.map V.int).length (xs.map V.int).length (some m)=m.toNat:=by
  have:=HT.sIx_nat (xs.map V.int).length (xs.map V.int).length m.toNat;rw[Int.toNat_of_nonneg Yd]at this;rw[this,q9];omega
 rw[e1,e2,<- List.map_drop,<- List.map_take]
theorem lZ(xs:List Int){w:Int}(w1:1<=w)(h:(xs.length:Int)=2 * w+1):∃A B:List Int,∃t:Int,xs=A++B++[t]/\(A.length:Int)=w/\(B.length:Int)=w/\c7 (xs.map V.int) none (some w)=A.map V.int/\c7 (xs.map V.int) (some w) (some (2 * w))=B.map V.int/\atI (xs.map V.int) (2 * w)=some (.int t)/\¬ (HT.sIx (xs.map V.int).length 0 none=0/\HT.sIx (xs.map V.int).length (xs.map V.int).length (some w)=(xs.map V.int).length)/\¬ (HT.sIx (xs.map V.int).length 0 (some w)=0/\HT.sIx (xs.map V.int).length (xs.map V.int).length (some (2 * w))=(xs.map V.int).length):=by
 have lt:(2 * w).toNat<xs.length:=Yd;refine⟨xs.take w.toNat,(xs.drop w.toNat).take ((2 * w).toNat-w.toNat),xs[(2 * w).toNat],?_,?_,?_,iP xs Yd Yd,zf xs Yd Yd Yd,ef Yd (by rw[qE,qc lt];rfl),λz=>?_,λz=>?_⟩
 ·rw[qN]
  conv=>lhs;rw[<- Qt w.toNat xs]
  congr 1
  conv=>lhs;rw[<- Qt ((2 * w).toNat-w.toNat) (xs.drop w.toNat)]
  congr 1
  rw[List.drop_drop,show w.toNat+((2 * w).toNat-w.toNat)=(2 * w).toNat by omega,List.drop_eq_getElem_cons lt,List.drop_eq_nil_of_le (by omega)]
 ·rw[qK];omega
 ·rw[qK,qY];omega
 ·have:=HT.sIx_nat (xs.map V.int).length (xs.map V.int).length w.toNat;rw[Int.toNat_of_nonneg Yd]at this;rw[this,q9]at z;omega
 ·have:=HT.sIx_nat (xs.map V.int).length 0 w.toNat;rw[Int.toNat_of_nonneg Yd]at this;rw[this,q9]at z;omega
theorem rE{m:Nat}{A B:List Int}{t:Int}(h:Fit m (A++B++[t])):Fit m (A++[t])/\Fit m (B++[t])/\Fit m (t::A)/\Fit m (t::B):=by
 have f1:Fit m (A++[t]):=h.sub ((List.sublist_append_left A B).append (List.Sublist.refl _));have f2:Fit m (B++[t]):=h.sub ((List.sublist_append_right A B).append (List.Sublist.refl _));exact⟨f1,f2,f1.perm (List.perm_append_comm (l₁:=[t])),f2.perm (List.perm_append_comm (l₁:=[t]))⟩
theorem PR.fit_up{nl nl':Nat}(le:nl<=nl'):∀{r:PR},r.fit nl->r.fit nl'
 |.pass ..,h=>⟨h.1.up le,h.2.up le⟩
 |.work ..,h=>⟨h.1.up le,h.2.up le⟩
 |.choose ..,h=>⟨h.1.up le,h.2.1.up le,h.2.2.up le⟩
 |.merge ..,h=>⟨h.1.up le,h.2.1.up le,h.2.2.up le⟩
def bA:PR->List Int
 |.pass ins _ _=>ins
 |.work ins _ _ _ _=>ins
 |.choose ins _ _ _ _=>ins
 |.merge t o n _=>o++n++[t]
def bV:PR->List Int
 |.pass _ outs _=>outs
 |.work _ out _ _ _=>[out]
 |.choose _ _ o n t=>o++n++[t]
 |.merge _ _ _ outs=>outs
inductive mH(K:W.Frag)(vs:List V)(H:Hp)(Q:VK)(E:XK):Prop
 |mk (c k:Int) (lt lg lm:Addr) (Ut Ug ts gs:List Int) (m:Nat) (h0_:vs=[.int c,.int k,.ref lt,.ref lg,.ref lm]) (h1_:(0<=k/\k<=1000)) (h2_:bC H lt lg lm Ut Ug ts gs m) (h3_:m<=700) (h4_:∀H' v r ts' gs' m',a9 (bG lt lg lm H) (bG lt lg lm H')->bC H' lt lg lm (Ut++bA r) (Ug++bV r) ts' gs' m'->m<=m'->m'<=m+10->RR (bG lt lg lm H') v r->r.ok->r.fit m'->r.sgOk->Q v H'):mH K vs H Q E
theorem wJ(T:Tx P w K mg a):aC P w K mg base CX0 3 a.BW a.BX ["_law_cell_here","_law_k","_law_takers","_law_givers","_law_lines"] (mH K):=by
 refine T.CO.ok cM (λvs H Q E h=>?_) (λcdv A outer s H vs Q E hr h=>?_)
 ·obtain⟨_,_,_,_,_,_,_,_,_,_,rfl,_⟩:=h
  rfl
 obtain⟨c,k,lt,lg,lm,Ut,Ug,ts,gs,m,rfl,hk,P0,m7,q⟩:=h
 refine⟨_,(ae (aK (i:=5) cM.nd U Oi (aR (eQ T) (hr.mono Qz) U T.A2 T.zX.kp T.A1 .nil ar (a8 (pq 0) (a8 (pq 1) ac))))
  (ae (aK (i:=6) cM.nd U (Or.inr U) (aR (eQ T) (hr.mono Qz) U T.A2 T.zX.kp T.A1 .nil ar (a8 (pq 0) (a8 (ag bE (pq 1) aa) ac))))
  (ae (aK (i:=7) cM.nd U (Or.inr U) (ag bE aa (ag aT (ag bL (pq 5) aa) aa)))
  (ae (aX (aO fy (ag aT (pq 5) aa) aa (aJ _)) (ae (aK (i:=8) cM.nd U Oi (aR (dW T) (hr.mono Qz) U T.zZ T.zV.kp T.zY .nil ar (a8 (pq 2) (a8 (pq 3) (a8 (pq 4) (a8 (pq 7) (a8 (pq 6) ac)))))))
  (ae (aK (i:=9) cM.nd U Oi (aR (dW T) (hr.mono Qz) U T.zZ T.zV.kp T.zY .nil ar (a8 (pq 3) (a8 (pq 2) (a8 (pq 4) (a8 (ag aT (ag bL (pq 5) aa) aa) (a8 (ag bL (pq 6) aa) ac)))))))
  (ai (au (cr (a8 bF (a8 (pq 8) (a8 (pq 9) (a8 (fD ly U T.Cp PyProof.Rows.Boot.«tuple» (a8 (cs (k:=1) (Nc:=["_law_j","_law_w","_law_n"]) (js:=[7,6]) (show aL (aj hG) ["_law_cell_here","_law_k","_law_takers","_law_givers","_law_lines","_law_m","_law_n","_law_w","_law_ins","_law_outs","_law_out","_law_left","_law_at"] _ 1 ["_law_j","_law_w","_law_n"] [7,6]from aL.mk U (by decide +kernel) (by decide +kernel) (by decide +kernel) U (by decide +kernel)) U (db U T.zT (a8 (bz c5 U T.wp Q7 (a8 (pq 9) ac)) ac)) (λ_ _ _ _ _=>(aP (i:=0) (show List.Nodup (["_law_j","_law_w","_law_n"]:List Str)from by decide +kernel) U Oi)) (λ_ _ _ _ _=>bX) (λ_ _ _ _ _=>(ag aT (ag bL (pq 2) (ag bE aa (pq 0))) (pq 1)))) ac)) ac))))))))) aW)
  (ae (aX (aO fy (ag aT (pq 5) aa) aa (aJ _)) (ae (aK (i:=8) cM.nd U Oi (aR (dW T) (hr.mono Qz) U T.zZ T.zV.kp T.zY .nil ar (a8 (pq 2) (a8 (pq 3) (a8 (pq 4) (a8 (pq 7) (a8 (pq 6) ac)))))))
  (ae (aK (i:=10) cM.nd U Oi (am aZ (aR (dW T) (hr.mono Qz) U T.zZ T.zV.kp T.zY .nil ar (a8 (pq 3) (a8 (pq 2) (a8 (pq 4) (a8 aa (a8 (ag bL (pq 6) aa) ac)))))) aa Oy))
  (ae (aK (i:=11) cM.nd U Oi (aR (oS T) (hr.mono Qz) U T.CN T.Ci.kp T.CM .nil ar (a8 (ag aT (ag bL (pq 5) aa) aa) (a8 (pq 7) (a8 (pq 0) ac)))))
  (ai (au (cr (a8 bF (a8 (pq 8) (a8 (pq 10) (a8 (am yx bF (ag aT (pq 6) aa) Oy) (a8 (pq 11) (a8 (aR (oS T) (hr.mono Qz) U T.CN T.Ci.kp T.CM .nil ar (a8 (ag aT (ag bL (pq 5) aa) aa) (a8 (pq 7) (a8 (pq 0) ac)))) ac)))))))))))) aW)
  (ae (aX (aO fy (ag aT (pq 5) aa) aa (aJ _)) (ae (aK (i:=8) cM.nd U Oi (aR (dW T) (hr.mono Qz) U T.zZ T.zV.kp T.zY .nil ar (a8 (pq 2) (a8 (pq 3) (a8 (pq 4) (a8 (pq 7) (a8 (pq 6) ac)))))))
  (ae (aK (i:=12) cM.nd U Oi (aR (dW T) (hr.mono Qz) U T.zZ T.zV.kp T.zY .nil ar (a8 (pq 3) (a8 (pq 2) (a8 (pq 4) (a8 (ag bE (ag bY aa (pq 7)) aa) (a8 (ag bL (pq 6) aa) ac)))))))
  (ai (au (cr (a8 bF (a8 (pq 8) (a8 (ag aT (ag bL (pq 6) aa) (pq 7)) (a8 (df g6 (pq 12) dR (bQ (pq 7))) (a8 (df g6 (pq 12) (bQ (pq 7)) (bQ (ag bY aa (pq 7)))) (a8 (am aZ (pq 12) (ag bY aa (pq 7)) Oy) ac))))))))))) aW)
  (ae (aK (i:=12) cM.nd U Oi (aR (dW T) (hr.mono Qz) U T.zZ T.zV.kp T.zY .nil ar (a8 (pq 2) (a8 (pq 3) (a8 (pq 4) (a8 (ag bE (ag bY aa (pq 7)) aa) (a8 (pq 6) ac)))))))
  (ae (aK (i:=9) cM.nd U Oi (aR (dW T) (hr.mono Qz) U T.zZ T.zV.kp T.zY .nil ar (a8 (pq 3) (a8 (pq 2) (a8 (pq 4) (a8 (pq 7) (a8 (ag bL (pq 6) aa) ac)))))))
  (ai (au (cr (a8 bF (a8 (am aZ (pq 12) (ag bY aa (pq 7)) Oy) (a8 (df g6 (pq 12) dR (bQ (pq 7))) (a8 (df g6 (pq 12) (bQ (pq 7)) (bQ (ag bY aa (pq 7)))) (a8 (pq 9) ac)))))))))))))))),?_⟩
 refine⟨_,U,_,U,_,_,U,⟨Yd,Yd⟩,λx x0 x1=>?_⟩;refine⟨_,U,_,U,_,_,U,U,_,_,U,⟨Yd,Yd⟩,λn n0 n1=>?_⟩;refine⟨_,U,_,_,U,U,⟨Qz,Qz⟩,_,_,U,U,Qz,_,_,U,U,?_⟩;have w0:1<=1+x / 7 % 2/\1+x / 7 % 2<=2:=Yd;generalize 1+x / 7 % 2=wd at w0 ⊢;have n31:0<=n / 31/\n / 31<2147483647:=Yd;dsimp only[aI];refine⟨_,U,_,_,U,U,Qz,_,_,U,U,_,U,bh (λ_=>?_) (λ_=>?_)⟩
 ·refine⟨_,U,_,U,_,U,_,U,_,U,lt,lg,lm,ts,gs,Ut,Ug,m,wd,n,U,P0.t,P0.g,P0.l,P0.ne,P0.pt,P0.pg,Yd,⟨Yd,Yd⟩,⟨n0,n1⟩,λH1 p1 ins ts1 gs1 m1 f1 t1 g1 l1 h1 e1 il pt1 pg1 a1 b1=>?_⟩;have pi:bn m1 ins:=pt1.sub ((List.sublist_append_right Ut ins).trans (List.sublist_append_left _ _));have P1:bC H1 lt lg lm (Ut++ins) Ug ts1 gs1 m1:=⟨t1,g1,l1,P0.ne,pt1,pg1⟩;dsimp only[aI];have o0:0<=x / 14 % 3/\x / 14 % 3<=2:=Yd;refine⟨_,U,_,U,_,U,_,U,_,_,U,U,⟨Qz,Qz⟩,_,_,U,U,Qz,_,U,_,_,U,U,⟨Qz,Qz⟩,lg,lt,lm,gs1,ts1,Ug,Ut++ins,m1,x / 14 % 3,n / 31,U,g1,t1,l1,P1.swap.ne,pg1,pt1,Yd,⟨Yd,Yd⟩,n31,λH2 p2 outs gs2 ts2 m2 f2 g2 t2 l2 h2 e2 ol pg2 pt2 a2 b2=>?_⟩;have po:bn m2 outs:=pg2.sub ((List.sublist_append_right Ug outs).trans (List.sublist_append_left _ _));have P2:bC H2 lt lg lm (Ut++ins) (Ug++outs) ts2 gs2 m2:=⟨t2,g2,l2,P0.ne,pt2,pg2⟩;have sh:a9 (bG lt lg lm H) (bG lt lg lm H2):=(cP f1).trans (cP λc o c1 c2 c3 h=>f2 c o c2 c1 c3 h);have k1:=(cP (H':=H2) λc o c1 c2 c3 h=>f2 c o c2 c1 c3 h) _ _ (P1.tup h1);have k2:=P2.tup h2;dsimp only[aI];refine⟨_,U,_,U,_,U,p2,_,U,.inr (SqT.of h2),_,U,by rw[q9];omega,by rw[q9];omega,?_⟩;refine fK (λi ys σ G=>(∃v,σ=[v,some (.int wd),some (.int n)])/\G=H2/\∃rs:List Int,ys=rs.map V.int/\rs.length=i/\∀r∈rs,0<=r/\r<wd) ⟨⟨none,U⟩,U,[],U,U,λ_ h=>(nomatch h)⟩ ?_ (bf (m:=100) (by rw[q9];omega)) ?_ ?_
  ·rintro i ys σ G _ ⟨_,_,rs,rfl,h,_⟩;rw[q9,h];exact qe _
  ·rintro i ys σ G hi ⟨⟨v,rfl⟩,rfl,rs,rfl,hl,hrs⟩;have i3:i<5:=by rw[q9]at hi;omega
   refine⟨_,U,_,U,_,_,U,U,_,_,U,U,⟨Yd,Yd⟩,_,U,_,_,U,U,Yd,⟨_,U⟩,U,rs++[_],by rw[qO];rfl,by rw[qb,hl];rfl,λr hr=>?_⟩;rcases qh.mp hr with hr|hr
   ·exact hrs r hr
   ·rw[qS.mp hr];exact⟨Q9 _ Yd,Qe _ Yd⟩
  rintro ys σ3 H3 ⟨_,rfl,rs,rfl,hl,hrs⟩ lr hlr;refine⟨lr,_,U,.inl ⟨SqL.of af,λtr htr=>⟨ln4,λpp hpp=>?_⟩⟩⟩;have s3:=((a9.new hlr (.lst (rs.map V.int))).trans (a9.new htr (.tup (rs.map V.int)))).trans (a9.new hpp (.tup [.str "pass",.ref p1,.ref p2,.ref tr]));have P3:=P2.same s3;have sh3:=bC.hid (lt:=lt) (lg:=lg) (lm:=lm) s3;refine q _ _ (.pass ins outs rs) ts2 gs2 m2 (sh.trans sh3) P3 Yd Yd (.pass (P3.tup af) (sh3 _ _ k1) (sh3 _ _ k2) (P3.tup (a9.new hpp _ _ _ af))) ⟨?_,Yd,Yd,λr hr=>?_⟩ ⟨pi.fit.up Yd,po.fit⟩ trivial
  ·rw[hl,q9];simp
  ·have:=hrs r hr;omega
 refine⟨_,U,_,_,U,U,Qz,_,_,U,U,_,U,bh (λ_=>?_) (λ_=>?_)⟩
 ·refine⟨_,U,_,U,_,U,_,U,_,U,lt,lg,lm,ts,gs,Ut,Ug,m,wd,n,U,P0.t,P0.g,P0.l,P0.ne,P0.pt,P0.pg,Yd,⟨Yd,Yd⟩,⟨n0,n1⟩,λH1 p1 ins ts1 gs1 m1 f1 t1 g1 l1 h1 e1 il pt1 pg1 a1 b1=>?_⟩;have pi:bn m1 ins:=pt1.sub ((List.sublist_append_right Ut ins).trans (List.sublist_append_left _ _));have P1:bC H1 lt lg lm (Ut++ins) Ug ts1 gs1 m1:=⟨t1,g1,l1,P0.ne,pt1,pg1⟩;dsimp only[aI];refine⟨_,U,_,U,_,U,_,U,_,_,U,U,⟨Qz,Qz⟩,lg,lt,lm,gs1,ts1,Ug,Ut++ins,m1,1,n / 31,U,g1,t1,l1,P1.swap.ne,pg1,pt1,Yd,⟨Yd,Yd⟩,n31,λH2 p2 outs gs2 ts2 m2 f2 g2 t2 l2 h2 e2 ol pg2 pt2 a2 b2=>?_⟩;have po:bn m2 outs:=pg2.sub ((List.sublist_append_right Ug outs).trans (List.sublist_append_left _ _));have P2:bC H2 lt lg lm (Ut++ins) (Ug++outs) ts2 gs2 m2:=⟨t2,g2,l2,P0.ne,pt2,pg2⟩;have sh:a9 (bG lt lg lm H) (bG lt lg lm H2):=(cP f1).trans (cP λc o c1 c2 c3 h=>f2 c o c2 c1 c3 h);have k1:=(cP (H':=H2) λc o c1 c2 c3 h=>f2 c o c2 c1 c3 h) _ _ (P1.tup h1)
  obtain⟨o,rfl⟩:∃o,outs=[o]:=by
   match outs,ol with
   |[o],_=>exact⟨o,U⟩
   |[],z=>simp at z
   |_::_::_,z=>simp at z;omega
  refine⟨p2,_,_,_,U,U,SqT.of h2,U,?_⟩;dsimp only[aI];refine⟨_,U,_,_,U,U,⟨Qz,Qz⟩,_,_,U,U,Qz,_,U,_,U,_,_,_,U,⟨Yd,Yd⟩,Yd,λH3 v3 sd3 s3 rs3 ok3=>?_⟩;dsimp only[aI];refine⟨_,U,_,U,_,U,_,_,U,U,Qz,_,_,_,U,U,Qz,ub n,_,U,_,U,_,_,U,U,⟨Qz,Qz⟩,_,_,U,U,Qz,_,U,_,U,_,_,_,U,⟨Yd,Yd⟩,Yd,λH4 v4 sd4 s4 rs4 ok4=>⟨ln6,λpp hpp=>?_⟩⟩
  have fin:∀sg:Str,PyData.strOk sg=true->Q (V.ref pp) (upd H4 pp (.tup [.str "work",.ref p1,.int o,.str sg,v3,v4])):=λsg hsg=>by
   have s5:=(s3.trans s4).trans (a9.new hpp (.tup [.str "work",.ref p1,.int o,.str sg,v3,v4]));have P5:=P2.same s5;have sh5:=bC.hid (lt:=lt) (lg:=lg) (lm:=lm) s5;have side:∀{v:V}{sd:Sd},RS (upd H4 pp (.tup [.str "work",.ref p1,.int o,.str sg,v3,v4])) v sd->RS (bG lt lg lm (upd H4 pp (.tup [.str "work",.ref p1,.int o,.str sg,v3,v4]))) v sd:=λh=>h.keep λb ys hb=>P5.tup hb;refine q _ _ (.work ins o sg sd3 sd4) ts2 gs2 m2 (sh.trans sh5) P5 Yd Yd (.work (P5.tup af) (sh5 _ _ k1) (side ((rs3.same s4).same (a9.new hpp _))) (side (rs4.same (a9.new hpp _)))) ⟨Yd,?_,?_⟩ ⟨pi.fit.up Yd,po.fit⟩ hsg
   ·rw[show ins.length=wd.toNat by omega];exact ok3
   ·rw[show ins.length=wd.toNat by omega];exact ok4
  exact fin _ (ua n)
 refine⟨_,U,_,_,U,U,Qz,_,_,U,U,_,U,bh (λ_=>?_) (λ_=>?_)⟩
 ·refine⟨_,U,_,U,_,U,_,U,_,U,lt,lg,lm,ts,gs,Ut,Ug,m,wd,n,U,P0.t,P0.g,P0.l,P0.ne,P0.pt,P0.pg,Yd,⟨Yd,Yd⟩,⟨n0,n1⟩,λH1 p1 ins ts1 gs1 m1 f1 t1 g1 l1 h1 e1 il pt1 pg1 a1 b1=>?_⟩;have pi:bn m1 ins:=pt1.sub ((List.sublist_append_right Ut ins).trans (List.sublist_append_left _ _));have P1:bC H1 lt lg lm (Ut++ins) Ug ts1 gs1 m1:=⟨t1,g1,l1,P0.ne,pt1,pg1⟩;dsimp only[aI];have mb:IntMulOk 2 wd:=IntMulOk.of_right (intBits_le_64 Yd Yd);refine⟨_,U,_,U,_,U,_,U,_,_,U,U,mb,_,_,U,U,_,U,_,_,U,U,⟨Qz,Qz⟩,lg,lt,lm,gs1,ts1,Ug,Ut++ins,m1,2 * wd+1,n / 31,U,g1,t1,l1,P1.swap.ne,pg1,pt1,Yd,⟨Yd,Yd⟩,n31,λH2 p2 outs gs2 ts2 m2 f2 g2 t2 l2 h2 e2 ol pg2 pt2 a2 b2=>?_⟩;have po:bn m2 outs:=pg2.sub ((List.sublist_append_right Ug outs).trans (List.sublist_append_left _ _));have P2:bC H2 lt lg lm (Ut++ins) (Ug++outs) ts2 gs2 m2:=⟨t2,g2,l2,P0.ne,pt2,pg2⟩;have sh:a9 (bG lt lg lm H) (bG lt lg lm H2):=(cP f1).trans (cP λc o c1 c2 c3 h=>f2 c o c2 c1 c3 h);have k1:=(cP (H':=H2) λc o c1 c2 c3 h=>f2 c o c2 c1 c3 h) _ _ (P1.tup h1);obtain⟨A3,B3,t3,eo,lA,lB,cA,cB,cT,nA,nB⟩:=lZ outs w0.1 ol;have f3:=rE (eo▸po.fit);dsimp only[aI];refine⟨_,U,_,U,_,_,U,U,⟨Qz,Qz⟩,_,U,_,_,U,U,Yd,_,U,_,U,_,U,p2,_,U,SqT.of h2,nA,λtA htA=>?_⟩;rw[cA];have sA:=a9.new htA (.tup (A3.map V.int));refine⟨_,U,_,U,_,U,_,U,_,_,U,U,mb,_,U,p2,_,U,SqT.of (sA _ _ h2),nB,λtB htB=>?_⟩;rw[cB];have sB:=a9.new htB (.tup (B3.map V.int));refine⟨_,U,_,U,_,_,U,U,mb,p2,_,_,_,U,U,SqT.of (sB _ _ (sA _ _ h2)),cT,ln6,λpp hpp=>?_⟩;have sp:=a9.new hpp (.tup [.str "choose",.ref p1,.int (n / 7 % wd),.ref tA,.ref tB,.int t3]);have s5:=(sA.trans sB).trans sp;have P5:=P2.same s5;have sh5:=bC.hid (lt:=lt) (lg:=lg) (lm:=lm) s5;have:=Qe (n / 7) (show 0<wd by omega);exact q _ _ (.choose ins (n / 7 % wd) A3 B3 t3) ts2 gs2 m2 (sh.trans sh5) (by rw[eo]at P5;exact P5) Yd Yd (.choose (P5.tup af) (sh5 _ _ k1) (P5.tup (sp _ _ (sB _ _ af))) (P5.tup (sp _ _ af))) ⟨Q9 _ Yd,Yd,Yd,Yd,Yd⟩ ⟨pi.fit.up Yd,f3.1,f3.2.1⟩ trivial
 ·have mb:IntMulOk 2 wd:=IntMulOk.of_right (intBits_le_64 Yd Yd);refine⟨_,U,_,U,_,U,_,U,_,_,U,U,mb,_,_,U,U,_,U,lt,lg,lm,ts,gs,Ut,Ug,m,2 * wd+1,n,U,P0.t,P0.g,P0.l,P0.ne,P0.pt,P0.pg,Yd,⟨Yd,Yd⟩,⟨n0,n1⟩,λH1 p1 ins ts1 gs1 m1 f1 t1 g1 l1 h1 e1 il pt1 pg1 a1 b1=>?_⟩;have pi:bn m1 ins:=pt1.sub ((List.sublist_append_right Ut ins).trans (List.sublist_append_left _ _));have P1:bC H1 lt lg lm (Ut++ins) Ug ts1 gs1 m1:=⟨t1,g1,l1,P0.ne,pt1,pg1⟩;dsimp only[aI];refine⟨_,U,_,U,_,U,_,U,_,U,_,_,U,U,⟨Qz,Qz⟩,lg,lt,lm,gs1,ts1,Ug,Ut++ins,m1,wd,n / 31,U,g1,t1,l1,P1.swap.ne,pg1,pt1,Yd,⟨Yd,Yd⟩,n31,λH2 p2 outs gs2 ts2 m2 f2 g2 t2 l2 h2 e2 ol pg2 pt2 a2 b2=>?_⟩;have po:bn m2 outs:=pg2.sub ((List.sublist_append_right Ug outs).trans (List.sublist_append_left _ _));have P2:bC H2 lt lg lm (Ut++ins) (Ug++outs) ts2 gs2 m2:=⟨t2,g2,l2,P0.ne,pt2,pg2⟩;have sh:a9 (bG lt lg lm H) (bG lt lg lm H2):=(cP f1).trans (cP λc o c1 c2 c3 h=>f2 c o c2 c1 c3 h);have k1:=(cP (H':=H2) λc o c1 c2 c3 h=>f2 c o c2 c1 c3 h) _ _ (P1.tup h1);have h1':=iG _ _ k1;obtain⟨A3,B3,t3,eo,lA,lB,cA,cB,cT,nA,nB⟩:=lZ ins w0.1 il;have f3:=rE (eo▸pi.fit);dsimp only[aI];refine⟨_,U,_,U,_,_,U,U,mb,p1,_,_,_,U,U,SqT.of h1',cT,?_⟩;refine⟨_,U,_,U,_,U,p1,_,U,SqT.of h1',nA,λtA htA=>?_⟩;rw[cA];have sA:=a9.new htA (.tup (A3.map V.int));refine⟨_,U,_,U,_,U,_,U,_,_,U,U,mb,_,U,p1,_,U,SqT.of (sA _ _ h1'),nB,λtB htB=>?_⟩;rw[cB];have sB:=a9.new htB (.tup (B3.map V.int));refine⟨_,U,ln5,λpp hpp=>?_⟩;have sp:=a9.new hpp (.tup [.str "merge",.int t3,.ref tA,.ref tB,.ref p2]);have s5:=(sA.trans sB).trans sp;have P5:=P2.same s5;have sh5:=bC.hid (lt:=lt) (lg:=lg) (lm:=lm) s5;have u:=f3.2.2;exact q _ _ (.merge t3 A3 B3 outs) ts2 gs2 m2 (sh.trans sh5) (by rw[eo]at P5;exact P5) Yd Yd (.merge (P5.tup af) (P5.tup (sp _ _ (sB _ _ af))) (P5.tup (sp _ _ af)) (sh5 _ _ (P2.tup h2))) ⟨Yd,Yd,Yd⟩ ⟨u.1.up Yd,u.2.up Yd,po.fit⟩ trivial
theorem RRs.snoc{H:Hp}{v:V}{r:PR}(h:RR H v r):∀{vs:List V}{rs:List PR},RRs H vs rs->RRs H (vs++[v]) (rs++[r])
 |_,_,.nil=>.cons h .nil
 |_,_,.cons a b=>.cons a (RRs.snoc h b)
theorem oB(m:Nat):bn m ((List.range m).map λk:Nat=>(k:Int)):=by
 refine⟨List.nodup_iff_pairwise_ne.mpr (List.pairwise_map.mpr ((List.nodup_iff_pairwise_ne.mp List.nodup_range).imp λh e=>h Yd)),λx hx=>?_⟩;obtain⟨k,hk,rfl⟩:=List.mem_map.mp hx;have:=List.mem_range.mp hk;omega
inductive mK(K:W.Frag)(vs:List V)(H:Hp)(Q:VK)(E:XK):Prop
 |mk (l:Addr) (ns:List Int) (h0_:vs=[.ref l]) (h1_:SqL K H l (ns.map V.int)) (h2_:ns.length<=63) (h3_:∀H' t ll lp us ps xs rs,a9 H H'->H' t=some (.tup [.ref ll,.ref lp])->H' ll=some (.lst us)->RLn H' us xs->H' lp=some (.lst ps)->RRs H' ps rs->rs.length<=16->xs.length<=1000->(∀x∈xs,x.2.length<=4/\∀n∈x.2,OnW n)->(∀r∈rs,r.ok/\r.fit xs.length)->(∀r∈rs,r.sgOk)->(rs.flatMap bA).Nodup->(rs.flatMap bV).Nodup->0<xs.length->Q (.ref t) H'):mK K vs H Q E
theorem wK(T:Tx P w K mg a):aC P w K mg base CX0 4 a.BY a.BZ ["_law_script"] (mK K):=by
 refine T.CP.ok dN (λvs H Q E h=>?_) (λcdv A outer s H vs Q E hr h=>?_)
 ·obtain⟨_,_,rfl,_⟩:=h
  rfl
 obtain⟨l,ns,rfl,hl,n63,q⟩:=h
 refine⟨_,(ae (aK (i:=1) dN.nd U Oi (kz (pq 0) (bQ aa) (bQ aa) (bQ aa)))
  (ae (aK (i:=2) dN.nd U (Or.inr U) (bR (a8 (ag bE aa (ag aT (aR (eQ T) (hr.mono Qz) U T.A2 T.zX.kp T.A1 .nil ar (a8 (aR (io T) (hr.mono Qz) U T.Aj T.Ac.kp T.Ai .nil ar (a8 (pq 0) (a8 aa ac))) (a8 aa ac))) aa)) ac)))
  (ae (aK (i:=3) dN.nd U (Or.inr U) (cs (k:=1) (Nc:=["_law_k"]) (js:=[]) (show aL (aj eI) ["_law_script","_law_cells","_law_many","_law_takers","_law_givers","_law_parts","_law_seeds","_law_lines"] _ 1 ["_law_k"] []from aL.mk U (by decide +kernel) (by decide +kernel) (by decide +kernel) U (by decide +kernel)) U (db U T.zT (a8 (am aV (pq 2) aa Oy) ac)) (λ_ _ _ _ _=>(aP (i:=0) (show List.Nodup (["_law_k"]:List Str)from by decide +kernel) U Oi)) (λ_ _ _ _ _=>bX) (λ_ _ _ _ _=>(pq 0))))
  (ae (aK (i:=4) dN.nd U (Or.inr U) (cs (k:=1) (Nc:=["_law_k"]) (js:=[]) (show aL (aj eI) ["_law_script","_law_cells","_law_many","_law_takers","_law_givers","_law_parts","_law_seeds","_law_lines"] _ 1 ["_law_k"] []from aL.mk U (by decide +kernel) (by decide +kernel) (by decide +kernel) U (by decide +kernel)) U (db U T.zT (a8 (am aV (pq 2) aa Oy) ac)) (λ_ _ _ _ _=>(aP (i:=0) (show List.Nodup (["_law_k"]:List Str)from by decide +kernel) U Oi)) (λ_ _ _ _ _=>bX) (λ_ _ _ _ _=>(pq 0))))
  (ae (i9 (i:=5) dN.nd U Oi (k:=2) (Nc:=["_law_k","_law_cell_here","_law_takers","_law_givers","_law_many"]) (js:=[3,4,2]) (show aL (aj eI) ["_law_script","_law_cells","_law_many","_law_takers","_law_givers","_law_parts","_law_seeds","_law_lines"] _ 2 ["_law_k","_law_cell_here","_law_takers","_law_givers","_law_many"] [3,4,2]from aL.mk U (by decide +kernel) (by decide +kernel) (by decide +kernel) U (by decide +kernel)) U (oC U T.D3 (a8 (pq 1) ac)) (λ_ _ _ _ _=>(fA 2 U (bN (aP (i:=0) (show List.Nodup (["_law_k","_law_cell_here","_law_takers","_law_givers","_law_many"]:List Str)from by decide +kernel) U Oi) (bN (aP (i:=1) (show List.Nodup (["_law_k","_law_cell_here","_law_takers","_law_givers","_law_many"]:List Str)from by decide +kernel) U Oi) dc)))) (λ_ _ _ _ _=>bX) (λ_ _ _ _ _=>(aR (wJ T) (hr.mono Qz) U T.Ez T.CO.kp T.Ey .nil ar (a8 (pq 1) (a8 (pq 0) (a8 (pq 2) (a8 (pq 3) (a8 (pq 4) ac))))))))
  (ae (aK (i:=6) dN.nd U (Or.inr U) (ag jW (kz (pq 0) (bQ aa) (bQ aa) (bQ aa)) (bR (a8 (aR (io T) (hr.mono Qz) U T.Aj T.Ac.kp T.Ai .nil ar (a8 (pq 0) (a8 aa ac))) ac))))
  (ae (i9 (i:=7) dN.nd U Oi (k:=1) (Nc:=["_law_k","_law_seeds"]) (js:=[6]) (show aL (aj eI) ["_law_script","_law_cells","_law_many","_law_takers","_law_givers","_law_parts","_law_seeds","_law_lines"] _ 1 ["_law_k","_law_seeds"] [6]from aL.mk U (by decide +kernel) (by decide +kernel) (by decide +kernel) U (by decide +kernel)) U (db U T.zT (a8 (am aV (pq 2) aa Oy) ac)) (λ_ _ _ _ _=>(aP (i:=0) (show List.Nodup (["_law_k","_law_seeds"]:List Str)from by decide +kernel) U Oi)) (λ_ _ _ _ _=>bX) (λ_ _ _ _ _=>(aR (wL T) (hr.mono Qz) U T.Ex T.CL.kp T.Ew .nil ar (a8 (am (o9 (K:=K) U) (pq 1) (ag aT (pq 0) (bz (vp (K:=K) U) U T.wp Q7 (a8 (pq 1) ac))) Oy) (a8 (pq 0) ac)))))
  (ai (au (cr (a8 (pq 7) (a8 (pq 5) ac)))))))))))),?_⟩
 obtain⟨ys,ey,yl⟩:=ko ns (some 4) (some 52) (some 3);have y16:ys.length<=16:=by rw[yl];exact kq Qz Qz
 refine⟨_,U,_,U,_,U,_,U,l,_,U,hl,Qz,bf (m:=100) (by rw[<- yl];omega),λp hp=>?_⟩;rw[ey];have s1:=a9.new hp (.lst (ys.map V.int));have hp1:upd H p (.lst (ys.map V.int)) p=some (.lst (ys.map V.int)):=af;generalize upd H p (.lst (ys.map V.int))=H1 at s1 hp1 ⊢;dsimp only[aI];have hl1:=s1.seq hl;refine⟨_,U,l,ns,1,U,hl1,Qz,λc0=>⟨c0,1,U,⟨Qz,Qz⟩,λm m0 m1=>⟨_,_,U,U,Qz,_,_,U,U,ln1,λlm hlm=>?_⟩⟩⟩;obtain⟨mn,emn,mn5,mn0⟩:∃mn:Nat,2+m % 4=(mn:Int)/\mn<=5/\0<mn:=⟨(2+m % 4).toNat,Yd,Yd,Yd⟩;rw[emn];have s2:=a9.new hlm (.lst [V.int (mn:Int)]);have hm2:upd H1 lm (.lst [V.int (mn:Int)]) lm=some (.lst [V.int (mn:Int)]):=af;have hlmH:=a9.none s1 hlm;generalize upd H1 lm (.lst [V.int (mn:Int)])=H2 at s2 hm2 ⊢;dsimp only[aI];refine⟨_,U,lm,_,_,_,U,U,SqL.of hm2,U,_,U,Yd,Yd,?_⟩;refine fK (λi ys σ G=>(∃v,σ=[v])/\G=H2/\ys=((List.range i).map λk:Nat=>(k:Int)).map V.int) ⟨⟨none,U⟩,U,U⟩ ?_ (bf (m:=100) Yd) ?_ ?_
 ·rintro i ys σ G _ ⟨_,_,rfl⟩;simp
 ·rintro i ys σ G hi ⟨⟨v,rfl⟩,rfl,rfl⟩;exact⟨_,U,⟨_,U⟩,U,by rw[List.range_succ,qO,qO];rfl⟩
 rintro ys0 σ0 G0 ⟨_,eG,rfl⟩ lt hlt;rw[eG]at hlt ⊢;dsimp only[aI];have ht3:upd H2 lt (.lst (((List.range mn).map λk:Nat=>(k:Int)).map V.int)) lt=some (.lst (((List.range mn).map λk:Nat=>(k:Int)).map V.int)):=af;have s3:=a9.new hlt (.lst (((List.range mn).map λk:Nat=>(k:Int)).map V.int));have n1:lm≠lt:=λz=>by rw[z,hlt]at hm2;cases hm2
 rw[qX];generalize upd H2 lt (.lst (((List.range mn).map λk:Nat=>(k:Int)).map V.int))=H3 at s3 ht3 ⊢;refine⟨_,U,lm,_,_,_,U,U,SqL.of (s3 _ _ hm2),U,_,U,Yd,Yd,?_⟩;refine fK (λi ys σ G=>(∃v,σ=[v])/\G=H3/\ys=((List.range i).map λk:Nat=>(k:Int)).map V.int) ⟨⟨none,U⟩,U,U⟩ ?_ (bf (m:=100) Yd) ?_ ?_
 ·rintro i ys σ G _ ⟨_,_,rfl⟩;simp
 ·rintro i ys σ G hi ⟨⟨v,rfl⟩,rfl,rfl⟩;exact⟨_,U,⟨_,U⟩,U,by rw[List.range_succ,qO,qO];rfl⟩
 rintro ys0 σ0 G1 ⟨_,eG,rfl⟩ lg hlg;rw[eG]at hlg ⊢;dsimp only[aI];have s4:=a9.new hlg (.lst (((List.range mn).map λk:Nat=>(k:Int)).map V.int));have n2:lt≠lg:=λz=>by rw[z,hlg]at ht3;cases ht3
 have n3:lm≠lg:=λz=>by have:=s3 _ _ hm2;rw[z,hlg]at this;cases this
 rw[qX];have P0:bC (upd H3 lg (.lst (((List.range mn).map λk:Nat=>(k:Int)).map V.int))) lt lg lm [] [] _ _ mn:=⟨s4 _ _ ht3,af,s4 _ _ (s3 _ _ hm2),⟨n2,Ne.symm n1,Ne.symm n3⟩,oB mn,oB mn⟩;have hp4:=s4 _ _ (s3 _ _ (s2 _ _ hp1));have np:p≠lt/\p≠lg/\p≠lm:=⟨λz=>(by have:=s2 _ _ hp1;rw[z,hlt]at this;cases this),λz=>(by have:=s3 _ _ (s2 _ _ hp1);rw[z,hlg]at this;cases this),λz=>(by rw[z,hlm]at hp1;cases hp1)⟩
 have sH:a9 H (bG lt lg lm (upd H3 lg (.lst (((List.range mn).map λk:Nat=>(k:Int)).map V.int)))):=λc o h=>by
  have h1:=s1 _ _ h;have h2:=s2 _ _ h1;have h3:=s3 _ _ h2;refine iH (λz=>?_) (λz=>?_) (λz=>?_) (s4 _ _ h3)
  ·rw[z,hlt]at h2;cases h2
  ·rw[z,hlg]at h3;cases h3
  ·rw[z,hlm]at h1;cases h1
 have hp5:bG lt lg lm (upd H3 lg (.lst (((List.range mn).map λk:Nat=>(k:Int)).map V.int))) p=_:=iH np.1 np.2.1 np.2.2 hp4;generalize upd H3 lg (.lst (((List.range mn).map λk:Nat=>(k:Int)).map V.int))=H4 at P0 sH hp4 hp5 ⊢;refine⟨_,U,p,_,U,SqL.of hp4,?_⟩;refine rL (K:=K) (l:=p) (xs:=ys.map V.int) (λi zs σ G=>(∃v v',σ=[v,v',some (.ref lt),some (.ref lg),some (.ref lm)])/\∃ts gs m rs,bC G lt lg lm (rs.flatMap bA) (rs.flatMap bV) ts gs m/\a9 (bG lt lg lm H4) (bG lt lg lm G)/\0<m/\m<=5+10 * i/\i<=16/\RRs (bG lt lg lm G) zs rs/\rs.length=i/\(∀r∈rs,r.ok/\r.fit m)/\∀r∈rs,r.sgOk) ⟨⟨_,_,U⟩,_,_,mn,[],P0,a9.refl _,mn0,Yd,qt _,.nil,U,λ_ h=>(nomatch h),λ_ h=>(nomatch h)⟩ ?_ (bf (m:=100) (by rw[q9];omega)) ?_ ?_ ?_
 ·rintro i zs σ G ⟨_,ts,gs,m,rs,P,s5,m0p,m5,i16,rr,e,_⟩;rw[rr.len,e];exact qe _
 ·rintro i zs σ G ⟨_,ts,gs,m,rs,P,s5,_⟩;exact SqL.of (iG _ _ (s5 _ _ hp5))
 ·rintro i x zs σ G pt hx ⟨⟨v,v',rfl⟩,ts,gs,m,rs,P,s5,m0p,m5,i16,rr,e,okr,sgr⟩ hpt;rw[qE]at hx;obtain⟨n,hn,rfl⟩:=qP.mp hx;have il:=(qf.mp hn).1;refine⟨pt,_,U,SqT.of af,U,_,_,U,_,_,U,U,?_⟩;have sp:=a9.new hpt (.tup [.int (i:Int),.int n]);refine⟨_,U,_,U,_,U,_,U,_,U,n,i,lt,lg,lm,_,_,ts,gs,m,U,⟨Yd,Yd⟩,P.same sp,Yd,λG2 v2 r ts2 gs2 m2 s6 P2 ml mu rr2 ok2 ft2 sg2=>?_⟩;have s7:=(bC.hid (lt:=lt) (lg:=lg) (lm:=lm) sp).trans s6;refine⟨⟨_,_,U⟩,ts2,gs2,m2,rs++[r],(by rw[qU,qU,List.flatMap_singleton,List.flatMap_singleton];exact P2),s5.trans s7,Yd,Yd,Yd,(rr.same s7).snoc rr2,by rw[qb,e];rfl,λr' hr'=>?_,λr' hr'=>?_⟩
  ·rcases qh.mp hr' with h|h
   ·exact⟨(okr r' h).1,PR.fit_up ml (okr r' h).2⟩
   ·rw[qS.mp h];exact⟨ok2,ft2⟩
  ·rcases qh.mp hr' with h|h
   ·exact sgr r' h
   ·rw[qS.mp h];exact sg2
 rintro zs σ G ⟨_,ts,gs,m,rs,P,s5,m0p,m5,i16,rr,e,okr,sgr⟩ l5 hl5;rw[q9]at m5 i16 e;have sl5:=a9.new hl5 (.lst zs);have sG:a9 H (upd G l5 (.lst zs)):=(sH.trans (s5.trans iG)).trans sl5;have rr5:=(rr.same iG).same sl5;have hm5:=sl5 _ _ P.l;have h55:upd G l5 (.lst zs) l5=some (.lst zs):=af;generalize upd G l5 (.lst zs)=H5 at sG rr5 hm5 h55 ⊢;dsimp only[aI];obtain⟨ys2,ey2,yl2⟩:=ko ns (some 5) (some 53) (some 3);have z16:ys2.length<=16:=by rw[yl2];exact kq Qz Qz
 refine⟨_,U,_,U,_,U,_,U,l,_,U,sG.seq hl,Qz,bf (m:=100) (by rw[<- yl2];omega),λp6 hp6=>?_⟩;rw[ey2];have s6:=a9.new hp6 (.lst (ys2.map V.int));refine⟨_,U,l,ns,0,U,s6.seq (sG.seq hl),Qz,λc1=>⟨ln1,λp7 hp7=>?_⟩⟩;have s7:=a9.new hp7 (.lst [.int c1]);refine⟨p6,p7,_,_,U,U,SqL.of (s7 _ _ af),SqL.of af,bf (m:=100) (by rw[q9,Q6];omega),λp8 hp8=>?_⟩;have s8:=a9.new hp8 (.lst (ys2.map V.int++[.int c1]));have s58:=s6.trans (s7.trans s8);have h88:upd (upd (upd H5 p6 (.lst (ys2.map V.int))) p7 (.lst [.int c1])) p8 (.lst (ys2.map V.int++[.int c1])) p8=some (.lst ((ys2++[c1]).map V.int)):=by rw[af,qO];rfl
 generalize upd (upd (upd H5 p6 (.lst (ys2.map V.int))) p7 (.lst [.int c1])) p8 (.lst (ys2.map V.int++[.int c1]))=H8 at s58 h88 ⊢;dsimp only[aI];have zl:(ys2++[c1]).length<=17/\0<(ys2++[c1]).length:=by rw[qb,Q6];omega
 generalize ys2++[c1]=sd at h88 zl;refine⟨_,U,lm,_,_,_,U,U,SqL.of (s58 _ _ hm5),U,_,U,Yd,Yd,?_⟩;refine fK (λi ys σ G=>(∃v,σ=[v,some (.ref p8)])/\a9 H8 G/\∃xs:List Ln,RLn G ys xs/\xs.length=i/\∀x∈xs,x.2.length<=4/\∀n∈x.2,OnW n) ⟨⟨none,U⟩,a9.refl _,[],.nil,U,λ_ h=>(nomatch h)⟩ ?_ (bf (m:=1000) Yd) ?_ ?_
 ·rintro i ys σ G _ ⟨_,_,xs,r,h,_⟩;rw[r.len,h];exact qe _
 ·rintro i ys σ G hi ⟨⟨v,rfl⟩,sg,xs,r,h,ok⟩;have ms:i % sd.length<sd.length:=Nat.mod_lt _ zl.2
  have e2:atI (sd.map V.int) ((i:Int) % ((sd.map V.int).length:Nat))=some (.int sd[i % sd.length]):=by
   rw[q9,<- Int.natCast_emod];exact bP (by rw[qE,qc ms];rfl)
  refine⟨_,U,_,U,_,U,p8,_,U,.inl (SqL.of (sg _ _ h88)),_,_,U,U,by rw[q9];omega,p8,_,_,_,U,U,SqL.of (sg _ _ h88),e2,_,U,_,_,U,⟨Yd,Yd⟩,λG' pl tl x s' h1 h2 x4 xo=>?_⟩;refine⟨⟨_,U⟩,sg.trans s',xs++[x],RLn.snoc h1 h2 (r.same s'),by rw[qb,h];rfl,λy hy=>?_⟩;rcases qh.mp hy with hy|hy
  ·exact ok y hy
  ·rw[qS.mp hy];exact⟨x4,xo⟩
 rintro us σ G9 ⟨_,s9,xs,rl,xl,okx⟩ l9 hl9;have sl9:=a9.new hl9 (.lst us);have h99:upd G9 l9 (.lst us) l9=some (.lst us):=af;have s5x:=s58.trans (s9.trans sl9);have rl9:=rl.same sl9;generalize upd G9 l9 (.lst us)=H9 at s5x h99 rl9 ⊢;dsimp only[aI];have xm:xs.length=m:=by rw[xl];exact qX m
 refine⟨_,U,_,U,ln2,λt ht=>?_⟩;have st:=a9.new ht (.tup [.ref l9,.ref l5]);exact q _ t l9 l5 us zs xs rs (sG.trans (s5x.trans st)) af (st _ _ h99) (rl9.same st) (st _ _ (s5x _ _ h55)) ((rr5.same s5x).same st) Yd Yd okx (by rw[xm];exact okr) sgr (P.pt.nd.sublist (List.sublist_append_left _ _)) (P.pg.nd.sublist (List.sublist_append_left _ _)) Yd
theorem nY{H:Hp}{f:Nat->List Int}{ra:Nat->Addr}:∀l:List Nat,(∀i∈l,H (ra i)=some (.lst ((f i).map V.int)))->RIs H (l.map λi=>V.ref (ra i)) (l.map f)
 |[],_=>.nil
 |i::l,h=>.cons (h i qm) (nY l λj hj=>h j (qk _ hj))
theorem qF{as:List Addr}{i:Nat}{d:Addr}(h:i<as.length):as[i]?=some (as.getD i d)/\as.getD i d∈as:=by
 rw[qj,qc h];exact⟨U,List.getElem_mem h⟩
theorem uW{as:List Addr}{d:Addr}{n:Nat}(h:as.length=n):as.map V.ref=(List.range n).map λi=>V.ref (as.getD i d):=by
 refine List.ext_getElem? λi=>?_;rw[qE,qE];by_cases lt:i<n
 ·rw[List.getElem?_range lt,(qF (d:=d) Yd).1];rfl
 ·rw[Qo Yd,Qo (by rw[Qd];omega)];rfl
theorem xJ{as:List Addr}{x:Addr}(h:as.Nodup)(n:x∉as):(as++[x]).Nodup:=List.nodup_append.mpr ⟨h,Qq _ _,λy hy z hz e=>n (by rw[<- qS.mp hz,<- e];exact hy)⟩
theorem REs.at{H:Hp}:∀{vs:List V}{es:List Ent},REs H vs es->∀{i:Nat}{v:V},vs[i]?=some v->∃p l us e,v=.ref p/\es[i]?=some e/\H p=some (.tup [.int e.now,.int e.part,.str (if e.took then "took" else "gave"),.ref l])/\H l=some (.lst us)/\RPs H us e.hs
 |_,_,.nil,i,v,h=>by simp at h
 |_,_,.cons (p:=p) (l:=l) (us:=us) (e:=e) a b c r,0,v,h=>by cases h;exact⟨p,l,us,e,U,U,a,b,c⟩
 |_,_,.cons a b c r,i+1,v,h=>REs.at r (by simpa using h)
def zI(ls:Nat->Option Int)(W:WS)(hs:List (Int×Int)):Prop:=∀p∈hs,cN (ls p.1.toNat) ((W.rows p.1.toNat).length:Int)=true
def lP(n:Nat)(ls:Nat->Option Int)(W:WS)(t:Int):Prop:=∃x,x<n/\∃hs,W.post x=some hs/\W.due x<=t/\zI ls W hs
def iT(prt:Nat->PR)(W:WS)(x:Nat):Prop:=W.post x=none/\∀l∈bD W.rows (prt x),W.rows l.toNat≠[]
def bJ(es:List Ent):Int:=es.foldl (λ_ e=>e.now) (-1)
theorem ix{es:List Ent}{e:Ent}:bJ (es++[e])=e.now:=by unfold bJ;rw[List.foldl_append];rfl
theorem kU:∀(ps:List (Int×Int))(f:Nat->List Int)(j:Nat),∃s,bT f ps j=f j++s
 |[],f,j=>⟨[],(qx _).symm⟩
 |p::ps,f,j=>by
  obtain⟨s,e⟩:=kU ps (put f p.1.toNat (f p.1.toNat++[p.2])) j;show ∃s,bT (put f p.1.toNat (f p.1.toNat++[p.2])) ps j=f j++s;by_cases c:j=p.1.toNat
  ·rw[e,c,aE,qN];exact⟨_,U⟩
  ·rw[e,ax c];exact⟨_,U⟩
theorem kT:∀{ps:List (Int×Int)}{f:Nat->List Int}{j:Nat},j∉ps.map (λp=>p.1.toNat)->bT f ps j=f j
 |[],_,_,_=>rfl
 |p::ps,f,j,h=>by
  show bT (put f p.1.toNat _) ps j=_;rw[kT λz=>h (qk _ z),ax λz=>h (by rw[z];exact qm)]
theorem kn:∀{ps:List (Int×Int)}{f:Nat->List Int}{j:Nat},j∉ps.map (λp=>p.1.toNat)->cS f ps j=f j
 |[],_,_,_=>rfl
 |p::ps,f,j,h=>by
  show cS (put f p.1.toNat _) ps j=_;rw[kn λz=>h (qk _ z),ax λz=>h (by rw[z];exact qm)]
theorem fV{f:Nat->List Int}:∀{r:PR}{l:Int},l∈bD f r->l∈bA r
 |.pass ..,_,h=>h
 |.work ..,_,h=>h
 |.choose ..,_,h=>h
 |.merge t o n _,l,h=>by
  have h:l∈(match f t.toNat with|[]=>[t]|x::_=>t::(if x=0 then n else o)):=h;show l∈o++n++[t]
  cases e:f t.toNat with
  |nil=>rw[e]at h;exact qI _ h
  |cons x _=>
   rw[e]at h;rcases qu.mp h with rfl|h
   ·exact qI _ (qS.mpr U)
   ·refine qV _ ?_;split at h
    ·exact qI _ h
    ·exact qV _ h
theorem sN{f:Nat->List Int}{ps:List (Int×Int)}:∀{r:PR}{l:Int},l∈bD f r->l.toNat∉ps.map (λp=>p.1.toNat)->f l.toNat=[]->l∈bD (bT f ps) r
 |.pass ..,_,h,_,_=>h
 |.work ..,_,h,_,_=>h
 |.choose ..,_,h,_,_=>h
 |.merge t o n _,l,h,off,em=>by
  have h:l∈(match f t.toNat with|[]=>[t]|x::_=>t::(if x=0 then n else o)):=h;show l∈(match bT f ps t.toNat with|[]=>[t]|x::_=>t::(if x=0 then n else o))
  cases e:f t.toNat with
  |nil=>
   rw[e]at h;have:=qS.mp h;subst this;rw[kT off,em];exact qS.mpr U
  |cons x xs=>
   rw[e]at h;obtain⟨s,es⟩:=kU ps f t.toNat;rw[es,e];exact h
theorem sL{f f':Nat->List Int}:∀{r:PR},(∀l∈bA r,f' l.toNat=f l.toNat)->bD f' r=bD f r
 |.pass ..,_=>rfl
 |.work ..,_=>rfl
 |.choose ..,_=>rfl
 |.merge t o n _,h=>by
  show(match f' t.toNat with|[]=>[t]|x::_=>t::(if x=0 then n else o))=(match f t.toNat with|[]=>[t]|x::_=>t::(if x=0 then n else o));rw[h t (qI _ (qS.mpr U))]
theorem pQ:∀(ps:List (Int×Int))(S:PlS),(∀x∈S.tr,x∈(ps.foldl ak S).tr)/\(∀i,∀x∈S.wt i,x∈(ps.foldl ak S).tr\/x∈(ps.foldl ak S).wt i)/\∀i,∀x∈(ps.foldl ak S).wt i,x∈S.wt i/\i∉ps.map (λp=>p.1.toNat)
 |[],_=>⟨λ_ h=>h,λ_ _ h=>.inr h,λ_ _ h=>⟨h,λz=>(nomatch z)⟩⟩
 |p::ps,S=>by
  obtain⟨h1,h2,h3⟩:=pQ ps (ak S p);refine⟨λx hx=>h1 x (qV _ hx),λi x hx=>?_,λi x hx=>?_⟩
  ·by_cases e:i=p.1.toNat
   ·exact .inl (h1 x (qI _ (e▸hx)))
   ·exact h2 i x (by show x∈put S.wt p.1.toNat [] i;rw[ax e];exact hx)
  ·obtain⟨a,b⟩:=h3 i x hx;have a:x∈put S.wt p.1.toNat [] i:=a;by_cases e:i=p.1.toNat
   ·rw[e,aE]at a;cases a
   ·rw[ax e]at a;exact⟨a,λz=>(qu.mp z).elim e b⟩
theorem iQ{g:Gv}{t:Int}{ps:List Nat}{x:Nat}:((∃kv∈g,x∈kv.2)->∃kv∈bc g t ps,x∈kv.2)/\(x∈ps->∃kv∈bc g t ps,x∈kv.2):=by
 unfold bc;by_cases e:ps=[]
 ·rw[Q0 e];exact⟨id,λh=>by rw[e]at h;cases h⟩
 rw[qZ e];by_cases m:t∈aF g
 ·rw[Q0 m];refine⟨λ⟨kv,hk,hx⟩=>⟨_,List.mem_map.mpr ⟨kv,hk,U⟩,?_⟩,λhx=>?_⟩
  ·split
   ·exact qV _ hx
   ·exact hx
  ·obtain⟨kv,hk,ek⟩:=List.mem_map.mp m;exact⟨_,List.mem_map.mpr ⟨kv,hk,U⟩,by rw[Q0 ek];exact qI _ hx⟩
 ·rw[qZ m];exact⟨λ⟨kv,hk,hx⟩=>⟨kv,qV _ hk,hx⟩,λhx=>⟨_,qI _ (qS.mpr U),hx⟩⟩
theorem rb(now:Int):∀(ws:List Int)(S:PlS)(x:Nat),((∃kv∈S.gv,x∈kv.2)->∃kv∈(ws.foldl (be now) S).gv,x∈kv.2)/\(∀i,x∈S.wr i->(∃kv∈(ws.foldl (be now) S).gv,x∈kv.2)\/x∈(ws.foldl (be now) S).wr i)/\∀i,x∈(ws.foldl (be now) S).wr i->x∈S.wr i/\i∉ws.map Int.toNat
 |[],_,_=>⟨id,λ_ h=>.inr h,λ_ h=>⟨h,λz=>(nomatch z)⟩⟩
 |w::ws,S,x=>by
  obtain⟨h1,h2,h3⟩:=rb now ws (be now S w) x;refine⟨λh=>h1 (iQ.1 h),λi hx=>?_,λi hx=>?_⟩
  ·by_cases e:i=w.toNat
   ·exact .inl (h1 (iQ.2 (e▸hx)))
   ·exact h2 i (by show x∈put S.wr w.toNat [] i;rw[ax e];exact hx)
  ·obtain⟨a,b⟩:=h3 i hx;have a:x∈put S.wr w.toNat [] i:=a;by_cases e:i=w.toNat
   ·rw[e,aE]at a;cases a
   ·rw[ax e]at a;exact⟨a,λz=>(qu.mp z).elim e b⟩
structure Cmp(C:PlC)(W:WS)(S:PlS)(no so:List Nat):Prop where
 no:∀x,x<C.n->W.post x=none->x∈S.tr\/(∃i,x∈S.wt i)\/x∈no
 so:∀x,x<C.n->∀hs,W.post x=some hs->(∃kv∈S.gv,x∈kv.2)\/(∃i,x∈S.wr i)\/x∈so
 full:∀i,∀x∈S.wr i,∃p∈S.held x,p.1.toNat=i/\cN (C.ls i) ((aA S i).length:Int)=false
 lack:∀i,∀x∈S.wt i,∃l∈bD (aA S) (C.prt x),l.toNat=i/\aA S i=[]
theorem pj{L:Option Int}{a b:Int}(h:cN L a=false)(le:a<=b):cN L b=false:=by
 cases L with
 |none=>cases h
 |some m=>
  have h:decide (a<m)=false:=h;show decide (b<m)=false;have:=of_decide_eq_false h;exact Q3 Yd
def aS(C:PlC)(xs:List Ln)(es:List Ent):WS:=es.foldl (bg C.prt C.pace) (bb xs)
theorem rB{C:PlC}{xs:List Ln}{es:List Ent}{e:Ent}:aS C xs (es++[e])=bg C.prt C.pace (aS C xs es) e:=by unfold aS;rw[List.foldl_append];rfl
def lM(C:PlC)(W:WS)(last k:Int):Prop:=last+1<k->¬ lP C.n C.ls W (k-1)/\∀x,x<C.n->¬ iT C.prt W x
structure Grp(C:PlC)(xs:List Ln)(es:List Ent)(k:Int)(gvs tks:List Ent):Prop where
 g:∀e∈gvs,e.now=k/\e.took=false
 t:∀e∈tks,e.now=k/\e.took=true
 last:bJ es<k
 start:gvs++tks≠[]->lM C (aS C xs es) (bJ es) k
 glad:¬ lP C.n C.ls (aS C xs (es++gvs)) k
structure sj(C:PlC)(xs:List Ln)(es g:List Ent):Prop where
 ex:∃k gvs tks,g=gvs++tks/\Grp C xs es k gvs tks
 ne:g≠[]
def fP(C:PlC)(xs:List Ln)(Gs:List (List Ent)):Prop:=∀gs g rest,Gs=gs++g::rest->sj C xs gs.flatten g/\∀x,x<C.n->¬ iT C.prt (aS C xs (gs.flatten++g)) x
theorem fP.snoc{C:PlC}{xs:List Ln}{Gs:List (List Ent)}{g:List Ent}(h:fP C xs Gs)(h1:sj C xs Gs.flatten g)(h2:∀x,x<C.n->¬ iT C.prt (aS C xs (Gs.flatten++g)) x):fP C xs (Gs++[g]):=λgs g' rest e=>by
 rcases List.eq_nil_or_concat rest with rfl|⟨r0,l0,rfl⟩
 ·have e:Gs++[g]=gs++[g']:=e;have e1:=List.append_inj' e U;obtain rfl:=e1.1;cases e1.2;exact⟨h1,h2⟩
 ·have e:Gs++[g]=(gs++g'::r0)++[l0]:=by rw[e];simp
  have e1:=List.append_inj' e U;exact h gs g' r0 e1.1
def NbP(C:PlC)(xs:List Ln)(S:PlS):Ph->Prop
 |.top=>(∃Gs,S.lg=Gs.flatten/\fP C xs Gs)/\Cmp C (aS C xs S.lg) S [] []/\(S.tr=[]\/(S.lg=[]/\S.gv=[(0,[])]))/\(∀k∈aF S.gv,bJ S.lg<k)/\∀kv∈S.gv,∀x∈kv.2,(aS C xs S.lg).due x=kv.1\/kv.1=bJ S.lg+1
 |.giv k r=>(∃Gs gvs,S.lg=Gs.flatten++gvs/\fP C xs Gs/\(∀e∈gvs,e.now=k/\e.took=false)/\bJ Gs.flatten<k/\(gvs≠[]->lM C (aS C xs Gs.flatten) (bJ Gs.flatten) k))/\Cmp C (aS C xs S.lg) S [] r/\(S.tr=[]\/bJ S.lg=k\/(k=0/\bJ S.lg=-1))/\(bJ S.lg+1<k->∀x∈r,(aS C xs S.lg).due x=k)/\(∀kv∈S.gv,∀x∈kv.2,(aS C xs S.lg).due x=kv.1)/\bJ S.lg<=k
 |.tak k r=>(∃Gs gvs tks,S.lg=Gs.flatten++(gvs++tks)/\fP C xs Gs/\Grp C xs Gs.flatten k gvs tks/\∀e∈tks,∀y∈r,e.part<y)/\Cmp C (aS C xs S.lg) S r []/\S.tr=[]/\(r=[]\/bJ S.lg=k\/(k=0/\bJ S.lg=-1))/\(∀kv∈S.gv,∀x∈kv.2,(aS C xs S.lg).due x=kv.1\/(kv.1=k+1/\bJ S.lg=k))/\bJ S.lg<=k
theorem Cmp.notReady{C:PlC}{W:WS}{S:PlS}{no so:List Nat}(c:Cmp C W S no so)(er:W.rows=aA S)(tr:S.tr=[]){x:Nat}(hx:x<C.n)(h:iT C.prt W x):x∈no:=by
 rcases c.no x hx h.1 with m|⟨i,m⟩|m
 ·rw[tr]at m;cases m
 ·obtain⟨l,hl,e,em⟩:=c.lack i x m;exact Q4 (by rw[er,e];exact em) (h.2 l (by rw[er];exact hl))
 ·exact m
theorem Cmp.notGlad{C:PlC}{W:WS}{S:PlS}{no so:List Nat}(c:Cmp C W S no so)(er:W.rows=aA S)(hw:∀i,∀x∈S.wr i,W.post x=some (S.held x)){t:Int}(hg:∀kv∈S.gv,∀x∈kv.2,t<W.due x)(hs:∀x∈so,t<W.due x):¬ lP C.n C.ls W t:=by
 rintro⟨x,hx,hs',hp,hd,ro⟩;rcases c.so x hx hs' hp with⟨kv,hk,m⟩|⟨i,m⟩|m
 ·have:=hg kv hk x m;omega
 ·obtain⟨p,hp',e,fu⟩:=c.full i x m;have e2:=hw i x m;rw[hp]at e2;cases e2;have:=ro p hp';rw[er,e]at this;rw[this]at fu;cases fu
 ·have:=hs x m;omega
theorem br.nob{C:PlC}(okC:∀x,x<C.n->(C.prt x).ok/\(C.prt x).fit C.nl)(n60:C.n<60)(nn:∀r∈C.pace,∀x∈r,0<=x)(dj:∀x y,x<C.n->y<C.n->x≠y->∀l∈bA (C.prt x),∀l'∈bA (C.prt y),l.toNat≠l'.toNat){xs:List Ln}{most:Nat}(g0:Gd C (bB (ci xs C.n most)+20) [] (ci xs C.n most)){ph:Ph}{S:PlS}(h:br C.ls C.prt C.pace (ci xs C.n most) ph S):NbP C xs S ph:=by
 induction h with
 |base=>
  refine⟨⟨[],U,λgs g rest e=>by simp at e⟩,⟨λx hx _=>.inl (List.mem_range.mpr hx),λx _ hs h=>(by cases h),λ_ _ h=>(nomatch h),λ_ _ h=>(nomatch h)⟩,.inr ⟨U,U⟩,λk hk=>?_,λkv hk x hx=>?_⟩
  ·rw[qS.mp hk];show(-1:Int)<0;decide
  ·rw[qS.mp hk]at hx;cases hx
 |@turn S k r h hk p rs ih=>
  obtain⟨⟨Gs,eg,cl⟩,c,tr,lk,du⟩:=ih;obtain⟨_,⟨now,I,_,_⟩,_⟩:=h.sim okC n60 nn g0;have lt:=lk k hk.1;have fk:=fI hk.1;refine⟨⟨Gs,[],by rw[qx];exact eg,cl,λ_ h=>(nomatch h),by rw[<- eg];exact lt,λz=>Q4 U z⟩,⟨c.no,λx hx hs hp=>?_,c.full,c.lack⟩,?_,λl1 x hx=>?_,λkv hv x hx=>?_,(by show bJ S.lg<=k;omega)⟩
  ·rcases c.so x hx hs hp with⟨kv,hv,m⟩|m|m
   ·by_cases e:kv.1=k
    ·refine .inr (.inr (p.mem_iff.mpr ?_))
     have:kv.2=atG S.gv k:=by
      have gk:(aF S.gv).Nodup:=(h.gd okC n60 g0).loc.elim λ_ L=>L.gk;rw[<- e];clear hk p lt fk
      have go:∀g:Gv,(aF g).Nodup->kv∈g->kv.2=atG g kv.1:=λg=>by
       induction g with
       |nil=>exact λ_ m=>(nomatch m)
       |cons a g ih=>
        intro nd m;have nd:a.1∉aF g/\(aF g).Nodup:=List.nodup_cons.mp nd;rw[show a::g=(a.1,a.2)::g from rfl,cI];rcases qu.mp m with rfl|m
        ·rw[Q0 U]
        ·rw[qZ λz=>nd.1 (by rw[z];exact List.mem_map.mpr ⟨kv,m,U⟩)];exact ih nd.2 m
      exact go _ gk hv
     rw[<- this];exact m
    ·exact .inl ⟨kv,List.mem_filter.mpr ⟨hv,Q1 e⟩,m⟩
   ·exact .inr (.inl m)
   ·cases m
  ·rcases tr with t|⟨t1,t2⟩
   ·exact .inl t
   ·refine .inr (.inr ⟨?_,by show bJ S.lg=-1;rw[t1];rfl⟩);have:=hk.1;rw[t2]at this;exact qS.mp this
  ·rcases du _ fk x (p.mem_iff.mp hx)with z|z
   ·exact z
   ·have z:k=bJ S.lg+1:=z;have l1:bJ S.lg+1<k:=l1;omega
  ·have hv:=List.mem_filter.mp hv;have ne:kv.1≠k:=Qc hv.2;have le:=hk.2 kv.1 (List.mem_map.mpr ⟨kv,hv.1,U⟩);rcases du kv hv.1 x hx with z|z
   ·exact z
   ·omega
 |@give S k x r h ih=>
  obtain⟨⟨Gs,gvs,eg,cl,hg,lg,st⟩,c,tr,rd,du,lk⟩:=ih;obtain⟨_,⟨I,k0,rs,rm,_⟩,_⟩:=h.sim okC n60 nn g0;obtain⟨⟨loc,L⟩,cp⟩:=h.gd okC n60 g0;have hx:=L.not.2.1;unfold cu;split
  ·rename_i q hq;have hq':=List.find?_some hq;have hqm:=List.mem_of_find?_eq_some hq;refine⟨⟨Gs,gvs,eg,cl,hg,lg,st⟩,⟨c.no,λy hy hs hp=>?_,λi y hy=>?_,c.lack⟩,tr,λl1 y hy=>rd l1 y (qk _ hy),du,lk⟩
   ·rcases c.so y hy hs hp with m|⟨i,m⟩|m
    ·exact .inl m
    ·refine .inr (.inl ⟨i,?_⟩);show y∈put S.wr q.1.toNat (S.wr q.1.toNat++[x]) i;by_cases e:i=q.1.toNat
     ·rw[e,aE];exact qV _ (e▸m)
     ·rw[ax e];exact m
    ·rcases qu.mp m with rfl|m
     ·refine .inr (.inl ⟨q.1.toNat,?_⟩);show y∈put S.wr q.1.toNat (S.wr q.1.toNat++[y]) q.1.toNat;rw[aE];exact qI _ (qS.mpr U)
     ·exact .inr (.inr m)
   ·have hy:y∈put S.wr q.1.toNat (S.wr q.1.toNat++[x]) i:=hy;by_cases e:i=q.1.toNat
    ·rw[e,aE]at hy;rcases qh.mp hy with hy|hy
     ·rw[e];exact c.full _ y hy
     ·rw[qS.mp hy,e];refine⟨q,hqm,U,?_⟩;unfold roomF at hq';have le:=(cp.st q.1.toNat).2
      have e:((aA S q.1.toNat).length:Int)=((S.st q.1.toNat).1.length:Int)-(S.st q.1.toNat).2:=by
       unfold aA;rw[qY];omega
      show cN (C.ls q.1.toNat) ((aA S q.1.toNat).length:Int)=false;rw[e];simpa using hq'
    ·rw[ax e]at hy;exact c.full i y hy
  ·rename_i hq;obtain⟨e1,e2,e3,e4,e5,e6⟩:=eX (S.held x) S;obtain⟨t1,t2,t3⟩:=pQ (S.held x) S;have le:∀i,(S.st i).2<=(S.st i).1.length:=λi=>(cp.st i).2
   have el:(dC S k x).lg=S.lg++[⟨k,x,false,S.held x⟩]:=by
    show((S.held x).foldl ak S).lg++_=_;rw[e3]
   have er:aA (dC S k x)=bT (aA S) (S.held x):=jS _ le
   have sk:lM C (aS C xs Gs.flatten) (bJ Gs.flatten) k:=by
    by_cases ne:gvs=[]
    ·rw[ne,qx]at eg;intro l1;rw[<- eg]at l1 ⊢;refine⟨c.notGlad I.rows (λi y hy=>(I.wr i y hy).1) (λkv hv y hy=>?_) (λy hy=>?_),λy hy hr=>?_⟩
     ·have:=du kv hv y hy;have:=(I.gv kv hv).1;omega
     ·have:=rd l1 y hy;omega
     ·have:=c.notReady I.rows (tr.resolve_right λz=>Yd) hy hr;cases this
    ·exact st ne
   have ew:aS C xs (dC S k x).lg={ aS C xs S.lg with rows:=bT (aS C xs S.lg).rows (S.held x),post:=put (aS C xs S.lg).post x none,l1:=k,l2:=0,l3:=x }:=by
    rw[el,rB]
    rfl
   refine⟨⟨Gs,gvs++[⟨k,x,false,S.held x⟩],by rw[el,eg,qN],cl,λe he=>?_,lg,λ_=>sk⟩,⟨λy hy hp=>?_,λy hy hs hp=>?_,λi y hy=>?_,λi y hy=>?_⟩,.inr (.inl (by rw[el,ix])),λl1=>?_,λkv hv y hy=>?_,by rw[el,ix];exact Int.le_refl _⟩
   ·rcases qh.mp he with he|he
    ·exact hg e he
    ·rw[qS.mp he];exact⟨U,U⟩
   ·rw[ew]at hp;have hp:put (aS C xs S.lg).post x none y=none:=hp;by_cases e:y=x
    ·exact .inl (qI _ (qS.mpr e))
    ·rw[ax e]at hp;rcases c.no y hy hp with m|⟨i,m⟩|m
     ·exact .inl (qV _ (t1 y m))
     ·rcases t2 i y m with m|m
      ·exact .inl (qV _ m)
      ·exact .inr (.inl ⟨i,m⟩)
     ·cases m
   ·rw[ew]at hp;have hp:put (aS C xs S.lg).post x none y=some hs:=hp;by_cases e:y=x
    ·rw[e,aE]at hp;cases hp
    ·rw[ax e]at hp;rcases c.so y hy hs hp with m|⟨i,m⟩|m
     ·refine .inl ?_;show ∃kv∈((S.held x).foldl ak S).gv,y∈kv.2;rw[e1];exact m
     ·refine .inr (.inl ⟨i,?_⟩);show y∈((S.held x).foldl ak S).wr i;rw[e6];exact m
     ·exact .inr (.inr ((qu.mp m).resolve_left e))
   ·have hy:y∈((S.held x).foldl ak S).wr i:=hy;rw[e6]at hy;obtain⟨p,hp,ep,fu⟩:=c.full i y hy;refine⟨p,?_,ep,?_⟩
    ·show p∈((S.held x).foldl ak S).held y;rw[e4];exact hp
    ·rw[er];obtain⟨s,es⟩:=kU (S.held x) (aA S) i;rw[es];exact pj fu (by rw[qb];omega)
   ·obtain⟨m,off⟩:=t3 i y hy;obtain⟨l,hl,ei,em⟩:=c.lack i y m;refine⟨l,?_,ei,?_⟩
    ·rw[er];exact sN hl (by rw[ei];exact off) (by rw[ei];exact em)
    ·rw[er,kT off];exact em
   ·rw[el,ix]at l1;have l1:k+1<k:=l1;omega
   ·have hv:kv∈((S.held x).foldl ak S).gv:=hv;rw[e1]at hv;rw[ew];exact du kv hv y hy
 |@half S k r h p rs ih=>
  obtain⟨⟨Gs,gvs,eg,cl,hg,lg,st⟩,c,tr,rd,du,lk⟩:=ih;obtain⟨_,⟨I,k0,_,_,_⟩,_⟩:=h.sim okC n60 nn g0;refine⟨⟨Gs,gvs,[],by rw[qx];exact eg,cl,⟨hg,λ_ h=>(nomatch h),lg,λz=>st (by rw[qx]at z;exact z),?_⟩,λ_ h=>(nomatch h)⟩,⟨λy hy hp=>?_,c.so,c.full,c.lack⟩,U,?_,λkv hv y hy=>.inl (du kv hv y hy),lk⟩
  ·rw[<- eg];exact c.notGlad I.rows (λi y hy=>(I.wr i y hy).1) (λkv hv y hy=>by have:=du kv hv y hy;have:=(I.gv kv hv).1;omega) (λy hy=>(nomatch hy))
  ·rcases c.no y hy hp with m|m|m
   ·exact .inr (.inr (p.mem_iff.mpr m))
   ·exact .inr (.inl m)
   ·cases m
  ·rcases tr with t|t
   ·rw[t]at p;exact .inl p.eq_nil
   ·exact .inr t
 |@wait S k i x r h hl ih=>
  obtain⟨⟨Gs,gvs,tks,eg,cl,gr,pr⟩,c,tr,rd,du,lk⟩:=ih;obtain⟨_,⟨I,k0,_,_,_⟩,_⟩:=h.sim okC n60 nn g0;refine⟨⟨Gs,gvs,tks,eg,cl,gr,λe he y hy=>pr e he y (qk _ hy)⟩,⟨λy hy hp=>?_,c.so,c.full,λj y hy=>?_⟩,tr,rd.imp (λz=>by cases z) id,du,lk⟩
  ·rcases c.no y hy hp with m|⟨j,m⟩|m
   ·exact .inl m
   ·refine .inr (.inl ⟨j,?_⟩);show y∈put S.wt i.toNat (S.wt i.toNat++[x]) j;by_cases e:j=i.toNat
    ·rw[e,aE];exact qV _ (e▸m)
    ·rw[ax e];exact m
   ·rcases qu.mp m with rfl|m
    ·refine .inr (.inl ⟨i.toNat,?_⟩);show y∈put S.wt i.toNat (S.wt i.toNat++[y]) i.toNat;rw[aE];exact qI _ (qS.mpr U)
    ·exact .inr (.inr m)
  ·have hy:y∈put S.wt i.toNat (S.wt i.toNat++[x]) j:=hy;by_cases e:j=i.toNat
   ·rw[e,aE]at hy;rcases qh.mp hy with hy|hy
    ·rw[e];exact c.lack _ y hy
    ·rw[qS.mp hy,e];refine⟨i,?_,U,?_⟩
     ·rw[show aA (fX S i.toNat x)=aA S from rfl,<- iX];exact List.mem_of_find?_eq_some hl
     ·exact List.isEmpty_iff.mp (List.find?_some (p:=λi:Int=>(aA S i.toNat).isEmpty) hl)
   ·rw[ax e]at hy;exact c.lack j y hy
 |@take S k x r h hl hs ih=>
  obtain⟨⟨Gs,gvs,tks,eg,cl,gr,pr⟩,c,tr,rd,du,lk⟩:=ih;obtain⟨_,⟨I,k0,rs,rm,_⟩,_⟩:=h.sim okC n60 nn g0;obtain⟨⟨loc,L⟩,cp⟩:=h.gd okC n60 g0;have hx:=L.not.2.1;have lt:=jT L rs;obtain⟨e1,e2,e3,e4,e5,e6,e7⟩:=eY k (aq S (C.prt x)) (bK (C.prt x) C.pace S k x);have el:(aU (C.prt x) C.pace S k x).lg=S.lg++[⟨k,x,true,(aq S (C.prt x)).zip ((aq S (C.prt x)).map (aN S))⟩]:=e3;have z2:((aq S (C.prt x)).zip ((aq S (C.prt x)).map (aN S))).map (·.2)=(aq S (C.prt x)).map (aN S):=List.map_snd_zip (by rw[q9];exact qe _)
  have er:aA (aU (C.prt x) C.pace S k x)=cS (aA S) ((aq S (C.prt x)).zip ((aq S (C.prt x)).map (aN S))):=by
   show(λi=>((aU (C.prt x) C.pace S k x).st i).1.drop ((aU (C.prt x) C.pace S k x).st i).2)=_;unfold aU;rw[e1,show(bK (C.prt x) C.pace S k x).st=bu S.st (aq S (C.prt x))from rfl,jR _ ((aq S (C.prt x)).map (aN S)) _ (by rw[q9])]
   rfl
  have off:∀y,y<C.n->y≠x->∀l∈bA (C.prt y),l.toNat∉((aq S (C.prt x)).zip ((aq S (C.prt x)).map (aN S))).map (λp=>p.1.toNat):=λy hy ne l hl z=>by
   obtain⟨q,hq,eq⟩:=List.mem_map.mp z;have:=(List.of_mem_zip (a:=q.1) (b:=q.2) hq).1;rw[iX]at this;exact dj y x hy hx ne l hl q.1 (fV this) eq.symm
  have ew:aS C xs (aU (C.prt x) C.pace S k x).lg={ rows:=cS (aS C xs S.lg).rows ((aq S (C.prt x)).zip ((aq S (C.prt x)).map (aN S))),post:=put (aS C xs S.lg).post x (some ((C.prt x).made ((aq S (C.prt x)).map (aN S)))),due:=put (aS C xs S.lg).due x (k+1+bI C.pace x ((aS C xs S.lg).tks x)),tks:=put (aS C xs S.lg).tks x ((aS C xs S.lg).tks x+1),l1:=k,l2:=1,l3:=x }:=by
   rw[el,rB];show WS.mk _ (put (aS C xs S.lg).post x (some ((C.prt x).made (((aq S (C.prt x)).zip ((aq S (C.prt x)).map (aN S))).map (·.2))))) _ _ _ _ _=_;rw[z2]
  have eh:(aU (C.prt x) C.pace S k x).held=put S.held x ((C.prt x).made ((aq S (C.prt x)).map (aN S))):=e4;have fm:=rb k (aq S (C.prt x)) (bK (C.prt x) C.pace S k x);have es:(aU (C.prt x) C.pace S k x).wt=S.wt/\(aU (C.prt x) C.pace S k x).tr=S.tr:=⟨e7,e6⟩;have lk2:bJ (aU (C.prt x) C.pace S k x).lg=k:=by rw[el,ix]
  have cne:gvs++tks≠[]\/k=0/\bJ S.lg=-1:=by
   rcases rd with z|z|z
   ·cases z
   ·refine .inl λe=>?_;rw[e,qx]at eg;have:=gr.last;rw[<- eg]at this;omega
   ·exact .inr z
  refine⟨⟨Gs,gvs,tks++[⟨k,x,true,(aq S (C.prt x)).zip ((aq S (C.prt x)).map (aN S))⟩],by rw[el,eg,qN,qN],cl,⟨gr.g,λe he=>?_,gr.last,λ_=>?_,gr.glad⟩,λe he y hy=>?_⟩,⟨λy hy hp=>?_,λy hy hs' hp=>?_,λi y hy=>?_,λi y hy=>?_⟩,by rw[es.2];exact tr,.inr (.inl lk2),λkv hv y hy=>?_,by rw[lk2];exact Int.le_refl _⟩
  ·rcases qh.mp he with he|he
   ·exact gr.t e he
   ·rw[qS.mp he];exact⟨U,U⟩
  ·rcases cne with z|⟨z1,z2⟩
   ·exact gr.start z
   ·intro l1;by_cases ce:gvs++tks=[]
    ·rw[ce,qx]at eg;rw[<- eg]at l1;omega
    ·exact gr.start ce l1
  ·rcases qh.mp he with he|he
   ·exact pr e he y (qk _ hy)
   ·rw[qS.mp he];exact lt y hy
  ·rw[ew]at hp;have hp:put (aS C xs S.lg).post x _ y=none:=hp;by_cases e:y=x
   ·rw[e,aE]at hp;cases hp
   ·rw[ax e]at hp;rw[es.1,es.2];rcases c.no y hy hp with m|m|m
    ·exact .inl m
    ·exact .inr (.inl m)
    ·exact .inr (.inr ((qu.mp m).resolve_left e))
  ·rw[ew]at hp;have hp:put (aS C xs S.lg).post x _ y=some hs':=hp;by_cases e:y=x
   ·exact .inl ((fm y).1 (iQ.2 (qS.mpr e)))
   ·rw[ax e]at hp;rcases c.so y hy hs' hp with m|⟨i,m⟩|m
    ·exact .inl ((fm y).1 (iQ (t:=k+1+bI C.pace x (S.tks x)) (ps:=[x]) |>.1 m))
    ·rcases(fm y).2.1 i m with m|m
     ·exact .inl m
     ·exact .inr (.inl ⟨i,m⟩)
    ·cases m
  ·obtain⟨m,offi⟩:=(fm y).2.2 i hy;have m:y∈S.wr i:=m;have ne:y≠x:=λz=>L.notin (L.wr i) nofun (z▸m)
   obtain⟨p,hp,ep,fu⟩:=c.full i y m;refine⟨p,by rw[eh,ax ne];exact hp,ep,?_⟩;rw[er,kn λz=>offi ?_]
   ·exact fu
   ·obtain⟨q,hq,eq⟩:=List.mem_map.mp z;exact List.mem_map.mpr ⟨q.1,(List.of_mem_zip (a:=q.1) (b:=q.2) hq).1,eq⟩
  ·rw[es.1]at hy;have ne:y≠x:=λz=>L.notin (L.wt i) nofun (z▸hy)
   have yn:=((L.wt i).2 y hy).1;obtain⟨l,hl',ei,em⟩:=c.lack i y hy;have eq:∀l∈bA (C.prt y),aA (aU (C.prt x) C.pace S k x) l.toNat=aA S l.toNat:=λl hl=>by rw[er];exact kn (off y yn ne l hl)
   refine⟨l,by rw[sL eq];exact hl',ei,?_⟩;rw[<- ei,eq l (fV hl'),ei];exact em
  ·rw[ew,lk2];show put (aS C xs S.lg).due x _ y=kv.1\/_
   have key:=kW (now:=k) (A:=λj y=>put (aS C xs S.lg).due x (k+1+bI C.pace x ((aS C xs S.lg).tks x)) y=j\/j=k+1) (B:=λ_=>True) (λy _=>.inr U) (aq S (C.prt x)) (bK (C.prt x) C.pace S k x) (by
    refine lD (t:=k+1+bI C.pace x (S.tks x)) (ps:=[x]) (A:=λj y=>put (aS C xs S.lg).due x (k+1+bI C.pace x ((aS C xs S.lg).tks x)) y=j\/j=k+1) (λkv hv=>⟨(I.gv kv hv).1,λy hy=>?_⟩) (by have:=nZ nn x (S.tks x);omega) λy hy=>?_
    ·have ne:y≠x:=λz=>L.notin (L.gv kv hv) nofun (z▸hy)
     rw[ax ne];exact(du kv hv y hy).imp id λz=>z.1
    ·rw[qS.mp hy,aE]
     exact .inl (by rw[show(aS C xs S.lg).tks=S.tks from I.tks])) (λ_ _ _=>trivial)
   rcases(key.1 kv hv).2 y hy with z|z
   ·exact .inl z
   ·exact .inr ⟨z,U⟩
 |@over S k h ih=>
  obtain⟨⟨Gs,gvs,tks,eg,cl,gr,pr⟩,c,tr,rd,du,lk⟩:=ih;obtain⟨_,⟨I,k0,_,_,_⟩,_⟩:=h.sim okC n60 nn g0;refine⟨?_,c,.inl tr,λj hj=>?_,λkv hv y hy=>(du kv hv y hy).imp id λz=>by rw[z.1,z.2]⟩
  ·by_cases ne:gvs++tks=[]
   ·exact⟨Gs,by rw[eg,ne,qx],cl⟩
   ·refine⟨Gs++[gvs++tks],by rw[eg,List.flatten_append,List.flatten_singleton],cl.snoc ⟨⟨k,gvs,tks,U,gr⟩,ne⟩ λy hy hr=>?_⟩;rw[<- eg]at hr;have:=c.notReady I.rows tr hy hr;cases this
  ·obtain⟨kv,hv,rfl⟩:=List.mem_map.mp hj;have:=(I.gv kv hv).1;omega
def sel(i:Nat)(ps:List (Int×Int)):List Int:=(ps.filter λp=>decide (p.1.toNat=i)).map (·.2)
theorem dw{i:Nat}{ps qs:List (Int×Int)}:sel i (ps++qs)=sel i ps++sel i qs:=by unfold sel;rw[Qr,qO]
theorem ue{i:Nat}:sel i []=[]:=U
theorem gW{i:Nat}{ps:List (Int×Int)}(h:∀p∈ps,p.1.toNat≠i):sel i ps=[]:=by
 unfold sel;rw[List.filter_eq_nil_iff.mpr λp hp=>by simpa using h p hp]
 rfl
theorem gX{i:Nat}{p:Int×Int}{ps:List (Int×Int)}:sel i (p::ps)=(if p.1.toNat=i then[p.2]else[])++sel i ps:=by
 unfold sel;by_cases c:p.1.toNat=i
 ·rw[List.filter_cons_of_pos (by simpa using c),Q0 c];rfl
 ·rw[List.filter_cons_of_neg (by simpa using c),qZ c];rfl
theorem iK:∀(ps:List (Int×Int))(f:Nat->List Int)(i:Nat),bT f ps i=f i++sel i ps
 |[],f,i=>(qx _).symm
 |p::ps,f,i=>by
  show bT (put f p.1.toNat (f p.1.toNat++[p.2])) ps i=_;rw[iK ps,gX];by_cases c:i=p.1.toNat
  ·rw[c,aE,Q0 U,qN]
  ·rw[ax c,qZ λz=>c z.symm];rfl
theorem oA:∀(ps:List (Int×Int))(f:Nat->List Int),(ps.map λp=>p.1.toNat).Nodup->(∀p∈ps,(f p.1.toNat).head?=some p.2)->∀i,f i=sel i ps++cS f ps i
 |[],f,_,_,i=>rfl
 |p::ps,f,nd,hd,i=>by
  have nd:p.1.toNat∉ps.map (λp=>p.1.toNat)/\(ps.map λp=>p.1.toNat).Nodup:=List.nodup_cons.mp nd
  have ih:=oA ps (put f p.1.toNat (f p.1.toNat).tail) nd.2 (λq hq=>by
   rw[ax λz=>nd.1 (by rw[<- z];exact List.mem_map.mpr ⟨q,hq,U⟩)]
   exact hd q (qk _ hq)) i
  show f i=sel i (p::ps)++cS (put f p.1.toNat (f p.1.toNat).tail) ps i;rw[gX];by_cases c:i=p.1.toNat
  ·rw[c,aE]at ih;rw[c,Q0 U,qN,<- ih];have:=hd p qm
   cases hf:f p.1.toNat with
   |nil=>rw[hf]at this;cases this
   |cons a as=>rw[hf]at this;cases this;rfl
  ·rw[ax c]at ih;rw[qZ λz=>c z.symm];exact ih
def tkS(es:List Ent)(x:Nat):List (List (Int×Int)):=(es.filter λe=>e.took && decide (e.part=x)).map (·.hs)
def gvS(es:List Ent)(x:Nat):List (List (Int×Int)):=(es.filter λe=>!e.took && decide (e.part=x)).map (·.hs)
def cZ(es:List Ent):List (Int×Int):=(es.filter λe=>e.took).flatMap (·.hs)
def dn(es:List Ent):List (Int×Int):=(es.filter λe=>!e.took).flatMap (·.hs)
theorem d7{es:List Ent}{e:Ent}{x:Nat}:tkS (es++[e]) x=tkS es x++(if e.took=true/\e.part=x then[e.hs]else[]):=by
 unfold tkS;rw[Qr,qO];by_cases c:e.took=true/\e.part=x
 ·rw[Q0 c,List.filter_cons_of_pos (by simp[c.1,c.2])];rfl
 ·rw[qZ c,List.filter_cons_of_neg (by simpa using λa=>λb=>c ⟨a,b⟩)];rfl
theorem iJ{es:List Ent}{e:Ent}{x:Nat}:gvS (es++[e]) x=gvS es x++(if e.took=false/\e.part=x then[e.hs]else[]):=by
 unfold gvS;rw[Qr,qO];by_cases c:e.took=false/\e.part=x
 ·rw[Q0 c,List.filter_cons_of_pos (by simp[c.1,c.2])];rfl
 ·rw[qZ c,List.filter_cons_of_neg (by simpa using λa=>λb=>c ⟨a,b⟩)];rfl
theorem lI{es:List Ent}{e:Ent}:cZ (es++[e])=cZ es++(if e.took=true then e.hs else[]):=by
 unfold cZ;rw[Qr,qU];by_cases c:e.took=true
 ·rw[Q0 c,List.filter_cons_of_pos (by simpa using c)];simp
 ·rw[qZ c,List.filter_cons_of_neg (by simpa using c)];rfl
theorem iS{es:List Ent}{e:Ent}:dn (es++[e])=dn es++(if e.took=false then e.hs else[]):=by
 unfold dn;rw[Qr,qU];by_cases c:e.took=false
 ·rw[Q0 c,List.filter_cons_of_pos (by simpa using c)];simp
 ·rw[qZ c,List.filter_cons_of_neg (by simpa using c)];rfl
def ap(xs:List Ln)(es:List Ent)(i:Nat):List Int:=(bv xs i).2++sel i (dn es)
def mdF(prt:Nat->PR)(x:Nat)(hs:List (Int×Int)):List (Int×Int):=(prt x).made (hs.map (·.2))
theorem pf:∀{r:PR}{ts:List Int}{p:Int×Int},p∈r.made ts->p.1∈bV r
 |.pass _ outs _,_,p,h=>(List.of_mem_zip (a:=p.1) (b:=p.2) h).1
 |.work ..,_,p,h=>by rw[qS.mp h];exact qS.mpr U
 |.choose _ w o n t,ts,p,h=>by
  have h:p∈(if ts.getD w.toNat 0=0 then n.zip ts++[(t,0)]else o.zip ts++[(t,1)]):=h;show p.1∈o++n++[t];split at h
  ·rcases qh.mp h with h|h
   ·exact qV _ (qI _ (List.of_mem_zip (a:=p.1) (b:=p.2) h).1)
   ·rw[qS.mp h];exact qI _ (qS.mpr U)
  ·rcases qh.mp h with h|h
   ·exact qV _ (qV _ (List.of_mem_zip (a:=p.1) (b:=p.2) h).1)
   ·rw[qS.mp h];exact qI _ (qS.mpr U)
 |.merge _ _ _ outs,_,p,h=>(List.of_mem_zip (a:=p.1) (b:=p.2) h).1
structure Kh(n:Nat)(prt:Nat->PR)(xs:List Ln)(W:WS)(es:List Ent):Prop where
 rows:∀i,ap xs es i=sel i (cZ es)++W.rows i
 post:∀x,(W.post x=none/\gvS es x=(tkS es x).map (mdF prt x))\/∃hs ts,W.post x=some (mdF prt x hs)/\tkS es x=ts++[hs]/\gvS es x=ts.map (mdF prt x)
 tk:∀e∈es,e.took=true->e.part<n/\∀p∈e.hs,p.1∈bA (prt e.part)
 gv:∀e∈es,e.took=false->e.part<n/\∀p∈e.hs,p.1∈bV (prt e.part)
theorem fW{n nl:Nat}{ls:Nat->Option Int}{prt:Nat->PR}{pace:List (List Int)}:∀{es:List Ent}{W:WS}{e:Ent},bH n nl ls prt pace W (es++[e])->bH n nl ls prt pace W es/\OkE n nl ls prt (es.foldl (bg prt pace) W) e
 |[],_,_,h=>⟨trivial,h.1⟩
 |_::es,_,_,h=>let ⟨a,b⟩:=fW (es:=es) h.2;⟨⟨h.1,a⟩,b⟩
theorem ff{P:List Ent->Prop}(h0:P [])(hs:∀es e,P es->P (es++[e])):∀es,P es:=λes=>by
 have go:∀(n:Nat)(es:List Ent),es.length=n->P es:=by
  intro n
  induction n with
  |zero=>intro es h;rw[List.length_eq_zero_iff.mp h];exact h0
  |succ n ih=>
   intro es h;have ne:es≠[]:=λz=>by rw[z]at h;cases h
   rw[<- List.dropLast_concat_getLast ne];exact hs _ _ (ih _ (by rw[List.length_dropLast,h];rfl))
 exact go _ es U
theorem dz{n nl:Nat}{ls:Nat->Option Int}{prt:Nat->PR}{pace:List (List Int)}{xs:List Ln}:∀es:List Ent,bH n nl ls prt pace (bb xs) es->Kh n prt xs (es.foldl (bg prt pace) (bb xs)) es:=by
 refine ff (λ_=>⟨λi=>by unfold ap dn;simp[sel];rfl,λx=>.inl ⟨U,U⟩,λ_ h=>(nomatch h),λ_ h=>(nomatch h)⟩) λes e ih w=>?_;obtain⟨w,O⟩:=fW w;have k:=ih w;rw[List.foldl_append];generalize es.foldl (bg prt pace) (bb xs)=W at k O;show Kh n prt xs (bg prt pace W e) (es++[e]);unfold bg
 cases tk:e.took with
 |true=>
  rw[Q0 U];obtain⟨o1,o2,o3,o4⟩:=O.tk tk;have nf:¬ (e.took=false):=by rw[tk];decide
  refine⟨λi=>?_,λx=>?_,λe' he' t'=>?_,λe' he' t'=>?_⟩
  ·unfold ap;rw[iS,lI,Q0 tk,qZ nf,qx,dw];show _=(sel i (cZ es)++sel i e.hs)++cS W.rows e.hs i;rw[qN,<- oA e.hs W.rows O.hs.nd o3 i];exact k.rows i
  ·rw[d7,iJ,qZ λz=>nf z.1,qx];by_cases c:x=e.part
   ·rw[Q0 ⟨tk,c.symm⟩];refine .inr ⟨e.hs,tkS es x,?_,U,?_⟩
    ·show put W.post e.part _ x=_;rw[c,aE];rfl
    ·rcases k.post x with z|⟨hs,ts,z,_⟩
     ·exact z.2
     ·rw[c,o1]at z;cases z
   ·rw[qZ λz=>c z.2.symm,qx];show(put W.post e.part _ x=none/\_)\/∃hs ts,put W.post e.part _ x=_/\_;rw[ax c];exact k.post x
  ·rcases qh.mp he' with he'|he'
   ·exact k.tk e' he' t'
   ·rw[qS.mp he'];refine⟨O.part,λp hp=>fV (f:=W.rows) ?_⟩;rw[<- o2];exact List.mem_map.mpr ⟨p,hp,U⟩
  ·rcases qh.mp he' with he'|he'
   ·exact k.gv e' he' t'
   ·rw[qS.mp he',tk]at t';cases t'
 |false=>
  rw[qZ Qz];obtain⟨o1,o2,o3⟩:=O.gv tk;have nt:¬ (e.took=true):=by rw[tk];decide
  refine⟨λi=>?_,λx=>?_,λe' he' t'=>?_,λe' he' t'=>?_⟩
  ·unfold ap;rw[iS,lI,Q0 tk,qZ nt,qx,dw];show _=sel i (cZ es)++bT W.rows e.hs i;have kr:=k.rows i;unfold ap at kr;rw[iK,<- qN,<- qN,<- kr]
  ·have et:tkS (es++[e]) x=tkS es x:=by rw[d7,qZ λz=>nt z.1,qx]
   rw[et,iJ];by_cases c:x=e.part
   ·rw[Q0 ⟨tk,c.symm⟩];refine .inl ⟨by show put W.post e.part none x=none;rw[c,aE],?_⟩;rcases k.post x with z|⟨hs,ts,z1,z2,z3⟩
    ·have:=z.1;rw[c,o1]at this;cases this
    ·rw[c,o1]at z1;have z1:=qJ z1;rw[z2,z3,qO,z1,c]
     rfl
   ·rw[qZ λz=>c z.2.symm,qx];show(put W.post e.part none x=none/\_)\/∃hs ts,put W.post e.part none x=_/\_;rw[ax c];exact k.post x
  ·rcases qh.mp he' with he'|he'
   ·exact k.tk e' he' t'
   ·rw[qS.mp he',tk]at t';cases t'
  ·rcases qh.mp he' with he'|he'
   ·exact k.gv e' he' t'
   ·rw[qS.mp he'];refine⟨O.part,λp hp=>?_⟩;rcases k.post e.part with z|⟨hs,ts,z1,_⟩
    ·have:=z.1;rw[o1]at this;cases this
    ·rw[o1]at z1;rw[qJ z1]at hp;exact pf hp
def Cb{α:Type}(a b:List α):Prop:=a <+: b\/b <+: a
theorem Cb.sub{α:Type}{a b a' b':List α}(h:Cb a b)(ha:a' <+: a)(hb:b' <+: b):Cb a' b':=by
 rcases h with h|h
 ·exact List.prefix_or_prefix_of_prefix (ha.trans h) hb
 ·exact(List.prefix_or_prefix_of_prefix (hb.trans h) ha).symm
theorem kj{α β:Type}{f:α->β}{a b:List α}(h:a <+: b):a.map f <+: b.map f:=by
 obtain⟨c,rfl⟩:=h;exact⟨c.map f,qO.symm⟩
theorem ie{α:Type}{a b:List (List α)}(h:a <+: b):a.flatten <+: b.flatten:=by
 obtain⟨c,rfl⟩:=h;exact⟨c.flatten,List.flatten_append.symm⟩
theorem gw{i:Nat}{a b:List (Int×Int)}(h:a <+: b):sel i a <+: sel i b:=by
 obtain⟨c,rfl⟩:=h;exact⟨sel i c,dw.symm⟩
theorem ic{α:Type}{c a b:List α}(h:a <+: b):c++a <+: c++b:=by
 obtain⟨d,rfl⟩:=h;exact⟨d,qN _ _ _⟩
theorem Cb.lift{α β:Type}{g:List α->List β}(mono:∀{a b:List α},a <+: b->g a <+: g b){a b:List α}(h:Cb a b):Cb (g a) (g b):=h.imp (λz=>mono z) λz=>mono z
theorem Cb.cancel{α:Type}{c a b:List α}(h:Cb (c++a) (c++b)):Cb a b:=h.imp (λz=>List.prefix_append_right_inj c |>.mp z) λz=>List.prefix_append_right_inj c |>.mp z
theorem Cb.head{α:Type}{a b:List α}{x y:α}(h:Cb a b)(ha:a.head?=some x)(hb:b.head?=some y):x=y:=by
 cases a with
 |nil=>cases ha
 |cons u a=>
  cases b with
  |nil=>cases hb
  |cons v b=>
   cases ha;cases hb;rcases h with⟨c,h⟩|⟨c,h⟩
   ·cases h;rfl
   ·cases h;rfl
theorem fz{α:Type}{a b:List α}(h:Cb a b)(le:a.length<=b.length):a <+: b:=by
 rcases h with h|h
 ·exact h
 ·have:=h.eq_of_length_le le;rw[this];exact List.prefix_refl _
section
variable {n:Nat}{prt:Nat->PR}{xs:List Ln}
structure Uq(n:Nat)(prt:Nat->PR):Prop where
 t:∀x y,x<n->y<n->x≠y->∀l∈bA (prt x),∀l'∈bA (prt y),l.toNat≠l'.toNat
 g:∀x y,x<n->y<n->x≠y->∀l∈bV (prt x),∀l'∈bV (prt y),l.toNat≠l'.toNat
theorem dL(u:Uq n prt){x:Nat}(hx:x<n){l:Int}(hl:l∈bA (prt x)):∀es:List Ent,(∀e∈es,e.took=true->e.part<n/\∀p∈e.hs,p.1∈bA (prt e.part))->sel l.toNat (cZ es)=sel l.toNat (tkS es x).flatten:=by
 refine ff (λ_=>U) λes e ih h=>?_;have ih:=ih λe he=>h e (qV _ he);rw[lI,d7,List.flatten_append,dw,dw,ih]
 congr 1
 by_cases tk:e.took=true
 ·obtain⟨pn,pl⟩:=h e (qI _ (qS.mpr U)) tk;rw[Q0 tk];by_cases c:e.part=x
  ·rw[Q0 ⟨tk,c⟩,List.flatten_singleton]
  ·rw[qZ λz=>c z.2];exact gW λp hp z=>u.t e.part x pn hx c p.1 (pl p hp) l hl z
 ·rw[qZ tk,qZ λz=>tk z.1];rfl
theorem dM(u:Uq n prt){x:Nat}(hx:x<n){l:Int}(hl:l∈bV (prt x)):∀es:List Ent,(∀e∈es,e.took=false->e.part<n/\∀p∈e.hs,p.1∈bV (prt e.part))->sel l.toNat (dn es)=sel l.toNat (gvS es x).flatten:=by
 refine ff (λ_=>U) λes e ih h=>?_;have ih:=ih λe he=>h e (qV _ he);rw[iS,iJ,List.flatten_append,dw,dw,ih]
 congr 1
 by_cases tk:e.took=false
 ·obtain⟨pn,pl⟩:=h e (qI _ (qS.mpr U)) tk;rw[Q0 tk];by_cases c:e.part=x
  ·rw[Q0 ⟨tk,c⟩,List.flatten_singleton]
  ·rw[qZ λz=>c z.2];exact gW λp hp z=>u.g e.part x pn hx c p.1 (pl p hp) l hl z
 ·rw[qZ tk,qZ λz=>tk z.1];rfl
theorem kD{i:Nat}(no:∀x,x<n->∀l∈bA (prt x),l.toNat≠i):∀es:List Ent,(∀e∈es,e.took=true->e.part<n/\∀p∈e.hs,p.1∈bA (prt e.part))->sel i (cZ es)=[]:=λes h=>by
 refine gW λp hp=>?_;obtain⟨e,he,hp⟩:=List.mem_flatMap.mp hp;have he:=List.mem_filter.mp he;obtain⟨pn,pl⟩:=h e he.1 he.2;exact no e.part pn p.1 (pl p hp)
theorem fF{i:Nat}(no:∀x,x<n->∀l∈bV (prt x),l.toNat≠i):∀es:List Ent,(∀e∈es,e.took=false->e.part<n/\∀p∈e.hs,p.1∈bV (prt e.part))->sel i (dn es)=[]:=λes h=>by
 refine gW λp hp=>?_;obtain⟨e,he,hp⟩:=List.mem_flatMap.mp hp;have he:=List.mem_filter.mp he;obtain⟨pn,pl⟩:=h e he.1 (by simpa using he.2);exact no e.part pn p.1 (pl p hp)
theorem Kh.gvT{W:WS}{es:List Ent}(k:Kh n prt xs W es)(x:Nat):gvS es x <+: (tkS es x).map (mdF prt x):=by
 rcases k.post x with⟨_,z⟩|⟨hs,ts,_,z1,z2⟩
 ·rw[z];exact List.prefix_refl _
 ·rw[z1,z2,qO];exact List.prefix_append _ _
theorem pP(u:Uq n prt){W W':WS}{es es':List Ent}(k:Kh n prt xs W es)(k':Kh n prt xs W' es')(h:∀x,Cb (tkS es x) (tkS es' x))(i:Nat):Cb (ap xs es i) (ap xs es' i):=by
 by_cases c:∃x,x<n/\∃l∈bV (prt x),l.toNat=i
 ·obtain⟨x,hx,l,hl,rfl⟩:=c;unfold ap;rw[dM u hx hl es k.gv,dM u hx hl es' k'.gv];have h1:Cb (gvS es x) (gvS es' x):=((h x).lift (g:=λl=>l.map (mdF prt x)) λz=>kj z).sub (k.gvT x) (k'.gvT x);exact h1.lift (g:=λg=>(bv xs l.toNat).2++sel l.toNat g.flatten) λz=>ic (gw (ie z))
 ·have no:∀x,x<n->∀l∈bV (prt x),l.toNat≠i:=λx hx l hl z=>c ⟨x,hx,l,hl,z⟩;unfold ap;rw[fF no es k.gv,fF no es' k'.gv];exact .inl (List.prefix_refl _)
theorem pO{es fs:List Ent}(i:Nat):ap xs es i <+: ap xs (es++fs) i:=by
 unfold ap dn;rw[Qr,qU];exact ic (gw (List.prefix_append _ _))
theorem yS{x:Nat}:∀(es:List Ent)(t:Nat),t<(tkS es x).length->∃es0 e rest,es=es0++e::rest/\e.took=true/\e.part=x/\tkS es0 x=(tkS es x).take t/\(tkS es x)[t]?=some e.hs:=by
 refine ff (λt h=>by simp[tkS]at h) λes e ih t h=>?_;by_cases lt:t<(tkS es x).length
 ·obtain⟨es0,e0,rest,h1,h2,h3,h4,h5⟩:=ih t lt;refine⟨es0,e0,rest++[e],by rw[h1];simp,h2,h3,?_,?_⟩
  ·rw[h4,d7,List.take_append_of_le_length Yd]
  ·rw[d7,Q5 lt];exact h5
 ·rw[d7]at h;have c:e.took=true/\e.part=x:=Decidable.byContradiction λz=>by rw[qZ z,qx]at h;exact lt h
  rw[Q0 c,qb,Q6]at h;have et:t=(tkS es x).length:=Yd;refine⟨es,e,[],U,c.1,c.2,?_,?_⟩
  ·rw[d7,et,List.take_append_of_le_length (qe _),qH]
  ·rw[d7,Q0 c,et,qL (qe _),Nat.sub_self];rfl
theorem uO{f f':Nat->List Int}{r:PR}{hs hs':List (Int×Int)}(cb:∀l∈bA r,Cb (f l.toNat) (f' l.toNat))(h1:hs.map (·.1)=bD f r)(h2:∀p∈hs,(f p.1.toNat).head?=some p.2)(h1':hs'.map (·.1)=bD f' r)(h2':∀p∈hs',(f' p.1.toNat).head?=some p.2):hs=hs':=by
 have we:bD f r=bD f' r:=by
  cases r with
  |pass=>rfl
  |work=>rfl
  |choose=>rfl
  |merge t o nn outs=>
   have ct:=cb t (qI _ (qS.mpr U));have w1:bD f (.merge t o nn outs)=match f t.toNat with|[]=>[t]|x::_=>t::(if x=0 then nn else o):=U
   have w2:bD f' (.merge t o nn outs)=match f' t.toNat with|[]=>[t]|x::_=>t::(if x=0 then nn else o):=U
   have ne:∀{g:Nat->List Int}{gs:List (Int×Int)},gs.map (·.1)=bD g (.merge t o nn outs)->(∀p∈gs,(g p.1.toNat).head?=some p.2)->∃a as,g t.toNat=a::as:=λ{g gs} a1 a2=>by
    have:t∈gs.map (·.1):=by
     rw[a1];show t∈(match g t.toNat with|[]=>[t]|x::_=>t::(if x=0 then nn else o));cases g t.toNat<;>exact qm
    obtain⟨p,hp,e⟩:=List.mem_map.mp this;have:=a2 p hp;rw[show p.1=t from e]at this
    cases hg:g t.toNat with
    |nil=>rw[hg]at this;cases this
    |cons a as=>exact⟨a,as,U⟩
   obtain⟨a,as,ea⟩:=ne h1 h2;obtain⟨b,bs,eb⟩:=ne h1' h2';rw[ea,eb]at ct;have e:=ct.head (x:=a) (y:=b) U U;rw[w1,w2,ea,eb,e]
 have ml:hs.map (·.1)=hs'.map (·.1):=by rw[h1,h1',we]
 have ll:hs.length=hs'.length:=by have:=congrArg List.length ml;rwa [q9,q9]at this
 refine List.ext_getElem ll λj a b=>?_
 have e1:hs[j].1=hs'[j].1:=by
  have:=congrArg (λl=>l[j]?) ml;simp only[qE,qc a,qc b]at this;simpa using this
 have p1:=h2 _ (List.getElem_mem a);have p2:=h2' _ (List.getElem_mem b);rw[<- e1]at p2;have m1:hs[j].1∈bA r:=fV (f:=f) (by rw[<- h1];exact List.mem_map.mpr ⟨_,List.getElem_mem a,U⟩);exact Prod.ext e1 ((cb _ m1).head p1 p2)
theorem lx(u:Uq n prt){nl:Nat}{ls:Nat->Option Int}{pace pace':List (List Int)}{es':List Ent}(w':bH n nl ls prt pace' (bb xs) es'):∀es:List Ent,bH n nl ls prt pace (bb xs) es->∀x,Cb (tkS es x) (tkS es' x):=by
 refine ff (λ_ x=>.inl (List.nil_prefix)) λes e ih w x=>?_;obtain⟨w,O⟩:=fW w;have ih:=ih w;rw[d7];by_cases c:e.took=true/\e.part=x
 ·rw[Q0 c];obtain⟨tk,rfl⟩:=c;by_cases lt:(tkS es e.part).length<(tkS es' e.part).length
  ·have pre:=fz (ih e.part) (Nat.le_of_lt lt);obtain⟨es0,e0,rest,h1,h2,h3,h4,h5⟩:=yS es' _ lt;have e4:tkS es0 e.part=tkS es e.part:=by rw[h4];exact(List.prefix_iff_eq_take.mp pre).symm
   have w0:bH n nl ls prt pace' (bb xs) (es0++[e0]):=by
    have go:∀(a b:List Ent)(W:WS),bH n nl ls prt pace' W (a++b)->bH n nl ls prt pace' W a:=by
     intro a
     induction a with
     |nil=>exact λ_ _ _=>trivial
     |cons y a iha=>exact λb W h=>⟨h.1,iha b _ h.2⟩
    exact go _ rest _ (by rw[qN];exact(h1▸w':bH n nl ls prt pace' (bb xs) (es0++e0::rest)))
   obtain⟨w0,O0⟩:=fW w0;have k:=dz es w;have k0:=dz es0 w0;have k':=dz es' w';obtain⟨_,a2,a3,_⟩:=O.tk tk;obtain⟨_,b2,b3,_⟩:=O0.tk h2;rw[h3]at b2;have hpe:=O.part
   have eq:e.hs=e0.hs:=by
    refine uO (λl hl=>?_) a2 a3 b2 b3;have hc:=(pP u k k' ih l.toNat).sub (List.prefix_refl _) (by rw[h1];exact pO (fs:=e0::rest) l.toNat:ap xs es0 l.toNat <+: ap xs es' l.toNat);rw[k.rows,k0.rows,dL u hpe hl es k.tk,dL u hpe hl es0 k0.tk,e4]at hc;exact hc.cancel
   refine .inl ?_;rw[eq,List.prefix_iff_eq_take,qb,Q6,qr,h5,<- List.prefix_iff_eq_take.mp pre]
   rfl
  ·have pre:=fz (ih e.part).symm Yd;exact .inr (pre.trans (List.prefix_append _ _))
 ·rw[qZ c,qx];exact ih x
end
structure gK(n:Nat)(ls:Nat->Option Int)(prt:Nat->PR)(W:WS):Prop where
 no:∀x,x<n->W.post x=none->∃l∈bD W.rows (prt x),W.rows l.toNat=[]
 so:∀x,x<n->∀hs,W.post x=some hs->∃p∈hs,cN (ls p.1.toNat) ((W.rows p.1.toNat).length:Int)=false
section
variable {n:Nat}{prt:Nat->PR}{xs:List Ln}
theorem Kh.lens{W:WS}{es:List Ent}(k:Kh n prt xs W es)(x:Nat):(gvS es x).length<=(tkS es x).length/\(tkS es x).length<=(gvS es x).length+1/\(W.post x=none↔(gvS es x).length=(tkS es x).length):=by
 rcases k.post x with⟨z0,z⟩|⟨hs,ts,z0,z1,z2⟩
 ·rw[z,q9];exact⟨qe _,Nat.le_succ _,λ_=>U,λ_=>z0⟩
 ·rw[z1,z2,q9,qb,Q6];exact⟨Nat.le_succ _,qe _,λz=>(by rw[z0]at z;cases z),λz=>Yd⟩
theorem sM{f f':Nat->List Int}:∀{r:PR},(∀l∈bA r,f l.toNat <+: f' l.toNat)->(∀l∈bD f r,f l.toNat≠[])->bD f' r=bD f r
 |.pass ..,_,_=>rfl
 |.work ..,_,_=>rfl
 |.choose ..,_,_=>rfl
 |.merge t o nn outs,h,ne=>by
  have w1:bD f (.merge t o nn outs)=match f t.toNat with|[]=>[t]|x::_=>t::(if x=0 then nn else o):=U
  have w2:bD f' (.merge t o nn outs)=match f' t.toNat with|[]=>[t]|x::_=>t::(if x=0 then nn else o):=U
  have pt:=h t (qI _ (qS.mpr U));have nt:=ne t (by rw[w1];cases f t.toNat<;>exact qm);rw[w1,w2]
  cases e:f t.toNat with
  |nil=>exact Q4 e nt
  |cons a as=>
   rw[e]at pt;obtain⟨c,hc⟩:=pt;rw[<- hc]
   rfl
theorem j8(u:Uq n prt){nl:Nat}{ls:Nat->Option Int}{pace pace':List (List Int)}{es':List Ent}(w':bH n nl ls prt pace' (bb xs) es')(sk:gK n ls prt (es'.foldl (bg prt pace') (bb xs))):∀es:List Ent,bH n nl ls prt pace (bb xs) es->∀x,(tkS es x).length<=(tkS es' x).length/\(gvS es x).length<=(gvS es' x).length:=by
 have k':=dz es' w';refine ff (λ_ x=>⟨qt _,qt _⟩) λes e ih w x=>?_;obtain⟨w,O⟩:=fW w;have ih:=ih w;have k:=dz es w;have cb:=lx u w' es w;have preT:∀y,tkS es y <+: tkS es' y:=λy=>fz (cb y) (ih y).1;have preG:∀y,gvS es y <+: gvS es' y:=λy=>fz (((cb y).lift (g:=λl=>l.map (mdF prt y)) λz=>kj z).sub (k.gvT y) (k'.gvT y)) (ih y).2
 have preH:∀i,ap xs es i <+: ap xs es' i:=λi=>by
  by_cases c:∃x,x<n/\∃l∈bV (prt x),l.toNat=i
  ·obtain⟨y,hy,l,hl,rfl⟩:=c;unfold ap;rw[dM u hy hl es k.gv,dM u hy hl es' k'.gv];exact ic (gw (ie (preG y)))
  ·have no:∀x,x<n->∀l∈bV (prt x),l.toNat≠i:=λx hx l hl z=>c ⟨x,hx,l,hl,z⟩;unfold ap;rw[fF no es k.gv,fF no es' k'.gv];exact List.prefix_refl _
 rw[d7,iJ];have hpe:=O.part;by_cases c:e.part=x
 ·subst c;have le:=ih e.part;have kl:=k.lens e.part;have kl':=k'.lens e.part
  cases tk:e.took with
  |true=>
   rw[Q0 ⟨U,U⟩,qZ (λz=>by cases z.1),qx,qb,Q6];refine⟨?_,le.2⟩;by_cases lt:(tkS es e.part).length<(tkS es' e.part).length
   ·omega
   exfalso;obtain⟨o1,o2,o3,_⟩:=O.tk tk;have g0:=kl.2.2.mp o1;have eT:tkS es e.part=tkS es' e.part:=(preT e.part).eq_of_length_le Yd;obtain⟨l,hl,em⟩:=sk.no e.part hpe (kl'.2.2.mpr Yd);generalize es.foldl (bg prt pace) (bb xs)=W at k o1 o2 o3;generalize es'.foldl (bg prt pace') (bb xs)=W' at k' hl em
   have pr:∀l∈bA (prt e.part),W.rows l.toNat <+: W'.rows l.toNat:=λl hl=>by
    have h:=preH l.toNat;rw[k.rows,k'.rows,dL u hpe hl es k.tk,dL u hpe hl es' k'.tk,eT]at h;exact(List.prefix_append_right_inj _).mp h
   have ne:∀l∈bD W.rows (prt e.part),W.rows l.toNat≠[]:=λl hl z=>by
    rw[<- o2]at hl;obtain⟨p,hp,rfl⟩:=List.mem_map.mp hl;have:=o3 p hp;rw[z]at this;cases this
   rw[sM pr ne]at hl;have:=pr l (fV hl);rw[em]at this;exact ne l hl (List.prefix_nil.mp this)
  |false=>
   rw[qZ (λz=>by cases z.1),Q0 ⟨U,U⟩,qx,qb,Q6];refine⟨le.1,?_⟩;by_cases lt:(gvS es e.part).length<(gvS es' e.part).length
   ·omega
   exfalso;obtain⟨o1,o2,o3⟩:=O.gv tk;have n0:(gvS es e.part).length≠(tkS es e.part).length:=λz=>by have:=kl.2.2.mpr z;rw[o1]at this;cases this
   have eT:tkS es e.part=tkS es' e.part:=(preT e.part).eq_of_length_le Yd;have eG:gvS es e.part=gvS es' e.part:=(preG e.part).eq_of_length_le Yd
   have p':(es'.foldl (bg prt pace') (bb xs)).post e.part=some e.hs:=by
    rcases k'.post e.part with⟨z,_⟩|⟨hs',ts',z0,z1,z2⟩
    ·have:=kl'.2.2.mp z;rw[eT,eG]at n0;exact Q4 this n0
    ·rcases k.post e.part with⟨y,_⟩|⟨hs,ts,y0,y1,y2⟩
     ·rw[o1]at y;cases y
     ·rw[eT,z1]at y1;have e1:=List.append_inj' y1 U;cases e1.2;rw[z0,<- y0,o1]
   obtain⟨p,hp,fu⟩:=sk.so e.part hpe e.hs p'
   have pm:p.1∈bV (prt e.part):=by
    rcases k.post e.part with⟨y,_⟩|⟨hs,ts,y0,_⟩
    ·rw[o1]at y;cases y
    ·rw[o1]at y0;rw[qJ y0]at hp;exact pf hp
   have room:=o3 p hp;generalize es.foldl (bg prt pace) (bb xs)=W at k room;generalize es'.foldl (bg prt pace') (bb xs)=W' at k' fu
   have eH:ap xs es p.1.toNat=ap xs es' p.1.toNat:=by
    unfold ap;rw[dM u hpe pm es k.gv,dM u hpe pm es' k'.gv,eG]
   have r1:=congrArg List.length (k.rows p.1.toNat);have r2:=congrArg List.length (k'.rows p.1.toNat);rw[qb]at r1 r2
   have cl:(sel p.1.toNat (cZ es)).length<=(sel p.1.toNat (cZ es')).length:=by
    by_cases c:∃x,x<n/\∃l∈bA (prt x),l.toNat=p.1.toNat
    ·obtain⟨y,hy,l,hl,el⟩:=c;rw[<- el,dL u hy hl es k.tk,dL u hy hl es' k'.tk];exact(gw (ie (preT y))).length_le
    ·have no:∀x,x<n->∀l∈bA (prt x),l.toNat≠p.1.toNat:=λx hx l hl z=>c ⟨x,hx,l,hl,z⟩;rw[kD no es k.tk];exact qt _
   rw[eH]at r1;have:=pj fu (b:=((W.rows p.1.toNat).length:Int)) Yd;rw[room]at this;cases this
 ·rw[qZ λz=>c z.2,qZ λz=>c z.2,qx,qx];exact ih x
theorem iE(u:Uq n prt){nl:Nat}{ls:Nat->Option Int}{pace pace':List (List Int)}{es es':List Ent}(w:bH n nl ls prt pace (bb xs) es)(w':bH n nl ls prt pace' (bb xs) es'):(∀i,Cb (ap xs es i) (ap xs es' i))/\(gK n ls prt (es'.foldl (bg prt pace') (bb xs))->∀i,ap xs es i <+: ap xs es' i):=by
 have k:=dz es w;have k':=dz es' w';have cb:=lx u w' es w;refine⟨pP u k k' cb,λsk i=>?_⟩;have le:=j8 u w' sk es w;by_cases c:∃x,x<n/\∃l∈bV (prt x),l.toNat=i
 ·obtain⟨y,hy,l,hl,rfl⟩:=c;unfold ap;rw[dM u hy hl es k.gv,dM u hy hl es' k'.gv];exact ic (gw (ie (fz (((cb y).lift (g:=λl=>l.map (mdF prt y)) λz=>kj z).sub (k.gvT y) (k'.gvT y)) (le y).2)))
 ·have no:∀x,x<n->∀l∈bV (prt x),l.toNat≠i:=λx hx l hl z=>c ⟨x,hx,l,hl,z⟩;unfold ap;rw[fF no es k.gv,fF no es' k'.gv];exact List.prefix_refl _
theorem uS(u:Uq n prt){nl:Nat}{ls:Nat->Option Int}{pace pace':List (List Int)}{es es':List Ent}(w:bH n nl ls prt pace (bb xs) es)(w':bH n nl ls prt pace' (bb xs) es')(s:gK n ls prt (es.foldl (bg prt pace) (bb xs)))(s':gK n ls prt (es'.foldl (bg prt pace') (bb xs)))(i:Nat):ap xs es i=ap xs es' i/\(es.foldl (bg prt pace) (bb xs)).rows i=(es'.foldl (bg prt pace') (bb xs)).rows i:=by
 have k:=dz es w;have k':=dz es' w';have h1:=(iE u w w').2 s' i;have h2:=(iE u w' w).2 s i;have eh:ap xs es i=ap xs es' i:=h1.eq_of_length_le h2.length_le;refine⟨eh,?_⟩
 have ec:sel i (cZ es)=sel i (cZ es'):=by
  by_cases c:∃x,x<n/\∃l∈bA (prt x),l.toNat=i
  ·obtain⟨y,hy,l,hl,rfl⟩:=c;rw[dL u hy hl es k.tk,dL u hy hl es' k'.tk];have t1:=(j8 u w' s' es w y).1;have t2:=(j8 u w s es' w' y).1;have:=fz (lx u w' es w y) t1;rw[this.eq_of_length_le t2]
  ·have no:∀x,x<n->∀l∈bA (prt x),l.toNat≠i:=λx hx l hl z=>c ⟨x,hx,l,hl,z⟩;rw[kD no es k.tk,kD no es' k'.tk]
 have r1:=k.rows i;rw[eh,k'.rows i,ec]at r1;exact(List.append_cancel_left r1).symm
end
structure RwH(H G:Hp)(lr:Addr)(as:List Addr)(f:Nat->List Int):Prop where
 sa:a9 H G
 hl:G lr=some (.lst (as.map V.ref))
 nd:as.Nodup
 off:lr∉as
 nw:∀x∈as,H x=none
 at_:∀(j:Nat) x,as[j]?=some x->G x=some (.lst ((f j).map V.int))
theorem RwH.app{H G:Hp}{lr:Addr}{as:List Addr}{f:Nat->List Int}(h:RwH H G lr as f){i:Nat}{x:Addr}(hx:as[i]?=some x)(v:Int):RwH H (upd G x (.lst ((f i++[v]).map V.int))) lr as (put f i (f i++[v])):=by
 have xm:=qz hx;refine⟨a9.over h.sa (h.nw x xm),by rw[ah λz:lr=x=>h.off (z▸xm)];exact h.hl,h.nd,h.off,h.nw,λj y hy=>?_⟩;by_cases c:j=i
 ·rw[c,hx]at hy;cases hy;rw[c,af,aE]
 ·have ne:y≠x:=λz=>by
   obtain⟨lj,ej⟩:=qf.mp hy;obtain⟨li,ei⟩:=qf.mp hx;have pw:=List.pairwise_iff_getElem.mp (List.nodup_iff_pairwise_ne.mp h.nd);rcases Nat.lt_or_gt_of_ne c with l|l
   ·exact pw j i lj li l (by rw[ej,ei,z])
   ·exact pw i j li lj l (by rw[ej,ei,z])
  rw[ah ne,ax c];exact h.at_ j y hy
theorem RwH.ris{H G:Hp}{lr:Addr}{as:List Addr}{f:Nat->List Int}(h:RwH H G lr as f){n:Nat}(hn:as.length=n):RIs G (as.map V.ref) ((List.range n).map f):=by
 rw[uW (d:=lr) hn];exact nY _ λi hi=>h.at_ i _ (qF (d:=lr) (by rw[hn];exact List.mem_range.mp hi)).1
theorem iF{xs:List Ln}{es:List Ent}{e:Ent}{i:Nat}:ap xs (es++[e]) i=ap xs es i++(if e.took=false then sel i e.hs else[]):=by
 unfold ap;rw[iS,dw,<- qN]
 congr 1
 split<;>rfl
def gL(nl:Nat)(es:List Ent):Prop:=∀e∈es,e.hs.length<=10/\∀p∈e.hs,0<=p.1/\p.1<nl
theorem pN{xs:List Ln}{es:List Ent}{i m:Nat}:ap xs (es.take m) i <+: ap xs es i:=by
 conv=>rhs;rw[<- Qt m es]
 exact pO i
theorem pR:∀(ps:List (Int×Int))(S:PlS)(i:Nat),((ps.foldl ak S).st i).1=(S.st i).1++sel i ps
 |[],_,_=>(qx _).symm
 |p::ps,S,i=>by
  show((ps.foldl ak (ak S p)).st i).1=_;rw[pR ps,gX];show(put S.st p.1.toNat _ i).1++_=_;by_cases c:i=p.1.toNat
  ·rw[c,aE,Q0 U,qN]
  ·rw[ax c,qZ λz=>c z.symm];rfl
theorem br.hist{ls:Nat->Option Int}{prt:Nat->PR}{pace:List (List Int)}{xs:List Ln}{n most:Nat}{ph:Ph}{S:PlS}(h:br ls prt pace (ci xs n most) ph S):∀i,(S.st i).1=ap xs S.lg i:=by
 induction h with
 |base=>intro i;exact(qx _).symm
 |turn _ _ _ _ ih=>exact ih
 |@give S k x r h ih=>
  intro i;unfold cu;split
  ·exact ih i
  ·show(((S.held x).foldl ak S).st i).1=ap xs (((S.held x).foldl ak S).lg++[_]) i;rw[pR,(eX (S.held x) S).2.2.1,iF,Q0 U,ih i]
 |half _ _ _ ih=>exact ih
 |wait _ _ ih=>exact ih
 |@take S k x r h hl hs ih=>
  intro i;obtain⟨e1,e2,e3,_⟩:=eY k (aq S (prt x)) (bK (prt x) pace S k x);unfold aU;rw[e1,e3];show(bu S.st (aq S (prt x)) i).1=ap xs (S.lg++[_]) i;rw[fY,iF,qZ (λz=>by cases z),qx,ih i]
 |over _ ih=>exact ih
inductive my(vs:List V)(H:Hp)(Q:VK)(E:XK):Prop
 |mk (ll lg:Addr) (k:Int) (us lgv:List V) (xs:List Ln) (es:List Ent) (h0_:vs=[.ref ll,.ref lg,.int k]) (h1_:H ll=some (.lst us)) (h2_:RLn H us xs) (h3_:H lg=some (.lst lgv)) (h4_:REs H lgv es) (h5_:(0<=k/\k<xs.length)) (h6_:gL xs.length es) (h7_:es.length<=10000000) (h8_:(∀i,(ap xs es i).length<=10000000)) (h9_:∀H' l,a9 H H'->H' l=some (.lst ((ap xs es k.toNat).map V.int))->Q (.ref l) H'):my vs H Q E
inductive mD(vs:List V)(H:Hp)(Q:VK)(E:XK):Prop
 |mk (ll lg:Addr) (us lgv:List V) (xs:List Ln) (es:List Ent) (h0_:vs=[.ref ll,.ref lg]) (h1_:H ll=some (.lst us)) (h2_:RLn H us xs) (h3_:H lg=some (.lst lgv)) (h4_:REs H lgv es) (h5_:gL xs.length es) (h6_:es.length<=10000000) (h7_:(∀i,(ap xs es i).length<=10000000)) (h8_:xs.length<=1000) (h9_:∀H' l vs',a9 H H'->H' l=some (.lst vs')->RIs H' vs' ((List.range xs.length).map (ap xs es))->Q (.ref l) H'):mD vs H Q E
inductive mP(vs:List V)(H:Hp)(Q:VK)(E:XK):Prop
 |mk (l1 l2:Addr) (us vs':List V) (f g:Nat->List Int) (n:Nat) (h0_:vs=[.ref l1,.ref l2]) (h1_:H l1=some (.lst us)) (h2_:H l2=some (.lst vs')) (h3_:RIs H us ((List.range n).map f)) (h4_:RIs H vs' ((List.range n).map g)) (h5_:n<=1000) (h6_:(∀i,i<n->f i <+: g i)) (h7_:∀H',a9 H H'->Q (.bl true) H'):mP vs H Q E
inductive mB(vs:List V)(H:Hp)(Q:VK)(E:XK):Prop
 |mk (ll lg lr:Addr) (way:Int) (us lgv rv:List V) (xs:List Ln) (es:List Ent) (h0_:vs=[.ref ll,.ref lg,.ref lr,.int way]) (h1_:H ll=some (.lst us)) (h2_:RLn H us xs) (h3_:H lg=some (.lst lgv)) (h4_:REs H lgv es) (h5_:H lr=some (.lst rv)) (h6_:RIs H rv ((List.range xs.length).map (ap xs es))) (h7_:gL xs.length es) (h8_:es.length<=10000000) (h9_:(∀i,(ap xs es i).length<=10000000)) (h10_:xs.length<=1000) (h11_:0<xs.length) (h12_:(0<=way/\way<2147483647)) (h13_:∀H',a9 H H'->Q (.bl true) H'):mB vs H Q E
theorem wF(T:Tx P w K mg a):aC P w K mg base CX0 1 a.BF a.BG ["lines","log","line"] my:=by
 refine T.CH.ok fh (λvs H Q E h=>?_) (λcdv A outer s H vs Q E hr h=>?_)
 ·obtain⟨_,_,_,_,_,_,_,rfl,_⟩:=h
  rfl
 obtain⟨ll,lg,k,us,lgv,xs,es,rfl,hll,rln,hlg,res,hk,lok,esz,fl,q⟩:=h
 refine⟨_,(ae (aK (i:=3) fh.nd U Oi (fD jX U T.zW PyProof.Rows.Boot.«list» (a8 (am aZ (am aV (pq 0) (pq 2) Oy) aa Oy) ac)))
  (ae (cE PassesOwn.never U (c6 (pq 1)) (gy U (bN (aP (i:=4) fh.nd U Oi) (bN (aP (i:=5) fh.nd U Oi) (bN (aP (i:=6) fh.nd U Oi) (bN (aP (i:=7) fh.nd U Oi) dc)))))
  (ai (aX (aO bi (pq 6) bF (aJ _)) (ai (bM (cF qg Qn Qm kF (pq 3) (a8 (cs (k:=2) (Nc:=["place","thing","line"]) (js:=[2]) (show aL (aj gZ) ["lines","log","line","things","turn","part","word","handed"] _ 2 ["place","thing","line"] [2]from aL.mk U (by decide +kernel) (by decide +kernel) (by decide +kernel) U (by decide +kernel)) U (c6 (pq 7)) (λ_ _ _ _ _=>(fA 2 U (bN (aP (i:=0) (show List.Nodup (["place","thing","line"]:List Str)from by decide +kernel) U Oi) (bN (aP (i:=1) (show List.Nodup (["place","thing","line"]:List Str)from by decide +kernel) U Oi) dc)))) (λ_ _ _ _ _=>(vE (aO bi (pq 0) (pq 2) (aJ _)))) (λ_ _ _ _ _=>(pq 1))) ac)))) aW)))
  (ai (au (pq 3))))),?_⟩
 have kl:k.toNat<us.length:=by rw[rln.len];omega
 obtain⟨p,t,x,ex,exl,hp,ht⟩:=rln.at k.toNat _ (qc kl);have e1:atI us k=some (.ref p):=by rw[<- ex];exact ef hk.1 (qc kl)
 have el:bv xs k.toNat=x:=by unfold bv;rw[qj,exl];rfl
 refine⟨_,U,_,U,ll,_,_,_,U,U,SqL.of hll,e1,p,_,_,_,U,U,SqT.of hp,U,t,_,U,.inr (SqT.of ht),λlo hlo=>?_⟩;dsimp only[aI];have so:=a9.new hlo (.lst (x.2.map V.int));refine⟨_,U,lg,U,⟨_,SqL.of (so _ _ hlg)⟩,?_⟩;refine e9 (K:=K) (a:=lg) (xs:=lgv) (λi σ G=>(∃v4 v5 v6 v7,σ=[some (.ref ll),some (.ref lg),some (.int k),some (.ref lo),v4,v5,v6,v7])/\a9 H G/\G lo=some (.lst ((ap xs (es.take i) k.toNat).map V.int))) ⟨⟨_,_,_,_,U⟩,so,?_⟩ ?_ ?_ ?_
 ·rw[af];unfold ap dn;simp[sel,el]
 ·rintro i σ G _ ⟨_,sg,_⟩;exact SqL.of (sg _ _ hlg)
 ·rintro i y σ G hy ⟨⟨v4,v5,v6,v7,rfl⟩,sg,ho⟩;obtain⟨pe,le,eus,e,rfl,he,hpe,hle,rp⟩:=res.at hy;have et:es.take (i+1)=es.take i++[e]:=by rw[qr,he];rfl
  have em:=qz he;refine⟨pe,_,U,SqT.of (sg _ _ hpe),U,_,_,U,_,_,U,_,_,U,_,_,U,U,?_⟩;dsimp only[aI];rw[et,iF]
  cases tk:e.took with
  |true=>
   rw[tk]at hpe;rw[qZ Qz,qx];exact⟨_,U,U,_,U,bj Qy ⟨⟨_,_,_,_,U⟩,sg,ho⟩⟩
  |false=>
   rw[tk]at hpe;rw[Q0 U];refine⟨_,U,U,_,U,bS Qy ?_⟩;have rpg:=rp.same sg;have few:=(lok e em).1;refine⟨_,U,.inl ⟨U,_,SqL.of ho⟩,_,U,le,U,⟨_,SqL.of (sg _ _ hle)⟩,?_⟩;refine rK (K:=K) (a:=le) (xs:=eus) (λj ys σ G'=>(∃v v',σ=[v,v',some (.int k)])/\G'=G/\ys=(sel k.toNat (e.hs.take j)).map V.int) ⟨⟨none,none,U⟩,U,U⟩ ?_ (bf (m:=100) (by rw[rp.len];omega)) ?_ ?_ ?_
   ·rintro j ys σ G' _ ⟨_,_,rfl⟩;unfold sel;rw[q9,q9];refine qy (List.length_filter_le _ _) ?_;rw[qK];omega
   ·rintro j ys σ G' ⟨_,rfl,_⟩;exact SqL.of (sg _ _ hle)
   ·rintro j z ys σ G' hz ⟨⟨v,v',rfl⟩,rfl,rfl⟩;obtain⟨pp,y,rfl,hy',hpp⟩:=rpg.at hz;have yb:=(lok e em).2 y (qz hy');have ey:e.hs.take (j+1)=e.hs.take j++[y]:=by rw[qr,hy'];rfl
    refine⟨pp,_,U,SqT.of hpp,U,_,_,U,_,_,U,U,?_⟩;refine⟨_,U,_,U,U,_,U,?_⟩;have es1:sel k.toNat (e.hs.take (j+1))=sel k.toNat (e.hs.take j)++(if y.1.toNat=k.toNat then[y.2]else[]):=by rw[ey,dw,gX,ue,qx]
    by_cases c:y.1=k
    ·exact bS (by rw[c];exact Q1 U) ⟨_,U,⟨_,_,U⟩,U,by rw[es1,Q0 (by rw[c]),qO];rfl⟩
    ·exact bj (Q3 λw=>c (V.int.inj w)) ⟨⟨_,_,U⟩,U,by rw[es1,qZ Yd,qx]⟩
   rintro ys σ G' ⟨_,eG,rfl⟩ l5 hl5;rw[eG]at hl5 ⊢;rw[rp.len,qH];have s5:=a9.new hl5 (.lst ((sel k.toNat e.hs).map V.int));refine⟨lo,l5,_,_,U,U,s5 _ _ ho,af,?_,⟨_,_,_,_,U⟩,a9.over (sg.trans s5) hlo,?_⟩
   ·rw[q9,q9,sizeLine_eq];have h1:=(pN (xs:=xs) (es:=es) (i:=k.toNat) (m:=i)).length_le;have h2:=fl k.toNat
    have h3:(sel k.toNat e.hs).length<=10:=by
     unfold sel;rw[q9];exact qy (List.length_filter_le _ _) few
    omega
   ·rw[af,qO]
 ·rintro σ G ⟨⟨v4,v5,v6,v7,rfl⟩,sg,ho⟩;rw[res.len,qH]at ho;exact⟨_,U,q _ lo sg ho⟩
theorem oR(T:Tx P w K mg a):aC P w K mg base CX0 1 a.C5 a.C6 ["_law_lines","_law_log"] mD:=by
 refine T.Ck.ok gY (λvs H Q E h=>?_) (λcdv A outer s H vs Q E hr h=>?_)
 ·obtain⟨_,_,_,_,_,_,rfl,_⟩:=h
  rfl
 obtain⟨ll,lg,us,lgv,xs,es,rfl,hll,rln,hlg,res,lok,esz,hsz,nl,q⟩:=h
 refine⟨_,(ae (i9 (i:=2) gY.nd U Oi (k:=1) (Nc:=["_law_line_here"]) (js:=[]) (show aL (aj h6) ["_law_lines","_law_log","_law_rows","_law_entry","_law_pair"] _ 1 ["_law_line_here"] []from aL.mk U (by decide +kernel) (by decide +kernel) (by decide +kernel) U (by decide +kernel)) U (c6 (pq 0)) (λ_ _ _ _ _=>(aP (i:=0) (show List.Nodup (["_law_line_here"]:List Str)from by decide +kernel) U Oi)) (λ_ _ _ _ _=>bX) (λ_ _ _ _ _=>(fD (vo (K:=K) U) U T.zW PyProof.Rows.Boot.«list» (a8 (am (vm (K:=K) U) (pq 0) aa Oy) ac))))
  (ae (cE PassesOwn.never U (c6 (pq 1)) (aP (i:=3) gY.nd U Oi)
  (ai (aX (aO bi (am aZ (pq 3) aa Oy) bF (aJ _)) (ai (cE PassesOwn.never U (c6 (am aZ (pq 3) aa Oy)) (aP (i:=4) gY.nd U Oi)
  (ai (bM (cF qg qv qw d8 (am aV (pq 2) (am aZ (pq 4) aa Oy) Oy) (a8 (am aZ (pq 4) aa Oy) ac)))))) aW)))
  (ai (au (pq 2))))),?_⟩
 refine⟨_,U,ll,U,⟨_,SqL.of hll⟩,?_⟩;refine dE (K:=K) (a:=ll) (xs:=us) (λi ys σ G=>(∃v,σ=[v])/\a9 H G/\∃as:List Addr,ys=as.map V.ref/\as.length=i/\as.Nodup/\∀j x,as[j]?=some x->H x=none/\G x=some (.lst ((bv xs j).2.map V.int))) ⟨⟨none,U⟩,a9.refl _,[],U,U,List.nodup_nil,λj x h=>by simp at h⟩ ?_ (bf (m:=1000) (by rw[rln.len];omega)) ?_ ?_ ?_
 ·rintro i ys σ G _ ⟨_,_,as,rfl,h,_⟩;rw[q9,h];exact qe _
 ·rintro i ys σ G ⟨_,s1,_⟩;exact SqL.of (s1 _ _ hll)
 ·rintro i x ys σ G hx ⟨⟨v0,rfl⟩,s1,as,rfl,al,nd,has⟩;obtain⟨p,t,y,rfl,hy,hp,ht⟩:=rln.at i x hx;refine⟨_,U,p,_,_,_,U,U,SqT.of (s1 _ _ hp),U,t,_,U,.inr (SqT.of (s1 _ _ ht)),λl1 hl1=>⟨⟨_,U⟩,?_⟩⟩
  have gn:∀x∈as,x≠l1:=λx hx z=>by
   obtain⟨j,hj,ej⟩:=List.mem_iff_getElem.mp hx;have:=(has j x (qf.mpr ⟨hj,ej⟩)).2;rw[z,hl1]at this;cases this
  have ey:y=bv xs i:=by unfold bv;rw[qj,hy];rfl
  refine⟨s1.trans (a9.new hl1 _),as++[l1],by rw[qO];rfl,by rw[qb,al];rfl,xJ nd λh=>gn l1 h U,λj x hj=>?_⟩;by_cases lt:j<as.length
  ·rw[Q5 lt]at hj;refine⟨(has j x hj).1,?_⟩;rw[ah (gn x (qz hj))];exact(has j x hj).2
  ·rw[qL Yd]at hj
   have ej:j-as.length=0:=by
    have:=(qf.mp hj).1;rw[Q6]at this;omega
   rw[ej]at hj;cases hj;have:j=i:=Yd;rw[af,this,<- ey];exact⟨a9.none s1 hl1,U⟩
 rintro ys σ G ⟨_,s1,as,rfl,al,nd,has⟩ lr hlr;rw[rln.len]at al;have sr:=a9.new hlr (.lst (as.map V.ref));have hlr1:upd G lr (.lst (as.map V.ref)) lr=some (.lst (as.map V.ref)):=af
 have lrN:∀x∈as,x≠lr:=λx hx z=>by
  obtain⟨j,hj,ej⟩:=List.mem_iff_getElem.mp hx;have:=(has j x (qf.mpr ⟨hj,ej⟩)).2;rw[z,hlr]at this;cases this
 have has1:∀(j:Nat) x,as[j]?=some x->H x=none/\upd G lr (.lst (as.map V.ref)) x=some (.lst ((bv xs j).2.map V.int)):=λj x hj=>⟨(has j x hj).1,sr _ _ (has j x hj).2⟩;have s1r:=s1.trans sr;have hlrH:=a9.none s1 hlr
 have rw0:RwH H (upd G lr (.lst (as.map V.ref))) lr as (ap xs []):=⟨s1r,hlr1,nd,λz=>lrN lr z U,λx hx=>by
  obtain⟨j,hj,ej⟩:=List.mem_iff_getElem.mp hx
  exact(has1 j x (qf.mpr ⟨hj,ej⟩)).1,λj x hj=>by
  rw[(has1 j x hj).2];unfold ap dn
  simp[sel]⟩
 generalize upd G lr (.lst (as.map V.ref))=H1 at rw0;dsimp only[aI];refine⟨_,U,lg,U,⟨_,SqL.of (rw0.sa _ _ hlg)⟩,?_⟩;refine e9 (K:=K) (a:=lg) (xs:=lgv) (λi σ G=>(∃v3 v4,σ=[some (.ref ll),some (.ref lg),some (.ref lr),v3,v4])/\RwH H G lr as (ap xs (es.take i))) ⟨⟨_,_,U⟩,rw0⟩ ?_ ?_ ?_
 ·rintro i σ G _ ⟨_,rw1⟩;exact SqL.of (rw1.sa _ _ hlg)
 ·rintro i y σ G hy ⟨⟨v3,v4,rfl⟩,rw1⟩;obtain⟨pe,le,eus,e,rfl,he,hpe,hle,rp⟩:=res.at hy;have em:=qz he;have et:ap xs (es.take (i+1))=λj=>ap xs (es.take i) j++(if e.took=false then sel j e.hs else[]):=funext λj=>by rw[qr,he];exact iF
  rw[et];dsimp only[aI]
  cases tk:e.took with
  |true=>
   rw[tk]at hpe;refine⟨_,U,pe,_,_,_,U,U,SqT.of (rw1.sa _ _ hpe),U,U,_,U,bj Qy ⟨⟨_,_,U⟩,?_⟩⟩;simpa using rw1
  |false=>
   rw[tk]at hpe;refine⟨_,U,pe,_,_,_,U,U,SqT.of (rw1.sa _ _ hpe),U,U,_,U,bS Qy ?_⟩;refine⟨_,U,pe,_,_,_,U,U,SqT.of (rw1.sa _ _ hpe),U,le,U,⟨_,SqL.of (rw1.sa _ _ hle)⟩,?_⟩;refine e9 (K:=K) (a:=le) (xs:=eus) (λj σ G'=>(∃v4,σ=[some (.ref ll),some (.ref lg),some (.ref lr),some (.ref pe),v4])/\RwH H G' lr as (bT (ap xs (es.take i)) (e.hs.take j))) ⟨⟨_,U⟩,rw1⟩ ?_ ?_ ?_
   ·rintro j σ G' _ ⟨_,rw2⟩;exact SqL.of (rw2.sa _ _ hle)
   ·rintro j z σ G' hz ⟨⟨v4,rfl⟩,rw2⟩;obtain⟨pp,y,rfl,hy',hpp⟩:=rp.at hz;have yb:=(lok e em).2 y (qz hy');have yl:y.1.toNat<as.length:=by rw[al];omega
    have hx:=qc yl;have ha:atI (as.map V.ref) y.1=some (.ref as[y.1.toNat]):=ef yb.1 (by rw[qE,hx];rfl);have hr2:=rw2.at_ _ _ hx;have hp2:=rw2.sa _ _ hpp;have lz:=(pN (xs:=xs) (es:=es) (i:=y.1.toNat) (m:=i)).length_le;have lz2:=hsz y.1.toNat
    have gl:(bT (ap xs (es.take i)) (e.hs.take j) y.1.toNat).length<=(ap xs (es.take i) y.1.toNat).length+10:=by
     rw[iK,qb]
     have:(sel y.1.toNat (e.hs.take j)).length<=10:=by
      unfold sel;rw[q9];refine qy (List.length_filter_le _ _) ?_;rw[qK];have:=(lok e em).1;omega
     omega
    dsimp only[aI];refine⟨_,U,_,U,pp,_,_,_,U,U,SqT.of hp2,U,lr,_,_,_,U,U,SqL.of rw2.hl,ha,.inl ⟨U,_,SqL.of hr2⟩,_,U,pp,_,_,_,U,U,SqT.of hp2,U,as[y.1.toNat],_,_,U,U,hr2,?_,⟨_,U⟩,?_⟩
    ·rw[q9,sizeLine_eq];omega
    ·have rw3:=rw2.app hx y.2;rw[qO]at rw3;rw[qr,hy'];show RwH H _ lr as (bT _ (e.hs.take j++[y]));unfold bT at rw3 ⊢;rw[List.foldl_append];exact rw3
   ·rintro σ G' ⟨⟨v4,rfl⟩,rw2⟩;rw[rp.len,qH]at rw2;refine⟨⟨_,_,U⟩,?_⟩;rw[show bT (ap xs (es.take i)) e.hs=λj=>ap xs (es.take i) j++sel j e.hs from funext λj=>iK _ _ j]at rw2;simpa using rw2
 ·rintro σ G ⟨⟨v3,v4,rfl⟩,rw1⟩;rw[res.len,qH]at rw1;exact⟨_,U,q _ lr _ rw1.sa rw1.hl (rw1.ris al)⟩
theorem oV(T:Tx P w K mg a):aC P w K mg base CX0 1 a.C7 a.C8 ["_law_one","_law_other"] mP:=by
 refine T.Cl.ok nT (λvs H Q E h=>?_) (λcdv A outer s H vs Q E hr h=>?_)
 ·obtain⟨_,_,_,_,_,_,_,rfl,_⟩:=h
  rfl
 obtain⟨l1,l2,us,vs',f,g,n,rfl,h1,h2,r1,r2,n1,pre,q⟩:=h
 refine⟨_,(ae (cE PassesOwn.never U (db U T.zT (a8 (bz c5 U T.wp Q7 (a8 (pq 0) ac)) ac)) (aP (i:=2) nT.nd U Oi)
  (ai (aX (aO (kB hr.units) (am aV (pq 0) (pq 2) Oy) (df g9 (am aV (pq 1) (pq 2) Oy) dR (bQ (bz c5 U T.wp Q7 (a8 (am aV (pq 0) (pq 2) Oy) ac)))) (aJ _)) (ai (au cG)) aW)))
  (ai (au cG))),?_⟩
 have ul:us.length=n:=by rw[r1.len,q9,Qd]
 refine⟨_,U,l1,_,U,.inl (SqL.of h1),_,U,by rw[ul];omega,by rw[ul];omega,?_⟩;refine iM (λi σ G=>(∃v2,σ=[some (.ref l1),some (.ref l2),v2])/\a9 H G) ⟨⟨_,U⟩,a9.refl _⟩ ?_ ?_
 ·rintro i σ G hi ⟨⟨v2,rfl⟩,sg⟩;have il:i<n:=by rw[ul]at hi;simpa using hi
  have at1:∀{h:Nat->List Int},((List.range n).map h)[i]?=some (h i):=λ{h}=>by rw[qE,List.getElem?_range il];rfl
  obtain⟨p1,e1,hp1⟩:=r1.at i _ at1;obtain⟨p2,e2,hp2⟩:=r2.at i _ at1;have e0:(0:Int)+(i:Int)=(i:Int):=Int.zero_add _;dsimp only[aI];rw[e0];refine⟨_,U,_,U,l1,_,_,_,U,U,SqL.of (sg _ _ h1),bP e1,?_⟩;refine⟨_,U,_,U,l2,_,_,_,U,U,SqL.of (sg _ _ h2),bP e2,_,U,_,U,l1,_,_,_,U,U,SqL.of (sg _ _ h1),bP e1,p1,_,U,.inl (SqL.of (sg _ _ hp1)),_,U,p2,_,U,SqL.of (sg _ _ hp2),λl3 hl3=>?_⟩
  have cf:c7 ((g i).map V.int) none (some (((f i).map V.int).length:Int))=(f i).map V.int:=by
   have le:=(pre i il).length_le;rw[iP _ Yd (by rw[q9];omega),q9,qX,<- List.prefix_iff_eq_take.mp (pre i il)]
  rw[cf];have s3:=a9.new hl3 (.lst ((f i).map V.int));have sh:Shp 1 (.list ((f i).map PyData.int)):=.lst (gU _);refine⟨_,_,.lst (SqL.of (s3 _ _ (sg _ _ hp1))) (ee _),.lst (SqL.of af) (ee _),sh.shaped Qz,sh.shaped Qz,_,U,?_⟩;rw[gI sh Qz];exact bj U ⟨⟨_,U⟩,sg.trans s3⟩
 ·rintro σ G ⟨⟨v2,rfl⟩,sg⟩;exact q _ sg
theorem oQ(T:Tx P w K mg a):aC P w K mg base CX0 2 a.C9 a.Ca ["_law_lines","_law_log","_law_rows","_law_way"] mB:=by
 refine T.Cm.ok gc (λvs H Q E h=>?_) (λcdv A outer s H vs Q E hr h=>?_)
 ·obtain⟨_,_,_,_,_,_,_,_,_,rfl,_⟩:=h
  rfl
 obtain⟨ll,lg,lr,way,us,lgv,rv,xs,es,rfl,hll,rln,hlg,res,hlr,ris,lok,esz,hsz,nl,n0,hw,q⟩:=h
 refine⟨_,(ae (cE PassesOwn.never U (db U T.zT (a8 aa ac)) (aP (i:=4) gc.nd U Oi)
  (ae (aK (i:=5) gc.nd U Oi (ag aT (ag bE (pq 3) (ag bY aa (pq 4))) (bz c5 U T.wp Q7 (a8 (pq 0) ac))))
  (ae (aK (i:=6) gc.nd U Oi (aR (wF T) (hr.mono Qz) U T.Es T.CH.kp T.Er .nil ar (a8 (pq 0) (a8 (pq 1) (a8 (pq 5) ac)))))
  (ae (aX (PW.pt (i8 (dQ (d4 (bz jY U T.Cn PyProof.Rows.Boot.«isinstance» (a8 (pq 6) (a8 (kA (v:=.ty "list") U T.zW PyProof.Rows.Boot.«list» rfl) ac))))) (i7 (aO (kB hr.units) (pq 6) (am aV (pq 2) (pq 5) Oy) (aJ _))))) (ai (au cG)) aW)
  (ai (cE PassesOwn.never U (c6 (pq 6)) (aP (i:=7) gc.nd U Oi)
  (ai (aX (PW.pt (i8 (dQ (d4 (bz jY U T.Cn PyProof.Rows.Boot.«isinstance» (a8 (pq 7) (a8 (kA (v:=.ty "int") U T.EG PyProof.Rows.Boot.«int» rfl) ac))))) (i7 (d4 (bz jY U T.Cn PyProof.Rows.Boot.«isinstance» (a8 (pq 7) (a8 (kA (v:=.ty "bool") U T.EF PyProof.Rows.Boot.«bool» rfl) ac))))))) (ai (au cG)) aW))))))))
  (ai (au cG))),?_⟩
 refine⟨5,U,Qz,Qz,?_⟩;refine iM (λi σ G=>(∃v4 v5 v6 v7,σ=[some (.ref ll),some (.ref lg),some (.ref lr),some (.int way),v4,v5,v6,v7])/\a9 H G) ⟨⟨_,_,_,_,U⟩,a9.refl _⟩ ?_ ?_
 ·rintro i σ G hi ⟨⟨v4,v5,v6,v7,rfl⟩,sg⟩;have i5:i<5:=by simpa using hi
  dsimp only[aI];refine⟨_,U,_,U,_,_,U,U,IntMulOk.of_bits (d6 ⟨Qz,Qz⟩) (d6 ⟨Yd,Yd⟩),_,_,U,U,_,U,ll,_,U,.inl (SqL.of (sg _ _ hll)),_,_,U,U,by rw[rln.len];omega,?_⟩;rw[rln.len];have k0:=Q9 (way+7 * (0+(i:Int))) (show(xs.length:Int)≠0 by omega);have k1:=Qe (way+7 * (0+(i:Int))) (show(0:Int)<(xs.length:Int)by omega);generalize (way+7 * (0+(i:Int))) % (xs.length:Int)=k at k0 k1;dsimp only[aI];refine⟨_,U,_,U,_,U,ll,lg,k,us,lgv,xs,es,U,sg _ _ hll,rln.same sg,sg _ _ hlg,res.same sg,⟨k0,k1⟩,lok,esz,hsz,λG1 lf s1 hlf=>?_⟩;dsimp only[aI];have kl:k.toNat<xs.length:=Yd;obtain⟨p1,e1,hp1⟩:=ris.at k.toNat (ap xs es k.toNat) (by rw[qE,List.getElem?_range kl];rfl);have s01:=sg.trans s1;have sh:Shp 1 (.list ((ap xs es k.toNat).map PyData.int)):=.lst (gU _);refine⟨_,U,_,_,_,true,U,.lst hlf,U,_,U,gH ?_⟩;refine⟨_,U,_,U,_,U,lr,_,_,_,U,U,SqL.of (s01 _ _ hlr),ef k0 e1,_,_,.lst (SqL.of hlf) (ee _),.lst (SqL.of (s01 _ _ hp1)) (ee _),sh.shaped Qz,sh.shaped Qz,_,U,?_⟩;rw[gI sh Qz];refine bj U ?_;refine⟨_,U,lf,U,⟨_,SqL.of hlf⟩,?_⟩;refine e9 (K:=K) (a:=lf) (xs:=(ap xs es k.toNat).map V.int) (λj σ G'=>(∃v7,σ=[some (.ref ll),some (.ref lg),some (.ref lr),some (.int way),some (.int (0+(i:Int))),some (.int k),some (.ref lf),v7])/\G'=G1) ⟨⟨_,U⟩,U⟩ ?_ ?_ ?_
  ·rintro j σ G' _ ⟨_,rfl⟩;exact SqL.of hlf
  ·rintro j y σ G' hy ⟨⟨v7,rfl⟩,rfl⟩;rw[qE]at hy;obtain⟨y,_,rfl⟩:=qP.mp hy;dsimp only[aI];refine⟨_,U,_,_,_,true,U,.int y,U,_,U,gH ?_⟩;exact⟨_,U,_,_,_,false,U,.int y,U,_,U,bj U ⟨⟨_,U⟩,U⟩⟩
  ·rintro σ G' ⟨⟨v7,rfl⟩,rfl⟩;exact⟨⟨_,_,_,_,U⟩,s01⟩
 ·rintro σ G ⟨⟨v4,v5,v6,v7,rfl⟩,sg⟩;exact q _ sg
theorem rD{F:PR->List Int}{rs:List PR}(h:(rs.flatMap F).Nodup):∀x y,x<rs.length->y<rs.length->x≠y->∀l∈F (bd rs x),∀l'∈F (bd rs y),l≠l':=by
 have go:∀x y,x<y->y<rs.length->∀l∈F (bd rs x),∀l'∈F (bd rs y),l≠l':=λx y lt hy l hl l' hl'=>by
  have hx:x<rs.length:=Yd;have ex:bd rs x=rs[x]:=by unfold bd;rw[qj,qc hx];rfl
  have ey:bd rs y=rs[y]:=by unfold bd;rw[qj,qc hy];rfl
  rw[ex]at hl;rw[ey]at hl';have e:rs=rs.take y++rs[y]::rs.drop (y+1):=by rw[<- List.drop_eq_getElem_cons hy,Qt]
  rw[e,qU,List.flatMap_cons]at h;have d:=(List.nodup_append.mp h).2.2 l (List.mem_flatMap.mpr ⟨rs[x],?_,hl⟩) l' (qV _ hl')
  ·exact d
  ·exact List.mem_take_iff_getElem.mpr ⟨x,Yd,U⟩
 intro x y hx hy ne l hl l' hl' z;rcases Nat.lt_or_ge x y with lt|ge
 ·exact go x y lt hy l hl l' hl' z
 ·exact go y x Yd hx l' hl' l hl z.symm
theorem p5{nl:Nat}:∀{r:PR},r.fit nl->∀l∈bA r,0<=l
 |.pass ..,h,l,hl=>h.1.lo l hl
 |.work ..,h,l,hl=>h.1.lo l hl
 |.choose ..,h,l,hl=>h.1.lo l hl
 |.merge ..,h,l,hl=>by
  rcases qh.mp hl with hl|hl
  ·rcases qh.mp hl with hl|hl
   ·exact h.1.lo l (qk _ hl)
   ·exact h.2.1.lo l (qk _ hl)
  ·rw[qS.mp hl];exact h.1.lo _ qm
theorem p9{nl:Nat}:∀{r:PR},r.fit nl->∀l∈bV r,0<=l
 |.pass ..,h,l,hl=>h.2.lo l hl
 |.work ..,h,l,hl=>h.2.lo l hl
 |.choose ..,h,l,hl=>by
  rcases qh.mp hl with hl|hl
  ·rcases qh.mp hl with hl|hl
   ·exact h.2.1.lo l (qV _ hl)
   ·exact h.2.2.lo l (qV _ hl)
  ·exact h.2.1.lo l (qI _ hl)
 |.merge ..,h,l,hl=>h.2.2.lo l hl
theorem sR{rs:List PR}{nl:Nat}(ok:∀r∈rs,r.ok/\r.fit nl)(h1:(rs.flatMap bA).Nodup)(h2:(rs.flatMap bV).Nodup):Uq rs.length (bd rs):=by
 have rm:∀x,x<rs.length->bd rs x∈rs:=λx hx=>by unfold bd;rw[qj,qc hx];exact List.getElem_mem hx
 refine⟨λx y hx hy ne l hl l' hl' z=>?_,λx y hx hy ne l hl l' hl' z=>?_⟩
 ·have a1:=p5 (ok _ (rm x hx)).2 l hl;have a2:=p5 (ok _ (rm y hy)).2 l' hl';exact rD h1 x y hx hy ne l hl l' hl' Yd
 ·have a1:=p9 (ok _ (rm x hx)).2 l hl;have a2:=p9 (ok _ (rm y hy)).2 l' hl';exact rD h2 x y hx hy ne l hl l' hl' Yd
structure TdK(xs:List Ln)(rs:List PR)(pace:List (List Int))(S:PlS)(still:Bool):Prop where
 wk:bH rs.length xs.length (λi=>(bv xs i).1) (bd rs) pace (bb xs) S.lg
 rows:(S.lg.foldl (bg (bd rs) pace) (bb xs)).rows=aA S
 lok:gL xs.length S.lg
 sz:S.lg.length<=10000000
 hsz:∀i,(ap xs S.lg i).length<=10000000
 rsz:∀i,(aA S i).length<=10000000
 stuck:still=true->gK rs.length (λi=>(bv xs i).1) (bd rs) (S.lg.foldl (bg (bd rs) pace) (bb xs))
theorem kI{n nl:Nat}{ls:Nat->Option Int}{prt:Nat->PR}{pace:List (List Int)}:∀{es:List Ent}{W:WS},bH n nl ls prt pace W es->gL nl es
 |[],_,_,_,h=>(nomatch h)
 |a::es,_,w,e,h=>(qu.mp h).elim (λz=>z▸⟨w.1.hs.few,λp hp=>⟨(w.1.hs.ok p hp).1,(w.1.hs.ok p hp).2.1⟩⟩) λz=>kI (es:=es) w.2 e z
theorem lJ.tdk{H H':Hp}{t:Addr}{xs:List Ln}{rs:List PR}{pace:List (List Int)}{most:Nat}{S:PlS}{still:Bool}{lg st:Addr}{lgv us:List V}(T:lJ H H' t xs rs pace most S still lg st lgv us)(n60:rs.length<60)(nn:∀r∈pace,∀x∈r,0<=x)(fl:∀x∈xs,x.2.length<=50)(fo:∀x∈xs,∀n∈x.2,OnW n)(ok:∀r∈rs,r.ok/\r.fit xs.length)(hm:most<=5000)(u:Uq rs.length (bd rs)):TdK xs rs pace S still:=by
 let C:PlC:={ b:=t,dx:=t,y:=t,dy:=t,la:=t,lq:=t,dl:=t,pc:=t,dq:=λ_=>t,qo:=λ_=>t,us:=[],pv:=[],n:=rs.length,nl:=xs.length,prt:=bd rs,ls:=λi=>(bv xs i).1,pace:=pace }
 have rm:∀x,x<rs.length->bd rs x∈rs:=λx hx=>by unfold bd;rw[qj,qc hx];exact List.getElem_mem hx
 have okC:∀x,x<C.n->(C.prt x).ok/\(C.prt x).fit C.nl:=λx hx=>ok _ (rm x hx);have g0:=kN (C:=C) (rs:=rs) (most:=most) U fl fo hm
 have len:∀{S:PlS}{k:Nat},cy C k S->∀i,(aA S i).length<=10000000:=λ{S k} c i=>by
  unfold aA;rw[qY];have:=(c.st i).1;omega
 cases still with
 |true=>
  have R:br C.ls C.prt C.pace (ci xs C.n most) .top S:=T.nd.1;obtain⟨w,⟨_,I,_⟩,_⟩:=R.sim okC n60 nn g0;have cp:=(R.gd okC n60 g0).cap;obtain⟨_,c,tr,_,_⟩:=R.nob okC n60 nn u.t g0;have tr0:S.tr=[]:=tr.resolve_right λz=>by have:=z.2;rw[T.nd.2]at this;cases this
  have I:Sim (aS C xs S.lg) _ S:=I;refine⟨w,I.rows,kI w,by have:=cp.lg;omega,λi=>by rw[<- R.hist i];have:=(cp.st i).1;omega,len cp,λ_=>⟨λx hx hp=>?_,λx hx hs hp=>?_⟩⟩
  ·have hp:(aS C xs S.lg).post x=none:=hp;show ∃l∈bD (aS C xs S.lg).rows (bd rs x),(aS C xs S.lg).rows l.toNat=[];rw[I.rows];rcases c.no x hx hp with m|⟨i,m⟩|m
   ·rw[tr0]at m;cases m
   ·obtain⟨l,hl,e,em⟩:=c.lack i x m;exact⟨l,hl,by rw[e];exact em⟩
   ·cases m
  ·have hp:(aS C xs S.lg).post x=some hs:=hp;show ∃p∈hs,cN (C.ls p.1.toNat) (((aS C xs S.lg).rows p.1.toNat).length:Int)=false;rw[I.rows];rcases c.so x hx hs hp with⟨kv,hk,_⟩|⟨i,m⟩|m
   ·rw[T.nd.2]at hk;cases hk
   ·obtain⟨p,hp',e,fu⟩:=c.full i x m;have e2:=(I.wr i x m).1;rw[hp]at e2;cases e2;exact⟨p,hp',by rw[e];exact fu⟩
   ·cases m
 |false=>
  obtain⟨k,x,r,R,_,sp⟩:=T.nd;have R:br C.ls C.prt C.pace (ci xs C.n most) (.tak k (x::r)) S:=R;obtain⟨w,⟨I,_⟩,_⟩:=R.sim okC n60 nn g0;have cp:=(R.gd okC n60 g0).cap;exact⟨w,I.rows,kI w,by have:=cp.lg;omega,λi=>by rw[<- R.hist i];have:=(cp.st i).1;omega,len cp,λz=>(by cases z)⟩
theorem wD(T:Tx P w K mg a):aC P w K mg base CX0 8 a.Cc a.Cd ["_law_script"] (fZ K):=by
 refine T.EE.ok cQ (λvs H Q E h=>?_) (λcdv A outer s H vs Q E hr h=>?_)
 ·obtain⟨_,_,rfl,_⟩:=h
  rfl
 obtain⟨l,ns,rfl,hl,n63,_,_,q⟩:=h
 refine⟨_,(ae (eK (aR (wK T) (hr.mono Qz) U T.EB T.CP.kp T.EA .nil ar (a8 (pq 0) ac)) (gy U (bN (aP (i:=1) cQ.nd U Oi) (bN (aP (i:=2) cQ.nd U Oi) dc))))
  (ae (aK (i:=3) cQ.nd U Oi (aR (eQ T) (hr.mono Qz) U T.A2 T.zX.kp T.A1 .nil ar (a8 (aR (io T) (hr.mono Qz) U T.Aj T.Ac.kp T.Ai .nil ar (a8 (pq 0) (a8 aa ac))) (a8 aa ac))))
  (ae (aK (i:=4) cQ.nd U Oi (aR (eQ T) (hr.mono Qz) U T.A2 T.zX.kp T.A1 .nil ar (a8 (aR (io T) (hr.mono Qz) U T.Aj T.Ac.kp T.Ai .nil ar (a8 (pq 0) (a8 aa ac))) (a8 aa ac))))
  (ae (aK (i:=5) cQ.nd U Oi (bR (a8 (ag aT (ag bL (pq 3) aa) aa) (a8 (ag aT (ag bL (pq 4) aa) aa) ac))))
  (ae (aX (aO bi (ag aT (pq 4) aa) aa (aJ _)) (ai (eK (am aV (pq 5) aa Oy) (fB (pq 5) aa fg))) aW)
  (ae (aK (i:=6) cQ.nd U Oi (aR (oO T) (hr.mono Qz) U T.CG T.Cg.kp T.CF .nil ar (a8 (pq 1) (a8 (pq 2) (a8 (aR (oT T) (hr.mono Qz) U T.CT T.Cj.kp T.CS .nil ar (a8 (pq 0) (a8 (pq 3) ac))) (a8 (am aV (pq 5) aa Oy) ac))))))
  (ae (aK (i:=7) cQ.nd U Oi (aR (oO T) (hr.mono Qz) U T.CG T.Cg.kp T.CF .nil ar (a8 (pq 1) (a8 (pq 2) (a8 (aR (oT T) (hr.mono Qz) U T.CT T.Cj.kp T.CS .nil ar (a8 (pq 0) (a8 (pq 4) ac))) (a8 (am aV (pq 5) aa Oy) ac))))))
  (ae (aK (i:=8) cQ.nd U Oi (aR (oR T) (hr.mono Qz) U T.CV T.Ck.kp T.CU .nil ar (a8 (pq 1) (a8 (am aZ (pq 6) aa Oy) ac))))
  (ae (aK (i:=9) cQ.nd U Oi (aR (oR T) (hr.mono Qz) U T.CV T.Ck.kp T.CU .nil ar (a8 (pq 1) (a8 (am aZ (pq 7) aa Oy) ac))))
  (ae (aX (PW.pt (i8 (dQ (d4 (aR (oQ T) (hr.mono Qz) U T.D0 T.Cm.kp T.CZ .nil ar (a8 (pq 1) (a8 (am aZ (pq 6) aa Oy) (a8 (pq 8) (a8 (pq 3) ac))))))) (i7 (dQ (d4 (aR (oQ T) (hr.mono Qz) U T.D0 T.Cm.kp T.CZ .nil ar (a8 (pq 1) (a8 (am aZ (pq 7) aa Oy) (a8 (pq 9) (a8 (pq 4) ac)))))))))) (ai (au cG)) aW)
  (ae (cE PassesOwn.never U (db U T.zT (a8 (bz c5 U T.wp Q7 (a8 (pq 1) ac)) ac)) (aP (i:=10) cQ.nd U Oi)
  (ae (aK (i:=11) cQ.nd U Oi (bz (rS U) U T.Co PyProof.Rows.Boot.«min» (a8 (bz c5 U T.wp Q7 (a8 (am aV (pq 8) (pq 10) Oy) ac)) (a8 (bz c5 U T.wp Q7 (a8 (am aV (pq 9) (pq 10) Oy) ac)) ac))))
  (ai (aX (aO (kB hr.units) (df g9 (am aV (pq 8) (pq 10) Oy) dR (bQ (pq 11))) (df g9 (am aV (pq 9) (pq 10) Oy) dR (bQ (pq 11))) (aJ _)) (ai (au cG)) aW))))
  (ae (aX (PW.pt (i8 (PW.pt (ox (d4 (am aZ (pq 6) aa Oy)) (ow (dQ (d4 (aR (oV T) (hr.mono Qz) U T.CY T.Cl.kp T.CW .nil ar (a8 (pq 9) (a8 (pq 8) ac)))))))) (i7 (PW.pt (ox (d4 (am aZ (pq 7) aa Oy)) (ow (dQ (d4 (aR (oV T) (hr.mono Qz) U T.CY T.Cl.kp T.CW .nil ar (a8 (pq 8) (a8 (pq 9) ac))))))))))) (ai (au cG)) aW)
  (ai (au (oE (vT (oH (am aZ (pq 6) aa Oy) (ig (am aZ (pq 7) aa Oy)))) (ig (oH (ij (oK hr.units) (pq 8) (pq 9) (aJ _)) (ig (ij (oK hr.units) (am aZ (pq 6) aa Oy) (am aZ (pq 7) aa Oy) (aJ _)))))))))))))))))))),?_⟩
 refine⟨_,U,l,ns,U,hl,n63,λH1 t ll lp us ps xs rs s1 ht hll rln hlp rrs r16 x1000 okx okr sgr ndt ndg n0=>?_⟩;refine⟨t,_,U,SqT.of ht,U,_,_,U,_,_,U,U,?_⟩;have fl:∀x∈xs,x.2.length<=50:=λx hx=>by have:=(okx x hx).1;omega
 have fo:∀x∈xs,∀n∈x.2,OnW n:=λx hx=>(okx x hx).2;have u:=sR okr ndt ndg;dsimp only[aI];refine⟨_,U,l,ns,2,U,s1.seq hl,Qz,λc=>⟨c,1,U,⟨Qz,Qz⟩,λm m0 m1=>?_⟩⟩;dsimp only[aI];refine⟨_,U,l,ns,3,U,s1.seq hl,Qz,λc2=>⟨c2,2,U,⟨Qz,Qz⟩,λn' n0' n1'=>?_⟩⟩;dsimp only[aI];obtain⟨ma,ema,ma40⟩:∃mo:Nat,m / 5 % 41=(mo:Int)/\mo<=40:=⟨(m / 5 % 41).toNat,Yd,Yd⟩;obtain⟨mb,emb,mb40⟩:∃mo:Nat,n' / 5 % 41=(mo:Int)/\mo<=40:=⟨(n' / 5 % 41).toNat,Yd,Yd⟩;refine⟨_,U,_,_,U,U,⟨Qz,Qz⟩,_,_,U,U,Qz,_,U,_,_,U,U,⟨Qz,Qz⟩,_,_,U,U,Qz,ln2,λlo hlo=>?_⟩;rw[ema,emb];have so:=a9.new hlo (.lst [V.int ma,.int mb]);have ho:upd H1 lo (.lst [V.int ma,.int mb]) lo=some (.lst [V.int ma,.int mb]):=af;generalize upd H1 lo (.lst [V.int ma,.int mb])=H2 at so ho;dsimp only[aI];refine j9 (λσ' G'=>σ'=[some (.ref l),some (.ref ll),some (.ref lp),some (.int m),some (.int n'),some (.ref lo),none,none,none,none,none,none]/\a9 H1 G'/\∃mc:Nat,mc<=40/\G' lo=some (.lst [V.int ma,.int mc])) ?_ ?_
 rotate_left
 ·intro N hN;refine⟨_,U,_,_,U,U,Qz,U,_,U,bh (λ_=>?_) (λ_=>?_)⟩
  ·refine⟨_,U,lo,_,_,_,U,U,SqL.of ho,U,_,U,lo,_,1,1,U,U,ho,U,?_⟩;exact hN _ _ ⟨U,a9.over so hlo,ma,ma40,af⟩
  ·exact hN _ _ ⟨U,so,mb,mb40,ho⟩
 rintro σ' H3 ⟨rfl,s3,mc,mc40,ho3⟩;have s03:=s1.trans s3;refine⟨_,U,_,U,_,U,_,U,l,ns,m,U,s03.seq hl,n63,⟨m0,m1⟩,λH4 v pace s4 rpc p16 pok=>?_⟩;have s34:=s3.trans s4;refine⟨_,U,lo,_,_,_,U,U,SqL.of (s4 _ _ ho3),U,ll,lp,v,us,ps,xs,rs,pace,ma,U,s34 _ _ hll,rln.same s34,s34 _ _ hlp,rrs.same s34,rpc,Yd,x1000,fl,fo,Yd,λr hr=>by have:=(pok r hr).1;omega,okr,Yd,λH5 tf S still lg st lgv us5 TD=>?_⟩;have td:=TD.tdk Yd (λr hr=>(pok r hr).2) fl fo okr Yd u;have s5:=TD.sa;have s15:=s34.trans s5;dsimp only[aI];refine⟨_,U,_,U,_,U,_,U,l,ns,n',U,(s1.trans s15).seq hl,n63,⟨n0',n1'⟩,λH6 v2 pace2 s6 rpc2 p162 pok2=>?_⟩;have s16:=s15.trans s6;refine⟨_,U,lo,_,_,_,U,U,SqL.of (s6 _ _ (s5 _ _ (s4 _ _ ho3))),U,ll,lp,v2,us,ps,xs,rs,pace2,mc,U,s16 _ _ hll,rln.same s16,s16 _ _ hlp,rrs.same s16,rpc2,Yd,x1000,fl,fo,Yd,λr hr=>by have:=(pok2 r hr).1;omega,okr,Yd,λH7 tf2 S2 still2 lg2 st2 lgv2 us7 TD2=>?_⟩;have td2:=TD2.tdk Yd (λr hr=>(pok2 r hr).2) fl fo okr Yd u;have s7:=TD2.sa;have s57:=s6.trans s7;have s17:=s16.trans s7;dsimp only[aI];refine⟨_,U,_,U,tf,_,_,_,U,U,SqT.of (s57 _ _ TD.tp),U,ll,lg,us,lgv,xs,S.lg,U,s17 _ _ hll,rln.same s17,s57 _ _ TD.hl,TD.es.same s57,td.lok,td.sz,td.hsz,x1000,λH8 l8 v8 s8 h8 r8=>?_⟩;have s58:=s57.trans s8;have s78:=s7.trans s8;have s18:=s17.trans s8;dsimp only[aI];refine⟨_,U,_,U,tf2,_,_,_,U,U,SqT.of (s8 _ _ TD2.tp),U,ll,lg2,us,lgv2,xs,S2.lg,U,s18 _ _ hll,rln.same s18,s8 _ _ TD2.hl,TD2.es.same s8,td2.lok,td2.sz,td2.hsz,x1000,λH9 l9 v9 s9 h9 r9=>?_⟩;have s59:=s58.trans s9;have s89:=s8.trans s9;have s19:=s18.trans s9;dsimp only[aI];refine⟨_,U,_,U,tf,_,_,_,U,U,SqT.of (s59 _ _ TD.tp),U,_,U,_,U,ll,lg,l8,m,us,lgv,v8,xs,S.lg,U,s19 _ _ hll,rln.same s19,s59 _ _ TD.hl,TD.es.same s59,s9 _ _ h8,r8.same s9,td.lok,td.sz,td.hsz,x1000,n0,⟨m0,m1⟩,λHa sa=>⟨_,U,gH ?_⟩⟩;have s5a:=s59.trans sa;have s8a:=s89.trans sa;have s1a:=s19.trans sa;refine⟨_,U,_,U,tf2,_,_,_,U,U,SqT.of (s8a _ _ TD2.tp),U,_,U,_,U,ll,lg2,l9,n',us,lgv2,v9,xs,S2.lg,U,s1a _ _ hll,rln.same s1a,s8a _ _ TD2.hl,TD2.es.same s8a,sa _ _ h9,r9.same sa,td2.lok,td2.sz,td2.hsz,x1000,n0,⟨n0',n1'⟩,λHb sb=>⟨_,U,bj U ?_⟩⟩;have s5b:=s5a.trans sb;have s8b:=s8a.trans sb;have s1b:=s1a.trans sb;have h8b:=sb _ _ (sa _ _ (s9 _ _ h8));have h9b:=sb _ _ (sa _ _ h9);have r8b:=((r8.same s9).same sa).same sb;have r9b:=(r9.same sa).same sb;have two:=iE u td.wk td2.wk;have two':=iE u td2.wk td.wk;dsimp only[md];have ul:us.length=xs.length:=rln.len;refine⟨_,U,ll,_,U,.inl (SqL.of (s1b _ _ hll)),_,U,by rw[ul];omega,by rw[ul];omega,?_⟩;refine iM (λi σ G=>(∃va vb,σ=[some (.ref l),some (.ref ll),some (.ref lp),some (.int m),some (.int n'),some (.ref lo),some (.ref tf),some (.ref tf2),some (.ref l8),some (.ref l9),va,vb])/\a9 Hb G) ⟨⟨_,_,U⟩,a9.refl _⟩ ?_ ?_
 ·rintro i σ G hi ⟨⟨va,vb,rfl⟩,sg⟩;have il:i<xs.length:=by rw[ul]at hi;simpa using hi
  have at1:∀{h:Nat->List Int},((List.range xs.length).map h)[i]?=some (h i):=λ{h}=>by rw[qE,List.getElem?_range il];rfl
  obtain⟨p1,e1,hp1⟩:=r8b.at i _ at1;obtain⟨p2,e2,hp2⟩:=r9b.at i _ at1;have e0:(0:Int)+(i:Int)=(i:Int):=Int.zero_add _;dsimp only[aI];rw[e0];refine⟨_,U,_,U,l8,_,_,_,U,U,SqL.of (sg _ _ h8b),bP e1,p1,_,U,.inl (SqL.of (sg _ _ hp1)),_,U,_,U,l9,_,_,_,U,U,SqL.of (sg _ _ h9b),bP e2,p2,_,U,.inl (SqL.of (sg _ _ hp2)),_,_,U,?_⟩;dsimp only[aI];rw[q9,q9]
  obtain⟨mn,emn,mn1,mn2⟩:∃mn:Nat,(if((ap xs S2.lg i).length:Int)<((ap xs S.lg i).length:Int)then((ap xs S2.lg i).length:Int)else((ap xs S.lg i).length:Int))=(mn:Int)/\mn<=(ap xs S.lg i).length/\mn<=(ap xs S2.lg i).length:=by
   split
   ·exact⟨_,U,Yd,qe _⟩
   ·exact⟨_,U,qe _,Yd⟩
  rw[emn];refine⟨_,U,_,U,l8,_,_,_,U,U,SqL.of (sg _ _ h8b),bP e1,_,U,_,U,p1,_,U,SqL.of (sg _ _ hp1),λla hla=>?_⟩;rw[iP _ Yd Yd,qX];have sx:=a9.new hla (.lst (((ap xs S.lg i).take mn).map V.int));refine⟨_,U,_,U,l9,_,_,_,U,U,SqL.of (sx _ _ (sg _ _ h9b)),bP e2,_,U,_,U,p2,_,U,SqL.of (sx _ _ (sg _ _ hp2)),λlb hlb=>?_⟩;rw[iP _ Yd Yd,qX]
  have eq:(ap xs S2.lg i).take mn=(ap xs S.lg i).take mn:=by
   rcases two.1 i with⟨d,e⟩|⟨d,e⟩
   ·rw[<- e,List.take_append_of_le_length mn1]
   ·rw[<- e,List.take_append_of_le_length mn2]
  rw[eq];have sy:=a9.new hlb (.lst (((ap xs S.lg i).take mn).map V.int));have sh:Shp 1 (.list (((ap xs S.lg i).take mn).map PyData.int)):=.lst (gU _);refine⟨_,_,.lst (SqL.of (sy _ _ af)) (ee _),.lst (SqL.of af) (ee _),sh.shaped Qz,sh.shaped Qz,_,U,?_⟩;rw[gI sh Qz];exact bj U ⟨⟨_,_,U⟩,sg.trans (sx.trans sy)⟩
 rintro σ G ⟨⟨va,vb,rfl⟩,sg⟩;have tf5:=sg _ _ (s5b _ _ TD.tp);have tf7:=sg _ _ (s8b _ _ TD2.tp);have h8g:=sg _ _ h8b;have h9g:=sg _ _ h9b;have r8g:=r8b.same sg;have r9g:=r9b.same sg;have st5:=sg _ _ (s5b _ _ TD.hs);have st7:=sg _ _ (s8b _ _ TD2.hs);have ri5:=(TD.ri.same s5b).same sg;have ri7:=(TD2.ri.same s8b).same sg;dsimp only;refine j9 (λσ' G'=>σ'=[some (.ref l),some (.ref ll),some (.ref lp),some (.int m),some (.int n'),some (.ref lo),some (.ref tf),some (.ref tf2),some (.ref l8),some (.ref l9),va,vb]/\a9 G G') ?_ ?_
 rotate_left
 ·intro N hN;refine⟨_,U,tf,_,_,_,U,U,SqT.of tf5,U,_,U,?_⟩
  cases h1:still with
  |true=>
   refine bS U ?_;refine⟨_,U,_,U,l9,l8,v9,v8,ap xs S2.lg,ap xs S.lg,xs.length,U,h9g,h8g,r9g,r8g,x1000,λi _=>two'.2 (td.stuck h1) i,λG1 sg1=>⟨_,U,gH ?_⟩⟩;have tf7':=sg1 _ _ tf7;refine⟨_,U,tf2,_,_,_,U,U,SqT.of tf7',U,_,U,?_⟩
   cases h2:still2 with
   |true=>
    refine bS U ?_;exact⟨_,U,_,U,l8,l9,v8,v9,ap xs S.lg,ap xs S2.lg,xs.length,U,sg1 _ _ h8g,sg1 _ _ h9g,r8g.same sg1,r9g.same sg1,x1000,λi _=>two.2 (td2.stuck h2) i,λG2 sg2=>⟨_,U,bj U (hN _ _ ⟨U,sg1.trans sg2⟩)⟩⟩
   |false=>exact bj U (bj U (hN _ _ ⟨U,sg1⟩))
  |false=>
   refine bj U (gH ?_);have sg1:=a9.refl G;have tf7':=sg1 _ _ tf7;refine⟨_,U,tf2,_,_,_,U,U,SqT.of tf7',U,_,U,?_⟩
   cases h2:still2 with
   |true=>
    refine bS U ?_;exact⟨_,U,_,U,l8,l9,v8,v9,ap xs S.lg,ap xs S2.lg,xs.length,U,sg1 _ _ h8g,sg1 _ _ h9g,r8g.same sg1,r9g.same sg1,x1000,λi _=>two.2 (td2.stuck h2) i,λG2 sg2=>⟨_,U,bj U (hN _ _ ⟨U,sg1.trans sg2⟩)⟩⟩
   |false=>exact bj U (bj U (hN _ _ ⟨U,sg1⟩))
 rintro σ' G' ⟨rfl,sg'⟩;have tf5':=sg' _ _ tf5;have tf7':=sg' _ _ tf7;refine⟨_,U,tf,_,_,_,U,U,SqT.of tf5',U,_,U,?_⟩
 cases h1:still with
 |false=>exact bj U ⟨_,U,_,U,bS U (q _)⟩
 |true=>
  refine bS U ⟨_,U,tf2,_,_,_,U,U,SqT.of tf7',U,_,U,_,U,?_⟩
  cases h2:still2 with
  |false=>exact bS U (q _)
  |true=>
   refine bj U ?_;have both:=uS u td.wk td2.wk (td.stuck h1) (td2.stuck h2);have eh:(List.range xs.length).map (ap xs S2.lg)=(List.range xs.length).map (ap xs S.lg):=List.map_congr_left λi _=>(both i).1.symm;have er:(List.range xs.length).map (aA S2)=(List.range xs.length).map (aA S):=List.map_congr_left λi _=>by rw[<- td.rows,<- td2.rows];exact(both i).2.symm
   have r9':=r9g.same sg';rw[eh]at r9';have ri7':=ri7.same sg';rw[er]at ri7';have sh1:=nK ((List.range xs.length).map (ap xs S.lg));have sh2:=nK ((List.range xs.length).map (aA S));refine⟨_,U,_,U,_,_,.lst (SqL.of (sg' _ _ h8g)) (r8g.same sg').dt,.lst (SqL.of (sg' _ _ h9g)) r9'.dt,sh1.shaped Qz,sh1.shaped Qz,?_⟩;rw[gI sh1 Qz];refine⟨_,U,bS U ?_⟩;refine⟨_,U,tf,_,_,_,U,U,SqT.of tf5',U,_,U,tf2,_,_,_,U,U,SqT.of tf7',U,_,_,.lst (SqL.of (sg' _ _ st5)) (ri5.same sg').dt,.lst (SqL.of (sg' _ _ st7)) ri7'.dt,sh2.shaped Qz,sh2.shaped Qz,?_⟩;rw[gI sh2 Qz];exact q _
end
theorem fM(P:Params)(f:Addr)(st:Stmt){x qual:Str}{oc:Value}{od an:Option Addr}{osl:Array (Option Value)}{kV doc pm cdv ct:Value}(l:(hk P).lookup f=some ⟨oc,od,.func (W.fnOf x qual (cz st) (cm st) (aj st) .none kV doc pm an cdv ct),osl⟩:=by k_is)
 (c:W.codeIn (hk P) cdv qual=true:=by k_is) (k:W.keepIn (hk P) (.ref f)=true:=by k_is):Fun (hk P) x qual st f (W.fnOf x qual (cz st) (cm st) (aj st) .none kV doc pm an cdv ct):=yR l c k
theorem eM(P:Params)(f:Addr)(st:Stmt){x qual:Str}{dt:Addr}{oc:Value}{od an d2:Option Addr}{osl e2:Array (Option Value)}{n:Nat}{kV doc pm cdv ct:Value}{dvs:Array Value}(l:(hk P).lookup f=some ⟨oc,od,.func (W.fnOf x qual (cz st) (cm st) (aj st) (.ref dt) kV doc pm an cdv ct),osl⟩:=by k_is)
 (c:W.codeIn (hk P) cdv qual=true:=by k_is) (k:W.keepIn (hk P) (.ref f)=true:=by k_is) (t:(hk P).lookup dt=some ⟨.type "tuple",d2,.seq dvs n,e2⟩:=by k_is):f9 (hk P) x qual st f (W.fnOf x qual (cz st) (cm st) (aj st) (.ref dt) kV doc pm an cdv ct) dvs:=yQ l c k t U
theorem dh{R:List Value->Prop}(h:∀x0,R [x0]):∀us:List Value,us.length=1->R us
 |[_],_=>h _
theorem len2{R:List Value->Prop}(h:∀x0 x1,R [x0,x1]):∀us:List Value,us.length=2->R us
 |[_,_],_=>h _ _
theorem dX{R:List Value->Prop}(h:∀x0 x1 x2,R [x0,x1,x2]):∀us:List Value,us.length=3->R us
 |[_,_,_],_=>h _ _ _
theorem pF{R:List Value->Prop}(h:∀x0 x1 x2 x3,R [x0,x1,x2,x3]):∀us:List Value,us.length=4->R us
 |[_,_,_,_],_=>h _ _ _ _
theorem gF{R:List Value->Prop}(h:∀x0 x1 x2 x3 x4,R [x0,x1,x2,x3,x4]):∀us:List Value,us.length=5->R us
 |[_,_,_,_,_],_=>h _ _ _ _ _
theorem ya{R:List Value->Prop}(h:∀x0 x1 x2 x3 x4 x5,R [x0,x1,x2,x3,x4,x5]):∀us:List Value,us.length=6->R us
 |[_,_,_,_,_,_],_=>h _ _ _ _ _ _
theorem mM{P:Params}{h:Heap}{mg:Str->Option Value}{x:Str}{v:Value}(X:(hk P).In h)(G:h.Ns mainGlobals mg)(e:W.nsIn (hk P) mainGlobals x=some (some v):=by k_is):mg x=some v:=W.mg_of X G e
theorem nM{P:Params}{h:Heap}{mg:Str->Option Value}{x:Str}(X:(hk P).In h)(G:h.Ns mainGlobals mg)(e:W.nsIn (hk P) mainGlobals x=some none:=by k_is):mg x=none:=W.mg_none_of X G e
theorem oM{P:Params}{C:Addr}{f:Str}(e:W.findIn (hk P) (.ref C) f=some none:=by k_is):aY (hk P) C f:=e
set_option maxHeartbeats 0 in
theorem zF{w:World}{h:Heap}{mg:Str->Option Value}{fa:Addr}(X:(hk w.params).In h)(G:h.Ns mainGlobals mg)(hfa:mg "law"=some (.ref fa)):
 ∃fd:FuncData,(∀(s:Shared)(v:Value),BindsTo s fd ⟨[v],[]⟩ [("_law_script",v)])/\∀base:Heap,(hk w.params).In base->base.Ns mainGlobals mg->aC PySem.Challenge.rw_handflow_k47_whole_two_paces.prog w (hk w.params) mg base CX0 8 fa fd ["_law_script"] (fZ (hk w.params)):=by
 k_fill
 cases hfa.symm.trans (mM (v:=.ref 452) X G);have F0:=fM w.params 28 jE;have b0:=F0.binds (ps:=["self","things"]) λ_ _ _ _ _ _=>len2 λ_ _=>U;have F1:=fM w.params 35 jA;have b1:=F1.binds (ps:=["self"]) λ_ _ _ _ _ _=>dh λ_=>U;have F2:=fM w.params 42 jD;have b2:=F2.binds (ps:=["self"]) λ_ _ _ _ _ _=>dh λ_=>U;have F3:=fM w.params 49 jC;have b3:=F3.binds (ps:=["self","thing"]) λ_ _ _ _ _ _=>len2 λ_ _=>U;have F4:=fM w.params 56 jz;have b4:=F4.binds (ps:=["self"]) λ_ _ _ _ _ _=>dh λ_=>U;have F5:=fM w.params 63 jB;have b5:=F5.binds (ps:=["self"]) λ_ _ _ _ _ _=>dh λ_=>U;have F6:=fM w.params 77 jh;have b6:=F6.binds (ps:=["sign","a","b"]) λ_ _ _ _ _ _=>dX λ_ _ _=>U;have F7:=fM w.params 84 jd;have b7:=F7.binds (ps:=["sign","a","b"]) λ_ _ _ _ _ _=>dX λ_ _ _=>U;have F8:=fM w.params 96 gj;have b8:=F8.binds (ps:=["self","lines"]) λ_ _ _ _ _ _=>len2 λ_ _=>U;have F9:=fM w.params 103 jt;have b9:=F9.binds (ps:=["self","line"]) λ_ _ _ _ _ _=>len2 λ_ _=>U;have F10:=fM w.params 110 jr;have b10:=F10.binds (ps:=["self","line"]) λ_ _ _ _ _ _=>len2 λ_ _=>U;have F11:=fM w.params 117 jw;have b11:=F11.binds (ps:=["self","line"]) λ_ _ _ _ _ _=>len2 λ_ _=>U;have F12:=fM w.params 124 ju;have b12:=F12.binds (ps:=["self","line","thing"]) λ_ _ _ _ _ _=>dX λ_ _ _=>U;have F13:=fM w.params 131 jq;have b13:=F13.binds (ps:=["self","line"]) λ_ _ _ _ _ _=>len2 λ_ _=>U;have F14:=fM w.params 136 hV;have b14:=F14.binds (ps:=["self"]) λ_ _ _ _ _ _=>dh λ_=>U;have F15:=fM w.params 157 jL;have b15:=F15.binds (ps:=["self","ins"]) λ_ _ _ _ _ _=>len2 λ_ _=>U;have F16:=fM w.params 164 jK;have b16:=F16.binds (ps:=["self","yard"]) λ_ _ _ _ _ _=>len2 λ_ _=>U;have F17:=fM w.params 185 jJ;have b17:=F17.binds (ps:=["self","ins","outs","route"]) λ_ _ _ _ _ _=>pF λ_ _ _ _=>U;have F18:=fM w.params 190 hX;have b18:=F18.binds (ps:=["self","things"]) λ_ _ _ _ _ _=>len2 λ_ _=>U;have F19:=fM w.params 209 jy;have b19:=F19.binds (ps:=["self","ins","out","sign","sides"]) λ_ _ _ _ _ _=>gF λ_ _ _ _ _=>U;have F20:=fM w.params 216 jx;have b20:=F20.binds (ps:=["self","things"]) λ_ _ _ _ _ _=>len2 λ_ _=>U;have F21:=fM w.params 235 jQ;have b21:=F21.binds (ps:=["self","ins","which","ones","noughts","told"]) λ_ _ _ _ _ _=>ya λ_ _ _ _ _ _=>U;have F22:=fM w.params 242 jP;have b22:=F22.binds (ps:=["self","things"]) λ_ _ _ _ _ _=>len2 λ_ _=>U;have F23:=fM w.params 261 jO;have b23:=F23.binds (ps:=["self","told","ones","noughts","outs"]) λ_ _ _ _ _ _=>gF λ_ _ _ _ _=>U;have F24:=fM w.params 268 jM;have b24:=F24.binds (ps:=["self","yard"]) λ_ _ _ _ _ _=>len2 λ_ _=>U;have F25:=fM w.params 275 jN;have b25:=F25.binds (ps:=["self","things"]) λ_ _ _ _ _ _=>len2 λ_ _=>U;have F26:=fM w.params 287 jg;have b26:=F26.binds (ps:=["side","things"]) λ_ _ _ _ _ _=>len2 λ_ _=>U;have F27:=fM w.params 294 jf;have b27:=F27.binds (ps:=["row"]) λ_ _ _ _ _ _=>dh λ_=>U;have F28:=fM w.params 306 dO;have b28:=F28.binds (ps:=["self","lines","parts","pace","most"]) λ_ _ _ _ _ _=>gF λ_ _ _ _ _=>U;have F29:=fM w.params 313 jF;have b29:=F29.binds (ps:=["self"]) λ_ _ _ _ _ _=>dh λ_=>U;have F30:=fM w.params 320 jH;have b30:=F30.binds (ps:=["self","now","part"]) λ_ _ _ _ _ _=>dX λ_ _ _=>U;have F31:=fM w.params 325 fw;have b31:=F31.binds (ps:=["self","now","part"]) λ_ _ _ _ _ _=>dX λ_ _ _=>U;have F32:=fM w.params 332 jI;have b32:=F32.binds (ps:=["self","turn","parts"]) λ_ _ _ _ _ _=>dX λ_ _ _=>U;have F33:=fM w.params 339 jG;have b33:=F33.binds (ps:=["self","part"]) λ_ _ _ _ _ _=>len2 λ_ _=>U;have F35:=fM w.params 359 gZ;have b35:=F35.binds (ps:=["lines","log","line"]) λ_ _ _ _ _ _=>dX λ_ _ _=>U;have F36:=fM w.params 366 jo;have b36:=F36.binds (ps:=["_law_script","_law_k"]) λ_ _ _ _ _ _=>len2 λ_ _=>U;have F37:=fM w.params 373 jn;have b37:=F37.binds (ps:=["_law_cell_here","_law_k"]) λ_ _ _ _ _ _=>len2 λ_ _=>U;have F38:=fM w.params 380 jm;have b38:=F38.binds (ps:=["_law_cell_here","_law_way"]) λ_ _ _ _ _ _=>len2 λ_ _=>U;have F39:=fM w.params 387 jj;have b39:=F39.binds (ps:=["_law_cell_here","_law_way"]) λ_ _ _ _ _ _=>len2 λ_ _=>U;have F40:=fM w.params 392 hU;have b40:=F40.binds (ps:=["_law_cell_here","_law_k"]) λ_ _ _ _ _ _=>len2 λ_ _=>U;have F41:=fM w.params 399 jl;have b41:=F41.binds (ps:=["_law_pool","_law_other","_law_lines","_law_many","_law_way"]) λ_ _ _ _ _ _=>gF λ_ _ _ _ _=>U;have F42:=fM w.params 406 jk;have b42:=F42.binds (ps:=["_law_way","_law_width","_law_cell_here"]) λ_ _ _ _ _ _=>dX λ_ _ _=>U;have F43:=fM w.params 411 hG;have b43:=F43.binds (ps:=["_law_cell_here","_law_k","_law_takers","_law_givers","_law_lines"]) λ_ _ _ _ _ _=>gF λ_ _ _ _ _=>U;have F44:=fM w.params 416 eI;have b44:=F44.binds (ps:=["_law_script"]) λ_ _ _ _ _ _=>dh λ_=>U;have F45:=fM w.params 421 hE;have b45:=F45.binds (ps:=["_law_cell_here","_law_k"]) λ_ _ _ _ _ _=>len2 λ_ _=>U;have F46:=fM w.params 426 hJ;have b46:=F46.binds (ps:=["_law_script","_law_way"]) λ_ _ _ _ _ _=>len2 λ_ _=>U;have F47:=fM w.params 431 h6;have b47:=F47.binds (ps:=["_law_lines","_law_log"]) λ_ _ _ _ _ _=>len2 λ_ _=>U;have F48:=fM w.params 438 jp;have b48:=F48.binds (ps:=["_law_one","_law_other"]) λ_ _ _ _ _ _=>len2 λ_ _=>U;have F49:=fM w.params 445 ji;have b49:=F49.binds (ps:=["_law_lines","_law_log","_law_rows","_law_way"]) λ_ _ _ _ _ _=>pF λ_ _ _ _=>U;have F50:=fM w.params 452 eF;have b50:=F50.binds (ps:=["_law_script"]) λ_ _ _ _ _ _=>dh λ_=>U;have F34:=eM (dvs:=#[.none,.int 5000 655]) w.params 354 je;have b34:=F34.binds (ps:=["lines","parts","pace","most"]) [] λ_ _ _ _ _ _ _ _ _ _ us hg hd hl=>match us,(show us.length=4 from by simpa using hl)with|[_,_,_,_],_=>BindsTo.of_defaults U hg hd U U
 have bd34:=F34.binds (ps:=["lines","parts","pace","most"]) [.int 5000 655] λ_ _ _ _ _ _ _ _ _ _ us hg hd hl=>match us,(show us.length=3 from by simpa using hl)with|[_,_,_],_=>BindsTo.of_defaults U hg hd U U
 have bdd34:=F34.binds (ps:=["lines","parts","pace","most"]) [.none,.int 5000 655] λ_ _ _ _ _ _ _ _ _ _ us hg hd hl=>match us,(show us.length=2 from by simpa using hl)with|[_,_],_=>BindsTo.of_defaults U hg hd U U
 have T:Tx PySem.Challenge.rw_handflow_k47_whole_two_paces.prog w (hk w.params) mg (Adr.mk 28 _ 35 _ 42 _ 49 _ 56 _ 63 _ 77 _ 84 _ 96 _ 103 _ 110 _ 117 _ 124 _ 131 _ 136 _ 157 _ 164 _ 185 _ 190 _ 209 _ 216 _ 235 _ 242 _ 261 _ 268 _ 275 _ 287 _ 294 _ 306 _ 313 _ 320 _ 325 _ 332 _ 339 _ 354 _ 655 359 _ 366 _ 373 _ 380 _ 387 _ 392 _ 399 _ 406 _ 411 _ 416 _ 421 _ 426 _ 431 _ 438 _ 445 _ 452 _ 258 66 139 167 193 219 245 278 342):=Tx.mk F0 b0 F1 b1 F2 b2 F3 b3 F4 b4 F5 b5 F6 b6 (mM X G) F7 b7 (mM X G) F8 b8 F9 b9 F10 b10 F11 b11 F12 b12 F13 b13 F14 b14 F15 b15 F16 b16 F17 b17 F18 b18 F19 b19 F20 b20 F21 b21 F22 b22 F23 b23 F24 b24 F25 b25 F26 b26 (mM X G) F27 b27 (mM X G) F28 b28 F29 b29 F30 b30 F31 b31 F32 b32 F33 b33 F34 bd34 bdd34 b34 (mM X G) F35 b35 (mM X G) F36 b36 (mM X G) F37 b37 (mM X G) F38 b38 (mM X G) F39 b39 (mM X G) F40 b40 (mM X G) F41 b41 (mM X G) F42 b42 (mM X G) F43 b43 (mM X G) F44 b44 (mM X G) F45 b45 (mM X G) F46 b46 (mM X G) F47 b47 (mM X G) F48 b48 (mM X G) F49 b49 (mM X G) F50 b50 (mM X G) (nM X G) (nM X G) (nM X G) (nM X G) (nM X G) (nM X G) (nM X G) (nM X G) (nM X G) (nM X G) (nM X G) (mM X G) (mM X G) (Cls.mk (by k_is) (by k_is) (by k_is) (by k_is)) (Mk.mk (by k_is) (by k_is) (by k_is) (by k_is)) (aG.mk (by k_is) (by k_is) (by k_is)) (aG.mk (by k_is) (by k_is) (by k_is)) (aG.mk (by k_is) (by k_is) (by k_is)) (aG.mk (by k_is) (by k_is) (by k_is)) (aG.mk (by k_is) (by k_is) (by k_is)) oM oM (mM X G) (Cls.mk (by k_is) (by k_is) (by k_is) (by k_is)) (Mk.mk (by k_is) (by k_is) (by k_is) (by k_is)) (aG.mk (by k_is) (by k_is) (by k_is)) (aG.mk (by k_is) (by k_is) (by k_is)) (aG.mk (by k_is) (by k_is) (by k_is)) (aG.mk (by k_is) (by k_is) (by k_is)) (aG.mk (by k_is) (by k_is) (by k_is)) (aG.mk (by k_is) (by k_is) (by k_is)) oM oM (mM X G) (Cls.mk (by k_is) (by k_is) (by k_is) (by k_is)) (Mk.mk (by k_is) (by k_is) (by k_is) (by k_is)) (aG.mk (by k_is) (by k_is) (by k_is)) oM (mM X G) (Cls.mk (by k_is) (by k_is) (by k_is) (by k_is)) (Mk.mk (by k_is) (by k_is) (by k_is) (by k_is)) (aG.mk (by k_is) (by k_is) (by k_is)) (aG.mk (by k_is) (by k_is) (by k_is)) oM oM oM (mM X G) (Cls.mk (by k_is) (by k_is) (by k_is) (by k_is)) (Mk.mk (by k_is) (by k_is) (by k_is) (by k_is)) (aG.mk (by k_is) (by k_is) (by k_is)) (aG.mk (by k_is) (by k_is) (by k_is)) oM oM oM oM (mM X G) (Cls.mk (by k_is) (by k_is) (by k_is) (by k_is)) (Mk.mk (by k_is) (by k_is) (by k_is) (by k_is)) (aG.mk (by k_is) (by k_is) (by k_is)) (aG.mk (by k_is) (by k_is) (by k_is)) oM oM oM oM oM (mM X G) (Cls.mk (by k_is) (by k_is) (by k_is) (by k_is)) (Mk.mk (by k_is) (by k_is) (by k_is) (by k_is)) (aG.mk (by k_is) (by k_is) (by k_is)) (aG.mk (by k_is) (by k_is) (by k_is)) oM oM oM oM (mM X G) (Cls.mk (by k_is) (by k_is) (by k_is) (by k_is)) (Mk.mk (by k_is) (by k_is) (by k_is) (by k_is)) (aG.mk (by k_is) (by k_is) (by k_is)) (aG.mk (by k_is) (by k_is) (by k_is)) (aG.mk (by k_is) (by k_is) (by k_is)) (aG.mk (by k_is) (by k_is) (by k_is)) (aG.mk (by k_is) (by k_is) (by k_is)) oM oM oM oM oM oM oM oM oM oM oM (lQ.mk (by k_is) (by k_is) (by k_is) (by k_is));exact⟨_,λs v=>.of_eq U,λbase _ _=>wD T⟩
theorem sP{l:W.OpenLaw}{q:Program}{loose:List Str}{XP:(Str->Option Value)->Heap->Prop}{YP:World->Heap->Prop}{d:DefRec}{K:Params->W.Frag}(hn:l.most=some 63)(hdf:d.params.defaults=[])
 (hY:∀(w:World)(h:Heap),YP w h->(K w.params).In h)
 (F:∀(w:World)(mg:Str->Option Value)(fa:Addr)(h:Heap),(K w.params).In h->h.Ns mainGlobals mg->mg d.name=some (.ref fa)->
  ∃fd:FuncData,(∀(s:Shared)(u:Value),BindsTo s fd ⟨[u],[]⟩ [("_law_script",u)])/\∀base:Heap,(K w.params).In base->base.Ns mainGlobals mg->aC l.prog w (K w.params) mg base CX0 8 fa fd ["_law_script"] (fZ (K w.params))):
 W.WalkO q loose XP YP l.row.toRowW d [] (λf vs=>PySem.call f vs):=
 L2.sO (n:=63) (k:=8) (x:="_law_script") (CX:=λ_=>CX0) (sp:=λw=>fZ (K w.params)) hn Qz hdf ⟨U,Qz,Qz,U⟩ hY F (λ_ _ a ns hl hb hO hS=>⟨a,ns,U,hS,hl,hb,hO,λ_=>U⟩) λ_ _ _ _ _ z=>z
noncomputable def yW:PySem.DefRec:=⟨"law",cz eF,cm eF,aj eF,defPos eF⟩
theorem pZ{p:Program}{w:World}{A:Option Value}:∀{m:Nat}{x x':W.SharedT}{y:Thread},goT p w A m x y=some x'->W.topRun PySem.treeTable p w 11 A m x.abs y=some x'.abs
 |0,_,_,_,h=>nomatch h
 |m+1,x,x',y,h=>by
  unfold goT at h;unfold W.topRun
  cases a:W.through y with
  |true=>rw[a]at h;cases h;rfl
  |false=>
   rw[a]at h
   cases b:W.stepOk 11 A y with
   |false=>rw[b]at h;cases h
   |true=>
    rw[b]at h
    cases c:W.stepT (denote PySem.treeTable) p w x y with
    |none=>rw[c]at h;cases h
    |some z=>rw[c]at h;rw[W.stepT_spec c];exact pZ h
theorem yc{p q:Program}{loose:List Str}{Xt:Shared->Bool}{α:Type}{Yf:Shared->α}{Ya:World->α}{N:Nat}(e:W.opening p=W.plainProg p.main.scope.names)(hN:Nat.ble 600 N=true)(f:∀s,fenceModules? p s=some s)
 (H:∀w,EndsT p q loose Xt Yf Ya N w):W.LeftO p q loose Xt Yf Ya N:=λw=>by
 obtain⟨⟨h,gs,d,k,os⟩,u,u'⟩:=qP.mp (W.boot_open e hN f w);obtain⟨rfl,rfl,rfl,rfl⟩:h=W.boot_heap w.params/\gs=#[]/\d=W.boot_drawn/\k=W.boot_toks:=by simpa using u'
 obtain⟨s,r,l⟩:=qP.mp (H w os);have r:=pZ r;rw[bs_is]at r;obtain⟨l1,l2,l3⟩:_/\_/\_:=by simpa only[Prod.mk.injEq]using l
 have z1:((W.boot_heap w.params).isNs mainGlobals && (#[]:Array GenState).size == 0)=true:=by kernel_rfl
 have z2:(W.boot_heap w.params).objs.size=11:=by kernel_rfl
 have t:W.topFrom PySem.treeTable p w N ⟨W.boot_heap w.params,#[],W.boot_drawn,W.boot_toks,os⟩=some s.abs:=by
  unfold W.topFrom;dsimp only;rw[z1,z2,r];show(match W.staticsOk (PySem.importedModules p.main.body) (W.boot_heap w.params) s.abs.heap && W.namesBound p s.abs.heap && W.gensDone s.abs && W.laidKept (W.boot_heap w.params) s.abs.heap with|true=>_|false=>_)=_;rw[l1]
 unfold W.openEnds;rw[u];show(W.topFrom PySem.treeTable p w N _).map _=_;rw[t];exact congrArg some (Prod.ext l2 l3)
set_option maxHeartbeats 0 in
theorem left:W.LeftO PySem.Challenge.pw_handflow_k47_whole_two_paces vw [("play":Str)] xt hkH.obs hkH.val 6710:=yc (by kernel_rfl) Qz (λ_=>by kernel_rfl) leftF
end K47
open PySem PySem.W PyProof.Rows
set_option maxRecDepth 100000 in
set_option maxHeartbeats 0 in
theorem PySem.Challenge.cw_handflow_k47_whole_two_paces_holds : PySem.Challenge.rw_handflow_k47_whole_two_paces.Holds := by
 w_on;refine holds_law K47.said fun said=>?_
 refine holds_open (q:=K47.vw) (loose:=[("play":Str)]) (Xt:=K47.xt) (XP:=XL K47.vw []) (Yf:=Hook.obs K47.hkH) (Ya:=Hook.val K47.hkH) (YP:=Hook.says K47.hkH) (d:=K47.yW) (kwd:=[]) (N:=6710) K47.left (Hook.of K47.hkH) (Hook.keeps K47.hkH) (fun s e=>xl_of s (Bool.and_eq_true_iff.mp e).1) XL.keeps (by kernel_rfl) (by kernel_rfl) (by kernel_rfl) (fun s e=>recFacts_of (Bool.and_eq_true_iff.mp e).2) (by rfl) (by first|assumption|decide +kernel) (by decide +kernel) ⟨rfl,rfl,rfl,rfl,rfl,by decide +kernel⟩ ?hw ?hc
 (case hw=>w_witness2)
 refine K47.sP (l:=PySem.Challenge.rw_handflow_k47_whole_two_paces) rfl (by kernel_rfl) (K:=K47.hk) (fun w h Y=>PySem.W.kIn_of (K:=K47.hk) (as:=K47.hks) (e:=K47.hk_as) Y) ?F
 case F=>exact fun w mg fa h X G e=>K47.zF X G e
