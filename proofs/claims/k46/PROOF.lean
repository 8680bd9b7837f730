import PyProof.Rows.All
import Wide.All
import OpenK.AllK
import Wide.FinOn
import Lean
import PyProof.EqAt
import PyProof.EqKinds
import PyProof.TupleCall
import PySem.Challenge.RW_handflow_k46_nobody_waits
set_option Elab.async false
set_option maxRecDepth 100000
set_option linter.all false
theorem U{α:Sort u}{a:α}:a=a:=rfl
theorem Oi{p:Prop}{α:Sort u}{a:α}:a=a\/p:=.inl rfl
theorem Oy{α:Sort u}{β:Sort v}{γ:Sort w}{f:α->β->γ}:∀a b,f a b=f a b:=λ_ _=>rfl
section
open PySem PySem.Spec PyProof.Rows PySem.W
theorem Qz{p:Prop}(h:p:=by decide +kernel):p:=h
theorem Yd{p:Prop}(h:p:=by decide):p:=h
theorem Yk{p:Prop}(h:p:=by omega):p:=h
abbrev Yo:=Value->Shared->Prop
def q9:=@wpAny_bind
def qa:=@List.length_map
def qb:=@Heap.get?_push_of_some
def qc:=@List.length_append
def qd:=@List.getElem?_eq_getElem
def qe:=@wpAny_pure
def qf:=@Nat.le_refl
def qg:=@List.getElem?_eq_some_iff
def qh:=@PySem.F.plainAttrs_list
def qi:=@List.mem_append
def qj:=@Bool.false_ne_true
def qk:=@List.getD_eq_getElem?_getD
def qm:=@List.mem_cons_of_mem
def qp:=@List.mem_cons_self
def qq:=@Heap.get?_push_size
def qr:=@Heap.lt_size
def qt:=@List.take_add_one
def qu:=@Nat.zero_le
def qv:=@List.mem_cons
def qw:=@PySem.F.slot_list_append
def qx:=@PySem.F.type_list_append
def qy:=@List.append_nil
def qz:=@Nat.le_trans
def qA:=@List.mem_of_getElem?
def qC:=@List.length_cons
def qD:=@List.size_toArray
def qE:=@Nat.lt_of_lt_of_le
def qF:=@List.getElem?_map
def qH:=@Nat.ne_of_lt
def qI:=@List.take_length
def qJ:=@List.mem_append_right
def qK:=@Option.some.inj
def qL:=@List.length_take
def qM:=@List.getElem?_append_right
def qN:=@Array.length_toList
def qO:=@List.append_assoc
def qP:=@List.map_append
def qQ:=@Option.map_eq_some_iff
def qR:=@List.not_mem_nil
def qS:=@List.map_cons
def qT:=@List.mem_singleton
def qU:=@Array.getElem?_toList
def qV:=@List.flatMap_append
def qW:=@List.mem_append_left
def qY:=@Int.toNat_natCast
def qZ:=@List.length_drop
def Q0:=@if_neg
def Q1:=@if_pos
def Q3:=@decide_eq_true
def Q4:=@decide_eq_false
def Q5:=@absurd
def Q6:=@List.getElem?_append_left
def Q7:=@List.length_singleton
def Q8:=@PySem.boot_len
def Q9:=@List.find?_cons
def Qa:=@Int.emod_nonneg
def Qb:=@Nat.lt_succ_self
def Qc:=@Nat.lt_irrefl
def Qd:=@of_decide_eq_true
def Qe:=@List.length_range
def Qf:=@Int.emod_lt_of_pos
def Qg:=@Heap.size_push
def Qh:=@Heap.get?_update_self
def Qi:=@PySem.mem_of_lookup
def Qj:=@wpAny_call_entry
def Qk:=@Bool.false_eq_true
def Ql:=@List.nil_append
def Qn:=@PySem.F.type_list_extend
def Qo:=@PySem.F.slot_list_extend
def Qp:=@List.getElem?_eq_none
def Qq:=@Nat.lt_succ_of_lt
def Qr:=@List.pairwise_singleton
def Qs:=@List.filter_append
def Qt:=@Heap.get?_update_other
def Qu:=@List.take_append_drop
def Qv:=@wpAny_holding
def Qw:=@wpAny_seqItems
def Qx:=@PySem.W.kia_one
def Qy:=@Nat.not_lt_zero
end
namespace L2
open PySem PySem.Spec PyProof.Rows PySem.W
def inClass(s:Stmt)(j:Nat):Stmt:=match s with
 |.ClassDef _ _ _ body _ _ _ _ _ _ _=>body.getD j (.Pass ⟨0,0,0,0⟩)
 |_=>.Pass ⟨0,0,0,0⟩
def cU(s:Stmt):Arguments:=match s with
 |.FunctionDef _ a _ _ _ _ _ _ _ _=>a
 |_=>{ posonlyargs:=[],args:=[],vararg:=none,kwonlyargs:=[],kw_defaults:=[],kwarg:=none,defaults:=[] }
def cH(s:Stmt):List Stmt:=match s with
 |.FunctionDef _ _ b _ _ _ _ _ _ _=>b
 |_=>[]
def am(s:Stmt):Scope:=match s with
 |.FunctionDef _ _ _ _ _ _ sc _ _ _=>sc
 |_=>{ kind:=.function,names:=[],isGenerator:=false,isCoroutine:=false }
end L2
namespace K46
open PySem L2
set_option maxHeartbeats 0 in
theorem said:PySem.W.OpenLaw.wellSaid PySem.Challenge.rw_handflow_k46_nobody_waits=true:=by kernel_rfl
def top(i:Nat):Stmt:=PySem.Challenge.pw_handflow_k46_nobody_waits.main.body.getD i (.Pass ⟨0,0,0,0⟩)
noncomputable def defPos(s:Stmt):Pos:=match s with
 |.FunctionDef _ _ _ _ _ _ _ _ _ p=>p
 |_=>⟨0,0,0,0⟩
abbrev vs(x:String)(t:Nat):Value:=.str (Str.ofString x) t
abbrev de(P:Params)(x:String)(t:Nat)(v:Value):DictEntry:=⟨PyData.keyHash P (Str.ofString x),vs x t,v⟩
abbrev co(a b:String)(t l n r:Nat)(x y z u:Value)(m:Nat):Obj:=Obj.mk (.type "code") none (Data.fields #[vs a t,vs b (t+1),vs "/claim/cut.py" (t+2),.int l 0,.int n 0,.int 0 0,.int 0 0,.int 3 0,.ref r,.bool true,.int 181 0,.ref (r+1),x,y,z,u,.int m 0,.int l 0,vs "/claim/cut.py" (m+1)]) #[]
abbrev fo(a b:String)(s:Stmt)(m:String)(t c:Nat):Obj:=Obj.mk (.type "function") none (.func (PySem.W.fnOf a b (cU s) (cH s) (am s) .none .none .none (vs m t) none (.ref c) .none)) #[]
noncomputable def hk:Params->PySem.W.Frag:=λP=>
 (nat_lit 2,Obj.mk .none none (Data.dict #[]) #[]) ::
 (nat_lit 3,Obj.mk (.type "dict") none (Data.dict #[de P "__name__" 165 (vs "law_handflow_k46_nobody_waits" 668),de P "__doc__" 166 .none,de P "__package__" 167 .none,de P "__loader__" 168 (.builtin "__main__.__loader__#opaque"),de P "__spec__" 169 .none,de P "__annotations__" 170 (.ref 6),de P "__builtins__" 171 (.ref 4),de P "__file__" 173 (vs "/claim/cut.py" 172),de P "__cached__" 174 .none,de P "Queue" 255 (.ref 66),de P "WHEEL" 259 (.int 1000000000000000000000000000000 258),de P "done" 268 (.ref 77),de P "reckoned" 277 (.ref 84),de P "Yard" 355 (.ref 139),de P "Part" 392 (.ref 167),de P "Pass" 426 (.ref 193),de P "Work" 466 (.ref 219),de P "Choose" 506 (.ref 245),de P "Merge" 553 (.ref 278),de P "on_side" 561 (.ref 287),de P "part_of" 569 (.ref 294),de P "Play" 654 (.ref 342),de P "play" 667 (.ref 354),de P "_law_cell" 677 (.ref 361),de P "_law_mixed" 686 (.ref 368),de P "_law_number" 695 (.ref 375),de P "_law_sign" 704 (.ref 382),de P "_law_thing" 712 (.ref 389),de P "_law_line" 718 (.ref 394),de P "_law_picked" 731 (.ref 401),de P "_law_side" 740 (.ref 408),de P "_law_part" 746 (.ref 413),de P "_law_net" 752 (.ref 418),de P "_law_rests" 758 (.ref 423),de P "_law_pace" 764 (.ref 428),de P "_law_number_at" 772 (.ref 435),de P "_law_makes" 778 (.ref 440),de P "_law_wanted" 786 (.ref 447),de P "_law_rest" 796 (.ref 454),de P "_law_pairs" 806 (.ref 461),de P "_law_formed" 816 (.ref 468),de P "_law_take" 822 (.ref 473),de P "_law_roomy" 833 (.ref 480),de P "_law_give" 845 (.ref 487),de P "_law_gladly" 856 (.ref 494),de P "_law_ready" 862 (.ref 499),de P "_law_group" 868 (.ref 504),de P "_law_groups" 877 (.ref 511),de P "_law_ends" 883 (.ref 516),de P "_law_nobody" 889 (.ref 521),de P "law" 902 (.ref 528)] 51) #[]) ::
 (nat_lit 27,co "__init__" "Queue.__init__" 201 4 2 22 .none (.ref 24) (.ref 25) (.ref 26) 206) ::
 (nat_lit 28,fo "__init__" "Queue.__init__" (inClass (top 1) 0) "handflow.queues" 187 27) ::
 (nat_lit 34,co "standing" "Queue.standing" 209 8 1 29 .none (.ref 31) (.ref 32) (.ref 33) 213) ::
 (nat_lit 35,fo "standing" "Queue.standing" (inClass (top 1) 1) "handflow.queues" 187 34) ::
 (nat_lit 41,co "head" "Queue.head" 216 11 1 36 .none (.ref 38) (.ref 39) (.ref 40) 220) ::
 (nat_lit 42,fo "head" "Queue.head" (inClass (top 1) 2) "handflow.queues" 187 41) ::
 (nat_lit 48,co "lay" "Queue.lay" 223 14 2 43 .none (.ref 45) (.ref 46) (.ref 47) 228) ::
 (nat_lit 49,fo "lay" "Queue.lay" (inClass (top 1) 3) "handflow.queues" 187 48) ::
 (nat_lit 55,co "take" "Queue.take" 231 17 1 50 .none (.ref 52) (.ref 53) (.ref 54) 236) ::
 (nat_lit 56,fo "take" "Queue.take" (inClass (top 1) 4) "handflow.queues" 187 55) ::
 (nat_lit 62,co "rest" "Queue.rest" 239 22 1 57 .none (.ref 59) (.ref 60) (.ref 61) 243) ::
 (nat_lit 63,fo "rest" "Queue.rest" (inClass (top 1) 5) "handflow.queues" 187 62) ::
 (nat_lit 64,Obj.mk (.type "tuple") none (Data.seq #[vs "gone" 246,vs "laid" 247]) #[]) ::
 (nat_lit 65,Obj.mk (.type "dict") none (Data.dict #[de P "__module__" 196 (vs "handflow.queues" 187),de P "__firstlineno__" 200 (.int 2 199),de P "__init__" 208 (.ref 28),de P "standing" 215 (.ref 35),de P "head" 222 (.ref 42),de P "lay" 230 (.ref 49),de P "take" 238 (.ref 56),de P "rest" 245 (.ref 63),de P "__static_attributes__" 248 (.ref 64),de P "__dict__" 250 (.ref 67),de P "__weakref__" 252 (.ref 68),de P "__doc__" 253 .none] 4) #[]) ::
 (nat_lit 66,Obj.mk (.type "type") none (Data.cls (ClassData.mk (Str.ofString "Queue") [.type "object"] [.ref 66,.type "object"] 65 (Str.ofString "Queue") true [] [] false none false)) #[none,none,some (vs "Queue" 189),some (vs "Queue" 197),some (.builtin "object.__new__"),some (.bool true)]) ::
 (nat_lit 67,Obj.mk (.type "getset_descriptor") none (Data.fields #[vs "__dict__" 249,.ref 66,.builtin "function.__dict__",.builtin "function.__dict__#set"]) #[]) ::
 (nat_lit 68,Obj.mk (.type "getset_descriptor") none (Data.fields #[vs "__weakref__" 251,.ref 66,.builtin "ExceptionGroup.__weakref__",.none]) #[]) ::
 (nat_lit 76,co "done" "done" 260 26 3 71 .none (.ref 73) (.ref 74) (.ref 75) 266) ::
 (nat_lit 77,fo "done" "done" (top 4) "handflow.wheel" 256 76) ::
 (nat_lit 83,co "reckoned" "reckoned" 269 34 3 78 .none (.ref 80) (.ref 81) (.ref 82) 275) ::
 (nat_lit 84,fo "reckoned" "reckoned" (top 5) "handflow.wheel" 256 83) ::
 (nat_lit 95,co "__init__" "Yard.__init__" 292 49 2 92 .none .none .none (.ref 94) 295) ::
 (nat_lit 96,fo "__init__" "Yard.__init__" (inClass (top 7) 0) "handflow.parts" 278 95) ::
 (nat_lit 102,co "holds" "Yard.holds" 298 53 2 97 .none (.ref 99) (.ref 100) (.ref 101) 303) ::
 (nat_lit 103,fo "holds" "Yard.holds" (inClass (top 7) 1) "handflow.parts" 278 102) ::
 (nat_lit 109,co "room" "Yard.room" 306 56 2 104 .none (.ref 106) (.ref 107) (.ref 108) 312) ::
 (nat_lit 110,fo "room" "Yard.room" (inClass (top 7) 2) "handflow.parts" 278 109) ::
 (nat_lit 116,co "first" "Yard.first" 315 60 2 111 .none (.ref 113) (.ref 114) (.ref 115) 320) ::
 (nat_lit 117,fo "first" "Yard.first" (inClass (top 7) 3) "handflow.parts" 278 116) ::
 (nat_lit 123,co "hand" "Yard.hand" 323 63 3 118 .none (.ref 120) (.ref 121) (.ref 122) 329) ::
 (nat_lit 124,fo "hand" "Yard.hand" (inClass (top 7) 4) "handflow.parts" 278 123) ::
 (nat_lit 130,co "taken" "Yard.taken" 332 66 2 125 .none (.ref 127) (.ref 128) (.ref 129) 337) ::
 (nat_lit 131,fo "taken" "Yard.taken" (inClass (top 7) 5) "handflow.parts" 278 130) ::
 (nat_lit 135,co "stands" "Yard.stands" 340 69 1 132 .none .none .none (.ref 134) 343) ::
 (nat_lit 136,fo "stands" "Yard.stands" (inClass (top 7) 6) "handflow.parts" 278 135) ::
 (nat_lit 137,Obj.mk (.type "tuple") none (Data.seq #[vs "lengths" 346,vs "queues" 347]) #[]) ::
 (nat_lit 138,Obj.mk (.type "dict") none (Data.dict #[de P "__module__" 287 (vs "handflow.parts" 278),de P "__firstlineno__" 291 (.int 47 290),de P "__init__" 297 (.ref 96),de P "holds" 305 (.ref 103),de P "room" 314 (.ref 110),de P "first" 322 (.ref 117),de P "hand" 331 (.ref 124),de P "taken" 339 (.ref 131),de P "stands" 345 (.ref 136),de P "__static_attributes__" 348 (.ref 137),de P "__dict__" 350 (.ref 140),de P "__weakref__" 352 (.ref 141),de P "__doc__" 353 .none] 4) #[]) ::
 (nat_lit 139,Obj.mk (.type "type") none (Data.cls (ClassData.mk (Str.ofString "Yard") [.type "object"] [.ref 139,.type "object"] 138 (Str.ofString "Yard") true [] [] false none false)) #[none,none,some (vs "Yard" 280),some (vs "Yard" 288),some (.builtin "object.__new__"),some (.bool true)]) ::
 (nat_lit 140,Obj.mk (.type "getset_descriptor") none (Data.fields #[vs "__dict__" 349,.ref 139,.builtin "function.__dict__",.builtin "function.__dict__#set"]) #[]) ::
 (nat_lit 141,Obj.mk (.type "getset_descriptor") none (Data.fields #[vs "__weakref__" 351,.ref 139,.builtin "ExceptionGroup.__weakref__",.none]) #[]) ::
 (nat_lit 156,co "__init__" "Part.__init__" 368 73 2 151 .none (.ref 153) (.ref 154) (.ref 155) 373) ::
 (nat_lit 157,fo "__init__" "Part.__init__" (inClass (top 8) 0) "handflow.parts" 278 156) ::
 (nat_lit 163,co "wants" "Part.wants" 376 76 2 158 .none (.ref 160) (.ref 161) (.ref 162) 381) ::
 (nat_lit 164,fo "wants" "Part.wants" (inClass (top 8) 1) "handflow.parts" 278 163) ::
 (nat_lit 165,Obj.mk (.type "tuple") none (Data.seq #[vs "ins" 384]) #[]) ::
 (nat_lit 166,Obj.mk (.type "dict") none (Data.dict #[de P "__module__" 363 (vs "handflow.parts" 278),de P "__firstlineno__" 367 (.int 71 366),de P "__init__" 375 (.ref 157),de P "wants" 383 (.ref 164),de P "__static_attributes__" 385 (.ref 165),de P "__dict__" 387 (.ref 168),de P "__weakref__" 389 (.ref 169),de P "__doc__" 390 .none] 4) #[]) ::
 (nat_lit 167,Obj.mk (.type "type") none (Data.cls (ClassData.mk (Str.ofString "Part") [.type "object"] [.ref 167,.type "object"] 166 (Str.ofString "Part") true [] [.ref 193,.ref 219,.ref 245,.ref 278] false none false)) #[none,none,some (vs "Part" 356),some (vs "Part" 364),some (.builtin "object.__new__"),some (.bool true)]) ::
 (nat_lit 168,Obj.mk (.type "getset_descriptor") none (Data.fields #[vs "__dict__" 386,.ref 167,.builtin "function.__dict__",.builtin "function.__dict__#set"]) #[]) ::
 (nat_lit 169,Obj.mk (.type "getset_descriptor") none (Data.fields #[vs "__weakref__" 388,.ref 167,.builtin "ExceptionGroup.__weakref__",.none]) #[]) ::
 (nat_lit 172,Obj.mk (.type "tuple") none (Data.seq #[.ref 167]) #[]) ::
 (nat_lit 184,co "__init__" "Pass.__init__" 405 80 4 179 .none (.ref 181) (.ref 182) (.ref 183) 412) ::
 (nat_lit 185,fo "__init__" "Pass.__init__" (inClass (top 9) 0) "handflow.parts" 278 184) ::
 (nat_lit 189,co "made" "Pass.made" 415 85 2 186 .none .none .none (.ref 188) 418) ::
 (nat_lit 190,fo "made" "Pass.made" (inClass (top 9) 1) "handflow.parts" 278 189) ::
 (nat_lit 191,Obj.mk (.type "tuple") none (Data.seq #[vs "outs" 421,vs "route" 422]) #[]) ::
 (nat_lit 192,Obj.mk (.type "dict") none (Data.dict #[de P "__module__" 400 (vs "handflow.parts" 278),de P "__firstlineno__" 404 (.int 78 403),de P "__init__" 414 (.ref 185),de P "made" 420 (.ref 190),de P "__static_attributes__" 423 (.ref 191),de P "__doc__" 424 .none] 2) #[]) ::
 (nat_lit 193,Obj.mk (.type "type") none (Data.cls (ClassData.mk (Str.ofString "Pass") [.ref 167] [.ref 193,.ref 167,.type "object"] 192 (Str.ofString "Pass") true [] [] false none false)) #[some (.ref 172),none,some (vs "Pass" 393),some (vs "Pass" 401),some (.builtin "object.__new__"),some (.bool true)]) ::
 (nat_lit 196,Obj.mk (.type "tuple") none (Data.seq #[.ref 167]) #[]) ::
 (nat_lit 208,co "__init__" "Work.__init__" 439 89 5 203 .none (.ref 205) (.ref 206) (.ref 207) 447) ::
 (nat_lit 209,fo "__init__" "Work.__init__" (inClass (top 10) 0) "handflow.parts" 278 208) ::
 (nat_lit 215,co "made" "Work.made" 450 95 2 210 .none (.ref 212) (.ref 213) (.ref 214) 457) ::
 (nat_lit 216,fo "made" "Work.made" (inClass (top 10) 1) "handflow.parts" 278 215) ::
 (nat_lit 217,Obj.mk (.type "tuple") none (Data.seq #[vs "out" 460,vs "sides" 461,vs "sign" 462]) #[]) ::
 (nat_lit 218,Obj.mk (.type "dict") none (Data.dict #[de P "__module__" 434 (vs "handflow.parts" 278),de P "__firstlineno__" 438 (.int 87 437),de P "__init__" 449 (.ref 209),de P "made" 459 (.ref 216),de P "__static_attributes__" 463 (.ref 217),de P "__doc__" 464 .none] 2) #[]) ::
 (nat_lit 219,Obj.mk (.type "type") none (Data.cls (ClassData.mk (Str.ofString "Work") [.ref 167] [.ref 219,.ref 167,.type "object"] 218 (Str.ofString "Work") true [] [] false none false)) #[some (.ref 196),none,some (vs "Work" 427),some (vs "Work" 435),some (.builtin "object.__new__"),some (.bool true)]) ::
 (nat_lit 222,Obj.mk (.type "tuple") none (Data.seq #[.ref 167]) #[]) ::
 (nat_lit 234,co "__init__" "Choose.__init__" 479 101 6 229 .none (.ref 231) (.ref 232) (.ref 233) 488) ::
 (nat_lit 235,fo "__init__" "Choose.__init__" (inClass (top 11) 0) "handflow.parts" 278 234) ::
 (nat_lit 241,co "made" "Choose.made" 491 108 2 236 .none (.ref 238) (.ref 239) (.ref 240) 496) ::
 (nat_lit 242,fo "made" "Choose.made" (inClass (top 11) 1) "handflow.parts" 278 241) ::
 (nat_lit 243,Obj.mk (.type "tuple") none (Data.seq #[vs "noughts" 499,vs "ones" 500,vs "told" 501,vs "which" 502]) #[]) ::
 (nat_lit 244,Obj.mk (.type "dict") none (Data.dict #[de P "__module__" 474 (vs "handflow.parts" 278),de P "__firstlineno__" 478 (.int 99 477),de P "__init__" 490 (.ref 235),de P "made" 498 (.ref 242),de P "__static_attributes__" 503 (.ref 243),de P "__doc__" 504 .none] 2) #[]) ::
 (nat_lit 245,Obj.mk (.type "type") none (Data.cls (ClassData.mk (Str.ofString "Choose") [.ref 167] [.ref 245,.ref 167,.type "object"] 244 (Str.ofString "Choose") true [] [] false none false)) #[some (.ref 222),none,some (vs "Choose" 467),some (vs "Choose" 475),some (.builtin "object.__new__"),some (.bool true)]) ::
 (nat_lit 248,Obj.mk (.type "tuple") none (Data.seq #[.ref 167]) #[]) ::
 (nat_lit 260,co "__init__" "Merge.__init__" 519 114 5 255 .none (.ref 257) (.ref 258) (.ref 259) 527) ::
 (nat_lit 261,fo "__init__" "Merge.__init__" (inClass (top 12) 0) "handflow.parts" 278 260) ::
 (nat_lit 267,co "wants" "Merge.wants" 530 120 2 262 .none (.ref 264) (.ref 265) (.ref 266) 536) ::
 (nat_lit 268,fo "wants" "Merge.wants" (inClass (top 12) 1) "handflow.parts" 278 267) ::
 (nat_lit 274,co "made" "Merge.made" 539 126 2 269 .none (.ref 271) (.ref 272) (.ref 273) 544) ::
 (nat_lit 275,fo "made" "Merge.made" (inClass (top 12) 2) "handflow.parts" 278 274) ::
 (nat_lit 276,Obj.mk (.type "tuple") none (Data.seq #[vs "noughts" 547,vs "ones" 548,vs "outs" 549]) #[]) ::
 (nat_lit 277,Obj.mk (.type "dict") none (Data.dict #[de P "__module__" 514 (vs "handflow.parts" 278),de P "__firstlineno__" 518 (.int 112 517),de P "__init__" 529 (.ref 261),de P "wants" 538 (.ref 268),de P "made" 546 (.ref 275),de P "__static_attributes__" 550 (.ref 276),de P "__doc__" 551 .none] 2) #[]) ::
 (nat_lit 278,Obj.mk (.type "type") none (Data.cls (ClassData.mk (Str.ofString "Merge") [.ref 167] [.ref 278,.ref 167,.type "object"] 277 (Str.ofString "Merge") true [] [] false none false)) #[some (.ref 248),none,some (vs "Merge" 507),some (vs "Merge" 515),some (.builtin "object.__new__"),some (.bool true)]) ::
 (nat_lit 286,co "on_side" "on_side" 554 128 2 281 .none (.ref 283) (.ref 284) (.ref 285) 559) ::
 (nat_lit 287,fo "on_side" "on_side" (top 13) "handflow.parts" 278 286) ::
 (nat_lit 293,co "part_of" "part_of" 562 130 1 288 .none (.ref 290) (.ref 291) (.ref 292) 567) ::
 (nat_lit 294,fo "part_of" "part_of" (top 14) "handflow.parts" 278 293) ::
 (nat_lit 305,co "__init__" "Play.__init__" 584 142 5 302 .none .none .none (.ref 304) 587) ::
 (nat_lit 306,fo "__init__" "Play.__init__" (inClass (top 16) 0) "handflow.player" 570 305) ::
 (nat_lit 312,co "to_its_end" "Play.to_its_end" 590 155 1 307 .none (.ref 309) (.ref 310) (.ref 311) 597) ::
 (nat_lit 313,fo "to_its_end" "Play.to_its_end" (inClass (top 16) 1) "handflow.player" 570 312) ::
 (nat_lit 319,co "give" "Play.give" 600 167 3 314 .none (.ref 316) (.ref 317) (.ref 318) 609) ::
 (nat_lit 320,fo "give" "Play.give" (inClass (top 16) 2) "handflow.player" 570 319) ::
 (nat_lit 324,co "take" "Play.take" 612 180 3 321 .none .none .none (.ref 323) 615) ::
 (nat_lit 325,fo "take" "Play.take" (inClass (top 16) 3) "handflow.player" 570 324) ::
 (nat_lit 331,co "await_turn" "Play.await_turn" 618 199 3 326 .none (.ref 328) (.ref 329) (.ref 330) 624) ::
 (nat_lit 332,fo "await_turn" "Play.await_turn" (inClass (top 16) 4) "handflow.player" 570 331) ::
 (nat_lit 338,co "rest_of" "Play.rest_of" 627 203 2 333 .none (.ref 335) (.ref 336) (.ref 337) 633) ::
 (nat_lit 339,fo "rest_of" "Play.rest_of" (inClass (top 16) 5) "handflow.player" 570 338) ::
 (nat_lit 340,Obj.mk (.type "tuple") none (Data.seq #[vs "doers" 636,vs "givers" 637,vs "held" 638,vs "log" 639,vs "pace" 640,vs "spare" 641,vs "takers" 642,vs "takings" 643,vs "without_room" 644,vs "without_thing" 645,vs "yard" 646]) #[]) ::
 (nat_lit 341,Obj.mk (.type "dict") none (Data.dict #[de P "__module__" 579 (vs "handflow.player" 570),de P "__firstlineno__" 583 (.int 140 582),de P "__init__" 589 (.ref 306),de P "to_its_end" 599 (.ref 313),de P "give" 611 (.ref 320),de P "take" 617 (.ref 325),de P "await_turn" 626 (.ref 332),de P "rest_of" 635 (.ref 339),de P "__static_attributes__" 647 (.ref 340),de P "__dict__" 649 (.ref 343),de P "__weakref__" 651 (.ref 344),de P "__doc__" 652 .none] 4) #[]) ::
 (nat_lit 342,Obj.mk (.type "type") none (Data.cls (ClassData.mk (Str.ofString "Play") [.type "object"] [.ref 342,.type "object"] 341 (Str.ofString "Play") true [] [] false none false)) #[none,none,some (vs "Play" 572),some (vs "Play" 580),some (.builtin "object.__new__"),some (.bool true)]) ::
 (nat_lit 343,Obj.mk (.type "getset_descriptor") none (Data.fields #[vs "__dict__" 648,.ref 342,.builtin "function.__dict__",.builtin "function.__dict__#set"]) #[]) ::
 (nat_lit 344,Obj.mk (.type "getset_descriptor") none (Data.fields #[vs "__weakref__" 650,.ref 342,.builtin "ExceptionGroup.__weakref__",.none]) #[]) ::
 (nat_lit 347,Obj.mk (.type "tuple") none (Data.seq #[.none,.int 5000 655]) #[]) ::
 (nat_lit 353,co "play" "play" 656 208 4 348 .none (.ref 350) (.ref 351) (.ref 352) 665) ::
 (nat_lit 354,Obj.mk (.type "function") none (.func (PySem.W.fnOf "play" "play" (cU (top 17)) (cH (top 17)) (am (top 17)) (.ref 347) .none .none (vs "handflow.player" 570) none (.ref 353) .none)) #[]) ::
 (nat_lit 360,co "_law_cell" "_law_cell" 670 213 2 355 .none (.ref 357) (.ref 358) (.ref 359) 675) ::
 (nat_lit 361,fo "_law_cell" "_law_cell" (top 19) "law_handflow_k46_nobody_waits" 668 360) ::
 (nat_lit 367,co "_law_mixed" "_law_mixed" 678 217 2 362 .none (.ref 364) (.ref 365) (.ref 366) 684) ::
 (nat_lit 368,fo "_law_mixed" "_law_mixed" (top 20) "law_handflow_k46_nobody_waits" 668 367) ::
 (nat_lit 374,co "_law_number" "_law_number" 687 220 2 369 .none (.ref 371) (.ref 372) (.ref 373) 693) ::
 (nat_lit 375,fo "_law_number" "_law_number" (top 21) "law_handflow_k46_nobody_waits" 668 374) ::
 (nat_lit 381,co "_law_sign" "_law_sign" 696 229 3 376 .none (.ref 378) (.ref 379) (.ref 380) 702) ::
 (nat_lit 382,fo "_law_sign" "_law_sign" (top 22) "law_handflow_k46_nobody_waits" 668 381) ::
 (nat_lit 388,co "_law_thing" "_law_thing" 705 247 2 383 .none (.ref 385) (.ref 386) (.ref 387) 710) ::
 (nat_lit 389,fo "_law_thing" "_law_thing" (top 23) "law_handflow_k46_nobody_waits" 668 388) ::
 (nat_lit 393,co "_law_line" "_law_line" 713 251 2 390 .none .none .none (.ref 392) 716) ::
 (nat_lit 394,fo "_law_line" "_law_line" (top 24) "law_handflow_k46_nobody_waits" 668 393) ::
 (nat_lit 400,co "_law_picked" "_law_picked" 719 258 5 395 .none (.ref 397) (.ref 398) (.ref 399) 729) ::
 (nat_lit 401,fo "_law_picked" "_law_picked" (top 25) "law_handflow_k46_nobody_waits" 668 400) ::
 (nat_lit 407,co "_law_side" "_law_side" 732 267 3 402 .none (.ref 404) (.ref 405) (.ref 406) 738) ::
 (nat_lit 408,fo "_law_side" "_law_side" (top 26) "law_handflow_k46_nobody_waits" 668 407) ::
 (nat_lit 412,co "_law_part" "_law_part" 741 271 5 409 .none .none .none (.ref 411) 744) ::
 (nat_lit 413,fo "_law_part" "_law_part" (top 27) "law_handflow_k46_nobody_waits" 668 412) ::
 (nat_lit 417,co "_law_net" "_law_net" 747 291 1 414 .none .none .none (.ref 416) 750) ::
 (nat_lit 418,fo "_law_net" "_law_net" (top 28) "law_handflow_k46_nobody_waits" 668 417) ::
 (nat_lit 422,co "_law_rests" "_law_rests" 753 300 2 419 .none .none .none (.ref 421) 756) ::
 (nat_lit 423,fo "_law_rests" "_law_rests" (top 29) "law_handflow_k46_nobody_waits" 668 422) ::
 (nat_lit 427,co "_law_pace" "_law_pace" 759 305 2 424 .none .none .none (.ref 426) 762) ::
 (nat_lit 428,fo "_law_pace" "_law_pace" (top 30) "law_handflow_k46_nobody_waits" 668 427) ::
 (nat_lit 434,co "_law_number_at" "_law_number_at" 765 311 2 429 .none (.ref 431) (.ref 432) (.ref 433) 770) ::
 (nat_lit 435,fo "_law_number_at" "_law_number_at" (top 31) "law_handflow_k46_nobody_waits" 668 434) ::
 (nat_lit 439,co "_law_makes" "_law_makes" 773 315 2 436 .none .none .none (.ref 438) 776) ::
 (nat_lit 440,fo "_law_makes" "_law_makes" (top 32) "law_handflow_k46_nobody_waits" 668 439) ::
 (nat_lit 446,co "_law_wanted" "_law_wanted" 779 326 2 441 .none (.ref 443) (.ref 444) (.ref 445) 784) ::
 (nat_lit 447,fo "_law_wanted" "_law_wanted" (top 33) "law_handflow_k46_nobody_waits" 668 446) ::
 (nat_lit 453,co "_law_rest" "_law_rest" 787 334 3 448 .none (.ref 450) (.ref 451) (.ref 452) 794) ::
 (nat_lit 454,fo "_law_rest" "_law_rest" (top 34) "law_handflow_k46_nobody_waits" 668 453) ::
 (nat_lit 460,co "_law_pairs" "_law_pairs" 797 341 2 455 .none (.ref 457) (.ref 458) (.ref 459) 804) ::
 (nat_lit 461,fo "_law_pairs" "_law_pairs" (top 35) "law_handflow_k46_nobody_waits" 668 460) ::
 (nat_lit 467,co "_law_formed" "_law_formed" 807 353 3 462 .none (.ref 464) (.ref 465) (.ref 466) 814) ::
 (nat_lit 468,fo "_law_formed" "_law_formed" (top 36) "law_handflow_k46_nobody_waits" 668 467) ::
 (nat_lit 472,co "_law_take" "_law_take" 817 360 6 469 .none .none .none (.ref 471) 820) ::
 (nat_lit 473,fo "_law_take" "_law_take" (top 37) "law_handflow_k46_nobody_waits" 668 472) ::
 (nat_lit 479,co "_law_roomy" "_law_roomy" 823 372 3 474 .none (.ref 476) (.ref 477) (.ref 478) 831) ::
 (nat_lit 480,fo "_law_roomy" "_law_roomy" (top 38) "law_handflow_k46_nobody_waits" 668 479) ::
 (nat_lit 486,co "_law_give" "_law_give" 834 378 4 481 .none (.ref 483) (.ref 484) (.ref 485) 843) ::
 (nat_lit 487,fo "_law_give" "_law_give" (top 39) "law_handflow_k46_nobody_waits" 668 486) ::
 (nat_lit 493,co "_law_gladly" "_law_gladly" 846 386 4 488 .none (.ref 490) (.ref 491) (.ref 492) 854) ::
 (nat_lit 494,fo "_law_gladly" "_law_gladly" (top 40) "law_handflow_k46_nobody_waits" 668 493) ::
 (nat_lit 498,co "_law_ready" "_law_ready" 857 391 3 495 .none .none .none (.ref 497) 860) ::
 (nat_lit 499,fo "_law_ready" "_law_ready" (top 41) "law_handflow_k46_nobody_waits" 668 498) ::
 (nat_lit 503,co "_law_group" "_law_group" 863 399 6 500 .none .none .none (.ref 502) 866) ::
 (nat_lit 504,fo "_law_group" "_law_group" (top 42) "law_handflow_k46_nobody_waits" 668 503) ::
 (nat_lit 510,co "_law_groups" "_law_groups" 869 411 1 505 .none (.ref 507) (.ref 508) (.ref 509) 875) ::
 (nat_lit 511,fo "_law_groups" "_law_groups" (top 43) "law_handflow_k46_nobody_waits" 668 510) ::
 (nat_lit 515,co "_law_ends" "_law_ends" 878 419 4 512 .none .none .none (.ref 514) 881) ::
 (nat_lit 516,fo "_law_ends" "_law_ends" (top 44) "law_handflow_k46_nobody_waits" 668 515) ::
 (nat_lit 520,co "_law_nobody" "_law_nobody" 884 422 4 517 .none .none .none (.ref 519) 887) ::
 (nat_lit 521,fo "_law_nobody" "_law_nobody" (top 45) "law_handflow_k46_nobody_waits" 668 520) ::
 (nat_lit 527,co "law" "law" 890 443 1 522 .none (.ref 524) (.ref 525) (.ref 526) 900) ::
 (nat_lit 528,fo "law" "law" (top 46) "law_handflow_k46_nobody_waits" 668 527) ::
 []
noncomputable def hks:List Addr:=[2,3,27,28,34,35,41,42,48,49,55,56,62,63,64,65,66,67,68,76,77,83,84,95,96,102,103,109,110,116,117,123,124,130,131,135,136,137,138,139,140,141,156,157,163,164,165,166,167,168,169,172,184,185,189,190,191,192,193,196,208,209,215,216,217,218,219,222,234,235,241,242,243,244,245,248,260,261,267,268,274,275,276,277,278,286,287,293,294,305,306,312,313,319,320,324,325,331,332,338,339,340,341,342,343,344,347,353,354,360,361,367,368,374,375,381,382,388,389,393,394,400,401,407,408,412,413,417,418,422,423,427,428,434,435,439,440,446,447,453,454,460,461,467,468,472,473,479,480,486,487,493,494,498,499,503,504,510,511,515,516,520,521,527,528]
theorem hk_as:∀P,hks=(hk P).map (·.1):=λ_=>by kernel_rfl
noncomputable def vw:Program:=PySem.W.view PySem.Challenge.pw_handflow_k46_nobody_waits [1,3,4,5,7,8,9,10,11,12,13,14,16,19,20,21,22,23,24,25,26,27,28,29,30,31,32,33,34,35,36,37,38,39,40,41,42,43,44,45,46]
noncomputable def hkH:PySem.W.Hook:=PySem.W.kHook hk hks hk_as
noncomputable def xt(s:Shared):Bool:=PySem.W.xlAt vw [] s && PySem.W.recOk (PySem.W.RowW.records (PySem.W.OpenRow.toRowW (PySem.W.OpenLaw.row PySem.Challenge.rw_handflow_k46_nobody_waits))) s
noncomputable def bt(P:Params):PySem.W.BT:=(.node (PySem.W.boot_o_0 P) (.node (PySem.W.boot_o_1 P) (.node (PySem.W.boot_o_3 P) (.node (PySem.W.boot_o_7 P) .nil .nil) .nil) (.node (PySem.W.boot_o_5 P) (.node (PySem.W.boot_o_9 P) .nil .nil) .nil)) (.node (PySem.W.boot_o_2 P) (.node (PySem.W.boot_o_4 P) (.node (PySem.W.boot_o_8 P) .nil .nil) .nil) (.node (PySem.W.boot_o_6 P) (.node (PySem.W.boot_o_10 P) .nil .nil) .nil)))
theorem bt_is(P:Params):PySem.W.absHeap (bt P) 11 {}=PySem.W.boot_heap P:=by kernel_rfl
noncomputable def bs(P:Params)(os:OsState):PySem.W.SharedT:=⟨bt P,11,{},#[],PySem.W.boot_drawn,PySem.W.boot_toks,os⟩
theorem bs_is(P:Params)(os:OsState):(bs P os).abs=⟨PySem.W.boot_heap P,#[],PySem.W.boot_drawn,PySem.W.boot_toks,os⟩:=by
 unfold bs PySem.W.SharedT.abs;rw[bt_is]
def goT(p:Program)(w:World)(A:Option Value):Nat->PySem.W.SharedT->Thread->Option PySem.W.SharedT
 |0,_,_=>none
 |m+1,x,y=>match PySem.W.through y with
  |true=>some x
  |false=>match PySem.W.stepOk 11 A y with
   |false=>none
   |true=>match PySem.W.stepT (denote PySem.treeTable) p w x y with
    |none=>none
    |some (x',y')=>goT p w A m x' y'
noncomputable abbrev annB(w:World):Option Value:=(PySem.W.boot_heap w.params).nsMap mainGlobals "__annotations__"
def EndsT(p q:Program)(loose:List Str)(Xt:Shared->Bool){α:Type}(Yf:Shared->α)(Ya:World->α)(N:Nat)(w:World):Prop:=
 ∀os:OsState,(goT p w (annB w) N (bs w.params os) (PySem.W.topStub p)).map (λs=>(PySem.W.staticsOk (PySem.importedModules p.main.body) (PySem.W.boot_heap w.params) s.abs.heap && PySem.W.namesBound p s.abs.heap && PySem.W.gensDone s.abs && PySem.W.laidKept (PySem.W.boot_heap w.params) s.abs.heap,PySem.W.openSeen q loose (PySem.importedModules p.main.body) Xt true s.abs,Yf s.abs))=some (true,PySem.W.openGood q loose,Ya w)
set_option maxHeartbeats 0 in
theorem leftF:∀w:World,EndsT PySem.Challenge.pw_handflow_k46_nobody_waits vw [("play":Str)] xt hkH.obs hkH.val 7392 w:=λw os=>by kernel_rfl
end K46
namespace L2
open PySem PySem.Spec PyProof.Rows
abbrev Key:=Sum Int Str
def fP:Key->Value->Bool
 |.inl k,v=>Value.isInt k v
 |.inr x,v=>Value.isStrOf x v
def zV(w:World):Key->Int
 |.inl k=>hashInt k
 |.inr x=>hashStr w x
theorem dR:∀{k:Key}{v:Value},fP k v=true->(∃i t,k=Sum.inl i/\v=Value.int i t)\/(∃x t,k=Sum.inr x/\v=Value.str x t)
 |.inl i,v,h=>by
  obtain⟨t,e⟩:=Value.isInt_shape (k:=i) (v:=v) h;exact .inl ⟨i,t,U,e⟩
 |.inr x,v,h=>by
  obtain⟨t,e⟩:=Value.isStrOf_shape (x:=x) (v:=v) h;exact .inr ⟨x,t,U,e⟩
theorem zU(i:Int)(t:Tok):fP (.inl i) (.int i t)=true:=by simp[fP,Value.isInt]
theorem zT(x:Str)(t:Tok):fP (.inr x) (.str x t)=true:=by simp[fP,Value.isStrOf]
theorem zS(a b:Int):decide ((Sum.inl a:Key)=Sum.inl b)=(a == b):=by
 by_cases e:a=b
 ·subst e;simp
 ·have h:¬ (Sum.inl a:Key)=Sum.inl b:=λq=>e (Sum.inl.inj q);rw[Q4 h];exact(beq_eq_false_iff_ne.mpr e).symm
theorem zO(a b:Str):decide ((Sum.inr a:Key)=Sum.inr b)=decide (a=b):=by
 by_cases e:a=b
 ·subst e;simp
 ·have h:¬ (Sum.inr a:Key)=Sum.inr b:=λq=>e (Sum.inr.inj q);rw[Q4 h,Q4 e]
theorem zR(a:Int)(b:Str):decide ((Sum.inl a:Key)=Sum.inr b)=false:=Q4 (λq=>nomatch q)
theorem zP(a:Str)(b:Int):decide ((Sum.inr a:Key)=Sum.inl b)=false:=Q4 (λq=>nomatch q)
def ci(prog:Program)(w:World):PySem.KeyKind prog w Key where
 is:=fP
 hash:=zV w
 inj:=λv a b ha hb=>by
  rcases dR ha with⟨i,t,rfl,rfl⟩|⟨x,t,rfl,rfl⟩
  ·rcases dR hb with⟨j,u,rfl,e⟩|⟨y,u,rfl,e⟩
   ·injection e with e1 _;rw[e1]
   ·exact nomatch e
  ·rcases dR hb with⟨j,u,rfl,e⟩|⟨y,u,rfl,e⟩
   ·exact nomatch e
   ·injection e with e1 _;rw[e1]
 byValue:=λk v h=>by
  rcases dR h with⟨i,t,rfl,rfl⟩|⟨x,t,rfl,rfl⟩<;>rfl
 pyHash:=λhv h=>by
  rcases dR hv with⟨i,t,rfl,rfl⟩|⟨x,t,rfl,rfl⟩
  ·exact wpAny_pyHash_int h
  ·exact wpAny_pyHash_str h
 eqBool:=λhu hv h=>by
  rcases dR hu with⟨i,t,rfl,rfl⟩|⟨x,t,rfl,rfl⟩
  ·rcases dR hv with⟨j,u,rfl,rfl⟩|⟨y,u,rfl,rfl⟩
   ·rw[zS]at h;exact wpAny_eqBool_int h
   ·rw[zR]at h;exact SeqAt.EqAt.int_str i t y u _ _ _ _ h
  ·rcases dR hv with⟨j,u,rfl,rfl⟩|⟨y,u,rfl,rfl⟩
   ·rw[zP]at h;exact SeqAt.EqAt.str_int x t j u _ _ _ _ h
   ·rw[zO]at h;exact wpAny_eqBool_str h
 «strs»:=λk x t v h=>by
  rcases dR h with⟨i,u,rfl,e⟩|⟨y,u,rfl,e⟩
  ·exact nomatch e
  ·injection e with e1 _;subst e1;cases v<;>rfl
theorem zf(prog:Program)(w:World)(i:Int)(t:Tok):(ci prog w).is (.inl i) (.int i t)=true:=zU i t
theorem ze(prog:Program)(w:World)(x:Str)(t:Tok):(ci prog w).is (.inr x) (.str x t)=true:=zT x t
inductive V where
 |non|bl (b:Bool)|int (i:Int)|str (x:Str)|byt (b:Array UInt8)|flt (b:UInt64)|ref (a:Addr)|ty (n:String)
 deriving DecidableEq
def aG:V->Value->Prop
 |.non,u=>u=Value.none
 |.bl b,u=>u=Value.bool b
 |.int i,u=>∃t,u=Value.int i t
 |.str x,u=>∃t,u=Value.str x t
 |.byt b,u=>∃t,u=Value.bytes b t
 |.flt b,u=>∃t,u=Value.float b t
 |.ref a,u=>u=Value.ref a
 |.ty n,u=>u=Value.type n
abbrev ax:List V->List Value->Prop:=Paired aG
theorem ax.length{xs:List V}{us:List Value}(r:ax xs us):xs.length=us.length:=Paired.length r
theorem ax.get:∀{xs:List V}{us:List Value}{i:Nat}{x:V},ax xs us->xs[i]?=some x->∃u,us[i]?=some u/\aG x u
 |_,_,_,_,.nil,e=>by simp at e
 |_,_,0,_,.cons r _,e=>by simp at e;subst e;exact⟨_,U,r⟩
 |_,_,i+1,x,.cons _ t,e=>by
  obtain⟨u,h1,h2⟩:=ax.get (i:=i) (x:=x) t (by simpa using e);exact⟨u,by simpa using h1,h2⟩
theorem ax.set{x:V}{u:Value}(r:aG x u):∀{xs:List V}{us:List Value}(i:Nat),ax xs us->ax (xs.set i x) (us.set i u)
 |_,_,_,.nil=>.nil
 |_,_,0,.cons _ t=>.cons r t
 |_,_,i+1,.cons q t=>.cons q (ax.set r i t)
theorem ax.append:∀{xs ys:List V}{us ws:List Value},ax xs us->ax ys ws->ax (xs++ys) (us++ws)
 |_,_,_,_,.nil,s=>s
 |_,_,_,_,.cons r t,s=>.cons r (ax.append t s)
theorem ax.take:∀{xs:List V}{us:List Value}(n:Nat),ax xs us->ax (xs.take n) (us.take n)
 |_,_,0,_=>.nil
 |_,_,_+1,.nil=>.nil
 |_,_,n+1,.cons r t=>.cons r (ax.take n t)
theorem ax.drop:∀{xs:List V}{us:List Value}(n:Nat),ax xs us->ax (xs.drop n) (us.drop n)
 |_,_,0,r=>r
 |_,_,_+1,.nil=>.nil
 |_,_,n+1,.cons _ t=>ax.drop n t
def ck:Option V->Option Value->Prop
 |some v,some u=>aG v u
 |none,none=>True
 |_,_=>False
def KV{κ:Type}:List (κ×V)->List (κ×Value)->Prop:=Paired λ(p:κ×V)(q:κ×Value)=>p.1=q.1/\aG p.2 q.2
def kV:Key->V
 |.inl i=>.int i
 |.inr x=>.str x
inductive HO where
 |lst (xs:List V)
 |tup (xs:List V)
 |dK (kvs:List (Key×V))|dT (kvs:List (List Key×V))
 |set (S:Int->Bool) (n:Nat)
 |ins (C dx:Addr) (fs:List (Str×V))
 |own (x:Addr)
 |xd (fs:List (Str×V))
 |met (f x:Addr)
 |rng (lo hi:Int)
 |frz (o:Obj) (u:HO)
 |tbl (ps:Array Value)
 |ext (φ:Heap->Prop)
abbrev Hp:=Addr->Option HO
def upd(H:Hp)(a:Addr)(o:HO):Hp:=λb=>if b=a then some o else H b
theorem af{H:Hp}{a:Addr}{o:HO}:upd H a o a=some o:=by unfold upd;rw[Q1 U]
theorem aj{H:Hp}{a b:Addr}{o:HO}(h:b≠a):upd H a o b=H b:=by unfold upd;rw[Q0 h]
theorem cE{H:Hp}{a b:Addr}{o:HO}(h:H a=some o)(h':H b=none):a≠b:=by
 intro e;subst e;rw[h]at h';cases h'
section
variable (P:Program) (w:World)
def bF(H:Hp)(h:Heap)(a:Addr):HO->Prop
 |.lst xs=>xs.length<=sizeLine/\∃(its:List Value)(n:Nat),ax xs its/\h.get? a=some { cls:=.type "list",data:=.seq its.toArray n }
 |.tup xs=>xs.length<=sizeLine/\∃its:List Value,ax xs its/\IsTup h a its.toArray
 |.dK kvs=>kvs.length<=sizeLine/\(a == sysModules)=false/\∃vs,KV kvs vs/\h.DictOf (ci P w) a vs
 |.dT kvs=>kvs.length<=sizeLine/\(a == sysModules)=false/\∃xs:List (List Key×Addr×Value),
  Paired (λ(p:List Key×V)(q:List Key×Addr×Value)=>p.1=q.1/\H q.2.1=some (.tup (p.1.map kV))/\aG p.2 q.2.2) kvs xs /\
  ∃o es ep,h.get? a=some o/\o.ExactDict/\o.data=.dict es ep/\es.toList=xs.map (entryOfKey (tupleKind (ci P w)))/\(xs.map (·.1)).Nodup
 |.set S n=>h.SetOf (intKind P w) a S n
 |.ins C dx fs=>H dx=some (.own a)/\fs.length<=1000/\dx≠a/\h.get? a=some (PySem.W.instObj C dx) /\
  ∃mA,h.Ns1 dx mA/\(∀f,ck (fs.lookup f) (mA f))/\PySem.Within mA (fs.map (·.1))
 |.own _=>∃o,h.get? a=some o
 |.xd fs=>∃mA,h.Ns1 a mA/\∀f,ck (fs.lookup f) (mA f)
 |.rng lo hi=>∃t u v,h.get? a=some { cls:=.type "range",data:=.fields #[.int lo t,.int hi u,.int 1 v] }
 |.frz o u=>h.get? a=some o/\bF H h a u
 |.tbl ps=>h.get? a=some { cls:=.none,data:=.fields ps }
 |.met f x=>h.get? a=some (PySem.W.methodObj (.ref f) (.ref x))
 |.ext φ=>φ h/\(∃o,h.get? a=some o)/\∀h1 h2:Heap,φ h1->(∀o,h1.get? a=some o->h2.get? a=some o)->φ h2
def HOk(H:Hp)(h:Heap):Prop:=∀a o,H a=some o->bF P w H h a o
end
section
variable {P:Program}{w:World}{H H':Hp}{h h':Heap}{a:Addr}{o:HO}
theorem bF.lt(x:bF P w H h a o):a<h.objs.size:=by
 cases o with
 |lst xs=>obtain⟨_,_,_,_,e⟩:=x;exact qr e
 |tup xs=>obtain⟨_,_,_,p⟩:=x;exact p.lt
 |dK kvs=>obtain⟨_,_,_,_,o,_,_,e,_⟩:=x;exact qr e
 |dT kvs=>obtain⟨_,_,_,_,o,_,_,e,_⟩:=x;exact qr e
 |set S n=>obtain⟨o,_,_,_,e,_⟩:=x;exact qr e
 |ins C dx fs=>obtain⟨_,_,_,e,_⟩:=x;exact qr e
 |own y=>obtain⟨_,e⟩:=x;exact qr e
 |xd fs=>obtain⟨_,⟨_,_,_,e,_⟩,_⟩:=x;exact qr e
 |rng lo hi=>obtain⟨_,_,_,e⟩:=x;exact qr e
 |frz ob u=>obtain⟨e,_⟩:=x;exact qr e
 |tbl ps=>exact qr (show h.get? a=some _ from x)
 |met f y=>exact qr (show h.get? a=some _ from x)
 |ext φ=>obtain⟨_,⟨_,e⟩,_⟩:=x;exact qr e
theorem Paired.mapP{α β:Type}{F G:α->β->Prop}:∀{l₁:List α}{l₂:List β},Paired F l₁ l₂->(∀a b,F a b->G a b)->Paired G l₁ l₂
 |_,_,.nil,_=>.nil
 |_,_,.cons r t,f=>.cons (f _ _ r) (Paired.mapP t f)
theorem bF.stay(x:bF P w H h a o)(k:∀b u,(b=a\/H b=some (.own a))->h.get? b=some u->h'.get? b=some u)
 (ho:∀b,H b=some (.own a)->H' b=some (.own a)) (ht:∀b xs,H b=some (.tup xs)->H' b=some (.tup xs)):bF P w H' h' a o:=by
 induction o with
 |lst xs=>obtain⟨z,its,n,r,e⟩:=x;exact⟨z,its,n,r,k _ _ (.inl U) e⟩
 |tup xs=>obtain⟨z,its,r,ob,e,c⟩:=x;exact⟨z,its,r,ob,k _ _ (.inl U) e,c⟩
 |dK kvs=>obtain⟨z,y,vs,r,ob,es,ep,e,c⟩:=x;exact⟨z,y,vs,r,ob,es,ep,k _ _ (.inl U) e,c⟩
 |dT kvs=>
  obtain⟨z,y,xs,r,ob,es,ep,e,c⟩:=x;exact⟨z,y,xs,Paired.mapP r λp q z=>⟨z.1,ht _ _ z.2.1,z.2.2⟩,ob,es,ep,k _ _ (.inl U) e,c⟩
 |set S n=>obtain⟨ob,es,ep,t,e,c⟩:=x;exact⟨ob,es,ep,t,k _ _ (.inl U) e,c⟩
 |ins C dx fs=>
  obtain⟨d,z,ne,e,mA,⟨od,es,ep,e2,c⟩,r⟩:=x;exact⟨ho _ d,z,ne,k _ _ (.inl U) e,mA,⟨od,es,ep,k _ _ (.inr d) e2,c⟩,r⟩
 |own y=>obtain⟨ob,e⟩:=x;exact⟨ob,k _ _ (.inl U) e⟩
 |xd fs=>obtain⟨mA,⟨od,es,ep,e,c⟩,r⟩:=x;exact⟨mA,⟨od,es,ep,k _ _ (.inl U) e,c⟩,r⟩
 |rng lo hi=>obtain⟨t,u,v,e⟩:=x;exact⟨t,u,v,k _ _ (.inl U) e⟩
 |frz ob u ih=>obtain⟨e,q⟩:=x;exact⟨k _ _ (.inl U) e,ih q⟩
 |tbl ps=>
  have e:h.get? a=some { cls:=.none,data:=.fields ps }:=x;show h'.get? a=some { cls:=.none,data:=.fields ps };exact k a _ (.inl U) e
 |met f y=>
  have e:h.get? a=some (PySem.W.methodObj (.ref f) (.ref y)):=x;show h'.get? a=some (PySem.W.methodObj (.ref f) (.ref y));exact k a _ (.inl U) e
 |ext φ=>obtain⟨p,⟨o,e⟩,st⟩:=x;exact⟨st _ _ p λo q=>k _ _ (.inl U) q,⟨o,k _ _ (.inl U) e⟩,st⟩
theorem HOk.lt(x:HOk P w H h)(e:H a=some o):a<h.objs.size:=(x a o e).lt
theorem HOk.fresh(x:HOk P w H h)(e:h.objs.size<=a):H a=none:=by
 cases q:H a with
 |none=>rfl
 |some u=>exact Q5 (qE (x.lt q) e) (Qc _)
theorem HOk.kept(x:HOk P w H h)(k:∀b u,h.get? b=some u->h'.get? b=some u):HOk P w H h':=λa o e=>
 (x a o e).stay (λb u _ q=>k b u q) (λ_ q=>q) λ_ _ q=>q
theorem HOk.laid(x:HOk P w H h)(k:∀b u,h.get? b=some u->h'.get? b=some u)(hp:h.objs.size<=a)(new:bF P w (upd H a o) h' a o):HOk P w (upd H a o) h':=λb u e=>by
 have hn:=x.fresh hp;by_cases hb:b=a
 ·subst hb;rw[af]at e;cases e;exact new
 ·rw[aj hb]at e;exact(x b u e).stay (λc v _ q=>k c v q) (λc q=>by rw[aj (cE q hn)];exact q) λc xs q=>by rw[aj (cE q hn)];exact q
end
def Rd(H:Hp)(a:Addr)(u:HO):Prop:=H a=some u\/∃o,H a=some (.frz o u)
theorem Rd.of{H:Hp}{a:Addr}{u:HO}(h:H a=some u):Rd H a u:=.inl h
theorem Rd.ok{P:Program}{w:World}{H:Hp}{h:Heap}{a:Addr}{u:HO}(r:Rd H a u)(x:HOk P w H h):bF P w H h a u:=by
 rcases r with r|⟨o,r⟩
 ·exact x a u r
 ·obtain⟨_,q⟩:=x a _ r;exact q
def Mut:Option HO->Prop
 |some (.lst _)=>True
 |some (.dK _)=>True
 |some (.dT _)=>True
 |some (.set _ _)=>True
 |some (.ins _ _ _)=>True
 |some (.ext _)=>True
 |_=>False
section
variable {P:Program}{w:World}{H:Hp}{h h':Heap}{x e:Addr}{o':HO}
theorem HOk.write(ok:HOk P w H h)(mu:Mut (H x))(he:e=x\/H e=some (.own x))(k:∀b u,b≠e->h.get? b=some u->h'.get? b=some u)(heo:∃u,h'.get? e=some u)
 (new:bF P w (upd H x o') h' x o'):HOk P w (upd H x o') h':=λb u q=>by
 have nown:∀c y,H c=some (.own y)->c≠x:=λc y r z=>by subst z;rw[r]at mu;exact mu
 have ntup:∀c xs,H c=some (.tup xs)->c≠x:=λc xs r z=>by subst z;rw[r]at mu;exact mu
 by_cases hb:b=x
 ·subst hb;rw[af]at q;cases q;exact new
 ·rw[aj hb]at q;by_cases hbe:b=e
  ·have q':H b=some (.own x):=by
    rcases he with z|z
    ·exact Q5 (hbe.trans z) hb
    ·rw[hbe];exact z
   rw[q]at q';cases q';obtain⟨v,hv⟩:=heo;exact⟨v,by rw[hbe];exact hv⟩
  ·refine(ok b u q).stay (λc v hc r=>k c v ?_ r) (λc r=>by rw[aj (nown c b r)];exact r) λc xs r=>by rw[aj (ntup c xs r)];exact r
   rcases hc with rfl|hc
   ·exact hbe
   ·rintro rfl;rcases he with z|z
    ·exact nown c b hc z
    ·rw[hc]at z;cases z;exact hb U
end
structure Un(fs ex:List Addr)(H H':Hp)(h h':Heap):Prop where
 keep:∀b o,h.get? b=some o->H b=none->b∉fs->b∉ex->h'.get? b=some o
 slot:∀b o,h.get? b=some o->H b=none->b∈fs->b∉ex->∃sl,h'.get? b=some { o with slots:=sl }
 free:∀b o,h.get? b=some o->H b=none->b∉ex->H' b=none
 there:∀b o,h.get? b=some o->b∉ex->∃o',h'.get? b=some o'
 tups:∀b xs,H b=some (.tup xs)->H' b=some (.tup xs)
 frzs:∀b o u,H b=some (.frz o u)->H' b=some (.frz o u)
 tbls:∀b ps,H b=some (.tbl ps)->∃more,H' b=some (.tbl (ps++more))
section
variable {fs fs' ex ex':List Addr}{H H1 H2:Hp}{h h1 h2 h':Heap}{a x e:Addr}{o:HO}
theorem Un.any(u:Un fs ex H H1 h h1){b:Addr}{ob:Obj}(q:h.get? b=some ob)(n:H b=none)(hx:b∉ex):∃sl,h1.get? b=some { ob with slots:=sl }:=by
 by_cases hb:b∈fs
 ·exact u.slot b ob q n hb hx
 ·exact⟨ob.slots,u.keep b ob q n hb hx⟩
theorem Un.kept(k:∀b u,h.get? b=some u->h'.get? b=some u):Un fs ex H H h h':=
 ⟨λb ob q _ _ _=>k b ob q,λb ob q _ _ _=>⟨ob.slots,k b ob q⟩,λ_ _ _ n _=>n,λb ob q _=>⟨ob,k b ob q⟩,λ_ _ q=>q,λ_ _ _ q=>q,λ_ ps q=>⟨#[],by rw[q];simp⟩⟩
theorem Un.refl:Un fs ex H H h h:=Un.kept λ_ _ q=>q
theorem Un.laid(k:∀b u,h.get? b=some u->h'.get? b=some u)(hp:h.objs.size<=a)(hn:H a=none):Un fs ex H (upd H a o) h h' where
 keep:=λb u q _ _ _=>k b u q
 slot:=λb u q _ _ _=>⟨u.slots,k b u q⟩
 free:=λb u q n _=>by rw[aj (qH (qE (qr q) hp))];exact n
 there:=λb u q _=>⟨u,k b u q⟩
 tups:=λb xs q=>by rw[aj (cE q hn)];exact q
 frzs:=λb u xs q=>by rw[aj (cE q hn)];exact q
 tbls:=λb ps q=>⟨#[],by rw[aj (cE q hn),q];simp⟩
theorem Un.write(mu:Mut (H x))(he:e=x\/H e=some (.own x))(k:∀b u,b≠e->h.get? b=some u->h'.get? b=some u)(heo:∃u,h'.get? e=some u):Un fs ex H (upd H x o) h h':=by
 have hx:∀b,H b=none->b≠x:=λb n z=>by subst z;rw[n]at mu;exact mu
 have hb:∀b,H b=none->b≠e:=λb n z=>by
  subst z;rcases he with r|r
  ·exact hx b n r
  ·rw[n]at r;cases r
 have hm:∀b u,H b=some u->¬ Mut (some u)->b≠x:=λb u q nm z=>by subst z;rw[q]at mu;exact nm mu
 refine⟨λb u q n _ _=>k b u (hb b n) q,λb u q n _ _=>⟨u.slots,k b u (hb b n) q⟩,λb u q n _=>by rw[aj (hx b n)];exact n,λb u q _=>?_,
  λb xs q=>by rw[aj (hm b _ q λz=>z)];exact q,λb u xs q=>by rw[aj (hm b _ q λz=>z)];exact q,λb ps q=>⟨#[],by rw[aj (hm b _ q λz=>z),q];simp⟩⟩
 by_cases hbe:b=e
 ·subst hbe;exact heo
 ·exact⟨u,k b u hbe q⟩
end
def trk(h:Heap)(H:Hp):List Addr:=(List.range h.objs.size).filter λa=>(H a).isSome
def eE(h:Heap)(H:Hp):Heap:=PySem.W.hideAll h (trk h H)
theorem Ab(h:Heap)(H:Hp):(eE h H).objs.size=h.objs.size:=PySem.W.hideAll_size _ _
theorem Ac{h:Heap}{H:Hp}{b:Addr}{o:Obj}(e:h.get? b=some o)(n:H b=none):(eE h H).get? b=some o:=
 PySem.W.hideAll_get _ e λhm=>by
  have q:(H b).isSome=true:=(List.mem_filter.mp hm).2;rw[n]at q;simp at q
theorem yY{h:Heap}{H:Hp}{b:Addr}{o:Obj}(e:(eE h H).get? b=some o):h.get? b=some o/\H b=none:=by
 have e':h.get? b=some o:=PySem.W.of_hideAll (trk h H) e;refine⟨e',?_⟩
 cases q:H b with
 |none=>rfl
 |some x=>
  have hm:b∈trk h H:=List.mem_filter.mpr ⟨List.mem_range.mpr (qr e'),by simp[q]⟩;have z:(eE h H).get? b=none:=PySem.W.hideAll_none (trk h H) hm;rw[z]at e;cases e
structure Mod(K:W.Frag)(mg:Str->Option Value)(base:Heap):Prop where
 kin:K.In base
 glob:base.Ns mainGlobals mg
 blt:∃mb,base.Ns builtinsNs mb/\∀x:Str,x≠"__name__"->mb x=bootBuiltins x
 nolimit:base.NoLimit
structure Cx where
 prog:Program
 w:World
 K:W.Frag
 mg:Str->Option Value
 base:Heap
 A:Around
 N:List Str
 s₀:Shared
 H₀:Hp
 env:Env
 outer:List Env
 stack:List Env
 ex:List Addr
 fn:Str->Bool
 calm:Bool
 pn:List (Addr×Obj)
 xe:Value->Shared->Prop
def frs(l:List Env):List Addr:=l.filterMap (·.frame)
abbrev Cx.fs(X:Cx):List Addr:=frs X.outer
def Vis(sc:Scope)(x:Str):Prop:=sc.names.lookup x=some .local\/sc.names.lookup x=some .cell\/sc.names.lookup x=some .free
def Loc(sc:Scope)(x:Str):Prop:=sc.names.lookup x=some .local\/sc.names.lookup x=some .cell
def Bg(env:Env)(h:Heap)(m:Str->Option Value)(x:Str)(u:Value):Prop:=
 (env.kindOf x=some .local/\m x=some u)\/((env.kindOf x=some .cell\/env.kindOf x=some .free)/\∃c,env.cells.lookup x=some c/\h.IsCell c (some u))
structure Cx.Ok(X:Cx):Prop where
 mod:Mod X.K X.mg X.base
 kind:X.env.scope.kind=.function
 glob:X.env.globals=mainGlobals
 blt:X.env.builtins=builtinsNs
 above:X.s₀.heap.objs.size<=X.env.locals
 inj:∀x y c,X.env.cells.lookup x=some c->X.env.cells.lookup y=some c->x=y
 has:∀x,(X.env.kindOf x=some .cell\/X.env.kindOf x=some .free)->∃c,X.env.cells.lookup x=some c
 cab:∀x c,X.fn x=true->X.env.cells.lookup x=some c->X.s₀.heap.objs.size<=c
 hd:X.calm=true->X.A.handled=none
 frames:X.A.frames=some X.stack
 stk:X.stack=X.outer\/(X.stack=X.env::X.outer/\X.env.frame=some X.env.locals)
 exf:∀b∈X.ex,b≠X.env.locals/\∀x c,X.env.cells.lookup x=some c->c≠b
 bs:∀b o,X.base.get? b=some o->X.s₀.heap.get? b=some o/\X.H₀ b=none
 bsz:X.base.objs.size<=X.s₀.heap.objs.size
 noex:∀b o,X.base.get? b=some o->b∉X.ex
 exfs:∀b∈X.ex,b∉X.fs
 funs:X.s₀.heap.FunFrames X.base X.outer
 frf:∀b∈X.fs,X.H₀ b=none
structure Inv(X:Cx)(pins:List (Addr×Obj))(σ:List (Option V))(H:Hp)(s:Shared):Prop where
 ok:X.Ok
 os:s.os=X.s₀.os
 bare:AllBare s.gens
 base:Un X.fs X.ex X.H₀ H X.s₀.heap s.heap
 loc:∃m,s.heap.Ns X.env.locals m/\∀(i:Nat)(x:Str)(v:V),X.N[i]?=some x->σ[i]?=some (some v)->Vis X.env.scope x->∃u,aG v u/\Bg X.env s.heap m x u
 cell:∀x c,X.env.cells.lookup x=some c->∃v,s.heap.IsCell c v
 free:H X.env.locals=none
 freeC:∀x c,X.env.cells.lookup x=some c->H c=none
 pin:∀p∈X.pn++pins,s.heap.get? p.1=some p.2/\H p.1=none/\p.1≠X.env.locals/\p.1∉X.fs/\∀v,p.2.data≠.cell v
 hok:HOk X.prog X.w H s.heap
 len:σ.length=X.N.length
section
variable {X:Cx}{pins:List (Addr×Obj)}{σ:List (Option V)}{H H':Hp}{s:Shared}{h':Heap}
theorem Cx.Ok.nofr(ok:X.Ok){b:Addr}{o:Obj}(e:X.base.get? b=some o):b∉X.fs:=λhb=>by
 have:=(ok.funs.mem hb).1;rw[e]at this;cases this
theorem Inv.bs(I:Inv X pins σ H s):∀b o,X.base.get? b=some o->s.heap.get? b=some o/\H b=none:=λb o e=>
 ⟨I.base.keep b o (I.ok.bs b o e).1 (I.ok.bs b o e).2 (I.ok.nofr e) (I.ok.noex b o e),I.base.free b o (I.ok.bs b o e).1 (I.ok.bs b o e).2 (I.ok.noex b o e)⟩
theorem Inv.bk(I:Inv X pins σ H s):∀b o,X.base.get? b=some o->s.heap.get? b=some o:=λb o e=>(I.bs b o e).1
theorem Inv.mod(I:Inv X pins σ H s):Mod X.K X.mg X.base:=I.ok.mod
theorem Inv.kIn(I:Inv X pins σ H s):X.K.In s.heap:=I.ok.mod.kin.keeps I.bk
theorem Inv.lt(I:Inv X pins σ H s):X.env.locals<s.heap.objs.size:=let ⟨_,hn,_⟩:=I.loc;hn.lt
theorem Inv.sz(I:Inv X pins σ H s):X.s₀.heap.objs.size<=s.heap.objs.size:=qz I.ok.above (Nat.le_of_lt I.lt)
theorem Inv.nofs(I:Inv X pins σ H s){a:Addr}(h:s.heap.objs.size<=a):a∉X.fs:=λhb=>by
 obtain⟨_,o,ho,_⟩:=I.ok.funs.mem hb;exact Q5 (qE (qr ho) (qz I.sz h)) (Qc _)
theorem Inv.cne(I:Inv X pins σ H s):∀x c,X.env.cells.lookup x=some c->c≠X.env.locals:=λx c e z=>by
 obtain⟨v,o,ho,hd⟩:=I.cell x c e;obtain⟨m,⟨o',es,ep,ho',hd',_⟩,_⟩:=I.loc;rw[z,ho']at ho;cases ho;rw[hd']at hd;cases hd
theorem Inv.funs(I:Inv X pins σ H s):s.heap.FunFrames X.base X.outer:=by
 have all:∀(l:List Env),(∀b∈frs l,b∈X.fs)->X.s₀.heap.FunFrames X.base l->s.heap.FunFrames X.base l:=by
  intro l
  induction l with
  |nil=>intro _ _;trivial
  |cons env r ih=>
   intro hs hl;obtain⟨hk,⟨L,o,hf,hn,ho,hd⟩,hr⟩:=hl;have hL:L∈X.fs:=hs L (by unfold frs;rw[List.filterMap_cons,hf];exact qp);obtain⟨sl,e⟩:=I.base.slot L o ho (I.ok.frf L hL) hL λz=>I.ok.exfs L z hL;exact⟨hk,⟨L,_,hf,hn,e,hd⟩,ih (λb hb=>hs b (by unfold frs;rw[List.filterMap_cons,hf];exact qm _ hb)) hr⟩
 exact all X.outer (λ_ hb=>hb) I.ok.funs
theorem Inv.stack(I:Inv X pins σ H s):s.heap.FunFrames X.base X.stack:=by
 rcases I.ok.stk with e|⟨e,hf⟩
 ·rw[e];exact I.funs
 ·rw[e];obtain⟨m,hn,_⟩:=I.loc;refine .cons (by rw[I.ok.kind];decide) hf hn ?_ I.funs;exact Heap.get?_none_of_le (qz I.ok.bsz I.ok.above)
theorem Inv.stkSub(I:Inv X pins σ H s):∀b∈frs X.stack,b∈X.env.locals::X.fs:=λb hb=>by
 rcases I.ok.stk with e|⟨e,hf⟩
 ·rw[e]at hb;exact qm _ hb
 ·rw[e]at hb;unfold frs at hb;rw[List.filterMap_cons,hf]at hb;exact hb
theorem Inv.stkFree(I:Inv X pins σ H s):∀b∈frs X.stack,H b=none:=λb hb=>by
 rcases qv.mp (I.stkSub b hb)with e|hb
 ·rw[e];exact I.free
 ·obtain⟨_,o,ho,_⟩:=I.ok.funs.mem hb;exact I.base.free b o ho (I.ok.frf b hb) λz=>I.ok.exfs b z hb
theorem Inv.step{g':Array GenState}{t':Nat}{d':Drawn}{ch:List Addr}(I:Inv X pins σ H s)
 (hch:∀b∈ch,(b∈X.ex\/X.s₀.heap.objs.size<=b)/\b≠X.env.locals/\(∀x c,X.env.cells.lookup x=some c->c≠b)/\∀p∈X.pn++pins,p.1≠b)
 (keep:∀b o,b≠X.env.locals->b∉X.fs->b∉ch->s.heap.get? b=some o->H b=none->h'.get? b=some o)
 (slot:∀b o,b≠X.env.locals->b∈X.fs->b∉ch->s.heap.get? b=some o->H b=none->∃sl,h'.get? b=some { o with slots:=sl }) (free:∀b o,b∉ch->s.heap.get? b=some o->H b=none->H' b=none)
 (there:∀b o,b∉ch->s.heap.get? b=some o->∃o',h'.get? b=some o')
 (tups:∀b xs,H b=some (.tup xs)->H' b=some (.tup xs)) (frzs:∀b o u,H b=some (.frz o u)->H' b=some (.frz o u)) (tbls:∀b ps,H b=some (.tbl ps)->∃more,H' b=some (.tbl (ps++more)))
 (ns:∀m,s.heap.Ns X.env.locals m->h'.Ns X.env.locals m) (hok:HOk X.prog X.w H' h') (hg:AllBare g'):
 Inv X pins σ H' { s with heap:=h',gens:=g',drawn:=d',toks:=t' }:=by
 have neL:∀b o,X.s₀.heap.get? b=some o->b≠X.env.locals:=λb o e=>qH (qE (qr e) I.ok.above)
 have neC:∀b o,X.s₀.heap.get? b=some o->b∉X.ex->b∉ch:=λb o e hx hb=>by
  rcases(hch b hb).1 with z|z
  ·exact hx z
  ·exact Q5 (qE (qr e) z) (Qc _)
 have cellK:∀x c,X.env.cells.lookup x=some c->∀v,s.heap.IsCell c v->h'.IsCell c v:=λx c e v ⟨o,ho,hd⟩=>by
  have nch:c∉ch:=λz=>(hch c z).2.2.1 x c e U;by_cases hc:c∈X.fs
  ·obtain⟨sl,q⟩:=slot c o (I.cne x c e) hc nch ho (I.freeC x c e);exact⟨_,q,hd⟩
  ·exact⟨o,keep c o (I.cne x c e) hc nch ho (I.freeC x c e),hd⟩
 refine⟨I.ok,I.os,hg,⟨λb o e n hb hx=>?_,λb o e n hb hx=>?_,λb o e n hx=>?_,λb o e hx=>?_,λb xs e=>tups b xs (I.base.tups b xs e),λb o xs e=>frzs b o xs (I.base.frzs b o xs e),λb ps e=>?_⟩,?_,λx c e=>?_,?_,λx c e=>?_,λp hp=>?_,hok,I.len⟩
 ·exact keep b o (neL b o e) hb (neC b o e hx) (I.base.keep b o e n hb hx) (I.base.free b o e n hx)
 ·obtain⟨sl,e1⟩:=I.base.slot b o e n hb hx;obtain⟨sl',e2⟩:=slot b _ (neL b o e) hb (neC b o e hx) e1 (I.base.free b o e n hx);exact⟨sl',e2⟩
 ·obtain⟨o',e1⟩:=I.base.there b o e hx;exact free b o' (neC b o e hx) e1 (I.base.free b o e n hx)
 ·obtain⟨o',e1⟩:=I.base.there b o e hx;exact there b o' (neC b o e hx) e1
 ·obtain⟨m1,e1⟩:=I.base.tbls b ps e;obtain⟨m2,e2⟩:=tbls b _ e1;exact⟨m1++m2,by rw[e2,Array.append_assoc]⟩
 ·obtain⟨m,hn,hl⟩:=I.loc;refine⟨m,ns m hn,λi x v e1 e2 e3=>?_⟩;obtain⟨u,r,l⟩:=hl i x v e1 e2 e3;refine⟨u,r,?_⟩;rcases l with l|⟨k,c,e,z⟩
  ·exact .inl l
  ·exact .inr ⟨k,c,e,cellK x c e _ z⟩
 ·obtain⟨v,z⟩:=I.cell x c e;exact⟨v,cellK x c e v z⟩
 ·obtain⟨m,⟨o,_,_,ho,_⟩,_⟩:=I.loc;exact free _ o (λz=>(hch _ z).2.1 U) ho I.free
 ·obtain⟨v,o,ho,hd⟩:=I.cell x c e;exact free c o (λz=>(hch c z).2.2.1 x c e U) ho (I.freeC x c e)
 ·obtain⟨e,n,ne,nf,d⟩:=I.pin p hp;have nch:p.1∉ch:=λz=>(hch p.1 z).2.2.2 p hp U;exact⟨keep p.1 p.2 ne nf nch e n,free p.1 p.2 nch e n,ne,nf,d⟩
theorem Inv.un{t':Nat}(I:Inv X pins σ H s)(u:Un X.fs [] H H' s.heap h')(hok:HOk X.prog X.w H' h'):Inv X pins σ H' { s with heap:=h',toks:=t' }:=by
 obtain⟨m,⟨o,es,ep,ho,r⟩,_⟩:=id I.loc;obtain⟨sl,hL⟩:=u.any ho I.free (by simp)
 exact I.step (g':=s.gens) (d':=s.drawn) (ch:=[]) (λ_ z=>nomatch z) (λb o _ hb _ e n=>u.keep b o e n hb (by simp)) (λb o _ hb _ e n=>u.slot b o e n hb (by simp)) (λb o _ e n=>u.free b o e n (by simp)) (λb o _ e=>u.there b o e (by simp)) u.tups u.frzs u.tbls (λm' hm=>by
  obtain⟨o',es',ep',ho',r'⟩:=hm;rw[ho]at ho';cases ho'
  exact⟨_,es',ep',hL,r'⟩) hok I.bare
theorem Inv.call{g':Array GenState}{t':Nat}{d':Drawn}{ch:List Addr}(I:Inv X pins σ H s)(u:Un (frs X.stack) ch H H' s.heap h')(hok:HOk X.prog X.w H' h')(hg:AllBare g')
 (hch:∀b∈ch,(b∈X.ex\/X.s₀.heap.objs.size<=b)/\b≠X.env.locals/\(∀x c,X.env.cells.lookup x=some c->c≠b)/\∀p∈X.pn++pins,p.1≠b):
 Inv X pins σ H' { s with heap:=h',gens:=g',drawn:=d',toks:=t' }:=by
 obtain⟨m,⟨o,es,ep,ho,r⟩,_⟩:=id I.loc;obtain⟨sl,hL⟩:=u.any ho I.free λz=>(hch _ z).2.1 U
 exact I.step (ch:=ch) hch (λb o hL hb hc e n=>u.keep b o e n (λz=>(qv.mp (I.stkSub b z)).elim hL hb) hc) (λb o _ _ hc e n=>u.any e n hc) (λb o hc e n=>u.free b o e n hc) (λb o hc e=>u.there b o e hc) u.tups u.frzs u.tbls (λm' hm=>by
  obtain⟨o',es',ep',ho',r'⟩:=hm;rw[ho]at ho';cases ho'
  exact⟨_,es',ep',hL,r'⟩) hok hg
theorem Inv.turned{t':Nat}{it:Addr}(I:Inv X pins σ H s)(k:∀b o,b≠it->s.heap.get? b=some o->h'.get? b=some o)(hn:H it=none)(hL:it≠X.env.locals)
 (h1:it∈X.ex\/X.s₀.heap.objs.size<=it) (h2:∀x c,X.env.cells.lookup x=some c->c≠it) (h3:∀p∈X.pn++pins,p.1≠it):Inv X pins σ H { s with heap:=h',toks:=t' }:=by
 have nit:∀b u,H b=some u->b≠it:=λb u e z=>by rw[z,hn]at e;cases e
 refine I.step (g':=s.gens) (d':=s.drawn) (ch:=[it]) (λb hb=>?_) (λb o _ _ hc e _=>k b o (λz=>hc (by simp[z])) e) (λb o _ _ hc e _=>⟨o.slots,k b o (λz=>hc (by simp[z])) e⟩) (λ_ _ _ _ n=>n)
  (λb o hc e=>⟨o,k b o (λz=>hc (by simp[z])) e⟩) (λ_ _ e=>e) (λ_ _ _ e=>e) (λb ps e=>⟨#[],by rw[e];simp⟩) (λm hm=>?_) (λb u e=>?_) I.bare
 ·have e:b=it:=by simpa using hb
  subst e;exact⟨h1,hL,h2,h3⟩
 ·obtain⟨o,es,ep,ho,r⟩:=hm;exact⟨o,es,ep,k _ o (Ne.symm hL) ho,r⟩
 ·refine(I.hok b u e).stay (λc v hc q=>k c v ?_ q) (λ_ q=>q) λ_ _ q=>q;rcases hc with z|z
  ·rw[z];exact nit b u e
  ·exact nit c _ z
theorem Inv.tok(I:Inv X pins σ H s)(t:Nat):Inv X pins σ H { s with toks:=t }:=I.un (h':=s.heap) (t':=t) Un.refl I.hok
theorem Inv.kept{t':Nat}(I:Inv X pins σ H s)(k:∀b u,s.heap.get? b=some u->h'.get? b=some u):Inv X pins σ H { s with heap:=h',toks:=t' }:=I.un (Un.kept k) (I.hok.kept k)
theorem Inv.laid{a:Addr}{o:HO}{t':Nat}(I:Inv X pins σ H s)(k:∀b u,s.heap.get? b=some u->h'.get? b=some u)(hp:s.heap.objs.size<=a)(new:bF X.prog X.w (upd H a o) h' a o):
 Inv X pins σ (upd H a o) { s with heap:=h',toks:=t' }:=I.un (Un.laid k hp (I.hok.fresh hp)) (I.hok.laid k hp new)
theorem Inv.write{x e:Addr}{o:HO}{t':Nat}(I:Inv X pins σ H s)(mu:Mut (H x))(he:e=x\/H e=some (.own x))(k:∀b u,b≠e->s.heap.get? b=some u->h'.get? b=some u)(heo:∃u,h'.get? e=some u)
 (new:bF X.prog X.w (upd H x o) h' x o):Inv X pins σ (upd H x o) { s with heap:=h',toks:=t' }:=I.un (Un.write mu he k heo) (I.hok.write mu he k heo new)
theorem Inv.pins_of{pins':List (Addr×Obj)}(I:Inv X pins σ H s)(h:∀p∈pins',s.heap.get? p.1=some p.2/\H p.1=none/\p.1≠X.env.locals/\p.1∉X.fs/\∀v,p.2.data≠.cell v):Inv X pins' σ H s:=
 ⟨I.ok,I.os,I.bare,I.base,I.loc,I.cell,I.free,I.freeC,λp hp=>(qi.mp hp).elim (λz=>I.pin p (qW _ z)) (h p),I.hok,I.len⟩
theorem rY{N:List Str}(hN:N.Nodup){i j:Nat}{x:Str}(a:N[i]?=some x)(b:N[j]?=some x):i=j:=by
 obtain⟨h1,e1⟩:=qg.mp a;obtain⟨h2,e2⟩:=qg.mp b;exact(List.getElem_inj hN).mp (e1.trans e2.symm)
theorem nH{M:Model}{A:Around}{E:Yo}{i:Nat}{x:Str}{v:V}{u:Value}{Q:Unit->Shared->Prop}(I:Inv X pins σ H s)(hN:X.N.Nodup)(hi:X.N[i]?=some x)(hx:Loc X.env.scope x)(r:aG v u)
 (h:∀s',Inv X pins (σ.set i (some v)) H s'->(∃a,Heap.SameBut a s.heap s'.heap/\(a=X.env.locals\/X.env.cells.lookup x=some a))->Q () s') (hf:X.fn x=true\/X.env.scope.names.lookup x=some .local:=by first|exact .inl U|exact .inr U|assumption):wpAny M A (storeName X.env x u) Q E s:=by
 obtain⟨m,hn,hl⟩:=id I.loc;have hcls:(X.env.scope.kind == .class || (X.env.scope.kind == .module && X.env.locals != X.env.globals))=false:=by rw[I.ok.kind];rfl
 have hiσ:i<σ.length:=by rw[I.len];exact(qg.mp hi).1
 have cne:=I.cne
 have tracked:∀{a:Addr}{h':Heap},(∃o,s.heap.get? a=some o/\H a=none)->Heap.SameBut a s.heap h'->HOk X.prog X.w H h':=λ{a h'} ha hs b ob e=>by
  obtain⟨_,_,hfree⟩:=ha;refine(I.hok b ob e).stay (λc w' hc q=>(hs.2 c ?_).trans q) (λ_ q=>q) λ_ _ q=>q;rintro rfl;rcases hc with rfl|hc
  ·rw[hfree]at e;cases e
  ·rw[hfree]at hc;cases hc
 rcases hx with hk|hk
 ·refine wpAny_storeName_local hk hn (λh' hn' hs=>?_) hcls;obtain⟨oL,_,_,hoL,_⟩:=id hn;refine h _ ⟨I.ok,I.os,I.bare,⟨λb o e n hb hx=>?_,λb o e n hb hx=>?_,I.base.free,λb o e hx=>?_,I.base.tups,I.base.frzs,I.base.tbls⟩,⟨_,hn',λj y v' e1 e2 e3=>?_⟩,λy c e=>?_,I.free,I.freeC,λp hp=>?_,tracked ⟨oL,hoL,I.free⟩ hs,by simpa using I.len⟩ ⟨_,hs,.inl U⟩
  ·exact(hs.2 b (qH (qE (qr e) I.ok.above))).trans (I.base.keep b o e n hb hx)
  ·obtain⟨sl,e1⟩:=I.base.slot b o e n hb hx;exact⟨sl,(hs.2 b (qH (qE (qr e) I.ok.above))).trans e1⟩
  ·obtain⟨o',e1⟩:=I.base.there b o e hx;exact⟨o',(hs.2 b (qH (qE (qr e) I.ok.above))).trans e1⟩
  ·by_cases hj:j=i
   ·subst hj;rw[hi]at e1;cases e1;rw[List.getElem?_set_self hiσ]at e2;cases e2;exact⟨u,r,.inl ⟨hk,by simp⟩⟩
   ·rw[List.getElem?_set_ne (Ne.symm hj)]at e2;obtain⟨u',r',q⟩:=hl j y v' e1 e2 e3;refine⟨u',r',?_⟩;rcases q with⟨k,e⟩|⟨k,c,e,z⟩
    ·refine .inl ⟨k,?_⟩;have:y≠x:=λe=>hj (rY hN e1 (e▸hi));simp[this,e]
    ·exact .inr ⟨k,c,e,z.sameBut hs (cne y c e)⟩
  ·obtain⟨w',z⟩:=I.cell y c e;exact⟨w',z.sameBut hs (cne y c e)⟩
  ·obtain⟨e,n,ne,nf,d⟩:=I.pin p hp;exact⟨(hs.2 p.1 ne).trans e,n,ne,nf,d⟩
 ·have hfn:X.fn x=true:=by
   rcases hf with z|z
   ·exact z
   ·rw[z]at hk;cases hk
  obtain⟨c,hc⟩:=I.ok.has x (.inl hk);obtain⟨w',z⟩:=I.cell x c hc;refine wpAny_storeName_cell I.ok.kind hk hc z (λh' hc' hs=>?_);obtain⟨oc,hoc,hocd⟩:=id z;refine h { s with heap:=h' } ⟨I.ok,I.os,I.bare,⟨λb o e n hb hx=>?_,λb o e n hb hx=>?_,I.base.free,λb o e hx=>?_,I.base.tups,I.base.frzs,I.base.tbls⟩,⟨m,hn.sameBut hs (Ne.symm (cne x c hc)),λj y v' e1 e2 e3=>?_⟩,λy c' e=>?_,I.free,I.freeC,λp hp=>?_,tracked ⟨oc,hoc,I.freeC x c hc⟩ hs,by simpa using I.len⟩ ⟨c,hs,.inr hc⟩
  ·exact(hs.2 b (qH (qE (qr e) (I.ok.cab x c hfn hc)))).trans (I.base.keep b o e n hb hx)
  ·obtain⟨sl,e1⟩:=I.base.slot b o e n hb hx;exact⟨sl,(hs.2 b (qH (qE (qr e) (I.ok.cab x c hfn hc)))).trans e1⟩
  ·obtain⟨o',e1⟩:=I.base.there b o e hx;exact⟨o',(hs.2 b (qH (qE (qr e) (I.ok.cab x c hfn hc)))).trans e1⟩
  ·by_cases hj:j=i
   ·subst hj;rw[hi]at e1;cases e1;rw[List.getElem?_set_self hiσ]at e2;cases e2;exact⟨u,r,.inr ⟨.inl hk,c,hc,hc'⟩⟩
   ·rw[List.getElem?_set_ne (Ne.symm hj)]at e2;obtain⟨u',r',q⟩:=hl j y v' e1 e2 e3;refine⟨u',r',?_⟩;rcases q with q|⟨k,c',e,z'⟩
    ·exact .inl q
    ·refine .inr ⟨k,c',e,z'.sameBut hs ?_⟩;rintro rfl;exact hj (rY hN e1 (I.ok.inj _ _ _ e hc▸hi))
  ·by_cases hcc:c'=c
   ·subst hcc;exact⟨_,hc'⟩
   ·obtain⟨w2,z2⟩:=I.cell y c' e;exact⟨w2,z2.sameBut hs hcc⟩
  ·obtain⟨e,n,ne,nf,d⟩:=I.pin p hp;refine⟨(hs.2 p.1 ?_).trans e,n,ne,nf,d⟩;intro q;rw[q,hoc]at e;have q':oc=p.2:=qK e;exact d w' (by rw[<- q'];exact hocd)
theorem nI{M:Model}{A:Around}{E:Yo}{i:Nat}{x:Str}{v:V}{u:Value}{Q:Unit->Shared->Prop}(I:Inv X pins σ H s)(hN:X.N.Nodup)(hi:X.N[i]?=some x)(hx:Loc X.env.scope x)(r:aG v u)
 (h:∀s',Inv X pins (σ.set i (some v)) H s'->Q () s') (hf:X.fn x=true\/X.env.scope.names.lookup x=some .local:=by first|exact .inl U|exact .inr U|assumption):wpAny M A (storeName X.env x u) Q E s:=
 nH I hN hi hx r (λs' I' _=>h s' I') hf
theorem Inv.call'{s':Shared}{ch:List Addr}(I:Inv X pins σ H s)(ho:s'.os=s.os)(u:Un (frs X.stack) ch H H' s.heap s'.heap)(hok:HOk X.prog X.w H' s'.heap)(hg:AllBare s'.gens)
 (hch:∀b∈ch,(b∈X.ex\/X.s₀.heap.objs.size<=b)/\b≠X.env.locals/\(∀x c,X.env.cells.lookup x=some c->c≠b)/\∀p∈X.pn++pins,p.1≠b):Inv X pins σ H' s':=by
 obtain⟨h',g',d',t',o'⟩:=s';have e:o'=s.os:=ho;subst e;exact I.call (g':=g') (t':=t') (d':=d') u hok hg hch
end
abbrev XK:=Value->Option Addr->Hp->Prop
abbrev St:=List (Option V)
abbrev VK:=V->Hp->Prop
abbrev TE:=St->Hp->VK->Prop
abbrev TT:=St->Hp->(Bool->Hp->Prop)->Prop
abbrev TA:=St->Hp->(List V->Hp->Prop)->Prop
structure dY where
 nx:St->Hp->Prop
 rt:VK
 bk:St->Hp->Prop:=λ_ _=>False
 ct:St->Hp->Prop:=λ_ _=>False
abbrev TS:=dY->St->Hp->Prop
def EP(X:Cx)(pins:List (Addr×Obj))(σ:St)(Q:VK)(u:Value)(s':Shared):Prop:=∃v H',Inv X pins σ H' s'/\aG v u/\Q v H'
def TP(X:Cx)(pins:List (Addr×Obj))(σ:St)(Q:Bool->Hp->Prop)(b:Bool)(s':Shared):Prop:=∃H',Inv X pins σ H' s'/\Q b H'
def AP(X:Cx)(pins:List (Addr×Obj))(σ:St)(Q:List V->Hp->Prop)(us:List Value)(s':Shared):Prop:=∃vs H',Inv X pins σ H' s'/\ax vs us/\Q vs H'
def SP(X:Cx)(pins:List (Addr×Obj))(D:dY)(f:Flow)(s':Shared):Prop:=
 match f with
 |.next=>∃σ' H',Inv X pins σ' H' s'/\D.nx σ' H'
 |.brk=>∃σ' H',Inv X pins σ' H' s'/\D.bk σ' H'
 |.cont=>∃σ' H',Inv X pins σ' H' s'/\D.ct σ' H'
 |.ret u=>∃v σ' H',Inv X pins σ' H' s'/\aG v u/\D.rt v H'
def PE(X:Cx)(e:Expr)(t:TE):Prop:=
 ∀(pins:List (Addr×Obj))(s:Shared)(σ:St)(H:Hp)(Q:VK),Inv X pins σ H s->t σ H Q->wpAny (model X.prog X.w) X.A (eval e X.env) (EP X pins σ Q) X.xe s
def PT(X:Cx)(e:Expr)(t:TT):Prop:=
 ∀(pins:List (Addr×Obj))(s:Shared)(σ:St)(H:Hp)(Q:Bool->Hp->Prop),Inv X pins σ H s->t σ H Q->wpAny (model X.prog X.w) X.A (isTrue e X.env (eval e X.env)) (TP X pins σ Q) X.xe s
def PW(X:Cx)(e:Expr)(t:TT):Prop:=
 ∀(whole:Sem Value)(pins:List (Addr×Obj))(s:Shared)(σ:St)(H:Hp)(Q:Bool->Hp->Prop),Inv X pins σ H s->t σ H Q->wpAny (model X.prog X.w) X.A (isTrue e X.env whole) (TP X pins σ Q) X.xe s
theorem PW.pt{X:Cx}{e:Expr}{t:TT}(h:PW X e t):PT X e t:=h _
def PA(X:Cx)(es:List Expr)(t:TA):Prop:=
 ∀(pos:Pos)(pins:List (Addr×Obj))(s:Shared)(σ:St)(H:Hp)(Q:List V->Hp->Prop),Inv X pins σ H s->t σ H Q->wpAny (model X.prog X.w) X.A (spliced (backTo pos (starEach es X.env))) (AP X pins σ Q) X.xe s
def PS(X:Cx)(st:Stmt)(t:TS):Prop:=
 ∀(pins:List (Addr×Obj))(s:Shared)(σ:St)(H:Hp)(D:dY),Inv X pins σ H s->t D σ H->wpAny (model X.prog X.w) X.A (exec st X.env) (SP X pins D) X.xe s
def PSs(X:Cx)(st:List Stmt)(t:TS):Prop:=
 ∀(pins:List (Addr×Obj))(s:Shared)(σ:St)(H:Hp)(D:dY),Inv X pins σ H s->t D σ H->wpAny (model X.prog X.w) X.A (execs st X.env) (SP X pins D) X.xe s
theorem thn{α:Type}{t:Sem α}{Q Q':α->Shared->Prop}{M:Model}{A:Around}{E:Yo}{s:Shared}(h:wpAny M A t Q E s)(hQ:∀a s,Q a s->Q' a s):wpAny M A t Q' E s:=wpAny_mono h hQ λ_ _ x=>x
section
variable {X:Cx}
theorem bin{a b:Expr}{ta tb:TE}(ha:PE X a ta)(hb:PE X b tb){pins:List (Addr×Obj)}{s:Shared}{σ:St}{H:Hp}{R:V->V->Hp->Prop}(I:Inv X pins σ H s)(h:ta σ H λx H1=>tb σ H1 λy H2=>R x y H2)
 {α:Type}{Q:α->Shared->Prop}{f:Value->Value->Sem α}
 (hf:∀v u s2 x y H2,Inv X pins σ H2 s2->aG x v->aG y u->R x y H2->wpAny (model X.prog X.w) X.A (f v u) Q X.xe s2):
 wpAny (model X.prog X.w) X.A (eval a X.env) (λv s₁=>wpAny (model X.prog X.w) X.A (eval b X.env) (λu s₂=>wpAny (model X.prog X.w) X.A (f v u) Q X.xe s₂) X.xe s₁) X.xe s:=by
 refine thn (ha pins s σ H _ I h) λv s1 ⟨x,H1,I1,r1,q1⟩=>?_;refine thn (hb pins s1 σ H1 _ I1 q1) λu s2 ⟨y,H2,I2,r2,q2⟩=>?_;exact hf v u s2 x y H2 I2 r1 r2 q2
def nD(i:Nat):TE:=λσ H Q=>∃v,σ[i]?=some (some v)/\Q v H
def tC(v:V):TE:=λ_ H Q=>Q v H
theorem xc{i:Nat}{x:Str}{pos:Pos}(hN:X.N[i]?=some x)(hv:Vis X.env.scope x)(hd:(x == ("__debug__":Str))=false:=by decide)(hcd:(x == ("__classdict__":Str))=false:=by decide):PE X (.Name x pos) (nD i):=by
 intro pins s σ H Q I h;obtain⟨v,e,h⟩:=h;obtain⟨m,hn,hl⟩:=I.loc;obtain⟨u,r,l⟩:=hl i x v hN e hv;have fin:EP X pins σ Q u s:=⟨v,H,I,r,h⟩;rcases l with⟨hk,hm⟩|⟨hk,c,hc,hcell⟩
 ·exact wpAny_Name (wpAny_loadName_local I.ok.kind hk hn hm fin) hd
 ·rcases hk with hk|hk
  ·exact wpAny_Name (wpAny_loadName_cell I.ok.kind hk hc hcell fin) hd
  ·exact wpAny_Name (wpAny_loadName_free I.ok.kind hk hc hcell fin hcd) hd
theorem aa{i j pos}:PE X (.Constant (.int i) j pos) (tC (.int i)):=λ_ _ _ H _ I h=>wpAny_Constant_int ⟨.int i,H,I.tok _,⟨_,U⟩,h⟩
theorem br{b j pos}:PE X (.Constant (.bool b) j pos) (tC (.bl b)):=λ_ _ _ H _ I h=>Constant_bool ⟨.bl b,H,I,U,h⟩
theorem cX{j pos}:PE X (.Constant .none j pos) (tC .non):=λ_ _ _ H _ I h=>Constant_none ⟨.non,H,I,U,h⟩
theorem bg{x j pos}:PE X (.Constant (.str x) j pos) (tC (.str x)):=λ_ _ _ H _ I h=>Calls.Constant_str ⟨.str x,H,I.tok _,⟨_,U⟩,h⟩
def Gl(X:Cx)(x:Str):Prop:=X.env.kindOf x=some .globalImplicit
theorem j4{E:Yo}{pins:List (Addr×Obj)}{s:Shared}{σ:St}{H:Hp}{x:Str}{u:Value}{pos:Pos}{Q:Yo}(I:Inv X pins σ H s)(hg:Gl X x)(hm:X.mg x=some u)(h:Q u s)
 (hd:(x == ("__debug__":Str))=false:=by decide):wpAny (model X.prog X.w) X.A (eval (.Name x pos) X.env) Q E s:=
 Calls.Name_function_global I.ok.kind hg (Calls.loadGlobal_global (by rw[I.ok.glob];exact I.mod.glob.keeps I.bk) hm h) hd
theorem dD{E:Yo}{pins:List (Addr×Obj)}{s:Shared}{σ:St}{H:Hp}{x:Str}{u:Value}{pos:Pos}{Q:Yo}(I:Inv X pins σ H s)(hg:Gl X x)(hm:X.mg x=none)(hv:bootBuiltins x=some u)(h:Q u s)
 (hn:x≠"__name__":=by decide) (hd:(x == ("__debug__":Str))=false:=by decide):wpAny (model X.prog X.w) X.A (eval (.Name x pos) X.env) Q E s:=by
 obtain⟨mb,h1,h2⟩:=I.mod.blt;exact Calls.Name_function_global I.ok.kind hg (Calls.loadGlobal_builtin (by rw[I.ok.glob];exact I.mod.glob.keeps I.bk) hm (by rw[I.ok.blt];exact h1.keeps I.bk) ((h2 x hn).trans hv) h) hd
theorem xn{x:Str}{v:V}{u:Value}{pos:Pos}(hg:Gl X x)(hm:X.mg x=some u)(r:aG v u)(hd:(x == ("__debug__":Str))=false:=by decide):PE X (.Name x pos) (tC v):=
 λ_ _ _ H _ I h=>j4 I hg hm ⟨v,H,I,r,h⟩ hd
theorem eY{x:Str}{v:V}{u:Value}{pos:Pos}(hg:Gl X x)(hm:X.mg x=none)(hv:bootBuiltins x=some u)(r:aG v u)(hn:x≠"__name__":=by decide)(hd:(x == ("__debug__":Str))=false:=by decide):PE X (.Name x pos) (tC v):=
 λ_ _ _ H _ I h=>dD I hg hm hv ⟨v,H,I,r,h⟩ hn hd
variable {a b:Expr}{ta tb:TE}{pos:Pos}
def PC(X:Cx)(op:CmpOp)(a b:Expr)(t:TE):Prop:=
 ∀(pins:List (Addr×Obj))(s:Shared)(σ:St)(H:Hp)(Q:VK),Inv X pins σ H s->t σ H Q->
  wpAny (model X.prog X.w) X.A (eval a X.env) (λv s₁=>wpAny (model X.prog X.w) X.A (eval b X.env) (λu s₂=>wpAny (model X.prog X.w) X.A (compareOp op v u) (EP X pins σ Q) X.xe s₂) X.xe s₁) X.xe s
def tB(t:TE):TT:=λσ H Q=>t σ H λx H1=>∃c,x=.bl c/\Q c H1
theorem Bj{op:CmpOp}{t:TE}(h:PC X op a b t)(h1:behindInMarks op b=false:=by first|exact nobehind _ Yd Yd|rfl):PT X (.Compare a [op] [b] pos) (tB t):=by
 intro pins s σ H Q I hw;refine wpAny_isTrue_Compare1 (thn (h pins s σ H _ I hw) λv s1 h1=>thn h1 λu s2 h2=>thn h2 λc s3 ⟨x,H1,I1,r1,q1⟩=>?_) h1;obtain⟨d,rfl,q⟩:=q1;cases r1;exact wpAny_truthy_bool ⟨H1,I1,q⟩
theorem wQ{e:Expr}{t:TE}(h:PE X e t)(he:∀whole,isTrue e X.env whole=(do let v <- whole;standAt e.pos;holding [v] (truthy v)):=by intro _;rfl):PT X e (tB t):=by
 intro pins s σ H Q I hw;refine isTrue_plain (thn (h pins s σ H _ I hw) λv s1 ⟨x,H1,I1,r1,q1⟩=>?_) (he _);obtain⟨d,rfl,q⟩:=q1;cases r1;exact wpAny_truthy_bool ⟨H1,I1,q⟩
variable {tA tB':TT}{rest:List Expr}
def ve(t u:TT):TT:=λσ H Q=>t σ H λc H1=>if c=true then u σ H1 Q else Q false H1
def tOr(t u:TT):TT:=λσ H Q=>t σ H λc H1=>if c=true then Q true H1 else u σ H1 Q
def uP(t:TT):TT:=λσ H Q=>t σ H λc H1=>Q (!c) H1
theorem lD(ha:PT X a tA):PW X (.BoolOp .And [a] pos) tA:=by
 intro wh pins s σ H Q I h;refine isTrue_and (thn (ha pins s σ H Q I h) λc s1 e=>?_)
 cases c with
 |true=>exact isTrue_and_nil e
 |false=>exact e
theorem dk(ha:PT X a tA):PW X (.BoolOp .Or [a] pos) tA:=by
 intro wh pins s σ H Q I h;refine isTrue_or (thn (ha pins s σ H Q I h) λc s1 e=>?_)
 cases c with
 |false=>exact isTrue_or_nil e
 |true=>exact e
theorem iU(ha:PT X a tA)(hb:PW X (.BoolOp .And (b::rest) pos) tB'):PW X (.BoolOp .And (a::b::rest) pos) (ve tA tB'):=by
 intro wh pins s σ H Q I h;refine isTrue_and (thn (ha pins s σ H _ I h) λc s1 ⟨H1,I1,q1⟩=>?_)
 cases c with
 |true=>exact hb wh pins s1 σ H1 Q I1 q1
 |false=>exact⟨H1,I1,q1⟩
theorem cM(ha:PT X a tA)(hb:PW X (.BoolOp .Or (b::rest) pos) tB'):PW X (.BoolOp .Or (a::b::rest) pos) (tOr tA tB'):=by
 intro wh pins s σ H Q I h;refine isTrue_or (thn (ha pins s σ H _ I h) λc s1 ⟨H1,I1,q1⟩=>?_)
 cases c with
 |true=>exact⟨H1,I1,q1⟩
 |false=>exact hb wh pins s1 σ H1 Q I1 q1
theorem cN(ha:PT X a tA):PT X (.UnaryOp .Not a pos) (uP tA):=by
 intro pins s σ H Q I h;exact isTrue_not (ha pins s σ H (λc H1=>Q (!c) H1) I h)
def vd(ta tb:TE):TE:=λσ H Q=>ta σ H λx H1=>∃c,x=.bl c/\if c=true then tb σ H1 Q else Q (.bl false) H1
def uN(ta tb:TE):TE:=λσ H Q=>ta σ H λx H1=>∃c,x=.bl c/\if c=true then Q (.bl true) H1 else tb σ H1 Q
def uO(ta:TE):TE:=λσ H Q=>ta σ H λx H1=>∃c,x=.bl c/\Q (.bl (!c)) H1
theorem lM{op}{t:TE}(h:PE X a t):PE X (.BoolOp op [a] pos) t:=λpins s σ H Q I hw=>BoolOp_one (h pins s σ H Q I hw)
theorem rG(ha:PE X a ta)(hb:PE X (.BoolOp .And (b::rest) pos) tb):PE X (.BoolOp .And (a::b::rest) pos) (vd ta tb):=by
 intro pins s σ H Q I h;refine BoolOp_and (thn (ha pins s σ H _ I h) λv s1 ⟨x,H1,I1,r1,q1⟩=>?_);obtain⟨c,rfl,q1⟩:=q1;cases r1;refine wpAny_truthy_bool ?_
 cases c with
 |true=>exact hb pins s1 σ H1 Q I1 q1
 |false=>exact⟨.bl false,H1,I1,U,q1⟩
theorem rD(ha:PE X a ta)(hb:PE X (.BoolOp .Or (b::rest) pos) tb):PE X (.BoolOp .Or (a::b::rest) pos) (uN ta tb):=by
 intro pins s σ H Q I h;refine BoolOp_or (thn (ha pins s σ H _ I h) λv s1 ⟨x,H1,I1,r1,q1⟩=>?_);obtain⟨c,rfl,q1⟩:=q1;cases r1;refine wpAny_truthy_bool ?_
 cases c with
 |false=>exact hb pins s1 σ H1 Q I1 q1
 |true=>exact⟨.bl true,H1,I1,U,q1⟩
theorem xg(ha:PE X a ta):PE X (.UnaryOp .Not a pos) (uO ta):=by
 intro pins s σ H Q I h;refine UnaryOp_ (thn (ha pins s σ H _ I h) λv s1 ⟨x,H1,I1,r1,q1⟩=>?_);obtain⟨c,rfl,q1⟩:=q1;cases r1;exact not_of (wpAny_truthy_bool ⟨.bl (!c),H1,I1,U,q1⟩)
def tIf(t:TT)(ta tb:TE):TE:=λσ H Q=>t σ H λc H1=>if c=true then ta σ H1 Q else tb σ H1 Q
theorem dH{c:Expr}(hc:PT X c tA)(ha:PE X a ta)(hb:PE X b tb):PE X (.IfExp c a b pos) (tIf tA ta tb):=by
 intro pins s σ H Q I h;refine wpAny_IfExp (thn (hc pins s σ H _ I h) λd s1 ⟨H1,I1,q1⟩=>?_)
 cases d with
 |true=>exact ha pins s1 σ H1 Q I1 q1
 |false=>exact hb pins s1 σ H1 Q I1 q1
end
def SqL(K:W.Frag)(H:Hp)(a:Addr)(xs:List V):Prop:=
 Rd H a (.lst xs) \/
  ∃(o:Obj)(its:Array Value)(n:Nat),K.lookup a=some o/\o.cls=.type "list"/\o.dict=none/\o.data=.seq its n/\its.size<=sizeLine/\ax xs its.toList
def SqT(K:W.Frag)(H:Hp)(a:Addr)(xs:List V):Prop:=
 Rd H a (.tup xs) \/
  ∃(o:Obj)(its:Array Value)(n:Nat),K.lookup a=some o/\o.cls=.type "tuple"/\o.data=.seq its n/\its.size<=sizeLine/\ax xs its.toList
def Bc:Value->Option V
 |.none=>some .non
 |.bool b=>some (.bl b)
 |.int i _=>some (.int i)
 |.str x _=>some (.str x)
 |.bytes b _=>some (.byt b)
 |.float b _=>some (.flt b)
 |.ref a=>some (.ref a)
 |.type n=>some (.ty n)
 |_=>none
theorem aG.abs{x:V}{u:Value}(r:aG x u):Bc u=some x:=by
 cases x with
 |non=>cases r;rfl
 |bl _=>cases r;rfl
 |int _=>obtain⟨t,rfl⟩:=r;rfl
 |str _=>obtain⟨t,rfl⟩:=r;rfl
 |byt _=>obtain⟨t,rfl⟩:=r;rfl
 |flt _=>obtain⟨t,rfl⟩:=r;rfl
 |ref _=>cases r;rfl
 |ty _=>cases r;rfl
theorem aG.inj{x y:V}{u:Value}(r:aG x u)(q:aG y u):x=y:=qK (r.abs.symm.trans q.abs)
theorem ax.inj:∀{xs ys:List V}{us:List Value},ax xs us->ax ys us->xs=ys
 |_,_,_,.nil,.nil=>rfl
 |_,_,_,.cons r t,.cons r' t'=>by rw[r.inj r',ax.inj t t']
section
variable {X:Cx}{pins:List (Addr×Obj)}{σ:St}{H:Hp}{s:Shared}{a:Addr}{xs ys:List V}
theorem SqL.of{K:W.Frag}(h:H a=some (.lst xs)):SqL K H a xs:=.inl (.inl h)
theorem SqT.of{K:W.Frag}(h:H a=some (.tup xs)):SqT K H a xs:=.inl (.inl h)
theorem Inv.list(I:Inv X pins σ H s)(h:SqL X.K H a xs):∃its:List Value,ax xs its/\PlainL s.heap a its.toArray/\xs.length<=sizeLine:=by
 rcases h with h|⟨o,its,n,hk,hc,hd,hs,hz,r⟩
 ·obtain⟨z,its,n,r,e⟩:=h.ok I.hok;exact⟨its,r,⟨_,n,e,U,U,U⟩,z⟩
 ·refine⟨its.toList,r,⟨o,n,I.kIn a o hk,hc,hd,by simpa using hs⟩,?_⟩;have e:=r.length;simp only[qN]at e;omega
theorem Inv.tuple(I:Inv X pins σ H s)(h:SqT X.K H a xs):∃its:List Value,ax xs its/\IsTup s.heap a its.toArray/\xs.length<=sizeLine:=by
 rcases h with h|⟨o,its,n,hk,hc,hs,hz,r⟩
 ·obtain⟨z,its,r,p⟩:=h.ok I.hok;exact⟨its,r,p,z⟩
 ·refine⟨its.toList,r,⟨o,I.kIn a o hk,hc,n,by simpa using hs⟩,?_⟩;have e:=r.length;simp only[qN]at e;omega
theorem Inv.list_inj(I:Inv X pins σ H s)(h:SqL X.K H a xs)(h':SqL X.K H a ys):xs=ys:=by
 obtain⟨its,r,⟨o,n,e,_,_,d⟩,_⟩:=I.list h;obtain⟨its',r',⟨o',n',e',_,_,d'⟩,_⟩:=I.list h';rw[e]at e';cases e';rw[d]at d';injection d' with d1 _;have:its=its':=by simpa using congrArg Array.toList d1
 subst this;exact r.inj r'
theorem Inv.tuple_inj(I:Inv X pins σ H s)(h:SqT X.K H a xs)(h':SqT X.K H a ys):xs=ys:=by
 obtain⟨its,r,⟨o,e,_,n,d⟩,_⟩:=I.tuple h;obtain⟨its',r',⟨o',e',_,n',d'⟩,_⟩:=I.tuple h';rw[e]at e';cases e';rw[d]at d';injection d' with d1 _;have:its=its':=by simpa using congrArg Array.toList d1
 subst this;exact r.inj r'
end
abbrev Cx.wish(X:Cx)(E:Yo):Cx:={ X with xe:=E }
abbrev Cx.nox(X:Cx):Cx:=X.wish λ_ _=>False
theorem Cx.Ok.wish{X:Cx}(ok:X.Ok)(E:Yo):(X.wish E).Ok:=
 ⟨ok.mod,ok.kind,ok.glob,ok.blt,ok.above,ok.inj,ok.has,ok.cab,ok.hd,ok.frames,ok.stk,ok.exf,ok.bs,ok.bsz,ok.noex,ok.exfs,ok.funs,ok.frf⟩
theorem Cx.Ok.unwish{X:Cx}{E:Yo}(ok:(X.wish E).Ok):X.Ok:=
 ⟨ok.mod,ok.kind,ok.glob,ok.blt,ok.above,ok.inj,ok.has,ok.cab,ok.hd,ok.frames,ok.stk,ok.exf,ok.bs,ok.bsz,ok.noex,ok.exfs,ok.funs,ok.frf⟩
section
variable {X:Cx}{pins:List (Addr×Obj)}{σ:St}{H:Hp}{s:Shared}{E:Yo}
theorem Inv.wish(I:Inv X pins σ H s)(E:Yo):Inv (X.wish E) pins σ H s:=⟨I.ok.wish E,I.os,I.bare,I.base,I.loc,I.cell,I.free,I.freeC,I.pin,I.hok,I.len⟩
theorem Inv.unwish(I:Inv (X.wish E) pins σ H s):Inv X pins σ H s:=⟨I.ok.unwish,I.os,I.bare,I.base,I.loc,I.cell,I.free,I.freeC,I.pin,I.hok,I.len⟩
theorem SP.unwish{D:dY}{f:Flow}{s':Shared}(h:SP (X.wish E) pins D f s'):SP X pins D f s':=by
 cases f with
 |next=>obtain⟨σ',H',I,q⟩:=h;exact⟨σ',H',I.unwish,q⟩
 |brk=>obtain⟨σ',H',I,q⟩:=h;exact⟨σ',H',I.unwish,q⟩
 |cont=>obtain⟨σ',H',I,q⟩:=h;exact⟨σ',H',I.unwish,q⟩
 |ret u=>obtain⟨v,σ',H',I,r,q⟩:=h;exact⟨v,σ',H',I.unwish,r,q⟩
theorem PSs.nox{st:List Stmt}{t:TS}(h:PSs X.nox st t):PSs X st t:=λpins s σ H D I hw=>
 wpAny_mono (h pins s σ H D (I.wish _) hw) (λ_ _ q=>q.unwish) λ_ _ z=>False.elim z
end
section
variable {X:Cx}{st:Stmt}{rest:List Stmt}{t u:TS}{e:Expr}{te:TE}{pos:Pos}
def jz:TS:=λD σ H=>D.nx σ H
def iz(t u:TS):TS:=λD σ H=>t { D with nx:=u D } σ H
theorem aF:PSs X [] jz:=λ_ _ σ H _ I h=>wpAny_execs_nil ⟨σ,H,I,h⟩
theorem ae(h1:PS X st t)(h2:PSs X rest u):PSs X (st::rest) (iz t u):=by
 intro pins s σ H D I h;refine wpAny_execs_cons (thn (h1 pins s σ H { D with nx:=u D } I h) λf s1 q=>?_)
 cases f with
 |next=>
  obtain⟨σ',H',I',q⟩:=q;exact h2 pins s1 σ' H' D I' q
 |ret v=>exact q
 |brk=>exact q
 |cont=>exact q
theorem ah(h1:PS X st t):PSs X [st] t:=by
 intro pins s σ H D I h;refine wpAny_execs_cons (thn (h1 pins s σ H D I h) λf s1 q=>?_)
 cases f with
 |next=>exact wpAny_execs_nil q
 |ret v=>exact q
 |brk=>exact q
 |cont=>exact q
theorem Inv.quiet{pins:List (Addr×Obj)}{σ:St}{H:Hp}{s:Shared}(I:Inv X pins σ H s):interactive X.env=false:=by simp[interactive,I.ok.kind]
def uX(te:TE):TS:=λD σ H=>te σ H λ_ H1=>D.nx σ H1
theorem bO(he:PE X e te)(hs:swapsWith e none pos.line X.env=pure false:=by rfl):PS X (.Expr e pos) (uX te):=by
 intro pins s σ H D I h;exact wpAny_Expr_any (thn (he pins s σ H _ I h) λv s1 ⟨x,H1,I1,r1,q1⟩=>⟨σ,H1,I1,q1⟩) I.quiet hs
def uL(te:TE):TS:=λD σ H=>te σ H D.rt
theorem ak(he:PE X e te):PS X (.Return (some e) pos) (uL te):=by
 intro pins s σ H D I h;exact wpAny_Return_some (thn (he pins s σ H _ I h) λv s1 ⟨x,H1,I1,r1,q1⟩=>⟨x,σ,H1,I1,r1,q1⟩)
def uK:TS:=λD _ H=>D.rt .non H
theorem wV:PS X (.Return none pos) uK:=λ_ _ σ H _ I h=>wpAny_Return_none ⟨.non,σ,H,I,U,h⟩
def uV(c:TT)(t u:TS):TS:=λD σ H=>c σ H λb H1=>if b=true then t D σ H1 else u D σ H1
theorem aD{c:Expr}{a b:List Stmt}{tc:TT}(hc:PT X c tc)(ha:PSs X a t)(hb:PSs X b u):PS X (.If c a b pos) (uV tc t u):=by
 intro pins s σ H D I h;refine wpAny_If (thn (hc pins s σ H _ I h) λd s1 ⟨H1,I1,q1⟩=>?_)
 cases d with
 |true=>exact ha pins s1 σ H1 D I1 q1
 |false=>exact hb pins s1 σ H1 D I1 q1
end
abbrev TG:=V->St->Hp->(St->Hp->Prop)->Prop
abbrev TGs:=List V->St->Hp->(St->Hp->Prop)->Prop
def PG(X:Cx)(target:Expr)(t:TG):Prop:=
 ∀(pins:List (Addr×Obj))(s:Shared)(σ:St)(H:Hp)(v:V)(u:Value)(Q:St->Hp->Prop),Inv X pins σ H s->aG v u->t v σ H Q->
  wpAny (model X.prog X.w) X.A (assign target X.env u) (λ_ s'=>∃σ' H',Inv X pins σ' H' s'/\Q σ' H') X.xe s
def PGs(X:Cx)(ts:List Expr)(t:TGs):Prop:=
 ∀(pins:List (Addr×Obj))(s:Shared)(σ:St)(H:Hp)(vs:List V)(us:List Value)(Q:St->Hp->Prop),Inv X pins σ H s->ax vs us->t vs σ H Q->
  wpAny (model X.prog X.w) X.A (assignInOrder ((assignEach ts X.env).map (·.2)) us) (λ_ s'=>∃σ' H',Inv X pins σ' H' s'/\Q σ' H') X.xe s
abbrev mS:=V->V->V->Hp->(Hp->Prop)->Prop
def ue(X:Cx)(t:mS):Prop:=
 ∀(pins:List (Addr×Obj))(s:Shared)(σ:St)(H:Hp)(o i v:V)(ov iv u:Value)(Q:Hp->Prop),Inv X pins σ H s->aG o ov->aG i iv->aG v u->t o i v H Q->
  wpAny (model X.prog X.w) X.A (setItem ov iv u) (λ_ s'=>∃H',Inv X pins σ H' s'/\Q H') X.xe s
section
variable {X:Cx}{pos:Pos}
def aI(i:Nat):TG:=λv σ H Q=>Q (σ.set i (some v)) H
theorem aP{i:Nat}{x:Str}(hN:X.N.Nodup)(hi:X.N[i]?=some x)(hx:Loc X.env.scope x)(hf:X.fn x=true\/X.env.scope.names.lookup x=some .local:=by first|exact .inl U|exact .inr U|assumption):PG X (.Name x pos) (aI i):=by
 intro pins s σ H v u Q I r h;exact wpAny_assign_Name (nI I hN hi hx r (λs' I'=>⟨_,H,I',h⟩) hf)
def Al:TGs:=λvs σ H Q=>vs=[]/\Q σ H
def Am(t:TG)(u:TGs):TGs:=λvs σ H Q=>∃v r,vs=v::r/\t v σ H λσ' H'=>u r σ' H' Q
theorem ef:PGs X [] Al:=by
 intro pins s σ H vs us Q I r h;obtain⟨e,h⟩:=h;subst e;cases r;exact assignInOrder_nil ⟨σ,H,I,h⟩
theorem cs{e:Expr}{es:List Expr}{t:TG}{u:TGs}(h1:PG X e t)(h2:PGs X es u)
 (hs:(assignEach (e::es) X.env).map (·.2)=assign e X.env::(assignEach es X.env).map (·.2):=by rfl):PGs X (e::es) (Am t u):=by
 intro pins s σ H vs us Q I r h;obtain⟨v,vr,e1,h⟩:=h;subst e1
 cases r with
 |cons r rr=>
  rw[hs];refine assignInOrder_cons (thn (h1 pins s σ H _ _ _ I r h) λ_ s1 ⟨σ1,H1,I1,q1⟩=>?_);exact h2 pins s1 σ1 H1 _ _ Q I1 rr q1
def t6(K:W.Frag)(n:Nat)(t:TGs):TG:=λv σ H Q=>∃a xs,v=.ref a/\SqT K H a xs/\xs.length=n/\t xs σ H Q
theorem hX{es:List Expr}{k:Nat}{t:TGs}{n:Nat}(hc:X.calm=true)(h:PGs X es t)
 (hn:(assignEach es X.env).length=n:=by rfl) (hst:(assignEach es X.env).findIdx? (·.1)=none:=by rfl):PG X (.Tuple es k pos) (t6 X.K n t):=by
 intro pins s σ H v u Q I r hw;obtain⟨a,xs,e1,hq,hl,hw⟩:=hw;subst e1;cases r;obtain⟨its,rv,ht,hz⟩:=I.tuple hq;refine assign_Tuple_tuple (I.ok.hd hc) ht (by simp[hn,<- hl,rv.length]) hst λh' hx=>?_;have I1:Inv X pins σ H { s with heap:=h' }:=I.kept (t':=s.toks) λb o e=>hx b o (qH (qr e)) e;exact h pins _ σ H xs _ Q I1 (by simpa using rv) hw
def Ak(to ti:TE)(t:mS):TG:=λv σ H Q=>to σ H λo H1=>ti σ H1 λi H2=>t o i v H2 λH3=>Q σ H3
theorem eu{o i:Expr}{to ti:TE}{t:mS}(ho:PE X o to)(hi:PE X i ti)(hs:ue X t)
 (ha:∀v,assign (.Subscript o i pos) X.env v=(do
  let ov <- holding [v] (eval o X.env)
  let iv <- holding [v,ov] (eval i X.env)
  standAt pos
  holding [v,ov,iv] (setItem ov iv v)
  release [v,ov,iv] []):=by intro _;rfl):PG X (.Subscript o i pos) (Ak to ti t):=by
 intro pins s σ H v u Q I r h;rw[ha];refine q9 (Qv (thn (ho pins s σ H _ I h) λov s1 ⟨x,H1,I1,r1,q1⟩=>?_));refine q9 (Qv (thn (hi pins s1 σ H1 _ I1 q1) λiv s2 ⟨y,H2,I2,r2,q2⟩=>?_));refine q9 (wpAny_standAt (q9 (Qv (thn (hs pins s2 σ H2 x y v ov iv u _ I2 r1 r2 r q2) λ_ s3 ⟨H3,I3,q3⟩=>?_))));exact wpAny_release ⟨σ,H3,I3,q3⟩
def jB(te:TE)(g:TG):TS:=λD σ H=>te σ H λx H1=>g x σ H1 D.nx
theorem dP{tg e:Expr}{te:TE}{g:TG}(he:PE X e te)(hg:PG X tg g)(hs:swapsWithSole [tg] e pos.line X.env=pure false:=by rfl)(hw:swappedStores [tg] e X.env=pure none:=by rfl)
 (h1:(assignEach [tg] X.env).map (·.2)=[assign tg X.env]:=by rfl):PS X (.Assign [tg] e pos) (jB te g):=by
 intro pins s σ H D I h;refine wpAny_Assign_stores (thn (he pins s σ H _ I h) λv s1 ⟨x,H1,I1,r1,q1⟩=>?_) hs hw;rw[h1];exact thn (hg pins s1 σ H1 x v _ I1 r1 q1) λ_ s2 q=>q
theorem aT{i:Nat}{x:Str}{e:Expr}{te:TE}{pos':Pos}(hN:X.N.Nodup)(hi:X.N[i]?=some x)(hx:Loc X.env.scope x)(he:PE X e te)(hs:swapsWith e (some (.Name x pos')) pos.line X.env=pure false:=by rfl)(hf:X.fn x=true\/X.env.scope.names.lookup x=some .local:=by first|exact .inl U|exact .inr U|assumption):
 PS X (.Assign [.Name x pos'] e pos) (jB te (aI i)):=by
 intro pins s σ H D I h;refine wpAny_Assign_Name (thn (he pins s σ H _ I h) λv s1 ⟨y,H1,I1,r1,q1⟩=>?_) hs;exact nI I1 hN hi hx r1 (λs2 I2=>⟨_,H1,I2,q1⟩) hf
end
section
variable {X:Cx}{pos:Pos}
def uH(c:TT)(tb:TS):TS:=λD σ H=>∃W:Nat->St->Hp->Prop,(∃m,W m σ H)/\∀m σ H,W m σ H->
 c σ H λb H1=>if b=true then ∃N:St->Hp->Prop,(∀σ' H',N σ' H'->∃m',m'<m/\W m' σ' H')/\tb { D with nx:=N,ct:=N,bk:=D.nx } σ H1 else D.nx σ H1
theorem wU{c:Expr}{body:List Stmt}{tc:TT}{tb:TS}(hp:PassesOwn (model X.prog X.w) X.A X.env X.xe)(hc:PT X c tc)(hb:PSs X body tb):PS X (.While c body [] pos) (uH tc tb):=by
 intro pins s σ H D I h;obtain⟨W,⟨m0,w0⟩,turn⟩:=h;refine wpAny_While (codeAny_whileLoop (λn s'=>∃σ' H',Inv X pins σ' H' s'/\W n σ' H') ?_ m0 ⟨σ,H,I,w0⟩);rintro n s1 ⟨σ1,H1,I1,w1⟩;refine wpAny_passesOwn hp (thn (hc pins s1 σ1 H1 _ I1 (turn n σ1 H1 w1)) λb s2 ⟨H2,I2,q2⟩=>?_)
 cases b with
 |true=>
  obtain⟨N,hN,q2⟩:=q2;rw[Q1 U];refine wpAny_passesOwn hp (thn (hb pins s2 σ1 H2 _ I2 q2) λf s3 q3=>?_)
  cases f with
  |next=>
   obtain⟨σ3,H3,I3,n3⟩:=q3;obtain⟨m',hm,w3⟩:=hN σ3 H3 n3;exact⟨m',hm,σ3,H3,I3,w3⟩
  |cont=>
   obtain⟨σ3,H3,I3,n3⟩:=q3;obtain⟨m',hm,w3⟩:=hN σ3 H3 n3;exact⟨m',hm,σ3,H3,I3,w3⟩
  |brk=>exact q3
  |ret v=>exact q3
 |false=>
  rw[Q0 qj];exact wpAny_execs_nil ⟨σ1,H2,I2,q2⟩
end
structure It where
 go:Nat->Hp->Prop
 yld:Nat->Hp->V->Hp->Prop
 stop:Nat->Hp->Prop
def cI(X:Cx)(pins:List (Addr×Obj))(H:Hp)(b:Addr):Prop:=
 H b=none/\b≠X.env.locals/\b∉X.fs/\(b∈X.ex\/X.s₀.heap.objs.size<=b)/\(∀x c,X.env.cells.lookup x=some c->c≠b)/\∀p∈X.pn++pins,p.1≠b
theorem Inv.fpOk{X:Cx}{pins:List (Addr×Obj)}{σ:St}{H H':Hp}{s:Shared}{b:Addr}(I:Inv X pins σ H s)(hb:s.heap.objs.size<=b)(hn:H' b=none):cI X pins H' b:=by
 refine⟨hn,Nat.ne_of_gt (qE I.lt hb),I.nofs hb,.inr (qz I.sz hb),λx c e z=>?_,λp hp z=>?_⟩
 ·obtain⟨v,q⟩:=I.cell x c e;exact Q5 (qE q.lt (by rw[z];exact hb)) (Qc _)
 ·exact Q5 (qE (qr (I.pin p hp).1) (by rw[z];exact hb)) (Qc _)
structure fU(P:Program)(w:World)(K:W.Frag)(tg:Expr)(J:It)(fp:List Addr)(it:Addr)(tn:Nat->Heap->Prop):Prop where
 mem:it∈fp
 obj:∀i h,tn i h->∀b∈fp,∃o,h.get? b=some o/\∀v,o.data≠.cell v
 keep:∀i h h',tn i h->(∀b∈fp,∀o,h.get? b=some o->h'.get? b=some o)->tn i h'
 item:∀(X:Cx),X.prog=P->X.w=w->X.K=K->X.calm=true->∀(i:Nat)(pins:List (Addr×Obj))(s:Shared)(σ:St)(H:Hp)(E:Yo),Inv X pins σ H s->(∀b∈fp,cI X pins H b)->tn i s.heap->J.go i H->
  wpAny (model P w) X.A (pyNext (.ref it)) (λr s1=>∃u,r=some u /\
   wpAny (model P w) X.A (letOwnedTupleGo tg (.ref it) u) (λ_ s2=>∃x H',Inv X pins σ H' s2/\aG x u/\J.yld i H x H'/\tn (i+1) s2.heap/\∀b∈fp,H' b=none) E s1) E s
 done:∀(X:Cx),X.prog=P->X.w=w->X.K=K->X.calm=true->∀(i:Nat)(pins:List (Addr×Obj))(s:Shared)(σ:St)(H:Hp)(E:Yo),Inv X pins σ H s->(∀b∈fp,cI X pins H b)->tn i s.heap->J.stop i H->
  wpAny (model P w) X.A (pyNext (.ref it)) (λr s1=>r=none/\Inv X pins σ H s1) E s
 self:∀(A:Around)(i:Nat)(s:Shared)(Q:Yo)(E:Yo),tn i s.heap->Q (.ref it) s->wpAny (model P w) A (pyIter (.ref it)) Q E s
abbrev TI:=St->Hp->(It->Hp->Prop)->Prop
def PIE(X:Cx)(pins:List (Addr×Obj))(σ:St)(tg:Expr)(R:It->Hp->Prop)(itv:Value)(s2:Shared):Prop:=
 ∃(it:Addr)(fp:List Addr)(tn:Nat->Heap->Prop)(J:It)(H':Hp),itv=.ref it/\Inv X pins σ H' s2/\fU X.prog X.w X.K tg J fp it tn/\tn 0 s2.heap/\(∀b∈fp,cI X pins H' b)/\R J H'
def PI(X:Cx)(tg iter:Expr)(wi:TI):Prop:=
 ∀(pins:List (Addr×Obj))(s:Shared)(σ:St)(H:Hp)(R:It->Hp->Prop),Inv X pins σ H s->wi σ H R->
  wpAny (model X.prog X.w) X.A (eval iter X.env) (λv s1=>wpAny (model X.prog X.w) X.A (pyIter v) (PIE X pins σ tg R) X.xe s1) X.xe s
theorem mr{M:Model}{A:Around}{E:Yo}{s:Shared}{tg:Expr}{it:Addr}{u:Value}{o:Obj}{n:String}{vs:Array Value}{Q:Unit->Shared->Prop}(ho:s.heap.get? it=some o)(hc:o.cls=.type n)(hd:o.data=.fields vs)
 (hn:["enumerate","zip","dict_itemiterator","dict_reverseitemiterator","odict_iterator","itertools.zip_longest","itertools.pairwise"].contains n=false) (hQ:Q () s):wpAny M A (letOwnedTupleGo tg (.ref it) u) Q E s:=by
 unfold letOwnedTupleGo
 cases tg<;>first
  |exact qe hQ
  |(cases u<;>first
   |exact qe hQ
   |(refine q9 (wpAny_load ho ?_)
     rw[hc,hd];show wpAny M A (if(["enumerate","zip","dict_itemiterator","dict_reverseitemiterator","odict_iterator","itertools.zip_longest","itertools.pairwise"].contains n && vs[0]? == some (rawInt _))=true then _ else _) Q E s;rw[Q0 (by intro h;rw[hn,Bool.false_and]at h;cases h)]
     exact qe hQ))
def Itl(K:W.Frag)(a:Addr):It:=
 ⟨λi H=>∃xs x,SqL K H a xs/\xs[i]?=some x,λi H x H'=>H'=H/\∀xs,SqL K H a xs->xs[i]?=some x,λi H=>∃xs,SqL K H a xs/\xs.length<=i⟩
def Itt(K:W.Frag)(a:Addr):It:=
 ⟨λi H=>∃xs x,SqT K H a xs/\xs[i]?=some x,λi H x H'=>H'=H/\∀xs,SqT K H a xs->xs[i]?=some x,λi H=>∃xs,SqT K H a xs/\xs.length<=i⟩
def Itr(lo:Int)(n:Nat):It:=⟨λi _=>i<n,λi H x H'=>H'=H/\x=.int (lo+i),λi _=>n<=i⟩
theorem uD{P:Program}{w:World}{K:W.Frag}{tg:Expr}(a it:Addr):fU P w K tg (Itl K a) [it] it (λi h=>h.IsListIter it a i) where
 mem:=by simp
 obj:=λi h st b hb=>by
  have e:b=it:=by simpa using hb
  subst e;obtain⟨o,e,c,d⟩:=st;exact⟨o,e,λv z=>by rw[d]at z;cases z⟩
 keep:=λi h h' st k=>st.at λo e=>k it (by simp) o e
 item:=by
  intro X hP hw hK hc i pins s σ H E I hf st hg;subst hP hw hK;obtain⟨xs,x,hq,hx⟩:=hg;obtain⟨its,rv,p,hz⟩:=I.list hq;obtain⟨u,hu,ru⟩:=rv.get hx;obtain⟨f0,f1,f2,f3,f4,f5⟩:=hf it (by simp);refine wpAny_pyNext_list_item st p.isList (x:=u) (by simpa using hu) λh' st' sb=>?_;have I1:Inv X pins σ H { s with heap:=h' }:=I.turned (t':=s.toks) (λb o hb e=>(sb.2 b hb).trans e) f0 f1 f3 f4 f5;obtain⟨o,e,c,d⟩:=id st';exact⟨u,U,mr (s:={ s with heap:=h' }) e c d Yd ⟨x,H,I1,ru,⟨U,λys hy=>by rw[I.list_inj hy hq];exact hx⟩,st',λb hb=>(hf b hb).1⟩⟩
 done:=by
  intro X hP hw hK hc i pins s σ H E I hf st hg;subst hP hw hK;obtain⟨xs,hq,hx⟩:=hg;obtain⟨its,rv,p,hz⟩:=I.list hq;obtain⟨f0,f1,f2,f3,f4,f5⟩:=hf it (by simp);have hl:=rv.length;exact wpAny_pyNext_list_end (I.ok.hd hc) st p.isList (by simp;omega) λh' eb=>⟨U,I.turned (t':=s.toks) (λb o hb e=>eb b o hb e) f0 f1 f3 f4 f5⟩
 self:=λ_ _ _ _ _ st h=>wpAny_pyIter_listiter st h
theorem uB{P:Program}{w:World}{K:W.Frag}{tg:Expr}(a it:Addr):fU P w K tg (Itt K a) [it] it (λi h=>h.IsTupleIter it a i) where
 mem:=by simp
 obj:=λi h st b hb=>by
  have e:b=it:=by simpa using hb
  subst e;obtain⟨o,e,c,d⟩:=st;exact⟨o,e,λv z=>by rw[d]at z;cases z⟩
 keep:=λi h h' st k=>st.at λo e=>k it (by simp) o e
 item:=by
  intro X hP hw hK hc i pins s σ H E I hf st hg;subst hP hw hK;obtain⟨xs,x,hq,hx⟩:=hg;obtain⟨its,rv,p,hz⟩:=I.tuple hq;obtain⟨u,hu,ru⟩:=rv.get hx;obtain⟨f0,f1,f2,f3,f4,f5⟩:=hf it (by simp);refine wpAny_pyNext_tuple_item st (show s.heap.IsTuple a its.toArray from p) (x:=u) (by simpa using hu) λh' st' sb=>?_;have I1:Inv X pins σ H { s with heap:=h' }:=I.turned (t':=s.toks) (λb o hb e=>(sb.2 b hb).trans e) f0 f1 f3 f4 f5;obtain⟨o,e,c,d⟩:=id st';exact⟨u,U,mr (s:={ s with heap:=h' }) e c d Yd ⟨x,H,I1,ru,⟨U,λys hy=>by rw[I.tuple_inj hy hq];exact hx⟩,st',λb hb=>(hf b hb).1⟩⟩
 done:=by
  intro X hP hw hK hc i pins s σ H E I hf st hg;subst hP hw hK;obtain⟨xs,hq,hx⟩:=hg;obtain⟨its,rv,p,hz⟩:=I.tuple hq;obtain⟨f0,f1,f2,f3,f4,f5⟩:=hf it (by simp);have hl:=rv.length;exact wpAny_pyNext_tuple_end (I.ok.hd hc) st (show s.heap.IsTuple a its.toArray from p) (by simp;omega) λh' eb=>⟨U,I.turned (t':=s.toks) (λb o hb e=>eb b o hb e) f0 f1 f3 f4 f5⟩
 self:=λ_ _ _ _ _ st h=>wpAny_pyIter_tupleiter st h
theorem uC{P:Program}{w:World}{K:W.Frag}{tg:Expr}(it:Addr)(lo:Int)(n:Nat):fU P w K tg (Itr lo n) [it] it (λi h=>IsRangeIter h it (lo+(i:Nat) * 1) ((n:Int)-(i:Nat)) 1) where
 mem:=by simp
 obj:=λi h st b hb=>by
  have e:b=it:=by simpa using hb
  subst e
  exact⟨_,st,λv z=>by
   have z':Data.fields _=Data.cell v:=z
   cases z'⟩
 keep:=λi h h' st k=>k it (by simp) _ st
 item:=by
  intro X hP hw hK hc i pins s σ H E I hf st hg;subst hP hw hK;obtain⟨f0,f1,f2,f3,f4,f5⟩:=hf it (by simp);have W:=Walks.range (prog:=X.prog) (w:=X.w) (I.ok.hd hc) it lo 1 n;refine W.item i s _ _ hg st λv h' tk hv st' kk=>?_;obtain⟨t,rfl⟩:=hv;have I1:Inv X pins σ H { s with heap:=h',toks:=tk }:=I.turned (λb o hb e=>kk b o (by simpa using hb) e) f0 f1 f3 f4 f5;refine⟨_,U,mr (s:={ s with heap:=h',toks:=tk }) (n:="range_iterator") st' U U Yd ⟨.int (lo+i),H,I1,⟨t,?_⟩,⟨U,U⟩,st',λb hb=>(hf b hb).1⟩⟩;rw[Int.mul_one]
 done:=by
  intro X hP hw hK hc i pins s σ H E I hf st hg;subst hP hw hK;obtain⟨f0,f1,f2,f3,f4,f5⟩:=hf it (by simp);exact wpAny_pyNext_range_end (I.ok.hd hc) st (by have:n<=i:=hg;omega) λh' eb=>⟨U,I.turned (t':=s.toks) (λb o hb e=>eb b o hb e) f0 f1 f3 f4 f5⟩
 self:=λ_ _ _ _ _ st h=>wpAny_pyIter_rangeiter st h
section
variable {X:Cx}{tg:Expr}
def A9(K:W.Frag)(tl:TE):TI:=λσ H R=>tl σ H λx H1=>∃a,x=.ref a/\(∃xs,SqL K H1 a xs)/\R (Itl K a) H1
def A8(K:W.Frag)(tl:TE):TI:=λσ H R=>tl σ H λx H1=>∃a,x=.ref a/\(∃xs,SqT K H1 a xs)/\R (Itt K a) H1
theorem bH{l:Expr}{tl:TE}(hl:PE X l tl):PI X tg l (A9 X.K tl):=by
 intro pins s σ H R I h;refine thn (hl pins s σ H _ I h) λv s1 ⟨x,H1,I1,r1,q1⟩=>?_;obtain⟨a,e,⟨xs,hq⟩,q⟩:=q1;subst e;cases r1;obtain⟨its,rv,p,hz⟩:=I1.list hq;refine wpAny_pyIter_list p.isList ?_;refine⟨s1.heap.objs.size,[s1.heap.objs.size],_,_,H1,U,I1.kept (t':=s1.toks) λb o e=>qb _ e,uD a _,⟨_,qq _ U,U,U⟩,λb hb=>?_,q⟩;have e:b=s1.heap.objs.size:=by simpa using hb
 subst e;exact I1.fpOk (qf _) (I1.hok.fresh (qf _))
theorem gu{l:Expr}{tl:TE}(hl:PE X l tl):PI X tg l (A8 X.K tl):=by
 intro pins s σ H R I h;refine thn (hl pins s σ H _ I h) λv s1 ⟨x,H1,I1,r1,q1⟩=>?_;obtain⟨a,e,⟨xs,hq⟩,q⟩:=q1;subst e;cases r1;obtain⟨its,rv,p,hz⟩:=I1.tuple hq;refine wpAny_pyIter_tuple (show s1.heap.IsTuple a its.toArray from p) ?_;refine⟨s1.heap.objs.size,[s1.heap.objs.size],_,_,H1,U,I1.kept (t':=s1.toks) λb o e=>qb _ e,uB a _,⟨_,qq _ U,U,U⟩,λb hb=>?_,q⟩;have e:b=s1.heap.objs.size:=by simpa using hb
 subst e;exact I1.fpOk (qf _) (I1.hok.fresh (qf _))
theorem wf{pins:List (Addr×Obj)}{σ:St}{H:Hp}{s:Shared}{R:It->Hp->Prop}{E:Yo}{lo hi:Int}{t u v:Tok}{tk:Nat}(I:Inv X pins σ H s)(h1:-(2 ^ 62)<=lo)(h2:lo<2 ^ 62)(h3:-(2 ^ 62)<=hi)(h4:hi<2 ^ 62)
 (q:R (Itr lo (hi-lo).toNat) H):wpAny (model X.prog X.w) X.A (pyIter (.ref s.heap.objs.size)) (PIE X pins σ tg R) E { s with heap:=s.heap.push { cls:=.type "range",data:=.fields #[.int lo t,.int hi u,.int 1 v] },toks:=tk }:=by
 refine wpAny_pyIter_range (IsRange.new ..) (small_one h1 h2 h3 h4) ?_;have I1:Inv X pins σ H { s with heap:=s.heap.push { cls:=.type "range",data:=.fields #[.int lo t,.int hi u,.int 1 v] },toks:=tk }:=I.kept λb o e=>qb _ e
 refine⟨(s.heap.push { cls:=.type "range",data:=.fields #[.int lo t,.int hi u,.int 1 v] }).objs.size,[(s.heap.push { cls:=.type "range",data:=.fields #[.int lo t,.int hi u,.int 1 v] }).objs.size],_,_,H,U,
  I1.kept (t':=tk) λb o e=>qb _ e,uC _ lo (hi-lo).toNat,?_,λb hb=>?_,q⟩
 ·have e1:lo+((0:Nat):Int) * 1=lo:=by simp
  have e2:(((hi-lo).toNat:Nat):Int)-((0:Nat):Int)=Builtin.Range.rangeSize lo hi 1:=by rw[rangeSize_one];split<;>omega
  show IsRangeIter _ _ (lo+((0:Nat):Int) * 1) ((((hi-lo).toNat:Nat):Int)-((0:Nat):Int)) 1;rw[e1,e2];exact qq _ U
 ·have e:b=(s.heap.push { cls:=.type "range",data:=.fields #[.int lo t,.int hi u,.int 1 v] }).objs.size:=by simpa using hb
  subst e;exact I1.fpOk (qf _) (I1.hok.fresh (qf _))
def mj(ta:TA):TI:=λσ H R=>ta σ H λvs H1=>∃j:Int,vs=[.int j]/\-(2 ^ 62)<=j/\j<2 ^ 62/\R (Itr 0 j.toNat) H1
theorem xb{a:Expr}{ta:TA}{p pos:Pos}(hg:Gl X "range")(hm:X.mg "range"=none)(ha:PA X [a] ta)(hs:starEach [a] X.env=[(false,eval a X.env)]:=by rfl):PI X tg (.Call (.Name "range" p) [a] [] pos) (mj ta):=by
 intro pins s σ H R I h;refine Call_ (dD I hg hm boot_range (PyProof.Rows.callWith_type1 (thn (ha pos pins s σ H _ I h) λus s1 ⟨vs,H1,I1,r1,q1⟩=>?_) hs U));obtain⟨j,e,q1,q2,q⟩:=q1;subst e
 cases r1 with
 |cons r rr=>
  cases rr;obtain⟨t,rfl⟩:=r;exact call_range_1 (wf I1 Yk Yk q1 q2 (by simpa using q))
def uW(wi:TI)(g:TG)(tb:TS):TS:=λD σ H=>wi σ H λJ H1=>∃W:Nat->Nat->St->Hp->Prop,(∃m,W 0 m σ H1)/\∀i m σ H,W i m σ H->
 (J.stop i H/\D.nx σ H)\/(J.go i H/\∃N:St->Hp->Prop,(∀σ' H',N σ' H'->∃m',m'<m/\W (i+1) m' σ' H')/\∀x H',J.yld i H x H'->g x σ H' λσ2 H2=>tb { D with nx:=N,ct:=N,bk:=D.nx } σ2 H2)
def hU(fp:List Addr)(h:Heap):List (Addr×Obj):=fp.filterMap λb=>(h.get? b).map λo=>(b,o)
theorem j3{fp:List Addr}{h:Heap}{b:Addr}{o:Obj}(hb:b∈fp)(e:h.get? b=some o):(b,o)∈hU fp h:=List.mem_filterMap.mpr ⟨b,hb,by rw[e];rfl⟩
theorem yX{fp:List Addr}{h:Heap}{p:Addr×Obj}(hp:p∈hU fp h):p.1∈fp/\h.get? p.1=some p.2:=by
 obtain⟨b,hb,e⟩:=List.mem_filterMap.mp hp
 cases q:h.get? b with
 |none=>rw[q]at e;cases e
 |some o=>
  rw[q]at e;have e':(b,o)=p:=qK e;subst e';exact⟨hb,q⟩
theorem Inv.pinned{pins:List (Addr×Obj)}{σ:St}{H:Hp}{s:Shared}{fp:List Addr}(I:Inv X pins σ H s)(hf:∀b∈fp,cI X pins H b)(ho:∀b∈fp,∃o,s.heap.get? b=some o/\∀v,o.data≠.cell v):Inv X (pins++hU fp s.heap) σ H s:=
 I.pins_of λp hp=>(qi.mp hp).elim (λz=>I.pin p (qJ _ z)) λz=>by
  obtain⟨hb,e⟩:=yX z;obtain⟨f0,f1,f2,_⟩:=hf p.1 hb;obtain⟨o,e',d⟩:=ho p.1 hb;rw[e]at e';cases e';exact⟨e,f0,f1,f2,d⟩
theorem Inv.unpinned{pins pl:List (Addr×Obj)}{σ:St}{H:Hp}{s:Shared}(I:Inv X (pins++pl) σ H s):Inv X pins σ H s:=I.pins_of λp hp=>I.pin p (qJ _ (qW _ hp))
theorem cf{iter:Expr}{body:List Stmt}{wi:TI}{g:TG}{tb:TS}{pos:Pos}(hp:PassesOwn (model X.prog X.w) X.A X.env X.xe)(hc:X.calm=true)(hi:PI X tg iter wi)(hg:PG X tg g)(hb:PSs X body tb)
 (hs:∀x,foldedSetIterable iter X.env x=pure x:=by intro _;rfl):PS X (.For tg iter body [] pos) (uW wi g tb):=by
 intro pins s σ H D I h;refine wpAny_For (thn (hi pins s σ H _ I h) λv s1 h1=>thn h1 λitv s2 h2=>?_) hs;obtain⟨it,fp,tn,J,H2,e,I2,T,st2,f2,W,⟨m0,w0⟩,turn⟩:=h2;subst e;have stat:∀{H':Hp},(∀b∈fp,H' b=none)->∀b∈fp,cI X pins H' b:=λhn b hb=>⟨hn b hb,(f2 b hb).2⟩;refine codeAny_forLoop_any (λn s'=>∃i σ' H',Inv X pins σ' H' s'/\tn i s'.heap/\(∀b∈fp,H' b=none)/\W i n σ' H') ?_ m0 ⟨0,σ,H2,I2,st2,λb hb=>(f2 b hb).1,w0⟩;rintro n s3 ⟨i,σ3,H3,I3,st3,fr3,w3⟩;rcases turn i n σ3 H3 w3 with⟨stop,qn⟩|⟨go,N,hN,step⟩
 ·refine wpAny_passesOwn hp (thn (T.done X U U U hc i pins s3 σ3 H3 X.xe I3 (stat fr3) st3 stop) λr s4 ⟨hr,I4⟩=>?_);subst hr;exact wpAny_execs_nil ⟨σ3,H3,I4,qn⟩
 ·refine wpAny_passesOwn hp (thn (T.item X U U U hc i pins s3 σ3 H3 X.xe I3 (stat fr3) st3 go) λr s4 ⟨u,hr,h4⟩=>?_);subst hr;refine wpAny_passesOwn hp (thn h4 λ_ s5 ⟨x,H5,I5,r5,y5,st5,fr5⟩=>?_);have I5':=I5.pinned (stat fr5) (T.obj _ _ st5);refine wpAny_passesOwn hp (thn (hg _ s5 σ3 H5 x u _ I5' r5 (step x H5 y5)) λ_ s6 ⟨σ6,H6,I6,q6⟩=>?_);refine wpAny_passesOwn hp (thn (hb _ s6 σ6 H6 _ I6 q6) λf s7 q7=>?_)
  have again:∀{σ7:St}{H7:Hp},Inv X (pins++hU fp s5.heap) σ7 H7 s7->N σ7 H7->∃m,m<n/\∃i σ' H',Inv X pins σ' H' s7/\tn i s7.heap/\(∀b∈fp,H' b=none)/\W i m σ' H':=λ{σ7 H7} I7 n7=>by
   obtain⟨m',hm,w7⟩:=hN σ7 H7 n7;refine⟨m',hm,i+1,σ7,H7,I7.unpinned,T.keep _ _ _ st5 λb hb o e=>(I7.pin (b,o) (qJ _ (qJ _ (j3 hb e)))).1,λb hb=>?_,w7⟩;obtain⟨o,e,d⟩:=T.obj _ _ st5 b hb;exact(I7.pin (b,o) (qJ _ (qJ _ (j3 hb e)))).2.1
  cases f with
  |next=>obtain⟨σ7,H7,I7,n7⟩:=q7;exact again I7 n7
  |cont=>obtain⟨σ7,H7,I7,n7⟩:=q7;exact again I7 n7
  |brk=>obtain⟨σ7,H7,I7,q7⟩:=q7;exact⟨σ7,H7,I7.unpinned,q7⟩
  |ret v=>obtain⟨x7,σ7,H7,I7,r7,q7⟩:=q7;exact⟨x7,σ7,H7,I7.unpinned,r7,q7⟩
end
theorem df{K:W.Frag}{a:Addr}{xs:List V}{g:TG}{tb:TS}{D:dY}{σ:St}{H:Hp}(Pv:Nat->St->Hp->Prop)(h0:Pv 0 σ H)(hl:∀i σ H,i<=xs.length->Pv i σ H->SqL K H a xs)
 (hs:∀i x σ H,xs[i]?=some x->Pv i σ H->g x σ H λσ2 H2=>tb { D with nx:=Pv (i+1),ct:=Pv (i+1),bk:=D.nx } σ2 H2) (hd:∀σ H,Pv xs.length σ H->D.nx σ H):
 ∃W:Nat->Nat->St->Hp->Prop,(∃m,W 0 m σ H)/\∀i m σ H,W i m σ H->
  ((Itl K a).stop i H/\D.nx σ H)\/((Itl K a).go i H/\∃N:St->Hp->Prop,(∀σ' H',N σ' H'->∃m',m'<m/\W (i+1) m' σ' H')/\∀x H',(Itl K a).yld i H x H'->g x σ H' λσ2 H2=>tb { D with nx:=N,ct:=N,bk:=D.nx } σ2 H2):=by
 refine⟨λi m σ H=>m=xs.length-i/\i<=xs.length/\Pv i σ H,⟨xs.length,by simp,qu _,h0⟩,?_⟩;rintro i m σ H ⟨rfl,hi,p⟩;have q:=hl i σ H hi p;by_cases hlt:i<xs.length
 ·refine .inr ⟨⟨xs,xs[i],q,by simp[hlt]⟩,Pv (i+1),λσ' H' p'=>⟨xs.length-(i+1),Yk,U,hlt,p'⟩,λx H' y=>?_⟩;obtain⟨e,y⟩:=y;subst e;exact hs i x σ _ (y xs q) p
 ·have e:i=xs.length:=by omega
  subst e;exact .inl ⟨⟨xs,q,qf _⟩,hd σ H p⟩
theorem je{K:W.Frag}{a:Addr}{xs:List V}{g:TG}{tb:TS}{D:dY}{σ:St}{H:Hp}(Pv:Nat->St->Hp->Prop)(h0:Pv 0 σ H)(hl:∀i σ H,i<=xs.length->Pv i σ H->SqT K H a xs)
 (hs:∀i x σ H,xs[i]?=some x->Pv i σ H->g x σ H λσ2 H2=>tb { D with nx:=Pv (i+1),ct:=Pv (i+1),bk:=D.nx } σ2 H2) (hd:∀σ H,Pv xs.length σ H->D.nx σ H):
 ∃W:Nat->Nat->St->Hp->Prop,(∃m,W 0 m σ H)/\∀i m σ H,W i m σ H->
  ((Itt K a).stop i H/\D.nx σ H)\/((Itt K a).go i H/\∃N:St->Hp->Prop,(∀σ' H',N σ' H'->∃m',m'<m/\W (i+1) m' σ' H')/\∀x H',(Itt K a).yld i H x H'->g x σ H' λσ2 H2=>tb { D with nx:=N,ct:=N,bk:=D.nx } σ2 H2):=by
 refine⟨λi m σ H=>m=xs.length-i/\i<=xs.length/\Pv i σ H,⟨xs.length,by simp,qu _,h0⟩,?_⟩;rintro i m σ H ⟨rfl,hi,p⟩;have q:=hl i σ H hi p;by_cases hlt:i<xs.length
 ·refine .inr ⟨⟨xs,xs[i],q,by simp[hlt]⟩,Pv (i+1),λσ' H' p'=>⟨xs.length-(i+1),Yk,U,hlt,p'⟩,λx H' y=>?_⟩;obtain⟨e,y⟩:=y;subst e;exact hs i x σ _ (y xs q) p
 ·have e:i=xs.length:=by omega
  subst e;exact .inl ⟨⟨xs,q,qf _⟩,hd σ H p⟩
theorem tz{lo:Int}{n:Nat}{g:TG}{tb:TS}{D:dY}{σ:St}{H:Hp}(Pv:Nat->St->Hp->Prop)(h0:Pv 0 σ H)
 (hs:∀i σ H,i<n->Pv i σ H->g (.int (lo+i)) σ H λσ2 H2=>tb { D with nx:=Pv (i+1),ct:=Pv (i+1),bk:=D.nx } σ2 H2) (hd:∀σ H,Pv n σ H->D.nx σ H):
 ∃W:Nat->Nat->St->Hp->Prop,(∃m,W 0 m σ H)/\∀i m σ H,W i m σ H->
  ((Itr lo n).stop i H/\D.nx σ H)\/((Itr lo n).go i H/\∃N:St->Hp->Prop,(∀σ' H',N σ' H'->∃m',m'<m/\W (i+1) m' σ' H')/\∀x H',(Itr lo n).yld i H x H'->g x σ H' λσ2 H2=>tb { D with nx:=N,ct:=N,bk:=D.nx } σ2 H2):=by
 refine⟨λi m σ H=>m=n-i/\i<=n/\Pv i σ H,⟨n,by simp,qu _,h0⟩,?_⟩;rintro i m σ H ⟨rfl,hi,p⟩;by_cases hlt:i<n
 ·refine .inr ⟨hlt,Pv (i+1),λσ' H' p'=>⟨n-(i+1),Yk,U,hlt,p'⟩,λx H' y=>?_⟩;obtain⟨e,y⟩:=y;subst e y;exact hs i σ _ hlt p
 ·have e:i=n:=by omega
  subst e;exact .inl ⟨qf _,hd σ H p⟩
abbrev R2:=V->V->Hp->VK->Prop
def OpR(X:Cx)(f:Value->Value->Sem Value)(r:R2):Prop:=
 ∀(pins:List (Addr×Obj))(s:Shared)(σ:St)(H:Hp)(x y:V)(v u:Value)(Q:VK),Inv X pins σ H s->aG x v->aG y u->r x y H Q->
  wpAny (model X.prog X.w) X.A (f v u) (EP X pins σ Q) X.xe s
def UnR(X:Cx)(f:Value->Sem Value)(r:V->Hp->VK->Prop):Prop:=
 ∀(pins:List (Addr×Obj))(s:Shared)(σ:St)(H:Hp)(x:V)(v:Value)(Q:VK),Inv X pins σ H s->aG x v->r x H Q->
  wpAny (model X.prog X.w) X.A (f v) (EP X pins σ Q) X.xe s
def cr(X:Cx)(f:Value)(r:List V->Hp->VK->Prop):Prop:=
 ∀(pins:List (Addr×Obj))(s:Shared)(σ:St)(H:Hp)(xs:List V)(us:List Value)(Q:VK),Inv X pins σ H s->ax xs us->r xs H Q->
  wpAny (model X.prog X.w) X.A (call f us) (EP X pins σ Q) X.xe s
def TruR(X:Cx)(r:V->Hp->(Bool->Hp->Prop)->Prop):Prop:=
 ∀(pins:List (Addr×Obj))(s:Shared)(σ:St)(H:Hp)(x:V)(v:Value)(Q:Bool->Hp->Prop),Inv X pins σ H s->aG x v->r x H Q->
  wpAny (model X.prog X.w) X.A (truthy v) (TP X pins σ Q) X.xe s
def tOp(r:R2)(ta tb:TE):TE:=λσ H Q=>ta σ H λx H1=>tb σ H1 λy H2=>r x y H2 Q
def tUn(r:V->Hp->VK->Prop)(ta:TE):TE:=λσ H Q=>ta σ H λx H1=>r x H1 Q
def rI(C:Int->Int->Prop)(g:Int->Int->V):R2:=λx y H Q=>∃i j,x=.int i/\y=.int j/\C i j/\Q (g i j) H
def rI0(g:Int->Int->V):R2:=λx y H Q=>∃i j,x=.int i/\y=.int j/\Q (g i j) H
def rU(g:Int->V):V->Hp->VK->Prop:=λx H Q=>∃i,x=.int i/\Q (g i) H
section
variable {X:Cx}{a b c:Expr}{ta tb tc:TE}{pos:Pos}
theorem mI(ha:PE X a ta)(hb:PE X b tb){pins:List (Addr×Obj)}{s:Shared}{σ:St}{H:Hp}{R:V->V->Hp->Prop}(I:Inv X pins σ H s)
 (h:ta σ H λx H1=>tb σ H1 λy H2=>R x y H2) {Q:Yo}{f:Value->Value->Sem Value}
 (hf:∀v u s2 x y H2,Inv X pins σ H2 s2->aG x v->aG y u->R x y H2->wpAny (model X.prog X.w) X.A (f v u) Q X.xe s2):
 wpAny (model X.prog X.w) X.A (eval a X.env) (λv s₁=>wpAny (model X.prog X.w) X.A (eval b X.env) (λu s₂=>wpAny (model X.prog X.w) X.A (f v u) Q X.xe s₂) X.xe s₁) X.xe s:=by
 refine thn (ha pins s σ H _ I h) λv s1 ⟨x,H1,I1,r1,q1⟩=>?_;refine thn (hb pins s1 σ H1 _ I1 q1) λu s2 ⟨y,H2,I2,r2,q2⟩=>?_;exact hf v u s2 x y H2 I2 r1 r2 q2
theorem ai{op:Operator}{r:R2}(ho:OpR X (binaryOp op) r)(ha:PE X a ta)(hb:PE X b tb):PE X (.BinOp a op b pos) (tOp r ta tb):=by
 intro pins s σ H Q I h;exact wpAny_BinOp (mI ha hb I h λv u s2 x y H2 I2 rx ry q=>ho pins s2 σ H2 x y v u Q I2 rx ry q)
theorem iV{op:UnaryOp}{r:V->Hp->VK->Prop}(ho:UnR X (unaryOp op) r)(ha:PE X a ta):PE X (.UnaryOp op a pos) (tUn r ta):=by
 intro pins s σ H Q I h;exact UnaryOp_ (thn (ha pins s σ H _ I h) λv s1 ⟨x,H1,I1,r1,q1⟩=>ho pins s1 σ H1 x v Q I1 r1 q1)
theorem opI{f:Value->Value->Sem Value}{C:Int->Int->Prop}{g:Int->Int->Int}
 (rule:∀(i j:Int)(t u:Tok)(s:Shared)(Q:Yo)(E:Yo),C i j->Q (.int (g i j) s.toks) { s with toks:=s.toks+1 }->wpAny (model X.prog X.w) X.A (f (.int i t) (.int j u)) Q E s):
 OpR X f (rI C λi j=>.int (g i j)):=by
 intro pins s σ H x y v u Q I rx ry h;obtain⟨i,j,rfl,rfl,hc,q⟩:=h;obtain⟨t,rfl⟩:=rx;obtain⟨t',rfl⟩:=ry;exact rule i j t t' s _ _ hc ⟨.int (g i j),H,I.tok _,⟨_,U⟩,q⟩
theorem i4{f:Value->Value->Sem Value}{g:Int->Int->Int}
 (rule:∀(i j:Int)(t u:Tok)(s:Shared)(Q:Yo)(E:Yo),Q (.int (g i j) s.toks) { s with toks:=s.toks+1 }->wpAny (model X.prog X.w) X.A (f (.int i t) (.int j u)) Q E s):
 OpR X f (rI0 λi j=>.int (g i j)):=by
 intro pins s σ H x y v u Q I rx ry h;obtain⟨i,j,rfl,rfl,q⟩:=h;obtain⟨t,rfl⟩:=rx;obtain⟨t',rfl⟩:=ry;exact rule i j t t' s _ _ ⟨.int (g i j),H,I.tok _,⟨_,U⟩,q⟩
theorem iY{f:Value->Value->Sem Value}{g:Int->Int->Bool}
 (rule:∀(i j:Int)(t u:Tok)(s:Shared)(Q:Yo)(E:Yo),Q (.bool (g i j)) s->wpAny (model X.prog X.w) X.A (f (.int i t) (.int j u)) Q E s):
 OpR X f (rI0 λi j=>.bl (g i j)):=by
 intro pins s σ H x y v u Q I rx ry h;obtain⟨i,j,rfl,rfl,q⟩:=h;obtain⟨t,rfl⟩:=rx;obtain⟨t',rfl⟩:=ry;exact rule i j t t' s _ _ ⟨.bl (g i j),H,I,U,q⟩
def Bi(i j:Int):Prop:=0<j/\j<1073741824
def Bh(i j:Int):Prop:=0<=j/\j<=1000000/\i.natAbs<2 ^ 64
theorem xS:OpR X (binaryOp .Add) (rI0 λi j=>.int (i+j)):=i4 λ_ _ _ _ _ _ _ q=>add_int q
theorem xA:OpR X (binaryOp .Sub) (rI0 λi j=>.int (i-j)):=i4 λ_ _ _ _ _ _ _ q=>sub_int q
theorem xN:OpR X (binaryOp .FloorDiv) (rI Bi λi j=>.int (i / j)):=opI λi j _ _ _ _ _ hc q=>by
 have h1:(0:Int)<j:=hc.1;have h2:j<1073741824:=hc.2;exact floordiv_int Yk (by rw[Int.fdiv_eq_ediv_of_nonneg i Yk];exact q) (.inl (PyProof.noPylong_small Yk))
theorem xG:OpR X (binaryOp .Mod) (rI (λ_ j=>0<j) λi j=>.int (i % j)):=opI λi j _ _ _ _ _ hc q=>by
 have h1:(0:Int)<j:=hc;exact mod_int' Yk (by rw[Int.fmod_eq_emod_of_nonneg i Yk];exact q)
theorem xB:OpR X (binaryOp .Pow) (rI Bh λi j=>.int (i ^ j.toNat)):=opI λ_ _ _ _ _ _ _ hc q=>pow_int_small hc.1 hc.2.1 hc.2.2 q
theorem xR:OpR X (binaryOp .BitAnd) (rI0 λi j=>.int (Builtin.bitAnd i j)):=i4 λ_ _ _ _ _ _ _ q=>and_int q
theorem xC:OpR X (binaryOp .BitOr) (rI0 λi j=>.int (Builtin.bitOr i j)):=i4 λ_ _ _ _ _ _ _ q=>or_int q
theorem xy:OpR X (binaryOp .BitXor) (rI0 λi j=>.int (Builtin.bitXor i j)):=i4 λ_ _ _ _ _ _ _ q=>xor_int q
theorem unI{f:Value->Sem Value}{g:Int->Int}
 (rule:∀(i:Int)(t:Tok)(s:Shared)(Q:Yo)(E:Yo),Q (.int (g i) s.toks) { s with toks:=s.toks+1 }->wpAny (model X.prog X.w) X.A (f (.int i t)) Q E s):
 UnR X f (rU λi=>.int (g i)):=by
 intro pins s σ H x v Q I rx h;obtain⟨i,rfl,q⟩:=h;obtain⟨t,rfl⟩:=rx;exact rule i t s _ _ ⟨.int (g i),H,I.tok _,⟨_,U⟩,q⟩
theorem iu:UnR X (unaryOp .USub) (rU λi=>.int (-i)):=unI λ_ _ _ _ _ q=>neg_int q
end
def iD:V->V->Bool
 |.non,.non=>true|.non,.int _=>true|.int _,.non=>true|.non,.bl _=>true|.bl _,.non=>true|.non,.str _=>true|.str _,.non=>true
 |.int _,.int _=>true|.bl _,.bl _=>true|.str _,.str _=>true|.byt _,.byt _=>true
 |.int _,.str _=>true|.str _,.int _=>true|.bl _,.str _=>true|.str _,.bl _=>true
 |_,_=>false
def rEq:R2:=λx y H Q=>iD x y=true/\Q (.bl (decide (x=y))) H
def rNe:R2:=λx y H Q=>iD x y=true/\Q (.bl (!decide (x=y))) H
theorem tM{i j:Int}:decide (V.int i=V.int j)=(i == j):=by
 rw[Bool.eq_iff_iff];simp
theorem tO{i j:Bool}:decide (V.bl i=V.bl j)=(i == j):=by
 rw[Bool.eq_iff_iff];simp
theorem tL{i j:Str}:decide (V.str i=V.str j)=(i == j):=by
 rw[Bool.eq_iff_iff];simp
theorem tN{i j:Array UInt8}:decide (V.byt i=V.byt j)=(i.toList == j.toList):=by
 rw[Bool.eq_iff_iff];cases i;cases j;simp
section
variable {X:Cx}{a b c:Expr}{ta tb tc:TE}{pos:Pos}
theorem bu{pins:List (Addr×Obj)}{σ:St}{H:Hp}{s:Shared}{Q:VK}{k k':Bool}(I:Inv X pins σ H s)(q:Q (.bl k) H)(e:k=k'):EP X pins σ Q (.bool k') s:=by
 subst e;exact⟨.bl k,H,I,U,q⟩
theorem xP:OpR X (compareOp .Eq) rEq:=by
 intro pins s σ H x y v u Q I rx ry h;obtain⟨hs,q⟩:=h
 cases x with
 |non=>
  cases rx
  cases y with
  |non=>cases ry;exact PySem.EqNone.eq_none_none (bu I q (by simp))
  |bl j=>cases ry;exact PySem.EqNone.eq_none_bool (bu I q (by simp))
  |int j=>obtain⟨t',rfl⟩:=ry;exact PySem.EqNone.eq_none_int (bu I q (by simp))
  |str j=>obtain⟨t',rfl⟩:=ry;exact PySem.EqNone.eq_none_str (bu I q (by simp))
  |_=>exact Q5 (show false=true from hs) qj
 |bl i=>
  cases rx
  cases y with
  |non=>cases ry;exact PySem.EqNone.eq_bool_none (bu I q (by simp))
  |bl j=>cases ry;exact eq_bool (bu I q tO)
  |str j=>obtain⟨t',rfl⟩:=ry;exact PySem.EqMixed.eq_bool_str (bu I q (by simp))
  |_=>exact Q5 (show false=true from hs) qj
 |int i=>
  obtain⟨t,rfl⟩:=rx
  cases y with
  |non=>cases ry;exact PySem.EqNone.eq_int_none (bu I q (by simp))
  |int j=>obtain⟨t',rfl⟩:=ry;exact eq_int (bu I q tM)
  |str j=>obtain⟨t',rfl⟩:=ry;exact PySem.EqMixed.eq_int_str (bu I q (by simp))
  |_=>exact Q5 (show false=true from hs) qj
 |str i=>
  obtain⟨t,rfl⟩:=rx
  cases y with
  |non=>cases ry;exact PySem.EqNone.eq_str_none (bu I q (by simp))
  |bl j=>cases ry;exact PySem.EqMixed.eq_str_bool (bu I q (by simp))
  |int j=>obtain⟨t',rfl⟩:=ry;exact PySem.EqMixed.eq_str_int (bu I q (by simp))
  |str j=>obtain⟨t',rfl⟩:=ry;exact eq_str (bu I q tL)
  |_=>exact Q5 (show false=true from hs) qj
 |byt i=>
  obtain⟨t,rfl⟩:=rx
  cases y with
  |byt j=>obtain⟨t',rfl⟩:=ry;exact PySem.W.eq_bytes (bu I q tN)
  |_=>exact Q5 (show false=true from hs) qj
 |_=>cases y<;>exact Q5 (show false=true from hs) qj
theorem xE:OpR X (compareOp .NotEq) rNe:=by
 intro pins s σ H x y v u Q I rx ry h;obtain⟨hs,q⟩:=h
 cases x with
 |non=>
  cases rx
  cases y with
  |non=>cases ry;exact PySem.EqNone.ne_none_none (bu I q (by simp))
  |bl j=>cases ry;exact PySem.EqNone.ne_none_bool (bu I q (by simp))
  |int j=>obtain⟨t',rfl⟩:=ry;exact PySem.EqNone.ne_none_int (bu I q (by simp))
  |str j=>obtain⟨t',rfl⟩:=ry;exact PySem.EqNone.ne_none_str (bu I q (by simp))
  |_=>exact Q5 (show false=true from hs) qj
 |bl i=>
  cases rx
  cases y with
  |non=>cases ry;exact PySem.EqNone.ne_bool_none (bu I q (by simp))
  |bl j=>cases ry;exact ne_bool (bu I q (congrArg not tO))
  |str j=>obtain⟨t',rfl⟩:=ry;exact PySem.EqMixed.ne_bool_str (bu I q (by simp))
  |_=>exact Q5 (show false=true from hs) qj
 |int i=>
  obtain⟨t,rfl⟩:=rx
  cases y with
  |non=>cases ry;exact PySem.EqNone.ne_int_none (bu I q (by simp))
  |int j=>obtain⟨t',rfl⟩:=ry;exact ne_int (bu I q (congrArg not tM))
  |str j=>obtain⟨t',rfl⟩:=ry;exact PySem.EqMixed.ne_int_str (bu I q (by simp))
  |_=>exact Q5 (show false=true from hs) qj
 |str i=>
  obtain⟨t,rfl⟩:=rx
  cases y with
  |non=>cases ry;exact PySem.EqNone.ne_str_none (bu I q (by simp))
  |bl j=>cases ry;exact PySem.EqMixed.ne_str_bool (bu I q (by simp))
  |int j=>obtain⟨t',rfl⟩:=ry;exact PySem.EqMixed.ne_str_int (bu I q (by simp))
  |str j=>obtain⟨t',rfl⟩:=ry;exact ne_str (bu I q (congrArg not tL))
  |_=>exact Q5 (show false=true from hs) qj
 |byt i=>
  obtain⟨t,rfl⟩:=rx
  cases y with
  |byt j=>obtain⟨t',rfl⟩:=ry;exact PySem.W.ne_bytes (bu I q (congrArg not tN))
  |_=>exact Q5 (show false=true from hs) qj
 |_=>cases y<;>exact Q5 (show false=true from hs) qj
theorem xH:OpR X (compareOp .Lt) (rI0 λi j=>.bl (decide (i<j))):=iY λ_ _ _ _ _ _ _ q=>lt_int q
theorem xI:OpR X (compareOp .LtE) (rI0 λi j=>.bl (decide (i<=j))):=iY λ_ _ _ _ _ _ _ q=>le_int q
theorem xL:OpR X (compareOp .Gt) (rI0 λi j=>.bl (decide (j<i))):=iY λ_ _ _ _ _ _ _ q=>gt_int q
theorem xM:OpR X (compareOp .GtE) (rI0 λi j=>.bl (decide (j<=i))):=iY λ_ _ _ _ _ _ _ q=>ge_int q
theorem xJ:OpR X (compareOp .Is) (λx y H Q=>y=.non/\Q (.bl (decide (x=.non))) H):=by
 intro pins s σ H x y v u Q I rx ry h;obtain⟨rfl,q⟩:=h;cases ry;refine is_none_gen (bu I q ?_)
 cases x<;>first
  |(cases rx;rfl)
  |(obtain⟨t,rfl⟩:=rx;rfl)
theorem xD:OpR X (compareOp .IsNot) (λx y H Q=>y=.non/\Q (.bl (!decide (x=.non))) H):=by
 intro pins s σ H x y v u Q I rx ry h;obtain⟨rfl,q⟩:=h;cases ry;refine isnot_none_gen (bu I q ?_)
 cases x<;>first
  |(cases rx;rfl)
  |(obtain⟨t,rfl⟩:=rx;rfl)
theorem ao(b:Expr){op:CmpOp}(h:op≠.In:=by decide)(h2:op≠.NotIn:=by decide):behindInMarks op b=false:=by
 have e1:(op == CmpOp.In)=false:=by cases op<;>first|rfl|exact Q5 U h
 have e2:(op == CmpOp.NotIn)=false:=by cases op<;>first|rfl|exact Q5 U h2
 cases b<;>simp[behindInMarks,e1,e2]
theorem gw{op:CmpOp}{r:R2}(ho:OpR X (compareOp op) r)(ha:PE X a ta)(hb:PE X b tb)(hm:behindInMarks op b=false):PE X (.Compare a [op] [b] pos) (tOp r ta tb):=by
 intro pins s σ H Q I h;exact wpAny_Compare1 (mI ha hb I h λv u s2 x y H2 I2 rx ry q=>ho pins s2 σ H2 x y v u Q I2 rx ry q) hm
def ix(t:TE):TT:=λσ H Q=>t σ H λx H'=>∃k,x=.bl k/\Q k H'
theorem wR{op:CmpOp}{r:R2}(ho:OpR X (compareOp op) r)(ha:PE X a ta)(hb:PE X b tb)(hm:behindInMarks op b=false):PT X (.Compare a [op] [b] pos) (ix (tOp r ta tb)):=by
 intro pins s σ H Q I h
 refine wpAny_isTrue_Compare1 (thn (ha pins s σ H _ I h) λv s1 ⟨x,H1,I1,r1,q1⟩=>thn (hb pins s1 σ H1 _ I1 q1) λu s2 ⟨y,H2,I2,r2,q2⟩=>
  thn (ho pins s2 σ H2 x y v u _ I2 r1 r2 q2) λc s3 ⟨z,H3,I3,r3,k,e,q3⟩=>?_) hm
 subst e;cases r3;exact wpAny_truthy_bool ⟨H3,I3,q3⟩
def vc(r r':R2)(ta tb tc:TE):TE:=λσ H Q=>ta σ H λx H1=>tb σ H1 λy H2=>r x y H2 λz H3=>∃k,z=.bl k /\
 (if k=true then tc σ H3 λw' H4=>r' y w' H4 Q else Q (.bl false) H3)
theorem rA{op op':CmpOp}{r r':R2}(ho:OpR X (compareOp op) r)(ho':OpR X (compareOp op') r')(ha:PE X a ta)(hb:PE X b tb)(hc:PE X c tc)
 (hm:lastMarks [op,op'] [b,c]=false:=by with_unfolding_all rfl):PT X (.Compare a [op,op'] [b,c] pos) (ix (vc r r' ta tb tc)):=by
 intro pins s σ H Q I h
 refine isTrue_chain (thn (ha pins s σ H _ I h) λv s1 ⟨x,H1,I1,r1,q1⟩=>test_link (thn (hb pins s1 σ H1 _ I1 q1) λu s2 ⟨y,H2,I2,r2,q2⟩=>
  thn (ho pins s2 σ H2 x y v u _ I2 r1 r2 q2) λd s3 ⟨z,H3,I3,r3,k,e,q3⟩=>?_)) hm
 subst e;cases r3;refine wpAny_truthy_bool ?_
 cases k with
 |false=>
  obtain⟨k',e',q'⟩:=q3;cases e';exact ite_ff ⟨H3,I3,q'⟩
 |true=>
  refine ite_tt (test_last (thn (hc pins s3 σ H3 _ I3 q3) λw' s4 ⟨z',H4,I4,r4,q4⟩=>thn (ho' pins s4 σ H4 y z' u w' _ I4 r2 r4 q4) λd' s5 ⟨z2,H5,I5,r5,k2,e2,q5⟩=>?_));subst e2;cases r5;exact wpAny_truthy_bool ⟨H5,I5,q5⟩
theorem i9:(sizeLine:Nat)<2 ^ 63:=by rw[sizeLine_eq];decide
theorem ff{x:V}{us:List Value}(r:ax [x] us):∃u,us=[u]/\aG x u:=by
 cases r with
 |cons r1 r2=>cases r2;exact⟨_,U,r1⟩
theorem iq{x y:V}{us:List Value}(r:ax [x,y] us):∃u w',us=[u,w']/\aG x u/\aG y w':=by
 cases r with
 |cons r1 r2=>
  cases r2 with
  |cons r3 r4=>cases r4;exact⟨_,_,U,r1,r3⟩
theorem AQ(hc:X.calm=true):cr X (.builtin "min") (λxs H Q=>∃i j,xs=[.int i,.int j]/\Q (.int (if j<i then j else i)) H):=by
 intro pins s σ H xs us Q I r h;obtain⟨i,j,rfl,q⟩:=h;obtain⟨u,w',rfl,⟨t,rfl⟩,⟨t',rfl⟩⟩:=iq r;refine min_two_ints (I.ok.hd hc) λh' tk k=>⟨_,H,I.kept k,?_,q⟩;by_cases hj:j<i
 ·rw[Q1 hj,Q1 hj];exact⟨_,U⟩
 ·rw[Q0 hj,Q0 hj];exact⟨_,U⟩
end
structure fV(h:Heap)(x dx C:Addr)(mA:Str->Option Value):Prop where
 obj:h.get? x=some (PySem.W.instObj C dx)
 ns:h.Ns1 dx mA
 ne:dx≠x
theorem zB{h:Heap}{dx:Addr}{mA:Str->Option Value}(n:h.Ns1 dx mA):∃od,h.get? dx=some od/\∀name,PySem.W.lookIn name od=some (mA name):=by
 obtain⟨o,es,ep,ho,hd,hk,_,hm⟩:=n;refine⟨o,ho,λname=>?_⟩;have e:=hm name;unfold nsFind findBy at e;rw[<- Array.find?_toList]at e;unfold PySem.W.lookIn;rw[hd];dsimp only;split
 ·rename_i y q;rw[q]at e;exact congrArg some e
 ·rename_i q;rw[q]at e
  have a:es.toList.any (·.refKey)=false:=by
   rw[List.any_eq_false];intro y hy;obtain⟨z,t,hkey⟩:=hk y (Array.mem_toList_iff.mp hy);simp[DictEntry.refKey,hkey]
  have a':¬ es.toList.any (·.refKey)=true:=by rw[a];exact qj
  rw[Q0 a'];exact congrArg some e
theorem fV.look{h:Heap}{x dx C:Addr}{mA:Str->Option Value}(I:fV h x dx C mA):∃od,PySem.W.InstAt h x (PySem.W.instObj C dx) C (some od)/\∀name,PySem.W.lookIn name od=some (mA name):=
 let ⟨od,ho,hl⟩:=zB I.ns
 ⟨od,⟨I.obj,U,U,ho⟩,hl⟩
section
variable {prog:Program}{w:World}{A:Around}{E:Yo}{s:Shared}{K:W.Frag}{x dx C f:Addr}{mA:Str->Option Value}{name:Str}{v:Value}
theorem Aj{expr:Bool}{Q:Yo}(X:K.In s.heap)(I:fV s.heap x dx C mA)(hg:PySem.W.plainGet K C name=true)(hh:PySem.W.hasDictIn K C=true)
 (ha:PySem.W.findIn K (.ref C) name=some none) (hv:mA name=some v) (hv':PySem.W.handedIn v=true) (h:Q v { s with toks:=s.toks+1 }):
 wpAny (model prog w) A (getAttr (.ref x) name expr) Q E s:=by
 obtain⟨od,J,hl⟩:=I.look;exact PySem.W.get_value X J (PySem.W.plainGet_of hg).1 (PySem.W.findObj_own hh ha U (by rw[hl,hv])) hv' h
theorem Ai{pl:Sem Bool}{Q:Value×List Value->Shared->Prop}(X:K.In s.heap)(I:fV s.heap x dx C mA)(hg:PySem.W.plainGet K C name=true)
 (hf:PySem.W.findIn K (.ref C) name=some (some (.ref f))) (ht:PySem.W.isFn K (.ref f)=true) (hv:mA name=none) (h:Q (.ref f,[.ref x]) s):
 wpAny (model prog w) A (getMethod (.ref x) name pl) Q E s:=by
 obtain⟨od,J,hl⟩:=I.look;exact PySem.W.method_fn X J (PySem.W.plainGet_of hg).1 (PySem.W.plainGet_of hg).2 hf (beq_iff_eq.mp ht) (by show(PySem.W.lookIn name od).map (·.isSome)=some false;rw[hl,hv];rfl) h
theorem vp{ns:List Str}{Q:Unit->Shared->Prop}(X:K.In s.heap)(I:fV s.heap x dx C mA)
 (hs:PySem.W.findIn K (.ref C) "__setattr__"=some (some (.builtin "object.__setattr__"))) (hp:PySem.W.plainOver K C=true) (ht:PySem.W.takerIn K C name=some none) (hh:PySem.W.hasDictIn K C=true)
 (hw:PySem.Within mA ns) (hsz:ns.length<=sizeLine)
 (h:∀h',fV h' x dx C (λy=>if y=name then some v else mA y)->Heap.SameBut dx s.heap h'->Q () { s with heap:=h',toks:=s.toks+2 }):
 wpAny (model prog w) A (setAttr (.ref x) name v) Q E s:=by
 obtain⟨od,J,hl⟩:=I.look;refine PySem.W.set_plain X J hs (PySem.W.osa_open (s:={ s with toks:=s.toks+1 }) (r:=none) X J hp ht λb=>?_);obtain⟨cd,hc,hd'⟩:=PySem.W.any_some hh;have hx:s.heap.get? x=some ⟨.ref C,some dx,.plain,#[]⟩:=I.obj;refine q9 (qe (q9 (q9 (wpAny_loadPart hx (q9 (PySem.W.Looks.here (s:={ s with toks:=s.toks+1 }) (PySem.W.looks_clsIn X hc) ?_))))));rw[hd'];refine qe (a:=some dx) (q9 (qe (q9 ?_)));refine wpAny_nsSet1 (s:={ s with toks:=s.toks+1 }) I.ns λh' hn2 hs2=>?_;obtain⟨oD,esD,epD,hoD,hdD,hcD⟩:=hn2.count (PySem.Within.cons name v hw);refine q9 (wpAny_lookBehind hoD (by rw[hdD];exact pastItsLine_dict (qz hcD (by rw[qC];omega))) ?_);exact qe (h _ ⟨(hs2.2 _ (Ne.symm I.ne)).trans I.obj,hn2,I.ne⟩ hs2)
theorem zv{R:Result->Shared->Prop}{vs:List Value}{kw:List (Str×Value)}(X:K.In s.heap)(hm:PySem.W.makesIn K C=true)
 (hi:PySem.W.findIn K (.ref C) "__init__"=some (some (.ref f))) (hf:PySem.W.typeIn K (.ref f)=some (.type "function"))
 (h:codeAny (model prog w) (A.under (.builtin "type.__call__" ⟨.ref C::vs,kw⟩)) (.call (.ref f) ⟨.ref (s.heap.objs.size+1)::vs,kw⟩) (PySem.W.InitBack (s.heap.objs.size+1) R)
  { s with heap:=(s.heap.push PySem.W.emptyDict).push (PySem.W.instObj C s.heap.objs.size) }):
 codeAny (model prog w) A (.call (.ref C) ⟨vs,kw⟩) R s:=by
 obtain⟨hh,g,d,t,os⟩:=s;exact PySem.W.make_core (PySem.W.makes_of X hm) (PySem.W.looks_findIn X hi) (λself=>PySem.W.bind_fn X self hf) (.inl U) h
end
def bz(f:Str)(v:V):List (Str×V)->List (Str×V)
 |[]=>[(f,v)]
 |(g,x)::r=>if g=f then(g,v)::r else(g,x)::bz f v r
theorem sq(f g:Str)(v:V):∀fs:List (Str×V),(bz f v fs).lookup g=if g=f then some v else fs.lookup g
 |[]=>by
  show List.lookup g [(f,v)]=_;by_cases h:g=f
  ·have hb:(g == f)=true:=beq_iff_eq.mpr h;simp only[List.lookup,hb,Q1 h]
  ·have hb:(g == f)=false:=beq_eq_false_iff_ne.mpr h;simp only[List.lookup,hb,Q0 h]
 |(k,x)::r=>by
  have ih:=sq f g v r;rw[show bz f v ((k,x)::r)=(if k=f then(k,v)::r else(k,x)::bz f v r)from rfl];by_cases hk:k=f
  ·rw[Q1 hk];by_cases h:g=k
   ·have hb:(g == k)=true:=beq_iff_eq.mpr h;simp only[List.lookup,hb,Q1 (h.trans hk)]
   ·have hb:(g == k)=false:=beq_eq_false_iff_ne.mpr h;simp only[List.lookup,hb,Q0 (λe:g=f=>h (e.trans hk.symm))]
  ·rw[Q0 hk];by_cases h:g=k
   ·have hb:(g == k)=true:=beq_iff_eq.mpr h;simp only[List.lookup,hb,Q0 (λe:g=f=>hk (h.symm.trans e))]
   ·have hb:(g == k)=false:=beq_eq_false_iff_ne.mpr h;simp only[List.lookup,hb];exact ih
theorem m6(f:Str)(v:V):∀fs:List (Str×V),f∈(bz f v fs).map (·.1)/\∀g,g∈fs.map (·.1)->g∈(bz f v fs).map (·.1)
 |[]=>⟨by simp[bz],λg h=>by simp at h⟩
 |(k,x)::r=>by
  obtain⟨i1,i2⟩:=m6 f v r;rw[show bz f v ((k,x)::r)=(if k=f then(k,v)::r else(k,x)::bz f v r)from rfl];by_cases hk:k=f
  ·rw[Q1 hk];subst hk;exact⟨by simp,λg h=>by simpa using h⟩
  ·rw[Q0 hk];refine⟨?_,λg h=>?_⟩
   ·rw[qS];exact qm _ i1
   ·rw[qS]at h ⊢;rcases qv.mp h with e|e
    ·exact qv.mpr (.inl e)
    ·exact qm _ (i2 g e)
theorem sv(f:Str)(v:V):∀fs:List (Str×V),(bz f v fs).length<=fs.length+1
 |[]=>by simp[bz]
 |(k,x)::r=>by
  have ih:=sv f v r;rw[show bz f v ((k,x)::r)=(if k=f then(k,v)::r else(k,x)::bz f v r)from rfl];by_cases hk:k=f
  ·rw[Q1 hk,qC,qC];omega
  ·rw[Q0 hk,qC,qC];omega
theorem ck.some_of{v:V}{o:Option Value}(r:ck (some v) o):∃u,o=some u/\aG v u:=by
 cases o with
 |none=>exact(show False from r).elim
 |some u=>exact⟨u,U,r⟩
theorem ck.none_of{o:Option Value}(r:ck none o):o=none:=by
 cases o with
 |none=>rfl
 |some u=>exact(show False from r).elim
theorem Ad{v:V}{u:Value}(r:aG v u):PySem.W.handedIn u=true:=by
 cases v with
 |non=>cases(show u=Value.none from r);rfl
 |bl b=>cases(show u=Value.bool b from r);rfl
 |int i=>obtain⟨t,e⟩:=(show ∃t,u=Value.int i t from r);cases e;rfl
 |str x=>obtain⟨t,e⟩:=(show ∃t,u=Value.str x t from r);cases e;rfl
 |byt b=>obtain⟨t,e⟩:=(show ∃t,u=Value.bytes b t from r);cases e;rfl
 |flt b=>obtain⟨t,e⟩:=(show ∃t,u=Value.float b t from r);cases e;rfl
 |ref a=>cases(show u=Value.ref a from r);rfl
 |ty n=>cases(show u=Value.type n from r);rfl
section
variable {P:Program}{w:World}{H H':Hp}{h h':Heap}{a C dx:Addr}{fs fs':List (Str×V)}
theorem j7(hok:HOk P w H h)(e:H a=some (.ins C dx fs)):∃mA,fV h a dx C mA/\(∀f,ck (fs.lookup f) (mA f))/\PySem.Within mA (fs.map (·.1))/\fs.length<=1000/\H dx=some (.own a):=by
 obtain⟨d,z,ne,ob,mA,n,r,q⟩:=(show bF P w H h a (.ins C dx fs)from hok a _ e);exact⟨mA,⟨ob,n,ne⟩,r,q,z,d⟩
end
structure Cls(K:W.Frag)(C:Addr):Prop where
 pg:PySem.W.plainGet K C Str.empty=true
 hd:PySem.W.hasDictIn K C=true
 po:PySem.W.plainOver K C=true
 sa:PySem.W.findIn K (.ref C) "__setattr__"=some (some (.builtin "object.__setattr__"))
theorem Cls.get{K:W.Frag}{C:Addr}(c:Cls K C)(f:Str):PySem.W.plainGet K C f=true:=c.pg
def bd(K:W.Frag)(C:Addr)(f:Str):Prop:=PySem.W.findIn K (.ref C) f=some none
theorem bd.taker{K:W.Frag}{C:Addr}{f:Str}(n:bd K C f):PySem.W.takerIn K C f=some none:=by
 unfold PySem.W.takerIn;rw[show PySem.W.findIn K (.ref C) f=some none from n]
 rfl
structure aS(K:W.Frag)(C:Addr)(m:Str)(f:Addr):Prop where
 at_:PySem.W.findIn K (.ref C) m=some (some (.ref f))
 fn:PySem.W.isFn K (.ref f)=true
 kp:PySem.W.keepIn K (.ref f)=true
section
variable {X:Cx}{pins:List (Addr×Obj)}{σ:St}{H:Hp}{s:Shared}{a C dx:Addr}{fs:List (Str×V)}{f:Str}{v:V}{A:Around}{E:Yo}
theorem Ah{b:Bool}{Q:Yo}(I:Inv X pins σ H s)(e:H a=some (.ins C dx fs))(c:Cls X.K C)(n:bd X.K C f)(l:fs.lookup f=some v)
 (h:∀u s',Inv X pins σ H s'->aG v u->Q u s'):wpAny (model X.prog X.w) A (getAttr (.ref a) f b) Q E s:=by
 obtain⟨mA,O,r,_,_,_⟩:=j7 I.hok e;obtain⟨u,hu,ru⟩:=ck.some_of (v:=v) (o:=mA f) (by rw[<- l];exact r f);exact Aj I.kIn O (c.get f) c.hd n hu (Ad ru) (h u _ (I.tok _) ru)
theorem jd{m:Str}{g:Addr}{pl:Sem Bool}{Q:Value×List Value->Shared->Prop}(I:Inv X pins σ H s)(e:H a=some (.ins C dx fs))(c:Cls X.K C)(k:aS X.K C m g)(l:fs.lookup m=none)
 (h:Q (.ref g,[.ref a]) s):wpAny (model X.prog X.w) A (getMethod (.ref a) m pl) Q E s:=by
 obtain⟨mA,O,r,_,_,_⟩:=j7 I.hok e;have hn:mA m=none:=ck.none_of (by rw[<- l];exact r m);exact Ai I.kIn O (c.get m) k.at_ k.fn hn h
theorem vo{y:V}{u:Value}{Q:Unit->Shared->Prop}(I:Inv X pins σ H s)(e:H a=some (.ins C dx fs))(c:Cls X.K C)(n:bd X.K C f)(hl:fs.length<1000)(ry:aG y u)
 (h:∀s',Inv X pins σ (upd H a (.ins C dx (bz f y fs))) s'->Q () s'):wpAny (model X.prog X.w) A (setAttr (.ref a) f u) Q E s:=by
 obtain⟨mA,O,r,wi,_,ho⟩:=j7 I.hok e;have hz:(fs.map (·.1)).length<=sizeLine:=by rw[qa,sizeLine_eq];omega
 refine vp I.kIn O c.sa c.po n.taker c.hd wi hz λh' O' sb=>h _ ?_;have hd:∃o,h'.get? dx=some o:=let ⟨o,_,_,e',_⟩:=O'.ns;⟨o,e'⟩;refine I.write (x:=a) (e:=dx) (by rw[e];exact True.intro) (.inr ho) (λb q hb z=>(sb.2 b hb).trans z) hd ?_;refine⟨by rw[aj O.ne];exact ho,?_,O.ne,O'.obj,_,O'.ns,λg=>?_,λg hg=>?_⟩
 ·have:=sv f y fs;omega
 ·show ck ((bz f y fs).lookup g) (if g=f then some u else mA g);rw[sq];by_cases q:g=f
  ·rw[Q1 q,Q1 q];exact ry
  ·rw[Q0 q,Q0 q];exact r g
 ·by_cases q:g=f
  ·rw[q];exact(m6 f y fs).1
  ·refine(m6 f y fs).2 g (wi g λz=>hg ?_);show(if g=f then some u else mA g)=none;rw[Q0 q];exact z
theorem Inv.made(I:Inv X pins σ H s):Inv X pins σ (upd (upd H s.heap.objs.size (.own (s.heap.objs.size+1))) (s.heap.objs.size+1) (.ins C s.heap.objs.size []))
 { s with heap:=(s.heap.push PySem.W.emptyDict).push (PySem.W.instObj C s.heap.objs.size) }:=by
 have e1:(s.heap.push PySem.W.emptyDict).get? s.heap.objs.size=some PySem.W.emptyDict:=qq s.heap U
 have e2:((s.heap.push PySem.W.emptyDict).push (PySem.W.instObj C s.heap.objs.size)).get? (s.heap.objs.size+1)=some (PySem.W.instObj C s.heap.objs.size):=by
  have:=qq (s.heap.push PySem.W.emptyDict) (o:=PySem.W.instObj C s.heap.objs.size) U
  rwa [Qg]at this
 have e3:(s.heap.push PySem.W.emptyDict).Ns s.heap.objs.size (λ_=>none):=⟨PySem.W.emptyDict,#[],_,e1,U,(λe he=>Q5 he (by simp)),λ_=>U⟩;have I1:=I.laid (a:=s.heap.objs.size) (o:=.own (s.heap.objs.size+1)) (h':=s.heap.push PySem.W.emptyDict) (t':=s.toks) (λb u q=>qb _ q) (qf _) ⟨_,e1⟩;refine I1.laid (a:=s.heap.objs.size+1) (o:=.ins C s.heap.objs.size []) (t':=s.toks) (λb u q=>qb _ q) (Nat.le_of_eq (Qg _ _)) ?_;have ne:s.heap.objs.size≠s.heap.objs.size+1:=qH (Qb _);refine⟨by rw[aj ne,af],qu _,ne,e2,λ_=>none,(Heap.Ns1.of_empty e3).at λo q=>qb _ q,λ_=>True.intro,λy hy=>Q5 U hy⟩
theorem AY{prog:Program}{w:World}{env:Env}{e:Expr}{f:Str}{pos:Pos}{s:Shared}{Q:Yo}(hb:attributeBase e f env (eval e env)=eval e env)
 (h:wpAny (model prog w) A (eval e env) (λo s₁=>wpAny (model prog w) A (getAttr o f true) Q E s₁) E s):wpAny (model prog w) A (eval (.Attribute e f pos) env) Q E s:=
 Attribute_any_ h (by rw[arm_eval_Attribute,hb])
end
def iA(K:W.Frag)(ta:TE)(f:Str):TE:=λσ H Q=>ta σ H λx H1=>∃a C dx fs v,x=.ref a/\H1 a=some (.ins C dx fs)/\Cls K C/\bd K C f/\fs.lookup f=some v/\Q v H1
def wa(K:W.Frag)(ta tv:TE)(f:Str):TS:=λD σ H=>tv σ H λy H1=>ta σ H1 λx H2=>∃a C dx fs,x=.ref a/\H2 a=some (.ins C dx fs)/\Cls K C/\bd K C f/\fs.length<1000 /\
 D.nx σ (upd H2 a (.ins C dx (bz f y fs)))
section
variable {X:Cx}{o e value:Expr}{f:Str}{pos pos' tpos:Pos}{ta tv:TE}
theorem rF(he:PE X e ta)(hb:attributeBase e f X.env (eval e X.env)=eval e X.env):PE X (.Attribute e f pos) (iA X.K ta f):=by
 intro pins s σ H Q I h;refine AY hb (thn (he pins s σ H _ I h) λu s1 ⟨x,H1,I1,rx,a,C,dx,fs,v,ex,ea,c,n,l,q⟩=>?_);subst ex;obtain rfl:u=Value.ref a:=rx;exact Ah I1 ea c n l λu' s2 I2 ru=>⟨v,H1,I2,ru,q⟩
theorem bA(ha:PE X o ta)(hv:PE X value tv)(hs:swapsWith value (some (.Attribute o f pos')) pos.line X.env=pure false):PS X (.Assign [.Attribute o f pos'] value pos) (wa X.K ta tv f):=by
 intro pins s σ H D I h;refine plainObj_wpAny_Assign_Attribute (thn (hv pins s σ H _ I h) λu s1 ⟨y,H1,I1,ry,q⟩=>thn (ha pins s1 σ H1 _ I1 q) λov s2 ⟨x,H2,I2,rx,a,C,dx,fs,ex,ea,c,n,l,q2⟩=>?_) hs;subst ex;obtain rfl:ov=Value.ref a:=rx;exact vo I2 ea c n l ry λs3 I3=>⟨σ,_,I3,q2⟩
theorem Bk{pl:Sem Bool}{m:Str}{apos:Pos}{args:List Expr}{pins:List (Addr×Obj)}{s:Shared}{σ:St}{H:Hp}{Q:Yo}{te:TE}(he:PE X e te)(I:Inv X pins σ H s)
 (h:te σ H λx H1=>∃a C dx fs g,x=.ref a/\H1 a=some (.ins C dx fs)/\Cls X.K C/\aS X.K C m g/\fs.lookup m=none /\
  ∀s1,Inv X pins σ H1 s1->wpAny (model X.prog X.w) X.A (callWith pos (.ref g) [.ref a] (backTo pos (starEach args X.env)) (backToKw pos (keywordEach [] X.env))) Q X.xe s1)
 (ht:eval (.Call (.Attribute e m apos) args [] pos) X.env=(do
  let ov <- eval e X.env
  standAt apos.atName
  let (f,first) <- holding [ov] (getMethod ov m pl)
  callWith pos f first (backTo pos (starEach args X.env)) (backToKw pos (keywordEach [] X.env)))):
 wpAny (model X.prog X.w) X.A (eval (.Call (.Attribute e m apos) args [] pos) X.env) Q X.xe s:=by
 refine PySem.W.methodCall_KW (pl:=pl) (thn (he pins s σ H _ I h) λu s1 ⟨x,H1,I1,rx,a,C,dx,fs,g,ex,ea,c,k,l,q⟩=>?_) ht;subst ex;obtain rfl:u=Value.ref a:=rx;exact jd I1 ea c k l (q s1 I1)
end
section
variable {X:Cx}{pins:List (Addr×Obj)}{σ:St}{H:Hp}{s:Shared}{A:Around}{E:Yo}{Q:Yo}{c:Value}{b:Bool}
inductive d5(K:W.Frag)(H:Hp):V->Value->Prop where
 |non:d5 K H .non (.type "NoneType")
 |bl (x:Bool):d5 K H (.bl x) (.type "bool")
 |int (i:Int):d5 K H (.int i) (.type "int")
 |str (x:Str):d5 K H (.str x) (.type "str")
 |flt (x:UInt64):d5 K H (.flt x) (.type "float")
 |lst {a:Addr}{xs:List V}(e:H a=some (.lst xs)):d5 K H (.ref a) (.type "list")
 |frz {a:Addr}{o:Obj}{xs:List V}(e:H a=some (.frz o (.lst xs))):d5 K H (.ref a) (.type "list")
 |tup {a:Addr}{xs:List V}(e:H a=some (.tup xs)):d5 K H (.ref a) (.type "tuple")
 |dK {a:Addr}{kvs:List (Key×V)}(e:H a=some (.dK kvs)):d5 K H (.ref a) (.type "dict")
 |dT {a:Addr}{kvs:List (List Key×V)}(e:H a=some (.dT kvs)):d5 K H (.ref a) (.type "dict")
 |ins {a C dx:Addr}{fs:List (Str×V)}(e:H a=some (.ins C dx fs)) (cl:Cls K C) (ha:PySem.W.findIn K (.ref C) "__class__"=some (some (.builtin "object.__class__")))
  (hn:PySem.W.specialIn K (.builtin "object.__class__") "__get__"=some (some (.builtin "getset_descriptor.__get__"))) (htk:PySem.W.takesIn K (.builtin "object.__class__")=some true)
  (hm:PySem.W.mroIn K C (.type "object")=some true):d5 K H (.ref a) (.ref C)
theorem A2{x:V}{u t:Value}(I:Inv X pins σ H s)(rx:aG x u)(ty:d5 X.K H x t)(e:PySem.W.kitOne X.K t c=some b)(h:∀tk,Q (.bool b) { s with toks:=tk }):
 wpAny (model X.prog X.w) A (call (.builtin "isinstance") [u,c]) Q E s:=by
 cases ty with
 |non=>cases(show u=Value.none from rx);exact Qx PySem.W.kitx_none I.kIn True.intro e (λz=>nomatch z) h
 |bl y=>cases(show u=Value.bool y from rx);exact Qx PySem.W.kitx_bool I.kIn True.intro e (λz=>nomatch z) h
 |int i=>obtain⟨t,q⟩:=(show ∃t,u=Value.int i t from rx);cases q;exact Qx PySem.W.kitx_int I.kIn True.intro e (λz=>nomatch z) h
 |str y=>obtain⟨t,q⟩:=(show ∃t,u=Value.str y t from rx);cases q;exact Qx PySem.W.kitx_str I.kIn True.intro e (λz=>nomatch z) h
 |flt y=>obtain⟨t,q⟩:=(show ∃t,u=Value.float y t from rx);cases q;exact Qx PySem.W.kitx_float I.kIn True.intro e (λz=>nomatch z) h
 |@lst a xs ea=>
  cases(show u=Value.ref a from rx);obtain⟨_,_,n,_,h1⟩:=(show bF X.prog X.w H s.heap a (.lst xs)from I.hok a _ ea);exact Qx PySem.W.kitx_list I.kIn ⟨_,h1,U⟩ e (λz=>nomatch z) h
 |@frz a ob xs ea=>
  cases(show u=Value.ref a from rx);obtain⟨_,_,_,n,_,h1⟩:=(show bF X.prog X.w H s.heap a (.frz ob (.lst xs))from I.hok a _ ea);exact Qx PySem.W.kitx_list I.kIn ⟨_,h1,U⟩ e (λz=>nomatch z) h
 |@tup a xs ea=>
  cases(show u=Value.ref a from rx);obtain⟨_,_,_,p⟩:=(show bF X.prog X.w H s.heap a (.tup xs)from I.hok a _ ea);obtain⟨o,h1,h2,_⟩:=p;exact Qx PySem.W.kitx_tuple I.kIn ⟨o,h1,h2⟩ e (λz=>nomatch z) h
 |@dK a kvs ea=>
  cases(show u=Value.ref a from rx);obtain⟨_,_,vs,_,p⟩:=(show bF X.prog X.w H s.heap a (.dK kvs)from I.hok a _ ea);obtain⟨o,es,ep,h1,h2,_⟩:=p;exact Qx PySem.W.kitx_dict I.kIn ⟨o,h1,h2.1⟩ e (λz=>nomatch z) h
 |@dT a kvs ea=>
  cases(show u=Value.ref a from rx);obtain⟨_,_,xs,_,o,es,ep,h1,h2,_⟩:=(show bF X.prog X.w H s.heap a (.dT kvs)from I.hok a _ ea);exact Qx PySem.W.kitx_dict I.kIn ⟨o,h1,h2.1⟩ e (λz=>nomatch z) h
 |@ins a C dx fs ea cl ha hn htk hm=>
  cases(show u=Value.ref a from rx);obtain⟨mA,O,_⟩:=j7 I.hok ea;obtain⟨od,J,_⟩:=O.look;exact Qx (PySem.W.kitx_own (cl.get _) cl.hd ha hn htk hm) I.kIn J e (λz=>nomatch z) h
end
structure bC(k:Nat)(A:Around):Prop where
 hd:A.handled=none
 dp:A.depth+3 * k+5<recursionLimit
 un:A.units+16 * k+200<cLine
 gd:A.guards=some []
theorem bC.mono{j k:Nat}{A:Around}(r:bC k A)(h:j<=k):bC j A:=⟨r.hd,by have:=r.dp;omega,by have:=r.un;omega,r.gd⟩
theorem bC.deeper{k:Nat}{A:Around}(r:bC (k+1) A)(env:Env):bC k (A.deeper env):=
 ⟨r.hd,by have:=r.dp;show A.depth+1+3 * k+5<_;omega,by have:=r.un;show A.units+3+16 * k+200<_;omega,r.gd⟩
theorem zx{A:Around}{C:Addr}{us:List Value}{kw:List (Str×Value)}:(A.under (.builtin "type.__call__" ⟨.ref C::us,kw⟩)).depth=A.depth+1:=by
 first|rfl|simp[Around.under,Code.weight,Code.isCreation,Code.isGuard,Code.isCaller,Code.frames,Code.isFrame,guardIds]
theorem zu{A:Around}{C:Addr}{us:List Value}{kw:List (Str×Value)}:(A.under (.builtin "type.__call__" ⟨.ref C::us,kw⟩)).units=A.units+1:=by
 first|rfl|simp[Around.under,Code.cUnits,Code.frames,Code.isFrame]
theorem zw{A:Around}{C:Addr}{us:List Value}{kw:List (Str×Value)}:(A.under (.builtin "type.__call__" ⟨.ref C::us,kw⟩)).guards=A.guards:=by
 first|rfl|simp[Around.under,Code.guards,Code.isGuard,guardIds,Around.pushGuards]
theorem bC.make{k:Nat}{A:Around}(r:bC (k+1) A)(C:Addr)(us:List Value)(kw:List (Str×Value)):bC k (A.under (.builtin "type.__call__" ⟨.ref C::us,kw⟩)):=
 ⟨r.hd,by have:=r.dp;rw[zx];omega,by have:=r.un;rw[zu];omega,by rw[zw];exact r.gd⟩
theorem bC.depth{k:Nat}{A:Around}(r:bC k A):A.depth<recursionLimit:=by have:=r.dp;omega
theorem bC.units{k:Nat}{A:Around}(r:bC k A):A.units+64<cLine:=by have:=r.un;omega
def jy:TA:=λ_ H Q=>Q [] H
def va(ta:TE)(tr:TA):TA:=λσ H Q=>ta σ H λx H1=>tr σ H1 λxs H2=>Q (x::xs) H2
section
variable {X:Cx}{e:Expr}{es:List Expr}{te:TE}{t:TA}{pos:Pos}
theorem ac:PA X [] jy:=λ_ _ _ _ H Q I h=>Calls.spliced_nil ⟨[],H,I,.nil,h⟩
theorem a8(ha:PE X e te)(hr:PA X es t)(hs:starEach (e::es) X.env=(false,eval e X.env)::starEach es X.env:=by rfl):PA X (e::es) (va te t):=by
 intro pos pins s σ H Q I h;rw[hs];show wpAny _ _ (spliced ((false,eval e X.env)::backTo pos (starEach es X.env))) _ _ s;refine Calls.spliced_cons (thn (ha pins s σ H _ I h) λu s1 ⟨x,H1,I1,r1,q1⟩=>?_);exact thn (hr pos pins s1 σ H1 _ I1 q1) λus s2 ⟨xs,H2,I2,r2,q2⟩=>⟨x::xs,H2,I2,.cons r1 r2,q2⟩
def jw(t:TA):TE:=λσ H Q=>t σ H λxs H1=>xs.length<=sizeLine/\∀p,H1 p=none->Q (.ref p) (upd H1 p (.tup xs))
def jA(t:TA):TE:=λσ H Q=>t σ H λxs H1=>xs.length<=sizeLine/\∀p,H1 p=none->Q (.ref p) (upd H1 p (.lst xs))
theorem xf{x1}(h:PA X es t):PE X (.Tuple es x1 pos) (jw t):=by
 intro pins s σ H Q I hq;refine wpAny_Tuple_spliced (thn (h pos pins s σ H _ I hq) λus s1 ⟨xs,H1,I1,r,z,q⟩=>⟨by rw[<- r.length];exact z,?_⟩);have hf:H1 s1.heap.objs.size=none:=I1.hok.fresh (qf _);refine⟨.ref s1.heap.objs.size,upd H1 s1.heap.objs.size (.tup xs),I1.laid (t':=s1.toks) (λb u e=>qb _ e) (qf _) ?_,U,q _ hf⟩;exact⟨z,us,r,⟨_,qq _ U,U,_,U⟩⟩
theorem xj(h:PA X es t):PE X (.List es pos) (jA t):=by
 intro pins s σ H Q I hq;refine wpAny_List_spliced (thn (h pos pins s σ H _ I hq) λus s1 ⟨xs,H1,I1,r,z,q⟩=>⟨by rw[<- r.length];exact z,?_⟩);have hf:H1 s1.heap.objs.size=none:=I1.hok.fresh (qf _);refine⟨.ref s1.heap.objs.size,upd H1 s1.heap.objs.size (.lst xs),I1.laid (t':=s1.toks) (λb u e=>qb _ e) (qf _) ?_,U,q _ hf⟩;exact⟨z,us,0,r,qq _ U⟩
end
abbrev Sp:=List V->Hp->VK->XK->Prop
abbrev CXT:=List Env->Hp->Shared->XK->Value->Shared->Prop
structure fX(P:Program)(w:World)(K:W.Frag)(mg:Str->Option Value)(base:Heap)(A:Around)(outer:List Env)(s:Shared)(H:Hp):Prop where
 frames:A.frames=some outer
 mod:Mod K mg base
 bs:∀b o,base.get? b=some o->s.heap.get? b=some o/\H b=none
 bsz:base.objs.size<=s.heap.objs.size
 funs:s.heap.FunFrames base outer
 frf:∀b∈frs outer,H b=none
 hok:HOk P w H s.heap
 bare:AllBare s.gens
def CE(outer:List Env)(P:Program)(w:World)(H:Hp)(s:Shared)(Q:VK)(u:Value)(s':Shared):Prop:=
 ∃v H',s'.os=s.os/\AllBare s'.gens/\Un (frs outer) [] H H' s.heap s'.heap/\HOk P w H' s'.heap/\aG v u/\Q v H'
def CR(CX:CXT)(outer:List Env)(P:Program)(w:World)(H:Hp)(s:Shared)(Q:VK)(E:XK)(r:Result)(s':Shared):Prop:=
 match r with
 |.ok (.ret u)=>CE outer P w H s Q u s'
 |.ok _=>False
 |.error e=>CX outer H s E e s'
structure aA(P:Program)(w:World)(K:W.Frag)(mg:Str->Option Value)(base:Heap)(CX:CXT)(k:Nat)(f:Addr)(fd:FuncData)(ps:List Str)(sp:Sp):Prop where
 len:∀vs H Q E,sp vs H Q E->vs.length=ps.length
 run:∀(A:Around)(outer:List Env)(s:Shared)(H:Hp)(args:Args)(us:List Value)(vs:List V)(Q:VK)(E:XK),bC k A->fX P w K mg base A outer s H->BindsTo s fd args (ps.zip us)->ax vs us->sp vs H Q E->
  codeAny (model P w) A (.call (.ref f) args) (CR CX outer P w H s Q E) s
theorem fX.make{P:Program}{w:World}{K:W.Frag}{mg:Str->Option Value}{base:Heap}{A:Around}{outer:List Env}{s:Shared}{H:Hp}(e:fX P w K mg base A outer s H)(C:Addr)(us:List Value)(kw:List (Str×Value)):
 fX P w K mg base (A.under (.builtin "type.__call__" ⟨.ref C::us,kw⟩)) outer s H:=⟨by first|exact e.frames|(simpa[Around.under,Code.envs,Code.isFrame,pushEnvs]using e.frames),e.mod,e.bs,e.bsz,e.funs,e.frf,e.hok,e.bare⟩
section
variable {X:Cx}{pins:List (Addr×Obj)}{σ:St}{H:Hp}{s s':Shared}
theorem Inv.env0(I:Inv X pins σ H s):fX X.prog X.w X.K X.mg X.base X.A X.stack s H:=
 ⟨I.ok.frames,I.ok.mod,I.bs,qz I.ok.bsz I.sz,I.stack,I.stkFree,I.hok,I.bare⟩
theorem Inv.after{Q:VK}{u:Value}(I:Inv X pins σ H s)(h:CE X.stack X.prog X.w H s Q u s'):EP X pins σ Q u s':=by
 obtain⟨v,H',os,bare,un,hok,r,q⟩:=h;obtain⟨hh,g,d,t,os'⟩:=s';obtain rfl:os'=s.os:=os;exact⟨v,H',I.call (h':=hh) (g':=g) (d':=d) (t':=t) (ch:=[]) un hok bare (λb z=>Q5 z (by simp)),r,q⟩
end
def nG(sp:Sp)(dvs:List V)(E:XK)(t:TA):TE:=λσ H Q=>t σ H λvs H1=>sp (vs++dvs) H1 Q E
def nE(C:Addr)(m:Str)(sp:Sp)(dvs:List V)(E:XK)(ta:TE)(t:TA):TE:=λσ H Q=>ta σ H λx H1=>∃a dx fs,x=.ref a/\H1 a=some (.ins C dx fs)/\fs.lookup m=none /\
 t σ H1 λvs H2=>sp (x::(vs++dvs)) H2 Q E
def uS(C:Addr)(sp:Sp)(dvs:List V)(E:XK)(t:TA):TE:=λσ H Q=>t σ H λvs H1=>∀x dx,H1 x=none->H1 dx=none->dx≠x->
 sp (.ref x::(vs++dvs)) (upd (upd H1 dx (.own x)) x (.ins C dx [])) (λv H2=>v=.non/\Q (.ref x) H2) E
def aC(K:W.Frag)(fd:FuncData)(ps:List Str)(ds:List Value):Prop:=
 ∀(s:Shared)(us:List Value),K.In s.heap->(us++ds).length=ps.length->BindsTo s fd ⟨us,[]⟩ (ps.zip (us++ds))
theorem aC.all{K:W.Frag}{fd:FuncData}{ps:List Str}(h:∀us:List Value,us.length=ps.length->bindArgs fd ⟨us,[]⟩=pure (ps.zip us)):aC K fd ps []:=λs us _ hl=>by
 rw[qy]at hl ⊢;exact .of_eq (h us hl)
def fb(CX:CXT)(X:Cx)(E:XK):Prop:=∀(pins:List (Addr×Obj))(σ:St)(H:Hp)(s:Shared)(e:Value)(s':Shared),Inv X pins σ H s->CX X.stack H s E e s'->X.xe e s'
section
variable {X:Cx}{CX:CXT}{k:Nat}{f C:Addr}{fd:FuncData}{ps:List Str}{sp:Sp}{dvs:List V}{ds:List Value}{E:XK}{x m:Str}{p pos apos:Pos}{e o:Expr}{es:List Expr}{ta:TE}{t:TA}
theorem gZ{pins:List (Addr×Obj)}{σ:St}{H:Hp}{s:Shared}{Q:VK}{us:List Value}{vs:List V}(F:aA X.prog X.w X.K X.mg X.base CX k f fd ps sp)(hr:bC k X.A)(hb:aC X.K fd ps ds)(hd:ax dvs ds)(hx:fb CX X E)
 (I:Inv X pins σ H s) (r:ax vs us) (h:sp (vs++dvs) H Q E):wpAny (model X.prog X.w) X.A (call (.ref f) us) (EP X pins σ Q) X.xe s:=by
 have r2:ax (vs++dvs) (us++ds):=r.append hd;have hl:(us++ds).length=ps.length:=by rw[<- r2.length];exact F.len _ _ _ _ h
 refine wpAny_call (codeAny_mono (F.run X.A X.stack s H ⟨us,[]⟩ (us++ds) (vs++dvs) Q E hr I.env0 (hb s us I.kIn hl) r2 h) λr s' hq=>?_)
 cases r with
 |error e=>exact hx pins σ H s e s' I hq
 |ok fl=>
  cases fl with
  |ret u=>exact I.after hq
  |next=>exact False.elim hq
  |brk=>exact False.elim hq
  |cont=>exact False.elim hq
theorem aQ(F:aA X.prog X.w X.K X.mg X.base CX k f fd ps sp)(hr:bC k X.A)(hg:Gl X x)(hm:X.mg x=some (.ref f))(hk:PySem.W.keepIn X.K (.ref f)=true)(hb:aC X.K fd ps ds)(hd:ax dvs ds)(hx:fb CX X E)
 (ha:PA X (e::es) t) (hdb:(x == ("__debug__":Str))=false:=by decide) (he:starEach (e::es) X.env=(false,eval e X.env)::starEach es X.env:=by rfl) (hpl:(backTo pos (starEach es X.env)).any (·.1)=false:=by rfl):
 PE X (.Call (.Name x p) (e::es) [] pos) (nG sp dvs E t):=by
 intro pins s σ H Q I h;refine wpAny_Call_Name_kw (j4 I hg hm ?_ hdb);refine PySem.W.callWith_K (h₀:=X.base) I.ok.mod.kin hk (thn (ha pos pins s σ H _ I h) λus s1 ⟨vs,H1,I1,r,q⟩=>⟨I1.kIn,?_⟩) he hpl;exact gZ F hr hb hd hx I1 r q
theorem dw{pl:Sem Bool}(he:PE X o ta)(c:Cls X.K C)(hm:aS X.K C m f)(F:aA X.prog X.w X.K X.mg X.base CX k f fd ps sp)(hr:bC k X.A)(hb:aC X.K fd ps ds)(hd:ax dvs ds)(hx:fb CX X E)(ha:PA X (e::es) t)
 (hst:starEach (e::es) X.env=(false,eval e X.env)::starEach es X.env:=by rfl) (hpl:(backTo pos (starEach es X.env)).any (·.1)=false:=by rfl)
 (ht:eval (.Call (.Attribute o m apos) (e::es) [] pos) X.env=(do
  let ov <- eval o X.env
  standAt apos.atName
  let (f,first) <- holding [ov] (getMethod ov m pl)
  callWith pos f first (backTo pos (starEach (e::es) X.env)) (backToKw pos (keywordEach [] X.env))):=by rfl):
 PE X (.Call (.Attribute o m apos) (e::es) [] pos) (nE C m sp dvs E ta t):=by
 intro pins s σ H Q I h;refine PySem.W.methodCall_KW (pl:=pl) (thn (he pins s σ H _ I h) λu s1 ⟨x,H1,I1,rx,a,dx,fs,ex,ea,l,q⟩=>?_) ht;subst ex;obtain rfl:u=Value.ref a:=rx;refine jd I1 ea c hm l ?_;refine PySem.W.callWith_K (first:=[.ref a]) (h₀:=X.base) I.ok.mod.kin hm.kp (thn (ha pos pins s1 σ H1 _ I1 q) λus s2 ⟨vs,H2,I2,r,q2⟩=>⟨I2.kIn,?_⟩) hst hpl;exact gZ (us:=.ref a::us) (vs:=.ref a::vs) F hr hb hd hx I2 (.cons U r) q2
theorem fH{pl:Sem Bool}(he:PE X o ta)(c:Cls X.K C)(hm:aS X.K C m f)(F:aA X.prog X.w X.K X.mg X.base CX k f fd ps sp)(hr:bC k X.A)(hb:aC X.K fd ps ds)(hd:ax dvs ds)(hx:fb CX X E)
 (ht:eval (.Call (.Attribute o m apos) [] [] pos) X.env=(do
  let ov <- eval o X.env
  standAt apos.atName
  let (f,first) <- holding [ov] (getMethod ov m pl)
  callWith pos f first (backTo pos (starEach [] X.env)) (backToKw pos (keywordEach [] X.env))):=by rfl):
 PE X (.Call (.Attribute o m apos) [] [] pos) (nE C m sp dvs E ta jy):=by
 intro pins s σ H Q I h;refine PySem.W.methodCall_KW (pl:=pl) (thn (he pins s σ H _ I h) λu s1 ⟨x,H1,I1,rx,a,dx,fs,ex,ea,l,q⟩=>?_) ht;subst ex;obtain rfl:u=Value.ref a:=rx;refine jd I1 ea c hm l ?_;exact PySem.W.callWith_K0 (first:=[.ref a]) I1.kIn hm.kp (gZ (us:=[.ref a]) (vs:=[.ref a]) F hr hb hd hx I1 (.cons U .nil) q)
structure Mk(K:W.Frag)(C f:Addr):Prop where
 makes:PySem.W.makesIn K C=true
 init:PySem.W.findIn K (.ref C) "__init__"=some (some (.ref f))
 fn:PySem.W.isFn K (.ref f)=true
 kp:PySem.W.keepIn K (.ref C)=true
theorem wb{pins:List (Addr×Obj)}{σ:St}{H:Hp}{s:Shared}{Q:VK}{us:List Value}{vs:List V}(M:Mk X.K C f)(F:aA X.prog X.w X.K X.mg X.base CX k f fd ps sp)(hr:bC (k+1) X.A)(hb:aC X.K fd ps ds)(hd:ax dvs ds)
 (hx:fb CX X E) (I:Inv X pins σ H s) (r:ax vs us)
 (h:∀x dx,H x=none->H dx=none->dx≠x->sp (.ref x::(vs++dvs)) (upd (upd H dx (.own x)) x (.ins C dx [])) (λv H2=>v=.non/\Q (.ref x) H2) E):
 wpAny (model X.prog X.w) X.A (call (.ref C) us) (EP X pins σ Q) X.xe s:=by
 have hq:=h (s.heap.objs.size+1) s.heap.objs.size (I.hok.fresh (Nat.le_succ _)) (I.hok.fresh (qf _)) (qH (Qb _));have I2:=Inv.made (C:=C) I;have r2:ax (V.ref (s.heap.objs.size+1)::(vs++dvs)) (Value.ref (s.heap.objs.size+1)::(us++ds)):=.cons U (r.append hd)
 have hl:(Value.ref (s.heap.objs.size+1)::us++ds).length=ps.length:=by
  have e:=r2.length;rw[F.len _ _ _ _ hq]at e;exact e.symm
 refine wpAny_call (zv (f:=f) I.kIn M.makes M.init (beq_iff_eq.mp M.fn) (codeAny_mono (F.run _ X.stack _ _ ⟨Value.ref (s.heap.objs.size+1)::us,[]⟩ (Value.ref (s.heap.objs.size+1)::(us++ds)) _ _ E (hr.make C us [])
  (I2.env0.make C us []) (hb _ (Value.ref (s.heap.objs.size+1)::us) I2.kIn hl) r2 hq) λr s' hq'=>?_))
 cases r with
 |error e=>exact hx pins σ _ _ e s' I2 hq'
 |ok fl=>
  cases fl with
  |ret u=>
   obtain⟨v,H',I3,rv,ev,q3⟩:=I2.after hq';subst ev;exact⟨rv,⟨V.ref (s.heap.objs.size+1),H',I3,U,q3⟩⟩
  |next=>exact False.elim hq'
  |brk=>exact False.elim hq'
  |cont=>exact False.elim hq'
theorem fI(M:Mk X.K C f)(F:aA X.prog X.w X.K X.mg X.base CX k f fd ps sp)(hr:bC (k+1) X.A)(hg:Gl X x)(hm:X.mg x=some (.ref C))(hb:aC X.K fd ps ds)(hd:ax dvs ds)(hx:fb CX X E)
 (ha:PA X (e::es) t) (hdb:(x == ("__debug__":Str))=false:=by decide) (he:starEach (e::es) X.env=(false,eval e X.env)::starEach es X.env:=by rfl) (hpl:(backTo pos (starEach es X.env)).any (·.1)=false:=by rfl):
 PE X (.Call (.Name x p) (e::es) [] pos) (uS C sp dvs E t):=by
 intro pins s σ H Q I h;refine wpAny_Call_Name_kw (j4 I hg hm ?_ hdb);refine PySem.W.callWith_K (h₀:=X.base) I.ok.mod.kin M.kp (thn (ha pos pins s σ H _ I h) λus s1 ⟨vs,H1,I1,r,q⟩=>⟨I1.kIn,?_⟩) he hpl;exact wb M F hr hb hd hx I1 r q
end
section
variable {X:Cx}{CX:CXT}{k:Nat}{f C:Addr}{fd:FuncData}{ps ks:List Str}{sp:Sp}{E:XK}{x m:Str}{p pos apos kpos:Pos}{e o:Expr}{es:List Expr}{kws:List Keyword}{te ta:TE}{t tk:TA}{nm:Option Str}
variable {g:List Value->List Value->List Value}{gV:List V->List V->List V}
end
structure aJ(N P:List Str)(sc:Scope):Prop where
 kind:sc.kind=.function
 co:sc.isCoroutine=false
 gen:sc.isGenerator=false
 nd:N.Nodup
 pre:N.take P.length=P
 par:∀x∈P,sc.names.lookup x=some .local\/sc.names.lookup x=some .cell
 nofree:∀y∈sc.names,y.2≠.free
theorem tZ{kindOf:Str->Option NameKind}{x:Str}:∀{binds:List (Str×Value)}{m:Str->Option Value},(∀v,(x,v)∉binds)->bindL kindOf binds m x=m x
 |[],_,_=>rfl
 |(n,v)::r,m,h=>by
  unfold bindL;rw[tZ λw hw=>h w (qm _ hw)];split
  ·have:x≠n:=by rintro rfl;exact h v qp
   simp[this]
  ·rfl
theorem u3{kindOf:Str->Option NameKind}{x:Str}:∀{binds:List (Str×Value)}{m:Str->Option Value},(∀v,(x,v)∉binds)->bindC kindOf binds m x=m x
 |[],_,_=>rfl
 |(n,v)::r,m,h=>by
  unfold bindC;rw[u3 λw hw=>h w (qm _ hw)];split
  ·rfl
  ·have:x≠n:=by rintro rfl;exact h v qp
   simp[this]
theorem u0{kindOf:Str->Option NameKind}{x:Str}{v:Value}:∀{P:List Str}{vs:List Value}{i:Nat}{m:Str->Option Value},P.Nodup->P[i]?=some x->vs[i]?=some v->kindOf x=some .local->
 bindL kindOf (P.zip vs) m x=some v
 |[],_,_,_,_,h,_,_=>by simp at h
 |_::_,[],_,_,_,_,h,_=>by simp at h
 |p::P,w::vs,0,m,nd,h1,h2,hk=>by
  simp at h1 h2;subst h1;subst h2;show bindL kindOf ((p,w)::P.zip vs) m p=_;unfold bindL;rw[tZ λv hv=>(List.nodup_cons.mp nd).1 (List.of_mem_zip hv).1,Q1 hk];simp
 |p::P,w::vs,i+1,m,nd,h1,h2,hk=>by
  show bindL kindOf ((p,w)::P.zip vs) m x=_;unfold bindL;exact u0 (i:=i) (List.nodup_cons.mp nd).2 (by simpa using h1) (by simpa using h2) hk
theorem u5{kindOf:Str->Option NameKind}{x:Str}{v:Value}:∀{P:List Str}{vs:List Value}{i:Nat}{m:Str->Option Value},P.Nodup->P[i]?=some x->vs[i]?=some v->kindOf x≠some .local->
 bindC kindOf (P.zip vs) m x=some v
 |[],_,_,_,_,h,_,_=>by simp at h
 |_::_,[],_,_,_,_,h,_=>by simp at h
 |p::P,w::vs,0,m,nd,h1,h2,hk=>by
  simp at h1 h2;subst h1;subst h2;show bindC kindOf ((p,w)::P.zip vs) m p=_;unfold bindC;rw[u3 λv hv=>(List.nodup_cons.mp nd).1 (List.of_mem_zip hv).1,Q0 hk];simp
 |p::P,w::vs,i+1,m,nd,h1,h2,hk=>by
  show bindC kindOf ((p,w)::P.zip vs) m x=_;unfold bindC;exact u5 (i:=i) (List.nodup_cons.mp nd).2 (by simpa using h1) (by simpa using h2) hk
def start(N:List Str)(vs:List V):St:=vs.map some++List.replicate (N.length-vs.length) none
def eI(CX:CXT)(P:Program)(w:World)(K:W.Frag)(mg:Str->Option Value)(base:Heap)(N:List Str)(qual:Str)(scope:Scope)(f:Addr)(cd:Value)(A:Around)(outer:List Env)(s:Shared)(H:Hp)(E:XK):Cx where
 prog:=P
 w:=w
 K:=K
 mg:=mg
 base:=base
 A:=A.deeper (envOfC qual scope s.heap.objs.size f cd)
 N:=N
 s₀:=s
 H₀:=H
 env:=envOfC qual scope s.heap.objs.size f cd
 outer:=outer
 stack:=envOfC qual scope s.heap.objs.size f cd::outer
 ex:=[]
 calm:=true
 fn:=λ_=>true
 pn:=[]
 xe:=λe s'=>wpAny (model P w) (A.deeper (envOfC qual scope s.heap.objs.size f cd)) (leaving (envOfC qual scope s.heap.objs.size f cd) e) (λ_ s''=>CX outer H s E e s'') (λe' s''=>CX outer H s E e' s'') s'
theorem tU{sc:Scope}{n:Nat}{x:Str}(h:sc.names.lookup x=some .cell):∃c,(cellsFrom n sc.names []).lookup x=some c:=by
 have q:=PySem.W.cellsFrom_some sc.names n [] (.inl h);exact Option.isSome_iff_exists.mp q
theorem A5{CX:CXT}{P:Program}{w:World}{K:W.Frag}{mg:Str->Option Value}{base:Heap}{N ps:List Str}{qual:Str}{scope:Scope}{f:Addr}{cd:Value}{A:Around}{outer:List Env}{s s1:Shared}{H:Hp}{E:XK}{us:List Value}{vs:List V}
 (S:aJ N ps scope) (hd:A.handled=none) (e0:fX P w K mg base A outer s H) (hl:vs.length=ps.length) (r:ax vs us)
 (x:InCallC s s.heap.objs.size (bindL (envOfC qual scope s.heap.objs.size f cd).kindOf (ps.zip us) λ_=>none) (cellsFrom (s.heap.objs.size+1) scope.names []) (bindC (envOfC qual scope s.heap.objs.size f cd).kindOf (ps.zip us) λ_=>none) s1):
 Inv (eI CX P w K mg base N qual scope f cd A outer s H E) [] (start N vs) H s1:=by
 have hpl:ps.length<=N.length:=by have:=congrArg List.length S.pre;rw[qL]at this;omega
 obtain⟨h1,tk,rfl,hk⟩:=x.done;have noA:∀b:Addr,b∉(eI CX P w K mg base N qual scope f cd A outer s H E).ex:=λb z=>Q5 (show b∈([]:List Addr)from z) (by simp)
 refine⟨⟨e0.mod,S.kind,U,U,qf _,λy z c h1 h2=>?_,λy hy=>?_,λy c _ h=>?_,λ_=>hd,Around.frames_deeper e0.frames,.inr ⟨U,U⟩,λb z=>Q5 z (noA b),e0.bs,e0.bsz,λb _ _=>noA b,λb z=>Q5 z (noA b),e0.funs,e0.frf⟩,
  rfl,e0.bare,Un.kept hk,⟨_,x.toInCall.ns,λi y v h1 h2 h3=>?_⟩,λy c h=>⟨_,x.cell y c h⟩,e0.hok.fresh (qf _),λy c h=>?_,λp hp=>Q5 (show p∈([]:List (Addr×Obj))from hp) (by simp),e0.hok.kept hk,?_⟩
 ·exact name_of_addr x.apart (Qi h1) (Qi h2)
 ·have hy:scope.names.lookup y=some .cell\/scope.names.lookup y=some .free:=hy;rcases hy with hy|hy
  ·exact tU hy
  ·exact Q5 U (S.nofree _ (Qi hy))
 ·exact Nat.le_of_lt (x.above y c (Qi h))
 ·have hi:i<vs.length:=by
   unfold start at h2;by_cases hi:i<vs.length
   ·exact hi
   ·rw[qM (by simpa using hi)]at h2;rw[List.getElem?_replicate]at h2;split at h2<;>cases h2
  have ha:vs[i]?=some v:=by
   unfold start at h2;rw[Q6 (by simpa using hi),qF]at h2
   cases e:vs[i]? with
   |none=>rw[e]at h2;cases h2
   |some a=>rw[e]at h2;cases h2;rfl
  obtain⟨u,hu,rv⟩:=r.get ha
  have hp:ps[i]?=some y:=by
   rw[<- S.pre,List.getElem?_take_of_lt Yk];exact h1
  have ndP:ps.Nodup:=by rw[<- S.pre];exact S.nd.sublist (List.take_sublist _ _)
  refine⟨u,rv,?_⟩;rcases S.par y (qA hp)with k|k
  ·exact .inl ⟨k,u0 ndP hp hu k⟩
  ·obtain⟨c,e⟩:=tU (n:=s.heap.objs.size+1) k;refine .inr ⟨.inl k,c,e,?_⟩;have q:=x.cell y c e;rw[u5 ndP hp hu (by show scope.names.lookup y≠_;rw[k];decide)]at q;exact q
 ·exact e0.hok.fresh (Nat.le_of_lt (x.above y c (Qi h)))
 ·unfold start;show _=N.length;rw[qc,qa,List.length_replicate];omega
theorem tE{CX:CXT}{P:Program}{w:World}{K:W.Frag}{mg:Str->Option Value}{base:Heap}{k:Nat}{f:Addr}{name qual:Str}{params:Arguments}{body:List Stmt}{scope:Scope}{dV kV doc pm cdv ct oc:Value}{an od:Option Addr}
 {osl:Array (Option Value)}{N ps:List Str}{sp:Sp}(lk:K.lookup f=some ⟨oc,od,.func (PySem.W.fnOf name qual params body scope dV kV doc pm an cdv ct),osl⟩) (hcd:PySem.W.codeIn K cdv qual=true) (S:aJ N ps scope)
 (len:∀vs H Q E,sp vs H Q E->vs.length=ps.length)
 (hbody:∀(A:Around)(outer:List Env)(s:Shared)(H:Hp)(vs:List V)(Q:VK)(E:XK),bC k (A.deeper (envOfC qual scope s.heap.objs.size f cdv))->sp vs H Q E->
  ∃t,PSs (eI CX P w K mg base N qual scope f cdv A outer s H E) body t/\t { nx:=λ_ H'=>Q .non H',rt:=Q } (start N vs) H):
 aA P w K mg base CX (k+1) f (PySem.W.fnOf name qual params body scope dV kV doc pm an cdv ct) ps sp:=by
 refine⟨len,λA outer s H args us vs Q E hr e0 hb r hsp=>?_⟩;have hl:=len _ _ _ _ hsp;have KX:K.In s.heap:=e0.mod.kin.keeps λb o e=>(e0.bs b o e).1;have lim:s.heap.NoLimit:=e0.mod.nolimit.keeps λb o e=>(e0.bs b o e).1
 have hkind:∀y∈ps.zip us,scope.names.lookup y.1=some .local\/(scope.names.lookup y.1=some .cell/\((cellsFrom (s.heap.objs.size+1) scope.names []).lookup y.1).isSome=true):=λ⟨n,v⟩ hy=>by
  rcases S.par n (List.of_mem_zip hy).1 with q|q
  ·exact .inl q
  ·exact .inr ⟨q,PySem.W.cellsFrom_some _ _ _ (.inl q)⟩
 refine codeAny_call_function hr.depth (KX _ _ lk) U S.co S.gen U (PySem.W.codeRec_of KX hcd) (hb _ _ _ _ ?_);refine wpAny_newFunctionEnv_cells S.kind hkind λenv he s1 x=>?_;subst he;refine⟨lim.keeps x.toInCall.keep,codeAny_func ?_⟩;obtain⟨t,ht,hq⟩:=hbody A outer s H vs Q E (hr.deeper _) hsp;have I:Inv (eI CX P w K mg base N qual scope f cdv A outer s H E) [] (start N vs) H s1:=A5 S hr.hd e0 hl r x;refine wpAny_mono (ht [] s1 (start N vs) H _ I hq) (λfl s' hs=>?_) λe s' hs=>hs
 have fin:∀{σ':St}{H':Hp}{v:V}{u:Value},Inv (eI CX P w K mg base N qual scope f cdv A outer s H E) [] σ' H' s'->aG v u->Q v H'->CE outer P w H s Q u s':=
  λ{σ' H' v u} J rv q=>⟨v,H',J.os,J.bare,J.base,J.hok,rv,q⟩
 cases fl with
 |ret u=>
  obtain⟨v,σ',H',J,rv,q⟩:=hs;exact fin J rv q
 |next=>
  obtain⟨σ',H',J,q⟩:=hs;exact fin (v:=V.non) (u:=Value.none) J U q
 |brk=>
  obtain⟨_,_,_,q⟩:=hs;exact False.elim q
 |cont=>
  obtain⟨_,_,_,q⟩:=hs;exact False.elim q
section
variable {X:Cx}{x:Str}{p pos:Pos}{e:Expr}{es:List Expr}{t:TA}{id T:String}{r:List V->Hp->VK->Prop}
def tCB(r:List V->Hp->VK->Prop)(t:TA):TE:=λσ H Q=>t σ H λvs H1=>r vs H1 Q
theorem bh(hc:cr X (.builtin id) r)(hg:Gl X x)(hm:X.mg x=none)(hv:bootBuiltins x=some (.builtin id))(ha:PA X (e::es) t)(hn:x≠"__name__":=by decide)(hdb:(x == ("__debug__":Str))=false:=by decide)
 (he:starEach (e::es) X.env=(false,eval e X.env)::starEach es X.env:=by rfl) (hpl:(backTo pos (starEach es X.env)).any (·.1)=false:=by rfl):PE X (.Call (.Name x p) (e::es) [] pos) (tCB r t):=by
 intro pins s σ H Q I h;refine wpAny_Call_Name_kw (dD I hg hm hv ?_ hn hdb);exact PyProof.Rows.callWith_builtin1 (thn (ha pos pins s σ H _ I h) λus s1 ⟨vs,H1,I1,r1,q1⟩=>hc pins s1 σ H1 vs us Q I1 r1 q1) he hpl
theorem gx(hc:cr X (.type T) r)(hg:Gl X x)(hm:X.mg x=none)(hv:bootBuiltins x=some (.type T))(ha:PA X (e::es) t)(hn:x≠"__name__":=by decide)(hdb:(x == ("__debug__":Str))=false:=by decide)
 (he:starEach (e::es) X.env=(false,eval e X.env)::starEach es X.env:=by rfl) (hpl:(backTo pos (starEach es X.env)).any (·.1)=false:=by rfl):PE X (.Call (.Name x p) (e::es) [] pos) (tCB r t):=by
 intro pins s σ H Q I h;refine wpAny_Call_Name_kw (dD I hg hm hv ?_ hn hdb);exact PyProof.Rows.callWith_type1 (thn (ha pos pins s σ H _ I h) λus s1 ⟨vs,H1,I1,r1,q1⟩=>hc pins s1 σ H1 vs us Q I1 r1 q1) he hpl
end
end L2
namespace HT
open PySem PyProof.Rows
section
open PySem.SeqAt
open PySem.AutoSeq1 (wpAny_loadPart')
open PySem.MeetsSeq PySem.MeetsSeq2 PySem.MeetsSeq3
end
section
variable {prog:Program}{w:World}{A:Around}{E:Yo}{s:Shared}
theorem cat_tup{t b:Addr}{vs ws:List Value}{Q:Yo}(ht:IsTup s.heap t vs.toArray)(hb:IsTup s.heap b ws.toArray)(hv:vs≠[])
 (h1:ws=[]->Q (.ref t) s) (h2:ws≠[]->Q (.ref s.heap.objs.size) { s with heap:=s.heap.push { cls:=.type "tuple",data:=.seq (vs++ws).toArray } })
 (hsz:vs.length+ws.length<=sizeLine):wpAny (model prog w) A (binaryOp .Add (.ref t) (.ref b)) Q E s:=by
 obtain⟨⟨cls,dd,data,sl⟩,ho,hc,n,hd⟩:=id ht;obtain⟨⟨cls2,dd2,data2,sl2⟩,ho2,hc2,n2,hd2⟩:=id hb;simp only at hc hd hc2 hd2;subst hc hd hc2 hd2;have e:vs.toArray++ws.toArray=(vs++ws).toArray:=by simp
 by_cases hw:ws=[]
 ·exact concat_meets ⟨_,ho,U⟩ ⟨_,ho2,U⟩ noFill_tuple_add seq_tuple_add PySem.F.slot_tuple_add PySem.F.entry_tuple_add (PySem.F.args_tuple_add_2 _ _)
   (tuple_addW1 t b vs.toArray ws.toArray n n2 dd dd2 sl sl2 (by simpa using hv) (by simp[hw])) ⟨ho,ho2,h1 hw⟩
 ·refine concat_meets ⟨_,ho,U⟩ ⟨_,ho2,U⟩ noFill_tuple_add seq_tuple_add PySem.F.slot_tuple_add PySem.F.entry_tuple_add (PySem.F.args_tuple_add_2 _ _)
   (tuple_addW2 t b vs.toArray ws.toArray n n2 dd dd2 sl sl2 (by simpa using hv) (by simpa using hw) (by rw[qD,qD];exact hsz)) ⟨ho,ho2,?_⟩
  rw[e];exact h2 hw
def sIx(n d:Nat):Option Int->Nat
 |none=>d
 |some v=>if v<0 then(v+(n:Int)).toNat else min v.toNat n
theorem sIx_nat(n d k:Nat):sIx n d (some (k:Int))=min k n:=by
 show(if(k:Int)<0 then((k:Int)+(n:Int)).toNat else min (k:Int).toNat n)=min k n;rw[Q0 Yk,qY]
theorem w8(n d:Nat)(hd:d<=n)(o:Option Int):sIx n d o<=n:=by
 cases o with
 |none=>exact hd
 |some v=>
  show(if v<0 then(v+(n:Int)).toNat else min v.toNat n)<=n;by_cases hv:v<0
  ·rw[Q1 hv];omega
  ·rw[Q0 hv];exact Nat.min_le_right _ _
theorem tT(v:Int)(n d:Nat):(if v<0 then max (v+(n:Int)) 0 else min v (n:Int))=((sIx n d (some v):Nat):Int):=by
 show(if v<0 then max (v+(n:Int)) 0 else min v (n:Int))=(((if v<0 then(v+(n:Int)).toNat else min v.toNat n):Nat):Int);by_cases hv:v<0
 ·simp only[Q1 hv];omega
 ·simp only[Q0 hv];omega
theorem Bb(lo hi:Option Int)(n:Nat):Builtin.Slice.sliceAdjust lo hi 1 (n:Int)=(((sIx n 0 lo:Nat):Int),((sIx n n hi:Nat):Int)):=by
 have h1:¬ ((1:Int)<0):=Yk;unfold Builtin.Slice.sliceAdjust;simp only[h1,if_false];refine Prod.ext ?_ ?_
 ·cases lo with
  |none=>rfl
  |some v=>exact tT v n 0
 ·cases hi with
  |none=>rfl
  |some v=>exact tT v n n
theorem x6(i j:Nat):Builtin.Slice.slicePlaces (i:Int) (j:Int) 1=j-i:=by
 unfold Builtin.Slice.slicePlaces;have h1:(1:Int) > 0:=Yk;simp only[h1,if_true,Int.ediv_one];split<;>omega
theorem pj{v:Value}{o:Option Int}{Q:Option Int->Shared->Prop}(p:IsPart v o)(h:Q o s):wpAny (model prog w) A (Builtin.Slice.slicePartIndex v) Q E s:=by
 cases p with
 |none=>exact slicePart_none h
 |int i t=>exact slicePart_int h
theorem vj{sl:Addr}{vl vu:Value}{lo hi:Option Int}{n:Nat}{Q:Int×Int×Nat->Shared->Prop}(hs:s.heap.IsSliceOf sl vl vu .none)(pl:IsPart vl lo)(pu:IsPart vu hi)
 (h:Q (((sIx n 0 lo:Nat):Int),1,sIx n n hi-sIx n 0 lo) s):wpAny (model prog w) A (Builtin.Slice.sliceApplied (.ref sl) (pure (n:Int))) Q E s:=by
 obtain⟨os,hos,hcs,hds⟩:=id hs;unfold Builtin.Slice.sliceApplied Builtin.Slice.sliceFields;refine q9 (q9 (wpAny_field hos hds (x:=vl) U (q9 (wpAny_field hos hds (x:=vu) U (q9 (wpAny_field hos hds (x:=.none) U (qe ?_)))))));refine q9 (slicePart_none ?_);show wpAny _ _ (if((1:Int) == 0)=true then _ else _) _ _ s;rw[Q0 Yd];refine q9 (pj pl (q9 (pj pu (q9 (qe ?_)))));show wpAny _ _ (match Builtin.Slice.sliceAdjust lo hi 1 (n:Int)with|(lo,hi)=>pure (lo,(1:Int),Builtin.Slice.slicePlaces lo hi 1)) _ _ s;rw[Bb lo hi n];show wpAny _ _ (pure (((sIx n 0 lo:Nat):Int),(1:Int),Builtin.Slice.slicePlaces ((sIx n 0 lo:Nat):Int) ((sIx n n hi:Nat):Int) 1)) _ _ s;rw[x6];exact qe h
theorem x8(xs:Array Value)(i k:Nat):((List.range k).filterMap λ(m:Nat)=>xs[((i:Int)+(m:Int) * 1).toNat]?).toArray=((xs.toList.drop i).take k).toArray:=by
 have e:(λ(m:Nat)=>xs[((i:Int)+(m:Int) * 1).toNat]?)=λm=>xs[i+m]?:=by
  funext m
  have:((i:Int)+(m:Int) * 1).toNat=i+m:=Yk;rw[this]
 rw[e];have:=pick_run xs i k;rw[List.filterMap_map]at this;have e2:((λx=>xs[x]?) ∘ λx=>i+x)=λm=>xs[i+m]?:=U;rw[e2]at this;rw[this]
theorem getItem_tuple_cut{t sl:Addr}{items:Array Value}{vl vu:Value}{lo hi:Option Int}{Q:Yo}(ht:IsTup s.heap t items)(hs:s.heap.IsSliceOf sl vl vu .none)(pl:IsPart vl lo)(pu:IsPart vu hi)
 (hw:¬ (sIx items.size 0 lo=0/\sIx items.size items.size hi=items.size))
 (h:Q (.ref s.heap.objs.size) { s with heap:=s.heap.push { cls:=.type "tuple",data:=.seq ((items.toList.drop (sIx items.size 0 lo)).take (sIx items.size items.size hi-sIx items.size 0 lo)).toArray } })
 (hsz:items.size<=sizeLine):wpAny (model prog w) A (getItem (.ref t) (.ref sl)) Q E s:=by
 have htake:sizeOk (.seq ((items.toList.drop (sIx items.size 0 lo)).take (sIx items.size items.size hi-sIx items.size 0 lo)).toArray):=by
  show((items.toList.drop (sIx items.size 0 lo)).take (sIx items.size items.size hi-sIx items.size 0 lo)).toArray.size<=sizeLine;rw[qD,qL,qZ,qN];omega
 have hj:sIx items.size items.size hi<=items.size:=w8 _ _ (qf _) hi;obtain⟨os,hos,hcs,hds⟩:=id hs;have hTs:s.TypeIs (.ref sl) "slice":=⟨os,hos,hcs⟩;unfold getItem
 try with_reducible refine Qv ?_
 first|refine q9 (qe ?_)|skip
 refine q9 (wpAny_sequenceKey ht.typeIs Yd ?_)
 refine q9 (wpAny_callSpecial?_slot (name:=Str.ofString "__getitem__") ht.typeIs PyProof.Rows.slot_tuple_getitem
  (Qj PyProof.Rows.slot_tuple_getitem ht.typeIs entry_tuple_getitem ?_ (args_tuple_getitem _ _)))
 show wpAny _ _ (Builtin.Tuple.tupleItemsOf (.ref t) >>= _) _ _ s;refine q9 (tupleItemsOf_ ht ?_);refine q9 (wpAny_typeOf hTs ?_);rw[Q1 Yd];refine q9 (vj hs pl pu ?_)
 have hno:¬ ((((sIx items.size 0 lo:Nat):Int) == 0 && (1:Int) == 1 && (sIx items.size items.size hi-sIx items.size 0 lo) == items.size)=true):=by
  intro q;rw[Bool.and_eq_true,Bool.and_eq_true]at q;have q1:((sIx items.size 0 lo:Nat):Int)=0:=eq_of_beq q.1.1;have q2:sIx items.size items.size hi-sIx items.size 0 lo=items.size:=eq_of_beq q.2;exact hw ⟨Yk,Yk⟩
 show wpAny _ _ (if(((sIx items.size 0 lo:Nat):Int) == 0 && (1:Int) == 1 && (sIx items.size items.size hi-sIx items.size 0 lo) == items.size)=true then _ else _) _ _ s;rw[Q0 hno,x8]
 first
  |exact q9 (m:=Builtin.Tuple.tupleExact _) (wpAny_newObj_type (qe ⟨_,rfl,qe h⟩) htake)
  |exact q9 (m:=Builtin.Tuple.tupleExact _) (wpAny_newObj_type (q9 (qe (qe ⟨_,rfl,qe h⟩))) htake)
  |exact q9 (q9 (m:=Builtin.Tuple.tupleExact _) (wpAny_newObj_type (qe (qe ⟨_,rfl,qe h⟩)) htake))
  |exact q9 (q9 (m:=Builtin.Tuple.tupleExact _) (wpAny_newObj_type (qe ⟨_,rfl,qe h⟩) htake))
end
end HT
namespace L2
open PySem PySem.Spec PyProof.Rows
abbrev TO:=St->Hp->(Option Int->Hp->Prop)->Prop
def PO(X:Cx)(e:Option Expr)(t:TO):Prop:=
 ∀(pins:List (Addr×Obj))(s:Shared)(σ:St)(H:Hp)(Q:Option Int->Hp->Prop),Inv X pins σ H s->t σ H Q->
  wpAny (model X.prog X.w) X.A (evalPart e X.env) (λu s'=>∃o H',Inv X pins σ H' s'/\IsPart u o/\Q o H') X.xe s
def uQ:TO:=λ_ H Q=>Q none H
def uM(t:TE):TO:=λσ H Q=>t σ H λx H1=>∃i,x=.int i/\Q (some i) H1
section
variable {X:Cx}{e:Expr}{te:TE}{lo hi:Option Expr}{tl th:TO}{pos p2:Pos}
theorem fG:PO X none uQ:=by
 intro pins s σ H Q I h;rw[evalPart_none];exact qe ⟨none,H,I,.none,h⟩
theorem cg(h:PE X e te):PO X (some e) (uM te):=by
 intro pins s σ H Q I hw;rw[evalPart_some];refine thn (h pins s σ H _ I hw) λu s1 ⟨x,H1,I1,r1,q1⟩=>?_;obtain⟨i,rfl,q⟩:=q1;obtain⟨t,rfl⟩:=r1;exact⟨some i,H1,I1,.int i t,q⟩
def SlR(X:Cx)(r:V->Option Int->Option Int->Hp->VK->Prop):Prop:=
 ∀(pins:List (Addr×Obj))(s:Shared)(σ:St)(H:Hp)(x:V)(v vl vu:Value)(lo hi:Option Int)(sl:Addr)(Q:VK),Inv X pins σ H s->aG x v->s.heap.IsSliceOf sl vl vu .none->IsPart vl lo->IsPart vu hi->r x lo hi H Q->
  ∃T id,typeLookup (.type T) "__getitem__"=pure (some (.builtin id))/\s.TypeIs v T/\wpAny (model X.prog X.w) X.A (getItem v (.ref sl)) (EP X pins σ Q) X.xe s
def tSl(r:V->Option Int->Option Int->Hp->VK->Prop)(te:TE)(tl th:TO):TE:=λσ H Q=>te σ H λx H1=>tl σ H1 λl H2=>th σ H2 λu H3=>r x l u H3 Q
theorem eB{r:V->Option Int->Option Int->Hp->VK->Prop}(hr:SlR X r)(he:PE X e te)(hl:PO X lo tl)(hu:PO X hi th):PE X (.Subscript e (.Slice lo hi none p2) pos) (tSl r te tl th):=by
 intro pins s σ H Q I h;refine Subscript_ (thn (he pins s σ H _ I h) λv s1 ⟨x,H1,I1,r1,q1⟩=>?_);refine wpAny_Slice (thn (hl pins s1 σ H1 _ I1 q1) λvl s2 ⟨l,H2,I2,pl,q2⟩=>thn (hu pins s2 σ H2 _ I2 q2) λvu s3 ⟨u,H3,I3,pu,q3⟩=>?_);rw[evalPart_none];refine qe ?_;have I4:Inv X pins σ H3 { s3 with heap:=s3.heap.push { cls:=.type "slice",data:=.fields #[vl,vu,.none] } }:=I3.kept (t':=s3.toks) λb ob q=>qb _ q;obtain⟨T,id,hT,ht,hg⟩:=hr pins { s3 with heap:=s3.heap.push { cls:=.type "slice",data:=.fields #[vl,vu,.none] } } σ H3 x v vl vu l u s3.heap.objs.size Q I4 r1 (Heap.IsSliceOf.new ..) pl pu q3;show wpAny (model X.prog X.w) X.A (subscriptTail e (.Slice lo hi none p2) v (.ref s3.heap.objs.size)) (EP X pins σ Q) X.xe { s3 with heap:=s3.heap.push { cls:=.type "slice",data:=.fields #[vl,vu,.none] } };exact tail_any (ops:=[.ref s3.heap.objs.size,v]) ht hT hg (by with_unfolding_all rfl)
def cq(xs:List V)(lo hi:Option Int):List V:=(xs.drop (HT.sIx xs.length 0 lo)).take (HT.sIx xs.length xs.length hi-HT.sIx xs.length 0 lo)
theorem tP(xs:List V)(lo hi:Option Int):(cq xs lo hi).length<=xs.length:=by
 unfold cq;rw[qL,qZ];omega
def wg(K:W.Frag):V->Option Int->Option Int->Hp->VK->Prop:=λx lo hi H Q=>∃a xs,x=.ref a/\SqT K H a xs /\
 ¬ (HT.sIx xs.length 0 lo=0/\HT.sIx xs.length xs.length hi=xs.length)/\∀p,H p=none->Q (.ref p) (upd H p (.tup (cq xs lo hi)))
theorem gc:SlR X (wg X.K):=by
 intro pins s σ H x v vl vu lo hi sl Q I rx hs pl pu h;obtain⟨a,xs,rfl,hx,hw,q⟩:=h;cases rx;obtain⟨its,r,ht,hz⟩:=I.tuple hx;have hlen:its.toArray.size=xs.length:=by rw[qD];exact r.length.symm
 refine⟨"tuple",_,PyProof.Rows.slot_tuple_getitem.lookup,ht.typeIs,?_⟩;refine HT.getItem_tuple_cut ht hs pl pu (by rw[hlen];exact hw) ?_ (by rw[hlen];exact hz);rw[hlen];refine⟨.ref s.heap.objs.size,_,I.laid (t':=s.toks) (o:=.tup (cq xs lo hi)) (λb ob q=>qb _ q) (qf _) ?_,U,q _ (I.hok.fresh (qf _))⟩;exact⟨qz (tP xs lo hi) hz,_,(r.drop (HT.sIx xs.length 0 lo)).take (HT.sIx xs.length xs.length hi-HT.sIx xs.length 0 lo),IsTup.new _ _⟩
def wz(K:W.Frag):R2:=λx y H Q=>∃a b xs ys,x=.ref a/\y=.ref b/\SqT K H a xs/\SqT K H b ys/\xs≠[]/\xs.length+ys.length<=sizeLine /\
 (ys=[]->Q (.ref a) H)/\(ys≠[]->∀p,H p=none->Q (.ref p) (upd H p (.tup (xs++ys))))
theorem ax.nil_iff{xs:List V}{us:List Value}(r:ax xs us):us=[]↔xs=[]:=by
 cases r with
 |nil=>simp
 |cons _ _=>simp
theorem lO:OpR X (binaryOp .Add) (wz X.K):=by
 intro pins s σ H x y v u Q I rx ry h;obtain⟨a,b,xs,ys,rfl,rfl,ha,hb,hx,hz,q1,q2⟩:=h;cases rx;cases ry;obtain⟨its,r1,p1,_⟩:=I.tuple ha;obtain⟨its2,r2,p2,_⟩:=I.tuple hb;refine HT.cat_tup p1 p2 (λz=>hx (r1.nil_iff.mp z)) (λz=>⟨.ref a,H,I,U,q1 (r2.nil_iff.mp z)⟩) (λz=>?_) (by rw[<- r1.length,<- r2.length];exact hz);refine⟨.ref s.heap.objs.size,_,I.laid (t':=s.toks) (o:=.tup (xs++ys)) (λb ob q=>qb _ q) (qf _) ?_,U,q2 (λw=>z (r2.nil_iff.mpr w)) _ (I.hok.fresh (qf _))⟩;exact⟨by rw[qc];exact hz,_,r1.append r2,IsTup.new _ _⟩
end
def ixN(n:Nat)(i:Int):Option Nat:=if 0<=i then(if i<n then some i.toNat else none)else if -(n:Int)<=i then some (i+n).toNat else none
def atI{α:Type}(xs:List α)(i:Int):Option α:=(ixN xs.length i).bind λj=>xs[j]?
theorem sF{n:Nat}{i:Int}{j:Nat}(h:ixN n i=some j):seqIndex? i n=some j/\j<n/\-(n:Int)<=i/\i<n:=by
 unfold ixN at h;by_cases h0:0<=i
 ·rw[Q1 h0]at h;by_cases h1:i<n
  ·rw[Q1 h1]at h;have e:i.toNat=j:=qK h;exact⟨by rw[seqIndex_of h0 h1,e],Yk,Yk,h1⟩
  ·rw[Q0 h1]at h;cases h
 ·rw[Q0 h0]at h;by_cases h1:-(n:Int)<=i
  ·rw[Q1 h1]at h;have e:(i+n).toNat=j:=qK h;exact⟨by rw[seqIndex_neg Yk h1,e],Yk,h1,Yk⟩
  ·rw[Q0 h1]at h;cases h
theorem mP{α:Type}{xs:List α}{i:Int}{v:α}(h:atI xs i=some v):∃j,seqIndex? i xs.length=some j/\xs[j]?=some v/\j<xs.length/\-(xs.length:Int)<=i/\i<xs.length:=by
 unfold atI at h
 cases e:ixN xs.length i with
 |none=>rw[e]at h;cases h
 |some j=>
  rw[e]at h;obtain⟨h1,h2,h3,h4⟩:=sF e;exact⟨j,h1,h,h2,h3,h4⟩
theorem bT{α:Type}{xs:List α}{j:Nat}{v:α}(h:xs[j]?=some v):atI xs (j:Int)=some v:=by
 have hj:j<xs.length:=(qg.mp h).1
 have e:ixN xs.length (j:Int)=some j:=by
  unfold ixN;rw[Q1 Yk,Q1 Yk];simp
 unfold atI;rw[e];exact h
theorem uc{α:Type}(xs:List α)(v:α):atI (xs++[v]) (-1)=some v:=by
 have hl:(xs++[v]).length=xs.length+1:=by simp
 have e:ixN (xs++[v]).length (-1)=some xs.length:=by
  unfold ixN;rw[hl,Q0 Yd,Q1 Yk]
  congr 1
  omega
 unfold atI;rw[e];show(xs++[v])[xs.length]?=some v;simp
def Bf(b:Expr):Prop:=∀o i,subscripted b false o i=operate [o,i] (getItem o i)
def IxR(X:Cx)(r:R2):Prop:=
 ∀(value slice:Expr)(pins:List (Addr×Obj))(s:Shared)(σ:St)(H:Hp)(x y:V)(v u:Value)(Q:VK),Inv X pins σ H s->aG x v->aG y u->r x y H Q->
  subscripted slice false v u=operate [v,u] (getItem v u)->wpAny (model X.prog X.w) X.A (subscriptTail value slice v u) (EP X pins σ Q) X.xe s
def MtR(X:Cx)(id:String)(r:V->List V->Hp->VK->Prop):Prop:=
 ∀(pins:List (Addr×Obj))(s:Shared)(σ:St)(H:Hp)(x:V)(xs:List V)(v:Value)(us:List Value)(Q:VK),Inv X pins σ H s->aG x v->ax xs us->r x xs H Q->
  wpAny (model X.prog X.w) X.A (call (.builtin id) (v::us)) (EP X pins σ Q) X.xe s
section
variable {X:Cx}{a b:Expr}{ta tb:TE}{pos:Pos}
theorem ag{r:R2}(hr:IxR X r)(ha:PE X a ta)(hb:PE X b tb)(hs:Bf b):PE X (.Subscript a b pos) (tOp r ta tb):=by
 intro pins s σ H Q I h;exact Subscript_ (mI ha hb I h λv u s2 x y H2 I2 rx ry q=>hr a b pins s2 σ H2 x y v u Q I2 rx ry q (hs _ _))
def wx(K:W.Frag):R2:=λx y H Q=>∃p xs i v,x=.ref p/\y=.int i/\SqL K H p xs/\atI xs i=some v/\Q v H
def wu(K:W.Frag):R2:=λx y H Q=>∃p xs i v,x=.ref p/\y=.int i/\SqT K H p xs/\atI xs i=some v/\Q v H
def wv:R2:=λx y H Q=>∃z i c,x=.str z/\y=.int i/\z.length<=sizeLine/\atI z.cps.toList i=some c/\Q (.str ⟨#[c]⟩) H
theorem A1:IxR X (wx X.K):=by
 intro value slice pins s σ H x y v u Q I rx ry h hs;obtain⟨p,xs,i,z,rfl,rfl,hq,he,q⟩:=h;cases rx;obtain⟨t,rfl⟩:=ry;obtain⟨its,r,pl,hz⟩:=I.list hq;obtain⟨j,h1,h2,h3,h4,h5⟩:=mP he;obtain⟨w,ew,rw'⟩:=r.get h2;have hl:=r.length;have hn:=i9;have fin:EP X pins σ Q w s:=⟨z,H,I,rw',q⟩;by_cases h0:0<=i
 ·have hj:i.toNat=j:=by
   rw[seqIndex_of h0 h5]at h1;exact qK h1
  exact item_listR pl.isList h0 Yk (by rw[hj];simpa using ew) fin hs
 ·have hj:(i+(its.toArray.size:Int)).toNat=j:=by
   rw[seqIndex_neg Yk h4]at h1;rw[qD,<- hl];exact qK h1
  exact subscriptTail_builtinR (x:=w) pl.isList.typeIs slot_list_getitem.lookup
   (wpAny_getItem_list_neg (Q:=λr s'=>r=w/\EP X pins σ Q r s') pl.isList Yk (by rw[qD]<;>omega) Yk (by rw[hj];simpa using ew) ⟨U,fin⟩) hs
theorem zZ:IxR X (wu X.K):=by
 intro value slice pins s σ H x y v u Q I rx ry h hs;obtain⟨p,xs,i,z,rfl,rfl,hq,he,q⟩:=h;cases rx;obtain⟨t,rfl⟩:=ry;obtain⟨its,r,pl,hz⟩:=I.tuple hq;obtain⟨j,h1,h2,h3,h4,h5⟩:=mP he;obtain⟨w,ew,rw'⟩:=r.get h2;have hl:=r.length;have hn:=i9;have fin:EP X pins σ Q w s:=⟨z,H,I,rw',q⟩
 exact subscriptTail_builtinR (x:=w) pl.typeIs slot_tuple_getitem.lookup
  (getItem_tuple (j:=j) (Q:=λr s'=>r=w/\EP X pins σ Q r s') pl Yk Yk (by rw[qD,<- hl];exact h1) (by simpa using ew) ⟨U,fin⟩) hs
theorem A0:IxR X wv:=by
 intro value slice pins s σ H x y v u Q I rx ry h hs;obtain⟨z,i,c,rfl,rfl,hz,he,q⟩:=h;obtain⟨t,rfl⟩:=rx;obtain⟨t',rfl⟩:=ry;obtain⟨j,h1,h2,h3,h4,h5⟩:=mP he;have hl:z.cps.toList.length=z.length:=by simp[Str.length]
 rw[hl]at h1 h4 h5;have hn:=i9
 exact tail_any (typeIs_str s z t) slot_str_getitem.lookup (getItem_str (c:=c) (by
  have e1:decide (i < -(2 ^ 63:Int))=false:=Q4 Yk;have e2:decide (i >= 2 ^ 63)=false:=Q4 Yk
  rw[e1,e2,Bool.or_false]) (by rw[h1];simpa using h2) ⟨.str ⟨#[c]⟩,H,I.tok _,⟨_,U⟩,q⟩) hs
theorem zt(its:List Value)(n j:Nat)(u:Value):Obj.mapSeq (·.setIfInBounds j u) { cls:=.type "list",data:=.seq its.toArray n }={ cls:=.type "list",data:=.seq (its.set j u).toArray n }:=by
 simp[Obj.mapSeq]
theorem Inv.lst{pins:List (Addr×Obj)}{σ:St}{H:Hp}{s:Shared}{p:Addr}{xs:List V}(I:Inv X pins σ H s)(h:H p=some (.lst xs)):
 ∃(its:List Value)(n:Nat),ax xs its/\s.heap.get? p=some { cls:=.type "list",data:=.seq its.toArray n }/\xs.length<=sizeLine:=by
 obtain⟨z,its,n,r,e⟩:=I.hok p _ h;exact⟨its,n,r,e,z⟩
theorem Inv.lstUpd{pins:List (Addr×Obj)}{σ:St}{H:Hp}{s:Shared}{p:Addr}{xs ys:List V}{its its':List Value}{n n':Nat}{f:Obj->Obj}(I:Inv X pins σ H s)(h:H p=some (.lst xs))
 (ho:s.heap.get? p=some { cls:=.type "list",data:=.seq its.toArray n }) (hf:f { cls:=.type "list",data:=.seq its.toArray n }={ cls:=.type "list",data:=.seq its'.toArray n' }) (r:ax ys its') (hz:ys.length<=sizeLine) (t:Nat):
 Inv X pins σ (upd H p (.lst ys)) { s with heap:=s.heap.update p f,toks:=t }:=by
 have e:(s.heap.update p f).get? p=some { cls:=.type "list",data:=.seq its'.toArray n' }:=by
  rw[Qh f ho (by rw[hf]<;>rfl),hf]
 refine I.write (x:=p) (e:=p) (by rw[h];trivial) (.inl U) (λb u hb q=>(Qt _ _ (Ne.symm hb)).trans q) ⟨_,e⟩ ?_;exact⟨hz,its',n',r,e⟩
def wn:V->V->V->Hp->(Hp->Prop)->Prop:=λo i v H Q=>∃p xs k j,o=.ref p/\i=.int k/\H p=some (.lst xs)/\ixN xs.length k=some j/\Q (upd H p (.lst (xs.set j v)))
theorem e9:ue X wn:=by
 intro pins s σ H o i v ov iv u Q I ro ri rv h;obtain⟨p,xs,k,j,rfl,rfl,hp,hj,q⟩:=h;cases ro;obtain⟨t,rfl⟩:=ri;obtain⟨its,n,r,ho,hz⟩:=I.lst hp;obtain⟨h1,h2,h3,h4⟩:=sF hj;have hl:=r.length;have hn:=i9
 have I':Inv X pins σ (upd H p (.lst (xs.set j v))) { s with heap:=s.heap.update p (Obj.mapSeq (·.setIfInBounds j u)) }:=
  I.lstUpd hp ho (zt its n j u) (r.set rv j) (by rw[List.length_set];exact hz) s.toks
 by_cases h0:0<=k
 ·have hk:k.toNat=j:=by
   rw[seqIndex_of h0 h4]at h1;exact qK h1
  exact PySem.W.ki_setAt ho h0 Yk (by rw[qD,<- hl];exact h4) (by rw[hk];exact⟨_,I',q⟩)
 ·have hk:(k+(its.toArray.size:Int)).toNat=j:=by
   rw[seqIndex_neg Yk h3]at h1;rw[qD,<- hl];exact qK h1
  exact PySem.W.ki_setBack ho Yk (by rw[qD,<- hl];exact h3) Yk (by rw[hk];exact⟨_,I',q⟩)
theorem vh(lo hi:Option Int)(n:Nat):(sliceBounds lo hi none n).1=((HT.sIx n 0 lo:Nat):Int)/\(sliceBounds lo hi none n).2.1=((HT.sIx n n hi:Nat):Int)/\(sliceBounds lo hi none n).2.2=1:=by
 refine⟨?_,?_,U⟩
 ·cases lo with
  |none=>simp[sliceBounds,HT.sIx]
  |some i=>
   simp only[sliceBounds,HT.sIx,Option.getD_none,show(1:Int) > 0 by decide,if_true];by_cases h:i<0
   ·simp only[h,if_true]<;>omega
   ·simp only[h,if_false]<;>omega
 ·cases hi with
  |none=>simp[sliceBounds,HT.sIx]
  |some i=>
   simp only[sliceBounds,HT.sIx,Option.getD_none,show(1:Int) > 0 by decide,if_true];by_cases h:i<0
   ·simp only[h,if_true]<;>omega
   ·simp only[h,if_false]<;>omega
theorem vi(its:List Value)(lo hi:Option Int):slicePick its.toArray lo hi none=((its.drop (HT.sIx its.length 0 lo)).take (HT.sIx its.length its.length hi-HT.sIx its.length 0 lo)).toArray:=by
 obtain⟨h1,h2,h3⟩:=vh lo hi its.toArray.size;unfold slicePick;rw[h1,h2,h3];simp only[sliceRange_one,pick_run,qD]<;>rfl
def wj(K:W.Frag):V->Option Int->Option Int->Hp->VK->Prop:=λx lo hi H Q=>∃a xs,x=.ref a/\SqL K H a xs/\∀p,H p=none->Q (.ref p) (upd H p (.lst (cq xs lo hi)))
theorem jE:SlR X (wj X.K):=by
 intro pins s σ H x v vl vu lo hi sl Q I rx hs pl pu h;obtain⟨a,xs,rfl,hx,q⟩:=h;cases rx;obtain⟨its,r,ht,hz⟩:=I.list hx;have hlen:=r.length;refine⟨"list",_,slot_list_getitem.lookup,ht.isList.typeIs,?_⟩;refine wpAny_getItem_list_slice ht.isList hs pl pu .none (by simp) ?_ (by rw[qD]<;>omega);rw[vi,<- hlen];refine⟨.ref s.heap.objs.size,_,I.laid (t':=s.toks) (o:=.lst (cq xs lo hi)) (λb ob q=>qb _ q) (qf _) ?_,U,q _ (I.hok.fresh (qf _))⟩;exact⟨qz (tP xs lo hi) hz,_,0,(r.drop (HT.sIx xs.length 0 lo)).take (HT.sIx xs.length xs.length hi-HT.sIx xs.length 0 lo),qq _ U⟩
def f7:V->Bool
 |.non=>true
 |.bl _=>true
 |.int _=>true
 |.str _=>true
 |_=>false
def eqV:V->V->Bool
 |.non,.non=>true
 |.bl a,.bl b=>a == b
 |.bl a,.int b=>(if a then 1 else 0) == b
 |.int a,.bl b=>a == (if b then 1 else 0)
 |.int a,.int b=>a == b
 |.str a,.str b=>a == b
 |_,_=>false
theorem Ar{A:Around}{s:Shared}{y x:V}{u v:Value}(ry:aG y u)(rx:aG x v)(fy:f7 y=true)(fx:f7 x=true):SeqAt.EqAt A s u v (eqV y x):=by
 cases y with
 |non=>
  cases ry
  cases x with
  |non=>cases rx;exact SeqAt.EqAt.same _
  |bl b=>cases rx;exact SeqAt.EqAt.none_bool b
  |int b=>obtain⟨t,rfl⟩:=rx;exact SeqAt.EqAt.none_int b t
  |str b=>obtain⟨t,rfl⟩:=rx;exact SeqAt.EqAt.none_str b t
  |_=>exact Q5 (show false=true from fx) qj
 |bl a=>
  cases ry
  cases x with
  |non=>cases rx;exact SeqAt.EqAt.bool_none a
  |bl b=>cases rx;exact SeqAt.EqAt.bool_bool a b
  |int b=>obtain⟨t,rfl⟩:=rx;exact SeqAt.EqAt.bool_int a b t
  |str b=>obtain⟨t,rfl⟩:=rx;exact SeqAt.EqAt.bool_str a b t
  |_=>exact Q5 (show false=true from fx) qj
 |int a=>
  obtain⟨t',rfl⟩:=ry
  cases x with
  |non=>cases rx;exact SeqAt.EqAt.int_none a t'
  |bl b=>cases rx;exact SeqAt.EqAt.int_bool a t' b
  |int b=>obtain⟨t,rfl⟩:=rx;exact SeqAt.EqAt.int_int a t' b t
  |str b=>obtain⟨t,rfl⟩:=rx;exact SeqAt.EqAt.int_str a t' b t
  |_=>exact Q5 (show false=true from fx) qj
 |str a=>
  obtain⟨t',rfl⟩:=ry
  cases x with
  |non=>cases rx;exact SeqAt.EqAt.str_none a t'
  |bl b=>cases rx;exact SeqAt.EqAt.str_bool a t' b
  |int b=>obtain⟨t,rfl⟩:=rx;exact SeqAt.EqAt.str_int a t' b t
  |str b=>obtain⟨t,rfl⟩:=rx;exact SeqAt.EqAt.str_str a t' b t
  |_=>exact Q5 (show false=true from fx) qj
 |_=>exact Q5 (show false=true from fy) qj
def eqU(x:V)(u:Value):Bool:=match u with
 |.none=>eqV .non x
 |.bool b=>eqV (.bl b) x
 |.int i _=>eqV (.int i) x
 |.str z _=>eqV (.str z) x
 |_=>false
theorem tJ{x y:V}{u:Value}(r:aG y u)(f:f7 y=true):eqU x u=eqV y x:=by
 cases y with
 |non=>cases r;rfl
 |bl b=>cases r;rfl
 |int i=>obtain⟨t,rfl⟩:=r;rfl
 |str z=>obtain⟨t,rfl⟩:=r;rfl
 |_=>exact Q5 (show false=true from f) qj
theorem mQ{x:V}:∀{xs:List V}{us:List Value},ax xs us->xs.all f7=true->us.any (eqU x)=xs.any λy=>eqV y x
 |_,_,.nil,_=>rfl
 |y::xs,u::us,.cons r t,f=>by
  rw[List.all_cons,Bool.and_eq_true]at f;rw[List.any_cons,List.any_cons,tJ r f.1,mQ t f.2]
theorem lT{A:Around}{s:Shared}{x:V}{v:Value}(rx:aG x v)(fx:f7 x=true):∀{xs:List V}{us:List Value},ax xs us->xs.all f7=true->∀u∈us,SeqAt.EqAt A s u v (eqU x u)
 |_,_,.nil,_=>λu hu=>by cases hu
 |y::xs,u::us,.cons r t,f=>λu' hu=>by
  rw[List.all_cons,Bool.and_eq_true]at f;rcases qv.mp hu with rfl|hu
  ·rw[tJ r f.1];exact Ar r rx f.1 fx
  ·exact lT rx fx t f.2 u' hu
def inV(x:V)(xs:List V):Bool:=xs.any λy=>eqV y x
def rIn(K:W.Frag)(neg:Bool):R2:=λx y H Q=>∃p xs,y=.ref p/\(SqL K H p xs\/SqT K H p xs)/\f7 x=true/\xs.all f7=true/\Q (.bl (if neg then !inV x xs else inV x xs)) H
theorem xK:OpR X (compareOp .In) (rIn X.K false):=by
 intro pins s σ H x y v u Q I rx ry h;obtain⟨p,xs,rfl,hq,fx,fs,q⟩:=h;cases ry;rcases hq with hq|hq
 ·obtain⟨its,r,pl,hz⟩:=I.list hq;refine SeqAt.in_listAt (eqU x) pl.isList (λw hw=>lT rx fx r fs w (by simpa using hw)) ⟨.bl _,H,I,U,?_⟩;rw[show its.toArray.any (eqU x)=its.any (eqU x)by simp,mQ r fs];exact q
 ·obtain⟨its,r,pl,hz⟩:=I.tuple hq;refine SeqAt.in_tupleAt (eqU x) pl (λw hw=>lT rx fx r fs w (by simpa using hw)) ⟨.bl _,H,I,U,?_⟩;rw[show its.toArray.any (eqU x)=its.any (eqU x)by simp,mQ r fs];exact q
theorem AT:cr X (.builtin "len") (λxs H Q=>∃p ys,xs=[.ref p]/\(SqL X.K H p ys\/SqT X.K H p ys)/\Q (.int ys.length) H):=by
 intro pins s σ H xs us Q I r h;obtain⟨p,ys,rfl,hq,q⟩:=h;obtain⟨u,rfl,rx⟩:=ff r;cases rx;have hn:=i9;rcases hq with hq|hq
 ·obtain⟨its,r',pl,hz⟩:=I.list hq;have hlen:=r'.length;exact Calls.call_len_list pl.isList (by simp only[qD]<;>omega) ⟨.int ys.length,H,I.tok _,⟨s.toks+1,by rw[qD,hlen]⟩,q⟩
 ·obtain⟨its,r',pl,hz⟩:=I.tuple hq;have hlen:=r'.length;exact len_tuple pl (by simp only[qD]<;>omega) ⟨.int ys.length,H,I.tok _,⟨s.toks+1,by rw[qD,hlen]⟩,q⟩
theorem AS:cr X (.type "list") (λxs H Q=>∃p ys,xs=[.ref p]/\(SqL X.K H p ys\/SqT X.K H p ys)/\∀l,H l=none->Q (.ref l) (upd H l (.lst ys))):=by
 intro pins s σ H xs us Q I r h;obtain⟨p,ys,rfl,hq,q⟩:=h;obtain⟨u,rfl,rx⟩:=ff r;cases rx
 have fin:∀(its:List Value),ax ys its->ys.length<=sizeLine->∀(h':Heap)(c':Nat),(∀b o',s.heap.get? b=some o'->h'.get? b=some o')->
  h'.get? s.heap.objs.size=some { cls:=.type "list",dict:=none,data:=.seq its.toArray c',slots:=#[] }->EP X pins σ Q (.ref s.heap.objs.size) { s with heap:=h' }:=λits r' hz h' c' kp e=>
  ⟨.ref s.heap.objs.size,_,I.laid (t':=s.toks) kp (qf _) (show bF X.prog X.w _ h' _ (.lst ys)from⟨hz,its,c',r',e⟩),U,q _ (I.hok.fresh (qf _))⟩
 rcases hq with hq|hq
 ·obtain⟨its,r',pl,hz⟩:=I.list hq;have hlen:=r'.length;obtain⟨o,ho,hc,n,hd⟩:=pl.isList;exact call_list_seq p (.inl U) ho hc hd (λh' c' kp e=>fin its r' hz h' c' kp e) (by simp only[qD]<;>omega)
 ·obtain⟨its,r',pl,hz⟩:=I.tuple hq;have hlen:=r'.length;obtain⟨o,ho,hc,n,hd⟩:=pl;exact call_list_seq p (.inr U) ho hc hd (λh' c' kp e=>fin its r' hz h' c' kp e) (by simp only[qD]<;>omega)
theorem mH:cr X (.type "tuple") (λxs H Q=>∃p ys,xs=[.ref p]/\((SqL X.K H p ys/\∀l,H l=none->Q (.ref l) (upd H l (.tup ys)))\/(SqT X.K H p ys/\Q (.ref p) H))):=by
 intro pins s σ H xs us Q I r h;obtain⟨p,ys,rfl,h⟩:=h;obtain⟨u,rfl,rx⟩:=ff r;cases rx;rcases h with⟨hq,q⟩|⟨hq,q⟩
 ·obtain⟨its,r',pl,hz⟩:=I.list hq;have hlen:=r'.length;refine call_tuple_list pl.isList (λh' kp=>?_) (by simp only[qD]<;>omega);have I1:Inv X pins σ H { s with heap:=h' }:=I.kept (t':=s.toks) kp
  have I2:Inv X pins σ (upd H h'.objs.size (.tup ys)) { s with heap:=h'.push { cls:=.type "tuple",data:=.seq its.toArray } }:=
   I1.laid (t':=s.toks) (λb o e=>qb _ e) (qf _) (show bF X.prog X.w _ _ _ (.tup ys)from⟨hz,its,r',IsTup.new _ _⟩)
  exact⟨.ref h'.objs.size,_,I2,U,q _ (I1.hok.fresh (qf _))⟩
 ·obtain⟨its,r',pl,hz⟩:=I.tuple hq;exact call_tuple_same pl ⟨.ref p,H,I,U,q⟩
def tyV(K:W.Frag)(T:String)(x:V)(H:Hp):Prop:=match x with
 |.str _=>T="str"
 |.int _=>T="int"
 |.ref p=>(T="list"/\∃xs,SqL K H p xs)\/(T="tuple"/\∃o,K.lookup p=some o/\o.cls=.type "tuple"/\o.dict=none) \/
  (T="dict"/\((∃kvs,H p=some (.dK kvs))\/∃kvs,H p=some (.dT kvs)))\/(T="set"/\∃S n,H p=some (.set S n))
 |_=>False
theorem uz{pins:List (Addr×Obj)}{σ:St}{H:Hp}{s:Shared}{T:String}{x:V}{v:Value}(I:Inv X pins σ H s)(r:aG x v)(ty:tyV X.K T x H):
 s.TypeIs v T/\∀a,v=.ref a->∃ob,s.heap.get? a=some ob/\ob.dict=none:=by
 cases x with
 |str z=>
  obtain⟨t,rfl⟩:=r;cases(show T="str" from ty);exact⟨typeIs_str s z t,λ_ e=>nomatch e⟩
 |int i=>
  obtain⟨t,rfl⟩:=r;cases(show T="int" from ty);exact⟨typeIs_int s i t,λ_ e=>nomatch e⟩
 |ref p=>
  cases r;rcases ty with⟨rfl,xs,hq⟩|⟨rfl,o,hk,hc,hd⟩|⟨rfl,hk⟩|⟨rfl,S,n,hk⟩
  ·obtain⟨its,_,pl,_⟩:=I.list hq;refine⟨pl.isList.typeIs,λa e=>?_⟩;cases e;obtain⟨o,n,e,c,hd,_⟩:=pl;exact⟨o,e,hd⟩
  ·refine⟨⟨o,I.kIn p o hk,hc⟩,λa e=>?_⟩;cases e;exact⟨o,I.kIn _ o hk,hd⟩
  ·have z:∃o,s.heap.get? p=some o/\o.ExactDict:=by
    rcases hk with⟨kvs,hk⟩|⟨kvs,hk⟩
    ·obtain⟨_,_,_,_,o,_,_,e,ex,_⟩:=I.hok p _ hk;exact⟨o,e,ex⟩
    ·obtain⟨_,_,_,_,o,_,_,e,ex,_⟩:=I.hok p _ hk;exact⟨o,e,ex⟩
   obtain⟨o,e,ex⟩:=z;refine⟨⟨o,e,ex.1⟩,λa e2=>?_⟩;cases e2;exact⟨o,e,ex.2.1⟩
  ·obtain⟨o,_,_,_,e,ex,_⟩:=I.hok p _ hk;refine⟨⟨o,e,ex.1⟩,λa e2=>?_⟩;cases e2;exact⟨o,e,ex.2.1⟩
 |_=>exact False.elim ty
def tBM(K:W.Frag)(T:String)(r:V->List V->Hp->VK->Prop)(to:TE)(t:TA):TE:=λσ H Q=>to σ H λx H1=>tyV K T x H1/\t σ H1 λxs H2=>r x xs H2 Q
variable {o e:Expr}{es:List Expr}{to:TE}{t:TA}{name:Str}{apos cpos:Pos}{T id:String}{r:V->List V->Hp->VK->Prop}
theorem xx(pa:PlainAttrs T)(slot:Slot T name id)(hty:typeOf (.builtin id)=pure (.type "method_descriptor"))(hm:MtR X id r)(ho:PE X o to)(ha:PA X (e::es) t)
 (hbase:attributeBase o name X.env (eval o X.env)=eval o X.env:=by rfl)
 (hfew:((backTo cpos (starEach (e::es) X.env)).all (λx=>!x.1) && (backToKw cpos (keywordEach [] X.env)).all (λx=>x.1.isSome)
  && decide ((e::es).length+([]:List Keyword).length+(if([]:List Keyword).isEmpty then 0 else 1)<30))=true:=by rfl)
 (hline:(apos.endLine == cpos.line)=true:=by rfl) (hs:starEach (e::es) X.env=(false,eval e X.env)::starEach es X.env:=by rfl) (hplain:(backTo cpos (starEach es X.env)).any (·.1)=false:=by rfl):
 PE X (.Call (.Attribute o name apos) (e::es) [] cpos) (tBM X.K T r to t):=by
 intro pins s σ H Q I h;refine wpAny_Call_method_late hbase hfew hline U (thn (ho pins s σ H _ I h) λv s1 ⟨x,H1,I1,r1,ty,q1⟩=>?_);obtain⟨h1,h2⟩:=uz I1 r1 ty;refine⟨T,id,pa,slot,hty,h1,h2,?_⟩;have hA:=ha cpos pins s1 σ H1 _ I1 q1;rw[hs]at hA ⊢;refine Calls.callWith_builtin (by show(false || (backTo cpos (starEach es X.env)).any (·.1))=false;rw[hplain]<;>rfl) (Calls.evalArgs_plain ?_);exact thn hA λus s2 ⟨vs,H2,I2,r2,q2⟩=>hm pins s2 σ H2 x vs v us Q I2 r1 r2 q2
end
def MtM(X:Cx)(id:String)(r:V->List V->Hp->VK->Prop):Prop:=
 ∀(pins:List (Addr×Obj))(s:Shared)(σ:St)(H:Hp)(x:V)(xs:List V)(v:Value)(us:List Value)(Q:VK),Inv X pins σ H s->aG x v->ax xs us->r x xs H Q->
  wpAny (model X.prog X.w) X.A (call (.builtin id) (v::us)) (EP X pins σ Q) X.xe s
theorem ax.one:∀{x:V}{us:List Value},ax [x] us->∃u,us=[u]/\aG x u
 |_,_,.cons r .nil=>⟨_,U,r⟩
theorem ax.eraseIdx:∀{xs:List V}{us:List Value}(i:Nat),ax xs us->ax (xs.eraseIdx i) (us.eraseIdx i)
 |_,_,_,.nil=>.nil
 |_,_,0,.cons _ t=>t
 |_,_,i+1,.cons r t=>.cons r (ax.eraseIdx i t)
theorem sx{α:Type}:∀(l:List α)(i:Nat),(l.eraseIdx i).length<=l.length
 |[],_=>qf _
 |_::_,0=>Nat.le_succ _
 |_::r,i+1=>Nat.succ_le_succ (sx r i)
section
variable {X:Cx}{pins:List (Addr×Obj)}{σ:St}{H:Hp}{s:Shared}{l b:Addr}{xs ys zs:List V}
theorem Inv.lset{its its':List Value}{n:Nat}{f:Array Value->Array Value}{t':Nat}(I:Inv X pins σ H s)(hH:H l=some (.lst xs))
 (e:s.heap.get? l=some { cls:=.type "list",data:=.seq its.toArray n }) (hf:f its.toArray=its'.toArray) (hv:ax ys its') (hz:ys.length<=sizeLine):
 Inv X pins σ (upd H l (.lst ys)) { s with heap:=s.heap.update l (Obj.mapSeq f),toks:=t' }:=by
 have q:=PySem.IsL.update e f;rw[hf]at q;refine I.write (x:=l) (e:=l) (by rw[hH];exact trivial) (.inl U) (λb' u hb hu=>(Qt s.heap (Obj.mapSeq f) (Ne.symm hb)).trans hu) ⟨_,q⟩ ?_;exact⟨hz,its',_,hv,q⟩
theorem Inv.lnew{its:List Value}{t':Nat}(I:Inv X pins σ H s)(hv:ax ys its)(hz:ys.length<=sizeLine):
 Inv X pins σ (upd H s.heap.objs.size (.lst ys)) { s with heap:=s.heap.push { cls:=.type "list",data:=.seq its.toArray },toks:=t' }:=
 I.laid (λ_ _ q=>qb _ q) (qf _) ⟨hz,its,0,hv,qq _ U⟩
theorem Inv.fresh(I:Inv X pins σ H s):H s.heap.objs.size=none:=I.hok.fresh (qf _)
theorem Inv.lstM(I:Inv X pins σ H s)(hH:H l=some (.lst xs)):xs.length<=sizeLine/\∃(its:List Value)(n:Nat),ax xs its/\xs.length=its.length/\s.heap.get? l=some { cls:=.type "list",data:=.seq its.toArray n }:=by
 obtain⟨z,its,n,r,e⟩:=I.hok l _ hH;exact⟨z,its,n,r,r.length,e⟩
theorem zb{n:Nat}(h:n<=sizeLine):Builtin.List.listTooLong n=false:=by
 unfold Builtin.List.listTooLong;exact Q4 Yk
end
section
variable {X:Cx}
def wB:V->List V->Hp->VK->Prop:=λx vs H Q=>∃l xs y,x=.ref l/\vs=[y]/\H l=some (.lst xs)/\xs.length<sizeLine/\Q .non (upd H l (.lst (xs++[y])))
theorem zd:MtM X "list.append" wB:=by
 intro pins s σ H x vs v us Q I rx rv h;obtain⟨l,xs,y,rfl,rfl,hH,hz,q⟩:=h;cases rx;obtain⟨u,rfl,ru⟩:=rv.one;obtain⟨z,its,n,r,hl,e⟩:=I.lstM hH;refine call_meets F.slot_list_append ⟨_,e,U⟩ F.entry_list_append (F.args_list_append_2 _ _) (PySem.list_append l its.toArray n u (by rw[qD];omega)) ⟨e,?_⟩;refine⟨.non,_,I.lset (its':=its++[u]) hH e (by simp) (r.append (.cons ru .nil)) ?_,U,q⟩;rw[qc,Q7];omega
def wy:V->List V->Hp->VK->Prop:=λx vs H Q=>∃l b xs zs,x=.ref l/\vs=[.ref b]/\H l=some (.lst xs)/\H b=some (.lst zs)/\xs.length+zs.length<=sizeLine/\Q .non (upd H l (.lst (xs++zs)))
theorem se:MtM X "list.extend" wy:=by
 intro pins s σ H x vs v us Q I rx rv h;obtain⟨l,b,xs,zs,rfl,rfl,hH,hB,hz,q⟩:=h;cases rx;obtain⟨u,rfl,ru⟩:=rv.one;cases ru;obtain⟨z,its,n,r,hl,e⟩:=I.lstM hH;obtain⟨z2,its2,n2,r2,hl2,e2⟩:=I.lstM hB;have hsz:its.toArray.size+its2.toArray.size<=sizeLine:=by rw[qD,qD];omega
 have hlong:¬ (!its.toArray.isEmpty && Builtin.List.listTooLong (its.toArray.size+its2.toArray.size))=true:=by
  rw[zb hsz,Bool.and_false];exact qj
 refine call_meets F.slot_list_extend ⟨_,e,U⟩ F.entry_list_extend (F.args_list_extend_2 _ _)
  (AutoSeq1.list_extend_list_list_0 l its.toArray n b its2.toArray n2 hlong (by rw[qD];omega) Yk) ⟨e,e2,?_⟩
 refine⟨.non,_,I.lset (its':=its++its2) hH e (by simp) (r.append r2) ?_,U,q⟩;rw[qc];omega
def wo:V->List V->Hp->VK->Prop:=λx vs H Q=>∃l xs i k y,x=.ref l/\vs=[.int i]/\H l=some (.lst xs)/\-(2 ^ 63)<=i/\i<2 ^ 63/\seqIndex? i xs.length=some k/\xs[k]?=some y/\Q y (upd H l (.lst (xs.eraseIdx k)))
theorem rZ:MtM X "list.pop" wo:=by
 intro pins s σ H x vs v us Q I rx rv h;obtain⟨l,xs,i,k,y,rfl,rfl,hH,h1,h2,hk,hy,q⟩:=h;cases rx;obtain⟨u,rfl,ru⟩:=rv.one;obtain⟨t,rfl⟩:=ru;obtain⟨z,its,n,r,hl,e⟩:=I.lstM hH;obtain⟨w,hw,rw'⟩:=r.get hy
 refine call_meets F.slot_list_pop ⟨_,e,U⟩ F.entry_list_pop (F.args_list_pop_2 _ _)
  (MeetsSeq.list_pop_at l its.toArray n i t k w (fitsIndex_both h1 h2) (by rw[qD,<- hl];exact hk) (by rw[<- qU];exact hw) (by rw[qD];omega)) ⟨e,?_⟩
 refine⟨y,_,I.lset (its':=its.eraseIdx k) hH e ?_ (r.eraseIdx k) ?_,rw',q⟩
 ·show its.toArray.eraseIdxIfInBounds k=(its.eraseIdx k).toArray;rw[List.eraseIdxIfInBounds_toArray]
 ·have:=sx xs k;omega
end
section
variable {prog:Program}{w:World}{A:Around}{E:Yo}{s:Shared}
set_option maxRecDepth 100000 in
end
section
variable {X:Cx}
end
section
variable {κ:Type} [DecidableEq κ]
def cW(kvs:List (κ×V))(k:κ):Option V:=(kvs.find? λkv=>decide (kv.1=k)).map (·.2)
def d9(kvs:List (κ×V))(k:κ)(v:V):List (κ×V):=
 if(kvs.any λkv=>decide (kv.1=k))=true then kvs.map (λkv=>if kv.1=k then(kv.1,v)else kv)else kvs++[(k,v)]
def dU(kvs:List (κ×V))(k:κ):List (κ×V):=kvs.filter λkv=>decide (kv.1≠k)
theorem nc{p:κ×V}{r:List (κ×V)}{k:κ}(e:p.1=k):cW (p::r) k=some p.2:=by simp[cW,Q9,e]
theorem nh{p:κ×V}{r:List (κ×V)}{k:κ}(e:¬ p.1=k):cW (p::r) k=cW r k:=by simp[cW,Q9,e]
theorem su(kvs:List (κ×V))(k:κ)(v:V):(d9 kvs k v).length<=kvs.length+1:=by
 unfold d9;split
 ·rw[qa];omega
 ·rw[qc,qC,List.length_nil];omega
theorem ck.isSome_eq{o:Option V}{u:Option Value}(r:ck o u):o.isSome=u.isSome:=by
 cases o with
 |none=>cases u with
  |none=>rfl
  |some _=>exact(show False from r).elim
 |some _=>cases u with
  |none=>exact(show False from r).elim
  |some _=>rfl
theorem KV.val{kvs:List (κ×V)}{vs:List (κ×Value)}(r:KV kvs vs)(k:κ):ck (cW kvs k) (valueAt vs k):=by
 unfold KV at r
 induction r with
 |nil=>exact True.intro
 |@cons p q ps qs h t ih=>
  obtain⟨h1,h2⟩:=h;by_cases e:p.1=k
  ·have e':q.1=k:=h1.symm.trans e;have b:valueAt (q::qs) k=some q.2:=by simp[valueAt,Q9,e']
   rw[nc e,b];exact h2
  ·have e':¬ q.1=k:=λz=>e (h1.trans z);have b:valueAt (q::qs) k=valueAt qs k:=by simp[valueAt,Q9,e']
   rw[nh e,b];exact ih
theorem KV.any{kvs:List (κ×V)}{vs:List (κ×Value)}(r:KV kvs vs)(k:κ):(kvs.any λkv=>decide (kv.1=k))=vs.any λkv=>decide (kv.1=k):=by
 unfold KV at r
 induction r with
 |nil=>rfl
 |cons h t ih=>rw[List.any_cons,List.any_cons,ih,h.1]
theorem KV.repl{kvs:List (κ×V)}{vs:List (κ×Value)}(r:KV kvs vs)(k:κ){y:V}{u:Value}(ry:aG y u):
 KV (kvs.map λkv=>if kv.1=k then(kv.1,y)else kv) (vs.map λkv=>if kv.1=k then(kv.1,u)else kv):=by
 unfold KV at r ⊢
 induction r with
 |nil=>exact .nil
 |@cons p q ps qs h t ih=>
  rw[qS,qS];refine .cons ?_ ih;obtain⟨h1,h2⟩:=h;by_cases e:p.1=k
  ·rw[Q1 e,Q1 (h1.symm.trans e)];exact⟨h1,ry⟩
  ·rw[Q0 e,Q0 (λz=>e (h1.trans z))];exact⟨h1,h2⟩
theorem KV.put{kvs:List (κ×V)}{vs:List (κ×Value)}(r:KV kvs vs)(k:κ){y:V}{u:Value}(ry:aG y u):KV (d9 kvs k y) (stored vs k u):=by
 unfold d9 stored;rw[r.any k];by_cases e:(vs.any λkv=>decide (kv.1=k))=true
 ·rw[Q1 e,Q1 e];exact r.repl k ry
 ·rw[Q0 e,Q0 e];exact Paired.snoc r ⟨U,ry⟩
theorem KV.drop{kvs:List (κ×V)}{vs:List (κ×Value)}(r:KV kvs vs)(k:κ):KV (dU kvs k) (without vs k):=by
 unfold KV at r ⊢;unfold dU without
 induction r with
 |nil=>exact .nil
 |@cons p q ps qs h t ih=>
  obtain⟨h1,h2⟩:=h;rw[List.filter_cons,List.filter_cons];by_cases e:p.1=k
  ·have a:¬ decide (p.1≠k)=true:=by simp[e]
   have b:¬ decide (q.1≠k)=true:=by simp[h1.symm.trans e]
   rw[Q0 a,Q0 b];exact ih
  ·have e':¬ q.1=k:=λz=>e (h1.trans z);have a:decide (p.1≠k)=true:=by simp[e]
   have b:decide (q.1≠k)=true:=by simp[e']
   rw[Q1 a,Q1 b];exact .cons ⟨h1,h2⟩ ih
theorem KV.length{kvs:List (κ×V)}{vs:List (κ×Value)}(r:KV kvs vs):kvs.length=vs.length:=Paired.length r
theorem tK(kvs:List (κ×V))(k:κ):(dU kvs k).length<=kvs.length:=List.length_filter_le _ _
end
theorem ig{P:Program}{w:World}{k:Key}{u:Value}(r:aG (kV k) u):(ci P w).is k u=true:=by
 cases k with
 |inl i=>obtain⟨t,e⟩:=(show ∃t,u=Value.int i t from r);subst e;exact zf P w i t
 |inr x=>obtain⟨t,e⟩:=(show ∃t,u=Value.str x t from r);subst e;exact ze P w x t
theorem sJ{P:Program}{w:World}:∀{ks:List Key}{us:List Value},ax (ks.map kV) us->ItemsAre (ci P w) ks us
 |[],_,r=>by rw[List.map_nil]at r;cases r;exact .nil
 |k::ks,_,r=>by
  rw[qS]at r
  cases r with
  |cons h t=>exact .cons (ig h) (sJ t)
abbrev KT(H:Hp):List (List Key×V)->List (List Key×Addr×Value)->Prop:=Paired λp q=>p.1=q.1/\H q.2.1=some (.tup (p.1.map kV))/\aG p.2 q.2.2
section
variable {P:Program}{w:World}{H:Hp}{h:Heap}{a:Addr}
theorem pS{u:HO}(ok:HOk P w H h)(e:Rd H a u):bF P w H h a u:=e.ok ok
theorem mC{kvs:List (Key×V)}(ok:HOk P w H h)(e:Rd H a (.dK kvs)):kvs.length<=sizeLine/\(a == sysModules)=false/\∃vs,KV kvs vs/\h.DictOf (ci P w) a vs:=
 show bF P w H h a (.dK kvs)from pS ok e
theorem ij{kvs:List (Key×V)}(ok:HOk P w H h)(e:H a=some (.dK kvs)):kvs.length<=sizeLine/\(a == sysModules)=false/\∃vs,KV kvs vs/\h.DictOf (ci P w) a vs:=mC ok (.inl e)
theorem zQ{ks:List Key}(ok:HOk P w H h)(e:H a=some (.tup (ks.map kV))):(tupleKind (ci P w)).is h ks a:=by
 obtain⟨_,its,r,o,h1,h2,n,h3⟩:=(show bF P w H h a (.tup (ks.map kV))from ok a _ e);exact⟨o,its.toArray,n,h1,h2,h3,by simpa using sJ r⟩
theorem As{kvs:List (List Key×V)}(ok:HOk P w H h)(e:Rd H a (.dT kvs)):kvs.length<=sizeLine/\(a == sysModules)=false /\
 ∃xs,KT H kvs xs/\h.DictOfH (tupleKind (ci P w)) a xs:=by
 obtain⟨z,y,xs,r,o,es,ep,h1,h2,h3,h4,h5⟩:=(show bF P w H h a (.dT kvs)from pS ok e);refine⟨z,y,xs,r,o,es,ep,h1,h2,h3,h4,λx hx=>?_,h5⟩
 have all:∀{l:List (List Key×V)}{m:List (List Key×Addr×Value)},KT H l m->∀x∈m,(tupleKind (ci P w)).is h x.1 x.2.1:=by
  intro l m q
  induction q with
  |nil=>intro x hx;exact nomatch hx
  |@cons p q ps qs hq t ih=>
   intro x hx;rcases qv.mp hx with e|hx
   ·subst e;exact zQ ok (by rw[<- hq.1];exact hq.2.1)
   ·exact ih x hx
 exact all r x hx
end
section
variable {X:Cx}{pins:List (Addr×Obj)}{σ:St}{H:Hp}{s:Shared}{a:Addr}{y v:V}{u r:Value}{o:Option V}{A:Around}{E:Yo}
theorem Inv.big(I:Inv X pins σ H s):sysModules<s.heap.objs.size:=by
 have h:mainGlobals<s.heap.objs.size:=(I.mod.glob.keeps I.bk).lt;exact Nat.lt_trans Yd h
theorem jh{h':Heap}{t':Nat}{ob:HO}(I:Inv X pins σ H s)(mu:Mut (H a))(hs:Heap.SameBut a s.heap h')(he:∃q,h'.get? a=some q)(new:bF X.prog X.w (upd H a ob) h' a ob):
 Inv X pins σ (upd H a ob) { s with heap:=h',toks:=t' }:=
 I.write (x:=a) (e:=a) mu (.inl U) (λb q hb z=>(hs.2 b hb).trans z) he new
theorem jf{P:Program}{w:World}{H':Hp}{h':Heap}{kvs:List (Key×V)}{vs:List (Key×Value)}(z:kvs.length<=sizeLine)(hd:(a == sysModules)=false)(rel:KV kvs vs)(dd:h'.DictOf (ci P w) a vs):
 bF P w H' h' a (.dK kvs):=⟨z,hd,vs,rel,dd⟩
end
section
variable {X:Cx}{pins:List (Addr×Obj)}{σ:St}{H:Hp}{s:Shared}{a:Addr}{kvs:List (Key×V)}{k:Key}{u:Value}{A:Around}{E:Yo}
theorem Bl{Q:Unit->Shared->Prop}(I:Inv X pins σ H s)(e:H a=some (.dK kvs))(ry:aG (kV k) u)(l:(cW kvs k).isSome=true)(h:∀s',Inv X pins σ (upd H a (.dK (dU kvs k))) s'->Q () s'):
 wpAny (model X.prog X.w) A (delItem (.ref a) u) Q E s:=by
 obtain⟨z,hd,vs,rel,dd⟩:=ij I.hok e
 refine wpAny_delItem_slot dd.typeIs Yd PySem.F.slot_dict_delitem
  (call_meetsIn PySem.F.slot_dict_delitem dd.typeIs PySem.F.entry_dict_delitem (PySem.F.args_dict_delitem_2 _ _) (meets_dict_delitem_pairs (ci X.prog X.w) a (ig ry)) ⟨vs,dd,by rw[<- rel.length];exact z,by rw[<- (rel.val k).isSome_eq];exact l,λh' dd' hs=>h _ ?_⟩)
 have he:∃q,h'.get? a=some q:=let ⟨q,_,_,hq,_⟩:=dd';⟨q,hq⟩;exact jh I (by rw[e];exact True.intro) hs he (jf (qz (tK kvs k) z) hd (rel.drop k) dd')
theorem Az{v:V}{more:List Value}{Q:Yo}(I:Inv X pins σ H s)(e:H a=some (.dK kvs))(ry:aG (kV k) u)(l:cW kvs k=some v)(hm:more=[]\/∃x,more=[x])
 (h:∀w' s',Inv X pins σ (upd H a (.dK (dU kvs k))) s'->aG v w'->Q w' s'):wpAny (model X.prog X.w) A (call (.builtin "dict.pop") (.ref a::u::more)) Q E s:=by
 obtain⟨z,hd,vs,rel,dd⟩:=ij I.hok e;obtain⟨w',hw,rw'⟩:=ck.some_of (v:=v) (o:=valueAt vs k) (by rw[<- l];exact rel.val k)
 have hp:(keyPart u).isSome=true:=by
  cases k with
  |inl i=>obtain⟨t,q⟩:=(show ∃t,u=Value.int i t from ry);subst q;rfl
  |inr x=>obtain⟨t,q⟩:=(show ∃t,u=Value.str x t from ry);subst q;rfl
 have ha:argsOk "dict.pop" ⟨.ref a::u::more,[]⟩:=by
  rcases hm with q|⟨x,q⟩
  ·subst q;exact PySem.F.args_dict_pop_2 _ _
  ·subst q;exact PySem.F.args_dict_pop_3 _ _ _
 refine call_meetsIn PySem.F.slot_dict_pop dd.typeIs PySem.F.entry_dict_pop ha (meets_dict_pop_there (ci X.prog X.w) a (ig ry) more hm hp)
  ⟨vs,w',dd,by rw[<- rel.length];exact z,hw,λh' dd' hs=>h w' _ ?_ rw'⟩
 have he:∃q,h'.get? a=some q:=let ⟨q,_,_,hq,_⟩:=dd';⟨q,hq⟩;exact jh I (by rw[e];exact True.intro) hs he (jf (qz (tK kvs k) z) hd (rel.drop k) dd')
theorem AA{Q:Yo}(I:Inv X pins σ H s)(e:Rd H a (.dK kvs))(h:∀t s',Inv X pins σ H s'->Q (.int kvs.length t) s'):wpAny (model X.prog X.w) A (call (.builtin "len") [.ref a]) Q E s:=by
 obtain⟨z,hd,vs,rel,dd⟩:=mC I.hok e;refine call_len_dict hd dd (by rw[<- rel.length];rw[sizeLine_eq]at z;omega) ?_;rw[<- rel.length];exact h _ _ (I.tok _)
end
section
variable {X:Cx}{o i e value:Expr}{pos pos' tpos:Pos}{td ty tv:TE}
end
theorem Ax{P:Program}{w:World}{H:Hp}(h:Heap)(hb:sysModules<h.objs.size):bF P w H (h.push { cls:=.type "dict",data:=.dict #[] }) h.objs.size (.dK []):=
 ⟨qu _,beq_eq_false_iff_ne.mpr (Ne.symm (qH hb)),[],.nil,Heap.DictOf.new h⟩
section
variable {X:Cx}{pos:Pos}
end
def jx:List (TE×TE)->St->Hp->(List (V×V)->Hp->Prop)->Prop
 |[],_,H,Q=>Q [] H
 |(tk,tv)::r,σ,H,Q=>tk σ H λx H1=>tv σ H1 λy H2=>jx r σ H2 λps H3=>Q ((x,y)::ps) H3
abbrev VV:List (V×V)->List (Value×Value)->Prop:=Paired λp q=>aG p.1 q.1/\aG p.2 q.2
def PPs(X:Cx)(pos:Pos)(keys:List (Option Expr))(values:List Expr)(trs:List (TE×TE)):Prop:=
 ∀(pins:List (Addr×Obj))(s:Shared)(σ:St)(H:Hp)(Q:List (V×V)->Hp->Prop),Inv X pins σ H s->jx trs σ H Q->
  wpAny (model X.prog X.w) X.A (evalPairs (pairTrees keys values X.env pos)) (λvs s'=>∃ps H',Inv X pins σ H' s'/\VV ps vs/\Q ps H') X.xe s
theorem wW{X:Cx}{pos:Pos}:PPs X pos [] [] []:=λpins s σ H Q I h=>pairTrees_nil_walk ⟨[],H,I,.nil,h⟩
theorem wX{X:Cx}{pos:Pos}{k v:Expr}{ks:List (Option Expr)}{vs:List Expr}{tk tv:TE}{trs:List (TE×TE)}(hk:PE X k tk)(hv:PE X v tv)(hr:PPs X pos ks vs trs):
 PPs X pos (some k::ks) (v::vs) ((tk,tv)::trs):=λpins s σ H Q I h=>
 pairTrees_cons_walk (thn (hk pins s σ H _ I h) λu s1 ⟨x,H1,I1,rx,q1⟩=>thn (hv pins s1 σ H1 _ I1 q1) λw2 s2 ⟨y,H2,I2,ry,q2⟩=>
  thn (hr pins s2 σ H2 _ I2 q2) λws s3 ⟨ps,H3,I3,rel,q3⟩=>⟨(x,y)::ps,H3,I3,.cons ⟨rx,ry⟩ rel,q3⟩)
def gB(kvs more:List (Key×V)):List (Key×V):=more.foldl (λacc kv=>d9 acc kv.1 kv.2) kvs
theorem KV.merge:∀{more:List (Key×V)}{rs:List (Key×Value)}{kvs:List (Key×V)}{vs:List (Key×Value)},KV more rs->KV kvs vs->KV (gB kvs more) (merged vs rs):=by
 intro more rs kvs vs r;unfold KV at r
 induction r generalizing kvs vs with
 |nil=>intro q;exact q
 |@cons p q ps qs h t ih=>
  intro r0
  have e:KV (d9 kvs p.1 p.2) (stored vs q.1 q.2):=by
   have:=r0.put p.1 h.2;rw[<- h.1];exact this
  exact ih e
theorem sw:∀(more kvs:List (Key×V)),(gB kvs more).length<=kvs.length+more.length
 |[],kvs=>by show kvs.length<=kvs.length+0;omega
 |p::r,kvs=>by
  have h1:=sw r (d9 kvs p.1 p.2);have h2:=su kvs p.1 p.2;show(gB (d9 kvs p.1 p.2) r).length<=_;rw[qC];omega
theorem tV{P:Program}{w:World}:∀{kvs:List (Key×V)}{ws:List (Value×Value)},VV (kvs.map λkv=>(kV kv.1,kv.2)) ws->∃rs,Carries (ci P w) ws rs/\KV kvs rs
 |[],_,r=>by rw[List.map_nil]at r;cases r;exact⟨[],True.intro,.nil⟩
 |p::kvs,_,r=>by
  rw[qS]at r
  cases r with
  |@cons a b as bs h t=>
   obtain⟨rs,c,q⟩:=tV (P:=P) (w:=w) t;obtain⟨b1,b2⟩:=b;exact⟨(p.1,b2)::rs,⟨ig h.1,U,c⟩,.cons ⟨U,h.2⟩ q⟩
def uY(trs:List (TE×TE)):TE:=λσ H Q=>∀p,H p=none->jx trs σ (upd H p (.dK [])) λps H2=>H2 p=some (.dK [])/\∃kvs:List (Key×V),ps=kvs.map (λkv=>(kV kv.1,kv.2))/\kvs.length<=15/\Q (.ref p) (upd H2 p (.dK (gB [] kvs)))
theorem xu{X:Cx}{pos:Pos}{keys:List (Option Expr)}{values:List Expr}{trs:List (TE×TE)}(h:PPs X pos keys values trs)(hall:keys.all (·.isSome)=true)(hl:keys.length=values.length)(h0:keys≠[])
 (h15:keys.length<=15):PE X (.Dict keys values pos) (uY trs):=by
 intro pins s σ H Q I q;have hn:=I.hok.fresh (qf s.heap.objs.size);have I1:=I.laid (a:=s.heap.objs.size) (o:=.dK []) (h':=s.heap.push { cls:=.type "dict",data:=.dict #[] }) (t':=s.toks) (λ_ _ q=>qb _ q) (qf _) (Ax s.heap I.big);refine wpAny_Dict_walk (knd:=ci X.prog X.w) hall hl h0 h15 (thn (h pins _ σ _ _ I1 (q _ hn)) λws s2 ⟨ps,H2,I2,rel,e,kvs,ep,lk,q2⟩=>?_);subst ep;obtain⟨rs,c,rk⟩:=tV (P:=X.prog) (w:=X.w) rel;obtain⟨z,hd,vs0,r0,dd⟩:=ij I2.hok e;cases r0;refine⟨rs,c,dd,λh' dd' hs=>⟨.ref s.heap.objs.size,_,?_,U,q2⟩⟩
 have hz:(gB [] kvs).length<=sizeLine:=by
  have h1:=sw kvs [];rw[List.length_nil]at h1;rw[sizeLine_eq];omega
 have he:∃q,h'.get? s.heap.objs.size=some q:=let ⟨q,_,_,hq,_⟩:=dd';⟨q,hq⟩;exact jh I2 (by rw[e];exact True.intro) hs he (jf hz hd (rk.merge .nil) dd')
structure M1(X:Cx)(o:Expr)(m:Str)(apos:Pos)(e:Expr)(cpos:Pos):Prop where
 base:attributeBase o m X.env (eval o X.env)=eval o X.env
 few:((backTo cpos (starEach [e] X.env)).all (λx=>!x.1) && (backToKw cpos (keywordEach [] X.env)).all (λx=>x.1.isSome)
  && decide (([e]:List Expr).length+([]:List Keyword).length+(if([]:List Keyword).isEmpty then 0 else 1)<30))=true
 line:(apos.endLine == cpos.line)=true
 trees:backTo cpos (starEach [e] X.env)=[(false,eval e X.env)]
structure M2(X:Cx)(o:Expr)(m:Str)(apos:Pos)(e f:Expr)(cpos:Pos):Prop where
 base:attributeBase o m X.env (eval o X.env)=eval o X.env
 few:((backTo cpos (starEach [e,f] X.env)).all (λx=>!x.1) && (backToKw cpos (keywordEach [] X.env)).all (λx=>x.1.isSome)
  && decide (([e,f]:List Expr).length+([]:List Keyword).length+(if([]:List Keyword).isEmpty then 0 else 1)<30))=true
 line:(apos.endLine == cpos.line)=true
 trees:backTo cpos (starEach [e,f] X.env)=[(false,eval e X.env),(false,eval f X.env)]
def IsD(H:Hp)(a:Addr):Prop:=(∃kvs,Rd H a (.dK kvs))\/∃kvs,Rd H a (.dT kvs)
theorem sL{X:Cx}{pins:List (Addr×Obj)}{σ:St}{H:Hp}{s:Shared}{a:Addr}(I:Inv X pins σ H s)(d:IsD H a):
 s.TypeIs (.ref a) "dict"/\(∀b,Value.ref a=.ref b->∃ob,s.heap.get? b=some ob/\ob.dict=none)/\(a == sysModules)=false:=by
 rcases d with⟨kvs,e⟩|⟨kvs,e⟩
 ·obtain⟨_,hd,vs,_,dd⟩:=mC I.hok e;refine⟨dd.typeIs,λb q=>?_,hd⟩;cases q;obtain⟨ob,_,_,h1,h2,_⟩:=dd;exact⟨ob,h1,h2.2.1⟩
 ·obtain⟨_,hd,xs,_,dd⟩:=As I.hok e;refine⟨dd.typeIs,λb q=>?_,hd⟩;cases q;obtain⟨ob,_,_,h1,h2,_⟩:=dd;exact⟨ob,h1,h2.2.1⟩
section
variable {X:Cx}{pins:List (Addr×Obj)}{σ:St}{H:Hp}{s:Shared}{a:Addr}{y d:V}{u r:Value}{o:Option V}{A:Around}{E:Yo}
end
def v7(td ty:TE):TE:=λσ H Q=>td σ H λx H1=>∃a,x=.ref a/\IsD H1 a/\ty σ H1 λy H2=>∃kvs k v,H2 a=some (.dK kvs)/\y=kV k/\cW kvs k=some v/\Q v (upd H2 a (.dK (dU kvs k)))
section
variable {X:Cx}{o e f:Expr}{apos cpos:Pos}{td ty tx:TE}
theorem xr(ho:PE X o td)(he:PE X e ty)(m:M1 X o "pop" apos e cpos):PE X (.Call (.Attribute o "pop" apos) [e] [] cpos) (v7 td ty):=by
 intro pins s σ H Q I h;refine wpAny_Call_method m.base m.few m.line PySem.F.plainAttrs_dict PySem.F.slot_dict_pop PySem.F.type_dict_pop (thn (ho pins s σ H _ I h) λu s1 ⟨x,H1,I1,rx,a,ex,d,q1⟩=>?_);subst ex;obtain rfl:u=Value.ref a:=rx;obtain⟨t1,t2,_⟩:=sL I1 d;refine⟨t1,t2,?_⟩;rw[m.trees];refine Calls.callWith_builtin U (Calls.evalArgs_plain (Calls.spliced_cons (thn (he pins s1 σ H1 _ I1 q1) λiv s2 ⟨y,H2,I2,ry,kvs,k,v,ea,ey,l,q2⟩=>Calls.spliced_nil ?_)));subst ey;exact Az I2 ea ry l (.inl U) λw' s3 I3 rw'=>⟨v,_,I3,rw',q2⟩
end
section
variable {X:Cx}{pins:List (Addr×Obj)}{σ:St}{H:Hp}{s:Shared}{a:Addr}{kvs:List (Key×V)}{A:Around}{E:Yo}
end
section
variable {X:Cx}{pins:List (Addr×Obj)}{σ:St}{H:Hp}{s:Shared}{a:Addr}{y:V}{u:Value}{A:Around}{E:Yo}
end
end L2
namespace Att
open PySem PySem.W PySem.Calls PyProof.Rows
theorem A6{P:Params}{h:Heap}:∀(ns:List Int)(vs:List Value),WellAll P h vs (ns.map WData.int)->IntsAre vs ns:=by
 intro ns
 induction ns with
 |nil=>
  intro vs w;rw[List.map_nil]at w;cases w;exact .nil
 |cons n ns ih=>
  intro vs w;rw[qS]at w
  cases w with
  |cons a b=>
   cases a;exact .cons _ _ (ih _ b)
theorem vq{l:OpenLaw}{n:Nat}(hn:l.most=some n){P:Params}{h:Heap}{args:List WData}{vals:List Value}
 (hpre:l.row.toRowW.claim.pre args=true) (hwl:WellAll P h vals args):
 ∃a vs ns,vals=[Value.ref a]/\args=[WData.list (ns.map WData.int)]/\h.get? a=some { cls:=.type "list",data:=.seq vs.toArray }/\IntsAre vs ns/\ns.length<=n:=by
 have hsh:WShape.hasAll [] args [.list .int]=true:=(pre_splitW hpre).1;have hc:l.pre.holds [] { args:=args }=true:=(pre_splitW hpre).2;obtain⟨d,r,rfl,h1,h2⟩:=hasAllW_cons hsh;obtain rfl:=hasAllW_nil h2;obtain⟨xs,rfl,h3⟩:=hasW_list h1;obtain⟨ns,rfl⟩:=items_int h3
 have hlen:ns.length<=n:=by
  unfold OpenLaw.pre at hc
  have h4:(WTm.not (.lt (.lit (.int (n:Int))) (.len (.arg 0)))).holds [] { args:=[.list (ns.map .int)] }=true:=by
   have h4:=(holds_andW hc).1;rw[hn]at h4;exact h4
  have h5:=condW_of h4 (w_not (w_lt w_lit (w_len_list (w_arg U))));rw[qa]at h5;refine Nat.le_of_not_lt λq=>?_;have q':(n:Int)<((ns.length:Nat):Int):=Yk
  first
   |(rw[Q3 q']at h5;exact Q5 h5 Yd)
   |(simp at h5;omega)
 cases hwl with
 |cons w1 w2=>
  cases w2
  cases w1 with
  |list ho hall=>exact⟨_,_,ns,U,U,ho,A6 ns _ hall,hlen⟩
theorem wY(l:OpenLaw)(args:List WData):l.row.toRowW.claim.post args (.bool true) args=true:=
 postW_of (r:=l.row.toRowW) (X:=(true == true))
  (show WShape.has [] (.bool true) .bool=true by first|rfl|decide|simp[WShape.has,WShape.arms,WShape.armsAll])
  (show(WTm.eq .res (.lit (.bool true))).value [] { args:=args,res:=some (.bool true),after:=args }=some (.bool (true == true))from w_eq_bool (w_res U) w_lit) U
section
variable {prog:Program}{w:World}{A:Around}{E:Yo}{s:Shared}{K:Frag}
end
end Att
namespace L2
open PySem PySem.Spec PyProof.Rows
theorem jr:∀{vs:List Value}{ns:List Int},IntsAre vs ns->ax (ns.map V.int) vs
 |_,_,.nil=>.nil
 |_,_,.cons n t h=>.cons ⟨t,U⟩ (jr h)
def jl(H:Hp):Prop:=∀b,H b=none\/∃o xs,H b=some (.frz o (.lst xs))
theorem zK{P:Program}{w:World}{K:W.Frag}{mg mb:Str->Option Value}{CX:CXT}{k:Nat}{fa a:Addr}{fd:FuncData}{x:Str}{sp:Sp}{s₁:Shared}{vs:List Value}{ns:List Int}
 (KX:K.In s₁.heap) (hns:s₁.heap.Ns mainGlobals mg) (hb:s₁.heap.Ns builtinsNs mb) (hbb:∀x:Str,x≠"__name__"->mb x=bootBuiltins x) (hlim:s₁.heap.NoLimit) (hg:s₁.gens=#[])
 (ha:s₁.heap.get? a=some { cls:=.type "list",data:=.seq vs.toArray }) (hi:IntsAre vs ns) (hl:ns.length<=sizeLine) (hr:bC k callerA)
 (F:∀base:Heap,K.In base->base.Ns mainGlobals mg->aA P w K mg base CX k fa fd [x] sp) (hbind:∀(s:Shared)(u:Value),BindsTo s fd ⟨[u],[]⟩ [(x,u)])
 (hsp:∀H:Hp,jl H->SqL K H a (ns.map V.int)->sp [.ref a] H (λv _=>v=.bl true) λ_ _ _=>False)
 (hCX:∀H e s',CX [] H s₁ (λ_ _ _=>False) e s'->False):
 codeAny (model P w) callerA (.call (.ref fa) ⟨[.ref a],[]⟩) (λr s'=>r=.ok (.ret (.bool true))/\OldK s₁.heap s'.heap/\s'.os=s₁.os/\AllBare s'.gens) s₁:=by
 have rv:=jr hi;have db:=hi.length
 have core:∀H:Hp,jl H->SqL K H a (ns.map V.int)->HOk P w H s₁.heap->(∀b,H b≠none->b=a)->(H a≠none->K.lookup a=none)->
  codeAny (model P w) callerA (.call (.ref fa) ⟨[.ref a],[]⟩) (λr s'=>r=.ok (.ret (.bool true))/\OldK s₁.heap s'.heap/\s'.os=s₁.os/\AllBare s'.gens) s₁:=by
  intro H hO hS hok hA hK;have base_of:∀{b:Addr}{o:Obj},s₁.heap.get? b=some o->H b=none->(eE s₁.heap H).get? b=some o:=λe n=>Ac e n
  have noA:∀{b:Addr}{o:Obj}{es:Array DictEntry}{ep:Nat},s₁.heap.get? b=some o->o.data=.dict es ep->H b=none:=λ{b o es ep} e d=>by
   cases q:H b with
   |none=>rfl
   |some u=>
    have e':b=a:=hA b (by rw[q];simp);subst e';rw[ha]at e;cases e;have d':Data.seq vs.toArray _=Data.dict es ep:=d;cases d'
  have nsK:∀{b:Addr}{m:Str->Option Value},s₁.heap.Ns b m->(eE s₁.heap H).Ns b m:=λ{b m}⟨o,es,ep,e,d,r⟩=>⟨o,es,ep,base_of e (noA e d),d,r⟩
  have hKb:K.In (eE s₁.heap H):=λb o e=>base_of (KX b o e) (by
   cases q:H b with
   |none=>rfl
   |some u=>
    have e':b=a:=hA b (by rw[q];simp);subst e'
    rw[hK (by rw[q];simp)]at e;cases e)
  have hM:Mod K mg (eE s₁.heap H):=⟨hKb,nsK hns,⟨mb,nsK hb,hbb⟩,let ⟨mc,h1,h2⟩:=hlim;⟨mc,nsK h1,h2⟩⟩;have e0:fX P w K mg (eE s₁.heap H) callerA [] s₁ H:=⟨U,hM,λb o e=>yY e,Nat.le_of_eq (Ab _ _),trivial,λb hb=>Q5 (show b∈([]:List Addr)from hb) (by simp),hok,.of_eq hg⟩;refine codeAny_mono ((F _ hKb (nsK hns)).run callerA [] s₁ H ⟨[.ref a],[]⟩ [.ref a] [.ref a] _ _ hr e0 (hbind s₁ (.ref a)) (.cons U .nil) (hsp H hO hS)) λr s' h=>?_
  cases r with
  |error e=>exact(hCX H e s' h).elim
  |ok fl=>
   cases fl with
   |next=>exact False.elim h
   |brk=>exact False.elim h
   |cont=>exact False.elim h
   |ret u=>
    obtain⟨v,H',os,bare,un,hok',r',q⟩:=h;have q':v=.bl true:=q;subst q';obtain rfl:u=Value.bool true:=r';refine⟨U,OldK.of_keep λb o e=>?_,os,bare⟩
    cases q:H b with
    |none=>exact un.keep b o e q (by intro z;exact Q5 (show b∈([]:List Addr)from z) (by simp)) (by simp)
    |some u=>
     rcases hO b with z|⟨ob,xs,z⟩
     ·rw[q]at z;cases z
     ·have z2:=un.frzs b ob _ z;obtain⟨e1,_⟩:=hok b _ z;obtain⟨e2,_⟩:=hok' b _ z2;rw[e]at e1;cases e1;exact e2
 cases hk:K.lookup a with
 |some o=>
  have e:=KX a o hk;rw[ha]at e;cases e;refine core (λ_=>none) (λ_=>.inl U) (.inr ⟨_,vs.toArray,_,hk,U,U,U,by rw[qD,db];exact hl,by simpa using rv⟩) (λb u z=>by have z':(none:Option HO)=some u:=z;cases z') (λb z=>Q5 U z) λz=>Q5 U z
 |none=>
  refine core (λb=>if b=a then some (.frz { cls:=.type "list",data:=.seq vs.toArray } (.lst (ns.map V.int)))else none) (λb=>?_) (.inl (.inr ⟨{ cls:=.type "list",data:=.seq vs.toArray },Q1 U⟩)) (λb u z=>?_) (λb z=>?_) λ_=>hk
  ·by_cases hb:b=a
   ·exact .inr ⟨_,_,Q1 hb⟩
   ·exact .inl (Q0 hb)
  ·by_cases hb:b=a
   ·have z':=(Q1 hb).symm.trans z;cases z';subst hb;exact⟨ha,by rw[qa];exact hl,vs,_,rv,ha⟩
   ·have z':=(Q0 hb).symm.trans z;cases z'
  ·by_cases hb:b=a
   ·exact hb
   ·exact Q5 (Q0 hb) z
abbrev CX0:CXT:=λ_ _ _ _ _ _=>False
abbrev E0:XK:=λ_ _ _=>False
theorem ar{X:Cx}:fb CX0 X E0:=λ_ _ _ _ _ _ _ h=>h.elim
structure Fun(K:W.Frag)(x qual:Str)(st:Stmt)(f:Addr)(fd:FuncData):Prop where
 ex:∃(oc:Value)(od:Option Addr)(kV doc pm:Value)(an:Option Addr)(cdv ct:Value)(osl:Array (Option Value)),
  fd=PySem.W.fnOf x qual (cU st) (cH st) (am st) .none kV doc pm an cdv ct/\K.lookup f=some ⟨oc,od,.func fd,osl⟩/\PySem.W.codeIn K cdv qual=true
 kp:PySem.W.keepIn K (.ref f)=true
section
variable {P:Program}{w:World}{K:W.Frag}{mg:Str->Option Value}{base:Heap}
theorem Fun.ok{x qual:Str}{st:Stmt}{f:Addr}{fd:FuncData}{N ps:List Str}{k:Nat}{sp:Sp}(F:Fun K x qual st f fd)(S:aJ N ps (am st))(len:∀vs H Q E,sp vs H Q E->vs.length=ps.length)
 (hbody:∀(cdv:Value)(A:Around)(outer:List Env)(s:Shared)(H:Hp)(vs:List V)(Q:VK)(E:XK),bC k (A.deeper (envOfC qual (am st) s.heap.objs.size f cdv))->sp vs H Q E->
  ∃t,PSs (eI CX0 P w K mg base N qual (am st) f cdv A outer s H E).nox (cH st) t/\t { nx:=λ_ H'=>Q .non H',rt:=Q } (start N vs) H):aA P w K mg base CX0 (k+1) f fd ps sp:=by
 obtain⟨oc,od,kV,doc,pm,an,cdv,ct,osl,rfl,lk,hcd⟩:=F.ex;refine tE lk hcd S len λA outer s H vs Q E hr hsp=>?_;obtain⟨t,h,q⟩:=hbody cdv A outer s H vs Q E hr hsp;exact⟨t,h.nox,q⟩
theorem Fun.binds{x qual:Str}{st:Stmt}{f:Addr}{fd:FuncData}{ps:List Str}(F:Fun K x qual st f fd)
 (h:∀(kV doc pm:Value)(an:Option Addr)(cdv ct:Value)(us:List Value),us.length=ps.length->bindArgs (PySem.W.fnOf x qual (cU st) (cH st) (am st) .none kV doc pm an cdv ct) ⟨us,[]⟩=pure (ps.zip us)):aC K fd ps []:=by
 obtain⟨oc,od,kV,doc,pm,an,cdv,ct,osl,rfl,lk,hcd⟩:=F.ex;exact .all (h kV doc pm an cdv ct)
theorem Ao{x qual:Str}{st:Stmt}{f:Addr}{oc:Value}{od an:Option Addr}{osl:Array (Option Value)}{kV doc pm cdv ct:Value}(l:K.lookup f=some ⟨oc,od,.func (PySem.W.fnOf x qual (cU st) (cH st) (am st) .none kV doc pm an cdv ct),osl⟩)
 (c:PySem.W.codeIn K cdv qual=true) (k:PySem.W.keepIn K (.ref f)=true):Fun K x qual st f (PySem.W.fnOf x qual (cU st) (cH st) (am st) .none kV doc pm an cdv ct):=⟨⟨oc,od,kV,doc,pm,an,cdv,ct,osl,U,l,c⟩,k⟩
end
section
variable {X:Cx}
end
theorem dF{A B:Prop}(h:B):if false=true then A else B:=by
 rw[Q0 qj];exact h
theorem md{A B:Prop}(h:A):if true=true then A else B:=by
 rw[Q1 U];exact h
theorem bc{c A B:Prop}[Decidable c](h1:c->A)(h2:¬ c->B):if c then A else B:=by
 by_cases h:c
 ·rw[Q1 h];exact h1 h
 ·rw[Q0 h];exact h2 h
theorem ii{c A B:Prop}[Decidable c](hc:c)(h:B):if(!decide c)=true then A else B:=by
 rw[Q3 hc];exact dF h
def a9(H H':Hp):Prop:=∀b o,H b=some o->H' b=some o
theorem a9.refl(H:Hp):a9 H H:=λ_ _ h=>h
theorem a9.trans{H H1 H2:Hp}(a:a9 H H1)(b:a9 H1 H2):a9 H H2:=λc o h=>b c o (a c o h)
theorem a9.seq{K:W.Frag}{H H':Hp}{a:Addr}{xs:List V}(e:a9 H H')(h:SqL K H a xs):SqL K H' a xs:=by
 rcases h with(h|⟨o,h⟩)|h
 ·exact .inl (.inl (e _ _ h))
 ·exact .inl (.inr ⟨o,e _ _ h⟩)
 ·exact .inr h
section
variable {X:Cx}
theorem AU:cr X (.builtin "len") (λxs H Q=>∃a kvs,xs=[V.ref a]/\H a=some (.dK kvs)/\Q (.int kvs.length) H):=by
 intro pins s σ H xs us Q I r h;obtain⟨a,kvs,rfl,ha,q⟩:=h;obtain⟨u,rfl,ru⟩:=ff r;cases ru;exact AA I (.inl ha) λt s' I'=>⟨.int kvs.length,H,I',⟨t,U⟩,q⟩
end
section
variable {κ:Type} [DecidableEq κ]
end
def cY(cells:List (Str×Addr)):List (Str×NameKind)->List (Str×Addr)->List (Str×Addr)
 |[],acc=>acc
 |(n,k)::r,acc=>cY cells r (if k == .free then(match cells.lookup n with|some c=>(n,c)::acc|none=>acc)else acc)
theorem AM{scope:Scope}{env:Env}(h:∀y∈scope.names,y.2=.free->∃c,env.cells.lookup y.1=some c):closureFor scope env=pure (cY env.cells scope.names []):=by
 simp only[closureFor];generalize ([]:List (Str×Addr))=acc
 revert h
 generalize scope.names=l;intro h
 induction l generalizing acc with
 |nil=>simp[cY]
 |cons x r ih=>
  obtain⟨n,k⟩:=x;rw[List.forIn_cons];have hr:∀y∈r,y.2=NameKind.free->∃c,env.cells.lookup y.1=some c:=λy hy=>h y (qm _ hy);by_cases hk:k=.free
  ·subst hk;obtain⟨c,e⟩:=h (n,.free) qp U;have e':List.lookup n env.cells=some c:=e;have e2:cellOf env n=pure c:=by unfold cellOf;rw[e']
   simp only[beq_self_eq_true,if_true,e2,pure_bind,cY,e'];exact ih _ hr
  ·have hb:(k == NameKind.free)=false:=by simpa using hk
   simp only[hb,Qk,if_false,pure_bind,cY];exact ih _ hr
theorem tj(cells:List (Str×Addr)):∀(l:List (Str×NameKind))(acc:List (Str×Addr))(p:Str×Addr),p∈cY cells l acc->p∈acc\/(p.1,NameKind.free)∈l/\cells.lookup p.1=some p.2
 |[],_,_,h=>.inl h
 |(n,k)::r,acc,p,h=>by
  have h':p∈cY cells r (if k == .free then(match cells.lookup n with|some c=>(n,c)::acc|none=>acc)else acc):=h;rcases tj cells r _ p h' with q|⟨q1,q2⟩
  ·by_cases hk:k=.free
   ·subst hk;simp only[beq_self_eq_true,if_true]at q
    cases e:cells.lookup n with
    |none=>rw[e]at q;exact .inl q
    |some c=>
     rw[e]at q;rcases qv.mp q with rfl|q
     ·exact .inr ⟨qp,e⟩
     ·exact .inl q
   ·have hb:(k == NameKind.free)=false:=by simpa using hk
    simp only[hb,Qk,if_false]at q;exact .inl q
  ·exact .inr ⟨qm _ q1,q2⟩
theorem sj{α β:Type}[BEq α][LawfulBEq α]{x:α}:∀{l:List (α×β)}{c:β},(x,c)∈l->∃d,l.lookup x=some d
 |(a,b)::r,c,h=>by
  by_cases e:x=a
  ·subst e;exact⟨b,by simp⟩
  ·rcases qv.mp h with q|q
   ·cases q;exact Q5 U e
   ·obtain⟨d,hd⟩:=sj q;refine⟨d,?_⟩;have e':(x == a)=false:=by simpa using e
    simp only[List.lookup_cons,e'];exact hd
theorem tq(cells:List (Str×Addr))(x:Str)(c:Addr)(e:cells.lookup x=some c):∀(l:List (Str×NameKind))(acc:List (Str×Addr)),((x,NameKind.free)∈l\/(x,c)∈acc)->(x,c)∈cY cells l acc
 |[],_,h=>h.elim (λq=>nomatch q) id
 |(n,k)::r,acc,h=>by
  refine tq cells x c e r _ ?_;rcases h with h|h
  ·rcases qv.mp h with q|q
   ·cases q;refine .inr ?_;rw[e];exact qp
   ·exact .inl q
  ·refine .inr ?_;by_cases hk:(k == NameKind.free)=true
   ·rw[Q1 hk]
    cases cells.lookup n with
    |none=>exact h
    |some _=>exact qm _ h
   ·rw[Q0 hk];exact h
theorem f6{cells:List (Str×Addr)}{names:List (Str×NameKind)}{x:Str}{c:Addr}(h:(cY cells names []).lookup x=some c):cells.lookup x=some c:=by
 have hm:=Qi h;rcases tj cells names [] _ hm with q|⟨_,q⟩
 ·exact nomatch q
 ·exact q
theorem tu{cells:List (Str×Addr)}{names:List (Str×NameKind)}{x:Str}{c:Addr}(hm:(x,NameKind.free)∈names)(e:cells.lookup x=some c):(cY cells names []).lookup x=some c:=by
 obtain⟨d,hd⟩:=sj (tq cells x c e names [] (.inl hm));have:=f6 hd;rw[e]at this;rw[hd,this]
theorem pP{scope:Scope}{env:Env}{x:Str}{k:NameKind}(h:(relabel scope env).names.lookup x=some k):∃k',scope.names.lookup x=some k'/\(k'=k\/(k'=.free/\k=.cell)):=by
 have go:∀(l:List (Str×NameKind)),(l.map λ(n,k)=>if(k == NameKind.free && env.scope.kind == .function && env.kindOf n == some .cell)then(n,NameKind.cell)else(n,k)).lookup x=some k->∃k',l.lookup x=some k'/\(k'=k\/(k'=.free/\k=.cell)):=by
  intro l
  induction l with
  |nil=>intro h;simp at h
  |cons p r ih=>
   obtain⟨n,kk⟩:=p;intro h;simp only[qS]at h;by_cases hx:x=n
   ·subst hx;by_cases hc:(kk == NameKind.free && env.scope.kind == .function && env.kindOf x == some .cell)=true
    ·rw[Q1 hc]at h;simp at h
     have:kk=.free:=by
      simp only[Bool.and_eq_true,beq_iff_eq]at hc;exact hc.1.1
     exact⟨kk,by simp,.inr ⟨this,h.symm⟩⟩
    ·rw[Q0 hc]at h;simp at h;exact⟨kk,by simp,.inl h⟩
   ·have e':(x == n)=false:=by simpa using hx
    have:∀b:Bool,(if b=true then(n,NameKind.cell)else(n,kk)).1=n:=λb=>by cases b<;>rfl
    rw[List.lookup_cons,this,e']at h;obtain⟨k',h1,h2⟩:=ih h;exact⟨k',by rw[List.lookup_cons,e'];exact h1,h2⟩
 exact go scope.names h
theorem we{scope:Scope}{env:Env}{x:Str}(h:scope.names.lookup x=some .free):(relabel scope env).names.lookup x=some .cell\/(relabel scope env).names.lookup x=some .free:=by
 have go:∀(l:List (Str×NameKind)),l.lookup x=some .free->(l.map λ(n,k)=>if(k == NameKind.free && env.scope.kind == .function && env.kindOf n == some .cell)then(n,NameKind.cell)else(n,k)).lookup x=some .cell\/(l.map λ(n,k)=>if(k == NameKind.free && env.scope.kind == .function && env.kindOf n == some .cell)then(n,NameKind.cell)else(n,k)).lookup x=some .free:=by
  intro l
  induction l with
  |nil=>intro h;simp at h
  |cons p r ih=>
   obtain⟨n,kk⟩:=p;intro h;simp only[qS];by_cases hx:x=n
   ·subst hx;simp at h;by_cases hc:(kk == NameKind.free && env.scope.kind == .function && env.kindOf x == some .cell)=true
    ·rw[Q1 hc];simp
    ·rw[Q0 hc];simp[h]
   ·have e':(x == n)=false:=by simpa using hx
    have t:∀b:Bool,(if b=true then(n,NameKind.cell)else(n,kk)).1=n:=λb=>by cases b<;>rfl
    rw[List.lookup_cons,e']at h;rw[List.lookup_cons,t,e'];exact ih h
 exact go scope.names h
section
variable {prog:Program}{w:World}{A:Around}{R:Result->Shared->Prop}{s:Shared}
theorem AL{elt target iter:Expr}{ifs:List Expr}{scope:Scope}{pos:Pos}{it acc:Value}{env:Env}(I:Nat->Shared->Prop)
 (turn:∀n s,I n s->wpAny (model prog w) A (pyNext it) (λr s₁=>match r with
  |none=>R (.ok .next) s₁
  |some v=>wpAny (model prog w) A (letOwnedTupleGo target it v) (λ_ s₁'=>wpAny (model prog w) A (assign target env v) (λ_ s₂=>
   wpAny (model prog w) A (forIn ifs true λc r=>if r=true then do let ok <- isTrue c env (eval c env);pure (ForInStep.yield ok)else pure (ForInStep.yield r)) (λok s₃=>
    if ok=true then wpAny (model prog w) A (eval elt env) (λx s₄=>
     wpAny (model prog w) A (call (.builtin "list.append") [acc,x]) (λ_ s₅=>∃m,m<n/\I m s₅) (λ_ _=>False) s₄) (λ_ _=>False) s₃
    else ∃m,m<n/\I m s₃) (λ_ _=>False) s₂) (λ_ _=>False) s₁') (λ_ _=>False) s₁) (λ_ _=>False) s)
 (n:Nat) (h:I n s):
 codeAny (model prog w) A (.compLoop (.ListComp elt [⟨target,iter,ifs,0⟩] scope pos) 0 it acc env) R s:=by
 refine codeAny_loop U I (λn s hI=>?_) n h;show wpAny _ A ((compTurn (.ListComp elt [⟨target,iter,ifs,0⟩] scope pos) 0 it acc env).onRaise (λx=>do noteFrame x env;theTreesLotGoes x)) _ _ s;refine wpAny_noted ?_;rw[compTurn_list];refine q9 (wpAny_standAt (q9 (wpAny_mono (turn n s hI) (λr s₁ h₁=>?_) λ_ _ h'=>h'.elim)))
 cases r with
 |none=>exact qe h₁
 |some v=>
  refine q9 (wpAny_mono h₁ (λ_ s₁' h₁'=>?_) λ_ _ h'=>h'.elim);refine q9 (wpAny_mono h₁' (λ_ s₂ h₂=>q9 (wpAny_mono h₂ (λok s₃ h₃=>?_) λ_ _ h'=>h'.elim)) λ_ _ h'=>h'.elim)
  cases ok with
  |false=>exact qe ⟨U,h₃⟩
  |true=>
   exact q9 (q9 (wpAny_mono h₃ (λx s₄ h₄=>q9 (wpAny_mono h₄ (λ_ s₅ h₅=>qe (qe ⟨U,h₅⟩)) λ_ _ h'=>h'.elim)) λ_ _ h'=>h'.elim))
end
structure aK(esc:Scope)(N:List Str)(scope:Scope)(k:Nat)(Nc:List Str)(js:List Nat):Prop where
 kind:scope.kind=.function
 cell:∀y∈scope.names,y.2≠.cell
 names:∀y∈scope.names,y.2=.local->scope.names.lookup y.1=some .local
 free:∀y∈scope.names,y.2=.free->esc.names.lookup y.1=some .cell\/esc.names.lookup y.1=some .free
 len:Nc.length=k+js.length
 out:∀p∈(Nc.drop k).zip js,N[p.2]?=some p.1/\scope.names.lookup p.1=some .free
def fS(k:Nat)(js:List Nat)(σ:St):St:=List.replicate k none++js.map λj=>(σ[j]?).join
def Cx.comp(X:Cx)(pins:List (Addr×Obj))(Nc:List Str)(scope:Scope)(fp:List Addr)(s:Shared)(H:Hp)(C:Addr):Cx:=
 { X with N:=Nc,s₀:=s,H₀:=H,env:=compEnvC scope (cY X.env.cells scope.names []) C X.env,outer:=X.stack,stack:=X.stack,ex:=fp,fn:=λ_=>false,pn:=X.pn++pins,xe:=λ_ _=>False }
section
variable {X:Cx}{pins:List (Addr×Obj)}{σ:St}{H:Hp}{s:Shared}{scope:Scope}{Nc:List Str}{js:List Nat}{k:Nat}
theorem aK.some(S:aK X.env.scope X.N scope k Nc js)(I:Inv X pins σ H s):∀y∈scope.names,y.2=.free->∃c,X.env.cells.lookup y.1=some c:=λy hy hk=>I.ok.has y.1 (S.free y hy hk)
theorem aK.clos(S:aK X.env.scope X.N scope k Nc js)(I:Inv X pins σ H s):closureFor scope X.env=pure (cY X.env.cells scope.names []):=AM (S.some I)
theorem AI(S:aK X.env.scope X.N scope k Nc js)(I:Inv X pins σ H s){fp:List Addr}(hf:∀b∈fp,cI X pins H b)(hlt:∀b∈fp,b<s.heap.objs.size){C:Addr}(hC:s.heap.objs.size<=C):(X.comp pins Nc scope fp s H C).Ok:=by
 have ltC:∀b,b<s.heap.objs.size->b≠C:=λb hb=>qH (qE hb hC)
 have notstk:∀b∈fp,b∉frs X.stack:=λb hb z=>by
  rcases qv.mp (I.stkSub b z)with e|e
  ·exact(hf b hb).2.1 e
  ·exact(hf b hb).2.2.1 e
 refine⟨I.ok.mod,S.kind,I.ok.glob,I.ok.blt,hC,λx y c h1 h2=>I.ok.inj x y c (f6 h1) (f6 h2),λx hx=>?_,λx c h=>?_,I.ok.hd,I.ok.frames,.inl U,λb hb=>⟨?_,λx c e=>(hf b hb).2.2.2.2.1 x c (f6 e)⟩,
  λb o e=>⟨(I.bs b o e).1,(I.bs b o e).2⟩,qz I.ok.bsz I.sz,λb o e hb=>?_,notstk,I.stack,I.stkFree⟩
 ·have hx':(relabel scope X.env).names.lookup x=some .cell\/(relabel scope X.env).names.lookup x=some .free:=hx
  have hfree:(x,NameKind.free)∈scope.names:=by
   rcases hx' with h|h
   ·obtain⟨k',h1,h2⟩:=pP h;rcases h2 with rfl|⟨rfl,_⟩
    ·exact Q5 U (S.cell _ (Qi h1))
    ·exact Qi h1
   ·obtain⟨k',h1,h2⟩:=pP h;rcases h2 with rfl|⟨rfl,_⟩
    ·exact Qi h1
    ·exact Qi h1
  obtain⟨c,hc⟩:=S.some I (x,.free) hfree U;exact⟨c,tu hfree hc⟩
 ·exact Q5 (show false=true from h) qj
 ·exact ltC b (hlt b hb)
 ·rcases(hf b hb).2.2.2.1 with q|q
  ·exact I.ok.noex b o e q
  ·exact Q5 (qE (qr e) (qz I.ok.bsz q)) (Qc _)
theorem AJ(S:aK X.env.scope X.N scope k Nc js)(I:Inv X pins σ H s){fp:List Addr}(hf:∀b∈fp,cI X pins H b)(hlt:∀b∈fp,b<s.heap.objs.size){C:Addr}(hC:s.heap.objs.size<=C){s1:Shared}
 (os:s1.os=s.os) (bare:AllBare s1.gens) (kept:∀b o,s.heap.get? b=some o->s1.heap.get? b=some o) (ns:∃m,s1.heap.Ns C m):Inv (X.comp pins Nc scope fp s H C) [] (fS k js σ) H s1:=by
 have ltC:∀b,b<s.heap.objs.size->b≠C:=λb hb=>qH (qE hb hC);refine⟨AI S I hf hlt hC,os,bare,Un.kept kept,?_,λx c e=>?_,I.hok.fresh hC,λx c e=>I.freeC x c (f6 e),λp hp=>?_,I.hok.kept kept,?_⟩
 ·obtain⟨mc,hns⟩:=ns;refine⟨mc,hns,λi x v e1 e2 e3=>?_⟩;have e1':Nc[i]?=some x:=e1;by_cases hi:i<k
  ·unfold fS at e2;rw[Q6 (by simpa using hi),List.getElem?_replicate,Q1 hi]at e2;cases e2
  ·obtain⟨i',rfl⟩:∃i',i=k+i':=⟨i-k,Yk⟩;unfold fS at e2;rw[qM (by simp),List.length_replicate,Nat.add_sub_cancel_left,qF]at e2
   cases ej:js[i']? with
   |none=>rw[ej]at e2;cases e2
   |some j=>
    rw[ej]at e2;have e2':(σ[j]?).join=some v:=qK e2
    have e4:σ[j]?=some (some v):=by
     cases q:σ[j]? with
     |none=>rw[q]at e2';cases e2'
     |some z=>rw[q]at e2';cases z with
      |none=>cases e2'
      |some z=>cases e2';rfl
    have hm:(x,j)∈(Nc.drop k).zip js:=qA (i:=i') (List.getElem?_zip_eq_some.mpr ⟨by rw[List.getElem?_drop];exact e1',ej⟩);obtain⟨hN,hfr⟩:=S.out _ hm;have hfm:(x,NameKind.free)∈scope.names:=Qi hfr;have hk:=S.free _ hfm U;obtain⟨m,hn,hl⟩:=I.loc;obtain⟨u,r,l⟩:=hl j x v hN e4 (.inr hk);refine⟨u,r,?_⟩;rcases l with⟨hk',_⟩|⟨_,c,hc,o,ho,hd⟩
    ·have hk'':X.env.scope.names.lookup x=some .local:=hk';rcases hk with hk|hk
     ·rw[hk]at hk'';cases hk''
     ·rw[hk]at hk'';cases hk''
    ·exact .inr ⟨we hfr,c,tu hfm hc,o,kept _ _ ho,hd⟩
 ·obtain⟨v,o,ho,hd⟩:=I.cell x c (f6 e);exact⟨v,o,kept _ _ ho,hd⟩
 ·have hp':p∈X.pn++pins:=by
   rcases qi.mp hp with z|z
   ·exact z
   ·exact nomatch z
  obtain⟨e,n,ne,nf,d⟩:=I.pin p hp';refine⟨kept _ _ e,n,ltC _ (qr e),λz=>?_,d⟩;rcases qv.mp (I.stkSub _ z)with q|q
  ·exact ne q
  ·exact nf q
 ·show(fS k js σ).length=Nc.length;unfold fS;rw[qc,List.length_replicate,qa,S.len]
theorem AK(I:Inv X pins σ H s){fp:List Addr}(hf:∀b∈fp,cI X pins H b){C D:Addr}(hDs:s.heap.objs.size<=D){pins':List (Addr×Obj)}{σ':St}{H':Hp}{s':Shared}{ys:List V}{its:List Value}{n:Nat}
 (J:Inv (X.comp pins Nc scope fp s H C) pins' σ' H' s') (hD:H' D=none) (hz:ys.length<=sizeLine) (hv:ax ys its) (ho:s'.heap.get? D=some { cls:=.type "list",data:=.seq its.toArray n }):
 Inv X pins σ (upd H' D (.lst ys)) s':=by
 have B:Un (frs X.stack) fp H H' s.heap s'.heap:=J.base;have neD:∀b o,s.heap.get? b=some o->b≠D:=λb o e=>qH (qE (qr e) hDs);refine I.call' (ch:=fp) J.os ⟨B.keep,B.slot,λb o e n hx=>?_,B.there,λb xs e=>?_,λb o u e=>?_,λb ps e=>?_⟩ (λb o e=>?_) J.bare λb hb=>⟨(hf b hb).2.2.2.1,(hf b hb).2.1,(hf b hb).2.2.2.2.1,(hf b hb).2.2.2.2.2⟩
 ·rw[aj (neD b o e)];exact B.free b o e n hx
 ·rw[aj (cE (B.tups b xs e) hD)];exact B.tups b xs e
 ·rw[aj (cE (B.frzs b o u e) hD)];exact B.frzs b o u e
 ·obtain⟨more,q⟩:=B.tbls b ps e;exact⟨more,by rw[aj (cE q hD)];exact q⟩
 ·by_cases hb:b=D
  ·subst hb;rw[af]at e;cases e;exact⟨hz,its,n,hv,ho⟩
  ·rw[aj hb]at e;exact(J.hok b o e).stay (λc v _ q=>q) (λc q=>by rw[aj (cE q hD)];exact q) λc xs q=>by rw[aj (cE q hD)];exact q
end
def PTs(Y:Cx)(ifs:List Expr)(t:TT):Prop:=
 ∀(pins:List (Addr×Obj))(s:Shared)(σ:St)(H:Hp)(Q:Bool->Hp->Prop),Inv Y pins σ H s->t σ H Q->
  wpAny (model Y.prog Y.w) Y.A (forIn ifs true λc r=>if r=true then do let ok <- isTrue c Y.env (eval c Y.env);pure (ForInStep.yield ok)else pure (ForInStep.yield r)) (TP Y pins σ Q) Y.xe s
def eN:TT:=λ_ H Q=>Q true H
theorem bJ{Y:Cx}:PTs Y [] eN:=λ_ _ _ H _ I h=>wpAny_tests_nil ⟨H,I,h⟩
theorem lF{Y:Cx}{c:Expr}{t:TT}(h:PT Y c t):PTs Y [c] t:=λpins s σ H Q I hq=>wpAny_tests_one (h pins s σ H Q I hq)
def dM(J:It)(g:TG)(tt:TT)(te:TE)(Fin:List V->Hp->Prop)(W:Nat->Nat->List V->St->Hp->Prop):Prop:=
 ∀i m ys σ H,W i m ys σ H->(J.stop i H/\ys.length<=sizeLine/\Fin ys H)\/(J.go i H/\ys.length<sizeLine/\∃N:List V->St->Hp->Prop,(∀ys' σ' H',N ys' σ' H'->∃m',m'<m/\W (i+1) m' ys' σ' H') /\
  ∀x H',J.yld i H x H'->g x σ H' λσ2 H2=>tt σ2 H2 λb H3=>if b=true then te σ2 H3 λy H4=>N (ys++[y]) σ2 H4 else N ys σ2 H3)
section
variable {X:Cx}{pins:List (Addr×Obj)}{σ:St}{H:Hp}{s:Shared}{scope:Scope}{Nc:List Str}{js:List Nat}{k:Nat}{tg iter elt:Expr}{ifs:List Expr}{pos:Pos}{g:TG}{tt:TT}{te:TE}
theorem tS{J:It}{fp:List Addr}{it:Addr}{tn:Nat->Heap->Prop}{Fin:List V->Hp->Prop}{W:Nat->Nat->List V->St->Hp->Prop}{RR:Value->Addr->Result->Shared->Prop}{E:Yo}{m0:Nat}
 (S:aK X.env.scope X.N scope k Nc js) (hc:X.calm=true) (I:Inv X pins σ H s) (T:fU X.prog X.w X.K tg J fp it tn) (st:tn 0 s.heap) (hf:∀b∈fp,cI X pins H b)
 (hg:∀pins fp s H C,PG (X.comp pins Nc scope fp s H C) tg g) (ht:∀pins fp s H C,PTs (X.comp pins Nc scope fp s H C) ifs tt) (he:∀pins fp s H C,PE (X.comp pins Nc scope fp s H C) elt te)
 (w0:W 0 m0 [] (fS k js σ) H) (turn:dM J g tt te Fin W)
 (hRR:∀D C s' ys H',Inv X pins σ (upd H' D (.lst ys)) s'->cI X pins (upd H' D (.lst ys)) C->(∃m,s'.heap.Ns C m)->H' D=none->Fin ys H'->RR (.ref D) C (.ok .next) s'):
 wpAny (model X.prog X.w) X.A (newList []) (λacc s₃=>wpAny (model X.prog X.w) X.A (newFunctionEnv scope X.env.globals (cY X.env.cells scope.names []) [] X.env.qual none .none (some X.env)) (λcenv s₄=>
  codeAny (model X.prog X.w) X.A (.compStart (.ListComp elt [⟨tg,iter,ifs,0⟩] scope pos) 0 (.ref it) acc { cenv with scope:=relabel scope X.env }) (RR acc cenv.locals) s₄) E s₃) E s:=by
 refine wpAny_newObj_type (wpAny_newFunctionEnv S.cell (by intro y hy;simp at hy) (λh₁ hns₁ hsb₁=>?_) S.kind);dsimp only at hns₁ hsb₁ ⊢;generalize hH2:s.heap.push { cls:=.type "list",dict:=none,data:=.seq ([]:List Value).toArray }=H2 at hns₁ hsb₁ ⊢;have hC:H2.objs.size=s.heap.objs.size+1:=by rw[<- hH2,Qg]
 have hCle:s.heap.objs.size<=H2.objs.size:=by rw[hC];exact Nat.le_succ _
 have hDC:s.heap.objs.size≠H2.objs.size:=by rw[hC];exact qH (Qb _)
 have old:∀b o,s.heap.get? b=some o->h₁.get? b=some o:=λb o e=>
  hsb₁.extBut b o (qH (qE (qr e) hCle)) (qb _ (hH2▸qb _ e))
 have hacc:h₁.get? s.heap.objs.size=some { cls:=.type "list",data:=.seq ([]:List Value).toArray 0 }:=hsb₁.extBut _ _ hDC (qb _ (hH2▸qq _ U));have hob:∀b∈fp,∃o,s.heap.get? b=some o:=λb hb=>let ⟨o,e,_⟩:=T.obj 0 _ st b hb;⟨o,e⟩;have hlt:∀b∈fp,b<s.heap.objs.size:=λb hb=>let ⟨_,e⟩:=hob b hb;qr e
 have notstk:∀b∈fp,b∉frs X.stack:=λb hb z=>by
  rcases qv.mp (I.stkSub b z)with e|e
  ·exact(hf b hb).2.1 e
  ·exact(hf b hb).2.2.1 e
 have hDstk:s.heap.objs.size∉frs X.stack:=λz=>by
  rcases qv.mp (I.stkSub _ z)with e|e
  ·have:=I.lt;rw[<- e]at this;exact Qc _ this
  ·exact I.nofs (qf _) e
 let dpin:List Value->Nat->List (Addr×Obj):=λits n=>[(s.heap.objs.size,{ cls:=.type "list",data:=.seq its.toArray n })]
 have fpok:∀{H':Hp}{its:List Value}{n:Nat},(∀b∈fp,H' b=none)->∀b∈fp,cI (X.comp pins Nc scope fp s H H2.objs.size) (dpin its n) H' b:=λ{H' its n} hn b hb=>
  ⟨hn b hb,qH (qE (hlt b hb) hCle),notstk b hb,.inl hb,λx c e=>(hf b hb).2.2.2.2.1 x c (f6 e),λp hp z=>by
   rcases qi.mp hp with q|q
   ·exact(hf b hb).2.2.2.2.2 p q z
   ·have e:p=(s.heap.objs.size,_):=qT.mp q;rw[e]at z
    exact Q5 (hlt b hb) (by rw[<- z];exact Qc _)⟩
 have loop:∀s₃:Shared,s₃={ s with heap:=h₁,toks:=s.toks+([]:List (Str×Value)).length }->
  codeAny (model X.prog X.w) X.A (.compLoop (.ListComp elt [⟨tg,iter,ifs,0⟩] scope pos) 0 (.ref it) (.ref s.heap.objs.size) (compEnvC scope (cY X.env.cells scope.names []) H2.objs.size X.env)) (RR (.ref s.heap.objs.size) H2.objs.size) s₃:=by
  rintro s₃ rfl
  refine AL (λn s'=>∃i ys its nn σc H',Inv (X.comp pins Nc scope fp s H H2.objs.size) [] σc H' s'/\tn i s'.heap/\(∀b∈fp,H' b=none)/\H' s.heap.objs.size=none/\ax ys its /\
   s'.heap.get? s.heap.objs.size=some { cls:=.type "list",data:=.seq its.toArray nn }/\W i n ys σc H') ?_ m0 ?_
  ·rintro n s3 ⟨i,ys,its,nn,σ3,H3,I3,st3,fr3,hD3,hv3,ho3,w3⟩
   have I3':Inv (X.comp pins Nc scope fp s H H2.objs.size) (dpin its nn) σ3 H3 s3:=I3.pins_of λp hp=>by
    have e:p=(s.heap.objs.size,_):=qT.mp hp;subst e;exact⟨ho3,hD3,hDC,hDstk,λv z=>by cases z⟩
   rcases turn i n ys σ3 H3 w3 with⟨stop,hz,fin⟩|⟨go,hz,N,hN,step⟩
   ·refine thn (T.done (X.comp pins Nc scope fp s H H2.objs.size) U U U hc i (dpin its nn) s3 σ3 H3 (λ_ _=>False) I3' (fpok fr3) st3 stop) λr s4 ⟨hr,I4⟩=>?_;subst hr;have ho4:=(I4.pin _ (qJ _ (qT.mpr U))).1;obtain⟨m4,hn4,_⟩:=I4.loc;refine hRR _ _ s4 ys H3 (AK I hf (qf _) I4 hD3 hz hv3 ho4) (I.fpOk hCle ?_) ⟨m4,hn4⟩ hD3 fin;rw[aj (Ne.symm hDC)];exact I4.free
   ·refine thn (T.item (X.comp pins Nc scope fp s H H2.objs.size) U U U hc i (dpin its nn) s3 σ3 H3 (λ_ _=>False) I3' (fpok fr3) st3 go) λr s4 ⟨u,hr,h4⟩=>?_;subst hr;refine thn h4 λ_ s5 ⟨x,H5,I5,r5,y5,st5,fr5⟩=>?_;have I5':=I5.pinned (fpok fr5) (T.obj _ _ st5);refine thn (hg pins fp s H H2.objs.size _ s5 σ3 H5 x u _ I5' r5 (step x H5 y5)) λ_ s6 ⟨σ6,H6,I6,q6⟩=>?_;refine thn (ht pins fp s H H2.objs.size _ s6 σ6 H6 _ I6 q6) λok s7 ⟨H7,I7,q7⟩=>?_
    have keepIt:∀{σ':St}{H':Hp}{s':Shared},Inv (X.comp pins Nc scope fp s H H2.objs.size) (dpin its nn++hU fp s5.heap) σ' H' s'->
     s'.heap.get? s.heap.objs.size=some { cls:=.type "list",data:=.seq its.toArray nn }/\H' s.heap.objs.size=none/\(∀b∈fp,H' b=none)/\(∀b∈fp,∀o,s5.heap.get? b=some o->s'.heap.get? b=some o):=λ{σ' H' s'} J=>by
     have p1:=J.pin (s.heap.objs.size,_) (qJ _ (qW _ (qT.mpr U)));refine⟨p1.1,p1.2.1,λb hb=>?_,λb hb o e=>(J.pin (b,o) (qJ _ (qJ _ (j3 hb e)))).1⟩;obtain⟨o,e,_⟩:=T.obj _ _ st5 b hb;exact(J.pin (b,o) (qJ _ (qJ _ (j3 hb e)))).2.1
    cases ok with
    |true=>
     rw[Q1 U]at q7 ⊢;refine thn (he pins fp s H H2.objs.size _ s7 σ6 H7 _ I7 q7) λy s8 ⟨v,H8,I8,r8,q8⟩=>?_;obtain⟨ho8,hD8,fr8,k8⟩:=keepIt I8;refine append_at (hsz:=by have:=hv3.length;show its.toArray.size<=sizeLine;rw[qD,<- this];exact Nat.le_of_lt hz) ho8 λh9 hs9 ho9=>?_;obtain⟨m',hm',w9⟩:=hN _ _ _ q8;have I8u:Inv (X.comp pins Nc scope fp s H H2.objs.size) [] σ6 H8 s8:=I8.pins_of λp hp=>nomatch hp
     have I9:Inv (X.comp pins Nc scope fp s H H2.objs.size) [] σ6 H8 { s8 with heap:=h9 }:=I8u.turned (t':=s8.toks) (it:=s.heap.objs.size) (λb o hb e=>(hs9.2 b hb).trans e) hD8 hDC (.inr (qf _)) (λx c e z=>by
      obtain⟨v,q⟩:=I.cell x c (f6 e)
      exact Q5 q.lt (by rw[z];exact Qc _)) λp hp z=>by
       have hp':p∈X.pn++pins:=by
        rcases qi.mp hp with q|q
        ·exact q
        ·exact nomatch q
       exact Q5 (qr (I.pin p hp').1) (by rw[z];exact Qc _)
     refine⟨m',hm',i+1,ys++[v],its++[y],nn+1,σ6,H8,I9,T.keep _ _ _ st5 λb hb o e=>(hs9.2 b (qH (hlt b hb))).trans (k8 b hb o e),fr8,hD8,hv3.append (.cons r8 .nil),?_,w9⟩;show h9.get? s.heap.objs.size=_;rw[ho9];simp
    |false=>
     rw[Q0 qj]at q7 ⊢;obtain⟨ho8,hD8,fr8,k8⟩:=keepIt I7;obtain⟨m',hm',w9⟩:=hN _ _ _ q7;exact⟨m',hm',i+1,ys,its,nn,σ6,H7,I7.pins_of λp hp=>(nomatch hp),T.keep _ _ _ st5 k8,fr8,hD8,hv3,ho8,w9⟩
  ·exact⟨0,[],[],0,_,H,AJ S I hf hlt hCle U I.bare old ⟨_,hns₁⟩,T.keep _ _ _ st λb _ o e=>old b o e,λb hb=>(hf b hb).1,I.hok.fresh (qf _),.nil,hacc,w0⟩
 exact codeAny_compStart_list (loop _ U) (T.self X.A 0 _ _ _ (T.keep _ _ _ st λb _ o e=>old b o e) (loop _ U))
def nF(wi:TI)(k:Nat)(js:List Nat)(g:TG)(tt:TT)(te:TE):TE:=λσ H Q=>wi σ H λJ H1=>∃W:Nat->Nat->List V->St->Hp->Prop,(∃m,W 0 m [] (fS k js σ) H1) /\
 dM J g tt te (λys H=>∀D,H D=none->Q (.ref D) (upd H D (.lst ys))) W
theorem bY{wi:TI}(S:aK X.env.scope X.N scope k Nc js)(hc:X.calm=true)(hi:PI X tg iter wi)
 (hg:∀pins fp s H C,PG (X.comp pins Nc scope fp s H C) tg g) (ht:∀pins fp s H C,PTs (X.comp pins Nc scope fp s H C) ifs tt) (he:∀pins fp s H C,PE (X.comp pins Nc scope fp s H C) elt te)
 (hs:∀x,foldedSetIterable iter X.env x=pure x:=by intro _;rfl):PE X (.ListComp elt [⟨tg,iter,ifs,0⟩] scope pos) (nF wi k js g tt te):=by
 intro pins s σ H Q I h;rw[eval_ListComp];refine wpAny_comprehension_free (use:=none) U hs (S.clos I) S.kind S.names (thn (hi pins s σ H _ I h) λxv s1 h1=>thn h1 λitv s2 h2=>?_);obtain⟨it,fp,tn,J,H2,e,I2,T,st2,f2,W,⟨m0,w0⟩,turn⟩:=h2;subst e;refine tS (RR:=λacc C=>compPost (model X.prog X.w) X.A X.xe none (EP X pins σ Q) acc C) S hc I2 T st2 f2 hg ht he w0 turn λD C s' ys H' I' fC ns hD fin=>?_;obtain⟨m,hn⟩:=ns;exact⟨m,hn,λh' hs'=>⟨.ref D,_,I'.turned (t':=s'.toks) (λb o hb e=>(hs'.2 b hb).trans e) fC.1 fC.2.1 fC.2.2.2.1 fC.2.2.2.2.1 fC.2.2.2.2.2,U,fin D hD⟩⟩
theorem eV{wi:TI}{i:Nat}{x:Str}{px spos:Pos}(hN:X.N.Nodup)(hi':X.N[i]?=some x)(hx:Loc X.env.scope x)(S:aK X.env.scope X.N scope k Nc js)(hc:X.calm=true)(hi:PI X tg iter wi)
 (hg:∀pins fp s H C,PG (X.comp pins Nc scope fp s H C) tg g) (ht:∀pins fp s H C,PTs (X.comp pins Nc scope fp s H C) ifs tt) (he:∀pins fp s H C,PE (X.comp pins Nc scope fp s H C) elt te)
 (hsw:swapsWith (.ListComp elt [⟨tg,iter,ifs,0⟩] scope pos) (some (.Name x px)) spos.line X.env=pure true:=by rfl)
 (hs:∀x,foldedSetIterable iter X.env x=pure x:=by intro _;rfl) (hf:X.fn x=true\/X.env.scope.names.lookup x=some .local:=by first|exact .inl U|exact .inr U|assumption):
 PS X (.Assign [.Name x px] (.ListComp elt [⟨tg,iter,ifs,0⟩] scope pos) spos) (jB (nF wi k js g tt te) (aI i)):=by
 intro pins s σ H D I h;rw[exec_Assign_Name_used _ _ _ _ hsw];refine q9 (wpAny_standAt (q9 ?_));show wpAny _ X.A (do let _ <- comprehension (.ListComp elt [⟨tg,iter,ifs,0⟩] scope pos) scope X.env _ (newList []) false (eval iter X.env) (some (assign (.Name x px) X.env))) _ _ s
 refine q9 (wpAny_mono (wpAny_comprehension_free (use:=some (assign (.Name x px) X.env)) (Q:=λ_ s'=>SP X pins D .next s') U hs (S.clos I) S.kind S.names
  (thn (hi pins s σ H _ I h) λxv s1 h1=>thn h1 λitv s2 h2=>?_)) (λ_ s' hq=>qe (qe hq)) λ_ _ e=>e)
 obtain⟨it,fp,tn,J,H2,e,I2,T,st2,f2,W,⟨m0,w0⟩,turn⟩:=h2;subst e;refine tS (RR:=λacc C=>compPost (model X.prog X.w) X.A X.xe (some (assign (.Name x px) X.env)) (λ_ s'=>SP X pins D .next s') acc C) S hc I2 T st2 f2 hg ht he w0 turn λA C s' ys H' I' fC ns hD fin=>?_;obtain⟨m,hn⟩:=ns;show wpAny _ X.A (assign (.Name x px) X.env (.ref A)) _ _ _;refine wpAny_assign_Name (nH I' hN hi' hx (v:=.ref A) U (λs'' I'' ⟨a,sb,ha⟩=>?_) hf)
 have hCa:C≠a:=by
  rcases ha with ha|ha
  ·rw[ha];exact fC.2.1
  ·exact λz=>fC.2.2.2.2.1 x a ha z.symm
 exact⟨m,hn.sameBut sb hCa,λh' hs'=>⟨_,_,I''.turned (t':=s''.toks) (λb o hb e=>(hs'.2 b hb).trans e) fC.1 fC.2.1 fC.2.2.2.1 fC.2.2.2.2.1 fC.2.2.2.2.2,fin A hD⟩⟩
end
section
variable {X:Cx}{tg:Expr}
theorem xF:OpR X (binaryOp .Mult) (rI IntMulOk λi j=>.int (i * j)):=opI λ_ _ _ _ _ _ _ hc q=>mul_int q hc
theorem AV:cr X (.builtin "isinstance") (λxs H Q=>∃x t T b,xs=[x,.ty T]/\d5 X.K H x t/\PySem.W.kitOne X.K t (.type T)=some b/\Q (.bl b) H):=by
 intro pins s σ H xs us Q I r h;obtain⟨x,t,T,b,rfl,ty,e,q⟩:=h;obtain⟨u,c,rfl,ru,rc⟩:=iq r;have ec:c=.type T:=rc;subst ec;exact A2 I ru ty e λtk=>⟨.bl b,H,I.tok tk,U,q⟩
def wA(K:W.Frag):R2:=λx y H Q=>∃l b xs zs,x=.ref l/\y=.ref b/\SqL K H l xs/\SqL K H b zs/\xs.length+zs.length<=sizeLine/\∀p,H p=none->Q (.ref p) (upd H p (.lst (xs++zs)))
theorem xQ:OpR X (binaryOp .Add) (wA X.K):=by
 intro pins s σ H x y v u Q I rx ry h;obtain⟨l,b,xs,zs,rfl,rfl,hH,hB,hz,q⟩:=h;cases rx;cases ry;obtain⟨its,r,pl,z1⟩:=I.list hH;obtain⟨its2,r2,pl2,z2⟩:=I.list hB;have hl1:=r.length;have hl2:=r2.length;obtain⟨⟨cls,dd,data,sl⟩,n,ho,hc,_,hd⟩:=pl;obtain⟨⟨cls2,dd2,data2,sl2⟩,n2,ho2,hc2,_,hd2⟩:=pl2;simp only at hc hd hc2 hd2;subst hc hd hc2 hd2;refine concat_meets ⟨_,ho,U⟩ ⟨_,ho2,U⟩ noFill_list_add seq_list_add PySem.F.slot_list_add PySem.F.entry_list_add (PySem.F.args_list_add_2 _ _) (list_addW l b its.toArray its2.toArray n n2 dd dd2 sl sl2 (by rw[qD,qD];omega)) ⟨ho,ho2,?_⟩;have ea:its.toArray++its2.toArray=(its++its2).toArray:=by simp
 rw[ea];exact⟨.ref _,_,I.lnew (t':=s.toks) (r.append r2) (by rw[qc];omega),U,q _ I.fresh⟩
end
section
variable {X:Cx}
end
theorem gO{te:TE}{N N':V->St->Hp->Prop}{M:St->Hp->Prop}:(λ(σ2:St)(H2:Hp)=>eN σ2 H2 λb H3=>if b=true then te σ2 H3 λy H4=>N y σ2 H4 else M σ2 H3)=λσ2 H2=>te σ2 H2 λy H4=>N y σ2 H4:=by
 funext σ2 H2
 unfold eN;dsimp only;rw[Q1 U]
def mF(e:Expr):Option V:=match e with
 |.Constant (.str x) _ _=>some (.str x)
 |.Constant (.int i) _ _=>some (.int i)
 |.Constant (.bool b) _ _=>some (.bl b)
 |.Constant .none _ _=>some .non
 |_=>none
def mE:List Expr->Option (List V)
 |[]=>some []
 |e::es=>match mF e,mE es with
  |some v,some vs=>some (v::vs)
  |_,_=>none
def uI(vs:List V):TA:=λ_ H Q=>Q vs H
theorem xw{X:Cx}{e:Expr}{v:V}(h:mF e=some v):PE X e (tC v)/\∀es,starEach (e::es) X.env=(false,eval e X.env)::starEach es X.env:=by
 unfold mF at h;split at h
 ·cases h;exact⟨bg,λ_=>U⟩
 ·cases h;exact⟨aa,λ_=>U⟩
 ·cases h;exact⟨br,λ_=>U⟩
 ·cases h;exact⟨cX,λ_=>U⟩
 ·cases h
theorem lN{X:Cx}:∀{es:List Expr}{vs:List V},mE es=some vs->PA X es (uI vs)
 |[],vs,h=>by cases h;exact ac
 |e::es,vs,h=>by
  unfold mE at h;split at h
  ·rename_i v ws h1 h2;cases h;obtain⟨p,s⟩:=xw (X:=X) h1;exact a8 p (lN h2) (s es)
  ·cases h
section
variable {X:Cx}
theorem yW:OpR X (binaryOp .Add) (λx y H Q=>∃i j,x=.int i/\y=.int j/\Q (.int (i+j)) H):=xS
theorem yP:OpR X (binaryOp .Sub) (λx y H Q=>∃i j,x=.int i/\y=.int j/\Q (.int (i-j)) H):=xA
theorem cm:OpR X (binaryOp .Mult) (λx y H Q=>∃i j,x=.int i/\y=.int j/\IntMulOk i j/\Q (.int (i * j)) H):=xF
theorem yV:OpR X (binaryOp .FloorDiv) (λx y H Q=>∃i j,x=.int i/\y=.int j/\(0<j/\j<1073741824)/\Q (.int (i / j)) H):=xN
theorem yQ:OpR X (binaryOp .Mod) (λx y H Q=>∃i j,x=.int i/\y=.int j/\0<j/\Q (.int (i % j)) H):=xG
theorem dz:OpR X (binaryOp .Pow) (λx y H Q=>∃i j,x=.int i/\y=.int j/\(0<=j/\j<=1000000/\i.natAbs<2 ^ 64)/\Q (.int (i ^ j.toNat)) H):=xB
theorem yR:OpR X (compareOp .Lt) (λx y H Q=>∃i j,x=.int i/\y=.int j/\Q (.bl (decide (i<j))) H):=xH
theorem yS:OpR X (compareOp .LtE) (λx y H Q=>∃i j,x=.int i/\y=.int j/\Q (.bl (decide (i<=j))) H):=xI
theorem yT:OpR X (compareOp .Gt) (λx y H Q=>∃i j,x=.int i/\y=.int j/\Q (.bl (decide (j<i))) H):=xL
theorem yU:OpR X (compareOp .GtE) (λx y H Q=>∃i j,x=.int i/\y=.int j/\Q (.bl (decide (j<=i))) H):=xM
end
end L2
namespace Att
open PySem PySem.W PySem.Calls PyProof.Rows
theorem vt{ns:List Int}(h:WData.layableAll [WData.list (ns.map WData.int)]=true):∀n∈ns,Builtin.Int.intBits n<=2 ^ 20:=λn hn=>by
 have h1:=layableW_arg h _ (qT.mpr U);have h2:=layableW_item h1 (WData.int n) (List.mem_map.mpr ⟨n,hn,U⟩);exact PyData.bits_of_layable (layable0_of_all (lay0_int h2))
theorem attach_callB{l:OpenLaw}{n:Nat}{q:Program}{loose:List Str}{XP:(Str->Option Value)->Heap->Prop}{YP:World->Heap->Prop}{d:DefRec}
 (hn:l.most=some n) (hdf:d.params.defaults=[])
 (call:∀(w:World)(s₀ s₁:Shared)(mg mb:Str->Option Value)(fa:Addr)(o:Obj)(pm cd doc:Value)(a:Addr)(vs:List Value)(ns:List Int),
  Ground q loose [] XP w s₀ mg mb s₁.heap->YP w s₁.heap->
  s₁.heap.get? fa=some o->o.data=.func (docDef d.name d.params d.body d.scope pm cd doc)->s₁.heap.CodeRec cd d.name->mg d.name=some (.ref fa)->
  s₁.heap.get? a=some { cls:=.type "list",data:=.seq vs.toArray }->IntsAre vs ns->ns.length<=n->(∀k∈ns,Builtin.Int.intBits k<=2 ^ 20)->s₁.gens=#[]->
  codeAny (model l.prog w) callerA (.call (.ref fa) ⟨[.ref a],[]⟩) (λr s'=>r=.ok (.ret (.bool true))/\OldK s₁.heap s'.heap/\s'.os=s₁.os/\AllBare s'.gens) s₁):
 WalkO q loose XP YP l.row.toRowW d [] (λf vs=>PySem.call f vs):=by
 intro w s₀ s₁ mg mb G Y fa o pm cd doc dV kV ho hd hcd hD hmg hg args vals as hpre hlay hrd hwl hlo;obtain rfl:dV=.none:=Dflts.none hD hdf;obtain rfl:kV=.none:=Dflts.noKw hD;obtain⟨a,vs,ns,rfl,rfl,hobj,hints,hlen⟩:=vq hn hpre hwl;refine enter_call (codeAny_mono (call w s₀ s₁ mg mb fa o pm cd doc a vs ns G Y ho (fd_plain hd) hcd hmg hobj hints hlen (vt hlay) hg) λr s' hq=>?_);obtain⟨rfl,h2,h3,h4⟩:=hq;exact⟨.inl ⟨.bool true,.bool true,[],U,λ_=>U,.bool true,wY l _,λ_=>⟨List.Pairwise.nil,λ_ hm=>(nomatch hm)⟩⟩,h2,h3,h4⟩
end Att
namespace L2
open PySem PySem.Spec PyProof.Rows
theorem uw{l:PySem.W.OpenLaw}{n k:Nat}{q:Program}{loose:List Str}{XP:(Str->Option Value)->Heap->Prop}{YP:World->Heap->Prop}{d:DefRec}{K:Params->PySem.W.Frag}{CX:World->CXT}{sp:World->Sp}{x:Str}
 (hn:l.most=some n) (hn2:n<=sizeLine) (hdf:d.params.defaults=[]) (hr:bC k callerA)
 (hY:∀(w:World)(h:Heap),YP w h->(K w.params).In h)
 (F:∀(w:World)(mg:Str->Option Value)(fa:Addr)(h:Heap),(K w.params).In h->h.Ns mainGlobals mg->mg d.name=some (.ref fa)->
  ∃fd:FuncData,(∀(s:Shared)(u:Value),BindsTo s fd ⟨[u],[]⟩ [(x,u)]) /\
   ∀base:Heap,(K w.params).In base->base.Ns mainGlobals mg->aA l.prog w (K w.params) mg base (CX w) k fa fd [x] (sp w))
 (hsp:∀(w:World)(H:Hp)(a:Addr)(ns:List Int),ns.length<=n->(∀k∈ns,Builtin.Int.intBits k<=2 ^ 20)->jl H->SqL (K w.params) H a (ns.map V.int)->sp w [.ref a] H (λv _=>v=.bl true) λ_ _ _=>False)
 (hCX:∀(w:World)(H:Hp)(s:Shared)(e:Value)(s':Shared),CX w [] H s (λ_ _ _=>False) e s'->False):
 PySem.W.WalkO q loose XP YP l.row.toRowW d [] (λf vs=>PySem.call f vs):=by
 refine Att.attach_callB hn hdf λw s₀ s₁ mg mb fa o pm cd doc a vs ns G Y ho hd hcd hmg hobj hints hlen hbits hg=>?_;have KX:=hY w _ Y;obtain⟨fd,hb,hF⟩:=F w mg fa _ KX G.T.g hmg;exact zK KX G.T.g G.T.b G.T.builtins G.T.nolimit hg hobj hints (qz hlen hn2) hr hF hb (λH hO hS=>hsp w H a ns hlen hbits hO hS) λH e s'=>hCX w H s₁ e s'
theorem a9.new{H:Hp}{p:Addr}(h:H p=none)(o:HO):a9 H (upd H p o):=λb u q=>by rw[aj (cE q h)];exact q
theorem zX{α:Type}{P R:α->Prop}{c A:Prop}{inst:Decidable c}(w:α)(hw:P w)(rest:∀w,P w->R w)(h:c->(∀w,P w->R w)->A):if c then A else R w:=by
 by_cases hc:c
 ·rw[Q1 hc];exact h hc rest
 ·rw[Q0 hc];exact rest w hw
theorem zW{α:Type}{P R:α->Prop}{c A B:Prop}{inst:Decidable c}{w:α}(hw:P w)(rest:∀w,P w->R w)(h:c->(∀w,P w->R w)->A)(e:B=R w:=by rfl):@ite Prop c inst A B:=by
 subst e;exact zX w hw rest h
theorem bb{n m:Nat}(h:n<=m)(hm:m<=1000000:=by decide):n<=sizeLine:=qz h (qz hm (by rw[sizeLine_eq];decide))
theorem zC{i:Int}(h:i.natAbs<2 ^ 1000):i.natAbs.log2<1920:=by
 by_cases h0:i.natAbs=0
 ·rw[h0];decide
 ·exact Nat.lt_trans ((Nat.log2_lt h0).mpr h) Yd
def SIt(h:Heap):Bool->Addr->Addr->Nat->Prop
 |false,it,l,k=>h.IsListIter it l k
 |true,it,l,k=>h.IsTupleIter it l k
def SSq(h:Heap):Bool->Addr->Array Value->Prop
 |false,l,xs=>h.IsList l xs
 |true,l,xs=>h.IsTuple l xs
theorem SIt.obj{h:Heap}:∀{b:Bool}{it l:Addr}{k:Nat},SIt h b it l k->∃o,h.get? it=some o/\∃vs,o.data=.fields vs
 |false,_,_,_,⟨o,e,_,d⟩=>⟨o,e,_,d⟩
 |true,_,_,_,⟨o,e,_,d⟩=>⟨o,e,_,d⟩
theorem SIt.keep{h h':Heap}:∀{b:Bool}{it l:Addr}{k:Nat},SIt h b it l k->(∀o,h.get? it=some o->h'.get? it=some o)->SIt h' b it l k
 |false,_,_,_,⟨o,e,r⟩,f=>⟨o,f o e,r⟩
 |true,_,_,_,⟨o,e,r⟩,f=>⟨o,f o e,r⟩
theorem SSq.keep{h h':Heap}:∀{b:Bool}{l:Addr}{xs:Array Value},SSq h b l xs->(∀o,h.get? l=some o->h'.get? l=some o)->SSq h' b l xs
 |false,_,_,⟨o,e,r⟩,f=>⟨o,f o e,r⟩
 |true,_,_,⟨o,e,r⟩,f=>⟨o,f o e,r⟩
theorem SSq.obj{h:Heap}:∀{b:Bool}{l:Addr}{xs:Array Value},SSq h b l xs->∃o,h.get? l=some o/\∃n,o.data=.seq xs n
 |false,_,_,⟨o,e,_,n,d⟩=>⟨o,e,n,d⟩
 |true,_,_,⟨o,e,_,n,d⟩=>⟨o,e,n,d⟩
section
variable {prog:Program}{w:World}{A:Around}{E:Yo}{s:Shared}
theorem yZ{it t:Addr}{k:Nat}{xs:Array Value}{x:Value}{Q:Yo}(hi:s.heap.IsTupleIter it t k)(ht:s.heap.IsTuple t xs)(hx:xs[k]?=some x)
 (q:∀g,g.IsTupleIter it t (k+1)->Heap.SameBut it s.heap g->Q x { s with heap:=g }):wpAny (model prog w) A (Builtin.SmallTypes.nextOf (.ref it)) Q E s:=by
 obtain⟨o,e,c,d⟩:=id hi;obtain⟨ot,et,_,nt,dt⟩:=ht;unfold Builtin.SmallTypes.nextOf;refine q9 (wpAny_callSpecial?_slot (name:=Str.ofString "__next__") hi.typeIs PySem.F.slot_tuple_iterator_next (Qj PySem.F.slot_tuple_iterator_next hi.typeIs PySem.F.entry_tuple_iterator_next ?_ (PySem.F.args_tuple_iterator_next_1 _)));show wpAny _ _ (field (.ref it) 0 >>= _) _ _ _;refine q9 (wpAny_field e d (x:=.ref t) U ?_);show wpAny _ _ (if(Value.ref t == Value.none)=true then _ else _) _ _ _;rw[Q0 (show ¬ (Value.ref t == Value.none)=true from qj)];show wpAny _ _ (field (.ref it) 1 >>= _) _ _ _;refine q9 (wpAny_field e d (x:=.int k 0) U ?_);show wpAny _ _ (seqItems? (.ref t) >>= _) _ _ _;refine q9 (Qw et dt ?_);simp only[qY,hx];refine q9 (wpAny_setField e d (by simp) (qe ⟨x,U,qe (q _ ?_ (Heap.SameBut.update ..))⟩));exact⟨_,Qh _ e (Obj.isFreed_of_fields (Obj.data_mapFields d _)),(Obj.cls_mapFields ..).trans c,by rw[Obj.data_mapFields d];simp[rawInt]⟩
theorem za{it t:Addr}{k:Nat}{xs:Array Value}{Q:Yo}(hh:A.handled=none)(hi:s.heap.IsTupleIter it t k)(ht:s.heap.IsTuple t xs)(hx:xs[k]?=none)
 (q:∀g x,Heap.ExtBut it s.heap g->(∃o,g.get? x=some o/\o.cls=.type "StopIteration")->E (.ref x) { s with heap:=g }):wpAny (model prog w) A (Builtin.SmallTypes.nextOf (.ref it)) Q E s:=by
 obtain⟨o,e,c,d⟩:=id hi;obtain⟨ot,et,_,nt,dt⟩:=ht;unfold Builtin.SmallTypes.nextOf;refine q9 (wpAny_callSpecial?_slot (name:=Str.ofString "__next__") hi.typeIs PySem.F.slot_tuple_iterator_next (Qj PySem.F.slot_tuple_iterator_next hi.typeIs PySem.F.entry_tuple_iterator_next ?_ (PySem.F.args_tuple_iterator_next_1 _)));show wpAny _ _ (field (.ref it) 0 >>= _) _ _ _;refine q9 (wpAny_field e d (x:=.ref t) U ?_);show wpAny _ _ (if(Value.ref t == Value.none)=true then _ else _) _ _ _;rw[Q0 (show ¬ (Value.ref t == Value.none)=true from qj)];show wpAny _ _ (field (.ref it) 1 >>= _) _ _ _;refine q9 (wpAny_field e d (x:=.int k 0) U ?_);show wpAny _ _ (seqItems? (.ref t) >>= _) _ _ _;refine q9 (Qw et dt ?_);simp only[qY,hx];refine q9 (wpAny_rule (q9 (wpAny_setField e d (by simp) ?_)));show wpAny _ _ (newExc (.type "StopIteration") [] >>= _) _ _ _;refine q9 ?_;simp only[newExc,newTuple];refine q9 (wpAny_newObj_type ?_ (by size_fits));refine q9 (m:=firstArgMember _ _) (wpAny_of_eq (a:=Value.none) (by first|rfl|(simp only[firstArgMember];rfl)) (wpAny_newObj_type ?_ (by size_fits)));simp only[raiseNew];refine q9 (wpAny_handled ?_);first|rw[show A.in1.handled=none from hh]|rw[hh]
 refine q9 (qe (wpAny_throw (q _ _ (((Heap.SameBut.update ..).extBut.push _).push _) ⟨_,qq _ U,U⟩)))
theorem gA{it l:Addr}{k:Nat}{xs:Array Value}{x:Value}{Q:Yo}:∀{b:Bool},SIt s.heap b it l k->SSq s.heap b l xs->xs[k]?=some x->
 (∀g,SIt g b it l (k+1)->Heap.SameBut it s.heap g->Q x { s with heap:=g })->wpAny (model prog w) A (Builtin.SmallTypes.nextOf (.ref it)) Q E s
 |false,a,c,d,q=>wpAny_nextOf_list_item a c d q
 |true,a,c,d,q=>yZ a c d q
theorem j1{it l:Addr}{k:Nat}{xs:Array Value}{Q:Yo}(hh:A.handled=none):∀{b:Bool},SIt s.heap b it l k->SSq s.heap b l xs->xs[k]?=none->
 (∀g x,Heap.ExtBut it s.heap g->(∃o,g.get? x=some o/\o.cls=.type "StopIteration")->E (.ref x) { s with heap:=g })->wpAny (model prog w) A (Builtin.SmallTypes.nextOf (.ref it)) Q E s
 |false,a,c,d,q=>wpAny_nextOf_list_end hh a c d q
 |true,a,c,d,q=>za hh a c d q
structure ZAp(z TI TO i1 i2 l1 l2:Addr):Prop where
 a:TI≠z/\TO≠z/\i1≠z/\i2≠z/\TI≠TO/\TI≠i1/\TI≠i2/\TO≠i1/\TO≠i2/\i1≠i2
 l:∀c,c=l1\/c=l2->c≠z/\c≠TO/\c≠i1/\c≠i2/\c≠TI
theorem uq{z TI TO i1 i2 l1 l2:Addr}{b1 b2:Bool}{k1 k2:Nat}{xs ys:Array Value}{x y a b:Value}{Q:Yo}(D:ZAp z TI TO i1 i2 l1 l2)
 (hz:IsZip s.heap z TI TO .none) (hI:IsPair s.heap TI (.ref i1) (.ref i2)) (hO:IsPair s.heap TO a b) (t1:SIt s.heap b1 i1 l1 k1) (t2:SIt s.heap b2 i2 l2 k2) (q1:SSq s.heap b1 l1 xs) (q2:SSq s.heap b2 l2 ys) (ex:xs[k1]?=some x) (ey:ys[k2]?=some y)
 (q:∀g,IsZip g z TI TO (rawInt s.heap.objs.size)->IsPair g TO x y->SIt g b1 i1 l1 (k1+1)->SIt g b2 i2 l2 (k2+1)->IsPair g s.heap.objs.size x y->(∀c o,c≠z->c≠TO->c≠i1->c≠i2->s.heap.get? c=some o->g.get? c=some o)->Q (.ref s.heap.objs.size) { s with heap:=g }):
 wpAny (model prog w) A (Builtin.«zip.__next__» ⟨[.ref z],[]⟩) (λfin s'=>∃v,fin=.done (.ret v)/\Q v s') E s:=by
 obtain⟨⟨nIz,nOz,n1z,n2z,nIO,nI1,nI2,nO1,nO2,n12⟩,lne⟩:=D;obtain⟨m1z,m1O,m11,m12,m1I⟩:=lne l1 (.inl U);obtain⟨m2z,m2O,m21,m22,m2I⟩:=lne l2 (.inr U);show wpAny _ _ (field (.ref z) 2 >>= _) _ _ _;refine q9 (wpAny_field hz U (x:=.bool false) U ?_);show wpAny _ _ (field (.ref z) 3 >>= _) _ _ _;refine q9 (wpAny_field hz U (x:=.ref TI) U (q9 (Qw hI U ?_)));show wpAny _ _ (Builtin.SmallTypes.ownedTupleIsFree (.ref z) >>= _) _ _ _;refine q9 ?_;unfold Builtin.SmallTypes.ownedTupleIsFree;refine q9 (wpAny_field hz U (x:=.none) U (qe ?_));simp only[if_true];refine q9 (wpAny_rule (q9 (wpAny_field hz U (x:=.ref TO) U (q9 (wpAny_setField_rec hz (by simp) λg1 z1 s1=>?_)))));replace z1:IsZip g1 z TI TO .ellipsis:=z1;refine q9 ?_;simp only[List.zipIdx_cons,List.zipIdx_nil,List.forIn_cons,List.forIn_nil];refine q9 (q9 (wpAny_onRaise ?_));show wpAny _ _ (Builtin.SmallTypes.nextOf (.ref i1) >>= _) _ _ _;refine q9 (gA (b:=b1) (t1.keep λo e=>s1.extBut _ _ n1z e) (q1.keep λo e=>s1.extBut _ _ m1z e) ex λg2 u1 s2=>qe ?_);have o2:IsPair g2 TO a b:=s2.extBut _ _ nO1 (s1.extBut _ _ nOz hO);refine q9 (Qw o2 U (q9 (wpAny_updateSeq_pair o2 λg3 o3 s3=>q9 (wpAny_letGo (qe ?_)))));replace o3:IsPair g3 TO x b:=o3;refine q9 (q9 (wpAny_onRaise ?_));show wpAny _ _ (Builtin.SmallTypes.nextOf (.ref i2) >>= _) _ _ _;refine q9 (gA (b:=b2) (t2.keep λo e=>s3.extBut _ _ nO2.symm (s2.extBut _ _ n12.symm (s1.extBut _ _ n2z e))) (q2.keep λo e=>s3.extBut _ _ m2O (s2.extBut _ _ m21 (s1.extBut _ _ m2z e))) ey λg4 u2 s4=>qe ?_);have o4:IsPair g4 TO x b:=s4.extBut _ _ nO2 o3;refine q9 (Qw o4 U (q9 (wpAny_updateSeq_pair o4 λg5 o5 s5=>q9 (wpAny_letGo (qe (qe ?_))))));replace o5:IsPair g5 TO x y:=o5;refine q9 (Qw o5 U (q9 (wpAny_newTuple ?_)));have sz:g5.objs.size=s.heap.objs.size:=by rw[s5.1,s4.1,s3.1,s2.1,s1.1]
 have z5:IsZip g5 z TI TO .ellipsis:=s5.extBut _ _ nOz.symm (s4.extBut _ _ n2z.symm (s3.extBut _ _ nOz.symm (s2.extBut _ _ n1z.symm z1)));have k5:∀c o,c≠z->c≠TO->c≠i1->c≠i2->s.heap.get? c=some o->g5.get? c=some o:=λc o h1 h2 h3 h4 e=>s5.extBut _ _ h2 (s4.extBut _ _ h4 (s3.extBut _ _ h2 (s2.extBut _ _ h3 (s1.extBut _ _ h1 e))));have v1:SIt g5 b1 i1 l1 (k1+1):=u1.keep λo e=>s5.extBut _ _ nO1.symm (s4.extBut _ _ n12 (s3.extBut _ _ nO1.symm e));have v2:SIt g5 b2 i2 l2 (k2+1):=u2.keep λo e=>s5.extBut _ _ nO2.symm e;have zlt:z<g5.objs.size:=qr z5;show wpAny _ _ (Builtin.SmallTypes.ownedTupleHandOut (.ref z) (.ref g5.objs.size) >>= _) _ _ _;refine q9 ?_;unfold Builtin.SmallTypes.ownedTupleHandOut;have z6:IsZip (g5.push { cls:=.type "tuple",data:=.seq #[x,y] }) z TI TO .ellipsis:=qb _ z5;refine q9 (wpAny_setField_rec z6 (by simp) λg7 z7 s7=>?_);replace z7:IsZip g7 z TI TO (rawInt g5.objs.size):=z7;refine wpAny_setField_rec z7 (by simp) λg8 z8 s8=>?_;replace z8:IsZip g8 z TI TO (rawInt g5.objs.size):=z8;have up:∀c o,c≠z->g5.get? c=some o->g8.get? c=some o:=λc o h1 e=>s8.extBut _ _ h1 (s7.extBut _ _ h1 (qb _ e));have t8:IsPair g8 g5.objs.size x y:=s8.extBut _ _ (Nat.ne_of_gt zlt) (s7.extBut _ _ (Nat.ne_of_gt zlt) (qq _ U));rw[sz]at z8 t8;refine qe ⟨_,U,?_⟩;show Q (.ref g5.objs.size) _;rw[sz];exact q g8 z8 (up _ _ nOz o5) (v1.keep λo e=>up _ o n1z e) (v2.keep λo e=>up _ o n2z e) t8 λc o h1 h2 h3 h4 e=>up c o h1 (k5 c o h1 h2 h3 h4 e)
theorem ur{z TI TO i1 i2 l1 l2:Addr}{b1 b2:Bool}{k1 k2:Nat}{xs ys:Array Value}{a b:Value}{Q:Fin->Shared->Prop}(hh:A.handled=none)(D:ZAp z TI TO i1 i2 l1 l2)
 (hz:IsZip s.heap z TI TO .none) (hI:IsPair s.heap TI (.ref i1) (.ref i2)) (hO:IsPair s.heap TO a b) (t1:SIt s.heap b1 i1 l1 k1) (t2:SIt s.heap b2 i2 l2 k2) (q1:SSq s.heap b1 l1 xs) (q2:SSq s.heap b2 l2 ys) (hend:xs[k1]?=none\/ys[k2]?=none)
 (q:∀g e,(∀c o,c≠z->c≠TO->c≠i1->c≠i2->s.heap.get? c=some o->g.get? c=some o)->(∃o,g.get? e=some o/\o.cls=.type "StopIteration")->E (.ref e) { s with heap:=g }):
 wpAny (model prog w) A (Builtin.«zip.__next__» ⟨[.ref z],[]⟩) Q E s:=by
 obtain⟨⟨nIz,nOz,n1z,n2z,nIO,nI1,nI2,nO1,nO2,n12⟩,lne⟩:=D;obtain⟨m1z,m1O,m11,m12,m1I⟩:=lne l1 (.inl U);obtain⟨m2z,m2O,m21,m22,m2I⟩:=lne l2 (.inr U);show wpAny _ _ (field (.ref z) 2 >>= _) _ _ _;refine q9 (wpAny_field hz U (x:=.bool false) U ?_);show wpAny _ _ (field (.ref z) 3 >>= _) _ _ _;refine q9 (wpAny_field hz U (x:=.ref TI) U (q9 (Qw hI U ?_)));show wpAny _ _ (Builtin.SmallTypes.ownedTupleIsFree (.ref z) >>= _) _ _ _;refine q9 ?_;unfold Builtin.SmallTypes.ownedTupleIsFree;refine q9 (wpAny_field hz U (x:=.none) U (qe ?_));simp only[if_true];refine q9 (wpAny_rule (q9 (wpAny_field hz U (x:=.ref TO) U (q9 (wpAny_setField_rec hz (by simp) λg1 z1 s1=>?_)))));replace z1:IsZip g1 z TI TO .ellipsis:=z1;refine q9 ?_;simp only[List.zipIdx_cons,List.zipIdx_nil,List.forIn_cons,List.forIn_nil];refine q9 (q9 (wpAny_onRaise ?_));show wpAny _ _ (Builtin.SmallTypes.nextOf (.ref i1) >>= _) _ _ _
 cases ex:xs[k1]? with
 |none=>
  refine q9 (j1 (b:=b1) hh (t1.keep λo e=>s1.extBut _ _ n1z e) (q1.keep λo e=>s1.extBut _ _ m1z e) ex λg2 v s2 hv=>?_);obtain⟨ov,ev,cv⟩:=hv;have z2:IsZip g2 z TI TO .ellipsis:=s2 _ _ n1z.symm z1;have nv:v≠z:=λh=>by subst h;rw[z2]at ev;cases ev;simp at cv
  exact wpAny_setField_rec z2 (by simp) λg3 _ s3=>q g3 v (λc o h1 _ h3 _ e=>s3.extBut _ _ h1 (s2 _ _ h3 (s1.extBut _ _ h1 e))) ⟨ov,s3.extBut _ _ nv ev,cv⟩
 |some x=>
  have ey:ys[k2]?=none:=by rcases hend with h|h;rw[ex]at h;cases h;exact h
  refine q9 (gA (b:=b1) (t1.keep λo e=>s1.extBut _ _ n1z e) (q1.keep λo e=>s1.extBut _ _ m1z e) ex λg2 u1 s2=>qe ?_);have o2:IsPair g2 TO a b:=s2.extBut _ _ nO1 (s1.extBut _ _ nOz hO);refine q9 (Qw o2 U (q9 (wpAny_updateSeq_pair o2 λg3 o3 s3=>q9 (wpAny_letGo (qe ?_)))));refine q9 (q9 (wpAny_onRaise ?_));show wpAny _ _ (Builtin.SmallTypes.nextOf (.ref i2) >>= _) _ _ _;refine q9 (j1 (b:=b2) hh (t2.keep λo e=>s3.extBut _ _ nO2.symm (s2.extBut _ _ n12.symm (s1.extBut _ _ n2z e))) (q2.keep λo e=>s3.extBut _ _ m2O (s2.extBut _ _ m21 (s1.extBut _ _ m2z e))) ey λg4 v s4 hv=>?_);obtain⟨ov,ev,cv⟩:=hv;have z4:IsZip g4 z TI TO .ellipsis:=s4 _ _ n2z.symm (s3.extBut _ _ nOz.symm (s2.extBut _ _ n1z.symm z1));have nv:v≠z:=λh=>by subst h;rw[z4]at ev;cases ev;simp at cv
  exact wpAny_setField_rec z4 (by simp) λg5 _ s5=>q g5 v (λc o h1 h2 h3 h4 e=>s5.extBut _ _ h1 (s4 _ _ h4 (s3.extBut _ _ h2 (s2.extBut _ _ h3 (s1.extBut _ _ h1 e))))) ⟨ov,s5.extBut _ _ nv ev,cv⟩
end
section
variable {X:Cx}{pins:List (Addr×Obj)}{σ:St}{H:Hp}{s:Shared}{h':Heap}
theorem Inv.turnedL{t':Nat}{ch:List Addr}(I:Inv X pins σ H s)(k:∀b o,b∉ch->s.heap.get? b=some o->h'.get? b=some o)(hf:∀b∈ch,cI X pins H b):Inv X pins σ H { s with heap:=h',toks:=t' }:=by
 have nit:∀b u,H b=some u->b∉ch:=λb u e z=>by rw[(hf b z).1]at e;cases e
 have hL:X.env.locals∉ch:=λz=>(hf _ z).2.1 U
 refine I.step (g':=s.gens) (d':=s.drawn) (ch:=ch) (λb hb=>⟨(hf b hb).2.2.2.1,(hf b hb).2.1,(hf b hb).2.2.2.2.1,(hf b hb).2.2.2.2.2⟩) (λb o _ _ hc e _=>k b o hc e) (λb o _ _ hc e _=>⟨o.slots,k b o hc e⟩) (λ_ _ _ _ n=>n)
  (λb o hc e=>⟨o,k b o hc e⟩) (λ_ _ e=>e) (λ_ _ _ e=>e) (λb ps e=>⟨#[],by rw[e];simp⟩) (λm hm=>?_) (λb u e=>?_) I.bare
 ·obtain⟨o,es,ep,ho,r⟩:=hm;exact⟨o,es,ep,k _ o hL ho,r⟩
 ·refine(I.hok b u e).stay (λc v hc q=>k c v ?_ q) (λ_ q=>q) λ_ _ q=>q;rcases hc with z|z
  ·rw[z];exact nit b u e
  ·exact nit c _ z
theorem Inv.track{T:Addr}{o:HO}(I:Inv X pins σ H s)(f:cI X pins H T)(hs:X.s₀.heap.objs.size<=T)(new:bF X.prog X.w (upd H T o) s.heap T o):Inv X pins σ (upd H T o) s:=by
 obtain⟨f0,f1,f2,_,f4,f5⟩:=f;have old:∀b u,X.s₀.heap.get? b=some u->b≠T:=λb u e=>qH (qE (qr e) hs);refine⟨I.ok,I.os,I.bare,⟨I.base.keep,I.base.slot,λb u e n hx=>?_,I.base.there,λb xs e=>?_,λb u v e=>?_,λb ps e=>?_⟩,I.loc,I.cell,?_,λx c e=>?_,λp hp=>?_,λb u e=>?_,I.len⟩
 ·rw[aj (old b u e)];exact I.base.free b u e n hx
 ·rw[aj (cE (I.base.tups b xs e) f0)];exact I.base.tups b xs e
 ·rw[aj (cE (I.base.frzs b u v e) f0)];exact I.base.frzs b u v e
 ·obtain⟨more,q⟩:=I.base.tbls b ps e;exact⟨more,by rw[aj (cE q f0)];exact q⟩
 ·rw[aj (Ne.symm f1)];exact I.free
 ·rw[aj (f4 x c e)];exact I.freeC x c e
 ·obtain⟨e,n,ne,nf,d⟩:=I.pin p hp;exact⟨e,by rw[aj (f5 p hp)];exact n,ne,nf,d⟩
 ·by_cases hb:b=T
  ·subst hb;rw[af]at e;cases e;exact new
  ·rw[aj hb]at e;exact(I.hok b u e).stay (λc v _ q=>q) (λc q=>by rw[aj (cE q f0)];exact q) λc xs q=>by rw[aj (cE q f0)];exact q
end
def SqB(K:W.Frag)(H:Hp):Bool->Addr->List V->Prop
 |false,a,xs=>SqL K H a xs
 |true,a,xs=>SqT K H a xs
theorem SqB.at{X:Cx}{pins:List (Addr×Obj)}{σ:St}{H:Hp}{s:Shared}(I:Inv X pins σ H s):∀{b:Bool}{a:Addr}{xs:List V},SqB X.K H b a xs->∃its:List Value,ax xs its/\SSq s.heap b a its.toArray/\xs.length<=sizeLine
 |false,_,_,h=>let ⟨its,r,p,z⟩:=I.list h;⟨its,r,p.isList,z⟩
 |true,_,_,h=>let ⟨its,r,p,z⟩:=I.tuple h;⟨its,r,p,z⟩
theorem SqB.inj{X:Cx}{pins:List (Addr×Obj)}{σ:St}{H:Hp}{s:Shared}(I:Inv X pins σ H s):∀{b:Bool}{a:Addr}{xs ys:List V},SqB X.K H b a xs->SqB X.K H b a ys->xs=ys
 |false,_,_,_,h,h'=>I.list_inj h h'
 |true,_,_,_,h,h'=>I.tuple_inj h h'
def Itz(K:W.Frag)(b1 b2:Bool)(l1 l2:Addr):It:=
 ⟨λi H=>∃xs ys x y,SqB K H b1 l1 xs/\SqB K H b2 l2 ys/\xs[i]?=some x/\ys[i]?=some y,
  λi H v H'=>∃p x y,H p=none/\v=.ref p/\H'=upd H p (.tup [x,y])/\(∀xs,SqB K H b1 l1 xs->xs[i]?=some x)/\∀ys,SqB K H b2 l2 ys->ys[i]?=some y,
  λi H=>∃xs ys,SqB K H b1 l1 xs/\SqB K H b2 l2 ys/\(xs.length<=i\/ys.length<=i)⟩
section
variable {prog:Program}{w:World}{A:Around}{E:Yo}{s:Shared}
theorem mY{z TI TO i1 i2 l1 l2:Addr}{b1 b2:Bool}{k1 k2:Nat}{xs ys:Array Value}{x y a b:Value}{Q:Option Value->Shared->Prop}(D:ZAp z TI TO i1 i2 l1 l2)
 (hz:IsZip s.heap z TI TO .none) (hI:IsPair s.heap TI (.ref i1) (.ref i2)) (hO:IsPair s.heap TO a b) (t1:SIt s.heap b1 i1 l1 k1) (t2:SIt s.heap b2 i2 l2 k2) (q1:SSq s.heap b1 l1 xs) (q2:SSq s.heap b2 l2 ys) (ex:xs[k1]?=some x) (ey:ys[k2]?=some y)
 (q:∀g,IsZip g z TI TO (rawInt s.heap.objs.size)->IsPair g TO x y->SIt g b1 i1 l1 (k1+1)->SIt g b2 i2 l2 (k2+1)->IsPair g s.heap.objs.size x y->(∀c o,c≠z->c≠TO->c≠i1->c≠i2->s.heap.get? c=some o->g.get? c=some o)->Q (some (.ref s.heap.objs.size)) { s with heap:=g }):
 wpAny (model prog w) A (pyNext (.ref z)) Q E s:=by
 have ty:s.TypeIs (.ref z) "zip":=⟨_,hz,U⟩;unfold pyNext;exact q9 (wpAny_attempt (wpAny_callSpecial?_slot (name:=Str.ofString "__next__") ty PySem.F.slot_zip_next (Qj PySem.F.slot_zip_next ty PySem.F.entry_zip_next (uq D hz hI hO t1 t2 q1 q2 ex ey λg a1 a2 a3 a4 a5 a6=>qe (q g a1 a2 a3 a4 a5 a6)) (PySem.F.args_zip_next_1 _))))
theorem mZ{z TI TO i1 i2 l1 l2:Addr}{b1 b2:Bool}{k1 k2:Nat}{xs ys:Array Value}{a b:Value}{Q:Option Value->Shared->Prop}(hh:A.handled=none)(D:ZAp z TI TO i1 i2 l1 l2)
 (hz:IsZip s.heap z TI TO .none) (hI:IsPair s.heap TI (.ref i1) (.ref i2)) (hO:IsPair s.heap TO a b) (t1:SIt s.heap b1 i1 l1 k1) (t2:SIt s.heap b2 i2 l2 k2) (q1:SSq s.heap b1 l1 xs) (q2:SSq s.heap b2 l2 ys) (hend:xs[k1]?=none\/ys[k2]?=none)
 (q:∀g,(∀c o,c≠z->c≠TO->c≠i1->c≠i2->s.heap.get? c=some o->g.get? c=some o)->Q none { s with heap:=g }):wpAny (model prog w) A (pyNext (.ref z)) Q E s:=by
 have ty:s.TypeIs (.ref z) "zip":=⟨_,hz,U⟩;unfold pyNext;refine q9 (wpAny_attempt (wpAny_callSpecial?_slot (name:=Str.ofString "__next__") ty PySem.F.slot_zip_next (Qj PySem.F.slot_zip_next ty PySem.F.entry_zip_next (ur hh D hz hI hO t1 t2 q1 q2 hend λg e hk he=>?_) (PySem.F.args_zip_next_1 _))));obtain⟨o,ho,hc⟩:=he;exact q9 (wpAny_isInstance (T:="StopIteration") (b:=true) ⟨o,ho,hc⟩ isSubtype_stop (qe (q _ hk)))
end
theorem uA{P:Program}{w:World}{K:W.Frag}{elts:List Expr}{kk:Nat}{tp:Pos}{b1 b2:Bool}(z TI TO i1 i2 l1 l2:Addr)(D:ZAp z TI TO i1 i2 l1 l2):
 fU P w K (.Tuple elts kk tp) (Itz K b1 b2 l1 l2) [z,TI,TO,i1,i2] z (λi h=>IsZip h z TI TO .none/\IsPair h TI (.ref i1) (.ref i2)/\(∃a b,IsPair h TO a b)/\SIt h b1 i1 l1 i/\SIt h b2 i2 l2 i) where
 mem:=by simp
 obj:=λi h st b hb=>by
  obtain⟨hz,hI,⟨a,c,hO⟩,t1,t2⟩:=st;simp only[qv,qR,or_false]at hb;rcases hb with rfl|rfl|rfl|rfl|rfl
  ·exact⟨_,hz,λv q=>by cases q⟩
  ·exact⟨_,hI,λv q=>by cases q⟩
  ·exact⟨_,hO,λv q=>by cases q⟩
  ·obtain⟨o,e,vs,d⟩:=t1.obj;exact⟨o,e,λv q=>by rw[d]at q;cases q⟩
  ·obtain⟨o,e,vs,d⟩:=t2.obj;exact⟨o,e,λv q=>by rw[d]at q;cases q⟩
 keep:=λi h h' st k=>by
  obtain⟨hz,hI,⟨a,c,hO⟩,t1,t2⟩:=st;exact⟨k z (by simp) _ hz,k TI (by simp) _ hI,⟨a,c,k TO (by simp) _ hO⟩,t1.keep λo e=>k i1 (by simp) o e,t2.keep λo e=>k i2 (by simp) o e⟩
 item:=by
  intro X hP hw hK hc i pins s σ H E I hf st hg;subst hP hw hK;obtain⟨hz,hI,⟨a,c,hO⟩,t1,t2⟩:=st;obtain⟨xs,ys,x,y,hx,hy,ex,ey⟩:=hg;obtain⟨its,rv,q1,z1⟩:=SqB.at I hx;obtain⟨jts,rw',q2,z2⟩:=SqB.at I hy;obtain⟨u,hu,ru⟩:=rv.get ex;obtain⟨v,hv,rv'⟩:=rw'.get ey;refine mY D hz hI hO t1 t2 q1 q2 (x:=u) (y:=v) (by simpa using hu) (by simpa using hv) λg a1 a2 a3 a4 a5 a6=>⟨_,U,?_⟩;refine wpAny_letOwnedTupleGo_zip a1 λg' a1' sb=>?_;obtain⟨⟨nIz,nOz,n1z,n2z,nIO,nI1,nI2,nO1,nO2,n12⟩,lne⟩:=id D
  have hT:∀b∈[z,TI,TO,i1,i2],s.heap.objs.size≠b:=λb hb=>by
   have:∃o,s.heap.get? b=some o:=by
    simp only[qv,qR,or_false]at hb;rcases hb with rfl|rfl|rfl|rfl|rfl
    ·exact⟨_,hz⟩
    ·exact⟨_,hI⟩
    ·exact⟨_,hO⟩
    ·obtain⟨o,e,_⟩:=t1.obj;exact⟨o,e⟩
    ·obtain⟨o,e,_⟩:=t2.obj;exact⟨o,e⟩
   obtain⟨o,e⟩:=this;exact Nat.ne_of_gt (qr e)
  have kk:∀b o,b∉[z,TI,TO,i1,i2]->s.heap.get? b=some o->g'.get? b=some o:=λb o hb e=>by
   simp only[qv,qR,or_false,not_or]at hb;exact sb.extBut _ _ hb.1 (a6 b o hb.1 hb.2.2.1 hb.2.2.2.1 hb.2.2.2.2 e)
  have I1:Inv X pins σ H { s with heap:=g' }:=I.turnedL (t':=s.toks) kk hf;have pT:IsPair g' s.heap.objs.size u v:=sb.extBut _ _ (hT z (by simp)) a5;have fT:cI X pins H s.heap.objs.size:=I.fpOk (qf _) (I.hok.fresh (qf _));have I2:Inv X pins σ (upd H s.heap.objs.size (.tup [x,y])) { s with heap:=g' }:=I1.track fT I.sz ⟨by show 2<=sizeLine;decide,[u,v],.cons ru (.cons rv' .nil),⟨_,pT,U,_,U⟩⟩;refine⟨.ref s.heap.objs.size,_,I2,U,⟨_,x,y,I.hok.fresh (qf _),U,U,λxs' h=>by rw[SqB.inj I h hx];exact ex,λys' h=>by rw[SqB.inj I h hy];exact ey⟩,?_,λb hb=>?_⟩
  ·exact⟨a1',sb.extBut _ _ nIz (a6 TI _ nIz nIO nI1 nI2 hI),⟨u,v,sb.extBut _ _ nOz a2⟩,a3.keep λo e=>sb.extBut _ _ n1z e,a4.keep λo e=>sb.extBut _ _ n2z e⟩
  ·rw[aj (Ne.symm (hT b hb))];exact(hf b hb).1
 done:=by
  intro X hP hw hK hc i pins s σ H E I hf st hg;subst hP hw hK;obtain⟨hz,hI,⟨a,c,hO⟩,t1,t2⟩:=st;obtain⟨xs,ys,hx,hy,hend⟩:=hg;obtain⟨its,rv,q1,z1⟩:=SqB.at I hx;obtain⟨jts,rw',q2,z2⟩:=SqB.at I hy;have e1:=rv.length;have e2:=rw'.length
  refine mZ (I.ok.hd hc) D hz hI hO t1 t2 q1 q2 (by
   rcases hend with h|h
   ·exact .inl (by simp;omega)
   ·exact .inr (by simp;omega)) λg k=>⟨U,I.turnedL (t':=s.toks) (ch:=[z,TI,TO,i1,i2]) (λb o hb e=>?_) hf⟩
  simp only[qv,qR,or_false,not_or]at hb;exact k b o hb.1 hb.2.2.1 hb.2.2.2.1 hb.2.2.2.2 e
 self:=λ_ _ _ _ _ st h=>wpAny_pyIter_zip st.1 h
def eD(b:Bool)(l:Addr):Obj:={ cls:=.type (if b=true then "tuple_iterator" else "list_iterator"),data:=.fields #[.ref l,.int 0 0] }
theorem SIt.new{h:Heap}:∀{b:Bool}{it l:Addr},h.get? it=some (eD b l)->SIt h b it l 0
 |false,_,_,e=>⟨_,e,U,U⟩
 |true,_,_,e=>⟨_,e,U,U⟩
def zg2(h:Heap)(b1 b2:Bool)(l1 l2:Addr):Heap:=(h.push (eD b1 l1)).push (eD b2 l2)
def zg3(h:Heap)(b1 b2:Bool)(l1 l2:Addr):Heap:=(zg2 h b1 b2 l1 l2).push { cls:=.type "tuple",data:=.seq #[.ref h.objs.size,.ref (h.push (eD b1 l1)).objs.size] }
def zg4(h:Heap)(b1 b2:Bool)(l1 l2:Addr):Heap:=(zg3 h b1 b2 l1 l2).push { cls:=.type "tuple",data:=.seq #[.none,.none] }
def zg5(h:Heap)(b1 b2:Bool)(l1 l2:Addr):Heap:=(zg4 h b1 b2 l1 l2).push { cls:=.type "zip",data:=.fields #[.none,.bool false,.bool false,.ref (zg2 h b1 b2 l1 l2).objs.size,.ref (zg3 h b1 b2 l1 l2).objs.size] }
theorem sI{prog:Program}{w:World}{A:Around}{E:Yo}{s:Shared}{l:Addr}{xs:Array Value}{Q:Yo}:∀{b:Bool},SSq s.heap b l xs->Q (.ref s.heap.objs.size) { s with heap:=s.heap.push (eD b l) }->wpAny (model prog w) A (pyIter (.ref l)) Q E s
 |false,h,q=>wpAny_pyIter_list h q
 |true,h,q=>wpAny_pyIter_tuple h q
theorem SSq.push{h:Heap}{b:Bool}{l:Addr}{xs:Array Value}(x:SSq h b l xs)(o:Obj):SSq (h.push o) b l xs:=x.keep λ_ e=>qb _ e
set_option maxHeartbeats 8000000 in
theorem gN(b1 b2:Bool)(l1 l2:Addr)(xs ys:Array Value):
 Meets (Builtin.«zip.__new__» ⟨[.type "zip",.ref l1,.ref l2],[]⟩) (λ_ R s=>SSq s.heap b1 l1 xs/\SSq s.heap b2 l2 ys/\R (.ok (.ret (.ref (zg4 s.heap b1 b2 l1 l2).objs.size))) { s with heap:=zg5 s.heap b1 b2 l1 l2 }):=
 .of_wp λprog w A R s h=>by
  obtain⟨hp,g,d,tk,os⟩:=s;obtain⟨h1,h2,h⟩:=h;have hsub:=PySem.sub_zip;have e1:SSq (Shared.heap ⟨hp,g,d,tk,os⟩) b1 l1 xs:=h1;have e2:SSq (Shared.heap ⟨hp.push (eD b1 l1),g,d,tk,os⟩) b2 l2 ys:=SSq.push h2 _
  wp_walk using sI e1,sI e2
  exact⟨_,U,h⟩
section
variable {prog:Program}{w:World}{A:Around}{E:Yo}{s:Shared}
theorem tW{b1 b2:Bool}{l1 l2:Addr}{xs ys:Array Value}{Q:Yo}(h1:SSq s.heap b1 l1 xs)(h2:SSq s.heap b2 l2 ys)
 (h:∀g n,n=s.heap.objs.size->IsZip g (n+4) (n+2) (n+3) .none->IsPair g (n+2) (.ref n) (.ref (n+1))->IsPair g (n+3) .none .none->SIt g b1 n l1 0->SIt g b2 (n+1) l2 0->
  (∀c o,s.heap.get? c=some o->g.get? c=some o)->Q (.ref (n+4)) { s with heap:=g }):wpAny (model prog w) A (call (.type "zip") [.ref l1,.ref l2]) Q E s:=by
 refine callType_new PySem.F.called_zip Yd (PySem.F.typeCall_zip_2 _ _) (PySem.F.newCall_zip_2 _ _) (λobj=>PySem.F.args_object_init_3 obj _ _) PySem.F.entry_zip_new (gN b1 b2 l1 l2 xs ys) ⟨h1,h2,?_⟩;have e1:(s.heap.push (eD b1 l1)).objs.size=s.heap.objs.size+1:=Qg ..;have e2:(zg2 s.heap b1 b2 l1 l2).objs.size=s.heap.objs.size+2:=by unfold zg2;rw[Qg,e1]
 have e3:(zg3 s.heap b1 b2 l1 l2).objs.size=s.heap.objs.size+3:=by unfold zg3;rw[Qg,e2]
 have e4:(zg4 s.heap b1 b2 l1 l2).objs.size=s.heap.objs.size+4:=by unfold zg4;rw[Qg,e3]
 have p:∀{c:Addr}{o:Obj},(zg4 s.heap b1 b2 l1 l2).get? c=some o->(zg5 s.heap b1 b2 l1 l2).get? c=some o:=λq=>qb _ q;have p4:∀{c:Addr}{o:Obj},(zg3 s.heap b1 b2 l1 l2).get? c=some o->(zg4 s.heap b1 b2 l1 l2).get? c=some o:=λq=>qb _ q;have p3:∀{c:Addr}{o:Obj},(zg2 s.heap b1 b2 l1 l2).get? c=some o->(zg3 s.heap b1 b2 l1 l2).get? c=some o:=λq=>qb _ q;have p2:∀{c:Addr}{o:Obj},(s.heap.push (eD b1 l1)).get? c=some o->(zg2 s.heap b1 b2 l1 l2).get? c=some o:=λq=>qb _ q;have g5:(zg5 s.heap b1 b2 l1 l2).get? (zg4 s.heap b1 b2 l1 l2).objs.size=some _:=qq _ U;have g4:(zg5 s.heap b1 b2 l1 l2).get? (zg3 s.heap b1 b2 l1 l2).objs.size=some _:=p (qq _ U);have g3:(zg5 s.heap b1 b2 l1 l2).get? (zg2 s.heap b1 b2 l1 l2).objs.size=some _:=p (p4 (qq _ U));have g2:(zg5 s.heap b1 b2 l1 l2).get? (s.heap.push (eD b1 l1)).objs.size=some _:=p (p4 (p3 (qq _ U)));have g1:(zg5 s.heap b1 b2 l1 l2).get? s.heap.objs.size=some _:=p (p4 (p3 (p2 (qq _ U))));show _/\_;rw[e2,e3,e4]at g5;rw[e1,e2]at g3;rw[e3]at g4;rw[e1]at g2;rw[e4];exact⟨⟨_,g5,U⟩,h _ _ U g5 g3 g4 (SIt.new g1) (SIt.new g2) λc o x=>p (p4 (p3 (p2 (qb _ x))))⟩
end
section
variable {X:Cx}
def A7(K:W.Frag)(ta:TA):TI:=λσ H R=>ta σ H λvs H1=>∃b1 b2 l1 l2 xs ys,vs=[.ref l1,.ref l2]/\SqB K H1 b1 l1 xs/\SqB K H1 b2 l2 ys/\R (Itz K b1 b2 l1 l2) H1
theorem xa{a b:Expr}{ta:TA}{p pos tp:Pos}{elts:List Expr}{kk:Nat}(hg:Gl X "zip")(hm:X.mg "zip"=none)(ha:PA X [a,b] ta)(hs:starEach [a,b] X.env=[(false,eval a X.env),(false,eval b X.env)]:=by rfl)(hs2:starEach [b] X.env=[(false,eval b X.env)]:=by rfl):
 PI X (.Tuple elts kk tp) (.Call (.Name "zip" p) [a,b] [] pos) (A7 X.K ta):=by
 intro pins s σ H R I h;refine Call_ (dD I hg hm PyProof.Rows.Boot.«zip» (PyProof.Rows.callWith_type1 (thn (ha pos pins s σ H _ I h) λus s1 ⟨vs,H1,I1,r1,q1⟩=>?_) (by rw[hs,hs2]) (by rw[hs2];rfl)));obtain⟨b1,b2,l1,l2,xs,ys,rfl,hx,hy,q⟩:=q1;obtain⟨u,u',rfl,ru,ru'⟩:=iq r1;cases ru;cases ru';obtain⟨its,rv,s1',z1⟩:=SqB.at I1 hx;obtain⟨jts,rw',s2',z2⟩:=SqB.at I1 hy;refine tW s1' s2' λg n hn a1 a2 a3 a4 a5 k=>?_
 have lt:∀c,c=l1\/c=l2->c<n:=λc hc=>by
  rw[hn];rcases hc with rfl|rfl
  ·obtain⟨o,e,_⟩:=s1'.obj;exact qr e
  ·obtain⟨o,e,_⟩:=s2'.obj;exact qr e
 refine wpAny_pyIter_zip a1 ⟨n+4,[n+4,n+2,n+3,n,n+1],_,_,H1,U,I1.kept (t':=s1.toks) k,uA (n+4) (n+2) (n+3) n (n+1) l1 l2 ⟨?_,λc hc=>?_⟩,⟨a1,a2,⟨_,_,a3⟩,a4,a5⟩,λb hb=>?_,q⟩
 ·have e:∀i j:Nat,i≠j->n+i≠n+j:=λi j h z=>h (Nat.add_left_cancel z);exact⟨e 2 4 Yd,e 3 4 Yd,e 0 4 Yd,e 1 4 Yd,e 2 3 Yd,e 2 0 Yd,e 2 1 Yd,e 3 0 Yd,e 3 1 Yd,e 0 1 Yd⟩
 ·have q:=lt c hc;have e:∀i:Nat,c≠n+i:=λi=>qH (qE q (Nat.le_add_right _ _));exact⟨e 4,e 3,e 0,e 1,e 2⟩
 ·have e:∀i:Nat,cI X pins H1 (n+i):=λi=>I1.fpOk (by rw[hn];exact Nat.le_add_right _ _) (I1.hok.fresh (by rw[hn];exact Nat.le_add_right _ _));simp only[qv,qR,or_false]at hb;rcases hb with rfl|rfl|rfl|rfl|rfl
  ·exact e 4
  ·exact e 2
  ·exact e 3
  ·exact e 0
  ·exact e 1
end
open PySem.Builtin.Str in
section
variable {X:Cx}
end
@[irreducible] def rStrAny:List V->Hp->VK->Prop:=λxs H Q=>(∃z:Str,xs=[.str z]/\Q (.str z) H)\/∃i:Int,xs=[.int i]/\i.natAbs.log2<1920/\Q (.str (toString i)) H
section
variable {X:Cx}
end
mutual
inductive Dt(K:W.Frag)(H:Hp):V->PyData->Prop
 |non:Dt K H .non .none
 |bl (b:Bool):Dt K H (.bl b) (.bool b)
 |int (i:Int):Dt K H (.int i) (.int i)
 |str (x:Str):Dt K H (.str x) (.str x)
 |lst {a:Addr}{xs:List V}{ds:List PyData}:SqL K H a xs->bU K H xs ds->Dt K H (.ref a) (.list ds)
 |tup {a:Addr}{xs:List V}{ds:List PyData}:SqT K H a xs->bU K H xs ds->Dt K H (.ref a) (.tuple ds)
inductive bU(K:W.Frag)(H:Hp):List V->List PyData->Prop
 |nil:bU K H [] []
 |cons {v:V}{vs:List V}{d:PyData}{ds:List PyData}:Dt K H v d->bU K H vs ds->bU K H (v::vs) (d::ds)
end
section
variable {X:Cx}{pins:List (Addr×Obj)}{σ:St}{H:Hp}{s:Shared}
mutual
theorem Dt.reads(I:Inv X pins σ H s):∀{v:V}{d:PyData},Dt X.K H v d->∀{u:Value},aG v u->∃as,Reads s.heap u d as
 |_,_,.non,_,r=>by cases r;exact⟨_,.none⟩
 |_,_,.bl b,_,r=>by cases r;exact⟨_,.bool b⟩
 |_,_,.int i,_,r=>by obtain⟨t,rfl⟩:=r;exact⟨_,.int i t⟩
 |_,_,.str x,_,r=>by obtain⟨t,rfl⟩:=r;exact⟨_,.str x t⟩
 |_,_,.lst hq ha,_,r=>by
  cases r;obtain⟨its,rv,⟨o,n,e,c,_,d⟩,_⟩:=I.list hq;obtain⟨as,z⟩:=bU.reads I ha rv;exact⟨_,.list e c d (by simpa using z)⟩
 |_,_,.tup hq ha,_,r=>by
  cases r;obtain⟨its,rv,⟨o,e,c,n,d⟩,_⟩:=I.tuple hq;obtain⟨as,z⟩:=bU.reads I ha rv;exact⟨_,.tuple e c d (by simpa using z)⟩
theorem bU.reads(I:Inv X pins σ H s):∀{vs:List V}{ds:List PyData},bU X.K H vs ds->∀{us:List Value},ax vs us->∃as,ReadsAll s.heap us ds as
 |_,_,.nil,_,r=>by cases r;exact⟨_,.nil⟩
 |_,_,.cons h t,_,r=>by
  cases r with
  |cons r1 r2=>
   obtain⟨as,z⟩:=Dt.reads I h r1;obtain⟨bs,z'⟩:=bU.reads I t r2;exact⟨_,.cons z z'⟩
end
end
section
variable {X:Cx}
theorem fJ(hu:X.A.units+64<cLine):OpR X (compareOp .Eq) (λx y H Q=>∃d e,Dt X.K H x d/\Dt X.K H y e/\SeqAt.shaped d=true/\SeqAt.shaped e=true/\Q (.bl (PyData.eqv d e)) H):=by
 intro pins s σ H x y v u Q I rx ry h;obtain⟨d,e,h1,h2,s1,s2,q⟩:=h;obtain⟨as,r1⟩:=h1.reads I rx;obtain⟨bs,r2⟩:=h2.reads I ry;exact eq_dataH r1 r2 s1 s2 hu ⟨.bl _,H,I,U,q⟩
theorem hZ(hu:X.A.units+64<cLine):OpR X (compareOp .NotEq) (λx y H Q=>∃d e,Dt X.K H x d/\Dt X.K H y e/\SeqAt.shaped d=true/\SeqAt.shaped e=true/\Q (.bl (!PyData.eqv d e)) H):=by
 intro pins s σ H x y v u Q I rx ry h;obtain⟨d,e,h1,h2,s1,s2,q⟩:=h;obtain⟨as,r1⟩:=h1.reads I rx;obtain⟨bs,r2⟩:=h2.reads I ry;exact ne_dataH r1 r2 s1 s2 hu ⟨.bl _,H,I,U,q⟩
end
theorem mG{K:W.Frag}{a:Addr}{xs:List V}{g:TG}{tt:TT}{te:TE}{Fin:List V->Hp->Prop}{σ:St}{H:Hp}(Pv:Nat->List V->St->Hp->Prop)(h0:Pv 0 [] σ H)(hz:∀i ys σ H,i<=xs.length->Pv i ys σ H->ys.length<=i)(hx:xs.length<=sizeLine)(hl:∀i ys σ H,Pv i ys σ H->SqL K H a xs)
 (hs:∀i x ys σ H,xs[i]?=some x->Pv i ys σ H->g x σ H λσ2 H2=>tt σ2 H2 λb H3=>if b=true then te σ2 H3 λy H4=>Pv (i+1) (ys++[y]) σ2 H4 else Pv (i+1) ys σ2 H3)
 (hd:∀ys σ H,Pv xs.length ys σ H->Fin ys H):∃W:Nat->Nat->List V->St->Hp->Prop,(∃m,W 0 m [] σ H)/\dM (Itl K a) g tt te Fin W:=by
 refine⟨λi m ys σ H=>m=xs.length-i/\i<=xs.length/\Pv i ys σ H,⟨_,U,qu _,h0⟩,?_⟩;rintro i m ys σ H ⟨rfl,hi,p⟩;have hl':=hz i ys σ H hi p;have q:=hl i ys σ H p;by_cases hlt:i<xs.length
 ·refine .inr ⟨⟨xs,xs[i],q,by simp[hlt]⟩,Yk,Pv (i+1),λys' σ' H' p'=>⟨_,Yk,U,hlt,p'⟩,λv H' y=>?_⟩;obtain⟨e,y⟩:=y;subst e;exact hs i v ys σ _ (y xs q) p
 ·have e:i=xs.length:=by omega
  subst e;exact .inl ⟨⟨xs,q,qf _⟩,Yk,hd ys σ H p⟩
theorem AF{K:W.Frag}{b1 b2:Bool}{l1 l2:Addr}{xs zs:List V}{g:TG}{tt:TT}{te:TE}{Fin:List V->Hp->Prop}{σ:St}{H:Hp}(Pv:Nat->List V->St->Hp->Prop)(h0:Pv 0 [] σ H)(hz:∀i ys σ H,Pv i ys σ H->ys.length<=i)(hx:xs.length<=sizeLine)(hl:∀i ys σ H,Pv i ys σ H->SqB K H b1 l1 xs/\SqB K H b2 l2 zs)
 (hs:∀i x z ys σ H p,xs[i]?=some x->zs[i]?=some z->Pv i ys σ H->H p=none->g (.ref p) σ (upd H p (.tup [x,z])) λσ2 H2=>tt σ2 H2 λb H3=>if b=true then te σ2 H3 λy H4=>Pv (i+1) (ys++[y]) σ2 H4 else Pv (i+1) ys σ2 H3)
 (hd:∀ys σ H,Pv (min xs.length zs.length) ys σ H->Fin ys H):∃W:Nat->Nat->List V->St->Hp->Prop,(∃m,W 0 m [] σ H)/\dM (Itz K b1 b2 l1 l2) g tt te Fin W:=by
 refine⟨λi m ys σ H=>m=min xs.length zs.length-i/\i<=min xs.length zs.length/\Pv i ys σ H,⟨_,U,qu _,h0⟩,?_⟩;rintro i m ys σ H ⟨rfl,hi,p⟩;have hl':=hz i ys σ H p;obtain⟨q1,q2⟩:=hl i ys σ H p;by_cases hlt:i<min xs.length zs.length
 ·have h1:i<xs.length:=by omega
  have h2:i<zs.length:=Yk;refine .inr ⟨⟨xs,zs,xs[i],zs[i],q1,q2,by simp[h1],by simp[h2]⟩,Yk,Pv (i+1),λys' σ' H' p'=>⟨_,Yk,U,hlt,p'⟩,λv H' y=>?_⟩;obtain⟨a,x,y,hn,rfl,rfl,e1,e2⟩:=y;exact hs i x y ys σ H a (e1 xs q1) (e2 zs q2) p hn
 ·have e:i=min xs.length zs.length:=by omega
  subst e;exact .inl ⟨⟨xs,zs,q1,q2,Yk⟩,Yk,hd ys σ H p⟩
end L2
namespace L2
open PySem PySem.Spec PyProof.Rows
section
variable {X:Cx}{tg:Expr}
end
section
variable {X:Cx}
end
end L2
namespace L2
open PySem PySem.Spec PyProof.Rows PySem.NumText
theorem hV{X:Cx}{pins:List (Addr×Obj)}{Nc:List Str}{scope:Scope}{fp:List Addr}{s:Shared}{H:Hp}{C:Addr}{es:List Expr}{k:Nat}{t:TGs}{pos:Pos}(n:Nat)(hc:X.calm=true)(h:PGs (X.comp pins Nc scope fp s H C) es t)
 (hn:(assignEach es (X.comp pins Nc scope fp s H C).env).length=n:=by rfl) (hst:(assignEach es (X.comp pins Nc scope fp s H C).env).findIdx? (·.1)=none:=by rfl):PG (X.comp pins Nc scope fp s H C) (.Tuple es k pos) (t6 X.K n t):=
 hX (X:=X.comp pins Nc scope fp s H C) hc h hn hst
end L2
namespace L2
open PySem PySem.Spec PyProof.Rows PySem.W
section
variable {prog:Program}{w:World}{A:Around}{R:Result->Shared->Prop}{E:Yo}{h:Heap}{g:Array GenState}{d:Drawn}{t:Nat}{os:OsState}
variable {nm q:Str}{C N f:Addr}{bs bm:List Value}{hdct:Bool}{sn:List Str}{sub:List Value}{ab:Bool}{col:Option Bool}{dd:Option Addr}{k0 k1 k2 k3 k5:Option Value}
end
section
variable {prog:Program}{w:World}{A:Around}{R:Result->Shared->Prop}{E:Yo}{h:Heap}{g:Array GenState}{d:Drawn}{t:Nat}{os:OsState}
variable {nm q:Str}{C N x:Addr}{bs bm:List Value}{sn:List Str}{sub:List Value}{ab:Bool}{col:Option Bool}{dd:Option Addr}{k0 k1 k2 k3 k5:Option Value}{newId:String}{name:Str}{v:Value}{o:Obj}{fs:Array Value}
end
section
variable {prog:Program}{w:World}{A:Around}{R:Result->Shared->Prop}{E:Yo}{h:Heap}{g:Array GenState}{d:Drawn}{t:Nat}{os:OsState}
variable {nm q:Str}{C N e:Addr}{bs bm:List Value}{hdct:Bool}{sn:List Str}{sub:List Value}{ab:Bool}{col:Option Bool}{dd:Option Addr}{k0 k1 k2 k3 k5:Option Value}{newId:String}{oe:Obj}
end
section
variable {X:Cx}{pins:List (Addr×Obj)}{σ:St}{H:Hp}{s:Shared}{a C f dx:Addr}
end
section
variable {X:Cx}{pins:List (Addr×Obj)}{σ:St}{H:Hp}{s:Shared}{a C f dx:Addr}{h':Heap}
end
section
variable {M:Model}{A:Around}{E:Yo}{s:Shared}{base:Heap}{env:Env}{outer:List Env}{L e:Addr}{oe:Obj}{vs:Array Value}
end
section
variable {P:Program}{w:World}{K:W.Frag}{mg:Str->Option Value}{base:Heap}{N:List Str}{qual:Str}{scope:Scope}{f:Addr}{cdv:Value}{A:Around}{outer:List Env}{s0:Shared}{H0:Hp}{E:XK}
end
section
variable {M:Model}{A:Around}{E:Yo}{env:Env}
variable {nm q:Str}{C N:Addr}{bs bm:List Value}{hdct:Bool}{sn:List Str}{sub:List Value}{ab:Bool}{col:Option Bool}{dd:Option Addr}{k0 k1 k2 k3 k5:Option Value}{newId:String}
end
section
variable {X:Cx}{CX:CXT}{k:Nat}{f C:Addr}{fd:FuncData}{ps:List Str}{sp:Sp}{x:Str}{p pos cpos:Pos}{e:Expr}{es:List Expr}{t:TA}
end
section
variable {M:Model}{A:Around}{E:Yo}{h:Heap}{g:Array GenState}{d:Drawn}{t:Nat}{os:OsState}{e:Addr}{oe:Obj}
variable {nm q:Str}{C N:Addr}{bs bm:List Value}{hdct:Bool}{sn:List Str}{sub:List Value}{ab:Bool}{col:Option Bool}{dd:Option Addr}{k0 k1 k2 k3 k5:Option Value}{newId:String}
variable {nm' q':Str}{C' N':Addr}{bs' bm':List Value}{hdct':Bool}{sn':List Str}{sub':List Value}{ab':Bool}{col':Option Bool}{dd':Option Addr}{k0' k1' k2' k3' k5':Option Value}{newId':String}
end
section
variable {X:Cx}{pins:List (Addr×Obj)}{σ:St}{H:Hp}{s:Shared}{a:Addr}{oe:Obj}{vs:Array Value}{ex:List Addr}{fl:Value}{h':Heap}
end
section
variable {X:Cx}{k:Nat}{f C0:Addr}{fd:FuncData}{ps:List Str}{sp:Sp}{dvs:List V}{ds:List Value}{fx cx y m n:Str}{iy im inn:Nat}{p pos apos py cp pm pn pa hpos tpos:Pos}{e:Expr}{es:List Expr}{t:TA}
end
section
variable {prog:Program}{w:World}{A:Around}{E:Yo}{h:Heap}{g:Array GenState}{d:Drawn}{t:Nat}{os:OsState}{a dx:Addr}{o:Obj}{vs:Array Value}
 {nm q:Str}{C N:Addr}{bs bm:List Value}{sn:List Str}{sub:List Value}{ab:Bool}{col:Option Bool}{dd:Option Addr}{k0 k1 k2 k3 k5:Option Value}{newId:String}{mA:Str->Option Value}{name:Str}{v:Value}
end
section
variable {X:Cx}{e:Expr}{te:TE}{pos:Pos}
end
section
variable {P:Program}{w:World}{K:W.Frag}{mg:Str->Option Value}{base:Heap}
end
section
variable {prog:Program}{w:World}{A:Around}{E:Yo}{h:Heap}{g:Array GenState}{d:Drawn}{t:Nat}{os:OsState}{a:Addr}{o:Obj}{vs:Array Value}
 {nm q:Str}{C N:Addr}{bs bm:List Value}{sn:List Str}{sub:List Value}{ab:Bool}{col:Option Bool}{dd:Option Addr}{k0 k1 k2 k3 k5:Option Value}{newId:String}
end
section
variable {X:Cx}
end
section
variable {X:Cx}
theorem rW:OpR X (binaryOp .FloorDiv) (λx y H Q=>∃i j,x=.int i/\y=.int j/\(0<j/\j.natAbs.log2<9000)/\Q (.int (i / j)) H):=by
 have z:OpR X (binaryOp .FloorDiv) (rI (λ_ j=>0<j/\j.natAbs.log2<9000) λi j=>.int (i / j)):=opI λi j _ _ _ _ _ hc q=>by
  have h1:(0:Int)<j:=hc.1;exact floordiv_int Yk (by rw[Int.fdiv_eq_ediv_of_nonneg i Yk];exact q) (.inl (PyProof.noPylong_of_log2 hc.2))
 exact z
theorem rX:OpR X (binaryOp .BitAnd) (λx y H Q=>∃i j,x=.int i/\y=.int j/\Q (.int (Builtin.bitAnd i j)) H):=xR
theorem rV:OpR X (binaryOp .BitOr) (λx y H Q=>∃i j,x=.int i/\y=.int j/\Q (.int (Builtin.bitOr i j)) H):=xC
theorem rT:OpR X (binaryOp .BitXor) (λx y H Q=>∃i j,x=.int i/\y=.int j/\Q (.int (Builtin.bitXor i j)) H):=xy
end
theorem cJ{x y:Str}(c:decide (V.str x=V.str y)=true):x=y:=by injection (Qd c)
theorem cK{x y:Str}(c:¬ decide (V.str x=V.str y)=true):¬ x=y:=λe=>c (Q3 (by rw[e]))
theorem dJ{x y:Int}(c:decide (V.int x=V.int y)=true):x=y:=by injection (Qd c)
theorem dL{x y:Int}(c:¬ decide (V.int x=V.int y)=true):¬ x=y:=λe=>c (Q3 (by rw[e]))
section
variable {P:Program}{w:World}{A:Around}{E:Yo}{s:Shared}
end
section
variable {P:Program}{w:World}{A:Around}{E:Yo}{s:Shared}
end
section
variable {P:Program}{w:World}{A:Around}{E:Yo}{s:Shared}
end
section
variable {P:Program}{w:World}{A:Around}{E:Yo}{s:Shared}
end
section
variable {P:Program}{w:World}{A:Around}{E:Yo}{s:Shared}
end
section
variable {P:Program}{w:World}{A:Around}{E:Yo}{s:Shared}
set_option maxHeartbeats 3200000 in
end
section
variable {X:Cx}
end
section
variable {P:Program}{w:World}{A:Around}{E:Yo}{s:Shared}
end
section
variable {X:Cx}
end
theorem tQ{K:W.Frag}{a:Addr}{xs:List V}{g:TG}{tt:TT}{te:TE}{Fin:List V->Hp->Prop}{σ:St}{H:Hp}(Pv:Nat->List V->St->Hp->Prop)(h0:Pv 0 [] σ H)(hz:∀i ys σ H,i<=xs.length->Pv i ys σ H->ys.length<=i)(hx:xs.length<=sizeLine)(hl:∀i ys σ H,Pv i ys σ H->SqT K H a xs)
 (hs:∀i x ys σ H,xs[i]?=some x->Pv i ys σ H->g x σ H λσ2 H2=>tt σ2 H2 λb H3=>if b=true then te σ2 H3 λy H4=>Pv (i+1) (ys++[y]) σ2 H4 else Pv (i+1) ys σ2 H3)
 (hd:∀ys σ H,Pv xs.length ys σ H->Fin ys H):∃W:Nat->Nat->List V->St->Hp->Prop,(∃m,W 0 m [] σ H)/\dM (Itt K a) g tt te Fin W:=by
 refine⟨λi m ys σ H=>m=xs.length-i/\i<=xs.length/\Pv i ys σ H,⟨_,U,qu _,h0⟩,?_⟩;rintro i m ys σ H ⟨rfl,hi,p⟩;have few:=hz i ys σ H hi p;have q:=hl i ys σ H p;by_cases lt:i<xs.length
 ·refine .inr ⟨⟨xs,xs[i],q,by simp[lt]⟩,Yk,Pv (i+1),λys' σ' H' p'=>⟨_,Yk,U,lt,p'⟩,λv H' y=>?_⟩;obtain⟨e,y⟩:=y;subst e;exact hs i v ys σ _ (y xs q) p
 ·obtain rfl:i=xs.length:=by omega
  exact .inl ⟨⟨xs,q,qf _⟩,Yk,hd ys σ H p⟩
theorem bo{b:Bool}{A B:Prop}(h:b=true)(x:A):if b=true then A else B:=by rw[Q1 h];exact x
theorem aL{b:Bool}{A B:Prop}(h:b=false)(x:B):if b=true then A else B:=by rw[Q0 (by rw[h];decide)];exact x
theorem jD{x y:Str}(h:(x == y)=false):V.str x≠V.str y:=λe=>by
 injection e with e;subst e;simp at h
end L2
namespace Tr
open PySem PySem.Spec PyProof.Rows L2
theorem a9.over{H0 H:Hp}{f:Addr}{o:HO}(h:a9 H0 H)(hf:H0 f=none):a9 H0 (upd H f o):=λb u q=>by
 rw[aj (cE q hf)];exact h b u q
theorem a9.none{H0 H:Hp}{f:Addr}(h:a9 H0 H)(hf:H f=none):H0 f=none:=by
 cases q:H0 f with
 |none=>rfl
 |some o=>rw[h _ _ q]at hf;cases hf
section
variable {Hb H0 H H1:Hp}{S s0 s1 s2 s3:Addr}{z:List Fz}
end
section
variable {Hb H0 H H1:Hp}{S s0 s1 s2 s3:Addr}{z:List Fz}
end
section
variable {Hb H0 H H':Hp}{S s0 s1 s2 s3:Addr}{z:List Fz}
end
section
variable {Hb H0 H H4:Hp}{S s0 s1 s2 s3:Addr}
end
end Tr
namespace Tr
end Tr
namespace Tr
open PySem PySem.Spec PyProof.Rows L2
end Tr
namespace L2
open PySem PySem.Spec PyProof.Rows
theorem AH{n:Nat}{g:TG}{tt:TT}{te:TE}{Fin:List V->Hp->Prop}{σ:St}{H:Hp}(Pv:Nat->List V->St->Hp->Prop)(h0:Pv 0 [] σ H)(hz:∀i ys σ H,i<=n->Pv i ys σ H->ys.length<=i)(hx:n<=sizeLine)
 (hs:∀i ys σ H,i<n->Pv i ys σ H->g (.int i) σ H λσ2 H2=>tt σ2 H2 λb H3=>if b=true then te σ2 H3 λy H4=>Pv (i+1) (ys++[y]) σ2 H4 else Pv (i+1) ys σ2 H3)
 (hd:∀ys σ H,Pv n ys σ H->Fin ys H):∃W:Nat->Nat->List V->St->Hp->Prop,(∃m,W 0 m [] σ H)/\dM (Itr 0 n) g tt te Fin W:=by
 refine⟨λi m ys σ H=>m=n-i/\i<=n/\Pv i ys σ H,⟨_,U,qu _,h0⟩,?_⟩;rintro i m ys σ H ⟨rfl,hi,p⟩;have few:=hz i ys σ H hi p;by_cases lt:i<n
 ·refine .inr ⟨lt,Yk,Pv (i+1),λys' σ' H' p'=>⟨_,Yk,U,lt,p'⟩,λv H' y=>?_⟩;obtain⟨e,y⟩:=y;rw[Int.zero_add]at y;subst e y;exact hs i ys σ _ lt p
 ·obtain rfl:i=n:=by omega
  exact .inl ⟨qf _,Yk,hd ys σ H p⟩
theorem dW{n:Nat}{g:TG}{te:TE}{Fin:List V->Hp->Prop}{σ:St}{H:Hp}(Pv:Nat->List V->St->Hp->Prop)(h0:Pv 0 [] σ H)(hz:∀i ys σ H,i<=n->Pv i ys σ H->ys.length<=i)(hx:n<=sizeLine)
 (hs:∀i ys σ H,i<n->Pv i ys σ H->g (.int i) σ H λσ2 H2=>te σ2 H2 λy H4=>Pv (i+1) (ys++[y]) σ2 H4)
 (hd:∀ys σ H,Pv n ys σ H->Fin ys H):∃W:Nat->Nat->List V->St->Hp->Prop,(∃m,W 0 m [] σ H)/\dM (Itr 0 n) g eN te Fin W:=
 AH Pv h0 hz hx (λi ys σ H lt p=>by
  rw[gO (N':=λ_ _ _=>True)]
  exact hs i ys σ H lt p) hd
theorem dG{K:W.Frag}{a:Addr}{xs:List V}{g:TG}{te:TE}{Fin:List V->Hp->Prop}{σ:St}{H:Hp}(Pv:Nat->List V->St->Hp->Prop)(h0:Pv 0 [] σ H)(hz:∀i ys σ H,i<=xs.length->Pv i ys σ H->ys.length<=i)(hx:xs.length<=sizeLine)(hl:∀i ys σ H,Pv i ys σ H->SqL K H a xs)
 (hs:∀i x ys σ H,xs[i]?=some x->Pv i ys σ H->g x σ H λσ2 H2=>te σ2 H2 λy H4=>Pv (i+1) (ys++[y]) σ2 H4)
 (hd:∀ys σ H,Pv xs.length ys σ H->Fin ys H):∃W:Nat->Nat->List V->St->Hp->Prop,(∃m,W 0 m [] σ H)/\dM (Itl K a) g eN te Fin W:=
 mG Pv h0 hz hx hl (λi x ys σ H hx p=>by
  rw[gO (N':=λ_ _ _=>True)]
  exact hs i x ys σ H hx p) hd
end L2
namespace Tr
open PySem PySem.Spec PyProof.Rows L2
end Tr
namespace L2
open PySem
section
variable {P:Program}{w:World}{A:Around}{E:Yo}{s:Shared}
end
section
variable {P:Program}{w:World}{A:Around}{E:Yo}{s:Shared}
set_option maxHeartbeats 3200000 in
end
end L2
namespace L2
open PySem PySem.Spec PyProof.Rows
section
variable {X:Cx}
end
section
variable {X:Cx}
end
def Ite(K:W.Frag)(l:Addr):It:=
 ⟨λi H=>∃xs x,SqL K H l xs/\xs[i]?=some x,
  λi H v H'=>∃p x,H p=none/\v=.ref p/\H'=upd H p (.tup [.int i,x])/\∀xs,SqL K H l xs->xs[i]?=some x,
  λi H=>∃xs,SqL K H l xs/\xs.length<=i⟩
theorem uE{P:Program}{w:World}{K:W.Frag}{elts:List Expr}{kk:Nat}{tp:Pos}(e it l:Addr)(ne:e≠it):
 fU P w K (.Tuple elts kk tp) (Ite K l) [e,it] e (λi h=>(∃old,IsEnum h e it i old)/\h.IsListIter it l i) where
 mem:=by simp
 obj:=λi h st b hb=>by
  obtain⟨⟨old,he⟩,o,eo,c,d⟩:=st;simp only[qv,qR,or_false]at hb;rcases hb with rfl|rfl
  ·exact⟨_,he,λv q=>by cases q⟩
  ·exact⟨o,eo,λv q=>by rw[d]at q;cases q⟩
 keep:=λi h h' st k=>by
  obtain⟨⟨old,he⟩,o,eo,r⟩:=st;exact⟨⟨old,k e (by simp) _ he⟩,o,k it (by simp) o eo,r⟩
 item:=by
  intro X hP hw hK hc i pins s σ H E I hf st hg;subst hP hw hK;obtain⟨⟨old,he⟩,hit⟩:=st;obtain⟨xs,x,hx,ex⟩:=hg;obtain⟨its,rv,pl,z1⟩:=I.list hx;obtain⟨u,hu,ru⟩:=rv.get ex;refine wpAny_pyNext_enum_item he hit pl.isList (x:=u) (by simpa using hu) ne λg a1 a2 a3 a4 a5=>⟨_,U,?_⟩;refine wpAny_letOwnedTupleGo_enum a1 λg' a1' sb=>?_
  have hT:∀b∈[e,it],s.heap.objs.size≠b:=λb hb=>by
   simp only[qv,qR,or_false]at hb;rcases hb with rfl|rfl
   ·exact Nat.ne_of_gt (qr he)
   ·obtain⟨o,eo,_⟩:=hit;exact Nat.ne_of_gt (qr eo)
  have ky:∀b o,b∉[e,it]->s.heap.get? b=some o->g'.get? b=some o:=λb o hb q=>by
   simp only[qv,qR,or_false,not_or]at hb;exact sb.extBut _ _ hb.1 (a5 b o hb.1 hb.2 q)
  have I1:Inv X pins σ H { s with heap:=g',toks:=s.toks+1 }:=I.turnedL (t':=s.toks+1) ky hf;have pT:=sb.extBut _ _ (hT e (by simp)) a3;have fT:cI X pins H s.heap.objs.size:=I.fpOk (qf _) (I.hok.fresh (qf _));have I2:Inv X pins σ (upd H s.heap.objs.size (.tup [.int i,x])) { s with heap:=g',toks:=s.toks+1 }:=I1.track fT I.sz ⟨by show 2<=sizeLine;decide,[.int i s.toks,u],.cons ⟨_,U⟩ (.cons ru .nil),⟨_,pT,U,_,U⟩⟩;refine⟨.ref s.heap.objs.size,_,I2,U,⟨_,x,I.hok.fresh (qf _),U,U,λxs' h=>by rw[I.list_inj h hx];exact ex⟩,⟨⟨u,a1'⟩,?_⟩,λb hb=>?_⟩
  ·obtain⟨o,eo,r⟩:=a2;exact⟨o,sb.extBut _ _ (Ne.symm ne) eo,r⟩
  ·rw[aj (Ne.symm (hT b hb))];exact(hf b hb).1
 done:=by
  intro X hP hw hK hc i pins s σ H E I hf st hg;subst hP hw hK;obtain⟨⟨old,he⟩,hit⟩:=st;obtain⟨xs,hx,hend⟩:=hg;obtain⟨its,rv,pl,z1⟩:=I.list hx;have e1:=rv.length;refine wpAny_pyNext_enum_end (I.ok.hd hc) he hit pl.isList (by simp;omega) λg k=>⟨U,I.turnedL (t':=s.toks) (ch:=[e,it]) (λb o hb q=>?_) hf⟩;simp only[qv,qR,or_false,not_or]at hb;exact k b o hb.2 q
 self:=λ_ _ _ _ _ st h=>by
  obtain⟨⟨old,he⟩,_⟩:=st;exact wpAny_pyIter_enum he h
section
variable {X:Cx}
def Aa(K:W.Frag)(ta:TA):TI:=λσ H R=>ta σ H λvs H1=>∃l xs,vs=[.ref l]/\SqL K H1 l xs/\R (Ite K l) H1
theorem lJ{a:Expr}{ta:TA}{p pos tp:Pos}{elts:List Expr}{kk:Nat}(hg:Gl X "enumerate")(hm:X.mg "enumerate"=none)(ha:PA X [a] ta)(hs:starEach [a] X.env=[(false,eval a X.env)]:=by rfl):
 PI X (.Tuple elts kk tp) (.Call (.Name "enumerate" p) [a] [] pos) (Aa X.K ta):=by
 intro pins s σ H R I h;refine Call_ (dD I hg hm PyProof.Rows.Boot.«enumerate» (PyProof.Rows.callWith_type1 (thn (ha pos pins s σ H _ I h) λus s1 ⟨vs,H1,I1,r1,q1⟩=>?_) (by rw[hs];rfl) (by rfl)));obtain⟨l,xs,rfl,hx,q⟩:=q1;obtain⟨u,rfl,ru⟩:=ff r1;cases ru;obtain⟨its,rv,pl,z1⟩:=I1.list hx;refine call_enumerate_list pl.isList λg a1 a2 a3 k=>?_;refine wpAny_pyIter_enum a1 ⟨s1.heap.objs.size+1,[s1.heap.objs.size+1,s1.heap.objs.size],_,_,H1,U,I1.kept (t':=s1.toks) k,uE _ _ l (Nat.succ_ne_self _),⟨⟨_,a1⟩,a2⟩,λb hb=>?_,q⟩;simp only[qv,qR,or_false]at hb;rcases hb with rfl|rfl
 ·exact I1.fpOk (Nat.le_succ _) (I1.hok.fresh (Nat.le_succ _))
 ·exact I1.fpOk (qf _) (I1.hok.fresh (qf _))
end
theorem Ap{K:W.Frag}{l:Addr}{xs:List V}{g:TG}{tb:TS}{D:dY}{σ:St}{H:Hp}(Pv:Nat->St->Hp->Prop)(h0:Pv 0 σ H)(hl:∀i σ H,Pv i σ H->SqL K H l xs)
 (hs:∀i x σ H p,xs[i]?=some x->Pv i σ H->H p=none->g (.ref p) σ (upd H p (.tup [.int i,x])) λσ2 H2=>tb { D with nx:=Pv (i+1),ct:=Pv (i+1),bk:=D.nx } σ2 H2)
 (hd:∀σ H,Pv xs.length σ H->D.nx σ H):
 ∃W:Nat->Nat->St->Hp->Prop,(∃m,W 0 m σ H)/\∀i m σ H,W i m σ H->
  ((Ite K l).stop i H/\D.nx σ H)\/((Ite K l).go i H/\∃N:St->Hp->Prop,(∀σ' H',N σ' H'->∃m',m'<m/\W (i+1) m' σ' H')/\∀x H',(Ite K l).yld i H x H'->g x σ H' λσ2 H2=>tb { D with nx:=N,ct:=N,bk:=D.nx } σ2 H2):=by
 refine⟨λi m σ H=>m=xs.length-i/\i<=xs.length/\Pv i σ H,⟨_,U,qu _,h0⟩,?_⟩;rintro i m σ H ⟨rfl,hi,p⟩;have q:=hl i σ H p;by_cases lt:i<xs.length
 ·refine .inr ⟨⟨xs,xs[i],q,by simp[lt]⟩,Pv (i+1),λσ' H' p'=>⟨_,Yk,U,lt,p'⟩,λv H' y=>?_⟩;obtain⟨a,x,hn,rfl,rfl,e1⟩:=y;exact hs i x σ H a (e1 xs q) p hn
 ·obtain rfl:i=xs.length:=by omega
  exact .inl ⟨⟨xs,q,qf _⟩,hd σ H p⟩
end L2
namespace L2
end L2
namespace Tr
open PySem PySem.Spec PyProof.Rows L2
theorem at0{α:Type}{v:α}{r:List α}:atI (v::r) (0:Int)=some v:=bT (j:=0) U
end Tr
namespace L2
open PySem PySem.Spec PyProof.Rows
end L2
namespace Tr
open PySem PySem.Spec PyProof.Rows L2
theorem mh{x y:V}{A B:Prop}(h:x≠y)(a:A):if(!decide (x=y))=true then A else B:=by rw[Q4 h];exact a
end Tr
namespace L2
open PySem PySem.Spec PyProof.Rows
structure mW(K:W.Frag)(C:Addr)(m:Str)(f:Addr):Prop where
 ga:PySem.W.specialIn K (.ref C) "__getattribute__"=some (some (.builtin "type.__getattribute__"))
 rd:PySem.W.readsIn K C (.type "type")=true
 fc:PySem.W.findCls K (.ref C) (.type "type") m=some (.val (.ref f))
 kp:PySem.W.keepIn K (.ref f)=true
section
variable {X:Cx}{CX:CXT}{k:Nat}{f C:Addr}{fd:FuncData}{ps:List Str}{sp:Sp}{E:XK}{x m:Str}{p pos apos:Pos}{e o:Expr}{es:List Expr}{t:TA}{te ta:TE}{ds:List Value}{dvs:List V}
theorem iX{pl:Sem Bool}(hg:Gl X x)(hmg:X.mg x=some (.ref C))(c:mW X.K C m f)(F:aA X.prog X.w X.K X.mg X.base CX k f fd ps sp)(hr:bC k X.A)(hb:aC X.K fd ps ds)(hd:ax dvs ds)(hx:fb CX X E)(ha:PA X (e::es) t)(hdb:(x == ("__debug__":Str))=false:=by decide)
 (hst:starEach (e::es) X.env=(false,eval e X.env)::starEach es X.env:=by rfl) (hpl:(backTo pos (starEach es X.env)).any (·.1)=false:=by rfl)
 (ht:eval (.Call (.Attribute (.Name x p) m apos) (e::es) [] pos) X.env=(do
  let ov <- eval (.Name x p) X.env
  standAt apos.atName
  let (f,first) <- holding [ov] (getMethod ov m pl)
  callWith pos f first (backTo pos (starEach (e::es) X.env)) (backToKw pos (keywordEach [] X.env))):=by rfl):
 PE X (.Call (.Attribute (.Name x p) m apos) (e::es) [] pos) (nG sp dvs E t):=by
 intro pins s σ H Q I h;refine PySem.W.methodCall_KW (pl:=pl) (j4 I hg hmg ?_ hdb) ht;refine PySem.W.method_cls I.kIn c.ga (PySem.W.cls_value I.kIn c.rd c.fc U ?_);have I2:Inv X pins σ H { s with toks:=s.toks+1 }:=I.tok _;refine PySem.W.callWith_K (first:=[]) (h₀:=X.base) I.ok.mod.kin c.kp (thn (ha pos pins _ σ H _ I2 h) λus s2 ⟨vs,H2,I3,r,q2⟩=>⟨I3.kIn,?_⟩) hst hpl;exact gZ (us:=us) (vs:=vs) F hr hb hd hx I3 r q2
def mV(X:Cx)(C:Addr)(m:Str)(sp:Sp):Prop:=∃(k:Nat)(f:Addr)(fd:FuncData)(ps:List Str),Cls X.K C/\aS X.K C m f/\aA X.prog X.w X.K X.mg X.base CX0 k f fd ps sp/\bC k X.A/\aC X.K fd ps []
def uR(X:Cx)(m:Str)(ta:TE)(t:TA):TE:=λσ H Q=>ta σ H λx H1=>∃a C dx fs sp,x=.ref a/\H1 a=some (.ins C dx fs)/\fs.lookup m=none/\mV X C m sp/\t σ H1 λvs H2=>sp (x::vs) H2 Q E0
theorem rE{pl:Sem Bool}(he:PE X o ta)(ha:PA X (e::es) t)
 (hst:starEach (e::es) X.env=(false,eval e X.env)::starEach es X.env:=by rfl) (hpl:(backTo pos (starEach es X.env)).any (·.1)=false:=by rfl)
 (ht:eval (.Call (.Attribute o m apos) (e::es) [] pos) X.env=(do
  let ov <- eval o X.env
  standAt apos.atName
  let (f,first) <- holding [ov] (getMethod ov m pl)
  callWith pos f first (backTo pos (starEach (e::es) X.env)) (backToKw pos (keywordEach [] X.env))):=by rfl):
 PE X (.Call (.Attribute o m apos) (e::es) [] pos) (uR X m ta t):=by
 intro pins s σ H Q I h;refine PySem.W.methodCall_KW (pl:=pl) (thn (he pins s σ H _ I h) λu s1 ⟨x,H1,I1,rx,a,C,dx,fs,sp,ex,ea,l,⟨k,f,fd,ps,c,hm,F,hr,hb⟩,q⟩=>?_) ht;subst ex;obtain rfl:u=Value.ref a:=rx;refine jd I1 ea c hm l ?_;refine PySem.W.callWith_K (first:=[.ref a]) (h₀:=X.base) I.ok.mod.kin hm.kp (thn (ha pos pins s1 σ H1 _ I1 q) λus s2 ⟨vs,H2,I2,r,q2⟩=>⟨I2.kIn,?_⟩) hst hpl;exact gZ (us:=.ref a::us) (vs:=.ref a::vs) (dvs:=[]) F hr hb .nil ar I2 (.cons U r) (by rw[qy];exact q2)
end
theorem cy{f:Str}{v:V}:∀{fs:List (Str×V)}(ks:List Str),fs.map (·.1)=ks->(ks.all λg=>!decide (g=f))=true->bz f v fs=fs++[(f,v)]
 |[],_,_,_=>rfl
 |(g,x)::r,ks,e,h=>by
  subst e;simp only[qS,List.all_cons,Bool.and_eq_true,Bool.not_eq_true',decide_eq_false_iff_not]at h;rw[bz,Q0 h.1,cy (r.map (·.1)) U h.2]
  rfl
theorem d6{H:Hp}{p:Addr}{o o':HO}:upd (upd H p o) p o'=upd H p o':=by
 funext b
 by_cases e:b=p
 ·subst e;rw[af,af]
 ·rw[aj e,aj e,aj e]
theorem dA{k:Str}{v:V}{r:List (Str×V)}:List.lookup k ((k,v)::r)=some v:=by simp[List.lookup]
theorem aZ{k g:Str}{v:V}{r:List (Str×V)}(h:(k == g)=false):List.lookup k ((g,v)::r)=List.lookup k r:=by simp[List.lookup,h]
theorem gI{α:Type}{xs:List α}{i:Int}{v:α}(h:0<=i)(e:xs[i.toNat]?=some v):atI xs i=some v:=by
 have:=bT (xs:=xs) (j:=i.toNat) (v:=v) e
 rwa [Int.toNat_of_nonneg h]at this
inductive hG(i:Nat)(σ:St)(H:Hp)(Q:VK):Prop
 |mk (v:V) (h:σ[i]?=some (some v)) (q:Q v H):hG i σ H Q
theorem wG(i:Nat):hG i=nD i:=by
 funext σ H Q
 exact propext ⟨λ⟨v,h,q⟩=>⟨v,h,q⟩,λ⟨v,h,q⟩=>⟨v,h,q⟩⟩
inductive qB(x:V)(H:Hp)(Q:Bool->Hp->Prop):Prop
 |mk (k:Bool) (h:x=.bl k) (q:Q k H):qB x H Q
theorem qX(Q:Bool->Hp->Prop):(λx H=>qB x H Q)=λx H=>∃k,x=V.bl k/\Q k H:=by
 funext x H
 exact propext ⟨λ⟨v,h,q⟩=>⟨v,h,q⟩,λ⟨v,h,q⟩=>⟨v,h,q⟩⟩
def fF(t:TE):TT:=λσ H Q=>t σ H λx H'=>qB x H' Q
theorem wJ(t:TE):fF t=ix t:=by
 funext σ H Q
 unfold fF ix;rw[qX]
theorem wI(t:TE):fF t=tB t:=by
 funext σ H Q
 unfold fF tB;rw[qX]
inductive rf(x y:V)(H:Hp)(Q:VK):Prop
 |mk (i j:Int) (h1:x=.int i) (h2:y=.int j) (q:Q (.int (i+j)) H):rf x y H Q
inductive pV(x y:V)(H:Hp)(Q:VK):Prop
 |mk (i j:Int) (h1:x=.int i) (h2:y=.int j) (q:Q (.int (i-j)) H):pV x y H Q
inductive pZ(x y:V)(H:Hp)(Q:VK):Prop
 |mk (i j:Int) (h1:x=.int i) (h2:y=.int j) (c:0<j/\j<1073741824) (q:Q (.int (i / j)) H):pZ x y H Q
inductive pX(x y:V)(H:Hp)(Q:VK):Prop
 |mk (i j:Int) (h1:x=.int i) (h2:y=.int j) (c:0<j) (q:Q (.int (i % j)) H):pX x y H Q
inductive qLt(x y:V)(H:Hp)(Q:VK):Prop
 |mk (i j:Int) (h1:x=.int i) (h2:y=.int j) (q:Q (.bl (decide (i<j))) H):qLt x y H Q
inductive qLe(x y:V)(H:Hp)(Q:VK):Prop
 |mk (i j:Int) (h1:x=.int i) (h2:y=.int j) (q:Q (.bl (decide (i<=j))) H):qLe x y H Q
inductive qGt(x y:V)(H:Hp)(Q:VK):Prop
 |mk (i j:Int) (h1:x=.int i) (h2:y=.int j) (q:Q (.bl (decide (j<i))) H):qGt x y H Q
inductive qGe(x y:V)(H:Hp)(Q:VK):Prop
 |mk (i j:Int) (h1:x=.int i) (h2:y=.int j) (q:Q (.bl (decide (j<=i))) H):qGe x y H Q
inductive qEq(x y:V)(H:Hp)(Q:VK):Prop
 |mk (c:iD x y=true) (q:Q (.bl (decide (x=y))) H):qEq x y H Q
inductive qNe(x y:V)(H:Hp)(Q:VK):Prop
 |mk (c:iD x y=true) (q:Q (.bl (!decide (x=y))) H):qNe x y H Q
inductive lj(x y:V)(H:Hp)(Q:VK):Prop
 |mk (c:y=.non) (q:Q (.bl (decide (x=.non))) H):lj x y H Q
inductive pW(x y:V)(H:Hp)(Q:VK):Prop
 |mk (c:y=.non) (q:Q (.bl (!decide (x=.non))) H):pW x y H Q
inductive lf(K:W.Frag)(x y:V)(H:Hp)(Q:VK):Prop
 |mk (p:Addr) (xs:List V) (i:Int) (v:V) (h1:x=.ref p) (h2:y=.int i) (h3:SqL K H p xs) (h4:atI xs i=some v) (q:Q v H):lf K x y H Q
inductive kZ(K:W.Frag)(x y:V)(H:Hp)(Q:VK):Prop
 |mk (p:Addr) (xs:List V) (i:Int) (v:V) (h1:x=.ref p) (h2:y=.int i) (h3:SqT K H p xs) (h4:atI xs i=some v) (q:Q v H):kZ K x y H Q
inductive kY(K:W.Frag)(xs:List V)(H:Hp)(Q:VK):Prop
 |mk (p:Addr) (ys:List V) (h1:xs=[.ref p]) (h2:SqL K H p ys\/SqT K H p ys) (q:Q (.int ys.length) H):kY K xs H Q
inductive pY(K:W.Frag)(xs:List V)(H:Hp)(Q:VK):Prop
 |mk (x:V) (t:Value) (T:String) (b:Bool) (h1:xs=[x,.ty T]) (h2:d5 K H x t) (h3:PySem.W.kitOne K t (.type T)=some b) (q:Q (.bl b) H):pY K xs H Q
inductive kX(K:W.Frag)(xs:List V)(H:Hp)(Q:VK):Prop
 |mk (p:Addr) (ys:List V) (h1:xs=[.ref p]) (h2:SqL K H p ys\/SqT K H p ys) (q:∀l,H l=none->Q (.ref l) (upd H l (.lst ys))):kX K xs H Q
inductive rb(x:V)(vs:List V)(H:Hp)(Q:VK):Prop
 |mk (l:Addr) (xs:List V) (y:V) (h1:x=.ref l) (h2:vs=[y]) (h3:H l=some (.lst xs)) (h4:xs.length<sizeLine) (q:Q .non (upd H l (.lst (xs++[y])))):rb x vs H Q
inductive qG(K:W.Frag)(x y:V)(H:Hp)(Q:VK):Prop
 |mk (l b:Addr) (xs zs:List V) (h1:x=.ref l) (h2:y=.ref b) (h3:SqL K H l xs) (h4:SqL K H b zs) (h5:xs.length+zs.length<=sizeLine) (q:∀p,H p=none->Q (.ref p) (upd H p (.lst (xs++zs)))):qG K x y H Q
inductive hJ(A B:Prop):Prop
 |mk (h:A) (q:B):hJ A B
theorem lC(A B:Prop):hJ A B=(A/\B):=propext ⟨λ⟨a,b⟩=>⟨a,b⟩,λ⟨a,b⟩=>⟨a,b⟩⟩
section
variable {X:Cx}
theorem pq(i:Nat){x:Str}{pos:Pos}(hN:X.N[i]?=some x:=by rfl)(hv:Vis X.env.scope x:=by first|exact Or.inl U|exact Or.inr Oi|exact Or.inr (Or.inr U))(hd:(x == ("__debug__":Str))=false:=by decide)
 (hcd:(x == ("__classdict__":Str))=false:=by decide):PE X (.Name x pos) (hG i):=by
 rw[wG];exact xc hN hv hd hcd
theorem ap{op:CmpOp}{r:R2}{a b:Expr}{ta tb:TE}{pos:Pos}(ho:OpR X (compareOp op) r)(ha:PE X a ta)(hb:PE X b tb)(hm:behindInMarks op b=false):PT X (.Compare a [op] [b] pos) (fF (tOp r ta tb)):=by
 rw[wJ];exact wR ho ha hb hm
theorem bZ{e:Expr}{t:TE}(h:PE X e t)(he:∀whole,isTrue e X.env whole=(do let v <- whole;standAt e.pos;holding [v] (truthy v)):=by intro _;rfl):PT X e (fF t):=by
 rw[wI];exact wQ h he
theorem OpR.as{f:Value->Value->Sem Value}{r r':R2}(h:OpR X f r)(e:∀x y H Q,r' x y H Q->r x y H Q):OpR X f r':=λpins s σ H x y v u Q I rx ry q=>h pins s σ H x y v u Q I rx ry (e _ _ _ _ q)
theorem cr.as{f:Value}{r r':List V->Hp->VK->Prop}(h:cr X f r)(e:∀x H Q,r' x H Q->r x H Q):cr X f r':=λpins s σ H x u Q I rx q=>h pins s σ H x u Q I rx (e _ _ _ q)
theorem IxR.as{r r':R2}(h:IxR X r)(e:∀x y H Q,r' x y H Q->r x y H Q):IxR X r':=λa b pins s σ H x y v u Q I rx ry q=>h a b pins s σ H x y v u Q I rx ry (e _ _ _ _ q)
theorem bx:OpR X (binaryOp .Add) rf:=yW.as λ_ _ _ _ ⟨i,j,a,b,q⟩=>⟨i,j,a,b,q⟩
theorem fD:OpR X (binaryOp .Sub) pV:=yP.as λ_ _ _ _ ⟨i,j,a,b,q⟩=>⟨i,j,a,b,q⟩
theorem bW:OpR X (binaryOp .FloorDiv) pZ:=yV.as λ_ _ _ _ ⟨i,j,a,b,c,q⟩=>⟨i,j,a,b,c,q⟩
theorem aW:OpR X (binaryOp .Mod) pX:=yQ.as λ_ _ _ _ ⟨i,j,a,b,c,q⟩=>⟨i,j,a,b,c,q⟩
theorem di:OpR X (compareOp .Lt) qLt:=yR.as λ_ _ _ _ ⟨i,j,a,b,q⟩=>⟨i,j,a,b,q⟩
theorem iS:OpR X (compareOp .LtE) qLe:=yS.as λ_ _ _ _ ⟨i,j,a,b,q⟩=>⟨i,j,a,b,q⟩
theorem fE:OpR X (compareOp .Gt) qGt:=yT.as λ_ _ _ _ ⟨i,j,a,b,q⟩=>⟨i,j,a,b,q⟩
theorem wC:OpR X (compareOp .GtE) qGe:=yU.as λ_ _ _ _ ⟨i,j,a,b,q⟩=>⟨i,j,a,b,q⟩
theorem ba:OpR X (compareOp .Eq) qEq:=xP.as λ_ _ _ _ ⟨c,q⟩=>⟨c,q⟩
theorem gm:OpR X (compareOp .NotEq) qNe:=xE.as λ_ _ _ _ ⟨c,q⟩=>⟨c,q⟩
theorem gp:OpR X (compareOp .Is) lj:=xJ.as λ_ _ _ _ ⟨c,q⟩=>⟨c,q⟩
theorem iR:OpR X (compareOp .IsNot) pW:=xD.as λ_ _ _ _ ⟨c,q⟩=>⟨c,q⟩
theorem hE:OpR X (binaryOp .Add) (qG X.K):=xQ.as λ_ _ _ _ ⟨l,b,xs,zs,h1,h2,h3,h4,h5,q⟩=>⟨l,b,xs,zs,h1,h2,h3,h4,h5,q⟩
theorem aN:IxR X (lf X.K):=A1.as λ_ _ _ _ ⟨p,xs,i,v,a,b,c,d,q⟩=>⟨p,xs,i,v,a,b,c,d,q⟩
theorem au:IxR X (kZ X.K):=zZ.as λ_ _ _ _ ⟨p,xs,i,v,a,b,c,d,q⟩=>⟨p,xs,i,v,a,b,c,d,q⟩
theorem fB{K:W.Frag}(e:X.K=K):IxR X (lf K):=by
 subst e;exact aN
theorem cL{K:W.Frag}(e:X.K=K):IxR X (kZ K):=by
 subst e;exact au
theorem bG:cr X (.builtin "len") (kY X.K):=AT.as λ_ _ _ ⟨p,ys,a,b,q⟩=>⟨p,ys,a,b,q⟩
theorem eU:cr X (.builtin "isinstance") (pY X.K):=AV.as λ_ _ _ ⟨x,t,T,b,h1,h2,h3,q⟩=>⟨x,t,T,b,h1,h2,h3,q⟩
theorem kT:cr X (.type "list") (kX X.K):=AS.as λ_ _ _ ⟨p,ys,a,b,q⟩=>⟨p,ys,a,b,q⟩
theorem wD{K:W.Frag}(e:X.K=K):cr X (.type "list") (kX K):=by
 subst e;exact kT
theorem d8:MtM X "list.append" rb:=λpins s σ H x xs v us Q I rx rv ⟨l,ys,y,h1,h2,h3,h4,q⟩=>zd pins s σ H x xs v us Q I rx rv ⟨l,ys,y,h1,h2,h3,h4,q⟩
inductive lx(K:W.Frag)(f:Str)(x:V)(H:Hp)(Q:VK):Prop
 |mk (a C dx:Addr) (fs:List (Str×V)) (v:V) (h1:x=.ref a) (h2:H a=some (.ins C dx fs)) (h3:Cls K C) (h4:bd K C f) (h5:fs.lookup f=some v) (q:Q v H):lx K f x H Q
def ly(K:W.Frag)(ta:TE)(f:Str):TE:=λσ H Q=>ta σ H λx H1=>lx K f x H1 Q
theorem wL(K:W.Frag)(ta:TE)(f:Str):ly K ta f=iA K ta f:=by
 funext σ H Q
 unfold ly iA
 have:(λx H1=>lx K f x H1 Q)=λx H1=>∃a C dx fs v,x=V.ref a/\H1 a=some (.ins C dx fs)/\Cls K C/\bd K C f/\fs.lookup f=some v/\Q v H1:=by
  funext x H1
  exact propext ⟨λ⟨a,C,dx,fs,v,h1,h2,h3,h4,h5,q⟩=>⟨a,C,dx,fs,v,h1,h2,h3,h4,h5,q⟩,λ⟨a,C,dx,fs,v,h1,h2,h3,h4,h5,q⟩=>⟨a,C,dx,fs,v,h1,h2,h3,h4,h5,q⟩⟩
 rw[this]
theorem aH{e:Expr}{ta:TE}{f:Str}{pos:Pos}(he:PE X e ta)(hb:attributeBase e f X.env (eval e X.env)=eval e X.env):PE X (.Attribute e f pos) (ly X.K ta f):=by
 rw[wL];exact rF he hb
def kU(t:TA):TE:=λσ H Q=>t σ H λxs H1=>hJ (xs.length<=sizeLine) (∀p,H1 p=none->Q (.ref p) (upd H1 p (.tup xs)))
def iT(t:TA):TE:=λσ H Q=>t σ H λxs H1=>hJ (xs.length<=sizeLine) (∀p,H1 p=none->Q (.ref p) (upd H1 p (.lst xs)))
theorem wH(t:TA):kU t=jw t:=by
 funext σ H Q
 unfold kU jw;simp only[lC]
theorem wK(t:TA):iT t=jA t:=by
 funext σ H Q
 unfold iT jA;simp only[lC]
theorem bI{x1}{es:List Expr}{t:TA}{pos:Pos}(h:PA X es t):PE X (.Tuple es x1 pos) (kU t):=by
 rw[wH];exact xf h
theorem bn{es:List Expr}{t:TA}{pos:Pos}(h:PA X es t):PE X (.List es pos) (iT t):=by
 rw[wK];exact xj h
inductive kW(vs:List V)(H:Hp)(R:It->Hp->Prop):Prop
 |mk (j:Int) (h:vs=[.int j]) (h1:-(2 ^ 62)<=j) (h2:j<2 ^ 62) (q:R (Itr 0 j.toNat) H):kW vs H R
def m9(ta:TA):TI:=λσ H R=>ta σ H λvs H1=>kW vs H1 R
theorem zY(ta:TA):m9 ta=mj ta:=by
 funext σ H R
 unfold m9 mj
 have:(λvs H1=>kW vs H1 R)=λvs H1=>∃j:Int,vs=[V.int j]/\-(2 ^ 62)<=j/\j<2 ^ 62/\R (Itr 0 j.toNat) H1:=by
  funext vs H1
  exact propext ⟨λ⟨j,h,h1,h2,q⟩=>⟨j,h,h1,h2,q⟩,λ⟨j,h,h1,h2,q⟩=>⟨j,h,h1,h2,q⟩⟩
 rw[this]
theorem dm{tg a:Expr}{ta:TA}{p pos:Pos}(hg:Gl X "range")(hm:X.mg "range"=none)(ha:PA X [a] ta)(hs:starEach [a] X.env=[(false,eval a X.env)]:=by rfl):PI X tg (.Call (.Name "range" p) [a] [] pos) (m9 ta):=by
 rw[zY];exact xb hg hm ha hs
def qBM(K:W.Frag)(T:String)(r:V->List V->Hp->VK->Prop)(to:TE)(t:TA):TE:=λσ H Q=>to σ H λx H1=>hJ (tyV K T x H1) (t σ H1 λxs H2=>r x xs H2 Q)
theorem wM(K:W.Frag)(T:String)(r:V->List V->Hp->VK->Prop)(to:TE)(t:TA):qBM K T r to t=tBM K T r to t:=by
 funext σ H Q
 unfold qBM tBM;simp only[lC]
theorem cD{o e:Expr}{es:List Expr}{to:TE}{t:TA}{name:Str}{apos cpos:Pos}{T id:String}{r:V->List V->Hp->VK->Prop}(pa:PlainAttrs T)(slot:Slot T name id)(hty:typeOf (.builtin id)=pure (.type "method_descriptor"))(hm:MtR X id r)(ho:PE X o to)(ha:PA X (e::es) t)
 (hbase:attributeBase o name X.env (eval o X.env)=eval o X.env:=by rfl)
 (hfew:((backTo cpos (starEach (e::es) X.env)).all (λx=>!x.1) && (backToKw cpos (keywordEach [] X.env)).all (λx=>x.1.isSome)
  && decide ((e::es).length+([]:List Keyword).length+(if([]:List Keyword).isEmpty then 0 else 1)<30))=true:=by rfl)
 (hline:(apos.endLine == cpos.line)=true:=by rfl) (hs:starEach (e::es) X.env=(false,eval e X.env)::starEach es X.env:=by rfl) (hplain:(backTo cpos (starEach es X.env)).any (·.1)=false:=by rfl):
 PE X (.Call (.Attribute o name apos) (e::es) [] cpos) (qBM X.K T r to t):=by
 rw[wM];exact xx pa slot hty hm ho ha hbase hfew hline hs hplain
end
abbrev d4(h:Heap)(z TI TO t:Addr)(f:Bool):Prop:=h.get? z=some { cls:=.type "zip",dict:=none,data:=.fields #[rawInt t,.bool f,.bool false,.ref TI,.ref TO],slots:=#[] }
section
variable {prog:Program}{w:World}{A:Around}{E:Yo}{s:Shared}
theorem n8{z TI TO t:Addr}{f:Bool}{ot:Obj}{Q:Bool->Shared->Prop}(hz:d4 s.heap z TI TO t f)(ht:s.heap.get? t=some ot)
 (q:∀g,d4 g z TI TO t true->Heap.SameBut z s.heap g->Q false { s with heap:=g }):wpAny (model prog w) A (Builtin.SmallTypes.ownedTupleIsFree (.ref z)) Q E s:=by
 unfold Builtin.SmallTypes.ownedTupleIsFree;refine q9 (wpAny_field hz U (x:=rawInt t) U ?_);show wpAny _ _ (loadIfAlive ((t:Int).toNat) >>= _) _ _ _;rw[qY];refine q9 (PySem.W.kdx_alive ht ?_);simp only[Option.isNone_some,Qk,if_false];refine q9 (wpAny_field hz U (x:=.bool f) U ?_)
 cases f with
 |true=>
  rw[Q0 (show ¬ ((Value.bool true != Value.bool true)=true)from qj)];exact qe (q _ hz (Heap.SameBut.refl _ _))
 |false=>
  rw[Q1 (show(Value.bool false != Value.bool true)=true from rfl)];refine q9 (wpAny_setField_rec hz (by simp) λh₃ he₃ hs₃=>?_);exact qe (q _ he₃ hs₃)
theorem um{z TI TO i1 i2 l1 l2 t:Addr}{f b1 b2:Bool}{ot:Obj}{k1 k2:Nat}{xs ys:Array Value}{x y:Value}{Q:Yo}(D:ZAp z TI TO i1 i2 l1 l2)
 (hz:d4 s.heap z TI TO t f) (ht:s.heap.get? t=some ot) (hI:IsPair s.heap TI (.ref i1) (.ref i2)) (t1:SIt s.heap b1 i1 l1 k1) (t2:SIt s.heap b2 i2 l2 k2) (q1:SSq s.heap b1 l1 xs) (q2:SSq s.heap b2 l2 ys) (ex:xs[k1]?=some x) (ey:ys[k2]?=some y)
 (q:∀g,d4 g z TI TO t true->SIt g b1 i1 l1 (k1+1)->SIt g b2 i2 l2 (k2+1)->IsPair g s.heap.objs.size x y->(∀c o,c≠z->c≠i1->c≠i2->s.heap.get? c=some o->g.get? c=some o)->Q (.ref s.heap.objs.size) { s with heap:=g }):
 wpAny (model prog w) A (Builtin.«zip.__next__» ⟨[.ref z],[]⟩) (λfin s'=>∃v,fin=.done (.ret v)/\Q v s') E s:=by
 obtain⟨⟨nIz,nOz,n1z,n2z,nIO,nI1,nI2,nO1,nO2,n12⟩,lne⟩:=D;obtain⟨m1z,m1O,m11,m12,m1I⟩:=lne l1 (.inl U);obtain⟨m2z,m2O,m21,m22,m2I⟩:=lne l2 (.inr U);show wpAny _ _ (field (.ref z) 2 >>= _) _ _ _;refine q9 (wpAny_field hz U (x:=.bool false) U ?_);show wpAny _ _ (field (.ref z) 3 >>= _) _ _ _;refine q9 (wpAny_field hz U (x:=.ref TI) U (q9 (Qw hI U ?_)));show wpAny _ _ (Builtin.SmallTypes.ownedTupleIsFree (.ref z) >>= _) _ _ _;refine q9 (n8 hz ht λg1 z1 s1=>?_);simp only[Qk,if_false];simp only[List.forIn_toArray,List.forIn_cons,List.forIn_nil];refine q9 (q9 (q9 (Qv ?_)));show wpAny _ _ (Builtin.SmallTypes.nextOf (.ref i1) >>= _) _ _ _;refine q9 (gA (b:=b1) (t1.keep λo e=>s1.extBut _ _ n1z e) (q1.keep λo e=>s1.extBut _ _ m1z e) ex λg2 u1 s2=>qe ?_);refine qe ?_;refine q9 (q9 (Qv ?_));show wpAny _ _ (Builtin.SmallTypes.nextOf (.ref i2) >>= _) _ _ _;refine q9 (gA (b:=b2) (t2.keep λo e=>s2.extBut _ _ n12.symm (s1.extBut _ _ n2z e)) (q2.keep λo e=>s2.extBut _ _ m21 (s1.extBut _ _ m2z e)) ey λg4 u2 s4=>qe ?_);refine qe (qe ?_);have sz:g4.objs.size=s.heap.objs.size:=by rw[s4.1,s2.1,s1.1]
 refine q9 (wpAny_newTuple (hsz:=(by show 2<=sizeLine;decide)) ?_);refine qe ⟨_,U,?_⟩;show Q (.ref g4.objs.size) _;have tp:IsPair (g4.push { cls:=.type "tuple",data:=.seq #[x,y] }) g4.objs.size x y:=qq _ U;rw[sz]at tp ⊢;have z4:d4 g4 z TI TO t true:=s4.extBut _ _ n2z.symm (s2.extBut _ _ n1z.symm z1);exact q _ (qb _ z4) (u1.keep λo e=>qb _ (s4.extBut _ _ n12 e)) (u2.keep λo e=>qb _ e) tp λc o h1 h2 h3 e=>qb _ (s4.extBut _ _ h3 (s2.extBut _ _ h2 (s1.extBut _ _ h1 e)))
theorem uo{z TI TO i1 i2 l1 l2 t:Addr}{f b1 b2:Bool}{ot:Obj}{k1 k2:Nat}{xs ys:Array Value}{Q:Fin->Shared->Prop}(hh:A.handled=none)(D:ZAp z TI TO i1 i2 l1 l2)
 (hz:d4 s.heap z TI TO t f) (ht:s.heap.get? t=some ot) (hI:IsPair s.heap TI (.ref i1) (.ref i2)) (t1:SIt s.heap b1 i1 l1 k1) (t2:SIt s.heap b2 i2 l2 k2) (q1:SSq s.heap b1 l1 xs) (q2:SSq s.heap b2 l2 ys) (hend:xs[k1]?=none\/ys[k2]?=none)
 (q:∀g e,(∀c o,c≠z->c≠i1->c≠i2->s.heap.get? c=some o->g.get? c=some o)->(∃o,g.get? e=some o/\o.cls=.type "StopIteration")->E (.ref e) { s with heap:=g }):
 wpAny (model prog w) A (Builtin.«zip.__next__» ⟨[.ref z],[]⟩) Q E s:=by
 obtain⟨⟨nIz,nOz,n1z,n2z,nIO,nI1,nI2,nO1,nO2,n12⟩,lne⟩:=D;obtain⟨m1z,m1O,m11,m12,m1I⟩:=lne l1 (.inl U);obtain⟨m2z,m2O,m21,m22,m2I⟩:=lne l2 (.inr U);show wpAny _ _ (field (.ref z) 2 >>= _) _ _ _;refine q9 (wpAny_field hz U (x:=.bool false) U ?_);show wpAny _ _ (field (.ref z) 3 >>= _) _ _ _;refine q9 (wpAny_field hz U (x:=.ref TI) U (q9 (Qw hI U ?_)));show wpAny _ _ (Builtin.SmallTypes.ownedTupleIsFree (.ref z) >>= _) _ _ _;refine q9 (n8 hz ht λg1 z1 s1=>?_);simp only[Qk,if_false];simp only[List.forIn_toArray,List.forIn_cons,List.forIn_nil];refine q9 (q9 (q9 (Qv ?_)));show wpAny _ _ (Builtin.SmallTypes.nextOf (.ref i1) >>= _) _ _ _
 cases ex:xs[k1]? with
 |none=>
  refine q9 (j1 (b:=b1) hh (t1.keep λo e=>s1.extBut _ _ n1z e) (q1.keep λo e=>s1.extBut _ _ m1z e) ex λg2 v s2 hv=>?_);exact q _ _ (λc o h1 h2 _ e=>s2 _ _ h2 (s1.extBut _ _ h1 e)) hv
 |some x=>
  have ey:ys[k2]?=none:=by rcases hend with h|h;rw[ex]at h;cases h;exact h
  refine q9 (gA (b:=b1) (t1.keep λo e=>s1.extBut _ _ n1z e) (q1.keep λo e=>s1.extBut _ _ m1z e) ex λg2 u1 s2=>qe ?_);refine qe ?_;refine q9 (q9 (Qv ?_));show wpAny _ _ (Builtin.SmallTypes.nextOf (.ref i2) >>= _) _ _ _;refine q9 (j1 (b:=b2) hh (t2.keep λo e=>s2.extBut _ _ n12.symm (s1.extBut _ _ n2z e)) (q2.keep λo e=>s2.extBut _ _ m21 (s1.extBut _ _ m2z e)) ey λg4 v s4 hv=>?_);exact q _ _ (λc o h1 h2 h3 e=>s4 _ _ h3 (s2.extBut _ _ h2 (s1.extBut _ _ h1 e))) hv
theorem rH{h:Heap}{z TI TO t t':Addr}{f f':Bool}(a:d4 h z TI TO t f)(b:d4 h z TI TO t' f'):t=t':=by
 have e:=a.symm.trans b;simp only[Option.some.injEq,Obj.mk.injEq,Data.fields.injEq,true_and,and_true]at e;have e2:=congrArg Array.toList e;simp only[List.cons.injEq]at e2;have e3:=e2.1;unfold rawInt at e3;injection e3 with e3 _;exact Int.ofNat.inj e3
inductive ZSt(h:Heap)(z TI TO i1 i2:Addr):Nat->Prop
 |first {a b:Value}:IsZip h z TI TO .none->IsPair h TO a b->ZSt h z TI TO i1 i2 0
 |more {t:Addr}{f:Bool}{ot:Obj}{k:Nat}:d4 h z TI TO t f->h.get? t=some ot->t≠z/\t≠i1/\t≠i2->ZSt h z TI TO i1 i2 (k+1)
theorem uj{z TI TO i1 i2 l1 l2:Addr}{b1 b2:Bool}{k:Nat}{xs ys:Array Value}{x y:Value}{Q:Option Value->Shared->Prop}(D:ZAp z TI TO i1 i2 l1 l2)
 (hz:ZSt s.heap z TI TO i1 i2 k) (hI:IsPair s.heap TI (.ref i1) (.ref i2)) (t1:SIt s.heap b1 i1 l1 k) (t2:SIt s.heap b2 i2 l2 k) (q1:SSq s.heap b1 l1 xs) (q2:SSq s.heap b2 l2 ys) (ex:xs[k]?=some x) (ey:ys[k]?=some y)
 (q:∀g,ZSt g z TI TO i1 i2 (k+1)->SIt g b1 i1 l1 (k+1)->SIt g b2 i2 l2 (k+1)->IsPair g s.heap.objs.size x y->(∀c o,c≠z->c≠TO->c≠i1->c≠i2->s.heap.get? c=some o->g.get? c=some o)->(∀t f,d4 g z TI TO t f->t=s.heap.objs.size\/∃f',d4 s.heap z TI TO t f')->Q (some (.ref s.heap.objs.size)) { s with heap:=g }):
 wpAny (model prog w) A (pyNext (.ref z)) Q E s:=by
 cases hz with
 |first hz hO=>
  refine mY D hz hI hO t1 t2 q1 q2 ex ey λg a1 a2 a3 a4 a5 a6=>q g (.more a1 a5 ?_) a3 a4 a5 a6 λt f h=>.inl (rH h a1);obtain⟨o1,e1,_⟩:=t1.obj;obtain⟨o2,e2,_⟩:=t2.obj;exact⟨Nat.ne_of_gt (qr hz),Nat.ne_of_gt (qr e1),Nat.ne_of_gt (qr e2)⟩
 |@more t0 f0 ot0 k0 hz ht nt=>
  have ty:s.TypeIs (.ref z) "zip":=⟨_,hz,U⟩;unfold pyNext;refine q9 (wpAny_attempt (wpAny_callSpecial?_slot (name:=Str.ofString "__next__") ty PySem.F.slot_zip_next (Qj PySem.F.slot_zip_next ty PySem.F.entry_zip_next (um D hz ht hI t1 t2 q1 q2 ex ey λg a1 a3 a4 a5 a6=>qe (q g ?_ a3 a4 a5 (λc o h1 _ h3 h4 e=>a6 c o h1 h3 h4 e) λt' f' h=>.inr ⟨f0,by rw[rH h a1];exact hz⟩)) (PySem.F.args_zip_next_1 _))));exact .more a1 (a6 _ _ nt.1 nt.2.1 nt.2.2 ht) nt
theorem uk{z TI TO i1 i2 l1 l2:Addr}{b1 b2:Bool}{k:Nat}{xs ys:Array Value}{Q:Option Value->Shared->Prop}(hh:A.handled=none)(D:ZAp z TI TO i1 i2 l1 l2)
 (hz:ZSt s.heap z TI TO i1 i2 k) (hI:IsPair s.heap TI (.ref i1) (.ref i2)) (t1:SIt s.heap b1 i1 l1 k) (t2:SIt s.heap b2 i2 l2 k) (q1:SSq s.heap b1 l1 xs) (q2:SSq s.heap b2 l2 ys) (hend:xs[k]?=none\/ys[k]?=none)
 (q:∀g,(∀c o,c≠z->c≠TO->c≠i1->c≠i2->s.heap.get? c=some o->g.get? c=some o)->Q none { s with heap:=g }):wpAny (model prog w) A (pyNext (.ref z)) Q E s:=by
 cases hz with
 |first hz hO=>exact mZ hh D hz hI hO t1 t2 q1 q2 hend q
 |more hz ht nt=>
  have ty:s.TypeIs (.ref z) "zip":=⟨_,hz,U⟩;unfold pyNext;refine q9 (wpAny_attempt (wpAny_callSpecial?_slot (name:=Str.ofString "__next__") ty PySem.F.slot_zip_next (Qj PySem.F.slot_zip_next ty PySem.F.entry_zip_next (uo hh D hz ht hI t1 t2 q1 q2 hend λg e hk he=>?_) (PySem.F.args_zip_next_1 _))));obtain⟨o,ho,hc⟩:=he;exact q9 (wpAny_isInstance (T:="StopIteration") (b:=true) ⟨o,ho,hc⟩ isSubtype_stop (qe (q _ λc o h1 _ h3 h4 e=>hk c o h1 h3 h4 e)))
theorem ZSt.obj{h:Heap}{z TI TO i1 i2:Addr}{k:Nat}(hz:ZSt h z TI TO i1 i2 k):∃o,h.get? z=some o/\o.cls=.type "zip":=by
 cases hz with
 |first h _=>exact⟨_,h,U⟩
 |more h _ _=>exact⟨_,h,U⟩
theorem ZSt.keep{h h':Heap}{z TI TO i1 i2 S:Addr}{k:Nat}(hz:ZSt h z TI TO i1 i2 k)(e:∀b o,b≠S->h.get? b=some o->h'.get? b=some o)(nz:z≠S)(nO:TO≠S)(nt:∀t f,d4 h z TI TO t f->t≠S):ZSt h' z TI TO i1 i2 k:=by
 cases hz with
 |first h hO=>exact .first (e _ _ nz h) (e _ _ nO hO)
 |more h ht n=>exact .more (e _ _ nz h) (e _ _ (nt _ _ h) ht) n
structure gJ(n0:Nat)(h:Heap)(xs ys:Array Value)(av:List Addr)(acc:Array Value)(k:Nat):Prop where
 n:acc.size=k
 at_:∀(j:Nat)(v:Value),acc[j]?=some v->∃(t:Addr)(x y:Value),v=Value.ref t/\xs[j]?=some x/\ys[j]?=some y/\IsPair h t x y/\t∉av/\n0<=t
 inc:∀(i j:Nat)(t t':Addr),i<j->acc[i]?=some (.ref t)->acc[j]?=some (.ref t')->t<t'
theorem gJ.keep{n0:Nat}{h h':Heap}{xs ys:Array Value}{av:List Addr}{acc:Array Value}{k:Nat}(g:gJ n0 h xs ys av acc k)(e:∀b o,b∉av->h.get? b=some o->h'.get? b=some o):gJ n0 h' xs ys av acc k:=
 ⟨g.n,λj v hj=>let ⟨t,x,y,a,b,c,d,n,m⟩:=g.at_ j v hj;⟨t,x,y,a,b,c,e _ _ n d,n,m⟩,g.inc⟩
theorem ui{n0:Nat}{z TI TO i1 i2 l1 l2 S:Addr}{b1 b2:Bool}{xs ys:Array Value}{res:Value}{n:Nat}{R:Result->Shared->Prop}(hh:A.handled=none)(D:ZAp z TI TO i1 i2 l1 l2)(hS:S∉[z,TI,TO,i1,i2,l1,l2])(hn:n=min xs.size ys.size)(hsz:n<=sizeLine)(hO:TO<n0):
 ∀(m k:Nat)(s:Shared)(acc:Array Value)(c:Nat),n-k=m->k<=n->ZSt s.heap z TI TO i1 i2 k->(∀t f,d4 s.heap z TI TO t f->t≠S)->IsPair s.heap TI (.ref i1) (.ref i2)->n0<=s.heap.objs.size->SIt s.heap b1 i1 l1 k->SIt s.heap b2 i2 l2 k->SSq s.heap b1 l1 xs->SSq s.heap b2 l2 ys->
 s.heap.get? S=some { cls:=.type "list",dict:=none,data:=.seq acc c,slots:=#[] }->gJ n0 s.heap xs ys [S,z,TI,TO,i1,i2] acc k->
 (∀h' tk acc' c',(∀b o,b∉[S,z,TO,i1,i2]->s.heap.get? b=some o->h'.get? b=some o)->h'.get? S=some { cls:=.type "list",dict:=none,data:=.seq acc' c',slots:=#[] }->gJ n0 h' xs ys [S,z,TI,TO,i1,i2] acc' n->R (.ok (.ret res)) { s with heap:=h',toks:=tk })->
 codeAny (model prog w) A (.builtin "list.extend.loop" ⟨[.ref S,.ref z,res],[]⟩) R s:=by
 simp only[qv,qR,or_false,not_or]at hS;obtain⟨nSz,nSI,nSO,nS1,nS2,nSl1,nSl2⟩:=hS;obtain⟨⟨nIz,nOz,n1z,n2z,nIO,nI1,nI2,nO1,nO2,n12⟩,lne⟩:=id D;obtain⟨m1z,m1O,m11,m12,m1I⟩:=lne l1 (.inl U);obtain⟨m2z,m2O,m21,m22,m2I⟩:=lne l2 (.inr U);intro m
 induction m with
 |zero=>
  intro k s acc c hk hi hz nt hI hn0 t1 t2 q1 q2 hl hg hR;have hkn:k=n:=Yk;subst hkn;refine codeAny_builtin F.entry_extend_loop ?_;rw[Around.under_plainId F.plain_extend_loop _];show wpAny _ A.in1 (pyNext (.ref z) >>= _) _ _ s
  refine q9 (uk (by simpa using hh) D hz hI t1 t2 q1 q2 (by
   by_cases h:xs.size<=k
   ·exact .inl (Array.getElem?_eq_none h)
   ·exact .inr (Array.getElem?_eq_none Yk)) λg hk=>?_)
  refine qe (hR g s.toks acc c (λb o hb e=>?_) (hk S _ nSz nSO nS1 nS2 hl) (hg.keep λb o hb e=>?_))
  ·simp only[qv,qR,or_false,not_or]at hb;exact hk b o hb.2.1 hb.2.2.1 hb.2.2.2.1 hb.2.2.2.2 e
  ·simp only[qv,qR,or_false,not_or]at hb;exact hk b o hb.2.1 hb.2.2.2.1 hb.2.2.2.2.1 hb.2.2.2.2.2 e
 |succ m ih=>
  intro k s acc c hk hi hz nt hI hn0 t1 t2 q1 q2 hl hg hR;have hlt:k<n:=Yk;have kx:k<xs.size:=Yk;have ky:k<ys.size:=Yk;refine codeAny_builtin F.entry_extend_loop ?_;rw[Around.under_plainId F.plain_extend_loop _];show wpAny _ A.in1 (pyNext (.ref z) >>= _) _ _ s;refine q9 (uj D hz hI t1 t2 q1 q2 (Array.getElem?_eq_getElem kx) (Array.getElem?_eq_getElem ky) λg a1 a3 a4 a5 a6 a7=>?_);have hl':=a6 S _ nSz nSO nS1 nS2 hl;have big:∀b o,s.heap.get? b=some o->s.heap.objs.size≠b:=λb o e=>Nat.ne_of_gt (qr e);have oth:∀b o,b≠S->g.get? b=some o->(g.update S (Obj.mapSeq (·.push (.ref s.heap.objs.size)))).get? b=some o:=λb o hb e=>(Qt _ _ (Ne.symm hb)).trans e
  have nt':∀t f,d4 g z TI TO t f->t≠S:=λt f h=>by
   rcases a7 t f h with rfl|⟨f',h'⟩
   ·exact big _ _ hl
   ·exact nt t f' h'
  obtain⟨oz,ez,_⟩:=hz.obj;obtain⟨o1,e1,_⟩:=t1.obj;obtain⟨o2,e2,_⟩:=t2.obj;show wpAny _ A.in1 (updateSeq S (·.push (.ref s.heap.objs.size)) >>= _) _ _ _;refine q9 (wpAny_updateSeq hl' U (qe ⟨plainId_quiet F.plain_extend_loop _,ih (k+1) { s with heap:=g.update S (Obj.mapSeq (·.push (.ref s.heap.objs.size))) } (acc.push (.ref s.heap.objs.size)) _ Yk hlt ?_ ?_ ?_ ?_ ?_ ?_ ?_ ?_ (Qh _ hl' U) ?_ λh' tk acc' c' kp hl'' hg'=>?_⟩) (by rw[hg.n];omega) (by show(acc.push _).size<=sizeLine+1;rw[Array.size_push,hg.n];omega))
  ·exact a1.keep oth (Ne.symm nSz) (Ne.symm nSO) nt'
  ·exact λt f h=>nt' t f ((Qt _ _ nSz).symm.trans h)
  ·exact oth _ _ (Ne.symm nSI) (a6 _ _ nIz nIO nI1 nI2 hI)
  ·exact qz hn0 (Nat.le_of_lt (qr (oth _ _ (big _ _ hl) a5)))
  ·exact a3.keep λo e=>oth _ _ (Ne.symm nS1) e
  ·exact a4.keep λo e=>oth _ _ (Ne.symm nS2) e
  ·exact q1.keep λo e=>oth _ _ (Ne.symm nSl1) (a6 _ _ m1z m1O m11 m12 e)
  ·exact q2.keep λo e=>oth _ _ (Ne.symm nSl2) (a6 _ _ m2z m2O m21 m22 e)
  ·have old:∀(j:Nat)(t:Addr),acc[j]?=some (.ref t)->t<s.heap.objs.size:=λj t hj=>by
    obtain⟨t',x,y,a,_,_,d,_⟩:=hg.at_ j _ hj;cases a;exact qr d
   refine⟨by rw[Array.size_push,hg.n],λj v hj=>?_,λi j t t' lt hi hj=>?_⟩
   rotate_left
   ·rw[Array.getElem?_push]at hi hj;split at hj
    ·rename_i ej;cases hj;rw[Q0 Yk]at hi;exact old i t hi
    ·split at hi
     ·rename_i ei;have:=(Array.getElem?_eq_some_iff.mp hj).1;omega
     ·exact hg.inc i j t t' lt hi hj
   rw[Array.getElem?_push]at hj;split at hj
   ·rename_i ej;rw[hg.n]at ej;cases hj;subst ej;refine⟨_,_,_,U,Array.getElem?_eq_getElem kx,Array.getElem?_eq_getElem ky,oth _ _ (big _ _ hl) a5,?_⟩;simp only[qv,qR,or_false,not_or];exact⟨⟨big _ _ hl,big _ _ ez,big _ _ hI,Nat.ne_of_gt (qE hO hn0),big _ _ e1,big _ _ e2⟩,hn0⟩
   ·obtain⟨t,x,y,a,b,c',d,n,m⟩:=hg.at_ j v hj;refine⟨t,x,y,a,b,c',?_,n,m⟩;simp only[qv,qR,or_false,not_or]at n;exact oth _ _ n.1 (a6 _ _ n.2.1 n.2.2.2.1 n.2.2.2.2.1 n.2.2.2.2.2 d)
  ·refine hR h' tk acc' c' (λb o hb e=>kp b o hb ?_) hl'' hg';simp only[qv,qR,or_false,not_or]at hb;exact oth _ _ hb.1 (a6 _ _ hb.2.1 hb.2.2.1 hb.2.2.2.1 hb.2.2.2.2 e)
theorem ug:typeLookup (.type "zip") "__len__"=pure none:=by rw[typeLookup_type,builtinLookup_eq_fast];kernel_rfl
theorem uh:typeLookup (.type "zip") "__length_hint__"=pure none:=by rw[typeLookup_type,builtinLookup_eq_fast];kernel_rfl
theorem zF{z TI TO i1 i2 l1 l2:Addr}{b1 b2:Bool}{xs ys:Array Value}{n n0:Nat}{Q:Yo}(hh:A.handled=none)(D:ZAp z TI TO i1 i2 l1 l2)(hn:n=min xs.size ys.size)(hsz:n<=sizeLine)(hO:TO<n0)(hn0:n0<=s.heap.objs.size)
 (hz:IsZip s.heap z TI TO .none) (hTO:IsPair s.heap TO .none .none) (hI:IsPair s.heap TI (.ref i1) (.ref i2)) (t1:SIt s.heap b1 i1 l1 0) (t2:SIt s.heap b2 i2 l2 0) (q1:SSq s.heap b1 l1 xs) (q2:SSq s.heap b2 l2 ys)
 (h:∀h' tk acc c',(∀b o,b∉[z,TO,i1,i2]->s.heap.get? b=some o->h'.get? b=some o)->h'.get? s.heap.objs.size=some { cls:=.type "list",data:=.seq acc c' }->gJ n0 h' xs ys [s.heap.objs.size,z,TI,TO,i1,i2] acc n->Q (.ref s.heap.objs.size) { s with heap:=h',toks:=tk }):
 wpAny (model prog w) A (call (.type "list") [.ref z]) Q E s:=by
 refine callType_codes (Q₁:=λob s1=>ob=.ref s.heap.objs.size/\s1={ s with heap:=s.heap.push { cls:=.type "list",data:=.seq #[] } }) F.called_list (F.typeCall_list_1 _) F.entry_list_init (code_list_new _ ⟨U,U⟩) λob s1 h1=>?_;obtain⟨rfl,rfl⟩:=h1;have hS:(s.heap.push { cls:=.type "list",data:=.seq #[] }).get? s.heap.objs.size=some { cls:=.type "list",data:=.seq #[] }:=qq _ U;refine⟨⟨_,hS,U⟩,F.args_list_init_2 _ _,?_⟩;show wpAny _ _ (do let old <- Builtin.List.listItems (.ref s.heap.objs.size);Builtin.List.listUpdate (.ref s.heap.objs.size) (λ_=>#[]);letGo old.toList.reverse;Builtin.List.listExtendWith (.ref s.heap.objs.size) (.ref z) .none) _ _ _;refine q9 ?_;unfold Builtin.List.listItems;refine q9 (Qw hS U (qe ?_));refine q9 ?_;show wpAny _ _ (updateSeq s.heap.objs.size (λ_=>#[])) _ _ _;refine wpAny_updateSeq hS U ?_;have hS2:=Qh (Obj.mapSeq (λ_=>(#[]:Array Value))) hS U;refine q9 (wpAny_letGo ?_)
 have oth:∀b o,b≠s.heap.objs.size->s.heap.get? b=some o->((s.heap.push { cls:=.type "list",data:=.seq #[] }).update s.heap.objs.size (Obj.mapSeq (λ_=>(#[]:Array Value)))).get? b=some o:=
  λb o hb e=>(Qt _ _ (Ne.symm hb)).trans (qb _ e)
 have nb:∀b o,s.heap.get? b=some o->b≠s.heap.objs.size:=λb o e=>qH (qr e);obtain⟨o1,e1,_⟩:=t1.obj;obtain⟨o2,e2,_⟩:=t2.obj;obtain⟨o3,e3,_⟩:=q1.obj;obtain⟨o4,e4,_⟩:=q2.obj;have hz2:=oth _ _ (nb _ _ hz) hz;have hO2:=oth _ _ (nb _ _ hTO) hTO;have hI2:=oth _ _ (nb _ _ hI) hI;have t12:=t1.keep λo e=>oth _ _ (nb _ _ e1) e;have t22:=t2.keep λo e=>oth _ _ (nb _ _ e2) e;have q12:=q1.keep λo e=>oth _ _ (nb _ _ e3) e;have q22:=q2.keep λo e=>oth _ _ (nb _ _ e4) e;have bigger:n0<=((s.heap.push { cls:=.type "list",data:=.seq #[] }).update s.heap.objs.size (Obj.mapSeq (λ_=>(#[]:Array Value)))).objs.size:=qz hn0 (Nat.le_of_lt (qr hS2));generalize (s.heap.push { cls:=.type "list",data:=.seq #[] }).update s.heap.objs.size (Obj.mapSeq (λ_=>(#[]:Array Value)))=g0 at hz2 hO2 hI2 t12 t22 q12 q22 hS2 oth bigger ⊢;have ty:Shared.TypeIs { s with heap:=g0 } (.ref z) "zip":=⟨_,hz2,U⟩;have nz:=nb _ _ hz;unfold Builtin.List.listExtendWith;refine q9 (wpAny_typeOf ty ?_);have h1:Builtin.List.listSameRef (.ref s.heap.objs.size) (.ref z)=false:=by simp[Builtin.List.listSameRef,Ne.symm nz]
 have h2:(Value.type "zip" == Value.type "list")=false:=Yd;have h3:(Value.type "zip" == Value.type "tuple")=false:=Yd;simp only[h1,h2,h3,Bool.or_false,Qk,if_false];refine q9 (wpAny_pyIter_zip hz2 ?_);refine q9 (Qv ?_);unfold Builtin.List.listLengthHint;refine q9 (wpAny_specialOf ty ug ?_);show wpAny _ _ (specialOf (Value.ref z) (Str.ofString "__length_hint__") >>= _) _ _ _;refine q9 (wpAny_specialOf ty uh ?_);refine qe ?_
 show wpAny _ _ (rule "list.extend.makes-room" >>= λ_=>Builtin.List.listTouch (.ref s.heap.objs.size) >>= λ_=>
  again (.builtin "list.extend.loop" ⟨[.ref s.heap.objs.size,.ref z,.none],[]⟩)) _ _ _
 refine q9 (wpAny_rule ?_);refine q9 ?_;show wpAny _ _ (updateSeq s.heap.objs.size (·.push .none) >>= λ_=>updateSeq s.heap.objs.size (·.pop)) _ _ _;refine q9 (wpAny_updateSeq hS2 U ?_);have hS3:=Qh (Obj.mapSeq (·.push Value.none)) hS2 U;refine wpAny_updateSeq (hz:=by seq_fits) hS3 U ?_;have hS4:=Qh (Obj.mapSeq (·.pop)) hS3 U
 have oth2:∀b o,b≠s.heap.objs.size->g0.get? b=some o->((g0.update s.heap.objs.size (Obj.mapSeq (·.push Value.none))).update s.heap.objs.size (Obj.mapSeq (·.pop))).get? b=some o:=
  λb o hb e=>(Qt _ _ (Ne.symm hb)).trans ((Qt _ _ (Ne.symm hb)).trans e)
 have big2:n0<=((g0.update s.heap.objs.size (Obj.mapSeq (·.push Value.none))).update s.heap.objs.size (Obj.mapSeq (·.pop))).objs.size:=qz hn0 (Nat.le_of_lt (qr hS4))
 have notin:s.heap.objs.size∉[z,TI,TO,i1,i2,l1,l2]:=by
  simp only[qv,qR,or_false,not_or];exact⟨Ne.symm nz,Ne.symm (nb _ _ hI),Ne.symm (nb _ _ hTO),Ne.symm (nb _ _ e1),Ne.symm (nb _ _ e2),Ne.symm (nb _ _ e3),Ne.symm (nb _ _ e4)⟩
 refine qe ⟨plainId_quiet F.plain_extend_loop _,ui (n0:=n0) (by simpa using hh) D notin hn hsz hO n 0 _ _ _ (Nat.sub_zero n) (qu _) (.first (oth2 _ _ nz hz2) (oth2 _ _ (nb _ _ hTO) hO2)) (λt f hf=>?_) (oth2 _ _ (nb _ _ hI) hI2) big2 (t12.keep λo e=>oth2 _ _ (nb _ _ e1) e) (t22.keep λo e=>oth2 _ _ (nb _ _ e2) e) (q12.keep λo e=>oth2 _ _ (nb _ _ e3) e) (q22.keep λo e=>oth2 _ _ (nb _ _ e4) e) hS4 ⟨U,λj v hj=>by simp[Array.pop]at hj,λi j t t' _ hi _=>by simp[Array.pop]at hi⟩ λh' tk acc c' kp hl hg=>⟨U,?_⟩⟩
 ·have:=(oth2 _ _ nz hz2).symm.trans hf;simp[rawInt]at this
 ·refine h h' tk acc c' (λb o hb e=>?_) hl hg;refine kp b o ?_ (oth2 _ _ (nb _ _ e) (oth _ _ (nb _ _ e) e));simp only[qv,qR,or_false,not_or]at hb ⊢;exact⟨nb _ _ e,hb⟩
end
section
variable {X:Cx}{pins:List (Addr×Obj)}{σ:St}
theorem ni{H0:Hp}{s0 s:Shared}(I0:Inv X pins σ H0 s0):∀(ts:List Addr)(ps:List (V×V))(H:Hp),Inv X pins σ H s->ts.length=ps.length->ts.Pairwise (·<·)->(∀t∈ts,s0.heap.objs.size<=t/\H t=none)->
 (∀(j:Nat)(t:Addr)(p:V×V),ts[j]?=some t->ps[j]?=some p->∃u v,aG p.1 u/\aG p.2 v/\IsPair s.heap t u v)->
 ∃H',Inv X pins σ H' s/\a9 H H'/\(∀b,b∉ts->H' b=H b)/\∀(j:Nat)(t:Addr)(p:V×V),ts[j]?=some t->ps[j]?=some p->H' t=some (.tup [p.1,p.2])
 |[],_,H,I,_,_,_,_=>⟨H,I,a9.refl _,λ_ _=>rfl,λj t p h=>by simp at h⟩
 |t::ts,[],_,_,hl,_,_,_=>by simp at hl
 |t::ts,p::ps,H,I,hl,pw,fr,ob=>by
  obtain⟨u,v,ru,rv,pT⟩:=ob 0 t p U U;obtain⟨ht,hn⟩:=fr t qp;obtain⟨pw1,pw2⟩:=List.pairwise_cons.mp pw;have I2:Inv X pins σ (upd H t (.tup [p.1,p.2])) s:=I.track (I0.fpOk ht hn) (qz I0.sz ht) ⟨by show 2<=sizeLine;decide,[u,v],.cons ru (.cons rv .nil),⟨_,pT,U,_,U⟩⟩;obtain⟨H',I3,s3,o3,a3⟩:=ni I0 ts ps _ I2 (by simpa using hl) pw2 (λt' ht'=>⟨(fr t' (qm _ ht')).1,by rw[aj (Nat.ne_of_gt (pw1 t' ht'))];exact(fr t' (qm _ ht')).2⟩) λj t' p' h1 h2=>ob (j+1) t' p' (by simpa using h1) (by simpa using h2);refine⟨H',I3,(a9.new hn _).trans s3,λb hb=>?_,λj t' p' h1 h2=>?_⟩
  ·have nb:b≠t:=λz=>hb (by rw[z];exact qp);rw[o3 b λz=>hb (qm _ z),aj nb]
  ·cases j with
   |zero=>
    simp at h1 h2;subst h1;subst h2;exact s3 _ _ af
   |succ j=>exact a3 j t' p' (by simpa using h1) (by simpa using h2)
theorem pQ:∀vs:List Value,(∀v∈vs,∃t,v=.ref t)->∃ts:List Addr,vs=ts.map Value.ref
 |[],_=>⟨[],U⟩
 |v::vs,h=>by
  obtain⟨t,rfl⟩:=h v qp;obtain⟨ts,e⟩:=pQ vs λv hv=>h v (qm _ hv);exact⟨t::ts,by rw[e];rfl⟩
def uT(K:W.Frag)(ta:TA):TE:=λσ H Q=>ta σ H λvs H1=>∃b1 b2 l1 l2 xs ys,vs=[.ref l1,.ref l2]/\SqB K H1 b1 l1 xs/\SqB K H1 b2 l2 ys /\
 ∀H' l (ts:List Addr),a9 H1 H'->H1 l=none->H' l=some (.lst (ts.map V.ref))->ts.length=min xs.length ys.length->(∀(j:Nat)(t:Addr)(x y:V),ts[j]?=some t->xs[j]?=some x->ys[j]?=some y->H' t=some (.tup [x,y])/\H1 t=none)->Q (.ref l) H'
theorem iW{a b:Expr}{ta:TA}{p1 p2 pos1 pos2:Pos}(hc:X.calm=true)(hg:Gl X "list")(hm:X.mg "list"=none)(hg2:Gl X "zip")(hm2:X.mg "zip"=none)(ha:PA X [a,b] ta)
 (hs:starEach [a,b] X.env=[(false,eval a X.env),(false,eval b X.env)]:=by rfl) (hs2:starEach [b] X.env=[(false,eval b X.env)]:=by rfl)
 (hs3:starEach [.Call (.Name "zip" p2) [a,b] [] pos2] X.env=[(false,eval (.Call (.Name "zip" p2) [a,b] [] pos2) X.env)]:=by rfl):
 PE X (.Call (.Name "list" p1) [.Call (.Name "zip" p2) [a,b] [] pos2] [] pos1) (uT X.K ta):=by
 intro pins s σ H Q I h;refine wpAny_Call_Name_kw (dD I hg hm PyProof.Rows.Boot.«list» ?_);refine PyProof.Rows.callWith_type1 ?_ (by rw[hs3];rfl) U;rw[hs3];show wpAny _ _ (spliced ((false,eval (.Call (.Name "zip" p2) [a,b] [] pos2) X.env)::backTo pos1 [])) _ _ s;refine Calls.spliced_cons ?_;refine Call_ (dD I hg2 hm2 PyProof.Rows.Boot.«zip» (PyProof.Rows.callWith_type1 (thn (ha pos2 pins s σ H _ I h) λus s1 ⟨vs,H1,I1,r1,q1⟩=>?_) (by rw[hs,hs2]) (by rw[hs2];rfl)));obtain⟨b1,b2,l1,l2,xs,ys,rfl,hx,hy,q⟩:=q1;obtain⟨u,u',rfl,ru,ru'⟩:=iq r1;cases ru;cases ru';obtain⟨its,rv,s1',z1⟩:=SqB.at I1 hx;obtain⟨jts,rw',s2',z2⟩:=SqB.at I1 hy;have dI:=rv.length;have len2:=rw'.length;refine tW s1' s2' λg n hn a1 a2 a3 a4 a5 k=>?_
 have lt:∀c,c=l1\/c=l2->c<n:=λc hc=>by
  rw[hn];rcases hc with rfl|rfl
  ·obtain⟨o,e,_⟩:=s1'.obj;exact qr e
  ·obtain⟨o,e,_⟩:=s2'.obj;exact qr e
 have D:ZAp (n+4) (n+2) (n+3) n (n+1) l1 l2:=by
  refine⟨?_,λc hc=>?_⟩
  ·have e:∀i j:Nat,i≠j->n+i≠n+j:=λi j h z=>h (Nat.add_left_cancel z);exact⟨e 2 4 Yd,e 3 4 Yd,e 0 4 Yd,e 1 4 Yd,e 2 3 Yd,e 2 0 Yd,e 2 1 Yd,e 3 0 Yd,e 3 1 Yd,e 0 1 Yd⟩
  ·have q:=lt c hc;have e:∀i:Nat,c≠n+i:=λi=>qH (qE q (Nat.le_add_right _ _));exact⟨e 4,e 3,e 0,e 1,e 2⟩
 refine Calls.spliced_nil ?_;have gsz:n+5<=g.objs.size:=qr a1;refine zF (n:=min xs.length ys.length) (n0:=n+5) (s:={ s1 with heap:=g }) (I1.ok.hd hc) D (by simp only[qD];omega) Yk (Nat.lt_add_of_pos_right Yd:n+3<n+3+2) gsz a1 a3 a2 a4 a5 (s1'.keep λo e=>k _ _ e) (s2'.keep λo e=>k _ _ e) λh' tk acc c' kp gl zg=>?_
 have keep:∀b o,s1.heap.get? b=some o->h'.get? b=some o:=λb o e=>by
  have lb:b<n:=by rw[hn];exact qr e
  refine kp b o ?_ (k b o e);simp only[qv,qR,or_false,not_or];refine⟨?_,?_,?_,?_⟩<;>intro z<;>rw[z]at lb
  ·exact Q5 lb (Nat.not_lt.mpr (Nat.le_add_right _ _))
  ·exact Q5 lb (Nat.not_lt.mpr (Nat.le_add_right _ _))
  ·exact Q5 lb (Qc _)
  ·exact Q5 lb (Nat.not_lt.mpr (Nat.le_add_right _ _))
 have J:Inv X pins σ H1 { s1 with heap:=h',toks:=tk }:=I1.kept keep
 obtain⟨ts,ets⟩:=pQ acc.toList λv hv=>by
  obtain⟨j,hj,ej⟩:=List.mem_iff_getElem.mp hv;obtain⟨t,x,y,e,_⟩:=zg.at_ j v (by rw[<- qU,qd hj,ej]);exact⟨t,e⟩
 have tl:ts.length=min xs.length ys.length:=by
  have:=congrArg List.length ets;rw[qa,qN,zg.n]at this;exact this.symm
 have at_:∀(j:Nat)(t:Addr),ts[j]?=some t->acc[j]?=some (.ref t):=λj t h=>by
  rw[<- qU,ets,qF,h]
  rfl
 have info:∀(j:Nat)(t:Addr),ts[j]?=some t->∃u v,its[j]?=some u/\jts[j]?=some v/\IsPair h' t u v/\t∉[g.objs.size,n+4,n+2,n+3,n,n+1]/\n+5<=t:=λj t h=>by
  obtain⟨t',u,v,e,e1,e2,pp,na,nn⟩:=zg.at_ j _ (at_ j t h);cases e;exact⟨u,v,by simpa using e1,by simpa using e2,pp,na,nn⟩
 have mem:∀t∈ts,∃j:Nat,ts[j]?=some t:=λt ht=>by
  obtain⟨j,hj,ej⟩:=List.mem_iff_getElem.mp ht;exact⟨j,by rw[qd hj,ej]⟩
 have old:∀t∈ts,s1.heap.objs.size<=t:=λt ht=>by
  obtain⟨j,hj⟩:=mem t ht;obtain⟨_,_,_,_,_,_,nn⟩:=info j t hj;rw[<- hn];omega
 have pw:ts.Pairwise (·<·):=List.pairwise_iff_getElem.mpr λi j hi hj lt=>zg.inc i j _ _ lt (at_ i _ (qd hi)) (at_ j _ (qd hj));have zl:(xs.zip ys).length=min xs.length ys.length:=List.length_zip;have zat:∀(j:Nat)(x y:V),xs[j]?=some x->ys[j]?=some y->(xs.zip ys)[j]?=some (x,y):=λj x y h1 h2=>List.getElem?_zip_eq_some.mpr ⟨h1,h2⟩
 obtain⟨H',I3,s3,o3,a3⟩:=ni (s:={ s1 with heap:=h',toks:=tk }) I1 ts (xs.zip ys) H1 J (by rw[tl,zl]) pw (λt ht=>⟨old t ht,I1.hok.fresh (old t ht)⟩) λj t p h1 h2=>by
  obtain⟨h3,h4⟩:=List.getElem?_zip_eq_some.mp h2;obtain⟨u,v,e1,e2,pp,_⟩:=info j t h1;obtain⟨u',hu,ru⟩:=rv.get h3;obtain⟨v',hv,rv'⟩:=rw'.get h4;rw[e1]at hu;rw[e2]at hv;cases hu;cases hv;exact⟨u,v,ru,rv',pp⟩
 have lL:s1.heap.objs.size<=g.objs.size:=by rw[<- hn];omega
 have nL:g.objs.size∉ts:=λhm=>by
  obtain⟨j,hj⟩:=mem _ hm;obtain⟨_,_,_,_,_,na,_⟩:=info j _ hj;exact na (by simp)
 have fL:H1 g.objs.size=none:=I1.hok.fresh lL;have hL:H' g.objs.size=none:=by rw[o3 _ nL];exact fL
 have vr:∀ts:List Addr,ax (ts.map V.ref) (ts.map Value.ref):=λts=>by
  induction ts with
  |nil=>exact .nil
  |cons t ts ih=>exact .cons U ih
 have I4:Inv X pins σ (upd H' g.objs.size (.lst (ts.map V.ref))) { s1 with heap:=h',toks:=tk }:=I3.track (I1.fpOk lL hL) (qz I1.sz lL) ⟨by rw[qa,tl];omega,ts.map Value.ref,c',vr ts,by rw[<- ets];simpa using gl⟩;refine⟨.ref g.objs.size,_,I4,U,q _ g.objs.size ts (s3.trans (a9.new hL _)) fL af tl λj t x y h1 h2 h3=>⟨?_,I1.hok.fresh (old t (qA h1))⟩⟩;exact a9.new hL _ _ _ (a3 j t (x,y) h1 (zat j x y h2 h3))
end
theorem AE{K:W.Frag}{b1 b2:Bool}{l1 l2:Addr}{xs zs:List V}{g:TG}{te:TE}{Fin:List V->Hp->Prop}{σ:St}{H:Hp}(Pv:Nat->List V->St->Hp->Prop)(h0:Pv 0 [] σ H)(hz:∀i ys σ H,Pv i ys σ H->ys.length<=i)(hx:xs.length<=sizeLine)(hl:∀i ys σ H,Pv i ys σ H->SqB K H b1 l1 xs/\SqB K H b2 l2 zs)
 (hs:∀i x z ys σ H p,xs[i]?=some x->zs[i]?=some z->Pv i ys σ H->H p=none->g (.ref p) σ (upd H p (.tup [x,z])) λσ2 H2=>te σ2 H2 λy H4=>Pv (i+1) (ys++[y]) σ2 H4)
 (hd:∀ys σ H,Pv (min xs.length zs.length) ys σ H->Fin ys H):∃W:Nat->Nat->List V->St->Hp->Prop,(∃m,W 0 m [] σ H)/\dM (Itz K b1 b2 l1 l2) g eN te Fin W:=
 AF Pv h0 hz hx hl (λi x z ys σ H p h1 h2 h3 h4=>by
  rw[gO (N':=λ_ _ _=>True)]
  exact hs i x z ys σ H p h1 h2 h3 h4) hd
section
variable {X:Cx}{pins:List (Addr×Obj)}{σ:St}{H:Hp}{s:Shared}{a:Addr}{kvs:List (Key×V)}{k:Key}{z:V}{u r:Value}{A:Around}{E:Yo}
theorem ck.not_got{o:Option V}(h:ck o none):o=none:=by
 cases o with
 |none=>rfl
 |some v=>exact h.elim
theorem ck.got{o:Option V}{u:Value}(h:ck o (some u)):∃v,o=some v/\aG v u:=by
 cases o with
 |none=>exact h.elim
 |some v=>exact⟨v,U,h⟩
theorem Ay{Q:Yo}(I:Inv X pins σ H s)(e:H a=some (.dK kvs))(ry:aG (kV k) u)(rz:aG z r)(few:kvs.length<sizeLine)
 (h1:∀v w' s',cW kvs k=some v->Inv X pins σ H s'->aG v w'->Q w' s') (h2:∀s',cW kvs k=none->Inv X pins σ (upd H a (.dK (d9 kvs k z))) s'->Q r s'):
 wpAny (model X.prog X.w) A (call (.builtin "dict.setdefault") [.ref a,u,r]) Q E s:=by
 obtain⟨zz,hd,vs,rel,dd⟩:=ij I.hok e;have hz:vs.length<=sizeLine:=by rw[<- rel.length];exact zz
 have hl:(d9 kvs k z).length<=sizeLine:=by have:=su kvs k z;omega
 have rv:=rel.val k;refine call_meetsIn PySem.F.slot_dict_setdefault dd.typeIs PySem.F.entry_dict_setdefault (PySem.F.args_dict_setdefault_3 _ _ _) (kt_meets_setdefault (ci X.prog X.w) a (ig ry) hd r) ⟨vs,dd,hz,λv' hv'=>?_,λhn h' dd' hs=>?_⟩
 ·rw[hv']at rv;obtain⟨v,e1,e2⟩:=ck.got rv;exact h1 v v' _ e1 (I.tok _) e2
 ·rw[hn]at rv;have he:∃q,h'.get? a=some q:=let ⟨q,_,_,hq,_⟩:=dd';⟨q,hq⟩;exact h2 _ (ck.not_got rv) (jh I (by rw[e];exact True.intro) hs he (jf hl hd (rel.put k rz) dd'))
end
def uZ(td ty tx:TE):TE:=λσ H Q=>td σ H λx H1=>∃a,x=.ref a/\IsD H1 a/\ty σ H1 λy H2=>tx σ H2 λz H3=>∃kvs k,H3 a=some (.dK kvs)/\y=kV k/\kvs.length<sizeLine /\
 (∀v,cW kvs k=some v->Q v H3)/\(cW kvs k=none->Q z (upd H3 a (.dK (d9 kvs k z))))
section
variable {X:Cx}{o e f:Expr}{apos cpos:Pos}{td ty tx:TE}
theorem xq(ho:PE X o td)(he:PE X e ty)(hf:PE X f tx)(m:M2 X o "setdefault" apos e f cpos):PE X (.Call (.Attribute o "setdefault" apos) [e,f] [] cpos) (uZ td ty tx):=by
 intro pins s σ H Q I h;refine wpAny_Call_method m.base m.few m.line PySem.F.plainAttrs_dict PySem.F.slot_dict_setdefault PySem.F.type_dict_setdefault (thn (ho pins s σ H _ I h) λu s1 ⟨x,H1,I1,rx,a,ex,d,q1⟩=>?_);subst ex;obtain rfl:u=Value.ref a:=rx;obtain⟨t1,t2,_⟩:=sL I1 d;refine⟨t1,t2,?_⟩;rw[m.trees]
 refine Calls.callWith_builtin U (Calls.evalArgs_plain (Calls.spliced_cons (thn (he pins s1 σ H1 _ I1 q1) λiv s2 ⟨y,H2,I2,ry,q2⟩=>
  Calls.spliced_cons (thn (hf pins s2 σ H2 _ I2 q2) λfv s3 ⟨z,H3,I3,rz,kvs,k,eH,ey,few,g1,g2⟩=>Calls.spliced_nil ?_))))
 subst ey;exact Ay I3 eH ry rz few (λv w' s' ev I4 rw'=>⟨v,H3,I4,rw',g1 v ev⟩) λs' en I4=>⟨z,_,I4,rz,g2 en⟩
end
section
variable {prog:Program}{w:World}{A:Around}{E:Yo}{s:Shared}
end
section
variable {prog:Program}{w:World}{A:Around}{R:Result->Shared->Prop}{K:Type} [DecidableEq K] {knd:KeyKind prog w K}
end
section
variable {prog:Program}{w:World}{A:Around}{E:Yo}{K:Type} [DecidableEq K] {knd:KeyKind prog w K}{s:Shared}
end
section
variable {X:Cx}{pins:List (Addr×Obj)}{σ:St}{H:Hp}{s:Shared}
end
end L2
namespace Tr
open PySem PySem.Spec PyProof.Rows L2
end Tr
namespace L2
open PySem PySem.Spec PyProof.Rows
section
variable {X:Cx}
end
end L2
namespace Tr
open PySem PySem.Spec PyProof.Rows L2
end Tr
namespace L2
open PySem
section
variable {P:Program}{w:World}{A:Around}{E:Yo}{s:Shared}
end
end L2
namespace L2
open PySem PySem.Spec PyProof.Rows
section
variable {X:Cx}
end
section
variable {P:Program}{w:World}{A:Around}{E:Yo}{s:Shared}
end
section
variable {X:Cx}
theorem A4{P:Program}{w:World}{k:Key}{u:Value}(h:(ci P w).is k u=true):aG (kV k) u:=by
 have h:fP k u=true:=h;rcases dR h with⟨i,t,rfl,rfl⟩|⟨x,t,rfl,rfl⟩
 ·exact⟨t,U⟩
 ·exact⟨t,U⟩
end
theorem tR{K:W.Frag}{l:Addr}{xs:List V}{g:TG}{te:TE}{Fin:List V->Hp->Prop}{σ:St}{H:Hp}(Pv:Nat->List V->St->Hp->Prop)(h0:Pv 0 [] σ H)(hz:∀i ys σ H,Pv i ys σ H->ys.length<=i)(hx:xs.length<=sizeLine)(hl:∀i ys σ H,Pv i ys σ H->SqL K H l xs)
 (hs:∀i x ys σ H p,xs[i]?=some x->Pv i ys σ H->H p=none->g (.ref p) σ (upd H p (.tup [.int i,x])) λσ2 H2=>te σ2 H2 λy H4=>Pv (i+1) (ys++[y]) σ2 H4)
 (hd:∀ys σ H,Pv xs.length ys σ H->Fin ys H):∃W:Nat->Nat->List V->St->Hp->Prop,(∃m,W 0 m [] σ H)/\dM (Ite K l) g eN te Fin W:=by
 refine⟨λi m ys σ H=>m=xs.length-i/\i<=xs.length/\Pv i ys σ H,⟨_,U,qu _,h0⟩,?_⟩;rintro i m ys σ H ⟨rfl,hi,p⟩;have hl':=hz i ys σ H p;have q:=hl i ys σ H p;by_cases hlt:i<xs.length
 ·refine .inr ⟨⟨xs,xs[i],q,by simp[hlt]⟩,Yk,Pv (i+1),λys' σ' H' p'=>⟨_,Yk,U,hlt,p'⟩,λv H' y=>?_⟩;obtain⟨a,x,hn,rfl,rfl,e1⟩:=y;rw[gO (N':=λ_ _ _=>True)];exact hs i x ys σ H a (e1 xs q) p hn
 ·obtain rfl:i=xs.length:=by omega
  exact .inl ⟨⟨xs,q,qf _⟩,Yk,hd ys σ H p⟩
section
variable {P:Program}{w:World}{K:W.Frag}{mg:Str->Option Value}{base:Heap}
end
end L2
namespace Tr
open PySem PySem.Spec PyProof.Rows L2
structure OnW(x:Int):Prop where
 lo:0<=x
 hi:x<1000000000000000000000000000000
def iP(sg:Str)(a b:Int):Int:=
 if sg="+" then a+b else if sg="-" then a-b else if sg="*" then a * b else if sg="&" then Builtin.bitAnd a b else if sg="|" then Builtin.bitOr a b else Builtin.bitXor a b
def cP(sg:Str)(a b:Int):Int:=
 if sg="/" then(if b=0 then 0 else a / b)else if sg="<" then(if a<b then 1 else 0)else if sg="=" then(if a=b then 1 else 0)else iP sg a b % 1000000000000000000000000000000
theorem Av{sg:Str}{x y:Int}(hx:OnW x)(hy:OnW y):OnW (cP sg x y):=by
 have x0:=hx.lo;have x1:=hx.hi;unfold cP;split
 ·split
  ·exact⟨Yd,Yd⟩
  ·rename_i h;have y0:=hy.lo;have y1:0<y:=Yk;exact⟨Int.ediv_nonneg x0 y0,Int.lt_of_le_of_lt (Int.ediv_le_self y x0) x1⟩
 split
 ·split<;>exact⟨Yd,Yd⟩
 split
 ·split<;>exact⟨Yd,Yd⟩
 exact⟨Qa _ Yd,Qf _ Yd⟩
end Tr
namespace L2
open PySem PySem.Spec PyProof.Rows
section
variable {X:Cx}
end
section
variable {X:Cx}
end
end L2
namespace L2
open PySem PySem.Spec PyProof.Rows PySem.W
section
variable {X:Cx}{k:Nat}{f C0:Addr}{fd:FuncData}{ps:List Str}{sp:Sp}{dvs:List V}{ds:List Value}{fx cx y m n:Str}{iy im inn:Nat}{p pos apos py cp pm pn pa hpos:Pos}{e:Expr}{es:List Expr}{t:TA}
end
section
variable {X:Cx}
end
end L2
namespace Tr
open PySem PySem.Spec PyProof.Rows L2
end Tr
namespace L2
open PySem PySem.Spec PyProof.Rows PySem.W
section
variable {P:Program}{w:World}{K:W.Frag}{mg:Str->Option Value}{base:Heap}
end
theorem xp{X:Cx}{K:W.Frag}{e:Expr}{f:Str}{ta:TE}{pos:Pos}(hk:X.K=K)(he:PE X e ta)(hb:attributeBase e f X.env (eval e X.env)=eval e X.env):PE X (.Attribute e f pos) (iA K ta f):=by
 subst hk;exact rF he hb
end L2
namespace L2
open PySem PySem.F PySem.Spec PyProof.Rows PySem.W
set_option maxRecDepth 100000
section
variable {prog:Program}{w:World}{A:Around}{E:Yo}{s:Shared}
end
section
variable {X:Cx}
end
section
variable {X:Cx}
end
section
variable {X:Cx}
end
section
variable {X:Cx}
end
section
variable {X:Cx}{pins:List (Addr×Obj)}{σ:St}{H:Hp}{s:Shared}
end
section
variable {X:Cx}{k:Nat}{f C:Addr}{fd:FuncData}{ps:List Str}{sp:Sp}{x:Str}{p pos cpos:Pos}{e:Expr}{es:List Expr}{t:TA}
end
section
variable {X:Cx}
end
section
variable {X:Cx}
end
section
variable {X:Cx}{e:Expr}{te:TE}{pos:Pos}
end
section
variable {X:Cx}{K:W.Frag}{o e:Expr}{es:List Expr}{to:TE}{t:TA}{name:Str}{apos cpos:Pos}{T id:String}{r:V->List V->Hp->VK->Prop}
end
section
variable {X:Cx}
end
section
variable {prog:Program}{w:World}{A:Around}{E:Yo}{s:Shared}{κ:KeyKind}
section
variable {left:Bool}{key:Keyed}{arr:Array Keyed}{base n hint:Nat}{st:SortSt}{Q:Option Nat->SortSt->Prop}
end
end
section
variable {prog:Program}{w:World}{A:Around}{E:Yo}{s:Shared}{κ:KeyKind}
section
variable {r:Keyed->Keyed->Prop}{T o X Y Z:List Keyed}
end
section
variable {a b out:Array Keyed}{ia ib n:Nat}
end
end
section
variable {prog:Program}{w:World}{A:Around}{E:Yo}{s:Shared}{κ:KeyKind}
section
variable {a b out:Array Keyed}{ia ib n:Nat}
end
end
section
variable {prog:Program}{w:World}{A:Around}{E:Yo}{s:Shared}{κ:KeyKind}
section
variable {a b out:Array Keyed}{na nb n:Nat}
end
end
section
variable {prog:Program}{w:World}{A:Around}{E:Yo}{s:Shared}{κ:KeyKind}
section
variable {arr:Array Keyed}{P X Y R:List Keyed}
end
end
section
variable {prog:Program}{w:World}{A:Around}{E:Yo}{s:Shared}{κ:KeyKind}
section
variable {st0 st:SortSt}{lo:Nat}
end
end
section
variable {prog:Program}{w:World}{A:Around}{E:Yo}{s:Shared}{κ:KeyKind}
section
variable {a₀:Array Keyed}{st:SortSt}{Xs:List (List Keyed)}{R:List Keyed}
end
section
variable {a₀:Array Keyed}{st:SortSt}{Xs:List (List Keyed)}{R:List Keyed}{lo n:Nat}
end
end
section
variable {prog:Program}{w:World}{A:Around}{E:Yo}{s:Shared}
end
section
variable {P:Program}{w:World}{A:Around}{E:Yo}{s:Shared}
end
section
variable {X:Cx}
end
section
variable {P:Program}{w:World}{A:Around}{E:Yo}{s:Shared}
end
section
variable {P:Program}{w:World}{A:Around}{E:Yo}{s:Shared}
end
section
variable {X:Cx}
end
section
variable {P:Program}{w:World}{A:Around}{E:Yo}{s:Shared}
end
section
variable {X:Cx}
end
end L2
namespace Tr
open PySem PySem.Spec PyProof.Rows L2
section
variable {Hb H0 H0' H H' H1:Hp}{own:List Addr}{z:List Fz}
end
section
variable {Hb H0 H0' H H' H1:Hp}{s0 s1 s2:Addr}{z:List Fz}
end
end Tr
namespace L2
open PySem PySem.Spec PyProof.Rows PySem.W
section
variable {X:Cx}{k:Nat}{f C0:Addr}{fd:FuncData}{ps:List Str}{sp:Sp}{dvs:List V}{ds:List Value}{fx cx y m n:Str}{iy im inn:Nat}{p pos apos py cp pm pn pl pa hpos tpos:Pos}{e:Expr}{es:List Expr}{t:TA}
end
end L2
namespace Tr
open PySem PySem.Spec PyProof.Rows L2
end Tr
namespace L2
open PySem PySem.Spec PyProof.Rows
theorem a9.seqT{K:W.Frag}{H H':Hp}{a:Addr}{xs:List V}(e:a9 H H')(h:SqT K H a xs):SqT K H' a xs:=by
 rcases h with(h|⟨o,h⟩)|h
 ·exact .inl (.inl (e _ _ h))
 ·exact .inl (.inr ⟨o,e _ _ h⟩)
 ·exact .inr h
mutual
theorem Dt.same{K:W.Frag}{H H':Hp}(e:a9 H H'):∀{v:V}{d:PyData},Dt K H v d->Dt K H' v d
 |_,_,.non=>.non
 |_,_,.bl b=>.bl b
 |_,_,.int i=>.int i
 |_,_,.str x=>.str x
 |_,_,.lst h r=>.lst (a9.seq e h) (bU.same e r)
 |_,_,.tup h r=>.tup (a9.seqT e h) (bU.same e r)
theorem bU.same{K:W.Frag}{H H':Hp}(e:a9 H H'):∀{vs:List V}{ds:List PyData},bU K H vs ds->bU K H' vs ds
 |_,_,.nil=>.nil
 |_,_,.cons a b=>.cons (Dt.same e a) (bU.same e b)
end
theorem sN:∀{ys:List Int}{its:List Value},ax (ys.map V.int) its->IntsAre its ys
 |[],[],_=>.nil
 |y::ys,_::_,.cons h r=>by
  obtain⟨t,rfl⟩:=h;exact .cons y t (sN r)
section
variable {X:Cx}
theorem tY(hc:X.calm=true):cr X (.builtin "sorted") (λxs H Q=>∃(p:Addr)(ys:List Int),xs=[.ref p]/\SqL X.K H p (ys.map V.int)/\ys.length<64 /\
 ∀l zs,H l=none->zs.Perm ys->List.Pairwise (λx1 x2=>x1<=x2) zs->Q (.ref l) (upd H l (.lst (zs.map V.int)))):=by
 intro pins s σ H xs us Q I r h;obtain⟨p,ys,rfl,hq,hz,q⟩:=h;obtain⟨u,rfl,rx⟩:=ff r;cases rx;obtain⟨its,r',pl,_⟩:=I.list hq;have hlen:=r'.length;rw[qa]at hlen;refine sorted_ints (vs:=its) pl.isList (sN r') Yk λout zs hS hp so=>?_;obtain⟨n,at1⟩:=sortedAll_at s.heap its out;have lz:zs.length<=sizeLine:=by rw[hp.length_eq];exact qz (Nat.le_of_lt hz) Yd
 have J:=I.laid (t':=s.toks) (h':=sortedAll s.heap its out) (a:=s.heap.objs.size+1) (o:=.lst (zs.map V.int)) (λb o q=>sortedAll_old q) (Nat.le_succ _) ⟨by rw[qa];exact lz,out.toList,n,jr hS,at1⟩;exact⟨.ref (s.heap.objs.size+1),_,J,U,q _ zs (I.hok.fresh (Nat.le_succ _)) hp so⟩
end
section
variable {P:Program}{w:World}{A:Around}{E:Yo}{s:Shared}
end
section
variable {X:Cx}
end
section
variable {P:Program}{w:World}{A:Around}{E:Yo}{s:Shared}
end
section
variable {X:Cx}
end
section
variable {X:Cx}
end
end L2
namespace Tr
open PySem PySem.Spec PyProof.Rows L2
section
variable {Hb H0 H0' H H' H1:Hp}{s0 s1 s2:Addr}{z:List Fz}{os:List V}
end
end Tr
namespace L2
open PySem PySem.Spec PyProof.Rows
@[reducible] def intKey:KeyKind where
  α:=Int
  blt a b:=decide (a<b)
  irrefl a:=by simp
  trans a b c h1 h2:=by simp only[decide_eq_true_eq]at *;omega
  negTrans a b c h:=by simp only[decide_eq_true_eq]at *;omega
  total a b h1 h2:=by simp only[decide_eq_false_iff_not]at *;omega
  keyOf v:=match v with|.int n _=>some n|_=>none
  dflt:=0
section
variable {prog:Program}{w:World}{A:Around}{E:Yo}{s:Shared}
end
section
variable {X:Cx}
end
end L2
namespace Tr
open PySem PySem.Spec PyProof.Rows L2
end Tr
namespace L2
open PySem PySem.Spec PyProof.Rows
section
variable {P:Program}{w:World}{A:Around}{E:Yo}{s:Shared}{κ:Type} [DecidableEq κ] {knd:PySem.KeyKind P w κ}
end
section
variable {X:Cx}
end
end L2
namespace Tr
open PySem PySem.Spec PyProof.Rows L2
end Tr
namespace L2
open PySem PySem.Spec PyProof.Rows
section
variable {n m:Nat}{p:Array Nat}
end
section
variable {prog:Program}{w:World}{A:Around}{E:Yo}{s:Shared}
end
section
variable {X:Cx}
end
theorem AG{K:W.Frag}{a:Addr}{xs:List V}{g:TG}{te:TE}{Fin:List V->Hp->Prop}{σ:St}{H:Hp}(Pv:Nat->List V->St->Hp->Prop)(h0:Pv 0 [] σ H)(hz:∀i ys σ H,i<=xs.length->Pv i ys σ H->ys.length<=i)(hx:xs.length<=sizeLine)(hl:∀i ys σ H,Pv i ys σ H->SqT K H a xs)
 (hs:∀i x ys σ H,xs[i]?=some x->Pv i ys σ H->g x σ H λσ2 H2=>te σ2 H2 λy H4=>Pv (i+1) (ys++[y]) σ2 H4)
 (hd:∀ys σ H,Pv xs.length ys σ H->Fin ys H):∃W:Nat->Nat->List V->St->Hp->Prop,(∃m,W 0 m [] σ H)/\dM (Itt K a) g eN te Fin W:=
 tQ Pv h0 hz hx hl (λi x ys σ H hx p=>by
  rw[gO (N':=λ_ _ _=>True)]
  exact hs i x ys σ H hx p) hd
end L2
namespace Tr
open PySem PySem.Spec PyProof.Rows L2
end Tr
namespace L2
open PySem
section
variable {P:Program}{w:World}{A:Around}{E:Yo}{s:Shared}
set_option maxHeartbeats 3200000 in
end
open PySem.Spec PyProof.Rows
section
variable {X:Cx}
end
end L2
namespace Tr
open PySem PySem.Spec PyProof.Rows L2
end Tr
namespace L2
open PySem PySem.Spec PyProof.Rows
theorem xO{X:Cx}{K:W.Frag}(e:X.K=K)(hu:X.A.units+64<cLine):OpR X (compareOp .Eq) (λx y H Q=>∃d e,Dt K H x d/\Dt K H y e/\SeqAt.shaped d=true/\SeqAt.shaped e=true/\Q (.bl (PyData.eqv d e)) H):=by
 subst e;exact fJ hu
end L2
namespace Tr
open PySem PySem.Spec PyProof.Rows L2 PySem.NumText
end Tr
namespace HT
open PySem PyProof.Rows
section
variable {prog:Program}{w:World}{A:Around}{E:Yo}{s:Shared}
end
end HT
namespace L2
open PySem PySem.Spec PyProof.Rows
section
variable {X:Cx}
end
end L2
namespace Tr
open PySem PySem.Spec PyProof.Rows L2
end Tr
namespace L2
open PySem PySem.Spec PyProof.Rows
section
variable {prog:Program}{w:World}{A:Around}{E:Yo}{s:Shared}
end
section
variable {X:Cx}{pins:List (Addr×Obj)}{σ:St}{H:Hp}{s:Shared}{a:Addr}{A:Around}{E:Yo}
end
section
variable {X:Cx}{o e f i value:Expr}{apos cpos pos pos':Pos}{td ty tx tv:TE}
end
section
variable {X:Cx}
theorem wF{K:W.Frag}(e:X.K=K):cr X (.builtin "len") (kY K):=by
 subst e;exact bG
end
end L2
namespace L2
open PySem PySem.Spec PyProof.Rows PySem.W
section
variable {X:Cx}{pins:List (Addr×Obj)}{σ:St}{H:Hp}{s:Shared}{tg:Expr}
theorem KV.nth:∀{kvs:List (Key×V)}{vs:List (Key×Value)},KV kvs vs->∀{i:Nat}{k:Key}{x:Value},vs[i]?=some (k,x)->∃q,kvs[i]?=some q/\q.1=k
 |_,_,.nil,i,k,x,h=>by simp at h
 |_,_,.cons r _,0,k,x,h=>by cases h;exact⟨_,U,r.1⟩
 |_,_,.cons _ t,i+1,k,x,h=>KV.nth (i:=i) t (by simpa using h)
end
section
variable {X:Cx}{pins:List (Addr×Obj)}{σ:St}{H:Hp}{s:Shared}{scope:Scope}{x0:Str}{Nc:List Str}{js:List Nat}{k:Nat}
end
section
variable {X:Cx}{pins:List (Addr×Obj)}{σ:St}{H:Hp}{s:Shared}{scope:Scope}{x0:Str}{Nc:List Str}{js:List Nat}{k:Nat}{tg iter elt:Expr}{ifs:List Expr}{pos:Pos}{g:TG}{tt:TT}{te:TE}
end
theorem mJ(f:Nat->Int):∀k,argBest (λi j=>decide (f i<f j)) k<=k/\∀i,i<=k->f (argBest (λi j=>decide (f i<f j)) k)<=f i
 |0=>⟨qf _,λi h=>by rw[Nat.le_zero.mp h];exact Int.le_refl _⟩
 |k+1=>by
  obtain⟨a,b⟩:=mJ f k;unfold argBest;by_cases c:f (k+1)<f (argBest (λi j=>decide (f i<f j)) k)
  ·rw[Q1 (Q3 c)];refine⟨qf _,λi hi=>?_⟩;by_cases e:i=k+1
   ·rw[e];exact Int.le_refl _
   ·have:=b i Yk;omega
  ·rw[Q0 (by rw[Q4 c];exact qj)];refine⟨Yk,λi hi=>?_⟩;by_cases e:i=k+1
   ·rw[e];omega
   ·exact b i Yk
section
variable {X:Cx}
theorem AO(hc:X.calm=true):cr X (.builtin "min") (λxs H Q=>∃(p:Addr)(kvs:List (Key×V))(ks:List Int),xs=[.ref p]/\H p=some (.dK kvs)/\kvs.map (·.1)=ks.map Sum.inl/\ks≠[]/\∀m,m∈ks->(∀k∈ks,m<=k)->Q (.int m) H):=by
 intro pins s σ H xs us Q I r h;obtain⟨p,kvs,ks,rfl,hq,ek,hne,q⟩:=h;obtain⟨u,rfl,rx⟩:=ff r;cases rx;obtain⟨z,hd,vs,rel,dd⟩:=ij I.hok hq;obtain⟨ep,da⟩:=dd.dictAt;have kl:=rel.length;have el:kvs.length=ks.length:=by have:=congrArg List.length ek;rwa [qa,qa]at this
 have n0:0<ks.length:=List.length_pos_iff.mpr hne;have ho:∃o,s.heap.get? p=some o:=let ⟨o,_,e,_⟩:=da;⟨o,e⟩;obtain⟨o,ho⟩:=ho;have hlt:=qr ho;have W:=(Walks.dictKeys (prog:=X.prog) (w:=X.w) (knd:=ci X.prog X.w) (A:=X.A.in1) (I.ok.hd hc) s.heap.objs.size p (qH hlt) vs ep).toS
 have key:∀i v,(∃k x,vs[i]?=some (k,x)/\(ci X.prog X.w).is k v=true)->∃t,v=.int (ks.getD i 0) t:=λi v ⟨k,x,hx,hk⟩=>by
  obtain⟨y,hy,e⟩:=KV.nth rel hx;have e2:(kvs.map (·.1))[i]?=some k:=by rw[qF,hy];exact congrArg some e
  rw[ek,qF]at e2;obtain⟨j,hj,rfl⟩:=qQ.mp e2;have:=A4 hk;rw[qk,hj];exact this
 refine call_min_walkS (wpAny_pyIter_dict hd da ⟨s.heap.objs.size,_,_,_,_,_,_,_,U,W,⟨⟨_,qq _ U,U,U⟩,da.push _⟩,?_,Yk,CmpOf.ints_lt (λi=>ks.getD i 0) key,λv s' hP hm=>?_⟩)
 ·intro b hb;rw[Qg];simp only[qv,qR,or_false]at hb;rcases hb with rfl|rfl
  ·exact Qb _
  ·exact Qq hlt
 ·obtain⟨t,rfl⟩:=key _ v hP;obtain⟨b1,b2⟩:=mJ (λi=>ks.getD i 0) (vs.length-1);obtain⟨h',g',d',t',os'⟩:=s';have eg:g'=s.gens:=hm.gens;have ed:d'=s.drawn:=hm.drawn;have eo:os'=s.os:=hm.os;subst eg ed eo;have bl:argBest (λi j=>decide (ks.getD i 0<ks.getD j 0)) (vs.length-1)<ks.length:=Yk;refine⟨.int (ks.getD (argBest (λi j=>decide (ks.getD i 0<ks.getD j 0)) (vs.length-1)) 0),H,?_,⟨t,U⟩,q _ ?_ λk hk=>?_⟩
  ·refine I.kept (t':=t') (h':=h') λb o e=>hm.heap b o (λz=>?_) (qb _ e);rw[qT]at z;rw[z]at e;exact Q5 (qr e) (Qc _)
  ·rw[qk,qd bl];exact List.getElem_mem bl
  ·obtain⟨i,hi⟩:=List.mem_iff_getElem?.mp hk;have il:=(qg.mp hi).1;have:=b2 i Yk;rw[qk (l:=ks) (i:=i),hi]at this;exact this
def uU(te:TE):TE:=λσ H Q=>te σ H λx H1=>∃n:Nat,x=.int n/\n<=100000/\∀l,H1 l=none->Q (.ref l) (upd H1 l (.lst ((List.range n).map λj:Nat=>V.int j)))
theorem uy{acc:List Value}{n:Nat}(hl:acc.length=n)(h:∀(i:Nat)(v:Value),acc[i]?=some v->∃t,v=.int (i:Int) t):ax ((List.range n).map λj:Nat=>V.int j) acc:=by
 have go:∀(k m:Nat)(acc:List Value),acc.length=m->(∀(i:Nat)(v:Value),acc[i]?=some v->∃t,v=.int ((k+i:Nat):Int) t)->ax ((List.range' k m).map λj:Nat=>V.int j) acc:=by
  intro k m
  induction m generalizing k with
  |zero=>
   intro acc hl _;cases List.length_eq_zero_iff.mp hl;exact .nil
  |succ m ih=>
   intro acc hl h
   cases acc with
   |nil=>cases hl
   |cons u r=>
    rw[List.range'_succ,qS];refine .cons ?_ (ih (k+1) r (by simpa using hl) λi v hv=>?_)
    ·obtain⟨t,rfl⟩:=h 0 u U;exact⟨t,U⟩
    ·obtain⟨t,rfl⟩:=h (i+1) v (by simpa using hv);exact⟨t,by rw[show k+(i+1)=k+1+i by omega]⟩
 rw[List.range_eq_range'];exact go 0 n acc hl λi v hv=>by rw[Nat.zero_add];exact h i v hv
theorem xk{e:Expr}{te:TE}{p1 p2 pos1 pos2:Pos}(hc:X.calm=true)(hg:Gl X "list")(hm:X.mg "list"=none)(hg2:Gl X "range")(hm2:X.mg "range"=none)(he:PE X e te)
 (hs:starEach [e] X.env=[(false,eval e X.env)]:=by rfl) (hs2:starEach [.Call (.Name "range" p2) [e] [] pos2] X.env=[(false,eval (.Call (.Name "range" p2) [e] [] pos2) X.env)]:=by rfl):
 PE X (.Call (.Name "list" p1) [.Call (.Name "range" p2) [e] [] pos2] [] pos1) (uU te):=by
 intro pins s σ H Q I h;refine wpAny_Call_Name_kw (dD I hg hm PyProof.Rows.Boot.«list» ?_);refine PyProof.Rows.callWith_type1 ?_ (by rw[hs2];rfl) U;rw[hs2];show wpAny _ _ (spliced ((false,eval (.Call (.Name "range" p2) [e] [] pos2) X.env)::backTo pos1 [])) _ _ s;refine Calls.spliced_cons ?_;refine wpAny_Call_Name_kw (dD I hg2 hm2 boot_range ?_);refine PyProof.Rows.callWith_type1 ?_ (by rw[hs];rfl) U;rw[hs];show wpAny _ _ (spliced ((false,eval e X.env)::backTo pos2 [])) _ _ s;refine Calls.spliced_cons (thn (he pins s σ H _ I h) λu s1 ⟨x,H1,I1,r1,q1⟩=>?_);refine Calls.spliced_nil ?_;obtain⟨n,rfl,hn,q⟩:=q1;obtain⟨t,rfl⟩:=r1;refine call_range_1 ?_;refine Calls.spliced_nil ?_;refine call_list_range (n:=n) (I1.ok.hd hc) (IsRange.new ..) (small_one Yk Yk Yk Yk) (by rw[rangeSize_one];split<;>omega) Yk λh' tk acc c' kp gl hI=>?_;have kp1:∀b o,s1.heap.get? b=some o->h'.get? b=some o:=λb o e=>kp b o (qb _ e)
 have hv:ax ((List.range n).map λj:Nat=>V.int j) acc.toList:=uy (by rw[qN];exact hI.1) λi v hv=>by
  obtain⟨t,e⟩:=hI.2 i v (by simpa using hv);exact⟨t,by rw[e];congr 1;omega⟩
 have sz:(s1.heap.push { cls:=.type "range",data:=.fields #[.int 0 s1.toks,.int n t,.int 1 (s1.toks+1)] }).objs.size=s1.heap.objs.size+1:=Qg ..;have big:(100000:Nat)<=sizeLine:=Yd;have J:=I1.laid (t':=tk) (h':=h') (a:=(s1.heap.push { cls:=.type "range",data:=.fields #[.int 0 s1.toks,.int n t,.int 1 (s1.toks+1)] }).objs.size) (o:=.lst ((List.range n).map λj:Nat=>V.int j)) kp1 (by rw[sz];exact Nat.le_succ _) ⟨by rw[qa,Qe];omega,acc.toList,c',hv,by simpa using gl⟩;exact⟨.ref (s1.heap.push { cls:=.type "range",data:=.fields #[.int 0 s1.toks,.int n t,.int 1 (s1.toks+1)] }).objs.size,_,J,U,q _ (I1.hok.fresh (by rw[sz];exact Nat.le_succ _))⟩
end
structure fW(K:W.Frag)(x qual:Str)(st:Stmt)(f:Addr)(fd:FuncData)(dvs:Array Value):Prop where
 ex:∃(oc:Value)(od:Option Addr)(kV doc pm:Value)(an:Option Addr)(cdv ct:Value)(osl:Array (Option Value))(dt:Addr)(d2:Option Addr)(n:Nat)(e2:Array (Option Value)),
  fd=PySem.W.fnOf x qual (cU st) (cH st) (am st) (.ref dt) kV doc pm an cdv ct/\K.lookup f=some ⟨oc,od,.func fd,osl⟩/\PySem.W.codeIn K cdv qual=true/\K.lookup dt=some ⟨.type "tuple",d2,.seq dvs n,e2⟩
 kp:PySem.W.keepIn K (.ref f)=true
section
variable {P:Program}{w:World}{K:W.Frag}{mg:Str->Option Value}{base:Heap}
theorem fW.ok{x qual:Str}{st:Stmt}{f:Addr}{fd:FuncData}{dvs:Array Value}{N ps:List Str}{k:Nat}{sp:Sp}(F:fW K x qual st f fd dvs)(S:aJ N ps (am st))(len:∀vs H Q E,sp vs H Q E->vs.length=ps.length)
 (hbody:∀(cdv:Value)(A:Around)(outer:List Env)(s:Shared)(H:Hp)(vs:List V)(Q:VK)(E:XK),bC k (A.deeper (envOfC qual (am st) s.heap.objs.size f cdv))->sp vs H Q E->
  ∃t,PSs (eI CX0 P w K mg base N qual (am st) f cdv A outer s H E).nox (cH st) t/\t { nx:=λ_ H'=>Q .non H',rt:=Q } (start N vs) H):aA P w K mg base CX0 (k+1) f fd ps sp:=by
 obtain⟨oc,od,kV,doc,pm,an,cdv,ct,osl,dt,d2,n,e2,rfl,lk,hcd,lt⟩:=F.ex;refine tE lk hcd S len λA outer s H vs Q E hr hsp=>?_;obtain⟨t,h,q⟩:=hbody cdv A outer s H vs Q E hr hsp;exact⟨t,h.nox,q⟩
theorem fW.binds{x qual:Str}{st:Stmt}{f:Addr}{fd:FuncData}{dvs:Array Value}{ps:List Str}(F:fW K x qual st f fd dvs)(ds:List Value)
 (h:∀(kV doc pm:Value)(an:Option Addr)(cdv ct:Value)(dt:Addr)(o:Obj)(n:Nat)(s:Shared)(us:List Value),s.heap.get? dt=some o->o.data=.seq dvs n->(us++ds).length=ps.length->
  BindsTo s (PySem.W.fnOf x qual (cU st) (cH st) (am st) (.ref dt) kV doc pm an cdv ct) ⟨us,[]⟩ (ps.zip (us++ds))):aC K fd ps ds:=by
 obtain⟨oc,od,kV,doc,pm,an,cdv,ct,osl,dt,d2,n,e2,rfl,lk,hcd,lt⟩:=F.ex;exact λs us X hl=>h kV doc pm an cdv ct dt _ n s us (X _ _ lt) U hl
theorem An{x qual:Str}{st:Stmt}{f dt:Addr}{oc:Value}{od an d2:Option Addr}{osl e2:Array (Option Value)}{n:Nat}{kV doc pm cdv ct:Value}{dvs i2:Array Value}(l:K.lookup f=some ⟨oc,od,.func (PySem.W.fnOf x qual (cU st) (cH st) (am st) (.ref dt) kV doc pm an cdv ct),osl⟩)
 (c:PySem.W.codeIn K cdv qual=true) (k:PySem.W.keepIn K (.ref f)=true) (t:K.lookup dt=some ⟨.type "tuple",d2,.seq i2 n,e2⟩) (hi:i2=dvs):fW K x qual st f (PySem.W.fnOf x qual (cU st) (cH st) (am st) (.ref dt) kV doc pm an cdv ct) dvs:=by
 subst hi;exact⟨⟨oc,od,kV,doc,pm,an,cdv,ct,osl,dt,d2,n,e2,U,l,c,t⟩,k⟩
end
def eX(xs:List V)(lo hi st:Option Int):List V:=(sliceRange (sliceBounds lo hi st xs.length).1 (sliceBounds lo hi st xs.length).2.1 (sliceBounds lo hi st xs.length).2.2).filterMap λi=>xs[i]?
theorem ax.pick{xs:List V}{us:List Value}(r:ax xs us):∀(is:List Nat),ax (is.filterMap λi=>xs[i]?) (is.filterMap λi=>us[i]?)
 |[]=>.nil
 |i::is=>by
  cases h:xs[i]? with
  |none=>
   have h2:us[i]?=none:=by
    rw[List.getElem?_eq_none_iff]at h ⊢;rw[<- r.length];exact h
   rw[List.filterMap_cons_none h,List.filterMap_cons_none h2];exact ax.pick r is
  |some x=>
   obtain⟨u,hu,rx⟩:=r.get h;rw[List.filterMap_cons_some h,List.filterMap_cons_some hu];exact .cons rx (ax.pick r is)
theorem x9{xs:List V}{lo hi st:Option Int}:(eX xs lo hi st).length<=(sliceRange (sliceBounds lo hi st xs.length).1 (sliceBounds lo hi st xs.length).2.1 (sliceBounds lo hi st xs.length).2.2).length:=List.length_filterMap_le _ _
def uJ(K:W.Frag)(te:TE)(tl th ts:TO):TE:=λσ H Q=>te σ H λx H1=>tl σ H1 λl H2=>th σ H2 λu H3=>ts σ H3 λz H4=>∃a xs,x=.ref a/\SqL K H4 a xs/\z≠some 0/\(eX xs l u z).length<=sizeLine/\∀p,H4 p=none->Q (.ref p) (upd H4 p (.lst (eX xs l u z)))
section
variable {X:Cx}
theorem lK{e st:Expr}{lo hi:Option Expr}{te:TE}{tl th ts:TO}{pos p2:Pos}(he:PE X e te)(hl:PO X lo tl)(hu:PO X hi th)(hs:PO X (some st) ts):PE X (.Subscript e (.Slice lo hi (some st) p2) pos) (uJ X.K te tl th ts):=by
 intro pins s σ H Q I h;refine Subscript_ (thn (he pins s σ H _ I h) λv s1 ⟨x,H1,I1,r1,q1⟩=>?_);refine wpAny_Slice (thn (hl pins s1 σ H1 _ I1 q1) λvl s2 ⟨l,H2,I2,pl,q2⟩=>thn (hu pins s2 σ H2 _ I2 q2) λvu s3 ⟨u,H3,I3,pu,q3⟩=>thn (hs pins s3 σ H3 _ I3 q3) λvz s4 ⟨z,H4,I4,pz,q4⟩=>?_);obtain⟨a,xs,rfl,hx,nz,hlen,q⟩:=q4;cases r1;have I5:Inv X pins σ H4 { s4 with heap:=s4.heap.push { cls:=.type "slice",data:=.fields #[vl,vu,vz] } }:=I4.kept (t':=s4.toks) λb ob q=>qb _ q;obtain⟨its,r,ht,hz⟩:=I5.list hx;have el:its.toArray.size=xs.length:=by rw[qD];exact r.length.symm
 have hg:wpAny (model X.prog X.w) X.A (getItem (.ref a) (.ref s4.heap.objs.size)) (EP X pins σ Q) X.xe { s4 with heap:=s4.heap.push { cls:=.type "slice",data:=.fields #[vl,vu,vz] } }:=by
  refine wpAny_getItem_list_slice ht.isList (Heap.IsSliceOf.new ..) pl pu pz nz ?_ (by rw[el];exact hz);refine⟨.ref (s4.heap.push { cls:=.type "slice",data:=.fields #[vl,vu,vz] }).objs.size,_,I5.laid (t':=s4.toks) (o:=.lst (eX xs l u z)) (λb ob q=>qb _ q) (qf _) ?_,U,q _ (I5.hok.fresh (qf _))⟩;refine⟨hlen,(sliceRange (sliceBounds l u z xs.length).1 (sliceBounds l u z xs.length).2.1 (sliceBounds l u z xs.length).2.2).filterMap (λi=>its[i]?),0,r.pick _,?_⟩
  have e:slicePick its.toArray l u z=((sliceRange (sliceBounds l u z xs.length).1 (sliceBounds l u z xs.length).2.1 (sliceBounds l u z xs.length).2.2).filterMap (λi=>its[i]?)).toArray:=by
   unfold slicePick;rw[el];simp
  rw[e];exact qq _ U
 exact tail_any (ops:=[.ref a,.ref s4.heap.objs.size]) ht.isList.typeIs slot_list_getitem.lookup hg (by with_unfolding_all rfl)
end
theorem lI{xs:List V}{lo hi:Int}(h:hi=lo+48)(h0:0<=lo):(eX xs (some lo) (some hi) (some 3)).length<=16:=by
 refine qz x9 ?_;unfold sliceRange sliceBounds;simp only[Option.getD_some,qa,Qe];rw[Q0 (by omega:¬ lo<0),Q0 (by omega:¬ hi<0)];simp only[show(3:Int) > 0 from by decide,if_true];split<;>omega
open PySem.SeqAt
open PySem.AutoSeq1 (wpAny_loadPart')
open PySem.MeetsSeq PySem.MeetsSeq2 PySem.MeetsSeq3
section
variable {prog:Program}{w:World}{A:Around}
theorem tX{id:String}{b:Builtin}{args:List Value}{kw:List (Str×Value)}{E:Yo}{s:Shared}{Q:Yo}(hk:builtinKind id=none)(hp:plainId id=true)(hb:entryFor table id=some b)(ha:argsOk id ⟨args,kw⟩)
 (hc:wpAny (model prog w) A.in1 (b ⟨args,kw⟩) (λfin s'=>match fin with
  |.done f=>(match(Except.ok f:Result)with|.ok (.ret v)=>Q v s'|.ok _=>False|.error e=>E e s')
  |.again c'=>c'.quiet=true/\codeAny (model prog w) A c' (λr s'=>match r with|.ok (.ret v)=>Q v s'|.ok _=>False|.error e=>E e s') s') E s):
 wpAny (model prog w) A (call (.builtin id) args kw) Q E s:=by
 refine wpAny_call (codeAny_call_builtin hp hb ?_);simp only[checkBuiltinCall,hk]
 cases hsig:Manifest.signature? id with
 |none=>exact qe hc
 |some sig=>
  have h2:Bind.checkArgs id sig ⟨args,kw⟩=pure ():=by simpa only[argsOk,hsig]using ha
  show wpAny _ A.in1 (Bind.checkArgs id sig ⟨args,kw⟩) _ _ s;rw[h2];exact qe hc
variable {R:Result->Shared->Prop}{I:Addr}{fp wr:List Addr}{n:Nat}{P:Nat->Value->Prop}{St:Nat->Heap->Prop}
theorem zi(W:Walks prog w A.in1 I fp wr n P St)(bt:Nat->Nat->Bool)(hcmp:CmpOf prog w A.in1 .Lt P bt)(S:Addr)(hSf:S∉fp)(d:Value):
 ∀(k j:Nat)(s:Shared)(vb:Value)(c:Nat),n-(j+1)=k->j+1<=n->St (j+1) s.heap->P (argBest bt j) vb->s.heap.get? S=some { cls:=.type "list",dict:=none,data:=.seq #[vb,vb] c,slots:=#[] }->
 (∀v h' tk,P (argBest bt (n-1)) v->(∀b o,b∉wr->b≠S->s.heap.get? b=some o->h'.get? b=some o)->R (.ok (.ret v)) { s with heap:=h',toks:=tk })->
 codeAny (model prog w) A (.builtin "min.loop" ⟨[.ref I,.none,.ref S],[("default",d)]⟩) R s:=by
 have hSw:S∉wr:=λh=>hSf (W.sub _ h);have nm:(toString "min"++toString ".loop":String)="min.loop":=Yd;intro k
 induction k with
 |zero=>
  intro j s vb c hk hj hst hPb hS hR;have hin:j+1=n:=Yk;refine codeAny_builtin F.entry_min_loop ?_;rw[Around.under_plainId F.plain_min_loop _];refine q9 (Qw hS U ?_);refine q9 (wpAny_tryCatch (W.done s _ _ (hin▸hst) λh' tk hk'=>?_));have hS':=hk' S _ hSw hS;refine q9 ?_;refine wpAny_updateSeq hS' U (q9 (wpAny_letGo (qe (hR vb _ tk (by rw[<- hin];exact hPb) λb o hbw hbS e=>(Qt _ _ (Ne.symm hbS)).trans (hk' b o hbw e)))))
 |succ k ih=>
  intro j s vb c hk hj hst hPb hS hR;have hlt:j+1<n:=Yk;refine codeAny_builtin F.entry_min_loop ?_;rw[Around.under_plainId F.plain_min_loop _];refine q9 (Qw hS U ?_);refine q9 (wpAny_tryCatch (W.item (j+1) s _ _ hlt hst λv h' tk hP hst' hk'=>?_));have hS':=hk' S _ hSw hS;show wpAny _ A.in1 (tryCatch (holding [v,v] (richCompare .Lt v vb >>= _)) _ >>= _) _ _ _;refine q9 (wpAny_tryCatch (Qv (q9 (hcmp (j+1) (argBest bt j) v vb _ _ _ hP hPb ?_))));refine q9 (Qv (wpAny_truthy_bool (q9 (wpAny_letGo (qe ?_)))))
  cases hb:bt (j+1) (argBest bt j)with
  |true=>
   simp only[if_true];refine q9 ?_;refine wpAny_updateSeq hS' U (q9 (wpAny_letGo ?_));rw[nm];refine qe ⟨plainId_quiet F.plain_min_loop _,ih (j+1) _ v _ Yk hlt (W.frame _ _ _ hst' λb hbf o e=>(Qt _ _ (λh:S=b=>hSf (by rw[h];exact hbf))).trans e) (by simp only[argBest,hb,if_true];exact hP) (Qh _ hS' U) λv' h'' tk'' hP' hk''=>?_⟩;exact hR v' h'' tk'' hP' λb o hbw hbS e=>hk'' b o hbw hbS ((Qt _ _ (Ne.symm hbS)).trans (hk' b o hbw e))
  |false=>
   simp only[Qk,if_false];refine q9 (wpAny_letGo ?_);rw[nm];refine qe ⟨plainId_quiet F.plain_min_loop _,ih (j+1) _ vb c Yk hlt hst' (by simp only[argBest,hb,Qk,if_false];exact hPb) hS' λv' h'' tk'' hP' hk''=>?_⟩;exact hR v' h'' tk'' hP' λb o hbw hbS e=>hk'' b o hbw hbS (hk' b o hbw e)
theorem zj(W:Walks prog w A.in1 I fp wr n P St)(bt:Nat->Nat->Bool)(hcmp:CmpOf prog w A.in1 .Lt P bt)(S:Addr)(hSf:S∉fp)(d:Value){s:Shared}{c:Nat}(hst:St 0 s.heap)(hS:s.heap.get? S=some { cls:=.type "list",dict:=none,data:=.seq #[] c,slots:=#[] })
 (hR:∀v h' tk,(n=0/\v=d)\/(0<n/\P (argBest bt (n-1)) v)->(∀b o,b∉wr->b≠S->s.heap.get? b=some o->h'.get? b=some o)->R (.ok (.ret v)) { s with heap:=h',toks:=tk }):
 codeAny (model prog w) A (.builtin "min.loop" ⟨[.ref I,.none,.ref S],[("default",d)]⟩) R s:=by
 have hSw:S∉wr:=λh=>hSf (W.sub _ h);have nm:(toString "min"++toString ".loop":String)="min.loop":=Yd;refine codeAny_builtin F.entry_min_loop ?_;rw[Around.under_plainId F.plain_min_loop _];refine q9 (Qw hS U ?_);by_cases n0:n=0
 ·refine q9 (wpAny_tryCatch (W.done s _ _ (n0▸hst) λh' tk hk'=>?_));refine q9 (wpAny_rule (qe (hR d h' tk (.inl ⟨n0,U⟩) λb o hbw _ e=>hk' b o hbw e)))
 have hn:0<n:=Yk;refine q9 (wpAny_tryCatch (W.item 0 s _ _ hn hst λv h' tk hP hst' hk'=>?_));have hS':=hk' S _ hSw hS;show wpAny _ A.in1 (updateSeq S (λ_=>#[v,v]) >>= _) _ _ { s with heap:=h',toks:=tk };refine q9 ?_;refine wpAny_updateSeq hS' U ?_;rw[nm];refine qe ⟨plainId_quiet F.plain_min_loop _,zi W bt hcmp S hSf d _ 0 _ v _ U hn (W.frame _ _ _ hst' λb hbf o e=>(Qt _ _ (λh:S=b=>hSf (by rw[h];exact hbf))).trans e) hP (Qh _ hS' U) λv' h'' tk'' hP' hk''=>?_⟩;exact hR v' h'' tk'' (.inr ⟨hn,hP'⟩) λb o hbw hbS e=>hk'' b o hbw hbS ((Qt _ _ (Ne.symm hbS)).trans (hk' b o hbw e))
theorem B2(a d:Value):argsOk "min" ⟨[a],[("default",d)]⟩:=by unfold argsOk;kernel_rfl
theorem AN{E:Yo}{s:Shared}{x d:Value}{Q:Yo}
 (h:wpAny (model prog w) A.in1 (pyIter x) (λit s₂=>∃I fp wr n P St bt,it=.ref I/\Walks prog w A.in1 I fp wr n P St/\St 0 s₂.heap/\(∀b∈fp,b<s₂.heap.objs.size)/\CmpOf prog w A.in1 .Lt P bt /\
  ∀v h' tk,(n=0/\v=d)\/(0<n/\P (argBest bt (n-1)) v)->(∀b o,b∉wr->s₂.heap.get? b=some o->h'.get? b=some o)->Q v { s₂ with heap:=h',toks:=tk }) E s):
 wpAny (model prog w) A (call (.builtin "min") [x] [("default",d)]) Q E s:=by
 have nm:(toString "min"++toString ".loop":String)="min.loop":=Yd;refine tX F.kind_min F.plain_min F.entry_min (B2 _ _) ?_;show wpAny _ A.in1 (Builtin.Builtins.bindParams "min" ["key","default"] 0 ⟨[],[("default",d)]⟩ >>= _) _ _ s;refine q9 (wpAny_of_eq (show Builtin.Builtins.bindParams "min" ["key","default"] 0 ⟨[],[("default",d)]⟩=pure [none,some d]from rfl) ?_);refine q9 (qe ?_);refine q9 (wpAny_mono h (λit s₂ h₂=>?_) λ_ _ e=>e);obtain⟨I,fp,wr,n,P,St,bt,rfl,W,hst,hfp,hcmp,hQ⟩:=h₂;refine q9 (wpAny_newObj_type ?_);have hSf:s₂.heap.objs.size∉fp:=λhm=>Qc _ (hfp _ hm);rw[nm];refine qe ⟨plainId_quiet F.plain_min_loop _,zj W bt hcmp s₂.heap.objs.size hSf d (W.frame _ _ _ hst λb _ o e=>qb _ e) (qq _ U) λv h' tk hP hk=>?_⟩;exact hQ v h' tk hP λb o hbw e=>hk b o hbw (qH (qr e)) (qb _ e)
theorem zp(W:Walks prog w A.in1 I fp wr n P St)(bt:Nat->Nat->Bool)(hcmp:CmpOf prog w A.in1 .Gt P bt)(S:Addr)(hSf:S∉fp)(d:Value):
 ∀(k j:Nat)(s:Shared)(vb:Value)(c:Nat),n-(j+1)=k->j+1<=n->St (j+1) s.heap->P (argBest bt j) vb->s.heap.get? S=some { cls:=.type "list",dict:=none,data:=.seq #[vb,vb] c,slots:=#[] }->
 (∀v h' tk,P (argBest bt (n-1)) v->(∀b o,b∉wr->b≠S->s.heap.get? b=some o->h'.get? b=some o)->R (.ok (.ret v)) { s with heap:=h',toks:=tk })->
 codeAny (model prog w) A (.builtin "max.loop" ⟨[.ref I,.none,.ref S],[("default",d)]⟩) R s:=by
 have hSw:S∉wr:=λh=>hSf (W.sub _ h);have nm:(toString "max"++toString ".loop":String)="max.loop":=Yd;intro k
 induction k with
 |zero=>
  intro j s vb c hk hj hst hPb hS hR;have hin:j+1=n:=Yk;refine codeAny_builtin F.entry_max_loop ?_;rw[Around.under_plainId F.plain_max_loop _];refine q9 (Qw hS U ?_);refine q9 (wpAny_tryCatch (W.done s _ _ (hin▸hst) λh' tk hk'=>?_));have hS':=hk' S _ hSw hS;refine q9 ?_;refine wpAny_updateSeq hS' U (q9 (wpAny_letGo (qe (hR vb _ tk (by rw[<- hin];exact hPb) λb o hbw hbS e=>(Qt _ _ (Ne.symm hbS)).trans (hk' b o hbw e)))))
 |succ k ih=>
  intro j s vb c hk hj hst hPb hS hR;have hlt:j+1<n:=Yk;refine codeAny_builtin F.entry_max_loop ?_;rw[Around.under_plainId F.plain_max_loop _];refine q9 (Qw hS U ?_);refine q9 (wpAny_tryCatch (W.item (j+1) s _ _ hlt hst λv h' tk hP hst' hk'=>?_));have hS':=hk' S _ hSw hS;show wpAny _ A.in1 (tryCatch (holding [v,v] (richCompare .Gt v vb >>= _)) _ >>= _) _ _ _;refine q9 (wpAny_tryCatch (Qv (q9 (hcmp (j+1) (argBest bt j) v vb _ _ _ hP hPb ?_))));refine q9 (Qv (wpAny_truthy_bool (q9 (wpAny_letGo (qe ?_)))))
  cases hb:bt (j+1) (argBest bt j)with
  |true=>
   simp only[if_true];refine q9 ?_;refine wpAny_updateSeq hS' U (q9 (wpAny_letGo ?_));rw[nm];refine qe ⟨plainId_quiet F.plain_max_loop _,ih (j+1) _ v _ Yk hlt (W.frame _ _ _ hst' λb hbf o e=>(Qt _ _ (λh:S=b=>hSf (by rw[h];exact hbf))).trans e) (by simp only[argBest,hb,if_true];exact hP) (Qh _ hS' U) λv' h'' tk'' hP' hk''=>?_⟩;exact hR v' h'' tk'' hP' λb o hbw hbS e=>hk'' b o hbw hbS ((Qt _ _ (Ne.symm hbS)).trans (hk' b o hbw e))
  |false=>
   simp only[Qk,if_false];refine q9 (wpAny_letGo ?_);rw[nm];refine qe ⟨plainId_quiet F.plain_max_loop _,ih (j+1) _ vb c Yk hlt hst' (by simp only[argBest,hb,Qk,if_false];exact hPb) hS' λv' h'' tk'' hP' hk''=>?_⟩;exact hR v' h'' tk'' hP' λb o hbw hbS e=>hk'' b o hbw hbS (hk' b o hbw e)
theorem zq(W:Walks prog w A.in1 I fp wr n P St)(bt:Nat->Nat->Bool)(hcmp:CmpOf prog w A.in1 .Gt P bt)(S:Addr)(hSf:S∉fp)(d:Value){s:Shared}{c:Nat}(hst:St 0 s.heap)(hS:s.heap.get? S=some { cls:=.type "list",dict:=none,data:=.seq #[] c,slots:=#[] })
 (hR:∀v h' tk,(n=0/\v=d)\/(0<n/\P (argBest bt (n-1)) v)->(∀b o,b∉wr->b≠S->s.heap.get? b=some o->h'.get? b=some o)->R (.ok (.ret v)) { s with heap:=h',toks:=tk }):
 codeAny (model prog w) A (.builtin "max.loop" ⟨[.ref I,.none,.ref S],[("default",d)]⟩) R s:=by
 have hSw:S∉wr:=λh=>hSf (W.sub _ h);have nm:(toString "max"++toString ".loop":String)="max.loop":=Yd;refine codeAny_builtin F.entry_max_loop ?_;rw[Around.under_plainId F.plain_max_loop _];refine q9 (Qw hS U ?_);by_cases n0:n=0
 ·refine q9 (wpAny_tryCatch (W.done s _ _ (n0▸hst) λh' tk hk'=>?_));refine q9 (wpAny_rule (qe (hR d h' tk (.inl ⟨n0,U⟩) λb o hbw _ e=>hk' b o hbw e)))
 have hn:0<n:=Yk;refine q9 (wpAny_tryCatch (W.item 0 s _ _ hn hst λv h' tk hP hst' hk'=>?_));have hS':=hk' S _ hSw hS;show wpAny _ A.in1 (updateSeq S (λ_=>#[v,v]) >>= _) _ _ { s with heap:=h',toks:=tk };refine q9 ?_;refine wpAny_updateSeq hS' U ?_;rw[nm];refine qe ⟨plainId_quiet F.plain_max_loop _,zp W bt hcmp S hSf d _ 0 _ v _ U hn (W.frame _ _ _ hst' λb hbf o e=>(Qt _ _ (λh:S=b=>hSf (by rw[h];exact hbf))).trans e) hP (Qh _ hS' U) λv' h'' tk'' hP' hk''=>?_⟩;exact hR v' h'' tk'' (.inr ⟨hn,hP'⟩) λb o hbw hbS e=>hk'' b o hbw hbS ((Qt _ _ (Ne.symm hbS)).trans (hk' b o hbw e))
theorem B7(a d:Value):argsOk "max" ⟨[a],[("default",d)]⟩:=by unfold argsOk;kernel_rfl
theorem AR{E:Yo}{s:Shared}{x d:Value}{Q:Yo}
 (h:wpAny (model prog w) A.in1 (pyIter x) (λit s₂=>∃I fp wr n P St bt,it=.ref I/\Walks prog w A.in1 I fp wr n P St/\St 0 s₂.heap/\(∀b∈fp,b<s₂.heap.objs.size)/\CmpOf prog w A.in1 .Gt P bt /\
  ∀v h' tk,(n=0/\v=d)\/(0<n/\P (argBest bt (n-1)) v)->(∀b o,b∉wr->s₂.heap.get? b=some o->h'.get? b=some o)->Q v { s₂ with heap:=h',toks:=tk }) E s):
 wpAny (model prog w) A (call (.builtin "max") [x] [("default",d)]) Q E s:=by
 have nm:(toString "max"++toString ".loop":String)="max.loop":=Yd;refine tX F.kind_max F.plain_max F.entry_max (B7 _ _) ?_;show wpAny _ A.in1 (Builtin.Builtins.bindParams "max" ["key","default"] 0 ⟨[],[("default",d)]⟩ >>= _) _ _ s;refine q9 (wpAny_of_eq (show Builtin.Builtins.bindParams "max" ["key","default"] 0 ⟨[],[("default",d)]⟩=pure [none,some d]from rfl) ?_);refine q9 (qe ?_);refine q9 (wpAny_mono h (λit s₂ h₂=>?_) λ_ _ e=>e);obtain⟨I,fp,wr,n,P,St,bt,rfl,W,hst,hfp,hcmp,hQ⟩:=h₂;refine q9 (wpAny_newObj_type ?_);have hSf:s₂.heap.objs.size∉fp:=λhm=>Qc _ (hfp _ hm);rw[nm];refine qe ⟨plainId_quiet F.plain_max_loop _,zq W bt hcmp s₂.heap.objs.size hSf d (W.frame _ _ _ hst λb _ o e=>qb _ e) (qq _ U) λv h' tk hP hk=>?_⟩;exact hQ v h' tk hP λb o hbw e=>hk b o hbw (qH (qr e)) (qb _ e)
end
section
variable {X:Cx}
def pU(K:W.Frag)(op:Int->Int->Prop):R2:=λx y H Q=>∃(l:Addr)(ns:List Int)(d:Int),x=.ref l/\y=.int d/\SqL K H l (ns.map V.int)/\∀m,(ns=[]->m=d)->(ns≠[]->m∈ns/\∀k∈ns,op m k)->Q (.int m) H
theorem u7(f:Nat->Int):∀k,argBest (λi j=>decide (f i > f j)) k<=k/\∀i,i<=k->f i<=f (argBest (λi j=>decide (f i > f j)) k)
 |0=>⟨qf _,λi h=>by rw[Nat.le_zero.mp h];exact Int.le_refl _⟩
 |k+1=>by
  obtain⟨a,b⟩:=u7 f k;unfold argBest;by_cases c:f (k+1) > f (argBest (λi j=>decide (f i > f j)) k)
  ·rw[Q1 (Q3 c)];refine⟨qf _,λi hi=>?_⟩;by_cases e:i=k+1
   ·rw[e];exact Int.le_refl _
   ·have:=b i Yk;omega
  ·rw[Q0 (by rw[Q4 c];exact qj)];refine⟨Yk,λi hi=>?_⟩;by_cases e:i=k+1
   ·rw[e];omega
   ·exact b i Yk
theorem sM{ns:List Int}{its:List Value}(r:ax (ns.map V.int) its):its.length=ns.length/\∀(i:Nat)(v:Value),its[i]?=some v->∃t,v=.int (ns.getD i 0) t:=by
 refine⟨by rw[<- r.length,qa],λi v hv=>?_⟩
 have il:i<ns.length:=by
  have:=(qg.mp hv).1;rw[<- r.length,qa]at this;exact this
 obtain⟨u,hu,ru⟩:=r.get (i:=i) (x:=.int ns[i]) (by rw[qF,qd il];rfl);rw[hv]at hu;cases hu;rw[qk,qd il];exact ru
theorem xh{a ek:Expr}{ta te:TE}{p pos kp:Pos}(hc:X.calm=true)(hg:Gl X "min")(hm:X.mg "min"=none)(ha:PE X a ta)(he:PE X ek te)(hs:starEach [a] X.env=[(false,eval a X.env)]:=by rfl):
 PE X (.Call (.Name "min" p) [a] [⟨some "default",ek,kp⟩] pos) (tOp (pU X.K λm k=>m<=k) ta te):=by
 intro pins s σ H Q I h;rw[show eval (.Call (.Name "min" p) [a] [⟨some "default",ek,kp⟩] pos) X.env=(do callWith pos (<- eval (.Name "min" p) X.env) [] (backTo pos (starEach [a] X.env)) (backToKw pos (keywordEach [⟨some "default",ek,kp⟩] X.env)))from rfl];refine q9 (dD I hg hm PyProof.Rows.Boot.«min» (callWith_kw ?_ (by rw[hs];rfl) (by rw[hs];rfl)));rw[hs];show wpAny _ _ (spliced ((false,eval a X.env)::backTo pos [])) _ _ s;refine Calls.spliced_cons (thn (ha pins s σ H _ I h) λu s1 ⟨x,H1,I1,r1,q1⟩=>?_);refine Calls.spliced_nil (kws_cons (thn (he pins s1 σ H1 _ I1 q1) λu2 s2 ⟨y,H2,I2,r2,q2⟩=>kws_nil ?_));obtain⟨l,ns,d,rfl,rfl,hq,q⟩:=q2;cases r1;obtain⟨t2,rfl⟩:=r2;obtain⟨its,rv,pl,z1⟩:=I2.list hq;obtain⟨il,iv⟩:=sM rv;have hl:=pl.isList;have hlt:l<s2.heap.objs.size:=by obtain⟨_,e,_⟩:=hl;exact qr e
 have key:∀(i:Nat)(v:Value),its.toArray[i]?=some v->∃t,v=Value.int (ns.getD i 0) t:=λi v hv=>iv i v (by simpa using hv);refine AN (wpAny_pyIter_list hl ⟨_,_,_,_,_,_,_,U,Walks.list (A:=X.A.in1) (I2.ok.hd hc) s2.heap.objs.size l (qH hlt) its.toArray,⟨⟨_,qq _ U,U,U⟩,hl.push _⟩,λb hb=>?_,CmpOf.ints_lt (λi=>ns.getD i 0) key,λv h' tk hP hk=>?_⟩)
 ·show b<(s2.heap.push _).objs.size;rw[Qg];simp only[qv,qR,or_false]at hb;rcases hb with rfl|rfl
  ·exact Qb _
  ·exact Qq hlt
 have hsz:its.toArray.size=ns.length:=by rw[qD];exact il
 have kept:Inv X pins σ H2 { s2 with heap:=h',toks:=tk }:=I2.kept (t':=tk) (h':=h') λb o e=>hk b o (λz=>by
  rw[qT.mp z]at e
  exact Q5 (qr e) (Qc _)) (qb _ e)
 rcases hP with⟨n0,rfl⟩|⟨n0,hP⟩
 ·exact⟨.int d,H2,kept,⟨t2,U⟩,q d (λ_=>U) λne=>Q5 (List.length_eq_zero_iff.mp (by rw[<- hsz];exact n0)) ne⟩
 ·obtain⟨t,rfl⟩:=key _ v hP;obtain⟨b1,b2⟩:=mJ (λi=>ns.getD i 0) (its.toArray.size-1);have bl:argBest (λi j=>decide (ns.getD i 0<ns.getD j 0)) (its.toArray.size-1)<ns.length:=Yk;refine⟨.int (ns.getD (argBest (λi j=>decide (ns.getD i 0<ns.getD j 0)) (its.toArray.size-1)) 0),H2,kept,⟨t,U⟩,q _ (λe=>by rw[e]at bl;exact Q5 bl (Qy _)) λ_=>⟨?_,λk hk=>?_⟩⟩
  ·rw[qk,qd bl];exact List.getElem_mem bl
  ·obtain⟨i,hi⟩:=List.mem_iff_getElem?.mp hk;have il:=(qg.mp hi).1;have:=b2 i Yk;rw[qk (l:=ns) (i:=i),hi]at this;exact this
theorem xi{a ek:Expr}{ta te:TE}{p pos kp:Pos}(hc:X.calm=true)(hg:Gl X "max")(hm:X.mg "max"=none)(ha:PE X a ta)(he:PE X ek te)(hs:starEach [a] X.env=[(false,eval a X.env)]:=by rfl):
 PE X (.Call (.Name "max" p) [a] [⟨some "default",ek,kp⟩] pos) (tOp (pU X.K λm k=>k<=m) ta te):=by
 intro pins s σ H Q I h;rw[show eval (.Call (.Name "max" p) [a] [⟨some "default",ek,kp⟩] pos) X.env=(do callWith pos (<- eval (.Name "max" p) X.env) [] (backTo pos (starEach [a] X.env)) (backToKw pos (keywordEach [⟨some "default",ek,kp⟩] X.env)))from rfl];refine q9 (dD I hg hm PyProof.Rows.Boot.«max» (callWith_kw ?_ (by rw[hs];rfl) (by rw[hs];rfl)));rw[hs];show wpAny _ _ (spliced ((false,eval a X.env)::backTo pos [])) _ _ s;refine Calls.spliced_cons (thn (ha pins s σ H _ I h) λu s1 ⟨x,H1,I1,r1,q1⟩=>?_);refine Calls.spliced_nil (kws_cons (thn (he pins s1 σ H1 _ I1 q1) λu2 s2 ⟨y,H2,I2,r2,q2⟩=>kws_nil ?_));obtain⟨l,ns,d,rfl,rfl,hq,q⟩:=q2;cases r1;obtain⟨t2,rfl⟩:=r2;obtain⟨its,rv,pl,z1⟩:=I2.list hq;obtain⟨il,iv⟩:=sM rv;have hl:=pl.isList;have hlt:l<s2.heap.objs.size:=by obtain⟨_,e,_⟩:=hl;exact qr e
 have key:∀(i:Nat)(v:Value),its.toArray[i]?=some v->∃t,v=Value.int (ns.getD i 0) t:=λi v hv=>iv i v (by simpa using hv);refine AR (wpAny_pyIter_list hl ⟨_,_,_,_,_,_,_,U,Walks.list (A:=X.A.in1) (I2.ok.hd hc) s2.heap.objs.size l (qH hlt) its.toArray,⟨⟨_,qq _ U,U,U⟩,hl.push _⟩,λb hb=>?_,CmpOf.ints_gt (λi=>ns.getD i 0) key,λv h' tk hP hk=>?_⟩)
 ·show b<(s2.heap.push _).objs.size;rw[Qg];simp only[qv,qR,or_false]at hb;rcases hb with rfl|rfl
  ·exact Qb _
  ·exact Qq hlt
 have hsz:its.toArray.size=ns.length:=by rw[qD];exact il
 have kept:Inv X pins σ H2 { s2 with heap:=h',toks:=tk }:=I2.kept (t':=tk) (h':=h') λb o e=>hk b o (λz=>by
  rw[qT.mp z]at e
  exact Q5 (qr e) (Qc _)) (qb _ e)
 rcases hP with⟨n0,rfl⟩|⟨n0,hP⟩
 ·exact⟨.int d,H2,kept,⟨t2,U⟩,q d (λ_=>U) λne=>Q5 (List.length_eq_zero_iff.mp (by rw[<- hsz];exact n0)) ne⟩
 ·obtain⟨t,rfl⟩:=key _ v hP;obtain⟨b1,b2⟩:=u7 (λi=>ns.getD i 0) (its.toArray.size-1);have bl:argBest (λi j=>decide (ns.getD i 0 > ns.getD j 0)) (its.toArray.size-1)<ns.length:=Yk;refine⟨.int (ns.getD (argBest (λi j=>decide (ns.getD i 0 > ns.getD j 0)) (its.toArray.size-1)) 0),H2,kept,⟨t,U⟩,q _ (λe=>by rw[e]at bl;exact Q5 bl (Qy _)) λ_=>⟨?_,λk hk=>?_⟩⟩
  ·rw[qk,qd bl];exact List.getElem_mem bl
  ·obtain⟨i,hi⟩:=List.mem_iff_getElem?.mp hk;have il:=(qg.mp hi).1;have:=b2 i Yk;rw[qk (l:=ns) (i:=i),hi]at this;exact this
end
end L2
set_option Elab.async false
set_option maxRecDepth 100000
set_option maxHeartbeats 4000000
namespace K46
open PySem L2 Tr
seal PE PT PW PA PS PSs PG PGs PI PTs PO OpR UnR cr TruR IxR SlR
local macro_rules|`(tactic| walk_at "rds")=>`(tactic| first|assumption|decide|omega)
local macro_rules|`(tactic| walk_at "rd")=>`(tactic| repeat (first|refine⟨_,rfl,?_⟩|refine⟨_,_,rfl,rfl,?_⟩|refine⟨rfl,_,rfl,?_⟩|refine⟨_,_,rfl,rfl,by walk_at "rds",?_⟩|refine And.intro (by walk_at "rds") ?_))
local macro_rules|`(tactic| walk_at "yes")=>`(tactic| refine bo (by decide +kernel) ?_)
local macro_rules|`(tactic| walk_at "no")=>`(tactic| refine aL (by decide +kernel) ?_)
abbrev kD:Stmt:=inClass (top 1) 0
abbrev kz:Stmt:=inClass (top 1) 1
abbrev kC:Stmt:=inClass (top 1) 2
abbrev kB:Stmt:=inClass (top 1) 3
abbrev ku:Stmt:=inClass (top 1) 4
abbrev kA:Stmt:=inClass (top 1) 5
abbrev jR:Stmt:=top 4
abbrev jN:Stmt:=top 5
abbrev gY:Stmt:=inClass (top 7) 0
abbrev kj:Stmt:=inClass (top 7) 1
abbrev ki:Stmt:=inClass (top 7) 2
abbrev ko:Stmt:=inClass (top 7) 3
abbrev kn:Stmt:=inClass (top 7) 4
abbrev kh:Stmt:=inClass (top 7) 5
abbrev iN:Stmt:=inClass (top 7) 6
abbrev kK:Stmt:=inClass (top 8) 0
abbrev kJ:Stmt:=inClass (top 8) 1
abbrev kI:Stmt:=inClass (top 9) 0
abbrev iO:Stmt:=inClass (top 9) 1
abbrev kr:Stmt:=inClass (top 10) 0
abbrev kq:Stmt:=inClass (top 10) 1
abbrev kP:Stmt:=inClass (top 11) 0
abbrev kO:Stmt:=inClass (top 11) 1
abbrev kN:Stmt:=inClass (top 12) 0
abbrev kL:Stmt:=inClass (top 12) 1
abbrev kM:Stmt:=inClass (top 12) 2
abbrev jQ:Stmt:=top 13
abbrev jP:Stmt:=top 14
abbrev eP:Stmt:=inClass (top 16) 0
abbrev kE:Stmt:=inClass (top 16) 1
abbrev kG:Stmt:=inClass (top 16) 2
abbrev gj:Stmt:=inClass (top 16) 3
abbrev kH:Stmt:=inClass (top 16) 4
abbrev kF:Stmt:=inClass (top 16) 5
abbrev jO:Stmt:=top 17
abbrev kg:Stmt:=top 19
abbrev k9:Stmt:=top 20
abbrev k7:Stmt:=top 21
abbrev jU:Stmt:=top 22
abbrev jT:Stmt:=top 23
abbrev iK:Stmt:=top 24
abbrev jY:Stmt:=top 25
abbrev jV:Stmt:=top 26
abbrev iI:Stmt:=top 27
abbrev fw:Stmt:=top 28
abbrev iG:Stmt:=top 29
abbrev iJ:Stmt:=top 30
abbrev k6:Stmt:=top 31
abbrev fA:Stmt:=top 32
abbrev jS:Stmt:=top 33
abbrev jX:Stmt:=top 34
abbrev jZ:Stmt:=top 35
abbrev kf:Stmt:=top 36
abbrev gW:Stmt:=top 37
abbrev jW:Stmt:=top 38
abbrev ke:Stmt:=top 39
abbrev kc:Stmt:=top 40
abbrev iH:Stmt:=top 41
abbrev iL:Stmt:=top 42
abbrev ka:Stmt:=top 43
abbrev iM:Stmt:=top 44
abbrev gX:Stmt:=top 45
abbrev fj:Stmt:=top 46
theorem vS:aJ ["self","things"] ["self","things"] (am kD):=⟨U,U,U,Qz,U,Qz,Qz⟩
theorem vO:aJ ["self"] ["self"] (am kz):=⟨U,U,U,Qz,U,Qz,Qz⟩
theorem vR:aJ ["self"] ["self"] (am kC):=⟨U,U,U,Qz,U,Qz,Qz⟩
theorem vQ:aJ ["self","thing"] ["self","thing"] (am kB):=⟨U,U,U,Qz,U,Qz,Qz⟩
theorem pL:aJ ["self","thing"] ["self"] (am ku):=⟨U,U,U,Qz,U,Qz,Qz⟩
theorem vP:aJ ["self"] ["self"] (am kA):=⟨U,U,U,Qz,U,Qz,Qz⟩
theorem vy:aJ ["sign","a","b"] ["sign","a","b"] (am jR):=⟨U,U,U,Qz,U,Qz,Qz⟩
theorem vv:aJ ["sign","a","b"] ["sign","a","b"] (am jN):=⟨U,U,U,Qz,U,Qz,Qz⟩
theorem vM:aJ ["self","lines"] ["self","lines"] (am gY):=⟨U,U,U,Qz,U,Qz,Qz⟩
theorem vJ:aJ ["self","line"] ["self","line"] (am kj):=⟨U,U,U,Qz,U,Qz,Qz⟩
theorem pK:aJ ["self","line","length"] ["self","line"] (am ki):=⟨U,U,U,Qz,U,Qz,Qz⟩
theorem vL:aJ ["self","line"] ["self","line"] (am ko):=⟨U,U,U,Qz,U,Qz,Qz⟩
theorem vK:aJ ["self","line","thing"] ["self","line","thing"] (am kn):=⟨U,U,U,Qz,U,Qz,Qz⟩
theorem vH:aJ ["self","line"] ["self","line"] (am kh):=⟨U,U,U,Qz,U,Qz,Qz⟩
theorem vI:aJ ["self"] ["self"] (am iN):=⟨U,U,U,Qz,U,Qz,Qz⟩
theorem vY:aJ ["self","ins"] ["self","ins"] (am kK):=⟨U,U,U,Qz,U,Qz,Qz⟩
theorem vX:aJ ["self","yard"] ["self","yard"] (am kJ):=⟨U,U,U,Qz,U,Qz,Qz⟩
theorem vW:aJ ["self","ins","outs","route"] ["self","ins","outs","route"] (am kI):=⟨U,U,U,Qz,U,Qz,Qz⟩
theorem vV:aJ ["self","things"] ["self","things"] (am iO):=⟨U,U,U,Qz,U,Qz,Qz⟩
theorem vN:aJ ["self","ins","out","sign","sides"] ["self","ins","out","sign","sides"] (am kr):=⟨U,U,U,Qz,U,Qz,Qz⟩
theorem jM:aJ ["self","things","left","right"] ["self","things"] (am kq):=⟨U,U,U,Qz,U,Qz,Qz⟩
theorem w6:aJ ["self","ins","which","ones","noughts","told"] ["self","ins","which","ones","noughts","told"] (am kP):=⟨U,U,U,Qz,U,Qz,Qz⟩
theorem w5:aJ ["self","things"] ["self","things"] (am kO):=⟨U,U,U,Qz,U,Qz,Qz⟩
theorem w4:aJ ["self","told","ones","noughts","outs"] ["self","told","ones","noughts","outs"] (am kN):=⟨U,U,U,Qz,U,Qz,Qz⟩
theorem pN:aJ ["self","yard","thing"] ["self","yard"] (am kL):=⟨U,U,U,Qz,U,Qz,Qz⟩
theorem vZ:aJ ["self","things"] ["self","things"] (am kM):=⟨U,U,U,Qz,U,Qz,Qz⟩
theorem vx:aJ ["side","things"] ["side","things"] (am jQ):=⟨U,U,U,Qz,U,Qz,Qz⟩
theorem pB:aJ ["row","kind"] ["row"] (am jP):=⟨U,U,U,Qz,U,Qz,Qz⟩
theorem vU:aJ ["self","lines","parts","pace","most"] ["self","lines","parts","pace","most"] (am eP):=⟨U,U,U,Qz,U,Qz,Qz⟩
theorem gT:aJ ["self","now","part","takers"] ["self"] (am kE):=⟨U,U,U,Qz,U,Qz,Qz⟩
theorem gg:aJ ["self","now","part","things","line","thing"] ["self","now","part"] (am kG):=⟨U,U,U,Qz,U,Qz,Qz⟩
theorem gU:aJ ["self","now","part","wanted","line","things"] ["self","now","part"] (am gj):=⟨U,U,U,Qz,U,Qz,Qz⟩
theorem vT:aJ ["self","turn","parts"] ["self","turn","parts"] (am kH):=⟨U,U,U,Qz,U,Qz,Qz⟩
theorem pM:aJ ["self","part","row"] ["self","part"] (am kF):=⟨U,U,U,Qz,U,Qz,Qz⟩
theorem jG:aJ ["lines","parts","pace","most","playing","still"] ["lines","parts","pace","most"] (am jO):=⟨U,U,U,Qz,U,Qz,Qz⟩
theorem vG:aJ ["_law_script","_law_k"] ["_law_script","_law_k"] (am kg):=⟨U,U,U,Qz,U,Qz,Qz⟩
theorem pF:aJ ["_law_cell_here","_law_k","_law_m"] ["_law_cell_here","_law_k"] (am k9):=⟨U,U,U,Qz,U,Qz,Qz⟩
theorem pE:aJ ["_law_cell_here","_law_way","_law_c"] ["_law_cell_here","_law_way"] (am k7):=⟨U,U,U,Qz,U,Qz,Qz⟩
theorem vC:aJ ["_law_sign_here","_law_a","_law_b"] ["_law_sign_here","_law_a","_law_b"] (am jU):=⟨U,U,U,Qz,U,Qz,Qz⟩
theorem vB:aJ ["_law_cell_here","_law_way"] ["_law_cell_here","_law_way"] (am jT):=⟨U,U,U,Qz,U,Qz,Qz⟩
theorem gR:aJ ["_law_cell_here","_law_k","_law_m","_law_length","_law_many"] ["_law_cell_here","_law_k"] (am iK):=⟨U,U,U,Qz,U,Qz,Qz⟩
theorem jI:aJ ["_law_pool","_law_other","_law_lines","_law_many","_law_way","_law_out","_law_k"] ["_law_pool","_law_other","_law_lines","_law_many","_law_way"] (am jY):=⟨U,U,U,Qz,U,Qz,Qz⟩
theorem vD:aJ ["_law_way","_law_width","_law_cell_here"] ["_law_way","_law_width","_law_cell_here"] (am jV):=⟨U,U,U,Qz,U,Qz,Qz⟩
theorem d7:aJ ["_law_cell_here","_law_k","_law_takers","_law_givers","_law_lines","_law_m","_law_n","_law_w","_law_ins","_law_outs","_law_out","_law_left","_law_at"] ["_law_cell_here","_law_k","_law_takers","_law_givers","_law_lines"] (am iI):=⟨U,U,U,Qz,U,Qz,Qz⟩
theorem eO:aJ ["_law_script","_law_cells","_law_many","_law_takers","_law_givers","_law_parts","_law_seeds","_law_lines"] ["_law_script"] (am fw):=⟨U,U,U,Qz,U,Qz,Qz⟩
theorem pC:aJ ["_law_cell_here","_law_k","_law_m"] ["_law_cell_here","_law_k"] (am iG):=⟨U,U,U,Qz,U,Qz,Qz⟩
theorem vE:aJ ["_law_script","_law_way"] ["_law_script","_law_way"] (am iJ):=⟨U,U,U,Qz,U,Qz,Qz⟩
theorem vF:aJ ["_law_side_here","_law_things"] ["_law_side_here","_law_things"] (am k6):=⟨U,U,U,Qz,U,Qz,Qz⟩
theorem pG:aJ ["_law_row","_law_things","_law_a"] ["_law_row","_law_things"] (am fA):=⟨U,U,U,Qz,U,Qz,Qz⟩
theorem vA:aJ ["_law_row","_law_rows"] ["_law_row","_law_rows"] (am jS):=⟨U,U,U,Qz,U,Qz,Qz⟩
theorem pD:aJ ["_law_pace_here","_law_place","_law_many","_law_row"] ["_law_pace_here","_law_place","_law_many"] (am jX):=⟨U,U,U,Qz,U,Qz,Qz⟩
theorem jJ:aJ ["_law_things","_law_many","_law_pair","_law_x"] ["_law_things","_law_many"] (am jZ):=⟨U,U,U,Qz,U,Qz,Qz⟩
theorem pI:aJ ["_law_entry","_law_lines","_law_parts","_law_x"] ["_law_entry","_law_lines","_law_parts"] (am kf):=⟨U,U,U,Qz,U,Qz,Qz⟩
theorem iE:aJ ["_law_entry","_law_lines","_law_parts","_law_pace_here","_law_rows","_law_posts","_law_post","_law_at","_law_pair"] ["_law_entry","_law_lines","_law_parts","_law_pace_here","_law_rows","_law_posts"] (am gW):=⟨U,U,U,Qz,U,Qz,Qz⟩
theorem jH:aJ ["_law_lines","_law_rows","_law_things","_law_pair","_law_length"] ["_law_lines","_law_rows","_law_things"] (am jW):=⟨U,U,U,Qz,U,Qz,Qz⟩
theorem jL:aJ ["_law_entry","_law_lines","_law_rows","_law_posts","_law_post","_law_pair"] ["_law_entry","_law_lines","_law_rows","_law_posts"] (am ke):=⟨U,U,U,Qz,U,Qz,Qz⟩
theorem pH:aJ ["_law_turn","_law_lines","_law_rows","_law_posts","_law_post"] ["_law_turn","_law_lines","_law_rows","_law_posts"] (am kc):=⟨U,U,U,Qz,U,Qz,Qz⟩
theorem iF:aJ ["_law_parts","_law_rows","_law_posts","_law_out","_law_k","_law_lacking"] ["_law_parts","_law_rows","_law_posts"] (am iH):=⟨U,U,U,Qz,U,Qz,Qz⟩
theorem gS:aJ ["_law_group_here","_law_lines","_law_parts","_law_pace_here","_law_rows","_law_posts","_law_turn","_law_gave","_law_entry"] ["_law_group_here","_law_lines","_law_parts","_law_pace_here","_law_rows","_law_posts"] (am iL):=⟨U,U,U,Qz,U,Qz,Qz⟩
theorem jK:aJ ["_law_log","_law_groups_here","_law_entry"] ["_law_log"] (am ka):=⟨U,U,U,Qz,U,Qz,Qz⟩
theorem pJ:aJ ["_law_group_here","_law_parts","_law_rows","_law_posts","_law_took"] ["_law_group_here","_law_parts","_law_rows","_law_posts"] (am iM):=⟨U,U,U,Qz,U,Qz,Qz⟩
theorem ee:aJ ["_law_found","_law_lines","_law_parts","_law_pace_here","_law_rows","_law_posts","_law_groups_here","_law_last","_law_k","_law_group_here","_law_turn"] ["_law_found","_law_lines","_law_parts","_law_pace_here"] (am gX):=⟨U,U,U,Qz,U,Qz,Qz⟩
theorem fh:aJ ["_law_script","_law_lines","_law_parts","_law_m","_law_pace_here","_law_found","_law_entry"] ["_law_script"] (am fj):=⟨U,U,U,Qz,U,Qz,Qz⟩
set_option genInjectivity false in
structure Adr where
 BZ:Addr
 C1:FuncData
 C2:Addr
 C3:FuncData
 C4:Addr
 C5:FuncData
 C6:Addr
 C7:FuncData
 C8:Addr
 C9:FuncData
 Ca:Addr
 Cb:FuncData
 done:Addr
 Cc:FuncData
 Cd:Addr
 Ce:FuncData
 Cf:Addr
 Cg:FuncData
 Ch:Addr
 Ci:FuncData
 Cj:Addr
 Ck:FuncData
 Cl:Addr
 Cm:FuncData
 Cn:Addr
 Co:FuncData
 Cp:Addr
 Cq:FuncData
 Cr:Addr
 Cs:FuncData
 BK:Addr
 Ct:FuncData
 Bx:Addr
 Cu:FuncData
 Cv:Addr
 Cw:FuncData
 Cy:Addr
 Cz:FuncData
 CA:Addr
 CB:FuncData
 CC:Addr
 CD:FuncData
 CF:Addr
 CG:FuncData
 CH:Addr
 CI:FuncData
 CJ:Addr
 CK:FuncData
 CL:Addr
 CM:FuncData
 CN:Addr
 CO:FuncData
 CP:Addr
 CQ:FuncData
 CS:Addr
 CT:FuncData
 CU:Addr
 CV:FuncData
 CW:Addr
 CY:FuncData
 CZ:Addr
 D0:FuncData
 BD:Addr
 D3:FuncData
 D4:Addr
 D5:FuncData
 D6:Addr
 D7:FuncData
 D8:Addr
 BE:FuncData
 Da:Tok
 Dc:Addr
 Dd:FuncData
 De:Addr
 Df:FuncData
 Dg:Addr
 Dh:FuncData
 Di:Addr
 Dj:FuncData
 Dk:Addr
 Dl:FuncData
 Dm:Addr
 Dn:FuncData
 Do:Addr
 Dp:FuncData
 Dr:Addr
 Ds:FuncData
 Du:Addr
 Dv:FuncData
 Dw:Addr
 Dx:FuncData
 Dy:Addr
 Dz:FuncData
 DA:Addr
 DB:FuncData
 DC:Addr
 DD:FuncData
 DE:Addr
 DF:FuncData
 DG:Addr
 DH:FuncData
 DI:Addr
 DJ:FuncData
 DK:Addr
 DL:FuncData
 DM:Addr
 DN:FuncData
 DO:Addr
 DP:FuncData
 DQ:Addr
 DR:FuncData
 DS:Addr
 DT:FuncData
 DU:Addr
 DV:FuncData
 DW:Addr
 DX:FuncData
 DY:Addr
 DZ:FuncData
 E1:Addr
 E2:FuncData
 E3:Addr
 E4:FuncData
 E5:Addr
 E6:FuncData
 E7:Addr
 E8:FuncData
 Ep:Tok
 or:Addr
 r9:Addr
 By:Addr
 wS:Addr
 wP:Addr
 u8:Addr
 wp:Addr
 gt:Addr
structure Tx(P:Program)(w:World)(K:W.Frag)(mg:Str->Option Value)(a:Adr):Prop where
 FA:Fun K "__init__" "Queue.__init__" kD a.BZ a.C1
 FB:aC K a.C1 ["self","things"] []
 FC:Fun K "standing" "Queue.standing" kz a.C2 a.C3
 Er:aC K a.C3 ["self"] []
 FD:Fun K "head" "Queue.head" kC a.C4 a.C5
 FE:aC K a.C5 ["self"] []
 FF:Fun K "lay" "Queue.lay" kB a.C6 a.C7
 FG:aC K a.C7 ["self","thing"] []
 FH:Fun K "take" "Queue.take" ku a.C8 a.C9
 FI:aC K a.C9 ["self"] []
 FJ:Fun K "rest" "Queue.rest" kA a.Ca a.Cb
 FK:aC K a.Cb ["self"] []
 Es:Fun K "done" "done" jR a.done a.Cc
 FL:aC K a.Cc ["sign","a","b"] []
 FM:mg "done"=some (.ref a.done)
 Eu:Fun K "reckoned" "reckoned" jN a.Cd a.Ce
 FN:aC K a.Ce ["sign","a","b"] []
 FO:mg "reckoned"=some (.ref a.Cd)
 FP:Fun K "__init__" "Yard.__init__" gY a.Cf a.Cg
 FQ:aC K a.Cg ["self","lines"] []
 FR:Fun K "holds" "Yard.holds" kj a.Ch a.Ci
 Ev:aC K a.Ci ["self","line"] []
 FS:Fun K "room" "Yard.room" ki a.Cj a.Ck
 FT:aC K a.Ck ["self","line"] []
 FU:Fun K "first" "Yard.first" ko a.Cl a.Cm
 FV:aC K a.Cm ["self","line"] []
 FW:Fun K "hand" "Yard.hand" kn a.Cn a.Co
 FX:aC K a.Co ["self","line","thing"] []
 FY:Fun K "taken" "Yard.taken" kh a.Cp a.Cq
 FZ:aC K a.Cq ["self","line"] []
 Ga:Fun K "stands" "Yard.stands" iN a.Cr a.Cs
 Gb:aC K a.Cs ["self"] []
 Gc:Fun K "__init__" "Part.__init__" kK a.BK a.Ct
 BL:aC K a.Ct ["self","ins"] []
 Ge:Fun K "wants" "Part.wants" kJ a.Bx a.Cu
 E9:aC K a.Cu ["self","yard"] []
 Gf:Fun K "__init__" "Pass.__init__" kI a.Cv a.Cw
 Gg:aC K a.Cw ["self","ins","outs","route"] []
 Gi:Fun K "made" "Pass.made" iO a.Cy a.Cz
 Gj:aC K a.Cz ["self","things"] []
 Gk:Fun K "__init__" "Work.__init__" kr a.CA a.CB
 Gm:aC K a.CB ["self","ins","out","sign","sides"] []
 Gn:Fun K "made" "Work.made" kq a.CC a.CD
 Go:aC K a.CD ["self","things"] []
 Gp:Fun K "__init__" "Choose.__init__" kP a.CF a.CG
 Gq:aC K a.CG ["self","ins","which","ones","noughts","told"] []
 Gr:Fun K "made" "Choose.made" kO a.CH a.CI
 Gu:aC K a.CI ["self","things"] []
 Gw:Fun K "__init__" "Merge.__init__" kN a.CJ a.CK
 Gx:aC K a.CK ["self","told","ones","noughts","outs"] []
 Gy:Fun K "wants" "Merge.wants" kL a.CL a.CM
 Gz:aC K a.CM ["self","yard"] []
 GA:Fun K "made" "Merge.made" kM a.CN a.CO
 GB:aC K a.CO ["self","things"] []
 Ea:Fun K "on_side" "on_side" jQ a.CP a.CQ
 Ew:aC K a.CQ ["side","things"] []
 Ex:mg "on_side"=some (.ref a.CP)
 Ey:Fun K "part_of" "part_of" jP a.CS a.CT
 GC:aC K a.CT ["row"] []
 GD:mg "part_of"=some (.ref a.CS)
 GE:Fun K "__init__" "Play.__init__" eP a.CU a.CV
 GF:aC K a.CV ["self","lines","parts","pace","most"] []
 GG:Fun K "to_its_end" "Play.to_its_end" kE a.CW a.CY
 GI:aC K a.CY ["self"] []
 GJ:Fun K "give" "Play.give" kG a.CZ a.D0
 GK:aC K a.D0 ["self","now","part"] []
 GL:Fun K "take" "Play.take" gj a.BD a.D3
 GM:aC K a.D3 ["self","now","part"] []
 GN:Fun K "await_turn" "Play.await_turn" kH a.D4 a.D5
 Ez:aC K a.D5 ["self","turn","parts"] []
 GO:Fun K "rest_of" "Play.rest_of" kF a.D6 a.D7
 GP:aC K a.D7 ["self","part"] []
 EA:fW K "play" "play" jO a.D8 a.BE #[.none,.int 5000 a.Da]
 IA:aC K a.BE ["lines","parts","pace","most"] [.int 5000 a.Da]
 IB:aC K a.BE ["lines","parts","pace","most"] [.none,.int 5000 a.Da]
 GQ:aC K a.BE ["lines","parts","pace","most"] []
 GS:mg "play"=some (.ref a.D8)
 BM:Fun K "_law_cell" "_law_cell" kg a.Dc a.Dd
 Eb:aC K a.Dd ["_law_script","_law_k"] []
 Ec:mg "_law_cell"=some (.ref a.Dc)
 Bu:Fun K "_law_mixed" "_law_mixed" k9 a.De a.Df
 Bz:aC K a.Df ["_law_cell_here","_law_k"] []
 BA:mg "_law_mixed"=some (.ref a.De)
 Ed:Fun K "_law_number" "_law_number" k7 a.Dg a.Dh
 EB:aC K a.Dh ["_law_cell_here","_law_way"] []
 EC:mg "_law_number"=some (.ref a.Dg)
 ED:Fun K "_law_sign" "_law_sign" jU a.Di a.Dj
 GU:aC K a.Dj ["_law_sign_here","_law_a","_law_b"] []
 GV:mg "_law_sign"=some (.ref a.Di)
 EE:Fun K "_law_thing" "_law_thing" jT a.Dk a.Dl
 GW:aC K a.Dl ["_law_cell_here","_law_way"] []
 GX:mg "_law_thing"=some (.ref a.Dk)
 EF:Fun K "_law_line" "_law_line" iK a.Dm a.Dn
 GY:aC K a.Dn ["_law_cell_here","_law_k"] []
 GZ:mg "_law_line"=some (.ref a.Dm)
 Bo:Fun K "_law_picked" "_law_picked" jY a.Do a.Dp
 Bq:aC K a.Dp ["_law_pool","_law_other","_law_lines","_law_many","_law_way"] []
 Br:mg "_law_picked"=some (.ref a.Do)
 Ee:Fun K "_law_side" "_law_side" jV a.Dr a.Ds
 EG:aC K a.Ds ["_law_way","_law_width","_law_cell_here"] []
 EH:mg "_law_side"=some (.ref a.Dr)
 EI:Fun K "_law_part" "_law_part" iI a.Du a.Dv
 Ha:aC K a.Dv ["_law_cell_here","_law_k","_law_takers","_law_givers","_law_lines"] []
 Hc:mg "_law_part"=some (.ref a.Du)
 EJ:Fun K "_law_net" "_law_net" fw a.Dw a.Dx
 Hd:aC K a.Dx ["_law_script"] []
 He:mg "_law_net"=some (.ref a.Dw)
 EK:Fun K "_law_rests" "_law_rests" iG a.Dy a.Dz
 Hg:aC K a.Dz ["_law_cell_here","_law_k"] []
 Hh:mg "_law_rests"=some (.ref a.Dy)
 EL:Fun K "_law_pace" "_law_pace" iJ a.DA a.DB
 Hi:aC K a.DB ["_law_script","_law_way"] []
 Hj:mg "_law_pace"=some (.ref a.DA)
 Ef:Fun K "_law_number_at" "_law_number_at" k6 a.DC a.DD
 EM:aC K a.DD ["_law_side_here","_law_things"] []
 EN:mg "_law_number_at"=some (.ref a.DC)
 EO:Fun K "_law_makes" "_law_makes" fA a.DE a.DF
 Hk:aC K a.DF ["_law_row","_law_things"] []
 Hl:mg "_law_makes"=some (.ref a.DE)
 Eg:Fun K "_law_wanted" "_law_wanted" jS a.DG a.DH
 EQ:aC K a.DH ["_law_row","_law_rows"] []
 ER:mg "_law_wanted"=some (.ref a.DG)
 ES:Fun K "_law_rest" "_law_rest" jX a.DI a.DJ
 Hm:aC K a.DJ ["_law_pace_here","_law_place","_law_many"] []
 Hn:mg "_law_rest"=some (.ref a.DI)
 ET:Fun K "_law_pairs" "_law_pairs" jZ a.DK a.DL
 Ho:aC K a.DL ["_law_things","_law_many"] []
 Hq:mg "_law_pairs"=some (.ref a.DK)
 EU:Fun K "_law_formed" "_law_formed" kf a.DM a.DN
 Hr:aC K a.DN ["_law_entry","_law_lines","_law_parts"] []
 Ht:mg "_law_formed"=some (.ref a.DM)
 EV:Fun K "_law_take" "_law_take" gW a.DO a.DP
 Hu:aC K a.DP ["_law_entry","_law_lines","_law_parts","_law_pace_here","_law_rows","_law_posts"] []
 Hv:mg "_law_take"=some (.ref a.DO)
 Eh:Fun K "_law_roomy" "_law_roomy" jW a.DQ a.DR
 EW:aC K a.DR ["_law_lines","_law_rows","_law_things"] []
 EX:mg "_law_roomy"=some (.ref a.DQ)
 EY:Fun K "_law_give" "_law_give" ke a.DS a.DT
 Hw:aC K a.DT ["_law_entry","_law_lines","_law_rows","_law_posts"] []
 Hx:mg "_law_give"=some (.ref a.DS)
 Ei:Fun K "_law_gladly" "_law_gladly" kc a.DU a.DV
 EZ:aC K a.DV ["_law_turn","_law_lines","_law_rows","_law_posts"] []
 Fa:mg "_law_gladly"=some (.ref a.DU)
 BF:Fun K "_law_ready" "_law_ready" iH a.DW a.DX
 BN:aC K a.DX ["_law_parts","_law_rows","_law_posts"] []
 BO:mg "_law_ready"=some (.ref a.DW)
 Fb:Fun K "_law_group" "_law_group" iL a.DY a.DZ
 Hy:aC K a.DZ ["_law_group_here","_law_lines","_law_parts","_law_pace_here","_law_rows","_law_posts"] []
 Hz:mg "_law_group"=some (.ref a.DY)
 Fc:Fun K "_law_groups" "_law_groups" ka a.E1 a.E2
 HA:aC K a.E2 ["_law_log"] []
 HB:mg "_law_groups"=some (.ref a.E1)
 Fd:Fun K "_law_ends" "_law_ends" iM a.E3 a.E4
 HC:aC K a.E4 ["_law_group_here","_law_parts","_law_rows","_law_posts"] []
 HD:mg "_law_ends"=some (.ref a.E3)
 Fe:Fun K "_law_nobody" "_law_nobody" gX a.E5 a.E6
 HE:aC K a.E6 ["_law_found","_law_lines","_law_parts","_law_pace_here"] []
 HF:mg "_law_nobody"=some (.ref a.E5)
 HG:Fun K "law" "law" fj a.E7 a.E8
 IC:aC K a.E8 ["_law_script"] []
 ID:mg "law"=some (.ref a.E7)
 Ff:mg "bool"=none
 Ej:mg "enumerate"=none
 Fg:mg "int"=none
 Bs:mg "isinstance"=none
 ld:mg "len"=none
 Bp:mg "list"=none
 HH:mg "max"=none
 Ek:mg "min"=none
 xz:mg "range"=none
 Fh:mg "sorted"=none
 HI:mg "str"=none
 BG:mg "tuple"=none
 BH:mg "zip"=none
 HJ:mg "WHEEL"=some (.int 1000000000000000000000000000000 a.Ep)
 HK:mg "Queue"=some (.ref a.or)
 wE:Cls K a.or
 HL:Mk K a.or a.BZ
 Fi:aS K a.or "standing" a.C2
 HM:aS K a.or "head" a.C4
 HN:aS K a.or "lay" a.C6
 HP:aS K a.or "take" a.C8
 HQ:aS K a.or "rest" a.Ca
 BB:bd K a.or "laid"
 Bv:bd K a.or "gone"
 HR:mg "Yard"=some (.ref a.r9)
 wT:Cls K a.r9
 HS:Mk K a.r9 a.Cf
 Fj:aS K a.r9 "holds" a.Ch
 HU:aS K a.r9 "room" a.Cj
 HV:aS K a.r9 "first" a.Cl
 HW:aS K a.r9 "hand" a.Cn
 HX:aS K a.r9 "taken" a.Cp
 HY:aS K a.r9 "stands" a.Cr
 Fk:bd K a.r9 "lengths"
 BC:bd K a.r9 "queues"
 BP:mg "Part"=some (.ref a.By)
 IE:Cls K a.By
 IF:Mk K a.By a.BK
 IG:aS K a.By "wants" a.Bx
 IH:bd K a.By "ins"
 HZ:mg "Pass"=some (.ref a.wS)
 Bt:Cls K a.wS
 Ia:Mk K a.wS a.Cv
 Ib:aS K a.wS "made" a.Cy
 Ic:aS K a.wS "wants" a.Bx
 Fl:bd K a.wS "ins"
 Fm:bd K a.wS "outs"
 Fn:bd K a.wS "route"
 Id:mg "Work"=some (.ref a.wP)
 Bn:Cls K a.wP
 Ie:Mk K a.wP a.CA
 Ig:aS K a.wP "made" a.CC
 Ih:aS K a.wP "wants" a.Bx
 Fo:bd K a.wP "ins"
 Fp:bd K a.wP "out"
 Fq:bd K a.wP "sign"
 El:bd K a.wP "sides"
 Ij:mg "Choose"=some (.ref a.u8)
 At:Cls K a.u8
 Ik:Mk K a.u8 a.CF
 Il:aS K a.u8 "made" a.CH
 Im:aS K a.u8 "wants" a.Bx
 Fr:bd K a.u8 "ins"
 Fs:bd K a.u8 "which"
 Ft:bd K a.u8 "ones"
 Fu:bd K a.u8 "noughts"
 Em:bd K a.u8 "told"
 Io:mg "Merge"=some (.ref a.wp)
 Bm:Cls K a.wp
 Ip:Mk K a.wp a.CJ
 Iq:aS K a.wp "wants" a.CL
 Ir:aS K a.wp "made" a.CN
 BQ:bd K a.wp "ins"
 Fv:bd K a.wp "ones"
 Fw:bd K a.wp "noughts"
 Fx:bd K a.wp "outs"
 Iu:mg "Play"=some (.ref a.gt)
 f8:Cls K a.gt
 Iv:Mk K a.gt a.CU
 Iw:aS K a.gt "to_its_end" a.CW
 Ix:aS K a.gt "give" a.CZ
 Iy:aS K a.gt "take" a.BD
 Fy:aS K a.gt "await_turn" a.D4
 Iz:aS K a.gt "rest_of" a.D6
 Bw:bd K a.gt "yard"
 En:bd K a.gt "doers"
 BR:bd K a.gt "pace"
 BS:bd K a.gt "spare"
 BU:bd K a.gt "log"
 Eo:bd K a.gt "held"
 BV:bd K a.gt "takings"
 BI:bd K a.gt "givers"
 BJ:bd K a.gt "takers"
 BW:bd K a.gt "without_room"
 BX:bd K a.gt "without_thing"
 BY:mW K a.By "__init__" a.BK
theorem Tx.r_WHEEL{P:Program}{w:World}{K:W.Frag}{mg:Str->Option Value}{a:Adr}(_:Tx P w K mg a):aG (.int 1000000000000000000000000000000) (.int 1000000000000000000000000000000 a.Ep):=⟨_,U⟩
def aE(o:List Nat):List V:=o.map λj:Nat=>V.int j
theorem p30:(10:Int) ^ (30:Int).toNat=1000000000000000000000000000000:=Qz
theorem p60:(10:Int) ^ (60:Int).toNat=1000000000000000000000000000000000000000000000000000000000000:=Qz
inductive nJ(vs:List V)(H:Hp)(Q:VK)(E:XK):Prop
 |mk (sg:Str) (a b:Int) (h0_:vs=[.str sg,.int a,.int b]) (h1_:OnW a) (h2_:OnW b) (h3_:Q (.int (iP sg a b)) H):nJ vs H Q E
inductive nQ(vs:List V)(H:Hp)(Q:VK)(E:XK):Prop
 |mk (sg:Str) (a b:Int) (h0_:vs=[.str sg,.int a,.int b]) (h1_:OnW a) (h2_:OnW b) (h3_:Q (.int (cP sg a b)) H):nQ vs H Q E
inductive nU(vs:List V)(H:Hp)(Q:VK)(E:XK):Prop
 |mk (sg:Str) (a b:Int) (h0_:vs=[.str sg,.int a,.int b]) (h1_:OnW a) (h2_:OnW b) (h3_:Q (.int (cP sg a b)) H):nU vs H Q E
theorem dN{x:Int}(h:OnW x):Builtin.Int.intBits x<=2 ^ 20:=qz ((PySem.intBits_le_iff (m:=100)).mpr (by have:=h.lo;have:=h.hi;omega)) Yd
theorem n9{x:Int}(h:OnW x):x.natAbs.log2<9000:=Nat.lt_trans (zC (by have:=h.lo;have:=h.hi;omega)) Yd
inductive oj(vs:List V)(H:Hp)(Q:VK)(E:XK):Prop
 |mk (c k:Int) (h0_:vs=[.int c,.int k]) (h1_:(0<=k/\k<=2000)) (h2_:∀m:Int,0<=m->m<2147483647->Q (.int m) H):oj vs H Q E
inductive og(vs:List V)(H:Hp)(Q:VK)(E:XK):Prop
 |mk (c k:Int) (h0_:vs=[.int c,.int k]) (h1_:(0<=k/\k<=2147483647)) (h2_:∀m:Int,OnW m->Q (.int m) H):og vs H Q E
inductive Sd
 |num (n:Int)
 |thing (i:Int)
inductive RS(H:Hp):V->Sd->Prop
 |num {p:Addr}{n:Int}:H p=some (.tup [.str "is",.int n])->RS H (.ref p) (.num n)
 |thing {p:Addr}{i:Int}:H p=some (.tup [.str "in",.int i])->RS H (.ref p) (.thing i)
theorem RS.same{H H':Hp}(e:a9 H H'){v:V}{r:Sd}(h:RS H v r):RS H' v r:=by
 cases h with
 |num a=>exact .num (e _ _ a)
 |thing a=>exact .thing (e _ _ a)
def Sd.ok(w:Nat):Sd->Prop
 |.num n=>OnW n
 |.thing i=>0<=i/\i<w
def Sd.worth(xs:List Int):Sd->Int
 |.num n=>n
 |.thing i=>xs.getD i.toNat 0
inductive nV(vs:List V)(H:Hp)(Q:VK)(E:XK):Prop
 |mk (i j c:Int) (h0_:vs=[.int i,.int j,.int c]) (h1_:(0<=i/\i<=2000)) (h2_:0<j) (h3_:∀H' v (s:Sd),a9 H H'->RS H' v s->s.ok j.toNat->Q v H'):nV vs H Q E
inductive PR
 |pass (ins outs route:List Int)
 |work (ins:List Int) (out:Int) (sg:Str) (l r:Sd)
 |choose (ins:List Int) (which:Int) (ones noughts:List Int) (told:Int)
 |merge (told:Int) (ones noughts outs:List Int)
def PR.wide:PR->Nat
 |.pass ins _ _=>ins.length
 |.work ins _ _ _ _=>ins.length
 |.choose ins _ _ _ _=>ins.length
 |.merge _ _ _ outs=>1+outs.length
structure Fit(nl:Nat)(xs:List Int):Prop where
 lo:∀x∈xs,0<=x
 hi:∀x∈xs,x<nl
 nd:(xs.map Int.toNat).Nodup
def PR.ok:PR->Prop
 |.pass ins outs route=>outs.length=route.length/\outs.length<=9/\ins.length<=9/\∀r∈route,0<=r/\r<ins.length
 |.work ins _ _ l r=>ins.length<=9/\l.ok ins.length/\r.ok ins.length
 |.choose ins which ones noughts _=>0<=which/\which<ins.length/\ones.length=ins.length/\noughts.length=ins.length/\ins.length<=9
 |.merge _ ones noughts outs=>outs.length<=9/\ones.length=outs.length/\noughts.length=outs.length
def PR.fit(nl:Nat):PR->Prop
 |.pass ins outs _=>Fit nl ins/\Fit nl outs
 |.work ins out _ _ _=>Fit nl ins/\Fit nl [out]
 |.choose ins _ ones noughts told=>Fit nl ins/\Fit nl (ones++[told])/\Fit nl (noughts++[told])
 |.merge told ones noughts outs=>Fit nl (told::ones)/\Fit nl (told::noughts)/\Fit nl outs
def PR.made(xs:List Int):PR->List (Int×Int)
 |.pass _ outs route=>outs.zip (route.map λr=>xs.getD r.toNat 0)
 |.work _ out sg l r=>[(out,cP sg (l.worth xs) (r.worth xs))]
 |.choose _ which ones noughts told=>if xs.getD which.toNat 0=0 then noughts.zip xs++[(told,0)]else ones.zip xs++[(told,1)]
 |.merge _ _ _ outs=>outs.zip xs.tail
def PR.kind:PR->Nat
 |.pass ..=>0
 |.work ..=>1
 |.choose ..=>2
 |.merge ..=>3
def PR.word:PR->Str
 |.pass ..=>"pass"
 |.work ..=>"work"
 |.choose ..=>"choose"
 |.merge ..=>"merge"
inductive RR(H:Hp):V->PR->Prop
 |pass {p t0 t1 t2:Addr}{ins outs route:List Int}:H p=some (.tup [.str "pass",.ref t0,.ref t1,.ref t2])->H t0=some (.tup (ins.map V.int))->H t1=some (.tup (outs.map V.int))->H t2=some (.tup (route.map V.int))->RR H (.ref p) (.pass ins outs route)
 |work {p t0:Addr}{ins:List Int}{out:Int}{sg:Str}{sa sb:V}{l r:Sd}:H p=some (.tup [.str "work",.ref t0,.int out,.str sg,sa,sb])->H t0=some (.tup (ins.map V.int))->RS H sa l->RS H sb r->RR H (.ref p) (.work ins out sg l r)
 |choose {p t0 t1 t2:Addr}{ins ones noughts:List Int}{which told:Int}:H p=some (.tup [.str "choose",.ref t0,.int which,.ref t1,.ref t2,.int told])->H t0=some (.tup (ins.map V.int))->H t1=some (.tup (ones.map V.int))->H t2=some (.tup (noughts.map V.int))->RR H (.ref p) (.choose ins which ones noughts told)
 |merge {p t1 t2 t3:Addr}{told:Int}{ones noughts outs:List Int}:H p=some (.tup [.str "merge",.int told,.ref t1,.ref t2,.ref t3])->H t1=some (.tup (ones.map V.int))->H t2=some (.tup (noughts.map V.int))->H t3=some (.tup (outs.map V.int))->RR H (.ref p) (.merge told ones noughts outs)
theorem RR.same{H H':Hp}(e:a9 H H'){v:V}{r:PR}(h:RR H v r):RR H' v r:=by
 cases h with
 |pass a b c d=>exact .pass (e _ _ a) (e _ _ b) (e _ _ c) (e _ _ d)
 |work a b c d=>exact .work (e _ _ a) (e _ _ b) (c.same e) (d.same e)
 |choose a b c d=>exact .choose (e _ _ a) (e _ _ b) (e _ _ c) (e _ _ d)
 |merge a b c d=>exact .merge (e _ _ a) (e _ _ b) (e _ _ c) (e _ _ d)
inductive RPt(a:Adr)(H:Hp):V->PR->Prop
 |pass {p dx t0 t1 t2:Addr}{ins outs route:List Int}:H p=some (.ins a.wS dx [("ins",.ref t0),("outs",.ref t1),("route",.ref t2)])->H t0=some (.tup (ins.map V.int))->H t1=some (.tup (outs.map V.int))->H t2=some (.tup (route.map V.int))->RPt a H (.ref p) (.pass ins outs route)
 |work {p dx t0 ts:Addr}{ins:List Int}{out:Int}{sg:Str}{sa sb:V}{l r:Sd}:H p=some (.ins a.wP dx [("ins",.ref t0),("out",.int out),("sign",.str sg),("sides",.ref ts)])->H t0=some (.tup (ins.map V.int))->H ts=some (.tup [sa,sb])->RS H sa l->RS H sb r->RPt a H (.ref p) (.work ins out sg l r)
 |choose {p dx t0 t1 t2:Addr}{ins ones noughts:List Int}{which told:Int}:H p=some (.ins a.u8 dx [("ins",.ref t0),("which",.int which),("ones",.ref t1),("noughts",.ref t2),("told",.int told)])->H t0=some (.tup (ins.map V.int))->H t1=some (.tup (ones.map V.int))->H t2=some (.tup (noughts.map V.int))->RPt a H (.ref p) (.choose ins which ones noughts told)
 |merge {p dx t0 t1 t2 t3:Addr}{told:Int}{ones noughts outs:List Int}:H p=some (.ins a.wp dx [("ins",.ref t0),("ones",.ref t1),("noughts",.ref t2),("outs",.ref t3)])->H t0=some (.tup [.int told])->H t1=some (.tup (ones.map V.int))->H t2=some (.tup (noughts.map V.int))->H t3=some (.tup (outs.map V.int))->RPt a H (.ref p) (.merge told ones noughts outs)
theorem RPt.same{a:Adr}{H H':Hp}(e:a9 H H'){v:V}{r:PR}(h:RPt a H v r):RPt a H' v r:=by
 cases h with
 |pass a b c d=>exact .pass (e _ _ a) (e _ _ b) (e _ _ c) (e _ _ d)
 |work a b c d f=>exact .work (e _ _ a) (e _ _ b) (e _ _ c) (d.same e) (f.same e)
 |choose a b c d=>exact .choose (e _ _ a) (e _ _ b) (e _ _ c) (e _ _ d)
 |merge a b c d f=>exact .merge (e _ _ a) (e _ _ b) (e _ _ c) (e _ _ d) (e _ _ f)
inductive RPs(H:Hp):List V->List (Int×Int)->Prop
 |nil:RPs H [] []
 |cons {p:Addr}{vs:List V}{x:Int×Int}{xs:List (Int×Int)}:H p=some (.tup [.int x.1,.int x.2])->RPs H vs xs->RPs H (.ref p::vs) (x::xs)
theorem RPs.same{H H':Hp}(e:a9 H H'):∀{vs:List V}{xs:List (Int×Int)},RPs H vs xs->RPs H' vs xs
 |_,_,.nil=>.nil
 |_,_,.cons a r=>.cons (e _ _ a) (RPs.same e r)
theorem RPs.len{H:Hp}:∀{vs:List V}{xs:List (Int×Int)},RPs H vs xs->vs.length=xs.length
 |_,_,.nil=>rfl
 |_,_,.cons _ r=>congrArg (·+1) (RPs.len r)
theorem RPs.app{H:Hp}:∀{vs us:List V}{xs ys:List (Int×Int)},RPs H vs xs->RPs H us ys->RPs H (vs++us) (xs++ys)
 |_,_,_,_,.nil,h=>h
 |_,_,_,_,.cons a r,h=>.cons a (RPs.app r h)
theorem RPs.snoc{H:Hp}{p:Addr}{x:Int×Int}(a:H p=some (.tup [.int x.1,.int x.2])){vs:List V}{xs:List (Int×Int)}(h:RPs H vs xs):RPs H (vs++[.ref p]) (xs++[x]):=h.app (.cons a .nil)
theorem RPs.zip{H:Hp}:∀{ts:List Addr}{xs ys:List Int},ts.length=min xs.length ys.length->(∀(j:Nat)(t:Addr)(x y:V),ts[j]?=some t->(xs.map V.int)[j]?=some x->(ys.map V.int)[j]?=some y->H t=some (.tup [x,y]))->RPs H (ts.map V.ref) (xs.zip ys)
 |[],[],_,_,_=>by simp;exact .nil
 |[],_::_,[],_,_=>.nil
 |[],_::_,_::_,h,_=>by simp at h
 |_::_,[],_,h,_=>by simp at h
 |_::_,_::_,[],h,_=>by simp at h
 |t::ts,x::xs,y::ys,h,at_=>by
  refine .cons (at_ 0 t _ _ U U U) (RPs.zip (by simp at h;omega) λj t' x' y' h1 h2 h3=>at_ (j+1) t' x' y' (by simpa using h1) (by simpa using h2) (by simpa using h3))
def db:Option Int->V
 |none=>.non
 |some n=>.int n
abbrev Ln:=Option Int×List Int
inductive RLn(H:Hp):List V->List Ln->Prop
 |nil:RLn H [] []
 |cons {p t:Addr}{vs:List V}{x:Ln}{xs:List Ln}:H p=some (.tup [db x.1,.ref t])->H t=some (.tup (x.2.map V.int))->RLn H vs xs->RLn H (.ref p::vs) (x::xs)
theorem RLn.keep{H H':Hp}(e:∀b ys,H b=some (.tup ys)->H' b=some (.tup ys)):∀{vs:List V}{xs:List Ln},RLn H vs xs->RLn H' vs xs
 |_,_,.nil=>.nil
 |_,_,.cons a b r=>.cons (e _ _ a) (e _ _ b) (RLn.keep e r)
theorem RLn.same{H H':Hp}(e:a9 H H'){vs:List V}{xs:List Ln}(h:RLn H vs xs):RLn H' vs xs:=h.keep λb ys=>e b _
theorem RLn.len{H:Hp}:∀{vs:List V}{xs:List Ln},RLn H vs xs->vs.length=xs.length
 |_,_,.nil=>rfl
 |_,_,.cons _ _ r=>congrArg (·+1) (RLn.len r)
theorem RLn.at{H:Hp}:∀{vs:List V}{xs:List Ln},RLn H vs xs->∀(i:Nat)(v:V),vs[i]?=some v->∃p t x,v=.ref p/\xs[i]?=some x/\H p=some (.tup [db x.1,.ref t])/\H t=some (.tup (x.2.map V.int))
 |_,_,.nil,i,v,h=>by simp at h
 |_,_,.cons (p:=p) (t:=t) (x:=x) a b r,0,v,h=>by
  simp at h;exact⟨p,t,x,h.symm,U,a,b⟩
 |_,_,.cons a b r,i+1,v,h=>RLn.at r i v (by simpa using h)
theorem RLn.snoc{H:Hp}{p t:Addr}{x:Ln}(a:H p=some (.tup [db x.1,.ref t]))(b:H t=some (.tup (x.2.map V.int))):∀{vs:List V}{xs:List Ln},RLn H vs xs->RLn H (vs++[.ref p]) (xs++[x])
 |_,_,.nil=>.cons a b .nil
 |_,_,.cons a' b' r=>.cons a' b' (RLn.snoc a b r)
def RQ(a:Adr)(H:Hp)(q:Addr×Addr×Addr)(s:List Int×Nat):Prop:=H q.1=some (.ins a.or q.2.1 [("laid",.ref q.2.2),("gone",.int s.2)])/\H q.2.2=some (.lst (s.1.map V.int))/\s.2<=s.1.length/\s.1.length<=10000000
structure RY(a:Adr)(H:Hp)(y dx la lq:Addr)(qs:List (Addr×Addr×Addr))(st:List (List Int×Nat))(ls:List (Option Int)):Prop where
 o:H y=some (.ins a.r9 dx [("lengths",.ref la),("queues",.ref lq)])
 l:H lq=some (.lst (qs.map λq=>V.ref q.1))
 n:qs.length=st.length
 q:∀(i:Nat)(q:Addr×Addr×Addr)(s:List Int×Nat),qs[i]?=some q->st[i]?=some s->RQ a H q s
 w:H la=some (.lst (ls.map db))
 m:ls.length=st.length
def jc(s:List Int×Nat):V:=match s.1.drop s.2 with
 |[]=>.non
 |x::_=>.int x
inductive oS(K:W.Frag)(a:Adr)(vs:List V)(H:Hp)(Q:VK)(E:XK):Prop
 |mk (p dx t:Addr) (xs:List Int) (h0_:vs=[.ref p,.ref t]) (h1_:H p=some (.ins a.or dx [])) (h2_:SqT K H t (xs.map V.int)) (h3_:∀l,H l=none->Q .non (upd (upd H l (.lst (xs.map V.int))) p (.ins a.or dx [("laid",.ref l),("gone",.int 0)]))):oS K a vs H Q E
inductive oO(a:Adr)(vs:List V)(H:Hp)(Q:VK)(E:XK):Prop
 |mk (q:Addr×Addr×Addr) (s:List Int×Nat) (h0_:vs=[.ref q.1]) (h1_:RQ a H q s) (h2_:Q (.int ((s.1.length:Int)-s.2)) H):oO a vs H Q E
inductive oR(a:Adr)(vs:List V)(H:Hp)(Q:VK)(E:XK):Prop
 |mk (q:Addr×Addr×Addr) (s:List Int×Nat) (h0_:vs=[.ref q.1]) (h1_:RQ a H q s) (h2_:Q (jc s) H):oR a vs H Q E
inductive oQ(a:Adr)(vs:List V)(H:Hp)(Q:VK)(E:XK):Prop
 |mk (q:Addr×Addr×Addr) (s:List Int×Nat) (x:Int) (h0_:vs=[.ref q.1,.int x]) (h1_:RQ a H q s) (h2_:Q .non (upd H q.2.2 (.lst ((s.1++[x]).map V.int)))):oQ a vs H Q E
inductive oN(a:Adr)(vs:List V)(H:Hp)(Q:VK)(E:XK):Prop
 |mk (q:Addr×Addr×Addr) (s:List Int×Nat) (x:Int) (h0_:vs=[.ref q.1]) (h1_:RQ a H q s) (h2_:s.1[s.2]?=some x) (h3_:Q (.int x) (upd H q.1 (.ins a.or q.2.1 [("laid",.ref q.2.2),("gone",.int (s.2+1:Nat))]))):oN a vs H Q E
inductive oP(a:Adr)(vs:List V)(H:Hp)(Q:VK)(E:XK):Prop
 |mk (q:Addr×Addr×Addr) (s:List Int×Nat) (h0_:vs=[.ref q.1]) (h1_:RQ a H q s) (h2_:∀l,H l=none->Q (.ref l) (upd H l (.lst ((s.1.drop s.2).map V.int)))):oP a vs H Q E
def cQ(xs:List Ln):List (List Int×Nat):=xs.map λx=>(x.2,0)
inductive oJ(a:Adr)(vs:List V)(H:Hp)(Q:VK)(E:XK):Prop
 |mk (p dx l:Addr) (us:List V) (xs:List Ln) (h0_:vs=[.ref p,.ref l]) (h1_:H p=some (.ins a.r9 dx [])) (h2_:H l=some (.lst us)) (h3_:RLn H us xs) (h4_:xs.length<=1000) (h5_:(∀x∈xs,x.2.length<=50) /\
 ∀H' la lq qs,(∀b o,b≠p->H b=some o->H' b=some o)->RY a H' p dx la lq qs (cQ xs) (xs.map (·.1))->(qs.map λq=>q.2.2).Nodup->(qs.map λq=>q.1).Nodup->(∀q∈qs,H q.2.2=none/\q.1≠p/\H q.1=none)->(H lq=none/\lq∉(qs.map λq=>q.2.2))->(H la=none/\la∉(qs.map λq=>q.2.2))->Q .non H'):oJ a vs H Q E
inductive oG(a:Adr)(vs:List V)(H:Hp)(Q:VK)(E:XK):Prop
 |mk (y dx la lq:Addr) (qs:List (Addr×Addr×Addr)) (st:List (List Int×Nat)) (ls:List (Option Int)) (i:Int) (s:List Int×Nat) (h0_:vs=[.ref y,.int i]) (h1_:RY a H y dx la lq qs st ls) (h2_:0<=i) (h3_:st[i.toNat]?=some s) (h4_:Q (.int ((s.1.length:Int)-s.2)) H):oG a vs H Q E
def dh(L:Option Int)(n:Int):Bool:=match L with
 |none=>true
 |some m=>decide (n<m)
inductive oF(a:Adr)(vs:List V)(H:Hp)(Q:VK)(E:XK):Prop
 |mk (y dx la lq:Addr) (qs:List (Addr×Addr×Addr)) (st:List (List Int×Nat)) (ls:List (Option Int)) (i:Int) (s:List Int×Nat) (L:Option Int) (h0_:vs=[.ref y,.int i]) (h1_:RY a H y dx la lq qs st ls) (h2_:0<=i) (h3_:st[i.toNat]?=some s) (h4_:ls[i.toNat]?=some L) (h5_:Q (.bl (dh L ((s.1.length:Int)-s.2))) H):oF a vs H Q E
inductive oI(a:Adr)(vs:List V)(H:Hp)(Q:VK)(E:XK):Prop
 |mk (y dx la lq:Addr) (qs:List (Addr×Addr×Addr)) (st:List (List Int×Nat)) (ls:List (Option Int)) (i:Int) (s:List Int×Nat) (h0_:vs=[.ref y,.int i]) (h1_:RY a H y dx la lq qs st ls) (h2_:0<=i) (h3_:st[i.toNat]?=some s) (h4_:Q (jc s) H):oI a vs H Q E
inductive oH(a:Adr)(vs:List V)(H:Hp)(Q:VK)(E:XK):Prop
 |mk (y dx la lq:Addr) (qs:List (Addr×Addr×Addr)) (st:List (List Int×Nat)) (ls:List (Option Int)) (i x:Int) (q:Addr×Addr×Addr) (s:List Int×Nat) (h0_:vs=[.ref y,.int i,.int x]) (h1_:RY a H y dx la lq qs st ls) (h2_:0<=i) (h3_:st[i.toNat]?=some s) (h4_:qs[i.toNat]?=some q) (h5_:Q .non (upd H q.2.2 (.lst ((s.1++[x]).map V.int)))):oH a vs H Q E
inductive oC(a:Adr)(vs:List V)(H:Hp)(Q:VK)(E:XK):Prop
 |mk (y dx la lq:Addr) (qs:List (Addr×Addr×Addr)) (st:List (List Int×Nat)) (ls:List (Option Int)) (i x:Int) (q:Addr×Addr×Addr) (s:List Int×Nat) (h0_:vs=[.ref y,.int i]) (h1_:RY a H y dx la lq qs st ls) (h2_:0<=i) (h3_:st[i.toNat]?=some s) (h4_:qs[i.toNat]?=some q) (h5_:s.1[s.2]?=some x) (h6_:Q (.int x) (upd H q.1 (.ins a.or q.2.1 [("laid",.ref q.2.2),("gone",.int (s.2+1:Nat))]))):oC a vs H Q E
def eQ(st:List (List Int×Nat)):List (List Int):=st.map λs=>s.1.drop s.2
inductive RIs(H:Hp):List V->List (List Int)->Prop
 |nil:RIs H [] []
 |cons {p:Addr}{vs:List V}{xs:List Int}{xss:List (List Int)}:H p=some (.lst (xs.map V.int))->RIs H vs xss->RIs H (.ref p::vs) (xs::xss)
theorem RIs.same{H H':Hp}(e:a9 H H'):∀{vs:List V}{xss:List (List Int)},RIs H vs xss->RIs H' vs xss
 |_,_,.nil=>.nil
 |_,_,.cons a r=>.cons (e _ _ a) (RIs.same e r)
theorem RIs.len{H:Hp}:∀{vs:List V}{xss:List (List Int)},RIs H vs xss->vs.length=xss.length
 |_,_,.nil=>rfl
 |_,_,.cons _ r=>congrArg (·+1) (RIs.len r)
theorem RIs.snoc{H:Hp}{p:Addr}{xs:List Int}(a:H p=some (.lst (xs.map V.int))):∀{vs:List V}{xss:List (List Int)},RIs H vs xss->RIs H (vs++[.ref p]) (xss++[xs])
 |_,_,.nil=>.cons a .nil
 |_,_,.cons a' r=>.cons a' (RIs.snoc a r)
theorem RIs.at{H:Hp}:∀{vs:List V}{xss:List (List Int)},RIs H vs xss->∀(i:Nat)(xs:List Int),xss[i]?=some xs->∃p,vs[i]?=some (.ref p)/\H p=some (.lst (xs.map V.int))
 |_,_,.nil,i,v,h=>by simp at h
 |_,_,.cons (p:=p) a r,0,v,h=>by
  simp at h;subst h;exact⟨p,U,a⟩
 |_,_,.cons a r,i+1,v,h=>by
  obtain⟨p,e,h'⟩:=RIs.at r i v (by simpa using h);exact⟨p,by simpa using e,h'⟩
def gM(H0:Hp)(vs:List V):Prop:=∀p,V.ref p∈vs->H0 p=none
inductive oE(a:Adr)(vs:List V)(H:Hp)(Q:VK)(E:XK):Prop
 |mk (y dx la lq:Addr) (qs:List (Addr×Addr×Addr)) (st:List (List Int×Nat)) (ls:List (Option Int)) (h0_:vs=[.ref y]) (h1_:RY a H y dx la lq qs st ls) (h2_:qs.length<=1000) (h3_:∀H' l us,a9 H H'->H l=none->H' l=some (.lst us)->RIs H' us (eQ st)->gM H us->Q (.ref l) H'):oE a vs H Q E
inductive p5(a:Adr)(vs:List V)(H:Hp)(Q:VK)(E:XK):Prop
 |mk (p C dx:Addr) (u:V) (h0_:vs=[.ref p,u]) (h1_:H p=some (.ins C dx [])) (h2_:(C=a.wS\/C=a.wP\/C=a.u8\/C=a.wp)) (h3_:Q .non (upd H p (.ins C dx [("ins",u)]))):p5 a vs H Q E
inductive oZ(a:Adr)(vs:List V)(H:Hp)(Q:VK)(E:XK):Prop
 |mk (p dx:Addr) (u v x:V) (h0_:vs=[.ref p,u,v,x]) (h1_:H p=some (.ins a.wS dx [])) (h2_:Q .non (upd H p (.ins a.wS dx [("ins",u),("outs",v),("route",x)]))):oZ a vs H Q E
inductive oK(a:Adr)(vs:List V)(H:Hp)(Q:VK)(E:XK):Prop
 |mk (p dx:Addr) (u v x y:V) (h0_:vs=[.ref p,u,v,x,y]) (h1_:H p=some (.ins a.wP dx [])) (h2_:Q .non (upd H p (.ins a.wP dx [("ins",u),("out",v),("sign",x),("sides",y)]))):oK a vs H Q E
inductive pd(a:Adr)(vs:List V)(H:Hp)(Q:VK)(E:XK):Prop
 |mk (p dx:Addr) (u v x y z:V) (h0_:vs=[.ref p,u,v,x,y,z]) (h1_:H p=some (.ins a.u8 dx [])) (h2_:Q .non (upd H p (.ins a.u8 dx [("ins",u),("which",v),("ones",x),("noughts",y),("told",z)]))):pd a vs H Q E
inductive p9(a:Adr)(vs:List V)(H:Hp)(Q:VK)(E:XK):Prop
 |mk (p dx:Addr) (u v x y:V) (h0_:vs=[.ref p,u,v,x,y]) (h1_:H p=some (.ins a.wp dx [])) (h2_:∀t,H t=none->Q .non (upd (upd H t (.tup [u])) p (.ins a.wp dx [("ins",.ref t),("ones",v),("noughts",x),("outs",y)]))):p9 a vs H Q E
structure Ent where
 now:Int
 part:Nat
 took:Bool
 hs:List (Int×Int)
structure PlS where
 st:Nat->List Int×Nat
 held:Nat->List (Int×Int)
 tks:Nat->Nat
 gv:List (Int×List Nat)
 tr:List Nat
 wr:Nat->List Nat
 wt:Nat->List Nat
 sp:Nat
 lg:List Ent
def put{α:Type}(f:Nat->α)(i:Nat)(v:α):Nat->α:=λk=>if k=i then v else f k
theorem aM{α:Type}{f:Nat->α}{i:Nat}{v:α}:put f i v i=v:=Q1 U
theorem az{α:Type}{f:Nat->α}{i k:Nat}{v:α}(h:k≠i):put f i v k=f k:=Q0 h
def aO(S:PlS)(i:Nat):List Int:=(S.st i).1.drop (S.st i).2
def roomF(ls:Nat->Option Int)(S:PlS)(i:Nat):Bool:=dh (ls i) (((S.st i).1.length:Int)-(S.st i).2)
def aB(S:PlS):PR->List Int
 |.pass ins _ _=>ins
 |.work ins _ _ _ _=>ins
 |.choose ins _ _ _ _=>ins
 |.merge t o n _=>match aO S t.toNat with
  |[]=>[t]
  |x::_=>t::(if x=0 then n else o)
abbrev Gv:=List (Int×List Nat)
def aR(g:Gv):List Int:=g.map (·.1)
def atG(g:Gv)(k:Int):List Nat:=((g.find? λkv=>decide (kv.1=k)).map (·.2)).getD []
def cG(g:Gv)(k:Int):Gv:=g.filter λkv=>decide (kv.1≠k)
def bj(g:Gv)(t:Int)(ps:List Nat):Gv:=if ps=[]then g else if t∈aR g then g.map (λkv=>if kv.1=t then(kv.1,kv.2++ps)else kv)else g++[(t,ps)]
def ay(S:PlS)(p:Int×Int):PlS:={ S with st:=put S.st p.1.toNat ((S.st p.1.toNat).1++[p.2],(S.st p.1.toNat).2),tr:=S.tr++S.wt p.1.toNat,wt:=put S.wt p.1.toNat [] }
def iB(S:PlS)(i:Nat)(x:Nat):PlS:={ S with wr:=put S.wr i (S.wr i++[x]) }
def eF(S:PlS)(now:Int)(x:Nat):PlS:=
 let S':=(S.held x).foldl ay S
 { S' with lg:=S'.lg++[⟨now,x,false,S.held x⟩],tr:=S'.tr++[x] }
def cS(ls:Nat->Option Int)(S:PlS)(now:Int)(x:Nat):PlS:=
 match(S.held x).find? λp=>!roomF ls S p.1.toNat with
 |some p=>iB S p.1.toNat x
 |none=>eF S now x
def dE(S:PlS)(ws:List Int):Option Int:=ws.find? λi=>(aO S i.toNat).isEmpty
def aY(S:PlS)(i:Int):Int:=(aO S i.toNat).headD 0
def bD(f:Nat->List Int×Nat)(ws:List Int):Nat->List Int×Nat:=ws.foldl (λf i=>put f i.toNat ((f i.toNat).1,(f i.toNat).2+1)) f
def bp(now:Int)(S:PlS)(i:Int):PlS:={ S with gv:=bj S.gv (now+1) (S.wr i.toNat),wr:=put S.wr i.toNat [] }
def bw(pace:List (List Int))(x k:Nat):Int:=if pace.length=0 then 0 else
 let r:=pace.getD (x % pace.length) []
 if r.length=0 then 0 else r.getD (k % r.length) 0
def gP(S:PlS)(i x:Nat):PlS:={ S with wt:=put S.wt i (S.wt i++[x]) }
def bV(r:PR)(pace:List (List Int))(S:PlS)(now:Int)(x:Nat):PlS:=
 let ws:=aB S r
 let xs:=ws.map (aY S)
 { S with st:=bD S.st ws,sp:=S.sp-1,lg:=S.lg++[⟨now,x,true,ws.zip xs⟩],held:=put S.held x (r.made xs),gv:=bj S.gv (now+1+bw pace x (S.tks x)) [x],tks:=put S.tks x (S.tks x+1) }
def be(r:PR)(pace:List (List Int))(S:PlS)(now:Int)(x:Nat):PlS:=(aB S r).foldl (bp now) (bV r pace S now x)
theorem nC:∀{ws:List Int}{f:Nat->List Int×Nat}{j:Nat},j∉ws.map Int.toNat->bD f ws j=f j
 |[],_,_,_=>rfl
 |w::ws,f,j,h=>by
  show bD (put f w.toNat _) ws j=_;rw[nC λz=>h (qm _ z),az λz=>h (by rw[z];exact qp)]
theorem uG{ws:List Int}{f:Nat->List Int×Nat}{w:Int}:bD f (ws++[w])=put (bD f ws) w.toNat ((bD f ws w.toNat).1,(bD f ws w.toNat).2+1):=by unfold bD;rw[List.foldl_append];rfl
theorem iw:∀{ws:List Int}{f:Nat->List Int×Nat}{j:Nat},(bD f ws j).1=(f j).1
 |[],_,_=>rfl
 |w::ws,f,j=>by
  show(bD (put f w.toNat _) ws j).1=_;rw[iw];by_cases e:j=w.toNat
  ·rw[e,aM]
  ·rw[az e]
theorem ju:∀{ws:List Int}{f:Nat->List Int×Nat},(ws.map Int.toNat).Nodup->(∀w∈ws,(f w.toNat).2<(f w.toNat).1.length)->(∀j,(f j).2<=(f j).1.length)->∀j,(bD f ws j).2<=(bD f ws j).1.length
 |[],_,_,_,h0,j=>h0 j
 |w::ws,f,nd,h,h0,j=>by
  have nd:w.toNat∉ws.map Int.toNat/\(ws.map Int.toNat).Nodup:=List.nodup_cons.mp nd;refine ju (f:=put f w.toNat ((f w.toNat).1,(f w.toNat).2+1)) nd.2 (λv hv=>?_) (λi=>?_) j
  ·rw[az λe=>nd.1 (by rw[<- e];exact List.mem_map.mpr ⟨v,hv,U⟩)];exact h v (qm _ hv)
  ·by_cases e:i=w.toNat
   ·rw[e,aM];exact h w qp
   ·rw[az e];exact h0 i
theorem Fit.sub{nl:Nat}{xs ys:List Int}(h:Fit nl ys)(s:xs.Sublist ys):Fit nl xs:=⟨λx hx=>h.lo x (s.subset hx),λx hx=>h.hi x (s.subset hx),h.nd.sublist (s.map _)⟩
theorem jp{nl:Nat}{S:PlS}{r:PR}(h:r.fit nl):Fit nl (aB S r):=by
 cases r with
 |pass=>exact h.1
 |work=>exact h.1
 |choose=>exact h.1
 |merge t o n _=>
  show Fit nl (match aO S t.toNat with|[]=>[t]|x::_=>t::(if x=0 then n else o))
  cases aO S t.toNat with
  |nil=>exact h.1.sub (List.Sublist.cons_cons _ (List.nil_sublist _))
  |cons x _=>
   show Fit nl (t::(if x=0 then n else o));split
   ·exact h.2.1
   ·exact h.1
theorem jn{S:PlS}{r:PR}(ok:r.ok)(h:dE S (aB S r)=none):(aB S r).length=r.wide:=by
 cases r with
 |pass=>rfl
 |work=>rfl
 |choose=>rfl
 |merge t o n outs=>
  obtain⟨_,l1,l2⟩:=ok;have h:=List.find?_eq_none.mp h;show(match aO S t.toNat with|[]=>[t]|x::_=>t::(if x=0 then n else o)).length=1+outs.length
  have ht:¬ (aO S t.toNat).isEmpty=true:=h t (by
   show t∈(match aO S t.toNat with|[]=>[t]|x::_=>t::(if x=0 then n else o))
   cases aO S t.toNat<;>exact qp)
  cases e:aO S t.toNat with
  |nil=>rw[e]at ht;exact Q5 U ht
  |cons x _=>
   show(t::(if x=0 then n else o)).length=_;rw[qC];split<;>omega
theorem jq{S:PlS}{r:PR}(ok:r.ok):(aB S r).length<=10:=by
 cases r with
 |pass ins=>have:=ok.2.2.1;show ins.length<=10;omega
 |work ins=>have:=ok.1;show ins.length<=10;omega
 |choose ins=>have:=ok.2.2.2.2;show ins.length<=10;omega
 |merge t o n outs=>
  obtain⟨_,l1,l2⟩:=ok;show(match aO S t.toNat with|[]=>[t]|x::_=>t::(if x=0 then n else o)).length<=10
  cases aO S t.toNat with
  |nil=>exact(by decide:1<=10)
  |cons x _=>show(t::(if x=0 then n else o)).length<=10;rw[qC];split<;>omega
inductive Ph
 |top
 |giv (now:Int) (rem:List Nat)
 |tak (now:Int) (rem:List Nat)
def zk(g:Gv)(k:Int):Prop:=k∈aR g/\∀j∈aR g,k<=j
def gK(xs:List Nat):Prop:=List.Pairwise (λx y:Nat=>x<=y) xs
inductive bE(ls:Nat->Option Int)(prt:Nat->PR)(pace:List (List Int))(S0:PlS):Ph->PlS->Prop
 |base:bE ls prt pace S0 .top S0
 |turn {S:PlS}{k:Int}{r:List Nat}:bE ls prt pace S0 .top S->zk S.gv k->r.Perm (atG S.gv k)->gK r->bE ls prt pace S0 (.giv k r) { S with gv:=cG S.gv k }
 |give {S:PlS}{k:Int}{x:Nat}{r:List Nat}:bE ls prt pace S0 (.giv k (x::r)) S->bE ls prt pace S0 (.giv k r) (cS ls S k x)
 |half {S:PlS}{k:Int}{r:List Nat}:bE ls prt pace S0 (.giv k []) S->r.Perm S.tr->gK r->bE ls prt pace S0 (.tak k r) { S with tr:=[] }
 |wait {S:PlS}{k i:Int}{x:Nat}{r:List Nat}:bE ls prt pace S0 (.tak k (x::r)) S->dE S (aB S (prt x))=some i->bE ls prt pace S0 (.tak k r) (gP S i.toNat x)
 |take {S:PlS}{k:Int}{x:Nat}{r:List Nat}:bE ls prt pace S0 (.tak k (x::r)) S->dE S (aB S (prt x))=none->S.sp≠0->bE ls prt pace S0 (.tak k r) (be (prt x) pace S k x)
 |over {S:PlS}{k:Int}:bE ls prt pace S0 (.tak k []) S->bE ls prt pace S0 .top S
inductive Loc
 |tr
 |wt (i:Nat)
 |wr (i:Nat)
 |gv (k:Int)
 |rem
def OnL(n:Nat)(loc:Nat->Loc)(l:Loc)(ys:List Nat):Prop:=ys.Nodup/\∀x∈ys,x<n/\loc x=l
theorem OnL.nil{n:Nat}{loc:Nat->Loc}{l:Loc}:OnL n loc l []:=⟨List.nodup_nil,λ_ h=>(nomatch h)⟩
open Classical in
noncomputable def f9(loc:Nat->Loc)(l' l:Loc):Nat->Loc:=λx=>if loc x=l' then l else loc x
theorem OnL.app{n:Nat}{loc:Nat->Loc}{l l':Loc}{ys zs:List Nat}(h:OnL n loc l ys)(h':OnL n loc l' zs)(ne:l≠l'):OnL n (f9 loc l' l) l (ys++zs):=by
 refine⟨List.nodup_append.mpr ⟨h.1,h'.1,λx hx y hy e=>?_⟩,λx hx=>?_⟩
 ·exact ne ((h.2 x hx).2.symm.trans (e▸(h'.2 y hy).2))
 ·unfold f9;rcases qi.mp hx with m|m
  ·exact⟨(h.2 x m).1,by rw[Q0 (by rw[(h.2 x m).2];exact ne)];exact(h.2 x m).2⟩
  ·exact⟨(h'.2 x m).1,Q1 (h'.2 x m).2⟩
theorem OnL.other{n:Nat}{loc:Nat->Loc}{l l' m:Loc}{ys:List Nat}(h:OnL n loc m ys)(ne:m≠l'):OnL n (f9 loc l' l) m ys:=
 ⟨h.1,λx hx=>⟨(h.2 x hx).1,by unfold f9;rw[Q0 (by rw[(h.2 x hx).2];exact ne)];exact(h.2 x hx).2⟩⟩
theorem OnL.off{n:Nat}{loc:Nat->Loc}{l m:Loc}{ys:List Nat}{x:Nat}(h:OnL n loc m ys)(hx:x∉ys):OnL n (put loc x l) m ys:=
 ⟨h.1,λy hy=>⟨(h.2 y hy).1,(az λe:y=x=>hx (e▸hy)).trans (h.2 y hy).2⟩⟩
theorem OnL.snoc{n:Nat}{loc:Nat->Loc}{l:Loc}{ys:List Nat}{x:Nat}(h:OnL n loc l ys)(hx:x∉ys)(lt:x<n):OnL n (put loc x l) l (ys++[x]):=by
 refine⟨List.nodup_append.mpr ⟨h.1,Qr _ _,λy hy z hz e=>hx (by rw[<- qT.mp hz,<- e];exact hy)⟩,λy hy=>?_⟩;rcases qi.mp hy with m|m
 ·exact(h.off hx).2 y m
 ·rw[qT.mp m];exact⟨lt,aM⟩
theorem OnL.perm{n:Nat}{loc:Nat->Loc}{l:Loc}{ys zs:List Nat}(h:OnL n loc l ys)(p:zs.Perm ys):OnL n loc l zs:=⟨p.nodup_iff.mpr h.1,λx hx=>h.2 x (p.mem_iff.mp hx)⟩
theorem OnL.len{n:Nat}{loc:Nat->Loc}{l:Loc}{ys:List Nat}(h:OnL n loc l ys):ys.length<=n:=by
 have:=h.1.length_le_of_subset (l₂:=List.range n) λk hk=>List.mem_range.mpr (h.2 k hk).1
 rwa [Qe]at this
theorem OnL.len2{n:Nat}{loc:Nat->Loc}{l l':Loc}{ys zs:List Nat}(h:OnL n loc l ys)(h':OnL n loc l' zs)(ne:l≠l'):ys.length+zs.length<=n:=by
 have:=(h.app h' ne).len
 rwa [qc]at this
structure aX(n:Nat)(loc:Nat->Loc)(rem:List Nat)(S:PlS):Prop where
 tr:OnL n loc .tr S.tr
 wt:∀i,OnL n loc (.wt i) (S.wt i)
 wr:∀i,OnL n loc (.wr i) (S.wr i)
 gk:(aR S.gv).Nodup
 gv:∀kv∈S.gv,OnL n loc (.gv kv.1) kv.2
 rm:OnL n loc .rem rem
theorem gG:∀{g:Gv}{k:Int},k∈aR g->(k,atG g k)∈g
 |(j,ps)::g,k,h=>by
  unfold atG;by_cases e:j=k
  ·rw[List.find?_cons_of_pos (by simpa using e)];subst e;exact qp
  ·rw[List.find?_cons_of_neg (by simpa using e)];exact qm _ (gG (g:=g) ((qv.mp h).resolve_left (Ne.symm e)))
theorem sE{g:Gv}{k j:Int}:j∈aR (cG g k)↔j∈aR g/\j≠k:=by
 unfold aR cG;simp only[List.mem_map,List.mem_filter,decide_eq_true_eq];constructor
 ·rintro⟨kv,⟨h,ne⟩,rfl⟩;exact⟨⟨kv,h,U⟩,ne⟩
 ·rintro⟨⟨kv,h,rfl⟩,ne⟩;exact⟨kv,⟨h,ne⟩,U⟩
theorem zN{g:Gv}{k:Int}(h:(aR g).Nodup):(aR (cG g k)).Nodup:=h.sublist (List.filter_sublist.map _)
theorem mB:∀{g:Gv}{k:Int},k∈aR g->(cG g k).length<g.length
 |(j,ps)::g,k,h=>by
  unfold cG;by_cases e:j=k
  ·rw[List.filter_cons_of_neg (by simpa using e)];exact Nat.lt_succ_of_le (List.length_filter_le _ _)
  ·rw[List.filter_cons_of_pos (by simpa using e)];exact Nat.succ_lt_succ (mB (g:=g) ((qv.mp h).resolve_left (Ne.symm e)))
theorem j5{g:Gv}{t:Int}{ps:List Nat}{j:Int}:j∈aR (bj g t ps)↔j∈aR g\/(ps≠[]/\j=t):=by
 unfold bj;by_cases e:ps=[]
 ·rw[Q1 e];exact⟨.inl,λh=>h.resolve_right λz=>z.1 e⟩
 rw[Q0 e];by_cases m:t∈aR g
 ·rw[Q1 m];unfold aR;rw[List.map_map,show((λkv:Int×List Nat=>kv.1) ∘ λkv:Int×List Nat=>if kv.1=t then(kv.1,kv.2++ps)else kv)=λkv=>kv.1 from funext λkv=>by show(if kv.1=t then(kv.1,kv.2++ps)else kv).1=_;split<;>rfl];exact⟨.inl,λh=>h.elim id λz=>z.2▸m⟩
 ·rw[Q0 m];unfold aR;rw[qP,qi];exact⟨λh=>h.imp id λz=>⟨e,qT.mp z⟩,λh=>h.imp id λz=>qT.mpr z.2⟩
theorem jj{g:Gv}{t:Int}{ps:List Nat}:(bj g t ps).length<=g.length+1:=by
 unfold bj;split
 ·omega
 ·split
  ·rw[qa];omega
  ·rw[qc];exact qf _
theorem AW{g:Gv}{t:Int}{ps:List Nat}(h:t∈aR g):(bj g t ps).length=g.length:=by
 unfold bj;split
 ·rfl
 ·first|rw[Q1 h,qa]|rw[qa]
theorem u9{g:Gv}{t:Int}{ps:List Nat}(h:(aR g).Nodup):(aR (bj g t ps)).Nodup:=by
 unfold bj;split
 ·exact h
 split
 ·unfold aR at *;rw[List.map_map,show((λkv:Int×List Nat=>kv.1) ∘ λkv:Int×List Nat=>if kv.1=t then(kv.1,kv.2++ps)else kv)=λkv=>kv.1 from funext λkv=>by show(if kv.1=t then(kv.1,kv.2++ps)else kv).1=_;split<;>rfl];exact h
 ·rename_i m;unfold aR at *;rw[qP];exact List.nodup_append.mpr ⟨h,Qr _ _,λx hx y hy z=>m (by have e:x=t:=z.trans (qT.mp hy);exact e▸hx)⟩
theorem cZ{g:Gv}{j k:Int}{ps:List Nat}:atG ((j,ps)::g) k=if j=k then ps else atG g k:=by
 unfold atG;by_cases e:j=k
 ·rw[List.find?_cons_of_pos (by simpa using e),Q1 e];rfl
 ·rw[List.find?_cons_of_neg (by simpa using e),Q0 e]
theorem mL:∀{g:Gv}{k:Int},k∉aR g->atG g k=[]
 |[],_,_=>rfl
 |(j,ps)::g,k,h=>by
  rw[cZ,Q0 λe:j=k=>h (e▸qp)];exact mL λz=>h (qm _ z)
theorem ub:∀{g:Gv}{t k:Int}{ps:List Nat},t∉aR g->atG (g++[(t,ps)]) k=if k=t then ps else atG g k
 |[],t,k,ps,_=>by
  rw[Ql,cZ];by_cases e:t=k
  ·rw[Q1 e,Q1 e.symm]
  ·rw[Q0 e,Q0 λz=>e z.symm]
 |(j,qs)::g,t,k,ps,h=>by
  rw[List.cons_append,cZ,cZ];by_cases e:j=k
  ·rw[Q1 e,Q1 e,Q0 λz=>h (by rw[<- z,<- e];exact qp)]
  ·rw[Q0 e,Q0 e];exact ub λz=>h (qm _ z)
theorem mN:∀{g:Gv}{t k:Int}{ps:List Nat},t∈aR g->atG (g.map λkv=>if kv.1=t then(kv.1,kv.2++ps)else kv) k=if k=t then atG g t++ps else atG g k
 |(j,qs)::g,t,k,ps,h=>by
  rw[qS];by_cases e:j=t
  ·show atG ((if j=t then(j,qs++ps)else(j,qs))::_) k=_;rw[Q1 e,cZ,cZ,cZ,Q1 e];by_cases e2:k=t
   ·rw[Q1 (e.trans e2.symm),Q1 e2]
   ·rw[Q0 λz=>e2 (z.symm.trans e),Q0 e2,Q0 λz=>e2 (z.symm.trans e)];by_cases m:t∈aR g
    ·rw[mN m,Q0 e2]
    ·rw[show(g.map λkv=>if kv.1=t then(kv.1,kv.2++ps)else kv)=g from(List.map_congr_left (g:=id) λkv hk=>Q0 λz=>m (List.mem_map.mpr ⟨kv,hk,z⟩)).trans (List.map_id _)]
  ·show atG ((if j=t then(j,qs++ps)else(j,qs))::_) k=_;have m:=(qv.mp h).resolve_left λz=>e z.symm;rw[Q0 e,cZ,cZ,cZ,Q0 e];by_cases e2:j=k
   ·rw[Q1 e2,Q0 λz=>e (e2.trans z),Q1 e2]
   ·rw[Q0 e2,mN m,Q0 e2]
theorem ua{g:Gv}{t k:Int}{ps:List Nat}:atG (bj g t ps) k=if k=t then atG g t++ps else atG g k:=by
 unfold bj;by_cases e:ps=[]
 ·rw[Q1 e,e,qy];split
  ·rename_i z;rw[z]
  ·rfl
 rw[Q0 e];by_cases m:t∈aR g
 ·rw[Q1 m,mN m]
 ·rw[Q0 m,ub m,mL m,Ql]
theorem aX.hand{n:Nat}{loc:Nat->Loc}{rem:List Nat}{S:PlS}(I:aX n loc rem S)(p:Int×Int):aX n (f9 loc (.wt p.1.toNat) .tr) rem (ay S p):=by
 refine⟨I.tr.app (I.wt _) nofun,λi=>?_,λi=>(I.wr i).other nofun,I.gk,λkv h=>(I.gv kv h).other nofun,I.rm.other nofun⟩;show OnL n _ (.wt i) (put S.wt p.1.toNat [] i);by_cases e:i=p.1.toNat
 ·rw[e,aM];exact OnL.nil
 ·rw[az e];exact(I.wt i).other λz=>e (Loc.wt.inj z)
theorem aX.hands{n:Nat}{rem:List Nat}:∀(ps:List (Int×Int)){loc:Nat->Loc}{S:PlS},aX n loc rem S->∃loc',aX n loc' rem (ps.foldl ay S)
 |[],loc,_,I=>⟨loc,I⟩
 |p::ps,_,_,I=>aX.hands ps (I.hand p)
section
variable {n:Nat}{loc:Nat->Loc}{rem:List Nat}{S:PlS}{x:Nat}
theorem aX.not(I:aX n loc (x::rem) S):loc x=.rem/\x<n/\x∉rem:=⟨(I.rm.2 x qp).2,(I.rm.2 x qp).1,(List.nodup_cons.mp I.rm.1).1⟩
theorem aX.notin(I:aX n loc (x::rem) S){l:Loc}{ys:List Nat}(h:OnL n loc l ys)(ne:l≠.rem):x∉ys:=λz=>ne ((h.2 x z).2.symm.trans I.not.1)
theorem aX.rest(I:aX n loc (x::rem) S){l:Loc}:OnL n (put loc x l) .rem rem:=OnL.off ⟨(List.nodup_cons.mp I.rm.1).2,λy hy=>I.rm.2 y (qm _ hy)⟩ I.not.2.2
theorem aX.stuck(I:aX n loc (x::rem) S)(i:Nat):aX n (put loc x (.wr i)) rem (iB S i x):=by
 refine⟨I.tr.off (I.notin I.tr nofun),λj=>(I.wt j).off (I.notin (I.wt j) nofun),λj=>?_,I.gk,λkv h=>(I.gv kv h).off (I.notin (I.gv kv h) nofun),I.rest⟩;show OnL n _ (.wr j) (put S.wr i (S.wr i++[x]) j);by_cases e:j=i
 ·rw[e,aM];exact(I.wr i).snoc (I.notin (I.wr i) nofun) I.not.2.1
 ·rw[az e];exact(I.wr j).off (I.notin (I.wr j) nofun)
theorem aX.wait(I:aX n loc (x::rem) S)(i:Nat):aX n (put loc x (.wt i)) rem (gP S i x):=by
 refine⟨I.tr.off (I.notin I.tr nofun),λj=>?_,λj=>(I.wr j).off (I.notin (I.wr j) nofun),I.gk,λkv h=>(I.gv kv h).off (I.notin (I.gv kv h) nofun),I.rest⟩;show OnL n _ (.wt j) (put S.wt i (S.wt i++[x]) j);by_cases e:j=i
 ·rw[e,aM];exact(I.wt i).snoc (I.notin (I.wt i) nofun) I.not.2.1
 ·rw[az e];exact(I.wt j).off (I.notin (I.wt j) nofun)
theorem aX.toTr(I:aX n loc (x::rem) S)(lg:List Ent):aX n (put loc x .tr) rem { S with lg:=lg,tr:=S.tr++[x] }:=
 ⟨I.tr.snoc (I.notin I.tr nofun) I.not.2.1,λj=>(I.wt j).off (I.notin (I.wt j) nofun),λj=>(I.wr j).off (I.notin (I.wr j) nofun),I.gk,λkv h=>(I.gv kv h).off (I.notin (I.gv kv h) nofun),I.rest⟩
theorem lU{g:Gv}{t:Int}{ps:List Nat}{kv:Int×List Nat}(h:kv∈bj g t ps):(kv∈g/\(kv.1=t->ps=[]))\/(kv.1=t/\kv.2=ps/\t∉aR g)\/(kv.1=t/\∃qs,(t,qs)∈g/\kv.2=qs++ps):=by
 unfold bj at h;by_cases e:ps=[]
 ·rw[Q1 e]at h;exact .inl ⟨h,λ_=>e⟩
 rw[Q0 e]at h;by_cases m:t∈aR g
 ·rw[Q1 m]at h;obtain⟨jv,hj,ej⟩:=List.mem_map.mp h;by_cases c:jv.1=t
  ·rw[Q1 c]at ej;exact .inr (.inr ⟨by rw[<- ej];exact c,jv.2,by rw[<- c];exact hj,by rw[<- ej]⟩)
  ·rw[Q0 c]at ej;rw[<- ej];exact .inl ⟨hj,λz=>Q5 z c⟩
 ·rw[Q0 m]at h;rcases qi.mp h with h|h
  ·exact .inl ⟨h,λz=>Q5 (List.mem_map.mpr ⟨kv,h,z⟩) m⟩
  ·rw[qT.mp h];exact .inr (.inl ⟨U,U,m⟩)
theorem aX.toGv(I:aX n loc (x::rem) S)(t:Int):aX n (put loc x (.gv t)) rem { S with gv:=bj S.gv t [x] }:=by
 refine⟨I.tr.off (I.notin I.tr nofun),λj=>(I.wt j).off (I.notin (I.wt j) nofun),λj=>(I.wr j).off (I.notin (I.wr j) nofun),show(aR (bj S.gv t [x])).Nodup from u9 I.gk,λkv h=>?_,I.rest⟩;have h:kv∈bj S.gv t [x]:=h;rcases lU h with⟨h,_⟩|⟨h1,h2,_⟩|⟨h1,qs,h2,h3⟩
 ·exact(I.gv kv h).off (I.notin (I.gv kv h) nofun)
 ·rw[h1,h2];exact OnL.snoc (ys:=[]) OnL.nil (λz=>nomatch z) I.not.2.1
 ·rw[h1,h3];exact(I.gv _ h2).snoc (I.notin (I.gv _ h2) nofun) I.not.2.1
theorem aX.free(I:aX n loc rem S)(now i:Int):aX n (f9 loc (.wr i.toNat) (.gv (now+1))) rem (bp now S i):=by
 refine⟨I.tr.other nofun,λj=>(I.wt j).other nofun,λj=>?_,show(aR (bj S.gv (now+1) (S.wr i.toNat))).Nodup from u9 I.gk,λkv h=>?_,I.rm.other nofun⟩
 ·show OnL n _ (.wr j) (put S.wr i.toNat [] j);by_cases e:j=i.toNat
  ·rw[e,aM];exact OnL.nil
  ·rw[az e];exact(I.wr j).other λz=>e (Loc.wr.inj z)
 ·rcases lU h with⟨h,_⟩|⟨h1,h2,_⟩|⟨h1,qs,h2,h3⟩
  ·exact(I.gv kv h).other nofun
  ·rw[h1,h2];exact OnL.app (ys:=[]) OnL.nil (I.wr _) nofun
  ·rw[h1,h3];exact(I.gv _ h2).app (I.wr _) nofun
theorem aX.frees(now:Int):∀(ws:List Int){loc:Nat->Loc}{S:PlS},aX n loc rem S->∃loc',aX n loc' rem (ws.foldl (bp now) S)
 |[],loc,_,I=>⟨loc,I⟩
 |i::ws,_,_,I=>aX.frees now ws (I.free now i)
theorem aX.eq(I:aX n loc rem S){S':PlS}(e1:S'.tr=S.tr)(e2:S'.wt=S.wt)(e3:S'.wr=S.wr)(e4:S'.gv=S.gv):aX n loc rem S':=
 ⟨by rw[e1];exact I.tr,by rw[e2];exact I.wt,by rw[e3];exact I.wr,by rw[e4];exact I.gk,by rw[e4];exact I.gv,I.rm⟩
theorem aX.turn(I:aX n loc [] S){k:Int}{r:List Nat}(hk:k∈aR S.gv)(p:r.Perm (atG S.gv k)):aX n (f9 loc (.gv k) .rem) r { S with gv:=cG S.gv k }:=by
 have q:OnL n _ .rem (atG S.gv k):=OnL.app (ys:=[]) I.rm (I.gv _ (gG hk)) nofun
 refine⟨I.tr.other nofun,λj=>(I.wt j).other nofun,λj=>(I.wr j).other nofun,zN I.gk,λkv h=>?_,q.perm p⟩;have h:=List.mem_filter.mp h;exact(I.gv kv h.1).other λz=>Qd h.2 (Loc.gv.inj z)
theorem aX.half(I:aX n loc [] S){r:List Nat}(p:r.Perm S.tr):aX n (f9 loc .tr .rem) r { S with tr:=[] }:=
 ⟨OnL.nil,λj=>(I.wt j).other nofun,λj=>(I.wr j).other nofun,I.gk,λkv h=>(I.gv kv h).other nofun,(OnL.app (ys:=[]) I.rm I.tr nofun).perm p⟩
end
inductive Rl
 |b|lg|hl|tl|gd|tk|wrl|wtl
 |qo (i:Nat)
 |ql (i:Nat)
 |wr (i:Nat)
 |wt (i:Nat)
 |gv (k:Int)
 deriving DecidableEq
def at'{α:Type}(f:Rl->α)(r:Rl)(v:α):Rl->α:=λs=>if s=r then v else f s
theorem bR{α:Type}{f:Rl->α}{r:Rl}{v:α}:at' f r v r=v:=Q1 U
theorem bq{α:Type}{f:Rl->α}{r s:Rl}{v:α}(h:s≠r):at' f r v s=f s:=Q0 h
structure bf(H0 H:Hp)(D:Rl->Prop)(ad:Rl->Addr)(c:Rl->HO):Prop where
 sa:a9 H0 H
 nw:∀r,D r->H0 (ad r)=none
 inj:∀r s,D r->D s->ad r=ad s->r=s
 av:∀r,D r->H (ad r)=some (c r)
section
variable {H0 H:Hp}{D:Rl->Prop}{ad:Rl->Addr}{c:Rl->HO}
theorem bf.put(M:bf H0 H D ad c)(r:Rl)(h:D r)(o:HO):bf H0 (upd H (ad r) o) D ad (at' c r o):=
 ⟨λx p hx=>by rw[aj λz=>by rw[z,M.nw r h]at hx;cases hx];exact M.sa x p hx,M.nw,M.inj,λs hs=>by
  by_cases e:s=r
  ·rw[e,af,bR]
  ·rw[aj λz=>e (M.inj s r hs h z),bq e];exact M.av s hs⟩
theorem bf.new(M:bf H0 H D ad c)(r:Rl){x:Addr}(hx:H x=none)(o:HO):bf H0 (upd H x o) (λs=>s=r\/D s) (at' ad r x) (at' c r o):=by
 have ne:∀s,D s->ad s≠x:=λs hs z=>by have:=M.av s hs;rw[z,hx]at this;cases this
 refine⟨λy p hy=>a9.new hx _ _ _ (M.sa y p hy),λs hs=>?_,λs t hs ht e=>?_,λs hs=>?_⟩
 ·by_cases e:s=r
  ·rw[e,bR];exact a9.none M.sa hx
  ·rw[bq e];exact M.nw s (hs.resolve_left e)
 ·by_cases e1:s=r
  ·by_cases e2:t=r
   ·rw[e1,e2]
   ·rw[e1,bR,bq e2]at e;exact Q5 e.symm (ne t (ht.resolve_left e2))
  ·by_cases e2:t=r
   ·rw[e2,bR,bq e1]at e;exact Q5 e (ne s (hs.resolve_left e1))
   ·rw[bq e1,bq e2]at e;exact M.inj s t (hs.resolve_left e1) (ht.resolve_left e2) e
 ·by_cases e:s=r
  ·rw[e,bR,bR,af]
  ·rw[bq e,bq e,aj (ne s (hs.resolve_left e))];exact M.av s (hs.resolve_left e)
theorem bf.base(M:bf H0 H D ad c){x:Addr}(hx:H x=none)(o:HO):bf (upd H0 x o) (upd H x o) D ad c:=by
 have ne:∀s,D s->ad s≠x:=λs hs z=>by have:=M.av s hs;rw[z,hx]at this;cases this
 refine⟨λy p hy=>?_,λs hs=>by rw[aj (ne s hs)];exact M.nw s hs,M.inj,λs hs=>by rw[aj (ne s hs)];exact M.av s hs⟩;by_cases e:y=x
 ·rw[e,af]at hy ⊢;exact hy
 ·rw[aj e]at hy ⊢;exact M.sa y p hy
theorem bf.more(M:bf H0 H D ad c){H':Hp}(s:a9 H H'):∃H0',a9 H0 H0'/\(∀x o,H x=none->H' x=some o->H0' x=some o)/\bf H0' H' D ad c:=by
 classical
 refine⟨λx=>if H x=none then H' x else H0 x,λx o h=>?_,λx o hx h=>(Q1 hx).trans h,λx o h=>?_,λr hr=>?_,M.inj,λr hr=>s _ _ (M.av r hr)⟩
 ·show(if H x=none then H' x else H0 x)=_;rw[Q0 (by rw[M.sa _ _ h];exact λz=>by cases z)];exact h
 ·have h:(if H x=none then H' x else H0 x)=some o:=h;split at h
  ·exact h
  ·exact s _ _ (M.sa _ _ h)
 ·show(if H (ad r)=none then H' (ad r)else H0 (ad r))=_;rw[Q0 (by rw[M.av r hr];exact λz=>by cases z)];exact M.nw r hr
theorem bf.less(M:bf H0 H D ad c){D':Rl->Prop}(h:∀r,D' r->D r){c':Rl->HO}(e:∀r,D' r->c r=c' r):bf H0 H D' ad c':=
 ⟨M.sa,λr hr=>M.nw r (h r hr),λr s hr hs=>M.inj r s (h r hr) (h s hs),λr hr=>by rw[<- e r hr];exact M.av r (h r hr)⟩
end
structure PlC where
 b:Addr
 dx:Addr
 y:Addr
 dy:Addr
 la:Addr
 lq:Addr
 dl:Addr
 pc:Addr
 dq:Nat->Addr
 qo:Nat->Addr
 us:List V
 pv:List V
 n:Nat
 nl:Nat
 prt:Nat->PR
 ls:Nat->Option Int
 pace:List (List Int)
structure PlB(a:Adr)(H0:Hp)(C:PlC):Prop where
 yo:H0 C.y=some (.ins a.r9 C.dy [("lengths",.ref C.la),("queues",.ref C.lq)])
 la:H0 C.la=some (.lst ((List.range C.nl).map λi=>db (C.ls i)))
 lq:H0 C.lq=some (.lst ((List.range C.nl).map λi=>V.ref (C.qo i)))
 dl:H0 C.dl=some (.lst C.us)
 du:∀x,x<C.n->∃v,C.us[x]?=some v/\RPt a H0 v (C.prt x)
 pc:H0 C.pc=some (.lst C.pv)
 pr:RIs H0 C.pv C.pace
 ok:∀x,x<C.n->(C.prt x).ok/\(C.prt x).fit C.nl
 n:C.n<60
 nl:C.nl<=1000
 pl:C.pace.length<=1000
 pb:∀r∈C.pace,r.length<=1000
theorem PlB.same{a:Adr}{H H':Hp}{C:PlC}(B:PlB a H C)(s:a9 H H'):PlB a H' C:=
 ⟨s _ _ B.yo,s _ _ B.la,s _ _ B.lq,s _ _ B.dl,λx hx=>let ⟨v,e,h⟩:=B.du x hx;⟨v,e,h.same s⟩,s _ _ B.pc,B.pr.same s,B.ok,B.n,B.nl,B.pl,B.pb⟩
def plN:List Str:=["yard","doers","pace","spare","log","held","takings","givers","takers","without_room","without_thing"]
def plV(C:PlC)(ad:Rl->Addr)(sp:Nat):List V:=[.ref C.y,.ref C.dl,.ref C.pc,.int sp,.ref (ad .lg),.ref (ad .hl),.ref (ad .tl),.ref (ad .gd),.ref (ad .tk),.ref (ad .wrl),.ref (ad .wtl)]
def plO(a:Adr)(C:PlC)(ad:Rl->Addr)(sp:Nat):HO:=.ins a.gt C.dx (plN.zip (plV C ad sp))
def cnP(a:Adr)(C:PlC)(ad:Rl->Addr)(hd:Nat->Addr)(lgv:List V)(S:PlS):Rl->HO
 |.b=>plO a C ad S.sp
 |.lg=>.lst lgv
 |.hl=>.lst ((List.range C.n).map λx=>V.ref (hd x))
 |.tl=>.lst ((List.range C.n).map λx=>V.int (S.tks x))
 |.gd=>.dK (S.gv.map λkv=>(Sum.inl kv.1,V.ref (ad (.gv kv.1))))
 |.tk=>.lst (aE S.tr)
 |.wrl=>.lst ((List.range C.nl).map λi=>V.ref (ad (.wr i)))
 |.wtl=>.lst ((List.range C.nl).map λi=>V.ref (ad (.wt i)))
 |.qo i=>.ins a.or (C.dq i) [("laid",.ref (ad (.ql i))),("gone",.int (S.st i).2)]
 |.ql i=>.lst ((S.st i).1.map V.int)
 |.wr i=>.lst (aE (S.wr i))
 |.wt i=>.lst (aE (S.wt i))
 |.gv k=>.lst (aE (atG S.gv k))
def dmP(nl:Nat)(ks:List Int):Rl->Prop
 |.qo i=>i<nl
 |.ql i=>i<nl
 |.wr i=>i<nl
 |.wt i=>i<nl
 |.gv k=>k∈ks
 |_=>True
inductive REs(H:Hp):List V->List Ent->Prop
 |nil:REs H [] []
 |cons {p l:Addr}{vs us:List V}{e:Ent}{es:List Ent}:H p=some (.tup [.int e.now,.int e.part,.str (if e.took then "took" else "gave"),.ref l])->H l=some (.lst us)->RPs H us e.hs->REs H vs es->REs H (.ref p::vs) (e::es)
theorem REs.same{H H':Hp}(s:a9 H H'):∀{vs:List V}{es:List Ent},REs H vs es->REs H' vs es
 |_,_,.nil=>.nil
 |_,_,.cons a b c r=>.cons (s _ _ a) (s _ _ b) (c.same s) (REs.same s r)
theorem REs.snoc{H:Hp}{p l:Addr}{us:List V}{e:Ent}(h1:H p=some (.tup [.int e.now,.int e.part,.str (if e.took then "took" else "gave"),.ref l]))(h2:H l=some (.lst us))(h3:RPs H us e.hs):∀{vs:List V}{es:List Ent},REs H vs es->REs H (vs++[.ref p]) (es++[e])
 |_,_,.nil=>.cons h1 h2 h3 .nil
 |_,_,.cons a b c r=>.cons a b c (REs.snoc h1 h2 h3 r)
theorem REs.len{H:Hp}:∀{vs:List V}{es:List Ent},REs H vs es->vs.length=es.length
 |_,_,.nil=>rfl
 |_,_,.cons _ _ _ r=>congrArg (·+1) (REs.len r)
structure PlH(a:Adr)(H0 H:Hp)(C:PlC)(ad:Rl->Addr)(hd:Nat->Addr)(lgv:List V)(S:PlS):Prop where
 own:bf H0 H (dmP C.nl (aR S.gv)) ad (cnP a C ad hd lgv S)
 b:ad .b=C.b
 qo:∀i,i<C.nl->ad (.qo i)=C.qo i
 hd:∀x,x<C.n->∃vs,H0 (hd x)=some (.lst vs)/\RPs H0 vs (S.held x)
 lg:REs H0 lgv S.lg
structure cV(C:PlC)(k:Nat)(S:PlS):Prop where
 st:∀i,(S.st i).1.length+k<=10000000/\(S.st i).2<=(S.st i).1.length
 lg:S.lg.length+k<=10000000
 gv:S.gv.length+k<=10000000
 on:∀i,∀v∈(S.st i).1,OnW v
 hn:∀x,x<C.n->(∀p∈S.held x,0<=p.1/\p.1<C.nl/\OnW p.2)/\(S.held x).length<=10/\((S.held x).map λp=>p.1.toNat).Nodup
structure Gd(C:PlC)(k:Nat)(rem:List Nat)(S:PlS):Prop where
 loc:∃loc,aX C.n loc rem S
 cap:cV C k S
def bL(S:PlS):Nat:=130 * (3 * S.sp+S.gv.length)
inductive oV(a:Adr)(vs:List V)(H:Hp)(Q:VK)(E:XK):Prop
 |mk (H0:Hp) (C:PlC) (ad:Rl->Addr) (hd:Nat->Addr) (lgv:List V) (S:PlS) (x:Nat) (h0_:vs=[.ref C.b,.int x]) (h1_:PlB a H0 C) (h2_:PlH a H0 H C ad hd lgv S) (h3_:x<C.n) (h4_:Q (.int (bw C.pace x (S.tks x))) H):oV a vs H Q E
inductive oX(a:Adr)(vs:List V)(H:Hp)(Q:VK)(E:XK):Prop
 |mk (H0:Hp) (C:PlC) (ad:Rl->Addr) (hd:Nat->Addr) (lgv:List V) (S:PlS) (t:Int) (l:Addr) (ps:List Nat) (h0_:vs=[.ref C.b,.int t,.ref l]) (h1_:PlB a H0 C) (h2_:PlH a H0 H C ad hd lgv S) (h3_:H l=some (.lst (aE ps))) (h4_:(∀k∈aR S.gv,l≠ad (.gv k))) (h5_:S.gv.length<10000000) (h6_:ps.length<=1000) (h7_:(∀kv∈S.gv,kv.2.length<=1000)) (h8_:(aR S.gv).Nodup /\
 ∀H' ad',PlH a H0 H' C ad' hd lgv { S with gv:=bj S.gv t ps }->(∀r,(∀k,r≠.gv k)->ad' r=ad r)->Q .non H'):oX a vs H Q E
inductive oW(a:Adr)(vs:List V)(H:Hp)(Q:VK)(E:XK):Prop
 |mk (H0:Hp) (C:PlC) (ad:Rl->Addr) (hd:Nat->Addr) (lgv:List V) (S:PlS) (now:Int) (x:Nat) (rem:List Nat) (h0_:vs=[.ref C.b,.int now,.int x]) (h1_:PlB a H0 C) (h2_:PlH a H0 H C ad hd lgv S) (h3_:Gd C 20 (x::rem) S /\
 ∀H0' H' ad' lgv',a9 H0 H0'->PlH a H0' H' C ad' hd lgv' (cS C.ls S now x)->Q .non H'):oW a vs H Q E
inductive oU(a:Adr)(vs:List V)(H:Hp)(Q:VK)(E:XK):Prop
 |mk (H0:Hp) (C:PlC) (ad:Rl->Addr) (hd:Nat->Addr) (lgv:List V) (S:PlS) (now:Int) (x:Nat) (rem:List Nat) (h0_:vs=[.ref C.b,.int now,.int x]) (h1_:PlB a H0 C) (h2_:PlH a H0 H C ad hd lgv S) (h3_:Gd C 20 (x::rem) S /\
 (∀i,dE S (aB S (C.prt x))=some i->∀H0' H',a9 H0 H0'->PlH a H0' H' C ad hd lgv (gP S i.toNat x)->Q (.bl true) H') /\
 (dE S (aB S (C.prt x))=none->S.sp=0->∀H0' H',a9 H0 H0'->PlH a H0' H' C ad hd lgv S->Q (.bl false) H') /\
 (dE S (aB S (C.prt x))=none->S.sp≠0->∀H0' H' ad' hd' lgv',a9 H0 H0'->PlH a H0' H' C ad' hd' lgv' (be (C.prt x) C.pace S now x)->Q (.bl true) H')):oU a vs H Q E
def io(C:PlC)(S S':PlS)(q:Bool->Prop):Prop:=(bE C.ls C.prt C.pace S .top S'->S'.gv=[]->q true)/\∀k x r,bE C.ls C.prt C.pace S (.tak k (x::r)) S'->dE S' (aB S' (C.prt x))=none->S'.sp=0->q false
inductive oT(a:Adr)(vs:List V)(H:Hp)(Q:VK)(E:XK):Prop
 |mk (H0:Hp) (C:PlC) (ad:Rl->Addr) (hd:Nat->Addr) (lgv:List V) (S:PlS) (h0_:vs=[.ref C.b]) (h1_:PlB a H0 C) (h2_:PlH a H0 H C ad hd lgv S) (h3_:Gd C (bL S+20) [] S) (h4_:∀H0' H' ad' hd' lgv' S',a9 H0 H0'->PlH a H0' H' C ad' hd' lgv' S'->io C S S' (λb=>Q (.bl b) H')):oT a vs H Q E
inductive nP(vs:List V)(H:Hp)(Q:VK)(E:XK):Prop
 |mk (v:V) (l:Addr) (s:Sd) (xs:List Int) (h0_:vs=[v,.ref l]) (h1_:RS H v s) (h2_:s.ok xs.length) (h3_:H l=some (.lst (xs.map V.int))) (h4_:Q (.int (s.worth xs)) H):nP vs H Q E
inductive oa(vs:List V)(H:Hp)(Q:VK)(E:XK):Prop
 |mk (v:V) (l:Addr) (s:Sd) (xs:List Int) (h0_:vs=[v,.ref l]) (h1_:RS H v s) (h2_:s.ok xs.length) (h3_:H l=some (.lst (xs.map V.int))) (h4_:Q (.int (s.worth xs)) H):oa vs H Q E
inductive g6(a:Adr)(n:Nat)(vs:List V)(H:Hp)(Q:VK)(E:XK):Prop
 |mk (v:V) (l:Addr) (r:PR) (xs:List Int) (h0_:vs=[v,.ref l]) (h1_:r.kind=n) (h2_:RPt a H v r) (h3_:r.ok) (h4_:H l=some (.lst (xs.map V.int))) (h5_:xs.length=r.wide) (h6_:(∀x∈xs,OnW x)) (h7_:∀H' l' us,a9 H H'->H l'=none->H' l'=some (.lst us)->gM H us->RPs H' us (r.made xs)->Q (.ref l') H'):g6 a n vs H Q E
inductive nN(a:Adr)(vs:List V)(H:Hp)(Q:VK)(E:XK):Prop
 |mk (H0:Hp) (v:V) (r:PR) (h0_:vs=[v]) (h1_:a9 H0 H) (h2_:RR H0 v r) (h3_:∀H' p,a9 H H'->H p=none->(∀K0,a9 H0 K0->(∀x o,H x=none->H' x=some o->K0 x=some o)->RPt a K0 (.ref p) r)->Q (.ref p) H'):nN a vs H Q E
inductive iC(a:Adr)(m:Bool)(vs:List V)(H:Hp)(Q:VK)(E:XK):Prop
 |mk (C:PlC) (S:PlS) (v:V) (r:PR) (qs:List (Addr×Addr×Addr)) (ls:List (Option Int)) (h0_:vs=[v,.ref C.y]) (h1_:decide (r.kind=3)=m) (h2_:RPt a H v r) (h3_:r.ok) (h4_:r.fit C.nl) (h5_:RY a H C.y C.dy C.la C.lq qs ((List.range C.nl).map S.st) ls) (h6_:∀H' t,a9 H H'->(H' t=some (.tup ((aB S r).map V.int)))->Q (.ref t) H'):iC a m vs H Q E
def RPc(H:Hp)(v:V)(pace:List (List Int)):Prop:=(v=.non/\pace=[])\/∃pc pv,v=.ref pc/\H pc=some (.lst pv)/\RIs H pv pace
inductive oB(K:W.Frag)(vs:List V)(H:Hp)(Q:VK)(E:XK):Prop
 |mk (l:Addr) (ns:List Int) (k:Int) (h0_:vs=[.ref l,.int k]) (h1_:SqL K H l (ns.map V.int)) (h2_:0<=k) (h3_:∀c:Int,Q (.int c) H):oB K vs H Q E
inductive nS(vs:List V)(H:Hp)(Q:VK)(E:XK):Prop
 |mk (c k:Int) (h0_:vs=[.int c,.int k]) (h1_:(0<=k/\k<=2147483647)) (h2_:∀m:Int,OnW m->Q (.int m) H):nS vs H Q E
inductive oo(vs:List V)(H:Hp)(Q:VK)(E:XK):Prop
 |mk (c k:Int) (h0_:vs=[.int c,.int k]) (h1_:(0<=k/\k<=1000)) (h2_:∀H' p t (x:Ln),a9 H H'->H' p=some (.tup [db x.1,.ref t])->H' t=some (.tup (x.2.map V.int))->x.2.length<=4->(∀n∈x.2,OnW n)->Q (.ref p) H'):oo vs H Q E
inductive nX(vs:List V)(H:Hp)(Q:VK)(E:XK):Prop
 |mk (c k:Int) (h0_:vs=[.int c,.int k]) (h1_:(0<=k/\k<=1000)) (h2_:∀H' l (xs:List Int),a9 H H'->H l=none->H' l=some (.lst (xs.map V.int))->(∀x∈xs,0<=x)->xs.length<=4->Q (.ref l) H'):nX vs H Q E
inductive o9(K:W.Frag)(vs:List V)(H:Hp)(Q:VK)(E:XK):Prop
 |mk (l:Addr) (ns:List Int) (way:Int) (h0_:vs=[.ref l,.int way]) (h1_:SqL K H l (ns.map V.int)) (h2_:ns.length<=63) (h3_:(0<=way/\way<2147483647)) (h4_:∀H' v pace,a9 H H'->RPc H' v pace->pace.length<=16->(∀r∈pace,r.length<=4/\∀x∈r,0<=x)->Q v H'):o9 K vs H Q E
inductive gQ(K:W.Frag)(vs:List V)(H:Hp)(Q:VK)(E:XK):Prop
 |mk (a:Addr) (ns:List Int) (h0_:vs=[.ref a]) (h1_:SqL K H a (ns.map V.int)) (h2_:ns.length<=63) (h3_:(∀n∈ns,Builtin.Int.intBits n<=2 ^ 20)) (h4_:jl H) (h5_:∀H',Q (.bl true) H'):gQ K vs H Q E
theorem ln1:1<=sizeLine:=Yd
theorem ln2:2<=sizeLine:=Yd
theorem ss:3<=sizeLine:=Yd
theorem ln4:4<=sizeLine:=Yd
theorem ln5:5<=sizeLine:=Yd
theorem ln6:6<=sizeLine:=Yd
section
variable {P:Program}{w:World}{K:W.Frag}{mg:Str->Option Value}{base:Heap}{a:Adr}
theorem i7{v u:V}:List.lookup ("laid":Str) [(("laid":Str),v),("gone",u)]=some v:=dA
theorem i8{v u:V}:List.lookup ("gone":Str) [(("laid":Str),v),("gone",u)]=some u:=(aZ Qz).trans dA
theorem gC{k:Str}{v u:V}(h:((k == ("laid":Str)) || (k == ("gone":Str)))=false):List.lookup k [(("laid":Str),v),("gone",u)]=none:=by
 rw[Bool.or_eq_false_iff]at h;rw[aZ h.1,aZ h.2]
 rfl
theorem zy{v u:V}:List.lookup ("lengths":Str) [(("lengths":Str),v),("queues",u)]=some v:=dA
theorem i6{v u:V}:List.lookup ("queues":Str) [(("lengths":Str),v),("queues",u)]=some u:=(aZ Qz).trans dA
theorem fO{k:Str}{v u:V}(h:((k == ("lengths":Str)) || (k == ("queues":Str)))=false):List.lookup k [(("lengths":Str),v),("queues",u)]=none:=by
 rw[Bool.or_eq_false_iff]at h;rw[aZ h.1,aZ h.2]
 rfl
theorem yC(T:Tx P w K mg a):aA P w K mg base CX0 1 a.BZ a.C1 ["self","things"] (oS K a):=by
 refine T.FA.ok vS (λvs H Q E h=>?_) (λcdv A outer s H vs Q E hr h=>?_)
 ·obtain⟨_,_,_,_,rfl,_⟩:=h
  rfl
 obtain⟨p,dx,t,xs,rfl,hp,ht,k⟩:=h
 refine⟨_,(ae (bA (pq 0) (gx kT U T.Bp PyProof.Rows.Boot.«list» (a8 (pq 1) ac)) U)
  (ah (bA (pq 0) aa U))),?_⟩
 refine⟨_,U,t,_,U,.inr ht,λl hl=>?_⟩;have ne:p≠l:=λz=>by rw[z,hl]at hp;cases hp
 refine⟨_,U,p,a.or,dx,[],U,by rw[aj ne];exact hp,T.wE,T.BB,by simp,?_⟩;rw[cy [] U Qz,Ql];refine⟨_,U,p,a.or,dx,_,U,af,T.wE,T.Bv,by simp,?_⟩;rw[cy ["laid"] U Qz,d6];exact k l hl
theorem rR(T:Tx P w K mg a):aA P w K mg base CX0 1 a.C2 a.C3 ["self"] (oO a):=by
 refine T.FC.ok vO (λvs H Q E h=>?_) (λcdv A outer s H vs Q E hr h=>?_)
 ·obtain⟨_,_,rfl,_⟩:=h
  rfl
 obtain⟨q,st,rfl,⟨h1,h2,h3,h4⟩,k⟩:=h;refine⟨_,(ah (ak (ai fD (bh bG U T.ld Q8 (a8 (aH (pq 0) U) ac)) (aH (pq 0) U)))),?_⟩;refine⟨_,U,q.1,_,_,_,_,U,h1,T.wE,T.BB,i7,q.2.2,_,U,.inl (SqL.of h2),?_⟩;refine⟨_,U,q.1,_,_,_,_,U,h1,T.wE,T.Bv,i8,_,_,U,U,?_⟩;rw[qa];exact k
theorem yB(T:Tx P w K mg a):aA P w K mg base CX0 2 a.C4 a.C5 ["self"] (oR a):=by
 refine T.FD.ok vR (λvs H Q E h=>?_) (λcdv A outer s H vs Q E hr h=>?_)
 ·obtain⟨_,_,rfl,_⟩:=h
  rfl
 obtain⟨q,st,rfl,rq,k⟩:=h;refine⟨_,(ah (ak (dH (ap fE (fH (pq 0) T.wE T.Fi (rR T) (hr.mono Yd) T.Er .nil ar) aa (ao _)) (ag aN (aH (pq 0) U) (aH (pq 0) U) Oy) cX))),?_⟩;obtain⟨h1,h2,h3,h4⟩:=id rq;refine⟨_,U,q.1,_,_,U,h1,gC Qz,q,st,U,rq,_,_,U,U,_,U,?_⟩;unfold jc at k;refine bc (λc=>?_) (λc=>?_)
 ·have lt:st.2<st.1.length:=by
   have:=Qd c;omega
  rw[List.drop_eq_getElem_cons lt]at k;have e1:atI (st.1.map V.int) (st.2:Int)=some (.int st.1[st.2]):=bT (by rw[qF,qd lt];rfl);exact⟨_,U,q.1,_,_,_,_,U,h1,T.wE,T.BB,i7,_,U,q.1,_,_,_,_,U,h1,T.wE,T.Bv,i8,q.2.2,_,_,_,U,U,SqL.of h2,e1,k⟩
 ·have le:st.1.length<=st.2:=by
   have:=c;simp at this;omega
  rw[List.drop_of_length_le le]at k;exact k
theorem zJ{xs:List Int}(h:xs.length<=10000000):(xs.map V.int).length<sizeLine:=by
 have:(10000000:Nat)<sizeLine:=Yd;rw[qa];omega
theorem yA(T:Tx P w K mg a):aA P w K mg base CX0 1 a.C6 a.C7 ["self","thing"] (oQ a):=by
 refine T.FF.ok vQ (λvs H Q E h=>?_) (λcdv A outer s H vs Q E hr h=>?_)
 ·obtain⟨_,_,_,rfl,_⟩:=h
  rfl
 obtain⟨q,st,x,rfl,⟨h1,h2,h3,h4⟩,k⟩:=h;refine⟨_,(ah (bO (cD qh qw qx d8 (aH (pq 0) U) (a8 (pq 1) ac)))),?_⟩;refine⟨_,U,q.1,_,_,_,_,U,h1,T.wE,T.BB,i7,.inl ⟨U,_,SqL.of h2⟩,_,U,q.2.2,_,_,U,U,h2,zJ h4,?_⟩;rw[qP]at k;exact k
theorem yy(T:Tx P w K mg a):aA P w K mg base CX0 1 a.C8 a.C9 ["self"] (oN a):=by
 refine T.FH.ok pL (λvs H Q E h=>?_) (λcdv A outer s H vs Q E hr h=>?_)
 ·obtain⟨_,_,_,rfl,_⟩:=h
  rfl
 obtain⟨q,st,x,rfl,⟨h1,h2,h3,h4⟩,hx,k⟩:=h
 refine⟨_,(ae (aT (i:=1) pL.nd U Oi (ag aN (aH (pq 0) U) (aH (pq 0) U) Oy))
  (ae (bA (pq 0) (ai bx (aH (pq 0) U) aa) U)
  (ah (ak (pq 1))))),?_⟩
 have e1:atI (st.1.map V.int) (st.2:Int)=some (.int x):=bT (by rw[qF,hx];rfl);refine⟨_,U,q.1,_,_,_,_,U,h1,T.wE,T.BB,i7,_,U,q.1,_,_,_,_,U,h1,T.wE,T.Bv,i8,q.2.2,_,_,_,U,U,SqL.of h2,e1,?_⟩;refine⟨_,U,q.1,_,_,_,_,U,h1,T.wE,T.Bv,i8,_,_,U,U,_,U,q.1,_,_,_,U,h1,T.wE,T.Bv,by simp,?_⟩;refine⟨_,U,?_⟩
 have e2:bz (("gone":Str)) (V.int ((st.2:Int)+1)) [(("laid":Str),V.ref q.2.2),(("gone":Str),V.int st.2)]=[(("laid":Str),V.ref q.2.2),(("gone":Str),V.int ((st.2+1:Nat):Int))]:=by
  rw[bz,Q0 Qz,bz,Q1 U]
  rfl
 rw[e2];exact k
theorem yz(T:Tx P w K mg a):aA P w K mg base CX0 1 a.Ca a.Cb ["self"] (oP a):=by
 refine T.FJ.ok vP (λvs H Q E h=>?_) (λcdv A outer s H vs Q E hr h=>?_)
 ·obtain⟨_,_,rfl,_⟩:=h
  rfl
 obtain⟨q,st,rfl,⟨h1,h2,h3,h4⟩,k⟩:=h;refine⟨_,(ah (ak (eB jE (aH (pq 0) U) (cg (aH (pq 0) U)) fG))),?_⟩;refine⟨_,U,q.1,_,_,_,_,U,h1,T.wE,T.BB,i7,_,U,q.1,_,_,_,_,U,h1,T.wE,T.Bv,i8,_,U,q.2.2,_,U,SqL.of h2,λl hl=>?_⟩
 have e:cq (st.1.map V.int) (some (st.2:Int)) none=(st.1.drop st.2).map V.int:=by
  unfold cq;rw[HT.sIx_nat];have e2:HT.sIx (st.1.map V.int).length (st.1.map V.int).length none=(st.1.map V.int).length:=U;rw[e2,qa,Nat.min_eq_left h3,List.map_drop,List.take_of_length_le (by rw[qZ,qa];omega)]
 rw[e];exact k l hl
theorem RQ.same{H H':Hp}{q:Addr×Addr×Addr}{s:List Int×Nat}(e:a9 H H')(h:RQ a H q s):RQ a H' q s:=⟨e _ _ h.1,e _ _ h.2.1,h.2.2.1,h.2.2.2⟩
theorem RY.at{H:Hp}{y dx la lq:Addr}{qs:List (Addr×Addr×Addr)}{st:List (List Int×Nat)}{ls:List (Option Int)}(h:RY a H y dx la lq qs st ls){i:Int}{s:List Int×Nat}(h0:0<=i)(hs:st[i.toNat]?=some s):∃q,qs[i.toNat]?=some q/\RQ a H q s/\atI (qs.map λq=>V.ref q.1) i=some (.ref q.1):=by
 have lt:i.toNat<qs.length:=by
  have:=(qg.mp hs).1;have:=h.n;omega
 have e:qs[i.toNat]?=some qs[i.toNat]:=qd lt;have ei:i=(i.toNat:Int):=(Int.toNat_of_nonneg h0).symm;refine⟨_,e,h.q _ _ _ e hs,?_⟩;exact gI h0 (by rw[qF,e];rfl)
theorem yu(T:Tx P w K mg a):aA P w K mg base CX0 3 a.Cl a.Cm ["self","line"] (oI a):=by
 refine T.FU.ok vL (λvs H Q E h=>?_) (λcdv A outer s H vs Q E hr h=>?_)
 ·obtain⟨_,_,_,_,_,_,_,_,_,rfl,_⟩:=h
  rfl
 obtain⟨y,dx,la,lq,qs,st,ls,i,s,rfl,ry,i0,hs,k⟩:=h;refine⟨_,(ah (ak (fH (ag aN (aH (pq 0) U) (pq 1) Oy) T.wE T.HM (yB T) (hr.mono Yd) T.FE .nil ar))),?_⟩;obtain⟨q,hq,rq,e⟩:=ry.at i0 hs;exact⟨_,U,y,_,_,_,_,U,ry.o,T.wT,T.BC,i6,_,U,lq,_,_,_,U,U,SqL.of ry.l,e,q.1,_,_,U,rq.1,gC Qz,q,s,U,rq,k⟩
theorem yt(T:Tx P w K mg a):aA P w K mg base CX0 3 a.Cn a.Co ["self","line","thing"] (oH a):=by
 refine T.FW.ok vK (λvs H Q E h=>?_) (λcdv A outer s H vs Q E hr h=>?_)
 ·obtain⟨_,_,_,_,_,_,_,_,_,_,_,rfl,_⟩:=h
  rfl
 obtain⟨y,dx,la,lq,qs,st,ls,i,x,q,s,rfl,ry,i0,hs,hq',k⟩:=h;refine⟨_,(ah (bO (dw (ag aN (aH (pq 0) U) (pq 1) Oy) T.wE T.HN (yA T) (hr.mono Yd) T.FG .nil ar (a8 (pq 2) ac)))),?_⟩;obtain⟨q2,hq,rq,e⟩:=ry.at i0 hs;rw[hq']at hq;cases hq;exact⟨_,U,y,_,_,_,_,U,ry.o,T.wT,T.BC,i6,_,U,lq,_,_,_,U,U,SqL.of ry.l,e,q.1,_,_,U,rq.1,gC Qz,_,U,q,s,x,U,rq,k⟩
theorem yk(T:Tx P w K mg a):aA P w K mg base CX0 3 a.Cp a.Cq ["self","line"] (oC a):=by
 refine T.FY.ok vH (λvs H Q E h=>?_) (λcdv A outer s H vs Q E hr h=>?_)
 ·obtain⟨_,_,_,_,_,_,_,_,_,_,_,rfl,_⟩:=h
  rfl
 obtain⟨y,dx,la,lq,qs,st,ls,i,x,q,s,rfl,ry,i0,hs,hq',hx,k⟩:=h;refine⟨_,(ah (ak (fH (ag aN (aH (pq 0) U) (pq 1) Oy) T.wE T.HP (yy T) (hr.mono Yd) T.FI .nil ar))),?_⟩;obtain⟨q2,hq,rq,e⟩:=ry.at i0 hs;rw[hq']at hq;cases hq;exact⟨_,U,y,_,_,_,_,U,ry.o,T.wT,T.BC,i6,_,U,lq,_,_,_,U,U,SqL.of ry.l,e,q.1,_,_,U,rq.1,gC Qz,q,s,x,U,rq,hx,k⟩
theorem rQ(T:Tx P w K mg a):aA P w K mg base CX0 2 a.Ch a.Ci ["self","line"] (oG a):=by
 refine T.FR.ok vJ (λvs H Q E h=>?_) (λcdv A outer s H vs Q E hr h=>?_)
 ·obtain⟨_,_,_,_,_,_,_,_,_,rfl,_⟩:=h
  rfl
 obtain⟨y,dx,la,lq,qs,st,ls,i,s,rfl,ry,i0,hs,k⟩:=h;refine⟨_,(ah (ak (fH (ag aN (aH (pq 0) U) (pq 1) Oy) T.wE T.Fi (rR T) (hr.mono Yd) T.Er .nil ar))),?_⟩;obtain⟨q,hq,rq,e⟩:=ry.at i0 hs;exact⟨_,U,y,_,_,_,_,U,ry.o,T.wT,T.BC,i6,_,U,lq,_,_,_,U,U,SqL.of ry.l,e,q.1,_,_,U,rq.1,gC Qz,q,s,U,rq,k⟩
theorem yq(T:Tx P w K mg a):aA P w K mg base CX0 3 a.Cj a.Ck ["self","line"] (oF a):=by
 refine T.FS.ok pK (λvs H Q E h=>?_) (λcdv A outer s H vs Q E hr h=>?_)
 ·obtain⟨_,_,_,_,_,_,_,_,_,_,rfl,_⟩:=h
  rfl
 obtain⟨y,dx,la,lq,qs,st,ls,i,s,L,rfl,ry,i0,hs,hL,k⟩:=h
 refine⟨_,(ae (aT (i:=2) pK.nd U Oi (ag aN (aH (pq 0) U) (pq 1) Oy))
  (ah (ak (rD (gw gp (pq 2) cX (ao _)) (lM (gw di (dw (pq 0) T.wT T.Fj (rQ T) (hr.mono Yd) T.Ev .nil ar (a8 (pq 1) ac)) (pq 2) (ao _))))))),?_⟩
 have e:atI (ls.map db) i=some (db L):=gI i0 (by rw[qF,hL];rfl);refine⟨_,U,y,_,_,_,_,U,ry.o,T.wT,T.Fk,zy,_,U,la,_,_,_,U,U,SqL.of ry.w,e,?_⟩
 cases L with
 |none=>exact⟨_,U,U,_,U,bo U k⟩
 |some m=>exact⟨_,U,U,_,U,aL U ⟨_,U,y,_,_,U,ry.o,fO Qz,_,U,y,dx,la,lq,qs,st,ls,i,s,U,ry,i0,hs,_,U,_,_,U,U,k⟩⟩
theorem yp(T:Tx P w K mg a):aA P w K mg base CX0 3 a.Cr a.Cs ["self"] (oE a):=by
 refine T.Ga.ok vI (λvs H Q E h=>?_) (λcdv A outer s H vs Q E hr h=>?_)
 ·obtain⟨_,_,_,_,_,_,_,rfl,_⟩:=h
  rfl
 obtain⟨y,dx,la,lq,qs,st,ls,rfl,ry,few,k⟩:=h;refine⟨_,(ah (ak (bY (k:=1) (Nc:=["queue"]) (js:=[]) (show aK (am iN) ["self"] _ 1 ["queue"] []from aK.mk U (by decide +kernel) (by decide +kernel) (by decide +kernel) U (by decide +kernel)) U (bH (aH (pq 0) U)) (λ_ _ _ _ _=>(aP (i:=0) (show List.Nodup (["queue"]:List Str)from by decide +kernel) U Oi)) (λ_ _ _ _ _=>bJ) (λ_ _ _ _ _=>(fH (pq 0) T.wE T.HQ (yz T) (hr.mono Yd) T.FK .nil ar))))),?_⟩;have hl:=ry.l;have ql:(qs.map λq=>V.ref q.1).length=qs.length:=qa _;refine⟨_,U,y,_,_,_,_,U,ry.o,T.wT,T.BC,i6,lq,U,⟨_,SqL.of hl⟩,?_⟩;refine dG (xs:=qs.map λq=>V.ref q.1) (λi ys σ H3=>(∃v,σ=[v])/\a9 H H3/\RIs H3 ys (eQ (st.take i))/\gM H ys) ⟨⟨none,U⟩,a9.refl _,.nil,λp h=>by simp at h⟩ ?_ (bb (m:=1000) Yk) ?_ ?_ ?_
 ·rintro i ys σ H3 _ ⟨_,_,r3,_⟩;rw[r3.len];unfold eQ;rw[qa,qL];omega
 ·rintro i ys σ H3 ⟨_,s3,_⟩;exact SqL.of (s3 _ _ hl)
 ·rintro i x ys σ H3 hx ⟨⟨v,rfl⟩,s3,r3,an⟩;rw[qF]at hx;obtain⟨q,hq,rfl⟩:=qQ.mp hx
  have li:i<st.length:=by
   have:=(qg.mp hq).1;have:=ry.n;omega
  have hs:st[i]?=some st[i]:=qd li;have rq:=(ry.q i q _ hq hs).same s3;refine⟨_,U,q.1,_,_,U,rq.1,gC Qz,q,_,U,rq,λl hl'=>⟨⟨_,U⟩,s3.trans (a9.new hl' _),?_,λp hp=>?_⟩⟩
  ·have tk:eQ (st.take (i+1))=eQ (st.take i)++[st[i].1.drop st[i].2]:=by
    unfold eQ;rw[qt,hs,qP]
    rfl
   rw[tk];exact(r3.same (a9.new hl' _)).snoc af
  ·rcases qi.mp hp with hp|hp
   ·exact an p hp
   ·cases qT.mp hp;exact a9.none s3 hl'
 rintro ys σ3 H3 ⟨_,s3,r3,an⟩ l hl';rw[ql,ry.n,qI]at r3;exact k _ l ys (s3.trans (a9.new hl' _)) (a9.none s3 hl') af (r3.same (a9.new hl' _)) an
theorem yv(T:Tx P w K mg a):aA P w K mg base CX0 3 a.Cf a.Cg ["self","lines"] (oJ a):=by
 refine T.FP.ok vM (λvs H Q E h=>?_) (λcdv A outer s H vs Q E hr h=>?_)
 ·obtain⟨_,_,_,_,_,rfl,_⟩:=h
  rfl
 obtain⟨p,dx,l,us,xs0,rfl,hp,hl,hln,few,sm,k⟩:=h
 refine⟨_,(ae (bA (pq 0) (bY (k:=2) (Nc:=["length","first"]) (js:=[]) (show aK (am gY) ["self","lines"] _ 2 ["length","first"] []from aK.mk U (by decide +kernel) (by decide +kernel) (by decide +kernel) U (by decide +kernel)) U (bH (pq 1)) (λ_ _ _ _ _=>(hV 2 U (cs (aP (i:=0) (show List.Nodup (["length","first"]:List Str)from by decide +kernel) U Oi) (cs (aP (i:=1) (show List.Nodup (["length","first"]:List Str)from by decide +kernel) U Oi) ef)))) (λ_ _ _ _ _=>bJ) (λ_ _ _ _ _=>(pq 0))) U)
  (ah (bA (pq 0) (bY (k:=2) (Nc:=["length","first"]) (js:=[]) (show aK (am gY) ["self","lines"] _ 2 ["length","first"] []from aK.mk U (by decide +kernel) (by decide +kernel) (by decide +kernel) U (by decide +kernel)) U (bH (pq 1)) (λ_ _ _ _ _=>(hV 2 U (cs (aP (i:=0) (show List.Nodup (["length","first"]:List Str)from by decide +kernel) U Oi) (cs (aP (i:=1) (show List.Nodup (["length","first"]:List Str)from by decide +kernel) U Oi) ef)))) (λ_ _ _ _ _=>bJ) (λ_ _ _ _ _=>(fI T.HL (yC T) (hr.mono Yd) U T.HK T.FB .nil ar (a8 (pq 1) ac)))) U))),?_⟩
 have ul:=hln.len;refine⟨_,U,l,U,⟨_,SqL.of hl⟩,?_⟩;refine dG (xs:=us) (λi ys σ H3=>(∃v v',σ=[v,v'])/\H3=H/\ys=(xs0.take i).map λx=>db x.1) ⟨⟨none,none,U⟩,U,U⟩ ?_ (bb (m:=1000) Yk) ?_ ?_ ?_
 ·rintro i ys σ H3 _ ⟨_,_,rfl⟩;rw[qa,qL];omega
 ·rintro i ys σ H3 ⟨_,rfl,_⟩;exact SqL.of hl
 ·rintro i x ys σ H3 hx ⟨⟨v,v',rfl⟩,rfl,hy⟩;obtain⟨px,t,xl,rfl,hi,h1,h2⟩:=hln.at i x hx;refine⟨px,_,U,SqT.of h1,U,_,_,U,_,_,U,U,?_⟩;exact⟨_,U,⟨_,_,U⟩,U,by rw[hy,qt,hi,qP];rfl⟩
 rintro ys σ3 H3 ⟨_,rfl,hy⟩ la hla;rw[ul,qI]at hy;have nla:p≠la:=λz=>by rw[z,hla]at hp;cases hp
 have s1:a9 H3 (upd H3 la (.lst ys)):=a9.new hla _;refine⟨_,U,p,a.r9,dx,[],U,by rw[aj nla];exact hp,T.wT,T.Fk,by simp,?_⟩;rw[cy [] U Qz,Ql]
 have keep:∀b o,b≠p->H3 b=some o->(upd (upd H3 la (.lst ys)) p (.ins a.r9 dx [("lengths",.ref la)])) b=some o:=λb o nb hb=>by
  rw[aj nb];exact s1 _ _ hb
 have new:∀b,(upd (upd H3 la (.lst ys)) p (.ins a.r9 dx [("lengths",.ref la)])) b=none->H3 b=none/\b≠p/\b≠la:=λb hb=>by
  have nb:b≠p:=λz=>by rw[z,af]at hb;cases hb
  have nl:b≠la:=λz=>by rw[aj nb,z,af]at hb;cases hb
  rw[aj nb,aj nl]at hb;exact⟨hb,nb,nl⟩
 have hp4:(upd (upd H3 la (.lst ys)) p (.ins a.r9 dx [("lengths",.ref la)])) p=some (.ins a.r9 dx [("lengths",.ref la)]):=af;have ntup:∀b xs,H3 b=some (.tup xs)->b≠p:=λb xs hb z=>by rw[z,hp]at hb;cases hb
 have nlst:∀b xs,H3 b=some (.lst xs)->b≠p:=λb xs hb z=>by rw[z,hp]at hb;cases hb
 have hla4:(upd (upd H3 la (.lst ys)) p (.ins a.r9 dx [("lengths",.ref la)])) la=some (.lst ys):=by rw[aj (Ne.symm nla)];exact af
 generalize upd (upd H3 la (.lst ys)) p (.ins a.r9 dx [("lengths",.ref la)])=H4 at keep new hp4 hla4 ⊢;have hl4:H4 l=some (.lst us):=keep _ _ (nlst _ _ hl) hl;refine⟨_,U,l,U,⟨_,SqL.of hl4⟩,?_⟩
 refine dG (xs:=us) (λi ys σ H5=>(∃v v',σ=[v,v'])/\a9 H4 H5/\∃qs:List (Addr×Addr×Addr),ys=qs.map (λq=>V.ref q.1)/\qs.length=(xs0.take i).length/\(∀(j:Nat) q s,qs[j]?=some q->(cQ (xs0.take i))[j]?=some s->RQ a H5 q s)/\(qs.map λq=>q.2.2).Nodup/\(qs.map λq=>q.1).Nodup/\∀q∈qs,H4 q.2.2=none/\H4 q.1=none)
  ⟨⟨none,none,U⟩,a9.refl _,[],U,U,λj q s h=>by simp at h,List.nodup_nil,List.nodup_nil,λq h=>by simp at h⟩ ?_ (bb (m:=1000) Yk) ?_ ?_ ?_
 ·rintro i ys σ H5 _ ⟨_,_,qs,rfl,h,_⟩;rw[qa,h,qL];omega
 ·rintro i ys σ H5 ⟨_,s5,_⟩;exact SqL.of (s5 _ _ hl4)
 ·rintro i x ys σ H5 hx ⟨⟨v,v',rfl⟩,s5,qs,rfl,ql,hq,nd1,nd2,fr⟩;obtain⟨px,t,xl,rfl,hi,h1,h2⟩:=hln.at i x hx;have h1':=s5 _ _ (keep _ _ (ntup _ _ h1) h1);have h2':=s5 _ _ (keep _ _ (ntup _ _ h2) h2);refine⟨px,_,U,SqT.of h1',U,_,_,U,_,_,U,U,?_⟩;refine⟨_,U,λo dq ho hdq ndo=>?_⟩;have nt:t≠dq:=λz=>by rw[z,hdq]at h2';cases h2'
  have nt':t≠o:=λz=>by rw[z,ho]at h2';cases h2'
  refine⟨o,dq,t,xl.2,U,af,SqT.of (by rw[aj nt',aj nt];exact h2'),λll hll=>⟨U,?_⟩⟩;have nlo:ll≠o:=λz=>by rw[z,af]at hll;cases hll
  have nld:ll≠dq:=λz=>by rw[aj nlo,z,af]at hll;cases hll
  have hll5:H5 ll=none:=by rw[aj nlo,aj nld]at hll;exact hll
  have s6:a9 H5 (upd (upd (upd (upd H5 dq (.own o)) o (.ins a.or dq [])) ll (.lst (xl.2.map V.int))) o (.ins a.or dq [("laid",.ref ll),("gone",.int 0)])):=λb ob hb=>by
   have n1:b≠o:=λz=>by rw[z,ho]at hb;cases hb
   have n2:b≠dq:=λz=>by rw[z,hdq]at hb;cases hb
   have n3:b≠ll:=λz=>by rw[z,hll5]at hb;cases hb
   rw[aj n1,aj n3,aj n1,aj n2];exact hb
  have none4:∀b,H5 b=none->H4 b=none:=λb hb=>a9.none s5 hb
  have inH5:∀q∈qs,(∃z,H5 q.1=some z)/\∃z,H5 q.2.2=some z:=λq hm=>by
   obtain⟨j,hj,ej⟩:=List.mem_iff_getElem.mp hm;have e1:qs[j]?=some q:=by rw[qd hj,ej]
   have lt:j<(cQ (xs0.take i)).length:=by unfold cQ;rw[qa,<- ql];exact hj
   have r:=hq j q _ e1 (qd lt);exact⟨⟨_,r.1⟩,_,r.2.1⟩
  have rnew:RQ a (upd (upd (upd (upd H5 dq (.own o)) o (.ins a.or dq [])) ll (.lst (xl.2.map V.int))) o (.ins a.or dq [("laid",.ref ll),("gone",.int 0)])) (o,dq,ll) (xl.2,0):=
   ⟨af,by rw[aj nlo];exact af,qu _,qz (sm xl (qA hi)) Yd⟩
  refine⟨⟨_,_,U⟩,s5.trans s6,qs++[(o,dq,ll)],by rw[qP];rfl,by rw[qt,hi];simp[ql],λj q s hj hs=>?_,?_,?_,λq hm=>?_⟩
  ·have bt:cQ (xs0.take (i+1))=cQ (xs0.take i)++[(xl.2,0)]:=by unfold cQ;rw[qt,hi,qP];rfl
   have bl:(cQ (xs0.take i)).length=qs.length:=by unfold cQ;rw[qa,ql]
   rw[bt]at hs;by_cases lt:j<qs.length
   ·rw[Q6 lt]at hj;rw[Q6 Yk]at hs;exact(hq j q s hj hs).same s6
   ·rw[qM Yk]at hj hs;rw[bl]at hs
    cases ej:j-qs.length with
    |zero=>
     rw[ej]at hj hs;cases qK hj;cases qK hs;exact rnew
    |succ n=>rw[ej]at hj;simp at hj
  ·rw[qP,List.nodup_append];refine⟨nd1,by simp,λx hx y hy z=>?_⟩;obtain⟨q,hm,rfl⟩:=List.mem_map.mp hx;obtain⟨_,w',hw'⟩:=inH5 q hm;simp at hy;subst hy;rw[z,hll5]at hw';cases hw'
  ·rw[qP,List.nodup_append];refine⟨nd2,by simp,λx hx y hy z=>?_⟩;obtain⟨q,hm,rfl⟩:=List.mem_map.mp hx;obtain⟨⟨w',hw'⟩,_⟩:=inH5 q hm;simp at hy;subst hy;rw[z,ho]at hw';cases hw'
  ·rcases qi.mp hm with hm|hm
   ·exact fr q hm
   ·rw[qT.mp hm];exact⟨none4 _ hll5,none4 _ ho⟩
 rintro ys2 σ5 H5 ⟨_,s5,qs,rfl,ql,hq,nd1,nd2,fr⟩ lq hlq;rw[ul,qI]at ql hq;have s6:=s5.trans (a9.new hlq (.lst (qs.map λq=>V.ref q.1)))
 have nq:p≠lq:=λz=>by
  have:=s5 _ _ hp4;rw[z,hlq]at this;cases this
 refine⟨_,U,p,a.r9,dx,_,U,s6 _ _ hp4,T.wT,T.BC,by simp,?_⟩;rw[cy ["lengths"] U Qz];have up:∀b o,b≠p->(upd H5 lq (.lst (qs.map λq=>V.ref q.1))) b=some o->(upd (upd H5 lq (.lst (qs.map λq=>V.ref q.1))) p (.ins a.r9 dx ([(("lengths":Str),V.ref la)]++[(("queues":Str),V.ref lq)]))) b=some o:=λb o nb hb=>by rw[aj nb];exact hb
 refine k _ la lq qs (λb o nb hb=>up _ _ nb (s6 _ _ (keep _ _ nb hb))) ⟨af,up _ _ (Ne.symm nq) af,by rw[ql];unfold cQ;rw[qa],λi q s hi hs=>?_,?_,by unfold cQ;rw[qa,qa]⟩ nd1 nd2 (λq hm=>⟨(new _ (fr q hm).1).1,(new _ (fr q hm).2).2.1,(new _ (fr q hm).2).1⟩) ⟨(new _ (a9.none s5 hlq)).1,?_⟩ ⟨hla,?_⟩
 ·have r:=(hq i q s hi hs).same (a9.new hlq (.lst (qs.map λq=>V.ref q.1)));have fq:=fr q (qA hi);exact⟨up _ _ (new _ fq.2).2.1 r.1,up _ _ (new _ fq.1).2.1 r.2.1,r.2.2⟩
 ·refine up _ _ (Ne.symm nla) (s6 _ _ ?_);rw[hla4,hy,List.map_map]
  rfl
 ·intro hm;obtain⟨q,hm,e⟩:=List.mem_map.mp hm;obtain⟨j,hj,ej⟩:=List.mem_iff_getElem.mp hm;have lt:j<(cQ xs0).length:=by unfold cQ;rw[qa,<- ql];exact hj
  have r:=hq j q _ (by rw[qd hj,ej]) (qd lt);have:=r.2.1;rw[e,hlq]at this;cases this
 ·intro hm;obtain⟨q,hm,e⟩:=List.mem_map.mp hm;have:=(new _ (fr q hm).1).2.2;exact this e
theorem j0(T:Tx P w K mg a):aA P w K mg base CX0 1 a.BK a.Ct ["self","ins"] (p5 a):=by
 refine T.Gc.ok vY (λvs H Q E h=>?_) (λcdv A outer s H vs Q E hr h=>?_)
 ·obtain⟨_,_,_,_,rfl,_⟩:=h
  rfl
 obtain⟨p,C,dx,u,rfl,hp,hC,k⟩:=h;refine⟨_,(ah (bA (pq 0) (pq 1) U)),?_⟩
 have cn:Cls K C/\bd K C "ins":=by
  rcases hC with rfl|rfl|rfl|rfl
  ·exact⟨T.Bt,T.Fl⟩
  ·exact⟨T.Bn,T.Fo⟩
  ·exact⟨T.At,T.Fr⟩
  ·exact⟨T.Bm,T.BQ⟩
 exact⟨_,U,_,U,p,C,dx,[],U,hp,cn.1,cn.2,by simp,k⟩
theorem yJ(T:Tx P w K mg a):aA P w K mg base CX0 2 a.Cv a.Cw ["self","ins","outs","route"] (oZ a):=by
 refine T.Gf.ok vW (λvs H Q E h=>?_) (λcdv A outer s H vs Q E hr h=>?_)
 ·obtain⟨_,_,_,_,_,rfl,_⟩:=h
  rfl
 obtain⟨p,dx,u,v,x,rfl,hp,k⟩:=h
 refine⟨_,(ae (bO (iX U T.BP T.BY (j0 T) (hr.mono Yd) T.BL .nil ar (a8 (pq 0) (a8 (pq 1) ac))))
  (ae (bA (pq 0) (pq 2) U)
  (ah (bA (pq 0) (pq 3) U)))),?_⟩
 refine⟨_,U,_,U,p,a.wS,dx,u,U,hp,.inl U,?_⟩;refine⟨_,U,_,U,p,a.wS,dx,_,U,af,T.Bt,T.Fm,by simp,?_⟩;rw[cy ["ins"] U Qz];refine⟨_,U,_,U,p,a.wS,dx,_,U,af,T.Bt,T.Fn,by simp,?_⟩;rw[cy ["ins","outs"] U Qz,d6,d6];exact k
theorem yx(T:Tx P w K mg a):aA P w K mg base CX0 2 a.CA a.CB ["self","ins","out","sign","sides"] (oK a):=by
 refine T.Gk.ok vN (λvs H Q E h=>?_) (λcdv A outer s H vs Q E hr h=>?_)
 ·obtain⟨_,_,_,_,_,_,rfl,_⟩:=h
  rfl
 obtain⟨p,dx,u,v,x,y,rfl,hp,k⟩:=h
 refine⟨_,(ae (bO (iX U T.BP T.BY (j0 T) (hr.mono Yd) T.BL .nil ar (a8 (pq 0) (a8 (pq 1) ac))))
  (ae (bA (pq 0) (pq 2) U)
  (ae (bA (pq 0) (pq 3) U)
  (ah (bA (pq 0) (pq 4) U))))),?_⟩
 refine⟨_,U,_,U,p,a.wP,dx,u,U,hp,.inr (.inl U),?_⟩;refine⟨_,U,_,U,p,a.wP,dx,_,U,af,T.Bn,T.Fp,by simp,?_⟩;rw[cy ["ins"] U Qz];refine⟨_,U,_,U,p,a.wP,dx,_,U,af,T.Bn,T.Fq,by simp,?_⟩;rw[cy ["ins","out"] U Qz];refine⟨_,U,_,U,p,a.wP,dx,_,U,af,T.Bn,T.El,by simp,?_⟩;rw[cy ["ins","out","sign"] U Qz,d6,d6,d6];exact k
theorem yO(T:Tx P w K mg a):aA P w K mg base CX0 2 a.CF a.CG ["self","ins","which","ones","noughts","told"] (pd a):=by
 refine T.Gp.ok w6 (λvs H Q E h=>?_) (λcdv A outer s H vs Q E hr h=>?_)
 ·obtain⟨_,_,_,_,_,_,_,rfl,_⟩:=h
  rfl
 obtain⟨p,dx,u,v,x,y,z,rfl,hp,k⟩:=h
 refine⟨_,(ae (bO (iX U T.BP T.BY (j0 T) (hr.mono Yd) T.BL .nil ar (a8 (pq 0) (a8 (pq 1) ac))))
  (ae (bA (pq 0) (pq 2) U)
  (ae (bA (pq 0) (pq 3) U)
  (ae (bA (pq 0) (pq 4) U)
  (ah (bA (pq 0) (pq 5) U)))))),?_⟩
 refine⟨_,U,_,U,p,a.u8,dx,u,U,hp,.inr (.inr (.inl U)),?_⟩;refine⟨_,U,_,U,p,a.u8,dx,_,U,af,T.At,T.Fs,by simp,?_⟩;rw[cy ["ins"] U Qz];refine⟨_,U,_,U,p,a.u8,dx,_,U,af,T.At,T.Ft,by simp,?_⟩;rw[cy ["ins","which"] U Qz];refine⟨_,U,_,U,p,a.u8,dx,_,U,af,T.At,T.Fu,by simp,?_⟩;rw[cy ["ins","which","ones"] U Qz];refine⟨_,U,_,U,p,a.u8,dx,_,U,af,T.At,T.Em,by simp,?_⟩;rw[cy ["ins","which","ones","noughts"] U Qz,d6,d6,d6,d6];exact k
theorem yM(T:Tx P w K mg a):aA P w K mg base CX0 2 a.CJ a.CK ["self","told","ones","noughts","outs"] (p9 a):=by
 refine T.Gw.ok w4 (λvs H Q E h=>?_) (λcdv A outer s H vs Q E hr h=>?_)
 ·obtain⟨_,_,_,_,_,_,rfl,_⟩:=h
  rfl
 obtain⟨p,dx,u,v,x,y,rfl,hp,k⟩:=h
 refine⟨_,(ae (bO (iX U T.BP T.BY (j0 T) (hr.mono Yd) T.BL .nil ar (a8 (pq 0) (a8 (bI (a8 (pq 1) ac)) ac))))
  (ae (bA (pq 0) (pq 2) U)
  (ae (bA (pq 0) (pq 3) U)
  (ah (bA (pq 0) (pq 4) U))))),?_⟩
 refine⟨_,U,_,U,ln1,λt ht=>?_⟩;have ne:p≠t:=λz=>by rw[z,ht]at hp;cases hp
 refine⟨p,a.wp,dx,.ref t,U,by rw[aj ne];exact hp,.inr (.inr (.inr U)),?_⟩;refine⟨_,U,_,U,p,a.wp,dx,_,U,af,T.Bm,T.Fv,by simp,?_⟩;rw[cy ["ins"] U Qz];refine⟨_,U,_,U,p,a.wp,dx,_,U,af,T.Bm,T.Fw,by simp,?_⟩;rw[cy ["ins","ones"] U Qz];refine⟨_,U,_,U,p,a.wp,dx,_,U,af,T.Bm,T.Fx,by simp,?_⟩;rw[cy ["ins","ones","noughts"] U Qz,d6,d6,d6];exact k t ht
theorem xT(T:Tx P w K mg a):aA P w K mg base CX0 1 a.Cd a.Ce ["sign","a","b"] nJ:=by
 refine T.Eu.ok vv (λvs H Q E h=>?_) (λcdv A outer s H vs Q E hr h=>?_)
 ·obtain⟨_,_,_,rfl,_⟩:=h
  rfl
 obtain⟨sg,x,y,rfl,hx,hy,k⟩:=h
 refine⟨_,(ae (aD (ap ba (pq 0) bg (ao _)) (ah (ak (ai bx (pq 1) (pq 2)))) aF)
  (ae (aD (ap ba (pq 0) bg (ao _)) (ah (ak (ai fD (pq 1) (pq 2)))) aF)
  (ae (aD (ap ba (pq 0) bg (ao _)) (ah (ak (ai cm (pq 1) (pq 2)))) aF)
  (ae (aD (ap ba (pq 0) bg (ao _)) (ah (ak (ai rX (pq 1) (pq 2)))) aF)
  (ae (aD (ap ba (pq 0) bg (ao _)) (ah (ak (ai rV (pq 1) (pq 2)))) aF)
  (ah (ak (ai rT (pq 1) (pq 2))))))))),?_⟩
 unfold iP at k;walk_at "rd";refine bc (λc=>?_) (λc=>?_)
 ·rw[Q1 (cJ c)]at k;walk_at "rd";exact k
 rw[Q0 (cK c)]at k;walk_at "rd";refine bc (λc=>?_) (λc=>?_)
 ·rw[Q1 (cJ c)]at k;walk_at "rd";exact k
 rw[Q0 (cK c)]at k;walk_at "rd";refine bc (λc=>?_) (λc=>?_)
 ·rw[Q1 (cJ c)]at k;walk_at "rd";exact⟨IntMulOk.of_bits (dN hx) (dN hy),k⟩
 rw[Q0 (cK c)]at k;walk_at "rd";refine bc (λc=>?_) (λc=>?_)
 ·rw[Q1 (cJ c)]at k;walk_at "rd";exact k
 rw[Q0 (cK c)]at k;walk_at "rd";refine bc (λc=>?_) (λc=>?_)
 ·rw[Q1 (cJ c)]at k;walk_at "rd";exact k
 rw[Q0 (cK c)]at k;walk_at "rd";exact k
theorem xX(T:Tx P w K mg a):aA P w K mg base CX0 2 a.done a.Cc ["sign","a","b"] nQ:=by
 refine T.Es.ok vy (λvs H Q E h=>?_) (λcdv A outer s H vs Q E hr h=>?_)
 ·obtain⟨_,_,_,rfl,_⟩:=h
  rfl
 obtain⟨sg,x,y,rfl,hx,hy,k⟩:=h
 refine⟨_,(ae (aD (ap ba (pq 0) bg (ao _)) (ah (ak (dH (ap ba (pq 2) aa (ao _)) aa (ai rW (pq 1) (pq 2))))) aF)
  (ae (aD (ap ba (pq 0) bg (ao _)) (ah (ak (dH (ap di (pq 1) (pq 2) (ao _)) aa aa))) aF)
  (ae (aD (ap ba (pq 0) bg (ao _)) (ah (ak (dH (ap ba (pq 1) (pq 2) (ao _)) aa aa))) aF)
  (ah (ak (ai aW (aQ (xT T) (hr.mono Yd) U T.FO T.Eu.kp T.FN .nil ar (a8 (pq 0) (a8 (pq 1) (a8 (pq 2) ac)))) (xn U T.HJ T.r_WHEEL))))))),?_⟩
 unfold cP at k;walk_at "rd";refine bc (λc=>?_) (λc=>?_)
 ·rw[Q1 (cJ c)]at k;walk_at "rd";refine bc (λc=>?_) (λc=>?_)
  ·rw[Q1 (dJ c)]at k;exact k
  ·have c':=dL c;rw[Q0 c']at k;walk_at "rd";exact⟨⟨by have:=hy.lo;omega,n9 hy⟩,k⟩
 rw[Q0 (cK c)]at k;walk_at "rd";refine bc (λc=>?_) (λc=>?_)
 ·rw[Q1 (cJ c)]at k;walk_at "rd";refine bc (λc=>?_) (λc=>?_)
  ·rw[Q1 (Qd c)]at k;exact k
  ·rw[Q0 (λz=>c (Q3 z))]at k;exact k
 rw[Q0 (cK c)]at k;walk_at "rd";refine bc (λc=>?_) (λc=>?_)
 ·rw[Q1 (cJ c)]at k;walk_at "rd";refine bc (λc=>?_) (λc=>?_)
  ·rw[Q1 (dJ c)]at k;exact k
  ·rw[Q0 (dL c)]at k;exact k
 rw[Q0 (cK c)]at k;walk_at "rd";refine⟨sg,x,y,U,hx,hy,?_⟩;walk_at "rd";exact k
theorem y4(T:Tx P w K mg a):aA P w K mg base CX0 1 a.Di a.Dj ["_law_sign_here","_law_a","_law_b"] nU:=by
 refine T.ED.ok vC (λvs H Q E h=>?_) (λcdv A outer s H vs Q E hr h=>?_)
 ·obtain⟨_,_,_,rfl,_⟩:=h
  rfl
 obtain⟨sg,x,y,rfl,hx,hy,k⟩:=h
 refine⟨_,(ae (aD (ap ba (pq 0) bg (ao _)) (ah (ak (ai aW (ai bx (pq 1) (pq 2)) (ai dz aa aa)))) aF)
  (ae (aD (ap ba (pq 0) bg (ao _)) (ah (ak (ai aW (ai fD (pq 1) (pq 2)) (ai dz aa aa)))) aF)
  (ae (aD (ap ba (pq 0) bg (ao _)) (ah (ak (ai aW (ai cm (pq 1) (pq 2)) (ai dz aa aa)))) aF)
  (ae (aD (ap ba (pq 0) bg (ao _)) (ah (ak (dH (ap gm (pq 2) aa (ao _)) (ai rW (pq 1) (pq 2)) aa))) aF)
  (ae (aD (ap ba (pq 0) bg (ao _)) (ah (ak (dH (ap di (pq 1) (pq 2) (ao _)) aa aa))) aF)
  (ae (aD (ap ba (pq 0) bg (ao _)) (ah (ak (dH (ap ba (pq 1) (pq 2) (ao _)) aa aa))) aF)
  (ae (aD (ap ba (pq 0) bg (ao _)) (ah (ak (ai aW (ai rX (pq 1) (pq 2)) (ai dz aa aa)))) aF)
  (ae (aD (ap ba (pq 0) bg (ao _)) (ah (ak (ai aW (ai rV (pq 1) (pq 2)) (ai dz aa aa)))) aF)
  (ah (ak (ai aW (ai rT (pq 1) (pq 2)) (ai dz aa aa)))))))))))),?_⟩
 have pw:(0:Int)<(10:Int) ^ (30:Int).toNat:=by rw[p30];decide
 refine⟨_,U,U,_,U,bc (λc=>?_) (λc1=>?_)⟩
 ·have e:cP sg x y=(x+y) % (10:Int) ^ (30:Int).toNat:=by rw[cJ c,p30];rfl
  rw[e]at k;exact⟨_,U,_,U,_,_,U,U,_,_,U,U,⟨Yd,Yd,Yd⟩,_,_,U,U,pw,k⟩
 refine⟨_,U,U,_,U,bc (λc=>?_) (λc2=>?_)⟩
 ·have e:cP sg x y=(x-y) % (10:Int) ^ (30:Int).toNat:=by rw[cJ c,p30];rfl
  rw[e]at k;exact⟨_,U,_,U,_,_,U,U,_,_,U,U,⟨Yd,Yd,Yd⟩,_,_,U,U,pw,k⟩
 refine⟨_,U,U,_,U,bc (λc=>?_) (λc3=>?_)⟩
 ·have e:cP sg x y=(x * y) % (10:Int) ^ (30:Int).toNat:=by rw[cJ c,p30];rfl
  rw[e]at k;exact⟨_,U,_,U,_,_,U,U,IntMulOk.of_bits (dN hx) (dN hy),_,_,U,U,⟨Yd,Yd,Yd⟩,_,_,U,U,pw,k⟩
 refine⟨_,U,U,_,U,bc (λc=>?_) (λc4=>?_)⟩
 ·have e:cP sg x y=if y=0 then 0 else x / y:=by rw[cJ c];rfl
  rw[e]at k;refine⟨_,U,U,_,U,bc (λcz=>?_) (λcz=>?_)⟩
  ·have ne:y≠0:=λz=>by rw[z]at cz;exact Q5 cz Yd
   rw[Q0 ne]at k;exact⟨_,U,_,U,_,_,U,U,⟨by have:=hy.lo;omega,n9 hy⟩,k⟩
  ·have ez:y=0:=by
    by_cases z:y=0
    ·exact z
    ·refine Q5 ?_ cz;rw[Q4 (λq=>z (V.int.inj q))]
     rfl
   rw[Q1 ez]at k;exact k
 refine⟨_,U,U,_,U,bc (λc=>?_) (λc5=>?_)⟩
 ·have e:cP sg x y=if x<y then 1 else 0:=by rw[cJ c];rfl
  rw[e]at k;refine⟨_,U,_,U,_,_,U,U,_,U,bc (λc=>?_) (λc=>?_)⟩
  ·rw[Q1 (Qd c)]at k;exact k
  ·rw[Q0 (λz=>c (Q3 z))]at k;exact k
 refine⟨_,U,U,_,U,bc (λc=>?_) (λc6=>?_)⟩
 ·have e:cP sg x y=if x=y then 1 else 0:=by rw[cJ c];rfl
  rw[e]at k;refine⟨_,U,_,U,U,_,U,bc (λc=>?_) (λc=>?_)⟩
  ·rw[Q1 (dJ c)]at k;exact k
  ·rw[Q0 (dL c)]at k;exact k
 refine⟨_,U,U,_,U,bc (λc=>?_) (λc7=>?_)⟩
 ·have e:cP sg x y=Builtin.bitAnd x y % (10:Int) ^ (30:Int).toNat:=by rw[cJ c,p30];rfl
  rw[e]at k;exact⟨_,U,_,U,_,_,U,U,_,_,U,U,⟨Yd,Yd,Yd⟩,_,_,U,U,pw,k⟩
 refine⟨_,U,U,_,U,bc (λc=>?_) (λc8=>?_)⟩
 ·have e:cP sg x y=Builtin.bitOr x y % (10:Int) ^ (30:Int).toNat:=by rw[cJ c,p30];rfl
  rw[e]at k;exact⟨_,U,_,U,_,_,U,U,_,_,U,U,⟨Yd,Yd,Yd⟩,_,_,U,U,pw,k⟩
 have e:cP sg x y=Builtin.bitXor x y % (10:Int) ^ (30:Int).toNat:=by
  unfold cP iP;rw[Q0 (cK c4),Q0 (cK c5),Q0 (cK c6),Q0 (cK c1),Q0 (cK c2),Q0 (cK c3),Q0 (cK c7),Q0 (cK c8),p30]
 rw[e]at k;exact⟨_,U,_,U,_,_,U,U,_,_,U,U,⟨Yd,Yd,Yd⟩,_,_,U,U,pw,k⟩
theorem fZ{xs:List Int}{i:Int}(h0:0<=i)(h1:i<xs.length):atI (xs.map V.int) i=some (.int (xs.getD i.toNat 0)):=by
 have lt:i.toNat<xs.length:=Yk;exact gI h0 (by rw[qF,qd lt,qk,qd lt];rfl)
theorem fY{s:Sd}{xs:List Int}(h:s.ok xs.length)(on:∀x∈xs,OnW x):OnW (s.worth xs):=by
 cases s with
 |num n=>exact h
 |thing i=>
  obtain⟨h0,h1⟩:=h;have lt:i.toNat<xs.length:=Yk;show OnW (xs.getD i.toNat 0);rw[qk,qd lt];exact on _ (List.getElem_mem lt)
theorem gN{H1:Hp}{ts:List Addr}{xs ys:List V}(tl:ts.length=min xs.length ys.length)(at_:∀(j:Nat)(t:Addr)(x y:V),ts[j]?=some t->xs[j]?=some x->ys[j]?=some y->H1 t=none):gM H1 (ts.map V.ref):=λp hp=>by
 obtain⟨q,hq,e⟩:=List.mem_map.mp hp;cases e;obtain⟨j,hj⟩:=List.mem_iff_getElem?.mp hq;have lt:=(qg.mp hj).1;exact at_ j p _ _ hj (qd Yk) (qd Yk)
theorem rJ(T:Tx P w K mg a):aA P w K mg base CX0 1 a.CP a.CQ ["side","things"] nP:=by
 refine T.Ea.ok vx (λvs H Q E h=>?_) (λcdv A outer s H vs Q E hr h=>?_)
 ·obtain⟨_,_,_,_,rfl,_⟩:=h
  rfl
 obtain⟨v,l,sd,xs,rfl,hs,ok,hl,k⟩:=h;refine⟨_,(ah (ak (dH (ap ba (ag au (pq 0) aa Oy) bg (ao _)) (ag aN (pq 1) (ag au (pq 0) aa Oy) Oy) (ag au (pq 0) aa Oy)))),?_⟩
 cases hs with
 |num h=>exact⟨_,U,_,_,_,_,U,U,SqT.of h,U,U,_,U,aL Qz ⟨_,U,_,_,_,_,U,U,SqT.of h,U,k⟩⟩
 |thing h=>exact⟨_,U,_,_,_,_,U,U,SqT.of h,U,U,_,U,bo Qz ⟨_,U,_,U,_,_,_,_,U,U,SqT.of h,U,l,_,_,_,U,U,SqL.of hl,fZ ok.1 ok.2,k⟩⟩
theorem rN(T:Tx P w K mg a):aA P w K mg base CX0 1 a.DC a.DD ["_law_side_here","_law_things"] oa:=by
 refine T.Ef.ok vF (λvs H Q E h=>?_) (λcdv A outer s H vs Q E hr h=>?_)
 ·obtain⟨_,_,_,_,rfl,_⟩:=h
  rfl
 obtain⟨v,l,sd,xs,rfl,hs,ok,hl,k⟩:=h
 refine⟨_,(ae (aD (ap ba (ag au (pq 0) aa Oy) bg (ao _)) (ah (ak (ag aN (pq 1) (ag au (pq 0) aa Oy) Oy))) aF)
  (ah (ak (ag au (pq 0) aa Oy)))),?_⟩
 cases hs with
 |num h=>exact⟨_,U,_,_,_,_,U,U,SqT.of h,U,U,_,U,aL Qz ⟨_,U,_,_,_,_,U,U,SqT.of h,U,k⟩⟩
 |thing h=>exact⟨_,U,_,_,_,_,U,U,SqT.of h,U,U,_,U,bo Qz ⟨_,U,_,U,_,_,_,_,U,U,SqT.of h,U,l,_,_,_,U,U,SqL.of hl,fZ ok.1 ok.2,k⟩⟩
theorem lf2{k1 k2:Str}{u v:V}{r:List (Str×V)}(h:(k2 == k1)=false):List.lookup k2 ((k1,u)::(k2,v)::r)=some v:=(aZ h).trans dA
theorem lf3{k1 k2 k3:Str}{u v x:V}{r:List (Str×V)}(h:(k3 == k1)=false)(h':(k3 == k2)=false):List.lookup k3 ((k1,u)::(k2,v)::(k3,x)::r)=some x:=(aZ h).trans (lf2 h')
theorem lf4{k1 k2 k3 k4:Str}{u v x y:V}{r:List (Str×V)}(h:(k4 == k1)=false)(h':(k4 == k2)=false)(h2:(k4 == k3)=false):List.lookup k4 ((k1,u)::(k2,v)::(k3,x)::(k4,y)::r)=some y:=(aZ h).trans (lf3 h' h2)
theorem lf5{k1 k2 k3 k4 k5:Str}{u v x y z:V}{r:List (Str×V)}(h:(k5 == k1)=false)(h':(k5 == k2)=false)(h2:(k5 == k3)=false)(h3:(k5 == k4)=false):List.lookup k5 ((k1,u)::(k2,v)::(k3,x)::(k4,y)::(k5,z)::r)=some z:=(aZ h).trans (lf4 h' h2 h3)
theorem yw(T:Tx P w K mg a):aA P w K mg base CX0 3 a.CC a.CD ["self","things"] (g6 a 1):=by
 refine T.Gn.ok jM (λvs H Q E h=>?_) (λcdv A outer s H vs Q E hr h=>?_)
 ·obtain⟨_,_,_,_,rfl,_⟩:=h
  rfl
 obtain⟨v,l,r,xs,rfl,kd,hp,ok,hl,wide,on,k⟩:=h
 refine⟨_,(ae (aT (i:=2) jM.nd U Oi (aQ (rJ T) (hr.mono Yd) U T.Ex T.Ea.kp T.Ew .nil ar (a8 (ag au (aH (pq 0) U) aa Oy) (a8 (pq 1) ac))))
  (ae (aT (i:=3) jM.nd U Oi (aQ (rJ T) (hr.mono Yd) U T.Ex T.Ea.kp T.Ew .nil ar (a8 (ag au (aH (pq 0) U) aa Oy) (a8 (pq 1) ac))))
  (ah (ak (bn (a8 (bI (a8 (aH (pq 0) U) (a8 (aQ (xX T) (hr.mono Yd) U T.FM T.Es.kp T.FL .nil ar (a8 (aH (pq 0) U) (a8 (pq 2) (a8 (pq 3) ac)))) ac))) ac)))))),?_⟩
 cases hp with
 |pass _ _ _ _=>simp[PR.kind]at kd
 |choose _ _ _ _=>simp[PR.kind]at kd
 |merge _ _ _ _ _=>simp[PR.kind]at kd
 |work h1 h0 h2 h3 h4=>
  rename_i p dx t0 ts ins out sg sa sb sl sr;obtain⟨_,o1,o2⟩:=ok;change xs.length=ins.length at wide;rw[<- wide]at o1 o2;refine⟨_,U,p,_,_,_,_,U,h1,T.Bn,T.El,lf4 Qz Qz Qz,ts,_,_,_,U,U,SqT.of h2,U,_,U,sa,l,sl,xs,U,h3,o1,hl,?_⟩;refine⟨_,U,p,_,_,_,_,U,h1,T.Bn,T.El,lf4 Qz Qz Qz,ts,_,_,_,U,U,SqT.of h2,U,_,U,sb,l,sr,xs,U,h4,o2,hl,?_⟩;refine⟨_,U,p,_,_,_,_,U,h1,T.Bn,T.Fp,lf2 Qz,_,U,p,_,_,_,_,U,h1,T.Bn,T.Fq,lf3 Qz Qz,_,U,_,U,sg,_,_,U,fY o1 on,fY o2 on,ln2,λt ht=>⟨ln1,λl' hl'=>?_⟩⟩;exact k _ l' _ ((a9.new ht _).trans (a9.new hl' _)) (a9.none (a9.new ht _) hl') af (λp hp=>by cases qT.mp hp;exact ht) (.cons (a9.new hl' _ _ _ af) .nil)
theorem yI(T:Tx P w K mg a):aA P w K mg base CX0 1 a.Cy a.Cz ["self","things"] (g6 a 0):=by
 refine T.Gi.ok vV (λvs H Q E h=>?_) (λcdv A outer s H vs Q E hr h=>?_)
 ·obtain⟨_,_,_,_,rfl,_⟩:=h
  rfl
 obtain⟨v,l,r,xs,rfl,kd,hp,ok,hl,wide,on,k⟩:=h;refine⟨_,(ah (ak (bY (k:=2) (Nc:=["line","place","things"]) (js:=[1]) (show aK (am iO) ["self","things"] _ 2 ["line","place","things"] [1]from aK.mk U (by decide +kernel) (by decide +kernel) (by decide +kernel) U (by decide +kernel)) U (xa U T.BH (a8 (aH (pq 0) U) (a8 (aH (pq 0) U) ac))) (λ_ _ _ _ _=>(hV 2 U (cs (aP (i:=0) (show List.Nodup (["line","place","things"]:List Str)from by decide +kernel) U Oi) (cs (aP (i:=1) (show List.Nodup (["line","place","things"]:List Str)from by decide +kernel) U Oi) ef)))) (λ_ _ _ _ _=>bJ) (λ_ _ _ _ _=>(bI (a8 (pq 0) (a8 (ag (fB (K:=K) U) (pq 2) (pq 1) Oy) ac))))))),?_⟩
 cases hp with
 |work _ _ _ _ _=>simp[PR.kind]at kd
 |choose _ _ _ _=>simp[PR.kind]at kd
 |merge _ _ _ _ _=>simp[PR.kind]at kd
 |pass h1 h0 h2 h3=>
  rename_i p dx t0 t1 t2 ins outs route;obtain⟨o1,o2,o3,o4⟩:=ok;change xs.length=ins.length at wide;refine⟨_,U,p,_,_,_,_,U,h1,T.Bt,T.Fm,lf2 Qz,_,U,p,_,_,_,_,U,h1,T.Bt,T.Fn,lf3 Qz Qz,true,true,t1,t2,_,_,U,SqT.of h2,SqT.of h3,?_⟩;have lz:(outs.zip (route.map λr=>xs.getD r.toNat 0)).length=outs.length:=by rw[List.length_zip,qa];omega
  refine AE (K:=K) (b1:=true) (b2:=true) (l1:=t1) (l2:=t2) (xs:=outs.map V.int) (zs:=route.map V.int) (λi ys σ H3=>(∃v v',σ=[v,v',some (.ref l)])/\a9 H H3/\gM H ys/\RPs H3 ys ((outs.zip (route.map λr=>xs.getD r.toNat 0)).take i)) ⟨⟨none,none,U⟩,a9.refl _,λ_ h=>(nomatch h),.nil⟩ ?_ (bb (m:=1000) (by rw[qa];omega)) ?_ ?_ ?_
  ·rintro i ys σ H3 ⟨_,_,_,r3⟩;rw[r3.len,qL];omega
  ·rintro i ys σ H3 ⟨_,s3,_⟩;exact⟨SqT.of (s3 _ _ h2),SqT.of (s3 _ _ h3)⟩
  ·rintro i x z ys σ H3 pt hx hz ⟨⟨v,v',rfl⟩,s3,n3,r3⟩ hpt;rw[qF]at hx hz;obtain⟨x,hx',rfl⟩:=qQ.mp hx;obtain⟨z,hz',rfl⟩:=qQ.mp hz;have zo:=o4 z (qA hz');have s4:=s3.trans (a9.new hpt (.tup [.int x,.int z]));refine⟨pt,_,U,SqT.of af,U,_,_,U,_,_,U,U,?_⟩;refine⟨_,U,_,U,_,U,l,_,_,_,U,U,SqL.of (s4 _ _ hl),fZ zo.1 Yk,ln2,λt ht=>⟨⟨_,_,U⟩,s4.trans (a9.new ht _),λp hp=>(qi.mp hp).elim (n3 p) λz=>by cases qT.mp z;exact a9.none s4 ht,?_⟩⟩;have e:(outs.zip (route.map λr=>xs.getD r.toNat 0))[i]?=some (x,xs.getD z.toNat 0):=List.getElem?_zip_eq_some.mpr ⟨hx',by rw[qF,hz'];rfl⟩;rw[qt,e];exact RPs.snoc (x:=(x,xs.getD z.toNat 0)) af ((r3.same (a9.new hpt _)).same (a9.new ht _))
  rintro ys σ3 H3 ⟨_,s3,n3,r3⟩ l' hl';rw[qa,qa,<- o1,Nat.min_self,<- lz,qI]at r3;exact k _ l' ys (s3.trans (a9.new hl' _)) (a9.none s3 hl') af n3 (r3.same (a9.new hl' _))
theorem yN(T:Tx P w K mg a):aA P w K mg base CX0 1 a.CH a.CI ["self","things"] (g6 a 2):=by
 refine T.Gr.ok w5 (λvs H Q E h=>?_) (λcdv A outer s H vs Q E hr h=>?_)
 ·obtain⟨_,_,_,_,rfl,_⟩:=h
  rfl
 obtain⟨v,l,r,xs,rfl,kd,hp,ok,hl,wide,on,k⟩:=h
 refine⟨_,(ae (aD (ap ba (ag aN (pq 1) (aH (pq 0) U) Oy) aa (ao _)) (ah (ak (ai hE (iW U U T.Bp U T.BH (a8 (aH (pq 0) U) (a8 (pq 1) ac))) (bn (a8 (bI (a8 (aH (pq 0) U) (a8 aa ac))) ac))))) aF)
  (ah (ak (ai hE (iW U U T.Bp U T.BH (a8 (aH (pq 0) U) (a8 (pq 1) ac))) (bn (a8 (bI (a8 (aH (pq 0) U) (a8 aa ac))) ac)))))),?_⟩
 cases hp with
 |work _ _ _ _ _=>simp[PR.kind]at kd
 |pass _ _ _ _=>simp[PR.kind]at kd
 |merge _ _ _ _ _=>simp[PR.kind]at kd
 |choose h1 h0 h2 h3=>
  rename_i p dx t0 t1 t2 ins ones noughts which told;obtain⟨o1,o2,o3,o4,o5⟩:=ok;change xs.length=ins.length at wide;refine⟨_,U,_,U,p,_,_,_,_,U,h1,T.At,T.Fs,lf2 Qz,l,_,_,_,U,U,SqL.of hl,fZ o1 Yk,U,_,U,?_⟩;have km:PR.made xs (.choose ins which ones noughts told)=if xs.getD which.toNat 0=0 then noughts.zip xs++[(told,0)]else ones.zip xs++[(told,1)]:=U;rw[km]at k;refine bc (λc=>?_) (λc=>?_)
  ·rw[Q1 (dJ c)]at k;refine⟨_,U,p,_,_,_,_,U,h1,T.At,T.Fu,lf4 Qz Qz Qz,_,U,true,false,t2,l,_,_,U,SqT.of h3,SqL.of hl,λH3 lz ts s3 nl hz tl at_=>?_⟩;have rz:=RPs.zip (H:=H3) (ts:=ts) (xs:=noughts) (ys:=xs) (by rw[tl,qa,qa]) λj t x y a b c=>(at_ j t x y a b c).1;refine⟨_,U,p,_,_,_,_,U,s3 _ _ h1,T.At,T.Em,lf5 Qz Qz Qz Qz,ln2,λt4 ht4=>⟨ln1,λl4 hl4=>?_⟩⟩;have s4:=(a9.new ht4 (.tup [.int told,.int 0])).trans (a9.new hl4 (.lst [.ref t4]));refine⟨lz,l4,_,_,U,U,SqL.of (s4 _ _ hz),SqL.of af,bb (m:=1000) (by rw[qa,tl,qa,qa,Q7];omega),λl5 hl5=>?_⟩;have s5:=a9.new hl5 (.lst (ts.map V.ref++[.ref t4]));exact k _ l5 _ (s3.trans (s4.trans s5)) (a9.none (s3.trans s4) hl5) af (λp hp=>(qi.mp hp).elim (gN tl (λj t x y a b c=>(at_ j t x y a b c).2) p) λz=>by cases qT.mp z;exact a9.none s3 ht4) (RPs.same s5 (RPs.snoc (x:=(told,0)) (a9.new hl4 _ _ _ af) (rz.same s4)))
  ·rw[Q0 (dL c)]at k;refine⟨_,U,p,_,_,_,_,U,h1,T.At,T.Ft,lf3 Qz Qz,_,U,true,false,t1,l,_,_,U,SqT.of h2,SqL.of hl,λH3 lz ts s3 nl hz tl at_=>?_⟩;have rz:=RPs.zip (H:=H3) (ts:=ts) (xs:=ones) (ys:=xs) (by rw[tl,qa,qa]) λj t x y a b c=>(at_ j t x y a b c).1;refine⟨_,U,p,_,_,_,_,U,s3 _ _ h1,T.At,T.Em,lf5 Qz Qz Qz Qz,ln2,λt4 ht4=>⟨ln1,λl4 hl4=>?_⟩⟩;have s4:=(a9.new ht4 (.tup [.int told,.int 1])).trans (a9.new hl4 (.lst [.ref t4]));refine⟨lz,l4,_,_,U,U,SqL.of (s4 _ _ hz),SqL.of af,bb (m:=1000) (by rw[qa,tl,qa,qa,Q7];omega),λl5 hl5=>?_⟩;have s5:=a9.new hl5 (.lst (ts.map V.ref++[.ref t4]));exact k _ l5 _ (s3.trans (s4.trans s5)) (a9.none (s3.trans s4) hl5) af (λp hp=>(qi.mp hp).elim (gN tl (λj t x y a b c=>(at_ j t x y a b c).2) p) λz=>by cases qT.mp z;exact a9.none s3 ht4) (RPs.same s5 (RPs.snoc (x:=(told,1)) (a9.new hl4 _ _ _ af) (rz.same s4)))
theorem yL(T:Tx P w K mg a):aA P w K mg base CX0 1 a.CN a.CO ["self","things"] (g6 a 3):=by
 refine T.GA.ok vZ (λvs H Q E h=>?_) (λcdv A outer s H vs Q E hr h=>?_)
 ·obtain⟨_,_,_,_,rfl,_⟩:=h
  rfl
 obtain⟨v,l,r,xs,rfl,kd,hp,ok,hl,wide,on,k⟩:=h;refine⟨_,(ah (ak (iW U U T.Bp U T.BH (a8 (aH (pq 0) U) (a8 (eB jE (pq 1) (cg aa) fG) ac))))),?_⟩
 cases hp with
 |work _ _ _ _ _=>simp[PR.kind]at kd
 |pass _ _ _ _=>simp[PR.kind]at kd
 |choose _ _ _ _=>simp[PR.kind]at kd
 |merge h1 h0 hb hc h2=>
  rename_i p dx t0 t1 t2 t3 told ones noughts outs;change xs.length=1+outs.length at wide;refine⟨_,U,p,_,_,_,_,U,h1,T.Bm,T.Fx,lf4 Qz Qz Qz,_,U,_,U,l,_,U,SqL.of hl,λlc hlc=>?_⟩
  have ec:cq (xs.map V.int) (some 1) none=xs.tail.map V.int:=by
   unfold cq
   have e1:HT.sIx (xs.map V.int).length 0 (some 1)=1:=by
    have:=HT.sIx_nat (xs.map V.int).length 0 1;rw[show((1:Nat):Int)=1 from rfl]at this;rw[this,qa];omega
   have e2:HT.sIx (xs.map V.int).length (xs.map V.int).length none=(xs.map V.int).length:=U;rw[e1,e2,List.drop_one,<- List.map_tail,List.take_of_length_le (by rw[qa,qa,List.length_tail];omega)]
  rw[ec];refine⟨true,false,t3,lc,_,_,U,SqT.of (a9.new hlc _ _ _ h2),SqL.of af,λH3 lz ts s3 nl hz tl at_=>?_⟩;have rz:=RPs.zip (H:=H3) (ts:=ts) (xs:=outs) (ys:=xs.tail) (by rw[tl,qa,qa]) λj t x y a b c=>(at_ j t x y a b c).1;exact k _ lz _ ((a9.new hlc _).trans s3) (a9.none (a9.new hlc _) nl) hz (λp hp=>a9.none (a9.new hlc _) (gN tl (λj t x y a b c=>(at_ j t x y a b c).2) p hp)) rz
theorem lQ(T:Tx P w K mg a):aA P w K mg base CX0 1 a.Bx a.Cu ["self","yard"] (iC a false):=by
 refine T.Ge.ok vX (λvs H Q E h=>?_) (λcdv A outer s H vs Q E hr h=>?_)
 ·obtain⟨_,_,_,_,_,_,rfl,_⟩:=h
  rfl
 obtain⟨C,S,v,r,qs,ls,rfl,kd,hp,ok,ft,ry,k⟩:=h;refine⟨_,(ah (ak (aH (pq 0) U))),?_⟩
 cases hp with
 |pass h1 h0 _ _=>exact⟨_,U,_,_,_,_,_,U,h1,T.Bt,T.Fl,dA,k _ _ (a9.refl _) h0⟩
 |work h1 h0 _ _ _=>exact⟨_,U,_,_,_,_,_,U,h1,T.Bn,T.Fo,dA,k _ _ (a9.refl _) h0⟩
 |choose h1 h0 _ _=>exact⟨_,U,_,_,_,_,_,U,h1,T.At,T.Fr,dA,k _ _ (a9.refl _) h0⟩
 |merge _ _ _ _ _=>simp[PR.kind]at kd
theorem lY{u v x y:V}:List.lookup ("ins":Str) [(("ins":Str),u),("ones",v),("noughts",x),("outs",y)]=some u:=dA
theorem zD{u v x y:V}:List.lookup ("ones":Str) [(("ins":Str),u),("ones",v),("noughts",x),("outs",y)]=some v:=(aZ Qz).trans dA
theorem zE{u v x y:V}:List.lookup ("noughts":Str) [(("ins":Str),u),("ones",v),("noughts",x),("outs",y)]=some x:=(aZ Qz).trans ((aZ Qz).trans dA)
theorem yK(T:Tx P w K mg a):aA P w K mg base CX0 4 a.CL a.CM ["self","yard"] (iC a true):=by
 refine T.Gy.ok pN (λvs H Q E h=>?_) (λcdv A outer s H vs Q E hr h=>?_)
 ·obtain⟨_,_,_,_,_,_,rfl,_⟩:=h
  rfl
 obtain⟨C,S,v,r,qs,ls,rfl,kd,hp,ok,ft,ry,k⟩:=h
 refine⟨_,(ae (aT (i:=2) pN.nd U Oi (dw (pq 1) T.wT T.HV (yu T) (hr.mono Yd) T.FV .nil ar (a8 (ag au (aH (pq 0) U) aa Oy) ac)))
  (ae (aD (ap gp (pq 2) cX (ao _)) (ah (ak (aH (pq 0) U))) aF)
  (ah (ak (ai lO (aH (pq 0) U) (dH (ap ba (pq 2) aa (ao _)) (aH (pq 0) U) (aH (pq 0) U))))))),?_⟩
 cases hp with
 |pass _ _ _ _=>simp[PR.kind]at kd
 |work _ _ _ _ _=>simp[PR.kind]at kd
 |choose _ _ _ _=>simp[PR.kind]at kd
 |merge h1 h2 h3 h4 h5=>
  rename_i p dx' ta tb tc td told ones noughts outs;have t0:=ft.1.lo told qp;have lt:told.toNat<C.nl:=by have:=ft.1.hi told qp;omega
  have hs:((List.range C.nl).map S.st)[told.toNat]?=some (S.st told.toNat):=by rw[qF,List.getElem?_range lt];rfl
  obtain⟨ol,l1,l2⟩:=ok;refine⟨_,U,C.y,_,_,U,ry.o,fO Qz,_,U,p,_,_,_,_,U,h1,T.Bm,T.BQ,lY,ta,_,_,_,U,U,SqT.of h2,U,C.y,C.dy,C.la,C.lq,qs,_,ls,told,_,U,ry,t0,hs,?_⟩;unfold jc;have kk:=k;simp only[aB,aO]at kk;generalize (S.st told.toNat).1.drop (S.st told.toNat).2=row at kk ⊢
  cases row with
  |nil=>
   refine⟨_,U,U,_,U,bo U ?_⟩;exact⟨_,U,p,_,_,_,_,U,h1,T.Bm,T.BQ,lY,kk H ta (a9.refl _) h2⟩
  |cons x row=>
   refine⟨_,U,U,_,U,aL U ?_⟩;refine⟨_,U,p,_,_,_,_,U,h1,T.Bm,T.BQ,lY,?_⟩;refine⟨_,U,U,_,U,?_⟩;dsimp only at kk;refine bc (λc=>?_) (λc=>?_)
   ·rw[Q1 (dJ c)]at kk;refine⟨_,U,p,_,_,_,_,U,h1,T.Bm,T.Fw,zE,ta,tc,_,_,U,U,SqT.of h2,SqT.of h4,by simp,bb (m:=1000) (by rw[qa,Q7];omega),λe=>?_,λ_ p6 hp6=>?_⟩
    ·rw[List.map_eq_nil_iff]at e;subst e;exact kk H ta (a9.refl _) h2
    ·exact kk _ p6 (a9.new hp6 _) af
   ·rw[Q0 (dL c)]at kk;refine⟨_,U,p,_,_,_,_,U,h1,T.Bm,T.Fv,zD,ta,tb,_,_,U,U,SqT.of h2,SqT.of h3,by simp,bb (m:=1000) (by rw[qa,Q7];omega),λe=>?_,λ_ p6 hp6=>?_⟩
    ·rw[List.map_eq_nil_iff]at e;subst e;exact kk H ta (a9.refl _) h2
    ·exact kk _ p6 (a9.new hp6 _) af
theorem xV(T:Tx P w K mg a):aA P w K mg base CX0 4 a.CS a.CT ["row"] (nN a):=by
 refine T.Ey.ok pB (λvs H Q E h=>?_) (λcdv A outer s H vs Q E hr h=>?_)
 ·obtain⟨_,_,_,rfl,_⟩:=h
  rfl
 obtain⟨H0,v,r,rfl,s0,hr',k⟩:=h
 refine⟨_,(ae (aT (i:=1) pB.nd U Oi (ag au (pq 0) aa Oy))
  (ae (aD (ap ba (pq 1) bg (ao _)) (ah (ak (fI T.Ia (yJ T) (hr.mono Yd) U T.HZ T.Gg .nil ar (a8 (ag au (pq 0) aa Oy) (a8 (ag au (pq 0) aa Oy) (a8 (ag au (pq 0) aa Oy) ac)))))) aF)
  (ae (aD (ap ba (pq 1) bg (ao _)) (ah (ak (fI T.Ie (yx T) (hr.mono Yd) U T.Id T.Gm .nil ar (a8 (ag au (pq 0) aa Oy) (a8 (ag au (pq 0) aa Oy) (a8 (ag au (pq 0) aa Oy) (a8 (eB gc (pq 0) (cg aa) fG) ac))))))) aF)
  (ae (aD (ap ba (pq 1) bg (ao _)) (ah (ak (fI T.Ik (yO T) (hr.mono Yd) U T.Ij T.Gq .nil ar (a8 (ag au (pq 0) aa Oy) (a8 (ag au (pq 0) aa Oy) (a8 (ag au (pq 0) aa Oy) (a8 (ag au (pq 0) aa Oy) (a8 (ag au (pq 0) aa Oy) ac)))))))) aF)
  (ah (ak (fI T.Ip (yM T) (hr.mono Yd) U T.Io T.Gx .nil ar (a8 (ag au (pq 0) aa Oy) (a8 (ag au (pq 0) aa Oy) (a8 (ag au (pq 0) aa Oy) (a8 (ag au (pq 0) aa Oy) ac))))))))))),?_⟩
 have over:∀(H1:Hp)(o dx:Addr)(u u' u2:HO),H1 o=none->H1 dx=none->a9 H1 (upd (upd (upd H1 dx u) o u') o u2):=λH1 o dx u u' u2 ho hd b ob hb=>by
  have n1:b≠o:=λz=>by rw[z,ho]at hb;cases hb
  have n2:b≠dx:=λz=>by rw[z,hd]at hb;cases hb
  rw[aj n1,aj n1,aj n2];exact hb
 cases hr' with
 |pass h1 h2 h3 h4=>
  rename_i p t0 t1 t2 ins outs route;refine⟨_,U,p,_,_,_,U,U,SqT.of (s0 _ _ h1),U,?_⟩;refine⟨_,U,U,_,U,bo Qz ?_⟩;refine⟨_,U,p,_,_,_,U,U,SqT.of (s0 _ _ h1),U,_,U,p,_,_,_,U,U,SqT.of (s0 _ _ h1),U,_,U,p,_,_,_,U,U,SqT.of (s0 _ _ h1),U,λo dx ho hd nd=>?_⟩;exact⟨o,dx,_,_,_,U,af,U,k _ _ (over _ _ _ _ _ _ ho hd) ho λK0 sk nw=>.pass (nw _ _ ho af) (sk _ _ h2) (sk _ _ h3) (sk _ _ h4)⟩
 |work h1 h2 h3 h4=>
  rename_i p t0 ins out sg sa sb sl sr;refine⟨_,U,p,_,_,_,U,U,SqT.of (s0 _ _ h1),U,?_⟩;refine⟨_,U,U,_,U,aL Qz ?_⟩;refine⟨_,U,U,_,U,bo Qz ?_⟩;refine⟨_,U,p,_,_,_,U,U,SqT.of (s0 _ _ h1),U,_,U,p,_,_,_,U,U,SqT.of (s0 _ _ h1),U,_,U,p,_,_,_,U,U,SqT.of (s0 _ _ h1),U,_,U,_,U,p,_,U,SqT.of (s0 _ _ h1),?_,λtt htt=>?_⟩
  ·rintro⟨z,_⟩;exact Q5 z (by show ¬ (HT.sIx 6 0 (some 4)=0);decide)
  intro o dx ho hd nd;have s2:=(a9.new htt (.tup (cq [V.str "work",.ref t0,.int out,.str sg,sa,sb] (some 4) none)));exact⟨o,dx,_,_,_,_,U,af,U,k _ _ (s2.trans (over _ _ _ _ _ _ ho hd)) (a9.none s2 ho) λK0 sk nw=>.work (nw _ _ (a9.none s2 ho) af) (sk _ _ h2) (nw _ _ htt (over _ _ _ _ _ _ ho hd _ _ af)) (h3.same sk) (h4.same sk)⟩
 |choose h1 h2 h3 h4=>
  rename_i p t0 t1 t2 ins ones noughts which told;refine⟨_,U,p,_,_,_,U,U,SqT.of (s0 _ _ h1),U,?_⟩;refine⟨_,U,U,_,U,aL Qz ?_⟩;refine⟨_,U,U,_,U,aL Qz ?_⟩;refine⟨_,U,U,_,U,bo Qz ?_⟩;refine⟨_,U,p,_,_,_,U,U,SqT.of (s0 _ _ h1),U,_,U,p,_,_,_,U,U,SqT.of (s0 _ _ h1),U,_,U,p,_,_,_,U,U,SqT.of (s0 _ _ h1),U,_,U,p,_,_,_,U,U,SqT.of (s0 _ _ h1),U,_,U,p,_,_,_,U,U,SqT.of (s0 _ _ h1),U,λo dx ho hd nd=>?_⟩;exact⟨o,dx,_,_,_,_,_,U,af,U,k _ _ (over _ _ _ _ _ _ ho hd) ho λK0 sk nw=>.choose (nw _ _ ho af) (sk _ _ h2) (sk _ _ h3) (sk _ _ h4)⟩
 |merge h1 h2 h3 h4=>
  rename_i p ta tb tc told ones noughts outs;refine⟨_,U,p,_,_,_,U,U,SqT.of (s0 _ _ h1),U,?_⟩;refine⟨_,U,U,_,U,aL Qz ?_⟩;refine⟨_,U,U,_,U,aL Qz ?_⟩;refine⟨_,U,U,_,U,aL Qz ?_⟩;refine⟨_,U,p,_,_,_,U,U,SqT.of (s0 _ _ h1),U,_,U,p,_,_,_,U,U,SqT.of (s0 _ _ h1),U,_,U,p,_,_,_,U,U,SqT.of (s0 _ _ h1),U,_,U,p,_,_,_,U,U,SqT.of (s0 _ _ h1),U,λo dx ho hd nd=>?_⟩;refine⟨o,dx,_,_,_,_,U,af,λtt htt=>⟨U,?_⟩⟩;have nto:tt≠o:=λz=>by rw[z,af]at htt;cases htt
  have ntd:tt≠dx:=λz=>by rw[aj nto,z,af]at htt;cases htt
  have ht0:H tt=none:=by rw[aj nto,aj ntd]at htt;exact htt
  have sm:a9 H (upd (upd (upd (upd H dx (.own o)) o (.ins a.wp dx [])) tt (.tup [.int told])) o (.ins a.wp dx [("ins",.ref tt),("ones",.ref ta),("noughts",.ref tb),("outs",.ref tc)])):=λb ob hb=>by
   have n1:b≠o:=λz=>by rw[z,ho]at hb;cases hb
   have n2:b≠dx:=λz=>by rw[z,hd]at hb;cases hb
   have n3:b≠tt:=λz=>by rw[z,ht0]at hb;cases hb
   rw[aj n1,aj n3,aj n1,aj n2];exact hb
  exact k _ _ sm ho λK0 sk nw=>.merge (nw _ _ ho af) (nw _ _ ht0 (by rw[aj nto];exact af)) (sk _ _ h2) (sk _ _ h3) (sk _ _ h4)
theorem dB{f:Str}{v:V}:∀{ns:List Str}{vs:List V}(i:Nat),ns[i]?=some f->((ns.take i).contains f)=false->vs[i]?=some v->(ns.zip vs).lookup f=some v
 |[],_,i,h,_,_=>by simp at h
 |_::_,[],i,_,_,h=>by simp at h
 |n::ns,u::vs,0,h,_,h'=>by cases h;cases h';exact dA
 |n::ns,u::vs,i+1,h,c,h'=>by
  have c:(f == n || (ns.take i).contains f)=false:=c;rw[Bool.or_eq_false_iff]at c;exact(aZ c.1).trans (dB i h c.2 h')
theorem fK{f:Str}:∀{ns:List Str}{vs:List V},ns.contains f=false->(ns.zip vs).lookup f=none
 |[],_,_=>rfl
 |_::_,[],_=>rfl
 |n::ns,u::vs,c=>by
  have c:(f == n || ns.contains f)=false:=c;rw[Bool.or_eq_false_iff]at c;exact(aZ c.1).trans (fK c.2)
theorem lE{f:Str}{v:V}:∀{ns:List Str}{vs:List V}(i:Nat),ns[i]?=some f->((ns.take i).contains f)=false->i<vs.length->bz f v (ns.zip vs)=ns.zip (vs.set i v)
 |[],_,i,h,_,_=>by simp at h
 |_::_,[],i,_,_,h=>Q5 h (Qy _)
 |n::ns,u::vs,0,h,_,h'=>by cases h;show bz _ _ ((_,_)::_)=_;rw[bz,Q1 U];rfl
 |n::ns,u::vs,i+1,h,c,h'=>by
  have c:(f == n || (ns.take i).contains f)=false:=c;rw[Bool.or_eq_false_iff]at c;have ne:¬ n=f:=λz=>by have:=c.1;rw[z]at this;simp at this
  show bz _ _ ((n,u)::ns.zip vs)=_;rw[bz,Q0 ne,lE i h c.2 (Nat.lt_of_succ_lt_succ h')]
  rfl
section
variable {H0 H:Hp}{C:PlC}{ad:Rl->Addr}{hd:Nat->Addr}{lgv:List V}{S:PlS}
theorem PlH.ob(M:PlH a H0 H C ad hd lgv S):H C.b=some (plO a C ad S.sp):=M.b▸M.own.av .b trivial
end
theorem lz0{x:List V}{v:V}(h:x[0]?=some v):List.lookup ("yard":Str) (plN.zip x)=some v:=dB 0 U Qz h
theorem lz1{x:List V}{v:V}(h:x[1]?=some v):List.lookup ("doers":Str) (plN.zip x)=some v:=dB 1 U Qz h
theorem lz2{x:List V}{v:V}(h:x[2]?=some v):List.lookup ("pace":Str) (plN.zip x)=some v:=dB 2 U Qz h
theorem lz3{x:List V}{v:V}(h:x[3]?=some v):List.lookup ("spare":Str) (plN.zip x)=some v:=dB 3 U Qz h
theorem lz4{x:List V}{v:V}(h:x[4]?=some v):List.lookup ("log":Str) (plN.zip x)=some v:=dB 4 U Qz h
theorem lz5{x:List V}{v:V}(h:x[5]?=some v):List.lookup ("held":Str) (plN.zip x)=some v:=dB 5 U Qz h
theorem lz6{x:List V}{v:V}(h:x[6]?=some v):List.lookup ("takings":Str) (plN.zip x)=some v:=dB 6 U Qz h
theorem lz7{x:List V}{v:V}(h:x[7]?=some v):List.lookup ("givers":Str) (plN.zip x)=some v:=dB 7 U Qz h
theorem lz8{x:List V}{v:V}(h:x[8]?=some v):List.lookup ("takers":Str) (plN.zip x)=some v:=dB 8 U Qz h
theorem lz9{x:List V}{v:V}(h:x[9]?=some v):List.lookup ("without_room":Str) (plN.zip x)=some v:=dB 9 U Qz h
theorem lX{x:List V}{v:V}(h:x[10]?=some v):List.lookup ("without_thing":Str) (plN.zip x)=some v:=dB 10 U Qz h
theorem yF(T:Tx P w K mg a):aA P w K mg base CX0 1 a.D6 a.D7 ["self","part"] (oV a):=by
 refine T.GO.ok pM (λvs H Q E h=>?_) (λcdv A outer s H vs Q E hr h=>?_)
 ·obtain⟨_,_,_,_,_,_,_,rfl,_⟩:=h
  rfl
 obtain⟨H0,C,ad,hd,lgv,S,x,rfl,B,M,hx,k⟩:=h
 refine⟨_,(ae (aD (ap ba (bh bG U T.ld Q8 (a8 (aH (pq 0) U) ac)) aa (ao _)) (ah (ak aa)) aF)
  (ae (aT (i:=2) pM.nd U Oi (ag aN (aH (pq 0) U) (ai aW (pq 1) (bh bG U T.ld Q8 (a8 (aH (pq 0) U) ac))) Oy))
  (ah (ak (dH (ap fE (bh bG U T.ld Q8 (a8 (pq 2) ac)) aa (ao _)) (ag aN (pq 2) (ai aW (ag aN (aH (pq 0) U) (pq 1) Oy) (bh bG U T.ld Q8 (a8 (pq 2) ac))) Oy) aa))))),?_⟩
 have hp:=M.own.sa _ _ B.pc;have ho:=M.ob;have pl:=B.pr.len;unfold bw at k;refine⟨_,U,C.b,_,C.dx,_,_,U,ho,T.f8,T.BR,lz2 U,C.pc,_,U,.inl (SqL.of hp),U,_,U,bc (λc=>?_) (λc=>?_)⟩
 ·rw[Q1 (by have:=dJ c;omega)]at k;exact k
 have n0:C.pace.length≠0:=λz=>dL c (by rw[pl,z];rfl);rw[Q0 n0]at k;have lt:x % C.pace.length<C.pace.length:=Nat.mod_lt _ Yk;obtain⟨pr,e1,h1⟩:=B.pr.at (x % C.pace.length) (C.pace[x % C.pace.length]) (qd lt);have eg:C.pace.getD (x % C.pace.length) []=C.pace[x % C.pace.length]:=by rw[qk,qd lt];rfl
 rw[eg]at k;have hw:=M.own.sa _ _ h1;generalize C.pace[x % C.pace.length]=row at *
 have hat:atI C.pv ((x:Int) % (C.pv.length:Int))=some (.ref pr):=by
  rw[pl];exact bT (j:=x % C.pace.length) e1
 refine⟨_,U,C.b,_,C.dx,_,_,U,ho,T.f8,T.BR,lz2 U,_,U,_,U,C.b,_,C.dx,_,_,U,ho,T.f8,T.BR,lz2 U,C.pc,_,U,.inl (SqL.of hp),_,_,U,U,Yk,C.pc,_,_,_,U,U,SqL.of hp,hat,?_⟩;refine⟨_,U,pr,_,U,.inl (SqL.of hw),_,_,U,U,_,U,bc (λc=>?_) (λc=>?_)⟩
 ·have r0:row.length≠0:=λz=>by
   have:=Qd c;rw[qa,z]at this;exact Q5 this Yd
  rw[Q0 r0]at k;have lt2:S.tks x % row.length<row.length:=Nat.mod_lt _ Yk;have eg2:row.getD (S.tks x % row.length) 0=row[S.tks x % row.length]:=by rw[qk,qd lt2];rfl
  rw[eg2]at k;have ht:=M.own.av .tl trivial;have hat2:atI ((List.range C.n).map λx=>V.int (S.tks x)) (x:Int)=some (.int (S.tks x)):=bT (by rw[qF,List.getElem?_range hx];rfl)
  have hat3:atI (row.map V.int) (((S.tks x:Nat):Int) % ((row.map V.int).length:Int))=some (.int row[S.tks x % row.length]):=by
   rw[qa];exact bT (j:=S.tks x % row.length) (by rw[qF,qd lt2];rfl)
  exact⟨_,U,_,U,C.b,_,C.dx,_,_,U,ho,T.f8,T.BV,lz6 U,_,U,ad .tl,_,_,_,U,U,SqL.of ht,hat2,_,U,pr,_,U,.inl (SqL.of hw),_,_,U,U,by rw[qa];omega,pr,_,_,_,U,U,SqL.of hw,hat3,k⟩
 ·have r0:row.length=0:=by
   by_cases z:row.length=0
   ·exact z
   ·exact Q5 (Q3 (by rw[qa];omega)) c
  rw[Q1 r0]at k;exact k
theorem ir{ad:Rl->Addr}:∀{g:Gv}{t:Int},cW (g.map λkv=>((Sum.inl kv.1:Key),V.ref (ad (.gv kv.1)))) (Sum.inl t)=if t∈aR g then some (.ref (ad (.gv t)))else none
 |[],t=>rfl
 |(j,ps)::g,t=>by
  rw[qS];by_cases e:j=t
  ·rw[nc (by show(Sum.inl j:Key)=_;rw[e]),Q1 (by rw[<- e];exact qp),e]
  ·rw[nh (by intro z;exact e (Sum.inl.inj z)),ir];have:t∈aR ((j,ps)::g)↔t∈aR g:=⟨λh=>(qv.mp h).resolve_left λz=>e z.symm,qm _⟩;by_cases m:t∈aR g
   ·rw[Q1 m,Q1 (this.mpr m)]
   ·rw[Q0 m,Q0 λz=>m (this.mp z)]
theorem wO{ad:Rl->Addr}{g:Gv}{t:Int}{v:V}(h:t∉aR g):d9 (g.map λkv=>((Sum.inl kv.1:Key),V.ref (ad (.gv kv.1)))) (Sum.inl t) v=(g.map λkv=>((Sum.inl kv.1:Key),V.ref (ad (.gv kv.1))))++[(Sum.inl t,v)]:=by
 unfold d9;rw[Q0];intro z;obtain⟨kv,hk,e⟩:=List.any_eq_true.mp z;obtain⟨jv,hj,rfl⟩:=List.mem_map.mp hk;exact h (List.mem_map.mpr ⟨jv,hj,Sum.inl.inj (Qd e)⟩)
section
variable {H0 H:Hp}{C:PlC}{ad:Rl->Addr}{hd:Nat->Addr}{lgv:List V}{S:PlS}
theorem bf.up{H':Hp}{D:Rl->Prop}{c:Rl->HO}(M:bf H0 H D ad c)(s:a9 H H'):bf H0 H' D ad c:=⟨M.sa.trans s,M.nw,M.inj,λr hr=>s _ _ (M.av r hr)⟩
theorem PlH.up{H':Hp}(M:PlH a H0 H C ad hd lgv S)(s:a9 H H'):PlH a H0 H' C ad hd lgv S:=⟨M.own.up s,M.b,M.qo,M.hd,M.lg⟩
theorem PlH.low{H0' H':Hp}(M:PlH a H0 H C ad hd lgv S)(s:a9 H0 H0')(o:bf H0' H' (dmP C.nl (aR S.gv)) ad (cnP a C ad hd lgv S)):PlH a H0' H' C ad hd lgv S:=⟨o,M.b,M.qo,λx hx=>let ⟨vs,h1,h2⟩:=M.hd x hx;⟨vs,s _ _ h1,h2.same s⟩,M.lg.same s⟩
theorem AX{g:Gv}{t:Int}{ps:List Nat}(m:t∈aR g):(bj g t ps).map (λkv=>((Sum.inl kv.1:Key),V.ref (ad (.gv kv.1))))=g.map (λkv=>((Sum.inl kv.1:Key),V.ref (ad (.gv kv.1)))):=by
 unfold bj;split
 ·rfl
 ·first|rw[Q1 m]|skip
  rw[List.map_map]
  exact List.map_congr_left λkv _=>by
   show(λkv:Int×List Nat=>((Sum.inl kv.1:Key),V.ref (ad (.gv kv.1)))) (if kv.1=t then(kv.1,kv.2++ps)else kv)=_;split<;>rfl
theorem PlH.more(M:PlH a H0 H C ad hd lgv S){t:Int}(m:t∈aR S.gv)(ps:List Nat):PlH a H0 (upd H (ad (.gv t)) (.lst (aE (atG S.gv t)++aE ps))) C ad hd lgv { S with gv:=bj S.gv t ps }:=by
 have o:=M.own.put (.gv t) m (.lst (aE (atG S.gv t)++aE ps));refine⟨o.less (λr hr=>?_) λr hr=>?_,M.b,M.qo,M.hd,M.lg⟩
 ·cases r with
  |gv k=>exact(j5.mp hr).elim id λz=>z.2▸m
  |_=>exact hr
 ·cases r with
  |gv k=>
   show _=HO.lst (aE (atG (bj S.gv t ps) k));rw[ua];by_cases e:k=t
   ·rw[e,bR,Q1 U];unfold aE;rw[qP]
   ·rw[bq λz=>e (Rl.gv.inj z),Q0 e]
    rfl
  |gd=>
   show HO.dK _=HO.dK ((bj S.gv t ps).map _);rw[AX m]
  |_=>rfl
theorem PlH.newTurn(M:PlH a H0 H C ad hd lgv S){t:Int}(m:t∉aR S.gv){ps:List Nat}(hp:ps≠[]){z:Addr}(hz:H z=none):PlH a H0 (upd (upd (upd H z (.lst [])) (ad .gd) (.dK ((S.gv.map λkv=>((Sum.inl kv.1:Key),V.ref (ad (.gv kv.1))))++[(Sum.inl t,.ref z)]))) z (.lst (aE ps))) C (at' ad (.gv t) z) hd lgv { S with gv:=bj S.gv t ps }:=by
 have o1:=M.own.new (.gv t) hz (.lst []);have o2:=o1.put .gd (.inr trivial) (.dK ((S.gv.map λkv=>((Sum.inl kv.1:Key),V.ref (ad (.gv kv.1))))++[(Sum.inl t,.ref z)]));have o3:=o2.put (.gv t) (.inl U) (.lst (aE ps));rw[bR]at o3;have ea:bj S.gv t ps=S.gv++[(t,ps)]:=by unfold bj;rw[Q0 hp,Q0 m]
 refine⟨o3.less (λr hr=>?_) λr hr=>?_,M.b,M.qo,M.hd,M.lg⟩
 ·cases r with
  |gv k=>exact(j5.mp hr).elim .inr λz=>.inl (by rw[z.2])
  |_=>exact .inr hr
 ·cases r with
  |gv k=>
   show _=HO.lst (aE (atG (bj S.gv t ps) k));rw[ua];by_cases e:k=t
   ·rw[e,bR,Q1 U,mL m,Ql]
   ·rw[bq λz=>e (Rl.gv.inj z),Q0 e];show at' (cnP a C ad hd lgv S) (.gv t) (.lst []) (.gv k)=_;rw[bq λz=>e (Rl.gv.inj z)]
    rfl
  |gd=>
   show HO.dK _=HO.dK ((bj S.gv t ps).map λkv=>((Sum.inl kv.1:Key),V.ref (at' ad (.gv t) z (.gv kv.1))));rw[ea,qP];refine congrArg HO.dK (congr (congrArg HAppend.hAppend (List.map_congr_left λkv hk=>?_)) ?_)
   ·rw[bq λz=>m (by have e:=Rl.gv.inj z;rw[<- e];exact List.mem_map.mpr ⟨kv,hk,U⟩)]
   ·show _=[((Sum.inl t:Key),V.ref (at' ad (.gv t) z (.gv t)))];rw[bR]
  |_=>rfl
end
theorem rS(T:Tx P w K mg a):aA P w K mg base CX0 1 a.D4 a.D5 ["self","turn","parts"] (oX a):=by
 refine T.GN.ok vT (λvs H Q E h=>?_) (λcdv A outer s H vs Q E hr h=>?_)
 ·obtain⟨_,_,_,_,_,_,_,_,_,rfl,_⟩:=h
  rfl
 obtain⟨H0,C,ad,hd,lgv,S,t,l,ps,rfl,B,M,hl,hn,gl,pl,gb,nd,k⟩:=h;refine⟨_,(ah (aD (ap fE (bh bG U T.ld Q8 (a8 (pq 2) ac)) aa (ao _)) (ah (bO (cD qh Qo Qn se (xq (aH (pq 0) U) (pq 1) (bn ac) ⟨U,U,U,U⟩) (a8 (pq 2) ac)))) aF)),?_⟩;refine⟨_,U,l,_,U,.inl (SqL.of hl),_,_,U,U,_,U,bc (λc=>?_) (λc=>?_)⟩
 ·have p0:ps≠[]:=λz=>by rw[z]at c;exact Q5 c Yd
  have ho:=M.ob;have hg:=M.own.av .gd trivial;refine⟨_,U,C.b,_,C.dx,_,_,U,ho,T.f8,T.BI,lz7 U,ad .gd,U,.inl ⟨_,.of hg⟩,_,U,qu _,λz hz=>?_⟩;have ng:ad .gd≠z:=λe=>by rw[e,hz]at hg;cases hg
  have nl:l≠z:=λe=>by rw[e,hz]at hl;cases hl
  have ngl:l≠ad .gd:=λe=>by rw[e,hg]at hl;cases hl
  have big:(10000000:Nat)<sizeLine:=Yd;refine⟨_,.inl t,by rw[aj ng];exact hg,U,by rw[qa];omega,λv hv=>?_,λhv=>?_⟩
  ·rw[ir]at hv;split at hv
   ·rename_i m;cases hv;have M1:=M.up (a9.new hz (.lst []));have h1:=M1.own.av (.gv t) m;have lb:(atG S.gv t).length<=1000:=gb _ (gG m);refine⟨.inl ⟨U,_,SqL.of h1⟩,_,U,ad (.gv t),l,_,_,U,U,h1,by rw[aj nl];exact hl,?_,?_⟩
    ·unfold aE;rw[qa,qa];omega
    exact k _ ad (M1.more m ps) λ_ _=>U
   ·cases hv
  ·rw[ir]at hv;split at hv
   ·cases hv
   rename_i m;rw[wO m];have M2:=M.newTurn m p0 hz;refine⟨.inl ⟨U,_,SqL.of (xs:=[]) (by rw[aj (Ne.symm ng),af])⟩,_,U,z,l,_,_,U,U,(by rw[aj (Ne.symm ng),af]:_=some (HO.lst [])),(by rw[aj ngl,aj nl];exact hl),?_,?_⟩
   ·show 0+_<=_;unfold aE;rw[qa];omega
   ·exact k _ _ M2 λr hr=>bq (hr t)
 ·have p0:ps=[]:=by
   cases ps with
   |nil=>rfl
   |cons p ps=>exact Q5 (Q3 (by show(0:Int)<(((aE (p::ps)).length:Nat):Int);unfold aE;rw[qa,qC];omega)) c
  have:=k H ad (by rw[p0];exact M) λ_ _=>U;exact this
section
variable {H0 H:Hp}{C:PlC}{ad:Rl->Addr}{hd:Nat->Addr}{lgv:List V}{S:PlS}
def qsP(C:PlC)(ad:Rl->Addr):List (Addr×Addr×Addr):=(List.range C.nl).map λi=>(C.qo i,C.dq i,ad (.ql i))
def stP(C:PlC)(S:PlS):List (List Int×Nat):=(List.range C.nl).map S.st
def lsP(C:PlC):List (Option Int):=(List.range C.nl).map C.ls
theorem cF{α:Type}{f:Nat->α}{n i:Nat}(h:i<n):((List.range n).map f)[i]?=some (f i):=by rw[qF,List.getElem?_range h];rfl
theorem PlH.ry(M:PlH a H0 H C ad hd lgv S)(B:PlB a H0 C)(cp:∀i,(S.st i).2<=(S.st i).1.length/\(S.st i).1.length<=10000000):RY a H C.y C.dy C.la C.lq (qsP C ad) (stP C S) (lsP C):=by
 refine⟨M.own.sa _ _ B.yo,?_,by unfold qsP stP;simp,λi q s hq hs=>?_,?_,by unfold lsP stP;simp⟩
 ·rw[M.own.sa _ _ B.lq];unfold qsP;rw[List.map_map]
  rfl
 ·have lt:i<C.nl:=by have:=(qg.mp hs).1;unfold stP at this;simpa using this
  unfold qsP at hq;unfold stP at hs;rw[cF lt]at hq hs;cases hq;cases hs;exact⟨M.qo i lt▸M.own.av (.qo i) lt,M.own.av (.ql i) lt,(cp i).1,(cp i).2⟩
 ·rw[M.own.sa _ _ B.la];unfold lsP;rw[List.map_map]
  rfl
end
theorem RPs.at{H:Hp}:∀{vs:List V}{xs:List (Int×Int)},RPs H vs xs->∀{i:Nat}{v:V},vs[i]?=some v->∃p x,v=.ref p/\xs[i]?=some x/\H p=some (.tup [.int x.1,.int x.2])
 |_,_,.nil,i,v,h=>by simp at h
 |_,_,.cons (p:=p) (x:=x) a r,0,v,h=>by cases h;exact⟨p,x,U,U,a⟩
 |_,_,.cons a r,i+1,v,h=>RPs.at r (by simpa using h)
theorem mz{α:Type}{p:α->Bool}:∀{l:List α}{i:Nat}{y:α},l[i]?=some y->p y=true->(∀z∈l.take i,p z=false)->l.find? p=some y
 |[],i,y,h,_,_=>by simp at h
 |x::l,0,y,h,hy,_=>by cases h;rw[List.find?_cons_of_pos hy]
 |x::l,i+1,y,h,hy,hz=>by
  rw[List.find?_cons_of_neg (by rw[hz x qp];exact qj)];exact mz (i:=i) (by simpa using h) hy λz hm=>hz z (qm _ hm)
theorem mq:∀(ps:List (Int×Int))(S:PlS)(j:Nat),((ps.foldl ay S).st j).1.length<=(S.st j).1.length+ps.length/\(S.st j).1.length<=((ps.foldl ay S).st j).1.length/\((ps.foldl ay S).st j).2=(S.st j).2
 |[],S,j=>⟨qf _,qf _,U⟩
 |p::ps,S,j=>by
  obtain⟨h1,h2,h3⟩:=mq ps (ay S p) j
  have e:((ay S p).st j).1.length<=(S.st j).1.length+1/\(S.st j).1.length<=((ay S p).st j).1.length/\((ay S p).st j).2=(S.st j).2:=by
   show((put S.st p.1.toNat _ j).1.length<=_)/\_<=(put S.st p.1.toNat _ j).1.length/\(put S.st p.1.toNat _ j).2=_;by_cases c:j=p.1.toNat
   ·rw[c,aM];exact⟨by rw[qc];exact qf _,by rw[qc];exact Nat.le_add_right _ _,U⟩
   ·rw[az c];exact⟨Nat.le_succ _,qf _,U⟩
  show((ps.foldl ay (ay S p)).st j).1.length<=_/\_<=((ps.foldl ay (ay S p)).st j).1.length/\((ps.foldl ay (ay S p)).st j).2=_;rw[qC];omega
theorem sT:∀(ps:List (Int×Int))(S:PlS),(ps.foldl ay S).lg=S.lg
 |[],_=>rfl
 |p::ps,S=>sT ps (ay S p)
theorem sU:∀(ps:List (Int×Int))(S:PlS),(ps.foldl ay S).held=S.held
 |[],_=>rfl
 |p::ps,S=>sU ps (ay S p)
theorem j2(x y:List Nat):aE (x++y)=aE x++aE y:=qP
theorem fN(x:List Nat):(aE x).length=x.length:=qa _
theorem j6{n i:Nat}(h:i<n):ixN n (i:Int)=some i:=by
 unfold ixN;rw[Q1 Yk,Q1 Yk];simp
theorem iQ{α β:Type}{f:Nat->β}{g:β->α}{n i:Nat}{v:β}:((List.range n).map λj=>g (f j)).set i (g v)=(List.range n).map λj=>g (put f i v j):=by
 refine List.ext_getElem? λj=>?_;by_cases hj:j<n
 ·rw[cF hj];by_cases e:i=j
  ·subst e;rw[List.getElem?_set_self (by rw[qa,Qe];exact hj),aM]
  ·rw[List.getElem?_set_ne e,cF hj,az (Ne.symm e)]
 ·rw[Qp (by rw[List.length_set,qa,Qe];omega),Qp (by rw[qa,Qe];omega)]
section
variable {H0 H:Hp}{C:PlC}{ad:Rl->Addr}{hd:Nat->Addr}{lgv:List V}{S:PlS}
theorem PlH.stuck(M:PlH a H0 H C ad hd lgv S){i x:Nat}(hi:i<C.nl):PlH a H0 (upd H (ad (.wr i)) (.lst (aE (S.wr i)++[.int x]))) C ad hd lgv (iB S i x):=by
 have o:=M.own.put (.wr i) hi (.lst (aE (S.wr i)++[.int x]));refine⟨o.less (λr hr=>hr) λr hr=>?_,M.b,M.qo,M.hd,M.lg⟩
 cases r with
 |wr j=>
  show _=HO.lst (aE (put S.wr i (S.wr i++[x]) j));by_cases e:j=i
  ·rw[e,bR,aM,j2];rfl
  ·rw[bq λz=>e (Rl.wr.inj z),az e];rfl
 |_=>rfl
theorem PlH.wait(M:PlH a H0 H C ad hd lgv S){i x:Nat}(hi:i<C.nl):PlH a H0 (upd H (ad (.wt i)) (.lst (aE (S.wt i)++[.int x]))) C ad hd lgv (gP S i x):=by
 have o:=M.own.put (.wt i) hi (.lst (aE (S.wt i)++[.int x]));refine⟨o.less (λr hr=>hr) λr hr=>?_,M.b,M.qo,M.hd,M.lg⟩
 cases r with
 |wt j=>
  show _=HO.lst (aE (put S.wt i (S.wt i++[x]) j));by_cases e:j=i
  ·rw[e,bR,aM,j2];rfl
  ·rw[bq λz=>e (Rl.wt.inj z),az e];rfl
 |_=>rfl
theorem B0{ad:Rl->Addr}{i:Nat}{z:Addr}:(λj=>V.ref (at' ad (.wt i) z (.wt j)))=λj=>V.ref (put (λj=>ad (.wt j)) i z j):=funext λj=>by
 by_cases e:j=i
 ·rw[e,bR,aM]
 ·rw[bq λz=>e (Rl.wt.inj z),az e]
theorem AZ{ad:Rl->Addr}{i:Nat}{z:Addr}:(λj=>V.ref (at' ad (.wr i) z (.wr j)))=λj=>V.ref (put (λj=>ad (.wr j)) i z j):=funext λj=>by
 by_cases e:j=i
 ·rw[e,bR,aM]
 ·rw[bq λz=>e (Rl.wr.inj z),az e]
theorem PlH.hand(M:PlH a H0 H C ad hd lgv S){p:Int×Int}(hi:p.1.toNat<C.nl){z:Addr}(hz:upd (upd H (ad (.ql p.1.toNat)) (.lst (((S.st p.1.toNat).1++[p.2]).map V.int))) (ad .tk) (.lst (aE S.tr++aE (S.wt p.1.toNat))) z=none):
 PlH a H0 (upd (upd (upd (upd H (ad (.ql p.1.toNat)) (.lst (((S.st p.1.toNat).1++[p.2]).map V.int))) (ad .tk) (.lst (aE S.tr++aE (S.wt p.1.toNat)))) z (.lst [])) (ad .wtl) (.lst (((List.range C.nl).map λi=>V.ref (ad (.wt i))).set p.1.toNat (.ref z)))) C (at' ad (.wt p.1.toNat) z) hd lgv (ay S p):=by
 have o1:=M.own.put (.ql p.1.toNat) hi (.lst (((S.st p.1.toNat).1++[p.2]).map V.int));have o2:=o1.put .tk trivial (.lst (aE S.tr++aE (S.wt p.1.toNat)));have o3:=o2.new (.wt p.1.toNat) hz (.lst []);have o4:=o3.put .wtl (.inr trivial) (.lst (((List.range C.nl).map λi=>V.ref (ad (.wt i))).set p.1.toNat (.ref z)));refine⟨o4.less (λr hr=>.inr hr) λr hr=>?_,M.b,M.qo,M.hd,M.lg⟩
 cases r with
 |wt j=>
  show at' _ (Rl.wt _) _ (Rl.wt j)=HO.lst (aE (put S.wt p.1.toNat [] j));by_cases e:j=p.1.toNat
  ·rw[e,bR,aM];rfl
  ·rw[bq λz=>e (Rl.wt.inj z),az e];rfl
 |ql j=>
  show at' _ (Rl.ql _) _ (Rl.ql j)=HO.lst ((put S.st p.1.toNat _ j).1.map V.int);by_cases e:j=p.1.toNat
  ·rw[e,bR,aM]
  ·rw[bq λz=>e (Rl.ql.inj z),az e];rfl
 |qo j=>
  show HO.ins _ _ [_,("gone",V.int ((S.st j).2:Nat))]=HO.ins _ _ [_,("gone",V.int ((put S.st p.1.toNat _ j).2:Nat))];by_cases e:j=p.1.toNat
  ·rw[e,aM];rfl
  ·rw[az e];rfl
 |tk=>
  show HO.lst _=HO.lst (aE (S.tr++S.wt p.1.toNat));rw[j2]
 |wtl=>
  show HO.lst _=HO.lst ((List.range C.nl).map λj=>V.ref (at' ad (.wt p.1.toNat) z (.wt j)));rw[B0,iQ]
 |_=>rfl
theorem PlH.ent(M:PlH a H0 H C ad hd lgv S){e:Ent}{z l:Addr}{us:List V}(hz:H z=none)(h2:H0 l=some (.lst us))(h3:RPs H0 us e.hs):
 PlH a (upd H0 z (.tup [.int e.now,.int e.part,.str (if e.took then "took" else "gave"),.ref l])) (upd (upd H z (.tup [.int e.now,.int e.part,.str (if e.took then "took" else "gave"),.ref l])) (ad .lg) (.lst (lgv++[.ref z]))) C ad hd (lgv++[.ref z]) { S with lg:=S.lg++[e] }:=by
 have s0:a9 H0 (upd H0 z (.tup [.int e.now,.int e.part,.str (if e.took then "took" else "gave"),.ref l])):=a9.new (a9.none M.own.sa hz) _;have o:=(M.own.base hz (.tup [.int e.now,.int e.part,.str (if e.took then "took" else "gave"),.ref l])).put .lg trivial (.lst (lgv++[.ref z]));refine⟨o.less (λr hr=>hr) λr hr=>?_,M.b,M.qo,λx hx=>let ⟨vs,h1,h2⟩:=M.hd x hx;⟨vs,s0 _ _ h1,h2.same s0⟩,REs.snoc af (s0 _ _ h2) (h3.same s0) (M.lg.same s0)⟩;cases r<;>rfl
theorem PlH.trx(M:PlH a H0 H C ad hd lgv S)(x:Nat):PlH a H0 (upd H (ad .tk) (.lst (aE S.tr++[.int x]))) C ad hd lgv { S with tr:=S.tr++[x] }:=by
 have o:=M.own.put .tk trivial (.lst (aE S.tr++[.int x]));refine⟨o.less (λr hr=>hr) λr hr=>?_,M.b,M.qo,M.hd,M.lg⟩
 cases r with
 |tk=>show HO.lst _=HO.lst (aE (S.tr++[x]));rw[j2];rfl
 |_=>rfl
end
theorem yG(T:Tx P w K mg a):aA P w K mg base CX0 4 a.CZ a.D0 ["self","now","part"] (oW a):=by
 refine T.GJ.ok gg (λvs H Q E h=>?_) (λcdv A outer s H vs Q E hr h=>?_)
 ·obtain⟨_,_,_,_,_,_,_,_,_,rfl,_⟩:=h
  rfl
 obtain⟨H0,C,ad,hd,lgv,S,now,x,rem,rfl,B,M,G,k⟩:=h
 refine⟨_,(ae (aT (i:=3) gg.nd U Oi (ag aN (aH (pq 0) U) (pq 2) Oy))
  (ae (cf PassesOwn.never U (bH (pq 3)) (hX U (cs (aP (i:=4) gg.nd U Oi) (cs (aP (i:=5) gg.nd U Oi) ef)))
  (ah (aD (cN (bZ (dw (aH (pq 0) U) T.wT T.HU (yq T) (hr.mono Yd) T.FT .nil ar (a8 (pq 4) ac)))) (ae (bO (cD qh qw qx d8 (ag aN (aH (pq 0) U) (pq 4) Oy) (a8 (pq 2) ac)))
  (ah wV)) aF)))
  (ae (cf PassesOwn.never U (bH (pq 3)) (hX U (cs (aP (i:=4) gg.nd U Oi) (cs (aP (i:=5) gg.nd U Oi) ef)))
  (ae (bO (dw (aH (pq 0) U) T.wT T.HW (yt T) (hr.mono Yd) T.FX .nil ar (a8 (pq 4) (a8 (pq 5) ac))))
  (ae (bO (cD qh Qo Qn se (aH (pq 0) U) (a8 (ag aN (aH (pq 0) U) (pq 4) Oy) ac)))
  (ah (dP (bn ac) (eu (aH (pq 0) U) (pq 4) e9))))))
  (ae (bO (cD qh qw qx d8 (aH (pq 0) U) (a8 (bI (a8 (pq 1) (a8 (pq 2) (a8 bg (a8 (pq 3) ac))))) ac)))
  (ah (bO (cD qh qw qx d8 (aH (pq 0) U) (a8 (pq 2) ac)))))))),?_⟩
 obtain⟨loc,I⟩:=G.loc;have hx:=I.not.2.1;have ho:=M.ob;obtain⟨vs,hv0,hvs⟩:=M.hd x hx;have hv:=M.own.sa _ _ hv0;have vl:=hvs.len;have cp:=G.cap;have hh:=M.own.av .hl trivial;have ry:=M.ry B λi=>⟨(cp.st i).2,by have:=(cp.st i).1;omega⟩;have hat:atI ((List.range C.n).map λx=>V.ref (hd x)) (x:Int)=some (.ref (hd x)):=bT (cF hx);refine⟨_,U,C.b,_,C.dx,_,_,U,ho,T.f8,T.Eo,lz5 U,_,U,ad .hl,_,_,_,U,U,SqL.of hh,hat,?_⟩;refine⟨_,U,hd x,U,⟨_,SqL.of hv⟩,?_⟩;refine df (K:=K) (a:=hd x) (xs:=vs) (λi σ G=>(∃v4 v5,σ=[some (.ref C.b),some (.int now),some (.int x),some (.ref (hd x)),v4,v5])/\G=H/\∀p∈(S.held x).take i,roomF C.ls S p.1.toNat=true) ⟨⟨_,_,U⟩,U,λp hp=>by simp at hp⟩ ?_ ?_ ?_
 ·rintro i σ G _ ⟨_,rfl,_⟩;exact SqL.of hv
 ·rintro i v σ G hi ⟨⟨v4,v5,rfl⟩,rfl,hp⟩;obtain⟨p,y,rfl,hy,hpy⟩:=hvs.at hi;have hp1:=M.own.sa _ _ hpy;have yr:=(cp.hn x hx).1 y (qA hy);have lt:y.1.toNat<C.nl:=Yk;refine⟨p,_,U,SqT.of hp1,U,_,_,U,_,_,U,U,?_⟩;refine⟨_,U,C.b,_,C.dx,_,_,U,ho,T.f8,T.Bw,lz0 U,C.y,C.dy,_,U,ry.o,fO Qz,_,U,C.y,C.dy,C.la,C.lq,_,_,_,y.1,S.st y.1.toNat,C.ls y.1.toNat,U,ry,yr.1,cF lt,cF lt,_,U,?_⟩
  cases c:roomF C.ls S y.1.toNat with
  |true=>
   refine aL (by rw[show dh (C.ls y.1.toNat) (((S.st y.1.toNat).1.length:Int)-(S.st y.1.toNat).2)=true from c];rfl) ⟨⟨_,_,U⟩,U,λq hq=>?_⟩;rw[qt,hy,qi]at hq;rcases hq with hq|hq
   ·exact hp q hq
   ·rw[qT.mp hq];exact c
  |false=>
   have hwr:=M.own.av .wrl trivial;have hwi:=M.own.av (.wr y.1.toNat) lt
   have hatw:atI ((List.range C.nl).map λi=>V.ref (ad (.wr i))) y.1=some (.ref (ad (.wr y.1.toNat))):=by
    rw[<- Int.toNat_of_nonneg yr.1];exact bT (cF lt)
   have wl:=(I.wr y.1.toNat).len;have nb:=B.n;refine bo (by rw[show dh (C.ls y.1.toNat) (((S.st y.1.toNat).1.length:Int)-(S.st y.1.toNat).2)=false from c];rfl) ?_;refine⟨_,U,C.b,_,C.dx,_,_,U,ho,T.f8,T.BW,lz9 U,_,U,ad .wrl,_,_,_,U,U,SqL.of hwr,hatw,.inl ⟨U,_,SqL.of hwi⟩,_,U,ad (.wr y.1.toNat),_,_,U,U,hwi,bb (m:=1000) (by rw[fN];omega),?_⟩;refine k H0 _ ad lgv (a9.refl _) ?_
   rw[show cS C.ls S now x=iB S y.1.toNat x by
    unfold cS
    rw[mz hy (by rw[c];rfl) λz hz=>by rw[hp z hz];rfl]]
   exact M.stuck lt
 ·rintro σ G ⟨⟨v4,v5,rfl⟩,rfl,hp⟩;rw[List.take_of_length_le Yk]at hp
  have eg:cS C.ls S now x=eF S now x:=by
   unfold cS;rw[List.find?_eq_none.mpr λp hm=>by rw[hp p hm];exact qj]
  rw[eg]at k;refine⟨_,U,hd x,U,⟨_,SqL.of hv⟩,?_⟩;refine df (K:=K) (a:=hd x) (xs:=vs) (λi σ G=>(∃v4 v5,σ=[some (.ref C.b),some (.int now),some (.int x),some (.ref (hd x)),v4,v5])/\∃ad' loc',aX C.n loc' (x::rem) (((S.held x).take i).foldl ay S)/\PlH a H0 G C ad' hd lgv (((S.held x).take i).foldl ay S)) ⟨⟨_,_,U⟩,ad,loc,I,M⟩ ?_ ?_ ?_
  ·rintro i σ G _ ⟨_,ad',loc',_,M1⟩;exact SqL.of (M1.own.sa _ _ hv0)
  ·rintro i v σ G hi ⟨⟨v4,v5,rfl⟩,ad',loc',I1,M1⟩;obtain⟨p,y,rfl,hy,hpy⟩:=hvs.at hi;have hp1:=M1.own.sa _ _ hpy;have yr:=(cp.hn x hx).1 y (qA hy);have lt:y.1.toNat<C.nl:=Yk;have hl10:=(cp.hn x hx).2.1
   have es:((S.held x).take (i+1)).foldl ay S=ay (((S.held x).take i).foldl ay S) y:=by
    rw[qt,hy,List.foldl_append]
    rfl
   have hst:=mq ((S.held x).take i) S;generalize ((S.held x).take i).foldl ay S=S1 at I1 M1 es hst;have tl:((S.held x).take i).length<=10:=qz (List.length_take_le' _ _) hl10;have ry1:=M1.ry B λj=>⟨by have:=hst j;have:=cp.st j;omega,by have:=hst j;have:=cp.st j;omega⟩;refine⟨p,_,U,SqT.of hp1,U,_,_,U,_,_,U,U,?_⟩;refine⟨_,U,C.b,_,C.dx,_,_,U,M1.ob,T.f8,T.Bw,lz0 U,C.y,C.dy,_,U,ry1.o,fO Qz,_,U,_,U,C.y,C.dy,C.la,C.lq,_,_,_,y.1,y.2,_,S1.st y.1.toNat,U,ry1,yr.1,cF lt,cF lt,?_⟩;have o1:=M1.own.put (.ql y.1.toNat) lt (.lst (((S1.st y.1.toNat).1++[y.2]).map V.int));have b1:upd G (ad' (.ql y.1.toNat)) (.lst (((S1.st y.1.toNat).1++[y.2]).map V.int)) C.b=some (plO a C ad' S1.sp):=M1.b▸o1.av .b trivial;have t1:_=some (HO.lst (aE S1.tr)):=o1.av .tk trivial;have w1:_=some (HO.lst ((List.range C.nl).map λi=>V.ref (ad' (.wt i)))):=o1.av .wtl trivial;have v1:_=some (HO.lst (aE (S1.wt y.1.toNat))):=o1.av (.wt y.1.toNat) lt
   have hatw:atI ((List.range C.nl).map λi=>V.ref (ad' (.wt i))) y.1=some (.ref (ad' (.wt y.1.toNat))):=by
    rw[<- Int.toNat_of_nonneg yr.1];exact bT (cF lt)
   have lb:=I1.tr.len2 (I1.wt y.1.toNat) nofun
   have nb:=B.n;have big:(1000:Nat)<sizeLine:=Yd;refine⟨_,U,C.b,_,C.dx,_,_,U,b1,T.f8,T.BJ,lz8 U,.inl ⟨U,_,SqL.of t1⟩,_,U,C.b,_,C.dx,_,_,U,b1,T.f8,T.BX,lX U,_,U,ad' .wtl,_,_,_,U,U,SqL.of w1,hatw,ad' .tk,ad' (.wt y.1.toNat),_,_,U,U,t1,v1,by rw[fN,fN];omega,?_⟩;have o2:=o1.put .tk trivial (.lst (aE S1.tr++aE (S1.wt y.1.toNat)));refine⟨qu _,λz hz=>?_⟩;have M3:=M1.hand (p:=y) lt hz;have o3:=o2.up (a9.new hz (.lst []));have b3:_=some (plO a C ad' S1.sp):=M1.b▸o3.av .b trivial;have w3:_=some (HO.lst ((List.range C.nl).map λi=>V.ref (ad' (.wt i)))):=o3.av .wtl trivial;refine⟨_,U,C.b,_,C.dx,_,_,U,b3,T.f8,T.BX,lX U,_,U,ad' .wtl,_,_,y.1.toNat,U,U,w3,?_,?_⟩
   ·rw[qa,Qe,<- Int.toNat_of_nonneg yr.1];exact j6 lt
   exact⟨⟨_,_,U⟩,_,_,by rw[es];exact I1.hand y,by rw[es];exact M3⟩
  ·rintro σ G ⟨⟨v4,v5,rfl⟩,ad',loc',I1,M1⟩;rw[List.take_of_length_le Yk]at I1 M1;have el:=sT (S.held x) S;have eh:=sU (S.held x) S;have tb:=I1.tr.len;have nb:=B.n;have ll:=M1.lg.len;have l7:=cp.lg;have big:(10000000:Nat)<sizeLine:=Yd;have h2:H0 (hd x)=some (.lst vs):=hv0;unfold eF at k;generalize (S.held x).foldl ay S=S1 at I1 M1 el eh k tb ll;have hlg:=M1.own.av .lg trivial;refine⟨_,U,C.b,_,C.dx,_,_,U,M1.ob,T.f8,T.BU,lz4 U,.inl ⟨U,_,SqL.of hlg⟩,_,U,_,U,_,U,ln4,λz hz=>?_⟩;have M2:=M1.ent (e:=⟨now,x,false,S.held x⟩) hz h2 hvs;have nz:ad' .lg≠z:=λe=>by rw[e,hz]at hlg;cases hlg
   refine⟨ad' .lg,_,_,U,U,by rw[aj nz];exact hlg,?_,?_⟩
   ·show lgv.length<_;rw[ll,el];omega
   have t2:=M2.own.av .tk trivial;refine⟨_,U,C.b,_,C.dx,_,_,U,M2.ob,T.f8,T.BJ,lz8 U,.inl ⟨U,_,SqL.of t2⟩,_,U,ad' .tk,_,_,U,U,t2,bb (m:=1000) (by show(aE S1.tr).length+1<=1000;rw[fN];omega),?_⟩;exact k _ _ ad' _ (a9.new (a9.none M1.own.sa hz) _) (M2.trx x)
theorem ut(T:Tx P w K mg a){H:Hp}{v:V}{r:PR}(h:RPt a H v r){X:Cx}(e1:X.prog=P)(e2:X.w=w)(e3:X.K=K)(e4:X.mg=mg)(hr:bC 4 X.A):∃p C dx fs,v=.ref p/\H p=some (.ins C dx fs)/\List.lookup ("wants":Str) fs=none/\mV X C "wants" (iC a (decide (r.kind=3))):=by
 subst e1 e2 e3 e4
 cases h with
 |pass h1 _ _ _=>exact⟨_,_,_,_,U,h1,by rw[aZ Qz,aZ Qz,aZ Qz];rfl,1,_,_,_,T.Bt,T.Ic,lQ T,hr.mono Yd,T.E9⟩
 |work h1 _ _ _ _=>exact⟨_,_,_,_,U,h1,by rw[aZ Qz,aZ Qz,aZ Qz,aZ Qz];rfl,1,_,_,_,T.Bn,T.Ih,lQ T,hr.mono Yd,T.E9⟩
 |choose h1 _ _ _=>exact⟨_,_,_,_,U,h1,by rw[aZ Qz,aZ Qz,aZ Qz,aZ Qz,aZ Qz];rfl,1,_,_,_,T.At,T.Im,lQ T,hr.mono Yd,T.E9⟩
 |merge h1 _ _ _ _=>exact⟨_,_,_,_,U,h1,by rw[aZ Qz,aZ Qz,aZ Qz,aZ Qz];rfl,4,_,_,_,T.Bm,T.Iq,yK T,hr.mono Yd,T.Gz⟩
theorem zn(T:Tx P w K mg a){H:Hp}{v:V}{r:PR}(h:RPt a H v r){X:Cx}(e1:X.prog=P)(e2:X.w=w)(e3:X.K=K)(e4:X.mg=mg)(hr:bC 3 X.A):∃p C dx fs,v=.ref p/\H p=some (.ins C dx fs)/\List.lookup ("made":Str) fs=none/\mV X C "made" (g6 a r.kind):=by
 subst e1 e2 e3 e4
 cases h with
 |pass h1 _ _ _=>exact⟨_,_,_,_,U,h1,by rw[aZ Qz,aZ Qz,aZ Qz];rfl,1,_,_,_,T.Bt,T.Ib,yI T,hr.mono Yd,T.Gj⟩
 |work h1 _ _ _ _=>exact⟨_,_,_,_,U,h1,by rw[aZ Qz,aZ Qz,aZ Qz,aZ Qz];rfl,3,_,_,_,T.Bn,T.Ig,yw T,hr.mono Yd,T.Go⟩
 |choose h1 _ _ _=>exact⟨_,_,_,_,U,h1,by rw[aZ Qz,aZ Qz,aZ Qz,aZ Qz,aZ Qz];rfl,1,_,_,_,T.At,T.Il,yN T,hr.mono Yd,T.Gu⟩
 |merge h1 _ _ _ _=>exact⟨_,_,_,_,U,h1,by rw[aZ Qz,aZ Qz,aZ Qz,aZ Qz];rfl,1,_,_,_,T.Bm,T.Ir,yL T,hr.mono Yd,T.GB⟩
section
variable {H0 H:Hp}{C:PlC}{ad:Rl->Addr}{hd:Nat->Addr}{lgv:List V}{S:PlS}
theorem PlH.adopt(M:PlH a H0 H C ad hd lgv S){t:Addr}{ys:List V}(ht:H t=some (.tup ys)):∃H0',a9 H0 H0'/\H0' t=some (.tup ys)/\PlH a H0' H C ad hd lgv S:=by
 have ne:∀r,dmP C.nl (aR S.gv) r->ad r≠t:=λr hr z=>by
  have:=M.own.av r hr;rw[z,ht]at this;cases r<;>cases this
 have s:a9 H0 (upd H0 t (.tup ys)):=λc o h=>by
  by_cases e:c=t
  ·rw[e,af];rw[e]at h;exact ht.symm.trans (M.own.sa _ _ h)
  ·rw[aj e];exact h
 refine⟨_,s,af,M.low s ⟨λc o h=>?_,λr hr=>by rw[aj (ne r hr)];exact M.own.nw r hr,M.own.inj,M.own.av⟩⟩;by_cases e:c=t
 ·rw[e,af]at h;rw[e];exact ht.trans h
 ·rw[aj e]at h;exact M.own.sa _ _ h
theorem PlH.ground(M:PlH a H0 H C ad hd lgv S){H':Hp}(s:a9 H H'):∃H0',a9 H0 H0'/\(∀x o,H x=none->H' x=some o->H0' x=some o)/\PlH a H0' H' C ad hd lgv S:=by
 obtain⟨H0',s0,h,o⟩:=M.own.more s;exact⟨H0',s0,h,M.low s0 o⟩
theorem RPs.new{H' K0:Hp}:∀{us:List V}{ps:List (Int×Int)},RPs H' us ps->gM H us->(∀x o,H x=none->H' x=some o->K0 x=some o)->RPs K0 us ps
 |_,_,.nil,_,_=>.nil
 |_,_,.cons h r,n,k=>.cons (k _ _ (n _ qp) h) (RPs.new r (λp hp=>n p (qm _ hp)) k)
theorem PlH.earth(M:PlH a H0 H C ad hd lgv S){z:Addr}(hz:H z=none)(o:HO):PlH a (upd H0 z o) (upd H z o) C ad hd lgv S:=M.low (a9.new (a9.none M.own.sa hz) _) (M.own.base hz o)
theorem PlH.spare(M:PlH a H0 H C ad hd lgv S){n:Nat}{v:V}(e:v=.int n):PlH a H0 (upd H C.b (.ins a.gt C.dx (plN.zip ((plV C ad S.sp).set 3 v)))) C ad hd lgv { S with sp:=n }:=by
 subst e;have o:=M.own.put .b trivial (plO a C ad n);rw[M.b]at o;refine⟨o.less (λr hr=>hr) λr hr=>?_,M.b,M.qo,M.hd,M.lg⟩;cases r<;>rfl
theorem PlH.takeOne(M:PlH a H0 H C ad hd lgv S){i:Nat}(hi:i<C.nl):PlH a H0 (upd H (C.qo i) (.ins a.or (C.dq i) [("laid",.ref (ad (.ql i))),("gone",.int ((S.st i).2+1:Nat))])) C ad hd lgv { S with st:=put S.st i ((S.st i).1,(S.st i).2+1) }:=by
 have o:=M.own.put (.qo i) hi (.ins a.or (C.dq i) [("laid",.ref (ad (.ql i))),("gone",.int ((S.st i).2+1:Nat))]);rw[M.qo i hi]at o;refine⟨o.less (λr hr=>hr) λr hr=>?_,M.b,M.qo,M.hd,M.lg⟩
 cases r with
 |qo j=>
  show _=HO.ins a.or (C.dq j) [_,("gone",V.int ((put S.st i _ j).2:Nat))];by_cases e:j=i
  ·rw[e,bR,aM]
  ·rw[bq λz=>e (Rl.qo.inj z),az e];rfl
 |ql j=>
  show HO.lst _=HO.lst ((put S.st i _ j).1.map V.int);by_cases e:j=i
  ·rw[e,aM]
  ·rw[az e]
 |_=>rfl
theorem PlH.hold(M:PlH a H0 H C ad hd lgv S){x:Nat}{l:Addr}{us:List V}{ps:List (Int×Int)}(h1:H0 l=some (.lst us))(h2:RPs H0 us ps):PlH a H0 (upd H (ad .hl) (.lst (((List.range C.n).map λj=>V.ref (hd j)).set x (.ref l)))) C ad (put hd x l) lgv { S with held:=put S.held x ps }:=by
 have o:=M.own.put .hl trivial (.lst (((List.range C.n).map λj=>V.ref (hd j)).set x (.ref l)));refine⟨o.less (λr hr=>hr) λr hr=>?_,M.b,M.qo,λy hy=>?_,M.lg⟩
 ·cases r with
  |hl=>show HO.lst _=HO.lst ((List.range C.n).map λj=>V.ref (put hd x l j));rw[iQ]
  |_=>rfl
 ·show ∃vs,H0 (put hd x l y)=_/\RPs H0 vs (put S.held x ps y);by_cases e:y=x
  ·rw[e,aM,aM];exact⟨us,h1,h2⟩
  ·rw[az e,az e];exact M.hd y hy
theorem PlH.count(M:PlH a H0 H C ad hd lgv S){x n:Nat}{v:V}(e:v=.int n):PlH a H0 (upd H (ad .tl) (.lst (((List.range C.n).map λj=>V.int (S.tks j)).set x v))) C ad hd lgv { S with tks:=put S.tks x n }:=by
 subst e;have o:=M.own.put .tl trivial (.lst (((List.range C.n).map λj=>V.int (S.tks j)).set x (.int n)));refine⟨o.less (λr hr=>hr) λr hr=>?_,M.b,M.qo,M.hd,M.lg⟩
 cases r with
 |tl=>
  have:=iQ (f:=S.tks) (g:=λk:Nat=>V.int k) (n:=C.n) (i:=x) (v:=n);exact congrArg HO.lst this
 |_=>rfl
theorem PlH.clear(M:PlH a H0 H C ad hd lgv S){i:Nat}{z:Addr}(hz:H z=none):PlH a H0 (upd (upd H z (.lst [])) (ad .wrl) (.lst (((List.range C.nl).map λi=>V.ref (ad (.wr i))).set i (.ref z)))) C (at' ad (.wr i) z) hd lgv { S with wr:=put S.wr i [] }:=by
 have o3:=M.own.new (.wr i) hz (.lst []);have o4:=o3.put .wrl (.inr trivial) (.lst (((List.range C.nl).map λi=>V.ref (ad (.wr i))).set i (.ref z)));refine⟨o4.less (λr hr=>.inr hr) λr hr=>?_,M.b,M.qo,M.hd,M.lg⟩
 cases r with
 |wr j=>
  show at' _ (Rl.wr _) _ (Rl.wr j)=HO.lst (aE (put S.wr i [] j));by_cases e:j=i
  ·rw[e,bR,aM];rfl
  ·rw[bq λz=>e (Rl.wr.inj z),az e];rfl
 |wrl=>
  show HO.lst _=HO.lst ((List.range C.nl).map λj=>V.ref (at' ad (.wr i) z (.wr j)));rw[AZ,iQ]
 |_=>rfl
end
theorem yE(T:Tx P w K mg a):aA P w K mg base CX0 5 a.BD a.D3 ["self","now","part"] (oU a):=by
 refine T.GL.ok gU (λvs H Q E h=>?_) (λcdv A outer s H vs Q E hr h=>?_)
 ·obtain⟨_,_,_,_,_,_,_,_,_,rfl,_⟩:=h
  rfl
 obtain⟨H0,C,ad,hd,lgv,S,now,x,rem,rfl,B,M,G,k1,k2,k3⟩:=h
 refine⟨_,(ae (aT (i:=3) gU.nd U Oi (rE (ag aN (aH (pq 0) U) (pq 2) Oy) (a8 (aH (pq 0) U) ac)))
  (ae (cf PassesOwn.never U (gu (pq 3)) (aP (i:=4) gU.nd U Oi)
  (ah (aD (ap ba (dw (aH (pq 0) U) T.wT T.Fj (rQ T) (hr.mono Yd) T.Ev .nil ar (a8 (pq 4) ac)) aa (ao _)) (ae (bO (cD qh qw qx d8 (ag aN (aH (pq 0) U) (pq 4) Oy) (a8 (pq 2) ac)))
  (ah (ak br))) aF)))
  (ae (aD (ap ba (aH (pq 0) U) aa (ao _)) (ah (ak br)) aF)
  (ae (bA (pq 0) (ai fD (aH (pq 0) U) aa) U)
  (ae (eV (i:=5) gU.nd U Oi (k:=1) (Nc:=["line","self"]) (js:=[0]) (show aK (am gj) ["self","now","part","wanted","line","things"] _ 1 ["line","self"] [0]from aK.mk U (by decide +kernel) (by decide +kernel) (by decide +kernel) U (by decide +kernel)) U (gu (pq 3)) (λ_ _ _ _ _=>(aP (i:=0) (show List.Nodup (["line","self"]:List Str)from by decide +kernel) U Oi)) (λ_ _ _ _ _=>bJ) (λ_ _ _ _ _=>(dw (xp (K:=K) U (pq 1) U) T.wT T.HX (yk T) (hr.mono Yd) T.FZ .nil ar (a8 (pq 0) ac))))
  (ae (bO (cD qh qw qx d8 (aH (pq 0) U) (a8 (bI (a8 (pq 1) (a8 (pq 2) (a8 bg (a8 (iW U U T.Bp U T.BH (a8 (pq 3) (a8 (pq 5) ac))) ac))))) ac)))
  (ae (dP (rE (ag aN (aH (pq 0) U) (pq 2) Oy) (a8 (pq 5) ac)) (eu (aH (pq 0) U) (pq 2) e9))
  (ae (bO (dw (pq 0) T.f8 T.Fy (rS T) (hr.mono Yd) T.Ez .nil ar (a8 (ai bx (ai bx (pq 1) aa) (dw (pq 0) T.f8 T.Iz (yF T) (hr.mono Yd) T.GP .nil ar (a8 (pq 2) ac))) (a8 (bn (a8 (pq 2) ac)) ac))))
  (ae (dP (ai bx (ag aN (aH (pq 0) U) (pq 2) Oy) aa) (eu (aH (pq 0) U) (pq 2) e9))
  (ae (cf PassesOwn.never U (gu (pq 3)) (aP (i:=4) gU.nd U Oi)
  (ae (bO (dw (pq 0) T.f8 T.Fy (rS T) (hr.mono Yd) T.Ez .nil ar (a8 (ai bx (pq 1) aa) (a8 (ag aN (aH (pq 0) U) (pq 4) Oy) ac))))
  (ah (dP (bn ac) (eu (aH (pq 0) U) (pq 4) e9)))))
  (ah (ak br)))))))))))),?_⟩
 obtain⟨loc,I⟩:=G.loc;have hx:=I.not.2.1;obtain⟨v,hv,rp⟩:=B.du x hx;obtain⟨rok,rft⟩:=B.ok x hx;have cp:=G.cap;have ry:=M.ry B λi=>⟨(cp.st i).2,by have:=(cp.st i).1;omega⟩;have rpH:=rp.same M.own.sa;have nb:=B.n;have big:(10000000:Nat)<sizeLine:=Yd;obtain⟨p,cC,dx',fs,rfl,hp,lw,mw⟩:=ut T rpH (X:=(eI CX0 P w K mg base ["self","now","part","wanted","line","things"] "Play.take" (am gj) a.BD cdv A outer s H E).nox) U U U U (hr.mono Yd);have hatd:atI C.us (x:Int)=some (.ref p):=bT hv;refine⟨_,U,C.b,_,C.dx,_,_,U,M.ob,T.f8,T.En,lz1 U,_,U,C.dl,_,_,_,U,U,SqL.of (M.own.sa _ _ B.dl),hatd,p,cC,dx',fs,_,U,hp,lw,mw,_,U,C.b,_,C.dx,_,_,U,M.ob,T.f8,T.Bw,lz0 U,C,S,_,C.prt x,_,_,U,U,rpH,rok,rft,ry,λH1 t s1 ht=>?_⟩;have M0:=M.up s1;obtain⟨H0',s0,ht0,M1⟩:=M0.adopt ht;have B1:=B.same s0;have ft:=jp (S:=S) rft;have few:=jq (S:=S) rok;have ww:=jn (S:=S) rok;generalize hws:aB S (C.prt x)=ws at ht ht0 ft few ww k1 k2 k3;have ry1:=M1.ry B1 λi=>⟨(cp.st i).2,by have:=(cp.st i).1;omega⟩;dsimp only[aI];refine⟨_,U,t,U,⟨_,SqT.of ht⟩,?_⟩;refine je (K:=K) (a:=t) (xs:=ws.map V.int) (λi σ G=>(∃v4 v5,σ=[some (.ref C.b),some (.int now),some (.int x),some (.ref t),v4,v5])/\G=H1/\∀w∈ws.take i,(aO S w.toNat).isEmpty=false) ⟨⟨_,_,U⟩,U,λp hp=>by simp at hp⟩ ?_ ?_ ?_
 ·rintro i σ G _ ⟨_,rfl,_⟩;exact SqT.of ht
 ·rintro i v σ G hi ⟨⟨v4,v5,rfl⟩,rfl,hp⟩;rw[qF]at hi;obtain⟨w,hw,rfl⟩:=qQ.mp hi;have wl:=ft.lo w (qA hw);have wh:=ft.hi w (qA hw);have lt:w.toNat<C.nl:=Yk;refine⟨_,U,C.b,_,C.dx,_,_,U,M1.ob,T.f8,T.Bw,lz0 U,C.y,C.dy,_,U,ry1.o,fO Qz,_,U,C.y,C.dy,C.la,C.lq,_,_,_,w,S.st w.toNat,U,ry1,wl,cF lt,U,_,U,?_⟩;have hg:=(cp.st w.toNat).2
  have er:(((S.st w.toNat).1.length:Int)-(S.st w.toNat).2=0)↔(aO S w.toNat).isEmpty=true:=by
   unfold aO;rw[List.isEmpty_iff,List.drop_eq_nil_iff];omega
  refine bc (λc=>?_) (λc=>?_)
  ·have ce:=er.mp (dJ c);have hwr:=M1.own.av .wtl trivial;have hwi:=M1.own.av (.wt w.toNat) lt
   have hatw:atI ((List.range C.nl).map λi=>V.ref (ad (.wt i))) w=some (.ref (ad (.wt w.toNat))):=by
    conv=>lhs;arg 2;rw[<- Int.toNat_of_nonneg wl]
    exact bT (cF lt)
   have wl':=(I.wt w.toNat).len;refine⟨_,U,C.b,_,C.dx,_,_,U,M1.ob,T.f8,T.BX,lX U,_,U,ad .wtl,_,_,_,U,U,SqL.of hwr,hatw,.inl ⟨U,_,SqL.of hwi⟩,_,U,ad (.wt w.toNat),_,_,U,U,hwi,bb (m:=1000) (by rw[fN];omega),?_⟩;exact k1 w (mz hw ce hp) H0' _ s0 (M1.wait lt)
  ·have ce:(aO S w.toNat).isEmpty=false:=by
    cases e:(aO S w.toNat).isEmpty with
    |false=>rfl
    |true=>exact Q5 (er.mpr e) (dL c)
   refine⟨⟨_,_,U⟩,U,λq hq=>?_⟩;rw[qt,hw,qi]at hq;rcases hq with hq|hq
   ·exact hp q hq
   ·rw[qT.mp hq];exact ce
 rintro σ G ⟨⟨v4,v5,rfl⟩,rfl,hp⟩;rw[qa,qI]at hp;have nl:dE S ws=none:=List.find?_eq_none.mpr λw hw=>by rw[hp w hw];exact qj
 have k2:=k2 nl;have k3:=k3 nl;have ww:=ww nl;refine⟨_,U,C.b,_,C.dx,_,_,U,M1.ob,T.f8,T.BS,lz3 U,U,_,U,bc (λc=>?_) (λc=>?_)⟩
 ·exact k2 (by have:=dJ c;omega) H0' _ s0 M1
 have sp0:S.sp≠0:=λz=>dL c (by rw[z];rfl);have k3:=k3 sp0;refine⟨_,U,C.b,_,C.dx,_,_,U,M1.ob,T.f8,T.BS,lz3 U,_,_,U,U,_,U,C.b,_,C.dx,_,U,M1.ob,T.f8,T.BS,by simp[plN,plV],?_⟩;rw[lE 3 U Qz (by show 3<11;decide)];have M2:=M1.spare (n:=S.sp-1) (v:=.int ((S.sp:Int)-1)) (by congr 1;omega)
 have rne:∀w∈ws,(S.st w.toNat).2<(S.st w.toNat).1.length:=λw hw=>by
  have:=hp w hw;unfold aO at this
  cases e:(S.st w.toNat).1.drop (S.st w.toNat).2 with
  |nil=>rw[e]at this;cases this
  |cons y r=>
   by_cases z:(S.st w.toNat).2<(S.st w.toNat).1.length
   ·exact z
   ·rw[List.drop_eq_nil_iff.mpr Yk]at e;cases e
 have hth:∀w∈ws,(S.st w.toNat).1[(S.st w.toNat).2]?=some (aY S w):=λw hw=>by
  have lt:=rne w hw;unfold aY aO;rw[List.drop_eq_getElem_cons lt,qd lt]
  rfl
 refine⟨_,U,t,U,⟨_,SqT.of (M2.own.sa _ _ ht0)⟩,?_⟩;refine AG (K:=K) (a:=t) (xs:=ws.map V.int) (λi ys σ G=>(∃v,σ=[v,some (.ref C.b)])/\ys=((ws.take i).map (aY S)).map V.int/\PlH a H0' G C ad hd lgv { S with sp:=S.sp-1,st:=bD S.st (ws.take i) }) ⟨⟨_,U⟩,U,M2⟩ ?_ (bb (m:=1000) (by rw[qa];omega)) ?_ ?_ ?_
 ·rintro i ys σ G hi ⟨_,rfl,_⟩;rw[qa,qa];exact List.length_take_le _ _
 ·rintro i ys σ G ⟨_,_,Mi⟩;exact SqT.of (Mi.own.sa _ _ ht0)
 ·rintro i v ys σ G hi ⟨⟨v',rfl⟩,rfl,Mi⟩;rw[qF]at hi;obtain⟨w,hw,rfl⟩:=qQ.mp hi;have wm:=qA hw;have wl:=ft.lo w wm;have wh:=ft.hi w wm;have lt:w.toNat<C.nl:=Yk;have nd:=ft.nd;have nd2:((ws.take i).map Int.toNat).Nodup:=nd.sublist ((List.take_sublist _ _).map _)
  have off:w.toNat∉(ws.take i).map Int.toNat:=by
   have e:(ws.take (i+1)).map Int.toNat=(ws.take i).map Int.toNat++[w.toNat]:=by rw[qt,hw,qP];rfl
   have n3:((ws.take (i+1)).map Int.toNat).Nodup:=nd.sublist ((List.take_sublist _ _).map _);rw[e,List.nodup_append]at n3;exact λz=>n3.2.2 _ z _ (qT.mpr U) U
  have es:bD S.st (ws.take i) w.toNat=S.st w.toNat:=nC off;have ryi:=Mi.ry B1 λj=>⟨ju nd2 (λu hu=>rne u (List.mem_of_mem_take hu)) (λj=>(cp.st j).2) j,by show(bD S.st (ws.take i) j).1.length<=_;rw[iw];have:=(cp.st j).1;omega⟩;have tm:=Mi.takeOne lt;refine⟨_,U,C.b,_,C.dx,_,_,U,Mi.ob,T.f8,T.Bw,lz0 U,C.y,C.dy,_,U,ryi.o,fO Qz,_,U,C.y,C.dy,C.la,C.lq,_,_,_,w,aY S w,_,_,U,ryi,wl,cF lt,cF lt,?_,?_⟩
  ·show(bD S.st (ws.take i) w.toNat).1[(bD S.st (ws.take i) w.toNat).2]?=_;rw[es];exact hth w wm
  ·refine⟨⟨_,U⟩,?_,?_⟩
   ·rw[qt,hw,qP,qP];rfl
   ·rw[qt,hw];show PlH a H0' _ C ad hd lgv { S with sp:=S.sp-1,st:=bD S.st (ws.take i++[w]) };rw[uG];exact tm
 rintro ys σ3 G3 ⟨_,rfl,M3⟩ l hl;rw[qa,qI]at M3 ⊢;have M4:=M3.earth hl (.lst ((ws.map (aY S)).map V.int));have s4:a9 H0' (upd H0' l (.lst ((ws.map (aY S)).map V.int))):=a9.new (a9.none M3.own.sa hl) _;have hl4:upd H0' l (.lst ((ws.map (aY S)).map V.int)) l=some (.lst ((ws.map (aY S)).map V.int)):=af;have ht4:=s4 _ _ ht0;have B4:=B1.same s4;have s04:=s0.trans s4;generalize upd H0' l (.lst ((ws.map (aY S)).map V.int))=K0 at M4 s4 hl4 ht4 B4 s04;generalize upd G3 l (.lst ((ws.map (aY S)).map V.int))=G4 at M4 ⊢;dsimp only[aI];have hlg:=M4.own.av .lg trivial;refine⟨_,U,C.b,_,C.dx,_,_,U,M4.ob,T.f8,T.BU,lz4 U,.inl ⟨U,_,SqL.of hlg⟩,_,U,_,U,_,U,_,U,true,false,t,l,_,_,U,SqT.of (M4.own.sa _ _ ht4),SqL.of (M4.own.sa _ _ hl4),λH5 lz ts s5 nlz hz tl at_=>?_⟩;obtain⟨K1,s6,new6,M5⟩:=M4.ground s5;have hz0:=new6 _ _ nlz hz;have rz:RPs K1 (ts.map V.ref) (ws.zip (ws.map (aY S))):=RPs.zip (by rw[tl,qa,qa]) λj t x y a b c=>new6 _ _ (at_ j t x y a b c).2 (at_ j t x y a b c).1;refine⟨ln4,λz hz'=>?_⟩;have M6:=M5.ent (e:=⟨now,x,true,ws.zip (ws.map (aY S))⟩) hz' hz0 rz;have hlg5:=M5.own.av .lg trivial;have nz:ad .lg≠z:=λe=>by rw[e,hz']at hlg5;cases hlg5
 have ll:=M5.lg.len;refine⟨ad .lg,_,_,U,U,by rw[aj nz];exact hlg5,?_,?_⟩
 ·show lgv.length<_;have:=cp.lg;have ll:lgv.length=S.lg.length:=ll;omega
 have s7:a9 K1 _:=a9.new (a9.none M5.own.sa hz') (.tup [.int now,.int x,.str "took",.ref lz]);have s07:=s04.trans (s6.trans s7);have B6:=B4.same (s6.trans s7);have hl6:=(s6.trans s7) _ _ hl4;have ht6:=(s6.trans s7) _ _ ht4;have rp6:=rp.same s07;change PlH a (upd K1 z (.tup [.int now,.int x,.str "took",.ref lz])) (upd (upd H5 z (.tup [.int now,.int x,.str "took",.ref lz])) (ad .lg) (.lst (lgv++[.ref z]))) C ad hd (lgv++[.ref z]) { S with sp:=S.sp-1,st:=bD S.st ws,lg:=S.lg++[⟨now,x,true,ws.zip (ws.map (aY S))⟩] }at M6;show iz _ _ _ _ (upd (upd H5 z (.tup [.int now,.int x,.str "took",.ref lz])) (ad .lg) (.lst (lgv++[.ref z])));generalize upd K1 z (.tup [.int now,.int x,.str "took",.ref lz])=K2 at M6 s7 s07 B6 hl6 ht6 rp6;generalize upd (upd H5 z (.tup [.int now,.int x,.str "took",.ref lz])) (ad .lg) (.lst (lgv++[.ref z]))=G6 at M6 ⊢;have rp6H:=rp6.same M6.own.sa;obtain⟨p',cC',dx'',fs',ep,hp6,lm,mm⟩:=zn T rp6H (X:=(eI CX0 P w K mg base ["self","now","part","wanted","line","things"] "Play.take" (am gj) a.BD cdv A outer s H E).nox) U U U U (hr.mono Yd);cases ep
 have on:∀v∈ws.map (aY S),OnW v:=λv hv=>by
  obtain⟨w,hw,rfl⟩:=List.mem_map.mp hv;exact cp.on w.toNat _ (qA (hth w hw))
 refine⟨_,U,C.b,_,C.dx,_,_,U,M6.ob,T.f8,T.En,lz1 U,_,U,C.dl,_,_,_,U,U,SqL.of (M6.own.sa _ _ B6.dl),hatd,p,cC',dx'',fs',_,U,hp6,lm,mm,_,U,_,l,C.prt x,ws.map (aY S),U,U,rp6H,rok,M6.own.sa _ _ hl6,by rw[qa];exact ww,on,λH7 l7 us7 s8 n7 h7 an7 r7=>?_⟩;obtain⟨K3,s9,new9,M7⟩:=M6.ground s8;have M8:=M7.hold (x:=x) (new9 _ _ n7 h7) (RPs.new r7 an7 new9);have B8:=B6.same s9;have ht8:=s9 _ _ ht6;have s08:=s07.trans s9;have hh:=M7.own.av .hl trivial;refine⟨_,U,C.b,_,C.dx,_,_,U,M7.ob,T.f8,T.Eo,lz5 U,_,U,ad .hl,_,_,x,U,U,hh,j6 (by rw[qa,Qe];exact hx),?_⟩;show iz _ _ _ _ (upd H7 (ad .hl) (.lst (((List.range C.n).map λj=>V.ref (hd j)).set x (.ref l7))));generalize upd H7 (ad .hl) (.lst (((List.range C.n).map λj=>V.ref (hd j)).set x (.ref l7)))=G8 at M8 ⊢;refine⟨_,U,C.b,C.dx,_,U,M8.ob,fK Qz,_,U,_,_,U,U,_,U,C.b,C.dx,_,U,M8.ob,fK Qz,_,U,K3,C,ad,_,_,_,x,U,B8,M8,hx,_,_,U,U,_,U,ln1,λz9 hz9=>?_⟩;have M9:=M8.earth hz9 (.lst (aE [x]));have s10:a9 K3 (upd K3 z9 (.lst (aE [x]))):=a9.new (a9.none M8.own.sa hz9) _;have B9:=B8.same s10;have ht9:=s10 _ _ ht8;have s09:=s08.trans s10;refine⟨_,C,ad,_,_,_,_,z9,[x],U,B9,M9,af,λk hk e=>?_,?_,by show 1<=1000;decide,λkv hkv=>?_,I.gk,λH10 ad10 M10 ead=>?_⟩
 ·have:=M8.own.av (.gv k) hk;rw[<- e,hz9]at this;cases this
 ·have:=cp.gv;show S.gv.length<_;omega
 ·have:=(I.gv kv hkv).len;omega
 generalize upd K3 z9 (.lst (aE [x]))=K4 at M10 s10 B9 ht9 s09;have tl10:=M10.own.av .tl trivial;have hat10:atI ((List.range C.n).map λx=>V.int (S.tks x)) (x:Int)=some (.int (S.tks x)):=bT (cF hx);refine⟨_,U,C.b,_,C.dx,_,_,U,M10.ob,T.f8,T.BV,lz6 U,_,U,ad10 .tl,_,_,_,U,U,SqL.of tl10,hat10,_,_,U,U,_,U,C.b,_,C.dx,_,_,U,M10.ob,T.f8,T.BV,lz6 U,_,U,ad10 .tl,_,_,x,U,U,tl10,j6 (by rw[qa,Qe];exact hx),?_⟩;have M11:=M10.count (x:=x) (n:=S.tks x+1) (v:=.int ((S.tks x:Int)+1)) U
 have e11:({ S with sp:=S.sp-1,st:=bD S.st ws,lg:=S.lg++[⟨now,x,true,ws.zip (ws.map (aY S))⟩],held:=put S.held x ((C.prt x).made (ws.map (aY S))),gv:=bj S.gv (now+1+bw C.pace x (S.tks x)) [x],tks:=put S.tks x (S.tks x+1) }:PlS)=bV (C.prt x) C.pace S now x:=by
  unfold bV;rw[hws]
 have I11:aX C.n (put loc x (.gv (now+1+bw C.pace x (S.tks x)))) rem (bV (C.prt x) C.pace S now x):=(I.toGv (now+1+bw C.pace x (S.tks x))).eq U U U U
 have g11:(bV (C.prt x) C.pace S now x).gv.length<=S.gv.length+1:=by
  show(bj S.gv (now+1+bw C.pace x (S.tks x)) [x]).length<=_;exact jj
 have M11:PlH a K4 _ C ad10 _ _ (bV (C.prt x) C.pace S now x):=e11▸M11;have k3:∀H0' H' ad' hd' lgv',a9 H0 H0'->PlH a H0' H' C ad' hd' lgv' (ws.foldl (bp now) (bV (C.prt x) C.pace S now x))->Q (.bl true) H':=λa1 a2 a3 a4 a5 a6 a7=>k3 a1 a2 a3 a4 a5 a6 (by unfold be;rw[hws];exact a7);generalize bV (C.prt x) C.pace S now x=S11 at M11 I11 g11 k3;refine⟨_,U,t,U,⟨_,SqT.of (M11.own.sa _ _ ht9)⟩,?_⟩;refine je (K:=K) (a:=t) (xs:=ws.map V.int) (λi σ G=>(∃v4,σ=[some (.ref C.b),some (.int now),some (.int x),some (.ref t),v4,some (.ref l)])/\∃ad' loc',aX C.n loc' rem ((ws.take i).foldl (bp now) S11)/\((ws.take i).foldl (bp now) S11).gv.length<=S.gv.length+1+i/\PlH a K4 G C ad' (put hd x l7) (lgv++[.ref z]) ((ws.take i).foldl (bp now) S11)) ⟨⟨_,U⟩,_,_,I11,g11,M11⟩ ?_ ?_ ?_
 ·rintro i σ G _ ⟨_,ad',loc',_,_,Mi⟩;exact SqT.of (Mi.own.sa _ _ ht9)
 ·rintro i v σ G hi ⟨⟨v4,rfl⟩,ad',loc',Ii,gi,Mi⟩;rw[qF]at hi;obtain⟨w,hw,rfl⟩:=qQ.mp hi;have il:=(qg.mp hw).1;have wm:=qA hw;have wl:=ft.lo w wm;have wh:=ft.hi w wm;have lt:w.toNat<C.nl:=Yk
  have es:(ws.take (i+1)).foldl (bp now) S11=bp now ((ws.take i).foldl (bp now) S11) w:=by
   rw[qt,hw,List.foldl_append]
   rfl
  generalize (ws.take i).foldl (bp now) S11=Si at Ii gi Mi es;have hwr:=Mi.own.av .wrl trivial;have hwi:=Mi.own.av (.wr w.toNat) lt
  have hatw:atI ((List.range C.nl).map λi=>V.ref (ad' (.wr i))) w=some (.ref (ad' (.wr w.toNat))):=by
   conv=>lhs;arg 2;rw[<- Int.toNat_of_nonneg wl]
   exact bT (cF lt)
  have wl2:=(Ii.wr w.toNat).len;dsimp only[aI];refine⟨_,U,C.b,C.dx,_,U,Mi.ob,fK Qz,_,U,_,_,U,U,_,U,C.b,_,C.dx,_,_,U,Mi.ob,T.f8,T.BW,lz9 U,_,U,ad' .wrl,_,_,_,U,U,SqL.of hwr,hatw,?_⟩;refine⟨_,C,ad',_,_,_,_,ad' (.wr w.toNat),Si.wr w.toNat,U,B9,Mi,hwi,λk hk e=>?_,?_,Yk,λkv hkv=>?_,Ii.gk,λH12 ad12 M12 ead2=>?_⟩
  ·exact nomatch Mi.own.inj (.wr w.toNat) (.gv k) lt hk e
  ·have:=cp.gv;omega
  ·have:=(Ii.gv kv hkv).len;omega
  refine⟨qu _,λz13 hz13=>?_⟩;have M13:=M12.clear (i:=w.toNat) hz13;have M12u:=M12.up (a9.new hz13 (.lst []));have w13:=M12u.own.av .wrl trivial;refine⟨_,U,C.b,_,C.dx,_,_,U,M12u.ob,T.f8,T.BW,lz9 U,_,U,ad12 .wrl,_,_,w.toNat,U,U,w13,?_,?_⟩
  ·rw[qa,Qe]
   conv=>lhs;arg 2;rw[<- Int.toNat_of_nonneg wl]
   exact j6 lt
  refine⟨⟨_,U⟩,_,_,by rw[es];exact Ii.free now w,?_,by rw[es];exact M13⟩;rw[es];have:(bj Si.gv (now+1) (Si.wr w.toNat)).length<=Si.gv.length+1:=jj;show(bj Si.gv (now+1) (Si.wr w.toNat)).length<=_;omega
 rintro σ G ⟨⟨v4',rfl⟩,ad',loc',_,_,Mi⟩;rw[qa,qI]at Mi;exact k3 K4 _ ad' _ _ s09 Mi
structure Hs(nl:Nat)(ps:List (Int×Int)):Prop where
 ok:∀p∈ps,0<=p.1/\p.1<nl/\OnW p.2
 few:ps.length<=10
 nd:(ps.map λp=>p.1.toNat).Nodup
theorem mX:∀(ls xs:List Int),((ls.zip xs).map λp=>p.1.toNat).Sublist (ls.map Int.toNat)
 |[],_=>List.Sublist.slnil
 |_::_,[]=>List.nil_sublist _
 |l::ls,x::xs=>List.Sublist.cons_cons _ (mX ls xs)
theorem Hs.zip{nl:Nat}{ls xs:List Int}(f:Fit nl ls)(few:ls.length<=10)(on:∀x∈xs,OnW x):Hs nl (ls.zip xs):=by
 refine⟨λp hp=>?_,by rw[List.length_zip];omega,?_⟩
 ·have h:=List.of_mem_zip (a:=p.1) (b:=p.2) hp;exact⟨f.lo _ h.1,f.hi _ h.1,on _ h.2⟩
 ·exact f.nd.sublist (mX ls xs)
theorem si{nl:Nat}{r:PR}{xs:List Int}(ok:r.ok)(ft:r.fit nl)(wide:xs.length=r.wide)(on:∀x∈xs,OnW x):Hs nl (r.made xs):=by
 have on0:∀i:Nat,i<xs.length->OnW (xs.getD i 0):=λi hi=>by
  rw[qk,qd hi];exact on _ (List.getElem_mem hi)
 cases r with
 |pass ins outs route=>
  obtain⟨o1,o2,o3,o4⟩:=ok;change xs.length=ins.length at wide;refine Hs.zip ft.2 Yk λx hx=>?_;obtain⟨r,hr,rfl⟩:=List.mem_map.mp hx;have:=o4 r hr;exact on0 _ Yk
 |work ins out sg l r=>
  obtain⟨o1,o2,o3⟩:=ok;change xs.length=ins.length at wide;refine⟨λp hp=>?_,by show 1<=10;decide,Qr _ _⟩;rw[qT.mp hp];exact⟨ft.2.lo _ qp,ft.2.hi _ qp,Av (fY (wide▸o2) on) (fY (wide▸o3) on)⟩
 |choose ins which ones noughts told=>
  obtain⟨o1,o2,o3,o4,o5⟩:=ok;change xs.length=ins.length at wide
  have go:∀(ls:List Int)(v:Int),Fit nl (ls++[told])->ls.length=ins.length->OnW v->Hs nl (ls.zip xs++[(told,v)]):=λls v f e ov=>by
   rw[show ls.zip xs++[(told,v)]=(ls++[told]).zip (xs++[v])by rw[List.zip_append Yk];rfl];refine Hs.zip f (by rw[qc,Q7];omega) λx hx=>?_;rcases qi.mp hx with h|h
   ·exact on x h
   ·rw[qT.mp h];exact ov
  show Hs nl (if xs.getD which.toNat 0=0 then noughts.zip xs++[(told,0)]else ones.zip xs++[(told,1)]);split
  ·exact go _ _ ft.2.2 o4 ⟨Yd,Yd⟩
  ·exact go _ _ ft.2.1 o3 ⟨Yd,Yd⟩
 |merge told ones noughts outs=>
  obtain⟨o1,o2,o3⟩:=ok;exact Hs.zip ft.2.2 Yk λx hx=>on x (List.mem_of_mem_tail hx)
theorem sR:∀(ps:List (Int×Int))(S:PlS)(j:Nat),j∉ps.map (λp=>p.1.toNat)->(ps.foldl ay S).st j=S.st j
 |[],_,_,_=>rfl
 |p::ps,S,j,h=>by
  show(ps.foldl ay (ay S p)).st j=_;rw[sR ps _ j λz=>h (qm _ z)];exact az λz=>h (by rw[z];exact qp)
theorem sP:∀(ps:List (Int×Int))(S:PlS)(j:Nat),(ps.map λp=>p.1.toNat).Nodup->((ps.foldl ay S).st j).1.length<=(S.st j).1.length+1
 |[],_,_,_=>Nat.le_succ _
 |p::ps,S,j,nd=>by
  have nd:p.1.toNat∉ps.map (λp=>p.1.toNat)/\(ps.map λp=>p.1.toNat).Nodup:=List.nodup_cons.mp nd;show((ps.foldl ay (ay S p)).st j).1.length<=_;by_cases e:j=p.1.toNat
  ·rw[e,sR ps _ _ nd.1];show(put S.st p.1.toNat _ p.1.toNat).1.length<=_;rw[aM,qc];exact qf _
  ·have:=sP ps (ay S p) j nd.2
   rwa [show(ay S p).st j=S.st j from az e]at this
theorem gE:∀(ps:List (Int×Int))(S:PlS),(ps.foldl ay S).gv=S.gv/\(ps.foldl ay S).sp=S.sp/\(ps.foldl ay S).lg=S.lg/\(ps.foldl ay S).held=S.held/\(ps.foldl ay S).tks=S.tks/\(ps.foldl ay S).wr=S.wr
 |[],_=>⟨U,U,U,U,U,U⟩
 |p::ps,S=>gE ps (ay S p)
theorem sQ:∀(ps:List (Int×Int))(S:PlS),(∀p∈ps,OnW p.2)->(∀i,∀v∈(S.st i).1,OnW v)->∀i,∀v∈((ps.foldl ay S).st i).1,OnW v
 |[],_,_,h=>h
 |p::ps,S,hp,h=>by
  refine sQ ps (ay S p) (λq hq=>hp q (qm _ hq)) λi v hv=>?_;have hv:v∈(put S.st p.1.toNat ((S.st p.1.toNat).1++[p.2],(S.st p.1.toNat).2) i).1:=hv;by_cases e:i=p.1.toNat
  ·rw[e,aM]at hv;rcases qi.mp hv with hv|hv
   ·exact h _ v hv
   ·rw[qT.mp hv];exact hp p qp
  ·rw[az e]at hv;exact h i v hv
section
variable {C:PlC}{k:Nat}{S:PlS}{x:Nat}
theorem cV.mono{k':Nat}(h:cV C k S)(le:k'<=k):cV C k' S:=⟨λi=>⟨by have:=(h.st i).1;omega,(h.st i).2⟩,by have:=h.lg;omega,by have:=h.gv;omega,h.on,h.hn⟩
theorem cV.gave(h:cV C (k+1) S)(hx:x<C.n)(now:Int):cV C k (eF S now x):=by
 obtain⟨e1,e2,e3,e4,e5,e6⟩:=gE (S.held x) S;obtain⟨h1,h2,h3⟩:=h.hn x hx;refine⟨λi=>?_,?_,?_,sQ _ S (λp hp=>(h1 p hp).2.2) h.on,λy hy=>?_⟩
 ·show((((S.held x).foldl ay S).st i).1.length+k<=_)/\(((S.held x).foldl ay S).st i).2<=(((S.held x).foldl ay S).st i).1.length;have a1:=sP (S.held x) S i h3;have a2:=mq (S.held x) S i;have a3:=h.st i;omega
 ·show(((S.held x).foldl ay S).lg++[_]).length+k<=_;rw[e3,qc,Q7];have:=h.lg;omega
 ·show((S.held x).foldl ay S).gv.length+k<=_;rw[e1];have:=h.gv;omega
 ·show(∀p∈((S.held x).foldl ay S).held y,_)/\(((S.held x).foldl ay S).held y).length<=10/\((((S.held x).foldl ay S).held y).map _).Nodup;rw[e4];exact h.hn y hy
theorem t9(now:Int):∀(ws:List Int)(S:PlS),(ws.foldl (bp now) S).gv.length<=S.gv.length+1/\(now+1∈aR S.gv->(ws.foldl (bp now) S).gv.length=S.gv.length)
 |[],_=>⟨Nat.le_succ _,λ_=>rfl⟩
 |w::ws,S=>by
  obtain⟨h1,h2⟩:=t9 now ws (bp now S w);show(ws.foldl (bp now) (bp now S w)).gv.length<=_/\(_->(ws.foldl (bp now) (bp now S w)).gv.length=_);have e:(bp now S w).gv=bj S.gv (now+1) (S.wr w.toNat):=U;rw[e]at h1 h2;by_cases m:now+1∈aR S.gv
  ·have:=h2 (j5.mpr (.inl m));rw[AW m]at this;exact⟨Yk,λ_=>this⟩
  ·refine⟨?_,λz=>Q5 z m⟩;by_cases c:S.wr w.toNat=[]
   ·rw[c]at h1;exact h1
   ·rw[h2 (j5.mpr (.inr ⟨c,U⟩))];exact jj
theorem gF(now:Int):∀(ws:List Int)(S:PlS),(ws.foldl (bp now) S).st=S.st/\(ws.foldl (bp now) S).sp=S.sp/\(ws.foldl (bp now) S).lg=S.lg/\(ws.foldl (bp now) S).held=S.held/\(ws.foldl (bp now) S).tks=S.tks/\(ws.foldl (bp now) S).tr=S.tr/\(ws.foldl (bp now) S).wt=S.wt
 |[],_=>⟨U,U,U,U,U,U,U⟩
 |w::ws,S=>gF now ws (bp now S w)
theorem sD(h:dE S (aB S (C.prt x))=none):∀w∈aB S (C.prt x),(S.st w.toNat).2<(S.st w.toNat).1.length:=λw hw=>by
 have:=List.find?_eq_none.mp h w hw;by_cases z:(S.st w.toNat).2<(S.st w.toNat).1.length
 ·exact z
 ·exact Q5 (by unfold aO;rw[List.drop_eq_nil_iff.mpr Yk];rfl) this
theorem nu(h:cV C k S)(n:dE S (aB S (C.prt x))=none):∀v∈(aB S (C.prt x)).map (aY S),OnW v:=λv hv=>by
 obtain⟨w,hw,rfl⟩:=List.mem_map.mp hv;have lt:=sD n w hw;unfold aY aO;rw[List.drop_eq_getElem_cons lt];exact h.on w.toNat _ (List.getElem_mem lt)
theorem jt{r:PR}{pace:List (List Int)}{now:Int}:(be r pace S now x).gv.length<=S.gv.length+2:=by
 have h:=(t9 now (aB S r) (bV r pace S now x)).1;have e:(bV r pace S now x).gv.length<=S.gv.length+1:=jj (g:=S.gv) (t:=now+1+bw pace x (S.tks x)) (ps:=[x]);unfold be;omega
theorem cV.taken(h:cV C (k+3) S)(B:(C.prt x).ok/\(C.prt x).fit C.nl)(n:dE S (aB S (C.prt x))=none)(now:Int):cV C k (be (C.prt x) C.pace S now x):=by
 obtain⟨e1,e2,e3,e4,e5,e6,e7⟩:=gF now (aB S (C.prt x)) (bV (C.prt x) C.pace S now x);have ft:=jp (S:=S) B.2;refine⟨λi=>?_,?_,?_,λi v hv=>?_,λy hy=>?_⟩
 ·unfold be;rw[e1];have:=ju ft.nd (sD n) (λj=>(h.st j).2) i;refine⟨?_,this⟩;show(bD S.st (aB S (C.prt x)) i).1.length+k<=_;rw[iw];have:=(h.st i).1;omega
 ·unfold be;rw[e3];show(S.lg++[_]).length+k<=_;rw[qc,Q7];have:=h.lg;omega
 ·have:=jt (S:=S) (r:=C.prt x) (pace:=C.pace) (now:=now) (x:=x);have:=h.gv;omega
 ·unfold be at hv;rw[e1]at hv;have hv:v∈(bD S.st (aB S (C.prt x)) i).1:=hv;rw[iw]at hv;exact h.on i v hv
 ·unfold be;rw[e4];show(∀p∈put S.held x _ y,_)/\(put S.held x _ y).length<=10/\((put S.held x _ y).map _).Nodup;by_cases e:y=x
  ·rw[e,aM];have q:=si B.1 B.2 (xs:=(aB S (C.prt x)).map (aY S)) (by rw[qa];exact jn B.1 n) (nu h n);exact⟨q.ok,q.few,q.nd⟩
  ·rw[az e];exact h.hn y hy
end
def GdP(C:PlC):Ph->PlS->Prop
 |.top,S=>Gd C (bL S+20) [] S
 |.giv _ r,S=>Gd C (bL S+r.length+84) r S
 |.tak _ r,S=>Gd C (bL S+r.length+20) r S
theorem mt{ls:Nat->Option Int}{S:PlS}{now:Int}{x:Nat}:(cS ls S now x).sp=S.sp/\(cS ls S now x).gv=S.gv:=by
 unfold cS;split
 ·exact⟨U,U⟩
 ·exact⟨(gE (S.held x) S).2.1,(gE (S.held x) S).1⟩
theorem bE.gd{C:PlC}(okC:∀x,x<C.n->(C.prt x).ok/\(C.prt x).fit C.nl)(n60:C.n<60){S0:PlS}(g0:Gd C (bL S0+20) [] S0){ph:Ph}{S:PlS}(h:bE C.ls C.prt C.pace S0 ph S):GdP C ph S:=by
 induction h with
 |base=>exact g0
 |@turn S k r h hk p rs ih=>
  obtain⟨⟨loc,I⟩,cp⟩:=ih;have I':=I.turn hk.1 p;have rl:=I'.rm.len;have dl:=mB hk.1;refine⟨⟨_,I'⟩,?_⟩
  have c2:=cp.mono (k':=bL { S with gv:=cG S.gv k }+r.length+84) (by
   unfold bL;show 130 * (3 * S.sp+(cG S.gv k).length)+r.length+84<=130 * (3 * S.sp+S.gv.length)+20
   omega)
  exact⟨c2.st,c2.lg,qz (Nat.add_le_add_right (Nat.le_of_lt dl) _) c2.gv,c2.on,c2.hn⟩
 |@give S k x r h ih=>
  obtain⟨⟨loc,I⟩,cp⟩:=ih;have hx:=I.not.2.1;obtain⟨e1,e2⟩:=mt (ls:=C.ls) (S:=S) (now:=k) (x:=x);have eb:bL (cS C.ls S k x)=bL S:=by unfold bL;rw[e1,e2]
  show Gd C (bL (cS C.ls S k x)+r.length+84) r (cS C.ls S k x);rw[eb];have cp:cV C (bL S+(r.length+1)+84) S:=cp;unfold cS;split
  ·exact⟨⟨_,I.stuck _⟩,let c:=cp.mono (k':=bL S+r.length+84) Yk;⟨c.st,c.lg,c.gv,c.on,c.hn⟩⟩
  ·obtain⟨loc',I'⟩:=aX.hands (S.held x) I;exact⟨⟨_,I'.toTr _⟩,(cp.mono (k':=bL S+r.length+84+1) Yk).gave hx k⟩
 |@half S k r h p rs ih=>
  obtain⟨⟨loc,I⟩,cp⟩:=ih;have I':=I.half p;have rl:=I'.rm.len;have cp:cV C (bL S+0+84) S:=cp;have c2:=cp.mono (k':=bL S+r.length+20) Yk;exact⟨⟨_,I'⟩,⟨c2.st,c2.lg,c2.gv,c2.on,c2.hn⟩⟩
 |@wait S k i x r h hl ih=>
  obtain⟨⟨loc,I⟩,cp⟩:=ih;have cp:cV C (bL S+(r.length+1)+20) S:=cp;have c2:=cp.mono (k':=bL S+r.length+20) Yk;exact⟨⟨_,I.wait i.toNat⟩,⟨c2.st,c2.lg,c2.gv,c2.on,c2.hn⟩⟩
 |@take S k x r h hl hs ih=>
  obtain⟨⟨loc,I⟩,cp⟩:=ih;have cp:cV C (bL S+(r.length+1)+20) S:=cp;have hx:=I.not.2.1;have e2:(be (C.prt x) C.pace S k x).sp=S.sp-1:=(gF k (aB S (C.prt x)) (bV (C.prt x) C.pace S k x)).2.1;have e3:=jt (S:=S) (r:=C.prt x) (pace:=C.pace) (now:=k) (x:=x)
  have le:bL (be (C.prt x) C.pace S k x)+r.length+20+3<=bL S+(r.length+1)+20:=by
   unfold bL;rw[e2];omega
  obtain⟨loc',I'⟩:=aX.frees k (aB S (C.prt x)) (((I.toGv (k+1+bw C.pace x (S.tks x))).eq (S':=bV (C.prt x) C.pace S k x) U U U U));exact⟨⟨loc',I'⟩,(cp.mono le).taken (okC x hx) hl k⟩
 |over h ih=>exact ih
theorem Au{ad:Rl->Addr}{g:Gv}{t:Int}:dU (g.map λkv=>((Sum.inl kv.1:Key),V.ref (ad (.gv kv.1)))) (Sum.inl t)=(cG g t).map λkv=>((Sum.inl kv.1:Key),V.ref (ad (.gv kv.1))):=by
 unfold dU cG;rw[List.filter_map];refine congrArg _ (List.filter_congr λkv _=>?_);exact decide_eq_decide.mpr ⟨λh z=>h (congrArg Sum.inl z),λh z=>h (Sum.inl.inj z)⟩
theorem mO:∀{g:Gv}{k m:Int},k≠m->atG (cG g m) k=atG g k
 |[],_,_,_=>rfl
 |(j,ps)::g,k,m,h=>by
  unfold cG;by_cases e:j=m
  ·rw[List.filter_cons_of_neg (by simpa using e),cZ,Q0 λz=>h (z.symm.trans e)];exact mO h
  ·rw[List.filter_cons_of_pos (by simpa using e),cZ,cZ];split
   ·rfl
   ·exact mO h
theorem lS(xs:List Nat):aE xs=(xs.map λj:Nat=>(j:Int)).map V.int:=by unfold aE;rw[List.map_map];rfl
theorem pf{zs:List Int}{ys:List Nat}(p:zs.Perm (ys.map λj:Nat=>(j:Int)))(h:List.Pairwise (λx1 x2=>x1<=x2) zs):∃r:List Nat,zs.map V.int=aE r/\r.Perm ys/\gK r:=by
 refine⟨zs.map Int.toNat,?_,?_,?_⟩
 ·rw[lS,List.map_map (f:=Int.toNat)];refine congrArg (List.map V.int) (((List.map_congr_left λz hz=>?_).trans (List.map_id zs)).symm);obtain⟨y,_,e⟩:=List.mem_map.mp (p.mem_iff.mp hz);rw[<- e]
  rfl
 ·have:=p.map Int.toNat;rw[List.map_map,show(Int.toNat ∘ λj:Nat=>(j:Int))=id from rfl,List.map_id]at this;exact this
 ·exact List.pairwise_map.mpr (h.imp λ{a b} le=>Yk)
section
variable {H0 H:Hp}{C:PlC}{ad:Rl->Addr}{hd:Nat->Addr}{lgv:List V}{S:PlS}
theorem PlH.pop(M:PlH a H0 H C ad hd lgv S)(t:Int):PlH a H0 (upd H (ad .gd) (.dK (dU (S.gv.map λkv=>((Sum.inl kv.1:Key),V.ref (ad (.gv kv.1)))) (Sum.inl t)))) C ad hd lgv { S with gv:=cG S.gv t }:=by
 have o:=M.own.put .gd trivial (.dK (dU (S.gv.map λkv=>((Sum.inl kv.1:Key),V.ref (ad (.gv kv.1)))) (Sum.inl t)));refine⟨o.less (λr hr=>?_) λr hr=>?_,M.b,M.qo,M.hd,M.lg⟩
 ·cases r with
  |gv k=>exact(sE.mp hr).1
  |_=>exact hr
 ·cases r with
  |gv k=>
   show HO.lst (aE (atG S.gv k))=HO.lst (aE (atG (cG S.gv t) k));rw[mO (sE.mp hr).2]
  |gd=>
   show HO.dK _=HO.dK ((cG S.gv t).map _);rw[Au]
  |_=>rfl
theorem PlH.newTk(M:PlH a H0 H C ad hd lgv S){z:Addr}(hz:H z=none):PlH a H0 (upd (upd H z (.lst [])) C.b (.ins a.gt C.dx (plN.zip ((plV C ad S.sp).set 8 (.ref z))))) C (at' ad .tk z) hd lgv { S with tr:=[] }:=by
 have o3:=M.own.new .tk hz (.lst []);have o4:=o3.put .b (.inr trivial) (.ins a.gt C.dx (plN.zip ((plV C ad S.sp).set 8 (.ref z))));have eb:at' ad .tk z .b=C.b:=M.b;rw[eb]at o4;refine⟨o4.less (λr hr=>.inr hr) λr hr=>?_,M.b,M.qo,M.hd,M.lg⟩;cases r<;>rfl
end
def PlW(a:Adr)(H0:Hp)(C:PlC)(S0:PlS)(ph:Ph)(u:Nat)(G:Hp):Prop:=∃(H1:Hp)(ad:Rl->Addr)(hd:Nat->Addr)(lgv:List V)(S:PlS),a9 H0 H1/\PlH a H1 G C ad hd lgv S/\bE C.ls C.prt C.pace S0 ph S/\3 * S.sp+S.gv.length<=u
theorem yD(T:Tx P w K mg a):aA P w K mg base CX0 6 a.CW a.CY ["self"] (oT a):=by
 refine T.GG.ok gT (λvs H Q E h=>?_) (λcdv A outer s H vs Q E hr h=>?_)
 ·obtain⟨_,_,_,_,_,_,rfl,_⟩:=h
  rfl
 obtain⟨H0,C,ad,hd,lgv,S0,rfl,B,M,G0,k⟩:=h
 refine⟨_,(ae (wU PassesOwn.never (ap fE (bh AU U T.ld Q8 (a8 (aH (pq 0) U) ac)) aa (ao _)) (ae (aT (i:=1) gT.nd U Oi (bh (AO U) U T.Ek PyProof.Rows.Boot.«min» (a8 (aH (pq 0) U) ac)))
  (ae (cf PassesOwn.never U (bH (bh (tY U) U T.Fh PyProof.Rows.Boot.«sorted» (a8 (xr (aH (pq 0) U) (pq 1) ⟨U,U,U,U⟩) ac))) (aP (i:=2) gT.nd U Oi)
  (ah (bO (dw (pq 0) T.f8 T.Ix (yG T) (hr.mono Yd) T.GK .nil ar (a8 (pq 1) (a8 (pq 2) ac))))))
  (ae (aT (i:=3) gT.nd U Oi (bh (tY U) U T.Fh PyProof.Rows.Boot.«sorted» (a8 (aH (pq 0) U) ac)))
  (ae (bA (pq 0) (bn ac) U)
  (ah (cf PassesOwn.never U (bH (pq 3)) (aP (i:=2) gT.nd U Oi)
  (ah (aD (cN (bZ (dw (pq 0) T.f8 T.Iy (yE T) (hr.mono Yd) T.GM .nil ar (a8 (pq 1) (a8 (pq 2) ac))))) (ah (ak br)) aF)))))))))
  (ah (ak br))),?_⟩
 have gd:∀{ph:Ph}{S:PlS},bE C.ls C.prt C.pace S0 ph S->GdP C ph S:=λh=>h.gd B.ok B.n G0;have nb:=B.n;refine⟨λu σ G=>(∃v1 v2 v3,σ=[some (.ref C.b),v1,v2,v3])/\PlW a H0 C S0 .top u G,⟨_,⟨_,_,_,U⟩,H0,ad,hd,lgv,S0,a9.refl _,M,.base,qf _⟩,?_⟩;rintro u σ G ⟨⟨v1,v2,v3,rfl⟩,H1,ad1,hd1,lgv1,S1,s1,M1,R1,u1⟩;have hgd:=M1.own.av .gd trivial;refine⟨_,U,C.b,_,C.dx,_,_,U,M1.ob,T.f8,T.BI,lz7 U,ad1 .gd,_,U,hgd,_,_,U,U,_,U,?_⟩
 cases hg:S1.gv with
 |nil=>exact aL (by rfl) ((k H1 G ad1 hd1 lgv1 S1 s1 M1).1 R1 hg)
 |cons kv0 g0=>
 rw[<- hg];have g1:S1.gv≠[]:=by rw[hg];exact List.cons_ne_nil _ _
 refine bo (Q3 (by rw[hg,qS,qC];omega)) ?_;refine⟨λσ G=>(∃v1 v2 v3,σ=[some (.ref C.b),v1,v2,v3])/\∃u',u'<u/\PlW a H0 C S0 .top u' G,λσ' G' ⟨h1,u',lt,h2⟩=>⟨u',lt,h1,h2⟩,?_⟩;refine⟨_,U,C.b,_,C.dx,_,_,U,M1.ob,T.f8,T.BI,lz7 U,ad1 .gd,_,aR S1.gv,U,hgd,by unfold aR;rw[List.map_map,List.map_map];rfl,λz=>g1 (List.map_eq_nil_iff.mp z),λm hm hmin=>?_⟩;dsimp only[aI];have hgl:=M1.own.av (.gv m) hm;have I1:=gd R1;obtain⟨⟨loc1,L1⟩,cp1⟩:=I1;have ll:=(L1.gv _ (gG hm)).len;have M2:=M1.pop m;have hgl2:=M2.own.sa;refine⟨_,U,C.b,_,C.dx,_,_,U,M1.ob,T.f8,T.BI,lz7 U,ad1 .gd,U,.inl ⟨_,.of hgd⟩,_,U,_,.inl m,_,hgd,U,by rw[ir,Q1 hm],ad1 (.gv m),(atG S1.gv m).map (λj:Nat=>(j:Int)),U,?_,by rw[qa];exact Nat.lt_of_le_of_lt ll Yk,λl zs hl perm srt=>?_⟩
 ·rw[<- lS];exact SqL.of (by rw[aj λe=>nomatch M1.own.inj (.gv m) .gd hm trivial e];exact hgl)
 obtain⟨r,er,rp,rr⟩:=pf perm srt;rw[er];have M3:=M2.earth hl (.lst (aE r));have s3:a9 H1 (upd H1 l (.lst (aE r))):=a9.new (a9.none M2.own.sa hl) _;have hl3:upd H1 l (.lst (aE r)) l=some (.lst (aE r)):=af;have R2:=R1.turn ⟨hm,hmin⟩ rp rr;have s03:=s1.trans s3;generalize upd H1 l (.lst (aE r))=H3 at M3 s3 hl3 s03;refine⟨l,U,⟨_,SqL.of (M3.own.sa _ _ hl3)⟩,?_⟩;refine df (K:=K) (a:=l) (xs:=aE r) (λi σ G=>(∃v2 v3,σ=[some (.ref C.b),some (.int m),v2,v3])/\(∃u',u'<u/\PlW a H3 C S0 (.giv m (r.drop i)) u' G)) ⟨⟨_,_,U⟩,_,?_,H3,ad1,hd1,lgv1,_,a9.refl _,M3,R2,qf _⟩ ?_ ?_ ?_
 ·show 3 * S1.sp+(cG S1.gv m).length<u;have:=mB hm;omega
 ·rintro i σ G _ ⟨_,u',_,H4,ad4,hd4,lgv4,S4,s4,M4,_⟩;exact SqL.of (M4.own.sa _ _ (s4 _ _ hl3))
 ·rintro i v σ G hi ⟨⟨v2,v3,rfl⟩,u',lu,H4,ad4,hd4,lgv4,S4,s4,M4,R4,u4⟩;unfold aE at hi;rw[qF]at hi;obtain⟨x,hx,rfl⟩:=qQ.mp hi
  have ed:r.drop i=x::r.drop (i+1):=by
   have lt:=(qg.mp hx).1;rw[List.drop_eq_getElem_cons lt];rw[qd lt]at hx;cases hx
   rfl
  rw[ed]at R4;have G4:=gd R4;dsimp only[aI];refine⟨_,U,C.b,C.dx,_,U,M4.ob,fK Qz,_,U,_,U,H4,C,ad4,hd4,lgv4,S4,m,x,r.drop (i+1),U,B.same (s03.trans s4),M4,⟨G4.loc,G4.cap.mono Yk⟩,λH5 G5 ad5 lgv5 s5 M5=>?_⟩;refine⟨⟨_,_,U⟩,u',lu,H5,ad5,hd4,lgv5,_,s4.trans s5,M5,R4.give,?_⟩;rw[mt.1,mt.2];exact u4
 rintro σ G ⟨⟨v2,v3,rfl⟩,u',lu,H4,ad4,hd4,lgv4,S4,s4,M4,R4,u4⟩;rw[fN,List.drop_length]at R4;obtain⟨⟨loc4,L4⟩,cp4⟩:=gd R4;have htk:=M4.own.av .tk trivial;have tl:=L4.tr.len;refine⟨_,U,C.b,_,C.dx,_,_,U,M4.ob,T.f8,T.BJ,lz8 U,ad4 .tk,S4.tr.map (λj:Nat=>(j:Int)),U,by rw[<- lS];exact SqL.of htk,by rw[qa];omega,λl2 zs2 hl2 perm2 srt2=>?_⟩;dsimp only[aI];obtain⟨r2,er2,rp2,rr2⟩:=pf perm2 srt2;rw[er2];have M5:=M4.earth hl2 (.lst (aE r2));have s5:a9 H4 (upd H4 l2 (.lst (aE r2))):=a9.new (a9.none M4.own.sa hl2) _;have hl5:upd H4 l2 (.lst (aE r2)) l2=some (.lst (aE r2)):=af;have R5:=R4.half rp2 rr2;have s05:=s03.trans (s4.trans s5);generalize upd H4 l2 (.lst (aE r2))=H5 at M5 s5 hl5 s05;generalize upd G l2 (.lst (aE r2))=G5 at M5 ⊢;refine⟨qu _,λz hz=>?_⟩;have M6:=M5.newTk hz;have M5u:=M5.up (a9.new hz (.lst []));refine⟨_,U,C.b,_,C.dx,_,U,M5u.ob,T.f8,T.BJ,by simp[plN,plV],?_⟩;rw[lE 8 U Qz (by show 8<11;decide)];refine⟨_,U,l2,U,⟨_,SqL.of (M6.own.sa _ _ hl5)⟩,?_⟩;refine df (K:=K) (a:=l2) (xs:=aE r2) (λi σ G=>(∃v2,σ=[some (.ref C.b),some (.int m),v2,some (.ref l2)])/\PlW a H5 C S0 (.tak m (r2.drop i)) u' G) ⟨⟨_,U⟩,H5,_,hd4,lgv4,_,a9.refl _,M6,R5,u4⟩ ?_ ?_ ?_
 ·rintro i σ G _ ⟨_,H6,ad6,hd6,lgv6,S6,s6,M6,_⟩;exact SqL.of (M6.own.sa _ _ (s6 _ _ hl5))
 ·rintro i v σ G hi ⟨⟨v2',rfl⟩,H6,ad6,hd6,lgv6,S6,s6,M6,R6,u6⟩;unfold aE at hi;rw[qF]at hi;obtain⟨x,hx,rfl⟩:=qQ.mp hi
  have ed:r2.drop i=x::r2.drop (i+1):=by
   have lt:=(qg.mp hx).1;rw[List.drop_eq_getElem_cons lt];rw[qd lt]at hx;cases hx
   rfl
  rw[ed]at R6;have G6:=gd R6;dsimp only[aI];refine⟨_,U,C.b,C.dx,_,U,M6.ob,fK Qz,_,U,_,U,H6,C,ad6,hd6,lgv6,S6,m,x,r2.drop (i+1),U,B.same (s05.trans s6),M6,⟨G6.loc,G6.cap.mono Yk⟩,λi' hl H7 G7 s7 M7=>?_,λhl hs H7 G7 s7 M7=>?_,λhl hs H7 G7 ad7 hd7 lgv7 s7 M7=>?_⟩
  ·exact⟨_,U,aL U ⟨⟨_,U⟩,H7,ad6,hd6,lgv6,_,s6.trans s7,M7,R6.wait hl,u6⟩⟩
  ·exact⟨_,U,bo U ((k H7 G7 ad6 hd6 lgv6 S6 (s05.trans (s6.trans s7)) M7).2 m x _ R6 hl hs)⟩
  ·refine⟨_,U,aL U ⟨⟨_,U⟩,H7,ad7,hd7,lgv7,_,s6.trans s7,M7,R6.take hl hs,?_⟩⟩;have e2:(be (C.prt x) C.pace S6 m x).sp=S6.sp-1:=(gF m (aB S6 (C.prt x)) (bV (C.prt x) C.pace S6 m x)).2.1;have e3:=jt (S:=S6) (r:=C.prt x) (pace:=C.pace) (now:=m) (x:=x);rw[e2];omega
 rintro σ G ⟨⟨v2',rfl⟩,H6,ad6,hd6,lgv6,S6,s6,M6,R6,u6⟩;rw[fN,List.drop_length]at R6;exact⟨⟨_,_,_,U⟩,u',lu,H6,ad6,hd6,lgv6,S6,s05.trans s6,M6,R6.over,u6⟩
section
variable {H0 H:Hp}{D:Rl->Prop}{ad:Rl->Addr}{c:Rl->HO}
open Classical in
theorem bf.join(M:bf H0 H D ad c){H':Hp}(s:a9 H H'){D2:Rl->Prop}{ad2:Rl->Addr}{c2:Rl->HO}(nw:∀r,D2 r->H (ad2 r)=none)(inj:∀r s,D2 r->D2 s->ad2 r=ad2 s->r=s)(av:∀r,D2 r->H' (ad2 r)=some (c2 r)):
 ∃H0',a9 H0 H0'/\(∀x o,H x=none->(∀r,D2 r->ad2 r≠x)->H' x=some o->H0' x=some o)/\bf H0' H' (λr=>D2 r\/D r) (λr=>if D2 r then ad2 r else ad r) (λr=>if D2 r then c2 r else c r):=by
 have ne:∀r s,D2 r->D s->ad2 r≠ad s:=λr s hr hs z=>by have:=M.av s hs;rw[<- z,nw r hr]at this;cases this
 refine⟨λx=>if(∃r,D2 r/\ad2 r=x)then none else if H x=none then H' x else H0 x,λx o h=>?_,λx o hx hn h=>?_,⟨λx o h=>?_,λr hr=>?_,λr t hr ht e=>?_,λr hr=>?_⟩⟩
 ·show(if(∃r,D2 r/\ad2 r=x)then none else if H x=none then H' x else H0 x)=_;have hx:=M.sa _ _ h;rw[Q0 (λ⟨r,hr,e⟩=>by rw[<- e,nw r hr]at hx;cases hx),Q0 (by rw[hx];exact λz=>by cases z)];exact h
 ·show(if(∃r,D2 r/\ad2 r=x)then none else if H x=none then H' x else H0 x)=_;rw[Q0 (λ⟨r,hr,e⟩=>hn r hr e),Q1 hx];exact h
 ·have h:(if(∃r,D2 r/\ad2 r=x)then none else if H x=none then H' x else H0 x)=some o:=h;split at h
  ·cases h
  split at h
  ·exact h
  ·exact s _ _ (M.sa _ _ h)
 ·show(if(∃t,D2 t/\ad2 t=(if D2 r then ad2 r else ad r))then none else _)=_;by_cases e:D2 r
  ·rw[Q1 e,Q1 ⟨r,e,U⟩]
  ·have hr:=hr.resolve_left e;rw[Q0 e,Q0 (λ⟨t,ht,z⟩=>ne t r ht hr z),Q0 (by rw[M.av r hr];exact λz=>by cases z)];exact M.nw r hr
 ·have e:(if D2 r then ad2 r else ad r)=(if D2 t then ad2 t else ad t):=e;by_cases e1:D2 r
  ·by_cases e2:D2 t
   ·rw[Q1 e1,Q1 e2]at e;exact inj r t e1 e2 e
   ·rw[Q1 e1,Q0 e2]at e;exact Q5 e (ne r t e1 (ht.resolve_left e2))
  ·by_cases e2:D2 t
   ·rw[Q0 e1,Q1 e2]at e;exact Q5 e.symm (ne t r e2 (hr.resolve_left e1))
   ·rw[Q0 e1,Q0 e2]at e;exact M.inj r t (hr.resolve_left e1) (ht.resolve_left e2) e
 ·show H' (if D2 r then ad2 r else ad r)=some (if D2 r then c2 r else c r);by_cases e:D2 r
  ·rw[Q1 e,Q1 e];exact av r e
  ·rw[Q0 e,Q0 e];exact s _ _ (M.av r (hr.resolve_left e))
end
inductive RRs(H:Hp):List V->List PR->Prop
 |nil:RRs H [] []
 |cons {v:V}{vs:List V}{r:PR}{rs:List PR}:RR H v r->RRs H vs rs->RRs H (v::vs) (r::rs)
theorem RRs.same{H H':Hp}(s:a9 H H'):∀{vs:List V}{rs:List PR},RRs H vs rs->RRs H' vs rs
 |_,_,.nil=>.nil
 |_,_,.cons a r=>.cons (a.same s) (RRs.same s r)
theorem RRs.len{H:Hp}:∀{vs:List V}{rs:List PR},RRs H vs rs->vs.length=rs.length
 |_,_,.nil=>rfl
 |_,_,.cons _ r=>congrArg (·+1) (RRs.len r)
theorem RRs.at{H:Hp}:∀{vs:List V}{rs:List PR},RRs H vs rs->∀{i:Nat}{v:V},vs[i]?=some v->∃r,rs[i]?=some r/\RR H v r
 |_,_,.nil,i,v,h=>by simp at h
 |_,_,.cons a r,0,v,h=>by cases h;exact⟨_,U,a⟩
 |_,_,.cons a r,i+1,v,h=>RRs.at r (by simpa using h)
def aq(rs:List PR):Nat->PR:=λx=>rs.getD x (.merge 0 [] [] [])
def bi(xs:List Ln):Nat->Ln:=λi=>xs.getD i (none,[])
def cO(xs:List Ln)(n most:Nat):PlS:={ st:=λi=>((bi xs i).2,0),held:=λ_=>[],tks:=λ_=>0,gv:=[(0,[])],tr:=List.range n,wr:=λ_=>[],wt:=λ_=>[],sp:=most,lg:=[] }
structure Be(a:Adr)(H H1 H':Hp)(b:Addr)(C:PlC)(ad:Rl->Addr)(hd:Nat->Addr)(xs:List Ln)(rs:List PR)(pace:List (List Int))(most:Nat):Prop where
 B:PlB a H1 C
 M:PlH a H1 H' C ad hd [] (cO xs rs.length most)
 b:C.b=b
 prt:C.prt=aq rs
 ls:C.ls=λi=>(bi xs i).1
 n:C.n=rs.length
 nl:C.nl=xs.length
 pace:C.pace=pace
 keep:∀q o,q≠C.b->H q=some o->H1 q=some o
inductive oY(a:Adr)(vs:List V)(H:Hp)(Q:VK)(E:XK):Prop
 |mk (b dx ll lp pc:Addr) (us ps pv:List V) (xs:List Ln) (rs:List PR) (pace:List (List Int)) (most:Nat) (h0_:vs=[.ref b,.ref ll,.ref lp,.ref pc,.int most]) (h1_:H b=some (.ins a.gt dx [])) (h2_:H ll=some (.lst us)) (h3_:RLn H us xs) (h4_:H lp=some (.lst ps)) (h5_:RRs H ps rs) (h6_:H pc=some (.lst pv)) (h7_:RIs H pv pace) (h8_:rs.length<60) (h9_:xs.length<=1000) (h10_:(∀x∈xs,x.2.length<=50)) (h11_:pace.length<=1000) (h12_:(∀r∈pace,r.length<=1000)) (h13_:(∀r∈rs,r.ok/\r.fit xs.length)) (h14_:∀H1 H' C ad hd,Be a H H1 H' b C ad hd xs rs pace most->Q .non H'):oY a vs H Q E
theorem bf.cong{H0 H:Hp}{D:Rl->Prop}{ad:Rl->Addr}{c:Rl->HO}(M:bf H0 H D ad c){D':Rl->Prop}{ad':Rl->Addr}{c':Rl->HO}(h:∀r,D' r->D r/\ad' r=ad r/\c' r=c r):bf H0 H D' ad' c':=
 ⟨M.sa,λr hr=>by rw[(h r hr).2.1];exact M.nw r (h r hr).1,λr s hr hs e=>M.inj r s (h r hr).1 (h s hs).1 (by rw[<- (h r hr).2.1,<- (h s hs).2.1];exact e),λr hr=>by rw[(h r hr).2.1,(h r hr).2.2];exact M.av r (h r hr).1⟩
def eK(K G:Hp)(f:Nat->Rl)(D:Rl->Prop)(ad:Rl->Addr)(c:Rl->HO)(i:Nat)(ys:List V):Prop:=∃(ad':Rl->Addr)(c':Rl->HO),ys=(List.range i).map (λj=>V.ref (ad' (f j)))/\(∀r,D r->ad' r=ad r/\c' r=c r)/\(∀j,j<i->c' (f j)=.lst [])/\bf K G (λr=>(∃j,j<i/\r=f j)\/D r) ad' c'
theorem eK.start{K G:Hp}{f:Nat->Rl}{D:Rl->Prop}{ad:Rl->Addr}{c:Rl->HO}(M:bf K G D ad c):eK K G f D ad c 0 []:=⟨ad,c,U,λ_ _=>⟨U,U⟩,λj h=>Q5 h (Qy _),M.less (λr hr=>hr.resolve_left λ⟨j,h,_⟩=>Qy _ h) λ_ _=>U⟩
theorem eK.step{K G:Hp}{f:Nat->Rl}{D:Rl->Prop}{ad:Rl->Addr}{c:Rl->HO}{i:Nat}{ys:List V}(fi:∀j k,f j=f k->j=k)(fd:∀j,¬ D (f j))(M:eK K G f D ad c i ys){x:Addr}(hx:G x=none):eK K (upd G x (.lst [])) f D ad c (i+1) (ys++[.ref x]):=by
 obtain⟨ad',c',rfl,h1,h2,o⟩:=M;refine⟨at' ad' (f i) x,at' c' (f i) (.lst []),?_,λr hr=>?_,λj hj=>?_,?_⟩
 ·rw[List.range_succ,qP];refine congr (congrArg HAppend.hAppend (List.map_congr_left λj hj=>?_)) ?_
  ·rw[bq λe=>qH (List.mem_range.mp hj) (fi j i e)]
  ·show _=[V.ref (at' ad' (f i) x (f i))];rw[bR]
 ·have ne:r≠f i:=λe=>fd i (e▸hr);rw[bq ne,bq ne];exact h1 r hr
 ·by_cases e:j=i
  ·rw[e,bR]
  ·rw[bq λz=>e (fi j i z)];exact h2 j Yk
 ·refine(o.new (f i) hx (.lst [])).less (λr hr=>?_) λ_ _=>U;rcases hr with⟨j,hj,rfl⟩|hr
  ·by_cases e:j=i
   ·exact .inl (by rw[e])
   ·exact .inr (.inl ⟨j,Yk,U⟩)
  ·exact .inr (.inr hr)
theorem RS.keep{H H':Hp}(e:∀b ys,H b=some (.tup ys)->H' b=some (.tup ys)){v:V}{r:Sd}(h:RS H v r):RS H' v r:=by
 cases h with
 |num a=>exact .num (e _ _ a)
 |thing a=>exact .thing (e _ _ a)
theorem RR.keep{H H':Hp}(e:∀b ys,H b=some (.tup ys)->H' b=some (.tup ys)){v:V}{r:PR}(h:RR H v r):RR H' v r:=by
 cases h with
 |pass a b c d=>exact .pass (e _ _ a) (e _ _ b) (e _ _ c) (e _ _ d)
 |work a b c d=>exact .work (e _ _ a) (e _ _ b) (c.keep e) (d.keep e)
 |choose a b c d=>exact .choose (e _ _ a) (e _ _ b) (e _ _ c) (e _ _ d)
 |merge a b c d=>exact .merge (e _ _ a) (e _ _ b) (e _ _ c) (e _ _ d)
theorem RRs.keep{H H':Hp}(e:∀b ys,H b=some (.tup ys)->H' b=some (.tup ys)):∀{vs:List V}{rs:List PR},RRs H vs rs->RRs H' vs rs
 |_,_,.nil=>.nil
 |_,_,.cons a r=>.cons (a.keep e) (RRs.keep e r)
theorem RIs.keep{H H':Hp}(e:∀b ys,H b=some (.lst ys)->H' b=some (.lst ys)):∀{vs:List V}{xss:List (List Int)},RIs H vs xss->RIs H' vs xss
 |_,_,.nil=>.nil
 |_,_,.cons a r=>.cons (e _ _ a) (RIs.keep e r)
def mf(nl:Nat):Rl->Prop
 |.qo i=>i<nl
 |.ql i=>i<nl
 |.b=>True
 |_=>False
def j9(b:Addr)(qs:List (Addr×Addr×Addr)):Rl->Addr
 |.qo i=>(qs.getD i (b,b,b)).1
 |.ql i=>(qs.getD i (b,b,b)).2.2
 |_=>b
def j8(a:Adr)(b:Addr)(o:HO)(qs:List (Addr×Addr×Addr))(xs:List Ln):Rl->HO
 |.qo i=>.ins a.or (qs.getD i (b,b,b)).2.1 [("laid",.ref (qs.getD i (b,b,b)).2.2),("gone",.int (0:Nat))]
 |.ql i=>.lst ((bi xs i).2.map V.int)
 |_=>o
theorem rj{f:Str}{v:V}:∀{l:List (Str×V)},(∀p∈l,p.1≠f)->bz f v l=l++[(f,v)]
 |[],_=>rfl
 |(g,u)::l,h=>by
  rw[bz,Q0 (h _ qp),rj λp hp=>h p (qm _ hp)]
  rfl
def obO(a:Adr)(dx:Addr)(k:Nat)(vs:List V):HO:=.ins a.gt dx ((plN.take k).zip vs)
theorem wN{k:Nat}{f:Str}{v:V}{vs:List V}(hl:vs.length=k)(hf:plN[k]?=some f)(hn:(plN.take k).contains f=false):bz f v ((plN.take k).zip vs)=(plN.take (k+1)).zip (vs++[v]):=by
 have kl:=(qg.mp hf).1;rw[rj λp hp e=>?_,qt,hf,List.zip_append (by rw[qL,hl];omega)]
 ·rfl
 ·have:=(List.of_mem_zip (a:=p.1) (b:=p.2) hp).1;rw[e]at this;rw[List.contains_iff_mem.mpr this]at hn;cases hn
theorem dO{a:Adr}{dx:Addr}{k:Nat}{f:Str}{v:V}{vs ws:List V}(hl:vs.length=k)(hf:plN[k]?=some f)(hn:(plN.take k).contains f=false)(e:vs++[v]=ws):HO.ins a.gt dx (bz f v ((plN.take k).zip vs))=obO a dx (k+1) ws:=by
 rw[wN hl hf hn,e]
 rfl
theorem dQ{k:Nat}{vs:List V}:((plN.take k).zip vs).length<1000:=by
 rw[List.length_zip,qL];have:plN.length=11:=U;omega
theorem sf{α β:Type}{l:List α}{d:α}{f:α->β}{n:Nat}(h:l.length=n):l.map f=(List.range n).map λi=>f (l.getD i d):=by
 refine List.ext_getElem? λi=>?_;by_cases hi:i<n
 ·rw[cF hi,qF,qd Yk,qk,qd Yk]
  rfl
 ·rw[Qp (by rw[qa];omega),Qp (by rw[qa,Qe];omega)]
theorem yH(T:Tx P w K mg a):aA P w K mg base CX0 5 a.CU a.CV ["self","lines","parts","pace","most"] (oY a):=by
 refine T.GE.ok vU (λvs H Q E h=>?_) (λcdv A outer s H vs Q E hr h=>?_)
 ·obtain⟨_,_,_,_,_,_,_,_,_,_,_,_,rfl,_⟩:=h
  rfl
 obtain⟨b,dx,ll,lp,pc,us,ps,pv,xs,rs,pace,most,rfl,hb,hll,rln,hlp,rrs,hpc,ris,n60,nl,fl,pl,pb,okr,k⟩:=h
 refine⟨_,(ae (bA (pq 0) (fI T.HS (yv T) (hr.mono Yd) U T.HR T.FQ .nil ar (a8 (pq 1) ac)) U)
  (ae (bA (pq 0) (bY (k:=1) (Nc:=["row"]) (js:=[]) (show aK (am eP) ["self","lines","parts","pace","most"] _ 1 ["row"] []from aK.mk U (by decide +kernel) (by decide +kernel) (by decide +kernel) U (by decide +kernel)) U (bH (pq 2)) (λ_ _ _ _ _=>(aP (i:=0) (show List.Nodup (["row"]:List Str)from by decide +kernel) U Oi)) (λ_ _ _ _ _=>bJ) (λ_ _ _ _ _=>(aQ (xV T) (hr.mono Yd) U T.GD T.Ey.kp T.GC .nil ar (a8 (pq 0) ac)))) U)
  (ae (bA (pq 0) (pq 3) U)
  (ae (bA (pq 0) (pq 4) U)
  (ae (bA (pq 0) (bn ac) U)
  (ae (bA (pq 0) (bY (k:=1) (Nc:=["part"]) (js:=[]) (show aK (am eP) ["self","lines","parts","pace","most"] _ 1 ["part"] []from aK.mk U (by decide +kernel) (by decide +kernel) (by decide +kernel) U (by decide +kernel)) U (bH (pq 2)) (λ_ _ _ _ _=>(aP (i:=0) (show List.Nodup (["part"]:List Str)from by decide +kernel) U Oi)) (λ_ _ _ _ _=>bJ) (λ_ _ _ _ _=>(bn ac))) U)
  (ae (bA (pq 0) (bY (k:=1) (Nc:=["part"]) (js:=[]) (show aK (am eP) ["self","lines","parts","pace","most"] _ 1 ["part"] []from aK.mk U (by decide +kernel) (by decide +kernel) (by decide +kernel) U (by decide +kernel)) U (bH (pq 2)) (λ_ _ _ _ _=>(aP (i:=0) (show List.Nodup (["part"]:List Str)from by decide +kernel) U Oi)) (λ_ _ _ _ _=>bJ) (λ_ _ _ _ _=>aa)) U)
  (ae (bA (pq 0) (xu (wX aa (bn ac) wW) U U (List.cons_ne_nil _ _) Yd) U)
  (ae (bA (pq 0) (xk U U T.Bp U T.xz (bh bG U T.ld Q8 (a8 (pq 2) ac))) U)
  (ae (bA (pq 0) (bY (k:=1) (Nc:=["line"]) (js:=[]) (show aK (am eP) ["self","lines","parts","pace","most"] _ 1 ["line"] []from aK.mk U (by decide +kernel) (by decide +kernel) (by decide +kernel) U (by decide +kernel)) U (bH (pq 1)) (λ_ _ _ _ _=>(aP (i:=0) (show List.Nodup (["line"]:List Str)from by decide +kernel) U Oi)) (λ_ _ _ _ _=>bJ) (λ_ _ _ _ _=>(bn ac))) U)
  (ah (bA (pq 0) (bY (k:=1) (Nc:=["line"]) (js:=[]) (show aK (am eP) ["self","lines","parts","pace","most"] _ 1 ["line"] []from aK.mk U (by decide +kernel) (by decide +kernel) (by decide +kernel) U (by decide +kernel)) U (bH (pq 1)) (λ_ _ _ _ _=>(aP (i:=0) (show List.Nodup (["line"]:List Str)from by decide +kernel) U Oi)) (λ_ _ _ _ _=>bJ) (λ_ _ _ _ _=>(bn ac))) U)))))))))))),?_⟩
 let K0:Hp:=λc=>if c=b then none else H c
 have k0:∀c o,c≠b->H c=some o->K0 c=some o:=λc o n h=>(Q0 n).trans h;have kt:∀c ys,H c=some (.tup ys)->K0 c=some (.tup ys):=λc ys h=>k0 c _ (λz=>by rw[z,hb]at h;cases h) h;have kl:∀c ys,H c=some (.lst ys)->K0 c=some (.lst ys):=λc ys h=>k0 c _ (λz=>by rw[z,hb]at h;cases h) h
 have M0:bf K0 H (λr=>r=.b) (λ_=>b) (λ_=>.ins a.gt dx []):=⟨λc o h=>by
  have h:(if c=b then none else H c)=some o:=h;split at h
  ·cases h
  ·exact h,λ_ _=>Q1 U,λr t hr ht _=>hr.trans ht.symm,λ_ _=>hb⟩
 refine⟨_,U,λy dy hy hdy ny=>?_⟩
 have sy:a9 H (upd (upd H dy (.own y)) y (.ins a.r9 dy [])):=λc o h=>by
  have n1:c≠y:=λz=>by rw[z,hy]at h;cases h
  have n2:c≠dy:=λz=>by rw[z,hdy]at h;cases h
  rw[aj n1,aj n2];exact h
 refine⟨y,dy,ll,us,xs,U,af,sy _ _ hll,rln.same sy,nl,fl,λH' la lq qs hk ry n2 n1 nq hlq hla=>?_⟩;have s1:a9 H H':=λc o h=>hk c o (λz=>by rw[z,hy]at h;cases h) (sy _ _ h)
 have hq:∀i,i<xs.length->qs[i]?=some (qs.getD i (b,b,b)):=λi hi=>by
  have:i<qs.length:=by have:=ry.n;unfold cQ at this;rw[qa]at this;omega
  rw[qk,qd this]
  rfl
 have rq:∀i,i<xs.length->RQ a H' (qs.getD i (b,b,b)) ((bi xs i).2,0):=λi hi=>ry.q i _ _ (hq i hi) (by unfold cQ bi;rw[qF,qk,qd hi];rfl)
 obtain⟨K1,sk1,new1,O1⟩:=M0.join s1 (D2:=λr=>match r with|.qo i=>i<xs.length|.ql i=>i<xs.length|_=>False) (ad2:=j9 b qs) (c2:=j8 a b (.ins a.gt dx []) qs xs) (λr hr=>by
  cases r with
  |qo i=>exact a9.none sy (nq _ (qA (hq i hr))).2.2
  |ql i=>exact a9.none sy (nq _ (qA (hq i hr))).1
  |_=>exact Q5 hr id) (λr t hr ht e=>by
  have l1:∀i,i<xs.length->(qs.map λq=>q.1)[i]?=some (qs.getD i (b,b,b)).1:=λi hi=>by rw[qF,hq i hi];rfl
  have l2:∀i,i<xs.length->(qs.map λq=>q.2.2)[i]?=some (qs.getD i (b,b,b)).2.2:=λi hi=>by rw[qF,hq i hi];rfl
  cases r with
  |qo i=>
   cases t with
   |qo j=>exact congrArg Rl.qo ((List.getElem?_inj (qg.mp (l1 i hr)).1 n1).mp (by rw[l1 i hr,l1 j ht];exact congrArg some e))
   |ql j=>
    have h1:=(rq i hr).1;have e:(qs.getD i (b,b,b)).1=(qs.getD j (b,b,b)).2.2:=e;rw[e,(rq j ht).2.1]at h1;cases h1
   |_=>exact Q5 ht id
  |ql i=>
   cases t with
   |ql j=>exact congrArg Rl.ql ((List.getElem?_inj (qg.mp (l2 i hr)).1 n2).mp (by rw[l2 i hr,l2 j ht];exact congrArg some e))
   |qo j=>
    have h1:=(rq j ht).1;have e:(qs.getD i (b,b,b)).2.2=(qs.getD j (b,b,b)).1:=e;rw[<- e,(rq i hr).2.1]at h1;cases h1
   |_=>exact Q5 ht id
  |_=>exact Q5 hr id) (λr hr=>by
  cases r with
  |qo i=>exact(rq i hr).1
  |ql i=>exact(rq i hr).2.1
  |_=>exact Q5 hr id)
 have M1:bf K1 H' (mf xs.length) (j9 b qs) (j8 a b (.ins a.gt dx []) qs xs):=O1.cong λr hr=>by
  cases r with
  |qo i=>exact⟨.inl hr,(Q1 hr).symm,(Q1 hr).symm⟩
  |ql i=>exact⟨.inl hr,(Q1 hr).symm,(Q1 hr).symm⟩
  |b=>exact⟨.inr U,(Q0 id).symm,(Q0 id).symm⟩
  |_=>exact Q5 hr id
 have isD:∀c o,H c=none->H' c=some o->(∀i,i<xs.length->(qs.getD i (b,b,b)).1≠c/\(qs.getD i (b,b,b)).2.2≠c)->K1 c=some o:=λc o h1 h2 h3=>new1 c o h1 (λr hr=>by
  cases r with
  |qo i=>exact(h3 i hr).1
  |ql i=>exact(h3 i hr).2
  |_=>exact Q5 hr id) h2
 have ky:=isD y _ hy ry.o λi hi=>⟨(nq _ (qA (hq i hi))).2.1,λz=>(by have h:=(rq i hi).2.1;rw[z,ry.o]at h;cases h)⟩;have kla:=isD la _ (a9.none sy hla.1) ry.w λi hi=>⟨λz=>(by have h:=(rq i hi).1;rw[z,ry.w]at h;cases h),λz=>hla.2 (List.mem_map.mpr ⟨_,qA (hq i hi),z⟩)⟩;have klq:=isD lq _ (a9.none sy hlq.1) ry.l λi hi=>⟨λz=>(by have h:=(rq i hi).1;rw[z,ry.l]at h;cases h),λz=>hlq.2 (List.mem_map.mpr ⟨_,qA (hq i hi),z⟩)⟩;refine⟨U,_,U,b,a.gt,dx,[],U,s1 _ _ hb,T.f8,T.Bw,by simp,?_⟩;rw[show HO.ins a.gt dx (bz ("yard":Str) (V.ref y) [])=obO a dx 1 [.ref y]from rfl];have M2:=M1.put .b trivial (obO a dx 1 [.ref y]);change bf K1 (upd H' b (obO a dx 1 [.ref y])) _ _ _ at M2;generalize upd H' b (obO a dx 1 [.ref y])=G2 at M2 ⊢;have lp1:=sk1 _ _ (kl _ _ hlp);have rr1:=(rrs.keep kt).same sk1;have pl1:=rrs.len;refine⟨_,U,lp,U,⟨_,SqL.of (M2.sa _ _ lp1)⟩,?_⟩;refine dG (K:=K) (a:=lp) (xs:=ps) (λi ys σ G=>(∃v,σ=[v])/\∃K2,a9 K1 K2/\ys.length=i/\(∀j,j<i->∃v,ys[j]?=some v/\RPt a K2 v (aq rs j))/\bf K2 G (mf xs.length) (j9 b qs) (at' (j8 a b (.ins a.gt dx []) qs xs) .b (obO a dx 1 [.ref y]))) ⟨⟨_,U⟩,K1,a9.refl _,U,λj h=>Q5 h (Qy _),M2⟩ ?_ (bb (m:=1000) Yk) ?_ ?_ ?_
 ·rintro i ys σ G _ ⟨_,K2,_,e,_⟩;rw[e];exact qf _
 ·rintro i ys σ G ⟨_,K2,s2,_,_,M⟩;exact SqL.of (M.sa _ _ (s2 _ _ lp1))
 ·rintro i v ys σ G hi ⟨⟨v',rfl⟩,K2,s2,e2,r2,M⟩;obtain⟨r,hr2,rr⟩:=rr1.at hi;dsimp only[aI];refine⟨_,U,K2,v,r,U,M.sa,rr.same s2,λG' p sg np f=>?_⟩;obtain⟨K3,s3,new3,M3⟩:=M.more sg;refine⟨⟨_,U⟩,K3,s2.trans s3,by rw[qc,e2];rfl,λj hj=>?_,M3⟩;by_cases e:j=i
  ·refine⟨.ref p,by rw[e,qM Yk,e2,Nat.sub_self];rfl,?_⟩;rw[show aq rs j=r by unfold aq;rw[e,qk,hr2];rfl];exact f K3 s3 new3
  ·obtain⟨v,h1,h2⟩:=r2 j Yk;exact⟨v,by rw[Q6 Yk];exact h1,h2.same s3⟩
 rintro ys σ3 G3 ⟨_,K2,s2,yl,dr,M3⟩ dl hdl;have M4:=M3.base hdl (.lst ys);have s4:a9 K2 (upd K2 dl (.lst ys)):=a9.new (a9.none M3.sa hdl) _;have hd4:upd K2 dl (.lst ys) dl=some (.lst ys):=af;have dr4:∀j,j<ps.length->∃v,ys[j]?=some v/\RPt a (upd K2 dl (.lst ys)) v (aq rs j):=λj hj=>let ⟨v,h1,h2⟩:=dr j hj;⟨v,h1,h2.same s4⟩;have sk4:=sk1.trans (s2.trans s4);have s14:=s2.trans s4;generalize upd K2 dl (.lst ys)=K4 at M4 s4 hd4 dr4 sk4 s14;generalize upd G3 dl (.lst ys)=G4 at M4 ⊢;have b4:G4 b=some (obO a dx 1 [.ref y]):=M4.av .b trivial;refine⟨_,U,b,a.gt,dx,_,U,b4,T.f8,T.En,dQ,?_⟩;rw[dO (k:=1) (f:="doers") (v:=.ref dl) (vs:=[.ref y]) (ws:=[.ref y,.ref dl]) U U Qz U];have M5:=M4.put .b trivial (obO a dx 2 [.ref y,.ref dl]);change bf K4 (upd G4 b (obO a dx 2 [.ref y,.ref dl])) _ _ _ at M5;refine⟨_,U,_,U,b,a.gt,dx,_,U,M5.av .b trivial,T.f8,T.BR,dQ,?_⟩;rw[dO (k:=2) (f:="pace") (v:=.ref pc) (vs:=[.ref y,.ref dl]) (ws:=[.ref y,.ref dl,.ref pc]) U U Qz U];have M6:=M5.put .b trivial (obO a dx 3 [.ref y,.ref dl,.ref pc]);refine⟨_,U,_,U,b,a.gt,dx,_,U,M6.av .b trivial,T.f8,T.BS,dQ,?_⟩;rw[dO (k:=3) (f:="spare") (v:=.int most) (vs:=[.ref y,.ref dl,.ref pc]) (ws:=[.ref y,.ref dl,.ref pc,.int most]) U U Qz U];have M7:=M6.put .b trivial (obO a dx 4 [.ref y,.ref dl,.ref pc,.int most]);refine⟨qu _,λlg hlg=>?_⟩;have M8:=M7.new .lg hlg (.lst []);refine⟨_,U,b,a.gt,dx,_,U,M8.av .b (.inr trivial),T.f8,T.BU,dQ,?_⟩;rw[dO (k:=4) (f:="log") (v:=.ref lg) (vs:=[.ref y,.ref dl,.ref pc,.int most]) (ws:=[.ref y,.ref dl,.ref pc,.int most,.ref lg]) U U Qz U];have M9:=M8.put .b (.inr trivial) (obO a dx 5 [.ref y,.ref dl,.ref pc,.int most,.ref lg]);have lp4:=s14 _ _ lp1
 let D9:Rl->Prop:=λs=>s=.lg\/mf xs.length s
 let ad9:Rl->Addr:=at' (j9 b qs) .lg lg
 let c9:Rl->HO:=at' (at' (j8 a b (.ins a.gt dx []) qs xs) .lg (.lst [])) .b (obO a dx 5 [.ref y,.ref dl,.ref pc,.int most,.ref lg])
 have M9:bf K4 _ D9 ad9 c9:=M9.less (λ_ h=>h) λr _=>by cases r<;>rfl
 refine⟨_,U,lp,U,⟨_,SqL.of (M9.sa _ _ lp4)⟩,?_⟩;refine dG (K:=K) (a:=lp) (xs:=ps) (λi ys σ G=>(∃v,σ=[v])/\∃(K':Hp)(hd:Nat->Addr),a9 K4 K'/\ys=(List.range i).map (λj=>V.ref (hd j))/\(∀j,j<i->K' (hd j)=some (.lst []))/\bf K' G D9 ad9 c9) ⟨⟨_,U⟩,K4,λ_=>b,a9.refl _,U,λj h=>Q5 h (Qy _),M9⟩ ?_ (bb (m:=1000) Yk) ?_ ?_ ?_
 ·rintro i ys σ G _ ⟨_,K',hd,_,rfl,_⟩;rw[qa,Qe];exact qf _
 ·rintro i ys σ G ⟨_,K',hd,s',_,_,M⟩;exact SqL.of (M.sa _ _ (s' _ _ lp4))
 ·rintro i v ys σ G hi ⟨⟨v',rfl⟩,K',hd,s',rfl,h',M⟩;refine⟨qu _,λz hz=>⟨⟨_,U⟩,upd K' z (.lst []),put hd i z,s'.trans (a9.new (a9.none M.sa hz) _),?_,λj hj=>?_,M.base hz _⟩⟩
  ·rw[List.range_succ,qP];refine congr (congrArg HAppend.hAppend (List.map_congr_left λj hj=>?_)) ?_
   ·rw[az (qH (List.mem_range.mp hj))]
   ·show _=[V.ref (put hd i z i)];rw[aM]
  ·by_cases e:j=i
   ·rw[e,aM,af]
   ·rw[az e];exact a9.new (a9.none M.sa hz) _ _ _ (h' j Yk)
 rintro ys9 σ9 G9 ⟨_,K5,hd,s5,rfl,hh,M10⟩ hl hhl;have M11:=M10.new .hl hhl (.lst ((List.range ps.length).map λj=>V.ref (hd j)));refine⟨_,U,b,a.gt,dx,_,U,M11.av .b (.inr (.inr trivial)),T.f8,T.Eo,dQ,?_⟩;rw[dO (k:=5) (f:="held") (v:=.ref hl) (vs:=[.ref y,.ref dl,.ref pc,.int most,.ref lg]) (ws:=[.ref y,.ref dl,.ref pc,.int most,.ref lg,.ref hl]) U U Qz U];have M12:=M11.put .b (.inr (.inr trivial)) (obO a dx 6 [.ref y,.ref dl,.ref pc,.int most,.ref lg,.ref hl]);have lp5:=s5 _ _ lp4
 let D12:Rl->Prop:=λs=>s=.hl\/D9 s
 let ad12:Rl->Addr:=at' ad9 .hl hl
 let c12:Rl->HO:=at' (at' c9 .hl (.lst ((List.range ps.length).map λj=>V.ref (hd j)))) .b (obO a dx 6 [.ref y,.ref dl,.ref pc,.int most,.ref lg,.ref hl])
 have M12:bf K5 _ D12 ad12 c12:=M12;refine⟨_,U,lp,U,⟨_,SqL.of (M12.sa _ _ lp5)⟩,?_⟩;refine dG (K:=K) (a:=lp) (xs:=ps) (λi ys σ G=>(∃v,σ=[v])/\ys=(List.range i).map (λ_=>V.int ((0:Nat):Int))/\bf K5 G D12 ad12 c12) ⟨⟨_,U⟩,U,M12⟩ ?_ (bb (m:=1000) Yk) ?_ ?_ ?_
 ·rintro i ys σ G _ ⟨_,rfl,_⟩;rw[qa,Qe];exact qf _
 ·rintro i ys σ G ⟨_,_,M⟩;exact SqL.of (M.sa _ _ lp5)
 ·rintro i v ys σ G hi ⟨⟨v',rfl⟩,rfl,M⟩;exact⟨⟨_,U⟩,by rw[List.range_succ,qP];rfl,M⟩
 rintro ys12 σ12 G12 ⟨_,rfl,M12'⟩ tl htl;have M13:=M12'.new .tl htl (.lst ((List.range ps.length).map λ_=>V.int ((0:Nat):Int)));refine⟨_,U,b,a.gt,dx,_,U,M13.av .b (.inr (.inr (.inr trivial))),T.f8,T.BV,dQ,?_⟩;rw[dO (k:=6) (f:="takings") (v:=.ref tl) (vs:=[.ref y,.ref dl,.ref pc,.int most,.ref lg,.ref hl]) (ws:=[.ref y,.ref dl,.ref pc,.int most,.ref lg,.ref hl,.ref tl]) U U Qz U];have M14:=M13.put .b (.inr (.inr (.inr trivial))) (obO a dx 7 [.ref y,.ref dl,.ref pc,.int most,.ref lg,.ref hl,.ref tl])
 let D14:Rl->Prop:=λs=>s=.tl\/D12 s
 let ad14:Rl->Addr:=at' ad12 .tl tl
 let c14:Rl->HO:=at' (at' c12 .tl (.lst ((List.range ps.length).map λ_=>V.int ((0:Nat):Int)))) .b (obO a dx 7 [.ref y,.ref dl,.ref pc,.int most,.ref lg,.ref hl,.ref tl])
 have M14:bf K5 _ D14 ad14 c14:=M14;intro gd hgd;refine⟨qu _,λgl hgl=>?_⟩;have M15:=M14.new .gd hgd (.dK []);have M16:=M15.new (.gv 0) hgl (.lst []);have hgd2:=M16.av .gd (.inr (.inl U));refine⟨hgd2,[(.inl 0,.ref gl)],U,by show 1<=15;decide,?_⟩;have M17:=M16.put .gd (.inr (.inl U)) (.dK (gB [] [(.inl 0,.ref gl)]));have hb17:_=some (obO a dx 7 [.ref y,.ref dl,.ref pc,.int most,.ref lg,.ref hl,.ref tl]):=M17.av .b (.inr (.inr (.inr (.inr (.inr trivial)))));refine⟨_,U,b,a.gt,dx,_,U,hb17,T.f8,T.BI,dQ,?_⟩;rw[dO (k:=7) (f:="givers") (v:=.ref gd) (vs:=[.ref y,.ref dl,.ref pc,.int most,.ref lg,.ref hl,.ref tl]) (ws:=[.ref y,.ref dl,.ref pc,.int most,.ref lg,.ref hl,.ref tl,.ref gd]) U U Qz U];have M18:=M17.put .b (.inr (.inr (.inr (.inr (.inr trivial))))) (obO a dx 8 [.ref y,.ref dl,.ref pc,.int most,.ref lg,.ref hl,.ref tl,.ref gd]);refine⟨_,U,lp,_,U,.inl (SqL.of (M18.sa _ _ lp5)),ps.length,U,Yk,λtk htk=>?_⟩;have M19:=M18.new .tk htk (.lst ((List.range ps.length).map λj:Nat=>V.int j));refine⟨_,U,b,a.gt,dx,_,U,M19.av .b (.inr (.inr (.inr (.inr (.inr (.inr trivial)))))),T.f8,T.BJ,dQ,?_⟩;rw[dO (k:=8) (f:="takers") (v:=.ref tk) (vs:=[.ref y,.ref dl,.ref pc,.int most,.ref lg,.ref hl,.ref tl,.ref gd]) (ws:=[.ref y,.ref dl,.ref pc,.int most,.ref lg,.ref hl,.ref tl,.ref gd,.ref tk]) U U Qz U];have M20:=M19.put .b (.inr (.inr (.inr (.inr (.inr (.inr trivial)))))) (obO a dx 9 [.ref y,.ref dl,.ref pc,.int most,.ref lg,.ref hl,.ref tl,.ref gd,.ref tk])
 let D20:Rl->Prop:=λs=>s=.tk\/s=.gv 0\/s=.gd\/D14 s
 let ad20:Rl->Addr:=at' (at' (at' ad14 .gd gd) (.gv 0) gl) .tk tk
 let c20:Rl->HO:=at' (at' (at' (at' c14 .gd (.dK [(.inl 0,.ref gl)])) (.gv 0) (.lst [])) .tk (.lst ((List.range ps.length).map λj:Nat=>V.int j))) .b (obO a dx 9 [.ref y,.ref dl,.ref pc,.int most,.ref lg,.ref hl,.ref tl,.ref gd,.ref tk])
 have M20:bf K5 _ D20 ad20 c20:=M20.less (λ_ h=>h) λr _=>by cases r<;>rfl
 have ll5:=s5 _ _ (s14 _ _ (sk1 _ _ (kl _ _ hll)));have ul:=rln.len;refine⟨_,U,ll,U,⟨_,SqL.of (M20.sa _ _ ll5)⟩,?_⟩;refine dG (K:=K) (a:=ll) (xs:=us) (λi ys σ G=>(∃v,σ=[v])/\eK K5 G Rl.wr D20 ad20 c20 i ys) ⟨⟨_,U⟩,eK.start M20⟩ ?_ (bb (m:=1000) Yk) ?_ ?_ ?_
 ·rintro i ys σ G _ ⟨_,_,_,rfl,_⟩;rw[qa,Qe];exact qf _
 ·rintro i ys σ G ⟨_,_,_,_,_,_,M⟩;exact SqL.of (M.sa _ _ ll5)
 ·rintro i v ys σ G hi ⟨⟨v',rfl⟩,M⟩;exact⟨qu _,λz hz=>⟨⟨_,U⟩,M.step (λj k e=>Rl.wr.inj e) (λj h=>by rcases h with h|h|h|h|h|h|h<;>first|cases h|exact h) hz⟩⟩
 rintro ysR σR GR ⟨_,adR,cR,rfl,eR,fR,MR⟩ wrl hwrl;have M21:=MR.new .wrl hwrl (.lst ((List.range us.length).map λj=>V.ref (adR (.wr j))));have Db:D20 .b:=.inr (.inr (.inr (.inr (.inr (.inr trivial)))));have ebR:adR .b=b:=(eR .b Db).1
 have hb21:upd GR wrl (.lst ((List.range us.length).map λj=>V.ref (adR (.wr j)))) b=some (obO a dx 9 [.ref y,.ref dl,.ref pc,.int most,.ref lg,.ref hl,.ref tl,.ref gd,.ref tk]):=by
  have h:=M21.av .b (.inr (.inr Db));rw[show at' adR .wrl wrl .b=b from ebR,show at' cR .wrl (.lst ((List.range us.length).map λj=>V.ref (adR (.wr j)))) .b=obO a dx 9 [.ref y,.ref dl,.ref pc,.int most,.ref lg,.ref hl,.ref tl,.ref gd,.ref tk]from(eR .b Db).2]at h;exact h
 refine⟨_,U,b,a.gt,dx,_,U,hb21,T.f8,T.BW,dQ,?_⟩;rw[dO (k:=9) (f:="without_room") (v:=.ref wrl) (vs:=[.ref y,.ref dl,.ref pc,.int most,.ref lg,.ref hl,.ref tl,.ref gd,.ref tk]) (ws:=[.ref y,.ref dl,.ref pc,.int most,.ref lg,.ref hl,.ref tl,.ref gd,.ref tk,.ref wrl]) U U Qz U];have M22:=M21.put .b (.inr (.inr Db)) (obO a dx 10 [.ref y,.ref dl,.ref pc,.int most,.ref lg,.ref hl,.ref tl,.ref gd,.ref tk,.ref wrl]);rw[show at' adR .wrl wrl .b=b from ebR]at M22
 let D22:Rl->Prop:=λs=>s=.wrl\/(∃j,j<us.length/\s=.wr j)\/D20 s
 let ad22:Rl->Addr:=at' adR .wrl wrl
 let c22:Rl->HO:=at' (at' cR .wrl (.lst ((List.range us.length).map λj=>V.ref (adR (.wr j))))) .b (obO a dx 10 [.ref y,.ref dl,.ref pc,.int most,.ref lg,.ref hl,.ref tl,.ref gd,.ref tk,.ref wrl])
 have M22:bf K5 _ D22 ad22 c22:=M22;refine⟨_,U,ll,U,⟨_,SqL.of (M22.sa _ _ ll5)⟩,?_⟩;refine dG (K:=K) (a:=ll) (xs:=us) (λi ys σ G=>(∃v,σ=[v])/\eK K5 G Rl.wt D22 ad22 c22 i ys) ⟨⟨_,U⟩,eK.start M22⟩ ?_ (bb (m:=1000) Yk) ?_ ?_ ?_
 ·rintro i ys σ G _ ⟨_,_,_,rfl,_⟩;rw[qa,Qe];exact qf _
 ·rintro i ys σ G ⟨_,_,_,_,_,_,M⟩;exact SqL.of (M.sa _ _ ll5)
 ·rintro i v ys σ G hi ⟨⟨v',rfl⟩,M⟩;exact⟨qu _,λz hz=>⟨⟨_,U⟩,M.step (λj k e=>Rl.wt.inj e) (λj h=>by rcases h with h|⟨_,_,h⟩|h|h|h|h|h|h|h<;>first|cases h|exact h) hz⟩⟩
 rintro ysT σT GT ⟨_,adT,cT,rfl,eT,fT,MT⟩ wtl hwtl;have M23:=MT.new .wtl hwtl (.lst ((List.range us.length).map λj=>V.ref (adT (.wt j))));have Db2:D22 .b:=.inr (.inr Db);have ebT:adT .b=b:=(eT .b Db2).1.trans ebR
 have hb23:upd GT wtl (.lst ((List.range us.length).map λj=>V.ref (adT (.wt j)))) b=some (obO a dx 10 [.ref y,.ref dl,.ref pc,.int most,.ref lg,.ref hl,.ref tl,.ref gd,.ref tk,.ref wrl]):=by
  have h:=M23.av .b (.inr (.inr Db2));rw[show at' adT .wtl wtl .b=b from ebT,show at' cT .wtl (.lst ((List.range us.length).map λj=>V.ref (adT (.wt j)))) .b=obO a dx 10 [.ref y,.ref dl,.ref pc,.int most,.ref lg,.ref hl,.ref tl,.ref gd,.ref tk,.ref wrl]from(eT .b Db2).2]at h;exact h
 refine⟨_,U,b,a.gt,dx,_,U,hb23,T.f8,T.BX,dQ,?_⟩;rw[dO (k:=10) (f:="without_thing") (v:=.ref wtl) (vs:=[.ref y,.ref dl,.ref pc,.int most,.ref lg,.ref hl,.ref tl,.ref gd,.ref tk,.ref wrl]) (ws:=[.ref y,.ref dl,.ref pc,.int most,.ref lg,.ref hl,.ref tl,.ref gd,.ref tk,.ref wrl,.ref wtl]) U U Qz U];have M24:=M23.put .b (.inr (.inr Db2)) (obO a dx 11 [.ref y,.ref dl,.ref pc,.int most,.ref lg,.ref hl,.ref tl,.ref gd,.ref tk,.ref wrl,.ref wtl]);rw[show at' adT .wtl wtl .b=b from ebT]at M24
 let C:PlC:={ b:=b,dx:=dx,y:=y,dy:=dy,la:=la,lq:=lq,dl:=dl,pc:=pc,dq:=λi=>(qs.getD i (b,b,b)).2.1,qo:=λi=>(qs.getD i (b,b,b)).1,us:=ys,pv:=pv,n:=rs.length,nl:=xs.length,prt:=aq rs,ls:=λi=>(bi xs i).1,pace:=pace }
 have eA:∀r,D20 r->r≠.wrl->r≠.wtl->at' adT .wtl wtl r=ad20 r:=λr h n1 n2=>by
  rw[bq n2,(eT r (.inr (.inr h))).1];show at' adR .wrl wrl r=_;rw[bq n1,(eR r h).1]
 have s15:=s14.trans s5;refine k K5 _ C (at' adT .wtl wtl) hd ⟨?_,⟨?_,?_,?_,?_,.nil⟩,U,U,U,U,U,U,?_⟩
 ·refine⟨s15 _ _ ky,?_,?_,s5 _ _ hd4,λx hx=>?_,s15 _ _ (sk1 _ _ (kl _ _ hpc)),((ris.keep kl).same sk1).same s15,λx hx=>?_,n60,nl,pl,pb⟩
  ·rw[s15 _ _ kla,List.map_map];exact congrArg some (congrArg HO.lst (sf (d:=((none,[]):Ln)) U))
  ·rw[s15 _ _ klq];exact congrArg some (congrArg HO.lst (sf (d:=(b,b,b)) (by have:=ry.n;unfold cQ at this;rw[qa]at this;exact this)))
  ·obtain⟨v,h1,h2⟩:=dr4 x (by have:x<rs.length:=hx;omega);exact⟨v,h1,h2.same s5⟩
  ·have hx:x<rs.length:=hx;refine okr _ ?_;show rs.getD x _∈rs;rw[qk,qd hx];exact List.getElem_mem hx
 ·have eps:ps.length=rs.length:=pl1;have Dq:∀i,i<xs.length->D20 (.qo i)/\D20 (.ql i):=λi hi=>⟨.inr (.inr (.inr (.inr (.inr (.inr hi))))),.inr (.inr (.inr (.inr (.inr (.inr hi)))))⟩;have D1:D20 .lg/\D20 .hl/\D20 .tl/\D20 .gd/\D20 .tk/\D20 (.gv 0):=⟨.inr (.inr (.inr (.inr (.inr (.inl U))))),.inr (.inr (.inr (.inr (.inl U)))),.inr (.inr (.inr (.inl U))),.inr (.inr (.inl U)),.inl U,.inr (.inl U)⟩
  have eC:∀r,D20 r->r≠.wrl->r≠.wtl->r≠.b->at' (at' cT .wtl (.lst ((List.range us.length).map λj=>V.ref (adT (.wt j))))) .b (obO a dx 11 [.ref y,.ref dl,.ref pc,.int most,.ref lg,.ref hl,.ref tl,.ref gd,.ref tk,.ref wrl,.ref wtl]) r=c20 r:=λr h n1 n2 n3=>by
   rw[bq n3,bq n2,(eT r (.inr (.inr h))).2];show at' (at' cR .wrl _) .b _ r=_;rw[bq n3,bq n1,(eR r h).2]
  have aw:∀i,i<xs.length->at' adT .wtl wtl (.wr i)=adR (.wr i):=λi hi=>(eT (.wr i) (.inr (.inl ⟨i,Yk,U⟩))).1;refine M24.less (λr hr=>?_) (λr hr=>?_)
  ·cases r with
   |b=>exact .inr (.inr Db2)
   |lg=>exact .inr (.inr (.inr (.inr D1.1)))
   |hl=>exact .inr (.inr (.inr (.inr D1.2.1)))
   |tl=>exact .inr (.inr (.inr (.inr D1.2.2.1)))
   |gd=>exact .inr (.inr (.inr (.inr D1.2.2.2.1)))
   |tk=>exact .inr (.inr (.inr (.inr D1.2.2.2.2.1)))
   |wrl=>exact .inr (.inr (.inl U))
   |wtl=>exact .inl U
   |qo i=>exact .inr (.inr (.inr (.inr (Dq i hr).1)))
   |ql i=>exact .inr (.inr (.inr (.inr (Dq i hr).2)))
   |wr i=>exact .inr (.inr (.inr (.inl ⟨i,by have:i<xs.length:=hr;omega,U⟩)))
   |wt i=>exact .inr (.inl ⟨i,by have:i<xs.length:=hr;omega,U⟩)
   |gv k=>
    have e:k=0:=qT.mp hr;rw[e];exact .inr (.inr (.inr (.inr D1.2.2.2.2.2)))
  ·cases r with
   |b=>
    rw[bR];show obO a dx 11 _=plO a C (at' adT .wtl wtl) most;unfold plO plV;rw[eA .lg D1.1 nofun nofun,eA .hl D1.2.1 nofun nofun,eA .tl D1.2.2.1 nofun nofun,eA .gd D1.2.2.2.1 nofun nofun,eA .tk D1.2.2.2.2.1 nofun nofun,bR,show at' adT .wtl wtl .wrl=wrl from(eT .wrl (.inl U)).1]
    rfl
   |lg=>rw[eC .lg D1.1 nofun nofun nofun];rfl
   |hl=>
    rw[eC .hl D1.2.1 nofun nofun nofun];show HO.lst ((List.range ps.length).map _)=HO.lst ((List.range rs.length).map _);rw[eps]
   |tl=>
    rw[eC .tl D1.2.2.1 nofun nofun nofun];show HO.lst ((List.range ps.length).map _)=HO.lst ((List.range rs.length).map _);rw[eps]
    rfl
   |gd=>
    rw[eC .gd D1.2.2.2.1 nofun nofun nofun];show HO.dK [(Sum.inl 0,V.ref gl)]=HO.dK [(Sum.inl 0,V.ref (at' adT .wtl wtl (.gv 0)))];rw[eA (.gv 0) D1.2.2.2.2.2 nofun nofun]
    rfl
   |tk=>
    rw[eC .tk D1.2.2.2.2.1 nofun nofun nofun];show HO.lst ((List.range ps.length).map _)=HO.lst (aE (List.range rs.length));rw[eps]
    rfl
   |wrl=>
    refine((eT .wrl (.inl U)).2).trans ?_;show HO.lst ((List.range us.length).map λj=>V.ref (adR (.wr j)))=HO.lst ((List.range xs.length).map λi=>V.ref (at' adT .wtl wtl (.wr i)));rw[ul];exact congrArg HO.lst (List.map_congr_left λi hi=>by rw[aw i (List.mem_range.mp hi)])
   |wtl=>
    show HO.lst ((List.range us.length).map λj=>V.ref (adT (.wt j)))=HO.lst ((List.range xs.length).map λi=>V.ref (at' adT .wtl wtl (.wt i)));rw[ul]
    rfl
   |qo i=>
    rw[eC (.qo i) (Dq i hr).1 nofun nofun nofun];show HO.ins _ _ [("laid",V.ref (qs.getD i (b,b,b)).2.2),_]=HO.ins _ _ [("laid",V.ref (at' adT .wtl wtl (.ql i))),_];rw[eA (.ql i) (Dq i hr).2 nofun nofun]
    rfl
   |ql i=>rw[eC (.ql i) (Dq i hr).2 nofun nofun nofun];rfl
   |wr i=>
    have hi:i<us.length:=by have:i<xs.length:=hr;omega
    exact((eT (.wr i) (.inr (.inl ⟨i,hi,U⟩))).2).trans (fR i hi)
   |wt i=>
    have hi:i<us.length:=by have:i<xs.length:=hr;omega
    exact fT i hi
   |gv k=>
    have e:k=0:=qT.mp hr;rw[e,eC (.gv 0) D1.2.2.2.2.2 nofun nofun nofun]
    rfl
 ·exact ebT
 ·exact λi hi=>eA (.qo i) (.inr (.inr (.inr (.inr (.inr (.inr hi)))))) nofun nofun
 ·exact λx hx=>⟨[],hh x (by have:x<rs.length:=hx;omega),.nil⟩
 ·exact λq o n h=>s15 _ _ (sk1 _ _ (k0 q o n h))
def ud(xs:List Ln)(rs:List PR)(pace:List (List Int))(most:Nat)(S:PlS):Bool->Prop
 |true=>bE (λi=>(bi xs i).1) (aq rs) pace (cO xs rs.length most) .top S/\S.gv=[]
 |false=>∃k x r,bE (λi=>(bi xs i).1) (aq rs) pace (cO xs rs.length most) (.tak k (x::r)) S/\dE S (aB S (aq rs x))=none/\S.sp=0
structure mR(H H':Hp)(t:Addr)(xs:List Ln)(rs:List PR)(pace:List (List Int))(most:Nat)(S:PlS)(still:Bool)(lg st:Addr)(lgv us:List V):Prop where
 sa:a9 H H'
 tp:H' t=some (.tup [.bl still,.ref lg,.ref st])
 hl:H' lg=some (.lst lgv)
 es:REs H' lgv S.lg
 hs:H' st=some (.lst us)
 ri:RIs H' us ((List.range xs.length).map (aO S))
 nd:ud xs rs pace most S still
inductive nK(a:Adr)(vs:List V)(H:Hp)(Q:VK)(E:XK):Prop
 |mk (ll lp:Addr) (v:V) (us ps:List V) (xs:List Ln) (rs:List PR) (pace:List (List Int)) (most:Nat) (h0_:vs=[.ref ll,.ref lp,v,.int most]) (h1_:H ll=some (.lst us)) (h2_:RLn H us xs) (h3_:H lp=some (.lst ps)) (h4_:RRs H ps rs) (h5_:RPc H v pace) (h6_:rs.length<60) (h7_:xs.length<=1000) (h8_:(∀x∈xs,x.2.length<=50)) (h9_:(∀x∈xs,∀n∈x.2,OnW n)) (h10_:pace.length<=1000) (h11_:(∀r∈pace,r.length<=1000)) (h12_:(∀r∈rs,r.ok/\r.fit xs.length)) (h13_:most<=5000) (h14_:∀H' t S still lg st lgv us',mR H H' t xs rs pace most S still lg st lgv us'->Q (.ref t) H'):nK a vs H Q E
theorem io.of{C:PlC}{xs:List Ln}{rs:List PR}{pace:List (List Int)}{most:Nat}{S':PlS}{q:Bool->Prop}(h1:C.ls=λi=>(bi xs i).1)(h2:C.prt=aq rs)(h3:C.pace=pace)(h:∀b,ud xs rs pace most S' b->q b):io C (cO xs rs.length most) S' q:=by
 unfold io;rw[h1,h2,h3];exact⟨λa b=>h true ⟨a,b⟩,λk x r a b c=>h false ⟨k,x,r,a,b,c⟩⟩
theorem me{C:PlC}{xs:List Ln}{rs:List PR}{most:Nat}(hn:C.n=rs.length)(fl:∀x∈xs,x.2.length<=50)(fo:∀x∈xs,∀n∈x.2,OnW n)(hm:most<=5000):Gd C (bL (cO xs rs.length most)+20) [] (cO xs rs.length most):=by
 have ln:∀i,(bi xs i).2.length<=50/\∀n∈(bi xs i).2,OnW n:=λi=>by
  unfold bi;rw[qk]
  cases h:xs[i]? with
  |none=>exact⟨qu _,λ_ z=>(nomatch z)⟩
  |some x=>exact⟨fl x (qA h),fo x (qA h)⟩
 have eb:bL (cO xs rs.length most)=130 * (3 * most+1):=U;refine⟨⟨λ_=>.tr,⟨⟨List.nodup_range,λx hx=>⟨by rw[hn];exact List.mem_range.mp hx,U⟩⟩,λ_=>.nil,λ_=>.nil,Qr _ _,λkv h=>?_,.nil⟩⟩,⟨λi=>⟨?_,qu _⟩,?_,?_,λi=>(ln i).2,λx _=>⟨λp hp=>(nomatch hp),qu _,List.nodup_nil⟩⟩⟩
 ·rw[qT.mp h];exact .nil
 ·rw[eb];show(bi xs i).2.length+_<=_;have:=(ln i).1;omega
 ·rw[eb];show 0+_<=_;omega
 ·rw[eb];show 1+_<=_;omega
theorem xU(T:Tx P w K mg a):aA P w K mg base CX0 7 a.D8 a.BE ["lines","parts","pace","most"] (nK a):=by
 refine T.EA.ok jG (λvs H Q E h=>?_) (λcdv A outer s H vs Q E hr h=>?_)
 ·obtain⟨_,_,_,_,_,_,_,_,_,rfl,_⟩:=h
  rfl
 obtain⟨ll,lp,v,us,ps,xs,rs,pace,most,rfl,hll,rln,hlp,rrs,rpc,n60,nl,fl,fo,pl,pb,okr,hm,k⟩:=h
 refine⟨_,(ae (aT (i:=4) jG.nd U Oi (fI T.Iv (yH T) (hr.mono Yd) U T.Iu T.GF .nil ar (a8 (pq 0) (a8 (pq 1) (a8 (dH (ap gp (pq 2) cX (ao _)) (bn ac) (pq 2)) (a8 (pq 3) ac))))))
  (ae (aT (i:=5) jG.nd U Oi (fH (pq 4) T.f8 T.Iw (yD T) (hr.mono Yd) T.GI .nil ar))
  (ah (ak (bI (a8 (pq 5) (a8 (aH (pq 4) U) (a8 (fH (aH (pq 4) U) T.wT T.HY (yp T) (hr.mono Yd) T.Gb .nil ar) ac)))))))),?_⟩
 have pick:∀Q2:VK,(∀pc pv H2,a9 H H2->H2 pc=some (.lst pv)->RIs H2 pv pace->Q2 (.ref pc) H2)->tIf (fF (tOp lj (hG 2) (tC V.non))) (iT jy) (hG 2) (L2.start ["lines","parts","pace","most","playing","still"] [V.ref ll,V.ref lp,v,V.int most]) H Q2:=by
  intro Q2 h;rcases rpc with⟨rfl,rfl⟩|⟨pc,pv,rfl,hpc,ris⟩
  ·exact⟨_,U,U,_,U,bo U ⟨qu _,λz hz=>h z [] _ (a9.new hz _) af .nil⟩⟩
  ·exact⟨_,U,U,_,U,aL U ⟨_,U,h pc pv H (a9.refl _) hpc ris⟩⟩
 refine⟨_,U,_,U,pick _ λpc pv H2 s2 hpc ris=>⟨_,U,λb dx hb hdx nb=>?_⟩⟩
 have s3:a9 H2 (upd (upd H2 dx (.own b)) b (.ins a.gt dx [])):=λc o h=>by
  have n1:c≠b:=λz=>by rw[z,hb]at h;cases h
  have n2:c≠dx:=λz=>by rw[z,hdx]at h;cases h
  rw[aj n1,aj n2];exact h
 have s23:=s2.trans s3;refine⟨b,dx,ll,lp,pc,us,ps,pv,xs,rs,pace,most,U,af,s23 _ _ hll,rln.same s23,s23 _ _ hlp,rrs.same s23,s3 _ _ hpc,ris.same s3,n60,nl,fl,pl,pb,okr,λK1 H4 C ad hd R=>⟨U,?_⟩⟩;have sK:a9 H K1:=λc o h=>R.keep c o (by rw[R.b];intro z;have:=s2 _ _ h;rw[z,hb]at this;cases this) (s23 _ _ h);have eb:=R.b;subst eb;have M:=R.M;have hob:=M.ob;dsimp only[aI];refine⟨_,U,C.b,C.dx,_,U,hob,fK Qz,K1,C,ad,hd,[],_,U,R.B,M,me R.n fl fo hm,λK5 H5 ad5 hd5 lgv5 S5 s5 M5=>?_⟩;refine io.of R.ls R.prt R.pace λstill he=>?_;dsimp only[aI];have B5:=R.B.same s5
 have g5:∀i,(S5.st i).2<=(S5.st i).1.length/\(S5.st i).1.length<=10000000:=by
  have ini:=me (C:=C) (most:=most) R.n fl fo hm;have rg:∀{ph:Ph},bE C.ls C.prt C.pace (cO xs rs.length most) ph S5->GdP C ph S5:=λh=>h.gd R.B.ok R.B.n ini
  cases still with
  |true=>
   have:=(rg (ph:=.top) (by rw[R.ls,R.prt,R.pace];exact he.1)).cap;exact λi=>⟨(this.st i).2,by have:=(this.st i).1;omega⟩
  |false=>
   obtain⟨k',x,r,h1,_⟩:=he;have:=(rg (ph:=.tak k' (x::r)) (by rw[R.ls,R.prt,R.pace];exact h1)).cap;exact λi=>⟨(this.st i).2,by have:=(this.st i).1;omega⟩
 have ry5:=M5.ry B5 g5;have ob5:=M5.ob;refine⟨_,U,_,U,C.b,_,C.dx,_,_,U,ob5,T.f8,T.BU,lz4 U,_,U,C.b,_,C.dx,_,_,U,ob5,T.f8,T.Bw,lz0 U,C.y,C.dy,_,U,ry5.o,fO Qz,C.y,C.dy,C.la,C.lq,_,_,_,U,ry5,?_,λH6 l us6 s6 nl6 hl6 ri6 an6=>⟨?_,λt ht=>?_⟩⟩
 ·unfold qsP;rw[qa,Qe,R.nl];exact nl
 ·exact(by decide:3<=sizeLine)
 have s7:=a9.new ht (.tup [.bl still,.ref (ad5 .lg),.ref l]);have s57:a9 H5 _:=s6.trans s7;have lg5:=M5.own.av .lg trivial;refine k _ t S5 still (ad5 .lg) l lgv5 us6 ⟨sK.trans (s5.trans (M5.own.sa.trans s57)),af,s57 _ _ lg5,(M5.lg.same M5.own.sa).same s57,s7 _ _ hl6,?_,he⟩
 have e:eQ (stP C S5)=(List.range xs.length).map (aO S5):=by
  unfold eQ stP;rw[List.map_map,R.nl]
  rfl
 exact(e▸ri6).same s7
def bS(f:Nat->List Int):PR->List Int
 |.pass ins _ _=>ins
 |.work ins _ _ _ _=>ins
 |.choose ins _ _ _ _=>ins
 |.merge t o n _=>match f t.toNat with
  |[]=>[t]
  |x::_=>t::(if x=0 then n else o)
theorem ip{S:PlS}:∀r:PR,aB S r=bS (aO S) r
 |.pass ..=>rfl
 |.work ..=>rfl
 |.choose ..=>rfl
 |.merge ..=>rfl
structure WS where
 rows:Nat->List Int
 post:Nat->Option (List (Int×Int))
 due:Nat->Int
 tks:Nat->Nat
 l1:Int
 l2:Int
 l3:Int
def bQ(f:Nat->List Int)(hs:List (Int×Int)):Nat->List Int:=hs.foldl (λf p=>put f p.1.toNat (f p.1.toNat++[p.2])) f
def bX(f:Nat->List Int)(hs:List (Int×Int)):Nat->List Int:=hs.foldl (λf p=>put f p.1.toNat (f p.1.toNat).tail) f
def aV(prt:Nat->PR)(pace:List (List Int))(W:WS)(e:Ent):WS:=
 if e.took then{ rows:=bX W.rows e.hs,post:=put W.post e.part (some ((prt e.part).made (e.hs.map (·.2)))),due:=put W.due e.part (e.now+1+bw pace e.part (W.tks e.part)),tks:=put W.tks e.part (W.tks e.part+1),l1:=e.now,l2:=1,l3:=e.part }
 else{ W with rows:=bQ W.rows e.hs,post:=put W.post e.part none,l1:=e.now,l2:=0,l3:=e.part }
def zG(a b c a' b' c':Int):Prop:=a<a'\/(a=a'/\(b<b'\/(b=b'/\c<c')))
structure OkE(n nl:Nat)(ls:Nat->Option Int)(prt:Nat->PR)(W:WS)(e:Ent):Prop where
 now:0<=e.now
 part:e.part<n
 hs:Hs nl e.hs
 sz:∀i,(W.rows i).length<10000000
 lex:zG W.l1 W.l2 W.l3 e.now (if e.took then 1 else 0) e.part
 tk:e.took=true->W.post e.part=none/\e.hs.map (·.1)=bS W.rows (prt e.part)/\(∀p∈e.hs,(W.rows p.1.toNat).head?=some p.2)/\e.hs.length=(prt e.part).wide
 gv:e.took=false->W.post e.part=some e.hs/\W.due e.part<=e.now/\∀p∈e.hs,dh (ls p.1.toNat) ((W.rows p.1.toNat).length:Int)=true
def bN(n nl:Nat)(ls:Nat->Option Int)(prt:Nat->PR)(pace:List (List Int)):WS->List Ent->Prop
 |_,[]=>True
 |W,e::es=>OkE n nl ls prt W e/\bN n nl ls prt pace (aV prt pace W e) es
theorem bN.snoc{n nl:Nat}{ls:Nat->Option Int}{prt:Nat->PR}{pace:List (List Int)}:∀{es:List Ent}{W:WS}{e:Ent},bN n nl ls prt pace W es->OkE n nl ls prt (es.foldl (aV prt pace) W) e->bN n nl ls prt pace W (es++[e])
 |[],_,_,_,h=>⟨h,trivial⟩
 |_::_,_,_,a,h=>⟨a.1,bN.snoc a.2 h⟩
theorem wc{S:PlS}(h:∀i,(S.st i).2<=(S.st i).1.length)(p:Int×Int):aO (ay S p)=put (aO S) p.1.toNat (aO S p.1.toNat++[p.2])/\∀i,((ay S p).st i).2<=((ay S p).st i).1.length:=by
 refine⟨funext λi=>?_,λi=>?_⟩
 ·show(put S.st p.1.toNat _ i).1.drop (put S.st p.1.toNat _ i).2=_;by_cases e:i=p.1.toNat
  ·rw[e,aM,aM];exact List.drop_append_of_le_length (h _)
  ·rw[az e,az e];rfl
 ·show(put S.st p.1.toNat _ i).2<=(put S.st p.1.toNat _ i).1.length;by_cases e:i=p.1.toNat
  ·rw[e,aM,qc];exact Nat.le_add_right_of_le (h _)
  ·rw[az e];exact h i
theorem kR:∀(ps:List (Int×Int)){S:PlS},(∀i,(S.st i).2<=(S.st i).1.length)->aO (ps.foldl ay S)=bQ (aO S) ps
 |[],_,_=>rfl
 |p::ps,S,h=>by
  obtain⟨h1,h2⟩:=wc h p;show aO (ps.foldl ay (ay S p))=bQ (put (aO S) p.1.toNat (aO S p.1.toNat++[p.2])) ps;rw[kR ps h2,h1]
theorem kQ:∀(ws xs:List Int)(f:Nat->List Int×Nat),ws.length=xs.length->(λi=>(bD f ws i).1.drop (bD f ws i).2)=bX (λi=>(f i).1.drop (f i).2) (ws.zip xs)
 |[],_,f,_=>rfl
 |_::_,[],_,h=>by simp at h
 |w::ws,x::xs,f,h=>by
  have e:(λi=>((put f w.toNat ((f w.toNat).1,(f w.toNat).2+1)) i).1.drop ((put f w.toNat ((f w.toNat).1,(f w.toNat).2+1)) i).2)=put (λi=>(f i).1.drop (f i).2) w.toNat ((f w.toNat).1.drop (f w.toNat).2).tail:=funext λi=>by
   show((put f w.toNat ((f w.toNat).1,(f w.toNat).2+1)) i).1.drop ((put f w.toNat ((f w.toNat).1,(f w.toNat).2+1)) i).2=_;by_cases e:i=w.toNat
   ·rw[e,aM,aM,List.tail_drop]
   ·rw[az e,az e]
  show(λi=>(bD (put f w.toNat ((f w.toNat).1,(f w.toNat).2+1)) ws i).1.drop (bD (put f w.toNat ((f w.toNat).1,(f w.toNat).2+1)) ws i).2)=bX (put (λi=>(f i).1.drop (f i).2) w.toNat ((f w.toNat).1.drop (f w.toNat).2).tail) (ws.zip xs);rw[kQ ws xs _ (by simpa using h),e]
theorem sS:∀(ps:List (Int×Int))(S:PlS),(∀x∈(ps.foldl ay S).tr,x∈S.tr\/∃i,x∈S.wt i)/\∀i,∀x∈(ps.foldl ay S).wt i,x∈S.wt i
 |[],_=>⟨λ_ h=>.inl h,λ_ _ h=>h⟩
 |p::ps,S=>by
  obtain⟨h1,h2⟩:=sS ps (ay S p)
  have e2:∀i,∀x∈(ay S p).wt i,x∈S.wt i:=λi x h=>by
   have h:x∈put S.wt p.1.toNat [] i:=h;by_cases e:i=p.1.toNat
   ·rw[e,aM]at h;cases h
   ·rwa [az e]at h
  refine⟨λx hx=>?_,λi x hx=>e2 i x (h2 i x hx)⟩;rcases h1 x hx with h|⟨i,h⟩
  ·rcases qi.mp h with h|h
   ·exact .inl h
   ·exact .inr ⟨_,h⟩
  ·exact .inr ⟨i,e2 i x h⟩
theorem mK{g:Gv}{now t:Int}{ps:List Nat}{A:Int->Nat->Prop}(h:∀kv∈g,now<kv.1/\∀x∈kv.2,A kv.1 x)(lt:now<t)(hp:∀x∈ps,A t x):∀kv∈bj g t ps,now<kv.1/\∀x∈kv.2,A kv.1 x:=λkv hk=>by
 rcases lU hk with⟨h',_⟩|⟨h1,h2,_⟩|⟨h1,qs,h2,h3⟩
 ·exact h kv h'
 ·rw[h1,h2];exact⟨lt,hp⟩
 ·rw[h1,h3];refine⟨lt,λx hx=>?_⟩;rcases qi.mp hx with hx|hx
  ·exact(h _ h2).2 x hx
  ·exact hp x hx
theorem my{now:Int}{A:Int->Nat->Prop}{B:Nat->Prop}(hAB:∀x,B x->A (now+1) x):∀(ws:List Int)(S:PlS),(∀kv∈S.gv,now<kv.1/\∀x∈kv.2,A kv.1 x)->(∀i,∀x∈S.wr i,B x)->(∀kv∈(ws.foldl (bp now) S).gv,now<kv.1/\∀x∈kv.2,A kv.1 x)/\∀i,∀x∈(ws.foldl (bp now) S).wr i,B x
 |[],_,h1,h2=>⟨h1,h2⟩
 |w::ws,S,h1,h2=>by
  refine my hAB ws (bp now S w) (mK h1 Yk λx hx=>hAB x (h2 _ x hx)) λi x hx=>?_;have hx:x∈put S.wr w.toNat [] i:=hx;by_cases e:i=w.toNat
  ·rw[e,aM]at hx;cases hx
  ·rw[az e]at hx;exact h2 i x hx
theorem pO{pace:List (List Int)}(h:∀r∈pace,∀x∈r,0<=x)(x k:Nat):0<=bw pace x k:=by
 unfold bw;split
 ·exact Int.le_refl _
 ·show 0<=(if(pace.getD (x % pace.length) []).length=0 then 0 else(pace.getD (x % pace.length) []).getD (k % (pace.getD (x % pace.length) []).length) 0);split
  ·exact Int.le_refl _
  ·rename_i n1 n2;have l1:x % pace.length<pace.length:=Nat.mod_lt _ Yk;have e1:pace.getD (x % pace.length) []=pace[x % pace.length]:=by rw[qk,qd l1];rfl
   rw[e1]at n2 ⊢;have l2:k % (pace[x % pace.length]).length<(pace[x % pace.length]).length:=Nat.mod_lt _ Yk;rw[qk,qd l2];exact h _ (List.getElem_mem l1) _ (List.getElem_mem l2)
structure Sim(W:WS)(now:Int)(S:PlS):Prop where
 rows:W.rows=aO S
 tks:W.tks=S.tks
 tr:∀x∈S.tr,W.post x=none
 wt:∀i,∀x∈S.wt i,W.post x=none
 gv:∀kv∈S.gv,now<kv.1/\∀x∈kv.2,W.post x=some (S.held x)/\W.due x<=kv.1
 wr:∀i,∀x∈S.wr i,W.post x=some (S.held x)/\W.due x<=now
def cw(xs:List Ln):WS:={ rows:=λi=>(bi xs i).2,post:=λ_=>none,due:=λ_=>0,tks:=λ_=>0,l1:=0,l2:=0,l3:=-1 }
def fg(es:List Ent):Nat:=(es.filter λe=>e.took).length
def mU(W:WS)(S:PlS):Ph->Prop
 |.top=>∃now,Sim W now S/\-1<=now/\∀k∈aR S.gv,W.l1<k\/(W.l1=k/\W.l2=0/\W.l3=-1)
 |.giv k r=>Sim W k S/\0<=k/\gK r/\(∀x∈r,W.post x=some (S.held x)/\W.due x<=k)/\(W.l1<k\/(W.l1=k/\W.l2=0/\∀x∈r,W.l3<x))
 |.tak k r=>Sim W k S/\0<=k/\gK r/\(∀x∈r,W.post x=none)/\(W.l1<k\/(W.l1=k/\(W.l2=0\/(W.l2=1/\∀x∈r,W.l3<x))))
theorem Sim.as{W:WS}{now now':Int}{S S':PlS}(I:Sim W now S)(e1:S'.st=S.st)(e2:S'.tks=S.tks)(e3:S'.held=S.held)(tr:∀x∈S'.tr,W.post x=none)(wt:∀i,∀x∈S'.wt i,W.post x=none)(gv:∀kv∈S'.gv,now'<kv.1/\∀x∈kv.2,W.post x=some (S'.held x)/\W.due x<=kv.1)(wr:∀i,∀x∈S'.wr i,W.post x=some (S'.held x)/\W.due x<=now'):Sim W now' S':=
 ⟨I.rows.trans (by unfold aO;rw[e1]),I.tks.trans e2.symm,tr,wt,gv,wr⟩
theorem kS{n:Nat}{loc:Nat->Loc}{x:Nat}{r:List Nat}{S:PlS}(I:aX n loc (x::r) S)(rs:gK (x::r)):∀y∈r,x<y:=λy hy=>by
 have h1:=List.rel_of_pairwise_cons rs hy;have h2:x≠y:=λz=>I.not.2.2 (z▸hy);omega
theorem bE.sim{C:PlC}(okC:∀x,x<C.n->(C.prt x).ok/\(C.prt x).fit C.nl)(n60:C.n<60)(nn:∀r∈C.pace,∀x∈r,0<=x){xs:List Ln}{most:Nat}(g0:Gd C (bL (cO xs C.n most)+20) [] (cO xs C.n most)){ph:Ph}{S:PlS}(h:bE C.ls C.prt C.pace (cO xs C.n most) ph S):bN C.n C.nl C.ls C.prt C.pace (cw xs) S.lg/\mU (S.lg.foldl (aV C.prt C.pace) (cw xs)) S ph/\fg S.lg+S.sp=most:=by
 induction h with
 |base=>
  refine⟨trivial,⟨-1,⟨U,U,λ_ _=>U,λ_ _ h=>(nomatch h),λkv h=>?_,λ_ _ h=>(nomatch h)⟩,by omega,λk hk=>?_⟩,Nat.zero_add _⟩
  ·rw[qT.mp h];exact⟨by show(-1:Int)<0;decide,λ_ h=>(nomatch h)⟩
  ·rw[qT.mp hk];exact .inr ⟨U,U,U⟩
 |@turn S k r h hk p rs ih=>
  obtain⟨w,⟨now,I,m1,ll⟩,c⟩:=ih;have fk:=gG hk.1;have nk:=I.gv _ fk;refine⟨w,⟨I.as U U U I.tr I.wt (λkv hv=>?_) (λi x hx=>?_),by have:now<k:=nk.1;omega,rs,λx hx=>nk.2 x (p.mem_iff.mp hx),?_⟩,c⟩
  ·have hv:=List.mem_filter.mp hv;have ne:kv.1≠k:=Qd hv.2;have le:=hk.2 kv.1 (List.mem_map.mpr ⟨kv,hv.1,U⟩);exact⟨Yk,(I.gv kv hv.1).2⟩
  ·have:=I.wr i x hx;exact⟨this.1,by have:=this.2;have:now<k:=nk.1;omega⟩
  ·rcases ll k hk.1 with z|⟨z1,z2,z3⟩
   ·exact .inl z
   ·exact .inr ⟨z1,z2,λx _=>by show(S.lg.foldl (aV C.prt C.pace) (cw xs)).l3<x;rw[z3];omega⟩
 |@give S k x r h ih=>
  obtain⟨w,⟨I,k0,rs,rm,ll⟩,c⟩:=ih;obtain⟨⟨loc,L⟩,cp⟩:=h.gd okC n60 g0;have hx:=L.not.2.1;have lt:=kS L rs;have px:=rm x qp;unfold cS;split
  ·rename_i q hq;refine⟨w,⟨I.as U U U I.tr I.wt I.gv (λi y hy=>?_),k0,rs.of_cons,λy hy=>rm y (qm _ hy),ll.imp id λz=>⟨z.1,z.2.1,λy hy=>z.2.2 y (qm _ hy)⟩⟩,c⟩;have hy:y∈put S.wr q.1.toNat (S.wr q.1.toNat++[x]) i:=hy;by_cases e:i=q.1.toNat
   ·rw[e,aM]at hy;rcases qi.mp hy with hy|hy
    ·exact I.wr _ y hy
    ·rw[qT.mp hy];exact px
   ·rw[az e]at hy;exact I.wr i y hy
  ·rename_i hq;have hq:=List.find?_eq_none.mp hq;obtain⟨e1,e2,e3,e4,e5,e6⟩:=gE (S.held x) S;obtain⟨m1,m2⟩:=sS (S.held x) S;have hh:=cp.hn x hx
   have el:(eF S k x).lg=S.lg++[⟨k,x,false,S.held x⟩]:=by
    show((S.held x).foldl ay S).lg++_=_;rw[e3]
   have le:∀i,(S.st i).2<=(S.st i).1.length:=λi=>(cp.st i).2
   have sz:∀i,((S.lg.foldl (aV C.prt C.pace) (cw xs)).rows i).length<10000000:=λi=>by
    rw[I.rows];unfold aO;rw[qZ];have:=(cp.st i).1;omega
   have ok:OkE C.n C.nl C.ls C.prt (S.lg.foldl (aV C.prt C.pace) (cw xs)) ⟨k,x,false,S.held x⟩:=by
    refine⟨k0,hx,⟨hh.1,hh.2.1,hh.2.2⟩,sz,?_,nofun,λ_=>⟨px.1,px.2,λp hp=>?_⟩⟩
    ·rcases ll with z|⟨z1,z2,z3⟩
     ·exact .inl z
     ·exact .inr ⟨z1,.inr ⟨z2,z3 x qp⟩⟩
    ·have:=hq p hp;rw[I.rows];unfold roomF at this
     have e:((aO S p.1.toNat).length:Int)=((S.st p.1.toNat).1.length:Int)-(S.st p.1.toNat).2:=by
      unfold aO;rw[qZ];have:=le p.1.toNat;omega
     rw[e];simpa using this
   rw[el,List.foldl_append];refine⟨w.snoc ok,?_,?_⟩
   ·generalize hW:S.lg.foldl (aV C.prt C.pace) (cw xs)=W at I rm ll;show mU { W with rows:=bQ W.rows (S.held x),post:=put W.post x none,l1:=k,l2:=0,l3:=x } (eF S k x) (.giv k r);have oth:∀{l:Loc}{ys:List Nat},OnL C.n loc l ys->l≠.rem->∀y∈ys,put W.post x none y=W.post y:=λh1 h2 y hy=>az λz=>L.notin h1 h2 (z▸hy);refine⟨⟨?_,?_,λy hy=>?_,λi y hy=>?_,λkv hv=>?_,λi y hy=>?_⟩,k0,rs.of_cons,λy hy=>?_,.inr ⟨U,U,λy hy=>by have:=lt y hy;show(x:Int)<y;omega⟩⟩
    ·show bQ W.rows (S.held x)=aO ((S.held x).foldl ay S);rw[kR _ le,I.rows]
    ·show W.tks=((S.held x).foldl ay S).tks;rw[e5];exact I.tks
    ·show put W.post x none y=none;rcases qi.mp hy with hy|hy
     ·rcases m1 y hy with hy|⟨i,hy⟩
      ·rw[oth L.tr nofun y hy];exact I.tr y hy
      ·rw[oth (L.wt i) nofun y hy];exact I.wt i y hy
     ·rw[qT.mp hy];exact aM
    ·show put W.post x none y=none;rw[oth (L.wt i) nofun y (m2 i y hy)];exact I.wt i y (m2 i y hy)
    ·have hv:kv∈((S.held x).foldl ay S).gv:=hv;rw[e1]at hv;refine⟨(I.gv kv hv).1,λy hy=>?_⟩;show put W.post x none y=some (((S.held x).foldl ay S).held y)/\W.due y<=kv.1;rw[oth (L.gv kv hv) nofun y hy,e4];exact(I.gv kv hv).2 y hy
    ·have hy:y∈((S.held x).foldl ay S).wr i:=hy;rw[e6]at hy;show put W.post x none y=some (((S.held x).foldl ay S).held y)/\W.due y<=k;rw[oth (L.wr i) nofun y hy,e4];exact I.wr i y hy
    ·show put W.post x none y=some (((S.held x).foldl ay S).held y)/\W.due y<=k;rw[az λz:y=x=>L.not.2.2 (z▸hy),e4];exact rm y (qm _ hy)
   ·show fg (S.lg++[⟨k,x,false,S.held x⟩])+((S.held x).foldl ay S).sp=most;unfold fg;rw[e2,Qs];simpa[fg]using c
 |@half S k r h p rs ih=>
  obtain⟨w,⟨I,k0,_,_,ll⟩,c⟩:=ih;refine⟨w,⟨I.as U U U (λ_ h=>(nomatch h)) I.wt I.gv I.wr,k0,rs,λx hx=>I.tr x (p.mem_iff.mp hx),ll.imp id λz=>⟨z.1,.inl z.2.1⟩⟩,c⟩
 |@wait S k i x r h hl ih=>
  obtain⟨w,⟨I,k0,rs,rm,ll⟩,c⟩:=ih;refine⟨w,⟨I.as U U U I.tr (λj y hy=>?_) I.gv I.wr,k0,rs.of_cons,λy hy=>rm y (qm _ hy),ll.imp id λz=>⟨z.1,z.2.imp id λz=>⟨z.1,λy hy=>z.2 y (qm _ hy)⟩⟩⟩,c⟩;have hy:y∈put S.wt i.toNat (S.wt i.toNat++[x]) j:=hy;by_cases e:j=i.toNat
  ·rw[e,aM]at hy;rcases qi.mp hy with hy|hy
   ·exact I.wt _ y hy
   ·rw[qT.mp hy];exact rm x qp
  ·rw[az e]at hy;exact I.wt j y hy
 |@take S k x r h hl hs ih=>
  obtain⟨w,⟨I,k0,rs,rm,ll⟩,c⟩:=ih;obtain⟨⟨loc,L⟩,cp⟩:=h.gd okC n60 g0;have hx:=L.not.2.1;have lt:=kS L rs;have px:=rm x qp;have okx:=okC x hx;have ww:=jn okx.1 hl;obtain⟨e1,e2,e3,e4,e5,e6,e7⟩:=gF k (aB S (C.prt x)) (bV (C.prt x) C.pace S k x);have el:(be (C.prt x) C.pace S k x).lg=S.lg++[⟨k,x,true,(aB S (C.prt x)).zip ((aB S (C.prt x)).map (aY S))⟩]:=e3;have z1:((aB S (C.prt x)).zip ((aB S (C.prt x)).map (aY S))).map (·.1)=aB S (C.prt x):=List.map_fst_zip (by rw[qa];exact qf _);have z2:((aB S (C.prt x)).zip ((aB S (C.prt x)).map (aY S))).map (·.2)=(aB S (C.prt x)).map (aY S):=List.map_snd_zip (by rw[qa];exact qf _)
  have sz:∀i,((S.lg.foldl (aV C.prt C.pace) (cw xs)).rows i).length<10000000:=λi=>by
   rw[I.rows];unfold aO;rw[qZ];have:=(cp.st i).1;omega
  have ok:OkE C.n C.nl C.ls C.prt (S.lg.foldl (aV C.prt C.pace) (cw xs)) ⟨k,x,true,(aB S (C.prt x)).zip ((aB S (C.prt x)).map (aY S))⟩:=by
   refine⟨k0,hx,Hs.zip (jp okx.2) (jq okx.1) (nu cp hl),sz,?_,λ_=>⟨px,?_,λp hp=>?_,?_⟩,nofun⟩
   ·rcases ll with z|⟨z1,z⟩
    ·exact .inl z
    ·refine .inr ⟨z1,?_⟩;rcases z with z|⟨z2,z3⟩
     ·exact .inl (by rw[z];show(0:Int)<1;decide)
     ·exact .inr ⟨z2,z3 x qp⟩
   ·rw[I.rows,<- ip];exact z1
   ·rw[I.rows]
    have hp':p.2=aY S p.1/\p.1∈aB S (C.prt x):=by
     obtain⟨i,hi,e⟩:=List.mem_iff_getElem.mp hp;rw[<- e,List.getElem_zip,List.getElem_map];exact⟨U,List.getElem_mem _⟩
    have:=List.find?_eq_none.mp hl p.1 hp'.2;rw[hp'.1];unfold aY
    cases hr:aO S p.1.toNat with
    |nil=>rw[hr]at this;exact Q5 U this
    |cons a as=>rfl
   ·show((aB S (C.prt x)).zip ((aB S (C.prt x)).map (aY S))).length=_;rw[List.length_zip,qa,Nat.min_self];exact ww
  rw[el,List.foldl_append];refine⟨w.snoc ok,?_,?_⟩
  ·generalize hW:S.lg.foldl (aV C.prt C.pace) (cw xs)=W at I rm ll;show mU { rows:=bX W.rows ((aB S (C.prt x)).zip ((aB S (C.prt x)).map (aY S))),post:=put W.post x (some ((C.prt x).made (((aB S (C.prt x)).zip ((aB S (C.prt x)).map (aY S))).map (·.2)))),due:=put W.due x (k+1+bw C.pace x (W.tks x)),tks:=put W.tks x (W.tks x+1),l1:=k,l2:=1,l3:=x } (be (C.prt x) C.pace S k x) (.tak k r);rw[z2];have rn:=pO nn x (S.tks x);have oth:∀{l:Loc}{ys:List Nat},OnL C.n loc l ys->l≠.rem->∀y∈ys,y≠x:=λh1 h2 y hy z=>L.notin h1 h2 (z▸hy);have eh:(be (C.prt x) C.pace S k x).held=put S.held x ((C.prt x).made ((aB S (C.prt x)).map (aY S))):=e4
   have fk:=my (now:=k) (A:=λj y=>put W.post x (some ((C.prt x).made ((aB S (C.prt x)).map (aY S)))) y=some ((be (C.prt x) C.pace S k x).held y)/\put W.due x (k+1+bw C.pace x (W.tks x)) y<=j) (B:=λy=>put W.post x (some ((C.prt x).made ((aB S (C.prt x)).map (aY S)))) y=some ((be (C.prt x) C.pace S k x).held y)/\put W.due x (k+1+bw C.pace x (W.tks x)) y<=k) (λy hy=>⟨hy.1,by have:=hy.2;omega⟩) (aB S (C.prt x)) (bV (C.prt x) C.pace S k x) (by
    refine mK (t:=k+1+bw C.pace x (S.tks x)) (ps:=[x]) (A:=λj y=>put W.post x (some ((C.prt x).made ((aB S (C.prt x)).map (aY S)))) y=some ((be (C.prt x) C.pace S k x).held y)/\put W.due x (k+1+bw C.pace x (W.tks x)) y<=j) (λkv hv=>⟨(I.gv kv hv).1,λy hy=>?_⟩) Yk λy hy=>?_
    ·have ne:=oth (L.gv kv hv) nofun y hy
     rw[eh,az ne,az ne,az ne];exact(I.gv kv hv).2 y hy
    ·rw[qT.mp hy,eh,aM,aM,aM]
     exact⟨U,by rw[I.tks];exact Int.le_refl _⟩) (λi y hy=>by
    have ne:=oth (L.wr i) nofun y hy
    rw[eh,az ne,az ne,az ne]
    exact I.wr i y hy)
   refine⟨⟨?_,?_,λy hy=>?_,λi y hy=>?_,fk.1,fk.2⟩,k0,rs.of_cons,λy hy=>?_,.inr ⟨U,.inr ⟨U,λy hy=>by have:=lt y hy;show(x:Int)<y;omega⟩⟩⟩
   ·show bX W.rows _=λi=>((be (C.prt x) C.pace S k x).st i).1.drop ((be (C.prt x) C.pace S k x).st i).2;unfold be;rw[e1];rw[show(bV (C.prt x) C.pace S k x).st=bD S.st (aB S (C.prt x))from rfl,kQ _ ((aB S (C.prt x)).map (aY S)) _ (by rw[qa]),I.rows]
    rfl
   ·show put W.tks x (W.tks x+1)=(be (C.prt x) C.pace S k x).tks;unfold be;rw[e5,I.tks]
    rfl
   ·have hy:y∈(be (C.prt x) C.pace S k x).tr:=hy;unfold be at hy;rw[e6]at hy;show put W.post x _ y=none;rw[az (oth L.tr nofun y hy)];exact I.tr y hy
   ·have hy:y∈(be (C.prt x) C.pace S k x).wt i:=hy;unfold be at hy;rw[e7]at hy;show put W.post x _ y=none;rw[az (oth (L.wt i) nofun y hy)];exact I.wt i y hy
   ·show put W.post x _ y=none;rw[az λz:y=x=>L.not.2.2 (z▸hy)];exact rm y (qm _ hy)
  ·show fg (S.lg++[_])+(be (C.prt x) C.pace S k x).sp=most;unfold be;rw[e2];show fg (S.lg++[_])+(S.sp-1)=most;unfold fg at c ⊢;rw[Qs,qc];show _+1+_=_;omega
 |@over S k h ih=>
  obtain⟨w,⟨I,k0,_,_,ll⟩,c⟩:=ih;refine⟨w,⟨k,I,Yk,λj hj=>.inl ?_⟩,c⟩;obtain⟨kv,hv,rfl⟩:=List.mem_map.mp hj;have:=(I.gv kv hv).1;rcases ll with z|z<;>omega
inductive Shp:Nat->PyData->Prop
 |non (n:Nat):Shp n .none
 |int (n:Nat) (i:Int):Shp n (.int i)
 |str (n:Nat) {s:Str}:PyData.strOk s=true->Shp n (.str s)
 |lst {n:Nat}{ds:List PyData}:(∀d∈ds,Shp n d)->Shp (n+1) (.list ds)
 |tup {n:Nat}{ds:List PyData}:(∀d∈ds,Shp n d)->Shp (n+1) (.tuple ds)
theorem m3:∀{ds:List PyData},(∀d∈ds,PyData.canLay0 d=true)->PyData.canLayAll0 ds=true
 |[],_=>by simp[PyData.canLayAll0]
 |d::ds,h=>by simp[PyData.canLayAll0,h d qp,m3 λe he=>h e (qm _ he)]
theorem mD{n:Nat}:∀{ds:List PyData},(∀d∈ds,PyData.depth d<=n)->PyData.depthAll ds<=n
 |[],_=>by simp[PyData.depthAll]
 |d::ds,h=>by
  have h1:=h d qp;have h2:=mD (ds:=ds) λe he=>h e (qm _ he);simp[PyData.depthAll];omega
theorem Shp.lay{n:Nat}{d:PyData}(h:Shp n d):PyData.canLay0 d=true/\PyData.depth d<=n+1:=by
 induction h with
 |non n=>exact⟨by simp[PyData.canLay0],by simp[PyData.depth]⟩
 |int n i=>exact⟨by simp[PyData.canLay0],by simp[PyData.depth]⟩
 |str n h=>exact⟨by simp[PyData.canLay0,h],by simp[PyData.depth]⟩
 |lst h ih=>
  have h1:=m3 λd hd=>(ih d hd).1;have h2:=mD λd hd=>(ih d hd).2;exact⟨by simp[PyData.canLay0,h1],by simp[PyData.depth];omega⟩
 |tup h ih=>
  have h1:=m3 λd hd=>(ih d hd).1;have h2:=mD λd hd=>(ih d hd).2;exact⟨by simp[PyData.canLay0,h1],by simp[PyData.depth];omega⟩
theorem Shp.shaped{n:Nat}{d:PyData}(h:Shp n d)(le:n<=9):SeqAt.shaped d=true:=by
 obtain⟨h1,h2⟩:=h.lay;unfold SeqAt.shaped;simp[h1];omega
theorem tI{n:Nat}{d:PyData}(h:Shp n d)(le:n<=9):PyData.eqv d d=true:=SeqAt.eqv_refl _ (SeqAt.canLay_of_shaped (h.shaped le))
theorem dS{K:W.Frag}{H:Hp}:∀xs:List Int,bU K H (xs.map V.int) (xs.map PyData.int)
 |[]=>.nil
 |x::r=>.cons (.int x) (dS r)
theorem dZ{n:Nat}(xs:List Int):∀d∈xs.map PyData.int,Shp n d:=λd hd=>by
 obtain⟨x,_,rfl⟩:=List.mem_map.mp hd;exact .int _ _
theorem RPs.dt{K:W.Frag}{H:Hp}:∀{vs:List V}{ps:List (Int×Int)},RPs H vs ps->bU K H vs (ps.map λp=>.tuple [.int p.1,.int p.2])
 |_,_,.nil=>.nil
 |_,_,.cons h r=>.cons (.tup (SqT.of h) (.cons (.int _) (.cons (.int _) .nil))) (RPs.dt r)
theorem pk(ps:List (Int×Int)):Shp 2 (.list (ps.map λp=>.tuple [.int p.1,.int p.2])):=.lst λd hd=>by
 obtain⟨p,_,rfl⟩:=List.mem_map.mp hd;exact .tup (dZ [p.1,p.2])
theorem RIs.dt{K:W.Frag}{H:Hp}:∀{vs:List V}{xss:List (List Int)},RIs H vs xss->bU K H vs (xss.map λxs=>.list (xs.map PyData.int))
 |_,_,.nil=>.nil
 |_,_,.cons h r=>.cons (.lst (SqL.of h) (dS _)) (RIs.dt r)
theorem vn(xss:List (List Int)):Shp 2 (.list (xss.map λxs=>.list (xs.map PyData.int))):=.lst λd hd=>by
 obtain⟨xs,_,rfl⟩:=List.mem_map.mp hd;exact .lst (dZ xs)
theorem RLn.dt{K:W.Frag}{H:Hp}:∀{vs:List V}{xs:List Ln},RLn H vs xs->∃ds,bU K H vs ds/\∀d∈ds,Shp 2 d
 |_,_,.nil=>⟨[],.nil,λ_ h=>(nomatch h)⟩
 |_,_,.cons (x:=x) a b r=>by
  obtain⟨ds,h1,h2⟩:=RLn.dt (K:=K) r
  have hl:∃d,Dt K H (db x.1) d/\Shp 1 d:=by
   cases x.1 with
   |none=>exact⟨_,.non,.non _⟩
   |some n=>exact⟨_,.int n,.int _ _⟩
  obtain⟨d,hd,sd⟩:=hl;refine⟨_,.cons (.tup (SqT.of a) (.cons hd (.cons (.tup (SqT.of b) (dS _)) .nil))) h1,λe he=>?_⟩;rcases qv.mp he with rfl|he
  ·refine .tup λe he=>?_;rcases qv.mp he with rfl|he
   ·exact sd
   ·rw[qT.mp he];exact .tup (dZ _)
  ·exact h2 e he
def PR.sgOk:PR->Prop
 |.work _ _ sg _ _=>PyData.strOk sg=true
 |_=>True
theorem vk(i:Int):PyData.strOk ⟨#[("+-*/<=&|^":Str).cps.toList.getD (i % 9).toNat 0]⟩=true:=by
 have h:(i % 9).toNat<9:=Yk;have all:∀k:Nat,k<9->PyData.strOk ⟨#[("+-*/<=&|^":Str).cps.toList.getD k 0]⟩=true:=Qz;exact all _ h
theorem gf{n:Nat}{d:PyData}{ds:List PyData}(h:Shp n d)(h':∀e∈ds,Shp n e):∀e∈d::ds,Shp n e:=λe he=>by
 rcases qv.mp he with rfl|he
 ·exact h
 ·exact h' e he
theorem jF{n:Nat}:∀e∈([]:List PyData),Shp n e:=λ_ h=>(nomatch h)
theorem RPs.keep{H H':Hp}(e:∀b ys,H b=some (.tup ys)->H' b=some (.tup ys)):∀{vs:List V}{xs:List (Int×Int)},RPs H vs xs->RPs H' vs xs
 |_,_,.nil=>.nil
 |_,_,.cons a r=>.cons (e _ _ a) (RPs.keep e r)
def dmW(nl n:Nat):Rl->Prop
 |.ql i=>i<nl
 |.wt x=>x<n
 |_=>False
def cnW(W:WS)(hv:Nat->V):Rl->HO
 |.ql i=>.lst ((W.rows i).map V.int)
 |.wt x=>.lst [hv x,.int (W.due x),.int (W.tks x)]
 |_=>.lst []
def fe(H:Hp)(v:V):Option (List (Int×Int))->Prop
 |none=>v=.non
 |some ps=>∃l us,v=.ref l/\H l=some (.lst us)/\RPs H us ps
theorem fe.same{H H':Hp}(s:a9 H H'){v:V}:∀{o:Option (List (Int×Int))},fe H v o->fe H' v o
 |none,h=>h
 |some _,⟨l,us,e,h1,h2⟩=>⟨l,us,e,s _ _ h1,h2.same s⟩
structure WH(H0 H:Hp)(nl n:Nat)(lr lp:Addr)(ad:Rl->Addr)(hv:Nat->V)(W:WS):Prop where
 own:bf H0 H (dmW nl n) ad (cnW W hv)
 lr:H0 lr=some (.lst ((List.range nl).map λi=>V.ref (ad (.ql i))))
 lp:H0 lp=some (.lst ((List.range n).map λx=>V.ref (ad (.wt x))))
 hv:∀x,x<n->fe H0 (hv x) (W.post x)
section
variable {H0 H:Hp}{nl n:Nat}{lr lp:Addr}{ad:Rl->Addr}{hv:Nat->V}{W:WS}
theorem WH.row(M:WH H0 H nl n lr lp ad hv W){i:Nat}(hi:i<nl):H (ad (.ql i))=some (.lst ((W.rows i).map V.int)):=M.own.av (.ql i) hi
theorem WH.pst(M:WH H0 H nl n lr lp ad hv W){x:Nat}(hx:x<n):H (ad (.wt x))=some (.lst [hv x,.int (W.due x),.int (W.tks x)]):=M.own.av (.wt x) hx
theorem WH.lrH(M:WH H0 H nl n lr lp ad hv W):H lr=some (.lst ((List.range nl).map λi=>V.ref (ad (.ql i)))):=M.own.sa _ _ M.lr
theorem WH.lpH(M:WH H0 H nl n lr lp ad hv W):H lp=some (.lst ((List.range n).map λx=>V.ref (ad (.wt x)))):=M.own.sa _ _ M.lp
theorem WH.as(M:WH H0 H nl n lr lp ad hv W){W':WS}(e1:W'.rows=W.rows)(e2:W'.post=W.post)(e3:W'.due=W.due)(e4:W'.tks=W.tks):WH H0 H nl n lr lp ad hv W':=by
 refine⟨M.own.less (λ_ h=>h) λr hr=>?_,M.lr,M.lp,λx hx=>by rw[e2];exact M.hv x hx⟩
 cases r with
 |ql i=>show HO.lst _=HO.lst ((W'.rows i).map V.int);rw[e1]
 |wt x=>show HO.lst _=HO.lst [hv x,.int (W'.due x),.int (W'.tks x)];rw[e3,e4]
 |_=>rfl
theorem WH.putRow(M:WH H0 H nl n lr lp ad hv W){i:Nat}(hi:i<nl)(v:List Int):WH H0 (upd H (ad (.ql i)) (.lst (v.map V.int))) nl n lr lp ad hv { W with rows:=put W.rows i v }:=by
 refine⟨(M.own.put (.ql i) hi (.lst (v.map V.int))).less (λ_ h=>h) λr hr=>?_,M.lr,M.lp,M.hv⟩;by_cases e:r=.ql i
 ·rw[e,bR];show _=HO.lst ((put W.rows i v i).map V.int);rw[aM]
 ·rw[bq e]
  cases r with
  |ql j=>
   show _=HO.lst ((put W.rows i v j).map V.int);rw[az λz=>e (congrArg Rl.ql z)]
   rfl
  |_=>rfl
theorem WH.putPost(M:WH H0 H nl n lr lp ad hv W){x:Nat}(hx:x<n){v:V}{o:Option (List (Int×Int))}(d:Int)(t:Nat)(ho:fe H0 v o):WH H0 (upd H (ad (.wt x)) (.lst [v,.int d,.int t])) nl n lr lp ad (put hv x v) { W with post:=put W.post x o,due:=put W.due x d,tks:=put W.tks x t }:=by
 refine⟨(M.own.put (.wt x) hx (.lst [v,.int d,.int t])).less (λ_ h=>h) λr hr=>?_,M.lr,M.lp,λy hy=>?_⟩
 ·by_cases e:r=.wt x
  ·rw[e,bR];show _=HO.lst [put hv x v x,.int (put W.due x d x),.int (put W.tks x t x:Nat)];rw[aM,aM,aM]
  ·rw[bq e]
   cases r with
   |wt y=>
    have ne:y≠x:=λz=>e (congrArg Rl.wt z);show _=HO.lst [put hv x v y,.int (put W.due x d y),.int (put W.tks x t y:Nat)];rw[az ne,az ne,az ne]
    rfl
   |_=>rfl
 ·show fe H0 (put hv x v y) (put W.post x o y);by_cases e:y=x
  ·rw[e,aM,aM];exact ho
  ·rw[az e,az e];exact M.hv y hy
theorem WH.more(M:WH H0 H nl n lr lp ad hv W){H':Hp}(s:a9 H H'):∃H0',a9 H0 H0'/\(∀x o,H x=none->H' x=some o->H0' x=some o)/\(∀x ys,H' x=some (.tup ys)->H0' x=some (.tup ys))/\WH H0' H' nl n lr lp ad hv W:=by
 classical
 have ls:∀r,dmW nl n r->∃us,cnW W hv r=.lst us:=λr hr=>by
  cases r<;>first|exact⟨_,U⟩|exact Q5 hr id
 have s0:a9 H0 (λx=>if ∃r,dmW nl n r/\ad r=x then none else H' x):=λx o h=>by
  show(if ∃r,dmW nl n r/\ad r=x then none else H' x)=some o;rw[Q0 (by rintro⟨r,hr,rfl⟩;rw[M.own.nw r hr]at h;cases h)];exact s _ _ (M.own.sa _ _ h)
 refine⟨λx=>if ∃r,dmW nl n r/\ad r=x then none else H' x,s0,λx o hx h=>?_,λx ys h=>?_,⟨⟨λx o h=>?_,λr hr=>Q1 ⟨r,hr,U⟩,M.own.inj,λr hr=>s _ _ (M.own.av r hr)⟩,s0 _ _ M.lr,s0 _ _ M.lp,λx hx=>(M.hv x hx).same s0⟩⟩
 ·show(if ∃r,dmW nl n r/\ad r=x then none else H' x)=some o;rw[Q0 (by rintro⟨r,hr,rfl⟩;rw[M.own.av r hr]at hx;cases hx)];exact h
 ·show(if ∃r,dmW nl n r/\ad r=x then none else H' x)=some (.tup ys);rw[Q0 (by rintro⟨r,hr,rfl⟩;obtain⟨us,e⟩:=ls r hr;rw[s _ _ (M.own.av r hr),e]at h;cases h)];exact h
 ·have h:(if ∃r,dmW nl n r/\ad r=x then none else H' x)=some o:=h;split at h
  ·cases h
  ·exact h
end
theorem gq{α:Type}{f:Nat->α}{i:Nat}{v u:α}:put (put f i v) i u=put f i u:=funext λk=>by
 by_cases e:k=i
 ·rw[e,aM,aM]
 ·rw[az e,az e,az e]
theorem rh{α:Type}{f:Nat->α}{i:Nat}:put f i (f i)=f:=funext λk=>by
 by_cases e:k=i
 ·rw[e,aM]
 ·rw[az e]
theorem jk{f:Nat->V}{n i:Nat}(h:i<n):atI ((List.range n).map f) (i:Int)=some (f i):=bT (by rw[qF,List.getElem?_range h];rfl)
theorem gH{f:Nat->V}{n:Nat}{i:Int}(h0:0<=i)(h:i<n):atI ((List.range n).map f) i=some (f i.toNat):=by
 have:=jk (f:=f) (n:=n) (i:=i.toNat) Yk
 rwa [Int.toNat_of_nonneg h0]at this
inductive om(vs:List V)(H:Hp)(Q:VK)(E:XK):Prop
 |mk (v:V) (l:Addr) (r:PR) (xs:List Int) (h0_:vs=[v,.ref l]) (h1_:RR H v r) (h2_:r.ok) (h3_:H l=some (.lst (xs.map V.int))) (h4_:xs.length=r.wide) (h5_:(∀x∈xs,OnW x)) (h6_:∀H' l' us,a9 H H'->H' l'=some (.lst us)->RPs H' us (r.made xs)->H l'=none->Q (.ref l') H'):om vs H Q E
inductive nR(vs:List V)(H:Hp)(Q:VK)(E:XK):Prop
 |mk (v:V) (r:PR) (lr:Addr) (f:Nat->List Int) (ra:Nat->Addr) (nl:Nat) (h0_:vs=[v,.ref lr]) (h1_:RR H v r) (h2_:r.ok) (h3_:r.fit nl) (h4_:H lr=some (.lst ((List.range nl).map λi=>V.ref (ra i)))) (h5_:(∀i,i<nl->H (ra i)=some (.lst ((f i).map V.int)))) (h6_:∀H' t,a9 H H'->H' t=some (.tup ((bS f r).map V.int))->Q (.ref t) H'):nR vs H Q E
inductive nY(vs:List V)(H:Hp)(Q:VK)(E:XK):Prop
 |mk (v:V) (pace:List (List Int)) (x k:Nat) (h0_:vs=[v,.int x,.int k]) (h1_:RPc H v pace) (h2_:∀H',a9 H H'->Q (.int (bw pace x k)) H'):nY vs H Q E
inductive o8(vs:List V)(H:Hp)(Q:VK)(E:XK):Prop
 |mk (l:Addr) (us:List V) (ps:List (Int×Int)) (nl:Nat) (h0_:vs=[.ref l,.int nl]) (h1_:H l=some (.lst us)) (h2_:RPs H us ps) (h3_:(∀p∈ps,0<=p.1/\p.1<nl/\OnW p.2)) (h4_:Q (.bl true) H):o8 vs H Q E
inductive oy(vs:List V)(H:Hp)(Q:VK)(E:XK):Prop
 |mk (e l ll lp:Addr) (us ls ps:List V) (Et:Ent) (h0_:vs=[.ref e,.ref ll,.ref lp]) (h1_:H e=some (.tup [.int Et.now,.int Et.part,.str (if Et.took then "took" else "gave"),.ref l])) (h2_:H l=some (.lst us)) (h3_:RPs H us Et.hs) (h4_:H ll=some (.lst ls)) (h5_:H lp=some (.lst ps)) (h6_:0<=Et.now) (h7_:Et.part<ps.length) (h8_:(∀p∈Et.hs,0<=p.1/\p.1<ls.length/\OnW p.2)) (h9_:∀H',a9 H H'->Q (.bl true) H'):oy vs H Q E
def eS(xs:List Ln)(f:Nat->List Int)(ps:List (Int×Int)):Bool:=ps.all λp=>dh (bi xs p.1.toNat).1 ((f p.1.toNat).length:Int)
inductive nW(vs:List V)(H:Hp)(Q:VK)(E:XK):Prop
 |mk (ll lr l:Addr) (ls us:List V) (xs:List Ln) (f:Nat->List Int) (ra:Nat->Addr) (ps:List (Int×Int)) (h0_:vs=[.ref ll,.ref lr,.ref l]) (h1_:H ll=some (.lst ls)) (h2_:RLn H ls xs) (h3_:H lr=some (.lst ((List.range xs.length).map λi=>V.ref (ra i)))) (h4_:(∀i,i<xs.length->H (ra i)=some (.lst ((f i).map V.int)))) (h5_:H l=some (.lst us)) (h6_:RPs H us ps) (h7_:(∀p∈ps,0<=p.1/\p.1<xs.length)) (h8_:Q (.bl (eS xs f ps)) H):nW vs H Q E
structure WG(H0:Hp)(ll lq e:Addr)(v:V)(xs:List Ln)(rs:List PR)(pace:List (List Int))(Et:Ent):Prop where
 e:∃l us,H0 e=some (.tup [.int Et.now,.int Et.part,.str (if Et.took then "took" else "gave"),.ref l])/\H0 l=some (.lst us)/\RPs H0 us Et.hs
 l:∃ls,H0 ll=some (.lst ls)/\RLn H0 ls xs
 q:∃ps,H0 lq=some (.lst ps)/\RRs H0 ps rs
 p:RPc H0 v pace
 ok:∀r∈rs,r.ok/\r.fit xs.length
inductive nT(vs:List V)(H:Hp)(Q:VK)(E:XK):Prop
 |mk (H0:Hp) (ll lq e lr lp:Addr) (v:V) (xs:List Ln) (rs:List PR) (pace:List (List Int)) (Et:Ent) (ad:Rl->Addr) (hv:Nat->V) (W:WS) (h0_:vs=[.ref e,.ref ll,.ref lq,v,.ref lr,.ref lp]) (h1_:WG H0 ll lq e v xs rs pace Et) (h2_:WH H0 H xs.length rs.length lr lp ad hv W) (h3_:Et.took=true) (h4_:OkE rs.length xs.length (λi=>(bi xs i).1) (aq rs) W Et) (h5_:∀H0' H' hv',a9 H0 H0'->WH H0' H' xs.length rs.length lr lp ad hv' (aV (aq rs) pace W Et)->Q (.bl true) H'):nT vs H Q E
inductive ox(vs:List V)(H:Hp)(Q:VK)(E:XK):Prop
 |mk (H0:Hp) (ll lq e lr lp:Addr) (v:V) (xs:List Ln) (rs:List PR) (pace:List (List Int)) (Et:Ent) (ad:Rl->Addr) (hv:Nat->V) (W:WS) (h0_:vs=[.ref e,.ref ll,.ref lr,.ref lp]) (h1_:WG H0 ll lq e v xs rs pace Et) (h2_:WH H0 H xs.length rs.length lr lp ad hv W) (h3_:Et.took=false) (h4_:OkE rs.length xs.length (λi=>(bi xs i).1) (aq rs) W Et) (h5_:∀H0' H' hv',a9 H0 H0'->WH H0' H' xs.length rs.length lr lp ad hv' (aV (aq rs) pace W Et)->Q (.bl true) H'):ox vs H Q E
inductive vf(vs:List V)(H:Hp)(Q:VK)(E:XK):Prop
 |mk (ll lq lg:Addr) (v:V) (us ps lgv:List V) (xs:List Ln) (rs:List PR) (pace:List (List Int)) (es:List Ent) (h0_:vs=[.ref ll,.ref lq,v,.ref lg]) (h1_:H ll=some (.lst us)) (h2_:RLn H us xs) (h3_:H lq=some (.lst ps)) (h4_:RRs H ps rs) (h5_:RPc H v pace) (h6_:H lg=some (.lst lgv)) (h7_:REs H lgv es) (h8_:(∀r∈rs,r.ok/\r.fit xs.length)) (h9_:xs.length<=1000) (h10_:rs.length<60) (h11_:bN rs.length xs.length (λi=>(bi xs i).1) (aq rs) pace (cw xs) es) (h12_:∀H' lr us',a9 H H'->H' lr=some (.lst us')->RIs H' us' ((List.range xs.length).map (es.foldl (aV (aq rs) pace) (cw xs)).rows)->Q (.ref lr) H'):vf vs H Q E
inductive AlI(H:Hp):Nat->V->V->Prop
 |int (n:Nat) (i:Int):AlI H n (.int i) (.int i)
 |lst {n:Nat}{a b:Addr}{xs ys:List V}:H a=some (.lst xs)->H b=some (.lst ys)->xs.length=ys.length->xs.length<=10000000->(∀(i:Nat)(x y:V),xs[i]?=some x->ys[i]?=some y->AlI H n x y)->AlI H (n+1) (.ref a) (.ref b)
inductive vg(n:Nat)(vs:List V)(H:Hp)(Q:VK)(E:XK):Prop
 |mk (x y:V) (m:Nat) (h0_:vs=[x,y]) (h1_:m<n) (h2_:AlI H m x y) (h3_:Q (.bl true) H):vg n vs H Q E
theorem lP(T:Tx P w K mg a):aA P w K mg base CX0 1 a.Dc a.Dd ["_law_script","_law_k"] (oB K):=by
 refine T.BM.ok vG (λvs H Q E h=>?_) (λcdv A outer s H vs Q E hr h=>?_)
 ·obtain⟨_,_,_,rfl,_⟩:=h
  rfl
 obtain⟨l,ns,k,rfl,hS,k0,q⟩:=h
 refine⟨_,(ae (aD (ap di (pq 1) (bh bG U T.ld Q8 (a8 (pq 0) ac)) (ao _)) (ah (ak (ag aN (pq 0) (pq 1) Oy))) aF)
  (ah (ak aa))),?_⟩
 refine⟨_,U,_,U,l,_,U,.inl hS,_,_,U,U,_,U,bc (λc=>?_) (λc=>?_)⟩
 ·have lt:k.toNat<ns.length:=by
   have:=Qd c;rw[qa]at this;omega
  exact⟨_,U,_,U,l,_,_,_,U,U,hS,gI k0 (by rw[qF,qd lt];rfl),q _⟩
 ·exact q _
theorem vm(i:Int):atI ("+-*/<=&|^":Str).cps.toList (i % 9)=some (("+-*/<=&|^":Str).cps.toList.getD (i % 9).toNat 0):=by
 have h1:0<=i % 9:=Qa _ Yd;have h2:i % 9<9:=Qf _ Yd;have ln:("+-*/<=&|^":Str).cps.toList.length=9:=Qz;have lt:(i % 9).toNat<("+-*/<=&|^":Str).cps.toList.length:=Yk;have:=bT (xs:=("+-*/<=&|^":Str).cps.toList) (j:=(i % 9).toNat) (v:=("+-*/<=&|^":Str).cps.toList.getD (i % 9).toNat 0) (by rw[qk,qd lt];rfl)
 rwa [Int.toNat_of_nonneg h1]at this
theorem gy(T:Tx P w K mg a):aA P w K mg base CX0 1 a.De a.Df ["_law_cell_here","_law_k"] oj:=by
 refine T.Bu.ok pF (λvs H Q E h=>?_) (λcdv A outer s H vs Q E hr h=>?_)
 ·obtain⟨_,_,rfl,_⟩:=h
  rfl
 obtain⟨c,k,rfl,hk,q⟩:=h
 refine⟨_,(ae (aT (i:=2) pF.nd U Oi (ai aW (ai bx (ai cm (ai aW (pq 0) aa) aa) (ai cm (ai bx (ai bx (ai cm (pq 1) (pq 1)) (ai cm aa (pq 1))) aa) aa)) aa))
  (ah (ak (ai aW (ai cm (pq 2) (pq 2)) aa)))),?_⟩
 have kb:Builtin.Int.intBits k<=64:=intBits_le_64 Yk Yk;walk_at "rd";refine⟨IntMulOk.of_right (intBits_le_64 Yd Yd),?_⟩;walk_at "rd";refine⟨IntMulOk.of_right kb,?_⟩;walk_at "rd";refine⟨IntMulOk.of_right kb,?_⟩;walk_at "rd";refine⟨IntMulOk.of_right (intBits_le_64 Yd Yd),?_⟩;walk_at "rd";have m0:=Qa (c % 2147483647 * 48271+(k * k+3 * k+7) * 69621) (show(2147483647:Int)≠0 by decide);have m1:=Qf (c % 2147483647 * 48271+(k * k+3 * k+7) * 69621) (show(0:Int)<2147483647 by decide);generalize (c % 2147483647 * 48271+(k * k+3 * k+7) * 69621) % 2147483647=m at m0 m1 ⊢;refine⟨IntMulOk.of_right (intBits_le_64 Yk Yk),?_⟩;walk_at "rd";exact q _ (Qa _ Yd) (Qf _ Yd)
theorem rO(T:Tx P w K mg a):aA P w K mg base CX0 1 a.Dg a.Dh ["_law_cell_here","_law_way"] og:=by
 refine T.Ed.ok pE (λvs H Q E h=>?_) (λcdv A outer s H vs Q E hr h=>?_)
 ·obtain⟨_,_,rfl,_⟩:=h
  rfl
 obtain⟨c,k,rfl,hk,q⟩:=h
 refine⟨_,(ae (aT (i:=2) pE.nd U Oi (ai aW (pq 0) (ai dz aa aa)))
  (ae (aD (ap ba (ai aW (pq 1) aa) aa (ao _)) (ah (ak (ai aW (pq 2) aa))) aF)
  (ae (aD (ap ba (ai aW (pq 1) aa) aa (ao _)) (ah (ak (ai fD (ai fD (ai dz aa aa) aa) (ai aW (pq 2) aa)))) aF)
  (ae (aD (ap ba (ai aW (pq 1) aa) aa (ao _)) (ah (ak (ai aW (pq 2) (ai dz aa aa)))) aF)
  (ah (ak (ai aW (ai cm (ai cm (ai bx (pq 2) aa) (ai bx (ai cm (pq 1) (pq 1)) aa)) aa) (ai dz aa aa)))))))),?_⟩
 walk_at "rd";have m0:=Qa c (show(10:Int) ^ (60:Int).toNat≠0 by rw[p60];decide);have m1:=Qf c (show(0:Int)<(10:Int) ^ (60:Int).toNat by rw[p60];decide);generalize c % (10:Int) ^ (60:Int).toNat=m at m0 m1 ⊢;rw[p60]at m1;refine bc (λ_=>?_) (λ_=>?_)
 ·walk_at "rd";exact q _ ⟨Yk,Yk⟩
 walk_at "rd";refine bc (λ_=>?_) (λ_=>?_)
 ·walk_at "rd";rw[p30];exact q _ ⟨Yk,Yk⟩
 walk_at "rd";refine bc (λ_=>?_) (λ_=>?_)
 ·walk_at "rd";rw[p30];exact q _ ⟨Yk,Yk⟩
 walk_at "rd";refine⟨IntMulOk.of_right (intBits_le_64 Yk Yk),?_⟩;have k2:0<=k * k:=Int.mul_nonneg hk.1 hk.1;have k3:k * k<=2147483647 * 2147483647:=Int.mul_le_mul hk.2 hk.2 hk.1 Yd;generalize k * k=y at k2 k3;walk_at "rd";have b1:Builtin.Int.intBits (m+1)<=2 ^ 20:=qz ((PySem.intBits_le_iff (m:=250)).mpr Yk) Yd;have b2:Builtin.Int.intBits (y+11)<=2 ^ 20:=qz ((PySem.intBits_le_iff (m:=250)).mpr Yk) Yd;refine⟨IntMulOk.of_bits b1 b2,?_⟩;have y2:0<=(m+1) * (y+11):=Int.mul_nonneg Yk Yk;have y3:(m+1) * (y+11)<=1000000000000000000000000000000000000000000000000000000000000 * 5000000000000000000:=Int.mul_le_mul Yk Yk Yk Yd;generalize (m+1) * (y+11)=z at y2 y3 ⊢;walk_at "rd";refine⟨IntMulOk.of_bits (qz ((PySem.intBits_le_iff (m:=400)).mpr Yk) Yd) Qz,?_⟩;walk_at "rd";rw[p30];exact q _ ⟨Qa _ Yd,Qf _ Yd⟩
theorem zH(m:Int):∃L:Option Int,atI [V.int 1,.int 1,.int 2,.int 3,.non] (m % 5)=some (db L)/\∀n,L=some n->1<=n:=by
 have h0:0<=m % 5:=Qa _ Yd;have h1:m % 5<5:=Qf _ Yd;generalize m % 5=i at h0 h1;obtain rfl|rfl|rfl|rfl|rfl:i=0\/i=1\/i=2\/i=3\/i=4:=Yk
 ·exact⟨some 1,U,λn e=>by cases e;decide⟩
 ·exact⟨some 1,U,λn e=>by cases e;decide⟩
 ·exact⟨some 2,U,λn e=>by cases e;decide⟩
 ·exact⟨some 3,U,λn e=>by cases e;decide⟩
 ·exact⟨none,U,λn e=>by cases e⟩
theorem xY(T:Tx P w K mg a):aA P w K mg base CX0 2 a.Dk a.Dl ["_law_cell_here","_law_way"] nS:=by
 refine T.EE.ok vB (λvs H Q E h=>?_) (λcdv A outer s H vs Q E hr h=>?_)
 ·obtain⟨_,_,rfl,_⟩:=h
  rfl
 obtain⟨c,k,rfl,hk,q⟩:=h
 refine⟨_,(ae (aD (ap ba (ai aW (pq 1) aa) aa (ao _)) (ah (ak (aQ (rO T) (hr.mono Yd) U T.EC T.Ed.kp T.EB .nil ar (a8 (pq 0) (a8 (ai bW (pq 1) aa) ac))))) aF)
  (ah (ak (ai aW (ai bW (pq 1) aa) aa)))),?_⟩
 refine⟨_,U,_,_,U,U,Yd,U,_,U,?_⟩;refine bc (λ_=>?_) (λ_=>?_)
 ·exact⟨_,U,_,U,_,_,U,U,⟨Yd,Yd⟩,_,_,U,⟨Yk,Yk⟩,q⟩
 ·exact⟨_,U,_,_,U,U,⟨Yd,Yd⟩,_,_,U,U,Yd,q _ ⟨Yk,Yk⟩⟩
theorem ye(T:Tx P w K mg a):aA P w K mg base CX0 3 a.Dm a.Dn ["_law_cell_here","_law_k"] oo:=by
 refine T.EF.ok gR (λvs H Q E h=>?_) (λcdv A outer s H vs Q E hr h=>?_)
 ·obtain⟨_,_,rfl,_⟩:=h
  rfl
 obtain⟨c,k,rfl,hk,q⟩:=h
 refine⟨_,(ae (aT (i:=2) gR.nd U (Or.inr U) (aQ (gy T) (hr.mono Yd) U T.BA T.Bu.kp T.Bz .nil ar (a8 (pq 0) (a8 (ai bx (pq 1) aa) ac))))
  (ae (aT (i:=3) gR.nd U Oi (ag aN (bn (lN U)) (ai aW (pq 2) aa) Oy))
  (ae (aT (i:=4) gR.nd U Oi (ai aW (ai bW (pq 2) aa) aa))
  (ae (aD (ap iR (pq 3) cX (ao _)) (ah (aT (i:=4) gR.nd U Oi (bh (AQ U) U T.Ek PyProof.Rows.Boot.«min» (a8 (pq 4) (a8 (pq 3) ac))))) aF)
  (ah (ak (bI (a8 (pq 3) (a8 (gx mH U T.BG PyProof.Rows.Boot.«tuple» (a8 (bY (k:=1) (Nc:=["_law_j","_law_cell_here","_law_m"]) (js:=[0,2]) (show aK (am iK) ["_law_cell_here","_law_k","_law_m","_law_length","_law_many"] _ 1 ["_law_j","_law_cell_here","_law_m"] [0,2]from aK.mk U (by decide +kernel) (by decide +kernel) (by decide +kernel) U (by decide +kernel)) U (dm U T.xz (a8 (pq 4) ac)) (λ_ _ _ _ _=>(aP (i:=0) (show List.Nodup (["_law_j","_law_cell_here","_law_m"]:List Str)from by decide +kernel) U Oi)) (λ_ _ _ _ _=>bJ) (λ_ _ _ _ _=>(aQ (xY T) (hr.mono Yd) U T.GX T.EE.kp T.GW .nil ar (a8 (pq 1) (a8 (ai bW (pq 2) (ai bx aa (ai cm aa (pq 0)))) ac))))) ac)) ac))))))))),?_⟩
 refine⟨_,U,_,U,_,_,U,U,_,_,U,⟨Yk,Yk⟩,λm m0 m1=>?_⟩;obtain⟨L,eL,hL⟩:=zH m;refine⟨ln5,λl hl=>⟨_,U,_,_,U,U,Yd,l,_,_,_,U,U,SqL.of af,eL,?_⟩⟩;have s1:=a9.new hl (.lst [V.int 1,.int 1,.int 2,.int 3,.non]);refine⟨_,U,_,_,U,U,⟨Yd,Yd⟩,_,_,U,U,Yd,?_⟩;have a0:0<=m / 5 % 4/\m / 5 % 4<=4:=Yk;generalize m / 5 % 4=mn at a0 ⊢;refine⟨_,U,U,_,U,?_⟩;generalize upd H l (.lst [V.int 1,.int 1,.int 2,.int 3,.non])=H1 at s1 ⊢;refine zW (w:=mn) (P:=λmn=>0<=mn/\mn<=4) a0 (λmn hm=>?_) (λcc go=>?_)
 ·refine⟨_,U,_,U,_,U,Yk,Yk,?_⟩;refine dW (λi ys σ H3=>(∃v,σ=[v,some (.int c),some (.int m)])/\H3=H1/\∃xs:List Int,ys=xs.map V.int/\xs.length=i/\∀n∈xs,OnW n) ⟨⟨none,U⟩,U,[],U,U,λ_ h=>(nomatch h)⟩ ?_ (bb (m:=100) Yk) ?_ ?_
  ·rintro i ys σ H3 _ ⟨_,_,xs,rfl,h,_⟩;rw[qa,h];exact qf _
  ·rintro i ys σ H3 hi ⟨⟨v,rfl⟩,rfl,xs,rfl,hl,ho⟩;have dv:(20:Int)+7 * (i:Int)≠0:=Yk;have q0:=Int.ediv_nonneg (a:=m) (b:=20+7 * (i:Int)) m0 Yk;have q1:=Int.ediv_le_self (a:=m) (20+7 * (i:Int)) m0;refine⟨_,U,_,U,_,U,_,_,U,U,IntMulOk.of_bits (dN ⟨Yd,Yd⟩) (dN ⟨Yk,Yk⟩),_,_,U,U,_,_,U,U,⟨Yk,Yk⟩,_,_,U,⟨q0,Yk⟩,λx hx=>⟨⟨_,U⟩,U,xs++[x],by rw[qP];rfl,by rw[qc,hl];rfl,λn hn=>?_⟩⟩;rcases qi.mp hn with hn|hn
   ·exact ho n hn
   ·rw[qT.mp hn];exact hx
  rintro ys σ3 H3 ⟨_,rfl,xs,rfl,hl,ho⟩ lc hlc;refine⟨lc,_,U,.inl ⟨SqL.of af,λt ht=>⟨ln2,λp hp=>?_⟩⟩⟩;have s2:=(a9.new hlc (.lst (xs.map V.int))).trans (a9.new ht (.tup (xs.map V.int)));exact q _ p t (L,xs) (s1.trans (s2.trans (a9.new hp _))) af (a9.new hp _ _ _ af) (by show xs.length<=4;omega) ho
 ·cases L with
  |none=>exact Q5 cc Yd
  |some n=>
   have:=hL n U;refine⟨_,U,_,U,_,_,U,go _ ?_⟩;split<;>omega
theorem rL(T:Tx P w K mg a):aA P w K mg base CX0 2 a.Dr a.Ds ["_law_way","_law_width","_law_cell_here"] nV:=by
 refine T.Ee.ok vD (λvs H Q E h=>?_) (λcdv A outer s H vs Q E hr h=>?_)
 ·obtain⟨_,_,_,rfl,_⟩:=h
  rfl
 obtain⟨i,j,c,rfl,hi,hj,k⟩:=h
 refine⟨_,(ae (aD (ap ba (ai aW (pq 0) aa) aa (ao _)) (ah (ak (bI (a8 bg (a8 (aQ (rO T) (hr.mono Yd) U T.EC T.Ed.kp T.EB .nil ar (a8 (pq 2) (a8 (ai bW (pq 0) aa) ac))) ac))))) aF)
  (ah (ak (bI (a8 bg (a8 (ai aW (ai bW (pq 0) aa) (pq 1)) ac)))))),?_⟩
 refine⟨_,U,_,_,U,U,Yd,U,_,U,?_⟩;refine bc (λ_=>?_) (λ_=>?_)
 ·refine⟨_,U,_,U,_,_,U,U,⟨Yd,Yd⟩,_,_,U,⟨Yk,Yk⟩,λm hm=>⟨ln2,λp hp=>k _ _ (.num m) (a9.new hp _) (.num af) hm⟩⟩
 ·exact⟨_,U,_,_,U,U,⟨Yd,Yd⟩,_,U,_,_,U,U,hj,ln2,λp hp=>k _ _ (.thing (i / 3 % j)) (a9.new hp _) (.thing af) ⟨Qa _ Yk,by have:=Qf (i / 3) hj;omega⟩⟩
theorem AC(xs:List Int){n:Int}(h0:0<=n)(h1:n<=xs.length):cq (xs.map V.int) none (some n)=(xs.take n.toNat).map V.int:=by
 unfold cq;have e1:HT.sIx (xs.map V.int).length 0 none=0:=U
 have e2:HT.sIx (xs.map V.int).length (xs.map V.int).length (some n)=n.toNat:=by
  have:=HT.sIx_nat (xs.map V.int).length (xs.map V.int).length n.toNat;rw[Int.toNat_of_nonneg h0]at this;rw[this,qa];omega
 rw[e1,e2,List.drop_zero,Nat.sub_zero,List.map_take]
theorem pA{A' B':TS}{D:dY}{σ:St}{H:Hp}(Pv:St->Hp->Prop)(hb:∀σ' H',Pv σ' H'->B' D σ' H')(ha:∀N:St->Hp->Prop,(∀σ' H',Pv σ' H'->N σ' H')->A' { D with nx:=N } σ H):iz A' B' D σ H:=ha _ hb
structure bv(m:Nat)(xs:List Int):Prop where
 nd:xs.Nodup
 lt:∀x∈xs,0<=x/\x<m
theorem bv.len{m:Nat}{xs:List Int}(h:bv m xs):xs.length<=m:=by
 have nd:(xs.map Int.toNat).Nodup:=by
  refine List.nodup_iff_pairwise_ne.mpr (List.pairwise_map.mpr ((List.nodup_iff_pairwise_ne.mp h.nd).imp_of_mem λ{x y} hx hy n e=>n ?_));have:=h.lt x hx;have:=h.lt y hy;omega
 have:=nd.length_le_of_subset (l₂:=List.range m) λk hk=>by
  obtain⟨x,hx,rfl⟩:=List.mem_map.mp hk;have:=h.lt x hx;exact List.mem_range.mpr Yk
 rwa [qa,Qe]at this
theorem bv.fit{m:Nat}{xs:List Int}(h:bv m xs):Fit m xs:=by
 refine⟨λx hx=>(h.lt x hx).1,λx hx=>(h.lt x hx).2,?_⟩;refine List.nodup_iff_pairwise_ne.mpr (List.pairwise_map.mpr ((List.nodup_iff_pairwise_ne.mp h.nd).imp_of_mem λ{x y} hx hy n e=>n ?_));have:=h.lt x hx;have:=h.lt y hy;omega
theorem bv.more{m:Nat}{xs:List Int}(h:bv m xs):bv (m+1) (xs++[(m:Int)]):=by
 refine⟨List.nodup_append.mpr ⟨h.nd,Qr _ _,λx hx y hy e=>?_⟩,λx hx=>?_⟩
 ·have:=(h.lt x hx).2;rw[e,qT.mp hy]at this;omega
 ·rcases qi.mp hx with hx|hx
  ·have:=h.lt x hx;omega
  ·rw[qT.mp hx];omega
theorem bv.sub{m:Nat}{xs ys:List Int}(h:bv m ys)(s:xs.Sublist ys):bv m xs:=⟨h.nd.sublist s,λx hx=>h.lt x (s.subset hx)⟩
theorem tH{f:Int->V}:∀(xs:List Int)(k:Nat),(xs.map f).eraseIdx k=(xs.eraseIdx k).map f
 |[],_=>rfl
 |_::_,0=>rfl
 |x::xs,k+1=>congrArg (f x::·) (tH xs k)
theorem tG:∀{xs:List Int}{k:Nat}{x:Int},xs[k]?=some x->(x::xs.eraseIdx k).Perm xs
 |[],k,x,h=>by simp at h
 |y::xs,0,x,h=>by cases h;exact List.Perm.refl _
 |y::xs,k+1,x,h=>(List.Perm.swap y x _).trans ((tG (xs:=xs) (k:=k) (by simpa using h)).cons y)
theorem bv.pick{m:Nat}{xs out:List Int}{k:Nat}{x:Int}(h:bv m (out++xs))(hk:xs[k]?=some x):bv m ((out++[x])++xs.eraseIdx k):=by
 have lt:=(qg.mp hk).1
 have p:((out++[x])++xs.eraseIdx k).Perm (out++xs):=by
  rw[qO];refine List.Perm.append_left _ ?_;exact tG hk
 exact⟨p.nodup_iff.mpr h.nd,λy hy=>h.lt y (p.mem_iff.mp hy)⟩
inductive o6(K:W.Frag)(vs:List V)(H:Hp)(Q:VK)(E:XK):Prop
 |mk (lt lg lm:Addr) (ts gs Ut Ug:List Int) (m:Nat) (many way:Int) (h0_:vs=[.ref lt,.ref lg,.ref lm,.int many,.int way]) (h1_:H lt=some (.lst (ts.map V.int))) (h2_:H lg=some (.lst (gs.map V.int))) (h3_:H lm=some (.lst [.int m])) (h4_:(lt≠lg/\lt≠lm/\lg≠lm)) (h5_:bv m (Ut++ts)) (h6_:bv m (Ug++gs)) (h7_:m<=800) (h8_:(0<=many/\many<=5)) (h9_:(0<=way/\way<2147483647)) (h10_:∀H' p out ts' gs' m',(∀c o,c≠lt->c≠lg->c≠lm->H c=some o->H' c=some o)->H' lt=some (.lst (ts'.map V.int))->H' lg=some (.lst (gs'.map V.int))->H' lm=some (.lst [.int (m':Nat)])->H' p=some (.tup (out.map V.int))->H p=none->(out.length:Int)=many->bv m' ((Ut++out)++ts')->bv m' (Ug++gs')->m<=m'->m'<=m+5->Q (.ref p) H'):o6 K vs H Q E
theorem eZ(T:Tx P w K mg a):aA P w K mg base CX0 1 a.Do a.Dp ["_law_pool","_law_other","_law_lines","_law_many","_law_way"] (o6 K):=by
 refine T.Bo.ok jI (λvs H Q E h=>?_) (λcdv A outer s H vs Q E hr h=>?_)
 ·obtain⟨_,_,_,_,_,_,_,_,_,_,rfl,_⟩:=h
  rfl
 obtain⟨lt,lg,lm,ts,gs,Ut,Ug,m,many,way,rfl,ht,hg,hm,⟨n1,n2,n3⟩,pt,pg,m8,hmany,hway,k⟩:=h
 refine⟨_,(ae (aT (i:=5) jI.nd U Oi (bn ac))
  (ae (cf PassesOwn.never U (dm U T.xz (a8 (pq 3) ac)) (aP (i:=6) jI.nd U Oi)
  (ae (aD (ap ba (bh bG U T.ld Q8 (a8 (pq 0) ac)) aa (ao _)) (ae (bO (cD qh qw qx d8 (pq 0) (a8 (ag aN (pq 2) aa Oy) ac)))
  (ae (bO (cD qh qw qx d8 (pq 1) (a8 (ag aN (pq 2) aa Oy) ac)))
  (ah (dP (ai bx (ag aN (pq 2) aa Oy) aa) (eu (pq 2) aa e9))))) aF)
  (ah (bO (cD qh qw qx d8 (pq 5) (a8 (cD qh PySem.F.slot_list_pop PySem.F.type_list_pop rZ (pq 0) (a8 (ai aW (ai bx (pq 4) (ai cm aa (pq 6))) (bh bG U T.ld Q8 (a8 (pq 0) ac))) ac)) ac))))))
  (ah (ak (gx mH U T.BG PyProof.Rows.Boot.«tuple» (a8 (pq 5) ac)))))),?_⟩
 refine⟨qu _,λlo hlo=>?_⟩;have n4:lt≠lo:=λz=>by rw[z,hlo]at ht;cases ht
 have n5:lg≠lo:=λz=>by rw[z,hlo]at hg;cases hg
 have n6:lm≠lo:=λz=>by rw[z,hlo]at hm;cases hm
 dsimp only[aI];refine⟨_,U,_,U,Yk,Yk,?_⟩;refine tz (λi σ G=>(∃v,σ=[some (.ref lt),some (.ref lg),some (.ref lm),some (.int many),some (.int way),some (.ref lo),v])/\∃(ts' gs' out:List Int)(m':Nat),G lt=some (.lst (ts'.map V.int))/\G lg=some (.lst (gs'.map V.int))/\G lm=some (.lst [.int m'])/\G lo=some (.lst (out.map V.int))/\(∀c o,c≠lt->c≠lg->c≠lm->H c=some o->G c=some o)/\out.length=i/\bv m' ((Ut++out)++ts')/\bv m' (Ug++gs')/\m<=m'/\m'<=m+i) ⟨⟨_,U⟩,ts,gs,[],m,by rw[aj n4];exact ht,by rw[aj n5];exact hg,by rw[aj n6];exact hm,af,λc o _ _ _ h=>a9.new hlo _ _ _ h,U,(by rw[qy];exact pt),pg,qf _,qf _⟩ ?_ ?_
 ·rintro i σ G hi ⟨⟨v,rfl⟩,ts',gs',out,m',g1,g2,g3,g4,fr,ol,po,pg',mm,mi⟩;have i5:i<5:=Yk;have tl:=po.len;have gl:=pg'.len;rw[qc]at tl gl;dsimp only[aI];refine pA (λσ G=>(∃v,σ=[some (.ref lt),some (.ref lg),some (.ref lm),some (.int many),some (.int way),some (.ref lo),v]/\v=some (.int ((0:Int)+i)))/\∃(ts' gs':List Int)(m':Nat),G lt=some (.lst (ts'.map V.int))/\G lg=some (.lst (gs'.map V.int))/\G lm=some (.lst [.int m'])/\G lo=some (.lst (out.map V.int))/\(∀c o,c≠lt->c≠lg->c≠lm->H c=some o->G c=some o)/\ts'≠[]/\bv m' ((Ut++out)++ts')/\bv m' (Ug++gs')/\m<=m'/\m'<=m+(i+1)) ?_ (λN hN=>?_)
  rotate_left
  ·refine⟨_,U,lt,_,U,.inl (SqL.of g1),U,_,U,bc (λc=>?_) (λc=>?_)⟩
   ·have e0:ts'=[]:=by
     have:=dJ c;rw[qa]at this;exact List.length_eq_zero_iff.mp Yk
    subst e0;have hat:∀{x:V},atI [x] (0:Int)=some x:=U;refine⟨_,U,.inl ⟨U,_,SqL.of g1⟩,_,U,lm,_,_,_,U,U,SqL.of g3,hat,lt,_,_,U,U,g1,bb (m:=1000) (by rw[qa];exact(by decide:1<=1000)),?_⟩;have a2:upd G lt (.lst (([]:List Int).map V.int++[.int m'])) lg=some (.lst (gs'.map V.int)):=by rw[aj (Ne.symm n1)];exact g2
    have a3:upd G lt (.lst (([]:List Int).map V.int++[.int m'])) lm=some (.lst [.int m']):=by rw[aj (Ne.symm n2)];exact g3
    refine⟨_,U,.inl ⟨U,_,SqL.of a2⟩,_,U,lm,_,_,_,U,U,SqL.of a3,hat,lg,_,_,U,U,a2,bb (m:=1000) (by rw[qa];omega),?_⟩;have b3:upd (upd G lt (.lst (([]:List Int).map V.int++[.int m']))) lg (.lst (gs'.map V.int++[.int m'])) lm=some (.lst [.int m']):=by rw[aj (Ne.symm n3)];exact a3
    refine⟨_,U,lm,_,_,_,U,U,SqL.of b3,hat,_,_,U,U,_,U,lm,_,_,0,U,U,b3,U,?_⟩;refine hN _ _ ⟨⟨_,U,U⟩,[(m':Int)],gs'++[(m':Int)],m'+1,?_,?_,af,?_,λc o c1 c2 c3 h=>?_,List.cons_ne_nil _ _,?_,(by rw[<- qO];exact pg'.more),Yk,Yk⟩
    ·rw[aj n2,aj n1,af];rfl
    ·rw[aj n3,af,qP];rfl
    ·rw[aj (Ne.symm n6),aj (Ne.symm n5),aj (Ne.symm n4)];exact g4
    ·rw[aj c3,aj c2,aj c1];exact fr c o c1 c2 c3 h
    ·rw[qy]at po;exact po.more
   ·exact hN _ _ ⟨⟨_,U,U⟩,ts',gs',m',g1,g2,g3,g4,fr,λz=>dL c (by rw[z];rfl),po,pg',mm,Yk⟩
  ·rintro σ G ⟨⟨v',rfl,rfl⟩,ts2,gs2,m2,g1,g2,g3,g4,fr,ne,po,pg2,mm,mi⟩;have tl2:=po.len;rw[qc]at tl2;have l0:0<ts2.length:=List.length_pos_iff.mpr ne;have p0:=Qa (way+3 * (0+(i:Int))) (b:=(ts2.length:Int)) Yk;have p1:=Qf (way+3 * (0+(i:Int))) (b:=(ts2.length:Int)) Yk;refine⟨_,U,.inl ⟨U,_,SqL.of g4⟩,_,U,.inl ⟨U,_,SqL.of g1⟩,_,U,_,U,_,_,U,U,IntMulOk.of_bits (dN ⟨Yd,Yd⟩) (dN ⟨Yk,Yk⟩),_,_,U,U,_,U,lt,_,U,.inl (SqL.of g1),_,_,U,U,by rw[qa];omega,?_⟩;rw[qa];have hx:ts2[((way+3 * (0+(i:Int))) % (ts2.length:Int)).toNat]?=some (ts2[((way+3 * (0+(i:Int))) % (ts2.length:Int)).toNat]' Yk):=qd _;generalize ts2[((way+3 * (0+(i:Int))) % (ts2.length:Int)).toNat]' Yk=x at hx;generalize (way+3 * (0+(i:Int))) % (ts2.length:Int)=j at p0 p1 hx
   have hj:seqIndex? j (ts2.map V.int).length=some j.toNat:=by
    unfold seqIndex?;rw[qa];simp only[Q0 (by omega:¬ j<0)];rw[Q1 (by simp;omega)]
   refine⟨lt,_,j,j.toNat,.int x,U,U,g1,Yk,Yk,hj,by rw[qF,hx];rfl,?_⟩;have b4:upd G lt (.lst ((ts2.map V.int).eraseIdx j.toNat)) lo=some (.lst (out.map V.int)):=by rw[aj (Ne.symm n4)];exact g4
   refine⟨lo,_,_,U,U,b4,bb (m:=1000) (by rw[qa];omega),?_⟩;refine⟨⟨_,U⟩,ts2.eraseIdx j.toNat,gs2,out++[x],m2,?_,?_,?_,?_,λc o c1 c2 c3 h=>?_,by rw[qc,ol];rfl,(by rw[<- qO Ut];exact po.pick hx),pg2,mm,mi⟩
   ·rw[aj n4,af,tH]
   ·rw[aj n5,aj (Ne.symm n1)];exact g2
   ·rw[aj n6,aj (Ne.symm n2)];exact g3
   ·rw[af,qP];rfl
   ·have c4:c≠lo:=λz=>by rw[z,hlo]at h;cases h
    rw[aj c4,aj c1];exact fr c o c1 c2 c3 h
 ·rintro σ G ⟨⟨v,rfl⟩,ts',gs',out,m',g1,g2,g3,g4,fr,ol,po,pg',mm,mi⟩;refine⟨_,U,lo,_,U,.inl ⟨SqL.of g4,λp hp=>?_⟩⟩;have d1:lt≠p:=λz=>by rw[z,hp]at g1;cases g1
  have d2:lg≠p:=λz=>by rw[z,hp]at g2;cases g2
  have d3:lm≠p:=λz=>by rw[z,hp]at g3;cases g3
  have h0:H p=none:=by
   cases e:H p with
   |none=>rfl
   |some o=>rw[fr p o (Ne.symm d1) (Ne.symm d2) (Ne.symm d3) e]at hp;cases hp
  refine k _ p out ts' gs' m' (λc o c1 c2 c3 h=>a9.new hp _ _ _ (fr c o c1 c2 c3 h)) (by rw[aj d1];exact g1) (by rw[aj d2];exact g2) (by rw[aj d3];exact g3) af h0 Yk po pg' mm Yk
theorem y6(T:Tx P w K mg a):aA P w K mg base CX0 2 a.Dy a.Dz ["_law_cell_here","_law_k"] nX:=by
 refine T.EK.ok pC (λvs H Q E h=>?_) (λcdv A outer s H vs Q E hr h=>?_)
 ·obtain⟨_,_,rfl,_⟩:=h
  rfl
 obtain⟨c,k,rfl,hk,q⟩:=h
 refine⟨_,(ae (aT (i:=2) pC.nd U (Or.inr U) (aQ (gy T) (hr.mono Yd) U T.BA T.Bu.kp T.Bz .nil ar (a8 (pq 0) (a8 (ai bx (pq 1) aa) ac))))
  (ae (aD (ap ba (ai aW (pq 2) aa) aa (ao _)) (ah (ak (bn (a8 (ai bW (pq 2) aa) (a8 aa (a8 (ai aW (ai bW (pq 2) aa) (ai dz aa aa)) ac)))))) aF)
  (ah (ak (bY (k:=1) (Nc:=["_law_j","_law_m"]) (js:=[2]) (show aK (am iG) ["_law_cell_here","_law_k","_law_m"] _ 1 ["_law_j","_law_m"] [2]from aK.mk U (by decide +kernel) (by decide +kernel) (by decide +kernel) U (by decide +kernel)) U (dm U T.xz (a8 (ai aW (ai bW (pq 2) aa) aa) ac)) (λ_ _ _ _ _=>(aP (i:=0) (show List.Nodup (["_law_j","_law_m"]:List Str)from by decide +kernel) U Oi)) (λ_ _ _ _ _=>bJ) (λ_ _ _ _ _=>(ai aW (ai bW (pq 1) (ai bx aa (ai cm aa (pq 0)))) aa))))))),?_⟩
 have pw:(0:Int)<(10:Int) ^ (30:Int).toNat:=by rw[p30];decide
 refine⟨_,U,_,U,_,_,U,U,_,_,U,⟨Yk,Yk⟩,λm m0 m1=>?_⟩;dsimp only[aI];refine⟨_,U,_,_,U,U,Yd,U,_,U,bc (λcc=>?_) (λcc=>?_)⟩
 ·refine⟨_,U,_,_,U,U,⟨Yd,Yd⟩,_,U,_,_,U,U,⟨Yd,Yd⟩,_,_,U,U,⟨Yd,Yd,Yd⟩,_,_,U,U,pw,ss,λl hl=>?_⟩
  exact q _ l [m / 9,0,m / 7 % (10:Int) ^ (30:Int).toNat] (a9.new hl _) hl af (λx hx=>by
   simp only[qv,qR,or_false]at hx;rcases hx with rfl|rfl|rfl
   ·omega
   ·omega
   ·exact Qa _ Yk) (by show 3<=4;decide)
 ·refine⟨_,U,_,_,U,U,⟨Yd,Yd⟩,_,_,U,U,Yd,_,U,Yk,Yk,?_⟩;have k4:0<=m / 9 % 4/\m / 9 % 4<=4:=Yk;refine dW (λi ys σ H3=>(∃v,σ=[v,some (.int m)])/\H3=H/\∃xs:List Int,ys=xs.map V.int/\xs.length=i/\∀x∈xs,0<=x) ⟨⟨none,U⟩,U,[],U,U,λ_ h=>(nomatch h)⟩ ?_ (bb (m:=100) Yk) ?_ ?_
  ·rintro i ys σ H3 _ ⟨_,_,xs,rfl,h,_⟩;rw[qa,h];exact qf _
  ·rintro i ys σ H3 hi ⟨⟨v,rfl⟩,rfl,xs,rfl,hl,ho⟩;refine⟨_,U,_,U,_,_,U,U,IntMulOk.of_bits (dN ⟨Yd,Yd⟩) (dN ⟨Yk,Yk⟩),_,_,U,U,_,_,U,U,⟨Yk,Yk⟩,_,_,U,U,Yd,⟨_,U⟩,U,xs++[_],by rw[qP];rfl,by rw[qc,hl];rfl,λn hn=>?_⟩;rcases qi.mp hn with hn|hn
   ·exact ho n hn
   ·rw[qT.mp hn];exact Qa _ Yd
  rintro ys σ3 H3 ⟨_,rfl,xs,rfl,hl,ho⟩ l hl';exact q _ l xs (a9.new hl' _) hl' af ho Yk
theorem lH(xs:List Int)(lo hi st:Option Int):∃ys:List Int,eX (xs.map V.int) lo hi st=ys.map V.int/\ys.length=(eX (xs.map V.int) lo hi st).length:=by
 have go:∀is:List Nat,∃ys:List Int,(is.filterMap λi=>(xs.map V.int)[i]?)=ys.map V.int:=by
  intro is
  induction is with
  |nil=>exact⟨[],U⟩
  |cons i is ih=>
   obtain⟨ys,e⟩:=ih
   cases h:xs[i]? with
   |none=>exact⟨ys,by rw[List.filterMap_cons_none (by rw[qF,h];rfl)];exact e⟩
   |some x=>exact⟨x::ys,by rw[List.filterMap_cons_some (b:=V.int x) (by rw[qF,h];rfl),e];rfl⟩
 obtain⟨ys,e⟩:=go (sliceRange (sliceBounds lo hi st (xs.map V.int).length).1 (sliceBounds lo hi st (xs.map V.int).length).2.1 (sliceBounds lo hi st (xs.map V.int).length).2.2);have e:eX (xs.map V.int) lo hi st=ys.map V.int:=e;exact⟨ys,e,by rw[e,qa]⟩
theorem ya(T:Tx P w K mg a):aA P w K mg base CX0 3 a.DA a.DB ["_law_script","_law_way"] (o9 K):=by
 refine T.EL.ok vE (λvs H Q E h=>?_) (λcdv A outer s H vs Q E hr h=>?_)
 ·obtain⟨_,_,_,rfl,_⟩:=h
  rfl
 obtain⟨l,ns,way,rfl,hl,n63,hw,q⟩:=h
 refine⟨_,(ae (aD (ap ba (ai aW (pq 1) aa) aa (ao _)) (ah (ak cX)) aF)
  (ae (aD (ap ba (ai aW (pq 1) aa) aa (ao _)) (ah (ak (bn ac))) aF)
  (ah (ak (bY (k:=2) (Nc:=["_law_k","_law_cell_here","_law_way"]) (js:=[1]) (show aK (am iJ) ["_law_script","_law_way"] _ 2 ["_law_k","_law_cell_here","_law_way"] [1]from aK.mk U (by decide +kernel) (by decide +kernel) (by decide +kernel) U (by decide +kernel)) U (lJ U T.Ej (a8 (lK (pq 0) (cg aa) (cg aa) (cg aa)) ac)) (λ_ _ _ _ _=>(hV 2 U (cs (aP (i:=0) (show List.Nodup (["_law_k","_law_cell_here","_law_way"]:List Str)from by decide +kernel) U Oi) (cs (aP (i:=1) (show List.Nodup (["_law_k","_law_cell_here","_law_way"]:List Str)from by decide +kernel) U Oi) ef)))) (λ_ _ _ _ _=>bJ) (λ_ _ _ _ _=>(aQ (y6 T) (hr.mono Yd) U T.Hh T.EK.kp T.Hg .nil ar (a8 (ai bx (pq 1) (pq 2)) (a8 (pq 0) ac))))))))),?_⟩
 refine⟨_,U,_,_,U,U,Yd,U,_,U,bc (λcc=>?_) (λcc=>?_)⟩
 ·exact q H .non [] (a9.refl _) (.inl ⟨U,U⟩) (qu _) λ_ h=>(nomatch h)
 refine⟨_,U,_,_,U,U,Yd,U,_,U,bc (λcc=>?_) (λcc=>?_)⟩
 ·exact⟨qu _,λz hz=>q _ (.ref z) [] (a9.new hz _) (.inr ⟨z,[],U,af,.nil⟩) (qu _) λ_ h=>(nomatch h)⟩
 obtain⟨ys,ey,yl⟩:=lH ns (some 6) (some 54) (some 3);have y16:ys.length<=16:=by rw[yl];exact lI Yd Yd
 refine⟨_,U,_,U,_,U,_,U,l,_,U,hl,Yd,bb (m:=100) (by rw[<- yl];omega),λp hp=>?_⟩;rw[ey];refine⟨p,_,U,SqL.of af,?_⟩;have s1:=a9.new hp (.lst (ys.map V.int));have hp1:upd H p (.lst (ys.map V.int)) p=some (.lst (ys.map V.int)):=af;generalize upd H p (.lst (ys.map V.int))=H1 at s1 hp1;refine tR (K:=K) (l:=p) (xs:=ys.map V.int) (λi zs σ G=>(∃v v',σ=[v,v',some (.int way)])/\a9 H1 G/\∃xss:List (List Int),xss.length=i/\RIs G zs xss/\∀r∈xss,r.length<=4/\∀x∈r,0<=x) ⟨⟨_,_,U⟩,a9.refl _,[],U,.nil,λ_ h=>(nomatch h)⟩ ?_ (bb (m:=100) (by rw[qa];omega)) ?_ ?_ ?_
 ·rintro i zs σ G ⟨_,_,xss,e,r,_⟩;rw[r.len,e];exact qf _
 ·rintro i zs σ G ⟨_,s2,_⟩;exact SqL.of (s2 _ _ hp1)
 ·rintro i x zs σ G pt hx ⟨⟨v,v',rfl⟩,s2,xss,e,r,ok⟩ hpt;rw[qF]at hx;obtain⟨n,hn,rfl⟩:=qQ.mp hx;have il:=(qg.mp hn).1;refine⟨pt,_,U,SqT.of af,U,_,_,U,_,_,U,U,?_⟩;refine⟨_,U,_,U,_,_,U,U,_,U,_,_,U,⟨Yk,Yk⟩,λG' l' xs' s3 n3 h3 o3 l3=>?_⟩;have s4:=(a9.new hpt (.tup [.int (i:Int),.int n])).trans s3;refine⟨⟨_,_,U⟩,s2.trans s4,xss++[xs'],by rw[qc,e];rfl,(r.same s4).snoc h3,λr' hr'=>?_⟩;rcases qi.mp hr' with h|h
  ·exact ok r' h
  ·rw[qT.mp h];exact⟨l3,o3⟩
 rintro zs σ G ⟨_,s2,xss,e,r,ok⟩ l2 hl2;rw[qa]at e;exact q _ (.ref l2) xss (s1.trans (s2.trans (a9.new hl2 _))) (.inr ⟨l2,zs,U,af,r.same (a9.new hl2 _)⟩) Yk ok
theorem Fit.up{nl nl':Nat}{xs:List Int}(h:Fit nl xs)(le:nl<=nl'):Fit nl' xs:=⟨h.lo,λx hx=>by have:=h.hi x hx;omega,h.nd⟩
structure bM(H:Hp)(lt lg lm:Addr)(Ut Ug ts gs:List Int)(m:Nat):Prop where
 t:H lt=some (.lst (ts.map V.int))
 g:H lg=some (.lst (gs.map V.int))
 l:H lm=some (.lst [.int m])
 ne:lt≠lg/\lt≠lm/\lg≠lm
 pt:bv m (Ut++ts)
 pg:bv m (Ug++gs)
def bP(lt lg lm:Addr)(H:Hp):Hp:=λc=>if c=lt\/c=lg\/c=lm then none else H c
section
variable {lt lg lm:Addr}{H H':Hp}{Ut Ug ts gs ts' gs':List Int}{m m':Nat}
theorem ja:a9 (bP lt lg lm H) H:=λc o h=>by
 have h:(if c=lt\/c=lg\/c=lm then none else H c)=some o:=h;split at h
 ·cases h
 ·exact h
theorem jb{c:Addr}{o:HO}(h1:c≠lt)(h2:c≠lg)(h3:c≠lm)(h:H c=some o):bP lt lg lm H c=some o:=by
 show(if c=lt\/c=lg\/c=lm then none else H c)=_;rw[Q0 (by rintro(z|z|z);exact h1 z;exact h2 z;exact h3 z)];exact h
theorem dc(h:∀c o,c≠lt->c≠lg->c≠lm->H c=some o->H' c=some o):a9 (bP lt lg lm H) (bP lt lg lm H'):=λc o e=>by
 have e:(if c=lt\/c=lg\/c=lm then none else H c)=some o:=e;split at e
 ·cases e
 ·rename_i n;exact jb (λz=>n (.inl z)) (λz=>n (.inr (.inl z))) (λz=>n (.inr (.inr z))) (h c o (λz=>n (.inl z)) (λz=>n (.inr (.inl z))) (λz=>n (.inr (.inr z))) e)
theorem bM.tup(P:bM H lt lg lm Ut Ug ts gs m){c:Addr}{xs:List V}(h:H c=some (.tup xs)):bP lt lg lm H c=some (.tup xs):=
 jb (λz=>by rw[z,P.t]at h;cases h) (λz=>by rw[z,P.g]at h;cases h) (λz=>by rw[z,P.l]at h;cases h) h
theorem bM.same(P:bM H lt lg lm Ut Ug ts gs m)(s:a9 H H'):bM H' lt lg lm Ut Ug ts gs m:=⟨s _ _ P.t,s _ _ P.g,s _ _ P.l,P.ne,P.pt,P.pg⟩
theorem bM.hid(s:a9 H H'):a9 (bP lt lg lm H) (bP lt lg lm H'):=dc λc o _ _ _ h=>s c o h
theorem bM.swap(P:bM H lt lg lm Ut Ug ts gs m):bM H lg lt lm Ug Ut gs ts m:=⟨P.g,P.t,P.l,⟨Ne.symm P.ne.1,P.ne.2.2,P.ne.2.1⟩,P.pg,P.pt⟩
end
theorem Fit.perm{nl:Nat}{xs ys:List Int}(h:Fit nl ys)(p:xs.Perm ys):Fit nl xs:=⟨λx hx=>h.lo x (p.mem_iff.mp hx),λx hx=>h.hi x (p.mem_iff.mp hx),(p.map Int.toNat).nodup_iff.mpr h.nd⟩
theorem AB(xs:List Int){n m:Int}(h0:0<=n)(h1:n<=m)(h2:m<=xs.length):cq (xs.map V.int) (some n) (some m)=((xs.drop n.toNat).take (m.toNat-n.toNat)).map V.int:=by
 unfold cq
 have e1:HT.sIx (xs.map V.int).length 0 (some n)=n.toNat:=by
  have:=HT.sIx_nat (xs.map V.int).length 0 n.toNat;rw[Int.toNat_of_nonneg h0]at this;rw[this,qa];omega
 have e2:HT.sIx (xs.map V.int).length (xs.map V.int).length (some m)=m.toNat:=by
  have:=HT.sIx_nat (xs.map V.int).length (xs.map V.int).length m.toNat;rw[Int.toNat_of_nonneg Yk]at this;rw[this,qa];omega
 rw[e1,e2,<- List.map_drop,<- List.map_take]
theorem nj(xs:List Int){w:Int}(w1:1<=w)(h:(xs.length:Int)=2 * w+1):∃A B:List Int,∃t:Int,xs=A++B++[t]/\(A.length:Int)=w/\(B.length:Int)=w/\cq (xs.map V.int) none (some w)=A.map V.int/\cq (xs.map V.int) (some w) (some (2 * w))=B.map V.int/\atI (xs.map V.int) (2 * w)=some (.int t)/\¬ (HT.sIx (xs.map V.int).length 0 none=0/\HT.sIx (xs.map V.int).length (xs.map V.int).length (some w)=(xs.map V.int).length)/\¬ (HT.sIx (xs.map V.int).length 0 (some w)=0/\HT.sIx (xs.map V.int).length (xs.map V.int).length (some (2 * w))=(xs.map V.int).length):=by
 have lt:(2 * w).toNat<xs.length:=Yk;refine⟨xs.take w.toNat,(xs.drop w.toNat).take ((2 * w).toNat-w.toNat),xs[(2 * w).toNat],?_,?_,?_,AC xs Yk Yk,AB xs Yk Yk Yk,gI Yk (by rw[qF,qd lt];rfl),λz=>?_,λz=>?_⟩
 ·rw[qO]
  conv=>lhs;rw[<- Qu w.toNat xs]
  congr 1
  conv=>lhs;rw[<- Qu ((2 * w).toNat-w.toNat) (xs.drop w.toNat)]
  congr 1
  rw[List.drop_drop,show w.toNat+((2 * w).toNat-w.toNat)=(2 * w).toNat by omega,List.drop_eq_getElem_cons lt,List.drop_eq_nil_of_le (by omega)]
 ·rw[qL];omega
 ·rw[qL,qZ];omega
 ·have:=HT.sIx_nat (xs.map V.int).length (xs.map V.int).length w.toNat;rw[Int.toNat_of_nonneg Yk]at this;rw[this,qa]at z;omega
 ·have:=HT.sIx_nat (xs.map V.int).length 0 w.toNat;rw[Int.toNat_of_nonneg Yk]at this;rw[this,qa]at z;omega
theorem tF{m:Nat}{A B:List Int}{t:Int}(h:Fit m (A++B++[t])):Fit m (A++[t])/\Fit m (B++[t])/\Fit m (t::A)/\Fit m (t::B):=by
 have f1:Fit m (A++[t]):=h.sub ((List.sublist_append_left A B).append (List.Sublist.refl _));have f2:Fit m (B++[t]):=h.sub ((List.sublist_append_right A B).append (List.Sublist.refl _));exact⟨f1,f2,f1.perm (List.perm_append_comm (l₁:=[t])),f2.perm (List.perm_append_comm (l₁:=[t]))⟩
theorem PR.fit_up{nl nl':Nat}(le:nl<=nl'):∀{r:PR},r.fit nl->r.fit nl'
 |.pass ..,h=>⟨h.1.up le,h.2.up le⟩
 |.work ..,h=>⟨h.1.up le,h.2.up le⟩
 |.choose ..,h=>⟨h.1.up le,h.2.1.up le,h.2.2.up le⟩
 |.merge ..,h=>⟨h.1.up le,h.2.1.up le,h.2.2.up le⟩
def cu:PR->List Int
 |.pass ins _ _=>ins
 |.work ins _ _ _ _=>ins
 |.choose ins _ _ _ _=>ins
 |.merge t o n _=>o++n++[t]
def lW:PR->List Int
 |.pass _ outs _=>outs
 |.work _ out _ _ _=>[out]
 |.choose _ _ o n t=>o++n++[t]
 |.merge _ _ _ outs=>outs
inductive o7(K:W.Frag)(vs:List V)(H:Hp)(Q:VK)(E:XK):Prop
 |mk (c k:Int) (lt lg lm:Addr) (Ut Ug ts gs:List Int) (m:Nat) (h0_:vs=[.int c,.int k,.ref lt,.ref lg,.ref lm]) (h1_:(0<=k/\k<=1000)) (h2_:bM H lt lg lm Ut Ug ts gs m) (h3_:m<=700) (h4_:∀H' v r ts' gs' m',a9 (bP lt lg lm H) (bP lt lg lm H')->bM H' lt lg lm (Ut++cu r) (Ug++lW r) ts' gs' m'->m<=m'->m'<=m+10->RR (bP lt lg lm H') v r->r.ok->r.fit m'->r.sgOk->Q v H'):o7 K vs H Q E
theorem y8(T:Tx P w K mg a):aA P w K mg base CX0 3 a.Du a.Dv ["_law_cell_here","_law_k","_law_takers","_law_givers","_law_lines"] (o7 K):=by
 refine T.EI.ok d7 (λvs H Q E h=>?_) (λcdv A outer s H vs Q E hr h=>?_)
 ·obtain⟨_,_,_,_,_,_,_,_,_,_,rfl,_⟩:=h
  rfl
 obtain⟨c,k,lt,lg,lm,Ut,Ug,ts,gs,m,rfl,hk,P0,m7,q⟩:=h
 refine⟨_,(ae (aT (i:=5) d7.nd U Oi (aQ (gy T) (hr.mono Yd) U T.BA T.Bu.kp T.Bz .nil ar (a8 (pq 0) (a8 (pq 1) ac))))
  (ae (aT (i:=6) d7.nd U (Or.inr U) (aQ (gy T) (hr.mono Yd) U T.BA T.Bu.kp T.Bz .nil ar (a8 (pq 0) (a8 (ai bx (pq 1) aa) ac))))
  (ae (aT (i:=7) d7.nd U (Or.inr U) (ai bx aa (ai aW (ai bW (pq 5) aa) aa)))
  (ae (aD (ap di (ai aW (pq 5) aa) aa (ao _)) (ae (aT (i:=8) d7.nd U Oi (aQ (eZ T) (hr.mono Yd) U T.Br T.Bo.kp T.Bq .nil ar (a8 (pq 2) (a8 (pq 3) (a8 (pq 4) (a8 (pq 7) (a8 (pq 6) ac)))))))
  (ae (aT (i:=9) d7.nd U Oi (aQ (eZ T) (hr.mono Yd) U T.Br T.Bo.kp T.Bq .nil ar (a8 (pq 3) (a8 (pq 2) (a8 (pq 4) (a8 (ai aW (ai bW (pq 5) aa) aa) (a8 (ai bW (pq 6) aa) ac)))))))
  (ah (ak (bI (a8 bg (a8 (pq 8) (a8 (pq 9) (a8 (gx mH U T.BG PyProof.Rows.Boot.«tuple» (a8 (bY (k:=1) (Nc:=["_law_j","_law_w","_law_n"]) (js:=[7,6]) (show aK (am iI) ["_law_cell_here","_law_k","_law_takers","_law_givers","_law_lines","_law_m","_law_n","_law_w","_law_ins","_law_outs","_law_out","_law_left","_law_at"] _ 1 ["_law_j","_law_w","_law_n"] [7,6]from aK.mk U (by decide +kernel) (by decide +kernel) (by decide +kernel) U (by decide +kernel)) U (dm U T.xz (a8 (bh bG U T.ld Q8 (a8 (pq 9) ac)) ac)) (λ_ _ _ _ _=>(aP (i:=0) (show List.Nodup (["_law_j","_law_w","_law_n"]:List Str)from by decide +kernel) U Oi)) (λ_ _ _ _ _=>bJ) (λ_ _ _ _ _=>(ai aW (ai bW (pq 2) (ai bx aa (pq 0))) (pq 1)))) ac)) ac))))))))) aF)
  (ae (aD (ap di (ai aW (pq 5) aa) aa (ao _)) (ae (aT (i:=8) d7.nd U Oi (aQ (eZ T) (hr.mono Yd) U T.Br T.Bo.kp T.Bq .nil ar (a8 (pq 2) (a8 (pq 3) (a8 (pq 4) (a8 (pq 7) (a8 (pq 6) ac)))))))
  (ae (aT (i:=10) d7.nd U Oi (ag au (aQ (eZ T) (hr.mono Yd) U T.Br T.Bo.kp T.Bq .nil ar (a8 (pq 3) (a8 (pq 2) (a8 (pq 4) (a8 aa (a8 (ai bW (pq 6) aa) ac)))))) aa Oy))
  (ae (aT (i:=11) d7.nd U Oi (aQ (rL T) (hr.mono Yd) U T.EH T.Ee.kp T.EG .nil ar (a8 (ai aW (ai bW (pq 5) aa) aa) (a8 (pq 7) (a8 (pq 0) ac)))))
  (ah (ak (bI (a8 bg (a8 (pq 8) (a8 (pq 10) (a8 (ag A0 bg (ai aW (pq 6) aa) Oy) (a8 (pq 11) (a8 (aQ (rL T) (hr.mono Yd) U T.EH T.Ee.kp T.EG .nil ar (a8 (ai aW (ai bW (pq 5) aa) aa) (a8 (pq 7) (a8 (pq 0) ac)))) ac)))))))))))) aF)
  (ae (aD (ap di (ai aW (pq 5) aa) aa (ao _)) (ae (aT (i:=8) d7.nd U Oi (aQ (eZ T) (hr.mono Yd) U T.Br T.Bo.kp T.Bq .nil ar (a8 (pq 2) (a8 (pq 3) (a8 (pq 4) (a8 (pq 7) (a8 (pq 6) ac)))))))
  (ae (aT (i:=12) d7.nd U Oi (aQ (eZ T) (hr.mono Yd) U T.Br T.Bo.kp T.Bq .nil ar (a8 (pq 3) (a8 (pq 2) (a8 (pq 4) (a8 (ai bx (ai cm aa (pq 7)) aa) (a8 (ai bW (pq 6) aa) ac)))))))
  (ah (ak (bI (a8 bg (a8 (pq 8) (a8 (ai aW (ai bW (pq 6) aa) (pq 7)) (a8 (eB gc (pq 12) fG (cg (pq 7))) (a8 (eB gc (pq 12) (cg (pq 7)) (cg (ai cm aa (pq 7)))) (a8 (ag au (pq 12) (ai cm aa (pq 7)) Oy) ac))))))))))) aF)
  (ae (aT (i:=12) d7.nd U Oi (aQ (eZ T) (hr.mono Yd) U T.Br T.Bo.kp T.Bq .nil ar (a8 (pq 2) (a8 (pq 3) (a8 (pq 4) (a8 (ai bx (ai cm aa (pq 7)) aa) (a8 (pq 6) ac)))))))
  (ae (aT (i:=9) d7.nd U Oi (aQ (eZ T) (hr.mono Yd) U T.Br T.Bo.kp T.Bq .nil ar (a8 (pq 3) (a8 (pq 2) (a8 (pq 4) (a8 (pq 7) (a8 (ai bW (pq 6) aa) ac)))))))
  (ah (ak (bI (a8 bg (a8 (ag au (pq 12) (ai cm aa (pq 7)) Oy) (a8 (eB gc (pq 12) fG (cg (pq 7))) (a8 (eB gc (pq 12) (cg (pq 7)) (cg (ai cm aa (pq 7)))) (a8 (pq 9) ac)))))))))))))))),?_⟩
 refine⟨_,U,_,U,_,_,U,⟨Yk,Yk⟩,λx x0 x1=>?_⟩;refine⟨_,U,_,U,_,_,U,U,_,_,U,⟨Yk,Yk⟩,λn n0 n1=>?_⟩;refine⟨_,U,_,_,U,U,⟨Yd,Yd⟩,_,_,U,U,Yd,_,_,U,U,?_⟩;have w0:1<=1+x / 7 % 2/\1+x / 7 % 2<=2:=Yk;generalize 1+x / 7 % 2=wd at w0 ⊢;have n31:0<=n / 31/\n / 31<2147483647:=Yk;dsimp only[aI];refine⟨_,U,_,_,U,U,Yd,_,_,U,U,_,U,bc (λ_=>?_) (λ_=>?_)⟩
 ·refine⟨_,U,_,U,_,U,_,U,_,U,lt,lg,lm,ts,gs,Ut,Ug,m,wd,n,U,P0.t,P0.g,P0.l,P0.ne,P0.pt,P0.pg,Yk,⟨Yk,Yk⟩,⟨n0,n1⟩,λH1 p1 ins ts1 gs1 m1 f1 t1 g1 l1 h1 e1 il pt1 pg1 a1 b1=>?_⟩;have pi:bv m1 ins:=pt1.sub ((List.sublist_append_right Ut ins).trans (List.sublist_append_left _ _));have P1:bM H1 lt lg lm (Ut++ins) Ug ts1 gs1 m1:=⟨t1,g1,l1,P0.ne,pt1,pg1⟩;dsimp only[aI];have o0:0<=x / 14 % 3/\x / 14 % 3<=2:=Yk;refine⟨_,U,_,U,_,U,_,U,_,_,U,U,⟨Yd,Yd⟩,_,_,U,U,Yd,_,U,_,_,U,U,⟨Yd,Yd⟩,lg,lt,lm,gs1,ts1,Ug,Ut++ins,m1,x / 14 % 3,n / 31,U,g1,t1,l1,P1.swap.ne,pg1,pt1,Yk,⟨Yk,Yk⟩,n31,λH2 p2 outs gs2 ts2 m2 f2 g2 t2 l2 h2 e2 ol pg2 pt2 a2 b2=>?_⟩;have po:bv m2 outs:=pg2.sub ((List.sublist_append_right Ug outs).trans (List.sublist_append_left _ _));have P2:bM H2 lt lg lm (Ut++ins) (Ug++outs) ts2 gs2 m2:=⟨t2,g2,l2,P0.ne,pt2,pg2⟩;have sh:a9 (bP lt lg lm H) (bP lt lg lm H2):=(dc f1).trans (dc λc o c1 c2 c3 h=>f2 c o c2 c1 c3 h);have k1:=(dc (H':=H2) λc o c1 c2 c3 h=>f2 c o c2 c1 c3 h) _ _ (P1.tup h1);have k2:=P2.tup h2;dsimp only[aI];refine⟨_,U,_,U,_,U,p2,_,U,.inr (SqT.of h2),_,U,by rw[qa];omega,by rw[qa];omega,?_⟩;refine dW (λi ys σ G=>(∃v,σ=[v,some (.int wd),some (.int n)])/\G=H2/\∃rs:List Int,ys=rs.map V.int/\rs.length=i/\∀r∈rs,0<=r/\r<wd) ⟨⟨none,U⟩,U,[],U,U,λ_ h=>(nomatch h)⟩ ?_ (bb (m:=100) (by rw[qa];omega)) ?_ ?_
  ·rintro i ys σ G _ ⟨_,_,rs,rfl,h,_⟩;rw[qa,h];exact qf _
  ·rintro i ys σ G hi ⟨⟨v,rfl⟩,rfl,rs,rfl,hl,hrs⟩;have i3:i<5:=by rw[qa]at hi;omega
   refine⟨_,U,_,U,_,_,U,U,_,_,U,U,⟨Yk,Yk⟩,_,U,_,_,U,U,Yk,⟨_,U⟩,U,rs++[_],by rw[qP];rfl,by rw[qc,hl];rfl,λr hr=>?_⟩;rcases qi.mp hr with hr|hr
   ·exact hrs r hr
   ·rw[qT.mp hr];exact⟨Qa _ Yk,Qf _ Yk⟩
  rintro ys σ3 H3 ⟨_,rfl,rs,rfl,hl,hrs⟩ lr hlr;refine⟨lr,_,U,.inl ⟨SqL.of af,λtr htr=>⟨ln4,λpp hpp=>?_⟩⟩⟩;have s3:=((a9.new hlr (.lst (rs.map V.int))).trans (a9.new htr (.tup (rs.map V.int)))).trans (a9.new hpp (.tup [.str "pass",.ref p1,.ref p2,.ref tr]));have P3:=P2.same s3;have sh3:=bM.hid (lt:=lt) (lg:=lg) (lm:=lm) s3;refine q _ _ (.pass ins outs rs) ts2 gs2 m2 (sh.trans sh3) P3 Yk Yk (.pass (P3.tup af) (sh3 _ _ k1) (sh3 _ _ k2) (P3.tup (a9.new hpp _ _ _ af))) ⟨?_,Yk,Yk,λr hr=>?_⟩ ⟨pi.fit.up Yk,po.fit⟩ trivial
  ·rw[hl,qa];simp
  ·have:=hrs r hr;omega
 refine⟨_,U,_,_,U,U,Yd,_,_,U,U,_,U,bc (λ_=>?_) (λ_=>?_)⟩
 ·refine⟨_,U,_,U,_,U,_,U,_,U,lt,lg,lm,ts,gs,Ut,Ug,m,wd,n,U,P0.t,P0.g,P0.l,P0.ne,P0.pt,P0.pg,Yk,⟨Yk,Yk⟩,⟨n0,n1⟩,λH1 p1 ins ts1 gs1 m1 f1 t1 g1 l1 h1 e1 il pt1 pg1 a1 b1=>?_⟩;have pi:bv m1 ins:=pt1.sub ((List.sublist_append_right Ut ins).trans (List.sublist_append_left _ _));have P1:bM H1 lt lg lm (Ut++ins) Ug ts1 gs1 m1:=⟨t1,g1,l1,P0.ne,pt1,pg1⟩;dsimp only[aI];refine⟨_,U,_,U,_,U,_,U,_,_,U,U,⟨Yd,Yd⟩,lg,lt,lm,gs1,ts1,Ug,Ut++ins,m1,1,n / 31,U,g1,t1,l1,P1.swap.ne,pg1,pt1,Yk,⟨Yk,Yk⟩,n31,λH2 p2 outs gs2 ts2 m2 f2 g2 t2 l2 h2 e2 ol pg2 pt2 a2 b2=>?_⟩;have po:bv m2 outs:=pg2.sub ((List.sublist_append_right Ug outs).trans (List.sublist_append_left _ _));have P2:bM H2 lt lg lm (Ut++ins) (Ug++outs) ts2 gs2 m2:=⟨t2,g2,l2,P0.ne,pt2,pg2⟩;have sh:a9 (bP lt lg lm H) (bP lt lg lm H2):=(dc f1).trans (dc λc o c1 c2 c3 h=>f2 c o c2 c1 c3 h);have k1:=(dc (H':=H2) λc o c1 c2 c3 h=>f2 c o c2 c1 c3 h) _ _ (P1.tup h1)
  obtain⟨o,rfl⟩:∃o,outs=[o]:=by
   match outs,ol with
   |[o],_=>exact⟨o,U⟩
   |[],z=>simp at z
   |_::_::_,z=>simp at z;omega
  refine⟨p2,_,_,_,U,U,SqT.of h2,U,?_⟩;dsimp only[aI];refine⟨_,U,_,_,U,U,⟨Yd,Yd⟩,_,_,U,U,Yd,_,U,_,U,_,_,_,U,⟨Yk,Yk⟩,Yk,λH3 v3 sd3 s3 rs3 ok3=>?_⟩;dsimp only[aI];refine⟨_,U,_,U,_,U,_,_,U,U,Yd,_,_,_,U,U,Yd,vm n,_,U,_,U,_,_,U,U,⟨Yd,Yd⟩,_,_,U,U,Yd,_,U,_,U,_,_,_,U,⟨Yk,Yk⟩,Yk,λH4 v4 sd4 s4 rs4 ok4=>⟨ln6,λpp hpp=>?_⟩⟩
  have fin:∀sg:Str,PyData.strOk sg=true->Q (V.ref pp) (upd H4 pp (.tup [.str "work",.ref p1,.int o,.str sg,v3,v4])):=λsg hsg=>by
   have s5:=(s3.trans s4).trans (a9.new hpp (.tup [.str "work",.ref p1,.int o,.str sg,v3,v4]));have P5:=P2.same s5;have sh5:=bM.hid (lt:=lt) (lg:=lg) (lm:=lm) s5;have side:∀{v:V}{sd:Sd},RS (upd H4 pp (.tup [.str "work",.ref p1,.int o,.str sg,v3,v4])) v sd->RS (bP lt lg lm (upd H4 pp (.tup [.str "work",.ref p1,.int o,.str sg,v3,v4]))) v sd:=λh=>h.keep λb ys hb=>P5.tup hb;refine q _ _ (.work ins o sg sd3 sd4) ts2 gs2 m2 (sh.trans sh5) P5 Yk Yk (.work (P5.tup af) (sh5 _ _ k1) (side ((rs3.same s4).same (a9.new hpp _))) (side (rs4.same (a9.new hpp _)))) ⟨Yk,?_,?_⟩ ⟨pi.fit.up Yk,po.fit⟩ hsg
   ·rw[show ins.length=wd.toNat by omega];exact ok3
   ·rw[show ins.length=wd.toNat by omega];exact ok4
  exact fin _ (vk n)
 refine⟨_,U,_,_,U,U,Yd,_,_,U,U,_,U,bc (λ_=>?_) (λ_=>?_)⟩
 ·refine⟨_,U,_,U,_,U,_,U,_,U,lt,lg,lm,ts,gs,Ut,Ug,m,wd,n,U,P0.t,P0.g,P0.l,P0.ne,P0.pt,P0.pg,Yk,⟨Yk,Yk⟩,⟨n0,n1⟩,λH1 p1 ins ts1 gs1 m1 f1 t1 g1 l1 h1 e1 il pt1 pg1 a1 b1=>?_⟩;have pi:bv m1 ins:=pt1.sub ((List.sublist_append_right Ut ins).trans (List.sublist_append_left _ _));have P1:bM H1 lt lg lm (Ut++ins) Ug ts1 gs1 m1:=⟨t1,g1,l1,P0.ne,pt1,pg1⟩;dsimp only[aI];have mb:IntMulOk 2 wd:=IntMulOk.of_right (intBits_le_64 Yk Yk);refine⟨_,U,_,U,_,U,_,U,_,_,U,U,mb,_,_,U,U,_,U,_,_,U,U,⟨Yd,Yd⟩,lg,lt,lm,gs1,ts1,Ug,Ut++ins,m1,2 * wd+1,n / 31,U,g1,t1,l1,P1.swap.ne,pg1,pt1,Yk,⟨Yk,Yk⟩,n31,λH2 p2 outs gs2 ts2 m2 f2 g2 t2 l2 h2 e2 ol pg2 pt2 a2 b2=>?_⟩;have po:bv m2 outs:=pg2.sub ((List.sublist_append_right Ug outs).trans (List.sublist_append_left _ _));have P2:bM H2 lt lg lm (Ut++ins) (Ug++outs) ts2 gs2 m2:=⟨t2,g2,l2,P0.ne,pt2,pg2⟩;have sh:a9 (bP lt lg lm H) (bP lt lg lm H2):=(dc f1).trans (dc λc o c1 c2 c3 h=>f2 c o c2 c1 c3 h);have k1:=(dc (H':=H2) λc o c1 c2 c3 h=>f2 c o c2 c1 c3 h) _ _ (P1.tup h1);obtain⟨A3,B3,t3,eo,lA,lB,cA,cB,cT,nA,nB⟩:=nj outs w0.1 ol;have f3:=tF (eo▸po.fit);dsimp only[aI];refine⟨_,U,_,U,_,_,U,U,⟨Yd,Yd⟩,_,U,_,_,U,U,Yk,_,U,_,U,_,U,p2,_,U,SqT.of h2,nA,λtA htA=>?_⟩;rw[cA];have sA:=a9.new htA (.tup (A3.map V.int));refine⟨_,U,_,U,_,U,_,U,_,_,U,U,mb,_,U,p2,_,U,SqT.of (sA _ _ h2),nB,λtB htB=>?_⟩;rw[cB];have sB:=a9.new htB (.tup (B3.map V.int));refine⟨_,U,_,U,_,_,U,U,mb,p2,_,_,_,U,U,SqT.of (sB _ _ (sA _ _ h2)),cT,ln6,λpp hpp=>?_⟩;have sp:=a9.new hpp (.tup [.str "choose",.ref p1,.int (n / 7 % wd),.ref tA,.ref tB,.int t3]);have s5:=(sA.trans sB).trans sp;have P5:=P2.same s5;have sh5:=bM.hid (lt:=lt) (lg:=lg) (lm:=lm) s5;have:=Qf (n / 7) (show 0<wd by omega);exact q _ _ (.choose ins (n / 7 % wd) A3 B3 t3) ts2 gs2 m2 (sh.trans sh5) (by rw[eo]at P5;exact P5) Yk Yk (.choose (P5.tup af) (sh5 _ _ k1) (P5.tup (sp _ _ (sB _ _ af))) (P5.tup (sp _ _ af))) ⟨Qa _ Yk,Yk,Yk,Yk,Yk⟩ ⟨pi.fit.up Yk,f3.1,f3.2.1⟩ trivial
 ·have mb:IntMulOk 2 wd:=IntMulOk.of_right (intBits_le_64 Yk Yk);refine⟨_,U,_,U,_,U,_,U,_,_,U,U,mb,_,_,U,U,_,U,lt,lg,lm,ts,gs,Ut,Ug,m,2 * wd+1,n,U,P0.t,P0.g,P0.l,P0.ne,P0.pt,P0.pg,Yk,⟨Yk,Yk⟩,⟨n0,n1⟩,λH1 p1 ins ts1 gs1 m1 f1 t1 g1 l1 h1 e1 il pt1 pg1 a1 b1=>?_⟩;have pi:bv m1 ins:=pt1.sub ((List.sublist_append_right Ut ins).trans (List.sublist_append_left _ _));have P1:bM H1 lt lg lm (Ut++ins) Ug ts1 gs1 m1:=⟨t1,g1,l1,P0.ne,pt1,pg1⟩;dsimp only[aI];refine⟨_,U,_,U,_,U,_,U,_,U,_,_,U,U,⟨Yd,Yd⟩,lg,lt,lm,gs1,ts1,Ug,Ut++ins,m1,wd,n / 31,U,g1,t1,l1,P1.swap.ne,pg1,pt1,Yk,⟨Yk,Yk⟩,n31,λH2 p2 outs gs2 ts2 m2 f2 g2 t2 l2 h2 e2 ol pg2 pt2 a2 b2=>?_⟩;have po:bv m2 outs:=pg2.sub ((List.sublist_append_right Ug outs).trans (List.sublist_append_left _ _));have P2:bM H2 lt lg lm (Ut++ins) (Ug++outs) ts2 gs2 m2:=⟨t2,g2,l2,P0.ne,pt2,pg2⟩;have sh:a9 (bP lt lg lm H) (bP lt lg lm H2):=(dc f1).trans (dc λc o c1 c2 c3 h=>f2 c o c2 c1 c3 h);have k1:=(dc (H':=H2) λc o c1 c2 c3 h=>f2 c o c2 c1 c3 h) _ _ (P1.tup h1);have h1':=ja _ _ k1;obtain⟨A3,B3,t3,eo,lA,lB,cA,cB,cT,nA,nB⟩:=nj ins w0.1 il;have f3:=tF (eo▸pi.fit);dsimp only[aI];refine⟨_,U,_,U,_,_,U,U,mb,p1,_,_,_,U,U,SqT.of h1',cT,?_⟩;refine⟨_,U,_,U,_,U,p1,_,U,SqT.of h1',nA,λtA htA=>?_⟩;rw[cA];have sA:=a9.new htA (.tup (A3.map V.int));refine⟨_,U,_,U,_,U,_,U,_,_,U,U,mb,_,U,p1,_,U,SqT.of (sA _ _ h1'),nB,λtB htB=>?_⟩;rw[cB];have sB:=a9.new htB (.tup (B3.map V.int));refine⟨_,U,ln5,λpp hpp=>?_⟩;have sp:=a9.new hpp (.tup [.str "merge",.int t3,.ref tA,.ref tB,.ref p2]);have s5:=(sA.trans sB).trans sp;have P5:=P2.same s5;have sh5:=bM.hid (lt:=lt) (lg:=lg) (lm:=lm) s5;have u:=f3.2.2;exact q _ _ (.merge t3 A3 B3 outs) ts2 gs2 m2 (sh.trans sh5) (by rw[eo]at P5;exact P5) Yk Yk (.merge (P5.tup af) (P5.tup (sp _ _ (sB _ _ af))) (P5.tup (sp _ _ af)) (sh5 _ _ (P2.tup h2))) ⟨Yk,Yk,Yk⟩ ⟨u.1.up Yk,u.2.up Yk,po.fit⟩ trivial
theorem RRs.snoc{H:Hp}{v:V}{r:PR}(h:RR H v r):∀{vs:List V}{rs:List PR},RRs H vs rs->RRs H (vs++[v]) (rs++[r])
 |_,_,.nil=>.cons h .nil
 |_,_,.cons a b=>.cons a (RRs.snoc h b)
theorem rC(m:Nat):bv m ((List.range m).map λk:Nat=>(k:Int)):=by
 refine⟨List.nodup_iff_pairwise_ne.mpr (List.pairwise_map.mpr ((List.nodup_iff_pairwise_ne.mp List.nodup_range).imp λh e=>h Yk)),λx hx=>?_⟩;obtain⟨k,hk,rfl⟩:=List.mem_map.mp hx;have:=List.mem_range.mp hk;omega
inductive oi(K:W.Frag)(vs:List V)(H:Hp)(Q:VK)(E:XK):Prop
 |mk (l:Addr) (ns:List Int) (h0_:vs=[.ref l]) (h1_:SqL K H l (ns.map V.int)) (h2_:ns.length<=63) (h3_:∀H' t ll lp us ps xs rs,a9 H H'->H' t=some (.tup [.ref ll,.ref lp])->H' ll=some (.lst us)->RLn H' us xs->H' lp=some (.lst ps)->RRs H' ps rs->rs.length<=16->xs.length<=1000->(∀x∈xs,x.2.length<=4/\∀n∈x.2,OnW n)->(∀r∈rs,r.ok/\r.fit xs.length)->(∀r∈rs,r.sgOk)->(rs.flatMap cu).Nodup->(rs.flatMap lW).Nodup->Q (.ref t) H'):oi K vs H Q E
theorem yc(T:Tx P w K mg a):aA P w K mg base CX0 4 a.Dw a.Dx ["_law_script"] (oi K):=by
 refine T.EJ.ok eO (λvs H Q E h=>?_) (λcdv A outer s H vs Q E hr h=>?_)
 ·obtain⟨_,_,rfl,_⟩:=h
  rfl
 obtain⟨l,ns,rfl,hl,n63,q⟩:=h
 refine⟨_,(ae (aT (i:=1) eO.nd U Oi (lK (pq 0) (cg aa) (cg aa) (cg aa)))
  (ae (aT (i:=2) eO.nd U (Or.inr U) (bn (a8 (ai bx aa (ai aW (aQ (gy T) (hr.mono Yd) U T.BA T.Bu.kp T.Bz .nil ar (a8 (aQ (lP T) (hr.mono Yd) U T.Ec T.BM.kp T.Eb .nil ar (a8 (pq 0) (a8 aa ac))) (a8 aa ac))) aa)) ac)))
  (ae (aT (i:=3) eO.nd U (Or.inr U) (bY (k:=1) (Nc:=["_law_k"]) (js:=[]) (show aK (am fw) ["_law_script","_law_cells","_law_many","_law_takers","_law_givers","_law_parts","_law_seeds","_law_lines"] _ 1 ["_law_k"] []from aK.mk U (by decide +kernel) (by decide +kernel) (by decide +kernel) U (by decide +kernel)) U (dm U T.xz (a8 (ag aN (pq 2) aa Oy) ac)) (λ_ _ _ _ _=>(aP (i:=0) (show List.Nodup (["_law_k"]:List Str)from by decide +kernel) U Oi)) (λ_ _ _ _ _=>bJ) (λ_ _ _ _ _=>(pq 0))))
  (ae (aT (i:=4) eO.nd U (Or.inr U) (bY (k:=1) (Nc:=["_law_k"]) (js:=[]) (show aK (am fw) ["_law_script","_law_cells","_law_many","_law_takers","_law_givers","_law_parts","_law_seeds","_law_lines"] _ 1 ["_law_k"] []from aK.mk U (by decide +kernel) (by decide +kernel) (by decide +kernel) U (by decide +kernel)) U (dm U T.xz (a8 (ag aN (pq 2) aa Oy) ac)) (λ_ _ _ _ _=>(aP (i:=0) (show List.Nodup (["_law_k"]:List Str)from by decide +kernel) U Oi)) (λ_ _ _ _ _=>bJ) (λ_ _ _ _ _=>(pq 0))))
  (ae (eV (i:=5) eO.nd U Oi (k:=2) (Nc:=["_law_k","_law_cell_here","_law_takers","_law_givers","_law_many"]) (js:=[3,4,2]) (show aK (am fw) ["_law_script","_law_cells","_law_many","_law_takers","_law_givers","_law_parts","_law_seeds","_law_lines"] _ 2 ["_law_k","_law_cell_here","_law_takers","_law_givers","_law_many"] [3,4,2]from aK.mk U (by decide +kernel) (by decide +kernel) (by decide +kernel) U (by decide +kernel)) U (lJ U T.Ej (a8 (pq 1) ac)) (λ_ _ _ _ _=>(hV 2 U (cs (aP (i:=0) (show List.Nodup (["_law_k","_law_cell_here","_law_takers","_law_givers","_law_many"]:List Str)from by decide +kernel) U Oi) (cs (aP (i:=1) (show List.Nodup (["_law_k","_law_cell_here","_law_takers","_law_givers","_law_many"]:List Str)from by decide +kernel) U Oi) ef)))) (λ_ _ _ _ _=>bJ) (λ_ _ _ _ _=>(aQ (y8 T) (hr.mono Yd) U T.Hc T.EI.kp T.Ha .nil ar (a8 (pq 1) (a8 (pq 0) (a8 (pq 2) (a8 (pq 3) (a8 (pq 4) ac))))))))
  (ae (aT (i:=6) eO.nd U (Or.inr U) (ai hE (lK (pq 0) (cg aa) (cg aa) (cg aa)) (bn (a8 (aQ (lP T) (hr.mono Yd) U T.Ec T.BM.kp T.Eb .nil ar (a8 (pq 0) (a8 aa ac))) ac))))
  (ae (eV (i:=7) eO.nd U Oi (k:=1) (Nc:=["_law_k","_law_seeds"]) (js:=[6]) (show aK (am fw) ["_law_script","_law_cells","_law_many","_law_takers","_law_givers","_law_parts","_law_seeds","_law_lines"] _ 1 ["_law_k","_law_seeds"] [6]from aK.mk U (by decide +kernel) (by decide +kernel) (by decide +kernel) U (by decide +kernel)) U (dm U T.xz (a8 (ag aN (pq 2) aa Oy) ac)) (λ_ _ _ _ _=>(aP (i:=0) (show List.Nodup (["_law_k","_law_seeds"]:List Str)from by decide +kernel) U Oi)) (λ_ _ _ _ _=>bJ) (λ_ _ _ _ _=>(aQ (ye T) (hr.mono Yd) U T.GZ T.EF.kp T.GY .nil ar (a8 (ag (fB (K:=K) U) (pq 1) (ai aW (pq 0) (bh (wF (K:=K) U) U T.ld Q8 (a8 (pq 1) ac))) Oy) (a8 (pq 0) ac)))))
  (ah (ak (bI (a8 (pq 7) (a8 (pq 5) ac)))))))))))),?_⟩
 obtain⟨ys,ey,yl⟩:=lH ns (some 4) (some 52) (some 3);have y16:ys.length<=16:=by rw[yl];exact lI Yd Yd
 refine⟨_,U,_,U,_,U,_,U,l,_,U,hl,Yd,bb (m:=100) (by rw[<- yl];omega),λp hp=>?_⟩;rw[ey];have s1:=a9.new hp (.lst (ys.map V.int));have hp1:upd H p (.lst (ys.map V.int)) p=some (.lst (ys.map V.int)):=af;generalize upd H p (.lst (ys.map V.int))=H1 at s1 hp1 ⊢;dsimp only[aI];have hl1:=s1.seq hl;refine⟨_,U,l,ns,1,U,hl1,Yd,λc0=>⟨c0,1,U,⟨Yd,Yd⟩,λm m0 m1=>⟨_,_,U,U,Yd,_,_,U,U,ln1,λlm hlm=>?_⟩⟩⟩;obtain⟨mn,emn,mn5⟩:∃mn:Nat,2+m % 4=(mn:Int)/\mn<=5:=⟨(2+m % 4).toNat,Yk,Yk⟩;rw[emn];have s2:=a9.new hlm (.lst [V.int (mn:Int)]);have hm2:upd H1 lm (.lst [V.int (mn:Int)]) lm=some (.lst [V.int (mn:Int)]):=af;have hlmH:=a9.none s1 hlm;generalize upd H1 lm (.lst [V.int (mn:Int)])=H2 at s2 hm2 ⊢;dsimp only[aI];refine⟨_,U,lm,_,_,_,U,U,SqL.of hm2,U,_,U,Yk,Yk,?_⟩;refine dW (λi ys σ G=>(∃v,σ=[v])/\G=H2/\ys=((List.range i).map λk:Nat=>(k:Int)).map V.int) ⟨⟨none,U⟩,U,U⟩ ?_ (bb (m:=100) Yk) ?_ ?_
 ·rintro i ys σ G _ ⟨_,_,rfl⟩;simp
 ·rintro i ys σ G hi ⟨⟨v,rfl⟩,rfl,rfl⟩;exact⟨_,U,⟨_,U⟩,U,by rw[List.range_succ,qP,qP];rfl⟩
 rintro ys0 σ0 G0 ⟨_,eG,rfl⟩ lt hlt;rw[eG]at hlt ⊢;dsimp only[aI];have ht3:upd H2 lt (.lst (((List.range mn).map λk:Nat=>(k:Int)).map V.int)) lt=some (.lst (((List.range mn).map λk:Nat=>(k:Int)).map V.int)):=af;have s3:=a9.new hlt (.lst (((List.range mn).map λk:Nat=>(k:Int)).map V.int));have n1:lm≠lt:=λz=>by rw[z,hlt]at hm2;cases hm2
 rw[qY];generalize upd H2 lt (.lst (((List.range mn).map λk:Nat=>(k:Int)).map V.int))=H3 at s3 ht3 ⊢;refine⟨_,U,lm,_,_,_,U,U,SqL.of (s3 _ _ hm2),U,_,U,Yk,Yk,?_⟩;refine dW (λi ys σ G=>(∃v,σ=[v])/\G=H3/\ys=((List.range i).map λk:Nat=>(k:Int)).map V.int) ⟨⟨none,U⟩,U,U⟩ ?_ (bb (m:=100) Yk) ?_ ?_
 ·rintro i ys σ G _ ⟨_,_,rfl⟩;simp
 ·rintro i ys σ G hi ⟨⟨v,rfl⟩,rfl,rfl⟩;exact⟨_,U,⟨_,U⟩,U,by rw[List.range_succ,qP,qP];rfl⟩
 rintro ys0 σ0 G1 ⟨_,eG,rfl⟩ lg hlg;rw[eG]at hlg ⊢;dsimp only[aI];have s4:=a9.new hlg (.lst (((List.range mn).map λk:Nat=>(k:Int)).map V.int));have n2:lt≠lg:=λz=>by rw[z,hlg]at ht3;cases ht3
 have n3:lm≠lg:=λz=>by have:=s3 _ _ hm2;rw[z,hlg]at this;cases this
 rw[qY];have P0:bM (upd H3 lg (.lst (((List.range mn).map λk:Nat=>(k:Int)).map V.int))) lt lg lm [] [] _ _ mn:=⟨s4 _ _ ht3,af,s4 _ _ (s3 _ _ hm2),⟨n2,Ne.symm n1,Ne.symm n3⟩,rC mn,rC mn⟩;have hp4:=s4 _ _ (s3 _ _ (s2 _ _ hp1));have np:p≠lt/\p≠lg/\p≠lm:=⟨λz=>(by have:=s2 _ _ hp1;rw[z,hlt]at this;cases this),λz=>(by have:=s3 _ _ (s2 _ _ hp1);rw[z,hlg]at this;cases this),λz=>(by rw[z,hlm]at hp1;cases hp1)⟩
 have sH:a9 H (bP lt lg lm (upd H3 lg (.lst (((List.range mn).map λk:Nat=>(k:Int)).map V.int)))):=λc o h=>by
  have h1:=s1 _ _ h;have h2:=s2 _ _ h1;have h3:=s3 _ _ h2;refine jb (λz=>?_) (λz=>?_) (λz=>?_) (s4 _ _ h3)
  ·rw[z,hlt]at h2;cases h2
  ·rw[z,hlg]at h3;cases h3
  ·rw[z,hlm]at h1;cases h1
 have hp5:bP lt lg lm (upd H3 lg (.lst (((List.range mn).map λk:Nat=>(k:Int)).map V.int))) p=_:=jb np.1 np.2.1 np.2.2 hp4;generalize upd H3 lg (.lst (((List.range mn).map λk:Nat=>(k:Int)).map V.int))=H4 at P0 sH hp4 hp5 ⊢;refine⟨_,U,p,_,U,SqL.of hp4,?_⟩;refine tR (K:=K) (l:=p) (xs:=ys.map V.int) (λi zs σ G=>(∃v v',σ=[v,v',some (.ref lt),some (.ref lg),some (.ref lm)])/\∃ts gs m rs,bM G lt lg lm (rs.flatMap cu) (rs.flatMap lW) ts gs m/\a9 (bP lt lg lm H4) (bP lt lg lm G)/\m<=5+10 * i/\i<=16/\RRs (bP lt lg lm G) zs rs/\rs.length=i/\(∀r∈rs,r.ok/\r.fit m)/\∀r∈rs,r.sgOk) ⟨⟨_,_,U⟩,_,_,mn,[],P0,a9.refl _,Yk,qu _,.nil,U,λ_ h=>(nomatch h),λ_ h=>(nomatch h)⟩ ?_ (bb (m:=100) (by rw[qa];omega)) ?_ ?_ ?_
 ·rintro i zs σ G ⟨_,ts,gs,m,rs,P,s5,m5,i16,rr,e,_⟩;rw[rr.len,e];exact qf _
 ·rintro i zs σ G ⟨_,ts,gs,m,rs,P,s5,_⟩;exact SqL.of (ja _ _ (s5 _ _ hp5))
 ·rintro i x zs σ G pt hx ⟨⟨v,v',rfl⟩,ts,gs,m,rs,P,s5,m5,i16,rr,e,okr,sgr⟩ hpt;rw[qF]at hx;obtain⟨n,hn,rfl⟩:=qQ.mp hx;have il:=(qg.mp hn).1;refine⟨pt,_,U,SqT.of af,U,_,_,U,_,_,U,U,?_⟩;have sp:=a9.new hpt (.tup [.int (i:Int),.int n]);refine⟨_,U,_,U,_,U,_,U,_,U,n,i,lt,lg,lm,_,_,ts,gs,m,U,⟨Yk,Yk⟩,P.same sp,Yk,λG2 v2 r ts2 gs2 m2 s6 P2 ml mu rr2 ok2 ft2 sg2=>?_⟩;have s7:=(bM.hid (lt:=lt) (lg:=lg) (lm:=lm) sp).trans s6;refine⟨⟨_,_,U⟩,ts2,gs2,m2,rs++[r],(by rw[qV,qV,List.flatMap_singleton,List.flatMap_singleton];exact P2),s5.trans s7,Yk,Yk,(rr.same s7).snoc rr2,by rw[qc,e];rfl,λr' hr'=>?_,λr' hr'=>?_⟩
  ·rcases qi.mp hr' with h|h
   ·exact⟨(okr r' h).1,PR.fit_up ml (okr r' h).2⟩
   ·rw[qT.mp h];exact⟨ok2,ft2⟩
  ·rcases qi.mp hr' with h|h
   ·exact sgr r' h
   ·rw[qT.mp h];exact sg2
 rintro zs σ G ⟨_,ts,gs,m,rs,P,s5,m5,i16,rr,e,okr,sgr⟩ l5 hl5;rw[qa]at m5 i16 e;have sl5:=a9.new hl5 (.lst zs);have sG:a9 H (upd G l5 (.lst zs)):=(sH.trans (s5.trans ja)).trans sl5;have rr5:=(rr.same ja).same sl5;have hm5:=sl5 _ _ P.l;have h55:upd G l5 (.lst zs) l5=some (.lst zs):=af;generalize upd G l5 (.lst zs)=H5 at sG rr5 hm5 h55 ⊢;dsimp only[aI];obtain⟨ys2,ey2,yl2⟩:=lH ns (some 5) (some 53) (some 3);have z16:ys2.length<=16:=by rw[yl2];exact lI Yd Yd
 refine⟨_,U,_,U,_,U,_,U,l,_,U,sG.seq hl,Yd,bb (m:=100) (by rw[<- yl2];omega),λp6 hp6=>?_⟩;rw[ey2];have s6:=a9.new hp6 (.lst (ys2.map V.int));refine⟨_,U,l,ns,0,U,s6.seq (sG.seq hl),Yd,λc1=>⟨ln1,λp7 hp7=>?_⟩⟩;have s7:=a9.new hp7 (.lst [.int c1]);refine⟨p6,p7,_,_,U,U,SqL.of (s7 _ _ af),SqL.of af,bb (m:=100) (by rw[qa,Q7];omega),λp8 hp8=>?_⟩;have s8:=a9.new hp8 (.lst (ys2.map V.int++[.int c1]));have s58:=s6.trans (s7.trans s8);have h88:upd (upd (upd H5 p6 (.lst (ys2.map V.int))) p7 (.lst [.int c1])) p8 (.lst (ys2.map V.int++[.int c1])) p8=some (.lst ((ys2++[c1]).map V.int)):=by rw[af,qP];rfl
 generalize upd (upd (upd H5 p6 (.lst (ys2.map V.int))) p7 (.lst [.int c1])) p8 (.lst (ys2.map V.int++[.int c1]))=H8 at s58 h88 ⊢;dsimp only[aI];have zl:(ys2++[c1]).length<=17/\0<(ys2++[c1]).length:=by rw[qc,Q7];omega
 generalize ys2++[c1]=sd at h88 zl;refine⟨_,U,lm,_,_,_,U,U,SqL.of (s58 _ _ hm5),U,_,U,Yk,Yk,?_⟩;refine dW (λi ys σ G=>(∃v,σ=[v,some (.ref p8)])/\a9 H8 G/\∃xs:List Ln,RLn G ys xs/\xs.length=i/\∀x∈xs,x.2.length<=4/\∀n∈x.2,OnW n) ⟨⟨none,U⟩,a9.refl _,[],.nil,U,λ_ h=>(nomatch h)⟩ ?_ (bb (m:=1000) Yk) ?_ ?_
 ·rintro i ys σ G _ ⟨_,_,xs,r,h,_⟩;rw[r.len,h];exact qf _
 ·rintro i ys σ G hi ⟨⟨v,rfl⟩,sg,xs,r,h,ok⟩;have ms:i % sd.length<sd.length:=Nat.mod_lt _ zl.2
  have e2:atI (sd.map V.int) ((i:Int) % ((sd.map V.int).length:Nat))=some (.int sd[i % sd.length]):=by
   rw[qa,<- Int.natCast_emod];exact bT (by rw[qF,qd ms];rfl)
  refine⟨_,U,_,U,_,U,p8,_,U,.inl (SqL.of (sg _ _ h88)),_,_,U,U,by rw[qa];omega,p8,_,_,_,U,U,SqL.of (sg _ _ h88),e2,_,U,_,_,U,⟨Yk,Yk⟩,λG' pl tl x s' h1 h2 x4 xo=>?_⟩;refine⟨⟨_,U⟩,sg.trans s',xs++[x],RLn.snoc h1 h2 (r.same s'),by rw[qc,h];rfl,λy hy=>?_⟩;rcases qi.mp hy with hy|hy
  ·exact ok y hy
  ·rw[qT.mp hy];exact⟨x4,xo⟩
 rintro us σ G9 ⟨_,s9,xs,rl,xl,okx⟩ l9 hl9;have sl9:=a9.new hl9 (.lst us);have h99:upd G9 l9 (.lst us) l9=some (.lst us):=af;have s5x:=s58.trans (s9.trans sl9);have rl9:=rl.same sl9;generalize upd G9 l9 (.lst us)=H9 at s5x h99 rl9 ⊢;dsimp only[aI];have xm:xs.length=m:=by rw[xl];exact qY m
 refine⟨_,U,_,U,ln2,λt ht=>?_⟩;have st:=a9.new ht (.tup [.ref l9,.ref l5]);exact q _ t l9 l5 us zs xs rs (sG.trans (s5x.trans st)) af (st _ _ h99) (rl9.same st) (st _ _ (s5x _ _ h55)) ((rr5.same s5x).same st) Yk Yk okx (by rw[xm];exact okr) sgr (P.pt.nd.sublist (List.sublist_append_left _ _)) (P.pg.nd.sublist (List.sublist_append_left _ _))
theorem eJ{xs:List Int}{i:Nat}(h:i<xs.length):atI (xs.map V.int) (i:Int)=some (.int xs[i]):=bT (by rw[qF,qd h];rfl)
theorem yd(T:Tx P w K mg a):aA P w K mg base CX0 3 a.DE a.DF ["_law_row","_law_things"] om:=by
 refine T.EO.ok pG (λvs H Q E h=>?_) (λcdv A outer s H vs Q E hr h=>?_)
 ·obtain⟨_,_,_,_,rfl,_⟩:=h
  rfl
 obtain⟨v,l,r,xs,rfl,hrow,ok,hl,wide,on,k⟩:=h
 refine⟨_,(ae (aD (ap ba (ag au (pq 0) aa Oy) bg (ao _)) (ah (ak (bY (k:=1) (Nc:=["_law_k","_law_things","_law_row"]) (js:=[1,0]) (show aK (am fA) ["_law_row","_law_things","_law_a"] _ 1 ["_law_k","_law_things","_law_row"] [1,0]from aK.mk U (by decide +kernel) (by decide +kernel) (by decide +kernel) U (by decide +kernel)) U (dm U T.xz (a8 (bh bG U T.ld Q8 (a8 (ag au (pq 0) aa Oy) ac)) ac)) (λ_ _ _ _ _=>(aP (i:=0) (show List.Nodup (["_law_k","_law_things","_law_row"]:List Str)from by decide +kernel) U Oi)) (λ_ _ _ _ _=>bJ) (λ_ _ _ _ _=>(bI (a8 (ag (cL (K:=K) U) (ag (cL (K:=K) U) (pq 2) aa Oy) (pq 0) Oy) (a8 (ag (fB (K:=K) U) (pq 1) (ag (cL (K:=K) U) (ag (cL (K:=K) U) (pq 2) aa Oy) (pq 0) Oy) Oy) ac))))))) aF)
  (ae (aD (ap ba (ag au (pq 0) aa Oy) bg (ao _)) (ae (aT (i:=2) pG.nd U Oi (aQ (rN T) (hr.mono Yd) U T.EN T.Ef.kp T.EM .nil ar (a8 (ag au (pq 0) aa Oy) (a8 (pq 1) ac))))
  (ah (ak (bn (a8 (bI (a8 (ag au (pq 0) aa Oy) (a8 (aQ (y4 T) (hr.mono Yd) U T.GV T.ED.kp T.GU .nil ar (a8 (ag au (pq 0) aa Oy) (a8 (pq 2) (a8 (aQ (rN T) (hr.mono Yd) U T.EN T.Ef.kp T.EM .nil ar (a8 (ag au (pq 0) aa Oy) (a8 (pq 1) ac))) ac)))) ac))) ac))))) aF)
  (ae (aD (ap ba (ag au (pq 0) aa Oy) bg (ao _)) (ah (ak (bY (k:=1) (Nc:=["_law_k","_law_things","_law_row"]) (js:=[1,0]) (show aK (am fA) ["_law_row","_law_things","_law_a"] _ 1 ["_law_k","_law_things","_law_row"] [1,0]from aK.mk U (by decide +kernel) (by decide +kernel) (by decide +kernel) U (by decide +kernel)) U (dm U T.xz (a8 (bh bG U T.ld Q8 (a8 (ag au (pq 0) aa Oy) ac)) ac)) (λ_ _ _ _ _=>(aP (i:=0) (show List.Nodup (["_law_k","_law_things","_law_row"]:List Str)from by decide +kernel) U Oi)) (λ_ _ _ _ _=>bJ) (λ_ _ _ _ _=>(bI (a8 (ag (cL (K:=K) U) (ag (cL (K:=K) U) (pq 2) aa Oy) (pq 0) Oy) (a8 (ag (fB (K:=K) U) (pq 1) (ai bx aa (pq 0)) Oy) ac))))))) aF)
  (ae (aD (ap ba (ag aN (pq 1) (ag au (pq 0) aa Oy) Oy) aa (ao _)) (ah (ak (ai hE (bY (k:=1) (Nc:=["_law_k","_law_things","_law_row"]) (js:=[1,0]) (show aK (am fA) ["_law_row","_law_things","_law_a"] _ 1 ["_law_k","_law_things","_law_row"] [1,0]from aK.mk U (by decide +kernel) (by decide +kernel) (by decide +kernel) U (by decide +kernel)) U (dm U T.xz (a8 (bh bG U T.ld Q8 (a8 (pq 1) ac)) ac)) (λ_ _ _ _ _=>(aP (i:=0) (show List.Nodup (["_law_k","_law_things","_law_row"]:List Str)from by decide +kernel) U Oi)) (λ_ _ _ _ _=>bJ) (λ_ _ _ _ _=>(bI (a8 (ag (cL (K:=K) U) (ag (cL (K:=K) U) (pq 2) aa Oy) (pq 0) Oy) (a8 (ag (fB (K:=K) U) (pq 1) (pq 0) Oy) ac))))) (bn (a8 (bI (a8 (ag au (pq 0) aa Oy) (a8 aa ac))) ac))))) aF)
  (ah (ak (ai hE (bY (k:=1) (Nc:=["_law_k","_law_things","_law_row"]) (js:=[1,0]) (show aK (am fA) ["_law_row","_law_things","_law_a"] _ 1 ["_law_k","_law_things","_law_row"] [1,0]from aK.mk U (by decide +kernel) (by decide +kernel) (by decide +kernel) U (by decide +kernel)) U (dm U T.xz (a8 (bh bG U T.ld Q8 (a8 (pq 1) ac)) ac)) (λ_ _ _ _ _=>(aP (i:=0) (show List.Nodup (["_law_k","_law_things","_law_row"]:List Str)from by decide +kernel) U Oi)) (λ_ _ _ _ _=>bJ) (λ_ _ _ _ _=>(bI (a8 (ag (cL (K:=K) U) (ag (cL (K:=K) U) (pq 2) aa Oy) (pq 0) Oy) (a8 (ag (fB (K:=K) U) (pq 1) (pq 0) Oy) ac))))) (bn (a8 (bI (a8 (ag au (pq 0) aa Oy) (a8 aa ac))) ac))))))))),?_⟩
 cases hrow with
 |pass h1 h2 h3 h4=>
  rename_i p t0 t1 t2 ins outs route;obtain⟨o1,o2,o3,o4⟩:=ok;change xs.length=ins.length at wide;refine⟨_,U,p,_,_,_,U,U,SqT.of h1,U,U,_,U,bo Qz ?_⟩;refine⟨_,U,p,_,_,_,U,U,SqT.of h1,U,t1,_,U,.inr (SqT.of h3),_,U,by rw[qa];omega,by rw[qa];omega,?_⟩;have nn:(((outs.map V.int).length:Nat):Int).toNat=outs.length:=by rw[qa];omega
  have lz:(outs.zip (route.map λr=>xs.getD r.toNat 0)).length=outs.length:=by rw[List.length_zip,qa];omega
  refine dW (λi ys σ H3=>(∃v,σ=[v,some (.ref l),some (.ref p)])/\a9 H H3/\RPs H3 ys ((outs.zip (route.map λr=>xs.getD r.toNat 0)).take i)) ⟨⟨none,U⟩,a9.refl _,.nil⟩ ?_ (bb (m:=100) (by rw[nn];omega)) ?_ ?_
  ·rintro i ys σ H3 _ ⟨_,_,r3⟩;rw[r3.len,qL];omega
  ·rintro i ys σ H3 hi ⟨⟨v,rfl⟩,s3,r3⟩;rw[nn]at hi;have hi2:i<route.length:=Yk;have zo:=o4 route[i] (List.getElem_mem hi2);refine⟨_,U,p,_,_,_,U,U,SqT.of (s3 _ _ h1),U,_,U,t1,_,_,_,U,U,SqT.of (s3 _ _ h3),eJ hi,?_⟩;refine⟨_,U,_,U,p,_,_,_,U,U,SqT.of (s3 _ _ h1),U,_,U,t2,_,_,_,U,U,SqT.of (s3 _ _ h4),eJ hi2,l,_,_,_,U,U,SqL.of (s3 _ _ hl),fZ zo.1 Yk,ln2,λt ht=>⟨⟨_,U⟩,s3.trans (a9.new ht _),?_⟩⟩;have e:(outs.zip (route.map λr=>xs.getD r.toNat 0))[i]?=some (outs[i],xs.getD route[i].toNat 0):=List.getElem?_zip_eq_some.mpr ⟨qd hi,by rw[qF,qd hi2];rfl⟩;rw[qt,e];exact RPs.snoc (x:=(outs[i],xs.getD route[i].toNat 0)) af (r3.same (a9.new ht _))
  rintro ys σ3 H3 ⟨_,s3,r3⟩ l' hl';rw[nn,<- lz,qI]at r3;exact k _ l' ys (s3.trans (a9.new hl' _)) af (r3.same (a9.new hl' _)) (a9.none s3 hl')
 |work h1 h2 h3 h4=>
  rename_i p t0 ins out sg sa sb sl sr;obtain⟨_,o1,o2⟩:=ok;change xs.length=ins.length at wide;rw[<- wide]at o1 o2;refine⟨_,U,p,_,_,_,U,U,SqT.of h1,U,U,_,U,aL Qz ?_⟩;refine⟨_,U,p,_,_,_,U,U,SqT.of h1,U,U,_,U,bo Qz ?_⟩;refine⟨_,U,p,_,_,_,U,U,SqT.of h1,U,_,U,sa,l,sl,xs,U,h3,o1,hl,?_⟩;refine⟨_,U,p,_,_,_,U,U,SqT.of h1,U,_,U,p,_,_,_,U,U,SqT.of h1,U,_,U,_,U,p,_,_,_,U,U,SqT.of h1,U,_,U,sb,l,sr,xs,U,h4,o2,hl,sg,_,_,U,fY o1 on,fY o2 on,ln2,λt ht=>⟨ln1,λl' hl'=>?_⟩⟩;exact k _ l' _ ((a9.new ht _).trans (a9.new hl' _)) af (.cons (a9.new hl' _ _ _ af) .nil) (a9.none (a9.new ht _) hl')
 |merge h1 h2 h3 h4=>
  rename_i p t1 t2 t3 told ones noughts outs;obtain⟨ok9,_,_⟩:=ok;change xs.length=1+outs.length at wide;refine⟨_,U,p,_,_,_,U,U,SqT.of h1,U,U,_,U,aL Qz ?_⟩;refine⟨_,U,p,_,_,_,U,U,SqT.of h1,U,U,_,U,aL Qz ?_⟩;refine⟨_,U,p,_,_,_,U,U,SqT.of h1,U,U,_,U,bo Qz ?_⟩;refine⟨_,U,p,_,_,_,U,U,SqT.of h1,U,t3,_,U,.inr (SqT.of h4),_,U,by rw[qa];omega,by rw[qa];omega,?_⟩;have nn:(((outs.map V.int).length:Nat):Int).toNat=outs.length:=by rw[qa];omega
  have lz:(outs.zip xs.tail).length=outs.length:=by rw[List.length_zip,List.length_tail];omega
  refine dW (λi ys σ H3=>(∃v,σ=[v,some (.ref l),some (.ref p)])/\a9 H H3/\RPs H3 ys ((outs.zip xs.tail).take i)) ⟨⟨none,U⟩,a9.refl _,.nil⟩ ?_ (bb (m:=100) (by rw[nn];omega)) ?_ ?_
  ·rintro i ys σ H3 _ ⟨_,_,r3⟩;rw[r3.len,qL];omega
  ·rintro i ys σ H3 hi ⟨⟨v,rfl⟩,s3,r3⟩;rw[nn]at hi;have hi2:1+i<xs.length:=Yk
   have e2:atI (xs.map V.int) (1+(i:Int))=some (.int xs[1+i]):=by
    have:=eJ (xs:=xs) hi2;rw[Int.natCast_add]at this;exact this
   refine⟨_,U,p,_,_,_,U,U,SqT.of (s3 _ _ h1),U,_,U,t3,_,_,_,U,U,SqT.of (s3 _ _ h4),eJ hi,?_⟩;refine⟨_,U,_,U,_,_,U,U,l,_,_,_,U,U,SqL.of (s3 _ _ hl),e2,ln2,λt ht=>⟨⟨_,U⟩,s3.trans (a9.new ht _),?_⟩⟩;have e:(outs.zip xs.tail)[i]?=some (outs[i],xs[1+i]):=List.getElem?_zip_eq_some.mpr ⟨qd hi,by rw[List.getElem?_tail,Nat.add_comm i 1];exact qd hi2⟩;rw[qt,e];exact RPs.snoc (x:=(outs[i],xs[1+i])) af (r3.same (a9.new ht _))
  rintro ys σ3 H3 ⟨_,s3,r3⟩ l' hl';rw[nn,<- lz,qI]at r3;exact k _ l' ys (s3.trans (a9.new hl' _)) af (r3.same (a9.new hl' _)) (a9.none s3 hl')
 |choose h1 h2 h3 h4=>
  rename_i p t0 t1 t2 ins ones noughts which told;obtain⟨o1,o2,o3,o4,o5⟩:=ok;change xs.length=ins.length at wide;refine⟨_,U,p,_,_,_,U,U,SqT.of h1,U,U,_,U,aL Qz ?_⟩;refine⟨_,U,p,_,_,_,U,U,SqT.of h1,U,U,_,U,aL Qz ?_⟩;refine⟨_,U,p,_,_,_,U,U,SqT.of h1,U,U,_,U,aL Qz ?_⟩;refine⟨_,U,_,U,p,_,_,_,U,U,SqT.of h1,U,l,_,_,_,U,U,SqL.of hl,fZ o1 Yk,U,_,U,?_⟩;have nn:(((xs.map V.int).length:Nat):Int).toNat=xs.length:=by rw[qa];omega
  have km:PR.made xs (.choose ins which ones noughts told)=if xs.getD which.toNat 0=0 then noughts.zip xs++[(told,0)]else ones.zip xs++[(told,1)]:=U;rw[km]at k;refine bc (λc=>?_) (λc=>?_)
  ·rw[Q1 (dJ c)]at k;refine⟨_,U,l,_,U,.inl (SqL.of hl),_,U,by rw[qa];omega,by rw[qa];omega,?_⟩;have lz:(noughts.zip xs).length=xs.length:=by rw[List.length_zip];omega
   refine dW (λi ys σ H3=>(∃v,σ=[v,some (.ref l),some (.ref p)])/\a9 H H3/\RPs H3 ys ((noughts.zip xs).take i)) ⟨⟨none,U⟩,a9.refl _,.nil⟩ ?_ (bb (m:=100) (by rw[nn];omega)) ?_ ?_
   ·rintro i ys σ H3 _ ⟨_,_,r3⟩;rw[r3.len,qL];omega
   ·rintro i ys σ H3 hi ⟨⟨v,rfl⟩,s3,r3⟩;rw[nn]at hi;have hi2:i<noughts.length:=Yk;refine⟨_,U,p,_,_,_,U,U,SqT.of (s3 _ _ h1),U,_,U,t2,_,_,_,U,U,SqT.of (s3 _ _ h4),eJ hi2,?_⟩;refine⟨_,U,_,U,l,_,_,_,U,U,SqL.of (s3 _ _ hl),eJ hi,ln2,λt ht=>⟨⟨_,U⟩,s3.trans (a9.new ht _),?_⟩⟩;have e:(noughts.zip xs)[i]?=some (noughts[i],xs[i]):=List.getElem?_zip_eq_some.mpr ⟨qd hi2,qd hi⟩;rw[qt,e];exact RPs.snoc (x:=(noughts[i],xs[i])) af (r3.same (a9.new ht _))
   rintro ys σ3 H3 ⟨_,s3,r3⟩ lz' hlz;rw[nn,<- lz,qI]at r3;have s4:=a9.new hlz (.lst ys);refine⟨_,U,p,_,_,_,U,U,SqT.of (s4 _ _ (s3 _ _ h1)),U,ln2,λt4 ht4=>⟨ln1,λl4 hl4=>?_⟩⟩;have s5:=(a9.new ht4 (.tup [.int told,.int 0])).trans (a9.new hl4 (.lst [.ref t4]));refine⟨lz',l4,ys,_,U,U,SqL.of (s5 _ _ af),SqL.of af,bb (m:=1000) (by rw[r3.len,lz,Q7];omega),λl5 hl5=>?_⟩;have s6:=a9.new hl5 (.lst (ys++[.ref t4]));exact k _ l5 _ (s3.trans (s4.trans (s5.trans s6))) af (RPs.same s6 (RPs.snoc (x:=(told,0)) (a9.new hl4 _ _ _ af) ((r3.same s4).same s5))) (a9.none (s3.trans (s4.trans s5)) hl5)
  ·rw[Q0 (dL c)]at k;refine⟨_,U,l,_,U,.inl (SqL.of hl),_,U,by rw[qa];omega,by rw[qa];omega,?_⟩;have lz:(ones.zip xs).length=xs.length:=by rw[List.length_zip];omega
   refine dW (λi ys σ H3=>(∃v,σ=[v,some (.ref l),some (.ref p)])/\a9 H H3/\RPs H3 ys ((ones.zip xs).take i)) ⟨⟨none,U⟩,a9.refl _,.nil⟩ ?_ (bb (m:=100) (by rw[nn];omega)) ?_ ?_
   ·rintro i ys σ H3 _ ⟨_,_,r3⟩;rw[r3.len,qL];omega
   ·rintro i ys σ H3 hi ⟨⟨v,rfl⟩,s3,r3⟩;rw[nn]at hi;have hi2:i<ones.length:=Yk;refine⟨_,U,p,_,_,_,U,U,SqT.of (s3 _ _ h1),U,_,U,t1,_,_,_,U,U,SqT.of (s3 _ _ h3),eJ hi2,?_⟩;refine⟨_,U,_,U,l,_,_,_,U,U,SqL.of (s3 _ _ hl),eJ hi,ln2,λt ht=>⟨⟨_,U⟩,s3.trans (a9.new ht _),?_⟩⟩;have e:(ones.zip xs)[i]?=some (ones[i],xs[i]):=List.getElem?_zip_eq_some.mpr ⟨qd hi2,qd hi⟩;rw[qt,e];exact RPs.snoc (x:=(ones[i],xs[i])) af (r3.same (a9.new ht _))
   rintro ys σ3 H3 ⟨_,s3,r3⟩ lz' hlz;rw[nn,<- lz,qI]at r3;have s4:=a9.new hlz (.lst ys);refine⟨_,U,p,_,_,_,U,U,SqT.of (s4 _ _ (s3 _ _ h1)),U,ln2,λt4 ht4=>⟨ln1,λl4 hl4=>?_⟩⟩;have s5:=(a9.new ht4 (.tup [.int told,.int 1])).trans (a9.new hl4 (.lst [.ref t4]));refine⟨lz',l4,ys,_,U,U,SqL.of (s5 _ _ af),SqL.of af,bb (m:=1000) (by rw[r3.len,lz,Q7];omega),λl5 hl5=>?_⟩;have s6:=a9.new hl5 (.lst (ys++[.ref t4]));exact k _ l5 _ (s3.trans (s4.trans (s5.trans s6))) af (RPs.same s6 (RPs.snoc (x:=(told,1)) (a9.new hl4 _ _ _ af) ((r3.same s4).same s5))) (a9.none (s3.trans (s4.trans s5)) hl5)
theorem rK(T:Tx P w K mg a):aA P w K mg base CX0 1 a.DG a.DH ["_law_row","_law_rows"] nR:=by
 refine T.Eg.ok vA (λvs H Q E h=>?_) (λcdv A outer s H vs Q E hr h=>?_)
 ·obtain⟨_,_,_,_,_,_,rfl,_⟩:=h
  rfl
 obtain⟨v,r,lr,f,ra,nl,rfl,hr',ok,ft,hl,hi,k⟩:=h
 refine⟨_,(ae (aD (ap gm (ag au (pq 0) aa Oy) bg (ao _)) (ah (ak (ag au (pq 0) aa Oy))) aF)
  (ae (aD (ap (fJ hr.units) (ag aN (pq 1) (ag au (pq 0) aa Oy) Oy) (bn ac) (ao _)) (ah (ak (bI (a8 (ag au (pq 0) aa Oy) ac)))) aF)
  (ae (aD (ap ba (ag aN (ag aN (pq 1) (ag au (pq 0) aa Oy) Oy) aa Oy) aa (ao _)) (ah (ak (ai lO (bI (a8 (ag au (pq 0) aa Oy) ac)) (ag au (pq 0) aa Oy)))) aF)
  (ah (ak (ai lO (bI (a8 (ag au (pq 0) aa Oy) ac)) (ag au (pq 0) aa Oy))))))),?_⟩
 cases hr' with
 |pass h1 h2=>exact⟨_,U,_,_,_,_,U,U,SqT.of h1,U,U,_,U,mh (jD Qz) ⟨_,U,_,_,_,_,U,U,SqT.of h1,U,k H _ (a9.refl _) h2⟩⟩
 |work h1 h2=>exact⟨_,U,_,_,_,_,U,U,SqT.of h1,U,U,_,U,mh (jD Qz) ⟨_,U,_,_,_,_,U,U,SqT.of h1,U,k H _ (a9.refl _) h2⟩⟩
 |choose h1 h2=>exact⟨_,U,_,_,_,_,U,U,SqT.of h1,U,U,_,U,mh (jD Qz) ⟨_,U,_,_,_,_,U,U,SqT.of h1,U,k H _ (a9.refl _) h2⟩⟩
 |merge h1 h2 h3=>
  rename_i p ta tb tc told ones noughts outs u;obtain⟨o1,o2,o3⟩:=ok;have t0:0<=told:=ft.1.lo _ qp;have t1:told<nl:=ft.1.hi _ qp;have lt:told.toNat<nl:=Yk;have hpr:=hi told.toNat lt;have e1:atI ((List.range nl).map λi=>V.ref (ra i)) told=some (.ref (ra told.toNat)):=gH t0 t1;refine⟨_,U,_,_,_,_,U,U,SqT.of h1,U,U,_,U,ii U ?_⟩;have kk:=k;simp only[bS]at kk;refine⟨_,U,_,U,_,_,_,_,U,U,SqT.of h1,U,lr,_,_,_,U,U,SqL.of hl,e1,qu _,λpe hpe=>?_⟩;have s1:=a9.new hpe (.lst []);refine⟨_,.list [],.lst (SqL.of (s1 _ _ hpr)) (dS _),.lst (SqL.of af) .nil,(Shp.lst (n:=0) (dZ _)).shaped Yd,Qz,_,U,?_⟩;generalize hrow:f told.toNat=row at kk hpr ⊢
  cases row with
  |nil=>
   refine bo Qz ?_;refine⟨_,U,_,_,_,_,U,U,SqT.of (s1 _ _ h1),U,ln1,λp6 hp6=>?_⟩;exact kk _ p6 (s1.trans (a9.new hp6 _)) af
  |cons x row=>
   refine aL U ?_;refine⟨_,U,_,U,_,_,_,_,U,U,SqT.of (s1 _ _ h1),U,lr,_,_,_,U,U,SqL.of (s1 _ _ hl),e1,ra told.toNat,_,_,_,U,U,SqL.of (s1 _ _ hpr),at0,U,_,U,?_⟩;dsimp only at kk;refine bc (λc=>?_) (λc=>?_)
   ·rw[Q1 (dJ c)]at kk;refine⟨_,U,_,_,_,_,U,U,SqT.of (s1 _ _ h1),U,ln1,λp6 hp6=>?_⟩;have s2:=s1.trans (a9.new hp6 (.tup [.int told]));refine⟨_,U,_,_,_,_,U,U,SqT.of (s2 _ _ h1),U,p6,tb,_,_,U,U,SqT.of af,SqT.of (s2 _ _ h3),by simp,bb (m:=1000) (by rw[qa,Q7];omega),λe=>?_,λ_ p7 hp7=>?_⟩
    ·rw[List.map_eq_nil_iff]at e;subst e;exact kk _ p6 s2 af
    ·exact kk _ p7 (s2.trans (a9.new hp7 _)) af
   ·rw[Q0 (dL c)]at kk;refine⟨_,U,_,_,_,_,U,U,SqT.of (s1 _ _ h1),U,ln1,λp6 hp6=>?_⟩;have s2:=s1.trans (a9.new hp6 (.tup [.int told]));refine⟨_,U,_,_,_,_,U,U,SqT.of (s2 _ _ h1),U,p6,ta,_,_,U,U,SqT.of af,SqT.of (s2 _ _ h2),by simp,bb (m:=1000) (by rw[qa,Q7];omega),λe=>?_,λ_ p7 hp7=>?_⟩
    ·rw[List.map_eq_nil_iff]at e;subst e;exact kk _ p6 s2 af
    ·exact kk _ p7 (s2.trans (a9.new hp7 _)) af
theorem y7(T:Tx P w K mg a):aA P w K mg base CX0 1 a.DI a.DJ ["_law_pace_here","_law_place","_law_many"] nY:=by
 refine T.ES.ok pD (λvs H Q E h=>?_) (λcdv A outer s H vs Q E hr h=>?_)
 ·obtain⟨_,_,_,_,rfl,_⟩:=h
  rfl
 obtain⟨v,pace,x,k,rfl,hp,q⟩:=h
 refine⟨_,(ae (aD (PW.pt (cM (ap gp (pq 0) cX (ao _)) (dk (ap (fJ hr.units) (pq 0) (bn ac) (ao _))))) (ah (ak aa)) aF)
  (ae (aT (i:=3) pD.nd U Oi (ag aN (pq 0) (ai aW (pq 1) (bh bG U T.ld Q8 (a8 (pq 0) ac))) Oy))
  (ae (aD (ap (fJ hr.units) (pq 3) (bn ac) (ao _)) (ah (ak aa)) aF)
  (ah (ak (ag aN (pq 3) (ai aW (pq 2) (bh bG U T.ld Q8 (a8 (pq 3) ac))) Oy)))))),?_⟩
 rcases hp with⟨rfl,rfl⟩|⟨pc,pv,rfl,hpc,ris⟩
 ·exact⟨_,U,U,_,U,md (bo U (q _ (a9.refl _)))⟩
 refine⟨_,U,U,_,U,dF ?_⟩;refine⟨_,U,qu _,λp1 hp1=>⟨_,.list [],.lst (SqL.of (a9.new hp1 _ _ _ hpc)) (ris.same (a9.new hp1 _)).dt,.lst (SqL.of af) .nil,(vn pace).shaped Yd,Qz,_,U,?_⟩⟩;have s1:=a9.new hp1 (.lst []);have pl:=ris.len
 cases hpace:pace with
 |nil=>
  subst hpace;exact bo Qz (q _ s1)
 |cons r0 rest=>
  refine aL U ?_;have n0:pace.length≠0:=by rw[hpace];simp
  have m1:x % pace.length<pace.length:=Nat.mod_lt _ Yk;obtain⟨pr,hu,hpr⟩:=ris.at _ _ (qd m1)
  have e1:atI pv ((x:Int) % (pv.length:Nat))=some (.ref pr):=by
   rw[pl,<- Int.natCast_emod];exact bT hu
  refine⟨_,U,_,U,_,U,pc,_,U,.inl (SqL.of (s1 _ _ hpc)),_,_,U,U,by rw[pl];omega,pc,_,_,_,U,U,SqL.of (s1 _ _ hpc),e1,?_⟩;dsimp only[aI];refine⟨_,U,qu _,λp2 hp2=>?_⟩;have s2:=a9.new hp2 (.lst []);have s12:=s1.trans s2;refine⟨_,.list [],.lst (SqL.of (s12 _ _ hpr)) (dS _),.lst (SqL.of af) .nil,(Shp.lst (n:=0) (dZ _)).shaped Yd,Qz,_,U,?_⟩
  have er:bw pace x k=if(pace[x % pace.length]).length=0 then 0 else(pace[x % pace.length]).getD (k % (pace[x % pace.length]).length) 0:=by
   unfold bw;rw[Q0 n0];show(if(pace.getD (x % pace.length) []).length=0 then 0 else(pace.getD (x % pace.length) []).getD (k % (pace.getD (x % pace.length) []).length) 0)=_;rw[qk,qd m1]
   rfl
  have q:=q _ s12;rw[er]at q;generalize pace[x % pace.length]=row at q hpr ⊢
  cases row with
  |nil=>exact bo Qz q
  |cons r1 row=>
   refine aL U ?_;have m2:k % (r1::row).length<(r1::row).length:=Nat.mod_lt _ (by simp)
   have e2:atI ((r1::row).map V.int) ((k:Int) % (((r1::row).map V.int).length:Nat))=some (.int ((r1::row).getD (k % (r1::row).length) 0)):=by
    rw[qa,<- Int.natCast_emod,qk,qd m2];exact eJ m2
   rw[Q0 (by simp)]at q;exact⟨_,U,_,U,_,U,pr,_,U,.inl (SqL.of (s12 _ _ hpr)),_,_,U,U,by simp,pr,_,_,_,U,U,SqL.of (s12 _ _ hpr),e2,q⟩
theorem y9(T:Tx P w K mg a):aA P w K mg base CX0 1 a.DK a.DL ["_law_things","_law_many"] o8:=by
 refine T.ET.ok jJ (λvs H Q E h=>?_) (λcdv A outer s H vs Q E hr h=>?_)
 ·obtain⟨_,_,_,_,rfl,_⟩:=h
  rfl
 obtain⟨l,us,ps,nl,rfl,hl,hp,ok,q⟩:=h
 refine⟨_,(ae (aD (cN (bZ (bh eU U T.Bs PyProof.Rows.Boot.«isinstance» (a8 (pq 0) (a8 (eY (v:=.ty "list") U T.Bp PyProof.Rows.Boot.«list» rfl) ac))))) (ah (ak br)) aF)
  (ae (cf PassesOwn.never U (bH (pq 0)) (aP (i:=2) jJ.nd U Oi)
  (ae (aD (PW.pt (cM (cN (bZ (bh eU U T.Bs PyProof.Rows.Boot.«isinstance» (a8 (pq 2) (a8 (eY (v:=.ty "tuple") U T.BG PyProof.Rows.Boot.«tuple» rfl) ac))))) (dk (ap gm (bh bG U T.ld Q8 (a8 (pq 2) ac)) aa (ao _))))) (ah (ak br)) aF)
  (ae (cf PassesOwn.never U (gu (pq 2)) (aP (i:=3) jJ.nd U Oi)
  (ah (aD (PW.pt (cM (cN (bZ (bh eU U T.Bs PyProof.Rows.Boot.«isinstance» (a8 (pq 3) (a8 (eY (v:=.ty "int") U T.Fg PyProof.Rows.Boot.«int» rfl) ac))))) (dk (bZ (bh eU U T.Bs PyProof.Rows.Boot.«isinstance» (a8 (pq 3) (a8 (eY (v:=.ty "bool") U T.Ff PyProof.Rows.Boot.«bool» rfl) ac))))))) (ah (ak br)) aF)))
  (ah (aD (PW.pt (cM (cN (rA iS di aa (ag au (pq 2) aa Oy) (pq 1))) (dk (cN (rA iS di aa (ag au (pq 2) aa Oy) (ai dz aa aa)))))) (ah (ak br)) aF)))))
  (ah (ak br)))),?_⟩
 refine⟨_,U,_,_,_,true,U,.lst hl,U,_,U,aL U ?_⟩;refine⟨_,U,l,U,⟨_,SqL.of hl⟩,?_⟩;refine df (K:=K) (a:=l) (xs:=us) (λi σ G=>(∃v2 v3,σ=[some (.ref l),some (.int nl),v2,v3])/\G=H) ⟨⟨_,_,U⟩,U⟩ ?_ ?_ ?_
 ·rintro i σ G _ ⟨_,rfl⟩;exact SqL.of hl
 ·rintro i x σ G hx ⟨⟨v2,v3,rfl⟩,rfl⟩;obtain⟨p,z,rfl,hz,hp'⟩:=hp.at hx;have o:=ok z (qA hz);dsimp only[aI];refine⟨_,U,_,_,_,true,U,.tup hp',U,_,U,dF ?_⟩;refine⟨_,U,p,_,U,.inr (SqT.of hp'),U,_,U,ii U ?_⟩;refine⟨_,U,p,U,⟨_,SqT.of hp'⟩,?_⟩;refine je (K:=K) (a:=p) (xs:=[.int z.1,.int z.2]) (λi σ G'=>(∃v3,σ=[some (.ref l),some (.int nl),some (.ref p),v3])/\G'=G) ⟨⟨_,U⟩,U⟩ ?_ ?_ ?_
  ·rintro i σ G' _ ⟨_,rfl⟩;exact SqT.of hp'
  ·rintro i y σ G' hy ⟨⟨v3,rfl⟩,rfl⟩
   obtain⟨y,rfl⟩:∃n:Int,y=.int n:=by
    match i,hy with
    |0,hy=>cases hy;exact⟨_,U⟩
    |1,hy=>cases hy;exact⟨_,U⟩
    |i+2,hy=>simp at hy
   dsimp only[aI];refine⟨_,U,_,_,_,true,U,.int y,U,_,U,dF ?_⟩;exact⟨_,U,_,_,_,false,U,.int y,U,_,U,aL U ⟨⟨_,U⟩,U⟩⟩
  ·rintro σ G' ⟨⟨v3,rfl⟩,rfl⟩;refine⟨_,U,p,_,_,_,U,U,SqT.of hp',U,?_⟩;refine⟨_,_,U,U,_,U,bo (Q3 o.1) ?_⟩;refine⟨_,U,_,_,U,U,_,U,?_⟩;rw[Q3 o.2.1];refine dF ?_;refine⟨_,U,p,_,_,_,U,U,SqT.of hp',U,_,_,U,U,_,U,bo (Q3 o.2.2.lo) ?_⟩;refine⟨_,_,U,U,⟨Yd,Yd,Yd⟩,_,_,U,U,_,U,?_⟩;rw[p30,Q3 o.2.2.hi];exact aL U ⟨⟨_,_,U⟩,U⟩
 ·rintro σ G ⟨⟨v2,v3,rfl⟩,rfl⟩;exact q
theorem yi(T:Tx P w K mg a):aA P w K mg base CX0 2 a.DM a.DN ["_law_entry","_law_lines","_law_parts"] oy:=by
 refine T.EU.ok pI (λvs H Q E h=>?_) (λcdv A outer s H vs Q E hr h=>?_)
 ·obtain⟨_,_,_,_,_,_,_,_,rfl,_⟩:=h
  rfl
 obtain⟨e,l,ll,lp,us,ls,ps,Et,rfl,he,hl,rp,hll,hlp,n0,pn,ok,q⟩:=h
 refine⟨_,(ae (aD (PW.pt (cM (cN (bZ (bh eU U T.Bs PyProof.Rows.Boot.«isinstance» (a8 (pq 0) (a8 (eY (v:=.ty "tuple") U T.BG PyProof.Rows.Boot.«tuple» rfl) ac))))) (cM (ap gm (bh bG U T.ld Q8 (a8 (pq 0) ac)) aa (ao _)) (dk (cN (bZ (bh eU U T.Bs PyProof.Rows.Boot.«isinstance» (a8 (ag au (pq 0) aa Oy) (a8 (eY (v:=.ty "str") U T.HI PyProof.Rows.Boot.«str» rfl) ac))))))))) (ah (ak br)) aF)
  (ae (cf PassesOwn.never U (gu (eB gc (pq 0) fG (cg aa))) (aP (i:=3) pI.nd U Oi)
  (ah (aD (PW.pt (cM (cN (bZ (bh eU U T.Bs PyProof.Rows.Boot.«isinstance» (a8 (pq 3) (a8 (eY (v:=.ty "int") U T.Fg PyProof.Rows.Boot.«int» rfl) ac))))) (cM (bZ (bh eU U T.Bs PyProof.Rows.Boot.«isinstance» (a8 (pq 3) (a8 (eY (v:=.ty "bool") U T.Ff PyProof.Rows.Boot.«bool» rfl) ac)))) (dk (ap di (pq 3) aa (ao _)))))) (ah (ak br)) aF)))
  (ah (ak (rG (gw di (ag au (pq 0) aa Oy) (bh bG U T.ld Q8 (a8 (pq 2) ac)) (ao _)) (rG (gw xK (ag au (pq 0) aa Oy) (bI (a8 bg (a8 bg ac))) (by with_unfolding_all rfl)) (lM (aQ (y9 T) (hr.mono Yd) U T.Hq T.ET.kp T.Ho .nil ar (a8 (ag au (pq 0) aa Oy) (a8 (bh bG U T.ld Q8 (a8 (pq 1) ac)) ac)))))))))),?_⟩
 refine⟨_,U,_,_,_,true,U,.tup he,U,_,U,dF ?_⟩;refine⟨_,U,e,_,U,.inr (SqT.of he),U,_,U,ii U ?_⟩;refine⟨_,U,e,_,_,_,U,U,SqT.of he,U,_,_,_,true,U,.str _,U,_,U,aL U ?_⟩;have nw:¬ (HT.sIx [V.int Et.now,.int Et.part,.str (if Et.took then "took" else "gave"),.ref l].length 0 none=0/\HT.sIx [V.int Et.now,.int Et.part,.str (if Et.took then "took" else "gave"),.ref l].length [V.int Et.now,.int Et.part,.str (if Et.took then "took" else "gave"),.ref l].length (some 2)=[V.int Et.now,.int Et.part,.str (if Et.took then "took" else "gave"),.ref l].length):=λz=>Q5 z.2 (by show HT.sIx 4 4 (some 2)≠4;decide +kernel);refine⟨_,U,_,U,e,_,U,SqT.of he,nw,λp1 hp1=>⟨p1,U,⟨_,SqT.of af⟩,?_⟩⟩;have s1:=a9.new hp1 (.tup [.int Et.now,.int Et.part]);refine je (K:=K) (a:=p1) (xs:=[.int Et.now,.int Et.part]) (λi σ G=>(∃v3,σ=[some (.ref e),some (.ref ll),some (.ref lp),v3])/\G=upd H p1 (.tup [.int Et.now,.int Et.part])) ⟨⟨_,U⟩,U⟩ ?_ ?_ ?_
 ·rintro i σ G _ ⟨_,rfl⟩;exact SqT.of af
 ·rintro i y σ G hy ⟨⟨v3,rfl⟩,rfl⟩
  obtain⟨y,rfl,y0⟩:∃n:Int,y=.int n/\0<=n:=by
   match i,hy with
   |0,hy=>cases hy;exact⟨_,U,n0⟩
   |1,hy=>cases hy;exact⟨_,U,Yk⟩
   |i+2,hy=>simp at hy
  dsimp only[aI];refine⟨_,U,_,_,_,true,U,.int y,U,_,U,dF ?_⟩;refine⟨_,U,_,_,_,false,U,.int y,U,_,U,dF ?_⟩;exact⟨_,U,_,_,U,U,_,U,aL (Q4 Yk) ⟨⟨_,U⟩,U⟩⟩
 ·rintro σ G ⟨⟨v3,rfl⟩,rfl⟩;refine⟨_,U,e,_,_,_,U,U,SqT.of (s1 _ _ he),U,_,U,lp,_,U,.inl (SqL.of (s1 _ _ hlp)),_,_,U,U,_,U,bo (Q3 Yk) ?_⟩;refine⟨_,U,e,_,_,_,U,U,SqT.of (s1 _ _ he),U,ln2,λp2 hp2=>⟨p2,_,U,.inr (SqT.of af),U,U,_,U,bo ?_ ?_⟩⟩
  ·cases Et.took<;>decide +kernel
  have s2:=s1.trans (a9.new hp2 (.tup [.str "took",.str "gave"]));exact⟨_,U,e,_,_,_,U,U,SqT.of (s2 _ _ he),U,_,U,ll,_,U,.inl (SqL.of (s2 _ _ hll)),l,us,Et.hs,ls.length,U,s2 _ _ hl,rp.same s2,ok,q _ s2⟩
theorem rM(T:Tx P w K mg a):aA P w K mg base CX0 1 a.DQ a.DR ["_law_lines","_law_rows","_law_things"] nW:=by
 refine T.Eh.ok jH (λvs H Q E h=>?_) (λcdv A outer s H vs Q E hr h=>?_)
 ·obtain⟨_,_,_,_,_,_,_,_,_,rfl,_⟩:=h
  rfl
 obtain⟨ll,lr,l,ls,us,xs,f,ra,ps,rfl,hll,rln,hlr,hra,hl,rp,ok,q⟩:=h
 refine⟨_,(ae (cf PassesOwn.never U (bH (pq 2)) (aP (i:=3) jH.nd U Oi)
  (ae (aT (i:=4) jH.nd U Oi (ag au (ag aN (pq 0) (ag au (pq 3) aa Oy) Oy) aa Oy))
  (ah (aD (PW.pt (iU (ap iR (pq 4) cX (ao _)) (lD (ap wC (bh bG U T.ld Q8 (a8 (ag aN (pq 1) (ag au (pq 3) aa Oy) Oy) ac)) (pq 4) (ao _))))) (ah (ak br)) aF))))
  (ah (ak br))),?_⟩
 refine⟨_,U,l,U,⟨_,SqL.of hl⟩,?_⟩;refine df (K:=K) (a:=l) (xs:=us) (λi σ G=>(∃v2 v3,σ=[some (.ref ll),some (.ref lr),some (.ref l),v2,v3])/\G=H/\eS xs f (ps.take i)=true) ⟨⟨_,_,U⟩,U,U⟩ ?_ ?_ ?_
 ·rintro i σ G _ ⟨_,rfl,_⟩;exact SqL.of hl
 ·rintro i x σ G hx ⟨⟨v2,v3,rfl⟩,rfl,all⟩;obtain⟨p,z,rfl,hz,hp'⟩:=rp.at hx;obtain⟨o1,o2⟩:=ok z (qA hz);have lt:z.1.toNat<xs.length:=Yk;obtain⟨pl,tl,xl,el,exl,hpl,_⟩:=rln.at z.1.toNat _ (qd (by rw[rln.len];exact lt));have e1:atI ls z.1=some (.ref pl):=by rw[<- el];exact gI o1 (qd (by rw[rln.len];exact lt))
  have ex:bi xs z.1.toNat=xl:=by unfold bi;rw[qk,exl];rfl
  have nx:eS xs f (ps.take (i+1))=dh xl.1 ((f z.1.toNat).length:Int):=by
   have all:(ps.take i).all _=true:=all;unfold eS;rw[qt,hz,List.all_append,all,<- ex];simp
  dsimp only[aI];refine⟨_,U,_,U,p,_,_,_,U,U,SqT.of hp',U,ll,_,_,_,U,U,SqL.of hll,e1,pl,_,_,_,U,U,SqT.of hpl,U,?_⟩;dsimp only[aI]
  cases hL:xl.1 with
  |none=>exact⟨_,U,U,_,U,dF (aL U ⟨⟨_,_,U⟩,U,by rw[nx,hL];rfl⟩)⟩
  |some n=>
   rw[hL]at nx;refine⟨_,U,U,_,U,md ?_⟩;refine⟨_,U,_,U,p,_,_,_,U,U,SqT.of hp',U,lr,_,_,_,U,U,SqL.of hlr,gH o1 o2,_,_,U,.inl (SqL.of (hra _ lt)),_,U,_,_,U,U,_,U,?_⟩;rw[qa];by_cases lt2:((f z.1.toNat).length:Int)<n
   ·exact aL (Q4 Yk) ⟨⟨_,_,U⟩,U,nx.trans (Q3 lt2)⟩
   ·refine bo (Q3 Yk) ?_
    have e:eS xs f ps=false:=by
     unfold eS;rw[List.all_eq_false];exact⟨z,qA hz,by rw[ex,hL];show ¬ decide (_<n)=true;rw[Q4 lt2];decide⟩
    rw[e]at q;exact q
 ·rintro σ G ⟨⟨v2,v3,rfl⟩,rfl,all⟩;rw[rp.len,qI]at all;rw[all]at q;exact q
theorem rB:∀{ps:List (Int×Int)}{f:Nat->List Int}{j:Nat},j∉ps.map (λp=>p.1.toNat)->bX f ps j=f j
 |[],_,_,_=>rfl
 |p::ps,f,j,h=>by
  show bX (put f p.1.toNat _) ps j=_;rw[rB λz=>h (qm _ z),az λz=>h (by rw[z];exact qp)]
theorem wZ{ps:List (Int×Int)}{f:Nat->List Int}{p:Int×Int}:bX f (ps++[p])=put (bX f ps) p.1.toNat (bX f ps p.1.toNat).tail:=by unfold bX;rw[List.foldl_append];rfl
theorem Ag{ps:List (Int×Int)}{f:Nat->List Int}{p:Int×Int}:bQ f (ps++[p])=put (bQ f ps) p.1.toNat (bQ f ps p.1.toNat++[p.2]):=by unfold bQ;rw[List.foldl_append];rfl
theorem sZ:∀{ps:List (Int×Int)}{f:Nat->List Int}{j:Nat},(bQ f ps j).length<=(f j).length+ps.length
 |[],_,_=>qf _
 |p::ps,f,j=>by
  have h:=sZ (ps:=ps) (f:=put f p.1.toNat (f p.1.toNat++[p.2])) (j:=j);show(bQ (put f p.1.toNat (f p.1.toNat++[p.2])) ps j).length<=(f j).length+(ps.length+1);by_cases e:j=p.1.toNat
  ·rw[e,aM,qc,Q7]at h;rw[e];omega
  ·rw[az e]at h;omega
theorem uF{ps:List (Int×Int)}{i:Nat}{p:Int×Int}(nd:(ps.map λp=>p.1.toNat).Nodup)(h:ps[i]?=some p):p.1.toNat∉(ps.take i).map λp=>p.1.toNat:=λz=>by
 obtain⟨q,hq,e⟩:=List.mem_map.mp z;obtain⟨j,hj,ej⟩:=List.mem_iff_getElem.mp hq;rw[qL]at hj;rw[List.getElem_take]at ej;obtain⟨li,ei⟩:=qg.mp h;have:=List.pairwise_iff_getElem.mp (List.nodup_iff_pairwise_ne.mp nd) j i (by rw[qa];omega) (by rw[qa];omega) Yk;rw[List.getElem_map,List.getElem_map,ej,ei]at this;exact this e
theorem RRs.nth{H:Hp}{vs:List V}{rs:List PR}(h:RRs H vs rs){i:Nat}(hi:i<rs.length):∃v,vs[i]?=some v/\RR H v (aq rs i)/\aq rs i∈rs:=by
 have lv:i<vs.length:=by rw[h.len];exact hi
 obtain⟨r,e,hr⟩:=h.at (qd lv);have er:aq rs i=r:=by unfold aq;rw[qk,e];rfl
 exact⟨_,qd lv,er▸hr,er▸qA e⟩
theorem RPc.sameW{H H':Hp}(s:a9 H H'){v:V}{pace:List (List Int)}(h:RPc H v pace):RPc H' v pace:=h.imp id λ⟨pc,pv,e,h1,h2⟩=>⟨pc,pv,e,s _ _ h1,h2.same s⟩
theorem xZ(T:Tx P w K mg a):aA P w K mg base CX0 4 a.DO a.DP ["_law_entry","_law_lines","_law_parts","_law_pace_here","_law_rows","_law_posts"] nT:=by
 refine T.EV.ok iE (λvs H Q E h=>?_) (λcdv A outer s H vs Q E hr h=>?_)
 ·obtain⟨_,_,_,_,_,_,_,_,_,_,_,_,_,_,rfl,_⟩:=h
  rfl
 obtain⟨H0,ll,lq,e,lr,lp,v,xs,rs,pace,Et,ad,hv,W,rfl,G,M,tk,O,q⟩:=h
 refine⟨_,(ae (aT (i:=6) iE.nd U Oi (ag aN (pq 5) (ag au (pq 0) aa Oy) Oy))
  (ae (aT (i:=7) iE.nd U Oi (aQ (rK T) (hr.mono Yd) U T.ER T.Eg.kp T.EQ .nil ar (a8 (ag aN (pq 2) (ag au (pq 0) aa Oy) Oy) (a8 (pq 4) ac))))
  (ae (aD (PW.pt (cM (ap iR (ag aN (pq 6) aa Oy) cX (ao _)) (dk (ap (hZ hr.units) (bY (k:=1) (Nc:=["_law_pair"]) (js:=[]) (show aK (am gW) ["_law_entry","_law_lines","_law_parts","_law_pace_here","_law_rows","_law_posts","_law_post","_law_at","_law_pair"] _ 1 ["_law_pair"] []from aK.mk U (by decide +kernel) (by decide +kernel) (by decide +kernel) U (by decide +kernel)) U (bH (ag au (pq 0) aa Oy)) (λ_ _ _ _ _=>(aP (i:=0) (show List.Nodup (["_law_pair"]:List Str)from by decide +kernel) U Oi)) (λ_ _ _ _ _=>bJ) (λ_ _ _ _ _=>(ag (cL (K:=K) U) (pq 0) aa Oy))) (gx kT U T.Bp PyProof.Rows.Boot.«list» (a8 (pq 7) ac)) (ao _))))) (ah (ak br)) aF)
  (ae (cf PassesOwn.never U (bH (ag au (pq 0) aa Oy)) (aP (i:=8) iE.nd U Oi)
  (ah (aD (PW.pt (cM (ap (fJ hr.units) (ag aN (pq 4) (ag au (pq 8) aa Oy) Oy) (bn ac) (ao _)) (dk (ap gm (cD qh PySem.F.slot_list_pop PySem.F.type_list_pop rZ (ag aN (pq 4) (ag au (pq 8) aa Oy) Oy) (a8 aa ac)) (ag au (pq 8) aa Oy) (ao _))))) (ah (ak br)) aF)))
  (ae (dP (aQ (yd T) (hr.mono Yd) U T.Hl T.EO.kp T.Hk .nil ar (a8 (ag aN (pq 2) (ag au (pq 0) aa Oy) Oy) (a8 (bY (k:=1) (Nc:=["_law_pair"]) (js:=[]) (show aK (am gW) ["_law_entry","_law_lines","_law_parts","_law_pace_here","_law_rows","_law_posts","_law_post","_law_at","_law_pair"] _ 1 ["_law_pair"] []from aK.mk U (by decide +kernel) (by decide +kernel) (by decide +kernel) U (by decide +kernel)) U (bH (ag au (pq 0) aa Oy)) (λ_ _ _ _ _=>(aP (i:=0) (show List.Nodup (["_law_pair"]:List Str)from by decide +kernel) U Oi)) (λ_ _ _ _ _=>bJ) (λ_ _ _ _ _=>(ag (cL (K:=K) U) (pq 0) aa Oy))) ac))) (eu (pq 6) aa e9))
  (ae (dP (ai bx (ai bx (ag au (pq 0) aa Oy) aa) (aQ (y7 T) (hr.mono Yd) U T.Hn T.ES.kp T.Hm .nil ar (a8 (pq 3) (a8 (ag au (pq 0) aa Oy) (a8 (ag aN (pq 6) aa Oy) ac))))) (eu (pq 6) aa e9))
  (ae (dP (ai bx (ag aN (pq 6) aa Oy) aa) (eu (pq 6) aa e9))
  (ah (ak br))))))))),?_⟩
 obtain⟨el,eus,he,hel,rp⟩:=G.e;obtain⟨ps,hlq,rrs⟩:=G.q;obtain⟨pv,hpv,rpv,rmem⟩:=rrs.nth O.part;obtain⟨okx,ftx⟩:=G.ok _ rmem;obtain⟨tn,tw,th,wd⟩:=O.tk tk;have sa:=M.own.sa;have hx:=O.part;have hvn:hv Et.part=.non:=by have:=M.hv _ hx;rw[tn]at this;exact this
 have epv:atI ps (Et.part:Int)=some pv:=bT hpv;rw[tk]at he;refine⟨_,U,_,U,e,_,_,_,U,U,SqT.of (sa _ _ he),U,lp,_,_,_,U,U,SqL.of M.lpH,jk hx,?_⟩;dsimp only[aI];refine⟨_,U,_,U,e,_,_,_,U,U,SqT.of (sa _ _ he),U,lq,_,_,_,U,U,SqL.of (sa _ _ hlq),epv,_,U,pv,_,lr,W.rows,λi=>ad (.ql i),xs.length,U,rpv.same sa,okx,ftx,M.lrH,λi hi=>M.row hi,λH1 t1 s1 ht1=>?_⟩;dsimp only[aI];obtain⟨K1,sk1,nw1,_,M1⟩:=M.more s1;have sa1:=M1.own.sa;have hp1:=M1.pst hx;rw[hvn]at hp1;refine⟨_,U,_,_,_,_,U,U,SqL.of hp1,U,U,_,U,dF ?_⟩;have he1:=sa1 _ _ (sk1 _ _ he);have hel1:=sa1 _ _ (sk1 _ _ hel);have rp1:RPs H1 eus Et.hs:=(rp.same sk1).same sa1;have hl10:=O.hs.few;refine⟨_,U,e,_,_,_,U,U,SqT.of he1,U,el,U,⟨_,SqL.of hel1⟩,?_⟩;refine dG (K:=K) (a:=el) (xs:=eus) (λi ys σ Gh=>(∃v,σ=[v])/\Gh=H1/\ys=((Et.hs.take i).map (·.1)).map V.int) ⟨⟨none,U⟩,U,U⟩ ?_ (bb (m:=100) (by rw[rp1.len];omega)) ?_ ?_ ?_
 ·rintro i ys σ Gh _ ⟨_,_,rfl⟩;rw[qa,qa,qL];omega
 ·rintro i ys σ Gh ⟨_,rfl,_⟩;exact SqL.of hel1
 ·rintro i x ys σ Gh hx' ⟨⟨v,rfl⟩,rfl,rfl⟩;obtain⟨p,z,rfl,hz,hp'⟩:=rp1.at hx';exact⟨_,U,p,_,_,_,U,U,SqT.of hp',U,⟨_,U⟩,U,by rw[qt,hz,qP,qP];rfl⟩
 rintro ys σ Gh ⟨_,eG,rfl⟩ l2 hl2;rw[eG]at hl2 ⊢;rw[rp1.len,qI,tw];have s2:=a9.new hl2 (.lst ((bS W.rows (aq rs Et.part)).map V.int));refine⟨_,U,t1,_,U,.inr (SqT.of (s2 _ _ ht1)),λl3 hl3=>?_⟩;have s3:=a9.new hl3 (.lst ((bS W.rows (aq rs Et.part)).map V.int));have shw:Shp 1 (.list ((bS W.rows (aq rs Et.part)).map PyData.int)):=.lst (dZ _);refine⟨_,_,.lst (SqL.of (s3 _ _ af)) (dS _),.lst (SqL.of af) (dS _),shw.shaped Yd,shw.shaped Yd,_,U,?_⟩;rw[tI shw Yd];refine aL U ?_;obtain⟨K3,sk3,_,_,M3⟩:=M1.more (s2.trans s3);have sk13:=sk1.trans sk3;have sa3:=M3.own.sa;generalize upd (upd H1 l2 (.lst ((bS W.rows (aq rs Et.part)).map V.int))) l3 (.lst ((bS W.rows (aq rs Et.part)).map V.int))=H3 at M3 sa3;have he3:=sa3 _ _ (sk13 _ _ he);have hel3:=sk13 _ _ hel;have rp3:RPs K3 eus Et.hs:=rp.same sk13;refine⟨_,U,e,_,_,_,U,U,SqT.of he3,U,el,U,⟨_,SqL.of (sa3 _ _ hel3)⟩,?_⟩;refine df (K:=K) (a:=el) (xs:=eus) (λi σ Gh=>(∃v8,σ=[some (.ref e),some (.ref ll),some (.ref lq),some v,some (.ref lr),some (.ref lp),some (.ref (ad (.wt Et.part))),some (.ref t1),v8])/\∃K',a9 K3 K'/\WH K' Gh xs.length rs.length lr lp ad hv { W with rows:=bX W.rows (Et.hs.take i) }) ⟨⟨_,U⟩,K3,a9.refl _,M3⟩ ?_ ?_ ?_
 ·rintro i σ Gh _ ⟨_,K',sk',M'⟩;exact SqL.of (M'.own.sa _ _ (sk' _ _ hel3))
 ·rintro i x σ Gh hx' ⟨⟨v8,rfl⟩,K',sk',M'⟩;obtain⟨p,z,rfl,hz,hp'⟩:=rp3.at hx';have zm:=qA hz;obtain⟨z0,z1,zo⟩:=O.hs.ok z zm;have zl:z.1.toNat<xs.length:=Yk;have zh:=th z zm;have zr:bX W.rows (Et.hs.take i) z.1.toNat=W.rows z.1.toNat:=rB (uF O.hs.nd hz)
  obtain⟨as,eas⟩:∃as,W.rows z.1.toNat=z.2::as:=by
   cases hr:W.rows z.1.toNat with
   |nil=>rw[hr]at zh;cases zh
   |cons b as=>rw[hr]at zh;cases zh;exact⟨as,U⟩
  have hrow:Gh (ad (.ql z.1.toNat))=some (.lst ((z.2::as).map V.int)):=by
   have:=M'.row zl;rw[show({ W with rows:=bX W.rows (Et.hs.take i) }:WS).rows z.1.toNat=z.2::as from zr.trans eas]at this;exact this
  have hpG:=M'.own.sa _ _ (sk' _ _ hp');dsimp only[aI];refine⟨_,U,_,U,p,_,_,_,U,U,SqT.of hpG,U,lr,_,_,_,U,U,SqL.of M'.lrH,gH z0 z1,qu _,λpe hpe=>?_⟩;have s4:=a9.new hpe (.lst []);refine⟨_,.list [],.lst (SqL.of (s4 _ _ hrow)) (dS _),.lst (SqL.of af) .nil,(Shp.lst (n:=0) (dZ _)).shaped Yd,Qz,_,U,aL U ?_⟩;obtain⟨K4,sk4,_,_,M4⟩:=M'.more s4;have hrow4:=s4 _ _ hrow
  have sx0:seqIndex? 0 ((z.2::as).map V.int).length=some 0:=by
   unfold seqIndex?;rw[qa,qC];simp
  generalize upd Gh pe (.lst [])=G4 at s4 M4 hrow4;refine⟨_,U,_,U,p,_,_,_,U,U,SqT.of (s4 _ _ hpG),U,lr,_,_,_,U,U,SqL.of M4.lrH,gH z0 z1,.inl ⟨U,_,SqL.of hrow4⟩,_,_,0,0,_,U,U,hrow4,Yd,Yd,sx0,U,?_⟩;have M5:=M4.putRow zl as;refine⟨_,U,p,_,_,_,U,U,SqT.of (M5.own.sa _ _ (sk4 _ _ (sk' _ _ hp'))),U,U,_,U,ii U ⟨⟨_,U⟩,K4,sk'.trans sk4,?_⟩⟩;refine M5.as ?_ U U U;show bX W.rows (Et.hs.take (i+1))=put (bX W.rows (Et.hs.take i)) z.1.toNat as;rw[qt,hz];show bX W.rows (Et.hs.take i++[z])=_;rw[wZ,zr,eas]
  rfl
 rintro σ Gh ⟨⟨v8,rfl⟩,K',sk',M'⟩;rw[rp3.len,qI]at M';have sk03:=sk13.trans sk';have sa':=M'.own.sa;have hel':=sk03 _ _ hel;have rp':RPs K' eus Et.hs:=rp.same sk03;dsimp only;refine⟨_,U,_,U,e,_,_,_,U,U,SqT.of (sa' _ _ (sk03 _ _ he)),U,lq,_,_,_,U,U,SqL.of (sa' _ _ (sk03 _ _ hlq)),epv,?_⟩;refine⟨_,U,e,_,_,_,U,U,SqT.of (sa' _ _ (sk03 _ _ he)),U,el,U,⟨_,SqL.of (sa' _ _ hel')⟩,?_⟩;refine dG (K:=K) (a:=el) (xs:=eus) (λi ys σ G5=>(∃v,σ=[v])/\G5=Gh/\ys=((Et.hs.take i).map (·.2)).map V.int) ⟨⟨none,U⟩,U,U⟩ ?_ (bb (m:=100) (by rw[rp1.len];omega)) ?_ ?_ ?_
 ·rintro i ys σ G5 _ ⟨_,_,rfl⟩;rw[qa,qa,qL];omega
 ·rintro i ys σ G5 ⟨_,rfl,_⟩;exact SqL.of (sa' _ _ hel')
 ·rintro i x ys σ G5 hx' ⟨⟨v,rfl⟩,rfl,rfl⟩;obtain⟨p,z,rfl,hz,hp'⟩:=rp'.at hx';exact⟨_,U,p,_,_,_,U,U,SqT.of (sa' _ _ hp'),U,⟨_,U⟩,U,by rw[qt,hz,qP,qP];rfl⟩
 rintro ys σ G5 ⟨_,eG5,rfl⟩ l5 hl5;rw[eG5]at hl5 ⊢;rw[rp1.len,qI];have s5:=a9.new hl5 (.lst ((Et.hs.map (·.2)).map V.int))
 have on5:∀x∈Et.hs.map (·.2),OnW x:=λx hx=>by
  obtain⟨z,hz,rfl⟩:=List.mem_map.mp hx;exact(O.hs.ok z hz).2.2
 refine⟨pv,l5,aq rs Et.part,Et.hs.map (·.2),U,((rpv.same sk03).same sa').same s5,okx,af,by rw[qa];exact wd,on5,λH6 l6 us6 s6 h6 r6 n6=>?_⟩;have s56:=s5.trans s6;obtain⟨K6,sk6,nw6,tp6,M6⟩:=M'.more s56
 have n6':Gh l6=none:=by
  cases h:Gh l6 with
  |none=>rfl
  |some o=>rw[s5 _ _ h]at n6;cases n6
 have hv6:fe K6 (.ref l6) (some ((aq rs Et.part).made (Et.hs.map (·.2)))):=⟨l6,us6,U,nw6 _ _ n6' h6,r6.keep tp6⟩;have hp6:=M6.pst hx;have M7:=M6.putPost hx (W.due Et.part) (W.tks Et.part) hv6;refine⟨_,U,_,_,0,0,U,U,hp6,U,?_⟩;have sa7:=M7.own.sa;have sk06:=sk03.trans sk6;have hp7:=M7.pst hx;have hp7:upd H6 (ad (.wt Et.part)) (.lst [.ref l6,.int (W.due Et.part),.int (W.tks Et.part)]) (ad (.wt Et.part))=some (.lst [.ref l6,.int (W.due Et.part),.int (W.tks Et.part)]):=af;have ep:[hv Et.part,V.int (W.due Et.part),V.int (W.tks Et.part)].set 0 (.ref l6)=[.ref l6,.int (W.due Et.part),.int (W.tks Et.part)]:=U;dsimp only;rw[ep];generalize upd H6 (ad (.wt Et.part)) (.lst [.ref l6,.int (W.due Et.part),.int (W.tks Et.part)])=H7 at M7 sa7 hp7 ⊢;refine⟨_,U,e,_,_,_,U,U,SqT.of (sa7 _ _ (sk06 _ _ he)),U,_,_,U,U,_,U,_,U,e,_,_,_,U,U,SqT.of (sa7 _ _ (sk06 _ _ he)),U,_,U,_,_,_,_,U,U,SqL.of hp7,U,v,pace,Et.part,W.tks Et.part,U,?_,λH8 s8=>?_⟩
 ·exact(G.p.sameW sk06).sameW sa7
 obtain⟨K8,sk8,_,_,M8⟩:=M7.more s8;have hv8:=hv6.same sk8;have M9:=M8.putPost hx (Et.now+1+bw pace Et.part (W.tks Et.part)) (W.tks Et.part) hv8;have M10:=M9.putPost hx (Et.now+1+bw pace Et.part (W.tks Et.part)) (W.tks Et.part+1) hv8;refine⟨_,_,U,U,_,U,_,_,1,1,U,U,s8 _ _ hp7,U,?_⟩;have ep2:[V.ref l6,V.int (W.due Et.part),V.int (W.tks Et.part)].set 1 (.int (Et.now+1+bw pace Et.part (W.tks Et.part)))=[.ref l6,.int (Et.now+1+bw pace Et.part (W.tks Et.part)),.int (W.tks Et.part)]:=U;dsimp only;rw[ep2];refine⟨_,U,_,_,_,_,U,U,SqL.of af,U,_,_,U,U,_,U,_,_,2,2,U,U,af,U,?_⟩;have ep3:[V.ref l6,V.int (Et.now+1+bw pace Et.part (W.tks Et.part)),V.int (W.tks Et.part)].set 2 (.int ((W.tks Et.part:Int)+1))=[.ref l6,.int (Et.now+1+bw pace Et.part (W.tks Et.part)),.int (W.tks Et.part+1:Nat)]:=U;rw[ep3];refine q _ _ _ (sk06.trans sk8) (M10.as ?_ ?_ ?_ ?_)
 ·unfold aV;rw[Q1 tk]
 ·unfold aV;rw[Q1 tk];show _=put (put (put _ _ _) _ _) _ _;rw[gq,gq]
 ·unfold aV;rw[Q1 tk];show _=put (put (put _ _ _) _ _) _ _;rw[gq,gq]
 ·unfold aV;rw[Q1 tk];show _=put (put (put _ _ _) _ _) _ _;rw[gq,gq]
theorem yh(T:Tx P w K mg a):aA P w K mg base CX0 2 a.DS a.DT ["_law_entry","_law_lines","_law_rows","_law_posts"] ox:=by
 refine T.EY.ok jL (λvs H Q E h=>?_) (λcdv A outer s H vs Q E hr h=>?_)
 ·obtain⟨_,_,_,_,_,_,_,_,_,_,_,_,_,_,rfl,_⟩:=h
  rfl
 obtain⟨H0,ll,lq,e,lr,lp,v,xs,rs,pace,Et,ad,hv,W,rfl,G,M,tk,O,q⟩:=h
 refine⟨_,(ae (aT (i:=4) jL.nd U Oi (ag aN (pq 3) (ag au (pq 0) aa Oy) Oy))
  (ae (aD (PW.pt (cM (ap gp (ag aN (pq 4) aa Oy) cX (ao _)) (cM (ap fE (ag aN (pq 4) aa Oy) (ag au (pq 0) aa Oy) (ao _)) (cM (ap (hZ hr.units) (ag aN (pq 4) aa Oy) (ag au (pq 0) aa Oy) (ao _)) (dk (cN (bZ (aQ (rM T) (hr.mono Yd) U T.EX T.Eh.kp T.EW .nil ar (a8 (pq 1) (a8 (pq 2) (a8 (ag au (pq 0) aa Oy) ac))))))))))) (ah (ak br)) aF)
  (ae (cf PassesOwn.never U (bH (ag au (pq 0) aa Oy)) (aP (i:=5) jL.nd U Oi)
  (ah (bO (cD qh qw qx d8 (ag aN (pq 2) (ag au (pq 5) aa Oy) Oy) (a8 (ag au (pq 5) aa Oy) ac)))))
  (ae (dP cX (eu (pq 4) aa e9))
  (ah (ak br)))))),?_⟩
 obtain⟨el,eus,he,hel,rp⟩:=G.e;obtain⟨ls,hll,rln⟩:=G.l;obtain⟨tn,td,tr⟩:=O.gv tk;have sa:=M.own.sa;have hx:=O.part;obtain⟨hl,hus,hve,hhl,hrp⟩:fe H0 (hv Et.part) (some Et.hs):=by have:=M.hv _ hx;rw[tn]at this;exact this
 rw[tk]at he;have hp0:=M.pst hx;rw[hve]at hp0;refine⟨_,U,_,U,e,_,_,_,U,U,SqT.of (sa _ _ he),U,lp,_,_,_,U,U,SqL.of M.lpH,jk hx,?_⟩;dsimp only[aI];refine⟨_,U,_,_,_,_,U,U,SqL.of hp0,U,U,_,U,dF ?_⟩;refine⟨_,U,_,_,_,_,U,U,SqL.of hp0,U,_,U,e,_,_,_,U,U,SqT.of (sa _ _ he),U,_,_,U,U,_,U,?_⟩;refine aL (Q4 Yk) ?_;have shh:=pk Et.hs;refine⟨_,U,_,_,_,_,U,U,SqL.of hp0,U,_,U,e,_,_,_,U,U,SqT.of (sa _ _ he),U,_,_,.lst (SqL.of (sa _ _ hhl)) (hrp.same sa).dt,.lst (SqL.of (sa _ _ hel)) (rp.same sa).dt,shh.shaped Yd,shh.shaped Yd,_,U,?_⟩;rw[tI shh Yd];refine aL U ?_;refine⟨_,U,_,U,_,U,e,_,_,_,U,U,SqT.of (sa _ _ he),U,ll,lr,el,ls,eus,xs,W.rows,λi=>ad (.ql i),Et.hs,U,sa _ _ hll,rln.same sa,M.lrH,λi hi=>M.row hi,sa _ _ hel,rp.same sa,λp hp=>⟨(O.hs.ok p hp).1,(O.hs.ok p hp).2.1⟩,_,U,?_⟩;rw[show eS xs W.rows Et.hs=true from List.all_eq_true.mpr tr];refine aL U ?_;refine⟨_,U,e,_,_,_,U,U,SqT.of (sa _ _ he),U,el,U,⟨_,SqL.of (sa _ _ hel)⟩,?_⟩;refine df (K:=K) (a:=el) (xs:=eus) (λi σ Gh=>(∃v5,σ=[some (.ref e),some (.ref ll),some (.ref lr),some (.ref lp),some (.ref (ad (.wt Et.part))),v5])/\WH H0 Gh xs.length rs.length lr lp ad hv { W with rows:=bQ W.rows (Et.hs.take i) }) ⟨⟨_,U⟩,M⟩ ?_ ?_ ?_
 ·rintro i σ Gh _ ⟨_,M'⟩;exact SqL.of (M'.own.sa _ _ hel)
 ·rintro i x σ Gh hx' ⟨⟨v5,rfl⟩,M'⟩;obtain⟨p,z,rfl,hz,hp'⟩:=rp.at hx';have zm:=qA hz;obtain⟨z0,z1,zo⟩:=O.hs.ok z zm;have zl:z.1.toNat<xs.length:=Yk;have hpG:=M'.own.sa _ _ hp';have lz:=sZ (ps:=Et.hs.take i) (f:=W.rows) (j:=z.1.toNat);have sz:=O.sz z.1.toNat;have few:=O.hs.few;rw[qL]at lz;dsimp only[aI];refine⟨_,U,_,U,p,_,_,_,U,U,SqT.of hpG,U,lr,_,_,_,U,U,SqL.of M'.lrH,gH z0 z1,.inl ⟨U,_,SqL.of (M'.row zl)⟩,_,U,p,_,_,_,U,U,SqT.of hpG,U,ad (.ql z.1.toNat),_,_,U,U,M'.row zl,?_,⟨_,U⟩,?_⟩
  ·show(((bQ W.rows (Et.hs.take i)) z.1.toNat).map V.int).length<sizeLine;rw[qa,sizeLine_eq];omega
  have M5:=M'.putRow zl (bQ W.rows (Et.hs.take i) z.1.toNat++[z.2]);rw[qP]at M5;refine M5.as ?_ U U U;show bQ W.rows (Et.hs.take (i+1))=put (bQ W.rows (Et.hs.take i)) z.1.toNat _;rw[qt,hz];exact Ag
 rintro σ Gh ⟨⟨v5,rfl⟩,M'⟩;rw[rp.len,qI]at M';have M7:=M'.putPost hx (o:=none) (W.due Et.part) (W.tks Et.part) U;dsimp only;refine⟨_,U,_,_,_,_,U,U,M'.pst hx,U,?_⟩;refine q _ _ _ (a9.refl _) (M7.as ?_ ?_ ?_ ?_)
 ·unfold aV;rw[Q0 (by rw[tk];decide)]
 ·unfold aV;rw[Q0 (by rw[tk];decide)]
 ·unfold aV;rw[Q0 (by rw[tk];decide)];exact rh.symm
 ·unfold aV;rw[Q0 (by rw[tk];decide)];exact rh.symm
theorem fQ{as:List Addr}{i:Nat}{d:Addr}(h:i<as.length):as[i]?=some (as.getD i d)/\as.getD i d∈as:=by
 rw[qk,qd h];exact⟨U,List.getElem_mem h⟩
theorem t5{as:List Addr}{i j:Nat}{d:Addr}(nd:as.Nodup)(hi:i<as.length)(hj:j<as.length)(e:as.getD i d=as.getD j d):i=j:=by
 rw[qk,qk,qd hi,qd hj]at e;have e:as[i]=as[j]:=e;have pw:=List.pairwise_iff_getElem.mp (List.nodup_iff_pairwise_ne.mp nd);rcases Nat.lt_trichotomy i j with h|h|h
 ·exact Q5 e (pw i j hi hj h)
 ·exact h
 ·exact Q5 e.symm (pw j i hj hi h)
theorem pR{as:List Addr}{d:Addr}{n:Nat}(h:as.length=n):as.map V.ref=(List.range n).map λi=>V.ref (as.getD i d):=by
 refine List.ext_getElem? λi=>?_;rw[qF,qF];by_cases lt:i<n
 ·rw[List.getElem?_range lt,(fQ (d:=d) Yk).1];rfl
 ·rw[Qp Yk,Qp (by rw[Qe];omega)];rfl
theorem WH.begin{H Hf:Hp}{as bs:List Addr}{lr lp:Addr}{xs:List Ln}{n:Nat}(s:a9 H Hf)(nda:as.Nodup)(ndb:bs.Nodup)(ca:∀(i:Nat) x,as[i]?=some x->H x=none/\Hf x=some (.lst ((bi xs i).2.map V.int)))(cb:∀x∈bs,H x=none/\Hf x=some (.lst [.non,.int 0,.int 0]))(dab:∀x∈as,x∉bs)(hlr:Hf lr=some (.lst (as.map V.ref)))(hlp:Hf lp=some (.lst (bs.map V.ref)))(r1:lr∉as)(r2:lr∉bs)(p1:lp∉as)(p2:lp∉bs)(al:as.length=xs.length)(bl:bs.length=n):∃H0 ad,a9 H H0/\(∀x ys,Hf x=some (.tup ys)->H0 x=some (.tup ys))/\WH H0 Hf xs.length n lr lp ad (λ_=>.non) (cw xs):=by
 classical
 let ad:Rl->Addr:=λr=>match r with
  |.ql i=>as.getD i lr
  |.wt x=>bs.getD x lr
  |_=>lr
 have own:∀r,dmW xs.length n r->(ad r∈as\/ad r∈bs)/\H (ad r)=none/\Hf (ad r)=some (cnW (cw xs) (λ_=>.non) r):=λr hr=>by
  cases r with
  |ql i=>
   have hi:i<as.length:=by rw[al];exact hr
   obtain⟨e,m⟩:=fQ (d:=lr) hi;exact⟨.inl m,(ca i _ e).1,(ca i _ e).2⟩
  |wt x=>
   have hx:x<bs.length:=by rw[bl];exact hr
   obtain⟨e,m⟩:=fQ (d:=lr) hx;exact⟨.inr m,(cb _ m).1,(cb _ m).2⟩
  |_=>exact Q5 hr id
 have off:∀x,x∉as->x∉bs->¬ ∃r,dmW xs.length n r/\ad r=x:=λx h1 h2 ⟨r,hr,e⟩=>by
  rcases(own r hr).1 with m|m
  ·exact h1 (e▸m)
  ·exact h2 (e▸m)
 have s0:a9 H (λx=>if ∃r,dmW xs.length n r/\ad r=x then none else Hf x):=λx o h=>by
  show(if ∃r,dmW xs.length n r/\ad r=x then none else Hf x)=some o;rw[Q0 (by rintro⟨r,hr,rfl⟩;rw[(own r hr).2.1]at h;cases h)];exact s _ _ h
 refine⟨λx=>if ∃r,dmW xs.length n r/\ad r=x then none else Hf x,ad,s0,λx ys h=>?_,⟨⟨λx o h=>?_,λr hr=>Q1 ⟨r,hr,U⟩,λr r' hr hr' e=>?_,λr hr=>(own r hr).2.2⟩,?_,?_,λx hx=>U⟩⟩
 ·show(if ∃r,dmW xs.length n r/\ad r=x then none else Hf x)=some (.tup ys)
  rw[Q0 (by
   rintro⟨r,hr,rfl⟩;rw[(own r hr).2.2]at h
   cases r<;>first|cases h|exact Q5 hr id)]
  exact h
 ·have h:(if ∃r,dmW xs.length n r/\ad r=x then none else Hf x)=some o:=h;split at h
  ·cases h
  ·exact h
 ·cases r with
  |ql i=>
   have hi:i<as.length:=by rw[al];exact hr
   cases r' with
   |ql j=>exact congrArg Rl.ql (t5 nda hi (by rw[al];exact hr') e)
   |wt y=>
    have hy:y<bs.length:=by rw[bl];exact hr'
    have e:as.getD i lr=bs.getD y lr:=e;exact Q5 (e▸(fQ (d:=lr) hy).2) (dab _ (fQ (d:=lr) hi).2)
   |_=>exact Q5 hr' id
  |wt x=>
   have hx:x<bs.length:=by rw[bl];exact hr
   cases r' with
   |ql j=>
    have hj:j<as.length:=by rw[al];exact hr'
    have e:bs.getD x lr=as.getD j lr:=e;exact Q5 (e▸(fQ (d:=lr) hx).2) (dab _ (fQ (d:=lr) hj).2)
   |wt y=>exact congrArg Rl.wt (t5 ndb hx (by rw[bl];exact hr') e)
   |_=>exact Q5 hr' id
  |_=>exact Q5 hr id
 ·show(if ∃r,dmW xs.length n r/\ad r=lr then none else Hf lr)=_;rw[Q0 (off lr r1 r2),hlr,pR al]
 ·show(if ∃r,dmW xs.length n r/\ad r=lp then none else Hf lp)=_;rw[Q0 (off lp p1 p2),hlp,pR bl]
theorem lR{as:List Addr}{x:Addr}(h:as.Nodup)(n:x∉as):(as++[x]).Nodup:=List.nodup_append.mpr ⟨h,Qr _ _,λy hy z hz e=>n (by rw[<- qT.mp hz,<- e];exact hy)⟩
theorem REs.at{H:Hp}:∀{vs:List V}{es:List Ent},REs H vs es->∀{i:Nat}{v:V},vs[i]?=some v->∃p l us e,v=.ref p/\es[i]?=some e/\H p=some (.tup [.int e.now,.int e.part,.str (if e.took then "took" else "gave"),.ref l])/\H l=some (.lst us)/\RPs H us e.hs
 |_,_,.nil,i,v,h=>by simp at h
 |_,_,.cons (p:=p) (l:=l) (us:=us) (e:=e) a b c r,0,v,h=>by cases h;exact⟨p,l,us,e,U,U,a,b,c⟩
 |_,_,.cons a b c r,i+1,v,h=>REs.at r (by simpa using h)
def Bd(ls:Nat->Option Int)(W:WS)(hs:List (Int×Int)):Prop:=∀p∈hs,dh (ls p.1.toNat) ((W.rows p.1.toNat).length:Int)=true
def ik(n:Nat)(ls:Nat->Option Int)(W:WS)(t:Int):Prop:=∃x,x<n/\∃hs,W.post x=some hs/\W.due x<=t/\Bd ls W hs
def dg(prt:Nat->PR)(W:WS)(x:Nat):Prop:=W.post x=none/\∀l∈bS W.rows (prt x),W.rows l.toNat≠[]
def bB(es:List Ent):Int:=es.foldl (λ_ e=>e.now) (-1)
theorem gD{es:List Ent}{e:Ent}:bB (es++[e])=e.now:=by unfold bB;rw[List.foldl_append];rfl
theorem sC{es:List Ent}{k:Int}:∀{fs:List Ent},(∀e∈fs,e.now=k)->fs≠[]->bB (es++fs)=k:=λ{fs} h ne=>by
 rw[<- List.dropLast_concat_getLast ne,<- qO,gD];exact h _ (List.getLast_mem ne)
theorem mx:∀(ps:List (Int×Int))(f:Nat->List Int)(j:Nat),∃s,bQ f ps j=f j++s
 |[],f,j=>⟨[],(qy _).symm⟩
 |p::ps,f,j=>by
  obtain⟨s,e⟩:=mx ps (put f p.1.toNat (f p.1.toNat++[p.2])) j;show ∃s,bQ (put f p.1.toNat (f p.1.toNat++[p.2])) ps j=f j++s;by_cases c:j=p.1.toNat
  ·rw[e,c,aM,qO];exact⟨_,U⟩
  ·rw[e,az c];exact⟨_,U⟩
theorem mv:∀{ps:List (Int×Int)}{f:Nat->List Int}{j:Nat},j∉ps.map (λp=>p.1.toNat)->bQ f ps j=f j
 |[],_,_,_=>rfl
 |p::ps,f,j,h=>by
  show bQ (put f p.1.toNat _) ps j=_;rw[mv λz=>h (qm _ z),az λz=>h (by rw[z];exact qp)]
theorem lG:∀{ps:List (Int×Int)}{f:Nat->List Int}{j:Nat},j∉ps.map (λp=>p.1.toNat)->bX f ps j=f j
 |[],_,_,_=>rfl
 |p::ps,f,j,h=>by
  show bX (put f p.1.toNat _) ps j=_;rw[lG λz=>h (qm _ z),az λz=>h (by rw[z];exact qp)]
theorem jo{f:Nat->List Int}:∀{r:PR}{l:Int},l∈bS f r->l∈cu r
 |.pass ..,_,h=>h
 |.work ..,_,h=>h
 |.choose ..,_,h=>h
 |.merge t o n _,l,h=>by
  have h:l∈(match f t.toNat with|[]=>[t]|x::_=>t::(if x=0 then n else o)):=h;show l∈o++n++[t]
  cases e:f t.toNat with
  |nil=>rw[e]at h;exact qJ _ h
  |cons x _=>
   rw[e]at h;rcases qv.mp h with rfl|h
   ·exact qJ _ (qT.mpr U)
   ·refine qW _ ?_;split at h
    ·exact qJ _ h
    ·exact qW _ h
theorem uv{f:Nat->List Int}{ps:List (Int×Int)}:∀{r:PR}{l:Int},l∈bS f r->l.toNat∉ps.map (λp=>p.1.toNat)->f l.toNat=[]->l∈bS (bQ f ps) r
 |.pass ..,_,h,_,_=>h
 |.work ..,_,h,_,_=>h
 |.choose ..,_,h,_,_=>h
 |.merge t o n _,l,h,off,em=>by
  have h:l∈(match f t.toNat with|[]=>[t]|x::_=>t::(if x=0 then n else o)):=h;show l∈(match bQ f ps t.toNat with|[]=>[t]|x::_=>t::(if x=0 then n else o))
  cases e:f t.toNat with
  |nil=>
   rw[e]at h;have:=qT.mp h;subst this;rw[mv off,em];exact qT.mpr U
  |cons x xs=>
   rw[e]at h;obtain⟨s,es⟩:=mx ps f t.toNat;rw[es,e];exact h
theorem uu{f f':Nat->List Int}:∀{r:PR},(∀l∈cu r,f' l.toNat=f l.toNat)->bS f' r=bS f r
 |.pass ..,_=>rfl
 |.work ..,_=>rfl
 |.choose ..,_=>rfl
 |.merge t o n _,h=>by
  show(match f' t.toNat with|[]=>[t]|x::_=>t::(if x=0 then n else o))=(match f t.toNat with|[]=>[t]|x::_=>t::(if x=0 then n else o));rw[h t (qJ _ (qT.mpr U))]
theorem sO:∀(ps:List (Int×Int))(S:PlS),(∀x∈S.tr,x∈(ps.foldl ay S).tr)/\(∀i,∀x∈S.wt i,x∈(ps.foldl ay S).tr\/x∈(ps.foldl ay S).wt i)/\∀i,∀x∈(ps.foldl ay S).wt i,x∈S.wt i/\i∉ps.map (λp=>p.1.toNat)
 |[],_=>⟨λ_ h=>h,λ_ _ h=>.inr h,λ_ _ h=>⟨h,λz=>(nomatch z)⟩⟩
 |p::ps,S=>by
  obtain⟨h1,h2,h3⟩:=sO ps (ay S p);refine⟨λx hx=>h1 x (qW _ hx),λi x hx=>?_,λi x hx=>?_⟩
  ·by_cases e:i=p.1.toNat
   ·exact .inl (h1 x (qJ _ (e▸hx)))
   ·exact h2 i x (by show x∈put S.wt p.1.toNat [] i;rw[az e];exact hx)
  ·obtain⟨a,b⟩:=h3 i x hx;have a:x∈put S.wt p.1.toNat [] i:=a;by_cases e:i=p.1.toNat
   ·rw[e,aM]at a;cases a
   ·rw[az e]at a;exact⟨a,λz=>(qv.mp z).elim e b⟩
theorem ji{g:Gv}{t:Int}{ps:List Nat}{x:Nat}:((∃kv∈g,x∈kv.2)->∃kv∈bj g t ps,x∈kv.2)/\(x∈ps->∃kv∈bj g t ps,x∈kv.2):=by
 unfold bj;by_cases e:ps=[]
 ·rw[Q1 e];exact⟨id,λh=>by rw[e]at h;cases h⟩
 rw[Q0 e];by_cases m:t∈aR g
 ·rw[Q1 m];refine⟨λ⟨kv,hk,hx⟩=>⟨_,List.mem_map.mpr ⟨kv,hk,U⟩,?_⟩,λhx=>?_⟩
  ·split
   ·exact qW _ hx
   ·exact hx
  ·obtain⟨kv,hk,ek⟩:=List.mem_map.mp m;exact⟨_,List.mem_map.mpr ⟨kv,hk,U⟩,by rw[Q1 ek];exact qJ _ hx⟩
 ·rw[Q0 m];exact⟨λ⟨kv,hk,hx⟩=>⟨kv,qW _ hk,hx⟩,λhx=>⟨_,qJ _ (qT.mpr U),hx⟩⟩
theorem t7(now:Int):∀(ws:List Int)(S:PlS)(x:Nat),((∃kv∈S.gv,x∈kv.2)->∃kv∈(ws.foldl (bp now) S).gv,x∈kv.2)/\(∀i,x∈S.wr i->(∃kv∈(ws.foldl (bp now) S).gv,x∈kv.2)\/x∈(ws.foldl (bp now) S).wr i)/\∀i,x∈(ws.foldl (bp now) S).wr i->x∈S.wr i/\i∉ws.map Int.toNat
 |[],_,_=>⟨id,λ_ h=>.inr h,λ_ h=>⟨h,λz=>(nomatch z)⟩⟩
 |w::ws,S,x=>by
  obtain⟨h1,h2,h3⟩:=t7 now ws (bp now S w) x;refine⟨λh=>h1 (ji.1 h),λi hx=>?_,λi hx=>?_⟩
  ·by_cases e:i=w.toNat
   ·exact .inl (h1 (ji.2 (e▸hx)))
   ·exact h2 i (by show x∈put S.wr w.toNat [] i;rw[az e];exact hx)
  ·obtain⟨a,b⟩:=h3 i hx;have a:x∈put S.wr w.toNat [] i:=a;by_cases e:i=w.toNat
   ·rw[e,aM]at a;cases a
   ·rw[az e]at a;exact⟨a,λz=>(qv.mp z).elim e b⟩
structure Cmp(C:PlC)(W:WS)(S:PlS)(no so:List Nat):Prop where
 no:∀x,x<C.n->W.post x=none->x∈S.tr\/(∃i,x∈S.wt i)\/x∈no
 so:∀x,x<C.n->∀hs,W.post x=some hs->(∃kv∈S.gv,x∈kv.2)\/(∃i,x∈S.wr i)\/x∈so
 full:∀i,∀x∈S.wr i,∃p∈S.held x,p.1.toNat=i/\dh (C.ls i) ((aO S i).length:Int)=false
 lack:∀i,∀x∈S.wt i,∃l∈bS (aO S) (C.prt x),l.toNat=i/\aO S i=[]
theorem zA{L:Option Int}{a b:Int}(h:dh L a=false)(le:a<=b):dh L b=false:=by
 cases L with
 |none=>cases h
 |some m=>
  have h:decide (a<m)=false:=h;show decide (b<m)=false;have:=of_decide_eq_false h;exact Q4 Yk
def aU(C:PlC)(xs:List Ln)(es:List Ent):WS:=es.foldl (aV C.prt C.pace) (cw xs)
theorem tD{C:PlC}{xs:List Ln}{es:List Ent}{e:Ent}:aU C xs (es++[e])=aV C.prt C.pace (aU C xs es) e:=by unfold aU;rw[List.foldl_append];rfl
def mT(C:PlC)(W:WS)(last k:Int):Prop:=last+1<k->¬ ik C.n C.ls W (k-1)/\∀x,x<C.n->¬ dg C.prt W x
structure Grp(C:PlC)(xs:List Ln)(es:List Ent)(k:Int)(gvs tks:List Ent):Prop where
 g:∀e∈gvs,e.now=k/\e.took=false
 t:∀e∈tks,e.now=k/\e.took=true
 last:bB es<k
 start:gvs++tks≠[]->mT C (aU C xs es) (bB es) k
 glad:¬ ik C.n C.ls (aU C xs (es++gvs)) k
structure jm(C:PlC)(xs:List Ln)(es g:List Ent):Prop where
 ex:∃k gvs tks,g=gvs++tks/\Grp C xs es k gvs tks
 ne:g≠[]
def gL(C:PlC)(xs:List Ln)(Gs:List (List Ent)):Prop:=∀gs g rest,Gs=gs++g::rest->jm C xs gs.flatten g/\∀x,x<C.n->¬ dg C.prt (aU C xs (gs.flatten++g)) x
theorem gL.snoc{C:PlC}{xs:List Ln}{Gs:List (List Ent)}{g:List Ent}(h:gL C xs Gs)(h1:jm C xs Gs.flatten g)(h2:∀x,x<C.n->¬ dg C.prt (aU C xs (Gs.flatten++g)) x):gL C xs (Gs++[g]):=λgs g' rest e=>by
 rcases List.eq_nil_or_concat rest with rfl|⟨r0,l0,rfl⟩
 ·have e:Gs++[g]=gs++[g']:=e;have e1:=List.append_inj' e U;obtain rfl:=e1.1;cases e1.2;exact⟨h1,h2⟩
 ·have e:Gs++[g]=(gs++g'::r0)++[l0]:=by rw[e];simp
  have e1:=List.append_inj' e U;exact h gs g' r0 e1.1
def NbP(C:PlC)(xs:List Ln)(S:PlS):Ph->Prop
 |.top=>(∃Gs,S.lg=Gs.flatten/\gL C xs Gs)/\Cmp C (aU C xs S.lg) S [] []/\(S.tr=[]\/(S.lg=[]/\S.gv=[(0,[])]))/\(∀k∈aR S.gv,bB S.lg<k)/\∀kv∈S.gv,∀x∈kv.2,(aU C xs S.lg).due x=kv.1\/kv.1=bB S.lg+1
 |.giv k r=>(∃Gs gvs,S.lg=Gs.flatten++gvs/\gL C xs Gs/\(∀e∈gvs,e.now=k/\e.took=false)/\bB Gs.flatten<k/\(gvs≠[]->mT C (aU C xs Gs.flatten) (bB Gs.flatten) k))/\Cmp C (aU C xs S.lg) S [] r/\(S.tr=[]\/bB S.lg=k\/(k=0/\bB S.lg=-1))/\(bB S.lg+1<k->∀x∈r,(aU C xs S.lg).due x=k)/\(∀kv∈S.gv,∀x∈kv.2,(aU C xs S.lg).due x=kv.1)/\bB S.lg<=k
 |.tak k r=>(∃Gs gvs tks,S.lg=Gs.flatten++(gvs++tks)/\gL C xs Gs/\Grp C xs Gs.flatten k gvs tks/\∀e∈tks,∀y∈r,e.part<y)/\Cmp C (aU C xs S.lg) S r []/\S.tr=[]/\(r=[]\/bB S.lg=k\/(k=0/\bB S.lg=-1))/\(∀kv∈S.gv,∀x∈kv.2,(aU C xs S.lg).due x=kv.1\/(kv.1=k+1/\bB S.lg=k))/\bB S.lg<=k
theorem Cmp.notReady{C:PlC}{W:WS}{S:PlS}{no so:List Nat}(c:Cmp C W S no so)(er:W.rows=aO S)(tr:S.tr=[]){x:Nat}(hx:x<C.n)(h:dg C.prt W x):x∈no:=by
 rcases c.no x hx h.1 with m|⟨i,m⟩|m
 ·rw[tr]at m;cases m
 ·obtain⟨l,hl,e,em⟩:=c.lack i x m;exact Q5 (by rw[er,e];exact em) (h.2 l (by rw[er];exact hl))
 ·exact m
theorem Cmp.notGlad{C:PlC}{W:WS}{S:PlS}{no so:List Nat}(c:Cmp C W S no so)(er:W.rows=aO S)(hw:∀i,∀x∈S.wr i,W.post x=some (S.held x)){t:Int}(hg:∀kv∈S.gv,∀x∈kv.2,t<W.due x)(hs:∀x∈so,t<W.due x):¬ ik C.n C.ls W t:=by
 rintro⟨x,hx,hs',hp,hd,ro⟩;rcases c.so x hx hs' hp with⟨kv,hk,m⟩|⟨i,m⟩|m
 ·have:=hg kv hk x m;omega
 ·obtain⟨p,hp',e,fu⟩:=c.full i x m;have e2:=hw i x m;rw[hp]at e2;cases e2;have:=ro p hp';rw[er,e]at this;rw[this]at fu;cases fu
 ·have:=hs x m;omega
theorem bE.nob{C:PlC}(okC:∀x,x<C.n->(C.prt x).ok/\(C.prt x).fit C.nl)(n60:C.n<60)(nn:∀r∈C.pace,∀x∈r,0<=x)(dj:∀x y,x<C.n->y<C.n->x≠y->∀l∈cu (C.prt x),∀l'∈cu (C.prt y),l.toNat≠l'.toNat){xs:List Ln}{most:Nat}(g0:Gd C (bL (cO xs C.n most)+20) [] (cO xs C.n most)){ph:Ph}{S:PlS}(h:bE C.ls C.prt C.pace (cO xs C.n most) ph S):NbP C xs S ph:=by
 induction h with
 |base=>
  refine⟨⟨[],U,λgs g rest e=>by simp at e⟩,⟨λx hx _=>.inl (List.mem_range.mpr hx),λx _ hs h=>(by cases h),λ_ _ h=>(nomatch h),λ_ _ h=>(nomatch h)⟩,.inr ⟨U,U⟩,λk hk=>?_,λkv hk x hx=>?_⟩
  ·rw[qT.mp hk];show(-1:Int)<0;decide
  ·rw[qT.mp hk]at hx;cases hx
 |@turn S k r h hk p rs ih=>
  obtain⟨⟨Gs,eg,cl⟩,c,tr,lk,du⟩:=ih;obtain⟨_,⟨now,I,_,_⟩,_⟩:=h.sim okC n60 nn g0;have lt:=lk k hk.1;have fk:=gG hk.1;refine⟨⟨Gs,[],by rw[qy];exact eg,cl,λ_ h=>(nomatch h),by rw[<- eg];exact lt,λz=>Q5 U z⟩,⟨c.no,λx hx hs hp=>?_,c.full,c.lack⟩,?_,λl1 x hx=>?_,λkv hv x hx=>?_,(by show bB S.lg<=k;omega)⟩
  ·rcases c.so x hx hs hp with⟨kv,hv,m⟩|m|m
   ·by_cases e:kv.1=k
    ·refine .inr (.inr (p.mem_iff.mpr ?_))
     have:kv.2=atG S.gv k:=by
      have gk:(aR S.gv).Nodup:=(h.gd okC n60 g0).loc.elim λ_ L=>L.gk;rw[<- e];clear hk p lt fk
      have go:∀g:Gv,(aR g).Nodup->kv∈g->kv.2=atG g kv.1:=λg=>by
       induction g with
       |nil=>exact λ_ m=>(nomatch m)
       |cons a g ih=>
        intro nd m;have nd:a.1∉aR g/\(aR g).Nodup:=List.nodup_cons.mp nd;rw[show a::g=(a.1,a.2)::g from rfl,cZ];rcases qv.mp m with rfl|m
        ·rw[Q1 U]
        ·rw[Q0 λz=>nd.1 (by rw[z];exact List.mem_map.mpr ⟨kv,m,U⟩)];exact ih nd.2 m
      exact go _ gk hv
     rw[<- this];exact m
    ·exact .inl ⟨kv,List.mem_filter.mpr ⟨hv,Q3 e⟩,m⟩
   ·exact .inr (.inl m)
   ·cases m
  ·rcases tr with t|⟨t1,t2⟩
   ·exact .inl t
   ·refine .inr (.inr ⟨?_,by show bB S.lg=-1;rw[t1];rfl⟩);have:=hk.1;rw[t2]at this;exact qT.mp this
  ·rcases du _ fk x (p.mem_iff.mp hx)with z|z
   ·exact z
   ·have z:k=bB S.lg+1:=z;have l1:bB S.lg+1<k:=l1;omega
  ·have hv:=List.mem_filter.mp hv;have ne:kv.1≠k:=Qd hv.2;have le:=hk.2 kv.1 (List.mem_map.mpr ⟨kv,hv.1,U⟩);rcases du kv hv.1 x hx with z|z
   ·exact z
   ·omega
 |@give S k x r h ih=>
  obtain⟨⟨Gs,gvs,eg,cl,hg,lg,st⟩,c,tr,rd,du,lk⟩:=ih;obtain⟨_,⟨I,k0,rs,rm,_⟩,_⟩:=h.sim okC n60 nn g0;obtain⟨⟨loc,L⟩,cp⟩:=h.gd okC n60 g0;have hx:=L.not.2.1;unfold cS;split
  ·rename_i q hq;have hq':=List.find?_some hq;have hqm:=List.mem_of_find?_eq_some hq;refine⟨⟨Gs,gvs,eg,cl,hg,lg,st⟩,⟨c.no,λy hy hs hp=>?_,λi y hy=>?_,c.lack⟩,tr,λl1 y hy=>rd l1 y (qm _ hy),du,lk⟩
   ·rcases c.so y hy hs hp with m|⟨i,m⟩|m
    ·exact .inl m
    ·refine .inr (.inl ⟨i,?_⟩);show y∈put S.wr q.1.toNat (S.wr q.1.toNat++[x]) i;by_cases e:i=q.1.toNat
     ·rw[e,aM];exact qW _ (e▸m)
     ·rw[az e];exact m
    ·rcases qv.mp m with rfl|m
     ·refine .inr (.inl ⟨q.1.toNat,?_⟩);show y∈put S.wr q.1.toNat (S.wr q.1.toNat++[y]) q.1.toNat;rw[aM];exact qJ _ (qT.mpr U)
     ·exact .inr (.inr m)
   ·have hy:y∈put S.wr q.1.toNat (S.wr q.1.toNat++[x]) i:=hy;by_cases e:i=q.1.toNat
    ·rw[e,aM]at hy;rcases qi.mp hy with hy|hy
     ·rw[e];exact c.full _ y hy
     ·rw[qT.mp hy,e];refine⟨q,hqm,U,?_⟩;unfold roomF at hq';have le:=(cp.st q.1.toNat).2
      have e:((aO S q.1.toNat).length:Int)=((S.st q.1.toNat).1.length:Int)-(S.st q.1.toNat).2:=by
       unfold aO;rw[qZ];omega
      show dh (C.ls q.1.toNat) ((aO S q.1.toNat).length:Int)=false;rw[e];simpa using hq'
    ·rw[az e]at hy;exact c.full i y hy
  ·rename_i hq;obtain⟨e1,e2,e3,e4,e5,e6⟩:=gE (S.held x) S;obtain⟨t1,t2,t3⟩:=sO (S.held x) S;have le:∀i,(S.st i).2<=(S.st i).1.length:=λi=>(cp.st i).2
   have el:(eF S k x).lg=S.lg++[⟨k,x,false,S.held x⟩]:=by
    show((S.held x).foldl ay S).lg++_=_;rw[e3]
   have er:aO (eF S k x)=bQ (aO S) (S.held x):=kR _ le
   have sk:mT C (aU C xs Gs.flatten) (bB Gs.flatten) k:=by
    by_cases ne:gvs=[]
    ·rw[ne,qy]at eg;intro l1;rw[<- eg]at l1 ⊢;refine⟨c.notGlad I.rows (λi y hy=>(I.wr i y hy).1) (λkv hv y hy=>?_) (λy hy=>?_),λy hy hr=>?_⟩
     ·have:=du kv hv y hy;have:=(I.gv kv hv).1;omega
     ·have:=rd l1 y hy;omega
     ·have:=c.notReady I.rows (tr.resolve_right λz=>Yk) hy hr;cases this
    ·exact st ne
   have ew:aU C xs (eF S k x).lg={ aU C xs S.lg with rows:=bQ (aU C xs S.lg).rows (S.held x),post:=put (aU C xs S.lg).post x none,l1:=k,l2:=0,l3:=x }:=by
    rw[el,tD]
    rfl
   refine⟨⟨Gs,gvs++[⟨k,x,false,S.held x⟩],by rw[el,eg,qO],cl,λe he=>?_,lg,λ_=>sk⟩,⟨λy hy hp=>?_,λy hy hs hp=>?_,λi y hy=>?_,λi y hy=>?_⟩,.inr (.inl (by rw[el,gD])),λl1=>?_,λkv hv y hy=>?_,by rw[el,gD];exact Int.le_refl _⟩
   ·rcases qi.mp he with he|he
    ·exact hg e he
    ·rw[qT.mp he];exact⟨U,U⟩
   ·rw[ew]at hp;have hp:put (aU C xs S.lg).post x none y=none:=hp;by_cases e:y=x
    ·exact .inl (qJ _ (qT.mpr e))
    ·rw[az e]at hp;rcases c.no y hy hp with m|⟨i,m⟩|m
     ·exact .inl (qW _ (t1 y m))
     ·rcases t2 i y m with m|m
      ·exact .inl (qW _ m)
      ·exact .inr (.inl ⟨i,m⟩)
     ·cases m
   ·rw[ew]at hp;have hp:put (aU C xs S.lg).post x none y=some hs:=hp;by_cases e:y=x
    ·rw[e,aM]at hp;cases hp
    ·rw[az e]at hp;rcases c.so y hy hs hp with m|⟨i,m⟩|m
     ·refine .inl ?_;show ∃kv∈((S.held x).foldl ay S).gv,y∈kv.2;rw[e1];exact m
     ·refine .inr (.inl ⟨i,?_⟩);show y∈((S.held x).foldl ay S).wr i;rw[e6];exact m
     ·exact .inr (.inr ((qv.mp m).resolve_left e))
   ·have hy:y∈((S.held x).foldl ay S).wr i:=hy;rw[e6]at hy;obtain⟨p,hp,ep,fu⟩:=c.full i y hy;refine⟨p,?_,ep,?_⟩
    ·show p∈((S.held x).foldl ay S).held y;rw[e4];exact hp
    ·rw[er];obtain⟨s,es⟩:=mx (S.held x) (aO S) i;rw[es];exact zA fu (by rw[qc];omega)
   ·obtain⟨m,off⟩:=t3 i y hy;obtain⟨l,hl,ei,em⟩:=c.lack i y m;refine⟨l,?_,ei,?_⟩
    ·rw[er];exact uv hl (by rw[ei];exact off) (by rw[ei];exact em)
    ·rw[er,mv off];exact em
   ·rw[el,gD]at l1;have l1:k+1<k:=l1;omega
   ·have hv:kv∈((S.held x).foldl ay S).gv:=hv;rw[e1]at hv;rw[ew];exact du kv hv y hy
 |@half S k r h p rs ih=>
  obtain⟨⟨Gs,gvs,eg,cl,hg,lg,st⟩,c,tr,rd,du,lk⟩:=ih;obtain⟨_,⟨I,k0,_,_,_⟩,_⟩:=h.sim okC n60 nn g0;refine⟨⟨Gs,gvs,[],by rw[qy];exact eg,cl,⟨hg,λ_ h=>(nomatch h),lg,λz=>st (by rw[qy]at z;exact z),?_⟩,λ_ h=>(nomatch h)⟩,⟨λy hy hp=>?_,c.so,c.full,c.lack⟩,U,?_,λkv hv y hy=>.inl (du kv hv y hy),lk⟩
  ·rw[<- eg];exact c.notGlad I.rows (λi y hy=>(I.wr i y hy).1) (λkv hv y hy=>by have:=du kv hv y hy;have:=(I.gv kv hv).1;omega) (λy hy=>(nomatch hy))
  ·rcases c.no y hy hp with m|m|m
   ·exact .inr (.inr (p.mem_iff.mpr m))
   ·exact .inr (.inl m)
   ·cases m
  ·rcases tr with t|t
   ·rw[t]at p;exact .inl p.eq_nil
   ·exact .inr t
 |@wait S k i x r h hl ih=>
  obtain⟨⟨Gs,gvs,tks,eg,cl,gr,pr⟩,c,tr,rd,du,lk⟩:=ih;obtain⟨_,⟨I,k0,_,_,_⟩,_⟩:=h.sim okC n60 nn g0;refine⟨⟨Gs,gvs,tks,eg,cl,gr,λe he y hy=>pr e he y (qm _ hy)⟩,⟨λy hy hp=>?_,c.so,c.full,λj y hy=>?_⟩,tr,rd.imp (λz=>by cases z) id,du,lk⟩
  ·rcases c.no y hy hp with m|⟨j,m⟩|m
   ·exact .inl m
   ·refine .inr (.inl ⟨j,?_⟩);show y∈put S.wt i.toNat (S.wt i.toNat++[x]) j;by_cases e:j=i.toNat
    ·rw[e,aM];exact qW _ (e▸m)
    ·rw[az e];exact m
   ·rcases qv.mp m with rfl|m
    ·refine .inr (.inl ⟨i.toNat,?_⟩);show y∈put S.wt i.toNat (S.wt i.toNat++[y]) i.toNat;rw[aM];exact qJ _ (qT.mpr U)
    ·exact .inr (.inr m)
  ·have hy:y∈put S.wt i.toNat (S.wt i.toNat++[x]) j:=hy;by_cases e:j=i.toNat
   ·rw[e,aM]at hy;rcases qi.mp hy with hy|hy
    ·rw[e];exact c.lack _ y hy
    ·rw[qT.mp hy,e];refine⟨i,?_,U,?_⟩
     ·rw[show aO (gP S i.toNat x)=aO S from rfl,<- ip];exact List.mem_of_find?_eq_some hl
     ·exact List.isEmpty_iff.mp (List.find?_some (p:=λi:Int=>(aO S i.toNat).isEmpty) hl)
   ·rw[az e]at hy;exact c.lack j y hy
 |@take S k x r h hl hs ih=>
  obtain⟨⟨Gs,gvs,tks,eg,cl,gr,pr⟩,c,tr,rd,du,lk⟩:=ih;obtain⟨_,⟨I,k0,rs,rm,_⟩,_⟩:=h.sim okC n60 nn g0;obtain⟨⟨loc,L⟩,cp⟩:=h.gd okC n60 g0;have hx:=L.not.2.1;have lt:=kS L rs;obtain⟨e1,e2,e3,e4,e5,e6,e7⟩:=gF k (aB S (C.prt x)) (bV (C.prt x) C.pace S k x);have el:(be (C.prt x) C.pace S k x).lg=S.lg++[⟨k,x,true,(aB S (C.prt x)).zip ((aB S (C.prt x)).map (aY S))⟩]:=e3;have z2:((aB S (C.prt x)).zip ((aB S (C.prt x)).map (aY S))).map (·.2)=(aB S (C.prt x)).map (aY S):=List.map_snd_zip (by rw[qa];exact qf _)
  have er:aO (be (C.prt x) C.pace S k x)=bX (aO S) ((aB S (C.prt x)).zip ((aB S (C.prt x)).map (aY S))):=by
   show(λi=>((be (C.prt x) C.pace S k x).st i).1.drop ((be (C.prt x) C.pace S k x).st i).2)=_;unfold be;rw[e1,show(bV (C.prt x) C.pace S k x).st=bD S.st (aB S (C.prt x))from rfl,kQ _ ((aB S (C.prt x)).map (aY S)) _ (by rw[qa])]
   rfl
  have off:∀y,y<C.n->y≠x->∀l∈cu (C.prt y),l.toNat∉((aB S (C.prt x)).zip ((aB S (C.prt x)).map (aY S))).map (λp=>p.1.toNat):=λy hy ne l hl z=>by
   obtain⟨q,hq,eq⟩:=List.mem_map.mp z;have:=(List.of_mem_zip (a:=q.1) (b:=q.2) hq).1;rw[ip]at this;exact dj y x hy hx ne l hl q.1 (jo this) eq.symm
  have ew:aU C xs (be (C.prt x) C.pace S k x).lg={ rows:=bX (aU C xs S.lg).rows ((aB S (C.prt x)).zip ((aB S (C.prt x)).map (aY S))),post:=put (aU C xs S.lg).post x (some ((C.prt x).made ((aB S (C.prt x)).map (aY S)))),due:=put (aU C xs S.lg).due x (k+1+bw C.pace x ((aU C xs S.lg).tks x)),tks:=put (aU C xs S.lg).tks x ((aU C xs S.lg).tks x+1),l1:=k,l2:=1,l3:=x }:=by
   rw[el,tD];show WS.mk _ (put (aU C xs S.lg).post x (some ((C.prt x).made (((aB S (C.prt x)).zip ((aB S (C.prt x)).map (aY S))).map (·.2))))) _ _ _ _ _=_;rw[z2]
  have eh:(be (C.prt x) C.pace S k x).held=put S.held x ((C.prt x).made ((aB S (C.prt x)).map (aY S))):=e4;have fm:=t7 k (aB S (C.prt x)) (bV (C.prt x) C.pace S k x);have es:(be (C.prt x) C.pace S k x).wt=S.wt/\(be (C.prt x) C.pace S k x).tr=S.tr:=⟨e7,e6⟩;have lk2:bB (be (C.prt x) C.pace S k x).lg=k:=by rw[el,gD]
  have cne:gvs++tks≠[]\/k=0/\bB S.lg=-1:=by
   rcases rd with z|z|z
   ·cases z
   ·refine .inl λe=>?_;rw[e,qy]at eg;have:=gr.last;rw[<- eg]at this;omega
   ·exact .inr z
  refine⟨⟨Gs,gvs,tks++[⟨k,x,true,(aB S (C.prt x)).zip ((aB S (C.prt x)).map (aY S))⟩],by rw[el,eg,qO,qO],cl,⟨gr.g,λe he=>?_,gr.last,λ_=>?_,gr.glad⟩,λe he y hy=>?_⟩,⟨λy hy hp=>?_,λy hy hs' hp=>?_,λi y hy=>?_,λi y hy=>?_⟩,by rw[es.2];exact tr,.inr (.inl lk2),λkv hv y hy=>?_,by rw[lk2];exact Int.le_refl _⟩
  ·rcases qi.mp he with he|he
   ·exact gr.t e he
   ·rw[qT.mp he];exact⟨U,U⟩
  ·rcases cne with z|⟨z1,z2⟩
   ·exact gr.start z
   ·intro l1;by_cases ce:gvs++tks=[]
    ·rw[ce,qy]at eg;rw[<- eg]at l1;omega
    ·exact gr.start ce l1
  ·rcases qi.mp he with he|he
   ·exact pr e he y (qm _ hy)
   ·rw[qT.mp he];exact lt y hy
  ·rw[ew]at hp;have hp:put (aU C xs S.lg).post x _ y=none:=hp;by_cases e:y=x
   ·rw[e,aM]at hp;cases hp
   ·rw[az e]at hp;rw[es.1,es.2];rcases c.no y hy hp with m|m|m
    ·exact .inl m
    ·exact .inr (.inl m)
    ·exact .inr (.inr ((qv.mp m).resolve_left e))
  ·rw[ew]at hp;have hp:put (aU C xs S.lg).post x _ y=some hs':=hp;by_cases e:y=x
   ·exact .inl ((fm y).1 (ji.2 (qT.mpr e)))
   ·rw[az e]at hp;rcases c.so y hy hs' hp with m|⟨i,m⟩|m
    ·exact .inl ((fm y).1 (ji (t:=k+1+bw C.pace x (S.tks x)) (ps:=[x]) |>.1 m))
    ·rcases(fm y).2.1 i m with m|m
     ·exact .inl m
     ·exact .inr (.inl ⟨i,m⟩)
    ·cases m
  ·obtain⟨m,offi⟩:=(fm y).2.2 i hy;have m:y∈S.wr i:=m;have ne:y≠x:=λz=>L.notin (L.wr i) nofun (z▸m)
   obtain⟨p,hp,ep,fu⟩:=c.full i y m;refine⟨p,by rw[eh,az ne];exact hp,ep,?_⟩;rw[er,lG λz=>offi ?_]
   ·exact fu
   ·obtain⟨q,hq,eq⟩:=List.mem_map.mp z;exact List.mem_map.mpr ⟨q.1,(List.of_mem_zip (a:=q.1) (b:=q.2) hq).1,eq⟩
  ·rw[es.1]at hy;have ne:y≠x:=λz=>L.notin (L.wt i) nofun (z▸hy)
   have yn:=((L.wt i).2 y hy).1;obtain⟨l,hl',ei,em⟩:=c.lack i y hy;have eq:∀l∈cu (C.prt y),aO (be (C.prt x) C.pace S k x) l.toNat=aO S l.toNat:=λl hl=>by rw[er];exact lG (off y yn ne l hl)
   refine⟨l,by rw[uu eq];exact hl',ei,?_⟩;rw[<- ei,eq l (jo hl'),ei];exact em
  ·rw[ew,lk2];show put (aU C xs S.lg).due x _ y=kv.1\/_
   have key:=my (now:=k) (A:=λj y=>put (aU C xs S.lg).due x (k+1+bw C.pace x ((aU C xs S.lg).tks x)) y=j\/j=k+1) (B:=λ_=>True) (λy _=>.inr U) (aB S (C.prt x)) (bV (C.prt x) C.pace S k x) (by
    refine mK (t:=k+1+bw C.pace x (S.tks x)) (ps:=[x]) (A:=λj y=>put (aU C xs S.lg).due x (k+1+bw C.pace x ((aU C xs S.lg).tks x)) y=j\/j=k+1) (λkv hv=>⟨(I.gv kv hv).1,λy hy=>?_⟩) (by have:=pO nn x (S.tks x);omega) λy hy=>?_
    ·have ne:y≠x:=λz=>L.notin (L.gv kv hv) nofun (z▸hy)
     rw[az ne];exact(du kv hv y hy).imp id λz=>z.1
    ·rw[qT.mp hy,aM]
     exact .inl (by rw[show(aU C xs S.lg).tks=S.tks from I.tks])) (λ_ _ _=>trivial)
   rcases(key.1 kv hv).2 y hy with z|z
   ·exact .inl z
   ·exact .inr ⟨z,U⟩
 |@over S k h ih=>
  obtain⟨⟨Gs,gvs,tks,eg,cl,gr,pr⟩,c,tr,rd,du,lk⟩:=ih;obtain⟨_,⟨I,k0,_,_,_⟩,_⟩:=h.sim okC n60 nn g0;refine⟨?_,c,.inl tr,λj hj=>?_,λkv hv y hy=>(du kv hv y hy).imp id λz=>by rw[z.1,z.2]⟩
  ·by_cases ne:gvs++tks=[]
   ·exact⟨Gs,by rw[eg,ne,qy],cl⟩
   ·refine⟨Gs++[gvs++tks],by rw[eg,List.flatten_append,List.flatten_singleton],cl.snoc ⟨⟨k,gvs,tks,U,gr⟩,ne⟩ λy hy hr=>?_⟩;rw[<- eg]at hr;have:=c.notReady I.rows tr hy hr;cases this
  ·obtain⟨kv,hv,rfl⟩:=List.mem_map.mp hj;have:=(I.gv kv hv).1;omega
def cj(Gs:List (List Ent))(e:Ent):List (List Ent):=match Gs.getLast? with
 |some g=>if(g.headD e).now=e.now then Gs.dropLast++[g++[e]]else Gs++[[e]]
 |none=>[[e]]
theorem sX{Gs:List (List Ent)}{g:List Ent}{e:Ent}:cj (Gs++[g]) e=if(g.headD e).now=e.now then Gs++[g++[e]]else(Gs++[g])++[[e]]:=by
 unfold cj;rw[List.getLast?_append];show(if(g.headD e).now=e.now then(Gs++[g]).dropLast++[g++[e]]else _)=_;rw[List.dropLast_concat]
theorem Af{e:Ent}:cj [] e=[[e]]:=U
theorem sV{k:Int}:∀{fs:List Ent}{Gs:List (List Ent)}{g:List Ent},(∀e∈fs,e.now=k)->(∀e∈g,e.now=k)->g≠[]->fs.foldl cj (Gs++[g])=Gs++[g++fs]
 |[],_,_,_,_,_=>by rw[qy];rfl
 |f::fs,Gs,g,h,hg,ne=>by
  have e1:(g.headD f).now=f.now:=by
   cases g with
   |nil=>exact Q5 U ne
   |cons a g=>exact(hg a qp).trans (h f qp).symm
  show fs.foldl cj (cj (Gs++[g]) f)=_;rw[sX,Q1 e1,sV (λe he=>h e (qm _ he)) (λe he=>?_) (by simp),qO]
  ·rfl
  ·rcases qi.mp he with he|he
   ·exact hg e he
   ·rw[qT.mp he];exact h f qp
theorem Ae{k:Int}{fs:List Ent}{Gs:List (List Ent)}(h:∀e∈fs,e.now=k)(ne:fs≠[])(hl:∀g,Gs.getLast?=some g->g≠[]/\∀e∈g,e.now≠k):fs.foldl cj Gs=Gs++[fs]:=by
 cases fs with
 |nil=>exact Q5 U ne
 |cons f fs=>
  have hf:=h f qp
  have e1:cj Gs f=Gs++[[f]]:=by
   unfold cj
   cases hg:Gs.getLast? with
   |none=>rw[List.getLast?_eq_none_iff.mp hg];rfl
   |some g=>
    show(if(g.headD f).now=f.now then _ else _)=_;rw[Q0];obtain⟨gn,ga⟩:=hl g hg
    cases g with
    |nil=>exact Q5 U gn
    |cons a g=>rw[hf];exact ga a qp
  show fs.foldl cj (cj Gs f)=_;rw[e1];exact sV (λe he=>h e (qm _ he)) (λe he=>by rw[qT.mp he];exact hf) (by simp)
inductive RGs(H:Hp):List V->List (List Ent)->Prop
 |nil:RGs H [] []
 |cons {p:Addr}{vs us:List V}{g:List Ent}{Gs:List (List Ent)}:H p=some (.lst us)->REs H us g->RGs H vs Gs->RGs H (.ref p::vs) (g::Gs)
theorem RGs.same{H H':Hp}(s:a9 H H'):∀{vs:List V}{Gs:List (List Ent)},RGs H vs Gs->RGs H' vs Gs
 |_,_,.nil=>.nil
 |_,_,.cons a b r=>.cons (s _ _ a) (b.same s) (RGs.same s r)
theorem RGs.at{H:Hp}:∀{vs:List V}{Gs:List (List Ent)},RGs H vs Gs->∀{i:Nat}{v:V},vs[i]?=some v->∃p us g,v=.ref p/\Gs[i]?=some g/\H p=some (.lst us)/\REs H us g
 |_,_,.nil,i,v,h=>by simp at h
 |_,_,.cons (p:=p) (us:=us) (g:=g) a b r,0,v,h=>by cases h;exact⟨p,us,g,U,U,a,b⟩
 |_,_,.cons a b r,i+1,v,h=>RGs.at r (by simpa using h)
inductive ow(vs:List V)(H:Hp)(Q:VK)(E:XK):Prop
 |mk (H0:Hp) (ll lr lp:Addr) (t:Int) (ls:List V) (xs:List Ln) (n:Nat) (ad:Rl->Addr) (hv:Nat->V) (W:WS) (h0_:vs=[.int t,.ref ll,.ref lr,.ref lp]) (h1_:H0 ll=some (.lst ls)) (h2_:RLn H0 ls xs) (h3_:WH H0 H xs.length n lr lp ad hv W) (h4_:(∀x,x<n->∀hs,W.post x=some hs->∀p∈hs,0<=p.1/\p.1<xs.length)) (h5_:¬ ik n (λi=>(bi xs i).1) W t) (h6_:Q (.bl false) H):ow vs H Q E
inductive nZ(vs:List V)(H:Hp)(Q:VK)(E:XK):Prop
 |mk (H0:Hp) (lq lr lp:Addr) (ps:List V) (nl:Nat) (rs:List PR) (ad:Rl->Addr) (hv:Nat->V) (W:WS) (h0_:vs=[.ref lq,.ref lr,.ref lp]) (h1_:H0 lq=some (.lst ps)) (h2_:RRs H0 ps rs) (h3_:WH H0 H nl rs.length lr lp ad hv W) (h4_:(∀r∈rs,r.ok/\r.fit nl)) (h5_:rs.length<60) (h6_:∀H' l out,a9 H H'->H' l=some (.lst (aE out))->(∀y,y∈out↔y<rs.length/\dg (aq rs) W y)->Q (.ref l) H'):nZ vs H Q E
structure WQ(H0:Hp)(ll lq:Addr)(v:V)(xs:List Ln)(rs:List PR)(pace:List (List Int)):Prop where
 l:∃ls,H0 ll=some (.lst ls)/\RLn H0 ls xs
 q:∃ps,H0 lq=some (.lst ps)/\RRs H0 ps rs
 p:RPc H0 v pace
 ok:∀r∈rs,r.ok/\r.fit xs.length
 n:rs.length<60
theorem WQ.same{H0 H1:Hp}{ll lq:Addr}{v:V}{xs:List Ln}{rs:List PR}{pace:List (List Int)}(h:WQ H0 ll lq v xs rs pace)(s:a9 H0 H1):WQ H1 ll lq v xs rs pace:=
 ⟨let ⟨ls,a,b⟩:=h.l;⟨ls,s _ _ a,b.same s⟩,let ⟨ps,a,b⟩:=h.q;⟨ps,s _ _ a,b.same s⟩,h.p.sameW s,h.ok,h.n⟩
def dX(n nl:Nat)(W:WS):Prop:=∀x,x<n->∀hs,W.post x=some hs->∀p∈hs,0<=p.1/\p.1<nl
inductive ou(vs:List V)(H:Hp)(Q:VK)(E:XK):Prop
 |mk (H0:Hp) (lh ll lq lr lp:Addr) (v:V) (gus:List V) (xs:List Ln) (rs:List PR) (pace:List (List Int)) (gvs tks:List Ent) (k:Int) (ad:Rl->Addr) (hv:Nat->V) (W:WS) (h0_:vs=[.ref lh,.ref ll,.ref lq,v,.ref lr,.ref lp]) (h1_:WQ H0 ll lq v xs rs pace) (h2_:H0 lh=some (.lst gus)) (h3_:REs H0 gus (gvs++tks)) (h4_:gvs++tks≠[]) (h5_:(∀e∈gvs,e.now=k/\e.took=false)) (h6_:(∀e∈tks,e.now=k/\e.took=true)) (h7_:(gvs++tks).length<=10000000) (h8_:WH H0 H xs.length rs.length lr lp ad hv W) (h9_:bN rs.length xs.length (λi=>(bi xs i).1) (aq rs) pace W (gvs++tks)) (h10_:dX rs.length xs.length (gvs.foldl (aV (aq rs) pace) W)) (h11_:¬ ik rs.length (λi=>(bi xs i).1) (gvs.foldl (aV (aq rs) pace) W) k) (h12_:∀H0' H' hv',a9 H0 H0'->WH H0' H' xs.length rs.length lr lp ad hv' ((gvs++tks).foldl (aV (aq rs) pace) W)->Q (.bl true) H'):ou vs H Q E
inductive oA(vs:List V)(H:Hp)(Q:VK)(E:XK):Prop
 |mk (H0:Hp) (lh lq lr lp:Addr) (gus ps:List V) (nl:Nat) (rs:List PR) (g:List Ent) (ad:Rl->Addr) (hv:Nat->V) (W:WS) (h0_:vs=[.ref lh,.ref lq,.ref lr,.ref lp]) (h1_:H0 lq=some (.lst ps)) (h2_:RRs H0 ps rs) (h3_:WH H0 H nl rs.length lr lp ad hv W) (h4_:(∀r∈rs,r.ok/\r.fit nl)) (h5_:rs.length<60) (h6_:H0 lh=some (.lst gus)) (h7_:REs H0 gus g) (h8_:g.length<=10000000) (h9_:(∀e∈g,e.part<rs.length)) (h10_:(∀y,y<rs.length->dg (aq rs) W y->∀e∈g,e.took=true->e.part<y)) (h11_:∀H',a9 H H'->Q (.bl true) H'):oA vs H Q E
theorem rP(T:Tx P w K mg a):aA P w K mg base CX0 2 a.DU a.DV ["_law_turn","_law_lines","_law_rows","_law_posts"] ow:=by
 refine T.Ei.ok pH (λvs H Q E h=>?_) (λcdv A outer s H vs Q E hr h=>?_)
 ·obtain⟨_,_,_,_,_,_,_,_,_,_,_,rfl,_⟩:=h
  rfl
 obtain⟨H0,ll,lr,lp,t,ls,xs,n,ad,hv,W,rfl,hll,rln,M,po,ng,q⟩:=h
 refine⟨_,(ae (cf PassesOwn.never U (bH (pq 3)) (aP (i:=4) pH.nd U Oi)
  (ah (aD (PW.pt (iU (ap iR (ag aN (pq 4) aa Oy) cX (ao _)) (iU (ap iS (ag aN (pq 4) aa Oy) (pq 0) (ao _)) (lD (bZ (aQ (rM T) (hr.mono Yd) U T.EX T.Eh.kp T.EW .nil ar (a8 (pq 1) (a8 (pq 2) (a8 (ag aN (pq 4) aa Oy) ac))))))))) (ah (ak br)) aF)))
  (ah (ak br))),?_⟩
 have sa:=M.own.sa;refine⟨_,U,lp,U,⟨_,SqL.of M.lpH⟩,?_⟩;refine df (K:=K) (a:=lp) (xs:=(List.range n).map λx=>V.ref (ad (.wt x))) (λi σ G=>(∃v4,σ=[some (.int t),some (.ref ll),some (.ref lr),some (.ref lp),v4])/\G=H) ⟨⟨_,U⟩,U⟩ ?_ ?_ ?_
 ·rintro i σ G _ ⟨_,rfl⟩;exact SqL.of M.lpH
 ·rintro i x σ G hx ⟨⟨v4,rfl⟩,rfl⟩
  have il:i<n:=by
   have:=(qg.mp hx).1;rw[qa,Qe]at this;exact this
  rw[qF,List.getElem?_range il]at hx;cases hx;have hp:=M.pst il;have hh:=M.hv i il;dsimp only[aI]
  cases hpo:W.post i with
  |none=>
   rw[hpo]at hh;have hh:hv i=.non:=hh;rw[hh]at hp;exact⟨_,U,_,_,_,_,U,U,SqL.of hp,U,U,_,U,dF (aL U ⟨⟨_,U⟩,U⟩)⟩
  |some hs=>
   rw[hpo]at hh;obtain⟨lh,us,eh,hlh,rp⟩:=hh;rw[eh]at hp;refine⟨_,U,_,_,_,_,U,U,SqL.of hp,U,U,_,U,md ?_⟩;refine⟨_,U,_,_,_,_,U,U,SqL.of hp,U,_,U,_,_,U,U,_,U,?_⟩;by_cases le:W.due i<=t
   ·refine bo (Q3 le) ?_;refine⟨_,U,_,U,_,U,_,_,_,_,U,U,SqL.of hp,U,ll,lr,lh,ls,us,xs,W.rows,λi=>ad (.ql i),hs,U,sa _ _ hll,rln.same sa,M.lrH,λi hi=>M.row hi,sa _ _ hlh,rp.same sa,po i il hs hpo,_,U,?_⟩;refine aL ?_ ⟨⟨_,U⟩,U⟩
    cases hb:eS xs W.rows hs with
    |false=>rfl
    |true=>exact Q5 ⟨i,il,hs,hpo,le,List.all_eq_true.mp hb⟩ ng
   ·exact aL (Q4 le) (aL U ⟨⟨_,U⟩,U⟩)
 ·rintro σ G ⟨⟨v4,rfl⟩,rfl⟩;exact q
theorem lV{nl:Nat}:∀{r:PR},r.fit nl->∀l∈cu r,0<=l/\l<nl
 |.pass ..,h,l,hl=>⟨h.1.lo l hl,h.1.hi l hl⟩
 |.work ..,h,l,hl=>⟨h.1.lo l hl,h.1.hi l hl⟩
 |.choose ..,h,l,hl=>⟨h.1.lo l hl,h.1.hi l hl⟩
 |.merge ..,h,l,hl=>by
  rcases qi.mp hl with hl|hl
  ·rcases qi.mp hl with hl|hl
   ·exact⟨h.1.lo l (qm _ hl),h.1.hi l (qm _ hl)⟩
   ·exact⟨h.2.1.lo l (qm _ hl),h.2.1.hi l (qm _ hl)⟩
  ·rw[qT.mp hl];exact⟨h.1.lo _ qp,h.1.hi _ qp⟩
theorem zc(out:List Nat)(y:Nat):aE out++[V.int y]=aE (out++[y]):=by unfold aE;rw[qP];rfl
theorem zM{f:Nat->List Int}{ws:List Int}:(ws.filter λl=>(f l.toNat).isEmpty)=[]↔∀l∈ws,f l.toNat≠[]:=by
 rw[List.filter_eq_nil_iff];exact⟨λh l hl z=>h l hl (by rw[z];rfl),λh l hl z=>h l hl (List.isEmpty_iff.mp z)⟩
theorem iZ(T:Tx P w K mg a):aA P w K mg base CX0 2 a.DW a.DX ["_law_parts","_law_rows","_law_posts"] nZ:=by
 refine T.BF.ok iF (λvs H Q E h=>?_) (λcdv A outer s H vs Q E hr h=>?_)
 ·obtain⟨_,_,_,_,_,_,_,_,_,_,rfl,_⟩:=h
  rfl
 obtain⟨H0,lq,lr,lp,ps,nl,rs,ad,hv,W,rfl,hlq,rrs,M,okr,n60,q⟩:=h
 refine⟨_,(ae (aT (i:=3) iF.nd U Oi (bn ac))
  (ae (cf PassesOwn.never U (dm U T.xz (a8 (bh bG U T.ld Q8 (a8 (pq 0) ac)) ac)) (aP (i:=4) iF.nd U Oi)
  (ah (aD (ap gp (ag aN (ag aN (pq 2) (pq 4) Oy) aa Oy) cX (ao _)) (ae (eV (i:=5) iF.nd U Oi (k:=1) (Nc:=["_law_line_here","_law_rows"]) (js:=[1]) (show aK (am iH) ["_law_parts","_law_rows","_law_posts","_law_out","_law_k","_law_lacking"] _ 1 ["_law_line_here","_law_rows"] [1]from aK.mk U (by decide +kernel) (by decide +kernel) (by decide +kernel) U (by decide +kernel)) U (gu (aQ (rK T) (hr.mono Yd) U T.ER T.Eg.kp T.EQ .nil ar (a8 (ag aN (pq 0) (pq 4) Oy) (a8 (pq 1) ac)))) (λ_ _ _ _ _=>(aP (i:=0) (show List.Nodup (["_law_line_here","_law_rows"]:List Str)from by decide +kernel) U Oi)) (λ_ _ _ _ _=>(lF (ap (xO (K:=K) U hr.units) (ag (fB (K:=K) U) (pq 1) (pq 0) Oy) (bn ac) (ao _)))) (λ_ _ _ _ _=>(pq 0)))
  (ah (aD (ap (fJ hr.units) (pq 5) (bn ac) (ao _)) (ah (bO (cD qh qw qx d8 (pq 3) (a8 (pq 4) ac)))) aF))) aF)))
  (ah (ak (pq 3))))),?_⟩
 have sa:=M.own.sa;refine⟨qu _,λlo hlo=>?_⟩;dsimp only[aI];have so:=a9.new hlo (.lst []);refine⟨_,U,lq,_,U,.inl (SqL.of (so _ _ (sa _ _ hlq))),_,U,by rw[rrs.len];omega,by rw[rrs.len];omega,?_⟩;refine tz (λi σ G=>(∃v4 v5,σ=[some (.ref lq),some (.ref lr),some (.ref lp),some (.ref lo),v4,v5])/\a9 H G/\∃out,G lo=some (.lst (aE out))/\out.length<=i/\∀y,y∈out↔y<i/\dg (aq rs) W y) ⟨⟨_,_,U⟩,so,[],af,qf _,λy=>⟨λh=>(nomatch h),λh=>Q5 h.1 (Qy _)⟩⟩ ?_ ?_
 ·rintro i σ G hi ⟨⟨v4,v5,rfl⟩,sg,out,ho,ol,mem⟩;have il:i<rs.length:=by rw[rrs.len]at hi;simpa using hi
  obtain⟨pv,hpv,rpv,rmem⟩:=rrs.nth il;obtain⟨okx,ftx⟩:=okr _ rmem;have hp:=M.pst il;have hh:=M.hv i il;have e0:(0:Int)+(i:Int)=(i:Int):=Int.zero_add _;dsimp only[aI];rw[e0];refine⟨_,U,_,U,lp,_,_,_,U,U,SqL.of (sg _ _ M.lpH),jk il,_,_,_,_,U,U,SqL.of (sg _ _ hp),U,?_⟩
  cases hpo:W.post i with
  |some hs=>
   rw[hpo]at hh;obtain⟨lh,us,eh,hlh,rp⟩:=hh;rw[eh];refine⟨U,_,U,aL U ⟨⟨_,_,U⟩,sg,out,ho,Yk,λy=>?_⟩⟩;rw[mem y];refine⟨λz=>⟨Yk,z.2⟩,λz=>⟨?_,z.2⟩⟩;by_cases e:y=i
   ·have:=z.2.1;rw[e,hpo]at this;cases this
   ·have:=z.1;omega
  |none=>
   rw[hpo]at hh;have hh:hv i=.non:=hh;rw[hh];refine⟨U,_,U,bo U ?_⟩;refine⟨_,U,_,U,lq,_,_,_,U,U,SqL.of (sg _ _ (sa _ _ hlq)),bT hpv,_,U,pv,_,lr,W.rows,λi=>ad (.ql i),nl,U,(rpv.same sa).same sg,okx,ftx,sg _ _ M.lrH,λi hi=>sg _ _ (M.row hi),λG1 t s1 ht=>⟨t,U,⟨_,SqT.of ht⟩,?_⟩⟩
   have wl:(bS W.rows (aq rs i)).length<=1000:=by
    have:=jq (S:={ st:=λi=>(W.rows i,0),held:=λ_=>[],tks:=λ_=>0,gv:=[],tr:=[],wr:=λ_=>[],wt:=λ_=>[],sp:=0,lg:=[] }) okx;rw[ip]at this;exact qz this Yd
   have sg1:=sg.trans s1;refine tQ (K:=K) (a:=t) (xs:=(bS W.rows (aq rs i)).map V.int) (λj ys σ G'=>(∃v,σ=[v,some (.ref lr)])/\a9 G1 G'/\ys=(((bS W.rows (aq rs i)).take j).filter λl=>(W.rows l.toNat).isEmpty).map V.int) ⟨⟨none,U⟩,a9.refl _,U⟩ ?_ (bb (m:=1000) (by rw[qa];exact wl)) ?_ ?_ ?_
   ·rintro j ys σ G' _ ⟨_,_,rfl⟩;rw[qa];refine qz (List.length_filter_le _ _) ?_;rw[qL];omega
   ·rintro j ys σ G' ⟨_,s2,_⟩;exact SqT.of (s2 _ _ ht)
   ·rintro j x ys σ G' hx ⟨⟨v,rfl⟩,s2,rfl⟩;rw[qF]at hx;obtain⟨l,hl,rfl⟩:=qQ.mp hx;obtain⟨l0,l1⟩:=lV ftx l (jo (qA hl));have rw0:=(sg1.trans s2) _ _ (M.row (i:=l.toNat) Yk);refine⟨_,U,_,U,lr,_,_,_,U,U,SqL.of ((sg1.trans s2) _ _ M.lrH),gH l0 l1,qu _,λpe hpe=>?_⟩;have s3:=a9.new hpe (.lst []);refine⟨_,.list [],.lst (SqL.of (s3 _ _ rw0)) (dS _),.lst (SqL.of af) .nil,(Shp.lst (n:=0) (dZ _)).shaped Yd,Qz,_,U,?_⟩
    have et:((bS W.rows (aq rs i)).take (j+1)).filter (λl=>(W.rows l.toNat).isEmpty)=((bS W.rows (aq rs i)).take j).filter (λl=>(W.rows l.toNat).isEmpty)++[l].filter (λl=>(W.rows l.toNat).isEmpty):=by
     rw[qt,hl,Qs]
     rfl
    cases hrow:W.rows l.toNat with
    |nil=>
     refine bo Qz ⟨_,U,⟨_,U⟩,s2.trans s3,?_⟩;rw[et,List.filter_cons_of_pos (by rw[hrow];rfl),qP]
     rfl
    |cons b bs=>
     refine aL U ⟨⟨_,U⟩,s2.trans s3,?_⟩;rw[et,List.filter_cons_of_neg (by rw[hrow];exact qj),List.filter_nil,qy]
   rintro ys σ G2 ⟨_,s2,rfl⟩ l5 hl5;rw[qa,qI];have s5:=a9.new hl5 (.lst (((bS W.rows (aq rs i)).filter λl=>(W.rows l.toNat).isEmpty).map V.int));dsimp only[aI];refine⟨_,U,qu _,λpe hpe=>?_⟩;have s6:=a9.new hpe (.lst []);refine⟨_,.list [],.lst (SqL.of (s6 _ _ af)) (dS _),.lst (SqL.of af) .nil,(Shp.lst (n:=0) (dZ _)).shaped Yd,Qz,_,U,?_⟩;have s26:=s1.trans (s2.trans (s5.trans s6));have ho6:=s26 _ _ ho;generalize hlk:(bS W.rows (aq rs i)).filter (λl=>(W.rows l.toNat).isEmpty)=lk at s26 ho6 ⊢
   have rdy:dg (aq rs) W i↔lk=[]:=by
    rw[<- hlk,zM];exact⟨λz=>z.2,λz=>⟨hpo,z⟩⟩
   cases lk with
   |nil=>
    refine bo Qz ?_;refine⟨_,U,.inl ⟨U,_,SqL.of ho6⟩,_,U,lo,_,_,U,U,ho6,bb (m:=1000) (by unfold aE;rw[qa];omega),⟨_,_,U⟩,a9.over (sg.trans s26) hlo,out++[i],by rw[af,zc],by rw[qc,Q7];omega,λy=>?_⟩;rw[qi,mem y,qT];constructor
    ·rintro(z|z)
     ·exact⟨Yk,z.2⟩
     ·rw[z];exact⟨Qb _,rdy.mpr U⟩
    ·rintro⟨z1,z2⟩;by_cases e:y=i
     ·exact .inr e
     ·exact .inl ⟨Yk,z2⟩
   |cons b bs=>
    refine aL U ⟨⟨_,_,U⟩,sg.trans s26,out,ho6,Yk,λy=>?_⟩;rw[mem y];refine⟨λz=>⟨Yk,z.2⟩,λz=>⟨?_,z.2⟩⟩;by_cases e:y=i
    ·have:=rdy.mp (e▸z.2);cases this
    ·have:=z.1;omega
 ·rintro σ G ⟨⟨v4,v5,rfl⟩,sg,out,ho,ol,mem⟩;rw[rrs.len]at mem;refine⟨_,U,q _ lo out sg ho λy=>?_⟩;have:=mem y;simpa using this
theorem REs.dt{K:W.Frag}{H:Hp}:∀{vs:List V}{es:List Ent},REs H vs es->∃ds,bU K H vs ds/\∀d∈ds,Shp 3 d
 |_,_,.nil=>⟨[],.nil,jF⟩
 |_,_,.cons (e:=e) a b c r=>by
  obtain⟨ds,h1,h2⟩:=REs.dt (K:=K) r;refine⟨_,.cons (.tup (SqT.of a) (.cons (.int _) (.cons (.int _) (.cons (.str _) (.cons (.lst (SqL.of b) c.dt) .nil))))) h1,gf (.tup (gf (.int _ _) (gf (.int _ _) (gf (.str _ ?_) (gf (pk _) jF))))) h2⟩;cases e.took<;>decide +kernel
structure GH(H0 H G:Hp)(lo:Addr)(as:List Addr)(Gs:List (List Ent)):Prop where
 s0:a9 H0 H
 sa:a9 H G
 hl:G lo=some (.lst (as.map V.ref))
 nd:as.Nodup
 off:lo∉as
 nw:∀x∈as,H x=none
 ln:as.length=Gs.length
 at_:∀(j:Nat) x g,as[j]?=some x->Gs[j]?=some g->∃us,G x=some (.lst us)/\REs H0 us g
theorem GH.rgs{H0 H G:Hp}{lo:Addr}{as:List Addr}{Gs:List (List Ent)}(h:GH H0 H G lo as Gs):RGs G (as.map V.ref) Gs:=by
 have go:∀(as:List Addr)(Gs:List (List Ent)),as.length=Gs.length->(∀(j:Nat) x g,as[j]?=some x->Gs[j]?=some g->∃us,G x=some (.lst us)/\REs H0 us g)->RGs G (as.map V.ref) Gs:=by
  intro as
  induction as with
  |nil=>intro Gs hl _;cases List.length_eq_zero_iff.mp hl.symm;exact .nil
  |cons x as ih=>
   intro Gs hl hat
   cases Gs with
   |nil=>cases hl
   |cons g Gs=>
    obtain⟨us,h1,h2⟩:=hat 0 x g U U;exact .cons h1 (h2.same (h.s0.trans h.sa)) (ih Gs (by simpa using hl) λj x g a b=>hat (j+1) x g (by simpa using a) (by simpa using b))
 exact go as Gs h.ln h.at_
theorem RGs.dt{K:W.Frag}{H:Hp}:∀{vs:List V}{Gs:List (List Ent)},RGs H vs Gs->∃ds,bU K H vs ds/\(∀d∈ds,Shp 4 d)/\ds.length=Gs.length
 |_,_,.nil=>⟨[],.nil,jF,U⟩
 |_,_,.cons a b r=>by
  obtain⟨ds,h1,h2,h3⟩:=RGs.dt (K:=K) r;obtain⟨es,h4,h5⟩:=b.dt (K:=K);exact⟨_,.cons (.lst (SqL.of a) h4) h1,gf (.lst h5) h2,congrArg (·+1) h3⟩
theorem g9{α:Type}(l:List α):l=[]\/∃L b,l=L++[b]:=by
 rcases List.eq_nil_or_concat l with h|⟨L,b,h⟩
 ·exact .inl h
 ·exact .inr ⟨L,b,by rw[h];simp⟩
theorem REs.app{H:Hp}:∀{vs us:List V}{es fs:List Ent},REs H vs es->REs H us fs->REs H (vs++us) (es++fs)
 |_,_,_,_,.nil,h=>h
 |_,_,_,_,.cons a b c r,h=>.cons a b c (REs.app r h)
section
variable {H0 H G:Hp}{lo:Addr}{as:List Addr}{Gs:List (List Ent)}
theorem GH.up(h:GH H0 H G lo as Gs){G':Hp}(s:a9 G G'):GH H0 H G' lo as Gs:=
 ⟨h.s0,h.sa.trans s,s _ _ h.hl,h.nd,h.off,h.nw,h.ln,λj x g a b=>let ⟨us,c,d⟩:=h.at_ j x g a b;⟨us,s _ _ c,d⟩⟩
theorem GH.ne(h:GH H0 H G lo as Gs){pn:Addr}(hpn:G pn=none):pn∉as:=λz=>by
 obtain⟨j,hj,ej⟩:=List.mem_iff_getElem.mp z;have jg:j<Gs.length:=by rw[<- h.ln];exact hj
 obtain⟨us,c,_⟩:=h.at_ j pn _ (qg.mpr ⟨hj,ej⟩) (qd jg);rw[hpn]at c;cases c
theorem GH.add(h:GH H0 H G lo as Gs)(lon:H lo=none){pn:Addr}(hpn:G pn=none){p:V}{e:Ent}(re:REs H0 [p] [e]):GH H0 H (upd (upd G pn (.lst [p])) lo (.lst (as.map V.ref++[.ref pn]))) lo (as++[pn]) (Gs++[[e]]):=by
 have n1:=h.ne hpn;have n2:pn≠lo:=λz=>by have:=h.hl;rw[<- z,hpn]at this;cases this
 refine⟨h.s0,a9.over (h.sa.trans (a9.new hpn _)) lon,by rw[af,qP];rfl,lR h.nd n1,λz=>?_,λx hx=>?_,by rw[qc,qc,h.ln];rfl,λj x g a b=>?_⟩
 ·rcases qi.mp z with z|z
  ·exact h.off z
  ·exact n2 (qT.mp z).symm
 ·rcases qi.mp hx with hx|hx
  ·exact h.nw x hx
  ·rw[qT.mp hx];exact a9.none h.sa hpn
 ·by_cases lt:j<as.length
  ·rw[Q6 lt]at a;rw[Q6 (by rw[<- h.ln];exact lt)]at b;obtain⟨us,c,d⟩:=h.at_ j x g a b;have xm:=qA a;exact⟨us,by rw[aj λz:x=lo=>h.off (by rw[<- z];exact xm),aj λz:x=pn=>n1 (by rw[<- z];exact xm)];exact c,d⟩
  ·rw[qM Yk]at a;rw[qM (by rw[<- h.ln];omega)]at b
   have ej:j-as.length=0:=by
    have:=(qg.mp a).1;rw[Q7]at this;omega
   rw[ej]at a;rw[<- h.ln,ej]at b;cases a;cases b;exact⟨[p],by rw[aj n2,af],re⟩
theorem GH.app{x:Addr}{g:List Ent}(h:GH H0 H G lo (as++[x]) (Gs++[g]))(lon:H lo=none){us:List V}(ru:REs H0 us g){p:V}{e:Ent}(re:REs H0 [p] [e]):GH H0 H (upd G x (.lst (us++[p]))) lo (as++[x]) (Gs++[g++[e]]):=by
 have xm:x∈as++[x]:=qJ _ (qT.mpr U);have nx:lo≠x:=λz=>h.off (z▸xm);have ln:as.length=Gs.length:=by have:=h.ln;rw[qc,qc]at this;simpa using this
 refine⟨h.s0,a9.over h.sa (h.nw x xm),by rw[aj nx];exact h.hl,h.nd,h.off,h.nw,by rw[qc,qc,ln];rfl,λj y g' a b=>?_⟩;by_cases lt:j<as.length
 ·have b':(Gs++[g])[j]?=some g':=by rw[Q6 (by rw[<- ln];exact lt)]at b ⊢;exact b
  obtain⟨vs,c,d⟩:=h.at_ j y g' a b';rw[Q6 lt]at a;have ym:=qA a
  have ne:y≠x:=λz=>by
   have:=(List.nodup_append.mp h.nd).2.2 y ym x (qT.mpr U);exact this z
  exact⟨vs,by rw[aj ne];exact c,d⟩
 ·rw[qM Yk]at a;rw[qM (by rw[<- ln];omega)]at b
  have ej:j-as.length=0:=by
   have:=(qg.mp a).1;rw[Q7]at this;omega
  rw[ej]at a;rw[<- ln,ej]at b;cases a;cases b;exact⟨us++[p],af,ru.app re⟩
end
theorem jC:∀{Gs:List (List Ent)},(∀g∈Gs,g≠[])->Gs.length<=(Gs.map List.length).sum
 |[],_=>qf _
 |g::Gs,h=>by
  have h1:=jC (Gs:=Gs) λg hg=>h g (qm _ hg);have h2:=List.length_pos_iff.mpr (h g qp);rw[qC,qS,List.sum_cons];omega
inductive oq(vs:List V)(H:Hp)(Q:VK)(E:XK):Prop
 |mk (H0:Hp) (lg:Addr) (lgv:List V) (es:List Ent) (h0_:vs=[.ref lg]) (h1_:a9 H0 H) (h2_:H lg=some (.lst lgv)) (h3_:REs H0 lgv es) (h4_:es.length<=10000000) (h5_:∀H' lo as,H lo=none->GH H0 H H' lo as (es.foldl cj [])->Q (.ref lo) H'):oq vs H Q E
theorem yf(T:Tx P w K mg a):aA P w K mg base CX0 1 a.E1 a.E2 ["_law_log"] oq:=by
 refine T.Fc.ok jK (λvs H Q E h=>?_) (λcdv A outer s H vs Q E hr h=>?_)
 ·obtain⟨_,_,_,_,rfl,_⟩:=h
  rfl
 obtain⟨H0,lg,lgv,es,rfl,s0,hlg,res,sz,q⟩:=h
 refine⟨_,(ae (aT (i:=1) jK.nd U Oi (bn ac))
  (ae (cf PassesOwn.never U (bH (pq 0)) (aP (i:=2) jK.nd U Oi)
  (ah (aD (PW.pt (iU (ap (hZ hr.units) (pq 1) (bn ac) (ao _)) (lD (ap ba (ag au (ag aN (ag aN (pq 1) (iV iu aa) Oy) aa Oy) aa Oy) (ag au (pq 2) aa Oy) (ao _))))) (ah (bO (cD qh qw qx d8 (ag aN (pq 1) (iV iu aa) Oy) (a8 (pq 2) ac)))) (ah (bO (cD qh qw qx d8 (pq 1) (a8 (bn (a8 (pq 2) ac)) ac)))))))
  (ah (ak (pq 1))))),?_⟩
 refine⟨qu _,λlo hlo=>?_⟩;dsimp only[aI];have so:=a9.new hlo (.lst []);refine⟨_,U,lg,U,⟨_,SqL.of (so _ _ hlg)⟩,?_⟩;refine df (K:=K) (a:=lg) (xs:=lgv) (λi σ G=>(∃v2,σ=[some (.ref lg),some (.ref lo),v2])/\∃as,GH H0 H G lo as ((es.take i).foldl cj [])/\(((es.take i).foldl cj []).map List.length).sum=i/\∀g∈(es.take i).foldl cj [],g≠[]) ⟨⟨_,U⟩,[],⟨s0,so,af,List.nodup_nil,λh=>(nomatch h),λ_ h=>(nomatch h),U,λj x g h=>(by simp at h)⟩,U,λ_ h=>(nomatch h)⟩ ?_ ?_ ?_
 ·rintro i σ G _ ⟨_,as,gh,_⟩;exact SqL.of (gh.sa _ _ hlg)
 ·rintro i x σ G hx ⟨⟨v2,rfl⟩,as,gh,sm,ne⟩;obtain⟨p,l,eus,e,rfl,he,hp,hl,rp⟩:=res.at hx;have et:(es.take (i+1)).foldl cj []=cj ((es.take i).foldl cj []) e:=by rw[qt,he,List.foldl_append];rfl
  rw[et];have il:i<10000000:=by have:=(qg.mp he).1;omega
  generalize (es.take i).foldl cj []=Gs at gh sm ne;obtain⟨ds,dd,sd,dl⟩:=gh.rgs.dt (K:=K);dsimp only[aI];refine⟨_,U,qu _,λpe hpe=>?_⟩;have s1:=a9.new hpe (.lst []);refine⟨_,.list [],(Dt.lst (SqL.of gh.hl) dd).same s1,.lst (SqL.of af) .nil,(Shp.lst sd).shaped Yd,Qz,_,U,?_⟩;have re:REs H0 [.ref p] [e]:=.cons hp hl rp .nil;have gh1:=gh.up s1;have hp1:=gh1.sa _ _ (s0 _ _ hp);have sg:=jC ne;have al:=gh.ln;generalize upd G pe (.lst [])=G1 at gh1 hp1 ⊢;rcases g9 Gs with rfl|⟨G0,g,rfl⟩
  ·cases List.length_eq_zero_iff.mp al;cases List.length_eq_zero_iff.mp dl;refine aL Qz (aL U ?_);refine⟨_,U,.inl ⟨U,_,SqL.of gh1.hl⟩,_,U,ln1,λpn hpn=>⟨lo,_,_,U,U,a9.new hpn _ _ _ gh1.hl,(by rw[sizeLine_eq];exact Nat.succ_pos _),?_⟩⟩;exact⟨⟨_,U⟩,_,gh1.add hlo hpn re,by rw[Af];show 1=i+1;have:0=i:=sm;omega,λg hg=>by rw[qT.mp hg];simp⟩
  ·obtain⟨as0,x,rfl⟩:∃as0 x,as=as0++[x]:=by
    rcases g9 as with rfl|⟨as0,x,rfl⟩
    ·rw[qc]at al;simp at al
    ·exact⟨as0,x,U⟩
   have al0:as0.length=G0.length:=by rw[qc,qc]at al;simpa using al
   obtain⟨us,hx1,ru⟩:=gh1.at_ as0.length x g (by rw[qM (qf _)];simp) (by rw[al0,qM (qf _)];simp);have gne:=ne g (qJ _ (qT.mpr U));have sm':(G0.map List.length).sum+g.length=i:=by rw[qP,List.sum_append]at sm;simpa using sm
   have hl1:=gh1.hl;rw[qP]at hl1
   cases ds with
   |nil=>rw[qc]at dl;simp at dl
   |cons d0 ds=>
    refine bo U ?_
    cases g with
    |nil=>exact Q5 U gne
    |cons e0 g=>
     have ru0:=ru
     cases ru0 with
     |cons a1 a2 a3 a4=>
      rename_i p0 l0 us0 us1;refine⟨_,U,_,U,lo,_,_,_,U,U,SqL.of hl1,uc _ _,x,_,_,_,U,U,SqL.of hx1,at0,p0,_,_,_,U,U,SqT.of (gh1.sa _ _ (s0 _ _ a1)),U,_,U,p,_,_,_,U,U,SqT.of hp1,U,U,_,U,?_⟩
      have hne:∀g'∈G0++[(e0::g)++[e]],g'≠[]:=λg' hg'=>by
       rcases qi.mp hg' with hg'|hg'
       ·exact ne g' (qW _ hg')
       ·rw[qT.mp hg'];simp
      rw[sX];by_cases en:e0.now=e.now
      ·rw[Q1 (show((e0::g).headD e).now=e.now from en)];refine bo (by rw[en];exact Q3 U) ?_;have lz:=a4.len;refine⟨_,U,_,U,lo,_,_,_,U,U,SqL.of hl1,uc _ _,.inl ⟨U,_,SqL.of hx1⟩,_,U,x,_,_,U,U,hx1,?_,⟨_,U⟩,_,gh1.app hlo ru re,?_,hne⟩
       ·rw[sizeLine_eq,ru.len];omega
       ·rw[qP,List.sum_append];simp only[qS,List.map_nil,List.sum_cons,List.sum_nil,qc,qC,List.length_nil]at sm' ⊢;omega
      ·rw[Q0 (show ¬ ((e0::g).headD e).now=e.now from en)];refine aL (Q4 λz=>en (V.int.inj z)) ?_;refine⟨_,U,.inl ⟨U,_,SqL.of gh1.hl⟩,_,U,ln1,λpn hpn=>⟨lo,_,_,U,U,a9.new hpn _ _ _ gh1.hl,?_,?_⟩⟩
       ·rw[sizeLine_eq,qa];omega
       ·refine⟨⟨_,U⟩,_,gh1.add hlo hpn re,?_,λg' hg'=>?_⟩
        ·rw[qP,List.sum_append,sm]
         rfl
        ·rcases qi.mp hg' with hg'|hg'
         ·exact ne g' hg'
         ·rw[qT.mp hg'];simp
 ·rintro σ G ⟨⟨v2,rfl⟩,as,gh,sm,ne⟩;rw[res.len,qI]at gh;exact⟨_,U,q _ lo as hlo gh⟩
theorem AD(xs:List V){n:Nat}(h:n<=xs.length):cq xs (some (n:Int)) none=xs.drop n:=by
 unfold cq
 have e1:HT.sIx xs.length 0 (some (n:Int))=n:=by
  have:=HT.sIx_nat xs.length 0 n;rw[this];omega
 have e2:HT.sIx xs.length xs.length none=xs.length:=U;rw[e1,e2];exact List.take_of_length_le (by rw[qZ];exact qf _)
theorem REs.split{H:Hp}{vs:List V}{es fs:List Ent}(h:REs H vs (es++fs)):REs H (vs.take es.length) es/\REs H (vs.drop es.length) fs:=by
 induction es generalizing vs with
 |nil=>exact⟨.nil,h⟩
 |cons e es ih=>
  cases h with
  |cons a b c r=>
   obtain⟨h1,h2⟩:=ih r;exact⟨.cons a b c h1,h2⟩
theorem bN.app{n nl:Nat}{ls:Nat->Option Int}{prt:Nat->PR}{pace:List (List Int)}:∀{es fs:List Ent}{W:WS},bN n nl ls prt pace W (es++fs)->bN n nl ls prt pace W es/\bN n nl ls prt pace (es.foldl (aV prt pace) W) fs
 |[],_,_,h=>⟨trivial,h⟩
 |_::es,_,_,h=>let ⟨a,b⟩:=bN.app (es:=es) h.2;⟨⟨h.1,a⟩,b⟩
theorem yg(T:Tx P w K mg a):aA P w K mg base CX0 5 a.DY a.DZ ["_law_group_here","_law_lines","_law_parts","_law_pace_here","_law_rows","_law_posts"] ou:=by
 refine T.Fb.ok gS (λvs H Q E h=>?_) (λcdv A outer s H vs Q E hr h=>?_)
 ·obtain⟨_,_,_,_,_,_,_,_,_,_,_,_,_,_,_,_,_,rfl,_⟩:=h
  rfl
 obtain⟨H0,lh,ll,lq,lr,lp,v,gus,xs,rs,pace,gvs,tks,k,ad,hv,W,rfl,wq,hlh,reg,gne,hg,ht,sz,M,wk,po,ng,q⟩:=h
 refine⟨_,(ae (aT (i:=6) gS.nd U Oi (ag au (ag aN (pq 0) aa Oy) aa Oy))
  (ae (eV (i:=7) gS.nd U Oi (k:=1) (Nc:=["_law_entry"]) (js:=[]) (show aK (am iL) ["_law_group_here","_law_lines","_law_parts","_law_pace_here","_law_rows","_law_posts","_law_turn","_law_gave","_law_entry"] _ 1 ["_law_entry"] []from aK.mk U (by decide +kernel) (by decide +kernel) (by decide +kernel) U (by decide +kernel)) U (bH (pq 0)) (λ_ _ _ _ _=>(aP (i:=0) (show List.Nodup (["_law_entry"]:List Str)from by decide +kernel) U Oi)) (λ_ _ _ _ _=>(lF (ap ba (ag (cL (K:=K) U) (pq 0) aa Oy) bg (ao _)))) (λ_ _ _ _ _=>(pq 0)))
  (ae (cf PassesOwn.never U (bH (pq 7)) (aP (i:=8) gS.nd U Oi)
  (ah (aD (cN (bZ (aQ (yh T) (hr.mono Yd) U T.Hx T.EY.kp T.Hw .nil ar (a8 (pq 8) (a8 (pq 1) (a8 (pq 4) (a8 (pq 5) ac))))))) (ah (ak br)) aF)))
  (ae (aD (bZ (aQ (rP T) (hr.mono Yd) U T.Fa T.Ei.kp T.EZ .nil ar (a8 (pq 6) (a8 (pq 1) (a8 (pq 4) (a8 (pq 5) ac)))))) (ah (ak br)) aF)
  (ae (cf PassesOwn.never U (bH (eB jE (pq 0) (cg (bh bG U T.ld Q8 (a8 (pq 7) ac))) fG)) (aP (i:=8) gS.nd U Oi)
  (ah (aD (PW.pt (cM (ap gm (ag au (pq 8) aa Oy) bg (ao _)) (dk (cN (bZ (aQ (xZ T) (hr.mono Yd) U T.Hv T.EV.kp T.Hu .nil ar (a8 (pq 8) (a8 (pq 1) (a8 (pq 2) (a8 (pq 3) (a8 (pq 4) (a8 (pq 5) ac)))))))))))) (ah (ak br)) aF)))
  (ah (ak br))))))),?_⟩
 have sa:=M.own.sa
 obtain⟨e0,p0,tp0,en0,hp0⟩:∃(e0:Ent)(p0:Addr)(rest:List V),gus[0]?=some (.ref p0)/\H0 p0=some (.tup (.int k::rest)):=by
  cases hgg:gvs++tks with
  |nil=>exact Q5 hgg gne
  |cons e0 g=>
   have e0k:e0.now=k:=by
    have:e0∈gvs++tks:=by rw[hgg];exact qp
    rcases qi.mp this with m|m
    ·exact(hg e0 m).1
    ·exact(ht e0 m).1
   rw[hgg]at reg
   cases reg with
   |cons a b c r=>exact⟨e0,_,_,U,by rw[<- e0k];exact a⟩
 obtain⟨wk1,wk2⟩:=wk.app;obtain⟨rg,rt⟩:=reg.split;refine⟨_,U,lh,_,_,_,U,U,SqL.of (sa _ _ hlh),bT (j:=0) en0,p0,_,_,_,U,U,SqT.of (sa _ _ hp0),at0,?_⟩;dsimp only[aI];refine⟨_,U,lh,U,⟨_,SqL.of (sa _ _ hlh)⟩,?_⟩;refine mG (K:=K) (a:=lh) (xs:=gus) (λi ys σ G=>(∃v,σ=[v])/\G=H/\ys=(gus.take gvs.length).take i) ⟨⟨none,U⟩,U,by simp⟩ ?_ (by rw[reg.len,sizeLine_eq];omega) ?_ ?_ ?_
 ·rintro i ys σ G _ ⟨_,_,rfl⟩;rw[qL];omega
 ·rintro i ys σ G ⟨_,rfl,_⟩;exact SqL.of (sa _ _ hlh)
 ·rintro i x ys σ G hx ⟨⟨v0,rfl⟩,rfl,rfl⟩;obtain⟨p,l,eus,e,rfl,he,hp,_⟩:=(reg.same sa).at hx;by_cases lt:i<gvs.length
  ·rw[Q6 lt]at he;have tk:=(hg e (qA he)).2;rw[tk]at hp;refine⟨_,U,p,_,_,_,U,U,SqT.of hp,U,U,_,U,bo Qz ⟨_,U,⟨_,U⟩,U,?_⟩⟩;rw[qt,List.getElem?_take_of_lt lt,hx]
   rfl
  ·rw[qM Yk]at he;have tk:=(ht e (qA he)).2;rw[tk]at hp;refine⟨_,U,p,_,_,_,U,U,SqT.of hp,U,U,_,U,aL Qz ⟨⟨_,U⟩,U,?_⟩⟩;rw[List.take_take,List.take_take,Nat.min_eq_right Yk,Nat.min_eq_right Yk]
 rintro ys σ G ⟨_,eG,rfl⟩ l1 hl1;rw[eG]at hl1 ⊢;rw[List.take_of_length_le (show(gus.take gvs.length).length<=gus.length from List.length_take_le' _ _)];have s1:=a9.new hl1 (.lst (gus.take gvs.length));obtain⟨K1,sk1,nw1,_,M1⟩:=M.more s1;have kl1:=nw1 _ _ hl1 af;have gl:(gus.take gvs.length).length=gvs.length:=rg.len;generalize upd H l1 (.lst (gus.take gvs.length))=H1 at M1 s1;dsimp only[aI];refine⟨_,U,l1,U,⟨_,SqL.of (M1.own.sa _ _ kl1)⟩,?_⟩;refine df (K:=K) (a:=l1) (xs:=gus.take gvs.length) (λi σ G=>(∃v8,σ=[some (.ref lh),some (.ref ll),some (.ref lq),some v,some (.ref lr),some (.ref lp),some (.int k),some (.ref l1),v8])/\∃K' hv,a9 K1 K'/\WH K' G xs.length rs.length lr lp ad hv ((gvs.take i).foldl (aV (aq rs) pace) W)/\bN rs.length xs.length (λi=>(bi xs i).1) (aq rs) pace ((gvs.take i).foldl (aV (aq rs) pace) W) (gvs.drop i)) ⟨⟨_,U⟩,K1,hv,a9.refl _,M1,wk1⟩ ?_ ?_ ?_
 ·rintro i σ G _ ⟨_,K',hv',sk',M',_⟩;exact SqL.of (M'.own.sa _ _ (sk' _ _ kl1))
 ·rintro i x σ G hx ⟨⟨v8,rfl⟩,K',hv',sk',M',wk'⟩;obtain⟨p,l,eus,e,rfl,he,hp,hl,rp⟩:=(rg.same sk1).at hx;obtain⟨li,ei⟩:=qg.mp he;rw[List.drop_eq_getElem_cons li,ei]at wk';have et:(gvs.take (i+1)).foldl (aV (aq rs) pace) W=aV (aq rs) pace ((gvs.take i).foldl (aV (aq rs) pace) W) e:=by rw[qt,he,List.foldl_append];rfl
  rw[et];have wq':=(wq.same sk1).same sk';have tk:=(hg e (qA he)).2;dsimp only[aI];exact⟨_,U,_,U,_,U,_,U,K',ll,lq,p,lr,lp,v,xs,rs,pace,e,ad,hv',_,U,⟨⟨l,eus,sk' _ _ hp,sk' _ _ hl,rp.same sk'⟩,wq'.l,wq'.q,wq'.p,wq'.ok⟩,M',tk,wk'.1,λK6 H6 hv6 sk6 M6=>⟨_,U,aL U ⟨⟨_,U⟩,K6,hv6,sk'.trans sk6,M6,wk'.2⟩⟩⟩
 rintro σ G ⟨⟨v8,rfl⟩,K2,hv2,sk2,M2,_⟩;rw[gl,qI]at M2;have sk12:=sk1.trans sk2;have wq2:=wq.same sk12;obtain⟨ls,hll,rln⟩:=wq2.l;refine⟨_,U,_,U,_,U,_,U,K2,ll,lr,lp,k,ls,xs,rs.length,ad,hv2,_,U,hll,rln,M2,po,ng,_,U,aL U ?_⟩;have sa2:=M2.own.sa;refine⟨_,U,_,U,l1,_,U,.inl (SqL.of (sa2 _ _ (sk2 _ _ kl1))),_,U,lh,_,U,SqL.of (sa2 _ _ (sk12 _ _ hlh)),λl3 hl3=>⟨l3,U,⟨_,SqL.of af⟩,?_⟩⟩;have gz:gvs.length<=gus.length:=by rw[reg.len,qc];omega
 rw[gl,AD gus gz];have s3:=a9.new hl3 (.lst (gus.drop gvs.length));obtain⟨K3,sk3,nw3,_,M3⟩:=M2.more s3;have kl3:=nw3 _ _ hl3 af;have sk13:=sk12.trans sk3;have tl:(gus.drop gvs.length).length=tks.length:=rt.len;generalize upd G l3 (.lst (gus.drop gvs.length))=H3 at M3 s3;refine df (K:=K) (a:=l3) (xs:=gus.drop gvs.length) (λi σ G=>(∃v8,σ=[some (.ref lh),some (.ref ll),some (.ref lq),some v,some (.ref lr),some (.ref lp),some (.int k),some (.ref l1),v8])/\∃K' hv,a9 K3 K'/\WH K' G xs.length rs.length lr lp ad hv ((tks.take i).foldl (aV (aq rs) pace) (gvs.foldl (aV (aq rs) pace) W))/\bN rs.length xs.length (λi=>(bi xs i).1) (aq rs) pace ((tks.take i).foldl (aV (aq rs) pace) (gvs.foldl (aV (aq rs) pace) W)) (tks.drop i)) ⟨⟨_,U⟩,K3,hv2,a9.refl _,M3,wk2⟩ ?_ ?_ ?_
 ·rintro i σ G _ ⟨_,K',hv',sk',M',_⟩;exact SqL.of (M'.own.sa _ _ (sk' _ _ kl3))
 ·rintro i x σ G hx ⟨⟨v8,rfl⟩,K',hv',sk',M',wk'⟩;obtain⟨p,l,eus,e,rfl,he,hp,hl,rp⟩:=(rt.same sk13).at hx;obtain⟨li,ei⟩:=qg.mp he;rw[List.drop_eq_getElem_cons li,ei]at wk';have et:(tks.take (i+1)).foldl (aV (aq rs) pace) (gvs.foldl (aV (aq rs) pace) W)=aV (aq rs) pace ((tks.take i).foldl (aV (aq rs) pace) (gvs.foldl (aV (aq rs) pace) W)) e:=by rw[qt,he,List.foldl_append];rfl
  rw[et];have wq':=(wq.same sk13).same sk';have tk:=(ht e (qA he)).2;have hp2:=M'.own.sa _ _ (sk' _ _ hp);rw[tk]at hp2;dsimp only[aI];refine⟨_,U,p,_,_,_,U,U,SqT.of hp2,U,U,_,U,ii U ?_⟩;exact⟨_,U,_,U,_,U,_,U,_,U,_,U,K',ll,lq,p,lr,lp,v,xs,rs,pace,e,ad,hv',_,U,⟨⟨l,eus,sk' _ _ hp,sk' _ _ hl,rp.same sk'⟩,wq'.l,wq'.q,wq'.p,wq'.ok⟩,M',tk,wk'.1,λK6 H6 hv6 sk6 M6=>⟨_,U,aL U ⟨⟨_,U⟩,K6,hv6,sk'.trans sk6,M6,wk'.2⟩⟩⟩
 rintro σ G4 ⟨⟨v8,rfl⟩,K4,hv4,sk4,M4,_⟩;rw[tl,qI,<- List.foldl_append]at M4;exact q _ _ _ (sk13.trans sk4) M4
theorem yj(T:Tx P w K mg a):aA P w K mg base CX0 3 a.E3 a.E4 ["_law_group_here","_law_parts","_law_rows","_law_posts"] oA:=by
 refine T.Fd.ok pJ (λvs H Q E h=>?_) (λcdv A outer s H vs Q E hr h=>?_)
 ·obtain⟨_,_,_,_,_,_,_,_,_,_,_,_,_,rfl,_⟩:=h
  rfl
 obtain⟨H0,lh,lq,lr,lp,gus,ps,nl,rs,g,ad,hv,W,rfl,hlq,rrs,M,okr,n60,hlh,reg,sz,pn,rd,q⟩:=h
 refine⟨_,(ae (eV (i:=4) pJ.nd U Oi (k:=1) (Nc:=["_law_entry"]) (js:=[]) (show aK (am iM) ["_law_group_here","_law_parts","_law_rows","_law_posts","_law_took"] _ 1 ["_law_entry"] []from aK.mk U (by decide +kernel) (by decide +kernel) (by decide +kernel) U (by decide +kernel)) U (bH (pq 0)) (λ_ _ _ _ _=>(aP (i:=0) (show List.Nodup (["_law_entry"]:List Str)from by decide +kernel) U Oi)) (λ_ _ _ _ _=>(lF (ap ba (ag (cL (K:=K) U) (pq 0) aa Oy) bg (ao _)))) (λ_ _ _ _ _=>(ag (cL (K:=K) U) (pq 0) aa Oy)))
  (ah (ak (gw fE (xh U U T.Ek (aQ (iZ T) (hr.mono Yd) U T.BO T.BF.kp T.BN .nil ar (a8 (pq 1) (a8 (pq 2) (a8 (pq 3) ac)))) (bh bG U T.ld Q8 (a8 (pq 1) ac))) (xi U U T.HH (pq 4) (iV iu aa)) (ao _))))),?_⟩
 have sa:=M.own.sa;refine⟨_,U,lh,U,⟨_,SqL.of (sa _ _ hlh)⟩,?_⟩;refine mG (K:=K) (a:=lh) (xs:=gus) (λi ys σ G=>(∃v,σ=[v])/\G=H/\ys=(((g.take i).filter λe=>e.took).map λe:Ent=>(e.part:Int)).map V.int) ⟨⟨none,U⟩,U,U⟩ ?_ (by rw[reg.len,sizeLine_eq];omega) ?_ ?_ ?_
 ·rintro i ys σ G _ ⟨_,_,rfl⟩;rw[qa,qa];refine qz (List.length_filter_le _ _) ?_;rw[qL];omega
 ·rintro i ys σ G ⟨_,rfl,_⟩;exact SqL.of (sa _ _ hlh)
 ·rintro i x ys σ G hx ⟨⟨v0,rfl⟩,rfl,rfl⟩;obtain⟨p,l,eus,e,rfl,he,hp,_⟩:=(reg.same sa).at hx;have et:(g.take (i+1)).filter (λe=>e.took)=(g.take i).filter (λe=>e.took)++[e].filter (λe=>e.took):=by rw[qt,he,Qs];rfl
  cases tk:e.took with
  |true=>
   rw[tk]at hp;refine⟨_,U,p,_,_,_,U,U,SqT.of hp,U,U,_,U,bo Qz ⟨_,U,p,_,_,_,U,U,SqT.of hp,U,⟨_,U⟩,U,?_⟩⟩;rw[et,List.filter_cons_of_pos (by simpa using tk),qP,qP]
   rfl
  |false=>
   rw[tk]at hp;refine⟨_,U,p,_,_,_,U,U,SqT.of hp,U,U,_,U,aL Qz ⟨⟨_,U⟩,U,?_⟩⟩;rw[et,List.filter_cons_of_neg (by rw[tk];decide),List.filter_nil,qy]
 rintro ys σ G ⟨_,eG,rfl⟩ l1 hl1;rw[eG]at hl1 ⊢;rw[reg.len,qI];have s1:=a9.new hl1 (.lst (((g.filter λe=>e.took).map λe:Ent=>(e.part:Int)).map V.int));obtain⟨K1,sk1,_,_,M1⟩:=M.more s1;have h11:upd H l1 (.lst (((g.filter λe=>e.took).map λe:Ent=>(e.part:Int)).map V.int)) l1=some (.lst (((g.filter λe=>e.took).map λe:Ent=>(e.part:Int)).map V.int)):=af;generalize upd H l1 (.lst (((g.filter λe=>e.took).map λe:Ent=>(e.part:Int)).map V.int))=H1 at M1 s1 h11 ⊢;dsimp only[aI];refine⟨_,U,_,U,_,U,K1,lq,lr,lp,ps,nl,rs,ad,hv,W,U,sk1 _ _ hlq,rrs.same sk1,M1,okr,n60,λH2 l2 out s2 h2 mem=>?_⟩;have h2':H2 l2=some (.lst ((out.map λy:Nat=>(y:Int)).map V.int)):=by rw[h2];unfold aE;rw[List.map_map];rfl
 refine⟨_,U,lq,_,U,.inl (SqL.of (s2 _ _ (M1.own.sa _ _ (sk1 _ _ hlq)))),l2,_,_,U,U,SqL.of h2',λmi hm1 hm2=>?_⟩;refine⟨_,U,_,U,l1,_,_,U,U,SqL.of (s2 _ _ h11),λma hx1 hx2=>?_⟩;refine⟨_,_,U,U,?_⟩
 have lt:ma<mi:=by
  have h1:ma=-1\/∃e∈g,e.took=true/\ma=(e.part:Int):=by
   by_cases c:(g.filter λe=>e.took).map (λe:Ent=>(e.part:Int))=[]
   ·exact .inl (hx1 c)
   ·obtain⟨e,he,rfl⟩:=List.mem_map.mp (hx2 c).1;have:=List.mem_filter.mp he;exact .inr ⟨e,this.1,this.2,U⟩
  have h2:mi=(rs.length:Int)\/∃y,y<rs.length/\dg (aq rs) W y/\mi=(y:Int):=by
   by_cases c:out.map (λy:Nat=>(y:Int))=[]
   ·exact .inl (by rw[hm1 c,rrs.len])
   ·obtain⟨y,hy,rfl⟩:=List.mem_map.mp (hm2 c).1;have:=(mem y).mp hy;exact .inr ⟨y,this.1,this.2,U⟩
  rcases h1 with h1|⟨e,he,tk,h1⟩
  ·rcases h2 with h2|⟨y,_,_,h2⟩<;>omega
  ·rcases h2 with h2|⟨y,hy,hr,h2⟩
   ·have:=pn e he;omega
   ·have:=rd y hy hr e he tk;omega
 show Q (.bl (decide (ma<mi))) H2;rw[Q3 lt];exact q _ (s1.trans s2)
def bK(t:Addr)(xs:List Ln)(rs:List PR)(pace:List (List Int)):PlC:={ b:=t,dx:=t,y:=t,dy:=t,la:=t,lq:=t,dl:=t,pc:=t,dq:=λ_=>t,qo:=λ_=>t,us:=[],pv:=[],n:=rs.length,nl:=xs.length,prt:=aq rs,ls:=λi=>(bi xs i).1,pace:=pace }
structure uf(C:PlC)(xs:List Ln)(Gs:List (List Ent))(still:Bool):Prop where
 grp:∀gs g rest,Gs=gs++g::rest->jm C xs gs.flatten g
 rdy:∀gs g rest,Gs=gs++g::rest->rest≠[]\/still=true->∀x,x<C.n->¬ dg C.prt (aU C xs (gs.flatten++g)) x
 ends:∀gs g,Gs=gs++[g]->still=false->∀y,y<C.n->dg C.prt (aU C xs (gs.flatten++g)) y->∀e∈g,e.took=true->e.part<y
 fin:still=true->∀x,x<C.n->¬ dg C.prt (aU C xs Gs.flatten) x
theorem sW{C:PlC}{xs:List Ln}:∀(n:Nat){Gs:List (List Ent)},Gs.length=n->(∀gs g rest,Gs=gs++g::rest->jm C xs gs.flatten g)->Gs.flatten.foldl cj []=Gs
 |0,Gs,h,_=>by rw[List.length_eq_zero_iff.mp h];rfl
 |n+1,Gs,h,hg=>by
  rcases g9 Gs with rfl|⟨gs,g,rfl⟩
  ·cases h
  have hl:gs.length=n:=by rw[qc]at h;simpa using h
  have ih:=sW n hl λgs' g' rest e=>hg gs' g' (rest++[g]) (by rw[e];simp);obtain⟨⟨k,gvs,tks,rfl,gr⟩,gne⟩:=hg gs g [] U;have nowk:∀e∈gvs++tks,e.now=k:=λe he=>(qi.mp he).elim (λm=>(gr.g e m).1) λm=>(gr.t e m).1;rw[List.flatten_append,List.flatten_singleton,List.foldl_append,ih];refine Ae nowk gne λg0 h0=>?_;obtain⟨gs0,rfl⟩:=List.getLast?_eq_some_iff.mp h0;obtain⟨⟨k0,gv0,tk0,rfl,gr0⟩,gne0⟩:=hg gs0 g0 [gvs++tks] (by simp);have now0:∀e∈gv0++tk0,e.now=k0:=λe he=>(qi.mp he).elim (λm=>(gr0.g e m).1) λm=>(gr0.t e m).1;refine⟨gne0,λe he z=>?_⟩;have l0:=gr.last;rw[List.flatten_append,List.flatten_singleton,sC now0 gne0]at l0;have:=now0 e he;omega
theorem dX.step{rs:List PR}{xs:List Ln}{pace:List (List Int)}(ok:∀r∈rs,r.ok/\r.fit xs.length):∀{es:List Ent}{W:WS},bN rs.length xs.length (λi=>(bi xs i).1) (aq rs) pace W es->dX rs.length xs.length W->dX rs.length xs.length (es.foldl (aV (aq rs) pace) W)
 |[],_,_,h=>h
 |e::es,W,wk,h=>by
  have wk:OkE rs.length xs.length (λi=>(bi xs i).1) (aq rs) W e/\bN rs.length xs.length (λi=>(bi xs i).1) (aq rs) pace (aV (aq rs) pace W e) es:=wk;refine dX.step (W:=aV (aq rs) pace W e) ok wk.2 λx hx hs hp p hps=>?_;have O:=wk.1;unfold aV at hp
  cases tk:e.took with
  |true=>
   rw[Q1 tk]at hp;have hp:put W.post e.part (some ((aq rs e.part).made (e.hs.map (·.2)))) x=some hs:=hp;by_cases c:x=e.part
   ·rw[c,aM]at hp;cases hp;have rm:aq rs e.part∈rs:=by unfold aq;rw[qk,qd O.part];exact List.getElem_mem O.part
    have q:=si (ok _ rm).1 (ok _ rm).2 (xs:=e.hs.map (·.2)) (by rw[qa];exact(O.tk tk).2.2.2) (λy hy=>by
     obtain⟨z,hz,rfl⟩:=List.mem_map.mp hy
     exact(O.hs.ok z hz).2.2)
    have:=q.ok p hps;exact⟨this.1,this.2.1⟩
   ·rw[az c]at hp;exact h x hx hs hp p hps
  |false=>
   rw[Q0 (by rw[tk];decide)]at hp;have hp:put W.post e.part none x=some hs:=hp;by_cases c:x=e.part
   ·rw[c,aM]at hp;cases hp
   ·rw[az c]at hp;exact h x hx hs hp p hps
inductive oh(vs:List V)(H:Hp)(Q:VK)(E:XK):Prop
 |mk (tf ll lq lg st:Addr) (v:V) (lgv:List V) (still:Bool) (xs:List Ln) (rs:List PR) (pace:List (List Int)) (Gs:List (List Ent)) (h0_:vs=[.ref tf,.ref ll,.ref lq,v]) (h1_:H tf=some (.tup [.bl still,.ref lg,.ref st])) (h2_:H lg=some (.lst lgv)) (h3_:REs H lgv Gs.flatten) (h4_:Gs.flatten.length<=10000000) (h5_:WQ H ll lq v xs rs pace) (h6_:xs.length<=1000) (h7_:bN rs.length xs.length (λi=>(bi xs i).1) (aq rs) pace (cw xs) Gs.flatten) (h8_:uf (bK tf xs rs pace) xs Gs still) (h9_:∀H',Q (.bl true) H'):oh vs H Q E
theorem yb(T:Tx P w K mg a):aA P w K mg base CX0 6 a.E5 a.E6 ["_law_found","_law_lines","_law_parts","_law_pace_here"] oh:=by
 refine T.Fe.ok ee (λvs H Q E h=>?_) (λcdv A outer s H vs Q E hr h=>?_)
 ·obtain⟨_,_,_,_,_,_,_,_,_,_,_,_,rfl,_⟩:=h
  rfl
 obtain⟨tf,ll,lq,lg,st,v,lgv,still,xs,rs,pace,Gs,rfl,htf,hlg,res,esz,wq,nl,wk,nb,q⟩:=h
 refine⟨_,(ae (eV (i:=4) ee.nd U Oi (k:=1) (Nc:=["_law_line_here"]) (js:=[]) (show aK (am gX) ["_law_found","_law_lines","_law_parts","_law_pace_here","_law_rows","_law_posts","_law_groups_here","_law_last","_law_k","_law_group_here","_law_turn"] _ 1 ["_law_line_here"] []from aK.mk U (by decide +kernel) (by decide +kernel) (by decide +kernel) U (by decide +kernel)) U (bH (pq 1)) (λ_ _ _ _ _=>(aP (i:=0) (show List.Nodup (["_law_line_here"]:List Str)from by decide +kernel) U Oi)) (λ_ _ _ _ _=>bJ) (λ_ _ _ _ _=>(gx (wD (K:=K) U) U T.Bp PyProof.Rows.Boot.«list» (a8 (ag (cL (K:=K) U) (pq 0) aa Oy) ac))))
  (ae (eV (i:=5) ee.nd U Oi (k:=1) (Nc:=["_law_row"]) (js:=[]) (show aK (am gX) ["_law_found","_law_lines","_law_parts","_law_pace_here","_law_rows","_law_posts","_law_groups_here","_law_last","_law_k","_law_group_here","_law_turn"] _ 1 ["_law_row"] []from aK.mk U (by decide +kernel) (by decide +kernel) (by decide +kernel) U (by decide +kernel)) U (bH (pq 2)) (λ_ _ _ _ _=>(aP (i:=0) (show List.Nodup (["_law_row"]:List Str)from by decide +kernel) U Oi)) (λ_ _ _ _ _=>bJ) (λ_ _ _ _ _=>(bn (lN U))))
  (ae (aT (i:=6) ee.nd U Oi (aQ (yf T) (hr.mono Yd) U T.HB T.Fc.kp T.HA .nil ar (a8 (ag au (pq 0) aa Oy) ac)))
  (ae (aT (i:=7) ee.nd U Oi (iV iu aa))
  (ae (cf PassesOwn.never U (lJ U T.Ej (a8 (pq 6) ac)) (hX U (cs (aP (i:=8) ee.nd U Oi) (cs (aP (i:=9) ee.nd U Oi) ef)))
  (ae (aT (i:=10) ee.nd U Oi (ag au (ag aN (pq 9) aa Oy) aa Oy))
  (ae (aD (ap iS (pq 10) (pq 7) (ao _)) (ah (ak br)) aF)
  (ae (aD (ap fE (pq 10) (ai bx (pq 7) aa) (ao _)) (ah (aD (PW.pt (cM (bZ (aQ (rP T) (hr.mono Yd) U T.Fa T.Ei.kp T.EZ .nil ar (a8 (ai fD (pq 10) aa) (a8 (pq 1) (a8 (pq 4) (a8 (pq 5) ac)))))) (dk (ap (hZ hr.units) (aQ (iZ T) (hr.mono Yd) U T.BO T.BF.kp T.BN .nil ar (a8 (pq 2) (a8 (pq 4) (a8 (pq 5) ac)))) (bn ac) (ao _))))) (ah (ak br)) aF)) aF)
  (ae (aD (cN (bZ (aQ (yg T) (hr.mono Yd) U T.Hz T.Fb.kp T.Hy .nil ar (a8 (pq 9) (a8 (pq 1) (a8 (pq 2) (a8 (pq 3) (a8 (pq 4) (a8 (pq 5) ac))))))))) (ah (ak br)) aF)
  (ae (aT (i:=7) ee.nd U Oi (pq 10))
  (ah (aD (PW.pt (cM (ap di (ai bx (pq 8) aa) (bh bG U T.ld Q8 (a8 (pq 6) ac)) (ao _)) (dk (bZ (ag au (pq 0) aa Oy))))) (ah (aD (ap (hZ hr.units) (aQ (iZ T) (hr.mono Yd) U T.BO T.BF.kp T.BN .nil ar (a8 (pq 2) (a8 (pq 4) (a8 (pq 5) ac)))) (bn ac) (ao _)) (ah (ak br)) aF)) (ah (aD (cN (bZ (aQ (yj T) (hr.mono Yd) U T.HD T.Fd.kp T.HC .nil ar (a8 (pq 9) (a8 (pq 2) (a8 (pq 4) (a8 (pq 5) ac))))))) (ah (ak br)) aF))))))))))
  (ah (ak (rD (xg (ag au (pq 0) aa Oy)) (lM (gw (fJ hr.units) (aQ (iZ T) (hr.mono Yd) U T.BO T.BF.kp T.BN .nil ar (a8 (pq 2) (a8 (pq 4) (a8 (pq 5) ac)))) (bn ac) (ao _))))))))))),?_⟩
 have n60:=wq.n;obtain⟨us,hll,rln⟩:=wq.l;obtain⟨ps,hlq,rrs⟩:=wq.q;refine⟨_,U,ll,U,⟨_,SqL.of hll⟩,?_⟩;refine dG (K:=K) (a:=ll) (xs:=us) (λi ys σ G=>(∃v,σ=[v])/\a9 H G/\∃as:List Addr,ys=as.map V.ref/\as.length=i/\as.Nodup/\∀j x,as[j]?=some x->H x=none/\G x=some (.lst ((bi xs j).2.map V.int))) ⟨⟨none,U⟩,a9.refl _,[],U,U,List.nodup_nil,λj x h=>by simp at h⟩ ?_ (bb (m:=1000) (by rw[rln.len];omega)) ?_ ?_ ?_
 ·rintro i ys σ G _ ⟨_,_,as,rfl,h,_⟩;rw[qa,h];exact qf _
 ·rintro i ys σ G ⟨_,s1,_⟩;exact SqL.of (s1 _ _ hll)
 ·rintro i x ys σ G hx ⟨⟨v0,rfl⟩,s1,as,rfl,al,nd,has⟩;obtain⟨p,t,y,rfl,hy,hp,ht⟩:=rln.at i x hx;refine⟨_,U,p,_,_,_,U,U,SqT.of (s1 _ _ hp),U,t,_,U,.inr (SqT.of (s1 _ _ ht)),λl1 hl1=>⟨⟨_,U⟩,?_⟩⟩
  have gn:∀x∈as,x≠l1:=λx hx z=>by
   obtain⟨j,hj,ej⟩:=List.mem_iff_getElem.mp hx;have:=(has j x (qg.mpr ⟨hj,ej⟩)).2;rw[z,hl1]at this;cases this
  have ey:y=bi xs i:=by unfold bi;rw[qk,hy];rfl
  refine⟨s1.trans (a9.new hl1 _),as++[l1],by rw[qP];rfl,by rw[qc,al];rfl,lR nd λh=>gn l1 h U,λj x hj=>?_⟩;by_cases lt:j<as.length
  ·rw[Q6 lt]at hj;refine⟨(has j x hj).1,?_⟩;rw[aj (gn x (qA hj))];exact(has j x hj).2
  ·rw[qM Yk]at hj
   have ej:j-as.length=0:=by
    have:=(qg.mp hj).1;rw[Q7]at this;omega
   rw[ej]at hj;cases hj;have:j=i:=Yk;rw[af,this,<- ey];exact⟨a9.none s1 hl1,U⟩
 rintro ys σ G ⟨_,s1,as,rfl,al,nd,has⟩ lr hlr;rw[rln.len]at al;have sr:=a9.new hlr (.lst (as.map V.ref));have hlr1:upd G lr (.lst (as.map V.ref)) lr=some (.lst (as.map V.ref)):=af
 have lrN:∀x∈as,x≠lr:=λx hx z=>by
  obtain⟨j,hj,ej⟩:=List.mem_iff_getElem.mp hx;have:=(has j x (qg.mpr ⟨hj,ej⟩)).2;rw[z,hlr]at this;cases this
 have has1:∀(j:Nat) x,as[j]?=some x->H x=none/\upd G lr (.lst (as.map V.ref)) x=some (.lst ((bi xs j).2.map V.int)):=λj x hj=>⟨(has j x hj).1,sr _ _ (has j x hj).2⟩;have s1r:=s1.trans sr;have hlrH:=a9.none s1 hlr;generalize upd G lr (.lst (as.map V.ref))=H1 at sr hlr1 has1 s1r;dsimp only[aI];refine⟨_,U,lq,U,⟨_,SqL.of (s1r _ _ hlq)⟩,?_⟩;refine dG (K:=K) (a:=lq) (xs:=ps) (λi ys σ G=>(∃v,σ=[v])/\a9 H1 G/\∃bs:List Addr,ys=bs.map V.ref/\bs.length=i/\bs.Nodup/\∀x∈bs,H1 x=none/\G x=some (.lst [.non,.int 0,.int 0])) ⟨⟨none,U⟩,a9.refl _,[],U,U,List.nodup_nil,λx h=>(nomatch h)⟩ ?_ (bb (m:=1000) (by rw[rrs.len];omega)) ?_ ?_ ?_
 ·rintro i ys σ G _ ⟨_,_,bs,rfl,h,_⟩;rw[qa,h];exact qf _
 ·rintro i ys σ G ⟨_,s2,_⟩;exact SqL.of (s2 _ _ (s1r _ _ hlq))
 ·rintro i x ys σ G hx ⟨⟨v0,rfl⟩,s2,bs,rfl,bl,ndb,hbs⟩;refine⟨ss,λl1 hl1=>⟨⟨_,U⟩,?_⟩⟩
  have gn:∀x∈bs,x≠l1:=λx hx z=>by
   have:=(hbs x hx).2;rw[z,hl1]at this;cases this
  refine⟨s2.trans (a9.new hl1 _),bs++[l1],by rw[qP];rfl,by rw[qc,bl];rfl,lR ndb λh=>gn l1 h U,λy hy=>?_⟩;rcases qi.mp hy with hy|hy
  ·exact⟨(hbs y hy).1,by rw[aj (gn y hy)];exact(hbs y hy).2⟩
  ·rw[qT.mp hy];exact⟨a9.none s2 hl1,af⟩
 rintro ys σ G2 ⟨_,s2,bs,rfl,bl,ndb,hbs⟩ lp hlp;rw[rrs.len]at bl;have sp:=a9.new hlp (.lst (bs.map V.ref))
 have lpB:lp∉bs:=λz=>by
  have:=(hbs lp z).2;rw[hlp]at this;cases this
 have lpA:lp∉as:=λz=>by
  obtain⟨j,hj,ej⟩:=List.mem_iff_getElem.mp z;have:=s2 _ _ (has1 j lp (qg.mpr ⟨hj,ej⟩)).2;rw[hlp]at this;cases this
 have s2p:=s2.trans sp
 obtain⟨K0,ad,sk0,tp0,M0⟩:=WH.begin (lr:=lr) (lp:=lp) (xs:=xs) (n:=rs.length) (s1r.trans s2p) nd ndb (λi x hx=>⟨(has1 i x hx).1,s2p _ _ (has1 i x hx).2⟩) (λx hx=>⟨a9.none s1r (hbs x hx).1,sp _ _ (hbs x hx).2⟩) (λx hx hb=>by
  obtain⟨j,hj,ej⟩:=List.mem_iff_getElem.mp hx;have:=(has1 j x (qg.mpr ⟨hj,ej⟩)).2;rw[(hbs x hb).1]at this
  cases this) (s2p _ _ hlr1) af (λz=>lrN lr z U) (λz=>by have:=(hbs lr z).1;rw[hlr1]at this;cases this) lpA lpB al bl
 generalize upd G2 lp (.lst (bs.map V.ref))=H2 at M0 tp0;dsimp only[aI];have hlg0:=sk0 _ _ hlg;have res0:=res.same sk0;have sa0:=M0.own.sa;refine⟨_,U,tf,_,_,_,U,U,SqT.of (sa0 _ _ (sk0 _ _ htf)),U,K0,lg,lgv,Gs.flatten,U,sa0,sa0 _ _ hlg0,res0,esz,λH3 lo as3 hlo gh=>?_⟩;rw[sW _ U nb.grp]at gh;obtain⟨K3,sk3,nw3,_,M3⟩:=M0.more gh.sa;have klo:=nw3 _ _ hlo gh.hl
 have rgs:RGs K3 (as3.map V.ref) Gs:=by
  have go:∀(as:List Addr)(Gs:List (List Ent)),as.length=Gs.length->(∀(j:Nat) x g,as[j]?=some x->Gs[j]?=some g->∃us,K3 x=some (.lst us)/\REs K3 us g)->RGs K3 (as.map V.ref) Gs:=by
   intro as
   induction as with
   |nil=>intro Gs hl _;cases List.length_eq_zero_iff.mp hl.symm;exact .nil
   |cons x as ih=>
    intro Gs hl hat
    cases Gs with
    |nil=>cases hl
    |cons g Gs=>
     obtain⟨us,h1,h2⟩:=hat 0 x g U U;exact .cons h1 h2 (ih Gs (by simpa using hl) λj x g a b=>hat (j+1) x g (by simpa using a) (by simpa using b))
  refine go _ _ gh.ln λj x g a b=>?_;obtain⟨us,c,d⟩:=gh.at_ j x g a b;exact⟨us,nw3 _ _ (gh.nw x (qA a)) c,d.same sk3⟩
 have gz:Gs.length<=10000000:=by
  have h1:=jC (Gs:=Gs) λg hg=>by
   obtain⟨i,hi,e⟩:=List.mem_iff_getElem.mp hg;have:=(nb.grp (Gs.take i) g (Gs.drop (i+1)) (by rw[<- e,<- List.drop_eq_getElem_cons hi,Qu])).ne;exact this
  have h2:(Gs.map List.length).sum=Gs.flatten.length:=List.length_flatten.symm;omega
 dsimp only[aI];refine⟨_,U,?_⟩;dsimp only[aI];have skH:=sk0.trans sk3;refine⟨_,U,lo,_,U,SqL.of (M3.own.sa _ _ klo),?_⟩;refine Ap (K:=K) (l:=lo) (xs:=as3.map V.ref) (λi σ Gh=>(∃v8 v9 v10,σ=[some (.ref tf),some (.ref ll),some (.ref lq),some v,some (.ref lr),some (.ref lp),some (.ref lo),some (.int (bB (Gs.take i).flatten)),v8,v9,v10])/\∃K' hv,a9 K3 K'/\WH K' Gh xs.length rs.length lr lp ad hv (aU (bK tf xs rs pace) xs (Gs.take i).flatten)) ⟨⟨_,_,_,U⟩,K3,_,a9.refl _,M3⟩ ?_ ?_ ?_
 ·rintro i σ Gh ⟨_,K',hv,sk',M'⟩;exact SqL.of (M'.own.sa _ _ (sk' _ _ klo))
 ·rintro i x σ Gh pt hx ⟨⟨v8,v9,v10,rfl⟩,K',hv,sk',M'⟩ hpt;obtain⟨pg,gus,g,rfl,hgi,hpg,reg⟩:=rgs.at hx;obtain⟨li,ei⟩:=qg.mp hgi;have eG:Gs=Gs.take i++g::Gs.drop (i+1):=by rw[<- ei,<- List.drop_eq_getElem_cons li,Qu]
  obtain⟨⟨k,gvs,tks,rfl,gr⟩,gne⟩:=nb.grp _ _ _ eG;have nowk:∀e∈gvs++tks,e.now=k:=λe he=>(qi.mp he).elim (λm=>(gr.g e m).1) λm=>(gr.t e m).1;have fl1:(Gs.take (i+1)).flatten=(Gs.take i).flatten++(gvs++tks):=by rw[qt,hgi,List.flatten_append];simp
  have flG:Gs.flatten=(Gs.take i).flatten++((gvs++tks)++(Gs.drop (i+1)).flatten):=by
   conv=>lhs;rw[eG]
   rw[List.flatten_append,List.flatten_cons]
  have wka:bN rs.length xs.length (λi=>(bi xs i).1) (aq rs) pace (cw xs) ((Gs.take i).flatten++((gvs++tks)++(Gs.drop (i+1)).flatten)):=by rw[<- flG];exact wk
  obtain⟨wk0,wkb⟩:=wka.app;obtain⟨wkg,_⟩:=wkb.app;have po:dX rs.length xs.length (gvs.foldl (aV (aq rs) pace) (aU (bK tf xs rs pace) xs (Gs.take i).flatten)):=dX.step wq.ok (wkg.app.1) (dX.step wq.ok wk0 λx hx hs hp=>by cases hp);have po0:dX rs.length xs.length (aU (bK tf xs rs pace) xs (Gs.take i).flatten):=dX.step wq.ok wk0 λx hx hs hp=>by cases hp
  have fz:(gvs++tks).length<=10000000:=by
   have:=esz;rw[flG,qc,qc]at this;omega
  obtain⟨e0,p0,tp0,en0,hp0⟩:∃(e0:Ent)(p0:Addr)(rest:List V),gus[0]?=some (.ref p0)/\K3 p0=some (.tup (.int k::rest)):=by
   cases hgg:gvs++tks with
   |nil=>exact Q5 hgg gne
   |cons e0 g=>
    have e0k:e0.now=k:=nowk e0 (by rw[hgg];exact qp);rw[hgg]at reg
    cases reg with
    |cons a b c r=>exact⟨e0,_,_,U,by rw[<- e0k];exact a⟩
  have st:=a9.new hpt (.tup [.int (i:Int),.ref pg]);refine⟨pt,_,U,SqT.of af,U,_,_,U,_,_,U,U,?_⟩;obtain⟨K4,sk4,_,_,M4⟩:=M'.more st;generalize upd Gh pt (.tup [.int (i:Int),.ref pg])=G4 at M4;have sk34:=sk'.trans sk4;have sa4:=M4.own.sa;dsimp only[aI];refine⟨_,U,pg,_,_,_,U,U,SqL.of (sa4 _ _ (sk34 _ _ hpg)),bT (j:=0) en0,p0,_,_,_,U,U,SqT.of (sa4 _ _ (sk34 _ _ hp0)),at0,?_⟩;dsimp only[aI];have lt:=gr.last;refine⟨_,U,_,U,_,_,U,U,_,U,aL (Q4 Yk) ?_⟩;have wq4:=(wq.same skH).same sk34;dsimp only[jz];refine pA (λσ' G'=>σ'=[some (.ref tf),some (.ref ll),some (.ref lq),some v,some (.ref lr),some (.ref lp),some (.ref lo),some (.int (bB (Gs.take i).flatten)),some (.int (i:Int)),some (.ref pg),some (.int k)]/\∃K5 hv5,a9 K4 K5/\WH K5 G' xs.length rs.length lr lp ad hv5 (aU (bK tf xs rs pace) xs (Gs.take i).flatten)) ?_ ?_
  rotate_left
  ·intro N hN;refine⟨_,U,_,U,_,_,U,U,_,_,U,U,_,U,?_⟩;by_cases c:bB (Gs.take i).flatten+1<k
   ·refine bo (Q3 c) ?_;obtain⟨ng,nr⟩:=gr.start gne c;obtain⟨ls4,hll4,rln4⟩:=wq4.l;obtain⟨ps4,hlq4,rrs4⟩:=wq4.q;refine⟨_,U,_,_,U,U,_,U,_,U,_,U,K4,ll,lr,lp,k-1,ls4,xs,rs.length,ad,hv,_,U,hll4,rln4,M4,po0,ng,_,U,aL U ?_⟩;refine⟨_,U,_,U,_,U,K4,lq,lr,lp,ps4,xs.length,rs,ad,hv,_,U,hlq4,rrs4,M4,wq.ok,n60,λH6 l6 out s6 h6 mem=>⟨qu _,λl7 hl7=>?_⟩⟩;have e6:out=[]:=List.eq_nil_iff_forall_not_mem.mpr λy hy=>nr y ((mem y).mp hy).1 ((mem y).mp hy).2;subst e6;have s7:=a9.new hl7 (.lst []);refine⟨.list [],.list [],.lst (SqL.of (s7 _ _ h6)) .nil,.lst (SqL.of af) .nil,Qz,Qz,_,U,aL Qz ?_⟩;obtain⟨K7,sk7,_,_,M7⟩:=M4.more (s6.trans s7);exact hN _ _ ⟨U,K7,hv,sk7,M7⟩
   ·exact aL (Q4 c) (hN _ _ ⟨U,K4,hv,a9.refl _,M4⟩)
  ·rintro σ' G5 ⟨rfl,K5,hv5,sk5,M5⟩;have sk35:=sk34.trans sk5;have wq5:=(wq.same skH).same sk35;refine⟨_,U,_,U,_,U,_,U,_,U,_,U,K5,pg,ll,lq,lr,lp,v,gus,xs,rs,pace,gvs,tks,k,ad,hv5,_,U,wq5,sk35 _ _ hpg,reg.same sk35,gne,gr.g,gr.t,fz,M5,wkg,po,?_,λK6 H6 hv6 sk6 M6=>⟨_,U,aL U ?_⟩⟩
   ·have:=gr.glad;unfold aU at this;rw[List.foldl_append]at this;exact this
   dsimp only[jz];refine⟨_,U,?_⟩;dsimp only[aI];have sk36:=sk35.trans sk6;have wq6:=(wq.same skH).same sk36;have sa6:=M6.own.sa
   have eW:(gvs++tks).foldl (aV (aq rs) pace) (aU (bK tf xs rs pace) xs (Gs.take i).flatten)=aU (bK tf xs rs pace) xs (Gs.take (i+1)).flatten:=by
    rw[fl1];show _=List.foldl (aV (aq rs) pace) (cw xs) ((Gs.take i).flatten++(gvs++tks));exact List.foldl_append.symm
   rw[eW]at M6;have el:bB (Gs.take (i+1)).flatten=k:=by rw[fl1];exact sC nowk gne
   obtain⟨ps6,hlq6,rrs6⟩:=wq6.q;have al:=gh.ln;refine⟨_,U,_,_,U,U,_,U,lo,_,U,.inl (SqL.of (sa6 _ _ (sk36 _ _ klo))),_,_,U,U,_,U,?_⟩;rw[qa,al,el]
   have nrd:Gs.drop (i+1)≠[]\/still=true->∀x,x<rs.length->¬ dg (aq rs) (aU (bK tf xs rs pace) xs (Gs.take (i+1)).flatten) x:=λz=>by
    rw[fl1];exact nb.rdy _ _ _ eG z
   by_cases lt2:(i:Int)+1<(Gs.length:Int)
   ·refine bo (Q3 lt2) ?_;have nr:=nrd (.inl λz=>by have:=congrArg List.length z;rw[qZ]at this;simp at this;omega);refine⟨_,U,_,U,_,U,K6,lq,lr,lp,ps6,xs.length,rs,ad,hv6,_,U,hlq6,rrs6,M6,wq.ok,n60,λH8 l8 out s8 h8 mem=>⟨qu _,λl9 hl9=>?_⟩⟩;have e8:out=[]:=List.eq_nil_iff_forall_not_mem.mpr λy hy=>nr y ((mem y).mp hy).1 ((mem y).mp hy).2;subst e8;have s9:=a9.new hl9 (.lst []);refine⟨.list [],.list [],.lst (SqL.of (s9 _ _ h8)) .nil,.lst (SqL.of af) .nil,Qz,Qz,_,U,aL Qz ?_⟩;obtain⟨K9,sk9,_,_,M9⟩:=M6.more (s8.trans s9);exact⟨⟨_,_,_,U⟩,K9,hv6,sk36.trans sk9,M9⟩
   refine aL (Q4 lt2) ?_;refine⟨_,U,tf,_,_,_,U,U,SqT.of (sa6 _ _ (sk36 _ _ (skH _ _ htf))),U,_,U,?_⟩
   cases hst:still with
   |true=>
    refine bo U ?_;have nr:=nrd (.inr hst);refine⟨_,U,_,U,_,U,K6,lq,lr,lp,ps6,xs.length,rs,ad,hv6,_,U,hlq6,rrs6,M6,wq.ok,n60,λH8 l8 out s8 h8 mem=>⟨qu _,λl9 hl9=>?_⟩⟩;have e8:out=[]:=List.eq_nil_iff_forall_not_mem.mpr λy hy=>nr y ((mem y).mp hy).1 ((mem y).mp hy).2;subst e8;have s9:=a9.new hl9 (.lst []);refine⟨.list [],.list [],.lst (SqL.of (s9 _ _ h8)) .nil,.lst (SqL.of af) .nil,Qz,Qz,_,U,aL Qz ?_⟩;obtain⟨K9,sk9,_,_,M9⟩:=M6.more (s8.trans s9);exact⟨⟨_,_,_,U⟩,K9,hv6,sk36.trans sk9,M9⟩
   |false=>
    refine aL U ?_;have dn:Gs.drop (i+1)=[]:=List.drop_eq_nil_of_le Yk;rw[dn]at eG;have ends:=nb.ends _ _ eG hst;rw[<- fl1]at ends;refine⟨_,U,_,U,_,U,_,U,K6,pg,lq,lr,lp,gus,ps6,xs.length,rs,gvs++tks,ad,hv6,_,U,hlq6,rrs6,M6,wq.ok,n60,sk36 _ _ hpg,reg.same sk36,fz,?_,ends,λH8 s8=>⟨_,U,aL U ?_⟩⟩
    ·have go:∀(es:List Ent)(W:WS),bN rs.length xs.length (λi=>(bi xs i).1) (aq rs) pace W es->∀e∈es,e.part<rs.length:=by
      intro es
      induction es with
      |nil=>exact λ_ _ _ h=>(nomatch h)
      |cons a es ih=>
       intro W h e he;rcases qv.mp he with rfl|he
       ·exact h.1.part
       ·exact ih _ h.2 e he
     exact go _ _ wkg
    ·obtain⟨K9,sk9,_,_,M9⟩:=M6.more s8;exact⟨⟨_,_,_,U⟩,K9,hv6,sk36.trans sk9,M9⟩
 ·rintro σ Gh ⟨⟨v8,v9,v10,rfl⟩,K',hv,sk',M'⟩;rw[qa,gh.ln,qI]at M';have wq':=(wq.same skH).same sk';obtain⟨ps',hlq',rrs'⟩:=wq'.q;refine⟨_,U,tf,_,_,_,U,U,SqT.of (M'.own.sa _ _ (sk' _ _ (skH _ _ htf))),U,_,U,_,U,?_⟩
  cases hst:still with
  |false=>exact bo U (q _)
  |true=>
   refine aL U ?_;refine⟨_,U,_,U,_,U,K',lq,lr,lp,ps',xs.length,rs,ad,hv,_,U,hlq',rrs',M',wq.ok,n60,λH8 l8 out s8 h8 mem=>⟨qu _,λl9 hl9=>?_⟩⟩;have e8:out=[]:=List.eq_nil_iff_forall_not_mem.mpr λy hy=>nb.fin hst y ((mem y).mp hy).1 ((mem y).mp hy).2;subst e8;have s9:=a9.new hl9 (.lst []);refine⟨.list [],.list [],.lst (SqL.of (s9 _ _ h8)) .nil,.lst (SqL.of af) .nil,Qz,Qz,?_⟩;rw[show PyData.eqv (.list []) (.list [])=true by decide +kernel];exact q _
theorem Aq{rs:List PR}(h:(rs.flatMap cu).Nodup):∀x y,x<rs.length->y<rs.length->x≠y->∀l∈cu (aq rs x),∀l'∈cu (aq rs y),l≠l':=by
 have go:∀x y,x<y->y<rs.length->∀l∈cu (aq rs x),∀l'∈cu (aq rs y),l≠l':=λx y lt hy l hl l' hl'=>by
  have hx:x<rs.length:=Yk;have ex:aq rs x=rs[x]:=by unfold aq;rw[qk,qd hx];rfl
  have ey:aq rs y=rs[y]:=by unfold aq;rw[qk,qd hy];rfl
  rw[ex]at hl;rw[ey]at hl';have e:rs=rs.take y++rs[y]::rs.drop (y+1):=by rw[<- List.drop_eq_getElem_cons hy,Qu]
  rw[e,qV,List.flatMap_cons]at h;have d:=(List.nodup_append.mp h).2.2 l (List.mem_flatMap.mpr ⟨rs[x],?_,hl⟩) l' (qW _ hl')
  ·exact d
  ·exact List.mem_take_iff_getElem.mpr ⟨x,Yk,U⟩
 intro x y hx hy ne l hl l' hl' z;rcases Nat.lt_or_ge x y with lt|ge
 ·exact go x y lt hy l hl l' hl' z
 ·exact go y x Yk hx l' hl' l hl z.symm
theorem zL{es:List Ent}(h:∀e∈es,0<=e.now)(e:bB es=-1):es=[]:=by
 rcases g9 es with rfl|⟨fs,f,rfl⟩
 ·rfl
 ·rw[gD]at e;have:=h f (qJ _ (qT.mpr U));omega
theorem bN.nows{n nl:Nat}{ls:Nat->Option Int}{prt:Nat->PR}{pace:List (List Int)}:∀{es:List Ent}{W:WS},bN n nl ls prt pace W es->∀e∈es,0<=e.now
 |[],_,_,_,h=>(nomatch h)
 |a::es,_,w,e,h=>(qv.mp h).elim (λz=>z▸w.1.now) λz=>bN.nows (es:=es) w.2 e z
theorem mR.nob{H H':Hp}{t:Addr}{xs:List Ln}{rs:List PR}{pace:List (List Int)}{most:Nat}{S:PlS}{still:Bool}{lg st:Addr}{lgv us:List V}(T:mR H H' t xs rs pace most S still lg st lgv us)(n60:rs.length<60)(nn:∀r∈pace,∀x∈r,0<=x)(fl:∀x∈xs,x.2.length<=50)(fo:∀x∈xs,∀n∈x.2,OnW n)(ok:∀r∈rs,r.ok/\r.fit xs.length)(hm:most<=5000)(nd:(rs.flatMap cu).Nodup):bN rs.length xs.length (λi=>(bi xs i).1) (aq rs) pace (cw xs) S.lg/\S.lg.length<=10000000/\∃Gs,S.lg=Gs.flatten/\uf (bK t xs rs pace) xs Gs still:=by
 have rm:∀x,x<rs.length->aq rs x∈rs:=λx hx=>by unfold aq;rw[qk,qd hx];exact List.getElem_mem hx
 have okC:∀x,x<(bK t xs rs pace).n->((bK t xs rs pace).prt x).ok/\((bK t xs rs pace).prt x).fit (bK t xs rs pace).nl:=λx hx=>ok _ (rm x hx);have g0:=me (C:=bK t xs rs pace) (rs:=rs) (most:=most) U fl fo hm
 have dj:∀x y,x<(bK t xs rs pace).n->y<(bK t xs rs pace).n->x≠y->∀l∈cu ((bK t xs rs pace).prt x),∀l'∈cu ((bK t xs rs pace).prt y),l.toNat≠l'.toNat:=λx y hx hy ne l hl l' hl' z=>by
  have h1:=lV (ok _ (rm x hx)).2 l hl;have h2:=lV (ok _ (rm y hy)).2 l' hl';exact Aq nd x y hx hy ne l hl l' hl' Yk
 cases still with
 |true=>
  have R:bE (bK t xs rs pace).ls (bK t xs rs pace).prt (bK t xs rs pace).pace (cO xs (bK t xs rs pace).n most) .top S:=T.nd.1;obtain⟨w,⟨_,I,_⟩,_⟩:=R.sim okC n60 nn g0;obtain⟨⟨Gs,eg,cl⟩,c,tr,_,_⟩:=R.nob okC n60 nn dj g0;have tr0:S.tr=[]:=tr.resolve_right λz=>by have:=z.2;rw[T.nd.2]at this;cases this
  refine⟨w,by have:=(R.gd okC n60 g0).cap.lg;omega,Gs,eg,⟨λgs g rest e=>(cl gs g rest e).1,λgs g rest e _=>(cl gs g rest e).2,λ_ _ _ z=>(by cases z),λ_ x hx hr=>?_⟩⟩;rw[<- eg]at hr;have:=c.notReady I.rows tr0 hx hr;cases this
 |false=>
  obtain⟨k,x,r,R,_,sp⟩:=T.nd;have R:bE (bK t xs rs pace).ls (bK t xs rs pace).prt (bK t xs rs pace).pace (cO xs (bK t xs rs pace).n most) (.tak k (x::r)) S:=R;obtain⟨w,⟨I,_⟩,_⟩:=R.sim okC n60 nn g0;obtain⟨⟨Gs,gvs,tks,eg,cl,gr,pr⟩,c,tr,rd,_,_⟩:=R.nob okC n60 nn dj g0;refine⟨w,by have:=(R.gd okC n60 g0).cap.lg;omega,?_⟩;by_cases ce:gvs++tks=[]
  ·rw[ce,qy]at eg
   have l0:bB S.lg=-1:=by
    rcases rd with z|z|z
    ·cases z
    ·have:=gr.last;rw[<- eg,z]at this;exact Q5 this (Int.lt_irrefl _)
    ·exact z.2
   have e0:=zL w.nows l0
   have g0':Gs=[]:=by
    cases Gs with
    |nil=>rfl
    |cons g Gs=>
     have:=(cl [] g Gs U).1.ne;rw[e0,List.flatten_cons]at eg;exact Q5 (List.append_eq_nil_iff.mp eg.symm).1 this
   subst g0';exact⟨[],eg,⟨λgs g rest e=>(by simp at e),λgs g rest e=>(by simp at e),λgs g e=>(by simp at e),λz=>(by cases z)⟩⟩
  ·refine⟨Gs++[gvs++tks],by rw[eg,List.flatten_append,List.flatten_singleton],⟨λgs g rest e=>?_,λgs g rest e z=>?_,λgs g e _ y hy hr en he tk=>?_,λz=>(by cases z)⟩⟩
   ·rcases g9 rest with rfl|⟨r0,l0,rfl⟩
    ·have e1:=List.append_inj' (show Gs++[gvs++tks]=gs++[g]from e) U;obtain rfl:=e1.1;cases e1.2;exact⟨⟨k,gvs,tks,U,gr⟩,ce⟩
    ·have e1:=List.append_inj' (show Gs++[gvs++tks]=(gs++g::r0)++[l0]by rw[e];simp) U;exact(cl gs g r0 e1.1).1
   ·rcases g9 rest with rfl|⟨r0,l0,rfl⟩
    ·rcases z with z|z
     ·exact Q5 U z
     ·cases z
    ·have e1:=List.append_inj' (show Gs++[gvs++tks]=(gs++g::r0)++[l0]by rw[e];simp) U;exact(cl gs g r0 e1.1).2
   ·have e1:=List.append_inj' e U;obtain rfl:=e1.1;cases e1.2;rw[<- eg]at hr;have ym:=c.notReady I.rows tr hy hr;rcases qi.mp he with m|m
    ·have:=(gr.g en m).2;rw[tk]at this;cases this
    ·exact pr en m y ym
theorem xW(T:Tx P w K mg a):aA P w K mg base CX0 8 a.E7 a.E8 ["_law_script"] (gQ K):=by
 refine T.HG.ok fh (λvs H Q E h=>?_) (λcdv A outer s H vs Q E hr h=>?_)
 ·obtain⟨_,_,rfl,_⟩:=h
  rfl
 obtain⟨l,ns,rfl,hl,n63,_,_,q⟩:=h
 refine⟨_,(ae (dP (aQ (yc T) (hr.mono Yd) U T.He T.EJ.kp T.Hd .nil ar (a8 (pq 0) ac)) (hX U (cs (aP (i:=1) fh.nd U Oi) (cs (aP (i:=2) fh.nd U Oi) ef))))
  (ae (aT (i:=3) fh.nd U Oi (aQ (gy T) (hr.mono Yd) U T.BA T.Bu.kp T.Bz .nil ar (a8 (aQ (lP T) (hr.mono Yd) U T.Ec T.BM.kp T.Eb .nil ar (a8 (pq 0) (a8 aa ac))) (a8 aa ac))))
  (ae (aT (i:=4) fh.nd U Oi (aQ (ya T) (hr.mono Yd) U T.Hj T.EL.kp T.Hi .nil ar (a8 (pq 0) (a8 (pq 3) ac))))
  (ae (aT (i:=5) fh.nd U Oi (aQ (xU T) (hr.mono Yd) U T.GS T.EA.kp T.GQ .nil ar (a8 (pq 1) (a8 (pq 2) (a8 (pq 4) (a8 (ai aW (ai bW (pq 3) aa) aa) ac))))))
  (ae (cf PassesOwn.never U (bH (ag au (pq 5) aa Oy)) (aP (i:=6) fh.nd U Oi)
  (ah (aD (cN (bZ (aQ (yi T) (hr.mono Yd) U T.Ht T.EU.kp T.Hr .nil ar (a8 (pq 6) (a8 (pq 1) (a8 (pq 2) ac)))))) (ah (ak br)) aF)))
  (ah (ak (aQ (yb T) (hr.mono Yd) U T.HF T.Fe.kp T.HE .nil ar (a8 (pq 5) (a8 (pq 1) (a8 (pq 2) (a8 (pq 4) ac)))))))))))),?_⟩
 refine⟨_,U,l,ns,U,hl,n63,λH1 t ll lp us ps xs rs s1 ht hll rln hlp rrs r16 x1000 okx okr sgr ndt _=>?_⟩;refine⟨t,_,U,SqT.of ht,U,_,_,U,_,_,U,U,?_⟩;dsimp only[aI];refine⟨_,U,l,ns,2,U,s1.seq hl,Yd,λc=>⟨c,1,U,⟨Yd,Yd⟩,λm m0 m1=>?_⟩⟩;dsimp only[aI];refine⟨_,U,_,U,l,ns,m,U,s1.seq hl,n63,⟨m0,m1⟩,λH2 v pace s2 rpc p16 pok=>?_⟩;dsimp only[aI];obtain⟨mo,emo,mo40⟩:∃mo:Nat,m / 5 % 41=(mo:Int)/\mo<=40:=⟨(m / 5 % 41).toNat,Yk,Yk⟩;have fl:∀x∈xs,x.2.length<=50:=λx hx=>by have:=(okx x hx).1;omega
 have fo:∀x∈xs,∀n∈x.2,OnW n:=λx hx=>(okx x hx).2;refine⟨_,U,_,U,_,U,_,U,_,_,U,U,⟨Yd,Yd⟩,_,_,U,U,Yd,ll,lp,v,us,ps,xs,rs,pace,mo,(by rw[emo];rfl),s2 _ _ hll,rln.same s2,s2 _ _ hlp,rrs.same s2,rpc,Yk,x1000,fl,fo,Yk,λr hr=>by have:=(pok r hr).1;omega,okr,Yk,λH7 tf S still lg st lgv us7 TD=>?_⟩;have s7:=TD.sa;have s27:=s2.trans s7;obtain⟨wk,ll7,Gs,eg,nb⟩:=TD.nob Yk (λr hr=>(pok r hr).2) fl fo okr Yk ndt;dsimp only[aI];refine⟨_,U,tf,_,_,_,U,U,SqT.of TD.tp,U,lg,U,⟨_,SqL.of TD.hl⟩,?_⟩;refine df (K:=K) (a:=lg) (xs:=lgv) (λi σ G=>(∃v6,σ=[some (.ref l),some (.ref ll),some (.ref lp),some (.int m),some v,some (.ref tf),v6])/\a9 H7 G) ⟨⟨_,U⟩,a9.refl _⟩ ?_ ?_ ?_
 ·rintro i σ G _ ⟨_,sg⟩;exact SqL.of (sg _ _ TD.hl)
 ·rintro i x σ G hx ⟨⟨v6,rfl⟩,sg⟩;obtain⟨p,le,eus,e,rfl,he,hp,hle,rp⟩:=(TD.es.same sg).at hx
  have ok:∀(es:List Ent)(W:WS),bN rs.length xs.length (λi=>(bi xs i).1) (aq rs) pace W es->∀e∈es,0<=e.now/\e.part<rs.length/\∀p∈e.hs,0<=p.1/\p.1<xs.length/\OnW p.2:=by
   intro es
   induction es with
   |nil=>exact λ_ _ _ h=>(nomatch h)
   |cons a es ih=>
    intro W h e he;rcases qv.mp he with rfl|he
    ·exact⟨h.1.now,h.1.part,h.1.hs.ok⟩
    ·exact ih _ h.2 e he
  obtain⟨o1,o2,o3⟩:=ok _ _ wk e (qA he);have s2g:=s27.trans sg;dsimp only[aI];exact⟨_,U,_,U,_,U,p,le,ll,lp,eus,us,ps,e,U,hp,hle,rp,s2g _ _ hll,s2g _ _ hlp,o1,by rw[rrs.len];exact o2,by rw[rln.len];exact o3,λH8 s8=>⟨_,U,aL U ⟨⟨_,U⟩,sg.trans s8⟩⟩⟩
 rintro σ G ⟨⟨v6,rfl⟩,sg⟩;have s2g:=s27.trans sg;rw[eg]at wk ll7;exact⟨_,U,_,U,_,U,_,U,tf,ll,lp,lg,st,v,lgv,still,xs,rs,pace,Gs,U,sg _ _ TD.tp,sg _ _ TD.hl,eg▸TD.es.same sg,ll7,⟨⟨us,s2g _ _ hll,rln.same s2g⟩,⟨ps,s2g _ _ hlp,rrs.same s2g⟩,rpc.sameW (s7.trans sg),okr,Yk⟩,x1000,wk,nb,q⟩
end
theorem fM(P:Params)(f:Addr)(st:Stmt){x qual:Str}{oc:Value}{od an:Option Addr}{osl:Array (Option Value)}{kV doc pm cdv ct:Value}(l:(hk P).lookup f=some ⟨oc,od,.func (W.fnOf x qual (cU st) (cH st) (am st) .none kV doc pm an cdv ct),osl⟩:=by k_is)
 (c:W.codeIn (hk P) cdv qual=true:=by k_is) (k:W.keepIn (hk P) (.ref f)=true:=by k_is):Fun (hk P) x qual st f (W.fnOf x qual (cU st) (cH st) (am st) .none kV doc pm an cdv ct):=Ao l c k
theorem eM(P:Params)(f:Addr)(st:Stmt){x qual:Str}{dt:Addr}{oc:Value}{od an d2:Option Addr}{osl e2:Array (Option Value)}{n:Nat}{kV doc pm cdv ct:Value}{dvs:Array Value}(l:(hk P).lookup f=some ⟨oc,od,.func (W.fnOf x qual (cU st) (cH st) (am st) (.ref dt) kV doc pm an cdv ct),osl⟩:=by k_is)
 (c:W.codeIn (hk P) cdv qual=true:=by k_is) (k:W.keepIn (hk P) (.ref f)=true:=by k_is) (t:(hk P).lookup dt=some ⟨.type "tuple",d2,.seq dvs n,e2⟩:=by k_is):fW (hk P) x qual st f (W.fnOf x qual (cU st) (cH st) (am st) (.ref dt) kV doc pm an cdv ct) dvs:=An l c k t U
theorem dI{R:List Value->Prop}(h:∀x0,R [x0]):∀us:List Value,us.length=1->R us
 |[_],_=>h _
theorem len2{R:List Value->Prop}(h:∀x0 x1,R [x0,x1]):∀us:List Value,us.length=2->R us
 |[_,_],_=>h _ _
theorem dC{R:List Value->Prop}(h:∀x0 x1 x2,R [x0,x1,x2]):∀us:List Value,us.length=3->R us
 |[_,_,_],_=>h _ _ _
theorem ie{R:List Value->Prop}(h:∀x0 x1 x2 x3,R [x0,x1,x2,x3]):∀us:List Value,us.length=4->R us
 |[_,_,_,_],_=>h _ _ _ _
theorem ic{R:List Value->Prop}(h:∀x0 x1 x2 x3 x4,R [x0,x1,x2,x3,x4]):∀us:List Value,us.length=5->R us
 |[_,_,_,_,_],_=>h _ _ _ _ _
theorem lZ{R:List Value->Prop}(h:∀x0 x1 x2 x3 x4 x5,R [x0,x1,x2,x3,x4,x5]):∀us:List Value,us.length=6->R us
 |[_,_,_,_,_,_],_=>h _ _ _ _ _ _
theorem mM{P:Params}{h:Heap}{mg:Str->Option Value}{x:Str}{v:Value}(X:(hk P).In h)(G:h.Ns mainGlobals mg)(e:W.nsIn (hk P) mainGlobals x=some (some v):=by k_is):mg x=some v:=W.mg_of X G e
theorem nM{P:Params}{h:Heap}{mg:Str->Option Value}{x:Str}(X:(hk P).In h)(G:h.Ns mainGlobals mg)(e:W.nsIn (hk P) mainGlobals x=some none:=by k_is):mg x=none:=W.mg_none_of X G e
theorem oM{P:Params}{C:Addr}{f:Str}(e:W.findIn (hk P) (.ref C) f=some none:=by k_is):bd (hk P) C f:=e
set_option maxHeartbeats 0 in
theorem Ba{w:World}{h:Heap}{mg:Str->Option Value}{fa:Addr}(X:(hk w.params).In h)(G:h.Ns mainGlobals mg)(hfa:mg "law"=some (.ref fa)):
 ∃fd:FuncData,(∀(s:Shared)(v:Value),BindsTo s fd ⟨[v],[]⟩ [("_law_script",v)])/\∀base:Heap,(hk w.params).In base->base.Ns mainGlobals mg->aA PySem.Challenge.rw_handflow_k46_nobody_waits.prog w (hk w.params) mg base CX0 8 fa fd ["_law_script"] (gQ (hk w.params)):=by
 k_fill
 cases hfa.symm.trans (mM (v:=.ref 528) X G);have F0:=fM w.params 28 kD;have b0:=F0.binds (ps:=["self","things"]) λ_ _ _ _ _ _=>len2 λ_ _=>U;have F1:=fM w.params 35 kz;have b1:=F1.binds (ps:=["self"]) λ_ _ _ _ _ _=>dI λ_=>U;have F2:=fM w.params 42 kC;have b2:=F2.binds (ps:=["self"]) λ_ _ _ _ _ _=>dI λ_=>U;have F3:=fM w.params 49 kB;have b3:=F3.binds (ps:=["self","thing"]) λ_ _ _ _ _ _=>len2 λ_ _=>U;have F4:=fM w.params 56 ku;have b4:=F4.binds (ps:=["self"]) λ_ _ _ _ _ _=>dI λ_=>U;have F5:=fM w.params 63 kA;have b5:=F5.binds (ps:=["self"]) λ_ _ _ _ _ _=>dI λ_=>U;have F6:=fM w.params 77 jR;have b6:=F6.binds (ps:=["sign","a","b"]) λ_ _ _ _ _ _=>dC λ_ _ _=>U;have F7:=fM w.params 84 jN;have b7:=F7.binds (ps:=["sign","a","b"]) λ_ _ _ _ _ _=>dC λ_ _ _=>U;have F8:=fM w.params 96 gY;have b8:=F8.binds (ps:=["self","lines"]) λ_ _ _ _ _ _=>len2 λ_ _=>U;have F9:=fM w.params 103 kj;have b9:=F9.binds (ps:=["self","line"]) λ_ _ _ _ _ _=>len2 λ_ _=>U;have F10:=fM w.params 110 ki;have b10:=F10.binds (ps:=["self","line"]) λ_ _ _ _ _ _=>len2 λ_ _=>U;have F11:=fM w.params 117 ko;have b11:=F11.binds (ps:=["self","line"]) λ_ _ _ _ _ _=>len2 λ_ _=>U;have F12:=fM w.params 124 kn;have b12:=F12.binds (ps:=["self","line","thing"]) λ_ _ _ _ _ _=>dC λ_ _ _=>U;have F13:=fM w.params 131 kh;have b13:=F13.binds (ps:=["self","line"]) λ_ _ _ _ _ _=>len2 λ_ _=>U;have F14:=fM w.params 136 iN;have b14:=F14.binds (ps:=["self"]) λ_ _ _ _ _ _=>dI λ_=>U;have F15:=fM w.params 157 kK;have b15:=F15.binds (ps:=["self","ins"]) λ_ _ _ _ _ _=>len2 λ_ _=>U;have F16:=fM w.params 164 kJ;have b16:=F16.binds (ps:=["self","yard"]) λ_ _ _ _ _ _=>len2 λ_ _=>U;have F17:=fM w.params 185 kI;have b17:=F17.binds (ps:=["self","ins","outs","route"]) λ_ _ _ _ _ _=>ie λ_ _ _ _=>U;have F18:=fM w.params 190 iO;have b18:=F18.binds (ps:=["self","things"]) λ_ _ _ _ _ _=>len2 λ_ _=>U;have F19:=fM w.params 209 kr;have b19:=F19.binds (ps:=["self","ins","out","sign","sides"]) λ_ _ _ _ _ _=>ic λ_ _ _ _ _=>U;have F20:=fM w.params 216 kq;have b20:=F20.binds (ps:=["self","things"]) λ_ _ _ _ _ _=>len2 λ_ _=>U;have F21:=fM w.params 235 kP;have b21:=F21.binds (ps:=["self","ins","which","ones","noughts","told"]) λ_ _ _ _ _ _=>lZ λ_ _ _ _ _ _=>U;have F22:=fM w.params 242 kO;have b22:=F22.binds (ps:=["self","things"]) λ_ _ _ _ _ _=>len2 λ_ _=>U;have F23:=fM w.params 261 kN;have b23:=F23.binds (ps:=["self","told","ones","noughts","outs"]) λ_ _ _ _ _ _=>ic λ_ _ _ _ _=>U;have F24:=fM w.params 268 kL;have b24:=F24.binds (ps:=["self","yard"]) λ_ _ _ _ _ _=>len2 λ_ _=>U;have F25:=fM w.params 275 kM;have b25:=F25.binds (ps:=["self","things"]) λ_ _ _ _ _ _=>len2 λ_ _=>U;have F26:=fM w.params 287 jQ;have b26:=F26.binds (ps:=["side","things"]) λ_ _ _ _ _ _=>len2 λ_ _=>U;have F27:=fM w.params 294 jP;have b27:=F27.binds (ps:=["row"]) λ_ _ _ _ _ _=>dI λ_=>U;have F28:=fM w.params 306 eP;have b28:=F28.binds (ps:=["self","lines","parts","pace","most"]) λ_ _ _ _ _ _=>ic λ_ _ _ _ _=>U;have F29:=fM w.params 313 kE;have b29:=F29.binds (ps:=["self"]) λ_ _ _ _ _ _=>dI λ_=>U;have F30:=fM w.params 320 kG;have b30:=F30.binds (ps:=["self","now","part"]) λ_ _ _ _ _ _=>dC λ_ _ _=>U;have F31:=fM w.params 325 gj;have b31:=F31.binds (ps:=["self","now","part"]) λ_ _ _ _ _ _=>dC λ_ _ _=>U;have F32:=fM w.params 332 kH;have b32:=F32.binds (ps:=["self","turn","parts"]) λ_ _ _ _ _ _=>dC λ_ _ _=>U;have F33:=fM w.params 339 kF;have b33:=F33.binds (ps:=["self","part"]) λ_ _ _ _ _ _=>len2 λ_ _=>U;have F35:=fM w.params 361 kg;have b35:=F35.binds (ps:=["_law_script","_law_k"]) λ_ _ _ _ _ _=>len2 λ_ _=>U;have F36:=fM w.params 368 k9;have b36:=F36.binds (ps:=["_law_cell_here","_law_k"]) λ_ _ _ _ _ _=>len2 λ_ _=>U;have F37:=fM w.params 375 k7;have b37:=F37.binds (ps:=["_law_cell_here","_law_way"]) λ_ _ _ _ _ _=>len2 λ_ _=>U;have F38:=fM w.params 382 jU;have b38:=F38.binds (ps:=["_law_sign_here","_law_a","_law_b"]) λ_ _ _ _ _ _=>dC λ_ _ _=>U;have F39:=fM w.params 389 jT;have b39:=F39.binds (ps:=["_law_cell_here","_law_way"]) λ_ _ _ _ _ _=>len2 λ_ _=>U;have F40:=fM w.params 394 iK;have b40:=F40.binds (ps:=["_law_cell_here","_law_k"]) λ_ _ _ _ _ _=>len2 λ_ _=>U;have F41:=fM w.params 401 jY;have b41:=F41.binds (ps:=["_law_pool","_law_other","_law_lines","_law_many","_law_way"]) λ_ _ _ _ _ _=>ic λ_ _ _ _ _=>U;have F42:=fM w.params 408 jV;have b42:=F42.binds (ps:=["_law_way","_law_width","_law_cell_here"]) λ_ _ _ _ _ _=>dC λ_ _ _=>U;have F43:=fM w.params 413 iI;have b43:=F43.binds (ps:=["_law_cell_here","_law_k","_law_takers","_law_givers","_law_lines"]) λ_ _ _ _ _ _=>ic λ_ _ _ _ _=>U;have F44:=fM w.params 418 fw;have b44:=F44.binds (ps:=["_law_script"]) λ_ _ _ _ _ _=>dI λ_=>U;have F45:=fM w.params 423 iG;have b45:=F45.binds (ps:=["_law_cell_here","_law_k"]) λ_ _ _ _ _ _=>len2 λ_ _=>U;have F46:=fM w.params 428 iJ;have b46:=F46.binds (ps:=["_law_script","_law_way"]) λ_ _ _ _ _ _=>len2 λ_ _=>U;have F47:=fM w.params 435 k6;have b47:=F47.binds (ps:=["_law_side_here","_law_things"]) λ_ _ _ _ _ _=>len2 λ_ _=>U;have F48:=fM w.params 440 fA;have b48:=F48.binds (ps:=["_law_row","_law_things"]) λ_ _ _ _ _ _=>len2 λ_ _=>U;have F49:=fM w.params 447 jS;have b49:=F49.binds (ps:=["_law_row","_law_rows"]) λ_ _ _ _ _ _=>len2 λ_ _=>U;have F50:=fM w.params 454 jX;have b50:=F50.binds (ps:=["_law_pace_here","_law_place","_law_many"]) λ_ _ _ _ _ _=>dC λ_ _ _=>U;have F51:=fM w.params 461 jZ;have b51:=F51.binds (ps:=["_law_things","_law_many"]) λ_ _ _ _ _ _=>len2 λ_ _=>U;have F52:=fM w.params 468 kf;have b52:=F52.binds (ps:=["_law_entry","_law_lines","_law_parts"]) λ_ _ _ _ _ _=>dC λ_ _ _=>U;have F53:=fM w.params 473 gW;have b53:=F53.binds (ps:=["_law_entry","_law_lines","_law_parts","_law_pace_here","_law_rows","_law_posts"]) λ_ _ _ _ _ _=>lZ λ_ _ _ _ _ _=>U;have F54:=fM w.params 480 jW;have b54:=F54.binds (ps:=["_law_lines","_law_rows","_law_things"]) λ_ _ _ _ _ _=>dC λ_ _ _=>U;have F55:=fM w.params 487 ke;have b55:=F55.binds (ps:=["_law_entry","_law_lines","_law_rows","_law_posts"]) λ_ _ _ _ _ _=>ie λ_ _ _ _=>U;have F56:=fM w.params 494 kc;have b56:=F56.binds (ps:=["_law_turn","_law_lines","_law_rows","_law_posts"]) λ_ _ _ _ _ _=>ie λ_ _ _ _=>U;have F57:=fM w.params 499 iH;have b57:=F57.binds (ps:=["_law_parts","_law_rows","_law_posts"]) λ_ _ _ _ _ _=>dC λ_ _ _=>U;have F58:=fM w.params 504 iL;have b58:=F58.binds (ps:=["_law_group_here","_law_lines","_law_parts","_law_pace_here","_law_rows","_law_posts"]) λ_ _ _ _ _ _=>lZ λ_ _ _ _ _ _=>U;have F59:=fM w.params 511 ka;have b59:=F59.binds (ps:=["_law_log"]) λ_ _ _ _ _ _=>dI λ_=>U;have F60:=fM w.params 516 iM;have b60:=F60.binds (ps:=["_law_group_here","_law_parts","_law_rows","_law_posts"]) λ_ _ _ _ _ _=>ie λ_ _ _ _=>U;have F61:=fM w.params 521 gX;have b61:=F61.binds (ps:=["_law_found","_law_lines","_law_parts","_law_pace_here"]) λ_ _ _ _ _ _=>ie λ_ _ _ _=>U;have F62:=fM w.params 528 fj;have b62:=F62.binds (ps:=["_law_script"]) λ_ _ _ _ _ _=>dI λ_=>U;have F34:=eM (dvs:=#[.none,.int 5000 655]) w.params 354 jO;have b34:=F34.binds (ps:=["lines","parts","pace","most"]) [] λ_ _ _ _ _ _ _ _ _ _ us hg hd hl=>match us,(show us.length=4 from by simpa using hl)with|[_,_,_,_],_=>BindsTo.of_defaults U hg hd U U
 have bd34:=F34.binds (ps:=["lines","parts","pace","most"]) [.int 5000 655] λ_ _ _ _ _ _ _ _ _ _ us hg hd hl=>match us,(show us.length=3 from by simpa using hl)with|[_,_,_],_=>BindsTo.of_defaults U hg hd U U
 have bdd34:=F34.binds (ps:=["lines","parts","pace","most"]) [.none,.int 5000 655] λ_ _ _ _ _ _ _ _ _ _ us hg hd hl=>match us,(show us.length=2 from by simpa using hl)with|[_,_],_=>BindsTo.of_defaults U hg hd U U
 have T:Tx PySem.Challenge.rw_handflow_k46_nobody_waits.prog w (hk w.params) mg (Adr.mk 28 _ 35 _ 42 _ 49 _ 56 _ 63 _ 77 _ 84 _ 96 _ 103 _ 110 _ 117 _ 124 _ 131 _ 136 _ 157 _ 164 _ 185 _ 190 _ 209 _ 216 _ 235 _ 242 _ 261 _ 268 _ 275 _ 287 _ 294 _ 306 _ 313 _ 320 _ 325 _ 332 _ 339 _ 354 _ 655 361 _ 368 _ 375 _ 382 _ 389 _ 394 _ 401 _ 408 _ 413 _ 418 _ 423 _ 428 _ 435 _ 440 _ 447 _ 454 _ 461 _ 468 _ 473 _ 480 _ 487 _ 494 _ 499 _ 504 _ 511 _ 516 _ 521 _ 528 _ 258 66 139 167 193 219 245 278 342):=Tx.mk F0 b0 F1 b1 F2 b2 F3 b3 F4 b4 F5 b5 F6 b6 (mM X G) F7 b7 (mM X G) F8 b8 F9 b9 F10 b10 F11 b11 F12 b12 F13 b13 F14 b14 F15 b15 F16 b16 F17 b17 F18 b18 F19 b19 F20 b20 F21 b21 F22 b22 F23 b23 F24 b24 F25 b25 F26 b26 (mM X G) F27 b27 (mM X G) F28 b28 F29 b29 F30 b30 F31 b31 F32 b32 F33 b33 F34 bd34 bdd34 b34 (mM X G) F35 b35 (mM X G) F36 b36 (mM X G) F37 b37 (mM X G) F38 b38 (mM X G) F39 b39 (mM X G) F40 b40 (mM X G) F41 b41 (mM X G) F42 b42 (mM X G) F43 b43 (mM X G) F44 b44 (mM X G) F45 b45 (mM X G) F46 b46 (mM X G) F47 b47 (mM X G) F48 b48 (mM X G) F49 b49 (mM X G) F50 b50 (mM X G) F51 b51 (mM X G) F52 b52 (mM X G) F53 b53 (mM X G) F54 b54 (mM X G) F55 b55 (mM X G) F56 b56 (mM X G) F57 b57 (mM X G) F58 b58 (mM X G) F59 b59 (mM X G) F60 b60 (mM X G) F61 b61 (mM X G) F62 b62 (mM X G) (nM X G) (nM X G) (nM X G) (nM X G) (nM X G) (nM X G) (nM X G) (nM X G) (nM X G) (nM X G) (nM X G) (nM X G) (nM X G) (mM X G) (mM X G) (Cls.mk (by k_is) (by k_is) (by k_is) (by k_is)) (Mk.mk (by k_is) (by k_is) (by k_is) (by k_is)) (aS.mk (by k_is) (by k_is) (by k_is)) (aS.mk (by k_is) (by k_is) (by k_is)) (aS.mk (by k_is) (by k_is) (by k_is)) (aS.mk (by k_is) (by k_is) (by k_is)) (aS.mk (by k_is) (by k_is) (by k_is)) oM oM (mM X G) (Cls.mk (by k_is) (by k_is) (by k_is) (by k_is)) (Mk.mk (by k_is) (by k_is) (by k_is) (by k_is)) (aS.mk (by k_is) (by k_is) (by k_is)) (aS.mk (by k_is) (by k_is) (by k_is)) (aS.mk (by k_is) (by k_is) (by k_is)) (aS.mk (by k_is) (by k_is) (by k_is)) (aS.mk (by k_is) (by k_is) (by k_is)) (aS.mk (by k_is) (by k_is) (by k_is)) oM oM (mM X G) (Cls.mk (by k_is) (by k_is) (by k_is) (by k_is)) (Mk.mk (by k_is) (by k_is) (by k_is) (by k_is)) (aS.mk (by k_is) (by k_is) (by k_is)) oM (mM X G) (Cls.mk (by k_is) (by k_is) (by k_is) (by k_is)) (Mk.mk (by k_is) (by k_is) (by k_is) (by k_is)) (aS.mk (by k_is) (by k_is) (by k_is)) (aS.mk (by k_is) (by k_is) (by k_is)) oM oM oM (mM X G) (Cls.mk (by k_is) (by k_is) (by k_is) (by k_is)) (Mk.mk (by k_is) (by k_is) (by k_is) (by k_is)) (aS.mk (by k_is) (by k_is) (by k_is)) (aS.mk (by k_is) (by k_is) (by k_is)) oM oM oM oM (mM X G) (Cls.mk (by k_is) (by k_is) (by k_is) (by k_is)) (Mk.mk (by k_is) (by k_is) (by k_is) (by k_is)) (aS.mk (by k_is) (by k_is) (by k_is)) (aS.mk (by k_is) (by k_is) (by k_is)) oM oM oM oM oM (mM X G) (Cls.mk (by k_is) (by k_is) (by k_is) (by k_is)) (Mk.mk (by k_is) (by k_is) (by k_is) (by k_is)) (aS.mk (by k_is) (by k_is) (by k_is)) (aS.mk (by k_is) (by k_is) (by k_is)) oM oM oM oM (mM X G) (Cls.mk (by k_is) (by k_is) (by k_is) (by k_is)) (Mk.mk (by k_is) (by k_is) (by k_is) (by k_is)) (aS.mk (by k_is) (by k_is) (by k_is)) (aS.mk (by k_is) (by k_is) (by k_is)) (aS.mk (by k_is) (by k_is) (by k_is)) (aS.mk (by k_is) (by k_is) (by k_is)) (aS.mk (by k_is) (by k_is) (by k_is)) oM oM oM oM oM oM oM oM oM oM oM (mW.mk (by k_is) (by k_is) (by k_is) (by k_is));exact⟨_,λs v=>.of_eq U,λbase _ _=>xW T⟩
theorem ux{l:W.OpenLaw}{q:Program}{loose:List Str}{XP:(Str->Option Value)->Heap->Prop}{YP:World->Heap->Prop}{d:DefRec}{K:Params->W.Frag}(hn:l.most=some 63)(hdf:d.params.defaults=[])
 (hY:∀(w:World)(h:Heap),YP w h->(K w.params).In h)
 (F:∀(w:World)(mg:Str->Option Value)(fa:Addr)(h:Heap),(K w.params).In h->h.Ns mainGlobals mg->mg d.name=some (.ref fa)->
  ∃fd:FuncData,(∀(s:Shared)(u:Value),BindsTo s fd ⟨[u],[]⟩ [("_law_script",u)])/\∀base:Heap,(K w.params).In base->base.Ns mainGlobals mg->aA l.prog w (K w.params) mg base CX0 8 fa fd ["_law_script"] (gQ (K w.params))):
 W.WalkO q loose XP YP l.row.toRowW d [] (λf vs=>PySem.call f vs):=
 L2.uw (n:=63) (k:=8) (x:="_law_script") (CX:=λ_=>CX0) (sp:=λw=>gQ (K w.params)) hn Yd hdf ⟨U,Yd,Yd,U⟩ hY F (λ_ _ a ns hl hb hO hS=>⟨a,ns,U,hS,hl,hb,hO,λ_=>U⟩) λ_ _ _ _ _ z=>z
noncomputable def Aw:PySem.DefRec:=⟨"law",cU fj,cH fj,am fj,defPos fj⟩
theorem sY{p:Program}{w:World}{A:Option Value}:∀{m:Nat}{x x':W.SharedT}{y:Thread},goT p w A m x y=some x'->W.topRun PySem.treeTable p w 11 A m x.abs y=some x'.abs
 |0,_,_,_,h=>nomatch h
 |m+1,x,x',y,h=>by
  unfold goT at h;unfold W.topRun
  cases a:W.through y with
  |true=>rw[a]at h;cases h;rfl
  |false=>
   rw[a]at h
   cases b:W.stepOk 11 A y with
   |false=>rw[b]at h;cases h
   |true=>
    rw[b]at h
    cases c:W.stepT (denote PySem.treeTable) p w x y with
    |none=>rw[c]at h;cases h
    |some z=>rw[c]at h;rw[W.stepT_spec c];exact sY h
theorem zI{p q:Program}{loose:List Str}{Xt:Shared->Bool}{α:Type}{Yf:Shared->α}{Ya:World->α}{N:Nat}(e:W.opening p=W.plainProg p.main.scope.names)(hN:Nat.ble 600 N=true)(f:∀s,fenceModules? p s=some s)
 (H:∀w,EndsT p q loose Xt Yf Ya N w):W.LeftO p q loose Xt Yf Ya N:=λw=>by
 obtain⟨⟨h,gs,d,k,os⟩,u,u'⟩:=qQ.mp (W.boot_open e hN f w);obtain⟨rfl,rfl,rfl,rfl⟩:h=W.boot_heap w.params/\gs=#[]/\d=W.boot_drawn/\k=W.boot_toks:=by simpa using u'
 obtain⟨s,r,l⟩:=qQ.mp (H w os);have r:=sY r;rw[bs_is]at r;obtain⟨l1,l2,l3⟩:_/\_/\_:=by simpa only[Prod.mk.injEq]using l
 have z1:((W.boot_heap w.params).isNs mainGlobals && (#[]:Array GenState).size == 0)=true:=by kernel_rfl
 have z2:(W.boot_heap w.params).objs.size=11:=by kernel_rfl
 have t:W.topFrom PySem.treeTable p w N ⟨W.boot_heap w.params,#[],W.boot_drawn,W.boot_toks,os⟩=some s.abs:=by
  unfold W.topFrom;dsimp only;rw[z1,z2,r];show(match W.staticsOk (PySem.importedModules p.main.body) (W.boot_heap w.params) s.abs.heap && W.namesBound p s.abs.heap && W.gensDone s.abs && W.laidKept (W.boot_heap w.params) s.abs.heap with|true=>_|false=>_)=_;rw[l1]
 unfold W.openEnds;rw[u];show(W.topFrom PySem.treeTable p w N _).map _=_;rw[t];exact congrArg some (Prod.ext l2 l3)
set_option maxHeartbeats 0 in
theorem left:W.LeftO PySem.Challenge.pw_handflow_k46_nobody_waits vw [("play":Str)] xt hkH.obs hkH.val 7392:=zI (by kernel_rfl) Yd (λ_=>by kernel_rfl) leftF
end K46
open PySem PySem.W PyProof.Rows
set_option maxRecDepth 100000 in
set_option maxHeartbeats 0 in
theorem PySem.Challenge.cw_handflow_k46_nobody_waits_holds : PySem.Challenge.rw_handflow_k46_nobody_waits.Holds := by
 w_on;refine holds_law K46.said fun said=>?_
 refine holds_open (q:=K46.vw) (loose:=[("play":Str)]) (Xt:=K46.xt) (XP:=XL K46.vw []) (Yf:=Hook.obs K46.hkH) (Ya:=Hook.val K46.hkH) (YP:=Hook.says K46.hkH) (d:=K46.Aw) (kwd:=[]) (N:=7392) K46.left (Hook.of K46.hkH) (Hook.keeps K46.hkH) (fun s e=>xl_of s (Bool.and_eq_true_iff.mp e).1) XL.keeps (by kernel_rfl) (by kernel_rfl) (by kernel_rfl) (fun s e=>recFacts_of (Bool.and_eq_true_iff.mp e).2) (by rfl) (by first|assumption|decide +kernel) (by decide +kernel) ⟨rfl,rfl,rfl,rfl,rfl,by decide +kernel⟩ ?hw ?hc
 (case hw=>w_witness2)
 refine K46.ux (l:=PySem.Challenge.rw_handflow_k46_nobody_waits) rfl (by kernel_rfl) (K:=K46.hk) (fun w h Y=>PySem.W.kIn_of (K:=K46.hk) (as:=K46.hks) (e:=K46.hk_as) Y) ?F
 case F=>exact fun w mg fa h X G e=>K46.Ba X G e
