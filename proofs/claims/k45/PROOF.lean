import PyProof.Rows.All
import Wide.All
import OpenK.AllK
import Wide.FinOn
import Lean
import PyProof.EqAt
import PyProof.EqKinds
import PyProof.TupleCall
import PySem.Challenge.RW_handflow_k45_still_is_still
set_option Elab.async false
set_option maxRecDepth 100000
set_option linter.all false
theorem U{α:Sort u}{a:α}:a=a:=rfl
theorem Oi{p:Prop}{α:Sort u}{a:α}:a=a\/p:=.inl rfl
theorem Oy{α:Sort u}{β:Sort v}{γ:Sort w}{f:α->β->γ}:∀a b,f a b=f a b:=λ_ _=>rfl
section
open PySem PySem.Spec PyProof.Rows PySem.W
theorem Qy{p:Prop}(h:p:=by decide +kernel):p:=h
theorem Qz{p:Prop}(h:p:=by decide):p:=h
theorem Qw{p:Prop}(h:p:=by omega):p:=h
abbrev Yd:=Value->Shared->Prop
def q5:=@wpAny_bind
def q9:=@List.length_map
def qa:=@Heap.get?_push_of_some
def qb:=@List.length_append
def qc:=@List.getElem?_eq_getElem
def qd:=@wpAny_pure
def qe:=@Nat.le_refl
def qf:=@List.getElem?_eq_some_iff
def qg:=@PySem.F.plainAttrs_list
def qh:=@List.mem_append
def qi:=@Bool.false_ne_true
def qj:=@List.getD_eq_getElem?_getD
def qk:=@List.mem_cons_of_mem
def qm:=@List.mem_cons_self
def qp:=@Heap.get?_push_size
def qq:=@Heap.lt_size
def qr:=@List.take_add_one
def qt:=@Nat.zero_le
def qu:=@List.mem_cons
def qv:=@PySem.F.slot_list_append
def qw:=@PySem.F.type_list_append
def qx:=@List.append_nil
def qy:=@Nat.le_trans
def qz:=@List.mem_of_getElem?
def qA:=@List.length_cons
def qC:=@List.size_toArray
def qD:=@Nat.lt_of_lt_of_le
def qE:=@List.getElem?_map
def qG:=@Nat.ne_of_lt
def qH:=@List.take_length
def qI:=@List.mem_append_right
def qJ:=@Option.some.inj
def qK:=@List.length_take
def qL:=@List.getElem?_append_right
def qM:=@Array.length_toList
def qN:=@List.append_assoc
def qO:=@List.map_append
def qP:=@Option.map_eq_some_iff
def qQ:=@List.not_mem_nil
def qR:=@List.map_cons
def qS:=@List.mem_singleton
def qT:=@Array.getElem?_toList
def qU:=@List.flatMap_append
def qV:=@List.mem_append_left
def qX:=@Int.toNat_natCast
def qY:=@List.length_drop
def qZ:=@if_neg
def Q0:=@if_pos
def Q1:=@decide_eq_true
def Q3:=@decide_eq_false
def Q4:=@absurd
def Q5:=@List.getElem?_append_left
def Q6:=@List.length_singleton
def Q7:=@PySem.boot_len
def Q8:=@List.find?_cons
def Q9:=@Int.emod_nonneg
def Qa:=@Nat.lt_succ_self
def Qb:=@Nat.lt_irrefl
def Qc:=@of_decide_eq_true
def Qd:=@List.length_range
def Qe:=@Int.emod_lt_of_pos
def Qf:=@Heap.size_push
def Qg:=@Heap.get?_update_self
def Qh:=@PySem.mem_of_lookup
def Qi:=@wpAny_call_entry
def Qj:=@Bool.false_eq_true
def Qk:=@List.nil_append
def Ql:=@List.cons_append
def Qm:=@PySem.F.type_list_extend
def Qn:=@PySem.F.slot_list_extend
def Qo:=@List.getElem?_eq_none
def Qq:=@List.pairwise_singleton
def Qr:=@List.filter_append
def Qs:=@Heap.get?_update_other
def Qt:=@List.take_append_drop
def Qu:=@wpAny_holding
def Qv:=@wpAny_seqItems
def Qx:=@Nat.not_lt_zero
end
namespace L2
open PySem PySem.Spec PyProof.Rows PySem.W
def inClass(s:Stmt)(j:Nat):Stmt:=match s with
 |.ClassDef _ _ _ body _ _ _ _ _ _ _=>body.getD j (.Pass ⟨0,0,0,0⟩)
 |_=>.Pass ⟨0,0,0,0⟩
def cE(s:Stmt):Arguments:=match s with
 |.FunctionDef _ a _ _ _ _ _ _ _ _=>a
 |_=>{ posonlyargs:=[],args:=[],vararg:=none,kwonlyargs:=[],kw_defaults:=[],kwarg:=none,defaults:=[] }
def cm(s:Stmt):List Stmt:=match s with
 |.FunctionDef _ _ b _ _ _ _ _ _ _=>b
 |_=>[]
def am(s:Stmt):Scope:=match s with
 |.FunctionDef _ _ _ _ _ _ sc _ _ _=>sc
 |_=>{ kind:=.function,names:=[],isGenerator:=false,isCoroutine:=false }
end L2
namespace K45
open PySem L2
set_option maxHeartbeats 0 in
theorem said:PySem.W.OpenLaw.wellSaid PySem.Challenge.rw_handflow_k45_still_is_still=true:=by kernel_rfl
def top(i:Nat):Stmt:=PySem.Challenge.pw_handflow_k45_still_is_still.main.body.getD i (.Pass ⟨0,0,0,0⟩)
noncomputable def defPos(s:Stmt):Pos:=match s with
 |.FunctionDef _ _ _ _ _ _ _ _ _ p=>p
 |_=>⟨0,0,0,0⟩
abbrev vs(x:String)(t:Nat):Value:=.str (Str.ofString x) t
abbrev de(P:Params)(x:String)(t:Nat)(v:Value):DictEntry:=⟨PyData.keyHash P (Str.ofString x),vs x t,v⟩
abbrev co(a b:String)(t l n r:Nat)(x y z u:Value)(m:Nat):Obj:=Obj.mk (.type "code") none (Data.fields #[vs a t,vs b (t+1),vs "/claim/cut.py" (t+2),.int l 0,.int n 0,.int 0 0,.int 0 0,.int 3 0,.ref r,.bool true,.int 181 0,.ref (r+1),x,y,z,u,.int m 0,.int l 0,vs "/claim/cut.py" (m+1)]) #[]
abbrev fo(a b:String)(s:Stmt)(m:String)(t c:Nat):Obj:=Obj.mk (.type "function") none (.func (PySem.W.fnOf a b (cE s) (cm s) (am s) .none .none .none (vs m t) none (.ref c) .none)) #[]
noncomputable def hk:Params->PySem.W.Frag:=λP=>
 (nat_lit 2,Obj.mk .none none (Data.dict #[]) #[]) ::
 (nat_lit 3,Obj.mk (.type "dict") none (Data.dict #[de P "__name__" 165 (vs "law_handflow_k45_still_is_still" 668),de P "__doc__" 166 .none,de P "__package__" 167 .none,de P "__loader__" 168 (.builtin "__main__.__loader__#opaque"),de P "__spec__" 169 .none,de P "__annotations__" 170 (.ref 6),de P "__builtins__" 171 (.ref 4),de P "__file__" 173 (vs "/claim/cut.py" 172),de P "__cached__" 174 .none,de P "Queue" 255 (.ref 66),de P "WHEEL" 259 (.int 1000000000000000000000000000000 258),de P "done" 268 (.ref 77),de P "reckoned" 277 (.ref 84),de P "Yard" 355 (.ref 139),de P "Part" 392 (.ref 167),de P "Pass" 426 (.ref 193),de P "Work" 466 (.ref 219),de P "Choose" 506 (.ref 245),de P "Merge" 553 (.ref 278),de P "on_side" 561 (.ref 287),de P "part_of" 569 (.ref 294),de P "Play" 654 (.ref 342),de P "play" 667 (.ref 354),de P "_law_cell" 677 (.ref 361),de P "_law_mixed" 686 (.ref 368),de P "_law_number" 695 (.ref 375),de P "_law_thing" 703 (.ref 382),de P "_law_line" 709 (.ref 387),de P "_law_picked" 722 (.ref 394),de P "_law_side" 731 (.ref 401),de P "_law_part" 737 (.ref 406),de P "_law_net" 743 (.ref 411),de P "_law_rests" 749 (.ref 416),de P "_law_pace" 755 (.ref 421),de P "_law_wanted" 763 (.ref 428),de P "_law_loads" 769 (.ref 433),de P "_law_ready" 778 (.ref 440),de P "_law_gives" 786 (.ref 447),de P "_law_last" 795 (.ref 454),de P "_law_stuck" 809 (.ref 461),de P "_law_may" 820 (.ref 468),de P "_law_cut" 830 (.ref 475),de P "_law_ring" 836 (.ref 480),de P "law" 842 (.ref 485)] 44) #[]) ::
 (nat_lit 27,co "__init__" "Queue.__init__" 201 4 2 22 .none (.ref 24) (.ref 25) (.ref 26) 206) ::
 (nat_lit 28,fo "__init__" "Queue.__init__" (inClass (top 1) 0) "handflow.queues" 187 27) ::
 (nat_lit 34,co "standing" "Queue.standing" 209 8 1 29 .none (.ref 31) (.ref 32) (.ref 33) 213) ::
 (nat_lit 35,fo "standing" "Queue.standing" (inClass (top 1) 1) "handflow.queues" 187 34) ::
 (nat_lit 41,co "head" "Queue.head" 216 11 1 36 .none (.ref 38) (.ref 39) (.ref 40) 220) ::
 (nat_lit 42,fo "head" "Queue.head" (inClass (top 1) 2) "handflow.queues" 187 41) ::
 (nat_lit 48,co "lay" "Queue.lay" 223 14 2 43 .none (.ref 45) (.ref 46) (.ref 47) 228) ::
 (nat_lit 49,fo "lay" "Queue.lay" (inClass (top 1) 3) "handflow.queues" 187 48) ::
 (nat_lit 55,co "take" "Queue.take" 231 17 1 50 .none (.ref 52) (.ref 53) (.ref 54) 236) ::
 (nat_lit 56,fo "take" "Queue.take" (inClass (top 1) 4) "handflow.queues" 187 55) ::
 (nat_lit 62,co "rest" "Queue.rest" 239 22 1 57 .none (.ref 59) (.ref 60) (.ref 61) 243) ::
 (nat_lit 63,fo "rest" "Queue.rest" (inClass (top 1) 5) "handflow.queues" 187 62) ::
 (nat_lit 64,Obj.mk (.type "tuple") none (Data.seq #[vs "gone" 246,vs "laid" 247]) #[]) ::
 (nat_lit 65,Obj.mk (.type "dict") none (Data.dict #[de P "__module__" 196 (vs "handflow.queues" 187),de P "__firstlineno__" 200 (.int 2 199),de P "__init__" 208 (.ref 28),de P "standing" 215 (.ref 35),de P "head" 222 (.ref 42),de P "lay" 230 (.ref 49),de P "take" 238 (.ref 56),de P "rest" 245 (.ref 63),de P "__static_attributes__" 248 (.ref 64),de P "__dict__" 250 (.ref 67),de P "__weakref__" 252 (.ref 68),de P "__doc__" 253 .none] 4) #[]) ::
 (nat_lit 66,Obj.mk (.type "type") none (Data.cls (ClassData.mk (Str.ofString "Queue") [.type "object"] [.ref 66,.type "object"] 65 (Str.ofString "Queue") true [] [] false none false)) #[none,none,some (vs "Queue" 189),some (vs "Queue" 197),some (.builtin "object.__new__"),some (.bool true)]) ::
 (nat_lit 67,Obj.mk (.type "getset_descriptor") none (Data.fields #[vs "__dict__" 249,.ref 66,.builtin "function.__dict__",.builtin "function.__dict__#set"]) #[]) ::
 (nat_lit 68,Obj.mk (.type "getset_descriptor") none (Data.fields #[vs "__weakref__" 251,.ref 66,.builtin "ExceptionGroup.__weakref__",.none]) #[]) ::
 (nat_lit 76,co "done" "done" 260 26 3 71 .none (.ref 73) (.ref 74) (.ref 75) 266) ::
 (nat_lit 77,fo "done" "done" (top 4) "handflow.wheel" 256 76) ::
 (nat_lit 83,co "reckoned" "reckoned" 269 34 3 78 .none (.ref 80) (.ref 81) (.ref 82) 275) ::
 (nat_lit 84,fo "reckoned" "reckoned" (top 5) "handflow.wheel" 256 83) ::
 (nat_lit 95,co "__init__" "Yard.__init__" 292 49 2 92 .none .none .none (.ref 94) 295) ::
 (nat_lit 96,fo "__init__" "Yard.__init__" (inClass (top 7) 0) "handflow.parts" 278 95) ::
 (nat_lit 102,co "holds" "Yard.holds" 298 53 2 97 .none (.ref 99) (.ref 100) (.ref 101) 303) ::
 (nat_lit 103,fo "holds" "Yard.holds" (inClass (top 7) 1) "handflow.parts" 278 102) ::
 (nat_lit 109,co "room" "Yard.room" 306 56 2 104 .none (.ref 106) (.ref 107) (.ref 108) 312) ::
 (nat_lit 110,fo "room" "Yard.room" (inClass (top 7) 2) "handflow.parts" 278 109) ::
 (nat_lit 116,co "first" "Yard.first" 315 60 2 111 .none (.ref 113) (.ref 114) (.ref 115) 320) ::
 (nat_lit 117,fo "first" "Yard.first" (inClass (top 7) 3) "handflow.parts" 278 116) ::
 (nat_lit 123,co "hand" "Yard.hand" 323 63 3 118 .none (.ref 120) (.ref 121) (.ref 122) 329) ::
 (nat_lit 124,fo "hand" "Yard.hand" (inClass (top 7) 4) "handflow.parts" 278 123) ::
 (nat_lit 130,co "taken" "Yard.taken" 332 66 2 125 .none (.ref 127) (.ref 128) (.ref 129) 337) ::
 (nat_lit 131,fo "taken" "Yard.taken" (inClass (top 7) 5) "handflow.parts" 278 130) ::
 (nat_lit 135,co "stands" "Yard.stands" 340 69 1 132 .none .none .none (.ref 134) 343) ::
 (nat_lit 136,fo "stands" "Yard.stands" (inClass (top 7) 6) "handflow.parts" 278 135) ::
 (nat_lit 137,Obj.mk (.type "tuple") none (Data.seq #[vs "lengths" 346,vs "queues" 347]) #[]) ::
 (nat_lit 138,Obj.mk (.type "dict") none (Data.dict #[de P "__module__" 287 (vs "handflow.parts" 278),de P "__firstlineno__" 291 (.int 47 290),de P "__init__" 297 (.ref 96),de P "holds" 305 (.ref 103),de P "room" 314 (.ref 110),de P "first" 322 (.ref 117),de P "hand" 331 (.ref 124),de P "taken" 339 (.ref 131),de P "stands" 345 (.ref 136),de P "__static_attributes__" 348 (.ref 137),de P "__dict__" 350 (.ref 140),de P "__weakref__" 352 (.ref 141),de P "__doc__" 353 .none] 4) #[]) ::
 (nat_lit 139,Obj.mk (.type "type") none (Data.cls (ClassData.mk (Str.ofString "Yard") [.type "object"] [.ref 139,.type "object"] 138 (Str.ofString "Yard") true [] [] false none false)) #[none,none,some (vs "Yard" 280),some (vs "Yard" 288),some (.builtin "object.__new__"),some (.bool true)]) ::
 (nat_lit 140,Obj.mk (.type "getset_descriptor") none (Data.fields #[vs "__dict__" 349,.ref 139,.builtin "function.__dict__",.builtin "function.__dict__#set"]) #[]) ::
 (nat_lit 141,Obj.mk (.type "getset_descriptor") none (Data.fields #[vs "__weakref__" 351,.ref 139,.builtin "ExceptionGroup.__weakref__",.none]) #[]) ::
 (nat_lit 156,co "__init__" "Part.__init__" 368 73 2 151 .none (.ref 153) (.ref 154) (.ref 155) 373) ::
 (nat_lit 157,fo "__init__" "Part.__init__" (inClass (top 8) 0) "handflow.parts" 278 156) ::
 (nat_lit 163,co "wants" "Part.wants" 376 76 2 158 .none (.ref 160) (.ref 161) (.ref 162) 381) ::
 (nat_lit 164,fo "wants" "Part.wants" (inClass (top 8) 1) "handflow.parts" 278 163) ::
 (nat_lit 165,Obj.mk (.type "tuple") none (Data.seq #[vs "ins" 384]) #[]) ::
 (nat_lit 166,Obj.mk (.type "dict") none (Data.dict #[de P "__module__" 363 (vs "handflow.parts" 278),de P "__firstlineno__" 367 (.int 71 366),de P "__init__" 375 (.ref 157),de P "wants" 383 (.ref 164),de P "__static_attributes__" 385 (.ref 165),de P "__dict__" 387 (.ref 168),de P "__weakref__" 389 (.ref 169),de P "__doc__" 390 .none] 4) #[]) ::
 (nat_lit 167,Obj.mk (.type "type") none (Data.cls (ClassData.mk (Str.ofString "Part") [.type "object"] [.ref 167,.type "object"] 166 (Str.ofString "Part") true [] [.ref 193,.ref 219,.ref 245,.ref 278] false none false)) #[none,none,some (vs "Part" 356),some (vs "Part" 364),some (.builtin "object.__new__"),some (.bool true)]) ::
 (nat_lit 168,Obj.mk (.type "getset_descriptor") none (Data.fields #[vs "__dict__" 386,.ref 167,.builtin "function.__dict__",.builtin "function.__dict__#set"]) #[]) ::
 (nat_lit 169,Obj.mk (.type "getset_descriptor") none (Data.fields #[vs "__weakref__" 388,.ref 167,.builtin "ExceptionGroup.__weakref__",.none]) #[]) ::
 (nat_lit 172,Obj.mk (.type "tuple") none (Data.seq #[.ref 167]) #[]) ::
 (nat_lit 184,co "__init__" "Pass.__init__" 405 80 4 179 .none (.ref 181) (.ref 182) (.ref 183) 412) ::
 (nat_lit 185,fo "__init__" "Pass.__init__" (inClass (top 9) 0) "handflow.parts" 278 184) ::
 (nat_lit 189,co "made" "Pass.made" 415 85 2 186 .none .none .none (.ref 188) 418) ::
 (nat_lit 190,fo "made" "Pass.made" (inClass (top 9) 1) "handflow.parts" 278 189) ::
 (nat_lit 191,Obj.mk (.type "tuple") none (Data.seq #[vs "outs" 421,vs "route" 422]) #[]) ::
 (nat_lit 192,Obj.mk (.type "dict") none (Data.dict #[de P "__module__" 400 (vs "handflow.parts" 278),de P "__firstlineno__" 404 (.int 78 403),de P "__init__" 414 (.ref 185),de P "made" 420 (.ref 190),de P "__static_attributes__" 423 (.ref 191),de P "__doc__" 424 .none] 2) #[]) ::
 (nat_lit 193,Obj.mk (.type "type") none (Data.cls (ClassData.mk (Str.ofString "Pass") [.ref 167] [.ref 193,.ref 167,.type "object"] 192 (Str.ofString "Pass") true [] [] false none false)) #[some (.ref 172),none,some (vs "Pass" 393),some (vs "Pass" 401),some (.builtin "object.__new__"),some (.bool true)]) ::
 (nat_lit 196,Obj.mk (.type "tuple") none (Data.seq #[.ref 167]) #[]) ::
 (nat_lit 208,co "__init__" "Work.__init__" 439 89 5 203 .none (.ref 205) (.ref 206) (.ref 207) 447) ::
 (nat_lit 209,fo "__init__" "Work.__init__" (inClass (top 10) 0) "handflow.parts" 278 208) ::
 (nat_lit 215,co "made" "Work.made" 450 95 2 210 .none (.ref 212) (.ref 213) (.ref 214) 457) ::
 (nat_lit 216,fo "made" "Work.made" (inClass (top 10) 1) "handflow.parts" 278 215) ::
 (nat_lit 217,Obj.mk (.type "tuple") none (Data.seq #[vs "out" 460,vs "sides" 461,vs "sign" 462]) #[]) ::
 (nat_lit 218,Obj.mk (.type "dict") none (Data.dict #[de P "__module__" 434 (vs "handflow.parts" 278),de P "__firstlineno__" 438 (.int 87 437),de P "__init__" 449 (.ref 209),de P "made" 459 (.ref 216),de P "__static_attributes__" 463 (.ref 217),de P "__doc__" 464 .none] 2) #[]) ::
 (nat_lit 219,Obj.mk (.type "type") none (Data.cls (ClassData.mk (Str.ofString "Work") [.ref 167] [.ref 219,.ref 167,.type "object"] 218 (Str.ofString "Work") true [] [] false none false)) #[some (.ref 196),none,some (vs "Work" 427),some (vs "Work" 435),some (.builtin "object.__new__"),some (.bool true)]) ::
 (nat_lit 222,Obj.mk (.type "tuple") none (Data.seq #[.ref 167]) #[]) ::
 (nat_lit 234,co "__init__" "Choose.__init__" 479 101 6 229 .none (.ref 231) (.ref 232) (.ref 233) 488) ::
 (nat_lit 235,fo "__init__" "Choose.__init__" (inClass (top 11) 0) "handflow.parts" 278 234) ::
 (nat_lit 241,co "made" "Choose.made" 491 108 2 236 .none (.ref 238) (.ref 239) (.ref 240) 496) ::
 (nat_lit 242,fo "made" "Choose.made" (inClass (top 11) 1) "handflow.parts" 278 241) ::
 (nat_lit 243,Obj.mk (.type "tuple") none (Data.seq #[vs "noughts" 499,vs "ones" 500,vs "told" 501,vs "which" 502]) #[]) ::
 (nat_lit 244,Obj.mk (.type "dict") none (Data.dict #[de P "__module__" 474 (vs "handflow.parts" 278),de P "__firstlineno__" 478 (.int 99 477),de P "__init__" 490 (.ref 235),de P "made" 498 (.ref 242),de P "__static_attributes__" 503 (.ref 243),de P "__doc__" 504 .none] 2) #[]) ::
 (nat_lit 245,Obj.mk (.type "type") none (Data.cls (ClassData.mk (Str.ofString "Choose") [.ref 167] [.ref 245,.ref 167,.type "object"] 244 (Str.ofString "Choose") true [] [] false none false)) #[some (.ref 222),none,some (vs "Choose" 467),some (vs "Choose" 475),some (.builtin "object.__new__"),some (.bool true)]) ::
 (nat_lit 248,Obj.mk (.type "tuple") none (Data.seq #[.ref 167]) #[]) ::
 (nat_lit 260,co "__init__" "Merge.__init__" 519 114 5 255 .none (.ref 257) (.ref 258) (.ref 259) 527) ::
 (nat_lit 261,fo "__init__" "Merge.__init__" (inClass (top 12) 0) "handflow.parts" 278 260) ::
 (nat_lit 267,co "wants" "Merge.wants" 530 120 2 262 .none (.ref 264) (.ref 265) (.ref 266) 536) ::
 (nat_lit 268,fo "wants" "Merge.wants" (inClass (top 12) 1) "handflow.parts" 278 267) ::
 (nat_lit 274,co "made" "Merge.made" 539 126 2 269 .none (.ref 271) (.ref 272) (.ref 273) 544) ::
 (nat_lit 275,fo "made" "Merge.made" (inClass (top 12) 2) "handflow.parts" 278 274) ::
 (nat_lit 276,Obj.mk (.type "tuple") none (Data.seq #[vs "noughts" 547,vs "ones" 548,vs "outs" 549]) #[]) ::
 (nat_lit 277,Obj.mk (.type "dict") none (Data.dict #[de P "__module__" 514 (vs "handflow.parts" 278),de P "__firstlineno__" 518 (.int 112 517),de P "__init__" 529 (.ref 261),de P "wants" 538 (.ref 268),de P "made" 546 (.ref 275),de P "__static_attributes__" 550 (.ref 276),de P "__doc__" 551 .none] 2) #[]) ::
 (nat_lit 278,Obj.mk (.type "type") none (Data.cls (ClassData.mk (Str.ofString "Merge") [.ref 167] [.ref 278,.ref 167,.type "object"] 277 (Str.ofString "Merge") true [] [] false none false)) #[some (.ref 248),none,some (vs "Merge" 507),some (vs "Merge" 515),some (.builtin "object.__new__"),some (.bool true)]) ::
 (nat_lit 286,co "on_side" "on_side" 554 128 2 281 .none (.ref 283) (.ref 284) (.ref 285) 559) ::
 (nat_lit 287,fo "on_side" "on_side" (top 13) "handflow.parts" 278 286) ::
 (nat_lit 293,co "part_of" "part_of" 562 130 1 288 .none (.ref 290) (.ref 291) (.ref 292) 567) ::
 (nat_lit 294,fo "part_of" "part_of" (top 14) "handflow.parts" 278 293) ::
 (nat_lit 305,co "__init__" "Play.__init__" 584 142 5 302 .none .none .none (.ref 304) 587) ::
 (nat_lit 306,fo "__init__" "Play.__init__" (inClass (top 16) 0) "handflow.player" 570 305) ::
 (nat_lit 312,co "to_its_end" "Play.to_its_end" 590 155 1 307 .none (.ref 309) (.ref 310) (.ref 311) 597) ::
 (nat_lit 313,fo "to_its_end" "Play.to_its_end" (inClass (top 16) 1) "handflow.player" 570 312) ::
 (nat_lit 319,co "give" "Play.give" 600 167 3 314 .none (.ref 316) (.ref 317) (.ref 318) 609) ::
 (nat_lit 320,fo "give" "Play.give" (inClass (top 16) 2) "handflow.player" 570 319) ::
 (nat_lit 324,co "take" "Play.take" 612 180 3 321 .none .none .none (.ref 323) 615) ::
 (nat_lit 325,fo "take" "Play.take" (inClass (top 16) 3) "handflow.player" 570 324) ::
 (nat_lit 331,co "await_turn" "Play.await_turn" 618 199 3 326 .none (.ref 328) (.ref 329) (.ref 330) 624) ::
 (nat_lit 332,fo "await_turn" "Play.await_turn" (inClass (top 16) 4) "handflow.player" 570 331) ::
 (nat_lit 338,co "rest_of" "Play.rest_of" 627 203 2 333 .none (.ref 335) (.ref 336) (.ref 337) 633) ::
 (nat_lit 339,fo "rest_of" "Play.rest_of" (inClass (top 16) 5) "handflow.player" 570 338) ::
 (nat_lit 340,Obj.mk (.type "tuple") none (Data.seq #[vs "doers" 636,vs "givers" 637,vs "held" 638,vs "log" 639,vs "pace" 640,vs "spare" 641,vs "takers" 642,vs "takings" 643,vs "without_room" 644,vs "without_thing" 645,vs "yard" 646]) #[]) ::
 (nat_lit 341,Obj.mk (.type "dict") none (Data.dict #[de P "__module__" 579 (vs "handflow.player" 570),de P "__firstlineno__" 583 (.int 140 582),de P "__init__" 589 (.ref 306),de P "to_its_end" 599 (.ref 313),de P "give" 611 (.ref 320),de P "take" 617 (.ref 325),de P "await_turn" 626 (.ref 332),de P "rest_of" 635 (.ref 339),de P "__static_attributes__" 647 (.ref 340),de P "__dict__" 649 (.ref 343),de P "__weakref__" 651 (.ref 344),de P "__doc__" 652 .none] 4) #[]) ::
 (nat_lit 342,Obj.mk (.type "type") none (Data.cls (ClassData.mk (Str.ofString "Play") [.type "object"] [.ref 342,.type "object"] 341 (Str.ofString "Play") true [] [] false none false)) #[none,none,some (vs "Play" 572),some (vs "Play" 580),some (.builtin "object.__new__"),some (.bool true)]) ::
 (nat_lit 343,Obj.mk (.type "getset_descriptor") none (Data.fields #[vs "__dict__" 648,.ref 342,.builtin "function.__dict__",.builtin "function.__dict__#set"]) #[]) ::
 (nat_lit 344,Obj.mk (.type "getset_descriptor") none (Data.fields #[vs "__weakref__" 650,.ref 342,.builtin "ExceptionGroup.__weakref__",.none]) #[]) ::
 (nat_lit 347,Obj.mk (.type "tuple") none (Data.seq #[.none,.int 5000 655]) #[]) ::
 (nat_lit 353,co "play" "play" 656 208 4 348 .none (.ref 350) (.ref 351) (.ref 352) 665) ::
 (nat_lit 354,Obj.mk (.type "function") none (.func (PySem.W.fnOf "play" "play" (cE (top 17)) (cm (top 17)) (am (top 17)) (.ref 347) .none .none (vs "handflow.player" 570) none (.ref 353) .none)) #[]) ::
 (nat_lit 360,co "_law_cell" "_law_cell" 670 213 2 355 .none (.ref 357) (.ref 358) (.ref 359) 675) ::
 (nat_lit 361,fo "_law_cell" "_law_cell" (top 19) "law_handflow_k45_still_is_still" 668 360) ::
 (nat_lit 367,co "_law_mixed" "_law_mixed" 678 217 2 362 .none (.ref 364) (.ref 365) (.ref 366) 684) ::
 (nat_lit 368,fo "_law_mixed" "_law_mixed" (top 20) "law_handflow_k45_still_is_still" 668 367) ::
 (nat_lit 374,co "_law_number" "_law_number" 687 220 2 369 .none (.ref 371) (.ref 372) (.ref 373) 693) ::
 (nat_lit 375,fo "_law_number" "_law_number" (top 21) "law_handflow_k45_still_is_still" 668 374) ::
 (nat_lit 381,co "_law_thing" "_law_thing" 696 229 2 376 .none (.ref 378) (.ref 379) (.ref 380) 701) ::
 (nat_lit 382,fo "_law_thing" "_law_thing" (top 22) "law_handflow_k45_still_is_still" 668 381) ::
 (nat_lit 386,co "_law_line" "_law_line" 704 233 2 383 .none .none .none (.ref 385) 707) ::
 (nat_lit 387,fo "_law_line" "_law_line" (top 23) "law_handflow_k45_still_is_still" 668 386) ::
 (nat_lit 393,co "_law_picked" "_law_picked" 710 240 5 388 .none (.ref 390) (.ref 391) (.ref 392) 720) ::
 (nat_lit 394,fo "_law_picked" "_law_picked" (top 24) "law_handflow_k45_still_is_still" 668 393) ::
 (nat_lit 400,co "_law_side" "_law_side" 723 249 3 395 .none (.ref 397) (.ref 398) (.ref 399) 729) ::
 (nat_lit 401,fo "_law_side" "_law_side" (top 25) "law_handflow_k45_still_is_still" 668 400) ::
 (nat_lit 405,co "_law_part" "_law_part" 732 253 5 402 .none .none .none (.ref 404) 735) ::
 (nat_lit 406,fo "_law_part" "_law_part" (top 26) "law_handflow_k45_still_is_still" 668 405) ::
 (nat_lit 410,co "_law_net" "_law_net" 738 273 1 407 .none .none .none (.ref 409) 741) ::
 (nat_lit 411,fo "_law_net" "_law_net" (top 27) "law_handflow_k45_still_is_still" 668 410) ::
 (nat_lit 415,co "_law_rests" "_law_rests" 744 282 2 412 .none .none .none (.ref 414) 747) ::
 (nat_lit 416,fo "_law_rests" "_law_rests" (top 28) "law_handflow_k45_still_is_still" 668 415) ::
 (nat_lit 420,co "_law_pace" "_law_pace" 750 287 2 417 .none .none .none (.ref 419) 753) ::
 (nat_lit 421,fo "_law_pace" "_law_pace" (top 29) "law_handflow_k45_still_is_still" 668 420) ::
 (nat_lit 427,co "_law_wanted" "_law_wanted" 756 293 2 422 .none (.ref 424) (.ref 425) (.ref 426) 761) ::
 (nat_lit 428,fo "_law_wanted" "_law_wanted" (top 30) "law_handflow_k45_still_is_still" 668 427) ::
 (nat_lit 432,co "_law_loads" "_law_loads" 764 301 2 429 .none .none .none (.ref 431) 767) ::
 (nat_lit 433,fo "_law_loads" "_law_loads" (top 31) "law_handflow_k45_still_is_still" 668 432) ::
 (nat_lit 439,co "_law_ready" "_law_ready" 770 309 2 434 .none (.ref 436) (.ref 437) (.ref 438) 776) ::
 (nat_lit 440,fo "_law_ready" "_law_ready" (top 32) "law_handflow_k45_still_is_still" 668 439) ::
 (nat_lit 446,co "_law_gives" "_law_gives" 779 314 2 441 .none (.ref 443) (.ref 444) (.ref 445) 784) ::
 (nat_lit 447,fo "_law_gives" "_law_gives" (top 33) "law_handflow_k45_still_is_still" 668 446) ::
 (nat_lit 453,co "_law_last" "_law_last" 787 324 2 448 .none (.ref 450) (.ref 451) (.ref 452) 793) ::
 (nat_lit 454,fo "_law_last" "_law_last" (top 34) "law_handflow_k45_still_is_still" 668 453) ::
 (nat_lit 460,co "_law_stuck" "_law_stuck" 796 329 4 455 .none (.ref 457) (.ref 458) (.ref 459) 807) ::
 (nat_lit 461,fo "_law_stuck" "_law_stuck" (top 35) "law_handflow_k45_still_is_still" 668 460) ::
 (nat_lit 467,co "_law_may" "_law_may" 810 342 3 462 .none (.ref 464) (.ref 465) (.ref 466) 818) ::
 (nat_lit 468,fo "_law_may" "_law_may" (top 36) "law_handflow_k45_still_is_still" 668 467) ::
 (nat_lit 474,co "_law_cut" "_law_cut" 821 348 2 469 .none (.ref 471) (.ref 472) (.ref 473) 828) ::
 (nat_lit 475,fo "_law_cut" "_law_cut" (top 37) "law_handflow_k45_still_is_still" 668 474) ::
 (nat_lit 479,co "_law_ring" "_law_ring" 831 356 1 476 .none .none .none (.ref 478) 834) ::
 (nat_lit 480,fo "_law_ring" "_law_ring" (top 38) "law_handflow_k45_still_is_still" 668 479) ::
 (nat_lit 484,co "law" "law" 837 362 1 481 .none .none .none (.ref 483) 840) ::
 (nat_lit 485,fo "law" "law" (top 39) "law_handflow_k45_still_is_still" 668 484) ::
 []
noncomputable def hks:List Addr:=[2,3,27,28,34,35,41,42,48,49,55,56,62,63,64,65,66,67,68,76,77,83,84,95,96,102,103,109,110,116,117,123,124,130,131,135,136,137,138,139,140,141,156,157,163,164,165,166,167,168,169,172,184,185,189,190,191,192,193,196,208,209,215,216,217,218,219,222,234,235,241,242,243,244,245,248,260,261,267,268,274,275,276,277,278,286,287,293,294,305,306,312,313,319,320,324,325,331,332,338,339,340,341,342,343,344,347,353,354,360,361,367,368,374,375,381,382,386,387,393,394,400,401,405,406,410,411,415,416,420,421,427,428,432,433,439,440,446,447,453,454,460,461,467,468,474,475,479,480,484,485]
theorem hk_as:∀P,hks=(hk P).map (·.1):=λ_=>by kernel_rfl
noncomputable def vw:Program:=PySem.W.view PySem.Challenge.pw_handflow_k45_still_is_still [1,3,4,5,7,8,9,10,11,12,13,14,16,19,20,21,22,23,24,25,26,27,28,29,30,31,32,33,34,35,36,37,38,39]
noncomputable def hkH:PySem.W.Hook:=PySem.W.kHook hk hks hk_as
noncomputable def xt(s:Shared):Bool:=PySem.W.xlAt vw [] s && PySem.W.recOk (PySem.W.RowW.records (PySem.W.OpenRow.toRowW (PySem.W.OpenLaw.row PySem.Challenge.rw_handflow_k45_still_is_still))) s
noncomputable def bt(P:Params):PySem.W.BT:=(.node (PySem.W.boot_o_0 P) (.node (PySem.W.boot_o_1 P) (.node (PySem.W.boot_o_3 P) (.node (PySem.W.boot_o_7 P) .nil .nil) .nil) (.node (PySem.W.boot_o_5 P) (.node (PySem.W.boot_o_9 P) .nil .nil) .nil)) (.node (PySem.W.boot_o_2 P) (.node (PySem.W.boot_o_4 P) (.node (PySem.W.boot_o_8 P) .nil .nil) .nil) (.node (PySem.W.boot_o_6 P) (.node (PySem.W.boot_o_10 P) .nil .nil) .nil)))
theorem bt_is(P:Params):PySem.W.absHeap (bt P) 11 {}=PySem.W.boot_heap P:=by kernel_rfl
noncomputable def bs(P:Params)(os:OsState):PySem.W.SharedT:=⟨bt P,11,{},#[],PySem.W.boot_drawn,PySem.W.boot_toks,os⟩
theorem bs_is(P:Params)(os:OsState):(bs P os).abs=⟨PySem.W.boot_heap P,#[],PySem.W.boot_drawn,PySem.W.boot_toks,os⟩:=by
 unfold bs PySem.W.SharedT.abs;rw[bt_is]
def goT(p:Program)(w:World)(A:Option Value):Nat->PySem.W.SharedT->Thread->Option PySem.W.SharedT
 |0,_,_=>none
 |m+1,x,y=>match PySem.W.through y with
  |true=>some x
  |false=>match PySem.W.stepOk 11 A y with
   |false=>none
   |true=>match PySem.W.stepT (denote PySem.treeTable) p w x y with
    |none=>none
    |some (x',y')=>goT p w A m x' y'
noncomputable abbrev annB(w:World):Option Value:=(PySem.W.boot_heap w.params).nsMap mainGlobals "__annotations__"
def EndsT(p q:Program)(loose:List Str)(Xt:Shared->Bool){α:Type}(Yf:Shared->α)(Ya:World->α)(N:Nat)(w:World):Prop:=
 ∀os:OsState,(goT p w (annB w) N (bs w.params os) (PySem.W.topStub p)).map (λs=>(PySem.W.staticsOk (PySem.importedModules p.main.body) (PySem.W.boot_heap w.params) s.abs.heap && PySem.W.namesBound p s.abs.heap && PySem.W.gensDone s.abs && PySem.W.laidKept (PySem.W.boot_heap w.params) s.abs.heap,PySem.W.openSeen q loose (PySem.importedModules p.main.body) Xt true s.abs,Yf s.abs))=some (true,PySem.W.openGood q loose,Ya w)
set_option maxHeartbeats 0 in
theorem leftF:∀w:World,EndsT PySem.Challenge.pw_handflow_k45_still_is_still vw [("play":Str)] xt hkH.obs hkH.val 6976 w:=λw os=>by kernel_rfl
end K45
namespace L2
open PySem PySem.Spec PyProof.Rows
abbrev Key:=Sum Int Str
def fw:Key->Value->Bool
 |.inl k,v=>Value.isInt k v
 |.inr x,v=>Value.isStrOf x v
def yQ(w:World):Key->Int
 |.inl k=>hashInt k
 |.inr x=>hashStr w x
theorem dm:∀{k:Key}{v:Value},fw k v=true->(∃i t,k=Sum.inl i/\v=Value.int i t)\/(∃x t,k=Sum.inr x/\v=Value.str x t)
 |.inl i,v,h=>by
  obtain⟨t,e⟩:=Value.isInt_shape (k:=i) (v:=v) h;exact .inl ⟨i,t,U,e⟩
 |.inr x,v,h=>by
  obtain⟨t,e⟩:=Value.isStrOf_shape (x:=x) (v:=v) h;exact .inr ⟨x,t,U,e⟩
theorem yP(i:Int)(t:Tok):fw (.inl i) (.int i t)=true:=by simp[fw,Value.isInt]
theorem yO(x:Str)(t:Tok):fw (.inr x) (.str x t)=true:=by simp[fw,Value.isStrOf]
theorem yN(a b:Int):decide ((Sum.inl a:Key)=Sum.inl b)=(a == b):=by
 by_cases e:a=b
 ·subst e;simp
 ·have h:¬ (Sum.inl a:Key)=Sum.inl b:=λq=>e (Sum.inl.inj q);rw[Q3 h];exact(beq_eq_false_iff_ne.mpr e).symm
theorem yJ(a b:Str):decide ((Sum.inr a:Key)=Sum.inr b)=decide (a=b):=by
 by_cases e:a=b
 ·subst e;simp
 ·have h:¬ (Sum.inr a:Key)=Sum.inr b:=λq=>e (Sum.inr.inj q);rw[Q3 h,Q3 e]
theorem yM(a:Int)(b:Str):decide ((Sum.inl a:Key)=Sum.inr b)=false:=Q3 (λq=>nomatch q)
theorem yK(a:Str)(b:Int):decide ((Sum.inr a:Key)=Sum.inl b)=false:=Q3 (λq=>nomatch q)
def bV(prog:Program)(w:World):PySem.KeyKind prog w Key where
 is:=fw
 hash:=yQ w
 inj:=λv a b ha hb=>by
  rcases dm ha with⟨i,t,rfl,rfl⟩|⟨x,t,rfl,rfl⟩
  ·rcases dm hb with⟨j,u,rfl,e⟩|⟨y,u,rfl,e⟩
   ·injection e with e1 _;rw[e1]
   ·exact nomatch e
  ·rcases dm hb with⟨j,u,rfl,e⟩|⟨y,u,rfl,e⟩
   ·exact nomatch e
   ·injection e with e1 _;rw[e1]
 byValue:=λk v h=>by
  rcases dm h with⟨i,t,rfl,rfl⟩|⟨x,t,rfl,rfl⟩<;>rfl
 pyHash:=λhv h=>by
  rcases dm hv with⟨i,t,rfl,rfl⟩|⟨x,t,rfl,rfl⟩
  ·exact wpAny_pyHash_int h
  ·exact wpAny_pyHash_str h
 eqBool:=λhu hv h=>by
  rcases dm hu with⟨i,t,rfl,rfl⟩|⟨x,t,rfl,rfl⟩
  ·rcases dm hv with⟨j,u,rfl,rfl⟩|⟨y,u,rfl,rfl⟩
   ·rw[yN]at h;exact wpAny_eqBool_int h
   ·rw[yM]at h;exact SeqAt.EqAt.int_str i t y u _ _ _ _ h
  ·rcases dm hv with⟨j,u,rfl,rfl⟩|⟨y,u,rfl,rfl⟩
   ·rw[yK]at h;exact SeqAt.EqAt.str_int x t j u _ _ _ _ h
   ·rw[yJ]at h;exact wpAny_eqBool_str h
 «strs»:=λk x t v h=>by
  rcases dm h with⟨i,u,rfl,e⟩|⟨y,u,rfl,e⟩
  ·exact nomatch e
  ·injection e with e1 _;subst e1;cases v<;>rfl
theorem yh(prog:Program)(w:World)(i:Int)(t:Tok):(bV prog w).is (.inl i) (.int i t)=true:=yP i t
theorem yg(prog:Program)(w:World)(x:Str)(t:Tok):(bV prog w).is (.inr x) (.str x t)=true:=yO x t
inductive V where
 |non|bl (b:Bool)|int (i:Int)|str (x:Str)|byt (b:Array UInt8)|flt (b:UInt64)|ref (a:Addr)|ty (n:String)
 deriving DecidableEq
def aG:V->Value->Prop
 |.non,u=>u=Value.none
 |.bl b,u=>u=Value.bool b
 |.int i,u=>∃t,u=Value.int i t
 |.str x,u=>∃t,u=Value.str x t
 |.byt b,u=>∃t,u=Value.bytes b t
 |.flt b,u=>∃t,u=Value.float b t
 |.ref a,u=>u=Value.ref a
 |.ty n,u=>u=Value.type n
abbrev ar:List V->List Value->Prop:=Paired aG
theorem ar.length{xs:List V}{us:List Value}(r:ar xs us):xs.length=us.length:=Paired.length r
theorem ar.get:∀{xs:List V}{us:List Value}{i:Nat}{x:V},ar xs us->xs[i]?=some x->∃u,us[i]?=some u/\aG x u
 |_,_,_,_,.nil,e=>by simp at e
 |_,_,0,_,.cons r _,e=>by simp at e;subst e;exact⟨_,U,r⟩
 |_,_,i+1,x,.cons _ t,e=>by
  obtain⟨u,h1,h2⟩:=ar.get (i:=i) (x:=x) t (by simpa using e);exact⟨u,by simpa using h1,h2⟩
theorem ar.set{x:V}{u:Value}(r:aG x u):∀{xs:List V}{us:List Value}(i:Nat),ar xs us->ar (xs.set i x) (us.set i u)
 |_,_,_,.nil=>.nil
 |_,_,0,.cons _ t=>.cons r t
 |_,_,i+1,.cons q t=>.cons q (ar.set r i t)
theorem ar.append:∀{xs ys:List V}{us ws:List Value},ar xs us->ar ys ws->ar (xs++ys) (us++ws)
 |_,_,_,_,.nil,s=>s
 |_,_,_,_,.cons r t,s=>.cons r (ar.append t s)
theorem ar.take:∀{xs:List V}{us:List Value}(n:Nat),ar xs us->ar (xs.take n) (us.take n)
 |_,_,0,_=>.nil
 |_,_,_+1,.nil=>.nil
 |_,_,n+1,.cons r t=>.cons r (ar.take n t)
theorem ar.drop:∀{xs:List V}{us:List Value}(n:Nat),ar xs us->ar (xs.drop n) (us.drop n)
 |_,_,0,r=>r
 |_,_,_+1,.nil=>.nil
 |_,_,n+1,.cons _ t=>ar.drop n t
def bW:Option V->Option Value->Prop
 |some v,some u=>aG v u
 |none,none=>True
 |_,_=>False
def KV{κ:Type}:List (κ×V)->List (κ×Value)->Prop:=Paired λ(p:κ×V)(q:κ×Value)=>p.1=q.1/\aG p.2 q.2
def kV:Key->V
 |.inl i=>.int i
 |.inr x=>.str x
inductive HO where
 |lst (xs:List V)
 |tup (xs:List V)
 |dK (kvs:List (Key×V))|dT (kvs:List (List Key×V))
 |set (S:Int->Bool) (n:Nat)
 |ins (C dx:Addr) (fs:List (Str×V))
 |own (x:Addr)
 |xd (fs:List (Str×V))
 |met (f x:Addr)
 |rng (lo hi:Int)
 |frz (o:Obj) (u:HO)
 |tbl (ps:Array Value)
 |ext (φ:Heap->Prop)
abbrev Hp:=Addr->Option HO
def upd(H:Hp)(a:Addr)(o:HO):Hp:=λb=>if b=a then some o else H b
theorem af{H:Hp}{a:Addr}{o:HO}:upd H a o a=some o:=by unfold upd;rw[Q0 U]
theorem aj{H:Hp}{a b:Addr}{o:HO}(h:b≠a):upd H a o b=H b:=by unfold upd;rw[qZ h]
theorem cj{H:Hp}{a b:Addr}{o:HO}(h:H a=some o)(h':H b=none):a≠b:=by
 intro e;subst e;rw[h]at h';cases h'
section
variable (P:Program) (w:World)
def bP(H:Hp)(h:Heap)(a:Addr):HO->Prop
 |.lst xs=>xs.length<=sizeLine/\∃(its:List Value)(n:Nat),ar xs its/\h.get? a=some { cls:=.type "list",data:=.seq its.toArray n }
 |.tup xs=>xs.length<=sizeLine/\∃its:List Value,ar xs its/\IsTup h a its.toArray
 |.dK kvs=>kvs.length<=sizeLine/\(a == sysModules)=false/\∃vs,KV kvs vs/\h.DictOf (bV P w) a vs
 |.dT kvs=>kvs.length<=sizeLine/\(a == sysModules)=false/\∃xs:List (List Key×Addr×Value),
  Paired (λ(p:List Key×V)(q:List Key×Addr×Value)=>p.1=q.1/\H q.2.1=some (.tup (p.1.map kV))/\aG p.2 q.2.2) kvs xs /\
  ∃o es ep,h.get? a=some o/\o.ExactDict/\o.data=.dict es ep/\es.toList=xs.map (entryOfKey (tupleKind (bV P w)))/\(xs.map (·.1)).Nodup
 |.set S n=>h.SetOf (intKind P w) a S n
 |.ins C dx fs=>H dx=some (.own a)/\fs.length<=1000/\dx≠a/\h.get? a=some (PySem.W.instObj C dx) /\
  ∃mA,h.Ns1 dx mA/\(∀f,bW (fs.lookup f) (mA f))/\PySem.Within mA (fs.map (·.1))
 |.own _=>∃o,h.get? a=some o
 |.xd fs=>∃mA,h.Ns1 a mA/\∀f,bW (fs.lookup f) (mA f)
 |.rng lo hi=>∃t u v,h.get? a=some { cls:=.type "range",data:=.fields #[.int lo t,.int hi u,.int 1 v] }
 |.frz o u=>h.get? a=some o/\bP H h a u
 |.tbl ps=>h.get? a=some { cls:=.none,data:=.fields ps }
 |.met f x=>h.get? a=some (PySem.W.methodObj (.ref f) (.ref x))
 |.ext φ=>φ h/\(∃o,h.get? a=some o)/\∀h1 h2:Heap,φ h1->(∀o,h1.get? a=some o->h2.get? a=some o)->φ h2
def HOk(H:Hp)(h:Heap):Prop:=∀a o,H a=some o->bP P w H h a o
end
section
variable {P:Program}{w:World}{H H':Hp}{h h':Heap}{a:Addr}{o:HO}
theorem bP.lt(x:bP P w H h a o):a<h.objs.size:=by
 cases o with
 |lst xs=>obtain⟨_,_,_,_,e⟩:=x;exact qq e
 |tup xs=>obtain⟨_,_,_,p⟩:=x;exact p.lt
 |dK kvs=>obtain⟨_,_,_,_,o,_,_,e,_⟩:=x;exact qq e
 |dT kvs=>obtain⟨_,_,_,_,o,_,_,e,_⟩:=x;exact qq e
 |set S n=>obtain⟨o,_,_,_,e,_⟩:=x;exact qq e
 |ins C dx fs=>obtain⟨_,_,_,e,_⟩:=x;exact qq e
 |own y=>obtain⟨_,e⟩:=x;exact qq e
 |xd fs=>obtain⟨_,⟨_,_,_,e,_⟩,_⟩:=x;exact qq e
 |rng lo hi=>obtain⟨_,_,_,e⟩:=x;exact qq e
 |frz ob u=>obtain⟨e,_⟩:=x;exact qq e
 |tbl ps=>exact qq (show h.get? a=some _ from x)
 |met f y=>exact qq (show h.get? a=some _ from x)
 |ext φ=>obtain⟨_,⟨_,e⟩,_⟩:=x;exact qq e
theorem Paired.mapP{α β:Type}{F G:α->β->Prop}:∀{l₁:List α}{l₂:List β},Paired F l₁ l₂->(∀a b,F a b->G a b)->Paired G l₁ l₂
 |_,_,.nil,_=>.nil
 |_,_,.cons r t,f=>.cons (f _ _ r) (Paired.mapP t f)
theorem bP.stay(x:bP P w H h a o)(k:∀b u,(b=a\/H b=some (.own a))->h.get? b=some u->h'.get? b=some u)
 (ho:∀b,H b=some (.own a)->H' b=some (.own a)) (ht:∀b xs,H b=some (.tup xs)->H' b=some (.tup xs)):bP P w H' h' a o:=by
 induction o with
 |lst xs=>obtain⟨z,its,n,r,e⟩:=x;exact⟨z,its,n,r,k _ _ (.inl U) e⟩
 |tup xs=>obtain⟨z,its,r,ob,e,c⟩:=x;exact⟨z,its,r,ob,k _ _ (.inl U) e,c⟩
 |dK kvs=>obtain⟨z,y,vs,r,ob,es,ep,e,c⟩:=x;exact⟨z,y,vs,r,ob,es,ep,k _ _ (.inl U) e,c⟩
 |dT kvs=>
  obtain⟨z,y,xs,r,ob,es,ep,e,c⟩:=x;exact⟨z,y,xs,Paired.mapP r λp q z=>⟨z.1,ht _ _ z.2.1,z.2.2⟩,ob,es,ep,k _ _ (.inl U) e,c⟩
 |set S n=>obtain⟨ob,es,ep,t,e,c⟩:=x;exact⟨ob,es,ep,t,k _ _ (.inl U) e,c⟩
 |ins C dx fs=>
  obtain⟨d,z,ne,e,mA,⟨od,es,ep,e2,c⟩,r⟩:=x;exact⟨ho _ d,z,ne,k _ _ (.inl U) e,mA,⟨od,es,ep,k _ _ (.inr d) e2,c⟩,r⟩
 |own y=>obtain⟨ob,e⟩:=x;exact⟨ob,k _ _ (.inl U) e⟩
 |xd fs=>obtain⟨mA,⟨od,es,ep,e,c⟩,r⟩:=x;exact⟨mA,⟨od,es,ep,k _ _ (.inl U) e,c⟩,r⟩
 |rng lo hi=>obtain⟨t,u,v,e⟩:=x;exact⟨t,u,v,k _ _ (.inl U) e⟩
 |frz ob u ih=>obtain⟨e,q⟩:=x;exact⟨k _ _ (.inl U) e,ih q⟩
 |tbl ps=>
  have e:h.get? a=some { cls:=.none,data:=.fields ps }:=x;show h'.get? a=some { cls:=.none,data:=.fields ps };exact k a _ (.inl U) e
 |met f y=>
  have e:h.get? a=some (PySem.W.methodObj (.ref f) (.ref y)):=x;show h'.get? a=some (PySem.W.methodObj (.ref f) (.ref y));exact k a _ (.inl U) e
 |ext φ=>obtain⟨p,⟨o,e⟩,st⟩:=x;exact⟨st _ _ p λo q=>k _ _ (.inl U) q,⟨o,k _ _ (.inl U) e⟩,st⟩
theorem HOk.lt(x:HOk P w H h)(e:H a=some o):a<h.objs.size:=(x a o e).lt
theorem HOk.fresh(x:HOk P w H h)(e:h.objs.size<=a):H a=none:=by
 cases q:H a with
 |none=>rfl
 |some u=>exact Q4 (qD (x.lt q) e) (Qb _)
theorem HOk.kept(x:HOk P w H h)(k:∀b u,h.get? b=some u->h'.get? b=some u):HOk P w H h':=λa o e=>
 (x a o e).stay (λb u _ q=>k b u q) (λ_ q=>q) λ_ _ q=>q
theorem HOk.laid(x:HOk P w H h)(k:∀b u,h.get? b=some u->h'.get? b=some u)(hp:h.objs.size<=a)(new:bP P w (upd H a o) h' a o):HOk P w (upd H a o) h':=λb u e=>by
 have hn:=x.fresh hp;by_cases hb:b=a
 ·subst hb;rw[af]at e;cases e;exact new
 ·rw[aj hb]at e;exact(x b u e).stay (λc v _ q=>k c v q) (λc q=>by rw[aj (cj q hn)];exact q) λc xs q=>by rw[aj (cj q hn)];exact q
end
def Rd(H:Hp)(a:Addr)(u:HO):Prop:=H a=some u\/∃o,H a=some (.frz o u)
theorem Rd.of{H:Hp}{a:Addr}{u:HO}(h:H a=some u):Rd H a u:=.inl h
theorem Rd.ok{P:Program}{w:World}{H:Hp}{h:Heap}{a:Addr}{u:HO}(r:Rd H a u)(x:HOk P w H h):bP P w H h a u:=by
 rcases r with r|⟨o,r⟩
 ·exact x a u r
 ·obtain⟨_,q⟩:=x a _ r;exact q
def Mut:Option HO->Prop
 |some (.lst _)=>True
 |some (.dK _)=>True
 |some (.dT _)=>True
 |some (.set _ _)=>True
 |some (.ins _ _ _)=>True
 |some (.ext _)=>True
 |_=>False
section
variable {P:Program}{w:World}{H:Hp}{h h':Heap}{x e:Addr}{o':HO}
theorem HOk.write(ok:HOk P w H h)(mu:Mut (H x))(he:e=x\/H e=some (.own x))(k:∀b u,b≠e->h.get? b=some u->h'.get? b=some u)(heo:∃u,h'.get? e=some u)
 (new:bP P w (upd H x o') h' x o'):HOk P w (upd H x o') h':=λb u q=>by
 have nown:∀c y,H c=some (.own y)->c≠x:=λc y r z=>by subst z;rw[r]at mu;exact mu
 have ntup:∀c xs,H c=some (.tup xs)->c≠x:=λc xs r z=>by subst z;rw[r]at mu;exact mu
 by_cases hb:b=x
 ·subst hb;rw[af]at q;cases q;exact new
 ·rw[aj hb]at q;by_cases hbe:b=e
  ·have q':H b=some (.own x):=by
    rcases he with z|z
    ·exact Q4 (hbe.trans z) hb
    ·rw[hbe];exact z
   rw[q]at q';cases q';obtain⟨v,hv⟩:=heo;exact⟨v,by rw[hbe];exact hv⟩
  ·refine(ok b u q).stay (λc v hc r=>k c v ?_ r) (λc r=>by rw[aj (nown c b r)];exact r) λc xs r=>by rw[aj (ntup c xs r)];exact r
   rcases hc with rfl|hc
   ·exact hbe
   ·rintro rfl;rcases he with z|z
    ·exact nown c b hc z
    ·rw[hc]at z;cases z;exact hb U
end
structure Un(fs ex:List Addr)(H H':Hp)(h h':Heap):Prop where
 keep:∀b o,h.get? b=some o->H b=none->b∉fs->b∉ex->h'.get? b=some o
 slot:∀b o,h.get? b=some o->H b=none->b∈fs->b∉ex->∃sl,h'.get? b=some { o with slots:=sl }
 free:∀b o,h.get? b=some o->H b=none->b∉ex->H' b=none
 there:∀b o,h.get? b=some o->b∉ex->∃o',h'.get? b=some o'
 tups:∀b xs,H b=some (.tup xs)->H' b=some (.tup xs)
 frzs:∀b o u,H b=some (.frz o u)->H' b=some (.frz o u)
 tbls:∀b ps,H b=some (.tbl ps)->∃more,H' b=some (.tbl (ps++more))
section
variable {fs fs' ex ex':List Addr}{H H1 H2:Hp}{h h1 h2 h':Heap}{a x e:Addr}{o:HO}
theorem Un.any(u:Un fs ex H H1 h h1){b:Addr}{ob:Obj}(q:h.get? b=some ob)(n:H b=none)(hx:b∉ex):∃sl,h1.get? b=some { ob with slots:=sl }:=by
 by_cases hb:b∈fs
 ·exact u.slot b ob q n hb hx
 ·exact⟨ob.slots,u.keep b ob q n hb hx⟩
theorem Un.kept(k:∀b u,h.get? b=some u->h'.get? b=some u):Un fs ex H H h h':=
 ⟨λb ob q _ _ _=>k b ob q,λb ob q _ _ _=>⟨ob.slots,k b ob q⟩,λ_ _ _ n _=>n,λb ob q _=>⟨ob,k b ob q⟩,λ_ _ q=>q,λ_ _ _ q=>q,λ_ ps q=>⟨#[],by rw[q];simp⟩⟩
theorem Un.refl:Un fs ex H H h h:=Un.kept λ_ _ q=>q
theorem Un.laid(k:∀b u,h.get? b=some u->h'.get? b=some u)(hp:h.objs.size<=a)(hn:H a=none):Un fs ex H (upd H a o) h h' where
 keep:=λb u q _ _ _=>k b u q
 slot:=λb u q _ _ _=>⟨u.slots,k b u q⟩
 free:=λb u q n _=>by rw[aj (qG (qD (qq q) hp))];exact n
 there:=λb u q _=>⟨u,k b u q⟩
 tups:=λb xs q=>by rw[aj (cj q hn)];exact q
 frzs:=λb u xs q=>by rw[aj (cj q hn)];exact q
 tbls:=λb ps q=>⟨#[],by rw[aj (cj q hn),q];simp⟩
theorem Un.write(mu:Mut (H x))(he:e=x\/H e=some (.own x))(k:∀b u,b≠e->h.get? b=some u->h'.get? b=some u)(heo:∃u,h'.get? e=some u):Un fs ex H (upd H x o) h h':=by
 have hx:∀b,H b=none->b≠x:=λb n z=>by subst z;rw[n]at mu;exact mu
 have hb:∀b,H b=none->b≠e:=λb n z=>by
  subst z;rcases he with r|r
  ·exact hx b n r
  ·rw[n]at r;cases r
 have hm:∀b u,H b=some u->¬ Mut (some u)->b≠x:=λb u q nm z=>by subst z;rw[q]at mu;exact nm mu
 refine⟨λb u q n _ _=>k b u (hb b n) q,λb u q n _ _=>⟨u.slots,k b u (hb b n) q⟩,λb u q n _=>by rw[aj (hx b n)];exact n,λb u q _=>?_,
  λb xs q=>by rw[aj (hm b _ q λz=>z)];exact q,λb u xs q=>by rw[aj (hm b _ q λz=>z)];exact q,λb ps q=>⟨#[],by rw[aj (hm b _ q λz=>z),q];simp⟩⟩
 by_cases hbe:b=e
 ·subst hbe;exact heo
 ·exact⟨u,k b u hbe q⟩
end
def trk(h:Heap)(H:Hp):List Addr:=(List.range h.objs.size).filter λa=>(H a).isSome
def dI(h:Heap)(H:Hp):Heap:=PySem.W.hideAll h (trk h H)
theorem zf(h:Heap)(H:Hp):(dI h H).objs.size=h.objs.size:=PySem.W.hideAll_size _ _
theorem zh{h:Heap}{H:Hp}{b:Addr}{o:Obj}(e:h.get? b=some o)(n:H b=none):(dI h H).get? b=some o:=
 PySem.W.hideAll_get _ e λhm=>by
  have q:(H b).isSome=true:=(List.mem_filter.mp hm).2;rw[n]at q;simp at q
theorem ya{h:Heap}{H:Hp}{b:Addr}{o:Obj}(e:(dI h H).get? b=some o):h.get? b=some o/\H b=none:=by
 have e':h.get? b=some o:=PySem.W.of_hideAll (trk h H) e;refine⟨e',?_⟩
 cases q:H b with
 |none=>rfl
 |some x=>
  have hm:b∈trk h H:=List.mem_filter.mpr ⟨List.mem_range.mpr (qq e'),by simp[q]⟩;have z:(dI h H).get? b=none:=PySem.W.hideAll_none (trk h H) hm;rw[z]at e;cases e
structure Mod(K:W.Frag)(mg:Str->Option Value)(base:Heap):Prop where
 kin:K.In base
 glob:base.Ns mainGlobals mg
 blt:∃mb,base.Ns builtinsNs mb/\∀x:Str,x≠"__name__"->mb x=bootBuiltins x
 nolimit:base.NoLimit
structure Cx where
 prog:Program
 w:World
 K:W.Frag
 mg:Str->Option Value
 base:Heap
 A:Around
 N:List Str
 s₀:Shared
 H₀:Hp
 env:Env
 outer:List Env
 stack:List Env
 ex:List Addr
 fn:Str->Bool
 calm:Bool
 pn:List (Addr×Obj)
 xe:Value->Shared->Prop
def frs(l:List Env):List Addr:=l.filterMap (·.frame)
abbrev Cx.fs(X:Cx):List Addr:=frs X.outer
def Vis(sc:Scope)(x:Str):Prop:=sc.names.lookup x=some .local\/sc.names.lookup x=some .cell\/sc.names.lookup x=some .free
def Loc(sc:Scope)(x:Str):Prop:=sc.names.lookup x=some .local\/sc.names.lookup x=some .cell
def Ag(env:Env)(h:Heap)(m:Str->Option Value)(x:Str)(u:Value):Prop:=
 (env.kindOf x=some .local/\m x=some u)\/((env.kindOf x=some .cell\/env.kindOf x=some .free)/\∃c,env.cells.lookup x=some c/\h.IsCell c (some u))
structure Cx.Ok(X:Cx):Prop where
 mod:Mod X.K X.mg X.base
 kind:X.env.scope.kind=.function
 glob:X.env.globals=mainGlobals
 blt:X.env.builtins=builtinsNs
 above:X.s₀.heap.objs.size<=X.env.locals
 inj:∀x y c,X.env.cells.lookup x=some c->X.env.cells.lookup y=some c->x=y
 has:∀x,(X.env.kindOf x=some .cell\/X.env.kindOf x=some .free)->∃c,X.env.cells.lookup x=some c
 cab:∀x c,X.fn x=true->X.env.cells.lookup x=some c->X.s₀.heap.objs.size<=c
 hd:X.calm=true->X.A.handled=none
 frames:X.A.frames=some X.stack
 stk:X.stack=X.outer\/(X.stack=X.env::X.outer/\X.env.frame=some X.env.locals)
 exf:∀b∈X.ex,b≠X.env.locals/\∀x c,X.env.cells.lookup x=some c->c≠b
 bs:∀b o,X.base.get? b=some o->X.s₀.heap.get? b=some o/\X.H₀ b=none
 bsz:X.base.objs.size<=X.s₀.heap.objs.size
 noex:∀b o,X.base.get? b=some o->b∉X.ex
 exfs:∀b∈X.ex,b∉X.fs
 funs:X.s₀.heap.FunFrames X.base X.outer
 frf:∀b∈X.fs,X.H₀ b=none
structure Inv(X:Cx)(pins:List (Addr×Obj))(σ:List (Option V))(H:Hp)(s:Shared):Prop where
 ok:X.Ok
 os:s.os=X.s₀.os
 bare:AllBare s.gens
 base:Un X.fs X.ex X.H₀ H X.s₀.heap s.heap
 loc:∃m,s.heap.Ns X.env.locals m/\∀(i:Nat)(x:Str)(v:V),X.N[i]?=some x->σ[i]?=some (some v)->Vis X.env.scope x->∃u,aG v u/\Ag X.env s.heap m x u
 cell:∀x c,X.env.cells.lookup x=some c->∃v,s.heap.IsCell c v
 free:H X.env.locals=none
 freeC:∀x c,X.env.cells.lookup x=some c->H c=none
 pin:∀p∈X.pn++pins,s.heap.get? p.1=some p.2/\H p.1=none/\p.1≠X.env.locals/\p.1∉X.fs/\∀v,p.2.data≠.cell v
 hok:HOk X.prog X.w H s.heap
 len:σ.length=X.N.length
section
variable {X:Cx}{pins:List (Addr×Obj)}{σ:List (Option V)}{H H':Hp}{s:Shared}{h':Heap}
theorem Cx.Ok.nofr(ok:X.Ok){b:Addr}{o:Obj}(e:X.base.get? b=some o):b∉X.fs:=λhb=>by
 have:=(ok.funs.mem hb).1;rw[e]at this;cases this
theorem Inv.bs(I:Inv X pins σ H s):∀b o,X.base.get? b=some o->s.heap.get? b=some o/\H b=none:=λb o e=>
 ⟨I.base.keep b o (I.ok.bs b o e).1 (I.ok.bs b o e).2 (I.ok.nofr e) (I.ok.noex b o e),I.base.free b o (I.ok.bs b o e).1 (I.ok.bs b o e).2 (I.ok.noex b o e)⟩
theorem Inv.bk(I:Inv X pins σ H s):∀b o,X.base.get? b=some o->s.heap.get? b=some o:=λb o e=>(I.bs b o e).1
theorem Inv.mod(I:Inv X pins σ H s):Mod X.K X.mg X.base:=I.ok.mod
theorem Inv.kIn(I:Inv X pins σ H s):X.K.In s.heap:=I.ok.mod.kin.keeps I.bk
theorem Inv.lt(I:Inv X pins σ H s):X.env.locals<s.heap.objs.size:=let ⟨_,hn,_⟩:=I.loc;hn.lt
theorem Inv.sz(I:Inv X pins σ H s):X.s₀.heap.objs.size<=s.heap.objs.size:=qy I.ok.above (Nat.le_of_lt I.lt)
theorem Inv.nofs(I:Inv X pins σ H s){a:Addr}(h:s.heap.objs.size<=a):a∉X.fs:=λhb=>by
 obtain⟨_,o,ho,_⟩:=I.ok.funs.mem hb;exact Q4 (qD (qq ho) (qy I.sz h)) (Qb _)
theorem Inv.cne(I:Inv X pins σ H s):∀x c,X.env.cells.lookup x=some c->c≠X.env.locals:=λx c e z=>by
 obtain⟨v,o,ho,hd⟩:=I.cell x c e;obtain⟨m,⟨o',es,ep,ho',hd',_⟩,_⟩:=I.loc;rw[z,ho']at ho;cases ho;rw[hd']at hd;cases hd
theorem Inv.funs(I:Inv X pins σ H s):s.heap.FunFrames X.base X.outer:=by
 have all:∀(l:List Env),(∀b∈frs l,b∈X.fs)->X.s₀.heap.FunFrames X.base l->s.heap.FunFrames X.base l:=by
  intro l
  induction l with
  |nil=>intro _ _;trivial
  |cons env r ih=>
   intro hs hl;obtain⟨hk,⟨L,o,hf,hn,ho,hd⟩,hr⟩:=hl;have hL:L∈X.fs:=hs L (by unfold frs;rw[List.filterMap_cons,hf];exact qm);obtain⟨sl,e⟩:=I.base.slot L o ho (I.ok.frf L hL) hL λz=>I.ok.exfs L z hL;exact⟨hk,⟨L,_,hf,hn,e,hd⟩,ih (λb hb=>hs b (by unfold frs;rw[List.filterMap_cons,hf];exact qk _ hb)) hr⟩
 exact all X.outer (λ_ hb=>hb) I.ok.funs
theorem Inv.stack(I:Inv X pins σ H s):s.heap.FunFrames X.base X.stack:=by
 rcases I.ok.stk with e|⟨e,hf⟩
 ·rw[e];exact I.funs
 ·rw[e];obtain⟨m,hn,_⟩:=I.loc;refine .cons (by rw[I.ok.kind];decide) hf hn ?_ I.funs;exact Heap.get?_none_of_le (qy I.ok.bsz I.ok.above)
theorem Inv.stkSub(I:Inv X pins σ H s):∀b∈frs X.stack,b∈X.env.locals::X.fs:=λb hb=>by
 rcases I.ok.stk with e|⟨e,hf⟩
 ·rw[e]at hb;exact qk _ hb
 ·rw[e]at hb;unfold frs at hb;rw[List.filterMap_cons,hf]at hb;exact hb
theorem Inv.stkFree(I:Inv X pins σ H s):∀b∈frs X.stack,H b=none:=λb hb=>by
 rcases qu.mp (I.stkSub b hb)with e|hb
 ·rw[e];exact I.free
 ·obtain⟨_,o,ho,_⟩:=I.ok.funs.mem hb;exact I.base.free b o ho (I.ok.frf b hb) λz=>I.ok.exfs b z hb
theorem Inv.step{g':Array GenState}{t':Nat}{d':Drawn}{ch:List Addr}(I:Inv X pins σ H s)
 (hch:∀b∈ch,(b∈X.ex\/X.s₀.heap.objs.size<=b)/\b≠X.env.locals/\(∀x c,X.env.cells.lookup x=some c->c≠b)/\∀p∈X.pn++pins,p.1≠b)
 (keep:∀b o,b≠X.env.locals->b∉X.fs->b∉ch->s.heap.get? b=some o->H b=none->h'.get? b=some o)
 (slot:∀b o,b≠X.env.locals->b∈X.fs->b∉ch->s.heap.get? b=some o->H b=none->∃sl,h'.get? b=some { o with slots:=sl }) (free:∀b o,b∉ch->s.heap.get? b=some o->H b=none->H' b=none)
 (there:∀b o,b∉ch->s.heap.get? b=some o->∃o',h'.get? b=some o')
 (tups:∀b xs,H b=some (.tup xs)->H' b=some (.tup xs)) (frzs:∀b o u,H b=some (.frz o u)->H' b=some (.frz o u)) (tbls:∀b ps,H b=some (.tbl ps)->∃more,H' b=some (.tbl (ps++more)))
 (ns:∀m,s.heap.Ns X.env.locals m->h'.Ns X.env.locals m) (hok:HOk X.prog X.w H' h') (hg:AllBare g'):
 Inv X pins σ H' { s with heap:=h',gens:=g',drawn:=d',toks:=t' }:=by
 have neL:∀b o,X.s₀.heap.get? b=some o->b≠X.env.locals:=λb o e=>qG (qD (qq e) I.ok.above)
 have neC:∀b o,X.s₀.heap.get? b=some o->b∉X.ex->b∉ch:=λb o e hx hb=>by
  rcases(hch b hb).1 with z|z
  ·exact hx z
  ·exact Q4 (qD (qq e) z) (Qb _)
 have cellK:∀x c,X.env.cells.lookup x=some c->∀v,s.heap.IsCell c v->h'.IsCell c v:=λx c e v ⟨o,ho,hd⟩=>by
  have nch:c∉ch:=λz=>(hch c z).2.2.1 x c e U;by_cases hc:c∈X.fs
  ·obtain⟨sl,q⟩:=slot c o (I.cne x c e) hc nch ho (I.freeC x c e);exact⟨_,q,hd⟩
  ·exact⟨o,keep c o (I.cne x c e) hc nch ho (I.freeC x c e),hd⟩
 refine⟨I.ok,I.os,hg,⟨λb o e n hb hx=>?_,λb o e n hb hx=>?_,λb o e n hx=>?_,λb o e hx=>?_,λb xs e=>tups b xs (I.base.tups b xs e),λb o xs e=>frzs b o xs (I.base.frzs b o xs e),λb ps e=>?_⟩,?_,λx c e=>?_,?_,λx c e=>?_,λp hp=>?_,hok,I.len⟩
 ·exact keep b o (neL b o e) hb (neC b o e hx) (I.base.keep b o e n hb hx) (I.base.free b o e n hx)
 ·obtain⟨sl,e1⟩:=I.base.slot b o e n hb hx;obtain⟨sl',e2⟩:=slot b _ (neL b o e) hb (neC b o e hx) e1 (I.base.free b o e n hx);exact⟨sl',e2⟩
 ·obtain⟨o',e1⟩:=I.base.there b o e hx;exact free b o' (neC b o e hx) e1 (I.base.free b o e n hx)
 ·obtain⟨o',e1⟩:=I.base.there b o e hx;exact there b o' (neC b o e hx) e1
 ·obtain⟨m1,e1⟩:=I.base.tbls b ps e;obtain⟨m2,e2⟩:=tbls b _ e1;exact⟨m1++m2,by rw[e2,Array.append_assoc]⟩
 ·obtain⟨m,hn,hl⟩:=I.loc;refine⟨m,ns m hn,λi x v e1 e2 e3=>?_⟩;obtain⟨u,r,l⟩:=hl i x v e1 e2 e3;refine⟨u,r,?_⟩;rcases l with l|⟨k,c,e,z⟩
  ·exact .inl l
  ·exact .inr ⟨k,c,e,cellK x c e _ z⟩
 ·obtain⟨v,z⟩:=I.cell x c e;exact⟨v,cellK x c e v z⟩
 ·obtain⟨m,⟨o,_,_,ho,_⟩,_⟩:=I.loc;exact free _ o (λz=>(hch _ z).2.1 U) ho I.free
 ·obtain⟨v,o,ho,hd⟩:=I.cell x c e;exact free c o (λz=>(hch c z).2.2.1 x c e U) ho (I.freeC x c e)
 ·obtain⟨e,n,ne,nf,d⟩:=I.pin p hp;have nch:p.1∉ch:=λz=>(hch p.1 z).2.2.2 p hp U;exact⟨keep p.1 p.2 ne nf nch e n,free p.1 p.2 nch e n,ne,nf,d⟩
theorem Inv.un{t':Nat}(I:Inv X pins σ H s)(u:Un X.fs [] H H' s.heap h')(hok:HOk X.prog X.w H' h'):Inv X pins σ H' { s with heap:=h',toks:=t' }:=by
 obtain⟨m,⟨o,es,ep,ho,r⟩,_⟩:=id I.loc;obtain⟨sl,hL⟩:=u.any ho I.free (by simp)
 exact I.step (g':=s.gens) (d':=s.drawn) (ch:=[]) (λ_ z=>nomatch z) (λb o _ hb _ e n=>u.keep b o e n hb (by simp)) (λb o _ hb _ e n=>u.slot b o e n hb (by simp)) (λb o _ e n=>u.free b o e n (by simp)) (λb o _ e=>u.there b o e (by simp)) u.tups u.frzs u.tbls (λm' hm=>by
  obtain⟨o',es',ep',ho',r'⟩:=hm;rw[ho]at ho';cases ho'
  exact⟨_,es',ep',hL,r'⟩) hok I.bare
theorem Inv.call{g':Array GenState}{t':Nat}{d':Drawn}{ch:List Addr}(I:Inv X pins σ H s)(u:Un (frs X.stack) ch H H' s.heap h')(hok:HOk X.prog X.w H' h')(hg:AllBare g')
 (hch:∀b∈ch,(b∈X.ex\/X.s₀.heap.objs.size<=b)/\b≠X.env.locals/\(∀x c,X.env.cells.lookup x=some c->c≠b)/\∀p∈X.pn++pins,p.1≠b):
 Inv X pins σ H' { s with heap:=h',gens:=g',drawn:=d',toks:=t' }:=by
 obtain⟨m,⟨o,es,ep,ho,r⟩,_⟩:=id I.loc;obtain⟨sl,hL⟩:=u.any ho I.free λz=>(hch _ z).2.1 U
 exact I.step (ch:=ch) hch (λb o hL hb hc e n=>u.keep b o e n (λz=>(qu.mp (I.stkSub b z)).elim hL hb) hc) (λb o _ _ hc e n=>u.any e n hc) (λb o hc e n=>u.free b o e n hc) (λb o hc e=>u.there b o e hc) u.tups u.frzs u.tbls (λm' hm=>by
  obtain⟨o',es',ep',ho',r'⟩:=hm;rw[ho]at ho';cases ho'
  exact⟨_,es',ep',hL,r'⟩) hok hg
theorem Inv.turned{t':Nat}{it:Addr}(I:Inv X pins σ H s)(k:∀b o,b≠it->s.heap.get? b=some o->h'.get? b=some o)(hn:H it=none)(hL:it≠X.env.locals)
 (h1:it∈X.ex\/X.s₀.heap.objs.size<=it) (h2:∀x c,X.env.cells.lookup x=some c->c≠it) (h3:∀p∈X.pn++pins,p.1≠it):Inv X pins σ H { s with heap:=h',toks:=t' }:=by
 have nit:∀b u,H b=some u->b≠it:=λb u e z=>by rw[z,hn]at e;cases e
 refine I.step (g':=s.gens) (d':=s.drawn) (ch:=[it]) (λb hb=>?_) (λb o _ _ hc e _=>k b o (λz=>hc (by simp[z])) e) (λb o _ _ hc e _=>⟨o.slots,k b o (λz=>hc (by simp[z])) e⟩) (λ_ _ _ _ n=>n)
  (λb o hc e=>⟨o,k b o (λz=>hc (by simp[z])) e⟩) (λ_ _ e=>e) (λ_ _ _ e=>e) (λb ps e=>⟨#[],by rw[e];simp⟩) (λm hm=>?_) (λb u e=>?_) I.bare
 ·have e:b=it:=by simpa using hb
  subst e;exact⟨h1,hL,h2,h3⟩
 ·obtain⟨o,es,ep,ho,r⟩:=hm;exact⟨o,es,ep,k _ o (Ne.symm hL) ho,r⟩
 ·refine(I.hok b u e).stay (λc v hc q=>k c v ?_ q) (λ_ q=>q) λ_ _ q=>q;rcases hc with z|z
  ·rw[z];exact nit b u e
  ·exact nit c _ z
theorem Inv.tok(I:Inv X pins σ H s)(t:Nat):Inv X pins σ H { s with toks:=t }:=I.un (h':=s.heap) (t':=t) Un.refl I.hok
theorem Inv.kept{t':Nat}(I:Inv X pins σ H s)(k:∀b u,s.heap.get? b=some u->h'.get? b=some u):Inv X pins σ H { s with heap:=h',toks:=t' }:=I.un (Un.kept k) (I.hok.kept k)
theorem Inv.laid{a:Addr}{o:HO}{t':Nat}(I:Inv X pins σ H s)(k:∀b u,s.heap.get? b=some u->h'.get? b=some u)(hp:s.heap.objs.size<=a)(new:bP X.prog X.w (upd H a o) h' a o):
 Inv X pins σ (upd H a o) { s with heap:=h',toks:=t' }:=I.un (Un.laid k hp (I.hok.fresh hp)) (I.hok.laid k hp new)
theorem Inv.write{x e:Addr}{o:HO}{t':Nat}(I:Inv X pins σ H s)(mu:Mut (H x))(he:e=x\/H e=some (.own x))(k:∀b u,b≠e->s.heap.get? b=some u->h'.get? b=some u)(heo:∃u,h'.get? e=some u)
 (new:bP X.prog X.w (upd H x o) h' x o):Inv X pins σ (upd H x o) { s with heap:=h',toks:=t' }:=I.un (Un.write mu he k heo) (I.hok.write mu he k heo new)
theorem Inv.pins_of{pins':List (Addr×Obj)}(I:Inv X pins σ H s)(h:∀p∈pins',s.heap.get? p.1=some p.2/\H p.1=none/\p.1≠X.env.locals/\p.1∉X.fs/\∀v,p.2.data≠.cell v):Inv X pins' σ H s:=
 ⟨I.ok,I.os,I.bare,I.base,I.loc,I.cell,I.free,I.freeC,λp hp=>(qh.mp hp).elim (λz=>I.pin p (qV _ z)) (h p),I.hok,I.len⟩
theorem pU{N:List Str}(hN:N.Nodup){i j:Nat}{x:Str}(a:N[i]?=some x)(b:N[j]?=some x):i=j:=by
 obtain⟨h1,e1⟩:=qf.mp a;obtain⟨h2,e2⟩:=qf.mp b;exact(List.getElem_inj hN).mp (e1.trans e2.symm)
theorem mL{M:Model}{A:Around}{E:Yd}{i:Nat}{x:Str}{v:V}{u:Value}{Q:Unit->Shared->Prop}(I:Inv X pins σ H s)(hN:X.N.Nodup)(hi:X.N[i]?=some x)(hx:Loc X.env.scope x)(r:aG v u)
 (h:∀s',Inv X pins (σ.set i (some v)) H s'->(∃a,Heap.SameBut a s.heap s'.heap/\(a=X.env.locals\/X.env.cells.lookup x=some a))->Q () s') (hf:X.fn x=true\/X.env.scope.names.lookup x=some .local:=by first|exact .inl U|exact .inr U|assumption):wpAny M A (storeName X.env x u) Q E s:=by
 obtain⟨m,hn,hl⟩:=id I.loc;have hcls:(X.env.scope.kind == .class || (X.env.scope.kind == .module && X.env.locals != X.env.globals))=false:=by rw[I.ok.kind];rfl
 have hiσ:i<σ.length:=by rw[I.len];exact(qf.mp hi).1
 have cne:=I.cne
 have tracked:∀{a:Addr}{h':Heap},(∃o,s.heap.get? a=some o/\H a=none)->Heap.SameBut a s.heap h'->HOk X.prog X.w H h':=λ{a h'} ha hs b ob e=>by
  obtain⟨_,_,hfree⟩:=ha;refine(I.hok b ob e).stay (λc w' hc q=>(hs.2 c ?_).trans q) (λ_ q=>q) λ_ _ q=>q;rintro rfl;rcases hc with rfl|hc
  ·rw[hfree]at e;cases e
  ·rw[hfree]at hc;cases hc
 rcases hx with hk|hk
 ·refine wpAny_storeName_local hk hn (λh' hn' hs=>?_) hcls;obtain⟨oL,_,_,hoL,_⟩:=id hn;refine h _ ⟨I.ok,I.os,I.bare,⟨λb o e n hb hx=>?_,λb o e n hb hx=>?_,I.base.free,λb o e hx=>?_,I.base.tups,I.base.frzs,I.base.tbls⟩,⟨_,hn',λj y v' e1 e2 e3=>?_⟩,λy c e=>?_,I.free,I.freeC,λp hp=>?_,tracked ⟨oL,hoL,I.free⟩ hs,by simpa using I.len⟩ ⟨_,hs,.inl U⟩
  ·exact(hs.2 b (qG (qD (qq e) I.ok.above))).trans (I.base.keep b o e n hb hx)
  ·obtain⟨sl,e1⟩:=I.base.slot b o e n hb hx;exact⟨sl,(hs.2 b (qG (qD (qq e) I.ok.above))).trans e1⟩
  ·obtain⟨o',e1⟩:=I.base.there b o e hx;exact⟨o',(hs.2 b (qG (qD (qq e) I.ok.above))).trans e1⟩
  ·by_cases hj:j=i
   ·subst hj;rw[hi]at e1;cases e1;rw[List.getElem?_set_self hiσ]at e2;cases e2;exact⟨u,r,.inl ⟨hk,by simp⟩⟩
   ·rw[List.getElem?_set_ne (Ne.symm hj)]at e2;obtain⟨u',r',q⟩:=hl j y v' e1 e2 e3;refine⟨u',r',?_⟩;rcases q with⟨k,e⟩|⟨k,c,e,z⟩
    ·refine .inl ⟨k,?_⟩;have:y≠x:=λe=>hj (pU hN e1 (e▸hi));simp[this,e]
    ·exact .inr ⟨k,c,e,z.sameBut hs (cne y c e)⟩
  ·obtain⟨w',z⟩:=I.cell y c e;exact⟨w',z.sameBut hs (cne y c e)⟩
  ·obtain⟨e,n,ne,nf,d⟩:=I.pin p hp;exact⟨(hs.2 p.1 ne).trans e,n,ne,nf,d⟩
 ·have hfn:X.fn x=true:=by
   rcases hf with z|z
   ·exact z
   ·rw[z]at hk;cases hk
  obtain⟨c,hc⟩:=I.ok.has x (.inl hk);obtain⟨w',z⟩:=I.cell x c hc;refine wpAny_storeName_cell I.ok.kind hk hc z (λh' hc' hs=>?_);obtain⟨oc,hoc,hocd⟩:=id z;refine h { s with heap:=h' } ⟨I.ok,I.os,I.bare,⟨λb o e n hb hx=>?_,λb o e n hb hx=>?_,I.base.free,λb o e hx=>?_,I.base.tups,I.base.frzs,I.base.tbls⟩,⟨m,hn.sameBut hs (Ne.symm (cne x c hc)),λj y v' e1 e2 e3=>?_⟩,λy c' e=>?_,I.free,I.freeC,λp hp=>?_,tracked ⟨oc,hoc,I.freeC x c hc⟩ hs,by simpa using I.len⟩ ⟨c,hs,.inr hc⟩
  ·exact(hs.2 b (qG (qD (qq e) (I.ok.cab x c hfn hc)))).trans (I.base.keep b o e n hb hx)
  ·obtain⟨sl,e1⟩:=I.base.slot b o e n hb hx;exact⟨sl,(hs.2 b (qG (qD (qq e) (I.ok.cab x c hfn hc)))).trans e1⟩
  ·obtain⟨o',e1⟩:=I.base.there b o e hx;exact⟨o',(hs.2 b (qG (qD (qq e) (I.ok.cab x c hfn hc)))).trans e1⟩
  ·by_cases hj:j=i
   ·subst hj;rw[hi]at e1;cases e1;rw[List.getElem?_set_self hiσ]at e2;cases e2;exact⟨u,r,.inr ⟨.inl hk,c,hc,hc'⟩⟩
   ·rw[List.getElem?_set_ne (Ne.symm hj)]at e2;obtain⟨u',r',q⟩:=hl j y v' e1 e2 e3;refine⟨u',r',?_⟩;rcases q with q|⟨k,c',e,z'⟩
    ·exact .inl q
    ·refine .inr ⟨k,c',e,z'.sameBut hs ?_⟩;rintro rfl;exact hj (pU hN e1 (I.ok.inj _ _ _ e hc▸hi))
  ·by_cases hcc:c'=c
   ·subst hcc;exact⟨_,hc'⟩
   ·obtain⟨w2,z2⟩:=I.cell y c' e;exact⟨w2,z2.sameBut hs hcc⟩
  ·obtain⟨e,n,ne,nf,d⟩:=I.pin p hp;refine⟨(hs.2 p.1 ?_).trans e,n,ne,nf,d⟩;intro q;rw[q,hoc]at e;have q':oc=p.2:=qJ e;exact d w' (by rw[<- q'];exact hocd)
theorem mN{M:Model}{A:Around}{E:Yd}{i:Nat}{x:Str}{v:V}{u:Value}{Q:Unit->Shared->Prop}(I:Inv X pins σ H s)(hN:X.N.Nodup)(hi:X.N[i]?=some x)(hx:Loc X.env.scope x)(r:aG v u)
 (h:∀s',Inv X pins (σ.set i (some v)) H s'->Q () s') (hf:X.fn x=true\/X.env.scope.names.lookup x=some .local:=by first|exact .inl U|exact .inr U|assumption):wpAny M A (storeName X.env x u) Q E s:=
 mL I hN hi hx r (λs' I' _=>h s' I') hf
theorem Inv.call'{s':Shared}{ch:List Addr}(I:Inv X pins σ H s)(ho:s'.os=s.os)(u:Un (frs X.stack) ch H H' s.heap s'.heap)(hok:HOk X.prog X.w H' s'.heap)(hg:AllBare s'.gens)
 (hch:∀b∈ch,(b∈X.ex\/X.s₀.heap.objs.size<=b)/\b≠X.env.locals/\(∀x c,X.env.cells.lookup x=some c->c≠b)/\∀p∈X.pn++pins,p.1≠b):Inv X pins σ H' s':=by
 obtain⟨h',g',d',t',o'⟩:=s';have e:o'=s.os:=ho;subst e;exact I.call (g':=g') (t':=t') (d':=d') u hok hg hch
end
abbrev XK:=Value->Option Addr->Hp->Prop
abbrev St:=List (Option V)
abbrev VK:=V->Hp->Prop
abbrev TE:=St->Hp->VK->Prop
abbrev TT:=St->Hp->(Bool->Hp->Prop)->Prop
abbrev TA:=St->Hp->(List V->Hp->Prop)->Prop
structure dD where
 nx:St->Hp->Prop
 rt:VK
 bk:St->Hp->Prop:=λ_ _=>False
 ct:St->Hp->Prop:=λ_ _=>False
abbrev TS:=dD->St->Hp->Prop
def EP(X:Cx)(pins:List (Addr×Obj))(σ:St)(Q:VK)(u:Value)(s':Shared):Prop:=∃v H',Inv X pins σ H' s'/\aG v u/\Q v H'
def TP(X:Cx)(pins:List (Addr×Obj))(σ:St)(Q:Bool->Hp->Prop)(b:Bool)(s':Shared):Prop:=∃H',Inv X pins σ H' s'/\Q b H'
def AP(X:Cx)(pins:List (Addr×Obj))(σ:St)(Q:List V->Hp->Prop)(us:List Value)(s':Shared):Prop:=∃vs H',Inv X pins σ H' s'/\ar vs us/\Q vs H'
def SP(X:Cx)(pins:List (Addr×Obj))(D:dD)(f:Flow)(s':Shared):Prop:=
 match f with
 |.next=>∃σ' H',Inv X pins σ' H' s'/\D.nx σ' H'
 |.brk=>∃σ' H',Inv X pins σ' H' s'/\D.bk σ' H'
 |.cont=>∃σ' H',Inv X pins σ' H' s'/\D.ct σ' H'
 |.ret u=>∃v σ' H',Inv X pins σ' H' s'/\aG v u/\D.rt v H'
def PE(X:Cx)(e:Expr)(t:TE):Prop:=
 ∀(pins:List (Addr×Obj))(s:Shared)(σ:St)(H:Hp)(Q:VK),Inv X pins σ H s->t σ H Q->wpAny (model X.prog X.w) X.A (eval e X.env) (EP X pins σ Q) X.xe s
def PT(X:Cx)(e:Expr)(t:TT):Prop:=
 ∀(pins:List (Addr×Obj))(s:Shared)(σ:St)(H:Hp)(Q:Bool->Hp->Prop),Inv X pins σ H s->t σ H Q->wpAny (model X.prog X.w) X.A (isTrue e X.env (eval e X.env)) (TP X pins σ Q) X.xe s
def PW(X:Cx)(e:Expr)(t:TT):Prop:=
 ∀(whole:Sem Value)(pins:List (Addr×Obj))(s:Shared)(σ:St)(H:Hp)(Q:Bool->Hp->Prop),Inv X pins σ H s->t σ H Q->wpAny (model X.prog X.w) X.A (isTrue e X.env whole) (TP X pins σ Q) X.xe s
theorem PW.pt{X:Cx}{e:Expr}{t:TT}(h:PW X e t):PT X e t:=h _
def PA(X:Cx)(es:List Expr)(t:TA):Prop:=
 ∀(pos:Pos)(pins:List (Addr×Obj))(s:Shared)(σ:St)(H:Hp)(Q:List V->Hp->Prop),Inv X pins σ H s->t σ H Q->wpAny (model X.prog X.w) X.A (spliced (backTo pos (starEach es X.env))) (AP X pins σ Q) X.xe s
def PS(X:Cx)(st:Stmt)(t:TS):Prop:=
 ∀(pins:List (Addr×Obj))(s:Shared)(σ:St)(H:Hp)(D:dD),Inv X pins σ H s->t D σ H->wpAny (model X.prog X.w) X.A (exec st X.env) (SP X pins D) X.xe s
def PSs(X:Cx)(st:List Stmt)(t:TS):Prop:=
 ∀(pins:List (Addr×Obj))(s:Shared)(σ:St)(H:Hp)(D:dD),Inv X pins σ H s->t D σ H->wpAny (model X.prog X.w) X.A (execs st X.env) (SP X pins D) X.xe s
theorem thn{α:Type}{t:Sem α}{Q Q':α->Shared->Prop}{M:Model}{A:Around}{E:Yd}{s:Shared}(h:wpAny M A t Q E s)(hQ:∀a s,Q a s->Q' a s):wpAny M A t Q' E s:=wpAny_mono h hQ λ_ _ x=>x
section
variable {X:Cx}
theorem bin{a b:Expr}{ta tb:TE}(ha:PE X a ta)(hb:PE X b tb){pins:List (Addr×Obj)}{s:Shared}{σ:St}{H:Hp}{R:V->V->Hp->Prop}(I:Inv X pins σ H s)(h:ta σ H λx H1=>tb σ H1 λy H2=>R x y H2)
 {α:Type}{Q:α->Shared->Prop}{f:Value->Value->Sem α}
 (hf:∀v u s2 x y H2,Inv X pins σ H2 s2->aG x v->aG y u->R x y H2->wpAny (model X.prog X.w) X.A (f v u) Q X.xe s2):
 wpAny (model X.prog X.w) X.A (eval a X.env) (λv s₁=>wpAny (model X.prog X.w) X.A (eval b X.env) (λu s₂=>wpAny (model X.prog X.w) X.A (f v u) Q X.xe s₂) X.xe s₁) X.xe s:=by
 refine thn (ha pins s σ H _ I h) λv s1 ⟨x,H1,I1,r1,q1⟩=>?_;refine thn (hb pins s1 σ H1 _ I1 q1) λu s2 ⟨y,H2,I2,r2,q2⟩=>?_;exact hf v u s2 x y H2 I2 r1 r2 q2
def mF(i:Nat):TE:=λσ H Q=>∃v,σ[i]?=some (some v)/\Q v H
def tC(v:V):TE:=λ_ H Q=>Q v H
theorem wg{i:Nat}{x:Str}{pos:Pos}(hN:X.N[i]?=some x)(hv:Vis X.env.scope x)(hd:(x == ("__debug__":Str))=false:=by decide)(hcd:(x == ("__classdict__":Str))=false:=by decide):PE X (.Name x pos) (mF i):=by
 intro pins s σ H Q I h;obtain⟨v,e,h⟩:=h;obtain⟨m,hn,hl⟩:=I.loc;obtain⟨u,r,l⟩:=hl i x v hN e hv;have fin:EP X pins σ Q u s:=⟨v,H,I,r,h⟩;rcases l with⟨hk,hm⟩|⟨hk,c,hc,hcell⟩
 ·exact wpAny_Name (wpAny_loadName_local I.ok.kind hk hn hm fin) hd
 ·rcases hk with hk|hk
  ·exact wpAny_Name (wpAny_loadName_cell I.ok.kind hk hc hcell fin) hd
  ·exact wpAny_Name (wpAny_loadName_free I.ok.kind hk hc hcell fin hcd) hd
theorem ac{i j pos}:PE X (.Constant (.int i) j pos) (tC (.int i)):=λ_ _ _ H _ I h=>wpAny_Constant_int ⟨.int i,H,I.tok _,⟨_,U⟩,h⟩
theorem bU{b j pos}:PE X (.Constant (.bool b) j pos) (tC (.bl b)):=λ_ _ _ H _ I h=>Constant_bool ⟨.bl b,H,I,U,h⟩
theorem cS{j pos}:PE X (.Constant .none j pos) (tC .non):=λ_ _ _ H _ I h=>Constant_none ⟨.non,H,I,U,h⟩
theorem bo{x j pos}:PE X (.Constant (.str x) j pos) (tC (.str x)):=λ_ _ _ H _ I h=>Calls.Constant_str ⟨.str x,H,I.tok _,⟨_,U⟩,h⟩
def Gl(X:Cx)(x:Str):Prop:=X.env.kindOf x=some .globalImplicit
theorem iC{E:Yd}{pins:List (Addr×Obj)}{s:Shared}{σ:St}{H:Hp}{x:Str}{u:Value}{pos:Pos}{Q:Yd}(I:Inv X pins σ H s)(hg:Gl X x)(hm:X.mg x=some u)(h:Q u s)
 (hd:(x == ("__debug__":Str))=false:=by decide):wpAny (model X.prog X.w) X.A (eval (.Name x pos) X.env) Q E s:=
 Calls.Name_function_global I.ok.kind hg (Calls.loadGlobal_global (by rw[I.ok.glob];exact I.mod.glob.keeps I.bk) hm h) hd
theorem dk{E:Yd}{pins:List (Addr×Obj)}{s:Shared}{σ:St}{H:Hp}{x:Str}{u:Value}{pos:Pos}{Q:Yd}(I:Inv X pins σ H s)(hg:Gl X x)(hm:X.mg x=none)(hv:bootBuiltins x=some u)(h:Q u s)
 (hn:x≠"__name__":=by decide) (hd:(x == ("__debug__":Str))=false:=by decide):wpAny (model X.prog X.w) X.A (eval (.Name x pos) X.env) Q E s:=by
 obtain⟨mb,h1,h2⟩:=I.mod.blt;exact Calls.Name_function_global I.ok.kind hg (Calls.loadGlobal_builtin (by rw[I.ok.glob];exact I.mod.glob.keeps I.bk) hm (by rw[I.ok.blt];exact h1.keeps I.bk) ((h2 x hn).trans hv) h) hd
theorem wo{x:Str}{v:V}{u:Value}{pos:Pos}(hg:Gl X x)(hm:X.mg x=some u)(r:aG v u)(hd:(x == ("__debug__":Str))=false:=by decide):PE X (.Name x pos) (tC v):=
 λ_ _ _ H _ I h=>iC I hg hm ⟨v,H,I,r,h⟩ hd
variable {a b:Expr}{ta tb:TE}{pos:Pos}
def PC(X:Cx)(op:CmpOp)(a b:Expr)(t:TE):Prop:=
 ∀(pins:List (Addr×Obj))(s:Shared)(σ:St)(H:Hp)(Q:VK),Inv X pins σ H s->t σ H Q->
  wpAny (model X.prog X.w) X.A (eval a X.env) (λv s₁=>wpAny (model X.prog X.w) X.A (eval b X.env) (λu s₂=>wpAny (model X.prog X.w) X.A (compareOp op v u) (EP X pins σ Q) X.xe s₂) X.xe s₁) X.xe s
def tB(t:TE):TT:=λσ H Q=>t σ H λx H1=>∃c,x=.bl c/\Q c H1
theorem Ak{op:CmpOp}{t:TE}(h:PC X op a b t)(h1:behindInMarks op b=false:=by first|exact nobehind _ Qz Qz|rfl):PT X (.Compare a [op] [b] pos) (tB t):=by
 intro pins s σ H Q I hw;refine wpAny_isTrue_Compare1 (thn (h pins s σ H _ I hw) λv s1 h1=>thn h1 λu s2 h2=>thn h2 λc s3 ⟨x,H1,I1,r1,q1⟩=>?_) h1;obtain⟨d,rfl,q⟩:=q1;cases r1;exact wpAny_truthy_bool ⟨H1,I1,q⟩
theorem vW{e:Expr}{t:TE}(h:PE X e t)(he:∀whole,isTrue e X.env whole=(do let v <- whole;standAt e.pos;holding [v] (truthy v)):=by intro _;rfl):PT X e (tB t):=by
 intro pins s σ H Q I hw;refine isTrue_plain (thn (h pins s σ H _ I hw) λv s1 ⟨x,H1,I1,r1,q1⟩=>?_) (he _);obtain⟨d,rfl,q⟩:=q1;cases r1;exact wpAny_truthy_bool ⟨H1,I1,q⟩
variable {tA tB':TT}{rest:List Expr}
def ue(t u:TT):TT:=λσ H Q=>t σ H λc H1=>if c=true then u σ H1 Q else Q false H1
def tOr(t u:TT):TT:=λσ H Q=>t σ H λc H1=>if c=true then Q true H1 else u σ H1 Q
def tW(t:TT):TT:=λσ H Q=>t σ H λc H1=>Q (!c) H1
theorem f7(ha:PT X a tA):PW X (.BoolOp .And [a] pos) tA:=by
 intro wh pins s σ H Q I h;refine isTrue_and (thn (ha pins s σ H Q I h) λc s1 e=>?_)
 cases c with
 |true=>exact isTrue_and_nil e
 |false=>exact e
theorem pA(ha:PT X a tA):PW X (.BoolOp .Or [a] pos) tA:=by
 intro wh pins s σ H Q I h;refine isTrue_or (thn (ha pins s σ H Q I h) λc s1 e=>?_)
 cases c with
 |false=>exact isTrue_or_nil e
 |true=>exact e
theorem dZ(ha:PT X a tA)(hb:PW X (.BoolOp .And (b::rest) pos) tB'):PW X (.BoolOp .And (a::b::rest) pos) (ue tA tB'):=by
 intro wh pins s σ H Q I h;refine isTrue_and (thn (ha pins s σ H _ I h) λc s1 ⟨H1,I1,q1⟩=>?_)
 cases c with
 |true=>exact hb wh pins s1 σ H1 Q I1 q1
 |false=>exact⟨H1,I1,q1⟩
theorem kF(ha:PT X a tA)(hb:PW X (.BoolOp .Or (b::rest) pos) tB'):PW X (.BoolOp .Or (a::b::rest) pos) (tOr tA tB'):=by
 intro wh pins s σ H Q I h;refine isTrue_or (thn (ha pins s σ H _ I h) λc s1 ⟨H1,I1,q1⟩=>?_)
 cases c with
 |true=>exact⟨H1,I1,q1⟩
 |false=>exact hb wh pins s1 σ H1 Q I1 q1
theorem gA(ha:PT X a tA):PT X (.UnaryOp .Not a pos) (tW tA):=by
 intro pins s σ H Q I h;exact isTrue_not (ha pins s σ H (λc H1=>Q (!c) H1) I h)
def ud(ta tb:TE):TE:=λσ H Q=>ta σ H λx H1=>∃c,x=.bl c/\if c=true then tb σ H1 Q else Q (.bl false) H1
def mH(ta tb:TE):TE:=λσ H Q=>ta σ H λx H1=>∃c,x=.bl c/\if c=true then Q (.bl true) H1 else tb σ H1 Q
theorem io{op}{t:TE}(h:PE X a t):PE X (.BoolOp op [a] pos) t:=λpins s σ H Q I hw=>BoolOp_one (h pins s σ H Q I hw)
theorem pI(ha:PE X a ta)(hb:PE X (.BoolOp .And (b::rest) pos) tb):PE X (.BoolOp .And (a::b::rest) pos) (ud ta tb):=by
 intro pins s σ H Q I h;refine BoolOp_and (thn (ha pins s σ H _ I h) λv s1 ⟨x,H1,I1,r1,q1⟩=>?_);obtain⟨c,rfl,q1⟩:=q1;cases r1;refine wpAny_truthy_bool ?_
 cases c with
 |true=>exact hb pins s1 σ H1 Q I1 q1
 |false=>exact⟨.bl false,H1,I1,U,q1⟩
theorem pF(ha:PE X a ta)(hb:PE X (.BoolOp .Or (b::rest) pos) tb):PE X (.BoolOp .Or (a::b::rest) pos) (mH ta tb):=by
 intro pins s σ H Q I h;refine BoolOp_or (thn (ha pins s σ H _ I h) λv s1 ⟨x,H1,I1,r1,q1⟩=>?_);obtain⟨c,rfl,q1⟩:=q1;cases r1;refine wpAny_truthy_bool ?_
 cases c with
 |false=>exact hb pins s1 σ H1 Q I1 q1
 |true=>exact⟨.bl true,H1,I1,U,q1⟩
def tIf(t:TT)(ta tb:TE):TE:=λσ H Q=>t σ H λc H1=>if c=true then ta σ H1 Q else tb σ H1 Q
theorem eB{c:Expr}(hc:PT X c tA)(ha:PE X a ta)(hb:PE X b tb):PE X (.IfExp c a b pos) (tIf tA ta tb):=by
 intro pins s σ H Q I h;refine wpAny_IfExp (thn (hc pins s σ H _ I h) λd s1 ⟨H1,I1,q1⟩=>?_)
 cases d with
 |true=>exact ha pins s1 σ H1 Q I1 q1
 |false=>exact hb pins s1 σ H1 Q I1 q1
end
def SqL(K:W.Frag)(H:Hp)(a:Addr)(xs:List V):Prop:=
 Rd H a (.lst xs) \/
  ∃(o:Obj)(its:Array Value)(n:Nat),K.lookup a=some o/\o.cls=.type "list"/\o.dict=none/\o.data=.seq its n/\its.size<=sizeLine/\ar xs its.toList
def SqT(K:W.Frag)(H:Hp)(a:Addr)(xs:List V):Prop:=
 Rd H a (.tup xs) \/
  ∃(o:Obj)(its:Array Value)(n:Nat),K.lookup a=some o/\o.cls=.type "tuple"/\o.data=.seq its n/\its.size<=sizeLine/\ar xs its.toList
def Ac:Value->Option V
 |.none=>some .non
 |.bool b=>some (.bl b)
 |.int i _=>some (.int i)
 |.str x _=>some (.str x)
 |.bytes b _=>some (.byt b)
 |.float b _=>some (.flt b)
 |.ref a=>some (.ref a)
 |.type n=>some (.ty n)
 |_=>none
theorem aG.abs{x:V}{u:Value}(r:aG x u):Ac u=some x:=by
 cases x with
 |non=>cases r;rfl
 |bl _=>cases r;rfl
 |int _=>obtain⟨t,rfl⟩:=r;rfl
 |str _=>obtain⟨t,rfl⟩:=r;rfl
 |byt _=>obtain⟨t,rfl⟩:=r;rfl
 |flt _=>obtain⟨t,rfl⟩:=r;rfl
 |ref _=>cases r;rfl
 |ty _=>cases r;rfl
theorem aG.inj{x y:V}{u:Value}(r:aG x u)(q:aG y u):x=y:=qJ (r.abs.symm.trans q.abs)
theorem ar.inj:∀{xs ys:List V}{us:List Value},ar xs us->ar ys us->xs=ys
 |_,_,_,.nil,.nil=>rfl
 |_,_,_,.cons r t,.cons r' t'=>by rw[r.inj r',ar.inj t t']
section
variable {X:Cx}{pins:List (Addr×Obj)}{σ:St}{H:Hp}{s:Shared}{a:Addr}{xs ys:List V}
theorem SqL.of{K:W.Frag}(h:H a=some (.lst xs)):SqL K H a xs:=.inl (.inl h)
theorem SqT.of{K:W.Frag}(h:H a=some (.tup xs)):SqT K H a xs:=.inl (.inl h)
theorem Inv.list(I:Inv X pins σ H s)(h:SqL X.K H a xs):∃its:List Value,ar xs its/\PlainL s.heap a its.toArray/\xs.length<=sizeLine:=by
 rcases h with h|⟨o,its,n,hk,hc,hd,hs,hz,r⟩
 ·obtain⟨z,its,n,r,e⟩:=h.ok I.hok;exact⟨its,r,⟨_,n,e,U,U,U⟩,z⟩
 ·refine⟨its.toList,r,⟨o,n,I.kIn a o hk,hc,hd,by simpa using hs⟩,?_⟩;have e:=r.length;simp only[qM]at e;omega
theorem Inv.tuple(I:Inv X pins σ H s)(h:SqT X.K H a xs):∃its:List Value,ar xs its/\IsTup s.heap a its.toArray/\xs.length<=sizeLine:=by
 rcases h with h|⟨o,its,n,hk,hc,hs,hz,r⟩
 ·obtain⟨z,its,r,p⟩:=h.ok I.hok;exact⟨its,r,p,z⟩
 ·refine⟨its.toList,r,⟨o,I.kIn a o hk,hc,n,by simpa using hs⟩,?_⟩;have e:=r.length;simp only[qM]at e;omega
theorem Inv.list_inj(I:Inv X pins σ H s)(h:SqL X.K H a xs)(h':SqL X.K H a ys):xs=ys:=by
 obtain⟨its,r,⟨o,n,e,_,_,d⟩,_⟩:=I.list h;obtain⟨its',r',⟨o',n',e',_,_,d'⟩,_⟩:=I.list h';rw[e]at e';cases e';rw[d]at d';injection d' with d1 _;have:its=its':=by simpa using congrArg Array.toList d1
 subst this;exact r.inj r'
theorem Inv.tuple_inj(I:Inv X pins σ H s)(h:SqT X.K H a xs)(h':SqT X.K H a ys):xs=ys:=by
 obtain⟨its,r,⟨o,e,_,n,d⟩,_⟩:=I.tuple h;obtain⟨its',r',⟨o',e',_,n',d'⟩,_⟩:=I.tuple h';rw[e]at e';cases e';rw[d]at d';injection d' with d1 _;have:its=its':=by simpa using congrArg Array.toList d1
 subst this;exact r.inj r'
end
abbrev Cx.wish(X:Cx)(E:Yd):Cx:={ X with xe:=E }
abbrev Cx.nox(X:Cx):Cx:=X.wish λ_ _=>False
theorem Cx.Ok.wish{X:Cx}(ok:X.Ok)(E:Yd):(X.wish E).Ok:=
 ⟨ok.mod,ok.kind,ok.glob,ok.blt,ok.above,ok.inj,ok.has,ok.cab,ok.hd,ok.frames,ok.stk,ok.exf,ok.bs,ok.bsz,ok.noex,ok.exfs,ok.funs,ok.frf⟩
theorem Cx.Ok.unwish{X:Cx}{E:Yd}(ok:(X.wish E).Ok):X.Ok:=
 ⟨ok.mod,ok.kind,ok.glob,ok.blt,ok.above,ok.inj,ok.has,ok.cab,ok.hd,ok.frames,ok.stk,ok.exf,ok.bs,ok.bsz,ok.noex,ok.exfs,ok.funs,ok.frf⟩
section
variable {X:Cx}{pins:List (Addr×Obj)}{σ:St}{H:Hp}{s:Shared}{E:Yd}
theorem Inv.wish(I:Inv X pins σ H s)(E:Yd):Inv (X.wish E) pins σ H s:=⟨I.ok.wish E,I.os,I.bare,I.base,I.loc,I.cell,I.free,I.freeC,I.pin,I.hok,I.len⟩
theorem Inv.unwish(I:Inv (X.wish E) pins σ H s):Inv X pins σ H s:=⟨I.ok.unwish,I.os,I.bare,I.base,I.loc,I.cell,I.free,I.freeC,I.pin,I.hok,I.len⟩
theorem SP.unwish{D:dD}{f:Flow}{s':Shared}(h:SP (X.wish E) pins D f s'):SP X pins D f s':=by
 cases f with
 |next=>obtain⟨σ',H',I,q⟩:=h;exact⟨σ',H',I.unwish,q⟩
 |brk=>obtain⟨σ',H',I,q⟩:=h;exact⟨σ',H',I.unwish,q⟩
 |cont=>obtain⟨σ',H',I,q⟩:=h;exact⟨σ',H',I.unwish,q⟩
 |ret u=>obtain⟨v,σ',H',I,r,q⟩:=h;exact⟨v,σ',H',I.unwish,r,q⟩
theorem PSs.nox{st:List Stmt}{t:TS}(h:PSs X.nox st t):PSs X st t:=λpins s σ H D I hw=>
 wpAny_mono (h pins s σ H D (I.wish _) hw) (λ_ _ q=>q.unwish) λ_ _ z=>False.elim z
end
section
variable {X:Cx}{st:Stmt}{rest:List Stmt}{t u:TS}{e:Expr}{te:TE}{pos:Pos}
def eV:TS:=λD σ H=>D.nx σ H
def hE(t u:TS):TS:=λD σ H=>t { D with nx:=u D } σ H
theorem aM:PSs X [] eV:=λ_ _ σ H _ I h=>wpAny_execs_nil ⟨σ,H,I,h⟩
theorem ag(h1:PS X st t)(h2:PSs X rest u):PSs X (st::rest) (hE t u):=by
 intro pins s σ H D I h;refine wpAny_execs_cons (thn (h1 pins s σ H { D with nx:=u D } I h) λf s1 q=>?_)
 cases f with
 |next=>
  obtain⟨σ',H',I',q⟩:=q;exact h2 pins s1 σ' H' D I' q
 |ret v=>exact q
 |brk=>exact q
 |cont=>exact q
theorem ai(h1:PS X st t):PSs X [st] t:=by
 intro pins s σ H D I h;refine wpAny_execs_cons (thn (h1 pins s σ H D I h) λf s1 q=>?_)
 cases f with
 |next=>exact wpAny_execs_nil q
 |ret v=>exact q
 |brk=>exact q
 |cont=>exact q
theorem Inv.quiet{pins:List (Addr×Obj)}{σ:St}{H:Hp}{s:Shared}(I:Inv X pins σ H s):interactive X.env=false:=by simp[interactive,I.ok.kind]
def u9(te:TE):TS:=λD σ H=>te σ H λ_ H1=>D.nx σ H1
theorem bT(he:PE X e te)(hs:swapsWith e none pos.line X.env=pure false:=by rfl):PS X (.Expr e pos) (u9 te):=by
 intro pins s σ H D I h;exact wpAny_Expr_any (thn (he pins s σ H _ I h) λv s1 ⟨x,H1,I1,r1,q1⟩=>⟨σ,H1,I1,q1⟩) I.quiet hs
def mG(te:TE):TS:=λD σ H=>te σ H D.rt
theorem ao(he:PE X e te):PS X (.Return (some e) pos) (mG te):=by
 intro pins s σ H D I h;exact wpAny_Return_some (thn (he pins s σ H _ I h) λv s1 ⟨x,H1,I1,r1,q1⟩=>⟨x,σ,H1,I1,r1,q1⟩)
def tU:TS:=λD _ H=>D.rt .non H
theorem vZ:PS X (.Return none pos) tU:=λ_ _ σ H _ I h=>wpAny_Return_none ⟨.non,σ,H,I,U,h⟩
def u5(c:TT)(t u:TS):TS:=λD σ H=>c σ H λb H1=>if b=true then t D σ H1 else u D σ H1
theorem aL{c:Expr}{a b:List Stmt}{tc:TT}(hc:PT X c tc)(ha:PSs X a t)(hb:PSs X b u):PS X (.If c a b pos) (u5 tc t u):=by
 intro pins s σ H D I h;refine wpAny_If (thn (hc pins s σ H _ I h) λd s1 ⟨H1,I1,q1⟩=>?_)
 cases d with
 |true=>exact ha pins s1 σ H1 D I1 q1
 |false=>exact hb pins s1 σ H1 D I1 q1
end
abbrev TG:=V->St->Hp->(St->Hp->Prop)->Prop
abbrev TGs:=List V->St->Hp->(St->Hp->Prop)->Prop
def PG(X:Cx)(target:Expr)(t:TG):Prop:=
 ∀(pins:List (Addr×Obj))(s:Shared)(σ:St)(H:Hp)(v:V)(u:Value)(Q:St->Hp->Prop),Inv X pins σ H s->aG v u->t v σ H Q->
  wpAny (model X.prog X.w) X.A (assign target X.env u) (λ_ s'=>∃σ' H',Inv X pins σ' H' s'/\Q σ' H') X.xe s
def PGs(X:Cx)(ts:List Expr)(t:TGs):Prop:=
 ∀(pins:List (Addr×Obj))(s:Shared)(σ:St)(H:Hp)(vs:List V)(us:List Value)(Q:St->Hp->Prop),Inv X pins σ H s->ar vs us->t vs σ H Q->
  wpAny (model X.prog X.w) X.A (assignInOrder ((assignEach ts X.env).map (·.2)) us) (λ_ s'=>∃σ' H',Inv X pins σ' H' s'/\Q σ' H') X.xe s
abbrev m3:=V->V->V->Hp->(Hp->Prop)->Prop
def sW(X:Cx)(t:m3):Prop:=
 ∀(pins:List (Addr×Obj))(s:Shared)(σ:St)(H:Hp)(o i v:V)(ov iv u:Value)(Q:Hp->Prop),Inv X pins σ H s->aG o ov->aG i iv->aG v u->t o i v H Q->
  wpAny (model X.prog X.w) X.A (setItem ov iv u) (λ_ s'=>∃H',Inv X pins σ H' s'/\Q H') X.xe s
section
variable {X:Cx}{pos:Pos}
def aO(i:Nat):TG:=λv σ H Q=>Q (σ.set i (some v)) H
theorem aV{i:Nat}{x:Str}(hN:X.N.Nodup)(hi:X.N[i]?=some x)(hx:Loc X.env.scope x)(hf:X.fn x=true\/X.env.scope.names.lookup x=some .local:=by first|exact .inl U|exact .inr U|assumption):PG X (.Name x pos) (aO i):=by
 intro pins s σ H v u Q I r h;exact wpAny_assign_Name (mN I hN hi hx r (λs' I'=>⟨_,H,I',h⟩) hf)
def zt:TGs:=λvs σ H Q=>vs=[]/\Q σ H
def zu(t:TG)(u:TGs):TGs:=λvs σ H Q=>∃v r,vs=v::r/\t v σ H λσ' H'=>u r σ' H' Q
theorem dG:PGs X [] zt:=by
 intro pins s σ H vs us Q I r h;obtain⟨e,h⟩:=h;subst e;cases r;exact assignInOrder_nil ⟨σ,H,I,h⟩
theorem c5{e:Expr}{es:List Expr}{t:TG}{u:TGs}(h1:PG X e t)(h2:PGs X es u)
 (hs:(assignEach (e::es) X.env).map (·.2)=assign e X.env::(assignEach es X.env).map (·.2):=by rfl):PGs X (e::es) (zu t u):=by
 intro pins s σ H vs us Q I r h;obtain⟨v,vr,e1,h⟩:=h;subst e1
 cases r with
 |cons r rr=>
  rw[hs];refine assignInOrder_cons (thn (h1 pins s σ H _ _ _ I r h) λ_ s1 ⟨σ1,H1,I1,q1⟩=>?_);exact h2 pins s1 σ1 H1 _ _ Q I1 rr q1
def rT(K:W.Frag)(n:Nat)(t:TGs):TG:=λv σ H Q=>∃a xs,v=.ref a/\SqT K H a xs/\xs.length=n/\t xs σ H Q
theorem gE{es:List Expr}{k:Nat}{t:TGs}{n:Nat}(hc:X.calm=true)(h:PGs X es t)
 (hn:(assignEach es X.env).length=n:=by rfl) (hst:(assignEach es X.env).findIdx? (·.1)=none:=by rfl):PG X (.Tuple es k pos) (rT X.K n t):=by
 intro pins s σ H v u Q I r hw;obtain⟨a,xs,e1,hq,hl,hw⟩:=hw;subst e1;cases r;obtain⟨its,rv,ht,hz⟩:=I.tuple hq;refine assign_Tuple_tuple (I.ok.hd hc) ht (by simp[hn,<- hl,rv.length]) hst λh' hx=>?_;have I1:Inv X pins σ H { s with heap:=h' }:=I.kept (t':=s.toks) λb o e=>hx b o (qG (qq e)) e;exact h pins _ σ H xs _ Q I1 (by simpa using rv) hw
def zr(to ti:TE)(t:m3):TG:=λv σ H Q=>to σ H λo H1=>ti σ H1 λi H2=>t o i v H2 λH3=>Q σ H3
theorem f9{o i:Expr}{to ti:TE}{t:m3}(ho:PE X o to)(hi:PE X i ti)(hs:sW X t)
 (ha:∀v,assign (.Subscript o i pos) X.env v=(do
  let ov <- holding [v] (eval o X.env)
  let iv <- holding [v,ov] (eval i X.env)
  standAt pos
  holding [v,ov,iv] (setItem ov iv v)
  release [v,ov,iv] []):=by intro _;rfl):PG X (.Subscript o i pos) (zr to ti t):=by
 intro pins s σ H v u Q I r h;rw[ha];refine q5 (Qu (thn (ho pins s σ H _ I h) λov s1 ⟨x,H1,I1,r1,q1⟩=>?_));refine q5 (Qu (thn (hi pins s1 σ H1 _ I1 q1) λiv s2 ⟨y,H2,I2,r2,q2⟩=>?_));refine q5 (wpAny_standAt (q5 (Qu (thn (hs pins s2 σ H2 x y v ov iv u _ I2 r1 r2 r q2) λ_ s3 ⟨H3,I3,q3⟩=>?_))));exact wpAny_release ⟨σ,H3,I3,q3⟩
def ja(te:TE)(g:TG):TS:=λD σ H=>te σ H λx H1=>g x σ H1 D.nx
theorem dF{tg e:Expr}{te:TE}{g:TG}(he:PE X e te)(hg:PG X tg g)(hs:swapsWithSole [tg] e pos.line X.env=pure false:=by rfl)(hw:swappedStores [tg] e X.env=pure none:=by rfl)
 (h1:(assignEach [tg] X.env).map (·.2)=[assign tg X.env]:=by rfl):PS X (.Assign [tg] e pos) (ja te g):=by
 intro pins s σ H D I h;refine wpAny_Assign_stores (thn (he pins s σ H _ I h) λv s1 ⟨x,H1,I1,r1,q1⟩=>?_) hs hw;rw[h1];exact thn (hg pins s1 σ H1 x v _ I1 r1 q1) λ_ s2 q=>q
theorem aQ{i:Nat}{x:Str}{e:Expr}{te:TE}{pos':Pos}(hN:X.N.Nodup)(hi:X.N[i]?=some x)(hx:Loc X.env.scope x)(he:PE X e te)(hs:swapsWith e (some (.Name x pos')) pos.line X.env=pure false:=by rfl)(hf:X.fn x=true\/X.env.scope.names.lookup x=some .local:=by first|exact .inl U|exact .inr U|assumption):
 PS X (.Assign [.Name x pos'] e pos) (ja te (aO i)):=by
 intro pins s σ H D I h;refine wpAny_Assign_Name (thn (he pins s σ H _ I h) λv s1 ⟨y,H1,I1,r1,q1⟩=>?_) hs;exact mN I1 hN hi hx r1 (λs2 I2=>⟨_,H1,I2,q1⟩) hf
end
section
variable {X:Cx}{pos:Pos}
def tR(c:TT)(tb:TS):TS:=λD σ H=>∃W:Nat->St->Hp->Prop,(∃m,W m σ H)/\∀m σ H,W m σ H->
 c σ H λb H1=>if b=true then ∃N:St->Hp->Prop,(∀σ' H',N σ' H'->∃m',m'<m/\W m' σ' H')/\tb { D with nx:=N,ct:=N,bk:=D.nx } σ H1 else D.nx σ H1
theorem vY{c:Expr}{body:List Stmt}{tc:TT}{tb:TS}(hp:PassesOwn (model X.prog X.w) X.A X.env X.xe)(hc:PT X c tc)(hb:PSs X body tb):PS X (.While c body [] pos) (tR tc tb):=by
 intro pins s σ H D I h;obtain⟨W,⟨m0,w0⟩,turn⟩:=h;refine wpAny_While (codeAny_whileLoop (λn s'=>∃σ' H',Inv X pins σ' H' s'/\W n σ' H') ?_ m0 ⟨σ,H,I,w0⟩);rintro n s1 ⟨σ1,H1,I1,w1⟩;refine wpAny_passesOwn hp (thn (hc pins s1 σ1 H1 _ I1 (turn n σ1 H1 w1)) λb s2 ⟨H2,I2,q2⟩=>?_)
 cases b with
 |true=>
  obtain⟨N,hN,q2⟩:=q2;rw[Q0 U];refine wpAny_passesOwn hp (thn (hb pins s2 σ1 H2 _ I2 q2) λf s3 q3=>?_)
  cases f with
  |next=>
   obtain⟨σ3,H3,I3,n3⟩:=q3;obtain⟨m',hm,w3⟩:=hN σ3 H3 n3;exact⟨m',hm,σ3,H3,I3,w3⟩
  |cont=>
   obtain⟨σ3,H3,I3,n3⟩:=q3;obtain⟨m',hm,w3⟩:=hN σ3 H3 n3;exact⟨m',hm,σ3,H3,I3,w3⟩
  |brk=>exact q3
  |ret v=>exact q3
 |false=>
  rw[qZ qi];exact wpAny_execs_nil ⟨σ1,H2,I2,q2⟩
end
structure It where
 go:Nat->Hp->Prop
 yld:Nat->Hp->V->Hp->Prop
 stop:Nat->Hp->Prop
def cr(X:Cx)(pins:List (Addr×Obj))(H:Hp)(b:Addr):Prop:=
 H b=none/\b≠X.env.locals/\b∉X.fs/\(b∈X.ex\/X.s₀.heap.objs.size<=b)/\(∀x c,X.env.cells.lookup x=some c->c≠b)/\∀p∈X.pn++pins,p.1≠b
theorem Inv.fpOk{X:Cx}{pins:List (Addr×Obj)}{σ:St}{H H':Hp}{s:Shared}{b:Addr}(I:Inv X pins σ H s)(hb:s.heap.objs.size<=b)(hn:H' b=none):cr X pins H' b:=by
 refine⟨hn,Nat.ne_of_gt (qD I.lt hb),I.nofs hb,.inr (qy I.sz hb),λx c e z=>?_,λp hp z=>?_⟩
 ·obtain⟨v,q⟩:=I.cell x c e;exact Q4 (qD q.lt (by rw[z];exact hb)) (Qb _)
 ·exact Q4 (qD (qq (I.pin p hp).1) (by rw[z];exact hb)) (Qb _)
structure eP(P:Program)(w:World)(K:W.Frag)(tg:Expr)(J:It)(fp:List Addr)(it:Addr)(tn:Nat->Heap->Prop):Prop where
 mem:it∈fp
 obj:∀i h,tn i h->∀b∈fp,∃o,h.get? b=some o/\∀v,o.data≠.cell v
 keep:∀i h h',tn i h->(∀b∈fp,∀o,h.get? b=some o->h'.get? b=some o)->tn i h'
 item:∀(X:Cx),X.prog=P->X.w=w->X.K=K->X.calm=true->∀(i:Nat)(pins:List (Addr×Obj))(s:Shared)(σ:St)(H:Hp)(E:Yd),Inv X pins σ H s->(∀b∈fp,cr X pins H b)->tn i s.heap->J.go i H->
  wpAny (model P w) X.A (pyNext (.ref it)) (λr s1=>∃u,r=some u /\
   wpAny (model P w) X.A (letOwnedTupleGo tg (.ref it) u) (λ_ s2=>∃x H',Inv X pins σ H' s2/\aG x u/\J.yld i H x H'/\tn (i+1) s2.heap/\∀b∈fp,H' b=none) E s1) E s
 done:∀(X:Cx),X.prog=P->X.w=w->X.K=K->X.calm=true->∀(i:Nat)(pins:List (Addr×Obj))(s:Shared)(σ:St)(H:Hp)(E:Yd),Inv X pins σ H s->(∀b∈fp,cr X pins H b)->tn i s.heap->J.stop i H->
  wpAny (model P w) X.A (pyNext (.ref it)) (λr s1=>r=none/\Inv X pins σ H s1) E s
 self:∀(A:Around)(i:Nat)(s:Shared)(Q:Yd)(E:Yd),tn i s.heap->Q (.ref it) s->wpAny (model P w) A (pyIter (.ref it)) Q E s
abbrev TI:=St->Hp->(It->Hp->Prop)->Prop
def PIE(X:Cx)(pins:List (Addr×Obj))(σ:St)(tg:Expr)(R:It->Hp->Prop)(itv:Value)(s2:Shared):Prop:=
 ∃(it:Addr)(fp:List Addr)(tn:Nat->Heap->Prop)(J:It)(H':Hp),itv=.ref it/\Inv X pins σ H' s2/\eP X.prog X.w X.K tg J fp it tn/\tn 0 s2.heap/\(∀b∈fp,cr X pins H' b)/\R J H'
def PI(X:Cx)(tg iter:Expr)(wi:TI):Prop:=
 ∀(pins:List (Addr×Obj))(s:Shared)(σ:St)(H:Hp)(R:It->Hp->Prop),Inv X pins σ H s->wi σ H R->
  wpAny (model X.prog X.w) X.A (eval iter X.env) (λv s1=>wpAny (model X.prog X.w) X.A (pyIter v) (PIE X pins σ tg R) X.xe s1) X.xe s
theorem iL{M:Model}{A:Around}{E:Yd}{s:Shared}{tg:Expr}{it:Addr}{u:Value}{o:Obj}{n:String}{vs:Array Value}{Q:Unit->Shared->Prop}(ho:s.heap.get? it=some o)(hc:o.cls=.type n)(hd:o.data=.fields vs)
 (hn:["enumerate","zip","dict_itemiterator","dict_reverseitemiterator","odict_iterator","itertools.zip_longest","itertools.pairwise"].contains n=false) (hQ:Q () s):wpAny M A (letOwnedTupleGo tg (.ref it) u) Q E s:=by
 unfold letOwnedTupleGo
 cases tg<;>first
  |exact qd hQ
  |(cases u<;>first
   |exact qd hQ
   |(refine q5 (wpAny_load ho ?_)
     rw[hc,hd];show wpAny M A (if(["enumerate","zip","dict_itemiterator","dict_reverseitemiterator","odict_iterator","itertools.zip_longest","itertools.pairwise"].contains n && vs[0]? == some (rawInt _))=true then _ else _) Q E s;rw[qZ (by intro h;rw[hn,Bool.false_and]at h;cases h)]
     exact qd hQ))
def Itl(K:W.Frag)(a:Addr):It:=
 ⟨λi H=>∃xs x,SqL K H a xs/\xs[i]?=some x,λi H x H'=>H'=H/\∀xs,SqL K H a xs->xs[i]?=some x,λi H=>∃xs,SqL K H a xs/\xs.length<=i⟩
def Itt(K:W.Frag)(a:Addr):It:=
 ⟨λi H=>∃xs x,SqT K H a xs/\xs[i]?=some x,λi H x H'=>H'=H/\∀xs,SqT K H a xs->xs[i]?=some x,λi H=>∃xs,SqT K H a xs/\xs.length<=i⟩
def Itr(lo:Int)(n:Nat):It:=⟨λi _=>i<n,λi H x H'=>H'=H/\x=.int (lo+i),λi _=>n<=i⟩
theorem tN{P:Program}{w:World}{K:W.Frag}{tg:Expr}(a it:Addr):eP P w K tg (Itl K a) [it] it (λi h=>h.IsListIter it a i) where
 mem:=by simp
 obj:=λi h st b hb=>by
  have e:b=it:=by simpa using hb
  subst e;obtain⟨o,e,c,d⟩:=st;exact⟨o,e,λv z=>by rw[d]at z;cases z⟩
 keep:=λi h h' st k=>st.at λo e=>k it (by simp) o e
 item:=by
  intro X hP hw hK hc i pins s σ H E I hf st hg;subst hP hw hK;obtain⟨xs,x,hq,hx⟩:=hg;obtain⟨its,rv,p,hz⟩:=I.list hq;obtain⟨u,hu,ru⟩:=rv.get hx;obtain⟨f0,f1,f2,f3,f4,f5⟩:=hf it (by simp);refine wpAny_pyNext_list_item st p.isList (x:=u) (by simpa using hu) λh' st' sb=>?_;have I1:Inv X pins σ H { s with heap:=h' }:=I.turned (t':=s.toks) (λb o hb e=>(sb.2 b hb).trans e) f0 f1 f3 f4 f5;obtain⟨o,e,c,d⟩:=id st';exact⟨u,U,iL (s:={ s with heap:=h' }) e c d Qz ⟨x,H,I1,ru,⟨U,λys hy=>by rw[I.list_inj hy hq];exact hx⟩,st',λb hb=>(hf b hb).1⟩⟩
 done:=by
  intro X hP hw hK hc i pins s σ H E I hf st hg;subst hP hw hK;obtain⟨xs,hq,hx⟩:=hg;obtain⟨its,rv,p,hz⟩:=I.list hq;obtain⟨f0,f1,f2,f3,f4,f5⟩:=hf it (by simp);have hl:=rv.length;exact wpAny_pyNext_list_end (I.ok.hd hc) st p.isList (by simp;omega) λh' eb=>⟨U,I.turned (t':=s.toks) (λb o hb e=>eb b o hb e) f0 f1 f3 f4 f5⟩
 self:=λ_ _ _ _ _ st h=>wpAny_pyIter_listiter st h
theorem tK{P:Program}{w:World}{K:W.Frag}{tg:Expr}(a it:Addr):eP P w K tg (Itt K a) [it] it (λi h=>h.IsTupleIter it a i) where
 mem:=by simp
 obj:=λi h st b hb=>by
  have e:b=it:=by simpa using hb
  subst e;obtain⟨o,e,c,d⟩:=st;exact⟨o,e,λv z=>by rw[d]at z;cases z⟩
 keep:=λi h h' st k=>st.at λo e=>k it (by simp) o e
 item:=by
  intro X hP hw hK hc i pins s σ H E I hf st hg;subst hP hw hK;obtain⟨xs,x,hq,hx⟩:=hg;obtain⟨its,rv,p,hz⟩:=I.tuple hq;obtain⟨u,hu,ru⟩:=rv.get hx;obtain⟨f0,f1,f2,f3,f4,f5⟩:=hf it (by simp);refine wpAny_pyNext_tuple_item st (show s.heap.IsTuple a its.toArray from p) (x:=u) (by simpa using hu) λh' st' sb=>?_;have I1:Inv X pins σ H { s with heap:=h' }:=I.turned (t':=s.toks) (λb o hb e=>(sb.2 b hb).trans e) f0 f1 f3 f4 f5;obtain⟨o,e,c,d⟩:=id st';exact⟨u,U,iL (s:={ s with heap:=h' }) e c d Qz ⟨x,H,I1,ru,⟨U,λys hy=>by rw[I.tuple_inj hy hq];exact hx⟩,st',λb hb=>(hf b hb).1⟩⟩
 done:=by
  intro X hP hw hK hc i pins s σ H E I hf st hg;subst hP hw hK;obtain⟨xs,hq,hx⟩:=hg;obtain⟨its,rv,p,hz⟩:=I.tuple hq;obtain⟨f0,f1,f2,f3,f4,f5⟩:=hf it (by simp);have hl:=rv.length;exact wpAny_pyNext_tuple_end (I.ok.hd hc) st (show s.heap.IsTuple a its.toArray from p) (by simp;omega) λh' eb=>⟨U,I.turned (t':=s.toks) (λb o hb e=>eb b o hb e) f0 f1 f3 f4 f5⟩
 self:=λ_ _ _ _ _ st h=>wpAny_pyIter_tupleiter st h
theorem tM{P:Program}{w:World}{K:W.Frag}{tg:Expr}(it:Addr)(lo:Int)(n:Nat):eP P w K tg (Itr lo n) [it] it (λi h=>IsRangeIter h it (lo+(i:Nat) * 1) ((n:Int)-(i:Nat)) 1) where
 mem:=by simp
 obj:=λi h st b hb=>by
  have e:b=it:=by simpa using hb
  subst e
  exact⟨_,st,λv z=>by
   have z':Data.fields _=Data.cell v:=z
   cases z'⟩
 keep:=λi h h' st k=>k it (by simp) _ st
 item:=by
  intro X hP hw hK hc i pins s σ H E I hf st hg;subst hP hw hK;obtain⟨f0,f1,f2,f3,f4,f5⟩:=hf it (by simp);have W:=Walks.range (prog:=X.prog) (w:=X.w) (I.ok.hd hc) it lo 1 n;refine W.item i s _ _ hg st λv h' tk hv st' kk=>?_;obtain⟨t,rfl⟩:=hv;have I1:Inv X pins σ H { s with heap:=h',toks:=tk }:=I.turned (λb o hb e=>kk b o (by simpa using hb) e) f0 f1 f3 f4 f5;refine⟨_,U,iL (s:={ s with heap:=h',toks:=tk }) (n:="range_iterator") st' U U Qz ⟨.int (lo+i),H,I1,⟨t,?_⟩,⟨U,U⟩,st',λb hb=>(hf b hb).1⟩⟩;rw[Int.mul_one]
 done:=by
  intro X hP hw hK hc i pins s σ H E I hf st hg;subst hP hw hK;obtain⟨f0,f1,f2,f3,f4,f5⟩:=hf it (by simp);exact wpAny_pyNext_range_end (I.ok.hd hc) st (by have:n<=i:=hg;omega) λh' eb=>⟨U,I.turned (t':=s.toks) (λb o hb e=>eb b o hb e) f0 f1 f3 f4 f5⟩
 self:=λ_ _ _ _ _ st h=>wpAny_pyIter_rangeiter st h
section
variable {X:Cx}{tg:Expr}
def zd(K:W.Frag)(tl:TE):TI:=λσ H R=>tl σ H λx H1=>∃a,x=.ref a/\(∃xs,SqL K H1 a xs)/\R (Itl K a) H1
def zb(K:W.Frag)(tl:TE):TI:=λσ H R=>tl σ H λx H1=>∃a,x=.ref a/\(∃xs,SqT K H1 a xs)/\R (Itt K a) H1
theorem cu{l:Expr}{tl:TE}(hl:PE X l tl):PI X tg l (zd X.K tl):=by
 intro pins s σ H R I h;refine thn (hl pins s σ H _ I h) λv s1 ⟨x,H1,I1,r1,q1⟩=>?_;obtain⟨a,e,⟨xs,hq⟩,q⟩:=q1;subst e;cases r1;obtain⟨its,rv,p,hz⟩:=I1.list hq;refine wpAny_pyIter_list p.isList ?_;refine⟨s1.heap.objs.size,[s1.heap.objs.size],_,_,H1,U,I1.kept (t':=s1.toks) λb o e=>qa _ e,tN a _,⟨_,qp _ U,U,U⟩,λb hb=>?_,q⟩;have e:b=s1.heap.objs.size:=by simpa using hb
 subst e;exact I1.fpOk (qe _) (I1.hok.fresh (qe _))
theorem gC{l:Expr}{tl:TE}(hl:PE X l tl):PI X tg l (zb X.K tl):=by
 intro pins s σ H R I h;refine thn (hl pins s σ H _ I h) λv s1 ⟨x,H1,I1,r1,q1⟩=>?_;obtain⟨a,e,⟨xs,hq⟩,q⟩:=q1;subst e;cases r1;obtain⟨its,rv,p,hz⟩:=I1.tuple hq;refine wpAny_pyIter_tuple (show s1.heap.IsTuple a its.toArray from p) ?_;refine⟨s1.heap.objs.size,[s1.heap.objs.size],_,_,H1,U,I1.kept (t':=s1.toks) λb o e=>qa _ e,tK a _,⟨_,qp _ U,U,U⟩,λb hb=>?_,q⟩;have e:b=s1.heap.objs.size:=by simpa using hb
 subst e;exact I1.fpOk (qe _) (I1.hok.fresh (qe _))
theorem vx{pins:List (Addr×Obj)}{σ:St}{H:Hp}{s:Shared}{R:It->Hp->Prop}{E:Yd}{lo hi:Int}{t u v:Tok}{tk:Nat}(I:Inv X pins σ H s)(h1:-(2 ^ 62)<=lo)(h2:lo<2 ^ 62)(h3:-(2 ^ 62)<=hi)(h4:hi<2 ^ 62)
 (q:R (Itr lo (hi-lo).toNat) H):wpAny (model X.prog X.w) X.A (pyIter (.ref s.heap.objs.size)) (PIE X pins σ tg R) E { s with heap:=s.heap.push { cls:=.type "range",data:=.fields #[.int lo t,.int hi u,.int 1 v] },toks:=tk }:=by
 refine wpAny_pyIter_range (IsRange.new ..) (small_one h1 h2 h3 h4) ?_;have I1:Inv X pins σ H { s with heap:=s.heap.push { cls:=.type "range",data:=.fields #[.int lo t,.int hi u,.int 1 v] },toks:=tk }:=I.kept λb o e=>qa _ e
 refine⟨(s.heap.push { cls:=.type "range",data:=.fields #[.int lo t,.int hi u,.int 1 v] }).objs.size,[(s.heap.push { cls:=.type "range",data:=.fields #[.int lo t,.int hi u,.int 1 v] }).objs.size],_,_,H,U,
  I1.kept (t':=tk) λb o e=>qa _ e,tM _ lo (hi-lo).toNat,?_,λb hb=>?_,q⟩
 ·have e1:lo+((0:Nat):Int) * 1=lo:=by simp
  have e2:(((hi-lo).toNat:Nat):Int)-((0:Nat):Int)=Builtin.Range.rangeSize lo hi 1:=by rw[rangeSize_one];split<;>omega
  show IsRangeIter _ _ (lo+((0:Nat):Int) * 1) ((((hi-lo).toNat:Nat):Int)-((0:Nat):Int)) 1;rw[e1,e2];exact qp _ U
 ·have e:b=(s.heap.push { cls:=.type "range",data:=.fields #[.int lo t,.int hi u,.int 1 v] }).objs.size:=by simpa using hb
  subst e;exact I1.fpOk (qe _) (I1.hok.fresh (qe _))
def lD(ta:TA):TI:=λσ H R=>ta σ H λvs H1=>∃j:Int,vs=[.int j]/\-(2 ^ 62)<=j/\j<2 ^ 62/\R (Itr 0 j.toNat) H1
theorem wf{a:Expr}{ta:TA}{p pos:Pos}(hg:Gl X "range")(hm:X.mg "range"=none)(ha:PA X [a] ta)(hs:starEach [a] X.env=[(false,eval a X.env)]:=by rfl):PI X tg (.Call (.Name "range" p) [a] [] pos) (lD ta):=by
 intro pins s σ H R I h;refine Call_ (dk I hg hm boot_range (PyProof.Rows.callWith_type1 (thn (ha pos pins s σ H _ I h) λus s1 ⟨vs,H1,I1,r1,q1⟩=>?_) hs U));obtain⟨j,e,q1,q2,q⟩:=q1;subst e
 cases r1 with
 |cons r rr=>
  cases rr;obtain⟨t,rfl⟩:=r;exact call_range_1 (vx I1 Qw Qw q1 q2 (by simpa using q))
def u7(wi:TI)(g:TG)(tb:TS):TS:=λD σ H=>wi σ H λJ H1=>∃W:Nat->Nat->St->Hp->Prop,(∃m,W 0 m σ H1)/\∀i m σ H,W i m σ H->
 (J.stop i H/\D.nx σ H)\/(J.go i H/\∃N:St->Hp->Prop,(∀σ' H',N σ' H'->∃m',m'<m/\W (i+1) m' σ' H')/\∀x H',J.yld i H x H'->g x σ H' λσ2 H2=>tb { D with nx:=N,ct:=N,bk:=D.nx } σ2 H2)
def gB(fp:List Addr)(h:Heap):List (Addr×Obj):=fp.filterMap λb=>(h.get? b).map λo=>(b,o)
theorem iB{fp:List Addr}{h:Heap}{b:Addr}{o:Obj}(hb:b∈fp)(e:h.get? b=some o):(b,o)∈gB fp h:=List.mem_filterMap.mpr ⟨b,hb,by rw[e];rfl⟩
theorem y9{fp:List Addr}{h:Heap}{p:Addr×Obj}(hp:p∈gB fp h):p.1∈fp/\h.get? p.1=some p.2:=by
 obtain⟨b,hb,e⟩:=List.mem_filterMap.mp hp
 cases q:h.get? b with
 |none=>rw[q]at e;cases e
 |some o=>
  rw[q]at e;have e':(b,o)=p:=qJ e;subst e';exact⟨hb,q⟩
theorem Inv.pinned{pins:List (Addr×Obj)}{σ:St}{H:Hp}{s:Shared}{fp:List Addr}(I:Inv X pins σ H s)(hf:∀b∈fp,cr X pins H b)(ho:∀b∈fp,∃o,s.heap.get? b=some o/\∀v,o.data≠.cell v):Inv X (pins++gB fp s.heap) σ H s:=
 I.pins_of λp hp=>(qh.mp hp).elim (λz=>I.pin p (qI _ z)) λz=>by
  obtain⟨hb,e⟩:=y9 z;obtain⟨f0,f1,f2,_⟩:=hf p.1 hb;obtain⟨o,e',d⟩:=ho p.1 hb;rw[e]at e';cases e';exact⟨e,f0,f1,f2,d⟩
theorem Inv.unpinned{pins pl:List (Addr×Obj)}{σ:St}{H:Hp}{s:Shared}(I:Inv X (pins++pl) σ H s):Inv X pins σ H s:=I.pins_of λp hp=>I.pin p (qI _ (qV _ hp))
theorem cI{iter:Expr}{body:List Stmt}{wi:TI}{g:TG}{tb:TS}{pos:Pos}(hp:PassesOwn (model X.prog X.w) X.A X.env X.xe)(hc:X.calm=true)(hi:PI X tg iter wi)(hg:PG X tg g)(hb:PSs X body tb)
 (hs:∀x,foldedSetIterable iter X.env x=pure x:=by intro _;rfl):PS X (.For tg iter body [] pos) (u7 wi g tb):=by
 intro pins s σ H D I h;refine wpAny_For (thn (hi pins s σ H _ I h) λv s1 h1=>thn h1 λitv s2 h2=>?_) hs;obtain⟨it,fp,tn,J,H2,e,I2,T,st2,f2,W,⟨m0,w0⟩,turn⟩:=h2;subst e;have stat:∀{H':Hp},(∀b∈fp,H' b=none)->∀b∈fp,cr X pins H' b:=λhn b hb=>⟨hn b hb,(f2 b hb).2⟩;refine codeAny_forLoop_any (λn s'=>∃i σ' H',Inv X pins σ' H' s'/\tn i s'.heap/\(∀b∈fp,H' b=none)/\W i n σ' H') ?_ m0 ⟨0,σ,H2,I2,st2,λb hb=>(f2 b hb).1,w0⟩;rintro n s3 ⟨i,σ3,H3,I3,st3,fr3,w3⟩;rcases turn i n σ3 H3 w3 with⟨stop,qn⟩|⟨go,N,hN,step⟩
 ·refine wpAny_passesOwn hp (thn (T.done X U U U hc i pins s3 σ3 H3 X.xe I3 (stat fr3) st3 stop) λr s4 ⟨hr,I4⟩=>?_);subst hr;exact wpAny_execs_nil ⟨σ3,H3,I4,qn⟩
 ·refine wpAny_passesOwn hp (thn (T.item X U U U hc i pins s3 σ3 H3 X.xe I3 (stat fr3) st3 go) λr s4 ⟨u,hr,h4⟩=>?_);subst hr;refine wpAny_passesOwn hp (thn h4 λ_ s5 ⟨x,H5,I5,r5,y5,st5,fr5⟩=>?_);have I5':=I5.pinned (stat fr5) (T.obj _ _ st5);refine wpAny_passesOwn hp (thn (hg _ s5 σ3 H5 x u _ I5' r5 (step x H5 y5)) λ_ s6 ⟨σ6,H6,I6,q6⟩=>?_);refine wpAny_passesOwn hp (thn (hb _ s6 σ6 H6 _ I6 q6) λf s7 q7=>?_)
  have again:∀{σ7:St}{H7:Hp},Inv X (pins++gB fp s5.heap) σ7 H7 s7->N σ7 H7->∃m,m<n/\∃i σ' H',Inv X pins σ' H' s7/\tn i s7.heap/\(∀b∈fp,H' b=none)/\W i m σ' H':=λ{σ7 H7} I7 n7=>by
   obtain⟨m',hm,w7⟩:=hN σ7 H7 n7;refine⟨m',hm,i+1,σ7,H7,I7.unpinned,T.keep _ _ _ st5 λb hb o e=>(I7.pin (b,o) (qI _ (qI _ (iB hb e)))).1,λb hb=>?_,w7⟩;obtain⟨o,e,d⟩:=T.obj _ _ st5 b hb;exact(I7.pin (b,o) (qI _ (qI _ (iB hb e)))).2.1
  cases f with
  |next=>obtain⟨σ7,H7,I7,n7⟩:=q7;exact again I7 n7
  |cont=>obtain⟨σ7,H7,I7,n7⟩:=q7;exact again I7 n7
  |brk=>obtain⟨σ7,H7,I7,q7⟩:=q7;exact⟨σ7,H7,I7.unpinned,q7⟩
  |ret v=>obtain⟨x7,σ7,H7,I7,r7,q7⟩:=q7;exact⟨x7,σ7,H7,I7.unpinned,r7,q7⟩
end
theorem gO{K:W.Frag}{a:Addr}{xs:List V}{g:TG}{tb:TS}{D:dD}{σ:St}{H:Hp}(Pv:Nat->St->Hp->Prop)(h0:Pv 0 σ H)(hl:∀i σ H,i<=xs.length->Pv i σ H->SqL K H a xs)
 (hs:∀i x σ H,xs[i]?=some x->Pv i σ H->g x σ H λσ2 H2=>tb { D with nx:=Pv (i+1),ct:=Pv (i+1),bk:=D.nx } σ2 H2) (hd:∀σ H,Pv xs.length σ H->D.nx σ H):
 ∃W:Nat->Nat->St->Hp->Prop,(∃m,W 0 m σ H)/\∀i m σ H,W i m σ H->
  ((Itl K a).stop i H/\D.nx σ H)\/((Itl K a).go i H/\∃N:St->Hp->Prop,(∀σ' H',N σ' H'->∃m',m'<m/\W (i+1) m' σ' H')/\∀x H',(Itl K a).yld i H x H'->g x σ H' λσ2 H2=>tb { D with nx:=N,ct:=N,bk:=D.nx } σ2 H2):=by
 refine⟨λi m σ H=>m=xs.length-i/\i<=xs.length/\Pv i σ H,⟨xs.length,by simp,qt _,h0⟩,?_⟩;rintro i m σ H ⟨rfl,hi,p⟩;have q:=hl i σ H hi p;by_cases hlt:i<xs.length
 ·refine .inr ⟨⟨xs,xs[i],q,by simp[hlt]⟩,Pv (i+1),λσ' H' p'=>⟨xs.length-(i+1),Qw,U,hlt,p'⟩,λx H' y=>?_⟩;obtain⟨e,y⟩:=y;subst e;exact hs i x σ _ (y xs q) p
 ·have e:i=xs.length:=by omega
  subst e;exact .inl ⟨⟨xs,q,qe _⟩,hd σ H p⟩
theorem iN{K:W.Frag}{a:Addr}{xs:List V}{g:TG}{tb:TS}{D:dD}{σ:St}{H:Hp}(Pv:Nat->St->Hp->Prop)(h0:Pv 0 σ H)(hl:∀i σ H,i<=xs.length->Pv i σ H->SqT K H a xs)
 (hs:∀i x σ H,xs[i]?=some x->Pv i σ H->g x σ H λσ2 H2=>tb { D with nx:=Pv (i+1),ct:=Pv (i+1),bk:=D.nx } σ2 H2) (hd:∀σ H,Pv xs.length σ H->D.nx σ H):
 ∃W:Nat->Nat->St->Hp->Prop,(∃m,W 0 m σ H)/\∀i m σ H,W i m σ H->
  ((Itt K a).stop i H/\D.nx σ H)\/((Itt K a).go i H/\∃N:St->Hp->Prop,(∀σ' H',N σ' H'->∃m',m'<m/\W (i+1) m' σ' H')/\∀x H',(Itt K a).yld i H x H'->g x σ H' λσ2 H2=>tb { D with nx:=N,ct:=N,bk:=D.nx } σ2 H2):=by
 refine⟨λi m σ H=>m=xs.length-i/\i<=xs.length/\Pv i σ H,⟨xs.length,by simp,qt _,h0⟩,?_⟩;rintro i m σ H ⟨rfl,hi,p⟩;have q:=hl i σ H hi p;by_cases hlt:i<xs.length
 ·refine .inr ⟨⟨xs,xs[i],q,by simp[hlt]⟩,Pv (i+1),λσ' H' p'=>⟨xs.length-(i+1),Qw,U,hlt,p'⟩,λx H' y=>?_⟩;obtain⟨e,y⟩:=y;subst e;exact hs i x σ _ (y xs q) p
 ·have e:i=xs.length:=by omega
  subst e;exact .inl ⟨⟨xs,q,qe _⟩,hd σ H p⟩
theorem iO{lo:Int}{n:Nat}{g:TG}{tb:TS}{D:dD}{σ:St}{H:Hp}(Pv:Nat->St->Hp->Prop)(h0:Pv 0 σ H)
 (hs:∀i σ H,i<n->Pv i σ H->g (.int (lo+i)) σ H λσ2 H2=>tb { D with nx:=Pv (i+1),ct:=Pv (i+1),bk:=D.nx } σ2 H2) (hd:∀σ H,Pv n σ H->D.nx σ H):
 ∃W:Nat->Nat->St->Hp->Prop,(∃m,W 0 m σ H)/\∀i m σ H,W i m σ H->
  ((Itr lo n).stop i H/\D.nx σ H)\/((Itr lo n).go i H/\∃N:St->Hp->Prop,(∀σ' H',N σ' H'->∃m',m'<m/\W (i+1) m' σ' H')/\∀x H',(Itr lo n).yld i H x H'->g x σ H' λσ2 H2=>tb { D with nx:=N,ct:=N,bk:=D.nx } σ2 H2):=by
 refine⟨λi m σ H=>m=n-i/\i<=n/\Pv i σ H,⟨n,by simp,qt _,h0⟩,?_⟩;rintro i m σ H ⟨rfl,hi,p⟩;by_cases hlt:i<n
 ·refine .inr ⟨hlt,Pv (i+1),λσ' H' p'=>⟨n-(i+1),Qw,U,hlt,p'⟩,λx H' y=>?_⟩;obtain⟨e,y⟩:=y;subst e y;exact hs i σ _ hlt p
 ·have e:i=n:=by omega
  subst e;exact .inl ⟨qe _,hd σ H p⟩
abbrev R2:=V->V->Hp->VK->Prop
def OpR(X:Cx)(f:Value->Value->Sem Value)(r:R2):Prop:=
 ∀(pins:List (Addr×Obj))(s:Shared)(σ:St)(H:Hp)(x y:V)(v u:Value)(Q:VK),Inv X pins σ H s->aG x v->aG y u->r x y H Q->
  wpAny (model X.prog X.w) X.A (f v u) (EP X pins σ Q) X.xe s
def UnR(X:Cx)(f:Value->Sem Value)(r:V->Hp->VK->Prop):Prop:=
 ∀(pins:List (Addr×Obj))(s:Shared)(σ:St)(H:Hp)(x:V)(v:Value)(Q:VK),Inv X pins σ H s->aG x v->r x H Q->
  wpAny (model X.prog X.w) X.A (f v) (EP X pins σ Q) X.xe s
def cs(X:Cx)(f:Value)(r:List V->Hp->VK->Prop):Prop:=
 ∀(pins:List (Addr×Obj))(s:Shared)(σ:St)(H:Hp)(xs:List V)(us:List Value)(Q:VK),Inv X pins σ H s->ar xs us->r xs H Q->
  wpAny (model X.prog X.w) X.A (call f us) (EP X pins σ Q) X.xe s
def TruR(X:Cx)(r:V->Hp->(Bool->Hp->Prop)->Prop):Prop:=
 ∀(pins:List (Addr×Obj))(s:Shared)(σ:St)(H:Hp)(x:V)(v:Value)(Q:Bool->Hp->Prop),Inv X pins σ H s->aG x v->r x H Q->
  wpAny (model X.prog X.w) X.A (truthy v) (TP X pins σ Q) X.xe s
def tOp(r:R2)(ta tb:TE):TE:=λσ H Q=>ta σ H λx H1=>tb σ H1 λy H2=>r x y H2 Q
def rI(C:Int->Int->Prop)(g:Int->Int->V):R2:=λx y H Q=>∃i j,x=.int i/\y=.int j/\C i j/\Q (g i j) H
def rI0(g:Int->Int->V):R2:=λx y H Q=>∃i j,x=.int i/\y=.int j/\Q (g i j) H
section
variable {X:Cx}{a b c:Expr}{ta tb tc:TE}{pos:Pos}
theorem lS(ha:PE X a ta)(hb:PE X b tb){pins:List (Addr×Obj)}{s:Shared}{σ:St}{H:Hp}{R:V->V->Hp->Prop}(I:Inv X pins σ H s)
 (h:ta σ H λx H1=>tb σ H1 λy H2=>R x y H2) {Q:Yd}{f:Value->Value->Sem Value}
 (hf:∀v u s2 x y H2,Inv X pins σ H2 s2->aG x v->aG y u->R x y H2->wpAny (model X.prog X.w) X.A (f v u) Q X.xe s2):
 wpAny (model X.prog X.w) X.A (eval a X.env) (λv s₁=>wpAny (model X.prog X.w) X.A (eval b X.env) (λu s₂=>wpAny (model X.prog X.w) X.A (f v u) Q X.xe s₂) X.xe s₁) X.xe s:=by
 refine thn (ha pins s σ H _ I h) λv s1 ⟨x,H1,I1,r1,q1⟩=>?_;refine thn (hb pins s1 σ H1 _ I1 q1) λu s2 ⟨y,H2,I2,r2,q2⟩=>?_;exact hf v u s2 x y H2 I2 r1 r2 q2
theorem ah{op:Operator}{r:R2}(ho:OpR X (binaryOp op) r)(ha:PE X a ta)(hb:PE X b tb):PE X (.BinOp a op b pos) (tOp r ta tb):=by
 intro pins s σ H Q I h;exact wpAny_BinOp (lS ha hb I h λv u s2 x y H2 I2 rx ry q=>ho pins s2 σ H2 x y v u Q I2 rx ry q)
theorem opI{f:Value->Value->Sem Value}{C:Int->Int->Prop}{g:Int->Int->Int}
 (rule:∀(i j:Int)(t u:Tok)(s:Shared)(Q:Yd)(E:Yd),C i j->Q (.int (g i j) s.toks) { s with toks:=s.toks+1 }->wpAny (model X.prog X.w) X.A (f (.int i t) (.int j u)) Q E s):
 OpR X f (rI C λi j=>.int (g i j)):=by
 intro pins s σ H x y v u Q I rx ry h;obtain⟨i,j,rfl,rfl,hc,q⟩:=h;obtain⟨t,rfl⟩:=rx;obtain⟨t',rfl⟩:=ry;exact rule i j t t' s _ _ hc ⟨.int (g i j),H,I.tok _,⟨_,U⟩,q⟩
theorem gG{f:Value->Value->Sem Value}{g:Int->Int->Int}
 (rule:∀(i j:Int)(t u:Tok)(s:Shared)(Q:Yd)(E:Yd),Q (.int (g i j) s.toks) { s with toks:=s.toks+1 }->wpAny (model X.prog X.w) X.A (f (.int i t) (.int j u)) Q E s):
 OpR X f (rI0 λi j=>.int (g i j)):=by
 intro pins s σ H x y v u Q I rx ry h;obtain⟨i,j,rfl,rfl,q⟩:=h;obtain⟨t,rfl⟩:=rx;obtain⟨t',rfl⟩:=ry;exact rule i j t t' s _ _ ⟨.int (g i j),H,I.tok _,⟨_,U⟩,q⟩
theorem iu{f:Value->Value->Sem Value}{g:Int->Int->Bool}
 (rule:∀(i j:Int)(t u:Tok)(s:Shared)(Q:Yd)(E:Yd),Q (.bool (g i j)) s->wpAny (model X.prog X.w) X.A (f (.int i t) (.int j u)) Q E s):
 OpR X f (rI0 λi j=>.bl (g i j)):=by
 intro pins s σ H x y v u Q I rx ry h;obtain⟨i,j,rfl,rfl,q⟩:=h;obtain⟨t,rfl⟩:=rx;obtain⟨t',rfl⟩:=ry;exact rule i j t t' s _ _ ⟨.bl (g i j),H,I,U,q⟩
def Aj(i j:Int):Prop:=0<j/\j<1073741824
def Ai(i j:Int):Prop:=0<=j/\j<=1000000/\i.natAbs<2 ^ 64
theorem wV:OpR X (binaryOp .Add) (rI0 λi j=>.int (i+j)):=gG λ_ _ _ _ _ _ _ q=>add_int q
theorem wB:OpR X (binaryOp .Sub) (rI0 λi j=>.int (i-j)):=gG λ_ _ _ _ _ _ _ q=>sub_int q
theorem wO:OpR X (binaryOp .FloorDiv) (rI Aj λi j=>.int (i / j)):=opI λi j _ _ _ _ _ hc q=>by
 have h1:(0:Int)<j:=hc.1;have h2:j<1073741824:=hc.2;exact floordiv_int Qw (by rw[Int.fdiv_eq_ediv_of_nonneg i Qw];exact q) (.inl (PyProof.noPylong_small Qw))
theorem wI:OpR X (binaryOp .Mod) (rI (λ_ j=>0<j) λi j=>.int (i % j)):=opI λi j _ _ _ _ _ hc q=>by
 have h1:(0:Int)<j:=hc;exact mod_int' Qw (by rw[Int.fmod_eq_emod_of_nonneg i Qw];exact q)
theorem wC:OpR X (binaryOp .Pow) (rI Ai λi j=>.int (i ^ j.toNat)):=opI λ_ _ _ _ _ _ _ hc q=>pow_int_small hc.1 hc.2.1 hc.2.2 q
theorem wU:OpR X (binaryOp .BitAnd) (rI0 λi j=>.int (Builtin.bitAnd i j)):=gG λ_ _ _ _ _ _ _ q=>and_int q
theorem wD:OpR X (binaryOp .BitOr) (rI0 λi j=>.int (Builtin.bitOr i j)):=gG λ_ _ _ _ _ _ _ q=>or_int q
theorem wA:OpR X (binaryOp .BitXor) (rI0 λi j=>.int (Builtin.bitXor i j)):=gG λ_ _ _ _ _ _ _ q=>xor_int q
end
def hV:V->V->Bool
 |.non,.non=>true|.non,.int _=>true|.int _,.non=>true|.non,.bl _=>true|.bl _,.non=>true|.non,.str _=>true|.str _,.non=>true
 |.int _,.int _=>true|.bl _,.bl _=>true|.str _,.str _=>true|.byt _,.byt _=>true
 |.int _,.str _=>true|.str _,.int _=>true|.bl _,.str _=>true|.str _,.bl _=>true
 |_,_=>false
def rEq:R2:=λx y H Q=>hV x y=true/\Q (.bl (decide (x=y))) H
def rNe:R2:=λx y H Q=>hV x y=true/\Q (.bl (!decide (x=y))) H
theorem su{i j:Int}:decide (V.int i=V.int j)=(i == j):=by
 rw[Bool.eq_iff_iff];simp
theorem sw{i j:Bool}:decide (V.bl i=V.bl j)=(i == j):=by
 rw[Bool.eq_iff_iff];simp
theorem ss{i j:Str}:decide (V.str i=V.str j)=(i == j):=by
 rw[Bool.eq_iff_iff];simp
theorem sv{i j:Array UInt8}:decide (V.byt i=V.byt j)=(i.toList == j.toList):=by
 rw[Bool.eq_iff_iff];cases i;cases j;simp
section
variable {X:Cx}{a b c:Expr}{ta tb tc:TE}{pos:Pos}
theorem bq{pins:List (Addr×Obj)}{σ:St}{H:Hp}{s:Shared}{Q:VK}{k k':Bool}(I:Inv X pins σ H s)(q:Q (.bl k) H)(e:k=k'):EP X pins σ Q (.bool k') s:=by
 subst e;exact⟨.bl k,H,I,U,q⟩
theorem wQ:OpR X (compareOp .Eq) rEq:=by
 intro pins s σ H x y v u Q I rx ry h;obtain⟨hs,q⟩:=h
 cases x with
 |non=>
  cases rx
  cases y with
  |non=>cases ry;exact PySem.EqNone.eq_none_none (bq I q (by simp))
  |bl j=>cases ry;exact PySem.EqNone.eq_none_bool (bq I q (by simp))
  |int j=>obtain⟨t',rfl⟩:=ry;exact PySem.EqNone.eq_none_int (bq I q (by simp))
  |str j=>obtain⟨t',rfl⟩:=ry;exact PySem.EqNone.eq_none_str (bq I q (by simp))
  |_=>exact Q4 (show false=true from hs) qi
 |bl i=>
  cases rx
  cases y with
  |non=>cases ry;exact PySem.EqNone.eq_bool_none (bq I q (by simp))
  |bl j=>cases ry;exact eq_bool (bq I q sw)
  |str j=>obtain⟨t',rfl⟩:=ry;exact PySem.EqMixed.eq_bool_str (bq I q (by simp))
  |_=>exact Q4 (show false=true from hs) qi
 |int i=>
  obtain⟨t,rfl⟩:=rx
  cases y with
  |non=>cases ry;exact PySem.EqNone.eq_int_none (bq I q (by simp))
  |int j=>obtain⟨t',rfl⟩:=ry;exact eq_int (bq I q su)
  |str j=>obtain⟨t',rfl⟩:=ry;exact PySem.EqMixed.eq_int_str (bq I q (by simp))
  |_=>exact Q4 (show false=true from hs) qi
 |str i=>
  obtain⟨t,rfl⟩:=rx
  cases y with
  |non=>cases ry;exact PySem.EqNone.eq_str_none (bq I q (by simp))
  |bl j=>cases ry;exact PySem.EqMixed.eq_str_bool (bq I q (by simp))
  |int j=>obtain⟨t',rfl⟩:=ry;exact PySem.EqMixed.eq_str_int (bq I q (by simp))
  |str j=>obtain⟨t',rfl⟩:=ry;exact eq_str (bq I q ss)
  |_=>exact Q4 (show false=true from hs) qi
 |byt i=>
  obtain⟨t,rfl⟩:=rx
  cases y with
  |byt j=>obtain⟨t',rfl⟩:=ry;exact PySem.W.eq_bytes (bq I q sv)
  |_=>exact Q4 (show false=true from hs) qi
 |_=>cases y<;>exact Q4 (show false=true from hs) qi
theorem wG:OpR X (compareOp .NotEq) rNe:=by
 intro pins s σ H x y v u Q I rx ry h;obtain⟨hs,q⟩:=h
 cases x with
 |non=>
  cases rx
  cases y with
  |non=>cases ry;exact PySem.EqNone.ne_none_none (bq I q (by simp))
  |bl j=>cases ry;exact PySem.EqNone.ne_none_bool (bq I q (by simp))
  |int j=>obtain⟨t',rfl⟩:=ry;exact PySem.EqNone.ne_none_int (bq I q (by simp))
  |str j=>obtain⟨t',rfl⟩:=ry;exact PySem.EqNone.ne_none_str (bq I q (by simp))
  |_=>exact Q4 (show false=true from hs) qi
 |bl i=>
  cases rx
  cases y with
  |non=>cases ry;exact PySem.EqNone.ne_bool_none (bq I q (by simp))
  |bl j=>cases ry;exact ne_bool (bq I q (congrArg not sw))
  |str j=>obtain⟨t',rfl⟩:=ry;exact PySem.EqMixed.ne_bool_str (bq I q (by simp))
  |_=>exact Q4 (show false=true from hs) qi
 |int i=>
  obtain⟨t,rfl⟩:=rx
  cases y with
  |non=>cases ry;exact PySem.EqNone.ne_int_none (bq I q (by simp))
  |int j=>obtain⟨t',rfl⟩:=ry;exact ne_int (bq I q (congrArg not su))
  |str j=>obtain⟨t',rfl⟩:=ry;exact PySem.EqMixed.ne_int_str (bq I q (by simp))
  |_=>exact Q4 (show false=true from hs) qi
 |str i=>
  obtain⟨t,rfl⟩:=rx
  cases y with
  |non=>cases ry;exact PySem.EqNone.ne_str_none (bq I q (by simp))
  |bl j=>cases ry;exact PySem.EqMixed.ne_str_bool (bq I q (by simp))
  |int j=>obtain⟨t',rfl⟩:=ry;exact PySem.EqMixed.ne_str_int (bq I q (by simp))
  |str j=>obtain⟨t',rfl⟩:=ry;exact ne_str (bq I q (congrArg not ss))
  |_=>exact Q4 (show false=true from hs) qi
 |byt i=>
  obtain⟨t,rfl⟩:=rx
  cases y with
  |byt j=>obtain⟨t',rfl⟩:=ry;exact PySem.W.ne_bytes (bq I q (congrArg not sv))
  |_=>exact Q4 (show false=true from hs) qi
 |_=>cases y<;>exact Q4 (show false=true from hs) qi
theorem wJ:OpR X (compareOp .Lt) (rI0 λi j=>.bl (decide (i<j))):=iu λ_ _ _ _ _ _ _ q=>lt_int q
theorem wK:OpR X (compareOp .LtE) (rI0 λi j=>.bl (decide (i<=j))):=iu λ_ _ _ _ _ _ _ q=>le_int q
theorem wM:OpR X (compareOp .Gt) (rI0 λi j=>.bl (decide (j<i))):=iu λ_ _ _ _ _ _ _ q=>gt_int q
theorem wN:OpR X (compareOp .GtE) (rI0 λi j=>.bl (decide (j<=i))):=iu λ_ _ _ _ _ _ _ q=>ge_int q
theorem wL:OpR X (compareOp .Is) (λx y H Q=>y=.non/\Q (.bl (decide (x=.non))) H):=by
 intro pins s σ H x y v u Q I rx ry h;obtain⟨rfl,q⟩:=h;cases ry;refine is_none_gen (bq I q ?_)
 cases x<;>first
  |(cases rx;rfl)
  |(obtain⟨t,rfl⟩:=rx;rfl)
theorem wF:OpR X (compareOp .IsNot) (λx y H Q=>y=.non/\Q (.bl (!decide (x=.non))) H):=by
 intro pins s σ H x y v u Q I rx ry h;obtain⟨rfl,q⟩:=h;cases ry;refine isnot_none_gen (bq I q ?_)
 cases x<;>first
  |(cases rx;rfl)
  |(obtain⟨t,rfl⟩:=rx;rfl)
theorem az(b:Expr){op:CmpOp}(h:op≠.In:=by decide)(h2:op≠.NotIn:=by decide):behindInMarks op b=false:=by
 have e1:(op == CmpOp.In)=false:=by cases op<;>first|rfl|exact Q4 U h
 have e2:(op == CmpOp.NotIn)=false:=by cases op<;>first|rfl|exact Q4 U h2
 cases b<;>simp[behindInMarks,e1,e2]
theorem fQ{op:CmpOp}{r:R2}(ho:OpR X (compareOp op) r)(ha:PE X a ta)(hb:PE X b tb)(hm:behindInMarks op b=false):PE X (.Compare a [op] [b] pos) (tOp r ta tb):=by
 intro pins s σ H Q I h;exact wpAny_Compare1 (lS ha hb I h λv u s2 x y H2 I2 rx ry q=>ho pins s2 σ H2 x y v u Q I2 rx ry q) hm
def j6(t:TE):TT:=λσ H Q=>t σ H λx H'=>∃k,x=.bl k/\Q k H'
theorem vX{op:CmpOp}{r:R2}(ho:OpR X (compareOp op) r)(ha:PE X a ta)(hb:PE X b tb)(hm:behindInMarks op b=false):PT X (.Compare a [op] [b] pos) (j6 (tOp r ta tb)):=by
 intro pins s σ H Q I h
 refine wpAny_isTrue_Compare1 (thn (ha pins s σ H _ I h) λv s1 ⟨x,H1,I1,r1,q1⟩=>thn (hb pins s1 σ H1 _ I1 q1) λu s2 ⟨y,H2,I2,r2,q2⟩=>
  thn (ho pins s2 σ H2 x y v u _ I2 r1 r2 q2) λc s3 ⟨z,H3,I3,r3,k,e,q3⟩=>?_) hm
 subst e;cases r3;exact wpAny_truthy_bool ⟨H3,I3,q3⟩
theorem gL:(sizeLine:Nat)<2 ^ 63:=by rw[sizeLine_eq];decide
theorem dO{x:V}{us:List Value}(r:ar [x] us):∃u,us=[u]/\aG x u:=by
 cases r with
 |cons r1 r2=>cases r2;exact⟨_,U,r1⟩
theorem gY{x y:V}{us:List Value}(r:ar [x,y] us):∃u w',us=[u,w']/\aG x u/\aG y w':=by
 cases r with
 |cons r1 r2=>
  cases r2 with
  |cons r3 r4=>cases r4;exact⟨_,_,U,r1,r3⟩
theorem A0(hc:X.calm=true):cs X (.builtin "max") (λxs H Q=>∃i j,xs=[.int i,.int j]/\Q (.int (if j > i then j else i)) H):=by
 intro pins s σ H xs us Q I r h;obtain⟨i,j,rfl,q⟩:=h;obtain⟨u,w',rfl,⟨t,rfl⟩,⟨t',rfl⟩⟩:=gY r;refine max_two_ints (I.ok.hd hc) λh' tk k=>⟨_,H,I.kept k,?_,q⟩;by_cases hj:j > i
 ·rw[Q0 hj,Q0 hj];exact⟨_,U⟩
 ·rw[qZ hj,qZ hj];exact⟨_,U⟩
theorem zZ(hc:X.calm=true):cs X (.builtin "min") (λxs H Q=>∃i j,xs=[.int i,.int j]/\Q (.int (if j<i then j else i)) H):=by
 intro pins s σ H xs us Q I r h;obtain⟨i,j,rfl,q⟩:=h;obtain⟨u,w',rfl,⟨t,rfl⟩,⟨t',rfl⟩⟩:=gY r;refine min_two_ints (I.ok.hd hc) λh' tk k=>⟨_,H,I.kept k,?_,q⟩;by_cases hj:j<i
 ·rw[Q0 hj,Q0 hj];exact⟨_,U⟩
 ·rw[qZ hj,qZ hj];exact⟨_,U⟩
end
structure fA(h:Heap)(x dx C:Addr)(mA:Str->Option Value):Prop where
 obj:h.get? x=some (PySem.W.instObj C dx)
 ns:h.Ns1 dx mA
 ne:dx≠x
theorem yw{h:Heap}{dx:Addr}{mA:Str->Option Value}(n:h.Ns1 dx mA):∃od,h.get? dx=some od/\∀name,PySem.W.lookIn name od=some (mA name):=by
 obtain⟨o,es,ep,ho,hd,hk,_,hm⟩:=n;refine⟨o,ho,λname=>?_⟩;have e:=hm name;unfold nsFind findBy at e;rw[<- Array.find?_toList]at e;unfold PySem.W.lookIn;rw[hd];dsimp only;split
 ·rename_i y q;rw[q]at e;exact congrArg some e
 ·rename_i q;rw[q]at e
  have a:es.toList.any (·.refKey)=false:=by
   rw[List.any_eq_false];intro y hy;obtain⟨z,t,hkey⟩:=hk y (Array.mem_toList_iff.mp hy);simp[DictEntry.refKey,hkey]
  have a':¬ es.toList.any (·.refKey)=true:=by rw[a];exact qi
  rw[qZ a'];exact congrArg some e
theorem fA.look{h:Heap}{x dx C:Addr}{mA:Str->Option Value}(I:fA h x dx C mA):∃od,PySem.W.InstAt h x (PySem.W.instObj C dx) C (some od)/\∀name,PySem.W.lookIn name od=some (mA name):=
 let ⟨od,ho,hl⟩:=yw I.ns
 ⟨od,⟨I.obj,U,U,ho⟩,hl⟩
section
variable {prog:Program}{w:World}{A:Around}{E:Yd}{s:Shared}{K:W.Frag}{x dx C f:Addr}{mA:Str->Option Value}{name:Str}{v:Value}
theorem zq{expr:Bool}{Q:Yd}(X:K.In s.heap)(I:fA s.heap x dx C mA)(hg:PySem.W.plainGet K C name=true)(hh:PySem.W.hasDictIn K C=true)
 (ha:PySem.W.findIn K (.ref C) name=some none) (hv:mA name=some v) (hv':PySem.W.handedIn v=true) (h:Q v { s with toks:=s.toks+1 }):
 wpAny (model prog w) A (getAttr (.ref x) name expr) Q E s:=by
 obtain⟨od,J,hl⟩:=I.look;exact PySem.W.get_value X J (PySem.W.plainGet_of hg).1 (PySem.W.findObj_own hh ha U (by rw[hl,hv])) hv' h
theorem zp{pl:Sem Bool}{Q:Value×List Value->Shared->Prop}(X:K.In s.heap)(I:fA s.heap x dx C mA)(hg:PySem.W.plainGet K C name=true)
 (hf:PySem.W.findIn K (.ref C) name=some (some (.ref f))) (ht:PySem.W.isFn K (.ref f)=true) (hv:mA name=none) (h:Q (.ref f,[.ref x]) s):
 wpAny (model prog w) A (getMethod (.ref x) name pl) Q E s:=by
 obtain⟨od,J,hl⟩:=I.look;exact PySem.W.method_fn X J (PySem.W.plainGet_of hg).1 (PySem.W.plainGet_of hg).2 hf (beq_iff_eq.mp ht) (by show(PySem.W.lookIn name od).map (·.isSome)=some false;rw[hl,hv];rfl) h
theorem uD{ns:List Str}{Q:Unit->Shared->Prop}(X:K.In s.heap)(I:fA s.heap x dx C mA)
 (hs:PySem.W.findIn K (.ref C) "__setattr__"=some (some (.builtin "object.__setattr__"))) (hp:PySem.W.plainOver K C=true) (ht:PySem.W.takerIn K C name=some none) (hh:PySem.W.hasDictIn K C=true)
 (hw:PySem.Within mA ns) (hsz:ns.length<=sizeLine)
 (h:∀h',fA h' x dx C (λy=>if y=name then some v else mA y)->Heap.SameBut dx s.heap h'->Q () { s with heap:=h',toks:=s.toks+2 }):
 wpAny (model prog w) A (setAttr (.ref x) name v) Q E s:=by
 obtain⟨od,J,hl⟩:=I.look;refine PySem.W.set_plain X J hs (PySem.W.osa_open (s:={ s with toks:=s.toks+1 }) (r:=none) X J hp ht λb=>?_);obtain⟨cd,hc,hd'⟩:=PySem.W.any_some hh;have hx:s.heap.get? x=some ⟨.ref C,some dx,.plain,#[]⟩:=I.obj;refine q5 (qd (q5 (q5 (wpAny_loadPart hx (q5 (PySem.W.Looks.here (s:={ s with toks:=s.toks+1 }) (PySem.W.looks_clsIn X hc) ?_))))));rw[hd'];refine qd (a:=some dx) (q5 (qd (q5 ?_)));refine wpAny_nsSet1 (s:={ s with toks:=s.toks+1 }) I.ns λh' hn2 hs2=>?_;obtain⟨oD,esD,epD,hoD,hdD,hcD⟩:=hn2.count (PySem.Within.cons name v hw);refine q5 (wpAny_lookBehind hoD (by rw[hdD];exact pastItsLine_dict (qy hcD (by rw[qA];omega))) ?_);exact qd (h _ ⟨(hs2.2 _ (Ne.symm I.ne)).trans I.obj,hn2,I.ne⟩ hs2)
theorem ym{R:Result->Shared->Prop}{vs:List Value}{kw:List (Str×Value)}(X:K.In s.heap)(hm:PySem.W.makesIn K C=true)
 (hi:PySem.W.findIn K (.ref C) "__init__"=some (some (.ref f))) (hf:PySem.W.typeIn K (.ref f)=some (.type "function"))
 (h:codeAny (model prog w) (A.under (.builtin "type.__call__" ⟨.ref C::vs,kw⟩)) (.call (.ref f) ⟨.ref (s.heap.objs.size+1)::vs,kw⟩) (PySem.W.InitBack (s.heap.objs.size+1) R)
  { s with heap:=(s.heap.push PySem.W.emptyDict).push (PySem.W.instObj C s.heap.objs.size) }):
 codeAny (model prog w) A (.call (.ref C) ⟨vs,kw⟩) R s:=by
 obtain⟨hh,g,d,t,os⟩:=s;exact PySem.W.make_core (PySem.W.makes_of X hm) (PySem.W.looks_findIn X hi) (λself=>PySem.W.bind_fn X self hf) (.inl U) h
end
def bu(f:Str)(v:V):List (Str×V)->List (Str×V)
 |[]=>[(f,v)]
 |(g,x)::r=>if g=f then(g,v)::r else(g,x)::bu f v r
theorem pZ(f g:Str)(v:V):∀fs:List (Str×V),(bu f v fs).lookup g=if g=f then some v else fs.lookup g
 |[]=>by
  show List.lookup g [(f,v)]=_;by_cases h:g=f
  ·have hb:(g == f)=true:=beq_iff_eq.mpr h;simp only[List.lookup,hb,Q0 h]
  ·have hb:(g == f)=false:=beq_eq_false_iff_ne.mpr h;simp only[List.lookup,hb,qZ h]
 |(k,x)::r=>by
  have ih:=pZ f g v r;rw[show bu f v ((k,x)::r)=(if k=f then(k,v)::r else(k,x)::bu f v r)from rfl];by_cases hk:k=f
  ·rw[Q0 hk];by_cases h:g=k
   ·have hb:(g == k)=true:=beq_iff_eq.mpr h;simp only[List.lookup,hb,Q0 (h.trans hk)]
   ·have hb:(g == k)=false:=beq_eq_false_iff_ne.mpr h;simp only[List.lookup,hb,qZ (λe:g=f=>h (e.trans hk.symm))]
  ·rw[qZ hk];by_cases h:g=k
   ·have hb:(g == k)=true:=beq_iff_eq.mpr h;simp only[List.lookup,hb,qZ (λe:g=f=>hk (h.symm.trans e))]
   ·have hb:(g == k)=false:=beq_eq_false_iff_ne.mpr h;simp only[List.lookup,hb];exact ih
theorem l8(f:Str)(v:V):∀fs:List (Str×V),f∈(bu f v fs).map (·.1)/\∀g,g∈fs.map (·.1)->g∈(bu f v fs).map (·.1)
 |[]=>⟨by simp[bu],λg h=>by simp at h⟩
 |(k,x)::r=>by
  obtain⟨i1,i2⟩:=l8 f v r;rw[show bu f v ((k,x)::r)=(if k=f then(k,v)::r else(k,x)::bu f v r)from rfl];by_cases hk:k=f
  ·rw[Q0 hk];subst hk;exact⟨by simp,λg h=>by simpa using h⟩
  ·rw[qZ hk];refine⟨?_,λg h=>?_⟩
   ·rw[qR];exact qk _ i1
   ·rw[qR]at h ⊢;rcases qu.mp h with e|e
    ·exact qu.mpr (.inl e)
    ·exact qk _ (i2 g e)
theorem qW(f:Str)(v:V):∀fs:List (Str×V),(bu f v fs).length<=fs.length+1
 |[]=>by simp[bu]
 |(k,x)::r=>by
  have ih:=qW f v r;rw[show bu f v ((k,x)::r)=(if k=f then(k,v)::r else(k,x)::bu f v r)from rfl];by_cases hk:k=f
  ·rw[Q0 hk,qA,qA];omega
  ·rw[qZ hk,qA,qA];omega
theorem bW.some_of{v:V}{o:Option Value}(r:bW (some v) o):∃u,o=some u/\aG v u:=by
 cases o with
 |none=>exact(show False from r).elim
 |some u=>exact⟨u,U,r⟩
theorem bW.none_of{o:Option Value}(r:bW none o):o=none:=by
 cases o with
 |none=>rfl
 |some u=>exact(show False from r).elim
theorem zi{v:V}{u:Value}(r:aG v u):PySem.W.handedIn u=true:=by
 cases v with
 |non=>cases(show u=Value.none from r);rfl
 |bl b=>cases(show u=Value.bool b from r);rfl
 |int i=>obtain⟨t,e⟩:=(show ∃t,u=Value.int i t from r);cases e;rfl
 |str x=>obtain⟨t,e⟩:=(show ∃t,u=Value.str x t from r);cases e;rfl
 |byt b=>obtain⟨t,e⟩:=(show ∃t,u=Value.bytes b t from r);cases e;rfl
 |flt b=>obtain⟨t,e⟩:=(show ∃t,u=Value.float b t from r);cases e;rfl
 |ref a=>cases(show u=Value.ref a from r);rfl
 |ty n=>cases(show u=Value.type n from r);rfl
section
variable {P:Program}{w:World}{H H':Hp}{h h':Heap}{a C dx:Addr}{fs fs':List (Str×V)}
theorem lj(hok:HOk P w H h)(e:H a=some (.ins C dx fs)):∃mA,fA h a dx C mA/\(∀f,bW (fs.lookup f) (mA f))/\PySem.Within mA (fs.map (·.1))/\fs.length<=1000/\H dx=some (.own a):=by
 obtain⟨d,z,ne,ob,mA,n,r,q⟩:=(show bP P w H h a (.ins C dx fs)from hok a _ e);exact⟨mA,⟨ob,n,ne⟩,r,q,z,d⟩
end
structure Cls(K:W.Frag)(C:Addr):Prop where
 pg:PySem.W.plainGet K C Str.empty=true
 hd:PySem.W.hasDictIn K C=true
 po:PySem.W.plainOver K C=true
 sa:PySem.W.findIn K (.ref C) "__setattr__"=some (some (.builtin "object.__setattr__"))
theorem Cls.get{K:W.Frag}{C:Addr}(c:Cls K C)(f:Str):PySem.W.plainGet K C f=true:=c.pg
def bc(K:W.Frag)(C:Addr)(f:Str):Prop:=PySem.W.findIn K (.ref C) f=some none
theorem bc.taker{K:W.Frag}{C:Addr}{f:Str}(n:bc K C f):PySem.W.takerIn K C f=some none:=by
 unfold PySem.W.takerIn;rw[show PySem.W.findIn K (.ref C) f=some none from n]
 rfl
structure aP(K:W.Frag)(C:Addr)(m:Str)(f:Addr):Prop where
 at_:PySem.W.findIn K (.ref C) m=some (some (.ref f))
 fn:PySem.W.isFn K (.ref f)=true
 kp:PySem.W.keepIn K (.ref f)=true
section
variable {X:Cx}{pins:List (Addr×Obj)}{σ:St}{H:Hp}{s:Shared}{a C dx:Addr}{fs:List (Str×V)}{f:Str}{v:V}{A:Around}{E:Yd}
theorem zn{b:Bool}{Q:Yd}(I:Inv X pins σ H s)(e:H a=some (.ins C dx fs))(c:Cls X.K C)(n:bc X.K C f)(l:fs.lookup f=some v)
 (h:∀u s',Inv X pins σ H s'->aG v u->Q u s'):wpAny (model X.prog X.w) A (getAttr (.ref a) f b) Q E s:=by
 obtain⟨mA,O,r,_,_,_⟩:=lj I.hok e;obtain⟨u,hu,ru⟩:=bW.some_of (v:=v) (o:=mA f) (by rw[<- l];exact r f);exact zq I.kIn O (c.get f) c.hd n hu (zi ru) (h u _ (I.tok _) ru)
theorem iM{m:Str}{g:Addr}{pl:Sem Bool}{Q:Value×List Value->Shared->Prop}(I:Inv X pins σ H s)(e:H a=some (.ins C dx fs))(c:Cls X.K C)(k:aP X.K C m g)(l:fs.lookup m=none)
 (h:Q (.ref g,[.ref a]) s):wpAny (model X.prog X.w) A (getMethod (.ref a) m pl) Q E s:=by
 obtain⟨mA,O,r,_,_,_⟩:=lj I.hok e;have hn:mA m=none:=bW.none_of (by rw[<- l];exact r m);exact zp I.kIn O (c.get m) k.at_ k.fn hn h
theorem uC{y:V}{u:Value}{Q:Unit->Shared->Prop}(I:Inv X pins σ H s)(e:H a=some (.ins C dx fs))(c:Cls X.K C)(n:bc X.K C f)(hl:fs.length<1000)(ry:aG y u)
 (h:∀s',Inv X pins σ (upd H a (.ins C dx (bu f y fs))) s'->Q () s'):wpAny (model X.prog X.w) A (setAttr (.ref a) f u) Q E s:=by
 obtain⟨mA,O,r,wi,_,ho⟩:=lj I.hok e;have hz:(fs.map (·.1)).length<=sizeLine:=by rw[q9,sizeLine_eq];omega
 refine uD I.kIn O c.sa c.po n.taker c.hd wi hz λh' O' sb=>h _ ?_;have hd:∃o,h'.get? dx=some o:=let ⟨o,_,_,e',_⟩:=O'.ns;⟨o,e'⟩;refine I.write (x:=a) (e:=dx) (by rw[e];exact True.intro) (.inr ho) (λb q hb z=>(sb.2 b hb).trans z) hd ?_;refine⟨by rw[aj O.ne];exact ho,?_,O.ne,O'.obj,_,O'.ns,λg=>?_,λg hg=>?_⟩
 ·have:=qW f y fs;omega
 ·show bW ((bu f y fs).lookup g) (if g=f then some u else mA g);rw[pZ];by_cases q:g=f
  ·rw[Q0 q,Q0 q];exact ry
  ·rw[qZ q,qZ q];exact r g
 ·by_cases q:g=f
  ·rw[q];exact(l8 f y fs).1
  ·refine(l8 f y fs).2 g (wi g λz=>hg ?_);show(if g=f then some u else mA g)=none;rw[qZ q];exact z
theorem Inv.made(I:Inv X pins σ H s):Inv X pins σ (upd (upd H s.heap.objs.size (.own (s.heap.objs.size+1))) (s.heap.objs.size+1) (.ins C s.heap.objs.size []))
 { s with heap:=(s.heap.push PySem.W.emptyDict).push (PySem.W.instObj C s.heap.objs.size) }:=by
 have e1:(s.heap.push PySem.W.emptyDict).get? s.heap.objs.size=some PySem.W.emptyDict:=qp s.heap U
 have e2:((s.heap.push PySem.W.emptyDict).push (PySem.W.instObj C s.heap.objs.size)).get? (s.heap.objs.size+1)=some (PySem.W.instObj C s.heap.objs.size):=by
  have:=qp (s.heap.push PySem.W.emptyDict) (o:=PySem.W.instObj C s.heap.objs.size) U
  rwa [Qf]at this
 have e3:(s.heap.push PySem.W.emptyDict).Ns s.heap.objs.size (λ_=>none):=⟨PySem.W.emptyDict,#[],_,e1,U,(λe he=>Q4 he (by simp)),λ_=>U⟩;have I1:=I.laid (a:=s.heap.objs.size) (o:=.own (s.heap.objs.size+1)) (h':=s.heap.push PySem.W.emptyDict) (t':=s.toks) (λb u q=>qa _ q) (qe _) ⟨_,e1⟩;refine I1.laid (a:=s.heap.objs.size+1) (o:=.ins C s.heap.objs.size []) (t':=s.toks) (λb u q=>qa _ q) (Nat.le_of_eq (Qf _ _)) ?_;have ne:s.heap.objs.size≠s.heap.objs.size+1:=qG (Qa _);refine⟨by rw[aj ne,af],qt _,ne,e2,λ_=>none,(Heap.Ns1.of_empty e3).at λo q=>qa _ q,λ_=>True.intro,λy hy=>Q4 U hy⟩
theorem A7{prog:Program}{w:World}{env:Env}{e:Expr}{f:Str}{pos:Pos}{s:Shared}{Q:Yd}(hb:attributeBase e f env (eval e env)=eval e env)
 (h:wpAny (model prog w) A (eval e env) (λo s₁=>wpAny (model prog w) A (getAttr o f true) Q E s₁) E s):wpAny (model prog w) A (eval (.Attribute e f pos) env) Q E s:=
 Attribute_any_ h (by rw[arm_eval_Attribute,hb])
end
def hJ(K:W.Frag)(ta:TE)(f:Str):TE:=λσ H Q=>ta σ H λx H1=>∃a C dx fs v,x=.ref a/\H1 a=some (.ins C dx fs)/\Cls K C/\bc K C f/\fs.lookup f=some v/\Q v H1
def vk(K:W.Frag)(ta tv:TE)(f:Str):TS:=λD σ H=>tv σ H λy H1=>ta σ H1 λx H2=>∃a C dx fs,x=.ref a/\H2 a=some (.ins C dx fs)/\Cls K C/\bc K C f/\fs.length<1000 /\
 D.nx σ (upd H2 a (.ins C dx (bu f y fs)))
section
variable {X:Cx}{o e value:Expr}{f:Str}{pos pos' tpos:Pos}{ta tv:TE}
theorem pH(he:PE X e ta)(hb:attributeBase e f X.env (eval e X.env)=eval e X.env):PE X (.Attribute e f pos) (hJ X.K ta f):=by
 intro pins s σ H Q I h;refine A7 hb (thn (he pins s σ H _ I h) λu s1 ⟨x,H1,I1,rx,a,C,dx,fs,v,ex,ea,c,n,l,q⟩=>?_);subst ex;obtain rfl:u=Value.ref a:=rx;exact zn I1 ea c n l λu' s2 I2 ru=>⟨v,H1,I2,ru,q⟩
theorem bv(ha:PE X o ta)(hv:PE X value tv)(hs:swapsWith value (some (.Attribute o f pos')) pos.line X.env=pure false):PS X (.Assign [.Attribute o f pos'] value pos) (vk X.K ta tv f):=by
 intro pins s σ H D I h;refine plainObj_wpAny_Assign_Attribute (thn (hv pins s σ H _ I h) λu s1 ⟨y,H1,I1,ry,q⟩=>thn (ha pins s1 σ H1 _ I1 q) λov s2 ⟨x,H2,I2,rx,a,C,dx,fs,ex,ea,c,n,l,q2⟩=>?_) hs;subst ex;obtain rfl:ov=Value.ref a:=rx;exact uC I2 ea c n l ry λs3 I3=>⟨σ,_,I3,q2⟩
theorem Al{pl:Sem Bool}{m:Str}{apos:Pos}{args:List Expr}{pins:List (Addr×Obj)}{s:Shared}{σ:St}{H:Hp}{Q:Yd}{te:TE}(he:PE X e te)(I:Inv X pins σ H s)
 (h:te σ H λx H1=>∃a C dx fs g,x=.ref a/\H1 a=some (.ins C dx fs)/\Cls X.K C/\aP X.K C m g/\fs.lookup m=none /\
  ∀s1,Inv X pins σ H1 s1->wpAny (model X.prog X.w) X.A (callWith pos (.ref g) [.ref a] (backTo pos (starEach args X.env)) (backToKw pos (keywordEach [] X.env))) Q X.xe s1)
 (ht:eval (.Call (.Attribute e m apos) args [] pos) X.env=(do
  let ov <- eval e X.env
  standAt apos.atName
  let (f,first) <- holding [ov] (getMethod ov m pl)
  callWith pos f first (backTo pos (starEach args X.env)) (backToKw pos (keywordEach [] X.env)))):
 wpAny (model X.prog X.w) X.A (eval (.Call (.Attribute e m apos) args [] pos) X.env) Q X.xe s:=by
 refine PySem.W.methodCall_KW (pl:=pl) (thn (he pins s σ H _ I h) λu s1 ⟨x,H1,I1,rx,a,C,dx,fs,g,ex,ea,c,k,l,q⟩=>?_) ht;subst ex;obtain rfl:u=Value.ref a:=rx;exact iM I1 ea c k l (q s1 I1)
end
section
variable {X:Cx}{pins:List (Addr×Obj)}{σ:St}{H:Hp}{s:Shared}{A:Around}{E:Yd}{Q:Yd}{c:Value}{b:Bool}
end
structure bA(k:Nat)(A:Around):Prop where
 hd:A.handled=none
 dp:A.depth+3 * k+5<recursionLimit
 un:A.units+16 * k+200<cLine
 gd:A.guards=some []
theorem bA.mono{j k:Nat}{A:Around}(r:bA k A)(h:j<=k):bA j A:=⟨r.hd,by have:=r.dp;omega,by have:=r.un;omega,r.gd⟩
theorem bA.deeper{k:Nat}{A:Around}(r:bA (k+1) A)(env:Env):bA k (A.deeper env):=
 ⟨r.hd,by have:=r.dp;show A.depth+1+3 * k+5<_;omega,by have:=r.un;show A.units+3+16 * k+200<_;omega,r.gd⟩
theorem yq{A:Around}{C:Addr}{us:List Value}{kw:List (Str×Value)}:(A.under (.builtin "type.__call__" ⟨.ref C::us,kw⟩)).depth=A.depth+1:=by
 first|rfl|simp[Around.under,Code.weight,Code.isCreation,Code.isGuard,Code.isCaller,Code.frames,Code.isFrame,guardIds]
theorem yk{A:Around}{C:Addr}{us:List Value}{kw:List (Str×Value)}:(A.under (.builtin "type.__call__" ⟨.ref C::us,kw⟩)).units=A.units+1:=by
 first|rfl|simp[Around.under,Code.cUnits,Code.frames,Code.isFrame]
theorem yp{A:Around}{C:Addr}{us:List Value}{kw:List (Str×Value)}:(A.under (.builtin "type.__call__" ⟨.ref C::us,kw⟩)).guards=A.guards:=by
 first|rfl|simp[Around.under,Code.guards,Code.isGuard,guardIds,Around.pushGuards]
theorem bA.make{k:Nat}{A:Around}(r:bA (k+1) A)(C:Addr)(us:List Value)(kw:List (Str×Value)):bA k (A.under (.builtin "type.__call__" ⟨.ref C::us,kw⟩)):=
 ⟨r.hd,by have:=r.dp;rw[yq];omega,by have:=r.un;rw[yk];omega,by rw[yp];exact r.gd⟩
theorem bA.depth{k:Nat}{A:Around}(r:bA k A):A.depth<recursionLimit:=by have:=r.dp;omega
theorem bA.units{k:Nat}{A:Around}(r:bA k A):A.units+64<cLine:=by have:=r.un;omega
def hG:TA:=λ_ H Q=>Q [] H
def mJ(ta:TE)(tr:TA):TA:=λσ H Q=>ta σ H λx H1=>tr σ H1 λxs H2=>Q (x::xs) H2
section
variable {X:Cx}{e:Expr}{es:List Expr}{te:TE}{t:TA}{pos:Pos}
theorem ae:PA X [] hG:=λ_ _ _ _ H Q I h=>Calls.spliced_nil ⟨[],H,I,.nil,h⟩
theorem a8(ha:PE X e te)(hr:PA X es t)(hs:starEach (e::es) X.env=(false,eval e X.env)::starEach es X.env:=by rfl):PA X (e::es) (mJ te t):=by
 intro pos pins s σ H Q I h;rw[hs];show wpAny _ _ (spliced ((false,eval e X.env)::backTo pos (starEach es X.env))) _ _ s;refine Calls.spliced_cons (thn (ha pins s σ H _ I h) λu s1 ⟨x,H1,I1,r1,q1⟩=>?_);exact thn (hr pos pins s1 σ H1 _ I1 q1) λus s2 ⟨xs,H2,I2,r2,q2⟩=>⟨x::xs,H2,I2,.cons r1 r2,q2⟩
def j5(t:TA):TE:=λσ H Q=>t σ H λxs H1=>xs.length<=sizeLine/\∀p,H1 p=none->Q (.ref p) (upd H1 p (.tup xs))
def j8(t:TA):TE:=λσ H Q=>t σ H λxs H1=>xs.length<=sizeLine/\∀p,H1 p=none->Q (.ref p) (upd H1 p (.lst xs))
theorem wj{x1}(h:PA X es t):PE X (.Tuple es x1 pos) (j5 t):=by
 intro pins s σ H Q I hq;refine wpAny_Tuple_spliced (thn (h pos pins s σ H _ I hq) λus s1 ⟨xs,H1,I1,r,z,q⟩=>⟨by rw[<- r.length];exact z,?_⟩);have hf:H1 s1.heap.objs.size=none:=I1.hok.fresh (qe _);refine⟨.ref s1.heap.objs.size,upd H1 s1.heap.objs.size (.tup xs),I1.laid (t':=s1.toks) (λb u e=>qa _ e) (qe _) ?_,U,q _ hf⟩;exact⟨z,us,r,⟨_,qp _ U,U,_,U⟩⟩
theorem wk(h:PA X es t):PE X (.List es pos) (j8 t):=by
 intro pins s σ H Q I hq;refine wpAny_List_spliced (thn (h pos pins s σ H _ I hq) λus s1 ⟨xs,H1,I1,r,z,q⟩=>⟨by rw[<- r.length];exact z,?_⟩);have hf:H1 s1.heap.objs.size=none:=I1.hok.fresh (qe _);refine⟨.ref s1.heap.objs.size,upd H1 s1.heap.objs.size (.lst xs),I1.laid (t':=s1.toks) (λb u e=>qa _ e) (qe _) ?_,U,q _ hf⟩;exact⟨z,us,0,r,qp _ U⟩
end
abbrev Sp:=List V->Hp->VK->XK->Prop
abbrev CXT:=List Env->Hp->Shared->XK->Value->Shared->Prop
structure fD(P:Program)(w:World)(K:W.Frag)(mg:Str->Option Value)(base:Heap)(A:Around)(outer:List Env)(s:Shared)(H:Hp):Prop where
 frames:A.frames=some outer
 mod:Mod K mg base
 bs:∀b o,base.get? b=some o->s.heap.get? b=some o/\H b=none
 bsz:base.objs.size<=s.heap.objs.size
 funs:s.heap.FunFrames base outer
 frf:∀b∈frs outer,H b=none
 hok:HOk P w H s.heap
 bare:AllBare s.gens
def CE(outer:List Env)(P:Program)(w:World)(H:Hp)(s:Shared)(Q:VK)(u:Value)(s':Shared):Prop:=
 ∃v H',s'.os=s.os/\AllBare s'.gens/\Un (frs outer) [] H H' s.heap s'.heap/\HOk P w H' s'.heap/\aG v u/\Q v H'
def CR(CX:CXT)(outer:List Env)(P:Program)(w:World)(H:Hp)(s:Shared)(Q:VK)(E:XK)(r:Result)(s':Shared):Prop:=
 match r with
 |.ok (.ret u)=>CE outer P w H s Q u s'
 |.ok _=>False
 |.error e=>CX outer H s E e s'
structure aA(P:Program)(w:World)(K:W.Frag)(mg:Str->Option Value)(base:Heap)(CX:CXT)(k:Nat)(f:Addr)(fd:FuncData)(ps:List Str)(sp:Sp):Prop where
 len:∀vs H Q E,sp vs H Q E->vs.length=ps.length
 run:∀(A:Around)(outer:List Env)(s:Shared)(H:Hp)(args:Args)(us:List Value)(vs:List V)(Q:VK)(E:XK),bA k A->fD P w K mg base A outer s H->BindsTo s fd args (ps.zip us)->ar vs us->sp vs H Q E->
  codeAny (model P w) A (.call (.ref f) args) (CR CX outer P w H s Q E) s
theorem fD.make{P:Program}{w:World}{K:W.Frag}{mg:Str->Option Value}{base:Heap}{A:Around}{outer:List Env}{s:Shared}{H:Hp}(e:fD P w K mg base A outer s H)(C:Addr)(us:List Value)(kw:List (Str×Value)):
 fD P w K mg base (A.under (.builtin "type.__call__" ⟨.ref C::us,kw⟩)) outer s H:=⟨by first|exact e.frames|(simpa[Around.under,Code.envs,Code.isFrame,pushEnvs]using e.frames),e.mod,e.bs,e.bsz,e.funs,e.frf,e.hok,e.bare⟩
section
variable {X:Cx}{pins:List (Addr×Obj)}{σ:St}{H:Hp}{s s':Shared}
theorem Inv.env0(I:Inv X pins σ H s):fD X.prog X.w X.K X.mg X.base X.A X.stack s H:=
 ⟨I.ok.frames,I.ok.mod,I.bs,qy I.ok.bsz I.sz,I.stack,I.stkFree,I.hok,I.bare⟩
theorem Inv.after{Q:VK}{u:Value}(I:Inv X pins σ H s)(h:CE X.stack X.prog X.w H s Q u s'):EP X pins σ Q u s':=by
 obtain⟨v,H',os,bare,un,hok,r,q⟩:=h;obtain⟨hh,g,d,t,os'⟩:=s';obtain rfl:os'=s.os:=os;exact⟨v,H',I.call (h':=hh) (g':=g) (d':=d) (t':=t) (ch:=[]) un hok bare (λb z=>Q4 z (by simp)),r,q⟩
end
def j9(sp:Sp)(dvs:List V)(E:XK)(t:TA):TE:=λσ H Q=>t σ H λvs H1=>sp (vs++dvs) H1 Q E
def mI(C:Addr)(m:Str)(sp:Sp)(dvs:List V)(E:XK)(ta:TE)(t:TA):TE:=λσ H Q=>ta σ H λx H1=>∃a dx fs,x=.ref a/\H1 a=some (.ins C dx fs)/\fs.lookup m=none /\
 t σ H1 λvs H2=>sp (x::(vs++dvs)) H2 Q E
def tZ(C:Addr)(sp:Sp)(dvs:List V)(E:XK)(t:TA):TE:=λσ H Q=>t σ H λvs H1=>∀x dx,H1 x=none->H1 dx=none->dx≠x->
 sp (.ref x::(vs++dvs)) (upd (upd H1 dx (.own x)) x (.ins C dx [])) (λv H2=>v=.non/\Q (.ref x) H2) E
def aC(K:W.Frag)(fd:FuncData)(ps:List Str)(ds:List Value):Prop:=
 ∀(s:Shared)(us:List Value),K.In s.heap->(us++ds).length=ps.length->BindsTo s fd ⟨us,[]⟩ (ps.zip (us++ds))
theorem aC.all{K:W.Frag}{fd:FuncData}{ps:List Str}(h:∀us:List Value,us.length=ps.length->bindArgs fd ⟨us,[]⟩=pure (ps.zip us)):aC K fd ps []:=λs us _ hl=>by
 rw[qx]at hl ⊢;exact .of_eq (h us hl)
def eQ(CX:CXT)(X:Cx)(E:XK):Prop:=∀(pins:List (Addr×Obj))(σ:St)(H:Hp)(s:Shared)(e:Value)(s':Shared),Inv X pins σ H s->CX X.stack H s E e s'->X.xe e s'
section
variable {X:Cx}{CX:CXT}{k:Nat}{f C:Addr}{fd:FuncData}{ps:List Str}{sp:Sp}{dvs:List V}{ds:List Value}{E:XK}{x m:Str}{p pos apos:Pos}{e o:Expr}{es:List Expr}{ta:TE}{t:TA}
theorem gx{pins:List (Addr×Obj)}{σ:St}{H:Hp}{s:Shared}{Q:VK}{us:List Value}{vs:List V}(F:aA X.prog X.w X.K X.mg X.base CX k f fd ps sp)(hr:bA k X.A)(hb:aC X.K fd ps ds)(hd:ar dvs ds)(hx:eQ CX X E)
 (I:Inv X pins σ H s) (r:ar vs us) (h:sp (vs++dvs) H Q E):wpAny (model X.prog X.w) X.A (call (.ref f) us) (EP X pins σ Q) X.xe s:=by
 have r2:ar (vs++dvs) (us++ds):=r.append hd;have hl:(us++ds).length=ps.length:=by rw[<- r2.length];exact F.len _ _ _ _ h
 refine wpAny_call (codeAny_mono (F.run X.A X.stack s H ⟨us,[]⟩ (us++ds) (vs++dvs) Q E hr I.env0 (hb s us I.kIn hl) r2 h) λr s' hq=>?_)
 cases r with
 |error e=>exact hx pins σ H s e s' I hq
 |ok fl=>
  cases fl with
  |ret u=>exact I.after hq
  |next=>exact False.elim hq
  |brk=>exact False.elim hq
  |cont=>exact False.elim hq
theorem ba(F:aA X.prog X.w X.K X.mg X.base CX k f fd ps sp)(hr:bA k X.A)(hg:Gl X x)(hm:X.mg x=some (.ref f))(hk:PySem.W.keepIn X.K (.ref f)=true)(hb:aC X.K fd ps ds)(hd:ar dvs ds)(hx:eQ CX X E)
 (ha:PA X (e::es) t) (hdb:(x == ("__debug__":Str))=false:=by decide) (he:starEach (e::es) X.env=(false,eval e X.env)::starEach es X.env:=by rfl) (hpl:(backTo pos (starEach es X.env)).any (·.1)=false:=by rfl):
 PE X (.Call (.Name x p) (e::es) [] pos) (j9 sp dvs E t):=by
 intro pins s σ H Q I h;refine wpAny_Call_Name_kw (iC I hg hm ?_ hdb);refine PySem.W.callWith_K (h₀:=X.base) I.ok.mod.kin hk (thn (ha pos pins s σ H _ I h) λus s1 ⟨vs,H1,I1,r,q⟩=>⟨I1.kIn,?_⟩) he hpl;exact gx F hr hb hd hx I1 r q
theorem cY{pl:Sem Bool}(he:PE X o ta)(c:Cls X.K C)(hm:aP X.K C m f)(F:aA X.prog X.w X.K X.mg X.base CX k f fd ps sp)(hr:bA k X.A)(hb:aC X.K fd ps ds)(hd:ar dvs ds)(hx:eQ CX X E)(ha:PA X (e::es) t)
 (hst:starEach (e::es) X.env=(false,eval e X.env)::starEach es X.env:=by rfl) (hpl:(backTo pos (starEach es X.env)).any (·.1)=false:=by rfl)
 (ht:eval (.Call (.Attribute o m apos) (e::es) [] pos) X.env=(do
  let ov <- eval o X.env
  standAt apos.atName
  let (f,first) <- holding [ov] (getMethod ov m pl)
  callWith pos f first (backTo pos (starEach (e::es) X.env)) (backToKw pos (keywordEach [] X.env))):=by rfl):
 PE X (.Call (.Attribute o m apos) (e::es) [] pos) (mI C m sp dvs E ta t):=by
 intro pins s σ H Q I h;refine PySem.W.methodCall_KW (pl:=pl) (thn (he pins s σ H _ I h) λu s1 ⟨x,H1,I1,rx,a,dx,fs,ex,ea,l,q⟩=>?_) ht;subst ex;obtain rfl:u=Value.ref a:=rx;refine iM I1 ea c hm l ?_;refine PySem.W.callWith_K (first:=[.ref a]) (h₀:=X.base) I.ok.mod.kin hm.kp (thn (ha pos pins s1 σ H1 _ I1 q) λus s2 ⟨vs,H2,I2,r,q2⟩=>⟨I2.kIn,?_⟩) hst hpl;exact gx (us:=.ref a::us) (vs:=.ref a::vs) F hr hb hd hx I2 (.cons U r) q2
theorem fe{pl:Sem Bool}(he:PE X o ta)(c:Cls X.K C)(hm:aP X.K C m f)(F:aA X.prog X.w X.K X.mg X.base CX k f fd ps sp)(hr:bA k X.A)(hb:aC X.K fd ps ds)(hd:ar dvs ds)(hx:eQ CX X E)
 (ht:eval (.Call (.Attribute o m apos) [] [] pos) X.env=(do
  let ov <- eval o X.env
  standAt apos.atName
  let (f,first) <- holding [ov] (getMethod ov m pl)
  callWith pos f first (backTo pos (starEach [] X.env)) (backToKw pos (keywordEach [] X.env))):=by rfl):
 PE X (.Call (.Attribute o m apos) [] [] pos) (mI C m sp dvs E ta hG):=by
 intro pins s σ H Q I h;refine PySem.W.methodCall_KW (pl:=pl) (thn (he pins s σ H _ I h) λu s1 ⟨x,H1,I1,rx,a,dx,fs,ex,ea,l,q⟩=>?_) ht;subst ex;obtain rfl:u=Value.ref a:=rx;refine iM I1 ea c hm l ?_;exact PySem.W.callWith_K0 (first:=[.ref a]) I1.kIn hm.kp (gx (us:=[.ref a]) (vs:=[.ref a]) F hr hb hd hx I1 (.cons U .nil) q)
structure Mk(K:W.Frag)(C f:Addr):Prop where
 makes:PySem.W.makesIn K C=true
 init:PySem.W.findIn K (.ref C) "__init__"=some (some (.ref f))
 fn:PySem.W.isFn K (.ref f)=true
 kp:PySem.W.keepIn K (.ref C)=true
theorem vm{pins:List (Addr×Obj)}{σ:St}{H:Hp}{s:Shared}{Q:VK}{us:List Value}{vs:List V}(M:Mk X.K C f)(F:aA X.prog X.w X.K X.mg X.base CX k f fd ps sp)(hr:bA (k+1) X.A)(hb:aC X.K fd ps ds)(hd:ar dvs ds)
 (hx:eQ CX X E) (I:Inv X pins σ H s) (r:ar vs us)
 (h:∀x dx,H x=none->H dx=none->dx≠x->sp (.ref x::(vs++dvs)) (upd (upd H dx (.own x)) x (.ins C dx [])) (λv H2=>v=.non/\Q (.ref x) H2) E):
 wpAny (model X.prog X.w) X.A (call (.ref C) us) (EP X pins σ Q) X.xe s:=by
 have hq:=h (s.heap.objs.size+1) s.heap.objs.size (I.hok.fresh (Nat.le_succ _)) (I.hok.fresh (qe _)) (qG (Qa _));have I2:=Inv.made (C:=C) I;have r2:ar (V.ref (s.heap.objs.size+1)::(vs++dvs)) (Value.ref (s.heap.objs.size+1)::(us++ds)):=.cons U (r.append hd)
 have hl:(Value.ref (s.heap.objs.size+1)::us++ds).length=ps.length:=by
  have e:=r2.length;rw[F.len _ _ _ _ hq]at e;exact e.symm
 refine wpAny_call (ym (f:=f) I.kIn M.makes M.init (beq_iff_eq.mp M.fn) (codeAny_mono (F.run _ X.stack _ _ ⟨Value.ref (s.heap.objs.size+1)::us,[]⟩ (Value.ref (s.heap.objs.size+1)::(us++ds)) _ _ E (hr.make C us [])
  (I2.env0.make C us []) (hb _ (Value.ref (s.heap.objs.size+1)::us) I2.kIn hl) r2 hq) λr s' hq'=>?_))
 cases r with
 |error e=>exact hx pins σ _ _ e s' I2 hq'
 |ok fl=>
  cases fl with
  |ret u=>
   obtain⟨v,H',I3,rv,ev,q3⟩:=I2.after hq';subst ev;exact⟨rv,⟨V.ref (s.heap.objs.size+1),H',I3,U,q3⟩⟩
  |next=>exact False.elim hq'
  |brk=>exact False.elim hq'
  |cont=>exact False.elim hq'
theorem ff(M:Mk X.K C f)(F:aA X.prog X.w X.K X.mg X.base CX k f fd ps sp)(hr:bA (k+1) X.A)(hg:Gl X x)(hm:X.mg x=some (.ref C))(hb:aC X.K fd ps ds)(hd:ar dvs ds)(hx:eQ CX X E)
 (ha:PA X (e::es) t) (hdb:(x == ("__debug__":Str))=false:=by decide) (he:starEach (e::es) X.env=(false,eval e X.env)::starEach es X.env:=by rfl) (hpl:(backTo pos (starEach es X.env)).any (·.1)=false:=by rfl):
 PE X (.Call (.Name x p) (e::es) [] pos) (tZ C sp dvs E t):=by
 intro pins s σ H Q I h;refine wpAny_Call_Name_kw (iC I hg hm ?_ hdb);refine PySem.W.callWith_K (h₀:=X.base) I.ok.mod.kin M.kp (thn (ha pos pins s σ H _ I h) λus s1 ⟨vs,H1,I1,r,q⟩=>⟨I1.kIn,?_⟩) he hpl;exact vm M F hr hb hd hx I1 r q
end
section
variable {X:Cx}{CX:CXT}{k:Nat}{f C:Addr}{fd:FuncData}{ps ks:List Str}{sp:Sp}{E:XK}{x m:Str}{p pos apos kpos:Pos}{e o:Expr}{es:List Expr}{kws:List Keyword}{te ta:TE}{t tk:TA}{nm:Option Str}
variable {g:List Value->List Value->List Value}{gV:List V->List V->List V}
end
structure aI(N P:List Str)(sc:Scope):Prop where
 kind:sc.kind=.function
 co:sc.isCoroutine=false
 gen:sc.isGenerator=false
 nd:N.Nodup
 pre:N.take P.length=P
 par:∀x∈P,sc.names.lookup x=some .local\/sc.names.lookup x=some .cell
 nofree:∀y∈sc.names,y.2≠.free
theorem sN{kindOf:Str->Option NameKind}{x:Str}:∀{binds:List (Str×Value)}{m:Str->Option Value},(∀v,(x,v)∉binds)->bindL kindOf binds m x=m x
 |[],_,_=>rfl
 |(n,v)::r,m,h=>by
  unfold bindL;rw[sN λw hw=>h w (qk _ hw)];split
  ·have:x≠n:=by rintro rfl;exact h v qm
   simp[this]
  ·rfl
theorem sP{kindOf:Str->Option NameKind}{x:Str}:∀{binds:List (Str×Value)}{m:Str->Option Value},(∀v,(x,v)∉binds)->bindC kindOf binds m x=m x
 |[],_,_=>rfl
 |(n,v)::r,m,h=>by
  unfold bindC;rw[sP λw hw=>h w (qk _ hw)];split
  ·rfl
  ·have:x≠n:=by rintro rfl;exact h v qm
   simp[this]
theorem sO{kindOf:Str->Option NameKind}{x:Str}{v:Value}:∀{P:List Str}{vs:List Value}{i:Nat}{m:Str->Option Value},P.Nodup->P[i]?=some x->vs[i]?=some v->kindOf x=some .local->
 bindL kindOf (P.zip vs) m x=some v
 |[],_,_,_,_,h,_,_=>by simp at h
 |_::_,[],_,_,_,_,h,_=>by simp at h
 |p::P,w::vs,0,m,nd,h1,h2,hk=>by
  simp at h1 h2;subst h1;subst h2;show bindL kindOf ((p,w)::P.zip vs) m p=_;unfold bindL;rw[sN λv hv=>(List.nodup_cons.mp nd).1 (List.of_mem_zip hv).1,Q0 hk];simp
 |p::P,w::vs,i+1,m,nd,h1,h2,hk=>by
  show bindL kindOf ((p,w)::P.zip vs) m x=_;unfold bindL;exact sO (i:=i) (List.nodup_cons.mp nd).2 (by simpa using h1) (by simpa using h2) hk
theorem sQ{kindOf:Str->Option NameKind}{x:Str}{v:Value}:∀{P:List Str}{vs:List Value}{i:Nat}{m:Str->Option Value},P.Nodup->P[i]?=some x->vs[i]?=some v->kindOf x≠some .local->
 bindC kindOf (P.zip vs) m x=some v
 |[],_,_,_,_,h,_,_=>by simp at h
 |_::_,[],_,_,_,_,h,_=>by simp at h
 |p::P,w::vs,0,m,nd,h1,h2,hk=>by
  simp at h1 h2;subst h1;subst h2;show bindC kindOf ((p,w)::P.zip vs) m p=_;unfold bindC;rw[sP λv hv=>(List.nodup_cons.mp nd).1 (List.of_mem_zip hv).1,qZ hk];simp
 |p::P,w::vs,i+1,m,nd,h1,h2,hk=>by
  show bindC kindOf ((p,w)::P.zip vs) m x=_;unfold bindC;exact sQ (i:=i) (List.nodup_cons.mp nd).2 (by simpa using h1) (by simpa using h2) hk
def start(N:List Str)(vs:List V):St:=vs.map some++List.replicate (N.length-vs.length) none
def dJ(CX:CXT)(P:Program)(w:World)(K:W.Frag)(mg:Str->Option Value)(base:Heap)(N:List Str)(qual:Str)(scope:Scope)(f:Addr)(cd:Value)(A:Around)(outer:List Env)(s:Shared)(H:Hp)(E:XK):Cx where
 prog:=P
 w:=w
 K:=K
 mg:=mg
 base:=base
 A:=A.deeper (envOfC qual scope s.heap.objs.size f cd)
 N:=N
 s₀:=s
 H₀:=H
 env:=envOfC qual scope s.heap.objs.size f cd
 outer:=outer
 stack:=envOfC qual scope s.heap.objs.size f cd::outer
 ex:=[]
 calm:=true
 fn:=λ_=>true
 pn:=[]
 xe:=λe s'=>wpAny (model P w) (A.deeper (envOfC qual scope s.heap.objs.size f cd)) (leaving (envOfC qual scope s.heap.objs.size f cd) e) (λ_ s''=>CX outer H s E e s'') (λe' s''=>CX outer H s E e' s'') s'
theorem sI{sc:Scope}{n:Nat}{x:Str}(h:sc.names.lookup x=some .cell):∃c,(cellsFrom n sc.names []).lookup x=some c:=by
 have q:=PySem.W.cellsFrom_some sc.names n [] (.inl h);exact Option.isSome_iff_exists.mp q
theorem yZ{CX:CXT}{P:Program}{w:World}{K:W.Frag}{mg:Str->Option Value}{base:Heap}{N ps:List Str}{qual:Str}{scope:Scope}{f:Addr}{cd:Value}{A:Around}{outer:List Env}{s s1:Shared}{H:Hp}{E:XK}{us:List Value}{vs:List V}
 (S:aI N ps scope) (hd:A.handled=none) (e0:fD P w K mg base A outer s H) (hl:vs.length=ps.length) (r:ar vs us)
 (x:InCallC s s.heap.objs.size (bindL (envOfC qual scope s.heap.objs.size f cd).kindOf (ps.zip us) λ_=>none) (cellsFrom (s.heap.objs.size+1) scope.names []) (bindC (envOfC qual scope s.heap.objs.size f cd).kindOf (ps.zip us) λ_=>none) s1):
 Inv (dJ CX P w K mg base N qual scope f cd A outer s H E) [] (start N vs) H s1:=by
 have hpl:ps.length<=N.length:=by have:=congrArg List.length S.pre;rw[qK]at this;omega
 obtain⟨h1,tk,rfl,hk⟩:=x.done;have noA:∀b:Addr,b∉(dJ CX P w K mg base N qual scope f cd A outer s H E).ex:=λb z=>Q4 (show b∈([]:List Addr)from z) (by simp)
 refine⟨⟨e0.mod,S.kind,U,U,qe _,λy z c h1 h2=>?_,λy hy=>?_,λy c _ h=>?_,λ_=>hd,Around.frames_deeper e0.frames,.inr ⟨U,U⟩,λb z=>Q4 z (noA b),e0.bs,e0.bsz,λb _ _=>noA b,λb z=>Q4 z (noA b),e0.funs,e0.frf⟩,
  rfl,e0.bare,Un.kept hk,⟨_,x.toInCall.ns,λi y v h1 h2 h3=>?_⟩,λy c h=>⟨_,x.cell y c h⟩,e0.hok.fresh (qe _),λy c h=>?_,λp hp=>Q4 (show p∈([]:List (Addr×Obj))from hp) (by simp),e0.hok.kept hk,?_⟩
 ·exact name_of_addr x.apart (Qh h1) (Qh h2)
 ·have hy:scope.names.lookup y=some .cell\/scope.names.lookup y=some .free:=hy;rcases hy with hy|hy
  ·exact sI hy
  ·exact Q4 U (S.nofree _ (Qh hy))
 ·exact Nat.le_of_lt (x.above y c (Qh h))
 ·have hi:i<vs.length:=by
   unfold start at h2;by_cases hi:i<vs.length
   ·exact hi
   ·rw[qL (by simpa using hi)]at h2;rw[List.getElem?_replicate]at h2;split at h2<;>cases h2
  have ha:vs[i]?=some v:=by
   unfold start at h2;rw[Q5 (by simpa using hi),qE]at h2
   cases e:vs[i]? with
   |none=>rw[e]at h2;cases h2
   |some a=>rw[e]at h2;cases h2;rfl
  obtain⟨u,hu,rv⟩:=r.get ha
  have hp:ps[i]?=some y:=by
   rw[<- S.pre,List.getElem?_take_of_lt Qw];exact h1
  have ndP:ps.Nodup:=by rw[<- S.pre];exact S.nd.sublist (List.take_sublist _ _)
  refine⟨u,rv,?_⟩;rcases S.par y (qz hp)with k|k
  ·exact .inl ⟨k,sO ndP hp hu k⟩
  ·obtain⟨c,e⟩:=sI (n:=s.heap.objs.size+1) k;refine .inr ⟨.inl k,c,e,?_⟩;have q:=x.cell y c e;rw[sQ ndP hp hu (by show scope.names.lookup y≠_;rw[k];decide)]at q;exact q
 ·exact e0.hok.fresh (Nat.le_of_lt (x.above y c (Qh h)))
 ·unfold start;show _=N.length;rw[qb,q9,List.length_replicate];omega
theorem se{CX:CXT}{P:Program}{w:World}{K:W.Frag}{mg:Str->Option Value}{base:Heap}{k:Nat}{f:Addr}{name qual:Str}{params:Arguments}{body:List Stmt}{scope:Scope}{dV kV doc pm cdv ct oc:Value}{an od:Option Addr}
 {osl:Array (Option Value)}{N ps:List Str}{sp:Sp}(lk:K.lookup f=some ⟨oc,od,.func (PySem.W.fnOf name qual params body scope dV kV doc pm an cdv ct),osl⟩) (hcd:PySem.W.codeIn K cdv qual=true) (S:aI N ps scope)
 (len:∀vs H Q E,sp vs H Q E->vs.length=ps.length)
 (hbody:∀(A:Around)(outer:List Env)(s:Shared)(H:Hp)(vs:List V)(Q:VK)(E:XK),bA k (A.deeper (envOfC qual scope s.heap.objs.size f cdv))->sp vs H Q E->
  ∃t,PSs (dJ CX P w K mg base N qual scope f cdv A outer s H E) body t/\t { nx:=λ_ H'=>Q .non H',rt:=Q } (start N vs) H):
 aA P w K mg base CX (k+1) f (PySem.W.fnOf name qual params body scope dV kV doc pm an cdv ct) ps sp:=by
 refine⟨len,λA outer s H args us vs Q E hr e0 hb r hsp=>?_⟩;have hl:=len _ _ _ _ hsp;have KX:K.In s.heap:=e0.mod.kin.keeps λb o e=>(e0.bs b o e).1;have lim:s.heap.NoLimit:=e0.mod.nolimit.keeps λb o e=>(e0.bs b o e).1
 have hkind:∀y∈ps.zip us,scope.names.lookup y.1=some .local\/(scope.names.lookup y.1=some .cell/\((cellsFrom (s.heap.objs.size+1) scope.names []).lookup y.1).isSome=true):=λ⟨n,v⟩ hy=>by
  rcases S.par n (List.of_mem_zip hy).1 with q|q
  ·exact .inl q
  ·exact .inr ⟨q,PySem.W.cellsFrom_some _ _ _ (.inl q)⟩
 refine codeAny_call_function hr.depth (KX _ _ lk) U S.co S.gen U (PySem.W.codeRec_of KX hcd) (hb _ _ _ _ ?_);refine wpAny_newFunctionEnv_cells S.kind hkind λenv he s1 x=>?_;subst he;refine⟨lim.keeps x.toInCall.keep,codeAny_func ?_⟩;obtain⟨t,ht,hq⟩:=hbody A outer s H vs Q E (hr.deeper _) hsp;have I:Inv (dJ CX P w K mg base N qual scope f cdv A outer s H E) [] (start N vs) H s1:=yZ S hr.hd e0 hl r x;refine wpAny_mono (ht [] s1 (start N vs) H _ I hq) (λfl s' hs=>?_) λe s' hs=>hs
 have fin:∀{σ':St}{H':Hp}{v:V}{u:Value},Inv (dJ CX P w K mg base N qual scope f cdv A outer s H E) [] σ' H' s'->aG v u->Q v H'->CE outer P w H s Q u s':=
  λ{σ' H' v u} J rv q=>⟨v,H',J.os,J.bare,J.base,J.hok,rv,q⟩
 cases fl with
 |ret u=>
  obtain⟨v,σ',H',J,rv,q⟩:=hs;exact fin J rv q
 |next=>
  obtain⟨σ',H',J,q⟩:=hs;exact fin (v:=V.non) (u:=Value.none) J U q
 |brk=>
  obtain⟨_,_,_,q⟩:=hs;exact False.elim q
 |cont=>
  obtain⟨_,_,_,q⟩:=hs;exact False.elim q
section
variable {X:Cx}{x:Str}{p pos:Pos}{e:Expr}{es:List Expr}{t:TA}{id T:String}{r:List V->Hp->VK->Prop}
def tCB(r:List V->Hp->VK->Prop)(t:TA):TE:=λσ H Q=>t σ H λvs H1=>r vs H1 Q
theorem bI(hc:cs X (.builtin id) r)(hg:Gl X x)(hm:X.mg x=none)(hv:bootBuiltins x=some (.builtin id))(ha:PA X (e::es) t)(hn:x≠"__name__":=by decide)(hdb:(x == ("__debug__":Str))=false:=by decide)
 (he:starEach (e::es) X.env=(false,eval e X.env)::starEach es X.env:=by rfl) (hpl:(backTo pos (starEach es X.env)).any (·.1)=false:=by rfl):PE X (.Call (.Name x p) (e::es) [] pos) (tCB r t):=by
 intro pins s σ H Q I h;refine wpAny_Call_Name_kw (dk I hg hm hv ?_ hn hdb);exact PyProof.Rows.callWith_builtin1 (thn (ha pos pins s σ H _ I h) λus s1 ⟨vs,H1,I1,r1,q1⟩=>hc pins s1 σ H1 vs us Q I1 r1 q1) he hpl
theorem ir(hc:cs X (.type T) r)(hg:Gl X x)(hm:X.mg x=none)(hv:bootBuiltins x=some (.type T))(ha:PA X (e::es) t)(hn:x≠"__name__":=by decide)(hdb:(x == ("__debug__":Str))=false:=by decide)
 (he:starEach (e::es) X.env=(false,eval e X.env)::starEach es X.env:=by rfl) (hpl:(backTo pos (starEach es X.env)).any (·.1)=false:=by rfl):PE X (.Call (.Name x p) (e::es) [] pos) (tCB r t):=by
 intro pins s σ H Q I h;refine wpAny_Call_Name_kw (dk I hg hm hv ?_ hn hdb);exact PyProof.Rows.callWith_type1 (thn (ha pos pins s σ H _ I h) λus s1 ⟨vs,H1,I1,r1,q1⟩=>hc pins s1 σ H1 vs us Q I1 r1 q1) he hpl
end
end L2
namespace HT
open PySem PyProof.Rows
section
open PySem.SeqAt
open PySem.AutoSeq1 (wpAny_loadPart')
open PySem.MeetsSeq PySem.MeetsSeq2 PySem.MeetsSeq3
end
section
variable {prog:Program}{w:World}{A:Around}{E:Yd}{s:Shared}
theorem cat_tup{t b:Addr}{vs ws:List Value}{Q:Yd}(ht:IsTup s.heap t vs.toArray)(hb:IsTup s.heap b ws.toArray)(hv:vs≠[])
 (h1:ws=[]->Q (.ref t) s) (h2:ws≠[]->Q (.ref s.heap.objs.size) { s with heap:=s.heap.push { cls:=.type "tuple",data:=.seq (vs++ws).toArray } })
 (hsz:vs.length+ws.length<=sizeLine):wpAny (model prog w) A (binaryOp .Add (.ref t) (.ref b)) Q E s:=by
 obtain⟨⟨cls,dd,data,sl⟩,ho,hc,n,hd⟩:=id ht;obtain⟨⟨cls2,dd2,data2,sl2⟩,ho2,hc2,n2,hd2⟩:=id hb;simp only at hc hd hc2 hd2;subst hc hd hc2 hd2;have e:vs.toArray++ws.toArray=(vs++ws).toArray:=by simp
 by_cases hw:ws=[]
 ·exact concat_meets ⟨_,ho,U⟩ ⟨_,ho2,U⟩ noFill_tuple_add seq_tuple_add PySem.F.slot_tuple_add PySem.F.entry_tuple_add (PySem.F.args_tuple_add_2 _ _)
   (tuple_addW1 t b vs.toArray ws.toArray n n2 dd dd2 sl sl2 (by simpa using hv) (by simp[hw])) ⟨ho,ho2,h1 hw⟩
 ·refine concat_meets ⟨_,ho,U⟩ ⟨_,ho2,U⟩ noFill_tuple_add seq_tuple_add PySem.F.slot_tuple_add PySem.F.entry_tuple_add (PySem.F.args_tuple_add_2 _ _)
   (tuple_addW2 t b vs.toArray ws.toArray n n2 dd dd2 sl sl2 (by simpa using hv) (by simpa using hw) (by rw[qC,qC];exact hsz)) ⟨ho,ho2,?_⟩
  rw[e];exact h2 hw
def sIx(n d:Nat):Option Int->Nat
 |none=>d
 |some v=>if v<0 then(v+(n:Int)).toNat else min v.toNat n
theorem sIx_nat(n d k:Nat):sIx n d (some (k:Int))=min k n:=by
 show(if(k:Int)<0 then((k:Int)+(n:Int)).toNat else min (k:Int).toNat n)=min k n;rw[qZ Qw,qX]
theorem vj(n d:Nat)(hd:d<=n)(o:Option Int):sIx n d o<=n:=by
 cases o with
 |none=>exact hd
 |some v=>
  show(if v<0 then(v+(n:Int)).toNat else min v.toNat n)<=n;by_cases hv:v<0
  ·rw[Q0 hv];omega
  ·rw[qZ hv];exact Nat.min_le_right _ _
theorem sF(v:Int)(n d:Nat):(if v<0 then max (v+(n:Int)) 0 else min v (n:Int))=((sIx n d (some v):Nat):Int):=by
 show(if v<0 then max (v+(n:Int)) 0 else min v (n:Int))=(((if v<0 then(v+(n:Int)).toNat else min v.toNat n):Nat):Int);by_cases hv:v<0
 ·simp only[Q0 hv];omega
 ·simp only[qZ hv];omega
theorem Ab(lo hi:Option Int)(n:Nat):Builtin.Slice.sliceAdjust lo hi 1 (n:Int)=(((sIx n 0 lo:Nat):Int),((sIx n n hi:Nat):Int)):=by
 have h1:¬ ((1:Int)<0):=Qw;unfold Builtin.Slice.sliceAdjust;simp only[h1,if_false];refine Prod.ext ?_ ?_
 ·cases lo with
  |none=>rfl
  |some v=>exact sF v n 0
 ·cases hi with
  |none=>rfl
  |some v=>exact sF v n n
theorem w8(i j:Nat):Builtin.Slice.slicePlaces (i:Int) (j:Int) 1=j-i:=by
 unfold Builtin.Slice.slicePlaces;have h1:(1:Int) > 0:=Qw;simp only[h1,if_true,Int.ediv_one];split<;>omega
theorem oj{v:Value}{o:Option Int}{Q:Option Int->Shared->Prop}(p:IsPart v o)(h:Q o s):wpAny (model prog w) A (Builtin.Slice.slicePartIndex v) Q E s:=by
 cases p with
 |none=>exact slicePart_none h
 |int i t=>exact slicePart_int h
theorem uy{sl:Addr}{vl vu:Value}{lo hi:Option Int}{n:Nat}{Q:Int×Int×Nat->Shared->Prop}(hs:s.heap.IsSliceOf sl vl vu .none)(pl:IsPart vl lo)(pu:IsPart vu hi)
 (h:Q (((sIx n 0 lo:Nat):Int),1,sIx n n hi-sIx n 0 lo) s):wpAny (model prog w) A (Builtin.Slice.sliceApplied (.ref sl) (pure (n:Int))) Q E s:=by
 obtain⟨os,hos,hcs,hds⟩:=id hs;unfold Builtin.Slice.sliceApplied Builtin.Slice.sliceFields;refine q5 (q5 (wpAny_field hos hds (x:=vl) U (q5 (wpAny_field hos hds (x:=vu) U (q5 (wpAny_field hos hds (x:=.none) U (qd ?_)))))));refine q5 (slicePart_none ?_);show wpAny _ _ (if((1:Int) == 0)=true then _ else _) _ _ s;rw[qZ Qz];refine q5 (oj pl (q5 (oj pu (q5 (qd ?_)))));show wpAny _ _ (match Builtin.Slice.sliceAdjust lo hi 1 (n:Int)with|(lo,hi)=>pure (lo,(1:Int),Builtin.Slice.slicePlaces lo hi 1)) _ _ s;rw[Ab lo hi n];show wpAny _ _ (pure (((sIx n 0 lo:Nat):Int),(1:Int),Builtin.Slice.slicePlaces ((sIx n 0 lo:Nat):Int) ((sIx n n hi:Nat):Int) 1)) _ _ s;rw[w8];exact qd h
theorem wa(xs:Array Value)(i k:Nat):((List.range k).filterMap λ(m:Nat)=>xs[((i:Int)+(m:Int) * 1).toNat]?).toArray=((xs.toList.drop i).take k).toArray:=by
 have e:(λ(m:Nat)=>xs[((i:Int)+(m:Int) * 1).toNat]?)=λm=>xs[i+m]?:=by
  funext m
  have:((i:Int)+(m:Int) * 1).toNat=i+m:=Qw;rw[this]
 rw[e];have:=pick_run xs i k;rw[List.filterMap_map]at this;have e2:((λx=>xs[x]?) ∘ λx=>i+x)=λm=>xs[i+m]?:=U;rw[e2]at this;rw[this]
theorem getItem_tuple_cut{t sl:Addr}{items:Array Value}{vl vu:Value}{lo hi:Option Int}{Q:Yd}(ht:IsTup s.heap t items)(hs:s.heap.IsSliceOf sl vl vu .none)(pl:IsPart vl lo)(pu:IsPart vu hi)
 (hw:¬ (sIx items.size 0 lo=0/\sIx items.size items.size hi=items.size))
 (h:Q (.ref s.heap.objs.size) { s with heap:=s.heap.push { cls:=.type "tuple",data:=.seq ((items.toList.drop (sIx items.size 0 lo)).take (sIx items.size items.size hi-sIx items.size 0 lo)).toArray } })
 (hsz:items.size<=sizeLine):wpAny (model prog w) A (getItem (.ref t) (.ref sl)) Q E s:=by
 have htake:sizeOk (.seq ((items.toList.drop (sIx items.size 0 lo)).take (sIx items.size items.size hi-sIx items.size 0 lo)).toArray):=by
  show((items.toList.drop (sIx items.size 0 lo)).take (sIx items.size items.size hi-sIx items.size 0 lo)).toArray.size<=sizeLine;rw[qC,qK,qY,qM];omega
 have hj:sIx items.size items.size hi<=items.size:=vj _ _ (qe _) hi;obtain⟨os,hos,hcs,hds⟩:=id hs;have hTs:s.TypeIs (.ref sl) "slice":=⟨os,hos,hcs⟩;unfold getItem
 try with_reducible refine Qu ?_
 first|refine q5 (qd ?_)|skip
 refine q5 (wpAny_sequenceKey ht.typeIs Qz ?_)
 refine q5 (wpAny_callSpecial?_slot (name:=Str.ofString "__getitem__") ht.typeIs PyProof.Rows.slot_tuple_getitem
  (Qi PyProof.Rows.slot_tuple_getitem ht.typeIs entry_tuple_getitem ?_ (args_tuple_getitem _ _)))
 show wpAny _ _ (Builtin.Tuple.tupleItemsOf (.ref t) >>= _) _ _ s;refine q5 (tupleItemsOf_ ht ?_);refine q5 (wpAny_typeOf hTs ?_);rw[Q0 Qz];refine q5 (uy hs pl pu ?_)
 have hno:¬ ((((sIx items.size 0 lo:Nat):Int) == 0 && (1:Int) == 1 && (sIx items.size items.size hi-sIx items.size 0 lo) == items.size)=true):=by
  intro q;rw[Bool.and_eq_true,Bool.and_eq_true]at q;have q1:((sIx items.size 0 lo:Nat):Int)=0:=eq_of_beq q.1.1;have q2:sIx items.size items.size hi-sIx items.size 0 lo=items.size:=eq_of_beq q.2;exact hw ⟨Qw,Qw⟩
 show wpAny _ _ (if(((sIx items.size 0 lo:Nat):Int) == 0 && (1:Int) == 1 && (sIx items.size items.size hi-sIx items.size 0 lo) == items.size)=true then _ else _) _ _ s;rw[qZ hno,wa]
 first
  |exact q5 (m:=Builtin.Tuple.tupleExact _) (wpAny_newObj_type (qd ⟨_,rfl,qd h⟩) htake)
  |exact q5 (m:=Builtin.Tuple.tupleExact _) (wpAny_newObj_type (q5 (qd (qd ⟨_,rfl,qd h⟩))) htake)
  |exact q5 (q5 (m:=Builtin.Tuple.tupleExact _) (wpAny_newObj_type (qd (qd ⟨_,rfl,qd h⟩)) htake))
  |exact q5 (q5 (m:=Builtin.Tuple.tupleExact _) (wpAny_newObj_type (qd ⟨_,rfl,qd h⟩) htake))
end
end HT
namespace L2
open PySem PySem.Spec PyProof.Rows
abbrev TO:=St->Hp->(Option Int->Hp->Prop)->Prop
def PO(X:Cx)(e:Option Expr)(t:TO):Prop:=
 ∀(pins:List (Addr×Obj))(s:Shared)(σ:St)(H:Hp)(Q:Option Int->Hp->Prop),Inv X pins σ H s->t σ H Q->
  wpAny (model X.prog X.w) X.A (evalPart e X.env) (λu s'=>∃o H',Inv X pins σ H' s'/\IsPart u o/\Q o H') X.xe s
def tX:TO:=λ_ H Q=>Q none H
def tV(t:TE):TO:=λσ H Q=>t σ H λx H1=>∃i,x=.int i/\Q (some i) H1
section
variable {X:Cx}{e:Expr}{te:TE}{lo hi:Option Expr}{tl th:TO}{pos p2:Pos}
theorem fP:PO X none tX:=by
 intro pins s σ H Q I h;rw[evalPart_none];exact qd ⟨none,H,I,.none,h⟩
theorem bZ(h:PE X e te):PO X (some e) (tV te):=by
 intro pins s σ H Q I hw;rw[evalPart_some];refine thn (h pins s σ H _ I hw) λu s1 ⟨x,H1,I1,r1,q1⟩=>?_;obtain⟨i,rfl,q⟩:=q1;obtain⟨t,rfl⟩:=r1;exact⟨some i,H1,I1,.int i t,q⟩
def SlR(X:Cx)(r:V->Option Int->Option Int->Hp->VK->Prop):Prop:=
 ∀(pins:List (Addr×Obj))(s:Shared)(σ:St)(H:Hp)(x:V)(v vl vu:Value)(lo hi:Option Int)(sl:Addr)(Q:VK),Inv X pins σ H s->aG x v->s.heap.IsSliceOf sl vl vu .none->IsPart vl lo->IsPart vu hi->r x lo hi H Q->
  ∃T id,typeLookup (.type T) "__getitem__"=pure (some (.builtin id))/\s.TypeIs v T/\wpAny (model X.prog X.w) X.A (getItem v (.ref sl)) (EP X pins σ Q) X.xe s
def tSl(r:V->Option Int->Option Int->Hp->VK->Prop)(te:TE)(tl th:TO):TE:=λσ H Q=>te σ H λx H1=>tl σ H1 λl H2=>th σ H2 λu H3=>r x l u H3 Q
theorem eu{r:V->Option Int->Option Int->Hp->VK->Prop}(hr:SlR X r)(he:PE X e te)(hl:PO X lo tl)(hu:PO X hi th):PE X (.Subscript e (.Slice lo hi none p2) pos) (tSl r te tl th):=by
 intro pins s σ H Q I h;refine Subscript_ (thn (he pins s σ H _ I h) λv s1 ⟨x,H1,I1,r1,q1⟩=>?_);refine wpAny_Slice (thn (hl pins s1 σ H1 _ I1 q1) λvl s2 ⟨l,H2,I2,pl,q2⟩=>thn (hu pins s2 σ H2 _ I2 q2) λvu s3 ⟨u,H3,I3,pu,q3⟩=>?_);rw[evalPart_none];refine qd ?_;have I4:Inv X pins σ H3 { s3 with heap:=s3.heap.push { cls:=.type "slice",data:=.fields #[vl,vu,.none] } }:=I3.kept (t':=s3.toks) λb ob q=>qa _ q;obtain⟨T,id,hT,ht,hg⟩:=hr pins { s3 with heap:=s3.heap.push { cls:=.type "slice",data:=.fields #[vl,vu,.none] } } σ H3 x v vl vu l u s3.heap.objs.size Q I4 r1 (Heap.IsSliceOf.new ..) pl pu q3;show wpAny (model X.prog X.w) X.A (subscriptTail e (.Slice lo hi none p2) v (.ref s3.heap.objs.size)) (EP X pins σ Q) X.xe { s3 with heap:=s3.heap.push { cls:=.type "slice",data:=.fields #[vl,vu,.none] } };exact tail_any (ops:=[.ref s3.heap.objs.size,v]) ht hT hg (by with_unfolding_all rfl)
def c6(xs:List V)(lo hi:Option Int):List V:=(xs.drop (HT.sIx xs.length 0 lo)).take (HT.sIx xs.length xs.length hi-HT.sIx xs.length 0 lo)
theorem sC(xs:List V)(lo hi:Option Int):(c6 xs lo hi).length<=xs.length:=by
 unfold c6;rw[qK,qY];omega
def vy(K:W.Frag):V->Option Int->Option Int->Hp->VK->Prop:=λx lo hi H Q=>∃a xs,x=.ref a/\SqT K H a xs /\
 ¬ (HT.sIx xs.length 0 lo=0/\HT.sIx xs.length xs.length hi=xs.length)/\∀p,H p=none->Q (.ref p) (upd H p (.tup (c6 xs lo hi)))
theorem gm:SlR X (vy X.K):=by
 intro pins s σ H x v vl vu lo hi sl Q I rx hs pl pu h;obtain⟨a,xs,rfl,hx,hw,q⟩:=h;cases rx;obtain⟨its,r,ht,hz⟩:=I.tuple hx;have hlen:its.toArray.size=xs.length:=by rw[qC];exact r.length.symm
 refine⟨"tuple",_,PyProof.Rows.slot_tuple_getitem.lookup,ht.typeIs,?_⟩;refine HT.getItem_tuple_cut ht hs pl pu (by rw[hlen];exact hw) ?_ (by rw[hlen];exact hz);rw[hlen];refine⟨.ref s.heap.objs.size,_,I.laid (t':=s.toks) (o:=.tup (c6 xs lo hi)) (λb ob q=>qa _ q) (qe _) ?_,U,q _ (I.hok.fresh (qe _))⟩;exact⟨qy (sC xs lo hi) hz,_,(r.drop (HT.sIx xs.length 0 lo)).take (HT.sIx xs.length xs.length hi-HT.sIx xs.length 0 lo),IsTup.new _ _⟩
def vH(K:W.Frag):R2:=λx y H Q=>∃a b xs ys,x=.ref a/\y=.ref b/\SqT K H a xs/\SqT K H b ys/\xs≠[]/\xs.length+ys.length<=sizeLine /\
 (ys=[]->Q (.ref a) H)/\(ys≠[]->∀p,H p=none->Q (.ref p) (upd H p (.tup (xs++ys))))
theorem ar.nil_iff{xs:List V}{us:List Value}(r:ar xs us):us=[]↔xs=[]:=by
 cases r with
 |nil=>simp
 |cons _ _=>simp
theorem gF:OpR X (binaryOp .Add) (vH X.K):=by
 intro pins s σ H x y v u Q I rx ry h;obtain⟨a,b,xs,ys,rfl,rfl,ha,hb,hx,hz,q1,q2⟩:=h;cases rx;cases ry;obtain⟨its,r1,p1,_⟩:=I.tuple ha;obtain⟨its2,r2,p2,_⟩:=I.tuple hb;refine HT.cat_tup p1 p2 (λz=>hx (r1.nil_iff.mp z)) (λz=>⟨.ref a,H,I,U,q1 (r2.nil_iff.mp z)⟩) (λz=>?_) (by rw[<- r1.length,<- r2.length];exact hz);refine⟨.ref s.heap.objs.size,_,I.laid (t':=s.toks) (o:=.tup (xs++ys)) (λb ob q=>qa _ q) (qe _) ?_,U,q2 (λw=>z (r2.nil_iff.mpr w)) _ (I.hok.fresh (qe _))⟩;exact⟨by rw[qb];exact hz,_,r1.append r2,IsTup.new _ _⟩
end
def ixN(n:Nat)(i:Int):Option Nat:=if 0<=i then(if i<n then some i.toNat else none)else if -(n:Int)<=i then some (i+n).toNat else none
def atI{α:Type}(xs:List α)(i:Int):Option α:=(ixN xs.length i).bind λj=>xs[j]?
theorem rB{n:Nat}{i:Int}{j:Nat}(h:ixN n i=some j):seqIndex? i n=some j/\j<n/\-(n:Int)<=i/\i<n:=by
 unfold ixN at h;by_cases h0:0<=i
 ·rw[Q0 h0]at h;by_cases h1:i<n
  ·rw[Q0 h1]at h;have e:i.toNat=j:=qJ h;exact⟨by rw[seqIndex_of h0 h1,e],Qw,Qw,h1⟩
  ·rw[qZ h1]at h;cases h
 ·rw[qZ h0]at h;by_cases h1:-(n:Int)<=i
  ·rw[Q0 h1]at h;have e:(i+n).toNat=j:=qJ h;exact⟨by rw[seqIndex_neg Qw h1,e],Qw,h1,Qw⟩
  ·rw[qZ h1]at h;cases h
theorem lY{α:Type}{xs:List α}{i:Int}{v:α}(h:atI xs i=some v):∃j,seqIndex? i xs.length=some j/\xs[j]?=some v/\j<xs.length/\-(xs.length:Int)<=i/\i<xs.length:=by
 unfold atI at h
 cases e:ixN xs.length i with
 |none=>rw[e]at h;cases h
 |some j=>
  rw[e]at h;obtain⟨h1,h2,h3,h4⟩:=rB e;exact⟨j,h1,h,h2,h3,h4⟩
theorem bS{α:Type}{xs:List α}{j:Nat}{v:α}(h:xs[j]?=some v):atI xs (j:Int)=some v:=by
 have hj:j<xs.length:=(qf.mp h).1
 have e:ixN xs.length (j:Int)=some j:=by
  unfold ixN;rw[Q0 Qw,Q0 Qw];simp
 unfold atI;rw[e];exact h
def Af(b:Expr):Prop:=∀o i,subscripted b false o i=operate [o,i] (getItem o i)
def IxR(X:Cx)(r:R2):Prop:=
 ∀(value slice:Expr)(pins:List (Addr×Obj))(s:Shared)(σ:St)(H:Hp)(x y:V)(v u:Value)(Q:VK),Inv X pins σ H s->aG x v->aG y u->r x y H Q->
  subscripted slice false v u=operate [v,u] (getItem v u)->wpAny (model X.prog X.w) X.A (subscriptTail value slice v u) (EP X pins σ Q) X.xe s
def MtR(X:Cx)(id:String)(r:V->List V->Hp->VK->Prop):Prop:=
 ∀(pins:List (Addr×Obj))(s:Shared)(σ:St)(H:Hp)(x:V)(xs:List V)(v:Value)(us:List Value)(Q:VK),Inv X pins σ H s->aG x v->ar xs us->r x xs H Q->
  wpAny (model X.prog X.w) X.A (call (.builtin id) (v::us)) (EP X pins σ Q) X.xe s
section
variable {X:Cx}{a b:Expr}{ta tb:TE}{pos:Pos}
theorem ak{r:R2}(hr:IxR X r)(ha:PE X a ta)(hb:PE X b tb)(hs:Af b):PE X (.Subscript a b pos) (tOp r ta tb):=by
 intro pins s σ H Q I h;exact Subscript_ (lS ha hb I h λv u s2 x y H2 I2 rx ry q=>hr a b pins s2 σ H2 x y v u Q I2 rx ry q (hs _ _))
def vF(K:W.Frag):R2:=λx y H Q=>∃p xs i v,x=.ref p/\y=.int i/\SqL K H p xs/\atI xs i=some v/\Q v H
def vD(K:W.Frag):R2:=λx y H Q=>∃p xs i v,x=.ref p/\y=.int i/\SqT K H p xs/\atI xs i=some v/\Q v H
def vE:R2:=λx y H Q=>∃z i c,x=.str z/\y=.int i/\z.length<=sizeLine/\atI z.cps.toList i=some c/\Q (.str ⟨#[c]⟩) H
theorem yW:IxR X (vF X.K):=by
 intro value slice pins s σ H x y v u Q I rx ry h hs;obtain⟨p,xs,i,z,rfl,rfl,hq,he,q⟩:=h;cases rx;obtain⟨t,rfl⟩:=ry;obtain⟨its,r,pl,hz⟩:=I.list hq;obtain⟨j,h1,h2,h3,h4,h5⟩:=lY he;obtain⟨w,ew,rw'⟩:=r.get h2;have hl:=r.length;have hn:=gL;have fin:EP X pins σ Q w s:=⟨z,H,I,rw',q⟩;by_cases h0:0<=i
 ·have hj:i.toNat=j:=by
   rw[seqIndex_of h0 h5]at h1;exact qJ h1
  exact item_listR pl.isList h0 Qw (by rw[hj];simpa using ew) fin hs
 ·have hj:(i+(its.toArray.size:Int)).toNat=j:=by
   rw[seqIndex_neg Qw h4]at h1;rw[qC,<- hl];exact qJ h1
  exact subscriptTail_builtinR (x:=w) pl.isList.typeIs slot_list_getitem.lookup
   (wpAny_getItem_list_neg (Q:=λr s'=>r=w/\EP X pins σ Q r s') pl.isList Qw (by rw[qC]<;>omega) Qw (by rw[hj];simpa using ew) ⟨U,fin⟩) hs
theorem yU:IxR X (vD X.K):=by
 intro value slice pins s σ H x y v u Q I rx ry h hs;obtain⟨p,xs,i,z,rfl,rfl,hq,he,q⟩:=h;cases rx;obtain⟨t,rfl⟩:=ry;obtain⟨its,r,pl,hz⟩:=I.tuple hq;obtain⟨j,h1,h2,h3,h4,h5⟩:=lY he;obtain⟨w,ew,rw'⟩:=r.get h2;have hl:=r.length;have hn:=gL;have fin:EP X pins σ Q w s:=⟨z,H,I,rw',q⟩
 exact subscriptTail_builtinR (x:=w) pl.typeIs slot_tuple_getitem.lookup
  (getItem_tuple (j:=j) (Q:=λr s'=>r=w/\EP X pins σ Q r s') pl Qw Qw (by rw[qC,<- hl];exact h1) (by simpa using ew) ⟨U,fin⟩) hs
theorem yV:IxR X vE:=by
 intro value slice pins s σ H x y v u Q I rx ry h hs;obtain⟨z,i,c,rfl,rfl,hz,he,q⟩:=h;obtain⟨t,rfl⟩:=rx;obtain⟨t',rfl⟩:=ry;obtain⟨j,h1,h2,h3,h4,h5⟩:=lY he;have hl:z.cps.toList.length=z.length:=by simp[Str.length]
 rw[hl]at h1 h4 h5;have hn:=gL
 exact tail_any (typeIs_str s z t) slot_str_getitem.lookup (getItem_str (c:=c) (by
  have e1:decide (i < -(2 ^ 63:Int))=false:=Q3 Qw;have e2:decide (i >= 2 ^ 63)=false:=Q3 Qw
  rw[e1,e2,Bool.or_false]) (by rw[h1];simpa using h2) ⟨.str ⟨#[c]⟩,H,I.tok _,⟨_,U⟩,q⟩) hs
theorem yj(its:List Value)(n j:Nat)(u:Value):Obj.mapSeq (·.setIfInBounds j u) { cls:=.type "list",data:=.seq its.toArray n }={ cls:=.type "list",data:=.seq (its.set j u).toArray n }:=by
 simp[Obj.mapSeq]
theorem Inv.lst{pins:List (Addr×Obj)}{σ:St}{H:Hp}{s:Shared}{p:Addr}{xs:List V}(I:Inv X pins σ H s)(h:H p=some (.lst xs)):
 ∃(its:List Value)(n:Nat),ar xs its/\s.heap.get? p=some { cls:=.type "list",data:=.seq its.toArray n }/\xs.length<=sizeLine:=by
 obtain⟨z,its,n,r,e⟩:=I.hok p _ h;exact⟨its,n,r,e,z⟩
theorem Inv.lstUpd{pins:List (Addr×Obj)}{σ:St}{H:Hp}{s:Shared}{p:Addr}{xs ys:List V}{its its':List Value}{n n':Nat}{f:Obj->Obj}(I:Inv X pins σ H s)(h:H p=some (.lst xs))
 (ho:s.heap.get? p=some { cls:=.type "list",data:=.seq its.toArray n }) (hf:f { cls:=.type "list",data:=.seq its.toArray n }={ cls:=.type "list",data:=.seq its'.toArray n' }) (r:ar ys its') (hz:ys.length<=sizeLine) (t:Nat):
 Inv X pins σ (upd H p (.lst ys)) { s with heap:=s.heap.update p f,toks:=t }:=by
 have e:(s.heap.update p f).get? p=some { cls:=.type "list",data:=.seq its'.toArray n' }:=by
  rw[Qg f ho (by rw[hf]<;>rfl),hf]
 refine I.write (x:=p) (e:=p) (by rw[h];trivial) (.inl U) (λb u hb q=>(Qs _ _ (Ne.symm hb)).trans q) ⟨_,e⟩ ?_;exact⟨hz,its',n',r,e⟩
def vB:V->V->V->Hp->(Hp->Prop)->Prop:=λo i v H Q=>∃p xs k j,o=.ref p/\i=.int k/\H p=some (.lst xs)/\ixN xs.length k=some j/\Q (upd H p (.lst (xs.set j v)))
theorem eX:sW X vB:=by
 intro pins s σ H o i v ov iv u Q I ro ri rv h;obtain⟨p,xs,k,j,rfl,rfl,hp,hj,q⟩:=h;cases ro;obtain⟨t,rfl⟩:=ri;obtain⟨its,n,r,ho,hz⟩:=I.lst hp;obtain⟨h1,h2,h3,h4⟩:=rB hj;have hl:=r.length;have hn:=gL
 have I':Inv X pins σ (upd H p (.lst (xs.set j v))) { s with heap:=s.heap.update p (Obj.mapSeq (·.setIfInBounds j u)) }:=
  I.lstUpd hp ho (yj its n j u) (r.set rv j) (by rw[List.length_set];exact hz) s.toks
 by_cases h0:0<=k
 ·have hk:k.toNat=j:=by
   rw[seqIndex_of h0 h4]at h1;exact qJ h1
  exact PySem.W.ki_setAt ho h0 Qw (by rw[qC,<- hl];exact h4) (by rw[hk];exact⟨_,I',q⟩)
 ·have hk:(k+(its.toArray.size:Int)).toNat=j:=by
   rw[seqIndex_neg Qw h3]at h1;rw[qC,<- hl];exact qJ h1
  exact PySem.W.ki_setBack ho Qw (by rw[qC,<- hl];exact h3) Qw (by rw[hk];exact⟨_,I',q⟩)
theorem uw(lo hi:Option Int)(n:Nat):(sliceBounds lo hi none n).1=((HT.sIx n 0 lo:Nat):Int)/\(sliceBounds lo hi none n).2.1=((HT.sIx n n hi:Nat):Int)/\(sliceBounds lo hi none n).2.2=1:=by
 refine⟨?_,?_,U⟩
 ·cases lo with
  |none=>simp[sliceBounds,HT.sIx]
  |some i=>
   simp only[sliceBounds,HT.sIx,Option.getD_none,show(1:Int) > 0 by decide,if_true];by_cases h:i<0
   ·simp only[h,if_true]<;>omega
   ·simp only[h,if_false]<;>omega
 ·cases hi with
  |none=>simp[sliceBounds,HT.sIx]
  |some i=>
   simp only[sliceBounds,HT.sIx,Option.getD_none,show(1:Int) > 0 by decide,if_true];by_cases h:i<0
   ·simp only[h,if_true]<;>omega
   ·simp only[h,if_false]<;>omega
theorem ux(its:List Value)(lo hi:Option Int):slicePick its.toArray lo hi none=((its.drop (HT.sIx its.length 0 lo)).take (HT.sIx its.length its.length hi-HT.sIx its.length 0 lo)).toArray:=by
 obtain⟨h1,h2,h3⟩:=uw lo hi its.toArray.size;unfold slicePick;rw[h1,h2,h3];simp only[sliceRange_one,pick_run,qC]<;>rfl
def vA(K:W.Frag):V->Option Int->Option Int->Hp->VK->Prop:=λx lo hi H Q=>∃a xs,x=.ref a/\SqL K H a xs/\∀p,H p=none->Q (.ref p) (upd H p (.lst (c6 xs lo hi)))
theorem jd:SlR X (vA X.K):=by
 intro pins s σ H x v vl vu lo hi sl Q I rx hs pl pu h;obtain⟨a,xs,rfl,hx,q⟩:=h;cases rx;obtain⟨its,r,ht,hz⟩:=I.list hx;have hlen:=r.length;refine⟨"list",_,slot_list_getitem.lookup,ht.isList.typeIs,?_⟩;refine wpAny_getItem_list_slice ht.isList hs pl pu .none (by simp) ?_ (by rw[qC]<;>omega);rw[ux,<- hlen];refine⟨.ref s.heap.objs.size,_,I.laid (t':=s.toks) (o:=.lst (c6 xs lo hi)) (λb ob q=>qa _ q) (qe _) ?_,U,q _ (I.hok.fresh (qe _))⟩;exact⟨qy (sC xs lo hi) hz,_,0,(r.drop (HT.sIx xs.length 0 lo)).take (HT.sIx xs.length xs.length hi-HT.sIx xs.length 0 lo),qp _ U⟩
theorem A2:cs X (.builtin "len") (λxs H Q=>∃p ys,xs=[.ref p]/\(SqL X.K H p ys\/SqT X.K H p ys)/\Q (.int ys.length) H):=by
 intro pins s σ H xs us Q I r h;obtain⟨p,ys,rfl,hq,q⟩:=h;obtain⟨u,rfl,rx⟩:=dO r;cases rx;have hn:=gL;rcases hq with hq|hq
 ·obtain⟨its,r',pl,hz⟩:=I.list hq;have hlen:=r'.length;exact Calls.call_len_list pl.isList (by simp only[qC]<;>omega) ⟨.int ys.length,H,I.tok _,⟨s.toks+1,by rw[qC,hlen]⟩,q⟩
 ·obtain⟨its,r',pl,hz⟩:=I.tuple hq;have hlen:=r'.length;exact len_tuple pl (by simp only[qC]<;>omega) ⟨.int ys.length,H,I.tok _,⟨s.toks+1,by rw[qC,hlen]⟩,q⟩
theorem A1:cs X (.type "list") (λxs H Q=>∃p ys,xs=[.ref p]/\(SqL X.K H p ys\/SqT X.K H p ys)/\∀l,H l=none->Q (.ref l) (upd H l (.lst ys))):=by
 intro pins s σ H xs us Q I r h;obtain⟨p,ys,rfl,hq,q⟩:=h;obtain⟨u,rfl,rx⟩:=dO r;cases rx
 have fin:∀(its:List Value),ar ys its->ys.length<=sizeLine->∀(h':Heap)(c':Nat),(∀b o',s.heap.get? b=some o'->h'.get? b=some o')->
  h'.get? s.heap.objs.size=some { cls:=.type "list",dict:=none,data:=.seq its.toArray c',slots:=#[] }->EP X pins σ Q (.ref s.heap.objs.size) { s with heap:=h' }:=λits r' hz h' c' kp e=>
  ⟨.ref s.heap.objs.size,_,I.laid (t':=s.toks) kp (qe _) (show bP X.prog X.w _ h' _ (.lst ys)from⟨hz,its,c',r',e⟩),U,q _ (I.hok.fresh (qe _))⟩
 rcases hq with hq|hq
 ·obtain⟨its,r',pl,hz⟩:=I.list hq;have hlen:=r'.length;obtain⟨o,ho,hc,n,hd⟩:=pl.isList;exact call_list_seq p (.inl U) ho hc hd (λh' c' kp e=>fin its r' hz h' c' kp e) (by simp only[qC]<;>omega)
 ·obtain⟨its,r',pl,hz⟩:=I.tuple hq;have hlen:=r'.length;obtain⟨o,ho,hc,n,hd⟩:=pl;exact call_list_seq p (.inr U) ho hc hd (λh' c' kp e=>fin its r' hz h' c' kp e) (by simp only[qC]<;>omega)
theorem lR:cs X (.type "tuple") (λxs H Q=>∃p ys,xs=[.ref p]/\((SqL X.K H p ys/\∀l,H l=none->Q (.ref l) (upd H l (.tup ys)))\/(SqT X.K H p ys/\Q (.ref p) H))):=by
 intro pins s σ H xs us Q I r h;obtain⟨p,ys,rfl,h⟩:=h;obtain⟨u,rfl,rx⟩:=dO r;cases rx;rcases h with⟨hq,q⟩|⟨hq,q⟩
 ·obtain⟨its,r',pl,hz⟩:=I.list hq;have hlen:=r'.length;refine call_tuple_list pl.isList (λh' kp=>?_) (by simp only[qC]<;>omega);have I1:Inv X pins σ H { s with heap:=h' }:=I.kept (t':=s.toks) kp
  have I2:Inv X pins σ (upd H h'.objs.size (.tup ys)) { s with heap:=h'.push { cls:=.type "tuple",data:=.seq its.toArray } }:=
   I1.laid (t':=s.toks) (λb o e=>qa _ e) (qe _) (show bP X.prog X.w _ _ _ (.tup ys)from⟨hz,its,r',IsTup.new _ _⟩)
  exact⟨.ref h'.objs.size,_,I2,U,q _ (I1.hok.fresh (qe _))⟩
 ·obtain⟨its,r',pl,hz⟩:=I.tuple hq;exact call_tuple_same pl ⟨.ref p,H,I,U,q⟩
def tyV(K:W.Frag)(T:String)(x:V)(H:Hp):Prop:=match x with
 |.str _=>T="str"
 |.int _=>T="int"
 |.ref p=>(T="list"/\∃xs,SqL K H p xs)\/(T="tuple"/\∃o,K.lookup p=some o/\o.cls=.type "tuple"/\o.dict=none) \/
  (T="dict"/\((∃kvs,H p=some (.dK kvs))\/∃kvs,H p=some (.dT kvs)))\/(T="set"/\∃S n,H p=some (.set S n))
 |_=>False
theorem tI{pins:List (Addr×Obj)}{σ:St}{H:Hp}{s:Shared}{T:String}{x:V}{v:Value}(I:Inv X pins σ H s)(r:aG x v)(ty:tyV X.K T x H):
 s.TypeIs v T/\∀a,v=.ref a->∃ob,s.heap.get? a=some ob/\ob.dict=none:=by
 cases x with
 |str z=>
  obtain⟨t,rfl⟩:=r;cases(show T="str" from ty);exact⟨typeIs_str s z t,λ_ e=>nomatch e⟩
 |int i=>
  obtain⟨t,rfl⟩:=r;cases(show T="int" from ty);exact⟨typeIs_int s i t,λ_ e=>nomatch e⟩
 |ref p=>
  cases r;rcases ty with⟨rfl,xs,hq⟩|⟨rfl,o,hk,hc,hd⟩|⟨rfl,hk⟩|⟨rfl,S,n,hk⟩
  ·obtain⟨its,_,pl,_⟩:=I.list hq;refine⟨pl.isList.typeIs,λa e=>?_⟩;cases e;obtain⟨o,n,e,c,hd,_⟩:=pl;exact⟨o,e,hd⟩
  ·refine⟨⟨o,I.kIn p o hk,hc⟩,λa e=>?_⟩;cases e;exact⟨o,I.kIn _ o hk,hd⟩
  ·have z:∃o,s.heap.get? p=some o/\o.ExactDict:=by
    rcases hk with⟨kvs,hk⟩|⟨kvs,hk⟩
    ·obtain⟨_,_,_,_,o,_,_,e,ex,_⟩:=I.hok p _ hk;exact⟨o,e,ex⟩
    ·obtain⟨_,_,_,_,o,_,_,e,ex,_⟩:=I.hok p _ hk;exact⟨o,e,ex⟩
   obtain⟨o,e,ex⟩:=z;refine⟨⟨o,e,ex.1⟩,λa e2=>?_⟩;cases e2;exact⟨o,e,ex.2.1⟩
  ·obtain⟨o,_,_,_,e,ex,_⟩:=I.hok p _ hk;refine⟨⟨o,e,ex.1⟩,λa e2=>?_⟩;cases e2;exact⟨o,e,ex.2.1⟩
 |_=>exact False.elim ty
def tBM(K:W.Frag)(T:String)(r:V->List V->Hp->VK->Prop)(to:TE)(t:TA):TE:=λσ H Q=>to σ H λx H1=>tyV K T x H1/\t σ H1 λxs H2=>r x xs H2 Q
variable {o e:Expr}{es:List Expr}{to:TE}{t:TA}{name:Str}{apos cpos:Pos}{T id:String}{r:V->List V->Hp->VK->Prop}
theorem wz(pa:PlainAttrs T)(slot:Slot T name id)(hty:typeOf (.builtin id)=pure (.type "method_descriptor"))(hm:MtR X id r)(ho:PE X o to)(ha:PA X (e::es) t)
 (hbase:attributeBase o name X.env (eval o X.env)=eval o X.env:=by rfl)
 (hfew:((backTo cpos (starEach (e::es) X.env)).all (λx=>!x.1) && (backToKw cpos (keywordEach [] X.env)).all (λx=>x.1.isSome)
  && decide ((e::es).length+([]:List Keyword).length+(if([]:List Keyword).isEmpty then 0 else 1)<30))=true:=by rfl)
 (hline:(apos.endLine == cpos.line)=true:=by rfl) (hs:starEach (e::es) X.env=(false,eval e X.env)::starEach es X.env:=by rfl) (hplain:(backTo cpos (starEach es X.env)).any (·.1)=false:=by rfl):
 PE X (.Call (.Attribute o name apos) (e::es) [] cpos) (tBM X.K T r to t):=by
 intro pins s σ H Q I h;refine wpAny_Call_method_late hbase hfew hline U (thn (ho pins s σ H _ I h) λv s1 ⟨x,H1,I1,r1,ty,q1⟩=>?_);obtain⟨h1,h2⟩:=tI I1 r1 ty;refine⟨T,id,pa,slot,hty,h1,h2,?_⟩;have hA:=ha cpos pins s1 σ H1 _ I1 q1;rw[hs]at hA ⊢;refine Calls.callWith_builtin (by show(false || (backTo cpos (starEach es X.env)).any (·.1))=false;rw[hplain]<;>rfl) (Calls.evalArgs_plain ?_);exact thn hA λus s2 ⟨vs,H2,I2,r2,q2⟩=>hm pins s2 σ H2 x vs v us Q I2 r1 r2 q2
end
def MtM(X:Cx)(id:String)(r:V->List V->Hp->VK->Prop):Prop:=
 ∀(pins:List (Addr×Obj))(s:Shared)(σ:St)(H:Hp)(x:V)(xs:List V)(v:Value)(us:List Value)(Q:VK),Inv X pins σ H s->aG x v->ar xs us->r x xs H Q->
  wpAny (model X.prog X.w) X.A (call (.builtin id) (v::us)) (EP X pins σ Q) X.xe s
theorem ar.one:∀{x:V}{us:List Value},ar [x] us->∃u,us=[u]/\aG x u
 |_,_,.cons r .nil=>⟨_,U,r⟩
theorem ar.eraseIdx:∀{xs:List V}{us:List Value}(i:Nat),ar xs us->ar (xs.eraseIdx i) (us.eraseIdx i)
 |_,_,_,.nil=>.nil
 |_,_,0,.cons _ t=>t
 |_,_,i+1,.cons r t=>.cons r (ar.eraseIdx i t)
theorem re{α:Type}:∀(l:List α)(i:Nat),(l.eraseIdx i).length<=l.length
 |[],_=>qe _
 |_::_,0=>Nat.le_succ _
 |_::r,i+1=>Nat.succ_le_succ (re r i)
section
variable {X:Cx}{pins:List (Addr×Obj)}{σ:St}{H:Hp}{s:Shared}{l b:Addr}{xs ys zs:List V}
theorem Inv.lset{its its':List Value}{n:Nat}{f:Array Value->Array Value}{t':Nat}(I:Inv X pins σ H s)(hH:H l=some (.lst xs))
 (e:s.heap.get? l=some { cls:=.type "list",data:=.seq its.toArray n }) (hf:f its.toArray=its'.toArray) (hv:ar ys its') (hz:ys.length<=sizeLine):
 Inv X pins σ (upd H l (.lst ys)) { s with heap:=s.heap.update l (Obj.mapSeq f),toks:=t' }:=by
 have q:=PySem.IsL.update e f;rw[hf]at q;refine I.write (x:=l) (e:=l) (by rw[hH];exact trivial) (.inl U) (λb' u hb hu=>(Qs s.heap (Obj.mapSeq f) (Ne.symm hb)).trans hu) ⟨_,q⟩ ?_;exact⟨hz,its',_,hv,q⟩
theorem Inv.lnew{its:List Value}{t':Nat}(I:Inv X pins σ H s)(hv:ar ys its)(hz:ys.length<=sizeLine):
 Inv X pins σ (upd H s.heap.objs.size (.lst ys)) { s with heap:=s.heap.push { cls:=.type "list",data:=.seq its.toArray },toks:=t' }:=
 I.laid (λ_ _ q=>qa _ q) (qe _) ⟨hz,its,0,hv,qp _ U⟩
theorem Inv.fresh(I:Inv X pins σ H s):H s.heap.objs.size=none:=I.hok.fresh (qe _)
theorem Inv.lstM(I:Inv X pins σ H s)(hH:H l=some (.lst xs)):xs.length<=sizeLine/\∃(its:List Value)(n:Nat),ar xs its/\xs.length=its.length/\s.heap.get? l=some { cls:=.type "list",data:=.seq its.toArray n }:=by
 obtain⟨z,its,n,r,e⟩:=I.hok l _ hH;exact⟨z,its,n,r,r.length,e⟩
theorem yd{n:Nat}(h:n<=sizeLine):Builtin.List.listTooLong n=false:=by
 unfold Builtin.List.listTooLong;exact Q3 Qw
end
section
variable {X:Cx}
def vJ:V->List V->Hp->VK->Prop:=λx vs H Q=>∃l xs y,x=.ref l/\vs=[y]/\H l=some (.lst xs)/\xs.length<sizeLine/\Q .non (upd H l (.lst (xs++[y])))
theorem yf:MtM X "list.append" vJ:=by
 intro pins s σ H x vs v us Q I rx rv h;obtain⟨l,xs,y,rfl,rfl,hH,hz,q⟩:=h;cases rx;obtain⟨u,rfl,ru⟩:=rv.one;obtain⟨z,its,n,r,hl,e⟩:=I.lstM hH;refine call_meets F.slot_list_append ⟨_,e,U⟩ F.entry_list_append (F.args_list_append_2 _ _) (PySem.list_append l its.toArray n u (by rw[qC];omega)) ⟨e,?_⟩;refine⟨.non,_,I.lset (its':=its++[u]) hH e (by simp) (r.append (.cons ru .nil)) ?_,U,q⟩;rw[qb,Q6];omega
def vG:V->List V->Hp->VK->Prop:=λx vs H Q=>∃l b xs zs,x=.ref l/\vs=[.ref b]/\H l=some (.lst xs)/\H b=some (.lst zs)/\xs.length+zs.length<=sizeLine/\Q .non (upd H l (.lst (xs++zs)))
theorem pV:MtM X "list.extend" vG:=by
 intro pins s σ H x vs v us Q I rx rv h;obtain⟨l,b,xs,zs,rfl,rfl,hH,hB,hz,q⟩:=h;cases rx;obtain⟨u,rfl,ru⟩:=rv.one;cases ru;obtain⟨z,its,n,r,hl,e⟩:=I.lstM hH;obtain⟨z2,its2,n2,r2,hl2,e2⟩:=I.lstM hB;have hsz:its.toArray.size+its2.toArray.size<=sizeLine:=by rw[qC,qC];omega
 have hlong:¬ (!its.toArray.isEmpty && Builtin.List.listTooLong (its.toArray.size+its2.toArray.size))=true:=by
  rw[yd hsz,Bool.and_false];exact qi
 refine call_meets F.slot_list_extend ⟨_,e,U⟩ F.entry_list_extend (F.args_list_extend_2 _ _)
  (AutoSeq1.list_extend_list_list_0 l its.toArray n b its2.toArray n2 hlong (by rw[qC];omega) Qw) ⟨e,e2,?_⟩
 refine⟨.non,_,I.lset (its':=its++its2) hH e (by simp) (r.append r2) ?_,U,q⟩;rw[qb];omega
def vC:V->List V->Hp->VK->Prop:=λx vs H Q=>∃l xs i k y,x=.ref l/\vs=[.int i]/\H l=some (.lst xs)/\-(2 ^ 63)<=i/\i<2 ^ 63/\seqIndex? i xs.length=some k/\xs[k]?=some y/\Q y (upd H l (.lst (xs.eraseIdx k)))
theorem ye:MtM X "list.pop" vC:=by
 intro pins s σ H x vs v us Q I rx rv h;obtain⟨l,xs,i,k,y,rfl,rfl,hH,h1,h2,hk,hy,q⟩:=h;cases rx;obtain⟨u,rfl,ru⟩:=rv.one;obtain⟨t,rfl⟩:=ru;obtain⟨z,its,n,r,hl,e⟩:=I.lstM hH;obtain⟨w,hw,rw'⟩:=r.get hy
 refine call_meets F.slot_list_pop ⟨_,e,U⟩ F.entry_list_pop (F.args_list_pop_2 _ _)
  (MeetsSeq.list_pop_at l its.toArray n i t k w (fitsIndex_both h1 h2) (by rw[qC,<- hl];exact hk) (by rw[<- qT];exact hw) (by rw[qC];omega)) ⟨e,?_⟩
 refine⟨y,_,I.lset (its':=its.eraseIdx k) hH e ?_ (r.eraseIdx k) ?_,rw',q⟩
 ·show its.toArray.eraseIdxIfInBounds k=(its.eraseIdx k).toArray;rw[List.eraseIdxIfInBounds_toArray]
 ·have:=re xs k;omega
end
section
variable {prog:Program}{w:World}{A:Around}{E:Yd}{s:Shared}
set_option maxRecDepth 100000 in
end
section
variable {X:Cx}
end
section
variable {κ:Type} [DecidableEq κ]
def cH(kvs:List (κ×V))(k:κ):Option V:=(kvs.find? λkv=>decide (kv.1=k)).map (·.2)
def cQ(kvs:List (κ×V))(k:κ)(v:V):List (κ×V):=
 if(kvs.any λkv=>decide (kv.1=k))=true then kvs.map (λkv=>if kv.1=k then(kv.1,v)else kv)else kvs++[(k,v)]
def dA(kvs:List (κ×V))(k:κ):List (κ×V):=kvs.filter λkv=>decide (kv.1≠k)
theorem mx{p:κ×V}{r:List (κ×V)}{k:κ}(e:p.1=k):cH (p::r) k=some p.2:=by simp[cH,Q8,e]
theorem my{p:κ×V}{r:List (κ×V)}{k:κ}(e:¬ p.1=k):cH (p::r) k=cH r k:=by simp[cH,Q8,e]
theorem qF(kvs:List (κ×V))(k:κ)(v:V):(cQ kvs k v).length<=kvs.length+1:=by
 unfold cQ;split
 ·rw[q9];omega
 ·rw[qb,qA,List.length_nil];omega
theorem bW.isSome_eq{o:Option V}{u:Option Value}(r:bW o u):o.isSome=u.isSome:=by
 cases o with
 |none=>cases u with
  |none=>rfl
  |some _=>exact(show False from r).elim
 |some _=>cases u with
  |none=>exact(show False from r).elim
  |some _=>rfl
theorem KV.val{kvs:List (κ×V)}{vs:List (κ×Value)}(r:KV kvs vs)(k:κ):bW (cH kvs k) (valueAt vs k):=by
 unfold KV at r
 induction r with
 |nil=>exact True.intro
 |@cons p q ps qs h t ih=>
  obtain⟨h1,h2⟩:=h;by_cases e:p.1=k
  ·have e':q.1=k:=h1.symm.trans e;have b:valueAt (q::qs) k=some q.2:=by simp[valueAt,Q8,e']
   rw[mx e,b];exact h2
  ·have e':¬ q.1=k:=λz=>e (h1.trans z);have b:valueAt (q::qs) k=valueAt qs k:=by simp[valueAt,Q8,e']
   rw[my e,b];exact ih
theorem KV.any{kvs:List (κ×V)}{vs:List (κ×Value)}(r:KV kvs vs)(k:κ):(kvs.any λkv=>decide (kv.1=k))=vs.any λkv=>decide (kv.1=k):=by
 unfold KV at r
 induction r with
 |nil=>rfl
 |cons h t ih=>rw[List.any_cons,List.any_cons,ih,h.1]
theorem KV.repl{kvs:List (κ×V)}{vs:List (κ×Value)}(r:KV kvs vs)(k:κ){y:V}{u:Value}(ry:aG y u):
 KV (kvs.map λkv=>if kv.1=k then(kv.1,y)else kv) (vs.map λkv=>if kv.1=k then(kv.1,u)else kv):=by
 unfold KV at r ⊢
 induction r with
 |nil=>exact .nil
 |@cons p q ps qs h t ih=>
  rw[qR,qR];refine .cons ?_ ih;obtain⟨h1,h2⟩:=h;by_cases e:p.1=k
  ·rw[Q0 e,Q0 (h1.symm.trans e)];exact⟨h1,ry⟩
  ·rw[qZ e,qZ (λz=>e (h1.trans z))];exact⟨h1,h2⟩
theorem KV.put{kvs:List (κ×V)}{vs:List (κ×Value)}(r:KV kvs vs)(k:κ){y:V}{u:Value}(ry:aG y u):KV (cQ kvs k y) (stored vs k u):=by
 unfold cQ stored;rw[r.any k];by_cases e:(vs.any λkv=>decide (kv.1=k))=true
 ·rw[Q0 e,Q0 e];exact r.repl k ry
 ·rw[qZ e,qZ e];exact Paired.snoc r ⟨U,ry⟩
theorem KV.drop{kvs:List (κ×V)}{vs:List (κ×Value)}(r:KV kvs vs)(k:κ):KV (dA kvs k) (without vs k):=by
 unfold KV at r ⊢;unfold dA without
 induction r with
 |nil=>exact .nil
 |@cons p q ps qs h t ih=>
  obtain⟨h1,h2⟩:=h;rw[List.filter_cons,List.filter_cons];by_cases e:p.1=k
  ·have a:¬ decide (p.1≠k)=true:=by simp[e]
   have b:¬ decide (q.1≠k)=true:=by simp[h1.symm.trans e]
   rw[qZ a,qZ b];exact ih
  ·have e':¬ q.1=k:=λz=>e (h1.trans z);have a:decide (p.1≠k)=true:=by simp[e]
   have b:decide (q.1≠k)=true:=by simp[e']
   rw[Q0 a,Q0 b];exact .cons ⟨h1,h2⟩ ih
theorem KV.length{kvs:List (κ×V)}{vs:List (κ×Value)}(r:KV kvs vs):kvs.length=vs.length:=Paired.length r
theorem sq(kvs:List (κ×V))(k:κ):(dA kvs k).length<=kvs.length:=List.length_filter_le _ _
end
theorem gN{P:Program}{w:World}{k:Key}{u:Value}(r:aG (kV k) u):(bV P w).is k u=true:=by
 cases k with
 |inl i=>obtain⟨t,e⟩:=(show ∃t,u=Value.int i t from r);subst e;exact yh P w i t
 |inr x=>obtain⟨t,e⟩:=(show ∃t,u=Value.str x t from r);subst e;exact yg P w x t
theorem rD{P:Program}{w:World}:∀{ks:List Key}{us:List Value},ar (ks.map kV) us->ItemsAre (bV P w) ks us
 |[],_,r=>by rw[List.map_nil]at r;cases r;exact .nil
 |k::ks,_,r=>by
  rw[qR]at r
  cases r with
  |cons h t=>exact .cons (gN h) (rD t)
abbrev KT(H:Hp):List (List Key×V)->List (List Key×Addr×Value)->Prop:=Paired λp q=>p.1=q.1/\H q.2.1=some (.tup (p.1.map kV))/\aG p.2 q.2.2
section
variable {P:Program}{w:World}{H:Hp}{h:Heap}{a:Addr}
theorem oT{u:HO}(ok:HOk P w H h)(e:Rd H a u):bP P w H h a u:=e.ok ok
theorem lM{kvs:List (Key×V)}(ok:HOk P w H h)(e:Rd H a (.dK kvs)):kvs.length<=sizeLine/\(a == sysModules)=false/\∃vs,KV kvs vs/\h.DictOf (bV P w) a vs:=
 show bP P w H h a (.dK kvs)from oT ok e
theorem gQ{kvs:List (Key×V)}(ok:HOk P w H h)(e:H a=some (.dK kvs)):kvs.length<=sizeLine/\(a == sysModules)=false/\∃vs,KV kvs vs/\h.DictOf (bV P w) a vs:=lM ok (.inl e)
theorem yL{ks:List Key}(ok:HOk P w H h)(e:H a=some (.tup (ks.map kV))):(tupleKind (bV P w)).is h ks a:=by
 obtain⟨_,its,r,o,h1,h2,n,h3⟩:=(show bP P w H h a (.tup (ks.map kV))from ok a _ e);exact⟨o,its.toArray,n,h1,h2,h3,by simpa using rD r⟩
theorem zD{kvs:List (List Key×V)}(ok:HOk P w H h)(e:Rd H a (.dT kvs)):kvs.length<=sizeLine/\(a == sysModules)=false /\
 ∃xs,KT H kvs xs/\h.DictOfH (tupleKind (bV P w)) a xs:=by
 obtain⟨z,y,xs,r,o,es,ep,h1,h2,h3,h4,h5⟩:=(show bP P w H h a (.dT kvs)from oT ok e);refine⟨z,y,xs,r,o,es,ep,h1,h2,h3,h4,λx hx=>?_,h5⟩
 have all:∀{l:List (List Key×V)}{m:List (List Key×Addr×Value)},KT H l m->∀x∈m,(tupleKind (bV P w)).is h x.1 x.2.1:=by
  intro l m q
  induction q with
  |nil=>intro x hx;exact nomatch hx
  |@cons p q ps qs hq t ih=>
   intro x hx;rcases qu.mp hx with e|hx
   ·subst e;exact yL ok (by rw[<- hq.1];exact hq.2.1)
   ·exact ih x hx
 exact all r x hx
end
section
variable {X:Cx}{pins:List (Addr×Obj)}{σ:St}{H:Hp}{s:Shared}{a:Addr}{y v:V}{u r:Value}{o:Option V}{A:Around}{E:Yd}
theorem Inv.big(I:Inv X pins σ H s):sysModules<s.heap.objs.size:=by
 have h:mainGlobals<s.heap.objs.size:=(I.mod.glob.keeps I.bk).lt;exact Nat.lt_trans Qz h
theorem iR{h':Heap}{t':Nat}{ob:HO}(I:Inv X pins σ H s)(mu:Mut (H a))(hs:Heap.SameBut a s.heap h')(he:∃q,h'.get? a=some q)(new:bP X.prog X.w (upd H a ob) h' a ob):
 Inv X pins σ (upd H a ob) { s with heap:=h',toks:=t' }:=
 I.write (x:=a) (e:=a) mu (.inl U) (λb q hb z=>(hs.2 b hb).trans z) he new
theorem iQ{P:Program}{w:World}{H':Hp}{h':Heap}{kvs:List (Key×V)}{vs:List (Key×Value)}(z:kvs.length<=sizeLine)(hd:(a == sysModules)=false)(rel:KV kvs vs)(dd:h'.DictOf (bV P w) a vs):
 bP P w H' h' a (.dK kvs):=⟨z,hd,vs,rel,dd⟩
end
section
variable {X:Cx}{pins:List (Addr×Obj)}{σ:St}{H:Hp}{s:Shared}{a:Addr}{kvs:List (Key×V)}{k:Key}{u:Value}{A:Around}{E:Yd}
theorem Am{Q:Unit->Shared->Prop}(I:Inv X pins σ H s)(e:H a=some (.dK kvs))(ry:aG (kV k) u)(l:(cH kvs k).isSome=true)(h:∀s',Inv X pins σ (upd H a (.dK (dA kvs k))) s'->Q () s'):
 wpAny (model X.prog X.w) A (delItem (.ref a) u) Q E s:=by
 obtain⟨z,hd,vs,rel,dd⟩:=gQ I.hok e
 refine wpAny_delItem_slot dd.typeIs Qz PySem.F.slot_dict_delitem
  (call_meetsIn PySem.F.slot_dict_delitem dd.typeIs PySem.F.entry_dict_delitem (PySem.F.args_dict_delitem_2 _ _) (meets_dict_delitem_pairs (bV X.prog X.w) a (gN ry)) ⟨vs,dd,by rw[<- rel.length];exact z,by rw[<- (rel.val k).isSome_eq];exact l,λh' dd' hs=>h _ ?_⟩)
 have he:∃q,h'.get? a=some q:=let ⟨q,_,_,hq,_⟩:=dd';⟨q,hq⟩;exact iR I (by rw[e];exact True.intro) hs he (iQ (qy (sq kvs k) z) hd (rel.drop k) dd')
theorem zJ{v:V}{more:List Value}{Q:Yd}(I:Inv X pins σ H s)(e:H a=some (.dK kvs))(ry:aG (kV k) u)(l:cH kvs k=some v)(hm:more=[]\/∃x,more=[x])
 (h:∀w' s',Inv X pins σ (upd H a (.dK (dA kvs k))) s'->aG v w'->Q w' s'):wpAny (model X.prog X.w) A (call (.builtin "dict.pop") (.ref a::u::more)) Q E s:=by
 obtain⟨z,hd,vs,rel,dd⟩:=gQ I.hok e;obtain⟨w',hw,rw'⟩:=bW.some_of (v:=v) (o:=valueAt vs k) (by rw[<- l];exact rel.val k)
 have hp:(keyPart u).isSome=true:=by
  cases k with
  |inl i=>obtain⟨t,q⟩:=(show ∃t,u=Value.int i t from ry);subst q;rfl
  |inr x=>obtain⟨t,q⟩:=(show ∃t,u=Value.str x t from ry);subst q;rfl
 have ha:argsOk "dict.pop" ⟨.ref a::u::more,[]⟩:=by
  rcases hm with q|⟨x,q⟩
  ·subst q;exact PySem.F.args_dict_pop_2 _ _
  ·subst q;exact PySem.F.args_dict_pop_3 _ _ _
 refine call_meetsIn PySem.F.slot_dict_pop dd.typeIs PySem.F.entry_dict_pop ha (meets_dict_pop_there (bV X.prog X.w) a (gN ry) more hm hp)
  ⟨vs,w',dd,by rw[<- rel.length];exact z,hw,λh' dd' hs=>h w' _ ?_ rw'⟩
 have he:∃q,h'.get? a=some q:=let ⟨q,_,_,hq,_⟩:=dd';⟨q,hq⟩;exact iR I (by rw[e];exact True.intro) hs he (iQ (qy (sq kvs k) z) hd (rel.drop k) dd')
theorem zK{Q:Yd}(I:Inv X pins σ H s)(e:Rd H a (.dK kvs))(h:∀t s',Inv X pins σ H s'->Q (.int kvs.length t) s'):wpAny (model X.prog X.w) A (call (.builtin "len") [.ref a]) Q E s:=by
 obtain⟨z,hd,vs,rel,dd⟩:=lM I.hok e;refine call_len_dict hd dd (by rw[<- rel.length];rw[sizeLine_eq]at z;omega) ?_;rw[<- rel.length];exact h _ _ (I.tok _)
end
section
variable {X:Cx}{o i e value:Expr}{pos pos' tpos:Pos}{td ty tv:TE}
end
theorem zH{P:Program}{w:World}{H:Hp}(h:Heap)(hb:sysModules<h.objs.size):bP P w H (h.push { cls:=.type "dict",data:=.dict #[] }) h.objs.size (.dK []):=
 ⟨qt _,beq_eq_false_iff_ne.mpr (Ne.symm (qG hb)),[],.nil,Heap.DictOf.new h⟩
section
variable {X:Cx}{pos:Pos}
end
def j7:List (TE×TE)->St->Hp->(List (V×V)->Hp->Prop)->Prop
 |[],_,H,Q=>Q [] H
 |(tk,tv)::r,σ,H,Q=>tk σ H λx H1=>tv σ H1 λy H2=>j7 r σ H2 λps H3=>Q ((x,y)::ps) H3
abbrev VV:List (V×V)->List (Value×Value)->Prop:=Paired λp q=>aG p.1 q.1/\aG p.2 q.2
def PPs(X:Cx)(pos:Pos)(keys:List (Option Expr))(values:List Expr)(trs:List (TE×TE)):Prop:=
 ∀(pins:List (Addr×Obj))(s:Shared)(σ:St)(H:Hp)(Q:List (V×V)->Hp->Prop),Inv X pins σ H s->j7 trs σ H Q->
  wpAny (model X.prog X.w) X.A (evalPairs (pairTrees keys values X.env pos)) (λvs s'=>∃ps H',Inv X pins σ H' s'/\VV ps vs/\Q ps H') X.xe s
theorem w4{X:Cx}{pos:Pos}:PPs X pos [] [] []:=λpins s σ H Q I h=>pairTrees_nil_walk ⟨[],H,I,.nil,h⟩
theorem w5{X:Cx}{pos:Pos}{k v:Expr}{ks:List (Option Expr)}{vs:List Expr}{tk tv:TE}{trs:List (TE×TE)}(hk:PE X k tk)(hv:PE X v tv)(hr:PPs X pos ks vs trs):
 PPs X pos (some k::ks) (v::vs) ((tk,tv)::trs):=λpins s σ H Q I h=>
 pairTrees_cons_walk (thn (hk pins s σ H _ I h) λu s1 ⟨x,H1,I1,rx,q1⟩=>thn (hv pins s1 σ H1 _ I1 q1) λw2 s2 ⟨y,H2,I2,ry,q2⟩=>
  thn (hr pins s2 σ H2 _ I2 q2) λws s3 ⟨ps,H3,I3,rel,q3⟩=>⟨(x,y)::ps,H3,I3,.cons ⟨rx,ry⟩ rel,q3⟩)
def fV(kvs more:List (Key×V)):List (Key×V):=more.foldl (λacc kv=>cQ acc kv.1 kv.2) kvs
theorem KV.merge:∀{more:List (Key×V)}{rs:List (Key×Value)}{kvs:List (Key×V)}{vs:List (Key×Value)},KV more rs->KV kvs vs->KV (fV kvs more) (merged vs rs):=by
 intro more rs kvs vs r;unfold KV at r
 induction r generalizing kvs vs with
 |nil=>intro q;exact q
 |@cons p q ps qs h t ih=>
  intro r0
  have e:KV (cQ kvs p.1 p.2) (stored vs q.1 q.2):=by
   have:=r0.put p.1 h.2;rw[<- h.1];exact this
  exact ih e
theorem rc:∀(more kvs:List (Key×V)),(fV kvs more).length<=kvs.length+more.length
 |[],kvs=>by show kvs.length<=kvs.length+0;omega
 |p::r,kvs=>by
  have h1:=rc r (cQ kvs p.1 p.2);have h2:=qF kvs p.1 p.2;show(fV (cQ kvs p.1 p.2) r).length<=_;rw[qA];omega
theorem sJ{P:Program}{w:World}:∀{kvs:List (Key×V)}{ws:List (Value×Value)},VV (kvs.map λkv=>(kV kv.1,kv.2)) ws->∃rs,Carries (bV P w) ws rs/\KV kvs rs
 |[],_,r=>by rw[List.map_nil]at r;cases r;exact⟨[],True.intro,.nil⟩
 |p::kvs,_,r=>by
  rw[qR]at r
  cases r with
  |@cons a b as bs h t=>
   obtain⟨rs,c,q⟩:=sJ (P:=P) (w:=w) t;obtain⟨b1,b2⟩:=b;exact⟨(p.1,b2)::rs,⟨gN h.1,U,c⟩,.cons ⟨U,h.2⟩ q⟩
def ua(trs:List (TE×TE)):TE:=λσ H Q=>∀p,H p=none->j7 trs σ (upd H p (.dK [])) λps H2=>H2 p=some (.dK [])/\∃kvs:List (Key×V),ps=kvs.map (λkv=>(kV kv.1,kv.2))/\kvs.length<=15/\Q (.ref p) (upd H2 p (.dK (fV [] kvs)))
theorem wx{X:Cx}{pos:Pos}{keys:List (Option Expr)}{values:List Expr}{trs:List (TE×TE)}(h:PPs X pos keys values trs)(hall:keys.all (·.isSome)=true)(hl:keys.length=values.length)(h0:keys≠[])
 (h15:keys.length<=15):PE X (.Dict keys values pos) (ua trs):=by
 intro pins s σ H Q I q;have hn:=I.hok.fresh (qe s.heap.objs.size);have I1:=I.laid (a:=s.heap.objs.size) (o:=.dK []) (h':=s.heap.push { cls:=.type "dict",data:=.dict #[] }) (t':=s.toks) (λ_ _ q=>qa _ q) (qe _) (zH s.heap I.big);refine wpAny_Dict_walk (knd:=bV X.prog X.w) hall hl h0 h15 (thn (h pins _ σ _ _ I1 (q _ hn)) λws s2 ⟨ps,H2,I2,rel,e,kvs,ep,lk,q2⟩=>?_);subst ep;obtain⟨rs,c,rk⟩:=sJ (P:=X.prog) (w:=X.w) rel;obtain⟨z,hd,vs0,r0,dd⟩:=gQ I2.hok e;cases r0;refine⟨rs,c,dd,λh' dd' hs=>⟨.ref s.heap.objs.size,_,?_,U,q2⟩⟩
 have hz:(fV [] kvs).length<=sizeLine:=by
  have h1:=rc kvs [];rw[List.length_nil]at h1;rw[sizeLine_eq];omega
 have he:∃q,h'.get? s.heap.objs.size=some q:=let ⟨q,_,_,hq,_⟩:=dd';⟨q,hq⟩;exact iR I2 (by rw[e];exact True.intro) hs he (iQ hz hd (rk.merge .nil) dd')
structure M1(X:Cx)(o:Expr)(m:Str)(apos:Pos)(e:Expr)(cpos:Pos):Prop where
 base:attributeBase o m X.env (eval o X.env)=eval o X.env
 few:((backTo cpos (starEach [e] X.env)).all (λx=>!x.1) && (backToKw cpos (keywordEach [] X.env)).all (λx=>x.1.isSome)
  && decide (([e]:List Expr).length+([]:List Keyword).length+(if([]:List Keyword).isEmpty then 0 else 1)<30))=true
 line:(apos.endLine == cpos.line)=true
 trees:backTo cpos (starEach [e] X.env)=[(false,eval e X.env)]
structure M2(X:Cx)(o:Expr)(m:Str)(apos:Pos)(e f:Expr)(cpos:Pos):Prop where
 base:attributeBase o m X.env (eval o X.env)=eval o X.env
 few:((backTo cpos (starEach [e,f] X.env)).all (λx=>!x.1) && (backToKw cpos (keywordEach [] X.env)).all (λx=>x.1.isSome)
  && decide (([e,f]:List Expr).length+([]:List Keyword).length+(if([]:List Keyword).isEmpty then 0 else 1)<30))=true
 line:(apos.endLine == cpos.line)=true
 trees:backTo cpos (starEach [e,f] X.env)=[(false,eval e X.env),(false,eval f X.env)]
def IsD(H:Hp)(a:Addr):Prop:=(∃kvs,Rd H a (.dK kvs))\/∃kvs,Rd H a (.dT kvs)
theorem rG{X:Cx}{pins:List (Addr×Obj)}{σ:St}{H:Hp}{s:Shared}{a:Addr}(I:Inv X pins σ H s)(d:IsD H a):
 s.TypeIs (.ref a) "dict"/\(∀b,Value.ref a=.ref b->∃ob,s.heap.get? b=some ob/\ob.dict=none)/\(a == sysModules)=false:=by
 rcases d with⟨kvs,e⟩|⟨kvs,e⟩
 ·obtain⟨_,hd,vs,_,dd⟩:=lM I.hok e;refine⟨dd.typeIs,λb q=>?_,hd⟩;cases q;obtain⟨ob,_,_,h1,h2,_⟩:=dd;exact⟨ob,h1,h2.2.1⟩
 ·obtain⟨_,hd,xs,_,dd⟩:=zD I.hok e;refine⟨dd.typeIs,λb q=>?_,hd⟩;cases q;obtain⟨ob,_,_,h1,h2,_⟩:=dd;exact⟨ob,h1,h2.2.1⟩
section
variable {X:Cx}{pins:List (Addr×Obj)}{σ:St}{H:Hp}{s:Shared}{a:Addr}{y d:V}{u r:Value}{o:Option V}{A:Around}{E:Yd}
end
def uc(td ty:TE):TE:=λσ H Q=>td σ H λx H1=>∃a,x=.ref a/\IsD H1 a/\ty σ H1 λy H2=>∃kvs k v,H2 a=some (.dK kvs)/\y=kV k/\cH kvs k=some v/\Q v (upd H2 a (.dK (dA kvs k)))
section
variable {X:Cx}{o e f:Expr}{apos cpos:Pos}{td ty tx:TE}
theorem wv(ho:PE X o td)(he:PE X e ty)(m:M1 X o "pop" apos e cpos):PE X (.Call (.Attribute o "pop" apos) [e] [] cpos) (uc td ty):=by
 intro pins s σ H Q I h;refine wpAny_Call_method m.base m.few m.line PySem.F.plainAttrs_dict PySem.F.slot_dict_pop PySem.F.type_dict_pop (thn (ho pins s σ H _ I h) λu s1 ⟨x,H1,I1,rx,a,ex,d,q1⟩=>?_);subst ex;obtain rfl:u=Value.ref a:=rx;obtain⟨t1,t2,_⟩:=rG I1 d;refine⟨t1,t2,?_⟩;rw[m.trees];refine Calls.callWith_builtin U (Calls.evalArgs_plain (Calls.spliced_cons (thn (he pins s1 σ H1 _ I1 q1) λiv s2 ⟨y,H2,I2,ry,kvs,k,v,ea,ey,l,q2⟩=>Calls.spliced_nil ?_)));subst ey;exact zJ I2 ea ry l (.inl U) λw' s3 I3 rw'=>⟨v,_,I3,rw',q2⟩
end
section
variable {X:Cx}{pins:List (Addr×Obj)}{σ:St}{H:Hp}{s:Shared}{a:Addr}{kvs:List (Key×V)}{A:Around}{E:Yd}
end
section
variable {X:Cx}{pins:List (Addr×Obj)}{σ:St}{H:Hp}{s:Shared}{a:Addr}{y:V}{u:Value}{A:Around}{E:Yd}
end
end L2
namespace Att
open PySem PySem.W PySem.Calls PyProof.Rows
theorem z0{P:Params}{h:Heap}:∀(ns:List Int)(vs:List Value),WellAll P h vs (ns.map WData.int)->IntsAre vs ns:=by
 intro ns
 induction ns with
 |nil=>
  intro vs w;rw[List.map_nil]at w;cases w;exact .nil
 |cons n ns ih=>
  intro vs w;rw[qR]at w
  cases w with
  |cons a b=>
   cases a;exact .cons _ _ (ih _ b)
theorem uE{l:OpenLaw}{n:Nat}(hn:l.most=some n){P:Params}{h:Heap}{args:List WData}{vals:List Value}
 (hpre:l.row.toRowW.claim.pre args=true) (hwl:WellAll P h vals args):
 ∃a vs ns,vals=[Value.ref a]/\args=[WData.list (ns.map WData.int)]/\h.get? a=some { cls:=.type "list",data:=.seq vs.toArray }/\IntsAre vs ns/\ns.length<=n:=by
 have hsh:WShape.hasAll [] args [.list .int]=true:=(pre_splitW hpre).1;have hc:l.pre.holds [] { args:=args }=true:=(pre_splitW hpre).2;obtain⟨d,r,rfl,h1,h2⟩:=hasAllW_cons hsh;obtain rfl:=hasAllW_nil h2;obtain⟨xs,rfl,h3⟩:=hasW_list h1;obtain⟨ns,rfl⟩:=items_int h3
 have hlen:ns.length<=n:=by
  unfold OpenLaw.pre at hc
  have h4:(WTm.not (.lt (.lit (.int (n:Int))) (.len (.arg 0)))).holds [] { args:=[.list (ns.map .int)] }=true:=by
   have h4:=(holds_andW hc).1;rw[hn]at h4;exact h4
  have h5:=condW_of h4 (w_not (w_lt w_lit (w_len_list (w_arg U))));rw[q9]at h5;refine Nat.le_of_not_lt λq=>?_;have q':(n:Int)<((ns.length:Nat):Int):=Qw
  first
   |(rw[Q1 q']at h5;exact Q4 h5 Qz)
   |(simp at h5;omega)
 cases hwl with
 |cons w1 w2=>
  cases w2
  cases w1 with
  |list ho hall=>exact⟨_,_,ns,U,U,ho,z0 ns _ hall,hlen⟩
theorem w6(l:OpenLaw)(args:List WData):l.row.toRowW.claim.post args (.bool true) args=true:=
 postW_of (r:=l.row.toRowW) (X:=(true == true))
  (show WShape.has [] (.bool true) .bool=true by first|rfl|decide|simp[WShape.has,WShape.arms,WShape.armsAll])
  (show(WTm.eq .res (.lit (.bool true))).value [] { args:=args,res:=some (.bool true),after:=args }=some (.bool (true == true))from w_eq_bool (w_res U) w_lit) U
section
variable {prog:Program}{w:World}{A:Around}{E:Yd}{s:Shared}{K:Frag}
end
end Att
namespace L2
open PySem PySem.Spec PyProof.Rows
theorem j1:∀{vs:List Value}{ns:List Int},IntsAre vs ns->ar (ns.map V.int) vs
 |_,_,.nil=>.nil
 |_,_,.cons n t h=>.cons ⟨t,U⟩ (j1 h)
def iW(H:Hp):Prop:=∀b,H b=none\/∃o xs,H b=some (.frz o (.lst xs))
theorem yH{P:Program}{w:World}{K:W.Frag}{mg mb:Str->Option Value}{CX:CXT}{k:Nat}{fa a:Addr}{fd:FuncData}{x:Str}{sp:Sp}{s₁:Shared}{vs:List Value}{ns:List Int}
 (KX:K.In s₁.heap) (hns:s₁.heap.Ns mainGlobals mg) (hb:s₁.heap.Ns builtinsNs mb) (hbb:∀x:Str,x≠"__name__"->mb x=bootBuiltins x) (hlim:s₁.heap.NoLimit) (hg:s₁.gens=#[])
 (ha:s₁.heap.get? a=some { cls:=.type "list",data:=.seq vs.toArray }) (hi:IntsAre vs ns) (hl:ns.length<=sizeLine) (hr:bA k callerA)
 (F:∀base:Heap,K.In base->base.Ns mainGlobals mg->aA P w K mg base CX k fa fd [x] sp) (hbind:∀(s:Shared)(u:Value),BindsTo s fd ⟨[u],[]⟩ [(x,u)])
 (hsp:∀H:Hp,iW H->SqL K H a (ns.map V.int)->sp [.ref a] H (λv _=>v=.bl true) λ_ _ _=>False)
 (hCX:∀H e s',CX [] H s₁ (λ_ _ _=>False) e s'->False):
 codeAny (model P w) callerA (.call (.ref fa) ⟨[.ref a],[]⟩) (λr s'=>r=.ok (.ret (.bool true))/\OldK s₁.heap s'.heap/\s'.os=s₁.os/\AllBare s'.gens) s₁:=by
 have rv:=j1 hi;have cU:=hi.length
 have core:∀H:Hp,iW H->SqL K H a (ns.map V.int)->HOk P w H s₁.heap->(∀b,H b≠none->b=a)->(H a≠none->K.lookup a=none)->
  codeAny (model P w) callerA (.call (.ref fa) ⟨[.ref a],[]⟩) (λr s'=>r=.ok (.ret (.bool true))/\OldK s₁.heap s'.heap/\s'.os=s₁.os/\AllBare s'.gens) s₁:=by
  intro H hO hS hok hA hK;have base_of:∀{b:Addr}{o:Obj},s₁.heap.get? b=some o->H b=none->(dI s₁.heap H).get? b=some o:=λe n=>zh e n
  have noA:∀{b:Addr}{o:Obj}{es:Array DictEntry}{ep:Nat},s₁.heap.get? b=some o->o.data=.dict es ep->H b=none:=λ{b o es ep} e d=>by
   cases q:H b with
   |none=>rfl
   |some u=>
    have e':b=a:=hA b (by rw[q];simp);subst e';rw[ha]at e;cases e;have d':Data.seq vs.toArray _=Data.dict es ep:=d;cases d'
  have nsK:∀{b:Addr}{m:Str->Option Value},s₁.heap.Ns b m->(dI s₁.heap H).Ns b m:=λ{b m}⟨o,es,ep,e,d,r⟩=>⟨o,es,ep,base_of e (noA e d),d,r⟩
  have hKb:K.In (dI s₁.heap H):=λb o e=>base_of (KX b o e) (by
   cases q:H b with
   |none=>rfl
   |some u=>
    have e':b=a:=hA b (by rw[q];simp);subst e'
    rw[hK (by rw[q];simp)]at e;cases e)
  have hM:Mod K mg (dI s₁.heap H):=⟨hKb,nsK hns,⟨mb,nsK hb,hbb⟩,let ⟨mc,h1,h2⟩:=hlim;⟨mc,nsK h1,h2⟩⟩;have e0:fD P w K mg (dI s₁.heap H) callerA [] s₁ H:=⟨U,hM,λb o e=>ya e,Nat.le_of_eq (zf _ _),trivial,λb hb=>Q4 (show b∈([]:List Addr)from hb) (by simp),hok,.of_eq hg⟩;refine codeAny_mono ((F _ hKb (nsK hns)).run callerA [] s₁ H ⟨[.ref a],[]⟩ [.ref a] [.ref a] _ _ hr e0 (hbind s₁ (.ref a)) (.cons U .nil) (hsp H hO hS)) λr s' h=>?_
  cases r with
  |error e=>exact(hCX H e s' h).elim
  |ok fl=>
   cases fl with
   |next=>exact False.elim h
   |brk=>exact False.elim h
   |cont=>exact False.elim h
   |ret u=>
    obtain⟨v,H',os,bare,un,hok',r',q⟩:=h;have q':v=.bl true:=q;subst q';obtain rfl:u=Value.bool true:=r';refine⟨U,OldK.of_keep λb o e=>?_,os,bare⟩
    cases q:H b with
    |none=>exact un.keep b o e q (by intro z;exact Q4 (show b∈([]:List Addr)from z) (by simp)) (by simp)
    |some u=>
     rcases hO b with z|⟨ob,xs,z⟩
     ·rw[q]at z;cases z
     ·have z2:=un.frzs b ob _ z;obtain⟨e1,_⟩:=hok b _ z;obtain⟨e2,_⟩:=hok' b _ z2;rw[e]at e1;cases e1;exact e2
 cases hk:K.lookup a with
 |some o=>
  have e:=KX a o hk;rw[ha]at e;cases e;refine core (λ_=>none) (λ_=>.inl U) (.inr ⟨_,vs.toArray,_,hk,U,U,U,by rw[qC,cU];exact hl,by simpa using rv⟩) (λb u z=>by have z':(none:Option HO)=some u:=z;cases z') (λb z=>Q4 U z) λz=>Q4 U z
 |none=>
  refine core (λb=>if b=a then some (.frz { cls:=.type "list",data:=.seq vs.toArray } (.lst (ns.map V.int)))else none) (λb=>?_) (.inl (.inr ⟨{ cls:=.type "list",data:=.seq vs.toArray },Q0 U⟩)) (λb u z=>?_) (λb z=>?_) λ_=>hk
  ·by_cases hb:b=a
   ·exact .inr ⟨_,_,Q0 hb⟩
   ·exact .inl (qZ hb)
  ·by_cases hb:b=a
   ·have z':=(Q0 hb).symm.trans z;cases z';subst hb;exact⟨ha,by rw[q9];exact hl,vs,_,rv,ha⟩
   ·have z':=(qZ hb).symm.trans z;cases z'
  ·by_cases hb:b=a
   ·exact hb
   ·exact Q4 (qZ hb) z
abbrev CX0:CXT:=λ_ _ _ _ _ _=>False
abbrev E0:XK:=λ_ _ _=>False
theorem ay{X:Cx}:eQ CX0 X E0:=λ_ _ _ _ _ _ _ h=>h.elim
structure Fun(K:W.Frag)(x qual:Str)(st:Stmt)(f:Addr)(fd:FuncData):Prop where
 ex:∃(oc:Value)(od:Option Addr)(kV doc pm:Value)(an:Option Addr)(cdv ct:Value)(osl:Array (Option Value)),
  fd=PySem.W.fnOf x qual (cE st) (cm st) (am st) .none kV doc pm an cdv ct/\K.lookup f=some ⟨oc,od,.func fd,osl⟩/\PySem.W.codeIn K cdv qual=true
 kp:PySem.W.keepIn K (.ref f)=true
section
variable {P:Program}{w:World}{K:W.Frag}{mg:Str->Option Value}{base:Heap}
theorem Fun.ok{x qual:Str}{st:Stmt}{f:Addr}{fd:FuncData}{N ps:List Str}{k:Nat}{sp:Sp}(F:Fun K x qual st f fd)(S:aI N ps (am st))(len:∀vs H Q E,sp vs H Q E->vs.length=ps.length)
 (hbody:∀(cdv:Value)(A:Around)(outer:List Env)(s:Shared)(H:Hp)(vs:List V)(Q:VK)(E:XK),bA k (A.deeper (envOfC qual (am st) s.heap.objs.size f cdv))->sp vs H Q E->
  ∃t,PSs (dJ CX0 P w K mg base N qual (am st) f cdv A outer s H E).nox (cm st) t/\t { nx:=λ_ H'=>Q .non H',rt:=Q } (start N vs) H):aA P w K mg base CX0 (k+1) f fd ps sp:=by
 obtain⟨oc,od,kV,doc,pm,an,cdv,ct,osl,rfl,lk,hcd⟩:=F.ex;refine se lk hcd S len λA outer s H vs Q E hr hsp=>?_;obtain⟨t,h,q⟩:=hbody cdv A outer s H vs Q E hr hsp;exact⟨t,h.nox,q⟩
theorem Fun.binds{x qual:Str}{st:Stmt}{f:Addr}{fd:FuncData}{ps:List Str}(F:Fun K x qual st f fd)
 (h:∀(kV doc pm:Value)(an:Option Addr)(cdv ct:Value)(us:List Value),us.length=ps.length->bindArgs (PySem.W.fnOf x qual (cE st) (cm st) (am st) .none kV doc pm an cdv ct) ⟨us,[]⟩=pure (ps.zip us)):aC K fd ps []:=by
 obtain⟨oc,od,kV,doc,pm,an,cdv,ct,osl,rfl,lk,hcd⟩:=F.ex;exact .all (h kV doc pm an cdv ct)
theorem zw{x qual:Str}{st:Stmt}{f:Addr}{oc:Value}{od an:Option Addr}{osl:Array (Option Value)}{kV doc pm cdv ct:Value}(l:K.lookup f=some ⟨oc,od,.func (PySem.W.fnOf x qual (cE st) (cm st) (am st) .none kV doc pm an cdv ct),osl⟩)
 (c:PySem.W.codeIn K cdv qual=true) (k:PySem.W.keepIn K (.ref f)=true):Fun K x qual st f (PySem.W.fnOf x qual (cE st) (cm st) (am st) .none kV doc pm an cdv ct):=⟨⟨oc,od,kV,doc,pm,an,cdv,ct,osl,U,l,c⟩,k⟩
end
section
variable {X:Cx}
end
theorem rF{A B:Prop}(h:B):if false=true then A else B:=by
 rw[qZ qi];exact h
theorem yX{A B:Prop}(h:A):if true=true then A else B:=by
 rw[Q0 U];exact h
theorem bj{c A B:Prop}[Decidable c](h1:c->A)(h2:¬ c->B):if c then A else B:=by
 by_cases h:c
 ·rw[Q0 h];exact h1 h
 ·rw[qZ h];exact h2 h
theorem rE{c A B:Prop}[Decidable c](hc:c)(h:B):if(!decide c)=true then A else B:=by
 rw[Q1 hc];exact rF h
def aa(H H':Hp):Prop:=∀b o,H b=some o->H' b=some o
theorem aa.refl(H:Hp):aa H H:=λ_ _ h=>h
theorem aa.trans{H H1 H2:Hp}(a:aa H H1)(b:aa H1 H2):aa H H2:=λc o h=>b c o (a c o h)
theorem aa.seq{K:W.Frag}{H H':Hp}{a:Addr}{xs:List V}(e:aa H H')(h:SqL K H a xs):SqL K H' a xs:=by
 rcases h with(h|⟨o,h⟩)|h
 ·exact .inl (.inl (e _ _ h))
 ·exact .inl (.inr ⟨o,e _ _ h⟩)
 ·exact .inr h
section
variable {X:Cx}
theorem A4:cs X (.builtin "len") (λxs H Q=>∃a kvs,xs=[V.ref a]/\H a=some (.dK kvs)/\Q (.int kvs.length) H):=by
 intro pins s σ H xs us Q I r h;obtain⟨a,kvs,rfl,ha,q⟩:=h;obtain⟨u,rfl,ru⟩:=dO r;cases ru;exact zK I (.inl ha) λt s' I'=>⟨.int kvs.length,H,I',⟨t,U⟩,q⟩
end
section
variable {κ:Type} [DecidableEq κ]
end
def cL(cells:List (Str×Addr)):List (Str×NameKind)->List (Str×Addr)->List (Str×Addr)
 |[],acc=>acc
 |(n,k)::r,acc=>cL cells r (if k == .free then(match cells.lookup n with|some c=>(n,c)::acc|none=>acc)else acc)
theorem zX{scope:Scope}{env:Env}(h:∀y∈scope.names,y.2=.free->∃c,env.cells.lookup y.1=some c):closureFor scope env=pure (cL env.cells scope.names []):=by
 simp only[closureFor];generalize ([]:List (Str×Addr))=acc
 revert h
 generalize scope.names=l;intro h
 induction l generalizing acc with
 |nil=>simp[cL]
 |cons x r ih=>
  obtain⟨n,k⟩:=x;rw[List.forIn_cons];have hr:∀y∈r,y.2=NameKind.free->∃c,env.cells.lookup y.1=some c:=λy hy=>h y (qk _ hy);by_cases hk:k=.free
  ·subst hk;obtain⟨c,e⟩:=h (n,.free) qm U;have e':List.lookup n env.cells=some c:=e;have e2:cellOf env n=pure c:=by unfold cellOf;rw[e']
   simp only[beq_self_eq_true,if_true,e2,pure_bind,cL,e'];exact ih _ hr
  ·have hb:(k == NameKind.free)=false:=by simpa using hk
   simp only[hb,Qj,if_false,pure_bind,cL];exact ih _ hr
theorem rW(cells:List (Str×Addr)):∀(l:List (Str×NameKind))(acc:List (Str×Addr))(p:Str×Addr),p∈cL cells l acc->p∈acc\/(p.1,NameKind.free)∈l/\cells.lookup p.1=some p.2
 |[],_,_,h=>.inl h
 |(n,k)::r,acc,p,h=>by
  have h':p∈cL cells r (if k == .free then(match cells.lookup n with|some c=>(n,c)::acc|none=>acc)else acc):=h;rcases rW cells r _ p h' with q|⟨q1,q2⟩
  ·by_cases hk:k=.free
   ·subst hk;simp only[beq_self_eq_true,if_true]at q
    cases e:cells.lookup n with
    |none=>rw[e]at q;exact .inl q
    |some c=>
     rw[e]at q;rcases qu.mp q with rfl|q
     ·exact .inr ⟨qm,e⟩
     ·exact .inl q
   ·have hb:(k == NameKind.free)=false:=by simpa using hk
    simp only[hb,Qj,if_false]at q;exact .inl q
  ·exact .inr ⟨qk _ q1,q2⟩
theorem pY{α β:Type}[BEq α][LawfulBEq α]{x:α}:∀{l:List (α×β)}{c:β},(x,c)∈l->∃d,l.lookup x=some d
 |(a,b)::r,c,h=>by
  by_cases e:x=a
  ·subst e;exact⟨b,by simp⟩
  ·rcases qu.mp h with q|q
   ·cases q;exact Q4 U e
   ·obtain⟨d,hd⟩:=pY q;refine⟨d,?_⟩;have e':(x == a)=false:=by simpa using e
    simp only[List.lookup_cons,e'];exact hd
theorem rX(cells:List (Str×Addr))(x:Str)(c:Addr)(e:cells.lookup x=some c):∀(l:List (Str×NameKind))(acc:List (Str×Addr)),((x,NameKind.free)∈l\/(x,c)∈acc)->(x,c)∈cL cells l acc
 |[],_,h=>h.elim (λq=>nomatch q) id
 |(n,k)::r,acc,h=>by
  refine rX cells x c e r _ ?_;rcases h with h|h
  ·rcases qu.mp h with q|q
   ·cases q;refine .inr ?_;rw[e];exact qm
   ·exact .inl q
  ·refine .inr ?_;by_cases hk:(k == NameKind.free)=true
   ·rw[Q0 hk]
    cases cells.lookup n with
    |none=>exact h
    |some _=>exact qk _ h
   ·rw[qZ hk];exact h
theorem eK{cells:List (Str×Addr)}{names:List (Str×NameKind)}{x:Str}{c:Addr}(h:(cL cells names []).lookup x=some c):cells.lookup x=some c:=by
 have hm:=Qh h;rcases rW cells names [] _ hm with q|⟨_,q⟩
 ·exact nomatch q
 ·exact q
theorem rY{cells:List (Str×Addr)}{names:List (Str×NameKind)}{x:Str}{c:Addr}(hm:(x,NameKind.free)∈names)(e:cells.lookup x=some c):(cL cells names []).lookup x=some c:=by
 obtain⟨d,hd⟩:=pY (rX cells x c e names [] (.inl hm));have:=eK hd;rw[e]at this;rw[hd,this]
theorem oR{scope:Scope}{env:Env}{x:Str}{k:NameKind}(h:(relabel scope env).names.lookup x=some k):∃k',scope.names.lookup x=some k'/\(k'=k\/(k'=.free/\k=.cell)):=by
 have go:∀(l:List (Str×NameKind)),(l.map λ(n,k)=>if(k == NameKind.free && env.scope.kind == .function && env.kindOf n == some .cell)then(n,NameKind.cell)else(n,k)).lookup x=some k->∃k',l.lookup x=some k'/\(k'=k\/(k'=.free/\k=.cell)):=by
  intro l
  induction l with
  |nil=>intro h;simp at h
  |cons p r ih=>
   obtain⟨n,kk⟩:=p;intro h;simp only[qR]at h;by_cases hx:x=n
   ·subst hx;by_cases hc:(kk == NameKind.free && env.scope.kind == .function && env.kindOf x == some .cell)=true
    ·rw[Q0 hc]at h;simp at h
     have:kk=.free:=by
      simp only[Bool.and_eq_true,beq_iff_eq]at hc;exact hc.1.1
     exact⟨kk,by simp,.inr ⟨this,h.symm⟩⟩
    ·rw[qZ hc]at h;simp at h;exact⟨kk,by simp,.inl h⟩
   ·have e':(x == n)=false:=by simpa using hx
    have:∀b:Bool,(if b=true then(n,NameKind.cell)else(n,kk)).1=n:=λb=>by cases b<;>rfl
    rw[List.lookup_cons,this,e']at h;obtain⟨k',h1,h2⟩:=ih h;exact⟨k',by rw[List.lookup_cons,e'];exact h1,h2⟩
 exact go scope.names h
theorem vt{scope:Scope}{env:Env}{x:Str}(h:scope.names.lookup x=some .free):(relabel scope env).names.lookup x=some .cell\/(relabel scope env).names.lookup x=some .free:=by
 have go:∀(l:List (Str×NameKind)),l.lookup x=some .free->(l.map λ(n,k)=>if(k == NameKind.free && env.scope.kind == .function && env.kindOf n == some .cell)then(n,NameKind.cell)else(n,k)).lookup x=some .cell\/(l.map λ(n,k)=>if(k == NameKind.free && env.scope.kind == .function && env.kindOf n == some .cell)then(n,NameKind.cell)else(n,k)).lookup x=some .free:=by
  intro l
  induction l with
  |nil=>intro h;simp at h
  |cons p r ih=>
   obtain⟨n,kk⟩:=p;intro h;simp only[qR];by_cases hx:x=n
   ·subst hx;simp at h;by_cases hc:(kk == NameKind.free && env.scope.kind == .function && env.kindOf x == some .cell)=true
    ·rw[Q0 hc];simp
    ·rw[qZ hc];simp[h]
   ·have e':(x == n)=false:=by simpa using hx
    have t:∀b:Bool,(if b=true then(n,NameKind.cell)else(n,kk)).1=n:=λb=>by cases b<;>rfl
    rw[List.lookup_cons,e']at h;rw[List.lookup_cons,t,e'];exact ih h
 exact go scope.names h
section
variable {prog:Program}{w:World}{A:Around}{R:Result->Shared->Prop}{s:Shared}
theorem zW{elt target iter:Expr}{ifs:List Expr}{scope:Scope}{pos:Pos}{it acc:Value}{env:Env}(I:Nat->Shared->Prop)
 (turn:∀n s,I n s->wpAny (model prog w) A (pyNext it) (λr s₁=>match r with
  |none=>R (.ok .next) s₁
  |some v=>wpAny (model prog w) A (letOwnedTupleGo target it v) (λ_ s₁'=>wpAny (model prog w) A (assign target env v) (λ_ s₂=>
   wpAny (model prog w) A (forIn ifs true λc r=>if r=true then do let ok <- isTrue c env (eval c env);pure (ForInStep.yield ok)else pure (ForInStep.yield r)) (λok s₃=>
    if ok=true then wpAny (model prog w) A (eval elt env) (λx s₄=>
     wpAny (model prog w) A (call (.builtin "list.append") [acc,x]) (λ_ s₅=>∃m,m<n/\I m s₅) (λ_ _=>False) s₄) (λ_ _=>False) s₃
    else ∃m,m<n/\I m s₃) (λ_ _=>False) s₂) (λ_ _=>False) s₁') (λ_ _=>False) s₁) (λ_ _=>False) s)
 (n:Nat) (h:I n s):
 codeAny (model prog w) A (.compLoop (.ListComp elt [⟨target,iter,ifs,0⟩] scope pos) 0 it acc env) R s:=by
 refine codeAny_loop U I (λn s hI=>?_) n h;show wpAny _ A ((compTurn (.ListComp elt [⟨target,iter,ifs,0⟩] scope pos) 0 it acc env).onRaise (λx=>do noteFrame x env;theTreesLotGoes x)) _ _ s;refine wpAny_noted ?_;rw[compTurn_list];refine q5 (wpAny_standAt (q5 (wpAny_mono (turn n s hI) (λr s₁ h₁=>?_) λ_ _ h'=>h'.elim)))
 cases r with
 |none=>exact qd h₁
 |some v=>
  refine q5 (wpAny_mono h₁ (λ_ s₁' h₁'=>?_) λ_ _ h'=>h'.elim);refine q5 (wpAny_mono h₁' (λ_ s₂ h₂=>q5 (wpAny_mono h₂ (λok s₃ h₃=>?_) λ_ _ h'=>h'.elim)) λ_ _ h'=>h'.elim)
  cases ok with
  |false=>exact qd ⟨U,h₃⟩
  |true=>
   exact q5 (q5 (wpAny_mono h₃ (λx s₄ h₄=>q5 (wpAny_mono h₄ (λ_ s₅ h₅=>qd (qd ⟨U,h₅⟩)) λ_ _ h'=>h'.elim)) λ_ _ h'=>h'.elim))
end
structure aS(esc:Scope)(N:List Str)(scope:Scope)(k:Nat)(Nc:List Str)(js:List Nat):Prop where
 kind:scope.kind=.function
 cell:∀y∈scope.names,y.2≠.cell
 names:∀y∈scope.names,y.2=.local->scope.names.lookup y.1=some .local
 free:∀y∈scope.names,y.2=.free->esc.names.lookup y.1=some .cell\/esc.names.lookup y.1=some .free
 len:Nc.length=k+js.length
 out:∀p∈(Nc.drop k).zip js,N[p.2]?=some p.1/\scope.names.lookup p.1=some .free
def fz(k:Nat)(js:List Nat)(σ:St):St:=List.replicate k none++js.map λj=>(σ[j]?).join
def Cx.comp(X:Cx)(pins:List (Addr×Obj))(Nc:List Str)(scope:Scope)(fp:List Addr)(s:Shared)(H:Hp)(C:Addr):Cx:=
 { X with N:=Nc,s₀:=s,H₀:=H,env:=compEnvC scope (cL X.env.cells scope.names []) C X.env,outer:=X.stack,stack:=X.stack,ex:=fp,fn:=λ_=>false,pn:=X.pn++pins,xe:=λ_ _=>False }
section
variable {X:Cx}{pins:List (Addr×Obj)}{σ:St}{H:Hp}{s:Shared}{scope:Scope}{Nc:List Str}{js:List Nat}{k:Nat}
theorem aS.some(S:aS X.env.scope X.N scope k Nc js)(I:Inv X pins σ H s):∀y∈scope.names,y.2=.free->∃c,X.env.cells.lookup y.1=some c:=λy hy hk=>I.ok.has y.1 (S.free y hy hk)
theorem aS.clos(S:aS X.env.scope X.N scope k Nc js)(I:Inv X pins σ H s):closureFor scope X.env=pure (cL X.env.cells scope.names []):=zX (S.some I)
theorem zT(S:aS X.env.scope X.N scope k Nc js)(I:Inv X pins σ H s){fp:List Addr}(hf:∀b∈fp,cr X pins H b)(hlt:∀b∈fp,b<s.heap.objs.size){C:Addr}(hC:s.heap.objs.size<=C):(X.comp pins Nc scope fp s H C).Ok:=by
 have ltC:∀b,b<s.heap.objs.size->b≠C:=λb hb=>qG (qD hb hC)
 have notstk:∀b∈fp,b∉frs X.stack:=λb hb z=>by
  rcases qu.mp (I.stkSub b z)with e|e
  ·exact(hf b hb).2.1 e
  ·exact(hf b hb).2.2.1 e
 refine⟨I.ok.mod,S.kind,I.ok.glob,I.ok.blt,hC,λx y c h1 h2=>I.ok.inj x y c (eK h1) (eK h2),λx hx=>?_,λx c h=>?_,I.ok.hd,I.ok.frames,.inl U,λb hb=>⟨?_,λx c e=>(hf b hb).2.2.2.2.1 x c (eK e)⟩,
  λb o e=>⟨(I.bs b o e).1,(I.bs b o e).2⟩,qy I.ok.bsz I.sz,λb o e hb=>?_,notstk,I.stack,I.stkFree⟩
 ·have hx':(relabel scope X.env).names.lookup x=some .cell\/(relabel scope X.env).names.lookup x=some .free:=hx
  have hfree:(x,NameKind.free)∈scope.names:=by
   rcases hx' with h|h
   ·obtain⟨k',h1,h2⟩:=oR h;rcases h2 with rfl|⟨rfl,_⟩
    ·exact Q4 U (S.cell _ (Qh h1))
    ·exact Qh h1
   ·obtain⟨k',h1,h2⟩:=oR h;rcases h2 with rfl|⟨rfl,_⟩
    ·exact Qh h1
    ·exact Qh h1
  obtain⟨c,hc⟩:=S.some I (x,.free) hfree U;exact⟨c,rY hfree hc⟩
 ·exact Q4 (show false=true from h) qi
 ·exact ltC b (hlt b hb)
 ·rcases(hf b hb).2.2.2.1 with q|q
  ·exact I.ok.noex b o e q
  ·exact Q4 (qD (qq e) (qy I.ok.bsz q)) (Qb _)
theorem zU(S:aS X.env.scope X.N scope k Nc js)(I:Inv X pins σ H s){fp:List Addr}(hf:∀b∈fp,cr X pins H b)(hlt:∀b∈fp,b<s.heap.objs.size){C:Addr}(hC:s.heap.objs.size<=C){s1:Shared}
 (os:s1.os=s.os) (bare:AllBare s1.gens) (kept:∀b o,s.heap.get? b=some o->s1.heap.get? b=some o) (ns:∃m,s1.heap.Ns C m):Inv (X.comp pins Nc scope fp s H C) [] (fz k js σ) H s1:=by
 have ltC:∀b,b<s.heap.objs.size->b≠C:=λb hb=>qG (qD hb hC);refine⟨zT S I hf hlt hC,os,bare,Un.kept kept,?_,λx c e=>?_,I.hok.fresh hC,λx c e=>I.freeC x c (eK e),λp hp=>?_,I.hok.kept kept,?_⟩
 ·obtain⟨mc,hns⟩:=ns;refine⟨mc,hns,λi x v e1 e2 e3=>?_⟩;have e1':Nc[i]?=some x:=e1;by_cases hi:i<k
  ·unfold fz at e2;rw[Q5 (by simpa using hi),List.getElem?_replicate,Q0 hi]at e2;cases e2
  ·obtain⟨i',rfl⟩:∃i',i=k+i':=⟨i-k,Qw⟩;unfold fz at e2;rw[qL (by simp),List.length_replicate,Nat.add_sub_cancel_left,qE]at e2
   cases ej:js[i']? with
   |none=>rw[ej]at e2;cases e2
   |some j=>
    rw[ej]at e2;have e2':(σ[j]?).join=some v:=qJ e2
    have e4:σ[j]?=some (some v):=by
     cases q:σ[j]? with
     |none=>rw[q]at e2';cases e2'
     |some z=>rw[q]at e2';cases z with
      |none=>cases e2'
      |some z=>cases e2';rfl
    have hm:(x,j)∈(Nc.drop k).zip js:=qz (i:=i') (List.getElem?_zip_eq_some.mpr ⟨by rw[List.getElem?_drop];exact e1',ej⟩);obtain⟨hN,hfr⟩:=S.out _ hm;have hfm:(x,NameKind.free)∈scope.names:=Qh hfr;have hk:=S.free _ hfm U;obtain⟨m,hn,hl⟩:=I.loc;obtain⟨u,r,l⟩:=hl j x v hN e4 (.inr hk);refine⟨u,r,?_⟩;rcases l with⟨hk',_⟩|⟨_,c,hc,o,ho,hd⟩
    ·have hk'':X.env.scope.names.lookup x=some .local:=hk';rcases hk with hk|hk
     ·rw[hk]at hk'';cases hk''
     ·rw[hk]at hk'';cases hk''
    ·exact .inr ⟨vt hfr,c,rY hfm hc,o,kept _ _ ho,hd⟩
 ·obtain⟨v,o,ho,hd⟩:=I.cell x c (eK e);exact⟨v,o,kept _ _ ho,hd⟩
 ·have hp':p∈X.pn++pins:=by
   rcases qh.mp hp with z|z
   ·exact z
   ·exact nomatch z
  obtain⟨e,n,ne,nf,d⟩:=I.pin p hp';refine⟨kept _ _ e,n,ltC _ (qq e),λz=>?_,d⟩;rcases qu.mp (I.stkSub _ z)with q|q
  ·exact ne q
  ·exact nf q
 ·show(fz k js σ).length=Nc.length;unfold fz;rw[qb,List.length_replicate,q9,S.len]
theorem zV(I:Inv X pins σ H s){fp:List Addr}(hf:∀b∈fp,cr X pins H b){C D:Addr}(hDs:s.heap.objs.size<=D){pins':List (Addr×Obj)}{σ':St}{H':Hp}{s':Shared}{ys:List V}{its:List Value}{n:Nat}
 (J:Inv (X.comp pins Nc scope fp s H C) pins' σ' H' s') (hD:H' D=none) (hz:ys.length<=sizeLine) (hv:ar ys its) (ho:s'.heap.get? D=some { cls:=.type "list",data:=.seq its.toArray n }):
 Inv X pins σ (upd H' D (.lst ys)) s':=by
 have B:Un (frs X.stack) fp H H' s.heap s'.heap:=J.base;have neD:∀b o,s.heap.get? b=some o->b≠D:=λb o e=>qG (qD (qq e) hDs);refine I.call' (ch:=fp) J.os ⟨B.keep,B.slot,λb o e n hx=>?_,B.there,λb xs e=>?_,λb o u e=>?_,λb ps e=>?_⟩ (λb o e=>?_) J.bare λb hb=>⟨(hf b hb).2.2.2.1,(hf b hb).2.1,(hf b hb).2.2.2.2.1,(hf b hb).2.2.2.2.2⟩
 ·rw[aj (neD b o e)];exact B.free b o e n hx
 ·rw[aj (cj (B.tups b xs e) hD)];exact B.tups b xs e
 ·rw[aj (cj (B.frzs b o u e) hD)];exact B.frzs b o u e
 ·obtain⟨more,q⟩:=B.tbls b ps e;exact⟨more,by rw[aj (cj q hD)];exact q⟩
 ·by_cases hb:b=D
  ·subst hb;rw[af]at e;cases e;exact⟨hz,its,n,hv,ho⟩
  ·rw[aj hb]at e;exact(J.hok b o e).stay (λc v _ q=>q) (λc q=>by rw[aj (cj q hD)];exact q) λc xs q=>by rw[aj (cj q hD)];exact q
end
def PTs(Y:Cx)(ifs:List Expr)(t:TT):Prop:=
 ∀(pins:List (Addr×Obj))(s:Shared)(σ:St)(H:Hp)(Q:Bool->Hp->Prop),Inv Y pins σ H s->t σ H Q->
  wpAny (model Y.prog Y.w) Y.A (forIn ifs true λc r=>if r=true then do let ok <- isTrue c Y.env (eval c Y.env);pure (ForInStep.yield ok)else pure (ForInStep.yield r)) (TP Y pins σ Q) Y.xe s
def dP:TT:=λ_ H Q=>Q true H
theorem bY{Y:Cx}:PTs Y [] dP:=λ_ _ _ H _ I h=>wpAny_tests_nil ⟨H,I,h⟩
theorem pC{Y:Cx}{c:Expr}{t:TT}(h:PT Y c t):PTs Y [c] t:=λpins s σ H Q I hq=>wpAny_tests_one (h pins s σ H Q I hq)
def db(J:It)(g:TG)(tt:TT)(te:TE)(Fin:List V->Hp->Prop)(W:Nat->Nat->List V->St->Hp->Prop):Prop:=
 ∀i m ys σ H,W i m ys σ H->(J.stop i H/\ys.length<=sizeLine/\Fin ys H)\/(J.go i H/\ys.length<sizeLine/\∃N:List V->St->Hp->Prop,(∀ys' σ' H',N ys' σ' H'->∃m',m'<m/\W (i+1) m' ys' σ' H') /\
  ∀x H',J.yld i H x H'->g x σ H' λσ2 H2=>tt σ2 H2 λb H3=>if b=true then te σ2 H3 λy H4=>N (ys++[y]) σ2 H4 else N ys σ2 H3)
section
variable {X:Cx}{pins:List (Addr×Obj)}{σ:St}{H:Hp}{s:Shared}{scope:Scope}{Nc:List Str}{js:List Nat}{k:Nat}{tg iter elt:Expr}{ifs:List Expr}{pos:Pos}{g:TG}{tt:TT}{te:TE}
theorem sE{J:It}{fp:List Addr}{it:Addr}{tn:Nat->Heap->Prop}{Fin:List V->Hp->Prop}{W:Nat->Nat->List V->St->Hp->Prop}{RR:Value->Addr->Result->Shared->Prop}{E:Yd}{m0:Nat}
 (S:aS X.env.scope X.N scope k Nc js) (hc:X.calm=true) (I:Inv X pins σ H s) (T:eP X.prog X.w X.K tg J fp it tn) (st:tn 0 s.heap) (hf:∀b∈fp,cr X pins H b)
 (hg:∀pins fp s H C,PG (X.comp pins Nc scope fp s H C) tg g) (ht:∀pins fp s H C,PTs (X.comp pins Nc scope fp s H C) ifs tt) (he:∀pins fp s H C,PE (X.comp pins Nc scope fp s H C) elt te)
 (w0:W 0 m0 [] (fz k js σ) H) (turn:db J g tt te Fin W)
 (hRR:∀D C s' ys H',Inv X pins σ (upd H' D (.lst ys)) s'->cr X pins (upd H' D (.lst ys)) C->(∃m,s'.heap.Ns C m)->H' D=none->Fin ys H'->RR (.ref D) C (.ok .next) s'):
 wpAny (model X.prog X.w) X.A (newList []) (λacc s₃=>wpAny (model X.prog X.w) X.A (newFunctionEnv scope X.env.globals (cL X.env.cells scope.names []) [] X.env.qual none .none (some X.env)) (λcenv s₄=>
  codeAny (model X.prog X.w) X.A (.compStart (.ListComp elt [⟨tg,iter,ifs,0⟩] scope pos) 0 (.ref it) acc { cenv with scope:=relabel scope X.env }) (RR acc cenv.locals) s₄) E s₃) E s:=by
 refine wpAny_newObj_type (wpAny_newFunctionEnv S.cell (by intro y hy;simp at hy) (λh₁ hns₁ hsb₁=>?_) S.kind);dsimp only at hns₁ hsb₁ ⊢;generalize hH2:s.heap.push { cls:=.type "list",dict:=none,data:=.seq ([]:List Value).toArray }=H2 at hns₁ hsb₁ ⊢;have hC:H2.objs.size=s.heap.objs.size+1:=by rw[<- hH2,Qf]
 have hCle:s.heap.objs.size<=H2.objs.size:=by rw[hC];exact Nat.le_succ _
 have hDC:s.heap.objs.size≠H2.objs.size:=by rw[hC];exact qG (Qa _)
 have old:∀b o,s.heap.get? b=some o->h₁.get? b=some o:=λb o e=>
  hsb₁.extBut b o (qG (qD (qq e) hCle)) (qa _ (hH2▸qa _ e))
 have hacc:h₁.get? s.heap.objs.size=some { cls:=.type "list",data:=.seq ([]:List Value).toArray 0 }:=hsb₁.extBut _ _ hDC (qa _ (hH2▸qp _ U));have hob:∀b∈fp,∃o,s.heap.get? b=some o:=λb hb=>let ⟨o,e,_⟩:=T.obj 0 _ st b hb;⟨o,e⟩;have hlt:∀b∈fp,b<s.heap.objs.size:=λb hb=>let ⟨_,e⟩:=hob b hb;qq e
 have notstk:∀b∈fp,b∉frs X.stack:=λb hb z=>by
  rcases qu.mp (I.stkSub b z)with e|e
  ·exact(hf b hb).2.1 e
  ·exact(hf b hb).2.2.1 e
 have hDstk:s.heap.objs.size∉frs X.stack:=λz=>by
  rcases qu.mp (I.stkSub _ z)with e|e
  ·have:=I.lt;rw[<- e]at this;exact Qb _ this
  ·exact I.nofs (qe _) e
 let dpin:List Value->Nat->List (Addr×Obj):=λits n=>[(s.heap.objs.size,{ cls:=.type "list",data:=.seq its.toArray n })]
 have fpok:∀{H':Hp}{its:List Value}{n:Nat},(∀b∈fp,H' b=none)->∀b∈fp,cr (X.comp pins Nc scope fp s H H2.objs.size) (dpin its n) H' b:=λ{H' its n} hn b hb=>
  ⟨hn b hb,qG (qD (hlt b hb) hCle),notstk b hb,.inl hb,λx c e=>(hf b hb).2.2.2.2.1 x c (eK e),λp hp z=>by
   rcases qh.mp hp with q|q
   ·exact(hf b hb).2.2.2.2.2 p q z
   ·have e:p=(s.heap.objs.size,_):=qS.mp q;rw[e]at z
    exact Q4 (hlt b hb) (by rw[<- z];exact Qb _)⟩
 have loop:∀s₃:Shared,s₃={ s with heap:=h₁,toks:=s.toks+([]:List (Str×Value)).length }->
  codeAny (model X.prog X.w) X.A (.compLoop (.ListComp elt [⟨tg,iter,ifs,0⟩] scope pos) 0 (.ref it) (.ref s.heap.objs.size) (compEnvC scope (cL X.env.cells scope.names []) H2.objs.size X.env)) (RR (.ref s.heap.objs.size) H2.objs.size) s₃:=by
  rintro s₃ rfl
  refine zW (λn s'=>∃i ys its nn σc H',Inv (X.comp pins Nc scope fp s H H2.objs.size) [] σc H' s'/\tn i s'.heap/\(∀b∈fp,H' b=none)/\H' s.heap.objs.size=none/\ar ys its /\
   s'.heap.get? s.heap.objs.size=some { cls:=.type "list",data:=.seq its.toArray nn }/\W i n ys σc H') ?_ m0 ?_
  ·rintro n s3 ⟨i,ys,its,nn,σ3,H3,I3,st3,fr3,hD3,hv3,ho3,w3⟩
   have I3':Inv (X.comp pins Nc scope fp s H H2.objs.size) (dpin its nn) σ3 H3 s3:=I3.pins_of λp hp=>by
    have e:p=(s.heap.objs.size,_):=qS.mp hp;subst e;exact⟨ho3,hD3,hDC,hDstk,λv z=>by cases z⟩
   rcases turn i n ys σ3 H3 w3 with⟨stop,hz,fin⟩|⟨go,hz,N,hN,step⟩
   ·refine thn (T.done (X.comp pins Nc scope fp s H H2.objs.size) U U U hc i (dpin its nn) s3 σ3 H3 (λ_ _=>False) I3' (fpok fr3) st3 stop) λr s4 ⟨hr,I4⟩=>?_;subst hr;have ho4:=(I4.pin _ (qI _ (qS.mpr U))).1;obtain⟨m4,hn4,_⟩:=I4.loc;refine hRR _ _ s4 ys H3 (zV I hf (qe _) I4 hD3 hz hv3 ho4) (I.fpOk hCle ?_) ⟨m4,hn4⟩ hD3 fin;rw[aj (Ne.symm hDC)];exact I4.free
   ·refine thn (T.item (X.comp pins Nc scope fp s H H2.objs.size) U U U hc i (dpin its nn) s3 σ3 H3 (λ_ _=>False) I3' (fpok fr3) st3 go) λr s4 ⟨u,hr,h4⟩=>?_;subst hr;refine thn h4 λ_ s5 ⟨x,H5,I5,r5,y5,st5,fr5⟩=>?_;have I5':=I5.pinned (fpok fr5) (T.obj _ _ st5);refine thn (hg pins fp s H H2.objs.size _ s5 σ3 H5 x u _ I5' r5 (step x H5 y5)) λ_ s6 ⟨σ6,H6,I6,q6⟩=>?_;refine thn (ht pins fp s H H2.objs.size _ s6 σ6 H6 _ I6 q6) λok s7 ⟨H7,I7,q7⟩=>?_
    have keepIt:∀{σ':St}{H':Hp}{s':Shared},Inv (X.comp pins Nc scope fp s H H2.objs.size) (dpin its nn++gB fp s5.heap) σ' H' s'->
     s'.heap.get? s.heap.objs.size=some { cls:=.type "list",data:=.seq its.toArray nn }/\H' s.heap.objs.size=none/\(∀b∈fp,H' b=none)/\(∀b∈fp,∀o,s5.heap.get? b=some o->s'.heap.get? b=some o):=λ{σ' H' s'} J=>by
     have p1:=J.pin (s.heap.objs.size,_) (qI _ (qV _ (qS.mpr U)));refine⟨p1.1,p1.2.1,λb hb=>?_,λb hb o e=>(J.pin (b,o) (qI _ (qI _ (iB hb e)))).1⟩;obtain⟨o,e,_⟩:=T.obj _ _ st5 b hb;exact(J.pin (b,o) (qI _ (qI _ (iB hb e)))).2.1
    cases ok with
    |true=>
     rw[Q0 U]at q7 ⊢;refine thn (he pins fp s H H2.objs.size _ s7 σ6 H7 _ I7 q7) λy s8 ⟨v,H8,I8,r8,q8⟩=>?_;obtain⟨ho8,hD8,fr8,k8⟩:=keepIt I8;refine append_at (hsz:=by have:=hv3.length;show its.toArray.size<=sizeLine;rw[qC,<- this];exact Nat.le_of_lt hz) ho8 λh9 hs9 ho9=>?_;obtain⟨m',hm',w9⟩:=hN _ _ _ q8;have I8u:Inv (X.comp pins Nc scope fp s H H2.objs.size) [] σ6 H8 s8:=I8.pins_of λp hp=>nomatch hp
     have I9:Inv (X.comp pins Nc scope fp s H H2.objs.size) [] σ6 H8 { s8 with heap:=h9 }:=I8u.turned (t':=s8.toks) (it:=s.heap.objs.size) (λb o hb e=>(hs9.2 b hb).trans e) hD8 hDC (.inr (qe _)) (λx c e z=>by
      obtain⟨v,q⟩:=I.cell x c (eK e)
      exact Q4 q.lt (by rw[z];exact Qb _)) λp hp z=>by
       have hp':p∈X.pn++pins:=by
        rcases qh.mp hp with q|q
        ·exact q
        ·exact nomatch q
       exact Q4 (qq (I.pin p hp').1) (by rw[z];exact Qb _)
     refine⟨m',hm',i+1,ys++[v],its++[y],nn+1,σ6,H8,I9,T.keep _ _ _ st5 λb hb o e=>(hs9.2 b (qG (hlt b hb))).trans (k8 b hb o e),fr8,hD8,hv3.append (.cons r8 .nil),?_,w9⟩;show h9.get? s.heap.objs.size=_;rw[ho9];simp
    |false=>
     rw[qZ qi]at q7 ⊢;obtain⟨ho8,hD8,fr8,k8⟩:=keepIt I7;obtain⟨m',hm',w9⟩:=hN _ _ _ q7;exact⟨m',hm',i+1,ys,its,nn,σ6,H7,I7.pins_of λp hp=>(nomatch hp),T.keep _ _ _ st5 k8,fr8,hD8,hv3,ho8,w9⟩
  ·exact⟨0,[],[],0,_,H,zU S I hf hlt hCle U I.bare old ⟨_,hns₁⟩,T.keep _ _ _ st λb _ o e=>old b o e,λb hb=>(hf b hb).1,I.hok.fresh (qe _),.nil,hacc,w0⟩
 exact codeAny_compStart_list (loop _ U) (T.self X.A 0 _ _ _ (T.keep _ _ _ st λb _ o e=>old b o e) (loop _ U))
def mK(wi:TI)(k:Nat)(js:List Nat)(g:TG)(tt:TT)(te:TE):TE:=λσ H Q=>wi σ H λJ H1=>∃W:Nat->Nat->List V->St->Hp->Prop,(∃m,W 0 m [] (fz k js σ) H1) /\
 db J g tt te (λys H=>∀D,H D=none->Q (.ref D) (upd H D (.lst ys))) W
theorem ci{wi:TI}(S:aS X.env.scope X.N scope k Nc js)(hc:X.calm=true)(hi:PI X tg iter wi)
 (hg:∀pins fp s H C,PG (X.comp pins Nc scope fp s H C) tg g) (ht:∀pins fp s H C,PTs (X.comp pins Nc scope fp s H C) ifs tt) (he:∀pins fp s H C,PE (X.comp pins Nc scope fp s H C) elt te)
 (hs:∀x,foldedSetIterable iter X.env x=pure x:=by intro _;rfl):PE X (.ListComp elt [⟨tg,iter,ifs,0⟩] scope pos) (mK wi k js g tt te):=by
 intro pins s σ H Q I h;rw[eval_ListComp];refine wpAny_comprehension_free (use:=none) U hs (S.clos I) S.kind S.names (thn (hi pins s σ H _ I h) λxv s1 h1=>thn h1 λitv s2 h2=>?_);obtain⟨it,fp,tn,J,H2,e,I2,T,st2,f2,W,⟨m0,w0⟩,turn⟩:=h2;subst e;refine sE (RR:=λacc C=>compPost (model X.prog X.w) X.A X.xe none (EP X pins σ Q) acc C) S hc I2 T st2 f2 hg ht he w0 turn λD C s' ys H' I' fC ns hD fin=>?_;obtain⟨m,hn⟩:=ns;exact⟨m,hn,λh' hs'=>⟨.ref D,_,I'.turned (t':=s'.toks) (λb o hb e=>(hs'.2 b hb).trans e) fC.1 fC.2.1 fC.2.2.2.1 fC.2.2.2.2.1 fC.2.2.2.2.2,U,fin D hD⟩⟩
theorem ik{wi:TI}{i:Nat}{x:Str}{px spos:Pos}(hN:X.N.Nodup)(hi':X.N[i]?=some x)(hx:Loc X.env.scope x)(S:aS X.env.scope X.N scope k Nc js)(hc:X.calm=true)(hi:PI X tg iter wi)
 (hg:∀pins fp s H C,PG (X.comp pins Nc scope fp s H C) tg g) (ht:∀pins fp s H C,PTs (X.comp pins Nc scope fp s H C) ifs tt) (he:∀pins fp s H C,PE (X.comp pins Nc scope fp s H C) elt te)
 (hsw:swapsWith (.ListComp elt [⟨tg,iter,ifs,0⟩] scope pos) (some (.Name x px)) spos.line X.env=pure true:=by rfl)
 (hs:∀x,foldedSetIterable iter X.env x=pure x:=by intro _;rfl) (hf:X.fn x=true\/X.env.scope.names.lookup x=some .local:=by first|exact .inl U|exact .inr U|assumption):
 PS X (.Assign [.Name x px] (.ListComp elt [⟨tg,iter,ifs,0⟩] scope pos) spos) (ja (mK wi k js g tt te) (aO i)):=by
 intro pins s σ H D I h;rw[exec_Assign_Name_used _ _ _ _ hsw];refine q5 (wpAny_standAt (q5 ?_));show wpAny _ X.A (do let _ <- comprehension (.ListComp elt [⟨tg,iter,ifs,0⟩] scope pos) scope X.env _ (newList []) false (eval iter X.env) (some (assign (.Name x px) X.env))) _ _ s
 refine q5 (wpAny_mono (wpAny_comprehension_free (use:=some (assign (.Name x px) X.env)) (Q:=λ_ s'=>SP X pins D .next s') U hs (S.clos I) S.kind S.names
  (thn (hi pins s σ H _ I h) λxv s1 h1=>thn h1 λitv s2 h2=>?_)) (λ_ s' hq=>qd (qd hq)) λ_ _ e=>e)
 obtain⟨it,fp,tn,J,H2,e,I2,T,st2,f2,W,⟨m0,w0⟩,turn⟩:=h2;subst e;refine sE (RR:=λacc C=>compPost (model X.prog X.w) X.A X.xe (some (assign (.Name x px) X.env)) (λ_ s'=>SP X pins D .next s') acc C) S hc I2 T st2 f2 hg ht he w0 turn λA C s' ys H' I' fC ns hD fin=>?_;obtain⟨m,hn⟩:=ns;show wpAny _ X.A (assign (.Name x px) X.env (.ref A)) _ _ _;refine wpAny_assign_Name (mL I' hN hi' hx (v:=.ref A) U (λs'' I'' ⟨a,sb,ha⟩=>?_) hf)
 have hCa:C≠a:=by
  rcases ha with ha|ha
  ·rw[ha];exact fC.2.1
  ·exact λz=>fC.2.2.2.2.1 x a ha z.symm
 exact⟨m,hn.sameBut sb hCa,λh' hs'=>⟨_,_,I''.turned (t':=s''.toks) (λb o hb e=>(hs'.2 b hb).trans e) fC.1 fC.2.1 fC.2.2.2.1 fC.2.2.2.2.1 fC.2.2.2.2.2,fin A hD⟩⟩
end
section
variable {X:Cx}{tg:Expr}
theorem wH:OpR X (binaryOp .Mult) (rI IntMulOk λi j=>.int (i * j)):=opI λ_ _ _ _ _ _ _ hc q=>mul_int q hc
def vI(K:W.Frag):R2:=λx y H Q=>∃l b xs zs,x=.ref l/\y=.ref b/\SqL K H l xs/\SqL K H b zs/\xs.length+zs.length<=sizeLine/\∀p,H p=none->Q (.ref p) (upd H p (.lst (xs++zs)))
theorem wR:OpR X (binaryOp .Add) (vI X.K):=by
 intro pins s σ H x y v u Q I rx ry h;obtain⟨l,b,xs,zs,rfl,rfl,hH,hB,hz,q⟩:=h;cases rx;cases ry;obtain⟨its,r,pl,z1⟩:=I.list hH;obtain⟨its2,r2,pl2,z2⟩:=I.list hB;have hl1:=r.length;have hl2:=r2.length;obtain⟨⟨cls,dd,data,sl⟩,n,ho,hc,_,hd⟩:=pl;obtain⟨⟨cls2,dd2,data2,sl2⟩,n2,ho2,hc2,_,hd2⟩:=pl2;simp only at hc hd hc2 hd2;subst hc hd hc2 hd2;refine concat_meets ⟨_,ho,U⟩ ⟨_,ho2,U⟩ noFill_list_add seq_list_add PySem.F.slot_list_add PySem.F.entry_list_add (PySem.F.args_list_add_2 _ _) (list_addW l b its.toArray its2.toArray n n2 dd dd2 sl sl2 (by rw[qC,qC];omega)) ⟨ho,ho2,?_⟩;have ea:its.toArray++its2.toArray=(its++its2).toArray:=by simp
 rw[ea];exact⟨.ref _,_,I.lnew (t':=s.toks) (r.append r2) (by rw[qb];omega),U,q _ I.fresh⟩
end
section
variable {X:Cx}
end
theorem gh{te:TE}{N N':V->St->Hp->Prop}{M:St->Hp->Prop}:(λ(σ2:St)(H2:Hp)=>dP σ2 H2 λb H3=>if b=true then te σ2 H3 λy H4=>N y σ2 H4 else M σ2 H3)=λσ2 H2=>te σ2 H2 λy H4=>N y σ2 H4:=by
 funext σ2 H2
 unfold dP;dsimp only;rw[Q0 U]
def lP(e:Expr):Option V:=match e with
 |.Constant (.str x) _ _=>some (.str x)
 |.Constant (.int i) _ _=>some (.int i)
 |.Constant (.bool b) _ _=>some (.bl b)
 |.Constant .none _ _=>some .non
 |_=>none
def lO:List Expr->Option (List V)
 |[]=>some []
 |e::es=>match lP e,lO es with
  |some v,some vs=>some (v::vs)
  |_,_=>none
def tS(vs:List V):TA:=λ_ H Q=>Q vs H
theorem wy{X:Cx}{e:Expr}{v:V}(h:lP e=some v):PE X e (tC v)/\∀es,starEach (e::es) X.env=(false,eval e X.env)::starEach es X.env:=by
 unfold lP at h;split at h
 ·cases h;exact⟨bo,λ_=>U⟩
 ·cases h;exact⟨ac,λ_=>U⟩
 ·cases h;exact⟨bU,λ_=>U⟩
 ·cases h;exact⟨cS,λ_=>U⟩
 ·cases h
theorem pJ{X:Cx}:∀{es:List Expr}{vs:List V},lO es=some vs->PA X es (tS vs)
 |[],vs,h=>by cases h;exact ae
 |e::es,vs,h=>by
  unfold lO at h;split at h
  ·rename_i v ws h1 h2;cases h;obtain⟨p,s⟩:=wy (X:=X) h1;exact a8 p (pJ h2) (s es)
  ·cases h
section
variable {X:Cx}
theorem y8:OpR X (binaryOp .Add) (λx y H Q=>∃i j,x=.int i/\y=.int j/\Q (.int (i+j)) H):=wV
theorem xT:OpR X (binaryOp .Sub) (λx y H Q=>∃i j,x=.int i/\y=.int j/\Q (.int (i-j)) H):=wB
theorem c8:OpR X (binaryOp .Mult) (λx y H Q=>∃i j,x=.int i/\y=.int j/\IntMulOk i j/\Q (.int (i * j)) H):=wH
theorem y6:OpR X (binaryOp .FloorDiv) (λx y H Q=>∃i j,x=.int i/\y=.int j/\(0<j/\j<1073741824)/\Q (.int (i / j)) H):=wO
theorem xV:OpR X (binaryOp .Mod) (λx y H Q=>∃i j,x=.int i/\y=.int j/\0<j/\Q (.int (i % j)) H):=wI
theorem gH:OpR X (binaryOp .Pow) (λx y H Q=>∃i j,x=.int i/\y=.int j/\(0<=j/\j<=1000000/\i.natAbs<2 ^ 64)/\Q (.int (i ^ j.toNat)) H):=wC
theorem xW:OpR X (compareOp .Lt) (λx y H Q=>∃i j,x=.int i/\y=.int j/\Q (.bl (decide (i<j))) H):=wJ
theorem xX:OpR X (compareOp .LtE) (λx y H Q=>∃i j,x=.int i/\y=.int j/\Q (.bl (decide (i<=j))) H):=wK
theorem xY:OpR X (compareOp .Gt) (λx y H Q=>∃i j,x=.int i/\y=.int j/\Q (.bl (decide (j<i))) H):=wM
theorem xZ:OpR X (compareOp .GtE) (λx y H Q=>∃i j,x=.int i/\y=.int j/\Q (.bl (decide (j<=i))) H):=wN
end
end L2
namespace Att
open PySem PySem.W PySem.Calls PyProof.Rows
theorem uF{ns:List Int}(h:WData.layableAll [WData.list (ns.map WData.int)]=true):∀n∈ns,Builtin.Int.intBits n<=2 ^ 20:=λn hn=>by
 have h1:=layableW_arg h _ (qS.mpr U);have h2:=layableW_item h1 (WData.int n) (List.mem_map.mpr ⟨n,hn,U⟩);exact PyData.bits_of_layable (layable0_of_all (lay0_int h2))
theorem attach_callB{l:OpenLaw}{n:Nat}{q:Program}{loose:List Str}{XP:(Str->Option Value)->Heap->Prop}{YP:World->Heap->Prop}{d:DefRec}
 (hn:l.most=some n) (hdf:d.params.defaults=[])
 (call:∀(w:World)(s₀ s₁:Shared)(mg mb:Str->Option Value)(fa:Addr)(o:Obj)(pm cd doc:Value)(a:Addr)(vs:List Value)(ns:List Int),
  Ground q loose [] XP w s₀ mg mb s₁.heap->YP w s₁.heap->
  s₁.heap.get? fa=some o->o.data=.func (docDef d.name d.params d.body d.scope pm cd doc)->s₁.heap.CodeRec cd d.name->mg d.name=some (.ref fa)->
  s₁.heap.get? a=some { cls:=.type "list",data:=.seq vs.toArray }->IntsAre vs ns->ns.length<=n->(∀k∈ns,Builtin.Int.intBits k<=2 ^ 20)->s₁.gens=#[]->
  codeAny (model l.prog w) callerA (.call (.ref fa) ⟨[.ref a],[]⟩) (λr s'=>r=.ok (.ret (.bool true))/\OldK s₁.heap s'.heap/\s'.os=s₁.os/\AllBare s'.gens) s₁):
 WalkO q loose XP YP l.row.toRowW d [] (λf vs=>PySem.call f vs):=by
 intro w s₀ s₁ mg mb G Y fa o pm cd doc dV kV ho hd hcd hD hmg hg args vals as hpre hlay hrd hwl hlo;obtain rfl:dV=.none:=Dflts.none hD hdf;obtain rfl:kV=.none:=Dflts.noKw hD;obtain⟨a,vs,ns,rfl,rfl,hobj,hints,hlen⟩:=uE hn hpre hwl;refine enter_call (codeAny_mono (call w s₀ s₁ mg mb fa o pm cd doc a vs ns G Y ho (fd_plain hd) hcd hmg hobj hints hlen (uF hlay) hg) λr s' hq=>?_);obtain⟨rfl,h2,h3,h4⟩:=hq;exact⟨.inl ⟨.bool true,.bool true,[],U,λ_=>U,.bool true,w6 l _,λ_=>⟨List.Pairwise.nil,λ_ hm=>(nomatch hm)⟩⟩,h2,h3,h4⟩
end Att
namespace L2
open PySem PySem.Spec PyProof.Rows
theorem tF{l:PySem.W.OpenLaw}{n k:Nat}{q:Program}{loose:List Str}{XP:(Str->Option Value)->Heap->Prop}{YP:World->Heap->Prop}{d:DefRec}{K:Params->PySem.W.Frag}{CX:World->CXT}{sp:World->Sp}{x:Str}
 (hn:l.most=some n) (hn2:n<=sizeLine) (hdf:d.params.defaults=[]) (hr:bA k callerA)
 (hY:∀(w:World)(h:Heap),YP w h->(K w.params).In h)
 (F:∀(w:World)(mg:Str->Option Value)(fa:Addr)(h:Heap),(K w.params).In h->h.Ns mainGlobals mg->mg d.name=some (.ref fa)->
  ∃fd:FuncData,(∀(s:Shared)(u:Value),BindsTo s fd ⟨[u],[]⟩ [(x,u)]) /\
   ∀base:Heap,(K w.params).In base->base.Ns mainGlobals mg->aA l.prog w (K w.params) mg base (CX w) k fa fd [x] (sp w))
 (hsp:∀(w:World)(H:Hp)(a:Addr)(ns:List Int),ns.length<=n->(∀k∈ns,Builtin.Int.intBits k<=2 ^ 20)->iW H->SqL (K w.params) H a (ns.map V.int)->sp w [.ref a] H (λv _=>v=.bl true) λ_ _ _=>False)
 (hCX:∀(w:World)(H:Hp)(s:Shared)(e:Value)(s':Shared),CX w [] H s (λ_ _ _=>False) e s'->False):
 PySem.W.WalkO q loose XP YP l.row.toRowW d [] (λf vs=>PySem.call f vs):=by
 refine Att.attach_callB hn hdf λw s₀ s₁ mg mb fa o pm cd doc a vs ns G Y ho hd hcd hmg hobj hints hlen hbits hg=>?_;have KX:=hY w _ Y;obtain⟨fd,hb,hF⟩:=F w mg fa _ KX G.T.g hmg;exact yH KX G.T.g G.T.b G.T.builtins G.T.nolimit hg hobj hints (qy hlen hn2) hr hF hb (λH hO hS=>hsp w H a ns hlen hbits hO hS) λH e s'=>hCX w H s₁ e s'
theorem aa.new{H:Hp}{p:Addr}(h:H p=none)(o:HO):aa H (upd H p o):=λb u q=>by rw[aj (cj q h)];exact q
theorem yS{α:Type}{P R:α->Prop}{c A:Prop}{inst:Decidable c}(w:α)(hw:P w)(rest:∀w,P w->R w)(h:c->(∀w,P w->R w)->A):if c then A else R w:=by
 by_cases hc:c
 ·rw[Q0 hc];exact h hc rest
 ·rw[qZ hc];exact rest w hw
theorem yR{α:Type}{P R:α->Prop}{c A B:Prop}{inst:Decidable c}{w:α}(hw:P w)(rest:∀w,P w->R w)(h:c->(∀w,P w->R w)->A)(e:B=R w:=by rfl):@ite Prop c inst A B:=by
 subst e;exact yS w hw rest h
theorem bi{n m:Nat}(h:n<=m)(hm:m<=1000000:=by decide):n<=sizeLine:=qy h (qy hm (by rw[sizeLine_eq];decide))
theorem yx{i:Int}(h:i.natAbs<2 ^ 1000):i.natAbs.log2<1920:=by
 by_cases h0:i.natAbs=0
 ·rw[h0];decide
 ·exact Nat.lt_trans ((Nat.log2_lt h0).mpr h) Qz
def SIt(h:Heap):Bool->Addr->Addr->Nat->Prop
 |false,it,l,k=>h.IsListIter it l k
 |true,it,l,k=>h.IsTupleIter it l k
def SSq(h:Heap):Bool->Addr->Array Value->Prop
 |false,l,xs=>h.IsList l xs
 |true,l,xs=>h.IsTuple l xs
theorem SIt.obj{h:Heap}:∀{b:Bool}{it l:Addr}{k:Nat},SIt h b it l k->∃o,h.get? it=some o/\∃vs,o.data=.fields vs
 |false,_,_,_,⟨o,e,_,d⟩=>⟨o,e,_,d⟩
 |true,_,_,_,⟨o,e,_,d⟩=>⟨o,e,_,d⟩
theorem SIt.keep{h h':Heap}:∀{b:Bool}{it l:Addr}{k:Nat},SIt h b it l k->(∀o,h.get? it=some o->h'.get? it=some o)->SIt h' b it l k
 |false,_,_,_,⟨o,e,r⟩,f=>⟨o,f o e,r⟩
 |true,_,_,_,⟨o,e,r⟩,f=>⟨o,f o e,r⟩
theorem SSq.keep{h h':Heap}:∀{b:Bool}{l:Addr}{xs:Array Value},SSq h b l xs->(∀o,h.get? l=some o->h'.get? l=some o)->SSq h' b l xs
 |false,_,_,⟨o,e,r⟩,f=>⟨o,f o e,r⟩
 |true,_,_,⟨o,e,r⟩,f=>⟨o,f o e,r⟩
theorem SSq.obj{h:Heap}:∀{b:Bool}{l:Addr}{xs:Array Value},SSq h b l xs->∃o,h.get? l=some o/\∃n,o.data=.seq xs n
 |false,_,_,⟨o,e,_,n,d⟩=>⟨o,e,n,d⟩
 |true,_,_,⟨o,e,_,n,d⟩=>⟨o,e,n,d⟩
section
variable {prog:Program}{w:World}{A:Around}{E:Yd}{s:Shared}
theorem yb{it t:Addr}{k:Nat}{xs:Array Value}{x:Value}{Q:Yd}(hi:s.heap.IsTupleIter it t k)(ht:s.heap.IsTuple t xs)(hx:xs[k]?=some x)
 (q:∀g,g.IsTupleIter it t (k+1)->Heap.SameBut it s.heap g->Q x { s with heap:=g }):wpAny (model prog w) A (Builtin.SmallTypes.nextOf (.ref it)) Q E s:=by
 obtain⟨o,e,c,d⟩:=id hi;obtain⟨ot,et,_,nt,dt⟩:=ht;unfold Builtin.SmallTypes.nextOf;refine q5 (wpAny_callSpecial?_slot (name:=Str.ofString "__next__") hi.typeIs PySem.F.slot_tuple_iterator_next (Qi PySem.F.slot_tuple_iterator_next hi.typeIs PySem.F.entry_tuple_iterator_next ?_ (PySem.F.args_tuple_iterator_next_1 _)));show wpAny _ _ (field (.ref it) 0 >>= _) _ _ _;refine q5 (wpAny_field e d (x:=.ref t) U ?_);show wpAny _ _ (if(Value.ref t == Value.none)=true then _ else _) _ _ _;rw[qZ (show ¬ (Value.ref t == Value.none)=true from qi)];show wpAny _ _ (field (.ref it) 1 >>= _) _ _ _;refine q5 (wpAny_field e d (x:=.int k 0) U ?_);show wpAny _ _ (seqItems? (.ref t) >>= _) _ _ _;refine q5 (Qv et dt ?_);simp only[qX,hx];refine q5 (wpAny_setField e d (by simp) (qd ⟨x,U,qd (q _ ?_ (Heap.SameBut.update ..))⟩));exact⟨_,Qg _ e (Obj.isFreed_of_fields (Obj.data_mapFields d _)),(Obj.cls_mapFields ..).trans c,by rw[Obj.data_mapFields d];simp[rawInt]⟩
theorem yc{it t:Addr}{k:Nat}{xs:Array Value}{Q:Yd}(hh:A.handled=none)(hi:s.heap.IsTupleIter it t k)(ht:s.heap.IsTuple t xs)(hx:xs[k]?=none)
 (q:∀g x,Heap.ExtBut it s.heap g->(∃o,g.get? x=some o/\o.cls=.type "StopIteration")->E (.ref x) { s with heap:=g }):wpAny (model prog w) A (Builtin.SmallTypes.nextOf (.ref it)) Q E s:=by
 obtain⟨o,e,c,d⟩:=id hi;obtain⟨ot,et,_,nt,dt⟩:=ht;unfold Builtin.SmallTypes.nextOf;refine q5 (wpAny_callSpecial?_slot (name:=Str.ofString "__next__") hi.typeIs PySem.F.slot_tuple_iterator_next (Qi PySem.F.slot_tuple_iterator_next hi.typeIs PySem.F.entry_tuple_iterator_next ?_ (PySem.F.args_tuple_iterator_next_1 _)));show wpAny _ _ (field (.ref it) 0 >>= _) _ _ _;refine q5 (wpAny_field e d (x:=.ref t) U ?_);show wpAny _ _ (if(Value.ref t == Value.none)=true then _ else _) _ _ _;rw[qZ (show ¬ (Value.ref t == Value.none)=true from qi)];show wpAny _ _ (field (.ref it) 1 >>= _) _ _ _;refine q5 (wpAny_field e d (x:=.int k 0) U ?_);show wpAny _ _ (seqItems? (.ref t) >>= _) _ _ _;refine q5 (Qv et dt ?_);simp only[qX,hx];refine q5 (wpAny_rule (q5 (wpAny_setField e d (by simp) ?_)));show wpAny _ _ (newExc (.type "StopIteration") [] >>= _) _ _ _;refine q5 ?_;simp only[newExc,newTuple];refine q5 (wpAny_newObj_type ?_ (by size_fits));refine q5 (m:=firstArgMember _ _) (wpAny_of_eq (a:=Value.none) (by first|rfl|(simp only[firstArgMember];rfl)) (wpAny_newObj_type ?_ (by size_fits)));simp only[raiseNew];refine q5 (wpAny_handled ?_);first|rw[show A.in1.handled=none from hh]|rw[hh]
 refine q5 (qd (wpAny_throw (q _ _ (((Heap.SameBut.update ..).extBut.push _).push _) ⟨_,qp _ U,U⟩)))
theorem fU{it l:Addr}{k:Nat}{xs:Array Value}{x:Value}{Q:Yd}:∀{b:Bool},SIt s.heap b it l k->SSq s.heap b l xs->xs[k]?=some x->
 (∀g,SIt g b it l (k+1)->Heap.SameBut it s.heap g->Q x { s with heap:=g })->wpAny (model prog w) A (Builtin.SmallTypes.nextOf (.ref it)) Q E s
 |false,a,c,d,q=>wpAny_nextOf_list_item a c d q
 |true,a,c,d,q=>yb a c d q
theorem iz{it l:Addr}{k:Nat}{xs:Array Value}{Q:Yd}(hh:A.handled=none):∀{b:Bool},SIt s.heap b it l k->SSq s.heap b l xs->xs[k]?=none->
 (∀g x,Heap.ExtBut it s.heap g->(∃o,g.get? x=some o/\o.cls=.type "StopIteration")->E (.ref x) { s with heap:=g })->wpAny (model prog w) A (Builtin.SmallTypes.nextOf (.ref it)) Q E s
 |false,a,c,d,q=>wpAny_nextOf_list_end hh a c d q
 |true,a,c,d,q=>yc hh a c d q
structure ZAp(z TI TO i1 i2 l1 l2:Addr):Prop where
 a:TI≠z/\TO≠z/\i1≠z/\i2≠z/\TI≠TO/\TI≠i1/\TI≠i2/\TO≠i1/\TO≠i2/\i1≠i2
 l:∀c,c=l1\/c=l2->c≠z/\c≠TO/\c≠i1/\c≠i2/\c≠TI
theorem tq{z TI TO i1 i2 l1 l2:Addr}{b1 b2:Bool}{k1 k2:Nat}{xs ys:Array Value}{x y a b:Value}{Q:Yd}(D:ZAp z TI TO i1 i2 l1 l2)
 (hz:IsZip s.heap z TI TO .none) (hI:IsPair s.heap TI (.ref i1) (.ref i2)) (hO:IsPair s.heap TO a b) (t1:SIt s.heap b1 i1 l1 k1) (t2:SIt s.heap b2 i2 l2 k2) (q1:SSq s.heap b1 l1 xs) (q2:SSq s.heap b2 l2 ys) (ex:xs[k1]?=some x) (ey:ys[k2]?=some y)
 (q:∀g,IsZip g z TI TO (rawInt s.heap.objs.size)->IsPair g TO x y->SIt g b1 i1 l1 (k1+1)->SIt g b2 i2 l2 (k2+1)->IsPair g s.heap.objs.size x y->(∀c o,c≠z->c≠TO->c≠i1->c≠i2->s.heap.get? c=some o->g.get? c=some o)->Q (.ref s.heap.objs.size) { s with heap:=g }):
 wpAny (model prog w) A (Builtin.«zip.__next__» ⟨[.ref z],[]⟩) (λfin s'=>∃v,fin=.done (.ret v)/\Q v s') E s:=by
 obtain⟨⟨nIz,nOz,n1z,n2z,nIO,nI1,nI2,nO1,nO2,n12⟩,lne⟩:=D;obtain⟨m1z,m1O,m11,m12,m1I⟩:=lne l1 (.inl U);obtain⟨m2z,m2O,m21,m22,m2I⟩:=lne l2 (.inr U);show wpAny _ _ (field (.ref z) 2 >>= _) _ _ _;refine q5 (wpAny_field hz U (x:=.bool false) U ?_);show wpAny _ _ (field (.ref z) 3 >>= _) _ _ _;refine q5 (wpAny_field hz U (x:=.ref TI) U (q5 (Qv hI U ?_)));show wpAny _ _ (Builtin.SmallTypes.ownedTupleIsFree (.ref z) >>= _) _ _ _;refine q5 ?_;unfold Builtin.SmallTypes.ownedTupleIsFree;refine q5 (wpAny_field hz U (x:=.none) U (qd ?_));simp only[if_true];refine q5 (wpAny_rule (q5 (wpAny_field hz U (x:=.ref TO) U (q5 (wpAny_setField_rec hz (by simp) λg1 z1 s1=>?_)))));replace z1:IsZip g1 z TI TO .ellipsis:=z1;refine q5 ?_;simp only[List.zipIdx_cons,List.zipIdx_nil,List.forIn_cons,List.forIn_nil];refine q5 (q5 (wpAny_onRaise ?_));show wpAny _ _ (Builtin.SmallTypes.nextOf (.ref i1) >>= _) _ _ _;refine q5 (fU (b:=b1) (t1.keep λo e=>s1.extBut _ _ n1z e) (q1.keep λo e=>s1.extBut _ _ m1z e) ex λg2 u1 s2=>qd ?_);have o2:IsPair g2 TO a b:=s2.extBut _ _ nO1 (s1.extBut _ _ nOz hO);refine q5 (Qv o2 U (q5 (wpAny_updateSeq_pair o2 λg3 o3 s3=>q5 (wpAny_letGo (qd ?_)))));replace o3:IsPair g3 TO x b:=o3;refine q5 (q5 (wpAny_onRaise ?_));show wpAny _ _ (Builtin.SmallTypes.nextOf (.ref i2) >>= _) _ _ _;refine q5 (fU (b:=b2) (t2.keep λo e=>s3.extBut _ _ nO2.symm (s2.extBut _ _ n12.symm (s1.extBut _ _ n2z e))) (q2.keep λo e=>s3.extBut _ _ m2O (s2.extBut _ _ m21 (s1.extBut _ _ m2z e))) ey λg4 u2 s4=>qd ?_);have o4:IsPair g4 TO x b:=s4.extBut _ _ nO2 o3;refine q5 (Qv o4 U (q5 (wpAny_updateSeq_pair o4 λg5 o5 s5=>q5 (wpAny_letGo (qd (qd ?_))))));replace o5:IsPair g5 TO x y:=o5;refine q5 (Qv o5 U (q5 (wpAny_newTuple ?_)));have sz:g5.objs.size=s.heap.objs.size:=by rw[s5.1,s4.1,s3.1,s2.1,s1.1]
 have z5:IsZip g5 z TI TO .ellipsis:=s5.extBut _ _ nOz.symm (s4.extBut _ _ n2z.symm (s3.extBut _ _ nOz.symm (s2.extBut _ _ n1z.symm z1)));have k5:∀c o,c≠z->c≠TO->c≠i1->c≠i2->s.heap.get? c=some o->g5.get? c=some o:=λc o h1 h2 h3 h4 e=>s5.extBut _ _ h2 (s4.extBut _ _ h4 (s3.extBut _ _ h2 (s2.extBut _ _ h3 (s1.extBut _ _ h1 e))));have v1:SIt g5 b1 i1 l1 (k1+1):=u1.keep λo e=>s5.extBut _ _ nO1.symm (s4.extBut _ _ n12 (s3.extBut _ _ nO1.symm e));have v2:SIt g5 b2 i2 l2 (k2+1):=u2.keep λo e=>s5.extBut _ _ nO2.symm e;have zlt:z<g5.objs.size:=qq z5;show wpAny _ _ (Builtin.SmallTypes.ownedTupleHandOut (.ref z) (.ref g5.objs.size) >>= _) _ _ _;refine q5 ?_;unfold Builtin.SmallTypes.ownedTupleHandOut;have z6:IsZip (g5.push { cls:=.type "tuple",data:=.seq #[x,y] }) z TI TO .ellipsis:=qa _ z5;refine q5 (wpAny_setField_rec z6 (by simp) λg7 z7 s7=>?_);replace z7:IsZip g7 z TI TO (rawInt g5.objs.size):=z7;refine wpAny_setField_rec z7 (by simp) λg8 z8 s8=>?_;replace z8:IsZip g8 z TI TO (rawInt g5.objs.size):=z8;have up:∀c o,c≠z->g5.get? c=some o->g8.get? c=some o:=λc o h1 e=>s8.extBut _ _ h1 (s7.extBut _ _ h1 (qa _ e));have t8:IsPair g8 g5.objs.size x y:=s8.extBut _ _ (Nat.ne_of_gt zlt) (s7.extBut _ _ (Nat.ne_of_gt zlt) (qp _ U));rw[sz]at z8 t8;refine qd ⟨_,U,?_⟩;show Q (.ref g5.objs.size) _;rw[sz];exact q g8 z8 (up _ _ nOz o5) (v1.keep λo e=>up _ o n1z e) (v2.keep λo e=>up _ o n2z e) t8 λc o h1 h2 h3 h4 e=>up c o h1 (k5 c o h1 h2 h3 h4 e)
theorem tu{z TI TO i1 i2 l1 l2:Addr}{b1 b2:Bool}{k1 k2:Nat}{xs ys:Array Value}{a b:Value}{Q:Fin->Shared->Prop}(hh:A.handled=none)(D:ZAp z TI TO i1 i2 l1 l2)
 (hz:IsZip s.heap z TI TO .none) (hI:IsPair s.heap TI (.ref i1) (.ref i2)) (hO:IsPair s.heap TO a b) (t1:SIt s.heap b1 i1 l1 k1) (t2:SIt s.heap b2 i2 l2 k2) (q1:SSq s.heap b1 l1 xs) (q2:SSq s.heap b2 l2 ys) (hend:xs[k1]?=none\/ys[k2]?=none)
 (q:∀g e,(∀c o,c≠z->c≠TO->c≠i1->c≠i2->s.heap.get? c=some o->g.get? c=some o)->(∃o,g.get? e=some o/\o.cls=.type "StopIteration")->E (.ref e) { s with heap:=g }):
 wpAny (model prog w) A (Builtin.«zip.__next__» ⟨[.ref z],[]⟩) Q E s:=by
 obtain⟨⟨nIz,nOz,n1z,n2z,nIO,nI1,nI2,nO1,nO2,n12⟩,lne⟩:=D;obtain⟨m1z,m1O,m11,m12,m1I⟩:=lne l1 (.inl U);obtain⟨m2z,m2O,m21,m22,m2I⟩:=lne l2 (.inr U);show wpAny _ _ (field (.ref z) 2 >>= _) _ _ _;refine q5 (wpAny_field hz U (x:=.bool false) U ?_);show wpAny _ _ (field (.ref z) 3 >>= _) _ _ _;refine q5 (wpAny_field hz U (x:=.ref TI) U (q5 (Qv hI U ?_)));show wpAny _ _ (Builtin.SmallTypes.ownedTupleIsFree (.ref z) >>= _) _ _ _;refine q5 ?_;unfold Builtin.SmallTypes.ownedTupleIsFree;refine q5 (wpAny_field hz U (x:=.none) U (qd ?_));simp only[if_true];refine q5 (wpAny_rule (q5 (wpAny_field hz U (x:=.ref TO) U (q5 (wpAny_setField_rec hz (by simp) λg1 z1 s1=>?_)))));replace z1:IsZip g1 z TI TO .ellipsis:=z1;refine q5 ?_;simp only[List.zipIdx_cons,List.zipIdx_nil,List.forIn_cons,List.forIn_nil];refine q5 (q5 (wpAny_onRaise ?_));show wpAny _ _ (Builtin.SmallTypes.nextOf (.ref i1) >>= _) _ _ _
 cases ex:xs[k1]? with
 |none=>
  refine q5 (iz (b:=b1) hh (t1.keep λo e=>s1.extBut _ _ n1z e) (q1.keep λo e=>s1.extBut _ _ m1z e) ex λg2 v s2 hv=>?_);obtain⟨ov,ev,cv⟩:=hv;have z2:IsZip g2 z TI TO .ellipsis:=s2 _ _ n1z.symm z1;have nv:v≠z:=λh=>by subst h;rw[z2]at ev;cases ev;simp at cv
  exact wpAny_setField_rec z2 (by simp) λg3 _ s3=>q g3 v (λc o h1 _ h3 _ e=>s3.extBut _ _ h1 (s2 _ _ h3 (s1.extBut _ _ h1 e))) ⟨ov,s3.extBut _ _ nv ev,cv⟩
 |some x=>
  have ey:ys[k2]?=none:=by rcases hend with h|h;rw[ex]at h;cases h;exact h
  refine q5 (fU (b:=b1) (t1.keep λo e=>s1.extBut _ _ n1z e) (q1.keep λo e=>s1.extBut _ _ m1z e) ex λg2 u1 s2=>qd ?_);have o2:IsPair g2 TO a b:=s2.extBut _ _ nO1 (s1.extBut _ _ nOz hO);refine q5 (Qv o2 U (q5 (wpAny_updateSeq_pair o2 λg3 o3 s3=>q5 (wpAny_letGo (qd ?_)))));refine q5 (q5 (wpAny_onRaise ?_));show wpAny _ _ (Builtin.SmallTypes.nextOf (.ref i2) >>= _) _ _ _;refine q5 (iz (b:=b2) hh (t2.keep λo e=>s3.extBut _ _ nO2.symm (s2.extBut _ _ n12.symm (s1.extBut _ _ n2z e))) (q2.keep λo e=>s3.extBut _ _ m2O (s2.extBut _ _ m21 (s1.extBut _ _ m2z e))) ey λg4 v s4 hv=>?_);obtain⟨ov,ev,cv⟩:=hv;have z4:IsZip g4 z TI TO .ellipsis:=s4 _ _ n2z.symm (s3.extBut _ _ nOz.symm (s2.extBut _ _ n1z.symm z1));have nv:v≠z:=λh=>by subst h;rw[z4]at ev;cases ev;simp at cv
  exact wpAny_setField_rec z4 (by simp) λg5 _ s5=>q g5 v (λc o h1 h2 h3 h4 e=>s5.extBut _ _ h1 (s4 _ _ h4 (s3.extBut _ _ h2 (s2.extBut _ _ h3 (s1.extBut _ _ h1 e))))) ⟨ov,s5.extBut _ _ nv ev,cv⟩
end
section
variable {X:Cx}{pins:List (Addr×Obj)}{σ:St}{H:Hp}{s:Shared}{h':Heap}
theorem Inv.turnedL{t':Nat}{ch:List Addr}(I:Inv X pins σ H s)(k:∀b o,b∉ch->s.heap.get? b=some o->h'.get? b=some o)(hf:∀b∈ch,cr X pins H b):Inv X pins σ H { s with heap:=h',toks:=t' }:=by
 have nit:∀b u,H b=some u->b∉ch:=λb u e z=>by rw[(hf b z).1]at e;cases e
 have hL:X.env.locals∉ch:=λz=>(hf _ z).2.1 U
 refine I.step (g':=s.gens) (d':=s.drawn) (ch:=ch) (λb hb=>⟨(hf b hb).2.2.2.1,(hf b hb).2.1,(hf b hb).2.2.2.2.1,(hf b hb).2.2.2.2.2⟩) (λb o _ _ hc e _=>k b o hc e) (λb o _ _ hc e _=>⟨o.slots,k b o hc e⟩) (λ_ _ _ _ n=>n)
  (λb o hc e=>⟨o,k b o hc e⟩) (λ_ _ e=>e) (λ_ _ _ e=>e) (λb ps e=>⟨#[],by rw[e];simp⟩) (λm hm=>?_) (λb u e=>?_) I.bare
 ·obtain⟨o,es,ep,ho,r⟩:=hm;exact⟨o,es,ep,k _ o hL ho,r⟩
 ·refine(I.hok b u e).stay (λc v hc q=>k c v ?_ q) (λ_ q=>q) λ_ _ q=>q;rcases hc with z|z
  ·rw[z];exact nit b u e
  ·exact nit c _ z
theorem Inv.track{T:Addr}{o:HO}(I:Inv X pins σ H s)(f:cr X pins H T)(hs:X.s₀.heap.objs.size<=T)(new:bP X.prog X.w (upd H T o) s.heap T o):Inv X pins σ (upd H T o) s:=by
 obtain⟨f0,f1,f2,_,f4,f5⟩:=f;have old:∀b u,X.s₀.heap.get? b=some u->b≠T:=λb u e=>qG (qD (qq e) hs);refine⟨I.ok,I.os,I.bare,⟨I.base.keep,I.base.slot,λb u e n hx=>?_,I.base.there,λb xs e=>?_,λb u v e=>?_,λb ps e=>?_⟩,I.loc,I.cell,?_,λx c e=>?_,λp hp=>?_,λb u e=>?_,I.len⟩
 ·rw[aj (old b u e)];exact I.base.free b u e n hx
 ·rw[aj (cj (I.base.tups b xs e) f0)];exact I.base.tups b xs e
 ·rw[aj (cj (I.base.frzs b u v e) f0)];exact I.base.frzs b u v e
 ·obtain⟨more,q⟩:=I.base.tbls b ps e;exact⟨more,by rw[aj (cj q f0)];exact q⟩
 ·rw[aj (Ne.symm f1)];exact I.free
 ·rw[aj (f4 x c e)];exact I.freeC x c e
 ·obtain⟨e,n,ne,nf,d⟩:=I.pin p hp;exact⟨e,by rw[aj (f5 p hp)];exact n,ne,nf,d⟩
 ·by_cases hb:b=T
  ·subst hb;rw[af]at e;cases e;exact new
  ·rw[aj hb]at e;exact(I.hok b u e).stay (λc v _ q=>q) (λc q=>by rw[aj (cj q f0)];exact q) λc xs q=>by rw[aj (cj q f0)];exact q
end
def SqB(K:W.Frag)(H:Hp):Bool->Addr->List V->Prop
 |false,a,xs=>SqL K H a xs
 |true,a,xs=>SqT K H a xs
theorem SqB.at{X:Cx}{pins:List (Addr×Obj)}{σ:St}{H:Hp}{s:Shared}(I:Inv X pins σ H s):∀{b:Bool}{a:Addr}{xs:List V},SqB X.K H b a xs->∃its:List Value,ar xs its/\SSq s.heap b a its.toArray/\xs.length<=sizeLine
 |false,_,_,h=>let ⟨its,r,p,z⟩:=I.list h;⟨its,r,p.isList,z⟩
 |true,_,_,h=>let ⟨its,r,p,z⟩:=I.tuple h;⟨its,r,p,z⟩
theorem SqB.inj{X:Cx}{pins:List (Addr×Obj)}{σ:St}{H:Hp}{s:Shared}(I:Inv X pins σ H s):∀{b:Bool}{a:Addr}{xs ys:List V},SqB X.K H b a xs->SqB X.K H b a ys->xs=ys
 |false,_,_,_,h,h'=>I.list_inj h h'
 |true,_,_,_,h,h'=>I.tuple_inj h h'
def Itz(K:W.Frag)(b1 b2:Bool)(l1 l2:Addr):It:=
 ⟨λi H=>∃xs ys x y,SqB K H b1 l1 xs/\SqB K H b2 l2 ys/\xs[i]?=some x/\ys[i]?=some y,
  λi H v H'=>∃p x y,H p=none/\v=.ref p/\H'=upd H p (.tup [x,y])/\(∀xs,SqB K H b1 l1 xs->xs[i]?=some x)/\∀ys,SqB K H b2 l2 ys->ys[i]?=some y,
  λi H=>∃xs ys,SqB K H b1 l1 xs/\SqB K H b2 l2 ys/\(xs.length<=i\/ys.length<=i)⟩
section
variable {prog:Program}{w:World}{A:Around}{E:Yd}{s:Shared}
theorem mh{z TI TO i1 i2 l1 l2:Addr}{b1 b2:Bool}{k1 k2:Nat}{xs ys:Array Value}{x y a b:Value}{Q:Option Value->Shared->Prop}(D:ZAp z TI TO i1 i2 l1 l2)
 (hz:IsZip s.heap z TI TO .none) (hI:IsPair s.heap TI (.ref i1) (.ref i2)) (hO:IsPair s.heap TO a b) (t1:SIt s.heap b1 i1 l1 k1) (t2:SIt s.heap b2 i2 l2 k2) (q1:SSq s.heap b1 l1 xs) (q2:SSq s.heap b2 l2 ys) (ex:xs[k1]?=some x) (ey:ys[k2]?=some y)
 (q:∀g,IsZip g z TI TO (rawInt s.heap.objs.size)->IsPair g TO x y->SIt g b1 i1 l1 (k1+1)->SIt g b2 i2 l2 (k2+1)->IsPair g s.heap.objs.size x y->(∀c o,c≠z->c≠TO->c≠i1->c≠i2->s.heap.get? c=some o->g.get? c=some o)->Q (some (.ref s.heap.objs.size)) { s with heap:=g }):
 wpAny (model prog w) A (pyNext (.ref z)) Q E s:=by
 have ty:s.TypeIs (.ref z) "zip":=⟨_,hz,U⟩;unfold pyNext;exact q5 (wpAny_attempt (wpAny_callSpecial?_slot (name:=Str.ofString "__next__") ty PySem.F.slot_zip_next (Qi PySem.F.slot_zip_next ty PySem.F.entry_zip_next (tq D hz hI hO t1 t2 q1 q2 ex ey λg a1 a2 a3 a4 a5 a6=>qd (q g a1 a2 a3 a4 a5 a6)) (PySem.F.args_zip_next_1 _))))
theorem mj{z TI TO i1 i2 l1 l2:Addr}{b1 b2:Bool}{k1 k2:Nat}{xs ys:Array Value}{a b:Value}{Q:Option Value->Shared->Prop}(hh:A.handled=none)(D:ZAp z TI TO i1 i2 l1 l2)
 (hz:IsZip s.heap z TI TO .none) (hI:IsPair s.heap TI (.ref i1) (.ref i2)) (hO:IsPair s.heap TO a b) (t1:SIt s.heap b1 i1 l1 k1) (t2:SIt s.heap b2 i2 l2 k2) (q1:SSq s.heap b1 l1 xs) (q2:SSq s.heap b2 l2 ys) (hend:xs[k1]?=none\/ys[k2]?=none)
 (q:∀g,(∀c o,c≠z->c≠TO->c≠i1->c≠i2->s.heap.get? c=some o->g.get? c=some o)->Q none { s with heap:=g }):wpAny (model prog w) A (pyNext (.ref z)) Q E s:=by
 have ty:s.TypeIs (.ref z) "zip":=⟨_,hz,U⟩;unfold pyNext;refine q5 (wpAny_attempt (wpAny_callSpecial?_slot (name:=Str.ofString "__next__") ty PySem.F.slot_zip_next (Qi PySem.F.slot_zip_next ty PySem.F.entry_zip_next (tu hh D hz hI hO t1 t2 q1 q2 hend λg e hk he=>?_) (PySem.F.args_zip_next_1 _))));obtain⟨o,ho,hc⟩:=he;exact q5 (wpAny_isInstance (T:="StopIteration") (b:=true) ⟨o,ho,hc⟩ isSubtype_stop (qd (q _ hk)))
end
theorem tJ{P:Program}{w:World}{K:W.Frag}{elts:List Expr}{kk:Nat}{tp:Pos}{b1 b2:Bool}(z TI TO i1 i2 l1 l2:Addr)(D:ZAp z TI TO i1 i2 l1 l2):
 eP P w K (.Tuple elts kk tp) (Itz K b1 b2 l1 l2) [z,TI,TO,i1,i2] z (λi h=>IsZip h z TI TO .none/\IsPair h TI (.ref i1) (.ref i2)/\(∃a b,IsPair h TO a b)/\SIt h b1 i1 l1 i/\SIt h b2 i2 l2 i) where
 mem:=by simp
 obj:=λi h st b hb=>by
  obtain⟨hz,hI,⟨a,c,hO⟩,t1,t2⟩:=st;simp only[qu,qQ,or_false]at hb;rcases hb with rfl|rfl|rfl|rfl|rfl
  ·exact⟨_,hz,λv q=>by cases q⟩
  ·exact⟨_,hI,λv q=>by cases q⟩
  ·exact⟨_,hO,λv q=>by cases q⟩
  ·obtain⟨o,e,vs,d⟩:=t1.obj;exact⟨o,e,λv q=>by rw[d]at q;cases q⟩
  ·obtain⟨o,e,vs,d⟩:=t2.obj;exact⟨o,e,λv q=>by rw[d]at q;cases q⟩
 keep:=λi h h' st k=>by
  obtain⟨hz,hI,⟨a,c,hO⟩,t1,t2⟩:=st;exact⟨k z (by simp) _ hz,k TI (by simp) _ hI,⟨a,c,k TO (by simp) _ hO⟩,t1.keep λo e=>k i1 (by simp) o e,t2.keep λo e=>k i2 (by simp) o e⟩
 item:=by
  intro X hP hw hK hc i pins s σ H E I hf st hg;subst hP hw hK;obtain⟨hz,hI,⟨a,c,hO⟩,t1,t2⟩:=st;obtain⟨xs,ys,x,y,hx,hy,ex,ey⟩:=hg;obtain⟨its,rv,q1,z1⟩:=SqB.at I hx;obtain⟨jts,rw',q2,z2⟩:=SqB.at I hy;obtain⟨u,hu,ru⟩:=rv.get ex;obtain⟨v,hv,rv'⟩:=rw'.get ey;refine mh D hz hI hO t1 t2 q1 q2 (x:=u) (y:=v) (by simpa using hu) (by simpa using hv) λg a1 a2 a3 a4 a5 a6=>⟨_,U,?_⟩;refine wpAny_letOwnedTupleGo_zip a1 λg' a1' sb=>?_;obtain⟨⟨nIz,nOz,n1z,n2z,nIO,nI1,nI2,nO1,nO2,n12⟩,lne⟩:=id D
  have hT:∀b∈[z,TI,TO,i1,i2],s.heap.objs.size≠b:=λb hb=>by
   have:∃o,s.heap.get? b=some o:=by
    simp only[qu,qQ,or_false]at hb;rcases hb with rfl|rfl|rfl|rfl|rfl
    ·exact⟨_,hz⟩
    ·exact⟨_,hI⟩
    ·exact⟨_,hO⟩
    ·obtain⟨o,e,_⟩:=t1.obj;exact⟨o,e⟩
    ·obtain⟨o,e,_⟩:=t2.obj;exact⟨o,e⟩
   obtain⟨o,e⟩:=this;exact Nat.ne_of_gt (qq e)
  have kk:∀b o,b∉[z,TI,TO,i1,i2]->s.heap.get? b=some o->g'.get? b=some o:=λb o hb e=>by
   simp only[qu,qQ,or_false,not_or]at hb;exact sb.extBut _ _ hb.1 (a6 b o hb.1 hb.2.2.1 hb.2.2.2.1 hb.2.2.2.2 e)
  have I1:Inv X pins σ H { s with heap:=g' }:=I.turnedL (t':=s.toks) kk hf;have pT:IsPair g' s.heap.objs.size u v:=sb.extBut _ _ (hT z (by simp)) a5;have fT:cr X pins H s.heap.objs.size:=I.fpOk (qe _) (I.hok.fresh (qe _));have I2:Inv X pins σ (upd H s.heap.objs.size (.tup [x,y])) { s with heap:=g' }:=I1.track fT I.sz ⟨by show 2<=sizeLine;decide,[u,v],.cons ru (.cons rv' .nil),⟨_,pT,U,_,U⟩⟩;refine⟨.ref s.heap.objs.size,_,I2,U,⟨_,x,y,I.hok.fresh (qe _),U,U,λxs' h=>by rw[SqB.inj I h hx];exact ex,λys' h=>by rw[SqB.inj I h hy];exact ey⟩,?_,λb hb=>?_⟩
  ·exact⟨a1',sb.extBut _ _ nIz (a6 TI _ nIz nIO nI1 nI2 hI),⟨u,v,sb.extBut _ _ nOz a2⟩,a3.keep λo e=>sb.extBut _ _ n1z e,a4.keep λo e=>sb.extBut _ _ n2z e⟩
  ·rw[aj (Ne.symm (hT b hb))];exact(hf b hb).1
 done:=by
  intro X hP hw hK hc i pins s σ H E I hf st hg;subst hP hw hK;obtain⟨hz,hI,⟨a,c,hO⟩,t1,t2⟩:=st;obtain⟨xs,ys,hx,hy,hend⟩:=hg;obtain⟨its,rv,q1,z1⟩:=SqB.at I hx;obtain⟨jts,rw',q2,z2⟩:=SqB.at I hy;have e1:=rv.length;have e2:=rw'.length
  refine mj (I.ok.hd hc) D hz hI hO t1 t2 q1 q2 (by
   rcases hend with h|h
   ·exact .inl (by simp;omega)
   ·exact .inr (by simp;omega)) λg k=>⟨U,I.turnedL (t':=s.toks) (ch:=[z,TI,TO,i1,i2]) (λb o hb e=>?_) hf⟩
  simp only[qu,qQ,or_false,not_or]at hb;exact k b o hb.1 hb.2.2.1 hb.2.2.2.1 hb.2.2.2.2 e
 self:=λ_ _ _ _ _ st h=>wpAny_pyIter_zip st.1 h
def dH(b:Bool)(l:Addr):Obj:={ cls:=.type (if b=true then "tuple_iterator" else "list_iterator"),data:=.fields #[.ref l,.int 0 0] }
theorem SIt.new{h:Heap}:∀{b:Bool}{it l:Addr},h.get? it=some (dH b l)->SIt h b it l 0
 |false,_,_,e=>⟨_,e,U,U⟩
 |true,_,_,e=>⟨_,e,U,U⟩
def zg2(h:Heap)(b1 b2:Bool)(l1 l2:Addr):Heap:=(h.push (dH b1 l1)).push (dH b2 l2)
def zg3(h:Heap)(b1 b2:Bool)(l1 l2:Addr):Heap:=(zg2 h b1 b2 l1 l2).push { cls:=.type "tuple",data:=.seq #[.ref h.objs.size,.ref (h.push (dH b1 l1)).objs.size] }
def zg4(h:Heap)(b1 b2:Bool)(l1 l2:Addr):Heap:=(zg3 h b1 b2 l1 l2).push { cls:=.type "tuple",data:=.seq #[.none,.none] }
def zg5(h:Heap)(b1 b2:Bool)(l1 l2:Addr):Heap:=(zg4 h b1 b2 l1 l2).push { cls:=.type "zip",data:=.fields #[.none,.bool false,.bool false,.ref (zg2 h b1 b2 l1 l2).objs.size,.ref (zg3 h b1 b2 l1 l2).objs.size] }
theorem rC{prog:Program}{w:World}{A:Around}{E:Yd}{s:Shared}{l:Addr}{xs:Array Value}{Q:Yd}:∀{b:Bool},SSq s.heap b l xs->Q (.ref s.heap.objs.size) { s with heap:=s.heap.push (dH b l) }->wpAny (model prog w) A (pyIter (.ref l)) Q E s
 |false,h,q=>wpAny_pyIter_list h q
 |true,h,q=>wpAny_pyIter_tuple h q
theorem SSq.push{h:Heap}{b:Bool}{l:Addr}{xs:Array Value}(x:SSq h b l xs)(o:Obj):SSq (h.push o) b l xs:=x.keep λ_ e=>qa _ e
set_option maxHeartbeats 8000000 in
theorem gg(b1 b2:Bool)(l1 l2:Addr)(xs ys:Array Value):
 Meets (Builtin.«zip.__new__» ⟨[.type "zip",.ref l1,.ref l2],[]⟩) (λ_ R s=>SSq s.heap b1 l1 xs/\SSq s.heap b2 l2 ys/\R (.ok (.ret (.ref (zg4 s.heap b1 b2 l1 l2).objs.size))) { s with heap:=zg5 s.heap b1 b2 l1 l2 }):=
 .of_wp λprog w A R s h=>by
  obtain⟨hp,g,d,tk,os⟩:=s;obtain⟨h1,h2,h⟩:=h;have hsub:=PySem.sub_zip;have e1:SSq (Shared.heap ⟨hp,g,d,tk,os⟩) b1 l1 xs:=h1;have e2:SSq (Shared.heap ⟨hp.push (dH b1 l1),g,d,tk,os⟩) b2 l2 ys:=SSq.push h2 _
  wp_walk using rC e1,rC e2
  exact⟨_,U,h⟩
section
variable {prog:Program}{w:World}{A:Around}{E:Yd}{s:Shared}
theorem sL{b1 b2:Bool}{l1 l2:Addr}{xs ys:Array Value}{Q:Yd}(h1:SSq s.heap b1 l1 xs)(h2:SSq s.heap b2 l2 ys)
 (h:∀g n,n=s.heap.objs.size->IsZip g (n+4) (n+2) (n+3) .none->IsPair g (n+2) (.ref n) (.ref (n+1))->IsPair g (n+3) .none .none->SIt g b1 n l1 0->SIt g b2 (n+1) l2 0->
  (∀c o,s.heap.get? c=some o->g.get? c=some o)->Q (.ref (n+4)) { s with heap:=g }):wpAny (model prog w) A (call (.type "zip") [.ref l1,.ref l2]) Q E s:=by
 refine callType_new PySem.F.called_zip Qz (PySem.F.typeCall_zip_2 _ _) (PySem.F.newCall_zip_2 _ _) (λobj=>PySem.F.args_object_init_3 obj _ _) PySem.F.entry_zip_new (gg b1 b2 l1 l2 xs ys) ⟨h1,h2,?_⟩;have e1:(s.heap.push (dH b1 l1)).objs.size=s.heap.objs.size+1:=Qf ..;have e2:(zg2 s.heap b1 b2 l1 l2).objs.size=s.heap.objs.size+2:=by unfold zg2;rw[Qf,e1]
 have e3:(zg3 s.heap b1 b2 l1 l2).objs.size=s.heap.objs.size+3:=by unfold zg3;rw[Qf,e2]
 have e4:(zg4 s.heap b1 b2 l1 l2).objs.size=s.heap.objs.size+4:=by unfold zg4;rw[Qf,e3]
 have p:∀{c:Addr}{o:Obj},(zg4 s.heap b1 b2 l1 l2).get? c=some o->(zg5 s.heap b1 b2 l1 l2).get? c=some o:=λq=>qa _ q;have p4:∀{c:Addr}{o:Obj},(zg3 s.heap b1 b2 l1 l2).get? c=some o->(zg4 s.heap b1 b2 l1 l2).get? c=some o:=λq=>qa _ q;have p3:∀{c:Addr}{o:Obj},(zg2 s.heap b1 b2 l1 l2).get? c=some o->(zg3 s.heap b1 b2 l1 l2).get? c=some o:=λq=>qa _ q;have p2:∀{c:Addr}{o:Obj},(s.heap.push (dH b1 l1)).get? c=some o->(zg2 s.heap b1 b2 l1 l2).get? c=some o:=λq=>qa _ q;have g5:(zg5 s.heap b1 b2 l1 l2).get? (zg4 s.heap b1 b2 l1 l2).objs.size=some _:=qp _ U;have g4:(zg5 s.heap b1 b2 l1 l2).get? (zg3 s.heap b1 b2 l1 l2).objs.size=some _:=p (qp _ U);have g3:(zg5 s.heap b1 b2 l1 l2).get? (zg2 s.heap b1 b2 l1 l2).objs.size=some _:=p (p4 (qp _ U));have g2:(zg5 s.heap b1 b2 l1 l2).get? (s.heap.push (dH b1 l1)).objs.size=some _:=p (p4 (p3 (qp _ U)));have g1:(zg5 s.heap b1 b2 l1 l2).get? s.heap.objs.size=some _:=p (p4 (p3 (p2 (qp _ U))));show _/\_;rw[e2,e3,e4]at g5;rw[e1,e2]at g3;rw[e3]at g4;rw[e1]at g2;rw[e4];exact⟨⟨_,g5,U⟩,h _ _ U g5 g3 g4 (SIt.new g1) (SIt.new g2) λc o x=>p (p4 (p3 (p2 (qa _ x))))⟩
end
section
variable {X:Cx}
def za(K:W.Frag)(ta:TA):TI:=λσ H R=>ta σ H λvs H1=>∃b1 b2 l1 l2 xs ys,vs=[.ref l1,.ref l2]/\SqB K H1 b1 l1 xs/\SqB K H1 b2 l2 ys/\R (Itz K b1 b2 l1 l2) H1
theorem wc{a b:Expr}{ta:TA}{p pos tp:Pos}{elts:List Expr}{kk:Nat}(hg:Gl X "zip")(hm:X.mg "zip"=none)(ha:PA X [a,b] ta)(hs:starEach [a,b] X.env=[(false,eval a X.env),(false,eval b X.env)]:=by rfl)(hs2:starEach [b] X.env=[(false,eval b X.env)]:=by rfl):
 PI X (.Tuple elts kk tp) (.Call (.Name "zip" p) [a,b] [] pos) (za X.K ta):=by
 intro pins s σ H R I h;refine Call_ (dk I hg hm PyProof.Rows.Boot.«zip» (PyProof.Rows.callWith_type1 (thn (ha pos pins s σ H _ I h) λus s1 ⟨vs,H1,I1,r1,q1⟩=>?_) (by rw[hs,hs2]) (by rw[hs2];rfl)));obtain⟨b1,b2,l1,l2,xs,ys,rfl,hx,hy,q⟩:=q1;obtain⟨u,u',rfl,ru,ru'⟩:=gY r1;cases ru;cases ru';obtain⟨its,rv,s1',z1⟩:=SqB.at I1 hx;obtain⟨jts,rw',s2',z2⟩:=SqB.at I1 hy;refine sL s1' s2' λg n hn a1 a2 a3 a4 a5 k=>?_
 have lt:∀c,c=l1\/c=l2->c<n:=λc hc=>by
  rw[hn];rcases hc with rfl|rfl
  ·obtain⟨o,e,_⟩:=s1'.obj;exact qq e
  ·obtain⟨o,e,_⟩:=s2'.obj;exact qq e
 refine wpAny_pyIter_zip a1 ⟨n+4,[n+4,n+2,n+3,n,n+1],_,_,H1,U,I1.kept (t':=s1.toks) k,tJ (n+4) (n+2) (n+3) n (n+1) l1 l2 ⟨?_,λc hc=>?_⟩,⟨a1,a2,⟨_,_,a3⟩,a4,a5⟩,λb hb=>?_,q⟩
 ·have e:∀i j:Nat,i≠j->n+i≠n+j:=λi j h z=>h (Nat.add_left_cancel z);exact⟨e 2 4 Qz,e 3 4 Qz,e 0 4 Qz,e 1 4 Qz,e 2 3 Qz,e 2 0 Qz,e 2 1 Qz,e 3 0 Qz,e 3 1 Qz,e 0 1 Qz⟩
 ·have q:=lt c hc;have e:∀i:Nat,c≠n+i:=λi=>qG (qD q (Nat.le_add_right _ _));exact⟨e 4,e 3,e 0,e 1,e 2⟩
 ·have e:∀i:Nat,cr X pins H1 (n+i):=λi=>I1.fpOk (by rw[hn];exact Nat.le_add_right _ _) (I1.hok.fresh (by rw[hn];exact Nat.le_add_right _ _));simp only[qu,qQ,or_false]at hb;rcases hb with rfl|rfl|rfl|rfl|rfl
  ·exact e 4
  ·exact e 2
  ·exact e 3
  ·exact e 0
  ·exact e 1
end
open PySem.Builtin.Str in
section
variable {X:Cx}
end
@[irreducible] def rStrAny:List V->Hp->VK->Prop:=λxs H Q=>(∃z:Str,xs=[.str z]/\Q (.str z) H)\/∃i:Int,xs=[.int i]/\i.natAbs.log2<1920/\Q (.str (toString i)) H
section
variable {X:Cx}
end
mutual
inductive Dt(K:W.Frag)(H:Hp):V->PyData->Prop
 |non:Dt K H .non .none
 |bl (b:Bool):Dt K H (.bl b) (.bool b)
 |int (i:Int):Dt K H (.int i) (.int i)
 |str (x:Str):Dt K H (.str x) (.str x)
 |lst {a:Addr}{xs:List V}{ds:List PyData}:SqL K H a xs->cF K H xs ds->Dt K H (.ref a) (.list ds)
 |tup {a:Addr}{xs:List V}{ds:List PyData}:SqT K H a xs->cF K H xs ds->Dt K H (.ref a) (.tuple ds)
inductive cF(K:W.Frag)(H:Hp):List V->List PyData->Prop
 |nil:cF K H [] []
 |cons {v:V}{vs:List V}{d:PyData}{ds:List PyData}:Dt K H v d->cF K H vs ds->cF K H (v::vs) (d::ds)
end
section
variable {X:Cx}{pins:List (Addr×Obj)}{σ:St}{H:Hp}{s:Shared}
mutual
theorem Dt.reads(I:Inv X pins σ H s):∀{v:V}{d:PyData},Dt X.K H v d->∀{u:Value},aG v u->∃as,Reads s.heap u d as
 |_,_,.non,_,r=>by cases r;exact⟨_,.none⟩
 |_,_,.bl b,_,r=>by cases r;exact⟨_,.bool b⟩
 |_,_,.int i,_,r=>by obtain⟨t,rfl⟩:=r;exact⟨_,.int i t⟩
 |_,_,.str x,_,r=>by obtain⟨t,rfl⟩:=r;exact⟨_,.str x t⟩
 |_,_,.lst hq ha,_,r=>by
  cases r;obtain⟨its,rv,⟨o,n,e,c,_,d⟩,_⟩:=I.list hq;obtain⟨as,z⟩:=cF.reads I ha rv;exact⟨_,.list e c d (by simpa using z)⟩
 |_,_,.tup hq ha,_,r=>by
  cases r;obtain⟨its,rv,⟨o,e,c,n,d⟩,_⟩:=I.tuple hq;obtain⟨as,z⟩:=cF.reads I ha rv;exact⟨_,.tuple e c d (by simpa using z)⟩
theorem cF.reads(I:Inv X pins σ H s):∀{vs:List V}{ds:List PyData},cF X.K H vs ds->∀{us:List Value},ar vs us->∃as,ReadsAll s.heap us ds as
 |_,_,.nil,_,r=>by cases r;exact⟨_,.nil⟩
 |_,_,.cons h t,_,r=>by
  cases r with
  |cons r1 r2=>
   obtain⟨as,z⟩:=Dt.reads I h r1;obtain⟨bs,z'⟩:=cF.reads I t r2;exact⟨_,.cons z z'⟩
end
end
section
variable {X:Cx}
theorem kN(hu:X.A.units+64<cLine):OpR X (compareOp .Eq) (λx y H Q=>∃d e,Dt X.K H x d/\Dt X.K H y e/\SeqAt.shaped d=true/\SeqAt.shaped e=true/\Q (.bl (PyData.eqv d e)) H):=by
 intro pins s σ H x y v u Q I rx ry h;obtain⟨d,e,h1,h2,s1,s2,q⟩:=h;obtain⟨as,r1⟩:=h1.reads I rx;obtain⟨bs,r2⟩:=h2.reads I ry;exact eq_dataH r1 r2 s1 s2 hu ⟨.bl _,H,I,U,q⟩
theorem kM(hu:X.A.units+64<cLine):OpR X (compareOp .NotEq) (λx y H Q=>∃d e,Dt X.K H x d/\Dt X.K H y e/\SeqAt.shaped d=true/\SeqAt.shaped e=true/\Q (.bl (!PyData.eqv d e)) H):=by
 intro pins s σ H x y v u Q I rx ry h;obtain⟨d,e,h1,h2,s1,s2,q⟩:=h;obtain⟨as,r1⟩:=h1.reads I rx;obtain⟨bs,r2⟩:=h2.reads I ry;exact ne_dataH r1 r2 s1 s2 hu ⟨.bl _,H,I,U,q⟩
end
theorem lQ{K:W.Frag}{a:Addr}{xs:List V}{g:TG}{tt:TT}{te:TE}{Fin:List V->Hp->Prop}{σ:St}{H:Hp}(Pv:Nat->List V->St->Hp->Prop)(h0:Pv 0 [] σ H)(hz:∀i ys σ H,i<=xs.length->Pv i ys σ H->ys.length<=i)(hx:xs.length<=sizeLine)(hl:∀i ys σ H,Pv i ys σ H->SqL K H a xs)
 (hs:∀i x ys σ H,xs[i]?=some x->Pv i ys σ H->g x σ H λσ2 H2=>tt σ2 H2 λb H3=>if b=true then te σ2 H3 λy H4=>Pv (i+1) (ys++[y]) σ2 H4 else Pv (i+1) ys σ2 H3)
 (hd:∀ys σ H,Pv xs.length ys σ H->Fin ys H):∃W:Nat->Nat->List V->St->Hp->Prop,(∃m,W 0 m [] σ H)/\db (Itl K a) g tt te Fin W:=by
 refine⟨λi m ys σ H=>m=xs.length-i/\i<=xs.length/\Pv i ys σ H,⟨_,U,qt _,h0⟩,?_⟩;rintro i m ys σ H ⟨rfl,hi,p⟩;have hl':=hz i ys σ H hi p;have q:=hl i ys σ H p;by_cases hlt:i<xs.length
 ·refine .inr ⟨⟨xs,xs[i],q,by simp[hlt]⟩,Qw,Pv (i+1),λys' σ' H' p'=>⟨_,Qw,U,hlt,p'⟩,λv H' y=>?_⟩;obtain⟨e,y⟩:=y;subst e;exact hs i v ys σ _ (y xs q) p
 ·have e:i=xs.length:=by omega
  subst e;exact .inl ⟨⟨xs,q,qe _⟩,Qw,hd ys σ H p⟩
theorem zP{K:W.Frag}{b1 b2:Bool}{l1 l2:Addr}{xs zs:List V}{g:TG}{tt:TT}{te:TE}{Fin:List V->Hp->Prop}{σ:St}{H:Hp}(Pv:Nat->List V->St->Hp->Prop)(h0:Pv 0 [] σ H)(hz:∀i ys σ H,Pv i ys σ H->ys.length<=i)(hx:xs.length<=sizeLine)(hl:∀i ys σ H,Pv i ys σ H->SqB K H b1 l1 xs/\SqB K H b2 l2 zs)
 (hs:∀i x z ys σ H p,xs[i]?=some x->zs[i]?=some z->Pv i ys σ H->H p=none->g (.ref p) σ (upd H p (.tup [x,z])) λσ2 H2=>tt σ2 H2 λb H3=>if b=true then te σ2 H3 λy H4=>Pv (i+1) (ys++[y]) σ2 H4 else Pv (i+1) ys σ2 H3)
 (hd:∀ys σ H,Pv (min xs.length zs.length) ys σ H->Fin ys H):∃W:Nat->Nat->List V->St->Hp->Prop,(∃m,W 0 m [] σ H)/\db (Itz K b1 b2 l1 l2) g tt te Fin W:=by
 refine⟨λi m ys σ H=>m=min xs.length zs.length-i/\i<=min xs.length zs.length/\Pv i ys σ H,⟨_,U,qt _,h0⟩,?_⟩;rintro i m ys σ H ⟨rfl,hi,p⟩;have hl':=hz i ys σ H p;obtain⟨q1,q2⟩:=hl i ys σ H p;by_cases hlt:i<min xs.length zs.length
 ·have h1:i<xs.length:=by omega
  have h2:i<zs.length:=Qw;refine .inr ⟨⟨xs,zs,xs[i],zs[i],q1,q2,by simp[h1],by simp[h2]⟩,Qw,Pv (i+1),λys' σ' H' p'=>⟨_,Qw,U,hlt,p'⟩,λv H' y=>?_⟩;obtain⟨a,x,y,hn,rfl,rfl,e1,e2⟩:=y;exact hs i x y ys σ H a (e1 xs q1) (e2 zs q2) p hn
 ·have e:i=min xs.length zs.length:=by omega
  subst e;exact .inl ⟨⟨xs,zs,q1,q2,Qw⟩,Qw,hd ys σ H p⟩
end L2
namespace L2
open PySem PySem.Spec PyProof.Rows
section
variable {X:Cx}{tg:Expr}
end
section
variable {X:Cx}
end
end L2
namespace L2
open PySem PySem.Spec PyProof.Rows PySem.NumText
theorem gD{X:Cx}{pins:List (Addr×Obj)}{Nc:List Str}{scope:Scope}{fp:List Addr}{s:Shared}{H:Hp}{C:Addr}{es:List Expr}{k:Nat}{t:TGs}{pos:Pos}(n:Nat)(hc:X.calm=true)(h:PGs (X.comp pins Nc scope fp s H C) es t)
 (hn:(assignEach es (X.comp pins Nc scope fp s H C).env).length=n:=by rfl) (hst:(assignEach es (X.comp pins Nc scope fp s H C).env).findIdx? (·.1)=none:=by rfl):PG (X.comp pins Nc scope fp s H C) (.Tuple es k pos) (rT X.K n t):=
 gE (X:=X.comp pins Nc scope fp s H C) hc h hn hst
end L2
namespace L2
open PySem PySem.Spec PyProof.Rows PySem.W
section
variable {prog:Program}{w:World}{A:Around}{R:Result->Shared->Prop}{E:Yd}{h:Heap}{g:Array GenState}{d:Drawn}{t:Nat}{os:OsState}
variable {nm q:Str}{C N f:Addr}{bs bm:List Value}{hdct:Bool}{sn:List Str}{sub:List Value}{ab:Bool}{col:Option Bool}{dd:Option Addr}{k0 k1 k2 k3 k5:Option Value}
end
section
variable {prog:Program}{w:World}{A:Around}{R:Result->Shared->Prop}{E:Yd}{h:Heap}{g:Array GenState}{d:Drawn}{t:Nat}{os:OsState}
variable {nm q:Str}{C N x:Addr}{bs bm:List Value}{sn:List Str}{sub:List Value}{ab:Bool}{col:Option Bool}{dd:Option Addr}{k0 k1 k2 k3 k5:Option Value}{newId:String}{name:Str}{v:Value}{o:Obj}{fs:Array Value}
end
section
variable {prog:Program}{w:World}{A:Around}{R:Result->Shared->Prop}{E:Yd}{h:Heap}{g:Array GenState}{d:Drawn}{t:Nat}{os:OsState}
variable {nm q:Str}{C N e:Addr}{bs bm:List Value}{hdct:Bool}{sn:List Str}{sub:List Value}{ab:Bool}{col:Option Bool}{dd:Option Addr}{k0 k1 k2 k3 k5:Option Value}{newId:String}{oe:Obj}
end
section
variable {X:Cx}{pins:List (Addr×Obj)}{σ:St}{H:Hp}{s:Shared}{a C f dx:Addr}
end
section
variable {X:Cx}{pins:List (Addr×Obj)}{σ:St}{H:Hp}{s:Shared}{a C f dx:Addr}{h':Heap}
end
section
variable {M:Model}{A:Around}{E:Yd}{s:Shared}{base:Heap}{env:Env}{outer:List Env}{L e:Addr}{oe:Obj}{vs:Array Value}
end
section
variable {P:Program}{w:World}{K:W.Frag}{mg:Str->Option Value}{base:Heap}{N:List Str}{qual:Str}{scope:Scope}{f:Addr}{cdv:Value}{A:Around}{outer:List Env}{s0:Shared}{H0:Hp}{E:XK}
end
section
variable {M:Model}{A:Around}{E:Yd}{env:Env}
variable {nm q:Str}{C N:Addr}{bs bm:List Value}{hdct:Bool}{sn:List Str}{sub:List Value}{ab:Bool}{col:Option Bool}{dd:Option Addr}{k0 k1 k2 k3 k5:Option Value}{newId:String}
end
section
variable {X:Cx}{CX:CXT}{k:Nat}{f C:Addr}{fd:FuncData}{ps:List Str}{sp:Sp}{x:Str}{p pos cpos:Pos}{e:Expr}{es:List Expr}{t:TA}
end
section
variable {M:Model}{A:Around}{E:Yd}{h:Heap}{g:Array GenState}{d:Drawn}{t:Nat}{os:OsState}{e:Addr}{oe:Obj}
variable {nm q:Str}{C N:Addr}{bs bm:List Value}{hdct:Bool}{sn:List Str}{sub:List Value}{ab:Bool}{col:Option Bool}{dd:Option Addr}{k0 k1 k2 k3 k5:Option Value}{newId:String}
variable {nm' q':Str}{C' N':Addr}{bs' bm':List Value}{hdct':Bool}{sn':List Str}{sub':List Value}{ab':Bool}{col':Option Bool}{dd':Option Addr}{k0' k1' k2' k3' k5':Option Value}{newId':String}
end
section
variable {X:Cx}{pins:List (Addr×Obj)}{σ:St}{H:Hp}{s:Shared}{a:Addr}{oe:Obj}{vs:Array Value}{ex:List Addr}{fl:Value}{h':Heap}
end
section
variable {X:Cx}{k:Nat}{f C0:Addr}{fd:FuncData}{ps:List Str}{sp:Sp}{dvs:List V}{ds:List Value}{fx cx y m n:Str}{iy im inn:Nat}{p pos apos py cp pm pn pa hpos tpos:Pos}{e:Expr}{es:List Expr}{t:TA}
end
section
variable {prog:Program}{w:World}{A:Around}{E:Yd}{h:Heap}{g:Array GenState}{d:Drawn}{t:Nat}{os:OsState}{a dx:Addr}{o:Obj}{vs:Array Value}
 {nm q:Str}{C N:Addr}{bs bm:List Value}{sn:List Str}{sub:List Value}{ab:Bool}{col:Option Bool}{dd:Option Addr}{k0 k1 k2 k3 k5:Option Value}{newId:String}{mA:Str->Option Value}{name:Str}{v:Value}
end
section
variable {X:Cx}{e:Expr}{te:TE}{pos:Pos}
end
section
variable {P:Program}{w:World}{K:W.Frag}{mg:Str->Option Value}{base:Heap}
end
section
variable {prog:Program}{w:World}{A:Around}{E:Yd}{h:Heap}{g:Array GenState}{d:Drawn}{t:Nat}{os:OsState}{a:Addr}{o:Obj}{vs:Array Value}
 {nm q:Str}{C N:Addr}{bs bm:List Value}{sn:List Str}{sub:List Value}{ab:Bool}{col:Option Bool}{dd:Option Addr}{k0 k1 k2 k3 k5:Option Value}{newId:String}
end
section
variable {X:Cx}
end
section
variable {X:Cx}
theorem y4:OpR X (binaryOp .FloorDiv) (λx y H Q=>∃i j,x=.int i/\y=.int j/\(0<j/\j.natAbs.log2<9000)/\Q (.int (i / j)) H):=by
 have z:OpR X (binaryOp .FloorDiv) (rI (λ_ j=>0<j/\j.natAbs.log2<9000) λi j=>.int (i / j)):=opI λi j _ _ _ _ _ hc q=>by
  have h1:(0:Int)<j:=hc.1;exact floordiv_int Qw (by rw[Int.fdiv_eq_ediv_of_nonneg i Qw];exact q) (.inl (PyProof.noPylong_of_log2 hc.2))
 exact z
theorem y7:OpR X (binaryOp .BitAnd) (λx y H Q=>∃i j,x=.int i/\y=.int j/\Q (.int (Builtin.bitAnd i j)) H):=wU
theorem xU:OpR X (binaryOp .BitOr) (λx y H Q=>∃i j,x=.int i/\y=.int j/\Q (.int (Builtin.bitOr i j)) H):=wD
theorem xS:OpR X (binaryOp .BitXor) (λx y H Q=>∃i j,x=.int i/\y=.int j/\Q (.int (Builtin.bitXor i j)) H):=wA
end
theorem dQ{x y:Str}(c:decide (V.str x=V.str y)=true):x=y:=by injection (Qc c)
theorem dR{x y:Str}(c:¬ decide (V.str x=V.str y)=true):¬ x=y:=λe=>c (Q1 (by rw[e]))
theorem dn{x y:Int}(c:decide (V.int x=V.int y)=true):x=y:=by injection (Qc c)
theorem dw{x y:Int}(c:¬ decide (V.int x=V.int y)=true):¬ x=y:=λe=>c (Q1 (by rw[e]))
section
variable {P:Program}{w:World}{A:Around}{E:Yd}{s:Shared}
end
section
variable {P:Program}{w:World}{A:Around}{E:Yd}{s:Shared}
end
section
variable {P:Program}{w:World}{A:Around}{E:Yd}{s:Shared}
end
section
variable {P:Program}{w:World}{A:Around}{E:Yd}{s:Shared}
end
section
variable {P:Program}{w:World}{A:Around}{E:Yd}{s:Shared}
end
section
variable {P:Program}{w:World}{A:Around}{E:Yd}{s:Shared}
set_option maxHeartbeats 3200000 in
end
section
variable {X:Cx}
end
section
variable {P:Program}{w:World}{A:Around}{E:Yd}{s:Shared}
end
section
variable {X:Cx}
end
theorem zR{K:W.Frag}{a:Addr}{xs:List V}{g:TG}{tt:TT}{te:TE}{Fin:List V->Hp->Prop}{σ:St}{H:Hp}(Pv:Nat->List V->St->Hp->Prop)(h0:Pv 0 [] σ H)(hz:∀i ys σ H,i<=xs.length->Pv i ys σ H->ys.length<=i)(hx:xs.length<=sizeLine)(hl:∀i ys σ H,Pv i ys σ H->SqT K H a xs)
 (hs:∀i x ys σ H,xs[i]?=some x->Pv i ys σ H->g x σ H λσ2 H2=>tt σ2 H2 λb H3=>if b=true then te σ2 H3 λy H4=>Pv (i+1) (ys++[y]) σ2 H4 else Pv (i+1) ys σ2 H3)
 (hd:∀ys σ H,Pv xs.length ys σ H->Fin ys H):∃W:Nat->Nat->List V->St->Hp->Prop,(∃m,W 0 m [] σ H)/\db (Itt K a) g tt te Fin W:=by
 refine⟨λi m ys σ H=>m=xs.length-i/\i<=xs.length/\Pv i ys σ H,⟨_,U,qt _,h0⟩,?_⟩;rintro i m ys σ H ⟨rfl,hi,p⟩;have few:=hz i ys σ H hi p;have q:=hl i ys σ H p;by_cases lt:i<xs.length
 ·refine .inr ⟨⟨xs,xs[i],q,by simp[lt]⟩,Qw,Pv (i+1),λys' σ' H' p'=>⟨_,Qw,U,lt,p'⟩,λv H' y=>?_⟩;obtain⟨e,y⟩:=y;subst e;exact hs i v ys σ _ (y xs q) p
 ·obtain rfl:i=xs.length:=by omega
  exact .inl ⟨⟨xs,q,qe _⟩,Qw,hd ys σ H p⟩
theorem bn{b:Bool}{A B:Prop}(h:b=true)(x:A):if b=true then A else B:=by rw[Q0 h];exact x
theorem aJ{b:Bool}{A B:Prop}(h:b=false)(x:B):if b=true then A else B:=by rw[qZ (by rw[h];decide)];exact x
theorem jb{x y:Str}(h:(x == y)=false):V.str x≠V.str y:=λe=>by
 injection e with e;subst e;simp at h
end L2
namespace Tr
open PySem PySem.Spec PyProof.Rows L2
theorem aa.over{H0 H:Hp}{f:Addr}{o:HO}(h:aa H0 H)(hf:H0 f=none):aa H0 (upd H f o):=λb u q=>by
 rw[aj (cj q hf)];exact h b u q
theorem aa.none{H0 H:Hp}{f:Addr}(h:aa H0 H)(hf:H f=none):H0 f=none:=by
 cases q:H0 f with
 |none=>rfl
 |some o=>rw[h _ _ q]at hf;cases hf
section
variable {Hb H0 H H1:Hp}{S s0 s1 s2 s3:Addr}{z:List Fz}
end
section
variable {Hb H0 H H1:Hp}{S s0 s1 s2 s3:Addr}{z:List Fz}
end
section
variable {Hb H0 H H':Hp}{S s0 s1 s2 s3:Addr}{z:List Fz}
end
section
variable {Hb H0 H H4:Hp}{S s0 s1 s2 s3:Addr}
end
end Tr
namespace Tr
end Tr
namespace Tr
open PySem PySem.Spec PyProof.Rows L2
end Tr
namespace L2
open PySem PySem.Spec PyProof.Rows
theorem zS{n:Nat}{g:TG}{tt:TT}{te:TE}{Fin:List V->Hp->Prop}{σ:St}{H:Hp}(Pv:Nat->List V->St->Hp->Prop)(h0:Pv 0 [] σ H)(hz:∀i ys σ H,i<=n->Pv i ys σ H->ys.length<=i)(hx:n<=sizeLine)
 (hs:∀i ys σ H,i<n->Pv i ys σ H->g (.int i) σ H λσ2 H2=>tt σ2 H2 λb H3=>if b=true then te σ2 H3 λy H4=>Pv (i+1) (ys++[y]) σ2 H4 else Pv (i+1) ys σ2 H3)
 (hd:∀ys σ H,Pv n ys σ H->Fin ys H):∃W:Nat->Nat->List V->St->Hp->Prop,(∃m,W 0 m [] σ H)/\db (Itr 0 n) g tt te Fin W:=by
 refine⟨λi m ys σ H=>m=n-i/\i<=n/\Pv i ys σ H,⟨_,U,qt _,h0⟩,?_⟩;rintro i m ys σ H ⟨rfl,hi,p⟩;have few:=hz i ys σ H hi p;by_cases lt:i<n
 ·refine .inr ⟨lt,Qw,Pv (i+1),λys' σ' H' p'=>⟨_,Qw,U,lt,p'⟩,λv H' y=>?_⟩;obtain⟨e,y⟩:=y;rw[Int.zero_add]at y;subst e y;exact hs i ys σ _ lt p
 ·obtain rfl:i=n:=by omega
  exact .inl ⟨qe _,Qw,hd ys σ H p⟩
theorem g6{n:Nat}{g:TG}{te:TE}{Fin:List V->Hp->Prop}{σ:St}{H:Hp}(Pv:Nat->List V->St->Hp->Prop)(h0:Pv 0 [] σ H)(hz:∀i ys σ H,i<=n->Pv i ys σ H->ys.length<=i)(hx:n<=sizeLine)
 (hs:∀i ys σ H,i<n->Pv i ys σ H->g (.int i) σ H λσ2 H2=>te σ2 H2 λy H4=>Pv (i+1) (ys++[y]) σ2 H4)
 (hd:∀ys σ H,Pv n ys σ H->Fin ys H):∃W:Nat->Nat->List V->St->Hp->Prop,(∃m,W 0 m [] σ H)/\db (Itr 0 n) g dP te Fin W:=
 zS Pv h0 hz hx (λi ys σ H lt p=>by
  rw[gh (N':=λ_ _ _=>True)]
  exact hs i ys σ H lt p) hd
theorem dL{K:W.Frag}{a:Addr}{xs:List V}{g:TG}{te:TE}{Fin:List V->Hp->Prop}{σ:St}{H:Hp}(Pv:Nat->List V->St->Hp->Prop)(h0:Pv 0 [] σ H)(hz:∀i ys σ H,i<=xs.length->Pv i ys σ H->ys.length<=i)(hx:xs.length<=sizeLine)(hl:∀i ys σ H,Pv i ys σ H->SqL K H a xs)
 (hs:∀i x ys σ H,xs[i]?=some x->Pv i ys σ H->g x σ H λσ2 H2=>te σ2 H2 λy H4=>Pv (i+1) (ys++[y]) σ2 H4)
 (hd:∀ys σ H,Pv xs.length ys σ H->Fin ys H):∃W:Nat->Nat->List V->St->Hp->Prop,(∃m,W 0 m [] σ H)/\db (Itl K a) g dP te Fin W:=
 lQ Pv h0 hz hx hl (λi x ys σ H hx p=>by
  rw[gh (N':=λ_ _ _=>True)]
  exact hs i x ys σ H hx p) hd
end L2
namespace Tr
open PySem PySem.Spec PyProof.Rows L2
end Tr
namespace L2
open PySem
section
variable {P:Program}{w:World}{A:Around}{E:Yd}{s:Shared}
end
section
variable {P:Program}{w:World}{A:Around}{E:Yd}{s:Shared}
set_option maxHeartbeats 3200000 in
end
end L2
namespace L2
open PySem PySem.Spec PyProof.Rows
section
variable {X:Cx}
end
section
variable {X:Cx}
end
def Ite(K:W.Frag)(l:Addr):It:=
 ⟨λi H=>∃xs x,SqL K H l xs/\xs[i]?=some x,
  λi H v H'=>∃p x,H p=none/\v=.ref p/\H'=upd H p (.tup [.int i,x])/\∀xs,SqL K H l xs->xs[i]?=some x,
  λi H=>∃xs,SqL K H l xs/\xs.length<=i⟩
theorem tO{P:Program}{w:World}{K:W.Frag}{elts:List Expr}{kk:Nat}{tp:Pos}(e it l:Addr)(ne:e≠it):
 eP P w K (.Tuple elts kk tp) (Ite K l) [e,it] e (λi h=>(∃old,IsEnum h e it i old)/\h.IsListIter it l i) where
 mem:=by simp
 obj:=λi h st b hb=>by
  obtain⟨⟨old,he⟩,o,eo,c,d⟩:=st;simp only[qu,qQ,or_false]at hb;rcases hb with rfl|rfl
  ·exact⟨_,he,λv q=>by cases q⟩
  ·exact⟨o,eo,λv q=>by rw[d]at q;cases q⟩
 keep:=λi h h' st k=>by
  obtain⟨⟨old,he⟩,o,eo,r⟩:=st;exact⟨⟨old,k e (by simp) _ he⟩,o,k it (by simp) o eo,r⟩
 item:=by
  intro X hP hw hK hc i pins s σ H E I hf st hg;subst hP hw hK;obtain⟨⟨old,he⟩,hit⟩:=st;obtain⟨xs,x,hx,ex⟩:=hg;obtain⟨its,rv,pl,z1⟩:=I.list hx;obtain⟨u,hu,ru⟩:=rv.get ex;refine wpAny_pyNext_enum_item he hit pl.isList (x:=u) (by simpa using hu) ne λg a1 a2 a3 a4 a5=>⟨_,U,?_⟩;refine wpAny_letOwnedTupleGo_enum a1 λg' a1' sb=>?_
  have hT:∀b∈[e,it],s.heap.objs.size≠b:=λb hb=>by
   simp only[qu,qQ,or_false]at hb;rcases hb with rfl|rfl
   ·exact Nat.ne_of_gt (qq he)
   ·obtain⟨o,eo,_⟩:=hit;exact Nat.ne_of_gt (qq eo)
  have ky:∀b o,b∉[e,it]->s.heap.get? b=some o->g'.get? b=some o:=λb o hb q=>by
   simp only[qu,qQ,or_false,not_or]at hb;exact sb.extBut _ _ hb.1 (a5 b o hb.1 hb.2 q)
  have I1:Inv X pins σ H { s with heap:=g',toks:=s.toks+1 }:=I.turnedL (t':=s.toks+1) ky hf;have pT:=sb.extBut _ _ (hT e (by simp)) a3;have fT:cr X pins H s.heap.objs.size:=I.fpOk (qe _) (I.hok.fresh (qe _));have I2:Inv X pins σ (upd H s.heap.objs.size (.tup [.int i,x])) { s with heap:=g',toks:=s.toks+1 }:=I1.track fT I.sz ⟨by show 2<=sizeLine;decide,[.int i s.toks,u],.cons ⟨_,U⟩ (.cons ru .nil),⟨_,pT,U,_,U⟩⟩;refine⟨.ref s.heap.objs.size,_,I2,U,⟨_,x,I.hok.fresh (qe _),U,U,λxs' h=>by rw[I.list_inj h hx];exact ex⟩,⟨⟨u,a1'⟩,?_⟩,λb hb=>?_⟩
  ·obtain⟨o,eo,r⟩:=a2;exact⟨o,sb.extBut _ _ (Ne.symm ne) eo,r⟩
  ·rw[aj (Ne.symm (hT b hb))];exact(hf b hb).1
 done:=by
  intro X hP hw hK hc i pins s σ H E I hf st hg;subst hP hw hK;obtain⟨⟨old,he⟩,hit⟩:=st;obtain⟨xs,hx,hend⟩:=hg;obtain⟨its,rv,pl,z1⟩:=I.list hx;have e1:=rv.length;refine wpAny_pyNext_enum_end (I.ok.hd hc) he hit pl.isList (by simp;omega) λg k=>⟨U,I.turnedL (t':=s.toks) (ch:=[e,it]) (λb o hb q=>?_) hf⟩;simp only[qu,qQ,or_false,not_or]at hb;exact k b o hb.2 q
 self:=λ_ _ _ _ _ st h=>by
  obtain⟨⟨old,he⟩,_⟩:=st;exact wpAny_pyIter_enum he h
section
variable {X:Cx}
def ze(K:W.Frag)(ta:TA):TI:=λσ H R=>ta σ H λvs H1=>∃l xs,vs=[.ref l]/\SqL K H1 l xs/\R (Ite K l) H1
theorem pE{a:Expr}{ta:TA}{p pos tp:Pos}{elts:List Expr}{kk:Nat}(hg:Gl X "enumerate")(hm:X.mg "enumerate"=none)(ha:PA X [a] ta)(hs:starEach [a] X.env=[(false,eval a X.env)]:=by rfl):
 PI X (.Tuple elts kk tp) (.Call (.Name "enumerate" p) [a] [] pos) (ze X.K ta):=by
 intro pins s σ H R I h;refine Call_ (dk I hg hm PyProof.Rows.Boot.«enumerate» (PyProof.Rows.callWith_type1 (thn (ha pos pins s σ H _ I h) λus s1 ⟨vs,H1,I1,r1,q1⟩=>?_) (by rw[hs];rfl) (by rfl)));obtain⟨l,xs,rfl,hx,q⟩:=q1;obtain⟨u,rfl,ru⟩:=dO r1;cases ru;obtain⟨its,rv,pl,z1⟩:=I1.list hx;refine call_enumerate_list pl.isList λg a1 a2 a3 k=>?_;refine wpAny_pyIter_enum a1 ⟨s1.heap.objs.size+1,[s1.heap.objs.size+1,s1.heap.objs.size],_,_,H1,U,I1.kept (t':=s1.toks) k,tO _ _ l (Nat.succ_ne_self _),⟨⟨_,a1⟩,a2⟩,λb hb=>?_,q⟩;simp only[qu,qQ,or_false]at hb;rcases hb with rfl|rfl
 ·exact I1.fpOk (Nat.le_succ _) (I1.hok.fresh (Nat.le_succ _))
 ·exact I1.fpOk (qe _) (I1.hok.fresh (qe _))
end
end L2
namespace L2
end L2
namespace Tr
open PySem PySem.Spec PyProof.Rows L2
theorem at0{α:Type}{v:α}{r:List α}:atI (v::r) (0:Int)=some v:=bS (j:=0) U
end Tr
namespace L2
open PySem PySem.Spec PyProof.Rows
end L2
namespace Tr
open PySem PySem.Spec PyProof.Rows L2
theorem lC{x y:V}{A B:Prop}(h:x≠y)(a:A):if(!decide (x=y))=true then A else B:=by rw[Q3 h];exact a
end Tr
namespace L2
open PySem PySem.Spec PyProof.Rows
structure me(K:W.Frag)(C:Addr)(m:Str)(f:Addr):Prop where
 ga:PySem.W.specialIn K (.ref C) "__getattribute__"=some (some (.builtin "type.__getattribute__"))
 rd:PySem.W.readsIn K C (.type "type")=true
 fc:PySem.W.findCls K (.ref C) (.type "type") m=some (.val (.ref f))
 kp:PySem.W.keepIn K (.ref f)=true
section
variable {X:Cx}{CX:CXT}{k:Nat}{f C:Addr}{fd:FuncData}{ps:List Str}{sp:Sp}{E:XK}{x m:Str}{p pos apos:Pos}{e o:Expr}{es:List Expr}{t:TA}{te ta:TE}{ds:List Value}{dvs:List V}
theorem iq{pl:Sem Bool}(hg:Gl X x)(hmg:X.mg x=some (.ref C))(c:me X.K C m f)(F:aA X.prog X.w X.K X.mg X.base CX k f fd ps sp)(hr:bA k X.A)(hb:aC X.K fd ps ds)(hd:ar dvs ds)(hx:eQ CX X E)(ha:PA X (e::es) t)(hdb:(x == ("__debug__":Str))=false:=by decide)
 (hst:starEach (e::es) X.env=(false,eval e X.env)::starEach es X.env:=by rfl) (hpl:(backTo pos (starEach es X.env)).any (·.1)=false:=by rfl)
 (ht:eval (.Call (.Attribute (.Name x p) m apos) (e::es) [] pos) X.env=(do
  let ov <- eval (.Name x p) X.env
  standAt apos.atName
  let (f,first) <- holding [ov] (getMethod ov m pl)
  callWith pos f first (backTo pos (starEach (e::es) X.env)) (backToKw pos (keywordEach [] X.env))):=by rfl):
 PE X (.Call (.Attribute (.Name x p) m apos) (e::es) [] pos) (j9 sp dvs E t):=by
 intro pins s σ H Q I h;refine PySem.W.methodCall_KW (pl:=pl) (iC I hg hmg ?_ hdb) ht;refine PySem.W.method_cls I.kIn c.ga (PySem.W.cls_value I.kIn c.rd c.fc U ?_);have I2:Inv X pins σ H { s with toks:=s.toks+1 }:=I.tok _;refine PySem.W.callWith_K (first:=[]) (h₀:=X.base) I.ok.mod.kin c.kp (thn (ha pos pins _ σ H _ I2 h) λus s2 ⟨vs,H2,I3,r,q2⟩=>⟨I3.kIn,?_⟩) hst hpl;exact gx (us:=us) (vs:=vs) F hr hb hd hx I3 r q2
def ma(X:Cx)(C:Addr)(m:Str)(sp:Sp):Prop:=∃(k:Nat)(f:Addr)(fd:FuncData)(ps:List Str),Cls X.K C/\aP X.K C m f/\aA X.prog X.w X.K X.mg X.base CX0 k f fd ps sp/\bA k X.A/\aC X.K fd ps []
def tY(X:Cx)(m:Str)(ta:TE)(t:TA):TE:=λσ H Q=>ta σ H λx H1=>∃a C dx fs sp,x=.ref a/\H1 a=some (.ins C dx fs)/\fs.lookup m=none/\ma X C m sp/\t σ H1 λvs H2=>sp (x::vs) H2 Q E0
theorem pG{pl:Sem Bool}(he:PE X o ta)(ha:PA X (e::es) t)
 (hst:starEach (e::es) X.env=(false,eval e X.env)::starEach es X.env:=by rfl) (hpl:(backTo pos (starEach es X.env)).any (·.1)=false:=by rfl)
 (ht:eval (.Call (.Attribute o m apos) (e::es) [] pos) X.env=(do
  let ov <- eval o X.env
  standAt apos.atName
  let (f,first) <- holding [ov] (getMethod ov m pl)
  callWith pos f first (backTo pos (starEach (e::es) X.env)) (backToKw pos (keywordEach [] X.env))):=by rfl):
 PE X (.Call (.Attribute o m apos) (e::es) [] pos) (tY X m ta t):=by
 intro pins s σ H Q I h;refine PySem.W.methodCall_KW (pl:=pl) (thn (he pins s σ H _ I h) λu s1 ⟨x,H1,I1,rx,a,C,dx,fs,sp,ex,ea,l,⟨k,f,fd,ps,c,hm,F,hr,hb⟩,q⟩=>?_) ht;subst ex;obtain rfl:u=Value.ref a:=rx;refine iM I1 ea c hm l ?_;refine PySem.W.callWith_K (first:=[.ref a]) (h₀:=X.base) I.ok.mod.kin hm.kp (thn (ha pos pins s1 σ H1 _ I1 q) λus s2 ⟨vs,H2,I2,r,q2⟩=>⟨I2.kIn,?_⟩) hst hpl;exact gx (us:=.ref a::us) (vs:=.ref a::vs) (dvs:=[]) F hr hb .nil ay I2 (.cons U r) (by rw[qx];exact q2)
end
theorem cg{f:Str}{v:V}:∀{fs:List (Str×V)}(ks:List Str),fs.map (·.1)=ks->(ks.all λg=>!decide (g=f))=true->bu f v fs=fs++[(f,v)]
 |[],_,_,_=>rfl
 |(g,x)::r,ks,e,h=>by
  subst e;simp only[qR,List.all_cons,Bool.and_eq_true,Bool.not_eq_true',decide_eq_false_iff_not]at h;rw[bu,qZ h.1,cg (r.map (·.1)) U h.2]
  rfl
theorem cO{H:Hp}{p:Addr}{o o':HO}:upd (upd H p o) p o'=upd H p o':=by
 funext b
 by_cases e:b=p
 ·subst e;rw[af,af]
 ·rw[aj e,aj e,aj e]
theorem d0{k:Str}{v:V}{r:List (Str×V)}:List.lookup k ((k,v)::r)=some v:=by simp[List.lookup]
theorem aW{k g:Str}{v:V}{r:List (Str×V)}(h:(k == g)=false):List.lookup k ((g,v)::r)=List.lookup k r:=by simp[List.lookup,h]
theorem eN{α:Type}{xs:List α}{i:Int}{v:α}(h:0<=i)(e:xs[i.toNat]?=some v):atI xs i=some v:=by
 have:=bS (xs:=xs) (j:=i.toNat) (v:=v) e
 rwa [Int.toNat_of_nonneg h]at this
inductive eZ(i:Nat)(σ:St)(H:Hp)(Q:VK):Prop
 |mk (v:V) (h:σ[i]?=some (some v)) (q:Q v H):eZ i σ H Q
theorem vN(i:Nat):eZ i=mF i:=by
 funext σ H Q
 exact propext ⟨λ⟨v,h,q⟩=>⟨v,h,q⟩,λ⟨v,h,q⟩=>⟨v,h,q⟩⟩
inductive qB(x:V)(H:Hp)(Q:Bool->Hp->Prop):Prop
 |mk (k:Bool) (h:x=.bl k) (q:Q k H):qB x H Q
theorem pd(Q:Bool->Hp->Prop):(λx H=>qB x H Q)=λx H=>∃k,x=V.bl k/\Q k H:=by
 funext x H
 exact propext ⟨λ⟨v,h,q⟩=>⟨v,h,q⟩,λ⟨v,h,q⟩=>⟨v,h,q⟩⟩
def f6(t:TE):TT:=λσ H Q=>t σ H λx H'=>qB x H' Q
theorem vQ(t:TE):f6 t=j6 t:=by
 funext σ H Q
 unfold f6 j6;rw[pd]
theorem vP(t:TE):f6 t=tB t:=by
 funext σ H Q
 unfold f6 tB;rw[pd]
inductive pk(x y:V)(H:Hp)(Q:VK):Prop
 |mk (i j:Int) (h1:x=.int i) (h2:y=.int j) (q:Q (.int (i+j)) H):pk x y H Q
inductive oX(x y:V)(H:Hp)(Q:VK):Prop
 |mk (i j:Int) (h1:x=.int i) (h2:y=.int j) (q:Q (.int (i-j)) H):oX x y H Q
inductive kD(x y:V)(H:Hp)(Q:VK):Prop
 |mk (i j:Int) (h1:x=.int i) (h2:y=.int j) (c:0<j/\j<1073741824) (q:Q (.int (i / j)) H):kD x y H Q
inductive kq(x y:V)(H:Hp)(Q:VK):Prop
 |mk (i j:Int) (h1:x=.int i) (h2:y=.int j) (c:0<j) (q:Q (.int (i % j)) H):kq x y H Q
inductive qLt(x y:V)(H:Hp)(Q:VK):Prop
 |mk (i j:Int) (h1:x=.int i) (h2:y=.int j) (q:Q (.bl (decide (i<j))) H):qLt x y H Q
inductive qLe(x y:V)(H:Hp)(Q:VK):Prop
 |mk (i j:Int) (h1:x=.int i) (h2:y=.int j) (q:Q (.bl (decide (i<=j))) H):qLe x y H Q
inductive qGt(x y:V)(H:Hp)(Q:VK):Prop
 |mk (i j:Int) (h1:x=.int i) (h2:y=.int j) (q:Q (.bl (decide (j<i))) H):qGt x y H Q
inductive qGe(x y:V)(H:Hp)(Q:VK):Prop
 |mk (i j:Int) (h1:x=.int i) (h2:y=.int j) (q:Q (.bl (decide (j<=i))) H):qGe x y H Q
inductive qEq(x y:V)(H:Hp)(Q:VK):Prop
 |mk (c:hV x y=true) (q:Q (.bl (decide (x=y))) H):qEq x y H Q
inductive qNe(x y:V)(H:Hp)(Q:VK):Prop
 |mk (c:hV x y=true) (q:Q (.bl (!decide (x=y))) H):qNe x y H Q
inductive kA(x y:V)(H:Hp)(Q:VK):Prop
 |mk (c:y=.non) (q:Q (.bl (decide (x=.non))) H):kA x y H Q
inductive oY(x y:V)(H:Hp)(Q:VK):Prop
 |mk (c:y=.non) (q:Q (.bl (!decide (x=.non))) H):oY x y H Q
inductive kz(K:W.Frag)(x y:V)(H:Hp)(Q:VK):Prop
 |mk (p:Addr) (xs:List V) (i:Int) (v:V) (h1:x=.ref p) (h2:y=.int i) (h3:SqL K H p xs) (h4:atI xs i=some v) (q:Q v H):kz K x y H Q
inductive ku(K:W.Frag)(x y:V)(H:Hp)(Q:VK):Prop
 |mk (p:Addr) (xs:List V) (i:Int) (v:V) (h1:x=.ref p) (h2:y=.int i) (h3:SqT K H p xs) (h4:atI xs i=some v) (q:Q v H):ku K x y H Q
inductive kr(K:W.Frag)(xs:List V)(H:Hp)(Q:VK):Prop
 |mk (p:Addr) (ys:List V) (h1:xs=[.ref p]) (h2:SqL K H p ys\/SqT K H p ys) (q:Q (.int ys.length) H):kr K xs H Q
inductive oZ(K:W.Frag)(xs:List V)(H:Hp)(Q:VK):Prop
 |mk (p:Addr) (ys:List V) (h1:xs=[.ref p]) (h2:SqL K H p ys\/SqT K H p ys) (q:∀l,H l=none->Q (.ref l) (upd H l (.lst ys))):oZ K xs H Q
inductive pj(x:V)(vs:List V)(H:Hp)(Q:VK):Prop
 |mk (l:Addr) (xs:List V) (y:V) (h1:x=.ref l) (h2:vs=[y]) (h3:H l=some (.lst xs)) (h4:xs.length<sizeLine) (q:Q .non (upd H l (.lst (xs++[y])))):pj x vs H Q
inductive p5(K:W.Frag)(x y:V)(H:Hp)(Q:VK):Prop
 |mk (l b:Addr) (xs zs:List V) (h1:x=.ref l) (h2:y=.ref b) (h3:SqL K H l xs) (h4:SqL K H b zs) (h5:xs.length+zs.length<=sizeLine) (q:∀p,H p=none->Q (.ref p) (upd H p (.lst (xs++zs)))):p5 K x y H Q
inductive gz(A B:Prop):Prop
 |mk (h:A) (q:B):gz A B
theorem kE(A B:Prop):gz A B=(A/\B):=propext ⟨λ⟨a,b⟩=>⟨a,b⟩,λ⟨a,b⟩=>⟨a,b⟩⟩
section
variable {X:Cx}
theorem pq(i:Nat){x:Str}{pos:Pos}(hN:X.N[i]?=some x:=by rfl)(hv:Vis X.env.scope x:=by first|exact Or.inl U|exact Or.inr Oi|exact Or.inr (Or.inr U))(hd:(x == ("__debug__":Str))=false:=by decide)
 (hcd:(x == ("__classdict__":Str))=false:=by decide):PE X (.Name x pos) (eZ i):=by
 rw[vN];exact wg hN hv hd hcd
theorem aE{op:CmpOp}{r:R2}{a b:Expr}{ta tb:TE}{pos:Pos}(ho:OpR X (compareOp op) r)(ha:PE X a ta)(hb:PE X b tb)(hm:behindInMarks op b=false):PT X (.Compare a [op] [b] pos) (f6 (tOp r ta tb)):=by
 rw[vQ];exact vX ho ha hb hm
theorem df{e:Expr}{t:TE}(h:PE X e t)(he:∀whole,isTrue e X.env whole=(do let v <- whole;standAt e.pos;holding [v] (truthy v)):=by intro _;rfl):PT X e (f6 t):=by
 rw[vP];exact vW h he
theorem OpR.as{f:Value->Value->Sem Value}{r r':R2}(h:OpR X f r)(e:∀x y H Q,r' x y H Q->r x y H Q):OpR X f r':=λpins s σ H x y v u Q I rx ry q=>h pins s σ H x y v u Q I rx ry (e _ _ _ _ q)
theorem cs.as{f:Value}{r r':List V->Hp->VK->Prop}(h:cs X f r)(e:∀x H Q,r' x H Q->r x H Q):cs X f r':=λpins s σ H x u Q I rx q=>h pins s σ H x u Q I rx (e _ _ _ q)
theorem IxR.as{r r':R2}(h:IxR X r)(e:∀x y H Q,r' x y H Q->r x y H Q):IxR X r':=λa b pins s σ H x y v u Q I rx ry q=>h a b pins s σ H x y v u Q I rx ry (e _ _ _ _ q)
theorem bC:OpR X (binaryOp .Add) pk:=y8.as λ_ _ _ _ ⟨i,j,a,b,q⟩=>⟨i,j,a,b,q⟩
theorem fK:OpR X (binaryOp .Sub) oX:=xT.as λ_ _ _ _ ⟨i,j,a,b,q⟩=>⟨i,j,a,b,q⟩
theorem bL:OpR X (binaryOp .FloorDiv) kD:=y6.as λ_ _ _ _ ⟨i,j,a,b,c,q⟩=>⟨i,j,a,b,c,q⟩
theorem bb:OpR X (binaryOp .Mod) kq:=xV.as λ_ _ _ _ ⟨i,j,a,b,c,q⟩=>⟨i,j,a,b,c,q⟩
theorem fN:OpR X (compareOp .Lt) qLt:=xW.as λ_ _ _ _ ⟨i,j,a,b,q⟩=>⟨i,j,a,b,q⟩
theorem oW:OpR X (compareOp .LtE) qLe:=xX.as λ_ _ _ _ ⟨i,j,a,b,q⟩=>⟨i,j,a,b,q⟩
theorem fO:OpR X (compareOp .Gt) qGt:=xY.as λ_ _ _ _ ⟨i,j,a,b,q⟩=>⟨i,j,a,b,q⟩
theorem vK:OpR X (compareOp .GtE) qGe:=xZ.as λ_ _ _ _ ⟨i,j,a,b,q⟩=>⟨i,j,a,b,q⟩
theorem bd:OpR X (compareOp .Eq) qEq:=wQ.as λ_ _ _ _ ⟨c,q⟩=>⟨c,q⟩
theorem ii:OpR X (compareOp .NotEq) qNe:=wG.as λ_ _ _ _ ⟨c,q⟩=>⟨c,q⟩
theorem gy:OpR X (compareOp .Is) kA:=wL.as λ_ _ _ _ ⟨c,q⟩=>⟨c,q⟩
theorem ki:OpR X (compareOp .IsNot) oY:=wF.as λ_ _ _ _ ⟨c,q⟩=>⟨c,q⟩
theorem kj:OpR X (binaryOp .Add) (p5 X.K):=wR.as λ_ _ _ _ ⟨l,b,xs,zs,h1,h2,h3,h4,h5,q⟩=>⟨l,b,xs,zs,h1,h2,h3,h4,h5,q⟩
theorem aY:IxR X (kz X.K):=yW.as λ_ _ _ _ ⟨p,xs,i,v,a,b,c,d,q⟩=>⟨p,xs,i,v,a,b,c,d,q⟩
theorem aH:IxR X (ku X.K):=yU.as λ_ _ _ _ ⟨p,xs,i,v,a,b,c,d,q⟩=>⟨p,xs,i,v,a,b,c,d,q⟩
theorem oV{K:W.Frag}(e:X.K=K):IxR X (kz K):=by
 subst e;exact aY
theorem oU{K:W.Frag}(e:X.K=K):IxR X (ku K):=by
 subst e;exact aH
theorem bX:cs X (.builtin "len") (kr X.K):=A2.as λ_ _ _ ⟨p,ys,a,b,q⟩=>⟨p,ys,a,b,q⟩
theorem vL:cs X (.type "list") (oZ X.K):=A1.as λ_ _ _ ⟨p,ys,a,b,q⟩=>⟨p,ys,a,b,q⟩
theorem dE:MtM X "list.append" pj:=λpins s σ H x xs v us Q I rx rv ⟨l,ys,y,h1,h2,h3,h4,q⟩=>yf pins s σ H x xs v us Q I rx rv ⟨l,ys,y,h1,h2,h3,h4,q⟩
inductive kB(K:W.Frag)(f:Str)(x:V)(H:Hp)(Q:VK):Prop
 |mk (a C dx:Addr) (fs:List (Str×V)) (v:V) (h1:x=.ref a) (h2:H a=some (.ins C dx fs)) (h3:Cls K C) (h4:bc K C f) (h5:fs.lookup f=some v) (q:Q v H):kB K f x H Q
def kC(K:W.Frag)(ta:TE)(f:Str):TE:=λσ H Q=>ta σ H λx H1=>kB K f x H1 Q
theorem vS(K:W.Frag)(ta:TE)(f:Str):kC K ta f=hJ K ta f:=by
 funext σ H Q
 unfold kC hJ
 have:(λx H1=>kB K f x H1 Q)=λx H1=>∃a C dx fs v,x=V.ref a/\H1 a=some (.ins C dx fs)/\Cls K C/\bc K C f/\fs.lookup f=some v/\Q v H1:=by
  funext x H1
  exact propext ⟨λ⟨a,C,dx,fs,v,h1,h2,h3,h4,h5,q⟩=>⟨a,C,dx,fs,v,h1,h2,h3,h4,h5,q⟩,λ⟨a,C,dx,fs,v,h1,h2,h3,h4,h5,q⟩=>⟨a,C,dx,fs,v,h1,h2,h3,h4,h5,q⟩⟩
 rw[this]
theorem aF{e:Expr}{ta:TE}{f:Str}{pos:Pos}(he:PE X e ta)(hb:attributeBase e f X.env (eval e X.env)=eval e X.env):PE X (.Attribute e f pos) (kC X.K ta f):=by
 rw[vS];exact pH he hb
def kn(t:TA):TE:=λσ H Q=>t σ H λxs H1=>gz (xs.length<=sizeLine) (∀p,H1 p=none->Q (.ref p) (upd H1 p (.tup xs)))
def ij(t:TA):TE:=λσ H Q=>t σ H λxs H1=>gz (xs.length<=sizeLine) (∀p,H1 p=none->Q (.ref p) (upd H1 p (.lst xs)))
theorem vO(t:TA):kn t=j5 t:=by
 funext σ H Q
 unfold kn j5;simp only[kE]
theorem vR(t:TA):ij t=j8 t:=by
 funext σ H Q
 unfold ij j8;simp only[kE]
theorem bw{x1}{es:List Expr}{t:TA}{pos:Pos}(h:PA X es t):PE X (.Tuple es x1 pos) (kn t):=by
 rw[vO];exact wj h
theorem bz{es:List Expr}{t:TA}{pos:Pos}(h:PA X es t):PE X (.List es pos) (ij t):=by
 rw[vR];exact wk h
inductive ko(vs:List V)(H:Hp)(R:It->Hp->Prop):Prop
 |mk (j:Int) (h:vs=[.int j]) (h1:-(2 ^ 62)<=j) (h2:j<2 ^ 62) (q:R (Itr 0 j.toNat) H):ko vs H R
def lh(ta:TA):TI:=λσ H R=>ta σ H λvs H1=>ko vs H1 R
theorem yT(ta:TA):lh ta=lD ta:=by
 funext σ H R
 unfold lh lD
 have:(λvs H1=>ko vs H1 R)=λvs H1=>∃j:Int,vs=[V.int j]/\-(2 ^ 62)<=j/\j<2 ^ 62/\R (Itr 0 j.toNat) H1:=by
  funext vs H1
  exact propext ⟨λ⟨j,h,h1,h2,q⟩=>⟨j,h,h1,h2,q⟩,λ⟨j,h,h1,h2,q⟩=>⟨j,h,h1,h2,q⟩⟩
 rw[this]
theorem dh{tg a:Expr}{ta:TA}{p pos:Pos}(hg:Gl X "range")(hm:X.mg "range"=none)(ha:PA X [a] ta)(hs:starEach [a] X.env=[(false,eval a X.env)]:=by rfl):PI X tg (.Call (.Name "range" p) [a] [] pos) (lh ta):=by
 rw[yT];exact wf hg hm ha hs
def qBM(K:W.Frag)(T:String)(r:V->List V->Hp->VK->Prop)(to:TE)(t:TA):TE:=λσ H Q=>to σ H λx H1=>gz (tyV K T x H1) (t σ H1 λxs H2=>r x xs H2 Q)
theorem vT(K:W.Frag)(T:String)(r:V->List V->Hp->VK->Prop)(to:TE)(t:TA):qBM K T r to t=tBM K T r to t:=by
 funext σ H Q
 unfold qBM tBM;simp only[kE]
theorem cZ{o e:Expr}{es:List Expr}{to:TE}{t:TA}{name:Str}{apos cpos:Pos}{T id:String}{r:V->List V->Hp->VK->Prop}(pa:PlainAttrs T)(slot:Slot T name id)(hty:typeOf (.builtin id)=pure (.type "method_descriptor"))(hm:MtR X id r)(ho:PE X o to)(ha:PA X (e::es) t)
 (hbase:attributeBase o name X.env (eval o X.env)=eval o X.env:=by rfl)
 (hfew:((backTo cpos (starEach (e::es) X.env)).all (λx=>!x.1) && (backToKw cpos (keywordEach [] X.env)).all (λx=>x.1.isSome)
  && decide ((e::es).length+([]:List Keyword).length+(if([]:List Keyword).isEmpty then 0 else 1)<30))=true:=by rfl)
 (hline:(apos.endLine == cpos.line)=true:=by rfl) (hs:starEach (e::es) X.env=(false,eval e X.env)::starEach es X.env:=by rfl) (hplain:(backTo cpos (starEach es X.env)).any (·.1)=false:=by rfl):
 PE X (.Call (.Attribute o name apos) (e::es) [] cpos) (qBM X.K T r to t):=by
 rw[vT];exact wz pa slot hty hm ho ha hbase hfew hline hs hplain
end
abbrev cN(h:Heap)(z TI TO t:Addr)(f:Bool):Prop:=h.get? z=some { cls:=.type "zip",dict:=none,data:=.fields #[rawInt t,.bool f,.bool false,.ref TI,.ref TO],slots:=#[] }
section
variable {prog:Program}{w:World}{A:Around}{E:Yd}{s:Shared}
theorem mq{z TI TO t:Addr}{f:Bool}{ot:Obj}{Q:Bool->Shared->Prop}(hz:cN s.heap z TI TO t f)(ht:s.heap.get? t=some ot)
 (q:∀g,cN g z TI TO t true->Heap.SameBut z s.heap g->Q false { s with heap:=g }):wpAny (model prog w) A (Builtin.SmallTypes.ownedTupleIsFree (.ref z)) Q E s:=by
 unfold Builtin.SmallTypes.ownedTupleIsFree;refine q5 (wpAny_field hz U (x:=rawInt t) U ?_);show wpAny _ _ (loadIfAlive ((t:Int).toNat) >>= _) _ _ _;rw[qX];refine q5 (PySem.W.kdx_alive ht ?_);simp only[Option.isNone_some,Qj,if_false];refine q5 (wpAny_field hz U (x:=.bool f) U ?_)
 cases f with
 |true=>
  rw[qZ (show ¬ ((Value.bool true != Value.bool true)=true)from qi)];exact qd (q _ hz (Heap.SameBut.refl _ _))
 |false=>
  rw[Q0 (show(Value.bool false != Value.bool true)=true from rfl)];refine q5 (wpAny_setField_rec hz (by simp) λh₃ he₃ hs₃=>?_);exact qd (q _ he₃ hs₃)
theorem t9{z TI TO i1 i2 l1 l2 t:Addr}{f b1 b2:Bool}{ot:Obj}{k1 k2:Nat}{xs ys:Array Value}{x y:Value}{Q:Yd}(D:ZAp z TI TO i1 i2 l1 l2)
 (hz:cN s.heap z TI TO t f) (ht:s.heap.get? t=some ot) (hI:IsPair s.heap TI (.ref i1) (.ref i2)) (t1:SIt s.heap b1 i1 l1 k1) (t2:SIt s.heap b2 i2 l2 k2) (q1:SSq s.heap b1 l1 xs) (q2:SSq s.heap b2 l2 ys) (ex:xs[k1]?=some x) (ey:ys[k2]?=some y)
 (q:∀g,cN g z TI TO t true->SIt g b1 i1 l1 (k1+1)->SIt g b2 i2 l2 (k2+1)->IsPair g s.heap.objs.size x y->(∀c o,c≠z->c≠i1->c≠i2->s.heap.get? c=some o->g.get? c=some o)->Q (.ref s.heap.objs.size) { s with heap:=g }):
 wpAny (model prog w) A (Builtin.«zip.__next__» ⟨[.ref z],[]⟩) (λfin s'=>∃v,fin=.done (.ret v)/\Q v s') E s:=by
 obtain⟨⟨nIz,nOz,n1z,n2z,nIO,nI1,nI2,nO1,nO2,n12⟩,lne⟩:=D;obtain⟨m1z,m1O,m11,m12,m1I⟩:=lne l1 (.inl U);obtain⟨m2z,m2O,m21,m22,m2I⟩:=lne l2 (.inr U);show wpAny _ _ (field (.ref z) 2 >>= _) _ _ _;refine q5 (wpAny_field hz U (x:=.bool false) U ?_);show wpAny _ _ (field (.ref z) 3 >>= _) _ _ _;refine q5 (wpAny_field hz U (x:=.ref TI) U (q5 (Qv hI U ?_)));show wpAny _ _ (Builtin.SmallTypes.ownedTupleIsFree (.ref z) >>= _) _ _ _;refine q5 (mq hz ht λg1 z1 s1=>?_);simp only[Qj,if_false];simp only[List.forIn_toArray,List.forIn_cons,List.forIn_nil];refine q5 (q5 (q5 (Qu ?_)));show wpAny _ _ (Builtin.SmallTypes.nextOf (.ref i1) >>= _) _ _ _;refine q5 (fU (b:=b1) (t1.keep λo e=>s1.extBut _ _ n1z e) (q1.keep λo e=>s1.extBut _ _ m1z e) ex λg2 u1 s2=>qd ?_);refine qd ?_;refine q5 (q5 (Qu ?_));show wpAny _ _ (Builtin.SmallTypes.nextOf (.ref i2) >>= _) _ _ _;refine q5 (fU (b:=b2) (t2.keep λo e=>s2.extBut _ _ n12.symm (s1.extBut _ _ n2z e)) (q2.keep λo e=>s2.extBut _ _ m21 (s1.extBut _ _ m2z e)) ey λg4 u2 s4=>qd ?_);refine qd (qd ?_);have sz:g4.objs.size=s.heap.objs.size:=by rw[s4.1,s2.1,s1.1]
 refine q5 (wpAny_newTuple (hsz:=(by show 2<=sizeLine;decide)) ?_);refine qd ⟨_,U,?_⟩;show Q (.ref g4.objs.size) _;have tp:IsPair (g4.push { cls:=.type "tuple",data:=.seq #[x,y] }) g4.objs.size x y:=qp _ U;rw[sz]at tp ⊢;have z4:cN g4 z TI TO t true:=s4.extBut _ _ n2z.symm (s2.extBut _ _ n1z.symm z1);exact q _ (qa _ z4) (u1.keep λo e=>qa _ (s4.extBut _ _ n12 e)) (u2.keep λo e=>qa _ e) tp λc o h1 h2 h3 e=>qa _ (s4.extBut _ _ h3 (s2.extBut _ _ h2 (s1.extBut _ _ h1 e)))
theorem tj{z TI TO i1 i2 l1 l2 t:Addr}{f b1 b2:Bool}{ot:Obj}{k1 k2:Nat}{xs ys:Array Value}{Q:Fin->Shared->Prop}(hh:A.handled=none)(D:ZAp z TI TO i1 i2 l1 l2)
 (hz:cN s.heap z TI TO t f) (ht:s.heap.get? t=some ot) (hI:IsPair s.heap TI (.ref i1) (.ref i2)) (t1:SIt s.heap b1 i1 l1 k1) (t2:SIt s.heap b2 i2 l2 k2) (q1:SSq s.heap b1 l1 xs) (q2:SSq s.heap b2 l2 ys) (hend:xs[k1]?=none\/ys[k2]?=none)
 (q:∀g e,(∀c o,c≠z->c≠i1->c≠i2->s.heap.get? c=some o->g.get? c=some o)->(∃o,g.get? e=some o/\o.cls=.type "StopIteration")->E (.ref e) { s with heap:=g }):
 wpAny (model prog w) A (Builtin.«zip.__next__» ⟨[.ref z],[]⟩) Q E s:=by
 obtain⟨⟨nIz,nOz,n1z,n2z,nIO,nI1,nI2,nO1,nO2,n12⟩,lne⟩:=D;obtain⟨m1z,m1O,m11,m12,m1I⟩:=lne l1 (.inl U);obtain⟨m2z,m2O,m21,m22,m2I⟩:=lne l2 (.inr U);show wpAny _ _ (field (.ref z) 2 >>= _) _ _ _;refine q5 (wpAny_field hz U (x:=.bool false) U ?_);show wpAny _ _ (field (.ref z) 3 >>= _) _ _ _;refine q5 (wpAny_field hz U (x:=.ref TI) U (q5 (Qv hI U ?_)));show wpAny _ _ (Builtin.SmallTypes.ownedTupleIsFree (.ref z) >>= _) _ _ _;refine q5 (mq hz ht λg1 z1 s1=>?_);simp only[Qj,if_false];simp only[List.forIn_toArray,List.forIn_cons,List.forIn_nil];refine q5 (q5 (q5 (Qu ?_)));show wpAny _ _ (Builtin.SmallTypes.nextOf (.ref i1) >>= _) _ _ _
 cases ex:xs[k1]? with
 |none=>
  refine q5 (iz (b:=b1) hh (t1.keep λo e=>s1.extBut _ _ n1z e) (q1.keep λo e=>s1.extBut _ _ m1z e) ex λg2 v s2 hv=>?_);exact q _ _ (λc o h1 h2 _ e=>s2 _ _ h2 (s1.extBut _ _ h1 e)) hv
 |some x=>
  have ey:ys[k2]?=none:=by rcases hend with h|h;rw[ex]at h;cases h;exact h
  refine q5 (fU (b:=b1) (t1.keep λo e=>s1.extBut _ _ n1z e) (q1.keep λo e=>s1.extBut _ _ m1z e) ex λg2 u1 s2=>qd ?_);refine qd ?_;refine q5 (q5 (Qu ?_));show wpAny _ _ (Builtin.SmallTypes.nextOf (.ref i2) >>= _) _ _ _;refine q5 (iz (b:=b2) hh (t2.keep λo e=>s2.extBut _ _ n12.symm (s1.extBut _ _ n2z e)) (q2.keep λo e=>s2.extBut _ _ m21 (s1.extBut _ _ m2z e)) ey λg4 v s4 hv=>?_);exact q _ _ (λc o h1 h2 h3 e=>s4 _ _ h3 (s2.extBut _ _ h2 (s1.extBut _ _ h1 e))) hv
theorem pK{h:Heap}{z TI TO t t':Addr}{f f':Bool}(a:cN h z TI TO t f)(b:cN h z TI TO t' f'):t=t':=by
 have e:=a.symm.trans b;simp only[Option.some.injEq,Obj.mk.injEq,Data.fields.injEq,true_and,and_true]at e;have e2:=congrArg Array.toList e;simp only[List.cons.injEq]at e2;have e3:=e2.1;unfold rawInt at e3;injection e3 with e3 _;exact Int.ofNat.inj e3
inductive ZSt(h:Heap)(z TI TO i1 i2:Addr):Nat->Prop
 |first {a b:Value}:IsZip h z TI TO .none->IsPair h TO a b->ZSt h z TI TO i1 i2 0
 |more {t:Addr}{f:Bool}{ot:Obj}{k:Nat}:cN h z TI TO t f->h.get? t=some ot->t≠z/\t≠i1/\t≠i2->ZSt h z TI TO i1 i2 (k+1)
theorem t6{z TI TO i1 i2 l1 l2:Addr}{b1 b2:Bool}{k:Nat}{xs ys:Array Value}{x y:Value}{Q:Option Value->Shared->Prop}(D:ZAp z TI TO i1 i2 l1 l2)
 (hz:ZSt s.heap z TI TO i1 i2 k) (hI:IsPair s.heap TI (.ref i1) (.ref i2)) (t1:SIt s.heap b1 i1 l1 k) (t2:SIt s.heap b2 i2 l2 k) (q1:SSq s.heap b1 l1 xs) (q2:SSq s.heap b2 l2 ys) (ex:xs[k]?=some x) (ey:ys[k]?=some y)
 (q:∀g,ZSt g z TI TO i1 i2 (k+1)->SIt g b1 i1 l1 (k+1)->SIt g b2 i2 l2 (k+1)->IsPair g s.heap.objs.size x y->(∀c o,c≠z->c≠TO->c≠i1->c≠i2->s.heap.get? c=some o->g.get? c=some o)->(∀t f,cN g z TI TO t f->t=s.heap.objs.size\/∃f',cN s.heap z TI TO t f')->Q (some (.ref s.heap.objs.size)) { s with heap:=g }):
 wpAny (model prog w) A (pyNext (.ref z)) Q E s:=by
 cases hz with
 |first hz hO=>
  refine mh D hz hI hO t1 t2 q1 q2 ex ey λg a1 a2 a3 a4 a5 a6=>q g (.more a1 a5 ?_) a3 a4 a5 a6 λt f h=>.inl (pK h a1);obtain⟨o1,e1,_⟩:=t1.obj;obtain⟨o2,e2,_⟩:=t2.obj;exact⟨Nat.ne_of_gt (qq hz),Nat.ne_of_gt (qq e1),Nat.ne_of_gt (qq e2)⟩
 |@more t0 f0 ot0 k0 hz ht nt=>
  have ty:s.TypeIs (.ref z) "zip":=⟨_,hz,U⟩;unfold pyNext;refine q5 (wpAny_attempt (wpAny_callSpecial?_slot (name:=Str.ofString "__next__") ty PySem.F.slot_zip_next (Qi PySem.F.slot_zip_next ty PySem.F.entry_zip_next (t9 D hz ht hI t1 t2 q1 q2 ex ey λg a1 a3 a4 a5 a6=>qd (q g ?_ a3 a4 a5 (λc o h1 _ h3 h4 e=>a6 c o h1 h3 h4 e) λt' f' h=>.inr ⟨f0,by rw[pK h a1];exact hz⟩)) (PySem.F.args_zip_next_1 _))));exact .more a1 (a6 _ _ nt.1 nt.2.1 nt.2.2 ht) nt
theorem t7{z TI TO i1 i2 l1 l2:Addr}{b1 b2:Bool}{k:Nat}{xs ys:Array Value}{Q:Option Value->Shared->Prop}(hh:A.handled=none)(D:ZAp z TI TO i1 i2 l1 l2)
 (hz:ZSt s.heap z TI TO i1 i2 k) (hI:IsPair s.heap TI (.ref i1) (.ref i2)) (t1:SIt s.heap b1 i1 l1 k) (t2:SIt s.heap b2 i2 l2 k) (q1:SSq s.heap b1 l1 xs) (q2:SSq s.heap b2 l2 ys) (hend:xs[k]?=none\/ys[k]?=none)
 (q:∀g,(∀c o,c≠z->c≠TO->c≠i1->c≠i2->s.heap.get? c=some o->g.get? c=some o)->Q none { s with heap:=g }):wpAny (model prog w) A (pyNext (.ref z)) Q E s:=by
 cases hz with
 |first hz hO=>exact mj hh D hz hI hO t1 t2 q1 q2 hend q
 |more hz ht nt=>
  have ty:s.TypeIs (.ref z) "zip":=⟨_,hz,U⟩;unfold pyNext;refine q5 (wpAny_attempt (wpAny_callSpecial?_slot (name:=Str.ofString "__next__") ty PySem.F.slot_zip_next (Qi PySem.F.slot_zip_next ty PySem.F.entry_zip_next (tj hh D hz ht hI t1 t2 q1 q2 hend λg e hk he=>?_) (PySem.F.args_zip_next_1 _))));obtain⟨o,ho,hc⟩:=he;exact q5 (wpAny_isInstance (T:="StopIteration") (b:=true) ⟨o,ho,hc⟩ isSubtype_stop (qd (q _ λc o h1 _ h3 h4 e=>hk c o h1 h3 h4 e)))
theorem ZSt.obj{h:Heap}{z TI TO i1 i2:Addr}{k:Nat}(hz:ZSt h z TI TO i1 i2 k):∃o,h.get? z=some o/\o.cls=.type "zip":=by
 cases hz with
 |first h _=>exact⟨_,h,U⟩
 |more h _ _=>exact⟨_,h,U⟩
theorem ZSt.keep{h h':Heap}{z TI TO i1 i2 S:Addr}{k:Nat}(hz:ZSt h z TI TO i1 i2 k)(e:∀b o,b≠S->h.get? b=some o->h'.get? b=some o)(nz:z≠S)(nO:TO≠S)(nt:∀t f,cN h z TI TO t f->t≠S):ZSt h' z TI TO i1 i2 k:=by
 cases hz with
 |first h hO=>exact .first (e _ _ nz h) (e _ _ nO hO)
 |more h ht n=>exact .more (e _ _ nz h) (e _ _ (nt _ _ h) ht) n
structure g9(n0:Nat)(h:Heap)(xs ys:Array Value)(av:List Addr)(acc:Array Value)(k:Nat):Prop where
 n:acc.size=k
 at_:∀(j:Nat)(v:Value),acc[j]?=some v->∃(t:Addr)(x y:Value),v=Value.ref t/\xs[j]?=some x/\ys[j]?=some y/\IsPair h t x y/\t∉av/\n0<=t
 inc:∀(i j:Nat)(t t':Addr),i<j->acc[i]?=some (.ref t)->acc[j]?=some (.ref t')->t<t'
theorem g9.keep{n0:Nat}{h h':Heap}{xs ys:Array Value}{av:List Addr}{acc:Array Value}{k:Nat}(g:g9 n0 h xs ys av acc k)(e:∀b o,b∉av->h.get? b=some o->h'.get? b=some o):g9 n0 h' xs ys av acc k:=
 ⟨g.n,λj v hj=>let ⟨t,x,y,a,b,c,d,n,m⟩:=g.at_ j v hj;⟨t,x,y,a,b,c,e _ _ n d,n,m⟩,g.inc⟩
theorem t5{n0:Nat}{z TI TO i1 i2 l1 l2 S:Addr}{b1 b2:Bool}{xs ys:Array Value}{res:Value}{n:Nat}{R:Result->Shared->Prop}(hh:A.handled=none)(D:ZAp z TI TO i1 i2 l1 l2)(hS:S∉[z,TI,TO,i1,i2,l1,l2])(hn:n=min xs.size ys.size)(hsz:n<=sizeLine)(hO:TO<n0):
 ∀(m k:Nat)(s:Shared)(acc:Array Value)(c:Nat),n-k=m->k<=n->ZSt s.heap z TI TO i1 i2 k->(∀t f,cN s.heap z TI TO t f->t≠S)->IsPair s.heap TI (.ref i1) (.ref i2)->n0<=s.heap.objs.size->SIt s.heap b1 i1 l1 k->SIt s.heap b2 i2 l2 k->SSq s.heap b1 l1 xs->SSq s.heap b2 l2 ys->
 s.heap.get? S=some { cls:=.type "list",dict:=none,data:=.seq acc c,slots:=#[] }->g9 n0 s.heap xs ys [S,z,TI,TO,i1,i2] acc k->
 (∀h' tk acc' c',(∀b o,b∉[S,z,TO,i1,i2]->s.heap.get? b=some o->h'.get? b=some o)->h'.get? S=some { cls:=.type "list",dict:=none,data:=.seq acc' c',slots:=#[] }->g9 n0 h' xs ys [S,z,TI,TO,i1,i2] acc' n->R (.ok (.ret res)) { s with heap:=h',toks:=tk })->
 codeAny (model prog w) A (.builtin "list.extend.loop" ⟨[.ref S,.ref z,res],[]⟩) R s:=by
 simp only[qu,qQ,or_false,not_or]at hS;obtain⟨nSz,nSI,nSO,nS1,nS2,nSl1,nSl2⟩:=hS;obtain⟨⟨nIz,nOz,n1z,n2z,nIO,nI1,nI2,nO1,nO2,n12⟩,lne⟩:=id D;obtain⟨m1z,m1O,m11,m12,m1I⟩:=lne l1 (.inl U);obtain⟨m2z,m2O,m21,m22,m2I⟩:=lne l2 (.inr U);intro m
 induction m with
 |zero=>
  intro k s acc c hk hi hz nt hI hn0 t1 t2 q1 q2 hl hg hR;have hkn:k=n:=Qw;subst hkn;refine codeAny_builtin F.entry_extend_loop ?_;rw[Around.under_plainId F.plain_extend_loop _];show wpAny _ A.in1 (pyNext (.ref z) >>= _) _ _ s
  refine q5 (t7 (by simpa using hh) D hz hI t1 t2 q1 q2 (by
   by_cases h:xs.size<=k
   ·exact .inl (Array.getElem?_eq_none h)
   ·exact .inr (Array.getElem?_eq_none Qw)) λg hk=>?_)
  refine qd (hR g s.toks acc c (λb o hb e=>?_) (hk S _ nSz nSO nS1 nS2 hl) (hg.keep λb o hb e=>?_))
  ·simp only[qu,qQ,or_false,not_or]at hb;exact hk b o hb.2.1 hb.2.2.1 hb.2.2.2.1 hb.2.2.2.2 e
  ·simp only[qu,qQ,or_false,not_or]at hb;exact hk b o hb.2.1 hb.2.2.2.1 hb.2.2.2.2.1 hb.2.2.2.2.2 e
 |succ m ih=>
  intro k s acc c hk hi hz nt hI hn0 t1 t2 q1 q2 hl hg hR;have hlt:k<n:=Qw;have kx:k<xs.size:=Qw;have ky:k<ys.size:=Qw;refine codeAny_builtin F.entry_extend_loop ?_;rw[Around.under_plainId F.plain_extend_loop _];show wpAny _ A.in1 (pyNext (.ref z) >>= _) _ _ s;refine q5 (t6 D hz hI t1 t2 q1 q2 (Array.getElem?_eq_getElem kx) (Array.getElem?_eq_getElem ky) λg a1 a3 a4 a5 a6 a7=>?_);have hl':=a6 S _ nSz nSO nS1 nS2 hl;have big:∀b o,s.heap.get? b=some o->s.heap.objs.size≠b:=λb o e=>Nat.ne_of_gt (qq e);have oth:∀b o,b≠S->g.get? b=some o->(g.update S (Obj.mapSeq (·.push (.ref s.heap.objs.size)))).get? b=some o:=λb o hb e=>(Qs _ _ (Ne.symm hb)).trans e
  have nt':∀t f,cN g z TI TO t f->t≠S:=λt f h=>by
   rcases a7 t f h with rfl|⟨f',h'⟩
   ·exact big _ _ hl
   ·exact nt t f' h'
  obtain⟨oz,ez,_⟩:=hz.obj;obtain⟨o1,e1,_⟩:=t1.obj;obtain⟨o2,e2,_⟩:=t2.obj;show wpAny _ A.in1 (updateSeq S (·.push (.ref s.heap.objs.size)) >>= _) _ _ _;refine q5 (wpAny_updateSeq hl' U (qd ⟨plainId_quiet F.plain_extend_loop _,ih (k+1) { s with heap:=g.update S (Obj.mapSeq (·.push (.ref s.heap.objs.size))) } (acc.push (.ref s.heap.objs.size)) _ Qw hlt ?_ ?_ ?_ ?_ ?_ ?_ ?_ ?_ (Qg _ hl' U) ?_ λh' tk acc' c' kp hl'' hg'=>?_⟩) (by rw[hg.n];omega) (by show(acc.push _).size<=sizeLine+1;rw[Array.size_push,hg.n];omega))
  ·exact a1.keep oth (Ne.symm nSz) (Ne.symm nSO) nt'
  ·exact λt f h=>nt' t f ((Qs _ _ nSz).symm.trans h)
  ·exact oth _ _ (Ne.symm nSI) (a6 _ _ nIz nIO nI1 nI2 hI)
  ·exact qy hn0 (Nat.le_of_lt (qq (oth _ _ (big _ _ hl) a5)))
  ·exact a3.keep λo e=>oth _ _ (Ne.symm nS1) e
  ·exact a4.keep λo e=>oth _ _ (Ne.symm nS2) e
  ·exact q1.keep λo e=>oth _ _ (Ne.symm nSl1) (a6 _ _ m1z m1O m11 m12 e)
  ·exact q2.keep λo e=>oth _ _ (Ne.symm nSl2) (a6 _ _ m2z m2O m21 m22 e)
  ·have old:∀(j:Nat)(t:Addr),acc[j]?=some (.ref t)->t<s.heap.objs.size:=λj t hj=>by
    obtain⟨t',x,y,a,_,_,d,_⟩:=hg.at_ j _ hj;cases a;exact qq d
   refine⟨by rw[Array.size_push,hg.n],λj v hj=>?_,λi j t t' lt hi hj=>?_⟩
   rotate_left
   ·rw[Array.getElem?_push]at hi hj;split at hj
    ·rename_i ej;cases hj;rw[qZ Qw]at hi;exact old i t hi
    ·split at hi
     ·rename_i ei;have:=(Array.getElem?_eq_some_iff.mp hj).1;omega
     ·exact hg.inc i j t t' lt hi hj
   rw[Array.getElem?_push]at hj;split at hj
   ·rename_i ej;rw[hg.n]at ej;cases hj;subst ej;refine⟨_,_,_,U,Array.getElem?_eq_getElem kx,Array.getElem?_eq_getElem ky,oth _ _ (big _ _ hl) a5,?_⟩;simp only[qu,qQ,or_false,not_or];exact⟨⟨big _ _ hl,big _ _ ez,big _ _ hI,Nat.ne_of_gt (qD hO hn0),big _ _ e1,big _ _ e2⟩,hn0⟩
   ·obtain⟨t,x,y,a,b,c',d,n,m⟩:=hg.at_ j v hj;refine⟨t,x,y,a,b,c',?_,n,m⟩;simp only[qu,qQ,or_false,not_or]at n;exact oth _ _ n.1 (a6 _ _ n.2.1 n.2.2.2.1 n.2.2.2.2.1 n.2.2.2.2.2 d)
  ·refine hR h' tk acc' c' (λb o hb e=>kp b o hb ?_) hl'' hg';simp only[qu,qQ,or_false,not_or]at hb;exact oth _ _ hb.1 (a6 _ _ hb.2.1 hb.2.2.1 hb.2.2.2.1 hb.2.2.2.2 e)
theorem sY:typeLookup (.type "zip") "__len__"=pure none:=by rw[typeLookup_type,builtinLookup_eq_fast];kernel_rfl
theorem sZ:typeLookup (.type "zip") "__length_hint__"=pure none:=by rw[typeLookup_type,builtinLookup_eq_fast];kernel_rfl
theorem yA{z TI TO i1 i2 l1 l2:Addr}{b1 b2:Bool}{xs ys:Array Value}{n n0:Nat}{Q:Yd}(hh:A.handled=none)(D:ZAp z TI TO i1 i2 l1 l2)(hn:n=min xs.size ys.size)(hsz:n<=sizeLine)(hO:TO<n0)(hn0:n0<=s.heap.objs.size)
 (hz:IsZip s.heap z TI TO .none) (hTO:IsPair s.heap TO .none .none) (hI:IsPair s.heap TI (.ref i1) (.ref i2)) (t1:SIt s.heap b1 i1 l1 0) (t2:SIt s.heap b2 i2 l2 0) (q1:SSq s.heap b1 l1 xs) (q2:SSq s.heap b2 l2 ys)
 (h:∀h' tk acc c',(∀b o,b∉[z,TO,i1,i2]->s.heap.get? b=some o->h'.get? b=some o)->h'.get? s.heap.objs.size=some { cls:=.type "list",data:=.seq acc c' }->g9 n0 h' xs ys [s.heap.objs.size,z,TI,TO,i1,i2] acc n->Q (.ref s.heap.objs.size) { s with heap:=h',toks:=tk }):
 wpAny (model prog w) A (call (.type "list") [.ref z]) Q E s:=by
 refine callType_codes (Q₁:=λob s1=>ob=.ref s.heap.objs.size/\s1={ s with heap:=s.heap.push { cls:=.type "list",data:=.seq #[] } }) F.called_list (F.typeCall_list_1 _) F.entry_list_init (code_list_new _ ⟨U,U⟩) λob s1 h1=>?_;obtain⟨rfl,rfl⟩:=h1;have hS:(s.heap.push { cls:=.type "list",data:=.seq #[] }).get? s.heap.objs.size=some { cls:=.type "list",data:=.seq #[] }:=qp _ U;refine⟨⟨_,hS,U⟩,F.args_list_init_2 _ _,?_⟩;show wpAny _ _ (do let old <- Builtin.List.listItems (.ref s.heap.objs.size);Builtin.List.listUpdate (.ref s.heap.objs.size) (λ_=>#[]);letGo old.toList.reverse;Builtin.List.listExtendWith (.ref s.heap.objs.size) (.ref z) .none) _ _ _;refine q5 ?_;unfold Builtin.List.listItems;refine q5 (Qv hS U (qd ?_));refine q5 ?_;show wpAny _ _ (updateSeq s.heap.objs.size (λ_=>#[])) _ _ _;refine wpAny_updateSeq hS U ?_;have hS2:=Qg (Obj.mapSeq (λ_=>(#[]:Array Value))) hS U;refine q5 (wpAny_letGo ?_)
 have oth:∀b o,b≠s.heap.objs.size->s.heap.get? b=some o->((s.heap.push { cls:=.type "list",data:=.seq #[] }).update s.heap.objs.size (Obj.mapSeq (λ_=>(#[]:Array Value)))).get? b=some o:=
  λb o hb e=>(Qs _ _ (Ne.symm hb)).trans (qa _ e)
 have nb:∀b o,s.heap.get? b=some o->b≠s.heap.objs.size:=λb o e=>qG (qq e);obtain⟨o1,e1,_⟩:=t1.obj;obtain⟨o2,e2,_⟩:=t2.obj;obtain⟨o3,e3,_⟩:=q1.obj;obtain⟨o4,e4,_⟩:=q2.obj;have hz2:=oth _ _ (nb _ _ hz) hz;have hO2:=oth _ _ (nb _ _ hTO) hTO;have hI2:=oth _ _ (nb _ _ hI) hI;have t12:=t1.keep λo e=>oth _ _ (nb _ _ e1) e;have t22:=t2.keep λo e=>oth _ _ (nb _ _ e2) e;have q12:=q1.keep λo e=>oth _ _ (nb _ _ e3) e;have q22:=q2.keep λo e=>oth _ _ (nb _ _ e4) e;have bigger:n0<=((s.heap.push { cls:=.type "list",data:=.seq #[] }).update s.heap.objs.size (Obj.mapSeq (λ_=>(#[]:Array Value)))).objs.size:=qy hn0 (Nat.le_of_lt (qq hS2));generalize (s.heap.push { cls:=.type "list",data:=.seq #[] }).update s.heap.objs.size (Obj.mapSeq (λ_=>(#[]:Array Value)))=g0 at hz2 hO2 hI2 t12 t22 q12 q22 hS2 oth bigger ⊢;have ty:Shared.TypeIs { s with heap:=g0 } (.ref z) "zip":=⟨_,hz2,U⟩;have nz:=nb _ _ hz;unfold Builtin.List.listExtendWith;refine q5 (wpAny_typeOf ty ?_);have h1:Builtin.List.listSameRef (.ref s.heap.objs.size) (.ref z)=false:=by simp[Builtin.List.listSameRef,Ne.symm nz]
 have h2:(Value.type "zip" == Value.type "list")=false:=Qz;have h3:(Value.type "zip" == Value.type "tuple")=false:=Qz;simp only[h1,h2,h3,Bool.or_false,Qj,if_false];refine q5 (wpAny_pyIter_zip hz2 ?_);refine q5 (Qu ?_);unfold Builtin.List.listLengthHint;refine q5 (wpAny_specialOf ty sY ?_);show wpAny _ _ (specialOf (Value.ref z) (Str.ofString "__length_hint__") >>= _) _ _ _;refine q5 (wpAny_specialOf ty sZ ?_);refine qd ?_
 show wpAny _ _ (rule "list.extend.makes-room" >>= λ_=>Builtin.List.listTouch (.ref s.heap.objs.size) >>= λ_=>
  again (.builtin "list.extend.loop" ⟨[.ref s.heap.objs.size,.ref z,.none],[]⟩)) _ _ _
 refine q5 (wpAny_rule ?_);refine q5 ?_;show wpAny _ _ (updateSeq s.heap.objs.size (·.push .none) >>= λ_=>updateSeq s.heap.objs.size (·.pop)) _ _ _;refine q5 (wpAny_updateSeq hS2 U ?_);have hS3:=Qg (Obj.mapSeq (·.push Value.none)) hS2 U;refine wpAny_updateSeq (hz:=by seq_fits) hS3 U ?_;have hS4:=Qg (Obj.mapSeq (·.pop)) hS3 U
 have oth2:∀b o,b≠s.heap.objs.size->g0.get? b=some o->((g0.update s.heap.objs.size (Obj.mapSeq (·.push Value.none))).update s.heap.objs.size (Obj.mapSeq (·.pop))).get? b=some o:=
  λb o hb e=>(Qs _ _ (Ne.symm hb)).trans ((Qs _ _ (Ne.symm hb)).trans e)
 have big2:n0<=((g0.update s.heap.objs.size (Obj.mapSeq (·.push Value.none))).update s.heap.objs.size (Obj.mapSeq (·.pop))).objs.size:=qy hn0 (Nat.le_of_lt (qq hS4))
 have notin:s.heap.objs.size∉[z,TI,TO,i1,i2,l1,l2]:=by
  simp only[qu,qQ,or_false,not_or];exact⟨Ne.symm nz,Ne.symm (nb _ _ hI),Ne.symm (nb _ _ hTO),Ne.symm (nb _ _ e1),Ne.symm (nb _ _ e2),Ne.symm (nb _ _ e3),Ne.symm (nb _ _ e4)⟩
 refine qd ⟨plainId_quiet F.plain_extend_loop _,t5 (n0:=n0) (by simpa using hh) D notin hn hsz hO n 0 _ _ _ (Nat.sub_zero n) (qt _) (.first (oth2 _ _ nz hz2) (oth2 _ _ (nb _ _ hTO) hO2)) (λt f hf=>?_) (oth2 _ _ (nb _ _ hI) hI2) big2 (t12.keep λo e=>oth2 _ _ (nb _ _ e1) e) (t22.keep λo e=>oth2 _ _ (nb _ _ e2) e) (q12.keep λo e=>oth2 _ _ (nb _ _ e3) e) (q22.keep λo e=>oth2 _ _ (nb _ _ e4) e) hS4 ⟨U,λj v hj=>by simp[Array.pop]at hj,λi j t t' _ hi _=>by simp[Array.pop]at hi⟩ λh' tk acc c' kp hl hg=>⟨U,?_⟩⟩
 ·have:=(oth2 _ _ nz hz2).symm.trans hf;simp[rawInt]at this
 ·refine h h' tk acc c' (λb o hb e=>?_) hl hg;refine kp b o ?_ (oth2 _ _ (nb _ _ e) (oth _ _ (nb _ _ e) e));simp only[qu,qQ,or_false,not_or]at hb ⊢;exact⟨nb _ _ e,hb⟩
end
section
variable {X:Cx}{pins:List (Addr×Obj)}{σ:St}
theorem mz{H0:Hp}{s0 s:Shared}(I0:Inv X pins σ H0 s0):∀(ts:List Addr)(ps:List (V×V))(H:Hp),Inv X pins σ H s->ts.length=ps.length->ts.Pairwise (·<·)->(∀t∈ts,s0.heap.objs.size<=t/\H t=none)->
 (∀(j:Nat)(t:Addr)(p:V×V),ts[j]?=some t->ps[j]?=some p->∃u v,aG p.1 u/\aG p.2 v/\IsPair s.heap t u v)->
 ∃H',Inv X pins σ H' s/\aa H H'/\(∀b,b∉ts->H' b=H b)/\∀(j:Nat)(t:Addr)(p:V×V),ts[j]?=some t->ps[j]?=some p->H' t=some (.tup [p.1,p.2])
 |[],_,H,I,_,_,_,_=>⟨H,I,aa.refl _,λ_ _=>rfl,λj t p h=>by simp at h⟩
 |t::ts,[],_,_,hl,_,_,_=>by simp at hl
 |t::ts,p::ps,H,I,hl,pw,fr,ob=>by
  obtain⟨u,v,ru,rv,pT⟩:=ob 0 t p U U;obtain⟨ht,hn⟩:=fr t qm;obtain⟨pw1,pw2⟩:=List.pairwise_cons.mp pw;have I2:Inv X pins σ (upd H t (.tup [p.1,p.2])) s:=I.track (I0.fpOk ht hn) (qy I0.sz ht) ⟨by show 2<=sizeLine;decide,[u,v],.cons ru (.cons rv .nil),⟨_,pT,U,_,U⟩⟩;obtain⟨H',I3,s3,o3,a3⟩:=mz I0 ts ps _ I2 (by simpa using hl) pw2 (λt' ht'=>⟨(fr t' (qk _ ht')).1,by rw[aj (Nat.ne_of_gt (pw1 t' ht'))];exact(fr t' (qk _ ht')).2⟩) λj t' p' h1 h2=>ob (j+1) t' p' (by simpa using h1) (by simpa using h2);refine⟨H',I3,(aa.new hn _).trans s3,λb hb=>?_,λj t' p' h1 h2=>?_⟩
  ·have nb:b≠t:=λz=>hb (by rw[z];exact qm);rw[o3 b λz=>hb (qk _ z),aj nb]
  ·cases j with
   |zero=>
    simp at h1 h2;subst h1;subst h2;exact s3 _ _ af
   |succ j=>exact a3 j t' p' (by simpa using h1) (by simpa using h2)
theorem oS:∀vs:List Value,(∀v∈vs,∃t,v=.ref t)->∃ts:List Addr,vs=ts.map Value.ref
 |[],_=>⟨[],U⟩
 |v::vs,h=>by
  obtain⟨t,rfl⟩:=h v qm;obtain⟨ts,e⟩:=oS vs λv hv=>h v (qk _ hv);exact⟨t::ts,by rw[e];rfl⟩
def u0(K:W.Frag)(ta:TA):TE:=λσ H Q=>ta σ H λvs H1=>∃b1 b2 l1 l2 xs ys,vs=[.ref l1,.ref l2]/\SqB K H1 b1 l1 xs/\SqB K H1 b2 l2 ys /\
 ∀H' l (ts:List Addr),aa H1 H'->H1 l=none->H' l=some (.lst (ts.map V.ref))->ts.length=min xs.length ys.length->(∀(j:Nat)(t:Addr)(x y:V),ts[j]?=some t->xs[j]?=some x->ys[j]?=some y->H' t=some (.tup [x,y])/\H1 t=none)->Q (.ref l) H'
theorem ip{a b:Expr}{ta:TA}{p1 p2 pos1 pos2:Pos}(hc:X.calm=true)(hg:Gl X "list")(hm:X.mg "list"=none)(hg2:Gl X "zip")(hm2:X.mg "zip"=none)(ha:PA X [a,b] ta)
 (hs:starEach [a,b] X.env=[(false,eval a X.env),(false,eval b X.env)]:=by rfl) (hs2:starEach [b] X.env=[(false,eval b X.env)]:=by rfl)
 (hs3:starEach [.Call (.Name "zip" p2) [a,b] [] pos2] X.env=[(false,eval (.Call (.Name "zip" p2) [a,b] [] pos2) X.env)]:=by rfl):
 PE X (.Call (.Name "list" p1) [.Call (.Name "zip" p2) [a,b] [] pos2] [] pos1) (u0 X.K ta):=by
 intro pins s σ H Q I h;refine wpAny_Call_Name_kw (dk I hg hm PyProof.Rows.Boot.«list» ?_);refine PyProof.Rows.callWith_type1 ?_ (by rw[hs3];rfl) U;rw[hs3];show wpAny _ _ (spliced ((false,eval (.Call (.Name "zip" p2) [a,b] [] pos2) X.env)::backTo pos1 [])) _ _ s;refine Calls.spliced_cons ?_;refine Call_ (dk I hg2 hm2 PyProof.Rows.Boot.«zip» (PyProof.Rows.callWith_type1 (thn (ha pos2 pins s σ H _ I h) λus s1 ⟨vs,H1,I1,r1,q1⟩=>?_) (by rw[hs,hs2]) (by rw[hs2];rfl)));obtain⟨b1,b2,l1,l2,xs,ys,rfl,hx,hy,q⟩:=q1;obtain⟨u,u',rfl,ru,ru'⟩:=gY r1;cases ru;cases ru';obtain⟨its,rv,s1',z1⟩:=SqB.at I1 hx;obtain⟨jts,rw',s2',z2⟩:=SqB.at I1 hy;have d7:=rv.length;have len2:=rw'.length;refine sL s1' s2' λg n hn a1 a2 a3 a4 a5 k=>?_
 have lt:∀c,c=l1\/c=l2->c<n:=λc hc=>by
  rw[hn];rcases hc with rfl|rfl
  ·obtain⟨o,e,_⟩:=s1'.obj;exact qq e
  ·obtain⟨o,e,_⟩:=s2'.obj;exact qq e
 have D:ZAp (n+4) (n+2) (n+3) n (n+1) l1 l2:=by
  refine⟨?_,λc hc=>?_⟩
  ·have e:∀i j:Nat,i≠j->n+i≠n+j:=λi j h z=>h (Nat.add_left_cancel z);exact⟨e 2 4 Qz,e 3 4 Qz,e 0 4 Qz,e 1 4 Qz,e 2 3 Qz,e 2 0 Qz,e 2 1 Qz,e 3 0 Qz,e 3 1 Qz,e 0 1 Qz⟩
  ·have q:=lt c hc;have e:∀i:Nat,c≠n+i:=λi=>qG (qD q (Nat.le_add_right _ _));exact⟨e 4,e 3,e 0,e 1,e 2⟩
 refine Calls.spliced_nil ?_;have gsz:n+5<=g.objs.size:=qq a1;refine yA (n:=min xs.length ys.length) (n0:=n+5) (s:={ s1 with heap:=g }) (I1.ok.hd hc) D (by simp only[qC];omega) Qw (Nat.lt_add_of_pos_right Qz:n+3<n+3+2) gsz a1 a3 a2 a4 a5 (s1'.keep λo e=>k _ _ e) (s2'.keep λo e=>k _ _ e) λh' tk acc c' kp gl zg=>?_
 have keep:∀b o,s1.heap.get? b=some o->h'.get? b=some o:=λb o e=>by
  have lb:b<n:=by rw[hn];exact qq e
  refine kp b o ?_ (k b o e);simp only[qu,qQ,or_false,not_or];refine⟨?_,?_,?_,?_⟩<;>intro z<;>rw[z]at lb
  ·exact Q4 lb (Nat.not_lt.mpr (Nat.le_add_right _ _))
  ·exact Q4 lb (Nat.not_lt.mpr (Nat.le_add_right _ _))
  ·exact Q4 lb (Qb _)
  ·exact Q4 lb (Nat.not_lt.mpr (Nat.le_add_right _ _))
 have J:Inv X pins σ H1 { s1 with heap:=h',toks:=tk }:=I1.kept keep
 obtain⟨ts,ets⟩:=oS acc.toList λv hv=>by
  obtain⟨j,hj,ej⟩:=List.mem_iff_getElem.mp hv;obtain⟨t,x,y,e,_⟩:=zg.at_ j v (by rw[<- qT,qc hj,ej]);exact⟨t,e⟩
 have tl:ts.length=min xs.length ys.length:=by
  have:=congrArg List.length ets;rw[q9,qM,zg.n]at this;exact this.symm
 have at_:∀(j:Nat)(t:Addr),ts[j]?=some t->acc[j]?=some (.ref t):=λj t h=>by
  rw[<- qT,ets,qE,h]
  rfl
 have info:∀(j:Nat)(t:Addr),ts[j]?=some t->∃u v,its[j]?=some u/\jts[j]?=some v/\IsPair h' t u v/\t∉[g.objs.size,n+4,n+2,n+3,n,n+1]/\n+5<=t:=λj t h=>by
  obtain⟨t',u,v,e,e1,e2,pp,na,nn⟩:=zg.at_ j _ (at_ j t h);cases e;exact⟨u,v,by simpa using e1,by simpa using e2,pp,na,nn⟩
 have mem:∀t∈ts,∃j:Nat,ts[j]?=some t:=λt ht=>by
  obtain⟨j,hj,ej⟩:=List.mem_iff_getElem.mp ht;exact⟨j,by rw[qc hj,ej]⟩
 have old:∀t∈ts,s1.heap.objs.size<=t:=λt ht=>by
  obtain⟨j,hj⟩:=mem t ht;obtain⟨_,_,_,_,_,_,nn⟩:=info j t hj;rw[<- hn];omega
 have pw:ts.Pairwise (·<·):=List.pairwise_iff_getElem.mpr λi j hi hj lt=>zg.inc i j _ _ lt (at_ i _ (qc hi)) (at_ j _ (qc hj));have zl:(xs.zip ys).length=min xs.length ys.length:=List.length_zip;have zat:∀(j:Nat)(x y:V),xs[j]?=some x->ys[j]?=some y->(xs.zip ys)[j]?=some (x,y):=λj x y h1 h2=>List.getElem?_zip_eq_some.mpr ⟨h1,h2⟩
 obtain⟨H',I3,s3,o3,a3⟩:=mz (s:={ s1 with heap:=h',toks:=tk }) I1 ts (xs.zip ys) H1 J (by rw[tl,zl]) pw (λt ht=>⟨old t ht,I1.hok.fresh (old t ht)⟩) λj t p h1 h2=>by
  obtain⟨h3,h4⟩:=List.getElem?_zip_eq_some.mp h2;obtain⟨u,v,e1,e2,pp,_⟩:=info j t h1;obtain⟨u',hu,ru⟩:=rv.get h3;obtain⟨v',hv,rv'⟩:=rw'.get h4;rw[e1]at hu;rw[e2]at hv;cases hu;cases hv;exact⟨u,v,ru,rv',pp⟩
 have lL:s1.heap.objs.size<=g.objs.size:=by rw[<- hn];omega
 have nL:g.objs.size∉ts:=λhm=>by
  obtain⟨j,hj⟩:=mem _ hm;obtain⟨_,_,_,_,_,na,_⟩:=info j _ hj;exact na (by simp)
 have fL:H1 g.objs.size=none:=I1.hok.fresh lL;have hL:H' g.objs.size=none:=by rw[o3 _ nL];exact fL
 have vr:∀ts:List Addr,ar (ts.map V.ref) (ts.map Value.ref):=λts=>by
  induction ts with
  |nil=>exact .nil
  |cons t ts ih=>exact .cons U ih
 have I4:Inv X pins σ (upd H' g.objs.size (.lst (ts.map V.ref))) { s1 with heap:=h',toks:=tk }:=I3.track (I1.fpOk lL hL) (qy I1.sz lL) ⟨by rw[q9,tl];omega,ts.map Value.ref,c',vr ts,by rw[<- ets];simpa using gl⟩;refine⟨.ref g.objs.size,_,I4,U,q _ g.objs.size ts (s3.trans (aa.new hL _)) fL af tl λj t x y h1 h2 h3=>⟨?_,I1.hok.fresh (old t (qz h1))⟩⟩;exact aa.new hL _ _ _ (a3 j t (x,y) h1 (zat j x y h2 h3))
end
theorem zO{K:W.Frag}{b1 b2:Bool}{l1 l2:Addr}{xs zs:List V}{g:TG}{te:TE}{Fin:List V->Hp->Prop}{σ:St}{H:Hp}(Pv:Nat->List V->St->Hp->Prop)(h0:Pv 0 [] σ H)(hz:∀i ys σ H,Pv i ys σ H->ys.length<=i)(hx:xs.length<=sizeLine)(hl:∀i ys σ H,Pv i ys σ H->SqB K H b1 l1 xs/\SqB K H b2 l2 zs)
 (hs:∀i x z ys σ H p,xs[i]?=some x->zs[i]?=some z->Pv i ys σ H->H p=none->g (.ref p) σ (upd H p (.tup [x,z])) λσ2 H2=>te σ2 H2 λy H4=>Pv (i+1) (ys++[y]) σ2 H4)
 (hd:∀ys σ H,Pv (min xs.length zs.length) ys σ H->Fin ys H):∃W:Nat->Nat->List V->St->Hp->Prop,(∃m,W 0 m [] σ H)/\db (Itz K b1 b2 l1 l2) g dP te Fin W:=
 zP Pv h0 hz hx hl (λi x z ys σ H p h1 h2 h3 h4=>by
  rw[gh (N':=λ_ _ _=>True)]
  exact hs i x z ys σ H p h1 h2 h3 h4) hd
section
variable {X:Cx}{pins:List (Addr×Obj)}{σ:St}{H:Hp}{s:Shared}{a:Addr}{kvs:List (Key×V)}{k:Key}{z:V}{u r:Value}{A:Around}{E:Yd}
theorem bW.not_got{o:Option V}(h:bW o none):o=none:=by
 cases o with
 |none=>rfl
 |some v=>exact h.elim
theorem bW.got{o:Option V}{u:Value}(h:bW o (some u)):∃v,o=some v/\aG v u:=by
 cases o with
 |none=>exact h.elim
 |some v=>exact⟨v,U,h⟩
theorem zI{Q:Yd}(I:Inv X pins σ H s)(e:H a=some (.dK kvs))(ry:aG (kV k) u)(rz:aG z r)(few:kvs.length<sizeLine)
 (h1:∀v w' s',cH kvs k=some v->Inv X pins σ H s'->aG v w'->Q w' s') (h2:∀s',cH kvs k=none->Inv X pins σ (upd H a (.dK (cQ kvs k z))) s'->Q r s'):
 wpAny (model X.prog X.w) A (call (.builtin "dict.setdefault") [.ref a,u,r]) Q E s:=by
 obtain⟨zz,hd,vs,rel,dd⟩:=gQ I.hok e;have hz:vs.length<=sizeLine:=by rw[<- rel.length];exact zz
 have hl:(cQ kvs k z).length<=sizeLine:=by have:=qF kvs k z;omega
 have rv:=rel.val k;refine call_meetsIn PySem.F.slot_dict_setdefault dd.typeIs PySem.F.entry_dict_setdefault (PySem.F.args_dict_setdefault_3 _ _ _) (kt_meets_setdefault (bV X.prog X.w) a (gN ry) hd r) ⟨vs,dd,hz,λv' hv'=>?_,λhn h' dd' hs=>?_⟩
 ·rw[hv']at rv;obtain⟨v,e1,e2⟩:=bW.got rv;exact h1 v v' _ e1 (I.tok _) e2
 ·rw[hn]at rv;have he:∃q,h'.get? a=some q:=let ⟨q,_,_,hq,_⟩:=dd';⟨q,hq⟩;exact h2 _ (bW.not_got rv) (iR I (by rw[e];exact True.intro) hs he (iQ hl hd (rel.put k rz) dd'))
end
def ub(td ty tx:TE):TE:=λσ H Q=>td σ H λx H1=>∃a,x=.ref a/\IsD H1 a/\ty σ H1 λy H2=>tx σ H2 λz H3=>∃kvs k,H3 a=some (.dK kvs)/\y=kV k/\kvs.length<sizeLine /\
 (∀v,cH kvs k=some v->Q v H3)/\(cH kvs k=none->Q z (upd H3 a (.dK (cQ kvs k z))))
section
variable {X:Cx}{o e f:Expr}{apos cpos:Pos}{td ty tx:TE}
theorem wu(ho:PE X o td)(he:PE X e ty)(hf:PE X f tx)(m:M2 X o "setdefault" apos e f cpos):PE X (.Call (.Attribute o "setdefault" apos) [e,f] [] cpos) (ub td ty tx):=by
 intro pins s σ H Q I h;refine wpAny_Call_method m.base m.few m.line PySem.F.plainAttrs_dict PySem.F.slot_dict_setdefault PySem.F.type_dict_setdefault (thn (ho pins s σ H _ I h) λu s1 ⟨x,H1,I1,rx,a,ex,d,q1⟩=>?_);subst ex;obtain rfl:u=Value.ref a:=rx;obtain⟨t1,t2,_⟩:=rG I1 d;refine⟨t1,t2,?_⟩;rw[m.trees]
 refine Calls.callWith_builtin U (Calls.evalArgs_plain (Calls.spliced_cons (thn (he pins s1 σ H1 _ I1 q1) λiv s2 ⟨y,H2,I2,ry,q2⟩=>
  Calls.spliced_cons (thn (hf pins s2 σ H2 _ I2 q2) λfv s3 ⟨z,H3,I3,rz,kvs,k,eH,ey,few,g1,g2⟩=>Calls.spliced_nil ?_))))
 subst ey;exact zI I3 eH ry rz few (λv w' s' ev I4 rw'=>⟨v,H3,I4,rw',g1 v ev⟩) λs' en I4=>⟨z,_,I4,rz,g2 en⟩
end
section
variable {prog:Program}{w:World}{A:Around}{E:Yd}{s:Shared}
end
section
variable {prog:Program}{w:World}{A:Around}{R:Result->Shared->Prop}{K:Type} [DecidableEq K] {knd:KeyKind prog w K}
end
section
variable {prog:Program}{w:World}{A:Around}{E:Yd}{K:Type} [DecidableEq K] {knd:KeyKind prog w K}{s:Shared}
end
section
variable {X:Cx}{pins:List (Addr×Obj)}{σ:St}{H:Hp}{s:Shared}
end
end L2
namespace Tr
open PySem PySem.Spec PyProof.Rows L2
end Tr
namespace L2
open PySem PySem.Spec PyProof.Rows
section
variable {X:Cx}
end
end L2
namespace Tr
open PySem PySem.Spec PyProof.Rows L2
end Tr
namespace L2
open PySem
section
variable {P:Program}{w:World}{A:Around}{E:Yd}{s:Shared}
end
end L2
namespace L2
open PySem PySem.Spec PyProof.Rows
section
variable {X:Cx}
end
section
variable {P:Program}{w:World}{A:Around}{E:Yd}{s:Shared}
end
section
variable {X:Cx}
theorem yY{P:Program}{w:World}{k:Key}{u:Value}(h:(bV P w).is k u=true):aG (kV k) u:=by
 have h:fw k u=true:=h;rcases dm h with⟨i,t,rfl,rfl⟩|⟨x,t,rfl,rfl⟩
 ·exact⟨t,U⟩
 ·exact⟨t,U⟩
end
theorem sD{K:W.Frag}{l:Addr}{xs:List V}{g:TG}{te:TE}{Fin:List V->Hp->Prop}{σ:St}{H:Hp}(Pv:Nat->List V->St->Hp->Prop)(h0:Pv 0 [] σ H)(hz:∀i ys σ H,Pv i ys σ H->ys.length<=i)(hx:xs.length<=sizeLine)(hl:∀i ys σ H,Pv i ys σ H->SqL K H l xs)
 (hs:∀i x ys σ H p,xs[i]?=some x->Pv i ys σ H->H p=none->g (.ref p) σ (upd H p (.tup [.int i,x])) λσ2 H2=>te σ2 H2 λy H4=>Pv (i+1) (ys++[y]) σ2 H4)
 (hd:∀ys σ H,Pv xs.length ys σ H->Fin ys H):∃W:Nat->Nat->List V->St->Hp->Prop,(∃m,W 0 m [] σ H)/\db (Ite K l) g dP te Fin W:=by
 refine⟨λi m ys σ H=>m=xs.length-i/\i<=xs.length/\Pv i ys σ H,⟨_,U,qt _,h0⟩,?_⟩;rintro i m ys σ H ⟨rfl,hi,p⟩;have hl':=hz i ys σ H p;have q:=hl i ys σ H p;by_cases hlt:i<xs.length
 ·refine .inr ⟨⟨xs,xs[i],q,by simp[hlt]⟩,Qw,Pv (i+1),λys' σ' H' p'=>⟨_,Qw,U,hlt,p'⟩,λv H' y=>?_⟩;obtain⟨a,x,hn,rfl,rfl,e1⟩:=y;rw[gh (N':=λ_ _ _=>True)];exact hs i x ys σ H a (e1 xs q) p hn
 ·obtain rfl:i=xs.length:=by omega
  exact .inl ⟨⟨xs,q,qe _⟩,Qw,hd ys σ H p⟩
section
variable {P:Program}{w:World}{K:W.Frag}{mg:Str->Option Value}{base:Heap}
end
end L2
namespace Tr
open PySem PySem.Spec PyProof.Rows L2
structure OnW(x:Int):Prop where
 lo:0<=x
 hi:x<1000000000000000000000000000000
def kh(sg:Str)(a b:Int):Int:=
 if sg="+" then a+b else if sg="-" then a-b else if sg="*" then a * b else if sg="&" then Builtin.bitAnd a b else if sg="|" then Builtin.bitOr a b else Builtin.bitXor a b
def fZ(sg:Str)(a b:Int):Int:=
 if sg="/" then(if b=0 then 0 else a / b)else if sg="<" then(if a<b then 1 else 0)else if sg="=" then(if a=b then 1 else 0)else kh sg a b % 1000000000000000000000000000000
theorem zF{sg:Str}{x y:Int}(hx:OnW x)(hy:OnW y):OnW (fZ sg x y):=by
 have x0:=hx.lo;have x1:=hx.hi;unfold fZ;split
 ·split
  ·exact⟨Qz,Qz⟩
  ·rename_i h;have y0:=hy.lo;have y1:0<y:=Qw;exact⟨Int.ediv_nonneg x0 y0,Int.lt_of_le_of_lt (Int.ediv_le_self y x0) x1⟩
 split
 ·split<;>exact⟨Qz,Qz⟩
 split
 ·split<;>exact⟨Qz,Qz⟩
 exact⟨Q9 _ Qz,Qe _ Qz⟩
end Tr
namespace L2
open PySem PySem.Spec PyProof.Rows
section
variable {X:Cx}
end
section
variable {X:Cx}
end
end L2
namespace L2
open PySem PySem.Spec PyProof.Rows PySem.W
section
variable {X:Cx}{k:Nat}{f C0:Addr}{fd:FuncData}{ps:List Str}{sp:Sp}{dvs:List V}{ds:List Value}{fx cx y m n:Str}{iy im inn:Nat}{p pos apos py cp pm pn pa hpos:Pos}{e:Expr}{es:List Expr}{t:TA}
end
section
variable {X:Cx}
end
end L2
namespace Tr
open PySem PySem.Spec PyProof.Rows L2
end Tr
namespace L2
open PySem PySem.Spec PyProof.Rows PySem.W
section
variable {P:Program}{w:World}{K:W.Frag}{mg:Str->Option Value}{base:Heap}
end
theorem wq{X:Cx}{K:W.Frag}{e:Expr}{f:Str}{ta:TE}{pos:Pos}(hk:X.K=K)(he:PE X e ta)(hb:attributeBase e f X.env (eval e X.env)=eval e X.env):PE X (.Attribute e f pos) (hJ K ta f):=by
 subst hk;exact pH he hb
end L2
namespace L2
open PySem PySem.F PySem.Spec PyProof.Rows PySem.W
set_option maxRecDepth 100000
section
variable {prog:Program}{w:World}{A:Around}{E:Yd}{s:Shared}
end
section
variable {X:Cx}
end
section
variable {X:Cx}
end
section
variable {X:Cx}
end
section
variable {X:Cx}
end
section
variable {X:Cx}{pins:List (Addr×Obj)}{σ:St}{H:Hp}{s:Shared}
end
section
variable {X:Cx}{k:Nat}{f C:Addr}{fd:FuncData}{ps:List Str}{sp:Sp}{x:Str}{p pos cpos:Pos}{e:Expr}{es:List Expr}{t:TA}
end
section
variable {X:Cx}
end
section
variable {X:Cx}
end
section
variable {X:Cx}{e:Expr}{te:TE}{pos:Pos}
end
section
variable {X:Cx}{K:W.Frag}{o e:Expr}{es:List Expr}{to:TE}{t:TA}{name:Str}{apos cpos:Pos}{T id:String}{r:V->List V->Hp->VK->Prop}
end
section
variable {X:Cx}
end
section
variable {prog:Program}{w:World}{A:Around}{E:Yd}{s:Shared}{κ:KeyKind}
section
variable {left:Bool}{key:Keyed}{arr:Array Keyed}{base n hint:Nat}{st:SortSt}{Q:Option Nat->SortSt->Prop}
end
end
section
variable {prog:Program}{w:World}{A:Around}{E:Yd}{s:Shared}{κ:KeyKind}
section
variable {r:Keyed->Keyed->Prop}{T o X Y Z:List Keyed}
end
section
variable {a b out:Array Keyed}{ia ib n:Nat}
end
end
section
variable {prog:Program}{w:World}{A:Around}{E:Yd}{s:Shared}{κ:KeyKind}
section
variable {a b out:Array Keyed}{ia ib n:Nat}
end
end
section
variable {prog:Program}{w:World}{A:Around}{E:Yd}{s:Shared}{κ:KeyKind}
section
variable {a b out:Array Keyed}{na nb n:Nat}
end
end
section
variable {prog:Program}{w:World}{A:Around}{E:Yd}{s:Shared}{κ:KeyKind}
section
variable {arr:Array Keyed}{P X Y R:List Keyed}
end
end
section
variable {prog:Program}{w:World}{A:Around}{E:Yd}{s:Shared}{κ:KeyKind}
section
variable {st0 st:SortSt}{lo:Nat}
end
end
section
variable {prog:Program}{w:World}{A:Around}{E:Yd}{s:Shared}{κ:KeyKind}
section
variable {a₀:Array Keyed}{st:SortSt}{Xs:List (List Keyed)}{R:List Keyed}
end
section
variable {a₀:Array Keyed}{st:SortSt}{Xs:List (List Keyed)}{R:List Keyed}{lo n:Nat}
end
end
section
variable {prog:Program}{w:World}{A:Around}{E:Yd}{s:Shared}
end
section
variable {P:Program}{w:World}{A:Around}{E:Yd}{s:Shared}
end
section
variable {X:Cx}
end
section
variable {P:Program}{w:World}{A:Around}{E:Yd}{s:Shared}
end
section
variable {P:Program}{w:World}{A:Around}{E:Yd}{s:Shared}
end
section
variable {X:Cx}
end
section
variable {P:Program}{w:World}{A:Around}{E:Yd}{s:Shared}
end
section
variable {X:Cx}
end
end L2
namespace Tr
open PySem PySem.Spec PyProof.Rows L2
section
variable {Hb H0 H0' H H' H1:Hp}{own:List Addr}{z:List Fz}
end
section
variable {Hb H0 H0' H H' H1:Hp}{s0 s1 s2:Addr}{z:List Fz}
end
end Tr
namespace L2
open PySem PySem.Spec PyProof.Rows PySem.W
section
variable {X:Cx}{k:Nat}{f C0:Addr}{fd:FuncData}{ps:List Str}{sp:Sp}{dvs:List V}{ds:List Value}{fx cx y m n:Str}{iy im inn:Nat}{p pos apos py cp pm pn pl pa hpos tpos:Pos}{e:Expr}{es:List Expr}{t:TA}
end
end L2
namespace Tr
open PySem PySem.Spec PyProof.Rows L2
end Tr
namespace L2
open PySem PySem.Spec PyProof.Rows
theorem rH:∀{ys:List Int}{its:List Value},ar (ys.map V.int) its->IntsAre its ys
 |[],[],_=>.nil
 |y::ys,_::_,.cons h r=>by
  obtain⟨t,rfl⟩:=h;exact .cons y t (rH r)
section
variable {X:Cx}
theorem sM(hc:X.calm=true):cs X (.builtin "sorted") (λxs H Q=>∃(p:Addr)(ys:List Int),xs=[.ref p]/\SqL X.K H p (ys.map V.int)/\ys.length<64 /\
 ∀l zs,H l=none->zs.Perm ys->List.Pairwise (λx1 x2=>x1<=x2) zs->Q (.ref l) (upd H l (.lst (zs.map V.int)))):=by
 intro pins s σ H xs us Q I r h;obtain⟨p,ys,rfl,hq,hz,q⟩:=h;obtain⟨u,rfl,rx⟩:=dO r;cases rx;obtain⟨its,r',pl,_⟩:=I.list hq;have hlen:=r'.length;rw[q9]at hlen;refine sorted_ints (vs:=its) pl.isList (rH r') Qw λout zs hS hp so=>?_;obtain⟨n,at1⟩:=sortedAll_at s.heap its out;have lz:zs.length<=sizeLine:=by rw[hp.length_eq];exact qy (Nat.le_of_lt hz) Qz
 have J:=I.laid (t':=s.toks) (h':=sortedAll s.heap its out) (a:=s.heap.objs.size+1) (o:=.lst (zs.map V.int)) (λb o q=>sortedAll_old q) (Nat.le_succ _) ⟨by rw[q9];exact lz,out.toList,n,j1 hS,at1⟩;exact⟨.ref (s.heap.objs.size+1),_,J,U,q _ zs (I.hok.fresh (Nat.le_succ _)) hp so⟩
end
section
variable {P:Program}{w:World}{A:Around}{E:Yd}{s:Shared}
end
section
variable {X:Cx}
end
section
variable {P:Program}{w:World}{A:Around}{E:Yd}{s:Shared}
end
section
variable {X:Cx}
end
section
variable {X:Cx}
end
end L2
namespace Tr
open PySem PySem.Spec PyProof.Rows L2
section
variable {Hb H0 H0' H H' H1:Hp}{s0 s1 s2:Addr}{z:List Fz}{os:List V}
end
end Tr
namespace L2
open PySem PySem.Spec PyProof.Rows
@[reducible] def intKey:KeyKind where
  α:=Int
  blt a b:=decide (a<b)
  irrefl a:=by simp
  trans a b c h1 h2:=by simp only[decide_eq_true_eq]at *;omega
  negTrans a b c h:=by simp only[decide_eq_true_eq]at *;omega
  total a b h1 h2:=by simp only[decide_eq_false_iff_not]at *;omega
  keyOf v:=match v with|.int n _=>some n|_=>none
  dflt:=0
section
variable {prog:Program}{w:World}{A:Around}{E:Yd}{s:Shared}
end
section
variable {X:Cx}
end
end L2
namespace Tr
open PySem PySem.Spec PyProof.Rows L2
end Tr
namespace L2
open PySem PySem.Spec PyProof.Rows
section
variable {P:Program}{w:World}{A:Around}{E:Yd}{s:Shared}{κ:Type} [DecidableEq κ] {knd:PySem.KeyKind P w κ}
end
section
variable {X:Cx}
end
end L2
namespace Tr
open PySem PySem.Spec PyProof.Rows L2
end Tr
namespace L2
open PySem PySem.Spec PyProof.Rows
section
variable {n m:Nat}{p:Array Nat}
end
section
variable {prog:Program}{w:World}{A:Around}{E:Yd}{s:Shared}
end
section
variable {X:Cx}
end
theorem zQ{K:W.Frag}{a:Addr}{xs:List V}{g:TG}{te:TE}{Fin:List V->Hp->Prop}{σ:St}{H:Hp}(Pv:Nat->List V->St->Hp->Prop)(h0:Pv 0 [] σ H)(hz:∀i ys σ H,i<=xs.length->Pv i ys σ H->ys.length<=i)(hx:xs.length<=sizeLine)(hl:∀i ys σ H,Pv i ys σ H->SqT K H a xs)
 (hs:∀i x ys σ H,xs[i]?=some x->Pv i ys σ H->g x σ H λσ2 H2=>te σ2 H2 λy H4=>Pv (i+1) (ys++[y]) σ2 H4)
 (hd:∀ys σ H,Pv xs.length ys σ H->Fin ys H):∃W:Nat->Nat->List V->St->Hp->Prop,(∃m,W 0 m [] σ H)/\db (Itt K a) g dP te Fin W:=
 zR Pv h0 hz hx hl (λi x ys σ H hx p=>by
  rw[gh (N':=λ_ _ _=>True)]
  exact hs i x ys σ H hx p) hd
end L2
namespace Tr
open PySem PySem.Spec PyProof.Rows L2
end Tr
namespace L2
open PySem
section
variable {P:Program}{w:World}{A:Around}{E:Yd}{s:Shared}
set_option maxHeartbeats 3200000 in
end
open PySem.Spec PyProof.Rows
section
variable {X:Cx}
end
end L2
namespace Tr
open PySem PySem.Spec PyProof.Rows L2
end Tr
namespace L2
open PySem PySem.Spec PyProof.Rows
end L2
namespace Tr
open PySem PySem.Spec PyProof.Rows L2 PySem.NumText
end Tr
namespace HT
open PySem PyProof.Rows
section
variable {prog:Program}{w:World}{A:Around}{E:Yd}{s:Shared}
end
end HT
namespace L2
open PySem PySem.Spec PyProof.Rows
section
variable {X:Cx}
end
end L2
namespace Tr
open PySem PySem.Spec PyProof.Rows L2
end Tr
namespace L2
open PySem PySem.Spec PyProof.Rows
section
variable {prog:Program}{w:World}{A:Around}{E:Yd}{s:Shared}
end
section
variable {X:Cx}{pins:List (Addr×Obj)}{σ:St}{H:Hp}{s:Shared}{a:Addr}{A:Around}{E:Yd}
end
section
variable {X:Cx}{o e f i value:Expr}{apos cpos pos pos':Pos}{td ty tx tv:TE}
end
section
variable {X:Cx}
theorem vM{K:W.Frag}(e:X.K=K):cs X (.builtin "len") (kr K):=by
 subst e;exact bX
end
end L2
namespace L2
open PySem PySem.Spec PyProof.Rows PySem.W
section
variable {X:Cx}{pins:List (Addr×Obj)}{σ:St}{H:Hp}{s:Shared}{tg:Expr}
theorem KV.nth:∀{kvs:List (Key×V)}{vs:List (Key×Value)},KV kvs vs->∀{i:Nat}{k:Key}{x:Value},vs[i]?=some (k,x)->∃q,kvs[i]?=some q/\q.1=k
 |_,_,.nil,i,k,x,h=>by simp at h
 |_,_,.cons r _,0,k,x,h=>by cases h;exact⟨_,U,r.1⟩
 |_,_,.cons _ t,i+1,k,x,h=>KV.nth (i:=i) t (by simpa using h)
end
section
variable {X:Cx}{pins:List (Addr×Obj)}{σ:St}{H:Hp}{s:Shared}{scope:Scope}{x0:Str}{Nc:List Str}{js:List Nat}{k:Nat}
end
section
variable {X:Cx}{pins:List (Addr×Obj)}{σ:St}{H:Hp}{s:Shared}{scope:Scope}{x0:Str}{Nc:List Str}{js:List Nat}{k:Nat}{tg iter elt:Expr}{ifs:List Expr}{pos:Pos}{g:TG}{tt:TT}{te:TE}
end
theorem sR(f:Nat->Int):∀k,argBest (λi j=>decide (f i<f j)) k<=k/\∀i,i<=k->f (argBest (λi j=>decide (f i<f j)) k)<=f i
 |0=>⟨qe _,λi h=>by rw[Nat.le_zero.mp h];exact Int.le_refl _⟩
 |k+1=>by
  obtain⟨a,b⟩:=sR f k;unfold argBest;by_cases c:f (k+1)<f (argBest (λi j=>decide (f i<f j)) k)
  ·rw[Q0 (Q1 c)];refine⟨qe _,λi hi=>?_⟩;by_cases e:i=k+1
   ·rw[e];exact Int.le_refl _
   ·have:=b i Qw;omega
  ·rw[qZ (by rw[Q3 c];exact qi)];refine⟨Qw,λi hi=>?_⟩;by_cases e:i=k+1
   ·rw[e];omega
   ·exact b i Qw
section
variable {X:Cx}
theorem zY(hc:X.calm=true):cs X (.builtin "min") (λxs H Q=>∃(p:Addr)(kvs:List (Key×V))(ks:List Int),xs=[.ref p]/\H p=some (.dK kvs)/\kvs.map (·.1)=ks.map Sum.inl/\ks≠[]/\∀m,m∈ks->(∀k∈ks,m<=k)->Q (.int m) H):=by
 intro pins s σ H xs us Q I r h;obtain⟨p,kvs,ks,rfl,hq,ek,hne,q⟩:=h;obtain⟨u,rfl,rx⟩:=dO r;cases rx;obtain⟨z,hd,vs,rel,dd⟩:=gQ I.hok hq;obtain⟨ep,da⟩:=dd.dictAt;have kl:=rel.length;have el:kvs.length=ks.length:=by have:=congrArg List.length ek;rwa [q9,q9]at this
 have n0:0<ks.length:=List.length_pos_iff.mpr hne;have ho:∃o,s.heap.get? p=some o:=let ⟨o,_,e,_⟩:=da;⟨o,e⟩;obtain⟨o,ho⟩:=ho;have hlt:=qq ho;have W:=(Walks.dictKeys (prog:=X.prog) (w:=X.w) (knd:=bV X.prog X.w) (A:=X.A.in1) (I.ok.hd hc) s.heap.objs.size p (qG hlt) vs ep).toS
 have key:∀i v,(∃k x,vs[i]?=some (k,x)/\(bV X.prog X.w).is k v=true)->∃t,v=.int (ks.getD i 0) t:=λi v ⟨k,x,hx,hk⟩=>by
  obtain⟨y,hy,e⟩:=KV.nth rel hx;have e2:(kvs.map (·.1))[i]?=some k:=by rw[qE,hy];exact congrArg some e
  rw[ek,qE]at e2;obtain⟨j,hj,rfl⟩:=qP.mp e2;have:=yY hk;rw[qj,hj];exact this
 refine call_min_walkS (wpAny_pyIter_dict hd da ⟨s.heap.objs.size,_,_,_,_,_,_,_,U,W,⟨⟨_,qp _ U,U,U⟩,da.push _⟩,?_,Qw,CmpOf.ints_lt (λi=>ks.getD i 0) key,λv s' hP hm=>?_⟩)
 ·intro b hb;rw[Qf];simp only[qu,qQ,or_false]at hb;rcases hb with rfl|rfl
  ·exact Qa _
  ·exact Nat.lt_succ_of_lt hlt
 ·obtain⟨t,rfl⟩:=key _ v hP;obtain⟨b1,b2⟩:=sR (λi=>ks.getD i 0) (vs.length-1);obtain⟨h',g',d',t',os'⟩:=s';have eg:g'=s.gens:=hm.gens;have ed:d'=s.drawn:=hm.drawn;have eo:os'=s.os:=hm.os;subst eg ed eo;have bl:argBest (λi j=>decide (ks.getD i 0<ks.getD j 0)) (vs.length-1)<ks.length:=Qw;refine⟨.int (ks.getD (argBest (λi j=>decide (ks.getD i 0<ks.getD j 0)) (vs.length-1)) 0),H,?_,⟨t,U⟩,q _ ?_ λk hk=>?_⟩
  ·refine I.kept (t':=t') (h':=h') λb o e=>hm.heap b o (λz=>?_) (qa _ e);rw[qS]at z;rw[z]at e;exact Q4 (qq e) (Qb _)
  ·rw[qj,qc bl];exact List.getElem_mem bl
  ·obtain⟨i,hi⟩:=List.mem_iff_getElem?.mp hk;have il:=(qf.mp hi).1;have:=b2 i Qw;rw[qj (l:=ks) (i:=i),hi]at this;exact this
def u3(te:TE):TE:=λσ H Q=>te σ H λx H1=>∃n:Nat,x=.int n/\n<=100000/\∀l,H1 l=none->Q (.ref l) (upd H1 l (.lst ((List.range n).map λj:Nat=>V.int j)))
theorem tH{acc:List Value}{n:Nat}(hl:acc.length=n)(h:∀(i:Nat)(v:Value),acc[i]?=some v->∃t,v=.int (i:Int) t):ar ((List.range n).map λj:Nat=>V.int j) acc:=by
 have go:∀(k m:Nat)(acc:List Value),acc.length=m->(∀(i:Nat)(v:Value),acc[i]?=some v->∃t,v=.int ((k+i:Nat):Int) t)->ar ((List.range' k m).map λj:Nat=>V.int j) acc:=by
  intro k m
  induction m generalizing k with
  |zero=>
   intro acc hl _;cases List.length_eq_zero_iff.mp hl;exact .nil
  |succ m ih=>
   intro acc hl h
   cases acc with
   |nil=>cases hl
   |cons u r=>
    rw[List.range'_succ,qR];refine .cons ?_ (ih (k+1) r (by simpa using hl) λi v hv=>?_)
    ·obtain⟨t,rfl⟩:=h 0 u U;exact⟨t,U⟩
    ·obtain⟨t,rfl⟩:=h (i+1) v (by simpa using hv);exact⟨t,by rw[show k+(i+1)=k+1+i by omega]⟩
 rw[List.range_eq_range'];exact go 0 n acc hl λi v hv=>by rw[Nat.zero_add];exact h i v hv
theorem wn{e:Expr}{te:TE}{p1 p2 pos1 pos2:Pos}(hc:X.calm=true)(hg:Gl X "list")(hm:X.mg "list"=none)(hg2:Gl X "range")(hm2:X.mg "range"=none)(he:PE X e te)
 (hs:starEach [e] X.env=[(false,eval e X.env)]:=by rfl) (hs2:starEach [.Call (.Name "range" p2) [e] [] pos2] X.env=[(false,eval (.Call (.Name "range" p2) [e] [] pos2) X.env)]:=by rfl):
 PE X (.Call (.Name "list" p1) [.Call (.Name "range" p2) [e] [] pos2] [] pos1) (u3 te):=by
 intro pins s σ H Q I h;refine wpAny_Call_Name_kw (dk I hg hm PyProof.Rows.Boot.«list» ?_);refine PyProof.Rows.callWith_type1 ?_ (by rw[hs2];rfl) U;rw[hs2];show wpAny _ _ (spliced ((false,eval (.Call (.Name "range" p2) [e] [] pos2) X.env)::backTo pos1 [])) _ _ s;refine Calls.spliced_cons ?_;refine wpAny_Call_Name_kw (dk I hg2 hm2 boot_range ?_);refine PyProof.Rows.callWith_type1 ?_ (by rw[hs];rfl) U;rw[hs];show wpAny _ _ (spliced ((false,eval e X.env)::backTo pos2 [])) _ _ s;refine Calls.spliced_cons (thn (he pins s σ H _ I h) λu s1 ⟨x,H1,I1,r1,q1⟩=>?_);refine Calls.spliced_nil ?_;obtain⟨n,rfl,hn,q⟩:=q1;obtain⟨t,rfl⟩:=r1;refine call_range_1 ?_;refine Calls.spliced_nil ?_;refine call_list_range (n:=n) (I1.ok.hd hc) (IsRange.new ..) (small_one Qw Qw Qw Qw) (by rw[rangeSize_one];split<;>omega) Qw λh' tk acc c' kp gl hI=>?_;have kp1:∀b o,s1.heap.get? b=some o->h'.get? b=some o:=λb o e=>kp b o (qa _ e)
 have hv:ar ((List.range n).map λj:Nat=>V.int j) acc.toList:=tH (by rw[qM];exact hI.1) λi v hv=>by
  obtain⟨t,e⟩:=hI.2 i v (by simpa using hv);exact⟨t,by rw[e];congr 1;omega⟩
 have sz:(s1.heap.push { cls:=.type "range",data:=.fields #[.int 0 s1.toks,.int n t,.int 1 (s1.toks+1)] }).objs.size=s1.heap.objs.size+1:=Qf ..;have big:(100000:Nat)<=sizeLine:=Qz;have J:=I1.laid (t':=tk) (h':=h') (a:=(s1.heap.push { cls:=.type "range",data:=.fields #[.int 0 s1.toks,.int n t,.int 1 (s1.toks+1)] }).objs.size) (o:=.lst ((List.range n).map λj:Nat=>V.int j)) kp1 (by rw[sz];exact Nat.le_succ _) ⟨by rw[q9,Qd];omega,acc.toList,c',hv,by simpa using gl⟩;exact⟨.ref (s1.heap.push { cls:=.type "range",data:=.fields #[.int 0 s1.toks,.int n t,.int 1 (s1.toks+1)] }).objs.size,_,J,U,q _ (I1.hok.fresh (by rw[sz];exact Nat.le_succ _))⟩
end
structure fB(K:W.Frag)(x qual:Str)(st:Stmt)(f:Addr)(fd:FuncData)(dvs:Array Value):Prop where
 ex:∃(oc:Value)(od:Option Addr)(kV doc pm:Value)(an:Option Addr)(cdv ct:Value)(osl:Array (Option Value))(dt:Addr)(d2:Option Addr)(n:Nat)(e2:Array (Option Value)),
  fd=PySem.W.fnOf x qual (cE st) (cm st) (am st) (.ref dt) kV doc pm an cdv ct/\K.lookup f=some ⟨oc,od,.func fd,osl⟩/\PySem.W.codeIn K cdv qual=true/\K.lookup dt=some ⟨.type "tuple",d2,.seq dvs n,e2⟩
 kp:PySem.W.keepIn K (.ref f)=true
section
variable {P:Program}{w:World}{K:W.Frag}{mg:Str->Option Value}{base:Heap}
theorem fB.ok{x qual:Str}{st:Stmt}{f:Addr}{fd:FuncData}{dvs:Array Value}{N ps:List Str}{k:Nat}{sp:Sp}(F:fB K x qual st f fd dvs)(S:aI N ps (am st))(len:∀vs H Q E,sp vs H Q E->vs.length=ps.length)
 (hbody:∀(cdv:Value)(A:Around)(outer:List Env)(s:Shared)(H:Hp)(vs:List V)(Q:VK)(E:XK),bA k (A.deeper (envOfC qual (am st) s.heap.objs.size f cdv))->sp vs H Q E->
  ∃t,PSs (dJ CX0 P w K mg base N qual (am st) f cdv A outer s H E).nox (cm st) t/\t { nx:=λ_ H'=>Q .non H',rt:=Q } (start N vs) H):aA P w K mg base CX0 (k+1) f fd ps sp:=by
 obtain⟨oc,od,kV,doc,pm,an,cdv,ct,osl,dt,d2,n,e2,rfl,lk,hcd,lt⟩:=F.ex;refine se lk hcd S len λA outer s H vs Q E hr hsp=>?_;obtain⟨t,h,q⟩:=hbody cdv A outer s H vs Q E hr hsp;exact⟨t,h.nox,q⟩
theorem fB.binds{x qual:Str}{st:Stmt}{f:Addr}{fd:FuncData}{dvs:Array Value}{ps:List Str}(F:fB K x qual st f fd dvs)(ds:List Value)
 (h:∀(kV doc pm:Value)(an:Option Addr)(cdv ct:Value)(dt:Addr)(o:Obj)(n:Nat)(s:Shared)(us:List Value),s.heap.get? dt=some o->o.data=.seq dvs n->(us++ds).length=ps.length->
  BindsTo s (PySem.W.fnOf x qual (cE st) (cm st) (am st) (.ref dt) kV doc pm an cdv ct) ⟨us,[]⟩ (ps.zip (us++ds))):aC K fd ps ds:=by
 obtain⟨oc,od,kV,doc,pm,an,cdv,ct,osl,dt,d2,n,e2,rfl,lk,hcd,lt⟩:=F.ex;exact λs us X hl=>h kV doc pm an cdv ct dt _ n s us (X _ _ lt) U hl
theorem zv{x qual:Str}{st:Stmt}{f dt:Addr}{oc:Value}{od an d2:Option Addr}{osl e2:Array (Option Value)}{n:Nat}{kV doc pm cdv ct:Value}{dvs i2:Array Value}(l:K.lookup f=some ⟨oc,od,.func (PySem.W.fnOf x qual (cE st) (cm st) (am st) (.ref dt) kV doc pm an cdv ct),osl⟩)
 (c:PySem.W.codeIn K cdv qual=true) (k:PySem.W.keepIn K (.ref f)=true) (t:K.lookup dt=some ⟨.type "tuple",d2,.seq i2 n,e2⟩) (hi:i2=dvs):fB K x qual st f (PySem.W.fnOf x qual (cE st) (cm st) (am st) (.ref dt) kV doc pm an cdv ct) dvs:=by
 subst hi;exact⟨⟨oc,od,kV,doc,pm,an,cdv,ct,osl,dt,d2,n,e2,U,l,c,t⟩,k⟩
end
def e8(xs:List V)(lo hi st:Option Int):List V:=(sliceRange (sliceBounds lo hi st xs.length).1 (sliceBounds lo hi st xs.length).2.1 (sliceBounds lo hi st xs.length).2.2).filterMap λi=>xs[i]?
theorem ar.pick{xs:List V}{us:List Value}(r:ar xs us):∀(is:List Nat),ar (is.filterMap λi=>xs[i]?) (is.filterMap λi=>us[i]?)
 |[]=>.nil
 |i::is=>by
  cases h:xs[i]? with
  |none=>
   have h2:us[i]?=none:=by
    rw[List.getElem?_eq_none_iff]at h ⊢;rw[<- r.length];exact h
   rw[List.filterMap_cons_none h,List.filterMap_cons_none h2];exact ar.pick r is
  |some x=>
   obtain⟨u,hu,rx⟩:=r.get h;rw[List.filterMap_cons_some h,List.filterMap_cons_some hu];exact .cons rx (ar.pick r is)
theorem wb{xs:List V}{lo hi st:Option Int}:(e8 xs lo hi st).length<=(sliceRange (sliceBounds lo hi st xs.length).1 (sliceBounds lo hi st xs.length).2.1 (sliceBounds lo hi st xs.length).2.2).length:=List.length_filterMap_le _ _
def tT(K:W.Frag)(te:TE)(tl th ts:TO):TE:=λσ H Q=>te σ H λx H1=>tl σ H1 λl H2=>th σ H2 λu H3=>ts σ H3 λz H4=>∃a xs,x=.ref a/\SqL K H4 a xs/\z≠some 0/\(e8 xs l u z).length<=sizeLine/\∀p,H4 p=none->Q (.ref p) (upd H4 p (.lst (e8 xs l u z)))
section
variable {X:Cx}
theorem kK{e st:Expr}{lo hi:Option Expr}{te:TE}{tl th ts:TO}{pos p2:Pos}(he:PE X e te)(hl:PO X lo tl)(hu:PO X hi th)(hs:PO X (some st) ts):PE X (.Subscript e (.Slice lo hi (some st) p2) pos) (tT X.K te tl th ts):=by
 intro pins s σ H Q I h;refine Subscript_ (thn (he pins s σ H _ I h) λv s1 ⟨x,H1,I1,r1,q1⟩=>?_);refine wpAny_Slice (thn (hl pins s1 σ H1 _ I1 q1) λvl s2 ⟨l,H2,I2,pl,q2⟩=>thn (hu pins s2 σ H2 _ I2 q2) λvu s3 ⟨u,H3,I3,pu,q3⟩=>thn (hs pins s3 σ H3 _ I3 q3) λvz s4 ⟨z,H4,I4,pz,q4⟩=>?_);obtain⟨a,xs,rfl,hx,nz,hlen,q⟩:=q4;cases r1;have I5:Inv X pins σ H4 { s4 with heap:=s4.heap.push { cls:=.type "slice",data:=.fields #[vl,vu,vz] } }:=I4.kept (t':=s4.toks) λb ob q=>qa _ q;obtain⟨its,r,ht,hz⟩:=I5.list hx;have el:its.toArray.size=xs.length:=by rw[qC];exact r.length.symm
 have hg:wpAny (model X.prog X.w) X.A (getItem (.ref a) (.ref s4.heap.objs.size)) (EP X pins σ Q) X.xe { s4 with heap:=s4.heap.push { cls:=.type "slice",data:=.fields #[vl,vu,vz] } }:=by
  refine wpAny_getItem_list_slice ht.isList (Heap.IsSliceOf.new ..) pl pu pz nz ?_ (by rw[el];exact hz);refine⟨.ref (s4.heap.push { cls:=.type "slice",data:=.fields #[vl,vu,vz] }).objs.size,_,I5.laid (t':=s4.toks) (o:=.lst (e8 xs l u z)) (λb ob q=>qa _ q) (qe _) ?_,U,q _ (I5.hok.fresh (qe _))⟩;refine⟨hlen,(sliceRange (sliceBounds l u z xs.length).1 (sliceBounds l u z xs.length).2.1 (sliceBounds l u z xs.length).2.2).filterMap (λi=>its[i]?),0,r.pick _,?_⟩
  have e:slicePick its.toArray l u z=((sliceRange (sliceBounds l u z xs.length).1 (sliceBounds l u z xs.length).2.1 (sliceBounds l u z xs.length).2.2).filterMap (λi=>its[i]?)).toArray:=by
   unfold slicePick;rw[el];simp
  rw[e];exact qp _ U
 exact tail_any (ops:=[.ref a,.ref s4.heap.objs.size]) ht.isList.typeIs slot_list_getitem.lookup hg (by with_unfolding_all rfl)
end
theorem kJ{xs:List V}{lo hi:Int}(h:hi=lo+48)(h0:0<=lo):(e8 xs (some lo) (some hi) (some 3)).length<=16:=by
 refine qy wb ?_;unfold sliceRange sliceBounds;simp only[Option.getD_some,q9,Qd];rw[qZ (by omega:¬ lo<0),qZ (by omega:¬ hi<0)];simp only[show(3:Int) > 0 from by decide,if_true];split<;>omega
open PySem.SeqAt
open PySem.AutoSeq1 (wpAny_loadPart')
open PySem.MeetsSeq PySem.MeetsSeq2 PySem.MeetsSeq3
section
variable {prog:Program}{w:World}{A:Around}
variable {R:Result->Shared->Prop}{I:Addr}{fp wr:List Addr}{n:Nat}{P:Nat->Value->Prop}{St:Nat->Heap->Prop}
end
section
variable {X:Cx}
end
def Itv(K:W.Frag)(a:Addr)(n:Nat):It:=
 ⟨λi H=>i<n/\∃xs,SqL K H a xs/\xs.length=n,λi H x H'=>H'=H/\∀xs,SqL K H a xs->xs[n-1-i]?=some x,λi _=>n<=i⟩
theorem tL{P:Program}{w:World}{K:W.Frag}{tg:Expr}(a it:Addr)(n:Nat):eP P w K tg (Itv K a n) [it] it (λi h=>i<=n/\h.IsRevIter it a ((n:Int)-1-i)) where
 mem:=by simp
 obj:=λi h st b hb=>by
  have e:b=it:=by simpa using hb
  subst e;obtain⟨_,o,e,c,d⟩:=st;exact⟨o,e,λv z=>by rw[d]at z;cases z⟩
 keep:=λi h h' st k=>⟨st.1,st.2.at λo e=>k it (by simp) o e⟩
 item:=by
  intro X hP hw hK hc i pins s σ H E I hf st hg;subst hP hw hK;obtain⟨il,xs,hq,hn⟩:=hg;obtain⟨its,rv,p,hz⟩:=I.list hq;have hx:xs[n-1-i]?=some (xs[n-1-i]' Qw):=qc _;generalize xs[n-1-i]' Qw=x at hx;obtain⟨u,hu,ru⟩:=rv.get hx;obtain⟨f0,f1,f2,f3,f4,f5⟩:=hf it (by simp);have e1:(n:Int)-1-i=((n-1-i:Nat):Int):=Qw;have st2:=st.2;rw[e1]at st2;refine wpAny_pyNext_rev_item st2 p.isList (x:=u) (by simpa using hu) λh' st' sb=>?_;have I1:Inv X pins σ H { s with heap:=h' }:=I.turned (t':=s.toks) (λb o hb e=>(sb.2 b hb).trans e) f0 f1 f3 f4 f5;obtain⟨o,e,c,d⟩:=id st';refine⟨u,U,iL (s:={ s with heap:=h' }) e c d Qz ⟨x,H,I1,ru,⟨U,λys hy=>by rw[I.list_inj hy hq];exact hx⟩,⟨il,?_⟩,λb hb=>(hf b hb).1⟩⟩;have e2:(n:Int)-1-((i+1:Nat):Int)=((n-1-i:Nat):Int)-1:=Qw;rw[e2];exact st'
 done:=by
  intro X hP hw hK hc i pins s σ H E I hf st hg;subst hP hw hK;obtain⟨f0,f1,f2,f3,f4,f5⟩:=hf it (by simp);have hg:n<=i:=hg;have le:=st.1;have e1:(n:Int)-1-i=-1:=Qw;have st2:=st.2;rw[e1]at st2;exact wpAny_pyNext_rev_end (I.ok.hd hc) st2 λh' eb=>⟨U,I.turned (t':=s.toks) (λb o hb e=>eb b o hb e) f0 f1 f3 f4 f5⟩
 self:=λ_ _ _ _ _ st h=>wpAny_pyIter_revIter st.2 h
def zc(K:W.Frag)(ta:TA):TI:=λσ H R=>ta σ H λvs H1=>∃a xs,vs=[.ref a]/\SqL K H1 a xs/\R (Itv K a xs.length) H1
section
variable {X:Cx}{tg:Expr}
theorem we{a:Expr}{ta:TA}{p pos:Pos}(hg:Gl X "reversed")(hm:X.mg "reversed"=none)(ha:PA X [a] ta)(hs:starEach [a] X.env=[(false,eval a X.env)]:=by rfl):
 PI X tg (.Call (.Name "reversed" p) [a] [] pos) (zc X.K ta):=by
 intro pins s σ H R I h;refine Call_ (dk I hg hm PyProof.Rows.Boot.«reversed» (PyProof.Rows.callWith_type1 (thn (ha pos pins s σ H _ I h) λus s1 ⟨vs,H1,I1,r1,q1⟩=>?_) (by rw[hs];rfl) (by rfl)));obtain⟨l,xs,rfl,hx,q⟩:=q1;obtain⟨u,rfl,ru⟩:=dO r1;cases ru;obtain⟨its,rv,pl,z1⟩:=I1.list hx;have hl:=rv.length;refine call_reversed_list pl.isList ?_;have e0:(its.toArray.size:Int)-1=(xs.length:Int)-1-((0:Nat):Int):=by simp;omega
 have hit:(s1.heap.push (revObj l ((its.toArray.size:Int)-1))).IsRevIter s1.heap.objs.size l ((xs.length:Int)-1-((0:Nat):Int)):=by
  rw[<- e0];exact⟨_,qp _ U,U,U⟩
 refine wpAny_pyIter_revIter hit ⟨s1.heap.objs.size,[s1.heap.objs.size],_,_,H1,U,I1.kept (t':=s1.toks) λb o e=>qa _ e,tL l _ xs.length,⟨qt _,hit⟩,λb hb=>?_,q⟩;have e:b=s1.heap.objs.size:=by simpa using hb
 subst e;exact I1.fpOk (qe _) (I1.hok.fresh (qe _))
end
theorem zx{K:W.Frag}{a:Addr}{xs:List V}{g:TG}{tb:TS}{D:dD}{σ:St}{H:Hp}(Pv:Nat->St->Hp->Prop)(h0:Pv 0 σ H)(hl:∀i σ H,Pv i σ H->SqL K H a xs)
 (hs:∀i x σ H,xs.reverse[i]?=some x->Pv i σ H->g x σ H λσ2 H2=>tb { D with nx:=Pv (i+1),ct:=Pv (i+1),bk:=D.nx } σ2 H2) (hd:∀σ H,Pv xs.length σ H->D.nx σ H):
 ∃W:Nat->Nat->St->Hp->Prop,(∃m,W 0 m σ H)/\∀i m σ H,W i m σ H->
  ((Itv K a xs.length).stop i H/\D.nx σ H)\/((Itv K a xs.length).go i H/\∃N:St->Hp->Prop,(∀σ' H',N σ' H'->∃m',m'<m/\W (i+1) m' σ' H')/\∀x H',(Itv K a xs.length).yld i H x H'->g x σ H' λσ2 H2=>tb { D with nx:=N,ct:=N,bk:=D.nx } σ2 H2):=by
 refine⟨λi m σ H=>m=xs.length-i/\i<=xs.length/\Pv i σ H,⟨xs.length,by simp,qt _,h0⟩,?_⟩;rintro i m σ H ⟨rfl,hi,p⟩;have q:=hl i σ H p;by_cases hlt:i<xs.length
 ·refine .inr ⟨⟨hlt,xs,q,U⟩,Pv (i+1),λσ' H' p'=>⟨xs.length-(i+1),Qw,U,hlt,p'⟩,λx H' y=>?_⟩;obtain⟨e,y⟩:=y;subst e;refine hs i x σ _ ?_ p;rw[List.getElem?_reverse hlt];exact y xs q
 ·obtain rfl:i=xs.length:=by omega
  exact .inl ⟨qe _,hd σ H p⟩
end L2
set_option Elab.async false
set_option maxRecDepth 100000
set_option maxHeartbeats 4000000
namespace K45
open PySem L2 Tr
seal PE PT PW PA PS PSs PG PGs PI PTs PO OpR UnR cs TruR IxR SlR
local macro_rules|`(tactic| walk_at "rds")=>`(tactic| first|assumption|decide|omega)
local macro_rules|`(tactic| walk_at "rd")=>`(tactic| repeat (first|refine⟨_,rfl,?_⟩|refine⟨_,_,rfl,rfl,?_⟩|refine⟨rfl,_,rfl,?_⟩|refine⟨_,_,rfl,rfl,by walk_at "rds",?_⟩|refine And.intro (by walk_at "rds") ?_))
local macro_rules|`(tactic| walk_at "yes")=>`(tactic| refine bn (by decide +kernel) ?_)
local macro_rules|`(tactic| walk_at "no")=>`(tactic| refine aJ (by decide +kernel) ?_)
abbrev jR:Stmt:=inClass (top 1) 0
abbrev jN:Stmt:=inClass (top 1) 1
abbrev jQ:Stmt:=inClass (top 1) 2
abbrev jP:Stmt:=inClass (top 1) 3
abbrev jM:Stmt:=inClass (top 1) 4
abbrev jO:Stmt:=inClass (top 1) 5
abbrev jp:Stmt:=top 4
abbrev jk:Stmt:=top 5
abbrev gw:Stmt:=inClass (top 7) 0
abbrev jH:Stmt:=inClass (top 7) 1
abbrev jG:Stmt:=inClass (top 7) 2
abbrev jJ:Stmt:=inClass (top 7) 3
abbrev jI:Stmt:=inClass (top 7) 4
abbrev jF:Stmt:=inClass (top 7) 5
abbrev ic:Stmt:=inClass (top 7) 6
abbrev jY:Stmt:=inClass (top 8) 0
abbrev jX:Stmt:=inClass (top 8) 1
abbrev jW:Stmt:=inClass (top 9) 0
abbrev ie:Stmt:=inClass (top 9) 1
abbrev jL:Stmt:=inClass (top 10) 0
abbrev jK:Stmt:=inClass (top 10) 1
abbrev ka:Stmt:=inClass (top 11) 0
abbrev k9:Stmt:=inClass (top 11) 1
abbrev k7:Stmt:=inClass (top 12) 0
abbrev jZ:Stmt:=inClass (top 12) 1
abbrev k6:Stmt:=inClass (top 12) 2
abbrev jo:Stmt:=top 13
abbrev jn:Stmt:=top 14
abbrev dW:Stmt:=inClass (top 16) 0
abbrev jS:Stmt:=inClass (top 16) 1
abbrev jU:Stmt:=inClass (top 16) 2
abbrev fJ:Stmt:=inClass (top 16) 3
abbrev jV:Stmt:=inClass (top 16) 4
abbrev jT:Stmt:=inClass (top 16) 5
abbrev jm:Stmt:=top 17
abbrev jE:Stmt:=top 19
abbrev jz:Stmt:=top 20
abbrev jy:Stmt:=top 21
abbrev jr:Stmt:=top 22
abbrev i9:Stmt:=top 23
abbrev jx:Stmt:=top 24
abbrev ju:Stmt:=top 25
abbrev i6:Stmt:=top 26
abbrev eY:Stmt:=top 27
abbrev i4:Stmt:=top 28
abbrev i7:Stmt:=top 29
abbrev jq:Stmt:=top 30
abbrev i8:Stmt:=top 31
abbrev jw:Stmt:=top 32
abbrev jC:Stmt:=top 33
abbrev jB:Stmt:=top 34
abbrev jt:Stmt:=top 35
abbrev jA:Stmt:=top 36
abbrev jD:Stmt:=top 37
abbrev hZ:Stmt:=top 38
abbrev dU:Stmt:=top 39
theorem v8:aI ["self","things"] ["self","things"] (am jR):=⟨U,U,U,Qy,U,Qy,Qy⟩
theorem uW:aI ["self"] ["self"] (am jN):=⟨U,U,U,Qy,U,Qy,Qy⟩
theorem uZ:aI ["self"] ["self"] (am jQ):=⟨U,U,U,Qy,U,Qy,Qy⟩
theorem uY:aI ["self","thing"] ["self","thing"] (am jP):=⟨U,U,U,Qy,U,Qy,Qy⟩
theorem oH:aI ["self","thing"] ["self"] (am jM):=⟨U,U,U,Qy,U,Qy,Qy⟩
theorem uX:aI ["self"] ["self"] (am jO):=⟨U,U,U,Qy,U,Qy,Qy⟩
theorem uI:aI ["sign","a","b"] ["sign","a","b"] (am jp):=⟨U,U,U,Qy,U,Qy,Qy⟩
theorem uG:aI ["sign","a","b"] ["sign","a","b"] (am jk):=⟨U,U,U,Qy,U,Qy,Qy⟩
theorem uU:aI ["self","lines"] ["self","lines"] (am gw):=⟨U,U,U,Qy,U,Qy,Qy⟩
theorem uR:aI ["self","line"] ["self","line"] (am jH):=⟨U,U,U,Qy,U,Qy,Qy⟩
theorem oG:aI ["self","line","length"] ["self","line"] (am jG):=⟨U,U,U,Qy,U,Qy,Qy⟩
theorem uT:aI ["self","line"] ["self","line"] (am jJ):=⟨U,U,U,Qy,U,Qy,Qy⟩
theorem uS:aI ["self","line","thing"] ["self","line","thing"] (am jI):=⟨U,U,U,Qy,U,Qy,Qy⟩
theorem uP:aI ["self","line"] ["self","line"] (am jF):=⟨U,U,U,Qy,U,Qy,Qy⟩
theorem uQ:aI ["self"] ["self"] (am ic):=⟨U,U,U,Qy,U,Qy,Qy⟩
theorem ve:aI ["self","ins"] ["self","ins"] (am jY):=⟨U,U,U,Qy,U,Qy,Qy⟩
theorem vd:aI ["self","yard"] ["self","yard"] (am jX):=⟨U,U,U,Qy,U,Qy,Qy⟩
theorem vc:aI ["self","ins","outs","route"] ["self","ins","outs","route"] (am jW):=⟨U,U,U,Qy,U,Qy,Qy⟩
theorem vb:aI ["self","things"] ["self","things"] (am ie):=⟨U,U,U,Qy,U,Qy,Qy⟩
theorem uV:aI ["self","ins","out","sign","sides"] ["self","ins","out","sign","sides"] (am jL):=⟨U,U,U,Qy,U,Qy,Qy⟩
theorem jj:aI ["self","things","left","right"] ["self","things"] (am jK):=⟨U,U,U,Qy,U,Qy,Qy⟩
theorem vi:aI ["self","ins","which","ones","noughts","told"] ["self","ins","which","ones","noughts","told"] (am ka):=⟨U,U,U,Qy,U,Qy,Qy⟩
theorem vh:aI ["self","things"] ["self","things"] (am k9):=⟨U,U,U,Qy,U,Qy,Qy⟩
theorem vg:aI ["self","told","ones","noughts","outs"] ["self","told","ones","noughts","outs"] (am k7):=⟨U,U,U,Qy,U,Qy,Qy⟩
theorem oJ:aI ["self","yard","thing"] ["self","yard"] (am jZ):=⟨U,U,U,Qy,U,Qy,Qy⟩
theorem vf:aI ["self","things"] ["self","things"] (am k6):=⟨U,U,U,Qy,U,Qy,Qy⟩
theorem uH:aI ["side","things"] ["side","things"] (am jo):=⟨U,U,U,Qy,U,Qy,Qy⟩
theorem oy:aI ["row","kind"] ["row"] (am jn):=⟨U,U,U,Qy,U,Qy,Qy⟩
theorem va:aI ["self","lines","parts","pace","most"] ["self","lines","parts","pace","most"] (am dW):=⟨U,U,U,Qy,U,Qy,Qy⟩
theorem gq:aI ["self","now","part","takers"] ["self"] (am jS):=⟨U,U,U,Qy,U,Qy,Qy⟩
theorem fI:aI ["self","now","part","things","line","thing"] ["self","now","part"] (am jU):=⟨U,U,U,Qy,U,Qy,Qy⟩
theorem gu:aI ["self","now","part","wanted","line","things"] ["self","now","part"] (am fJ):=⟨U,U,U,Qy,U,Qy,Qy⟩
theorem v9:aI ["self","turn","parts"] ["self","turn","parts"] (am jV):=⟨U,U,U,Qy,U,Qy,Qy⟩
theorem oI:aI ["self","part","row"] ["self","part"] (am jT):=⟨U,U,U,Qy,U,Qy,Qy⟩
theorem je:aI ["lines","parts","pace","most","playing","still"] ["lines","parts","pace","most"] (am jm):=⟨U,U,U,Qy,U,Qy,Qy⟩
theorem uO:aI ["_law_script","_law_k"] ["_law_script","_law_k"] (am jE):=⟨U,U,U,Qy,U,Qy,Qy⟩
theorem oE:aI ["_law_cell_here","_law_k","_law_m"] ["_law_cell_here","_law_k"] (am jz):=⟨U,U,U,Qy,U,Qy,Qy⟩
theorem oC:aI ["_law_cell_here","_law_way","_law_c"] ["_law_cell_here","_law_way"] (am jy):=⟨U,U,U,Qy,U,Qy,Qy⟩
theorem uK:aI ["_law_cell_here","_law_way"] ["_law_cell_here","_law_way"] (am jr):=⟨U,U,U,Qy,U,Qy,Qy⟩
theorem gp:aI ["_law_cell_here","_law_k","_law_m","_law_length","_law_many"] ["_law_cell_here","_law_k"] (am i9):=⟨U,U,U,Qy,U,Qy,Qy⟩
theorem jg:aI ["_law_pool","_law_other","_law_lines","_law_many","_law_way","_law_out","_law_k"] ["_law_pool","_law_other","_law_lines","_law_many","_law_way"] (am jx):=⟨U,U,U,Qy,U,Qy,Qy⟩
theorem uL:aI ["_law_way","_law_width","_law_cell_here"] ["_law_way","_law_width","_law_cell_here"] (am ju):=⟨U,U,U,Qy,U,Qy,Qy⟩
theorem cP:aI ["_law_cell_here","_law_k","_law_takers","_law_givers","_law_lines","_law_m","_law_n","_law_w","_law_ins","_law_outs","_law_out","_law_left","_law_at"] ["_law_cell_here","_law_k","_law_takers","_law_givers","_law_lines"] (am i6):=⟨U,U,U,Qy,U,Qy,Qy⟩
theorem dS:aI ["_law_script","_law_cells","_law_many","_law_takers","_law_givers","_law_parts","_law_seeds","_law_lines"] ["_law_script"] (am eY):=⟨U,U,U,Qy,U,Qy,Qy⟩
theorem oA:aI ["_law_cell_here","_law_k","_law_m"] ["_law_cell_here","_law_k"] (am i4):=⟨U,U,U,Qy,U,Qy,Qy⟩
theorem uM:aI ["_law_script","_law_way"] ["_law_script","_law_way"] (am i7):=⟨U,U,U,Qy,U,Qy,Qy⟩
theorem uJ:aI ["_law_row","_law_rows"] ["_law_row","_law_rows"] (am jq):=⟨U,U,U,Qy,U,Qy,Qy⟩
theorem ji:aI ["_law_parts","_law_log","_law_loads_here","_law_entry"] ["_law_parts","_law_log"] (am i8):=⟨U,U,U,Qy,U,Qy,Qy⟩
theorem oB:aI ["_law_row","_law_rows","_law_line_here"] ["_law_row","_law_rows"] (am jw):=⟨U,U,U,Qy,U,Qy,Qy⟩
theorem uN:aI ["_law_row","_law_things"] ["_law_row","_law_things"] (am jC):=⟨U,U,U,Qy,U,Qy,Qy⟩
theorem oF:aI ["_law_log","_law_place","_law_entry"] ["_law_log","_law_place"] (am jB):=⟨U,U,U,Qy,U,Qy,Qy⟩
theorem fH:aI ["_law_lines","_law_parts","_law_log","_law_left","_law_loads_here","_law_k","_law_full","_law_line_here"] ["_law_lines","_law_parts","_law_log","_law_left"] (am jt):=⟨U,U,U,Qy,U,Qy,Qy⟩
theorem jh:aI ["_law_parts","_law_log","_law_left","_law_loads_here","_law_k"] ["_law_parts","_law_log","_law_left"] (am jA):=⟨U,U,U,Qy,U,Qy,Qy⟩
theorem hX:aI ["_law_log","_law_most","_law_many","_law_k"] ["_law_log","_law_most"] (am jD):=⟨U,U,U,Qy,U,Qy,Qy⟩
theorem jf:aI ["_law_m","_law_found","_law_takings"] ["_law_m"] (am hZ):=⟨U,U,U,Qy,U,Qy,Qy⟩
theorem cW:aI ["_law_script","_law_lines","_law_parts","_law_m","_law_pace_here","_law_most","_law_still","_law_log","_law_left","_law_takings","_law_fewer","_law_found"] ["_law_script"] (am dU):=⟨U,U,U,Qy,U,Qy,Qy⟩
set_option genInjectivity false in
structure Adr where
 AU:Addr
 AV:FuncData
 AW:Addr
 AX:FuncData
 AY:Addr
 AZ:FuncData
 B0:Addr
 B2:FuncData
 B7:Addr
 Ba:FuncData
 Bb:Addr
 Bc:FuncData
 done:Addr
 Bd:FuncData
 Be:Addr
 Bf:FuncData
 Bg:Addr
 Bh:FuncData
 Bi:Addr
 Bj:FuncData
 Bk:Addr
 Bl:FuncData
 Bm:Addr
 Bn:FuncData
 Bo:Addr
 Bp:FuncData
 Bq:Addr
 Br:FuncData
 Bs:Addr
 Bt:FuncData
 AF:Addr
 Bu:FuncData
 At:Addr
 Bv:FuncData
 Bw:Addr
 Bx:FuncData
 By:Addr
 Bz:FuncData
 BA:Addr
 BB:FuncData
 BC:Addr
 BD:FuncData
 BE:Addr
 BF:FuncData
 BG:Addr
 BH:FuncData
 BI:Addr
 BJ:FuncData
 BK:Addr
 BL:FuncData
 BM:Addr
 BN:FuncData
 BO:Addr
 BP:FuncData
 BQ:Addr
 BR:FuncData
 BS:Addr
 BU:FuncData
 BV:Addr
 BW:FuncData
 BX:Addr
 BY:FuncData
 AA:Addr
 BZ:FuncData
 C1:Addr
 C2:FuncData
 C3:Addr
 C4:FuncData
 C5:Addr
 AB:FuncData
 AG:Tok
 C6:Addr
 C7:FuncData
 C8:Addr
 C9:FuncData
 Ca:Addr
 Cb:FuncData
 Cc:Addr
 Cd:FuncData
 Ce:Addr
 Cf:FuncData
 Cg:Addr
 Ch:FuncData
 Ci:Addr
 Cj:FuncData
 Ck:Addr
 Cl:FuncData
 Cm:Addr
 Cn:FuncData
 Co:Addr
 Cp:FuncData
 Cq:Addr
 Cr:FuncData
 Cs:Addr
 Ct:FuncData
 Cu:Addr
 Cv:FuncData
 Cw:Addr
 Cy:FuncData
 Cz:Addr
 CA:FuncData
 CB:Addr
 CC:FuncData
 CD:Addr
 CF:FuncData
 CG:Addr
 CH:FuncData
 CI:Addr
 CJ:FuncData
 CK:Addr
 CL:FuncData
 CM:Addr
 CN:FuncData
 D6:Tok
 gt:Addr
 ld:Addr
 Au:Addr
 u8:Addr
 r9:Addr
 om:Addr
 or:Addr
 f8:Addr
structure Tx(P:Program)(w:World)(K:W.Frag)(mg:Str->Option Value)(a:Adr):Prop where
 DZ:Fun K "__init__" "Queue.__init__" jR a.AU a.AV
 E1:aC K a.AV ["self","things"] []
 E2:Fun K "standing" "Queue.standing" jN a.AW a.AX
 D7:aC K a.AX ["self"] []
 E3:Fun K "head" "Queue.head" jQ a.AY a.AZ
 E4:aC K a.AZ ["self"] []
 E5:Fun K "lay" "Queue.lay" jP a.B0 a.B2
 E6:aC K a.B2 ["self","thing"] []
 E7:Fun K "take" "Queue.take" jM a.B7 a.Ba
 E8:aC K a.Ba ["self"] []
 E9:Fun K "rest" "Queue.rest" jO a.Bb a.Bc
 Ea:aC K a.Bc ["self"] []
 D8:Fun K "done" "done" jp a.done a.Bd
 Eb:aC K a.Bd ["sign","a","b"] []
 Ec:mg "done"=some (.ref a.done)
 Da:Fun K "reckoned" "reckoned" jk a.Be a.Bf
 Ed:aC K a.Bf ["sign","a","b"] []
 Ee:mg "reckoned"=some (.ref a.Be)
 Ef:Fun K "__init__" "Yard.__init__" gw a.Bg a.Bh
 Eg:aC K a.Bh ["self","lines"] []
 Eh:Fun K "holds" "Yard.holds" jH a.Bi a.Bj
 Dc:aC K a.Bj ["self","line"] []
 Ei:Fun K "room" "Yard.room" jG a.Bk a.Bl
 Ej:aC K a.Bl ["self","line"] []
 Ek:Fun K "first" "Yard.first" jJ a.Bm a.Bn
 El:aC K a.Bn ["self","line"] []
 Em:Fun K "hand" "Yard.hand" jI a.Bo a.Bp
 En:aC K a.Bp ["self","line","thing"] []
 Eo:Fun K "taken" "Yard.taken" jF a.Bq a.Br
 Ep:aC K a.Br ["self","line"] []
 Er:Fun K "stands" "Yard.stands" ic a.Bs a.Bt
 Es:aC K a.Bt ["self"] []
 Eu:Fun K "__init__" "Part.__init__" jY a.AF a.Bu
 AH:aC K a.Bu ["self","ins"] []
 Ev:Fun K "wants" "Part.wants" jX a.At a.Bv
 CO:aC K a.Bv ["self","yard"] []
 Ew:Fun K "__init__" "Pass.__init__" jW a.Bw a.Bx
 Ex:aC K a.Bx ["self","ins","outs","route"] []
 Ey:Fun K "made" "Pass.made" ie a.By a.Bz
 Ez:aC K a.Bz ["self","things"] []
 EA:Fun K "__init__" "Work.__init__" jL a.BA a.BB
 EB:aC K a.BB ["self","ins","out","sign","sides"] []
 EC:Fun K "made" "Work.made" jK a.BC a.BD
 ED:aC K a.BD ["self","things"] []
 EE:Fun K "__init__" "Choose.__init__" ka a.BE a.BF
 EF:aC K a.BF ["self","ins","which","ones","noughts","told"] []
 EG:Fun K "made" "Choose.made" k9 a.BG a.BH
 EH:aC K a.BH ["self","things"] []
 EI:Fun K "__init__" "Merge.__init__" k7 a.BI a.BJ
 EJ:aC K a.BJ ["self","told","ones","noughts","outs"] []
 EK:Fun K "wants" "Merge.wants" jZ a.BK a.BL
 EL:aC K a.BL ["self","yard"] []
 EM:Fun K "made" "Merge.made" k6 a.BM a.BN
 EN:aC K a.BN ["self","things"] []
 CP:Fun K "on_side" "on_side" jo a.BO a.BP
 Dd:aC K a.BP ["side","things"] []
 De:mg "on_side"=some (.ref a.BO)
 Df:Fun K "part_of" "part_of" jn a.BQ a.BR
 EO:aC K a.BR ["row"] []
 EQ:mg "part_of"=some (.ref a.BQ)
 ER:Fun K "__init__" "Play.__init__" dW a.BS a.BU
 ES:aC K a.BU ["self","lines","parts","pace","most"] []
 ET:Fun K "to_its_end" "Play.to_its_end" jS a.BV a.BW
 EU:aC K a.BW ["self"] []
 EV:Fun K "give" "Play.give" jU a.BX a.BY
 EW:aC K a.BY ["self","now","part"] []
 EX:Fun K "take" "Play.take" fJ a.AA a.BZ
 EY:aC K a.BZ ["self","now","part"] []
 EZ:Fun K "await_turn" "Play.await_turn" jV a.C1 a.C2
 Dg:aC K a.C2 ["self","turn","parts"] []
 Fa:Fun K "rest_of" "Play.rest_of" jT a.C3 a.C4
 Fb:aC K a.C4 ["self","part"] []
 AI:fB K "play" "play" jm a.C5 a.AB #[.none,.int 5000 a.AG]
 Gw:aC K a.AB ["lines","parts","pace","most"] [.int 5000 a.AG]
 Fc:aC K a.AB ["lines","parts","pace","most"] [.none,.int 5000 a.AG]
 Dh:aC K a.AB ["lines","parts","pace","most"] []
 CQ:mg "play"=some (.ref a.C5)
 AJ:Fun K "_law_cell" "_law_cell" jE a.C6 a.C7
 CS:aC K a.C7 ["_law_script","_law_k"] []
 CT:mg "_law_cell"=some (.ref a.C6)
 Aq:Fun K "_law_mixed" "_law_mixed" jz a.C8 a.C9
 Av:aC K a.C9 ["_law_cell_here","_law_k"] []
 Aw:mg "_law_mixed"=some (.ref a.C8)
 CU:Fun K "_law_number" "_law_number" jy a.Ca a.Cb
 Di:aC K a.Cb ["_law_cell_here","_law_way"] []
 Dj:mg "_law_number"=some (.ref a.Ca)
 Dk:Fun K "_law_thing" "_law_thing" jr a.Cc a.Cd
 Fd:aC K a.Cd ["_law_cell_here","_law_way"] []
 Fe:mg "_law_thing"=some (.ref a.Cc)
 Dl:Fun K "_law_line" "_law_line" i9 a.Ce a.Cf
 Ff:aC K a.Cf ["_law_cell_here","_law_k"] []
 Fg:mg "_law_line"=some (.ref a.Ce)
 xz:Fun K "_law_picked" "_law_picked" jx a.Cg a.Ch
 An:aC K a.Ch ["_law_pool","_law_other","_law_lines","_law_many","_law_way"] []
 Ao:mg "_law_picked"=some (.ref a.Cg)
 CV:Fun K "_law_side" "_law_side" ju a.Ci a.Cj
 Dm:aC K a.Cj ["_law_way","_law_width","_law_cell_here"] []
 Dn:mg "_law_side"=some (.ref a.Ci)
 Do:Fun K "_law_part" "_law_part" i6 a.Ck a.Cl
 Fh:aC K a.Cl ["_law_cell_here","_law_k","_law_takers","_law_givers","_law_lines"] []
 Fi:mg "_law_part"=some (.ref a.Ck)
 Dp:Fun K "_law_net" "_law_net" eY a.Cm a.Cn
 Fj:aC K a.Cn ["_law_script"] []
 Fk:mg "_law_net"=some (.ref a.Cm)
 Dr:Fun K "_law_rests" "_law_rests" i4 a.Co a.Cp
 Fl:aC K a.Cp ["_law_cell_here","_law_k"] []
 Fm:mg "_law_rests"=some (.ref a.Co)
 Ds:Fun K "_law_pace" "_law_pace" i7 a.Cq a.Cr
 Fn:aC K a.Cr ["_law_script","_law_way"] []
 Fo:mg "_law_pace"=some (.ref a.Cq)
 Du:Fun K "_law_wanted" "_law_wanted" jq a.Cs a.Ct
 Fp:aC K a.Ct ["_law_row","_law_rows"] []
 Fq:mg "_law_wanted"=some (.ref a.Cs)
 CW:Fun K "_law_loads" "_law_loads" i8 a.Cu a.Cv
 Dv:aC K a.Cv ["_law_parts","_law_log"] []
 Dw:mg "_law_loads"=some (.ref a.Cu)
 CY:Fun K "_law_ready" "_law_ready" jw a.Cw a.Cy
 Dx:aC K a.Cy ["_law_row","_law_rows"] []
 Dy:mg "_law_ready"=some (.ref a.Cw)
 Dz:Fun K "_law_gives" "_law_gives" jC a.Cz a.CA
 Fr:aC K a.CA ["_law_row","_law_things"] []
 Fs:mg "_law_gives"=some (.ref a.Cz)
 DA:Fun K "_law_last" "_law_last" jB a.CB a.CC
 Ft:aC K a.CC ["_law_log","_law_place"] []
 Fu:mg "_law_last"=some (.ref a.CB)
 DB:Fun K "_law_stuck" "_law_stuck" jt a.CD a.CF
 Fv:aC K a.CF ["_law_lines","_law_parts","_law_log","_law_left"] []
 Fw:mg "_law_stuck"=some (.ref a.CD)
 DC:Fun K "_law_may" "_law_may" jA a.CG a.CH
 Fx:aC K a.CH ["_law_parts","_law_log","_law_left"] []
 Fy:mg "_law_may"=some (.ref a.CG)
 DD:Fun K "_law_cut" "_law_cut" jD a.CI a.CJ
 FA:aC K a.CJ ["_law_log","_law_most"] []
 FB:mg "_law_cut"=some (.ref a.CI)
 DE:Fun K "_law_ring" "_law_ring" hZ a.CK a.CL
 FC:aC K a.CL ["_law_m"] []
 FD:mg "_law_ring"=some (.ref a.CK)
 FE:Fun K "law" "law" dU a.CM a.CN
 Gx:aC K a.CN ["_law_script"] []
 Gy:mg "law"=some (.ref a.CM)
 DF:mg "enumerate"=none
 mt:mg "len"=none
 Ax:mg "list"=none
 FF:mg "max"=none
 DG:mg "min"=none
 wS:mg "range"=none
 FG:mg "reversed"=none
 DH:mg "sorted"=none
 CZ:mg "tuple"=none
 AC:mg "zip"=none
 FH:mg "WHEEL"=some (.int 1000000000000000000000000000000 a.D6)
 FI:mg "Queue"=some (.ref a.gt)
 r6:Cls K a.gt
 FJ:Mk K a.gt a.AU
 DI:aP K a.gt "standing" a.AW
 FK:aP K a.gt "head" a.AY
 FL:aP K a.gt "lay" a.B0
 FM:aP K a.gt "take" a.B7
 FN:aP K a.gt "rest" a.Bb
 Ay:bc K a.gt "laid"
 Ar:bc K a.gt "gone"
 FO:mg "Yard"=some (.ref a.ld)
 wp:Cls K a.ld
 FP:Mk K a.ld a.Bg
 DJ:aP K a.ld "holds" a.Bi
 FQ:aP K a.ld "room" a.Bk
 FR:aP K a.ld "first" a.Bm
 FS:aP K a.ld "hand" a.Bo
 FT:aP K a.ld "taken" a.Bq
 FU:aP K a.ld "stands" a.Bs
 DK:bc K a.ld "lengths"
 Az:bc K a.ld "queues"
 AK:mg "Part"=some (.ref a.Au)
 Gz:Cls K a.Au
 GA:Mk K a.Au a.AF
 GB:aP K a.Au "wants" a.At
 GC:bc K a.Au "ins"
 FV:mg "Pass"=some (.ref a.u8)
 Ap:Cls K a.u8
 FW:Mk K a.u8 a.Bw
 FX:aP K a.u8 "made" a.By
 FY:aP K a.u8 "wants" a.At
 DL:bc K a.u8 "ins"
 DM:bc K a.u8 "outs"
 DN:bc K a.u8 "route"
 FZ:mg "Work"=some (.ref a.r9)
 wT:Cls K a.r9
 Ga:Mk K a.r9 a.BA
 Gb:aP K a.r9 "made" a.BC
 Gc:aP K a.r9 "wants" a.At
 DO:bc K a.r9 "ins"
 DP:bc K a.r9 "out"
 DQ:bc K a.r9 "sign"
 D0:bc K a.r9 "sides"
 Ge:mg "Choose"=some (.ref a.om)
 wE:Cls K a.om
 Gf:Mk K a.om a.BE
 Gg:aP K a.om "made" a.BG
 Gh:aP K a.om "wants" a.At
 DR:bc K a.om "ins"
 DS:bc K a.om "which"
 DT:bc K a.om "ones"
 DU:bc K a.om "noughts"
 D3:bc K a.om "told"
 Gi:mg "Merge"=some (.ref a.or)
 wP:Cls K a.or
 Gj:Mk K a.or a.BI
 Gk:aP K a.or "wants" a.BK
 Gm:aP K a.or "made" a.BM
 AL:bc K a.or "ins"
 DV:bc K a.or "ones"
 DW:bc K a.or "noughts"
 DX:bc K a.or "outs"
 Gn:mg "Play"=some (.ref a.f8)
 dz:Cls K a.f8
 Go:Mk K a.f8 a.BS
 Gp:aP K a.f8 "to_its_end" a.BV
 Gq:aP K a.f8 "give" a.BX
 Gr:aP K a.f8 "take" a.AA
 DY:aP K a.f8 "await_turn" a.C1
 Gu:aP K a.f8 "rest_of" a.C3
 As:bc K a.f8 "yard"
 D4:bc K a.f8 "doers"
 AM:bc K a.f8 "pace"
 AN:bc K a.f8 "spare"
 AO:bc K a.f8 "log"
 D5:bc K a.f8 "held"
 AQ:bc K a.f8 "takings"
 AD:bc K a.f8 "givers"
 AE:bc K a.f8 "takers"
 AR:bc K a.f8 "without_room"
 AS:bc K a.f8 "without_thing"
 AT:me K a.Au "__init__" a.AF
theorem Tx.r_WHEEL{P:Program}{w:World}{K:W.Frag}{mg:Str->Option Value}{a:Adr}(_:Tx P w K mg a):aG (.int 1000000000000000000000000000000) (.int 1000000000000000000000000000000 a.D6):=⟨_,U⟩
def aD(o:List Nat):List V:=o.map λj:Nat=>V.int j
theorem p30:(10:Int) ^ (30:Int).toNat=1000000000000000000000000000000:=Qy
theorem p60:(10:Int) ^ (60:Int).toNat=1000000000000000000000000000000000000000000000000000000000000:=Qy
inductive mO(vs:List V)(H:Hp)(Q:VK)(E:XK):Prop
 |mk (sg:Str) (a b:Int) (h0_:vs=[.str sg,.int a,.int b]) (h1_:OnW a) (h2_:OnW b) (h3_:Q (.int (kh sg a b)) H):mO vs H Q E
inductive mS(vs:List V)(H:Hp)(Q:VK)(E:XK):Prop
 |mk (sg:Str) (a b:Int) (h0_:vs=[.str sg,.int a,.int b]) (h1_:OnW a) (h2_:OnW b) (h3_:Q (.int (fZ sg a b)) H):mS vs H Q E
inductive uh(vs:List V)(H:Hp)(Q:VK)(E:XK):Prop
 |mk (sg:Str) (a b:Int) (h0_:vs=[.str sg,.int a,.int b]) (h1_:OnW a) (h2_:OnW b) (h3_:Q (.int (fZ sg a b)) H):uh vs H Q E
theorem dN{x:Int}(h:OnW x):Builtin.Int.intBits x<=2 ^ 20:=qy ((PySem.intBits_le_iff (m:=100)).mpr (by have:=h.lo;have:=h.hi;omega)) Qz
theorem tw{x:Int}(h:OnW x):x.natAbs.log2<9000:=Nat.lt_trans (yx (by have:=h.lo;have:=h.hi;omega)) Qz
inductive ni(vs:List V)(H:Hp)(Q:VK)(E:XK):Prop
 |mk (c k:Int) (h0_:vs=[.int c,.int k]) (h1_:(0<=k/\k<=2000)) (h2_:∀m:Int,0<=m->m<2147483647->Q (.int m) H):ni vs H Q E
inductive nc(vs:List V)(H:Hp)(Q:VK)(E:XK):Prop
 |mk (c k:Int) (h0_:vs=[.int c,.int k]) (h1_:(0<=k/\k<=2147483647)) (h2_:∀m:Int,OnW m->Q (.int m) H):nc vs H Q E
inductive Sd
 |num (n:Int)
 |thing (i:Int)
inductive RS(H:Hp):V->Sd->Prop
 |num {p:Addr}{n:Int}:H p=some (.tup [.str "is",.int n])->RS H (.ref p) (.num n)
 |thing {p:Addr}{i:Int}:H p=some (.tup [.str "in",.int i])->RS H (.ref p) (.thing i)
theorem RS.same{H H':Hp}(e:aa H H'){v:V}{r:Sd}(h:RS H v r):RS H' v r:=by
 cases h with
 |num a=>exact .num (e _ _ a)
 |thing a=>exact .thing (e _ _ a)
def Sd.ok(w:Nat):Sd->Prop
 |.num n=>OnW n
 |.thing i=>0<=i/\i<w
def Sd.worth(xs:List Int):Sd->Int
 |.num n=>n
 |.thing i=>xs.getD i.toNat 0
inductive mW(vs:List V)(H:Hp)(Q:VK)(E:XK):Prop
 |mk (i j c:Int) (h0_:vs=[.int i,.int j,.int c]) (h1_:(0<=i/\i<=2000)) (h2_:0<j) (h3_:∀H' v (s:Sd),aa H H'->RS H' v s->s.ok j.toNat->Q v H'):mW vs H Q E
inductive PR
 |pass (ins outs route:List Int)
 |work (ins:List Int) (out:Int) (sg:Str) (l r:Sd)
 |choose (ins:List Int) (which:Int) (ones noughts:List Int) (told:Int)
 |merge (told:Int) (ones noughts outs:List Int)
def PR.wide:PR->Nat
 |.pass ins _ _=>ins.length
 |.work ins _ _ _ _=>ins.length
 |.choose ins _ _ _ _=>ins.length
 |.merge _ _ _ outs=>1+outs.length
structure Fit(nl:Nat)(xs:List Int):Prop where
 lo:∀x∈xs,0<=x
 hi:∀x∈xs,x<nl
 nd:(xs.map Int.toNat).Nodup
def PR.ok:PR->Prop
 |.pass ins outs route=>outs.length=route.length/\outs.length<=9/\ins.length<=9/\∀r∈route,0<=r/\r<ins.length
 |.work ins _ _ l r=>ins.length<=9/\l.ok ins.length/\r.ok ins.length
 |.choose ins which ones noughts _=>0<=which/\which<ins.length/\ones.length=ins.length/\noughts.length=ins.length/\ins.length<=9
 |.merge _ ones noughts outs=>outs.length<=9/\ones.length=outs.length/\noughts.length=outs.length
def PR.fit(nl:Nat):PR->Prop
 |.pass ins outs _=>Fit nl ins/\Fit nl outs
 |.work ins out _ _ _=>Fit nl ins/\Fit nl [out]
 |.choose ins _ ones noughts told=>Fit nl ins/\Fit nl (ones++[told])/\Fit nl (noughts++[told])
 |.merge told ones noughts outs=>Fit nl (told::ones)/\Fit nl (told::noughts)/\Fit nl outs
def PR.made(xs:List Int):PR->List (Int×Int)
 |.pass _ outs route=>outs.zip (route.map λr=>xs.getD r.toNat 0)
 |.work _ out sg l r=>[(out,fZ sg (l.worth xs) (r.worth xs))]
 |.choose _ which ones noughts told=>if xs.getD which.toNat 0=0 then noughts.zip xs++[(told,0)]else ones.zip xs++[(told,1)]
 |.merge _ _ _ outs=>outs.zip xs.tail
def PR.kind:PR->Nat
 |.pass ..=>0
 |.work ..=>1
 |.choose ..=>2
 |.merge ..=>3
def PR.word:PR->Str
 |.pass ..=>"pass"
 |.work ..=>"work"
 |.choose ..=>"choose"
 |.merge ..=>"merge"
inductive RR(H:Hp):V->PR->Prop
 |pass {p t0 t1 t2:Addr}{ins outs route:List Int}:H p=some (.tup [.str "pass",.ref t0,.ref t1,.ref t2])->H t0=some (.tup (ins.map V.int))->H t1=some (.tup (outs.map V.int))->H t2=some (.tup (route.map V.int))->RR H (.ref p) (.pass ins outs route)
 |work {p t0:Addr}{ins:List Int}{out:Int}{sg:Str}{sa sb:V}{l r:Sd}:H p=some (.tup [.str "work",.ref t0,.int out,.str sg,sa,sb])->H t0=some (.tup (ins.map V.int))->RS H sa l->RS H sb r->RR H (.ref p) (.work ins out sg l r)
 |choose {p t0 t1 t2:Addr}{ins ones noughts:List Int}{which told:Int}:H p=some (.tup [.str "choose",.ref t0,.int which,.ref t1,.ref t2,.int told])->H t0=some (.tup (ins.map V.int))->H t1=some (.tup (ones.map V.int))->H t2=some (.tup (noughts.map V.int))->RR H (.ref p) (.choose ins which ones noughts told)
 |merge {p t1 t2 t3:Addr}{told:Int}{ones noughts outs:List Int}:H p=some (.tup [.str "merge",.int told,.ref t1,.ref t2,.ref t3])->H t1=some (.tup (ones.map V.int))->H t2=some (.tup (noughts.map V.int))->H t3=some (.tup (outs.map V.int))->RR H (.ref p) (.merge told ones noughts outs)
theorem RR.same{H H':Hp}(e:aa H H'){v:V}{r:PR}(h:RR H v r):RR H' v r:=by
 cases h with
 |pass a b c d=>exact .pass (e _ _ a) (e _ _ b) (e _ _ c) (e _ _ d)
 |work a b c d=>exact .work (e _ _ a) (e _ _ b) (c.same e) (d.same e)
 |choose a b c d=>exact .choose (e _ _ a) (e _ _ b) (e _ _ c) (e _ _ d)
 |merge a b c d=>exact .merge (e _ _ a) (e _ _ b) (e _ _ c) (e _ _ d)
inductive RPt(a:Adr)(H:Hp):V->PR->Prop
 |pass {p dx t0 t1 t2:Addr}{ins outs route:List Int}:H p=some (.ins a.u8 dx [("ins",.ref t0),("outs",.ref t1),("route",.ref t2)])->H t0=some (.tup (ins.map V.int))->H t1=some (.tup (outs.map V.int))->H t2=some (.tup (route.map V.int))->RPt a H (.ref p) (.pass ins outs route)
 |work {p dx t0 ts:Addr}{ins:List Int}{out:Int}{sg:Str}{sa sb:V}{l r:Sd}:H p=some (.ins a.r9 dx [("ins",.ref t0),("out",.int out),("sign",.str sg),("sides",.ref ts)])->H t0=some (.tup (ins.map V.int))->H ts=some (.tup [sa,sb])->RS H sa l->RS H sb r->RPt a H (.ref p) (.work ins out sg l r)
 |choose {p dx t0 t1 t2:Addr}{ins ones noughts:List Int}{which told:Int}:H p=some (.ins a.om dx [("ins",.ref t0),("which",.int which),("ones",.ref t1),("noughts",.ref t2),("told",.int told)])->H t0=some (.tup (ins.map V.int))->H t1=some (.tup (ones.map V.int))->H t2=some (.tup (noughts.map V.int))->RPt a H (.ref p) (.choose ins which ones noughts told)
 |merge {p dx t0 t1 t2 t3:Addr}{told:Int}{ones noughts outs:List Int}:H p=some (.ins a.or dx [("ins",.ref t0),("ones",.ref t1),("noughts",.ref t2),("outs",.ref t3)])->H t0=some (.tup [.int told])->H t1=some (.tup (ones.map V.int))->H t2=some (.tup (noughts.map V.int))->H t3=some (.tup (outs.map V.int))->RPt a H (.ref p) (.merge told ones noughts outs)
theorem RPt.same{a:Adr}{H H':Hp}(e:aa H H'){v:V}{r:PR}(h:RPt a H v r):RPt a H' v r:=by
 cases h with
 |pass a b c d=>exact .pass (e _ _ a) (e _ _ b) (e _ _ c) (e _ _ d)
 |work a b c d f=>exact .work (e _ _ a) (e _ _ b) (e _ _ c) (d.same e) (f.same e)
 |choose a b c d=>exact .choose (e _ _ a) (e _ _ b) (e _ _ c) (e _ _ d)
 |merge a b c d f=>exact .merge (e _ _ a) (e _ _ b) (e _ _ c) (e _ _ d) (e _ _ f)
inductive RPs(H:Hp):List V->List (Int×Int)->Prop
 |nil:RPs H [] []
 |cons {p:Addr}{vs:List V}{x:Int×Int}{xs:List (Int×Int)}:H p=some (.tup [.int x.1,.int x.2])->RPs H vs xs->RPs H (.ref p::vs) (x::xs)
theorem RPs.same{H H':Hp}(e:aa H H'):∀{vs:List V}{xs:List (Int×Int)},RPs H vs xs->RPs H' vs xs
 |_,_,.nil=>.nil
 |_,_,.cons a r=>.cons (e _ _ a) (RPs.same e r)
theorem RPs.len{H:Hp}:∀{vs:List V}{xs:List (Int×Int)},RPs H vs xs->vs.length=xs.length
 |_,_,.nil=>rfl
 |_,_,.cons _ r=>congrArg (·+1) (RPs.len r)
theorem RPs.app{H:Hp}:∀{vs us:List V}{xs ys:List (Int×Int)},RPs H vs xs->RPs H us ys->RPs H (vs++us) (xs++ys)
 |_,_,_,_,.nil,h=>h
 |_,_,_,_,.cons a r,h=>.cons a (RPs.app r h)
theorem RPs.snoc{H:Hp}{p:Addr}{x:Int×Int}(a:H p=some (.tup [.int x.1,.int x.2])){vs:List V}{xs:List (Int×Int)}(h:RPs H vs xs):RPs H (vs++[.ref p]) (xs++[x]):=h.app (.cons a .nil)
theorem RPs.zip{H:Hp}:∀{ts:List Addr}{xs ys:List Int},ts.length=min xs.length ys.length->(∀(j:Nat)(t:Addr)(x y:V),ts[j]?=some t->(xs.map V.int)[j]?=some x->(ys.map V.int)[j]?=some y->H t=some (.tup [x,y]))->RPs H (ts.map V.ref) (xs.zip ys)
 |[],[],_,_,_=>by simp;exact .nil
 |[],_::_,[],_,_=>.nil
 |[],_::_,_::_,h,_=>by simp at h
 |_::_,[],_,h,_=>by simp at h
 |_::_,_::_,[],h,_=>by simp at h
 |t::ts,x::xs,y::ys,h,at_=>by
  refine .cons (at_ 0 t _ _ U U U) (RPs.zip (by simp at h;omega) λj t' x' y' h1 h2 h3=>at_ (j+1) t' x' y' (by simpa using h1) (by simpa using h2) (by simpa using h3))
def cU:Option Int->V
 |none=>.non
 |some n=>.int n
abbrev Ln:=Option Int×List Int
inductive RLn(H:Hp):List V->List Ln->Prop
 |nil:RLn H [] []
 |cons {p t:Addr}{vs:List V}{x:Ln}{xs:List Ln}:H p=some (.tup [cU x.1,.ref t])->H t=some (.tup (x.2.map V.int))->RLn H vs xs->RLn H (.ref p::vs) (x::xs)
theorem RLn.keep{H H':Hp}(e:∀b ys,H b=some (.tup ys)->H' b=some (.tup ys)):∀{vs:List V}{xs:List Ln},RLn H vs xs->RLn H' vs xs
 |_,_,.nil=>.nil
 |_,_,.cons a b r=>.cons (e _ _ a) (e _ _ b) (RLn.keep e r)
theorem RLn.same{H H':Hp}(e:aa H H'){vs:List V}{xs:List Ln}(h:RLn H vs xs):RLn H' vs xs:=h.keep λb ys=>e b _
theorem RLn.len{H:Hp}:∀{vs:List V}{xs:List Ln},RLn H vs xs->vs.length=xs.length
 |_,_,.nil=>rfl
 |_,_,.cons _ _ r=>congrArg (·+1) (RLn.len r)
theorem RLn.at{H:Hp}:∀{vs:List V}{xs:List Ln},RLn H vs xs->∀(i:Nat)(v:V),vs[i]?=some v->∃p t x,v=.ref p/\xs[i]?=some x/\H p=some (.tup [cU x.1,.ref t])/\H t=some (.tup (x.2.map V.int))
 |_,_,.nil,i,v,h=>by simp at h
 |_,_,.cons (p:=p) (t:=t) (x:=x) a b r,0,v,h=>by
  simp at h;exact⟨p,t,x,h.symm,U,a,b⟩
 |_,_,.cons a b r,i+1,v,h=>RLn.at r i v (by simpa using h)
theorem RLn.snoc{H:Hp}{p t:Addr}{x:Ln}(a:H p=some (.tup [cU x.1,.ref t]))(b:H t=some (.tup (x.2.map V.int))):∀{vs:List V}{xs:List Ln},RLn H vs xs->RLn H (vs++[.ref p]) (xs++[x])
 |_,_,.nil=>.cons a b .nil
 |_,_,.cons a' b' r=>.cons a' b' (RLn.snoc a b r)
def RQ(a:Adr)(H:Hp)(q:Addr×Addr×Addr)(s:List Int×Nat):Prop:=H q.1=some (.ins a.gt q.2.1 [("laid",.ref q.2.2),("gone",.int s.2)])/\H q.2.2=some (.lst (s.1.map V.int))/\s.2<=s.1.length/\s.1.length<=10000000
structure RY(a:Adr)(H:Hp)(y dx la lq:Addr)(qs:List (Addr×Addr×Addr))(st:List (List Int×Nat))(ls:List (Option Int)):Prop where
 o:H y=some (.ins a.ld dx [("lengths",.ref la),("queues",.ref lq)])
 l:H lq=some (.lst (qs.map λq=>V.ref q.1))
 n:qs.length=st.length
 q:∀(i:Nat)(q:Addr×Addr×Addr)(s:List Int×Nat),qs[i]?=some q->st[i]?=some s->RQ a H q s
 w:H la=some (.lst (ls.map cU))
 m:ls.length=st.length
def iK(s:List Int×Nat):V:=match s.1.drop s.2 with
 |[]=>.non
 |x::_=>.int x
inductive nW(K:W.Frag)(a:Adr)(vs:List V)(H:Hp)(Q:VK)(E:XK):Prop
 |mk (p dx t:Addr) (xs:List Int) (h0_:vs=[.ref p,.ref t]) (h1_:H p=some (.ins a.gt dx [])) (h2_:SqT K H t (xs.map V.int)) (h3_:∀l,H l=none->Q .non (upd (upd H l (.lst (xs.map V.int))) p (.ins a.gt dx [("laid",.ref l),("gone",.int 0)]))):nW K a vs H Q E
inductive nS(a:Adr)(vs:List V)(H:Hp)(Q:VK)(E:XK):Prop
 |mk (q:Addr×Addr×Addr) (s:List Int×Nat) (h0_:vs=[.ref q.1]) (h1_:RQ a H q s) (h2_:Q (.int ((s.1.length:Int)-s.2)) H):nS a vs H Q E
inductive nV(a:Adr)(vs:List V)(H:Hp)(Q:VK)(E:XK):Prop
 |mk (q:Addr×Addr×Addr) (s:List Int×Nat) (h0_:vs=[.ref q.1]) (h1_:RQ a H q s) (h2_:Q (iK s) H):nV a vs H Q E
inductive nU(a:Adr)(vs:List V)(H:Hp)(Q:VK)(E:XK):Prop
 |mk (q:Addr×Addr×Addr) (s:List Int×Nat) (x:Int) (h0_:vs=[.ref q.1,.int x]) (h1_:RQ a H q s) (h2_:Q .non (upd H q.2.2 (.lst ((s.1++[x]).map V.int)))):nU a vs H Q E
inductive nR(a:Adr)(vs:List V)(H:Hp)(Q:VK)(E:XK):Prop
 |mk (q:Addr×Addr×Addr) (s:List Int×Nat) (x:Int) (h0_:vs=[.ref q.1]) (h1_:RQ a H q s) (h2_:s.1[s.2]?=some x) (h3_:Q (.int x) (upd H q.1 (.ins a.gt q.2.1 [("laid",.ref q.2.2),("gone",.int (s.2+1:Nat))]))):nR a vs H Q E
inductive nT(a:Adr)(vs:List V)(H:Hp)(Q:VK)(E:XK):Prop
 |mk (q:Addr×Addr×Addr) (s:List Int×Nat) (h0_:vs=[.ref q.1]) (h1_:RQ a H q s) (h2_:∀l,H l=none->Q (.ref l) (upd H l (.lst ((s.1.drop s.2).map V.int)))):nT a vs H Q E
def cz(xs:List Ln):List (List Int×Nat):=xs.map λx=>(x.2,0)
inductive nP(a:Adr)(vs:List V)(H:Hp)(Q:VK)(E:XK):Prop
 |mk (p dx l:Addr) (us:List V) (xs:List Ln) (h0_:vs=[.ref p,.ref l]) (h1_:H p=some (.ins a.ld dx [])) (h2_:H l=some (.lst us)) (h3_:RLn H us xs) (h4_:xs.length<=1000) (h5_:(∀x∈xs,x.2.length<=64) /\
 ∀H' la lq qs,(∀b o,b≠p->H b=some o->H' b=some o)->RY a H' p dx la lq qs (cz xs) (xs.map (·.1))->(qs.map λq=>q.2.2).Nodup->(qs.map λq=>q.1).Nodup->(∀q∈qs,H q.2.2=none/\q.1≠p/\H q.1=none)->(H lq=none/\lq∉(qs.map λq=>q.2.2))->(H la=none/\la∉(qs.map λq=>q.2.2))->Q .non H'):nP a vs H Q E
inductive nJ(a:Adr)(vs:List V)(H:Hp)(Q:VK)(E:XK):Prop
 |mk (y dx la lq:Addr) (qs:List (Addr×Addr×Addr)) (st:List (List Int×Nat)) (ls:List (Option Int)) (i:Int) (s:List Int×Nat) (h0_:vs=[.ref y,.int i]) (h1_:RY a H y dx la lq qs st ls) (h2_:0<=i) (h3_:st[i.toNat]?=some s) (h4_:Q (.int ((s.1.length:Int)-s.2)) H):nJ a vs H Q E
def roomV(L:Option Int)(n:Int):Bool:=match L with
 |none=>true
 |some m=>decide (n<m)
inductive nI(a:Adr)(vs:List V)(H:Hp)(Q:VK)(E:XK):Prop
 |mk (y dx la lq:Addr) (qs:List (Addr×Addr×Addr)) (st:List (List Int×Nat)) (ls:List (Option Int)) (i:Int) (s:List Int×Nat) (L:Option Int) (h0_:vs=[.ref y,.int i]) (h1_:RY a H y dx la lq qs st ls) (h2_:0<=i) (h3_:st[i.toNat]?=some s) (h4_:ls[i.toNat]?=some L) (h5_:Q (.bl (roomV L ((s.1.length:Int)-s.2))) H):nI a vs H Q E
inductive nN(a:Adr)(vs:List V)(H:Hp)(Q:VK)(E:XK):Prop
 |mk (y dx la lq:Addr) (qs:List (Addr×Addr×Addr)) (st:List (List Int×Nat)) (ls:List (Option Int)) (i:Int) (s:List Int×Nat) (h0_:vs=[.ref y,.int i]) (h1_:RY a H y dx la lq qs st ls) (h2_:0<=i) (h3_:st[i.toNat]?=some s) (h4_:Q (iK s) H):nN a vs H Q E
inductive nK(a:Adr)(vs:List V)(H:Hp)(Q:VK)(E:XK):Prop
 |mk (y dx la lq:Addr) (qs:List (Addr×Addr×Addr)) (st:List (List Int×Nat)) (ls:List (Option Int)) (i x:Int) (q:Addr×Addr×Addr) (s:List Int×Nat) (h0_:vs=[.ref y,.int i,.int x]) (h1_:RY a H y dx la lq qs st ls) (h2_:0<=i) (h3_:st[i.toNat]?=some s) (h4_:qs[i.toNat]?=some q) (h5_:Q .non (upd H q.2.2 (.lst ((s.1++[x]).map V.int)))):nK a vs H Q E
inductive nG(a:Adr)(vs:List V)(H:Hp)(Q:VK)(E:XK):Prop
 |mk (y dx la lq:Addr) (qs:List (Addr×Addr×Addr)) (st:List (List Int×Nat)) (ls:List (Option Int)) (i x:Int) (q:Addr×Addr×Addr) (s:List Int×Nat) (h0_:vs=[.ref y,.int i]) (h1_:RY a H y dx la lq qs st ls) (h2_:0<=i) (h3_:st[i.toNat]?=some s) (h4_:qs[i.toNat]?=some q) (h5_:s.1[s.2]?=some x) (h6_:Q (.int x) (upd H q.1 (.ins a.gt q.2.1 [("laid",.ref q.2.2),("gone",.int (s.2+1:Nat))]))):nG a vs H Q E
def dX(st:List (List Int×Nat)):List (List Int):=st.map λs=>s.1.drop s.2
inductive RIs(H:Hp):List V->List (List Int)->Prop
 |nil:RIs H [] []
 |cons {p:Addr}{vs:List V}{xs:List Int}{xss:List (List Int)}:H p=some (.lst (xs.map V.int))->RIs H vs xss->RIs H (.ref p::vs) (xs::xss)
theorem RIs.same{H H':Hp}(e:aa H H'):∀{vs:List V}{xss:List (List Int)},RIs H vs xss->RIs H' vs xss
 |_,_,.nil=>.nil
 |_,_,.cons a r=>.cons (e _ _ a) (RIs.same e r)
theorem RIs.len{H:Hp}:∀{vs:List V}{xss:List (List Int)},RIs H vs xss->vs.length=xss.length
 |_,_,.nil=>rfl
 |_,_,.cons _ r=>congrArg (·+1) (RIs.len r)
theorem RIs.snoc{H:Hp}{p:Addr}{xs:List Int}(a:H p=some (.lst (xs.map V.int))):∀{vs:List V}{xss:List (List Int)},RIs H vs xss->RIs H (vs++[.ref p]) (xss++[xs])
 |_,_,.nil=>.cons a .nil
 |_,_,.cons a' r=>.cons a' (RIs.snoc a r)
theorem RIs.at{H:Hp}:∀{vs:List V}{xss:List (List Int)},RIs H vs xss->∀(i:Nat)(xs:List Int),xss[i]?=some xs->∃p,vs[i]?=some (.ref p)/\H p=some (.lst (xs.map V.int))
 |_,_,.nil,i,v,h=>by simp at h
 |_,_,.cons (p:=p) a r,0,v,h=>by
  simp at h;subst h;exact⟨p,U,a⟩
 |_,_,.cons a r,i+1,v,h=>by
  obtain⟨p,e,h'⟩:=RIs.at r i v (by simpa using h);exact⟨p,by simpa using e,h'⟩
def gf(H0:Hp)(vs:List V):Prop:=∀p,V.ref p∈vs->H0 p=none
inductive nH(a:Adr)(vs:List V)(H:Hp)(Q:VK)(E:XK):Prop
 |mk (y dx la lq:Addr) (qs:List (Addr×Addr×Addr)) (st:List (List Int×Nat)) (ls:List (Option Int)) (h0_:vs=[.ref y]) (h1_:RY a H y dx la lq qs st ls) (h2_:qs.length<=1000) (h3_:∀H' l us,aa H H'->H l=none->H' l=some (.lst us)->RIs H' us (dX st)->gf H us->Q (.ref l) H'):nH a vs H Q E
inductive oa(a:Adr)(vs:List V)(H:Hp)(Q:VK)(E:XK):Prop
 |mk (p C dx:Addr) (u:V) (h0_:vs=[.ref p,u]) (h1_:H p=some (.ins C dx [])) (h2_:(C=a.u8\/C=a.r9\/C=a.om\/C=a.or)) (h3_:Q .non (upd H p (.ins C dx [("ins",u)]))):oa a vs H Q E
inductive o9(a:Adr)(vs:List V)(H:Hp)(Q:VK)(E:XK):Prop
 |mk (p dx:Addr) (u v x:V) (h0_:vs=[.ref p,u,v,x]) (h1_:H p=some (.ins a.u8 dx [])) (h2_:Q .non (upd H p (.ins a.u8 dx [("ins",u),("outs",v),("route",x)]))):o9 a vs H Q E
inductive nQ(a:Adr)(vs:List V)(H:Hp)(Q:VK)(E:XK):Prop
 |mk (p dx:Addr) (u v x y:V) (h0_:vs=[.ref p,u,v,x,y]) (h1_:H p=some (.ins a.r9 dx [])) (h2_:Q .non (upd H p (.ins a.r9 dx [("ins",u),("out",v),("sign",x),("sides",y)]))):nQ a vs H Q E
inductive oh(a:Adr)(vs:List V)(H:Hp)(Q:VK)(E:XK):Prop
 |mk (p dx:Addr) (u v x y z:V) (h0_:vs=[.ref p,u,v,x,y,z]) (h1_:H p=some (.ins a.om dx [])) (h2_:Q .non (upd H p (.ins a.om dx [("ins",u),("which",v),("ones",x),("noughts",y),("told",z)]))):oh a vs H Q E
inductive og(a:Adr)(vs:List V)(H:Hp)(Q:VK)(E:XK):Prop
 |mk (p dx:Addr) (u v x y:V) (h0_:vs=[.ref p,u,v,x,y]) (h1_:H p=some (.ins a.or dx [])) (h2_:∀t,H t=none->Q .non (upd (upd H t (.tup [u])) p (.ins a.or dx [("ins",.ref t),("ones",v),("noughts",x),("outs",y)]))):og a vs H Q E
structure Ent where
 now:Int
 part:Nat
 took:Bool
 hs:List (Int×Int)
structure PlS where
 st:Nat->List Int×Nat
 held:Nat->List (Int×Int)
 tks:Nat->Nat
 gv:List (Int×List Nat)
 tr:List Nat
 wr:Nat->List Nat
 wt:Nat->List Nat
 sp:Nat
 lg:List Ent
def put{α:Type}(f:Nat->α)(i:Nat)(v:α):Nat->α:=λk=>if k=i then v else f k
theorem aK{α:Type}{f:Nat->α}{i:Nat}{v:α}:put f i v i=v:=Q0 U
theorem aB{α:Type}{f:Nat->α}{i k:Nat}{v:α}(h:k≠i):put f i v k=f k:=qZ h
def ax(S:PlS)(i:Nat):List Int:=(S.st i).1.drop (S.st i).2
def roomF(ls:Nat->Option Int)(S:PlS)(i:Nat):Bool:=roomV (ls i) (((S.st i).1.length:Int)-(S.st i).2)
def aq(S:PlS):PR->List Int
 |.pass ins _ _=>ins
 |.work ins _ _ _ _=>ins
 |.choose ins _ _ _ _=>ins
 |.merge t o n _=>match ax S t.toNat with
  |[]=>[t]
  |x::_=>t::(if x=0 then n else o)
abbrev Gv:=List (Int×List Nat)
def aN(g:Gv):List Int:=g.map (·.1)
def atG(g:Gv)(k:Int):List Nat:=((g.find? λkv=>decide (kv.1=k)).map (·.2)).getD []
def bp(g:Gv)(k:Int):Gv:=g.filter λkv=>decide (kv.1≠k)
def bf(g:Gv)(t:Int)(ps:List Nat):Gv:=if ps=[]then g else if t∈aN g then g.map (λkv=>if kv.1=t then(kv.1,kv.2++ps)else kv)else g++[(t,ps)]
def ap(S:PlS)(p:Int×Int):PlS:={ S with st:=put S.st p.1.toNat ((S.st p.1.toNat).1++[p.2],(S.st p.1.toNat).2),tr:=S.tr++S.wt p.1.toNat,wt:=put S.wt p.1.toNat [] }
def fF(S:PlS)(i:Nat)(x:Nat):PlS:={ S with wr:=put S.wr i (S.wr i++[x]) }
def cy(S:PlS)(now:Int)(x:Nat):PlS:=
 let S':=(S.held x).foldl ap S
 { S' with lg:=S'.lg++[⟨now,x,false,S.held x⟩],tr:=S'.tr++[x] }
def bD(ls:Nat->Option Int)(S:PlS)(now:Int)(x:Nat):PlS:=
 match(S.held x).find? λp=>!roomF ls S p.1.toNat with
 |some p=>fF S p.1.toNat x
 |none=>cy S now x
def cb(S:PlS)(ws:List Int):Option Int:=ws.find? λi=>(ax S i.toNat).isEmpty
def aR(S:PlS)(i:Int):Int:=(ax S i.toNat).headD 0
def bB(f:Nat->List Int×Nat)(ws:List Int):Nat->List Int×Nat:=ws.foldl (λf i=>put f i.toNat ((f i.toNat).1,(f i.toNat).2+1)) f
def bg(now:Int)(S:PlS)(i:Int):PlS:={ S with gv:=bf S.gv (now+1) (S.wr i.toNat),wr:=put S.wr i.toNat [] }
def bK(pace:List (List Int))(x k:Nat):Int:=if pace.length=0 then 0 else
 let r:=pace.getD (x % pace.length) []
 if r.length=0 then 0 else r.getD (k % r.length) 0
def fE(S:PlS)(i x:Nat):PlS:={ S with wt:=put S.wt i (S.wt i++[x]) }
def bH(r:PR)(pace:List (List Int))(S:PlS)(now:Int)(x:Nat):PlS:=
 let ws:=aq S r
 let xs:=ws.map (aR S)
 { S with st:=bB S.st ws,sp:=S.sp-1,lg:=S.lg++[⟨now,x,true,ws.zip xs⟩],held:=put S.held x (r.made xs),gv:=bf S.gv (now+1+bK pace x (S.tks x)) [x],tks:=put S.tks x (S.tks x+1) }
def aT(r:PR)(pace:List (List Int))(S:PlS)(now:Int)(x:Nat):PlS:=(aq S r).foldl (bg now) (bH r pace S now x)
theorem mE:∀{ws:List Int}{f:Nat->List Int×Nat}{j:Nat},j∉ws.map Int.toNat->bB f ws j=f j
 |[],_,_,_=>rfl
 |w::ws,f,j,h=>by
  show bB (put f w.toNat _) ws j=_;rw[mE λz=>h (qk _ z),aB λz=>h (by rw[z];exact qm)]
theorem tQ{ws:List Int}{f:Nat->List Int×Nat}{w:Int}:bB f (ws++[w])=put (bB f ws) w.toNat ((bB f ws w.toNat).1,(bB f ws w.toNat).2+1):=by unfold bB;rw[List.foldl_append];rfl
theorem h6:∀{ws:List Int}{f:Nat->List Int×Nat}{j:Nat},(bB f ws j).1=(f j).1
 |[],_,_=>rfl
 |w::ws,f,j=>by
  show(bB (put f w.toNat _) ws j).1=_;rw[h6];by_cases e:j=w.toNat
  ·rw[e,aK]
  ·rw[aB e]
theorem j4:∀{ws:List Int}{f:Nat->List Int×Nat},(ws.map Int.toNat).Nodup->(∀w∈ws,(f w.toNat).2<(f w.toNat).1.length)->(∀j,(f j).2<=(f j).1.length)->∀j,(bB f ws j).2<=(bB f ws j).1.length
 |[],_,_,_,h0,j=>h0 j
 |w::ws,f,nd,h,h0,j=>by
  have nd:w.toNat∉ws.map Int.toNat/\(ws.map Int.toNat).Nodup:=List.nodup_cons.mp nd;refine j4 (f:=put f w.toNat ((f w.toNat).1,(f w.toNat).2+1)) nd.2 (λv hv=>?_) (λi=>?_) j
  ·rw[aB λe=>nd.1 (by rw[<- e];exact List.mem_map.mpr ⟨v,hv,U⟩)];exact h v (qk _ hv)
  ·by_cases e:i=w.toNat
   ·rw[e,aK];exact h w qm
   ·rw[aB e];exact h0 i
theorem Fit.sub{nl:Nat}{xs ys:List Int}(h:Fit nl ys)(s:xs.Sublist ys):Fit nl xs:=⟨λx hx=>h.lo x (s.subset hx),λx hx=>h.hi x (s.subset hx),h.nd.sublist (s.map _)⟩
theorem j0{nl:Nat}{S:PlS}{r:PR}(h:r.fit nl):Fit nl (aq S r):=by
 cases r with
 |pass=>exact h.1
 |work=>exact h.1
 |choose=>exact h.1
 |merge t o n _=>
  show Fit nl (match ax S t.toNat with|[]=>[t]|x::_=>t::(if x=0 then n else o))
  cases ax S t.toNat with
  |nil=>exact h.1.sub (List.Sublist.cons_cons _ (List.nil_sublist _))
  |cons x _=>
   show Fit nl (t::(if x=0 then n else o));split
   ·exact h.2.1
   ·exact h.1
theorem iY{S:PlS}{r:PR}(ok:r.ok)(h:cb S (aq S r)=none):(aq S r).length=r.wide:=by
 cases r with
 |pass=>rfl
 |work=>rfl
 |choose=>rfl
 |merge t o n outs=>
  obtain⟨_,l1,l2⟩:=ok;have h:=List.find?_eq_none.mp h;show(match ax S t.toNat with|[]=>[t]|x::_=>t::(if x=0 then n else o)).length=1+outs.length
  have ht:¬ (ax S t.toNat).isEmpty=true:=h t (by
   show t∈(match ax S t.toNat with|[]=>[t]|x::_=>t::(if x=0 then n else o))
   cases ax S t.toNat<;>exact qm)
  cases e:ax S t.toNat with
  |nil=>rw[e]at ht;exact Q4 U ht
  |cons x _=>
   show(t::(if x=0 then n else o)).length=_;rw[qA];split<;>omega
theorem mr{S:PlS}{r:PR}(ok:r.ok):(aq S r).length<=10:=by
 cases r with
 |pass ins=>have:=ok.2.2.1;show ins.length<=10;omega
 |work ins=>have:=ok.1;show ins.length<=10;omega
 |choose ins=>have:=ok.2.2.2.2;show ins.length<=10;omega
 |merge t o n outs=>
  obtain⟨_,l1,l2⟩:=ok;show(match ax S t.toNat with|[]=>[t]|x::_=>t::(if x=0 then n else o)).length<=10
  cases ax S t.toNat with
  |nil=>exact(by decide:1<=10)
  |cons x _=>show(t::(if x=0 then n else o)).length<=10;rw[qA];split<;>omega
inductive Ph
 |top
 |giv (now:Int) (rem:List Nat)
 |tak (now:Int) (rem:List Nat)
def kS(g:Gv)(k:Int):Prop:=k∈aN g/\∀j∈aN g,k<=j
def dB(xs:List Nat):Prop:=List.Pairwise (λx y:Nat=>x<=y) xs
inductive aX(ls:Nat->Option Int)(prt:Nat->PR)(pace:List (List Int))(S0:PlS):Ph->PlS->Prop
 |base:aX ls prt pace S0 .top S0
 |turn {S:PlS}{k:Int}{r:List Nat}:aX ls prt pace S0 .top S->kS S.gv k->r.Perm (atG S.gv k)->dB r->aX ls prt pace S0 (.giv k r) { S with gv:=bp S.gv k }
 |give {S:PlS}{k:Int}{x:Nat}{r:List Nat}:aX ls prt pace S0 (.giv k (x::r)) S->aX ls prt pace S0 (.giv k r) (bD ls S k x)
 |half {S:PlS}{k:Int}{r:List Nat}:aX ls prt pace S0 (.giv k []) S->r.Perm S.tr->dB r->aX ls prt pace S0 (.tak k r) { S with tr:=[] }
 |wait {S:PlS}{k i:Int}{x:Nat}{r:List Nat}:aX ls prt pace S0 (.tak k (x::r)) S->cb S (aq S (prt x))=some i->aX ls prt pace S0 (.tak k r) (fE S i.toNat x)
 |take {S:PlS}{k:Int}{x:Nat}{r:List Nat}:aX ls prt pace S0 (.tak k (x::r)) S->cb S (aq S (prt x))=none->S.sp≠0->aX ls prt pace S0 (.tak k r) (aT (prt x) pace S k x)
 |over {S:PlS}{k:Int}:aX ls prt pace S0 (.tak k []) S->aX ls prt pace S0 .top S
inductive Loc
 |tr
 |wt (i:Nat)
 |wr (i:Nat)
 |gv (k:Int)
 |rem
def OnL(n:Nat)(loc:Nat->Loc)(l:Loc)(ys:List Nat):Prop:=ys.Nodup/\∀x∈ys,x<n/\loc x=l
theorem OnL.nil{n:Nat}{loc:Nat->Loc}{l:Loc}:OnL n loc l []:=⟨List.nodup_nil,λ_ h=>(nomatch h)⟩
open Classical in
noncomputable def eO(loc:Nat->Loc)(l' l:Loc):Nat->Loc:=λx=>if loc x=l' then l else loc x
theorem OnL.app{n:Nat}{loc:Nat->Loc}{l l':Loc}{ys zs:List Nat}(h:OnL n loc l ys)(h':OnL n loc l' zs)(ne:l≠l'):OnL n (eO loc l' l) l (ys++zs):=by
 refine⟨List.nodup_append.mpr ⟨h.1,h'.1,λx hx y hy e=>?_⟩,λx hx=>?_⟩
 ·exact ne ((h.2 x hx).2.symm.trans (e▸(h'.2 y hy).2))
 ·unfold eO;rcases qh.mp hx with m|m
  ·exact⟨(h.2 x m).1,by rw[qZ (by rw[(h.2 x m).2];exact ne)];exact(h.2 x m).2⟩
  ·exact⟨(h'.2 x m).1,Q0 (h'.2 x m).2⟩
theorem OnL.other{n:Nat}{loc:Nat->Loc}{l l' m:Loc}{ys:List Nat}(h:OnL n loc m ys)(ne:m≠l'):OnL n (eO loc l' l) m ys:=
 ⟨h.1,λx hx=>⟨(h.2 x hx).1,by unfold eO;rw[qZ (by rw[(h.2 x hx).2];exact ne)];exact(h.2 x hx).2⟩⟩
theorem OnL.off{n:Nat}{loc:Nat->Loc}{l m:Loc}{ys:List Nat}{x:Nat}(h:OnL n loc m ys)(hx:x∉ys):OnL n (put loc x l) m ys:=
 ⟨h.1,λy hy=>⟨(h.2 y hy).1,(aB λe:y=x=>hx (e▸hy)).trans (h.2 y hy).2⟩⟩
theorem OnL.snoc{n:Nat}{loc:Nat->Loc}{l:Loc}{ys:List Nat}{x:Nat}(h:OnL n loc l ys)(hx:x∉ys)(lt:x<n):OnL n (put loc x l) l (ys++[x]):=by
 refine⟨List.nodup_append.mpr ⟨h.1,Qq _ _,λy hy z hz e=>hx (by rw[<- qS.mp hz,<- e];exact hy)⟩,λy hy=>?_⟩;rcases qh.mp hy with m|m
 ·exact(h.off hx).2 y m
 ·rw[qS.mp m];exact⟨lt,aK⟩
theorem OnL.perm{n:Nat}{loc:Nat->Loc}{l:Loc}{ys zs:List Nat}(h:OnL n loc l ys)(p:zs.Perm ys):OnL n loc l zs:=⟨p.nodup_iff.mpr h.1,λx hx=>h.2 x (p.mem_iff.mp hx)⟩
theorem OnL.len{n:Nat}{loc:Nat->Loc}{l:Loc}{ys:List Nat}(h:OnL n loc l ys):ys.length<=n:=by
 have:=h.1.length_le_of_subset (l₂:=List.range n) λk hk=>List.mem_range.mpr (h.2 k hk).1
 rwa [Qd]at this
theorem OnL.len2{n:Nat}{loc:Nat->Loc}{l l':Loc}{ys zs:List Nat}(h:OnL n loc l ys)(h':OnL n loc l' zs)(ne:l≠l'):ys.length+zs.length<=n:=by
 have:=(h.app h' ne).len
 rwa [qb]at this
structure aU(n:Nat)(loc:Nat->Loc)(rem:List Nat)(S:PlS):Prop where
 tr:OnL n loc .tr S.tr
 wt:∀i,OnL n loc (.wt i) (S.wt i)
 wr:∀i,OnL n loc (.wr i) (S.wr i)
 gk:(aN S.gv).Nodup
 gv:∀kv∈S.gv,OnL n loc (.gv kv.1) kv.2
 rm:OnL n loc .rem rem
theorem fX:∀{g:Gv}{k:Int},k∈aN g->(k,atG g k)∈g
 |(j,ps)::g,k,h=>by
  unfold atG;by_cases e:j=k
  ·rw[List.find?_cons_of_pos (by simpa using e)];subst e;exact qm
  ·rw[List.find?_cons_of_neg (by simpa using e)];exact qk _ (fX (g:=g) ((qu.mp h).resolve_left (Ne.symm e)))
theorem rA{g:Gv}{k j:Int}:j∈aN (bp g k)↔j∈aN g/\j≠k:=by
 unfold aN bp;simp only[List.mem_map,List.mem_filter,decide_eq_true_eq];constructor
 ·rintro⟨kv,⟨h,ne⟩,rfl⟩;exact⟨⟨kv,h,U⟩,ne⟩
 ·rintro⟨⟨kv,h,rfl⟩,ne⟩;exact⟨kv,⟨h,ne⟩,U⟩
theorem yI{g:Gv}{k:Int}(h:(aN g).Nodup):(aN (bp g k)).Nodup:=h.sublist (List.filter_sublist.map _)
theorem lK:∀{g:Gv}{k:Int},k∈aN g->(bp g k).length<g.length
 |(j,ps)::g,k,h=>by
  unfold bp;by_cases e:j=k
  ·rw[List.filter_cons_of_neg (by simpa using e)];exact Nat.lt_succ_of_le (List.length_filter_le _ _)
  ·rw[List.filter_cons_of_pos (by simpa using e)];exact Nat.succ_lt_succ (lK (g:=g) ((qu.mp h).resolve_left (Ne.symm e)))
theorem iE{g:Gv}{t:Int}{ps:List Nat}{j:Int}:j∈aN (bf g t ps)↔j∈aN g\/(ps≠[]/\j=t):=by
 unfold bf;by_cases e:ps=[]
 ·rw[Q0 e];exact⟨.inl,λh=>h.resolve_right λz=>z.1 e⟩
 rw[qZ e];by_cases m:t∈aN g
 ·rw[Q0 m];unfold aN;rw[List.map_map,show((λkv:Int×List Nat=>kv.1) ∘ λkv:Int×List Nat=>if kv.1=t then(kv.1,kv.2++ps)else kv)=λkv=>kv.1 from funext λkv=>by show(if kv.1=t then(kv.1,kv.2++ps)else kv).1=_;split<;>rfl];exact⟨.inl,λh=>h.elim id λz=>z.2▸m⟩
 ·rw[qZ m];unfold aN;rw[qO,qh];exact⟨λh=>h.imp id λz=>⟨e,qS.mp z⟩,λh=>h.imp id λz=>qS.mpr z.2⟩
theorem iU{g:Gv}{t:Int}{ps:List Nat}:(bf g t ps).length<=g.length+1:=by
 unfold bf;split
 ·omega
 ·split
  ·rw[q9];omega
  ·rw[qb];exact qe _
theorem A5{g:Gv}{t:Int}{ps:List Nat}(h:t∈aN g):(bf g t ps).length=g.length:=by
 unfold bf;split
 ·rfl
 ·first|rw[Q0 h,q9]|rw[q9]
theorem sS{g:Gv}{t:Int}{ps:List Nat}(h:(aN g).Nodup):(aN (bf g t ps)).Nodup:=by
 unfold bf;split
 ·exact h
 split
 ·unfold aN at *;rw[List.map_map,show((λkv:Int×List Nat=>kv.1) ∘ λkv:Int×List Nat=>if kv.1=t then(kv.1,kv.2++ps)else kv)=λkv=>kv.1 from funext λkv=>by show(if kv.1=t then(kv.1,kv.2++ps)else kv).1=_;split<;>rfl];exact h
 ·rename_i m;unfold aN at *;rw[qO];exact List.nodup_append.mpr ⟨h,Qq _ _,λx hx y hy z=>m (by have e:x=t:=z.trans (qS.mp hy);exact e▸hx)⟩
theorem cM{g:Gv}{j k:Int}{ps:List Nat}:atG ((j,ps)::g) k=if j=k then ps else atG g k:=by
 unfold atG;by_cases e:j=k
 ·rw[List.find?_cons_of_pos (by simpa using e),Q0 e];rfl
 ·rw[List.find?_cons_of_neg (by simpa using e),qZ e]
theorem lV:∀{g:Gv}{k:Int},k∉aN g->atG g k=[]
 |[],_,_=>rfl
 |(j,ps)::g,k,h=>by
  rw[cM,qZ λe:j=k=>h (e▸qm)];exact lV λz=>h (qk _ z)
theorem sV:∀{g:Gv}{t k:Int}{ps:List Nat},t∉aN g->atG (g++[(t,ps)]) k=if k=t then ps else atG g k
 |[],t,k,ps,_=>by
  rw[Qk,cM];by_cases e:t=k
  ·rw[Q0 e,Q0 e.symm]
  ·rw[qZ e,qZ λz=>e z.symm]
 |(j,qs)::g,t,k,ps,h=>by
  rw[Ql,cM,cM];by_cases e:j=k
  ·rw[Q0 e,Q0 e,qZ λz=>h (by rw[<- z,<- e];exact qm)]
  ·rw[qZ e,qZ e];exact sV λz=>h (qk _ z)
theorem lW:∀{g:Gv}{t k:Int}{ps:List Nat},t∈aN g->atG (g.map λkv=>if kv.1=t then(kv.1,kv.2++ps)else kv) k=if k=t then atG g t++ps else atG g k
 |(j,qs)::g,t,k,ps,h=>by
  rw[qR];by_cases e:j=t
  ·show atG ((if j=t then(j,qs++ps)else(j,qs))::_) k=_;rw[Q0 e,cM,cM,cM,Q0 e];by_cases e2:k=t
   ·rw[Q0 (e.trans e2.symm),Q0 e2]
   ·rw[qZ λz=>e2 (z.symm.trans e),qZ e2,qZ λz=>e2 (z.symm.trans e)];by_cases m:t∈aN g
    ·rw[lW m,qZ e2]
    ·rw[show(g.map λkv=>if kv.1=t then(kv.1,kv.2++ps)else kv)=g from(List.map_congr_left (g:=id) λkv hk=>qZ λz=>m (List.mem_map.mpr ⟨kv,hk,z⟩)).trans (List.map_id _)]
  ·show atG ((if j=t then(j,qs++ps)else(j,qs))::_) k=_;have m:=(qu.mp h).resolve_left λz=>e z.symm;rw[qZ e,cM,cM,cM,qZ e];by_cases e2:j=k
   ·rw[Q0 e2,qZ λz=>e (e2.trans z),Q0 e2]
   ·rw[qZ e2,lW m,qZ e2]
theorem sU{g:Gv}{t k:Int}{ps:List Nat}:atG (bf g t ps) k=if k=t then atG g t++ps else atG g k:=by
 unfold bf;by_cases e:ps=[]
 ·rw[Q0 e,e,qx];split
  ·rename_i z;rw[z]
  ·rfl
 rw[qZ e];by_cases m:t∈aN g
 ·rw[Q0 m,lW m]
 ·rw[qZ m,sV m,lV m,Qk]
theorem aU.hand{n:Nat}{loc:Nat->Loc}{rem:List Nat}{S:PlS}(I:aU n loc rem S)(p:Int×Int):aU n (eO loc (.wt p.1.toNat) .tr) rem (ap S p):=by
 refine⟨I.tr.app (I.wt _) nofun,λi=>?_,λi=>(I.wr i).other nofun,I.gk,λkv h=>(I.gv kv h).other nofun,I.rm.other nofun⟩;show OnL n _ (.wt i) (put S.wt p.1.toNat [] i);by_cases e:i=p.1.toNat
 ·rw[e,aK];exact OnL.nil
 ·rw[aB e];exact(I.wt i).other λz=>e (Loc.wt.inj z)
theorem aU.hands{n:Nat}{rem:List Nat}:∀(ps:List (Int×Int)){loc:Nat->Loc}{S:PlS},aU n loc rem S->∃loc',aU n loc' rem (ps.foldl ap S)
 |[],loc,_,I=>⟨loc,I⟩
 |p::ps,_,_,I=>aU.hands ps (I.hand p)
section
variable {n:Nat}{loc:Nat->Loc}{rem:List Nat}{S:PlS}{x:Nat}
theorem aU.not(I:aU n loc (x::rem) S):loc x=.rem/\x<n/\x∉rem:=⟨(I.rm.2 x qm).2,(I.rm.2 x qm).1,(List.nodup_cons.mp I.rm.1).1⟩
theorem aU.notin(I:aU n loc (x::rem) S){l:Loc}{ys:List Nat}(h:OnL n loc l ys)(ne:l≠.rem):x∉ys:=λz=>ne ((h.2 x z).2.symm.trans I.not.1)
theorem aU.rest(I:aU n loc (x::rem) S){l:Loc}:OnL n (put loc x l) .rem rem:=OnL.off ⟨(List.nodup_cons.mp I.rm.1).2,λy hy=>I.rm.2 y (qk _ hy)⟩ I.not.2.2
theorem aU.stuck(I:aU n loc (x::rem) S)(i:Nat):aU n (put loc x (.wr i)) rem (fF S i x):=by
 refine⟨I.tr.off (I.notin I.tr nofun),λj=>(I.wt j).off (I.notin (I.wt j) nofun),λj=>?_,I.gk,λkv h=>(I.gv kv h).off (I.notin (I.gv kv h) nofun),I.rest⟩;show OnL n _ (.wr j) (put S.wr i (S.wr i++[x]) j);by_cases e:j=i
 ·rw[e,aK];exact(I.wr i).snoc (I.notin (I.wr i) nofun) I.not.2.1
 ·rw[aB e];exact(I.wr j).off (I.notin (I.wr j) nofun)
theorem aU.wait(I:aU n loc (x::rem) S)(i:Nat):aU n (put loc x (.wt i)) rem (fE S i x):=by
 refine⟨I.tr.off (I.notin I.tr nofun),λj=>?_,λj=>(I.wr j).off (I.notin (I.wr j) nofun),I.gk,λkv h=>(I.gv kv h).off (I.notin (I.gv kv h) nofun),I.rest⟩;show OnL n _ (.wt j) (put S.wt i (S.wt i++[x]) j);by_cases e:j=i
 ·rw[e,aK];exact(I.wt i).snoc (I.notin (I.wt i) nofun) I.not.2.1
 ·rw[aB e];exact(I.wt j).off (I.notin (I.wt j) nofun)
theorem aU.toTr(I:aU n loc (x::rem) S)(lg:List Ent):aU n (put loc x .tr) rem { S with lg:=lg,tr:=S.tr++[x] }:=
 ⟨I.tr.snoc (I.notin I.tr nofun) I.not.2.1,λj=>(I.wt j).off (I.notin (I.wt j) nofun),λj=>(I.wr j).off (I.notin (I.wr j) nofun),I.gk,λkv h=>(I.gv kv h).off (I.notin (I.gv kv h) nofun),I.rest⟩
theorem kT{g:Gv}{t:Int}{ps:List Nat}{kv:Int×List Nat}(h:kv∈bf g t ps):(kv∈g/\(kv.1=t->ps=[]))\/(kv.1=t/\kv.2=ps/\t∉aN g)\/(kv.1=t/\∃qs,(t,qs)∈g/\kv.2=qs++ps):=by
 unfold bf at h;by_cases e:ps=[]
 ·rw[Q0 e]at h;exact .inl ⟨h,λ_=>e⟩
 rw[qZ e]at h;by_cases m:t∈aN g
 ·rw[Q0 m]at h;obtain⟨jv,hj,ej⟩:=List.mem_map.mp h;by_cases c:jv.1=t
  ·rw[Q0 c]at ej;exact .inr (.inr ⟨by rw[<- ej];exact c,jv.2,by rw[<- c];exact hj,by rw[<- ej]⟩)
  ·rw[qZ c]at ej;rw[<- ej];exact .inl ⟨hj,λz=>Q4 z c⟩
 ·rw[qZ m]at h;rcases qh.mp h with h|h
  ·exact .inl ⟨h,λz=>Q4 (List.mem_map.mpr ⟨kv,h,z⟩) m⟩
  ·rw[qS.mp h];exact .inr (.inl ⟨U,U,m⟩)
theorem aU.toGv(I:aU n loc (x::rem) S)(t:Int):aU n (put loc x (.gv t)) rem { S with gv:=bf S.gv t [x] }:=by
 refine⟨I.tr.off (I.notin I.tr nofun),λj=>(I.wt j).off (I.notin (I.wt j) nofun),λj=>(I.wr j).off (I.notin (I.wr j) nofun),show(aN (bf S.gv t [x])).Nodup from sS I.gk,λkv h=>?_,I.rest⟩;have h:kv∈bf S.gv t [x]:=h;rcases kT h with⟨h,_⟩|⟨h1,h2,_⟩|⟨h1,qs,h2,h3⟩
 ·exact(I.gv kv h).off (I.notin (I.gv kv h) nofun)
 ·rw[h1,h2];exact OnL.snoc (ys:=[]) OnL.nil (λz=>nomatch z) I.not.2.1
 ·rw[h1,h3];exact(I.gv _ h2).snoc (I.notin (I.gv _ h2) nofun) I.not.2.1
theorem aU.free(I:aU n loc rem S)(now i:Int):aU n (eO loc (.wr i.toNat) (.gv (now+1))) rem (bg now S i):=by
 refine⟨I.tr.other nofun,λj=>(I.wt j).other nofun,λj=>?_,show(aN (bf S.gv (now+1) (S.wr i.toNat))).Nodup from sS I.gk,λkv h=>?_,I.rm.other nofun⟩
 ·show OnL n _ (.wr j) (put S.wr i.toNat [] j);by_cases e:j=i.toNat
  ·rw[e,aK];exact OnL.nil
  ·rw[aB e];exact(I.wr j).other λz=>e (Loc.wr.inj z)
 ·rcases kT h with⟨h,_⟩|⟨h1,h2,_⟩|⟨h1,qs,h2,h3⟩
  ·exact(I.gv kv h).other nofun
  ·rw[h1,h2];exact OnL.app (ys:=[]) OnL.nil (I.wr _) nofun
  ·rw[h1,h3];exact(I.gv _ h2).app (I.wr _) nofun
theorem aU.frees(now:Int):∀(ws:List Int){loc:Nat->Loc}{S:PlS},aU n loc rem S->∃loc',aU n loc' rem (ws.foldl (bg now) S)
 |[],loc,_,I=>⟨loc,I⟩
 |i::ws,_,_,I=>aU.frees now ws (I.free now i)
theorem aU.eq(I:aU n loc rem S){S':PlS}(e1:S'.tr=S.tr)(e2:S'.wt=S.wt)(e3:S'.wr=S.wr)(e4:S'.gv=S.gv):aU n loc rem S':=
 ⟨by rw[e1];exact I.tr,by rw[e2];exact I.wt,by rw[e3];exact I.wr,by rw[e4];exact I.gk,by rw[e4];exact I.gv,I.rm⟩
theorem aU.turn(I:aU n loc [] S){k:Int}{r:List Nat}(hk:k∈aN S.gv)(p:r.Perm (atG S.gv k)):aU n (eO loc (.gv k) .rem) r { S with gv:=bp S.gv k }:=by
 have q:OnL n _ .rem (atG S.gv k):=OnL.app (ys:=[]) I.rm (I.gv _ (fX hk)) nofun
 refine⟨I.tr.other nofun,λj=>(I.wt j).other nofun,λj=>(I.wr j).other nofun,yI I.gk,λkv h=>?_,q.perm p⟩;have h:=List.mem_filter.mp h;exact(I.gv kv h.1).other λz=>Qc h.2 (Loc.gv.inj z)
theorem aU.half(I:aU n loc [] S){r:List Nat}(p:r.Perm S.tr):aU n (eO loc .tr .rem) r { S with tr:=[] }:=
 ⟨OnL.nil,λj=>(I.wt j).other nofun,λj=>(I.wr j).other nofun,I.gk,λkv h=>(I.gv kv h).other nofun,(OnL.app (ys:=[]) I.rm I.tr nofun).perm p⟩
end
inductive Rl
 |b|lg|hl|tl|gd|tk|wrl|wtl
 |qo (i:Nat)
 |ql (i:Nat)
 |wr (i:Nat)
 |wt (i:Nat)
 |gv (k:Int)
 deriving DecidableEq
def at'{α:Type}(f:Rl->α)(r:Rl)(v:α):Rl->α:=λs=>if s=r then v else f s
theorem bR{α:Type}{f:Rl->α}{r:Rl}{v:α}:at' f r v r=v:=Q0 U
theorem bx{α:Type}{f:Rl->α}{r s:Rl}{v:α}(h:s≠r):at' f r v s=f s:=qZ h
structure be(H0 H:Hp)(D:Rl->Prop)(ad:Rl->Addr)(c:Rl->HO):Prop where
 sa:aa H0 H
 nw:∀r,D r->H0 (ad r)=none
 inj:∀r s,D r->D s->ad r=ad s->r=s
 av:∀r,D r->H (ad r)=some (c r)
section
variable {H0 H:Hp}{D:Rl->Prop}{ad:Rl->Addr}{c:Rl->HO}
theorem be.put(M:be H0 H D ad c)(r:Rl)(h:D r)(o:HO):be H0 (upd H (ad r) o) D ad (at' c r o):=
 ⟨λx p hx=>by rw[aj λz=>by rw[z,M.nw r h]at hx;cases hx];exact M.sa x p hx,M.nw,M.inj,λs hs=>by
  by_cases e:s=r
  ·rw[e,af,bR]
  ·rw[aj λz=>e (M.inj s r hs h z),bx e];exact M.av s hs⟩
theorem be.new(M:be H0 H D ad c)(r:Rl){x:Addr}(hx:H x=none)(o:HO):be H0 (upd H x o) (λs=>s=r\/D s) (at' ad r x) (at' c r o):=by
 have ne:∀s,D s->ad s≠x:=λs hs z=>by have:=M.av s hs;rw[z,hx]at this;cases this
 refine⟨λy p hy=>aa.new hx _ _ _ (M.sa y p hy),λs hs=>?_,λs t hs ht e=>?_,λs hs=>?_⟩
 ·by_cases e:s=r
  ·rw[e,bR];exact aa.none M.sa hx
  ·rw[bx e];exact M.nw s (hs.resolve_left e)
 ·by_cases e1:s=r
  ·by_cases e2:t=r
   ·rw[e1,e2]
   ·rw[e1,bR,bx e2]at e;exact Q4 e.symm (ne t (ht.resolve_left e2))
  ·by_cases e2:t=r
   ·rw[e2,bR,bx e1]at e;exact Q4 e (ne s (hs.resolve_left e1))
   ·rw[bx e1,bx e2]at e;exact M.inj s t (hs.resolve_left e1) (ht.resolve_left e2) e
 ·by_cases e:s=r
  ·rw[e,bR,bR,af]
  ·rw[bx e,bx e,aj (ne s (hs.resolve_left e))];exact M.av s (hs.resolve_left e)
theorem be.base(M:be H0 H D ad c){x:Addr}(hx:H x=none)(o:HO):be (upd H0 x o) (upd H x o) D ad c:=by
 have ne:∀s,D s->ad s≠x:=λs hs z=>by have:=M.av s hs;rw[z,hx]at this;cases this
 refine⟨λy p hy=>?_,λs hs=>by rw[aj (ne s hs)];exact M.nw s hs,M.inj,λs hs=>by rw[aj (ne s hs)];exact M.av s hs⟩;by_cases e:y=x
 ·rw[e,af]at hy ⊢;exact hy
 ·rw[aj e]at hy ⊢;exact M.sa y p hy
theorem be.more(M:be H0 H D ad c){H':Hp}(s:aa H H'):∃H0',aa H0 H0'/\(∀x o,H x=none->H' x=some o->H0' x=some o)/\be H0' H' D ad c:=by
 classical
 refine⟨λx=>if H x=none then H' x else H0 x,λx o h=>?_,λx o hx h=>(Q0 hx).trans h,λx o h=>?_,λr hr=>?_,M.inj,λr hr=>s _ _ (M.av r hr)⟩
 ·show(if H x=none then H' x else H0 x)=_;rw[qZ (by rw[M.sa _ _ h];exact λz=>by cases z)];exact h
 ·have h:(if H x=none then H' x else H0 x)=some o:=h;split at h
  ·exact h
  ·exact s _ _ (M.sa _ _ h)
 ·show(if H (ad r)=none then H' (ad r)else H0 (ad r))=_;rw[qZ (by rw[M.av r hr];exact λz=>by cases z)];exact M.nw r hr
theorem be.less(M:be H0 H D ad c){D':Rl->Prop}(h:∀r,D' r->D r){c':Rl->HO}(e:∀r,D' r->c r=c' r):be H0 H D' ad c':=
 ⟨M.sa,λr hr=>M.nw r (h r hr),λr s hr hs=>M.inj r s (h r hr) (h s hs),λr hr=>by rw[<- e r hr];exact M.av r (h r hr)⟩
end
structure PlC where
 b:Addr
 dx:Addr
 y:Addr
 dy:Addr
 la:Addr
 lq:Addr
 dl:Addr
 pc:Addr
 dq:Nat->Addr
 qo:Nat->Addr
 us:List V
 pv:List V
 n:Nat
 nl:Nat
 prt:Nat->PR
 ls:Nat->Option Int
 pace:List (List Int)
structure PlB(a:Adr)(H0:Hp)(C:PlC):Prop where
 yo:H0 C.y=some (.ins a.ld C.dy [("lengths",.ref C.la),("queues",.ref C.lq)])
 la:H0 C.la=some (.lst ((List.range C.nl).map λi=>cU (C.ls i)))
 lq:H0 C.lq=some (.lst ((List.range C.nl).map λi=>V.ref (C.qo i)))
 dl:H0 C.dl=some (.lst C.us)
 du:∀x,x<C.n->∃v,C.us[x]?=some v/\RPt a H0 v (C.prt x)
 pc:H0 C.pc=some (.lst C.pv)
 pr:RIs H0 C.pv C.pace
 ok:∀x,x<C.n->(C.prt x).ok/\(C.prt x).fit C.nl
 n:C.n<60
 nl:C.nl<=1000
 pl:C.pace.length<=1000
 pb:∀r∈C.pace,r.length<=1000
theorem PlB.same{a:Adr}{H H':Hp}{C:PlC}(B:PlB a H C)(s:aa H H'):PlB a H' C:=
 ⟨s _ _ B.yo,s _ _ B.la,s _ _ B.lq,s _ _ B.dl,λx hx=>let ⟨v,e,h⟩:=B.du x hx;⟨v,e,h.same s⟩,s _ _ B.pc,B.pr.same s,B.ok,B.n,B.nl,B.pl,B.pb⟩
def plN:List Str:=["yard","doers","pace","spare","log","held","takings","givers","takers","without_room","without_thing"]
def plV(C:PlC)(ad:Rl->Addr)(sp:Nat):List V:=[.ref C.y,.ref C.dl,.ref C.pc,.int sp,.ref (ad .lg),.ref (ad .hl),.ref (ad .tl),.ref (ad .gd),.ref (ad .tk),.ref (ad .wrl),.ref (ad .wtl)]
def plO(a:Adr)(C:PlC)(ad:Rl->Addr)(sp:Nat):HO:=.ins a.f8 C.dx (plN.zip (plV C ad sp))
def cnP(a:Adr)(C:PlC)(ad:Rl->Addr)(hd:Nat->Addr)(lgv:List V)(S:PlS):Rl->HO
 |.b=>plO a C ad S.sp
 |.lg=>.lst lgv
 |.hl=>.lst ((List.range C.n).map λx=>V.ref (hd x))
 |.tl=>.lst ((List.range C.n).map λx=>V.int (S.tks x))
 |.gd=>.dK (S.gv.map λkv=>(Sum.inl kv.1,V.ref (ad (.gv kv.1))))
 |.tk=>.lst (aD S.tr)
 |.wrl=>.lst ((List.range C.nl).map λi=>V.ref (ad (.wr i)))
 |.wtl=>.lst ((List.range C.nl).map λi=>V.ref (ad (.wt i)))
 |.qo i=>.ins a.gt (C.dq i) [("laid",.ref (ad (.ql i))),("gone",.int (S.st i).2)]
 |.ql i=>.lst ((S.st i).1.map V.int)
 |.wr i=>.lst (aD (S.wr i))
 |.wt i=>.lst (aD (S.wt i))
 |.gv k=>.lst (aD (atG S.gv k))
def dmP(nl:Nat)(ks:List Int):Rl->Prop
 |.qo i=>i<nl
 |.ql i=>i<nl
 |.wr i=>i<nl
 |.wt i=>i<nl
 |.gv k=>k∈ks
 |_=>True
inductive REs(H:Hp):List V->List Ent->Prop
 |nil:REs H [] []
 |cons {p l:Addr}{vs us:List V}{e:Ent}{es:List Ent}:H p=some (.tup [.int e.now,.int e.part,.str (if e.took then "took" else "gave"),.ref l])->H l=some (.lst us)->RPs H us e.hs->REs H vs es->REs H (.ref p::vs) (e::es)
theorem REs.same{H H':Hp}(s:aa H H'):∀{vs:List V}{es:List Ent},REs H vs es->REs H' vs es
 |_,_,.nil=>.nil
 |_,_,.cons a b c r=>.cons (s _ _ a) (s _ _ b) (c.same s) (REs.same s r)
theorem REs.snoc{H:Hp}{p l:Addr}{us:List V}{e:Ent}(h1:H p=some (.tup [.int e.now,.int e.part,.str (if e.took then "took" else "gave"),.ref l]))(h2:H l=some (.lst us))(h3:RPs H us e.hs):∀{vs:List V}{es:List Ent},REs H vs es->REs H (vs++[.ref p]) (es++[e])
 |_,_,.nil=>.cons h1 h2 h3 .nil
 |_,_,.cons a b c r=>.cons a b c (REs.snoc h1 h2 h3 r)
theorem REs.len{H:Hp}:∀{vs:List V}{es:List Ent},REs H vs es->vs.length=es.length
 |_,_,.nil=>rfl
 |_,_,.cons _ _ _ r=>congrArg (·+1) (REs.len r)
structure PlH(a:Adr)(H0 H:Hp)(C:PlC)(ad:Rl->Addr)(hd:Nat->Addr)(lgv:List V)(S:PlS):Prop where
 own:be H0 H (dmP C.nl (aN S.gv)) ad (cnP a C ad hd lgv S)
 b:ad .b=C.b
 qo:∀i,i<C.nl->ad (.qo i)=C.qo i
 hd:∀x,x<C.n->∃vs,H0 (hd x)=some (.lst vs)/\RPs H0 vs (S.held x)
 lg:REs H0 lgv S.lg
structure cG(C:PlC)(k:Nat)(S:PlS):Prop where
 st:∀i,(S.st i).1.length+k<=10000000/\(S.st i).2<=(S.st i).1.length
 lg:S.lg.length+k<=10000000
 gv:S.gv.length+k<=10000000
 on:∀i,∀v∈(S.st i).1,OnW v
 hn:∀x,x<C.n->(∀p∈S.held x,0<=p.1/\p.1<C.nl/\OnW p.2)/\(S.held x).length<=10/\((S.held x).map λp=>p.1.toNat).Nodup
structure Gd(C:PlC)(k:Nat)(rem:List Nat)(S:PlS):Prop where
 loc:∃loc,aU C.n loc rem S
 cap:cG C k S
def bF(S:PlS):Nat:=130 * (3 * S.sp+S.gv.length)
inductive nZ(a:Adr)(vs:List V)(H:Hp)(Q:VK)(E:XK):Prop
 |mk (H0:Hp) (C:PlC) (ad:Rl->Addr) (hd:Nat->Addr) (lgv:List V) (S:PlS) (x:Nat) (h0_:vs=[.ref C.b,.int x]) (h1_:PlB a H0 C) (h2_:PlH a H0 H C ad hd lgv S) (h3_:x<C.n) (h4_:Q (.int (bK C.pace x (S.tks x))) H):nZ a vs H Q E
inductive o7(a:Adr)(vs:List V)(H:Hp)(Q:VK)(E:XK):Prop
 |mk (H0:Hp) (C:PlC) (ad:Rl->Addr) (hd:Nat->Addr) (lgv:List V) (S:PlS) (t:Int) (l:Addr) (ps:List Nat) (h0_:vs=[.ref C.b,.int t,.ref l]) (h1_:PlB a H0 C) (h2_:PlH a H0 H C ad hd lgv S) (h3_:H l=some (.lst (aD ps))) (h4_:(∀k∈aN S.gv,l≠ad (.gv k))) (h5_:S.gv.length<10000000) (h6_:ps.length<=1000) (h7_:(∀kv∈S.gv,kv.2.length<=1000)) (h8_:(aN S.gv).Nodup /\
 ∀H' ad',PlH a H0 H' C ad' hd lgv { S with gv:=bf S.gv t ps }->(∀r,(∀k,r≠.gv k)->ad' r=ad r)->Q .non H'):o7 a vs H Q E
inductive o6(a:Adr)(vs:List V)(H:Hp)(Q:VK)(E:XK):Prop
 |mk (H0:Hp) (C:PlC) (ad:Rl->Addr) (hd:Nat->Addr) (lgv:List V) (S:PlS) (now:Int) (x:Nat) (rem:List Nat) (h0_:vs=[.ref C.b,.int now,.int x]) (h1_:PlB a H0 C) (h2_:PlH a H0 H C ad hd lgv S) (h3_:Gd C 20 (x::rem) S /\
 ∀H0' H' ad' lgv',aa H0 H0'->PlH a H0' H' C ad' hd lgv' (bD C.ls S now x)->Q .non H'):o6 a vs H Q E
inductive nY(a:Adr)(vs:List V)(H:Hp)(Q:VK)(E:XK):Prop
 |mk (H0:Hp) (C:PlC) (ad:Rl->Addr) (hd:Nat->Addr) (lgv:List V) (S:PlS) (now:Int) (x:Nat) (rem:List Nat) (h0_:vs=[.ref C.b,.int now,.int x]) (h1_:PlB a H0 C) (h2_:PlH a H0 H C ad hd lgv S) (h3_:Gd C 20 (x::rem) S /\
 (∀i,cb S (aq S (C.prt x))=some i->∀H0' H',aa H0 H0'->PlH a H0' H' C ad hd lgv (fE S i.toNat x)->Q (.bl true) H') /\
 (cb S (aq S (C.prt x))=none->S.sp=0->∀H0' H',aa H0 H0'->PlH a H0' H' C ad hd lgv S->Q (.bl false) H') /\
 (cb S (aq S (C.prt x))=none->S.sp≠0->∀H0' H' ad' hd' lgv',aa H0 H0'->PlH a H0' H' C ad' hd' lgv' (aT (C.prt x) C.pace S now x)->Q (.bl true) H')):nY a vs H Q E
def gT(C:PlC)(S S':PlS)(q:Bool->Prop):Prop:=(aX C.ls C.prt C.pace S .top S'->S'.gv=[]->q true)/\∀k x r,aX C.ls C.prt C.pace S (.tak k (x::r)) S'->cb S' (aq S' (C.prt x))=none->S'.sp=0->q false
inductive nX(a:Adr)(vs:List V)(H:Hp)(Q:VK)(E:XK):Prop
 |mk (H0:Hp) (C:PlC) (ad:Rl->Addr) (hd:Nat->Addr) (lgv:List V) (S:PlS) (h0_:vs=[.ref C.b]) (h1_:PlB a H0 C) (h2_:PlH a H0 H C ad hd lgv S) (h3_:Gd C (bF S+20) [] S) (h4_:∀H0' H' ad' hd' lgv' S',aa H0 H0'->PlH a H0' H' C ad' hd' lgv' S'->gT C S S' (λb=>Q (.bl b) H')):nX a vs H Q E
inductive mR(vs:List V)(H:Hp)(Q:VK)(E:XK):Prop
 |mk (v:V) (l:Addr) (s:Sd) (xs:List Int) (h0_:vs=[v,.ref l]) (h1_:RS H v s) (h2_:s.ok xs.length) (h3_:H l=some (.lst (xs.map V.int))) (h4_:Q (.int (s.worth xs)) H):mR vs H Q E
inductive um(vs:List V)(H:Hp)(Q:VK)(E:XK):Prop
 |mk (v:V) (l:Addr) (s:Sd) (xs:List Int) (h0_:vs=[v,.ref l]) (h1_:RS H v s) (h2_:s.ok xs.length) (h3_:H l=some (.lst (xs.map V.int))) (h4_:Q (.int (s.worth xs)) H):um vs H Q E
inductive fG(a:Adr)(n:Nat)(vs:List V)(H:Hp)(Q:VK)(E:XK):Prop
 |mk (v:V) (l:Addr) (r:PR) (xs:List Int) (h0_:vs=[v,.ref l]) (h1_:r.kind=n) (h2_:RPt a H v r) (h3_:r.ok) (h4_:H l=some (.lst (xs.map V.int))) (h5_:xs.length=r.wide) (h6_:(∀x∈xs,OnW x)) (h7_:∀H' l' us,aa H H'->H l'=none->H' l'=some (.lst us)->gf H us->RPs H' us (r.made xs)->Q (.ref l') H'):fG a n vs H Q E
inductive mQ(a:Adr)(vs:List V)(H:Hp)(Q:VK)(E:XK):Prop
 |mk (H0:Hp) (v:V) (r:PR) (h0_:vs=[v]) (h1_:aa H0 H) (h2_:RR H0 v r) (h3_:∀H' p,aa H H'->H p=none->(∀K0,aa H0 K0->(∀x o,H x=none->H' x=some o->K0 x=some o)->RPt a K0 (.ref p) r)->Q (.ref p) H'):mQ a vs H Q E
inductive hU(a:Adr)(m:Bool)(vs:List V)(H:Hp)(Q:VK)(E:XK):Prop
 |mk (C:PlC) (S:PlS) (v:V) (r:PR) (qs:List (Addr×Addr×Addr)) (ls:List (Option Int)) (h0_:vs=[v,.ref C.y]) (h1_:decide (r.kind=3)=m) (h2_:RPt a H v r) (h3_:r.ok) (h4_:r.fit C.nl) (h5_:RY a H C.y C.dy C.la C.lq qs ((List.range C.nl).map S.st) ls) (h6_:∀H' t,aa H H'->(H' t=some (.tup ((aq S r).map V.int)))->Q (.ref t) H'):hU a m vs H Q E
def RPc(H:Hp)(v:V)(pace:List (List Int)):Prop:=(v=.non/\pace=[])\/∃pc pv,v=.ref pc/\H pc=some (.lst pv)/\RIs H pv pace
inductive nF(K:W.Frag)(vs:List V)(H:Hp)(Q:VK)(E:XK):Prop
 |mk (l:Addr) (ns:List Int) (k:Int) (h0_:vs=[.ref l,.int k]) (h1_:SqL K H l (ns.map V.int)) (h2_:0<=k) (h3_:∀c:Int,Q (.int c) H):nF K vs H Q E
inductive mU(vs:List V)(H:Hp)(Q:VK)(E:XK):Prop
 |mk (c k:Int) (h0_:vs=[.int c,.int k]) (h1_:(0<=k/\k<=2147483647)) (h2_:∀m:Int,OnW m->Q (.int m) H):mU vs H Q E
inductive nu(vs:List V)(H:Hp)(Q:VK)(E:XK):Prop
 |mk (c k:Int) (h0_:vs=[.int c,.int k]) (h1_:(0<=k/\k<=1000)) (h2_:∀H' p t (x:Ln),aa H H'->H' p=some (.tup [cU x.1,.ref t])->H' t=some (.tup (x.2.map V.int))->x.2.length<=4->(∀n∈x.2,OnW n)->Q (.ref p) H'):nu vs H Q E
inductive mX(vs:List V)(H:Hp)(Q:VK)(E:XK):Prop
 |mk (c k:Int) (h0_:vs=[.int c,.int k]) (h1_:(0<=k/\k<=1000)) (h2_:∀H' l (xs:List Int),aa H H'->H l=none->H' l=some (.lst (xs.map V.int))->(∀x∈xs,0<=x)->xs.length<=4->Q (.ref l) H'):mX vs H Q E
inductive n9(K:W.Frag)(vs:List V)(H:Hp)(Q:VK)(E:XK):Prop
 |mk (l:Addr) (ns:List Int) (way:Int) (h0_:vs=[.ref l,.int way]) (h1_:SqL K H l (ns.map V.int)) (h2_:ns.length<=63) (h3_:(0<=way/\way<2147483647)) (h4_:∀H' v pace,aa H H'->RPc H' v pace->pace.length<=16->(∀r∈pace,r.length<=4/\∀x∈r,0<=x)->Q v H'):n9 K vs H Q E
inductive gj(K:W.Frag)(vs:List V)(H:Hp)(Q:VK)(E:XK):Prop
 |mk (a:Addr) (ns:List Int) (h0_:vs=[.ref a]) (h1_:SqL K H a (ns.map V.int)) (h2_:ns.length<=63) (h3_:(∀n∈ns,Builtin.Int.intBits n<=2 ^ 20)) (h4_:iW H) (h5_:∀H',Q (.bl true) H'):gj K vs H Q E
theorem ln1:1<=sizeLine:=Qz
theorem ln2:2<=sizeLine:=Qz
theorem kY:3<=sizeLine:=Qz
theorem ln4:4<=sizeLine:=Qz
theorem ln5:5<=sizeLine:=Qz
theorem ln6:6<=sizeLine:=Qz
section
variable {P:Program}{w:World}{K:W.Frag}{mg:Str->Option Value}{base:Heap}{a:Adr}
theorem gJ{v u:V}:List.lookup ("laid":Str) [(("laid":Str),v),("gone",u)]=some v:=d0
theorem gK{v u:V}:List.lookup ("gone":Str) [(("laid":Str),v),("gone",u)]=some u:=(aW Qy).trans d0
theorem fW{k:Str}{v u:V}(h:((k == ("laid":Str)) || (k == ("gone":Str)))=false):List.lookup k [(("laid":Str),v),("gone",u)]=none:=by
 rw[Bool.or_eq_false_iff]at h;rw[aW h.1,aW h.2]
 rfl
theorem yu{v u:V}:List.lookup ("lengths":Str) [(("lengths":Str),v),("queues",u)]=some v:=d0
theorem gI{v u:V}:List.lookup ("queues":Str) [(("lengths":Str),v),("queues",u)]=some u:=(aW Qy).trans d0
theorem fj{k:Str}{v u:V}(h:((k == ("lengths":Str)) || (k == ("queues":Str)))=false):List.lookup k [(("lengths":Str),v),("queues",u)]=none:=by
 rw[Bool.or_eq_false_iff]at h;rw[aW h.1,aW h.2]
 rfl
theorem xF(T:Tx P w K mg a):aA P w K mg base CX0 1 a.AU a.AV ["self","things"] (nW K a):=by
 refine T.DZ.ok v8 (λvs H Q E h=>?_) (λcdv A outer s H vs Q E hr h=>?_)
 ·obtain⟨_,_,_,_,rfl,_⟩:=h
  rfl
 obtain⟨p,dx,t,xs,rfl,hp,ht,k⟩:=h
 refine⟨_,(ag (bv (pq 0) (ir vL U T.Ax PyProof.Rows.Boot.«list» (a8 (pq 1) ae)) U)
  (ai (bv (pq 0) ac U))),?_⟩
 refine⟨_,U,t,_,U,.inr ht,λl hl=>?_⟩;have ne:p≠l:=λz=>by rw[z,hl]at hp;cases hp
 refine⟨_,U,p,a.gt,dx,[],U,by rw[aj ne];exact hp,T.r6,T.Ay,by simp,?_⟩;rw[cg [] U Qy,Qk];refine⟨_,U,p,a.gt,dx,_,U,af,T.r6,T.Ar,by simp,?_⟩;rw[cg ["laid"] U Qy,cO];exact k l hl
theorem pR(T:Tx P w K mg a):aA P w K mg base CX0 1 a.AW a.AX ["self"] (nS a):=by
 refine T.E2.ok uW (λvs H Q E h=>?_) (λcdv A outer s H vs Q E hr h=>?_)
 ·obtain⟨_,_,rfl,_⟩:=h
  rfl
 obtain⟨q,st,rfl,⟨h1,h2,h3,h4⟩,k⟩:=h;refine⟨_,(ai (ao (ah fK (bI bX U T.mt Q7 (a8 (aF (pq 0) U) ae)) (aF (pq 0) U)))),?_⟩;refine⟨_,U,q.1,_,_,_,_,U,h1,T.r6,T.Ay,gJ,q.2.2,_,U,.inl (SqL.of h2),?_⟩;refine⟨_,U,q.1,_,_,_,_,U,h1,T.r6,T.Ar,gK,_,_,U,U,?_⟩;rw[q9];exact k
theorem xE(T:Tx P w K mg a):aA P w K mg base CX0 2 a.AY a.AZ ["self"] (nV a):=by
 refine T.E3.ok uZ (λvs H Q E h=>?_) (λcdv A outer s H vs Q E hr h=>?_)
 ·obtain⟨_,_,rfl,_⟩:=h
  rfl
 obtain⟨q,st,rfl,rq,k⟩:=h;refine⟨_,(ai (ao (eB (aE fO (fe (pq 0) T.r6 T.DI (pR T) (hr.mono Qz) T.D7 .nil ay) ac (az _)) (ak aY (aF (pq 0) U) (aF (pq 0) U) Oy) cS))),?_⟩;obtain⟨h1,h2,h3,h4⟩:=id rq;refine⟨_,U,q.1,_,_,U,h1,fW Qy,q,st,U,rq,_,_,U,U,_,U,?_⟩;unfold iK at k;refine bj (λc=>?_) (λc=>?_)
 ·have lt:st.2<st.1.length:=by
   have:=Qc c;omega
  rw[List.drop_eq_getElem_cons lt]at k;have e1:atI (st.1.map V.int) (st.2:Int)=some (.int st.1[st.2]):=bS (by rw[qE,qc lt];rfl);exact⟨_,U,q.1,_,_,_,_,U,h1,T.r6,T.Ay,gJ,_,U,q.1,_,_,_,_,U,h1,T.r6,T.Ar,gK,q.2.2,_,_,_,U,U,SqL.of h2,e1,k⟩
 ·have le:st.1.length<=st.2:=by
   have:=c;simp at this;omega
  rw[List.drop_of_length_le le]at k;exact k
theorem yG{xs:List Int}(h:xs.length<=10000000):(xs.map V.int).length<sizeLine:=by
 have:(10000000:Nat)<sizeLine:=Qz;rw[q9];omega
theorem xD(T:Tx P w K mg a):aA P w K mg base CX0 1 a.B0 a.B2 ["self","thing"] (nU a):=by
 refine T.E5.ok uY (λvs H Q E h=>?_) (λcdv A outer s H vs Q E hr h=>?_)
 ·obtain⟨_,_,_,rfl,_⟩:=h
  rfl
 obtain⟨q,st,x,rfl,⟨h1,h2,h3,h4⟩,k⟩:=h;refine⟨_,(ai (bT (cZ qg qv qw dE (aF (pq 0) U) (a8 (pq 1) ae)))),?_⟩;refine⟨_,U,q.1,_,_,_,_,U,h1,T.r6,T.Ay,gJ,.inl ⟨U,_,SqL.of h2⟩,_,U,q.2.2,_,_,U,U,h2,yG h4,?_⟩;rw[qO]at k;exact k
theorem xB(T:Tx P w K mg a):aA P w K mg base CX0 1 a.B7 a.Ba ["self"] (nR a):=by
 refine T.E7.ok oH (λvs H Q E h=>?_) (λcdv A outer s H vs Q E hr h=>?_)
 ·obtain⟨_,_,_,rfl,_⟩:=h
  rfl
 obtain⟨q,st,x,rfl,⟨h1,h2,h3,h4⟩,hx,k⟩:=h
 refine⟨_,(ag (aQ (i:=1) oH.nd U Oi (ak aY (aF (pq 0) U) (aF (pq 0) U) Oy))
  (ag (bv (pq 0) (ah bC (aF (pq 0) U) ac) U)
  (ai (ao (pq 1))))),?_⟩
 have e1:atI (st.1.map V.int) (st.2:Int)=some (.int x):=bS (by rw[qE,hx];rfl);refine⟨_,U,q.1,_,_,_,_,U,h1,T.r6,T.Ay,gJ,_,U,q.1,_,_,_,_,U,h1,T.r6,T.Ar,gK,q.2.2,_,_,_,U,U,SqL.of h2,e1,?_⟩;refine⟨_,U,q.1,_,_,_,_,U,h1,T.r6,T.Ar,gK,_,_,U,U,_,U,q.1,_,_,_,U,h1,T.r6,T.Ar,by simp,?_⟩;refine⟨_,U,?_⟩
 have e2:bu (("gone":Str)) (V.int ((st.2:Int)+1)) [(("laid":Str),V.ref q.2.2),(("gone":Str),V.int st.2)]=[(("laid":Str),V.ref q.2.2),(("gone":Str),V.int ((st.2+1:Nat):Int))]:=by
  rw[bu,qZ Qy,bu,Q0 U]
  rfl
 rw[e2];exact k
theorem xC(T:Tx P w K mg a):aA P w K mg base CX0 1 a.Bb a.Bc ["self"] (nT a):=by
 refine T.E9.ok uX (λvs H Q E h=>?_) (λcdv A outer s H vs Q E hr h=>?_)
 ·obtain⟨_,_,rfl,_⟩:=h
  rfl
 obtain⟨q,st,rfl,⟨h1,h2,h3,h4⟩,k⟩:=h;refine⟨_,(ai (ao (eu jd (aF (pq 0) U) (bZ (aF (pq 0) U)) fP))),?_⟩;refine⟨_,U,q.1,_,_,_,_,U,h1,T.r6,T.Ay,gJ,_,U,q.1,_,_,_,_,U,h1,T.r6,T.Ar,gK,_,U,q.2.2,_,U,SqL.of h2,λl hl=>?_⟩
 have e:c6 (st.1.map V.int) (some (st.2:Int)) none=(st.1.drop st.2).map V.int:=by
  unfold c6;rw[HT.sIx_nat];have e2:HT.sIx (st.1.map V.int).length (st.1.map V.int).length none=(st.1.map V.int).length:=U;rw[e2,q9,Nat.min_eq_left h3,List.map_drop,List.take_of_length_le (by rw[qY,q9];omega)]
 rw[e];exact k l hl
theorem RQ.same{H H':Hp}{q:Addr×Addr×Addr}{s:List Int×Nat}(e:aa H H')(h:RQ a H q s):RQ a H' q s:=⟨e _ _ h.1,e _ _ h.2.1,h.2.2.1,h.2.2.2⟩
theorem RY.at{H:Hp}{y dx la lq:Addr}{qs:List (Addr×Addr×Addr)}{st:List (List Int×Nat)}{ls:List (Option Int)}(h:RY a H y dx la lq qs st ls){i:Int}{s:List Int×Nat}(h0:0<=i)(hs:st[i.toNat]?=some s):∃q,qs[i.toNat]?=some q/\RQ a H q s/\atI (qs.map λq=>V.ref q.1) i=some (.ref q.1):=by
 have lt:i.toNat<qs.length:=by
  have:=(qf.mp hs).1;have:=h.n;omega
 have e:qs[i.toNat]?=some qs[i.toNat]:=qc lt;have ei:i=(i.toNat:Int):=(Int.toNat_of_nonneg h0).symm;refine⟨_,e,h.q _ _ _ e hs,?_⟩;exact eN h0 (by rw[qE,e];rfl)
theorem xw(T:Tx P w K mg a):aA P w K mg base CX0 3 a.Bm a.Bn ["self","line"] (nN a):=by
 refine T.Ek.ok uT (λvs H Q E h=>?_) (λcdv A outer s H vs Q E hr h=>?_)
 ·obtain⟨_,_,_,_,_,_,_,_,_,rfl,_⟩:=h
  rfl
 obtain⟨y,dx,la,lq,qs,st,ls,i,s,rfl,ry,i0,hs,k⟩:=h;refine⟨_,(ai (ao (fe (ak aY (aF (pq 0) U) (pq 1) Oy) T.r6 T.FK (xE T) (hr.mono Qz) T.E4 .nil ay))),?_⟩;obtain⟨q,hq,rq,e⟩:=ry.at i0 hs;exact⟨_,U,y,_,_,_,_,U,ry.o,T.wp,T.Az,gI,_,U,lq,_,_,_,U,U,SqL.of ry.l,e,q.1,_,_,U,rq.1,fW Qy,q,s,U,rq,k⟩
theorem xu(T:Tx P w K mg a):aA P w K mg base CX0 3 a.Bo a.Bp ["self","line","thing"] (nK a):=by
 refine T.Em.ok uS (λvs H Q E h=>?_) (λcdv A outer s H vs Q E hr h=>?_)
 ·obtain⟨_,_,_,_,_,_,_,_,_,_,_,rfl,_⟩:=h
  rfl
 obtain⟨y,dx,la,lq,qs,st,ls,i,x,q,s,rfl,ry,i0,hs,hq',k⟩:=h;refine⟨_,(ai (bT (cY (ak aY (aF (pq 0) U) (pq 1) Oy) T.r6 T.FL (xD T) (hr.mono Qz) T.E6 .nil ay (a8 (pq 2) ae)))),?_⟩;obtain⟨q2,hq,rq,e⟩:=ry.at i0 hs;rw[hq']at hq;cases hq;exact⟨_,U,y,_,_,_,_,U,ry.o,T.wp,T.Az,gI,_,U,lq,_,_,_,U,U,SqL.of ry.l,e,q.1,_,_,U,rq.1,fW Qy,_,U,q,s,x,U,rq,k⟩
theorem xp(T:Tx P w K mg a):aA P w K mg base CX0 3 a.Bq a.Br ["self","line"] (nG a):=by
 refine T.Eo.ok uP (λvs H Q E h=>?_) (λcdv A outer s H vs Q E hr h=>?_)
 ·obtain⟨_,_,_,_,_,_,_,_,_,_,_,rfl,_⟩:=h
  rfl
 obtain⟨y,dx,la,lq,qs,st,ls,i,x,q,s,rfl,ry,i0,hs,hq',hx,k⟩:=h;refine⟨_,(ai (ao (fe (ak aY (aF (pq 0) U) (pq 1) Oy) T.r6 T.FM (xB T) (hr.mono Qz) T.E8 .nil ay))),?_⟩;obtain⟨q2,hq,rq,e⟩:=ry.at i0 hs;rw[hq']at hq;cases hq;exact⟨_,U,y,_,_,_,_,U,ry.o,T.wp,T.Az,gI,_,U,lq,_,_,_,U,U,SqL.of ry.l,e,q.1,_,_,U,rq.1,fW Qy,q,s,x,U,rq,hx,k⟩
theorem pQ(T:Tx P w K mg a):aA P w K mg base CX0 2 a.Bi a.Bj ["self","line"] (nJ a):=by
 refine T.Eh.ok uR (λvs H Q E h=>?_) (λcdv A outer s H vs Q E hr h=>?_)
 ·obtain⟨_,_,_,_,_,_,_,_,_,rfl,_⟩:=h
  rfl
 obtain⟨y,dx,la,lq,qs,st,ls,i,s,rfl,ry,i0,hs,k⟩:=h;refine⟨_,(ai (ao (fe (ak aY (aF (pq 0) U) (pq 1) Oy) T.r6 T.DI (pR T) (hr.mono Qz) T.D7 .nil ay))),?_⟩;obtain⟨q,hq,rq,e⟩:=ry.at i0 hs;exact⟨_,U,y,_,_,_,_,U,ry.o,T.wp,T.Az,gI,_,U,lq,_,_,_,U,U,SqL.of ry.l,e,q.1,_,_,U,rq.1,fW Qy,q,s,U,rq,k⟩
theorem xr(T:Tx P w K mg a):aA P w K mg base CX0 3 a.Bk a.Bl ["self","line"] (nI a):=by
 refine T.Ei.ok oG (λvs H Q E h=>?_) (λcdv A outer s H vs Q E hr h=>?_)
 ·obtain⟨_,_,_,_,_,_,_,_,_,_,rfl,_⟩:=h
  rfl
 obtain⟨y,dx,la,lq,qs,st,ls,i,s,L,rfl,ry,i0,hs,hL,k⟩:=h
 refine⟨_,(ag (aQ (i:=2) oG.nd U Oi (ak aY (aF (pq 0) U) (pq 1) Oy))
  (ai (ao (pF (fQ gy (pq 2) cS (az _)) (io (fQ fN (cY (pq 0) T.wp T.DJ (pQ T) (hr.mono Qz) T.Dc .nil ay (a8 (pq 1) ae)) (pq 2) (az _))))))),?_⟩
 have e:atI (ls.map cU) i=some (cU L):=eN i0 (by rw[qE,hL];rfl);refine⟨_,U,y,_,_,_,_,U,ry.o,T.wp,T.DK,yu,_,U,la,_,_,_,U,U,SqL.of ry.w,e,?_⟩
 cases L with
 |none=>exact⟨_,U,U,_,U,bn U k⟩
 |some m=>exact⟨_,U,U,_,U,aJ U ⟨_,U,y,_,_,U,ry.o,fj Qy,_,U,y,dx,la,lq,qs,st,ls,i,s,U,ry,i0,hs,_,U,_,_,U,U,k⟩⟩
theorem xq(T:Tx P w K mg a):aA P w K mg base CX0 3 a.Bs a.Bt ["self"] (nH a):=by
 refine T.Er.ok uQ (λvs H Q E h=>?_) (λcdv A outer s H vs Q E hr h=>?_)
 ·obtain⟨_,_,_,_,_,_,_,rfl,_⟩:=h
  rfl
 obtain⟨y,dx,la,lq,qs,st,ls,rfl,ry,few,k⟩:=h;refine⟨_,(ai (ao (ci (k:=1) (Nc:=["queue"]) (js:=[]) (show aS (am ic) ["self"] _ 1 ["queue"] []from aS.mk U (by decide +kernel) (by decide +kernel) (by decide +kernel) U (by decide +kernel)) U (cu (aF (pq 0) U)) (λ_ _ _ _ _=>(aV (i:=0) (show List.Nodup (["queue"]:List Str)from by decide +kernel) U Oi)) (λ_ _ _ _ _=>bY) (λ_ _ _ _ _=>(fe (pq 0) T.r6 T.FN (xC T) (hr.mono Qz) T.Ea .nil ay))))),?_⟩;have hl:=ry.l;have ql:(qs.map λq=>V.ref q.1).length=qs.length:=q9 _;refine⟨_,U,y,_,_,_,_,U,ry.o,T.wp,T.Az,gI,lq,U,⟨_,SqL.of hl⟩,?_⟩;refine dL (xs:=qs.map λq=>V.ref q.1) (λi ys σ H3=>(∃v,σ=[v])/\aa H H3/\RIs H3 ys (dX (st.take i))/\gf H ys) ⟨⟨none,U⟩,aa.refl _,.nil,λp h=>by simp at h⟩ ?_ (bi (m:=1000) Qw) ?_ ?_ ?_
 ·rintro i ys σ H3 _ ⟨_,_,r3,_⟩;rw[r3.len];unfold dX;rw[q9,qK];omega
 ·rintro i ys σ H3 ⟨_,s3,_⟩;exact SqL.of (s3 _ _ hl)
 ·rintro i x ys σ H3 hx ⟨⟨v,rfl⟩,s3,r3,an⟩;rw[qE]at hx;obtain⟨q,hq,rfl⟩:=qP.mp hx
  have li:i<st.length:=by
   have:=(qf.mp hq).1;have:=ry.n;omega
  have hs:st[i]?=some st[i]:=qc li;have rq:=(ry.q i q _ hq hs).same s3;refine⟨_,U,q.1,_,_,U,rq.1,fW Qy,q,_,U,rq,λl hl'=>⟨⟨_,U⟩,s3.trans (aa.new hl' _),?_,λp hp=>?_⟩⟩
  ·have tk:dX (st.take (i+1))=dX (st.take i)++[st[i].1.drop st[i].2]:=by
    unfold dX;rw[qr,hs,qO]
    rfl
   rw[tk];exact(r3.same (aa.new hl' _)).snoc af
  ·rcases qh.mp hp with hp|hp
   ·exact an p hp
   ·cases qS.mp hp;exact aa.none s3 hl'
 rintro ys σ3 H3 ⟨_,s3,r3,an⟩ l hl';rw[ql,ry.n,qH]at r3;exact k _ l ys (s3.trans (aa.new hl' _)) (aa.none s3 hl') af (r3.same (aa.new hl' _)) an
theorem xx(T:Tx P w K mg a):aA P w K mg base CX0 3 a.Bg a.Bh ["self","lines"] (nP a):=by
 refine T.Ef.ok uU (λvs H Q E h=>?_) (λcdv A outer s H vs Q E hr h=>?_)
 ·obtain⟨_,_,_,_,_,rfl,_⟩:=h
  rfl
 obtain⟨p,dx,l,us,xs0,rfl,hp,hl,hln,few,sm,k⟩:=h
 refine⟨_,(ag (bv (pq 0) (ci (k:=2) (Nc:=["length","first"]) (js:=[]) (show aS (am gw) ["self","lines"] _ 2 ["length","first"] []from aS.mk U (by decide +kernel) (by decide +kernel) (by decide +kernel) U (by decide +kernel)) U (cu (pq 1)) (λ_ _ _ _ _=>(gD 2 U (c5 (aV (i:=0) (show List.Nodup (["length","first"]:List Str)from by decide +kernel) U Oi) (c5 (aV (i:=1) (show List.Nodup (["length","first"]:List Str)from by decide +kernel) U Oi) dG)))) (λ_ _ _ _ _=>bY) (λ_ _ _ _ _=>(pq 0))) U)
  (ai (bv (pq 0) (ci (k:=2) (Nc:=["length","first"]) (js:=[]) (show aS (am gw) ["self","lines"] _ 2 ["length","first"] []from aS.mk U (by decide +kernel) (by decide +kernel) (by decide +kernel) U (by decide +kernel)) U (cu (pq 1)) (λ_ _ _ _ _=>(gD 2 U (c5 (aV (i:=0) (show List.Nodup (["length","first"]:List Str)from by decide +kernel) U Oi) (c5 (aV (i:=1) (show List.Nodup (["length","first"]:List Str)from by decide +kernel) U Oi) dG)))) (λ_ _ _ _ _=>bY) (λ_ _ _ _ _=>(ff T.FJ (xF T) (hr.mono Qz) U T.FI T.E1 .nil ay (a8 (pq 1) ae)))) U))),?_⟩
 have ul:=hln.len;refine⟨_,U,l,U,⟨_,SqL.of hl⟩,?_⟩;refine dL (xs:=us) (λi ys σ H3=>(∃v v',σ=[v,v'])/\H3=H/\ys=(xs0.take i).map λx=>cU x.1) ⟨⟨none,none,U⟩,U,U⟩ ?_ (bi (m:=1000) Qw) ?_ ?_ ?_
 ·rintro i ys σ H3 _ ⟨_,_,rfl⟩;rw[q9,qK];omega
 ·rintro i ys σ H3 ⟨_,rfl,_⟩;exact SqL.of hl
 ·rintro i x ys σ H3 hx ⟨⟨v,v',rfl⟩,rfl,hy⟩;obtain⟨px,t,xl,rfl,hi,h1,h2⟩:=hln.at i x hx;refine⟨px,_,U,SqT.of h1,U,_,_,U,_,_,U,U,?_⟩;exact⟨_,U,⟨_,_,U⟩,U,by rw[hy,qr,hi,qO];rfl⟩
 rintro ys σ3 H3 ⟨_,rfl,hy⟩ la hla;rw[ul,qH]at hy;have nla:p≠la:=λz=>by rw[z,hla]at hp;cases hp
 have s1:aa H3 (upd H3 la (.lst ys)):=aa.new hla _;refine⟨_,U,p,a.ld,dx,[],U,by rw[aj nla];exact hp,T.wp,T.DK,by simp,?_⟩;rw[cg [] U Qy,Qk]
 have keep:∀b o,b≠p->H3 b=some o->(upd (upd H3 la (.lst ys)) p (.ins a.ld dx [("lengths",.ref la)])) b=some o:=λb o nb hb=>by
  rw[aj nb];exact s1 _ _ hb
 have new:∀b,(upd (upd H3 la (.lst ys)) p (.ins a.ld dx [("lengths",.ref la)])) b=none->H3 b=none/\b≠p/\b≠la:=λb hb=>by
  have nb:b≠p:=λz=>by rw[z,af]at hb;cases hb
  have nl:b≠la:=λz=>by rw[aj nb,z,af]at hb;cases hb
  rw[aj nb,aj nl]at hb;exact⟨hb,nb,nl⟩
 have hp4:(upd (upd H3 la (.lst ys)) p (.ins a.ld dx [("lengths",.ref la)])) p=some (.ins a.ld dx [("lengths",.ref la)]):=af;have ntup:∀b xs,H3 b=some (.tup xs)->b≠p:=λb xs hb z=>by rw[z,hp]at hb;cases hb
 have nlst:∀b xs,H3 b=some (.lst xs)->b≠p:=λb xs hb z=>by rw[z,hp]at hb;cases hb
 have hla4:(upd (upd H3 la (.lst ys)) p (.ins a.ld dx [("lengths",.ref la)])) la=some (.lst ys):=by rw[aj (Ne.symm nla)];exact af
 generalize upd (upd H3 la (.lst ys)) p (.ins a.ld dx [("lengths",.ref la)])=H4 at keep new hp4 hla4 ⊢;have hl4:H4 l=some (.lst us):=keep _ _ (nlst _ _ hl) hl;refine⟨_,U,l,U,⟨_,SqL.of hl4⟩,?_⟩
 refine dL (xs:=us) (λi ys σ H5=>(∃v v',σ=[v,v'])/\aa H4 H5/\∃qs:List (Addr×Addr×Addr),ys=qs.map (λq=>V.ref q.1)/\qs.length=(xs0.take i).length/\(∀(j:Nat) q s,qs[j]?=some q->(cz (xs0.take i))[j]?=some s->RQ a H5 q s)/\(qs.map λq=>q.2.2).Nodup/\(qs.map λq=>q.1).Nodup/\∀q∈qs,H4 q.2.2=none/\H4 q.1=none)
  ⟨⟨none,none,U⟩,aa.refl _,[],U,U,λj q s h=>by simp at h,List.nodup_nil,List.nodup_nil,λq h=>by simp at h⟩ ?_ (bi (m:=1000) Qw) ?_ ?_ ?_
 ·rintro i ys σ H5 _ ⟨_,_,qs,rfl,h,_⟩;rw[q9,h,qK];omega
 ·rintro i ys σ H5 ⟨_,s5,_⟩;exact SqL.of (s5 _ _ hl4)
 ·rintro i x ys σ H5 hx ⟨⟨v,v',rfl⟩,s5,qs,rfl,ql,hq,nd1,nd2,fr⟩;obtain⟨px,t,xl,rfl,hi,h1,h2⟩:=hln.at i x hx;have h1':=s5 _ _ (keep _ _ (ntup _ _ h1) h1);have h2':=s5 _ _ (keep _ _ (ntup _ _ h2) h2);refine⟨px,_,U,SqT.of h1',U,_,_,U,_,_,U,U,?_⟩;refine⟨_,U,λo dq ho hdq ndo=>?_⟩;have nt:t≠dq:=λz=>by rw[z,hdq]at h2';cases h2'
  have nt':t≠o:=λz=>by rw[z,ho]at h2';cases h2'
  refine⟨o,dq,t,xl.2,U,af,SqT.of (by rw[aj nt',aj nt];exact h2'),λll hll=>⟨U,?_⟩⟩;have nlo:ll≠o:=λz=>by rw[z,af]at hll;cases hll
  have nld:ll≠dq:=λz=>by rw[aj nlo,z,af]at hll;cases hll
  have hll5:H5 ll=none:=by rw[aj nlo,aj nld]at hll;exact hll
  have s6:aa H5 (upd (upd (upd (upd H5 dq (.own o)) o (.ins a.gt dq [])) ll (.lst (xl.2.map V.int))) o (.ins a.gt dq [("laid",.ref ll),("gone",.int 0)])):=λb ob hb=>by
   have n1:b≠o:=λz=>by rw[z,ho]at hb;cases hb
   have n2:b≠dq:=λz=>by rw[z,hdq]at hb;cases hb
   have n3:b≠ll:=λz=>by rw[z,hll5]at hb;cases hb
   rw[aj n1,aj n3,aj n1,aj n2];exact hb
  have none4:∀b,H5 b=none->H4 b=none:=λb hb=>aa.none s5 hb
  have inH5:∀q∈qs,(∃z,H5 q.1=some z)/\∃z,H5 q.2.2=some z:=λq hm=>by
   obtain⟨j,hj,ej⟩:=List.mem_iff_getElem.mp hm;have e1:qs[j]?=some q:=by rw[qc hj,ej]
   have lt:j<(cz (xs0.take i)).length:=by unfold cz;rw[q9,<- ql];exact hj
   have r:=hq j q _ e1 (qc lt);exact⟨⟨_,r.1⟩,_,r.2.1⟩
  have rnew:RQ a (upd (upd (upd (upd H5 dq (.own o)) o (.ins a.gt dq [])) ll (.lst (xl.2.map V.int))) o (.ins a.gt dq [("laid",.ref ll),("gone",.int 0)])) (o,dq,ll) (xl.2,0):=
   ⟨af,by rw[aj nlo];exact af,qt _,qy (sm xl (qz hi)) Qz⟩
  refine⟨⟨_,_,U⟩,s5.trans s6,qs++[(o,dq,ll)],by rw[qO];rfl,by rw[qr,hi];simp[ql],λj q s hj hs=>?_,?_,?_,λq hm=>?_⟩
  ·have bt:cz (xs0.take (i+1))=cz (xs0.take i)++[(xl.2,0)]:=by unfold cz;rw[qr,hi,qO];rfl
   have bl:(cz (xs0.take i)).length=qs.length:=by unfold cz;rw[q9,ql]
   rw[bt]at hs;by_cases lt:j<qs.length
   ·rw[Q5 lt]at hj;rw[Q5 Qw]at hs;exact(hq j q s hj hs).same s6
   ·rw[qL Qw]at hj hs;rw[bl]at hs
    cases ej:j-qs.length with
    |zero=>
     rw[ej]at hj hs;cases qJ hj;cases qJ hs;exact rnew
    |succ n=>rw[ej]at hj;simp at hj
  ·rw[qO,List.nodup_append];refine⟨nd1,by simp,λx hx y hy z=>?_⟩;obtain⟨q,hm,rfl⟩:=List.mem_map.mp hx;obtain⟨_,w',hw'⟩:=inH5 q hm;simp at hy;subst hy;rw[z,hll5]at hw';cases hw'
  ·rw[qO,List.nodup_append];refine⟨nd2,by simp,λx hx y hy z=>?_⟩;obtain⟨q,hm,rfl⟩:=List.mem_map.mp hx;obtain⟨⟨w',hw'⟩,_⟩:=inH5 q hm;simp at hy;subst hy;rw[z,ho]at hw';cases hw'
  ·rcases qh.mp hm with hm|hm
   ·exact fr q hm
   ·rw[qS.mp hm];exact⟨none4 _ hll5,none4 _ ho⟩
 rintro ys2 σ5 H5 ⟨_,s5,qs,rfl,ql,hq,nd1,nd2,fr⟩ lq hlq;rw[ul,qH]at ql hq;have s6:=s5.trans (aa.new hlq (.lst (qs.map λq=>V.ref q.1)))
 have nq:p≠lq:=λz=>by
  have:=s5 _ _ hp4;rw[z,hlq]at this;cases this
 refine⟨_,U,p,a.ld,dx,_,U,s6 _ _ hp4,T.wp,T.Az,by simp,?_⟩;rw[cg ["lengths"] U Qy];have up:∀b o,b≠p->(upd H5 lq (.lst (qs.map λq=>V.ref q.1))) b=some o->(upd (upd H5 lq (.lst (qs.map λq=>V.ref q.1))) p (.ins a.ld dx ([(("lengths":Str),V.ref la)]++[(("queues":Str),V.ref lq)]))) b=some o:=λb o nb hb=>by rw[aj nb];exact hb
 refine k _ la lq qs (λb o nb hb=>up _ _ nb (s6 _ _ (keep _ _ nb hb))) ⟨af,up _ _ (Ne.symm nq) af,by rw[ql];unfold cz;rw[q9],λi q s hi hs=>?_,?_,by unfold cz;rw[q9,q9]⟩ nd1 nd2 (λq hm=>⟨(new _ (fr q hm).1).1,(new _ (fr q hm).2).2.1,(new _ (fr q hm).2).1⟩) ⟨(new _ (aa.none s5 hlq)).1,?_⟩ ⟨hla,?_⟩
 ·have r:=(hq i q s hi hs).same (aa.new hlq (.lst (qs.map λq=>V.ref q.1)));have fq:=fr q (qz hi);exact⟨up _ _ (new _ fq.2).2.1 r.1,up _ _ (new _ fq.1).2.1 r.2.1,r.2.2⟩
 ·refine up _ _ (Ne.symm nla) (s6 _ _ ?_);rw[hla4,hy,List.map_map]
  rfl
 ·intro hm;obtain⟨q,hm,e⟩:=List.mem_map.mp hm;obtain⟨j,hj,ej⟩:=List.mem_iff_getElem.mp hm;have lt:j<(cz xs0).length:=by unfold cz;rw[q9,<- ql];exact hj
  have r:=hq j q _ (by rw[qc hj,ej]) (qc lt);have:=r.2.1;rw[e,hlq]at this;cases this
 ·intro hm;obtain⟨q,hm,e⟩:=List.mem_map.mp hm;have:=(new _ (fr q hm).1).2.2;exact this e
theorem iw(T:Tx P w K mg a):aA P w K mg base CX0 1 a.AF a.Bu ["self","ins"] (oa a):=by
 refine T.Eu.ok ve (λvs H Q E h=>?_) (λcdv A outer s H vs Q E hr h=>?_)
 ·obtain⟨_,_,_,_,rfl,_⟩:=h
  rfl
 obtain⟨p,C,dx,u,rfl,hp,hC,k⟩:=h;refine⟨_,(ai (bv (pq 0) (pq 1) U)),?_⟩
 have cn:Cls K C/\bc K C "ins":=by
  rcases hC with rfl|rfl|rfl|rfl
  ·exact⟨T.Ap,T.DL⟩
  ·exact⟨T.wT,T.DO⟩
  ·exact⟨T.wE,T.DR⟩
  ·exact⟨T.wP,T.AL⟩
 exact⟨_,U,_,U,p,C,dx,[],U,hp,cn.1,cn.2,by simp,k⟩
theorem xM(T:Tx P w K mg a):aA P w K mg base CX0 2 a.Bw a.Bx ["self","ins","outs","route"] (o9 a):=by
 refine T.Ew.ok vc (λvs H Q E h=>?_) (λcdv A outer s H vs Q E hr h=>?_)
 ·obtain⟨_,_,_,_,_,rfl,_⟩:=h
  rfl
 obtain⟨p,dx,u,v,x,rfl,hp,k⟩:=h
 refine⟨_,(ag (bT (iq U T.AK T.AT (iw T) (hr.mono Qz) T.AH .nil ay (a8 (pq 0) (a8 (pq 1) ae))))
  (ag (bv (pq 0) (pq 2) U)
  (ai (bv (pq 0) (pq 3) U)))),?_⟩
 refine⟨_,U,_,U,p,a.u8,dx,u,U,hp,.inl U,?_⟩;refine⟨_,U,_,U,p,a.u8,dx,_,U,af,T.Ap,T.DM,by simp,?_⟩;rw[cg ["ins"] U Qy];refine⟨_,U,_,U,p,a.u8,dx,_,U,af,T.Ap,T.DN,by simp,?_⟩;rw[cg ["ins","outs"] U Qy,cO,cO];exact k
theorem xA(T:Tx P w K mg a):aA P w K mg base CX0 2 a.BA a.BB ["self","ins","out","sign","sides"] (nQ a):=by
 refine T.EA.ok uV (λvs H Q E h=>?_) (λcdv A outer s H vs Q E hr h=>?_)
 ·obtain⟨_,_,_,_,_,_,rfl,_⟩:=h
  rfl
 obtain⟨p,dx,u,v,x,y,rfl,hp,k⟩:=h
 refine⟨_,(ag (bT (iq U T.AK T.AT (iw T) (hr.mono Qz) T.AH .nil ay (a8 (pq 0) (a8 (pq 1) ae))))
  (ag (bv (pq 0) (pq 2) U)
  (ag (bv (pq 0) (pq 3) U)
  (ai (bv (pq 0) (pq 4) U))))),?_⟩
 refine⟨_,U,_,U,p,a.r9,dx,u,U,hp,.inr (.inl U),?_⟩;refine⟨_,U,_,U,p,a.r9,dx,_,U,af,T.wT,T.DP,by simp,?_⟩;rw[cg ["ins"] U Qy];refine⟨_,U,_,U,p,a.r9,dx,_,U,af,T.wT,T.DQ,by simp,?_⟩;rw[cg ["ins","out"] U Qy];refine⟨_,U,_,U,p,a.r9,dx,_,U,af,T.wT,T.D0,by simp,?_⟩;rw[cg ["ins","out","sign"] U Qy,cO,cO,cO];exact k
theorem xR(T:Tx P w K mg a):aA P w K mg base CX0 2 a.BE a.BF ["self","ins","which","ones","noughts","told"] (oh a):=by
 refine T.EE.ok vi (λvs H Q E h=>?_) (λcdv A outer s H vs Q E hr h=>?_)
 ·obtain⟨_,_,_,_,_,_,_,rfl,_⟩:=h
  rfl
 obtain⟨p,dx,u,v,x,y,z,rfl,hp,k⟩:=h
 refine⟨_,(ag (bT (iq U T.AK T.AT (iw T) (hr.mono Qz) T.AH .nil ay (a8 (pq 0) (a8 (pq 1) ae))))
  (ag (bv (pq 0) (pq 2) U)
  (ag (bv (pq 0) (pq 3) U)
  (ag (bv (pq 0) (pq 4) U)
  (ai (bv (pq 0) (pq 5) U)))))),?_⟩
 refine⟨_,U,_,U,p,a.om,dx,u,U,hp,.inr (.inr (.inl U)),?_⟩;refine⟨_,U,_,U,p,a.om,dx,_,U,af,T.wE,T.DS,by simp,?_⟩;rw[cg ["ins"] U Qy];refine⟨_,U,_,U,p,a.om,dx,_,U,af,T.wE,T.DT,by simp,?_⟩;rw[cg ["ins","which"] U Qy];refine⟨_,U,_,U,p,a.om,dx,_,U,af,T.wE,T.DU,by simp,?_⟩;rw[cg ["ins","which","ones"] U Qy];refine⟨_,U,_,U,p,a.om,dx,_,U,af,T.wE,T.D3,by simp,?_⟩;rw[cg ["ins","which","ones","noughts"] U Qy,cO,cO,cO,cO];exact k
theorem xP(T:Tx P w K mg a):aA P w K mg base CX0 2 a.BI a.BJ ["self","told","ones","noughts","outs"] (og a):=by
 refine T.EI.ok vg (λvs H Q E h=>?_) (λcdv A outer s H vs Q E hr h=>?_)
 ·obtain⟨_,_,_,_,_,_,rfl,_⟩:=h
  rfl
 obtain⟨p,dx,u,v,x,y,rfl,hp,k⟩:=h
 refine⟨_,(ag (bT (iq U T.AK T.AT (iw T) (hr.mono Qz) T.AH .nil ay (a8 (pq 0) (a8 (bw (a8 (pq 1) ae)) ae))))
  (ag (bv (pq 0) (pq 2) U)
  (ag (bv (pq 0) (pq 3) U)
  (ai (bv (pq 0) (pq 4) U))))),?_⟩
 refine⟨_,U,_,U,ln1,λt ht=>?_⟩;have ne:p≠t:=λz=>by rw[z,ht]at hp;cases hp
 refine⟨p,a.or,dx,.ref t,U,by rw[aj ne];exact hp,.inr (.inr (.inr U)),?_⟩;refine⟨_,U,_,U,p,a.or,dx,_,U,af,T.wP,T.DV,by simp,?_⟩;rw[cg ["ins"] U Qy];refine⟨_,U,_,U,p,a.or,dx,_,U,af,T.wP,T.DW,by simp,?_⟩;rw[cg ["ins","ones"] U Qy];refine⟨_,U,_,U,p,a.or,dx,_,U,af,T.wP,T.DX,by simp,?_⟩;rw[cg ["ins","ones","noughts"] U Qy,cO,cO,cO];exact k t ht
theorem wW(T:Tx P w K mg a):aA P w K mg base CX0 1 a.Be a.Bf ["sign","a","b"] mO:=by
 refine T.Da.ok uG (λvs H Q E h=>?_) (λcdv A outer s H vs Q E hr h=>?_)
 ·obtain⟨_,_,_,rfl,_⟩:=h
  rfl
 obtain⟨sg,x,y,rfl,hx,hy,k⟩:=h
 refine⟨_,(ag (aL (aE bd (pq 0) bo (az _)) (ai (ao (ah bC (pq 1) (pq 2)))) aM)
  (ag (aL (aE bd (pq 0) bo (az _)) (ai (ao (ah fK (pq 1) (pq 2)))) aM)
  (ag (aL (aE bd (pq 0) bo (az _)) (ai (ao (ah c8 (pq 1) (pq 2)))) aM)
  (ag (aL (aE bd (pq 0) bo (az _)) (ai (ao (ah y7 (pq 1) (pq 2)))) aM)
  (ag (aL (aE bd (pq 0) bo (az _)) (ai (ao (ah xU (pq 1) (pq 2)))) aM)
  (ai (ao (ah xS (pq 1) (pq 2))))))))),?_⟩
 unfold kh at k;walk_at "rd";refine bj (λc=>?_) (λc=>?_)
 ·rw[Q0 (dQ c)]at k;walk_at "rd";exact k
 rw[qZ (dR c)]at k;walk_at "rd";refine bj (λc=>?_) (λc=>?_)
 ·rw[Q0 (dQ c)]at k;walk_at "rd";exact k
 rw[qZ (dR c)]at k;walk_at "rd";refine bj (λc=>?_) (λc=>?_)
 ·rw[Q0 (dQ c)]at k;walk_at "rd";exact⟨IntMulOk.of_bits (dN hx) (dN hy),k⟩
 rw[qZ (dR c)]at k;walk_at "rd";refine bj (λc=>?_) (λc=>?_)
 ·rw[Q0 (dQ c)]at k;walk_at "rd";exact k
 rw[qZ (dR c)]at k;walk_at "rd";refine bj (λc=>?_) (λc=>?_)
 ·rw[Q0 (dQ c)]at k;walk_at "rd";exact k
 rw[qZ (dR c)]at k;walk_at "rd";exact k
theorem wZ(T:Tx P w K mg a):aA P w K mg base CX0 2 a.done a.Bd ["sign","a","b"] mS:=by
 refine T.D8.ok uI (λvs H Q E h=>?_) (λcdv A outer s H vs Q E hr h=>?_)
 ·obtain⟨_,_,_,rfl,_⟩:=h
  rfl
 obtain⟨sg,x,y,rfl,hx,hy,k⟩:=h
 refine⟨_,(ag (aL (aE bd (pq 0) bo (az _)) (ai (ao (eB (aE bd (pq 2) ac (az _)) ac (ah y4 (pq 1) (pq 2))))) aM)
  (ag (aL (aE bd (pq 0) bo (az _)) (ai (ao (eB (aE fN (pq 1) (pq 2) (az _)) ac ac))) aM)
  (ag (aL (aE bd (pq 0) bo (az _)) (ai (ao (eB (aE bd (pq 1) (pq 2) (az _)) ac ac))) aM)
  (ai (ao (ah bb (ba (wW T) (hr.mono Qz) U T.Ee T.Da.kp T.Ed .nil ay (a8 (pq 0) (a8 (pq 1) (a8 (pq 2) ae)))) (wo U T.FH T.r_WHEEL))))))),?_⟩
 unfold fZ at k;walk_at "rd";refine bj (λc=>?_) (λc=>?_)
 ·rw[Q0 (dQ c)]at k;walk_at "rd";refine bj (λc=>?_) (λc=>?_)
  ·rw[Q0 (dn c)]at k;exact k
  ·have c':=dw c;rw[qZ c']at k;walk_at "rd";exact⟨⟨by have:=hy.lo;omega,tw hy⟩,k⟩
 rw[qZ (dR c)]at k;walk_at "rd";refine bj (λc=>?_) (λc=>?_)
 ·rw[Q0 (dQ c)]at k;walk_at "rd";refine bj (λc=>?_) (λc=>?_)
  ·rw[Q0 (Qc c)]at k;exact k
  ·rw[qZ (λz=>c (Q1 z))]at k;exact k
 rw[qZ (dR c)]at k;walk_at "rd";refine bj (λc=>?_) (λc=>?_)
 ·rw[Q0 (dQ c)]at k;walk_at "rd";refine bj (λc=>?_) (λc=>?_)
  ·rw[Q0 (dn c)]at k;exact k
  ·rw[qZ (dw c)]at k;exact k
 rw[qZ (dR c)]at k;walk_at "rd";refine⟨sg,x,y,U,hx,hy,?_⟩;walk_at "rd";exact k
theorem iX{xs:List Int}{i:Int}(h0:0<=i)(h1:i<xs.length):atI (xs.map V.int) i=some (.int (xs.getD i.toNat 0)):=by
 have lt:i.toNat<xs.length:=Qw;exact eN h0 (by rw[qE,qc lt,qj,qc lt];rfl)
theorem gU{s:Sd}{xs:List Int}(h:s.ok xs.length)(on:∀x∈xs,OnW x):OnW (s.worth xs):=by
 cases s with
 |num n=>exact h
 |thing i=>
  obtain⟨h0,h1⟩:=h;have lt:i.toNat<xs.length:=Qw;show OnW (xs.getD i.toNat 0);rw[qj,qc lt];exact on _ (List.getElem_mem lt)
theorem gg{H1:Hp}{ts:List Addr}{xs ys:List V}(tl:ts.length=min xs.length ys.length)(at_:∀(j:Nat)(t:Addr)(x y:V),ts[j]?=some t->xs[j]?=some x->ys[j]?=some y->H1 t=none):gf H1 (ts.map V.ref):=λp hp=>by
 obtain⟨q,hq,e⟩:=List.mem_map.mp hp;cases e;obtain⟨j,hj⟩:=List.mem_iff_getElem?.mp hq;have lt:=(qf.mp hj).1;exact at_ j p _ _ hj (qc Qw) (qc Qw)
theorem pL(T:Tx P w K mg a):aA P w K mg base CX0 1 a.BO a.BP ["side","things"] mR:=by
 refine T.CP.ok uH (λvs H Q E h=>?_) (λcdv A outer s H vs Q E hr h=>?_)
 ·obtain⟨_,_,_,_,rfl,_⟩:=h
  rfl
 obtain⟨v,l,sd,xs,rfl,hs,ok,hl,k⟩:=h;refine⟨_,(ai (ao (eB (aE bd (ak aH (pq 0) ac Oy) bo (az _)) (ak aY (pq 1) (ak aH (pq 0) ac Oy) Oy) (ak aH (pq 0) ac Oy)))),?_⟩
 cases hs with
 |num h=>exact⟨_,U,_,_,_,_,U,U,SqT.of h,U,U,_,U,aJ Qy ⟨_,U,_,_,_,_,U,U,SqT.of h,U,k⟩⟩
 |thing h=>exact⟨_,U,_,_,_,_,U,U,SqT.of h,U,U,_,U,bn Qy ⟨_,U,_,U,_,_,_,_,U,U,SqT.of h,U,l,_,_,_,U,U,SqL.of hl,iX ok.1 ok.2,k⟩⟩
theorem lf2{k1 k2:Str}{u v:V}{r:List (Str×V)}(h:(k2 == k1)=false):List.lookup k2 ((k1,u)::(k2,v)::r)=some v:=(aW h).trans d0
theorem lf3{k1 k2 k3:Str}{u v x:V}{r:List (Str×V)}(h:(k3 == k1)=false)(h':(k3 == k2)=false):List.lookup k3 ((k1,u)::(k2,v)::(k3,x)::r)=some x:=(aW h).trans (lf2 h')
theorem lf4{k1 k2 k3 k4:Str}{u v x y:V}{r:List (Str×V)}(h:(k4 == k1)=false)(h':(k4 == k2)=false)(h2:(k4 == k3)=false):List.lookup k4 ((k1,u)::(k2,v)::(k3,x)::(k4,y)::r)=some y:=(aW h).trans (lf3 h' h2)
theorem lf5{k1 k2 k3 k4 k5:Str}{u v x y z:V}{r:List (Str×V)}(h:(k5 == k1)=false)(h':(k5 == k2)=false)(h2:(k5 == k3)=false)(h3:(k5 == k4)=false):List.lookup k5 ((k1,u)::(k2,v)::(k3,x)::(k4,y)::(k5,z)::r)=some z:=(aW h).trans (lf4 h' h2 h3)
theorem xy(T:Tx P w K mg a):aA P w K mg base CX0 3 a.BC a.BD ["self","things"] (fG a 1):=by
 refine T.EC.ok jj (λvs H Q E h=>?_) (λcdv A outer s H vs Q E hr h=>?_)
 ·obtain⟨_,_,_,_,rfl,_⟩:=h
  rfl
 obtain⟨v,l,r,xs,rfl,kd,hp,ok,hl,wide,on,k⟩:=h
 refine⟨_,(ag (aQ (i:=2) jj.nd U Oi (ba (pL T) (hr.mono Qz) U T.De T.CP.kp T.Dd .nil ay (a8 (ak aH (aF (pq 0) U) ac Oy) (a8 (pq 1) ae))))
  (ag (aQ (i:=3) jj.nd U Oi (ba (pL T) (hr.mono Qz) U T.De T.CP.kp T.Dd .nil ay (a8 (ak aH (aF (pq 0) U) ac Oy) (a8 (pq 1) ae))))
  (ai (ao (bz (a8 (bw (a8 (aF (pq 0) U) (a8 (ba (wZ T) (hr.mono Qz) U T.Ec T.D8.kp T.Eb .nil ay (a8 (aF (pq 0) U) (a8 (pq 2) (a8 (pq 3) ae)))) ae))) ae)))))),?_⟩
 cases hp with
 |pass _ _ _ _=>simp[PR.kind]at kd
 |choose _ _ _ _=>simp[PR.kind]at kd
 |merge _ _ _ _ _=>simp[PR.kind]at kd
 |work h1 h0 h2 h3 h4=>
  rename_i p dx t0 ts ins out sg sa sb sl sr;obtain⟨_,o1,o2⟩:=ok;change xs.length=ins.length at wide;rw[<- wide]at o1 o2;refine⟨_,U,p,_,_,_,_,U,h1,T.wT,T.D0,lf4 Qy Qy Qy,ts,_,_,_,U,U,SqT.of h2,U,_,U,sa,l,sl,xs,U,h3,o1,hl,?_⟩;refine⟨_,U,p,_,_,_,_,U,h1,T.wT,T.D0,lf4 Qy Qy Qy,ts,_,_,_,U,U,SqT.of h2,U,_,U,sb,l,sr,xs,U,h4,o2,hl,?_⟩;refine⟨_,U,p,_,_,_,_,U,h1,T.wT,T.DP,lf2 Qy,_,U,p,_,_,_,_,U,h1,T.wT,T.DQ,lf3 Qy Qy,_,U,_,U,sg,_,_,U,gU o1 on,gU o2 on,ln2,λt ht=>⟨ln1,λl' hl'=>?_⟩⟩;exact k _ l' _ ((aa.new ht _).trans (aa.new hl' _)) (aa.none (aa.new ht _) hl') af (λp hp=>by cases qS.mp hp;exact ht) (.cons (aa.new hl' _ _ _ af) .nil)
theorem xL(T:Tx P w K mg a):aA P w K mg base CX0 1 a.By a.Bz ["self","things"] (fG a 0):=by
 refine T.Ey.ok vb (λvs H Q E h=>?_) (λcdv A outer s H vs Q E hr h=>?_)
 ·obtain⟨_,_,_,_,rfl,_⟩:=h
  rfl
 obtain⟨v,l,r,xs,rfl,kd,hp,ok,hl,wide,on,k⟩:=h;refine⟨_,(ai (ao (ci (k:=2) (Nc:=["line","place","things"]) (js:=[1]) (show aS (am ie) ["self","things"] _ 2 ["line","place","things"] [1]from aS.mk U (by decide +kernel) (by decide +kernel) (by decide +kernel) U (by decide +kernel)) U (wc U T.AC (a8 (aF (pq 0) U) (a8 (aF (pq 0) U) ae))) (λ_ _ _ _ _=>(gD 2 U (c5 (aV (i:=0) (show List.Nodup (["line","place","things"]:List Str)from by decide +kernel) U Oi) (c5 (aV (i:=1) (show List.Nodup (["line","place","things"]:List Str)from by decide +kernel) U Oi) dG)))) (λ_ _ _ _ _=>bY) (λ_ _ _ _ _=>(bw (a8 (pq 0) (a8 (ak (oV (K:=K) U) (pq 2) (pq 1) Oy) ae))))))),?_⟩
 cases hp with
 |work _ _ _ _ _=>simp[PR.kind]at kd
 |choose _ _ _ _=>simp[PR.kind]at kd
 |merge _ _ _ _ _=>simp[PR.kind]at kd
 |pass h1 h0 h2 h3=>
  rename_i p dx t0 t1 t2 ins outs route;obtain⟨o1,o2,o3,o4⟩:=ok;change xs.length=ins.length at wide;refine⟨_,U,p,_,_,_,_,U,h1,T.Ap,T.DM,lf2 Qy,_,U,p,_,_,_,_,U,h1,T.Ap,T.DN,lf3 Qy Qy,true,true,t1,t2,_,_,U,SqT.of h2,SqT.of h3,?_⟩;have lz:(outs.zip (route.map λr=>xs.getD r.toNat 0)).length=outs.length:=by rw[List.length_zip,q9];omega
  refine zO (K:=K) (b1:=true) (b2:=true) (l1:=t1) (l2:=t2) (xs:=outs.map V.int) (zs:=route.map V.int) (λi ys σ H3=>(∃v v',σ=[v,v',some (.ref l)])/\aa H H3/\gf H ys/\RPs H3 ys ((outs.zip (route.map λr=>xs.getD r.toNat 0)).take i)) ⟨⟨none,none,U⟩,aa.refl _,λ_ h=>(nomatch h),.nil⟩ ?_ (bi (m:=1000) (by rw[q9];omega)) ?_ ?_ ?_
  ·rintro i ys σ H3 ⟨_,_,_,r3⟩;rw[r3.len,qK];omega
  ·rintro i ys σ H3 ⟨_,s3,_⟩;exact⟨SqT.of (s3 _ _ h2),SqT.of (s3 _ _ h3)⟩
  ·rintro i x z ys σ H3 pt hx hz ⟨⟨v,v',rfl⟩,s3,n3,r3⟩ hpt;rw[qE]at hx hz;obtain⟨x,hx',rfl⟩:=qP.mp hx;obtain⟨z,hz',rfl⟩:=qP.mp hz;have zo:=o4 z (qz hz');have s4:=s3.trans (aa.new hpt (.tup [.int x,.int z]));refine⟨pt,_,U,SqT.of af,U,_,_,U,_,_,U,U,?_⟩;refine⟨_,U,_,U,_,U,l,_,_,_,U,U,SqL.of (s4 _ _ hl),iX zo.1 Qw,ln2,λt ht=>⟨⟨_,_,U⟩,s4.trans (aa.new ht _),λp hp=>(qh.mp hp).elim (n3 p) λz=>by cases qS.mp z;exact aa.none s4 ht,?_⟩⟩;have e:(outs.zip (route.map λr=>xs.getD r.toNat 0))[i]?=some (x,xs.getD z.toNat 0):=List.getElem?_zip_eq_some.mpr ⟨hx',by rw[qE,hz'];rfl⟩;rw[qr,e];exact RPs.snoc (x:=(x,xs.getD z.toNat 0)) af ((r3.same (aa.new hpt _)).same (aa.new ht _))
  rintro ys σ3 H3 ⟨_,s3,n3,r3⟩ l' hl';rw[q9,q9,<- o1,Nat.min_self,<- lz,qH]at r3;exact k _ l' ys (s3.trans (aa.new hl' _)) (aa.none s3 hl') af n3 (r3.same (aa.new hl' _))
theorem xQ(T:Tx P w K mg a):aA P w K mg base CX0 1 a.BG a.BH ["self","things"] (fG a 2):=by
 refine T.EG.ok vh (λvs H Q E h=>?_) (λcdv A outer s H vs Q E hr h=>?_)
 ·obtain⟨_,_,_,_,rfl,_⟩:=h
  rfl
 obtain⟨v,l,r,xs,rfl,kd,hp,ok,hl,wide,on,k⟩:=h
 refine⟨_,(ag (aL (aE bd (ak aY (pq 1) (aF (pq 0) U) Oy) ac (az _)) (ai (ao (ah kj (ip U U T.Ax U T.AC (a8 (aF (pq 0) U) (a8 (pq 1) ae))) (bz (a8 (bw (a8 (aF (pq 0) U) (a8 ac ae))) ae))))) aM)
  (ai (ao (ah kj (ip U U T.Ax U T.AC (a8 (aF (pq 0) U) (a8 (pq 1) ae))) (bz (a8 (bw (a8 (aF (pq 0) U) (a8 ac ae))) ae)))))),?_⟩
 cases hp with
 |work _ _ _ _ _=>simp[PR.kind]at kd
 |pass _ _ _ _=>simp[PR.kind]at kd
 |merge _ _ _ _ _=>simp[PR.kind]at kd
 |choose h1 h0 h2 h3=>
  rename_i p dx t0 t1 t2 ins ones noughts which told;obtain⟨o1,o2,o3,o4,o5⟩:=ok;change xs.length=ins.length at wide;refine⟨_,U,_,U,p,_,_,_,_,U,h1,T.wE,T.DS,lf2 Qy,l,_,_,_,U,U,SqL.of hl,iX o1 Qw,U,_,U,?_⟩;have km:PR.made xs (.choose ins which ones noughts told)=if xs.getD which.toNat 0=0 then noughts.zip xs++[(told,0)]else ones.zip xs++[(told,1)]:=U;rw[km]at k;refine bj (λc=>?_) (λc=>?_)
  ·rw[Q0 (dn c)]at k;refine⟨_,U,p,_,_,_,_,U,h1,T.wE,T.DU,lf4 Qy Qy Qy,_,U,true,false,t2,l,_,_,U,SqT.of h3,SqL.of hl,λH3 lz ts s3 nl hz tl at_=>?_⟩;have rz:=RPs.zip (H:=H3) (ts:=ts) (xs:=noughts) (ys:=xs) (by rw[tl,q9,q9]) λj t x y a b c=>(at_ j t x y a b c).1;refine⟨_,U,p,_,_,_,_,U,s3 _ _ h1,T.wE,T.D3,lf5 Qy Qy Qy Qy,ln2,λt4 ht4=>⟨ln1,λl4 hl4=>?_⟩⟩;have s4:=(aa.new ht4 (.tup [.int told,.int 0])).trans (aa.new hl4 (.lst [.ref t4]));refine⟨lz,l4,_,_,U,U,SqL.of (s4 _ _ hz),SqL.of af,bi (m:=1000) (by rw[q9,tl,q9,q9,Q6];omega),λl5 hl5=>?_⟩;have s5:=aa.new hl5 (.lst (ts.map V.ref++[.ref t4]));exact k _ l5 _ (s3.trans (s4.trans s5)) (aa.none (s3.trans s4) hl5) af (λp hp=>(qh.mp hp).elim (gg tl (λj t x y a b c=>(at_ j t x y a b c).2) p) λz=>by cases qS.mp z;exact aa.none s3 ht4) (RPs.same s5 (RPs.snoc (x:=(told,0)) (aa.new hl4 _ _ _ af) (rz.same s4)))
  ·rw[qZ (dw c)]at k;refine⟨_,U,p,_,_,_,_,U,h1,T.wE,T.DT,lf3 Qy Qy,_,U,true,false,t1,l,_,_,U,SqT.of h2,SqL.of hl,λH3 lz ts s3 nl hz tl at_=>?_⟩;have rz:=RPs.zip (H:=H3) (ts:=ts) (xs:=ones) (ys:=xs) (by rw[tl,q9,q9]) λj t x y a b c=>(at_ j t x y a b c).1;refine⟨_,U,p,_,_,_,_,U,s3 _ _ h1,T.wE,T.D3,lf5 Qy Qy Qy Qy,ln2,λt4 ht4=>⟨ln1,λl4 hl4=>?_⟩⟩;have s4:=(aa.new ht4 (.tup [.int told,.int 1])).trans (aa.new hl4 (.lst [.ref t4]));refine⟨lz,l4,_,_,U,U,SqL.of (s4 _ _ hz),SqL.of af,bi (m:=1000) (by rw[q9,tl,q9,q9,Q6];omega),λl5 hl5=>?_⟩;have s5:=aa.new hl5 (.lst (ts.map V.ref++[.ref t4]));exact k _ l5 _ (s3.trans (s4.trans s5)) (aa.none (s3.trans s4) hl5) af (λp hp=>(qh.mp hp).elim (gg tl (λj t x y a b c=>(at_ j t x y a b c).2) p) λz=>by cases qS.mp z;exact aa.none s3 ht4) (RPs.same s5 (RPs.snoc (x:=(told,1)) (aa.new hl4 _ _ _ af) (rz.same s4)))
theorem xO(T:Tx P w K mg a):aA P w K mg base CX0 1 a.BM a.BN ["self","things"] (fG a 3):=by
 refine T.EM.ok vf (λvs H Q E h=>?_) (λcdv A outer s H vs Q E hr h=>?_)
 ·obtain⟨_,_,_,_,rfl,_⟩:=h
  rfl
 obtain⟨v,l,r,xs,rfl,kd,hp,ok,hl,wide,on,k⟩:=h;refine⟨_,(ai (ao (ip U U T.Ax U T.AC (a8 (aF (pq 0) U) (a8 (eu jd (pq 1) (bZ ac) fP) ae))))),?_⟩
 cases hp with
 |work _ _ _ _ _=>simp[PR.kind]at kd
 |pass _ _ _ _=>simp[PR.kind]at kd
 |choose _ _ _ _=>simp[PR.kind]at kd
 |merge h1 h0 hb hc h2=>
  rename_i p dx t0 t1 t2 t3 told ones noughts outs;change xs.length=1+outs.length at wide;refine⟨_,U,p,_,_,_,_,U,h1,T.wP,T.DX,lf4 Qy Qy Qy,_,U,_,U,l,_,U,SqL.of hl,λlc hlc=>?_⟩
  have ec:c6 (xs.map V.int) (some 1) none=xs.tail.map V.int:=by
   unfold c6
   have e1:HT.sIx (xs.map V.int).length 0 (some 1)=1:=by
    have:=HT.sIx_nat (xs.map V.int).length 0 1;rw[show((1:Nat):Int)=1 from rfl]at this;rw[this,q9];omega
   have e2:HT.sIx (xs.map V.int).length (xs.map V.int).length none=(xs.map V.int).length:=U;rw[e1,e2,List.drop_one,<- List.map_tail,List.take_of_length_le (by rw[q9,q9,List.length_tail];omega)]
  rw[ec];refine⟨true,false,t3,lc,_,_,U,SqT.of (aa.new hlc _ _ _ h2),SqL.of af,λH3 lz ts s3 nl hz tl at_=>?_⟩;have rz:=RPs.zip (H:=H3) (ts:=ts) (xs:=outs) (ys:=xs.tail) (by rw[tl,q9,q9]) λj t x y a b c=>(at_ j t x y a b c).1;exact k _ lz _ ((aa.new hlc _).trans s3) (aa.none (aa.new hlc _) nl) hz (λp hp=>aa.none (aa.new hlc _) (gg tl (λj t x y a b c=>(at_ j t x y a b c).2) p hp)) rz
theorem kQ(T:Tx P w K mg a):aA P w K mg base CX0 1 a.At a.Bv ["self","yard"] (hU a false):=by
 refine T.Ev.ok vd (λvs H Q E h=>?_) (λcdv A outer s H vs Q E hr h=>?_)
 ·obtain⟨_,_,_,_,_,_,rfl,_⟩:=h
  rfl
 obtain⟨C,S,v,r,qs,ls,rfl,kd,hp,ok,ft,ry,k⟩:=h;refine⟨_,(ai (ao (aF (pq 0) U))),?_⟩
 cases hp with
 |pass h1 h0 _ _=>exact⟨_,U,_,_,_,_,_,U,h1,T.Ap,T.DL,d0,k _ _ (aa.refl _) h0⟩
 |work h1 h0 _ _ _=>exact⟨_,U,_,_,_,_,_,U,h1,T.wT,T.DO,d0,k _ _ (aa.refl _) h0⟩
 |choose h1 h0 _ _=>exact⟨_,U,_,_,_,_,_,U,h1,T.wE,T.DR,d0,k _ _ (aa.refl _) h0⟩
 |merge _ _ _ _ _=>simp[PR.kind]at kd
theorem kZ{u v x y:V}:List.lookup ("ins":Str) [(("ins":Str),u),("ones",v),("noughts",x),("outs",y)]=some u:=d0
theorem yy{u v x y:V}:List.lookup ("ones":Str) [(("ins":Str),u),("ones",v),("noughts",x),("outs",y)]=some v:=(aW Qy).trans d0
theorem yz{u v x y:V}:List.lookup ("noughts":Str) [(("ins":Str),u),("ones",v),("noughts",x),("outs",y)]=some x:=(aW Qy).trans ((aW Qy).trans d0)
theorem xN(T:Tx P w K mg a):aA P w K mg base CX0 4 a.BK a.BL ["self","yard"] (hU a true):=by
 refine T.EK.ok oJ (λvs H Q E h=>?_) (λcdv A outer s H vs Q E hr h=>?_)
 ·obtain⟨_,_,_,_,_,_,rfl,_⟩:=h
  rfl
 obtain⟨C,S,v,r,qs,ls,rfl,kd,hp,ok,ft,ry,k⟩:=h
 refine⟨_,(ag (aQ (i:=2) oJ.nd U Oi (cY (pq 1) T.wp T.FR (xw T) (hr.mono Qz) T.El .nil ay (a8 (ak aH (aF (pq 0) U) ac Oy) ae)))
  (ag (aL (aE gy (pq 2) cS (az _)) (ai (ao (aF (pq 0) U))) aM)
  (ai (ao (ah gF (aF (pq 0) U) (eB (aE bd (pq 2) ac (az _)) (aF (pq 0) U) (aF (pq 0) U))))))),?_⟩
 cases hp with
 |pass _ _ _ _=>simp[PR.kind]at kd
 |work _ _ _ _ _=>simp[PR.kind]at kd
 |choose _ _ _ _=>simp[PR.kind]at kd
 |merge h1 h2 h3 h4 h5=>
  rename_i p dx' ta tb tc td told ones noughts outs;have t0:=ft.1.lo told qm;have lt:told.toNat<C.nl:=by have:=ft.1.hi told qm;omega
  have hs:((List.range C.nl).map S.st)[told.toNat]?=some (S.st told.toNat):=by rw[qE,List.getElem?_range lt];rfl
  obtain⟨ol,l1,l2⟩:=ok;refine⟨_,U,C.y,_,_,U,ry.o,fj Qy,_,U,p,_,_,_,_,U,h1,T.wP,T.AL,kZ,ta,_,_,_,U,U,SqT.of h2,U,C.y,C.dy,C.la,C.lq,qs,_,ls,told,_,U,ry,t0,hs,?_⟩;unfold iK;have kk:=k;simp only[aq,ax]at kk;generalize (S.st told.toNat).1.drop (S.st told.toNat).2=row at kk ⊢
  cases row with
  |nil=>
   refine⟨_,U,U,_,U,bn U ?_⟩;exact⟨_,U,p,_,_,_,_,U,h1,T.wP,T.AL,kZ,kk H ta (aa.refl _) h2⟩
  |cons x row=>
   refine⟨_,U,U,_,U,aJ U ?_⟩;refine⟨_,U,p,_,_,_,_,U,h1,T.wP,T.AL,kZ,?_⟩;refine⟨_,U,U,_,U,?_⟩;dsimp only at kk;refine bj (λc=>?_) (λc=>?_)
   ·rw[Q0 (dn c)]at kk;refine⟨_,U,p,_,_,_,_,U,h1,T.wP,T.DW,yz,ta,tc,_,_,U,U,SqT.of h2,SqT.of h4,by simp,bi (m:=1000) (by rw[q9,Q6];omega),λe=>?_,λ_ p6 hp6=>?_⟩
    ·rw[List.map_eq_nil_iff]at e;subst e;exact kk H ta (aa.refl _) h2
    ·exact kk _ p6 (aa.new hp6 _) af
   ·rw[qZ (dw c)]at kk;refine⟨_,U,p,_,_,_,_,U,h1,T.wP,T.DV,yy,ta,tb,_,_,U,U,SqT.of h2,SqT.of h3,by simp,bi (m:=1000) (by rw[q9,Q6];omega),λe=>?_,λ_ p6 hp6=>?_⟩
    ·rw[List.map_eq_nil_iff]at e;subst e;exact kk H ta (aa.refl _) h2
    ·exact kk _ p6 (aa.new hp6 _) af
theorem wX(T:Tx P w K mg a):aA P w K mg base CX0 4 a.BQ a.BR ["row"] (mQ a):=by
 refine T.Df.ok oy (λvs H Q E h=>?_) (λcdv A outer s H vs Q E hr h=>?_)
 ·obtain⟨_,_,_,rfl,_⟩:=h
  rfl
 obtain⟨H0,v,r,rfl,s0,hr',k⟩:=h
 refine⟨_,(ag (aQ (i:=1) oy.nd U Oi (ak aH (pq 0) ac Oy))
  (ag (aL (aE bd (pq 1) bo (az _)) (ai (ao (ff T.FW (xM T) (hr.mono Qz) U T.FV T.Ex .nil ay (a8 (ak aH (pq 0) ac Oy) (a8 (ak aH (pq 0) ac Oy) (a8 (ak aH (pq 0) ac Oy) ae)))))) aM)
  (ag (aL (aE bd (pq 1) bo (az _)) (ai (ao (ff T.Ga (xA T) (hr.mono Qz) U T.FZ T.EB .nil ay (a8 (ak aH (pq 0) ac Oy) (a8 (ak aH (pq 0) ac Oy) (a8 (ak aH (pq 0) ac Oy) (a8 (eu gm (pq 0) (bZ ac) fP) ae))))))) aM)
  (ag (aL (aE bd (pq 1) bo (az _)) (ai (ao (ff T.Gf (xR T) (hr.mono Qz) U T.Ge T.EF .nil ay (a8 (ak aH (pq 0) ac Oy) (a8 (ak aH (pq 0) ac Oy) (a8 (ak aH (pq 0) ac Oy) (a8 (ak aH (pq 0) ac Oy) (a8 (ak aH (pq 0) ac Oy) ae)))))))) aM)
  (ai (ao (ff T.Gj (xP T) (hr.mono Qz) U T.Gi T.EJ .nil ay (a8 (ak aH (pq 0) ac Oy) (a8 (ak aH (pq 0) ac Oy) (a8 (ak aH (pq 0) ac Oy) (a8 (ak aH (pq 0) ac Oy) ae))))))))))),?_⟩
 have over:∀(H1:Hp)(o dx:Addr)(u u' u2:HO),H1 o=none->H1 dx=none->aa H1 (upd (upd (upd H1 dx u) o u') o u2):=λH1 o dx u u' u2 ho hd b ob hb=>by
  have n1:b≠o:=λz=>by rw[z,ho]at hb;cases hb
  have n2:b≠dx:=λz=>by rw[z,hd]at hb;cases hb
  rw[aj n1,aj n1,aj n2];exact hb
 cases hr' with
 |pass h1 h2 h3 h4=>
  rename_i p t0 t1 t2 ins outs route;refine⟨_,U,p,_,_,_,U,U,SqT.of (s0 _ _ h1),U,?_⟩;refine⟨_,U,U,_,U,bn Qy ?_⟩;refine⟨_,U,p,_,_,_,U,U,SqT.of (s0 _ _ h1),U,_,U,p,_,_,_,U,U,SqT.of (s0 _ _ h1),U,_,U,p,_,_,_,U,U,SqT.of (s0 _ _ h1),U,λo dx ho hd nd=>?_⟩;exact⟨o,dx,_,_,_,U,af,U,k _ _ (over _ _ _ _ _ _ ho hd) ho λK0 sk nw=>.pass (nw _ _ ho af) (sk _ _ h2) (sk _ _ h3) (sk _ _ h4)⟩
 |work h1 h2 h3 h4=>
  rename_i p t0 ins out sg sa sb sl sr;refine⟨_,U,p,_,_,_,U,U,SqT.of (s0 _ _ h1),U,?_⟩;refine⟨_,U,U,_,U,aJ Qy ?_⟩;refine⟨_,U,U,_,U,bn Qy ?_⟩;refine⟨_,U,p,_,_,_,U,U,SqT.of (s0 _ _ h1),U,_,U,p,_,_,_,U,U,SqT.of (s0 _ _ h1),U,_,U,p,_,_,_,U,U,SqT.of (s0 _ _ h1),U,_,U,_,U,p,_,U,SqT.of (s0 _ _ h1),?_,λtt htt=>?_⟩
  ·rintro⟨z,_⟩;exact Q4 z (by show ¬ (HT.sIx 6 0 (some 4)=0);decide)
  intro o dx ho hd nd;have s2:=(aa.new htt (.tup (c6 [V.str "work",.ref t0,.int out,.str sg,sa,sb] (some 4) none)));exact⟨o,dx,_,_,_,_,U,af,U,k _ _ (s2.trans (over _ _ _ _ _ _ ho hd)) (aa.none s2 ho) λK0 sk nw=>.work (nw _ _ (aa.none s2 ho) af) (sk _ _ h2) (nw _ _ htt (over _ _ _ _ _ _ ho hd _ _ af)) (h3.same sk) (h4.same sk)⟩
 |choose h1 h2 h3 h4=>
  rename_i p t0 t1 t2 ins ones noughts which told;refine⟨_,U,p,_,_,_,U,U,SqT.of (s0 _ _ h1),U,?_⟩;refine⟨_,U,U,_,U,aJ Qy ?_⟩;refine⟨_,U,U,_,U,aJ Qy ?_⟩;refine⟨_,U,U,_,U,bn Qy ?_⟩;refine⟨_,U,p,_,_,_,U,U,SqT.of (s0 _ _ h1),U,_,U,p,_,_,_,U,U,SqT.of (s0 _ _ h1),U,_,U,p,_,_,_,U,U,SqT.of (s0 _ _ h1),U,_,U,p,_,_,_,U,U,SqT.of (s0 _ _ h1),U,_,U,p,_,_,_,U,U,SqT.of (s0 _ _ h1),U,λo dx ho hd nd=>?_⟩;exact⟨o,dx,_,_,_,_,_,U,af,U,k _ _ (over _ _ _ _ _ _ ho hd) ho λK0 sk nw=>.choose (nw _ _ ho af) (sk _ _ h2) (sk _ _ h3) (sk _ _ h4)⟩
 |merge h1 h2 h3 h4=>
  rename_i p ta tb tc told ones noughts outs;refine⟨_,U,p,_,_,_,U,U,SqT.of (s0 _ _ h1),U,?_⟩;refine⟨_,U,U,_,U,aJ Qy ?_⟩;refine⟨_,U,U,_,U,aJ Qy ?_⟩;refine⟨_,U,U,_,U,aJ Qy ?_⟩;refine⟨_,U,p,_,_,_,U,U,SqT.of (s0 _ _ h1),U,_,U,p,_,_,_,U,U,SqT.of (s0 _ _ h1),U,_,U,p,_,_,_,U,U,SqT.of (s0 _ _ h1),U,_,U,p,_,_,_,U,U,SqT.of (s0 _ _ h1),U,λo dx ho hd nd=>?_⟩;refine⟨o,dx,_,_,_,_,U,af,λtt htt=>⟨U,?_⟩⟩;have nto:tt≠o:=λz=>by rw[z,af]at htt;cases htt
  have ntd:tt≠dx:=λz=>by rw[aj nto,z,af]at htt;cases htt
  have ht0:H tt=none:=by rw[aj nto,aj ntd]at htt;exact htt
  have sm:aa H (upd (upd (upd (upd H dx (.own o)) o (.ins a.or dx [])) tt (.tup [.int told])) o (.ins a.or dx [("ins",.ref tt),("ones",.ref ta),("noughts",.ref tb),("outs",.ref tc)])):=λb ob hb=>by
   have n1:b≠o:=λz=>by rw[z,ho]at hb;cases hb
   have n2:b≠dx:=λz=>by rw[z,hd]at hb;cases hb
   have n3:b≠tt:=λz=>by rw[z,ht0]at hb;cases hb
   rw[aj n1,aj n3,aj n1,aj n2];exact hb
  exact k _ _ sm ho λK0 sk nw=>.merge (nw _ _ ho af) (nw _ _ ht0 (by rw[aj nto];exact af)) (sk _ _ h2) (sk _ _ h3) (sk _ _ h4)
theorem d4{f:Str}{v:V}:∀{ns:List Str}{vs:List V}(i:Nat),ns[i]?=some f->((ns.take i).contains f)=false->vs[i]?=some v->(ns.zip vs).lookup f=some v
 |[],_,i,h,_,_=>by simp at h
 |_::_,[],i,_,_,h=>by simp at h
 |n::ns,u::vs,0,h,_,h'=>by cases h;cases h';exact d0
 |n::ns,u::vs,i+1,h,c,h'=>by
  have c:(f == n || (ns.take i).contains f)=false:=c;rw[Bool.or_eq_false_iff]at c;exact(aW c.1).trans (d4 i h c.2 h')
theorem fg{f:Str}:∀{ns:List Str}{vs:List V},ns.contains f=false->(ns.zip vs).lookup f=none
 |[],_,_=>rfl
 |_::_,[],_=>rfl
 |n::ns,u::vs,c=>by
  have c:(f == n || ns.contains f)=false:=c;rw[Bool.or_eq_false_iff]at c;exact(aW c.1).trans (fg c.2)
theorem kG{f:Str}{v:V}:∀{ns:List Str}{vs:List V}(i:Nat),ns[i]?=some f->((ns.take i).contains f)=false->i<vs.length->bu f v (ns.zip vs)=ns.zip (vs.set i v)
 |[],_,i,h,_,_=>by simp at h
 |_::_,[],i,_,_,h=>Q4 h (Qx _)
 |n::ns,u::vs,0,h,_,h'=>by cases h;show bu _ _ ((_,_)::_)=_;rw[bu,Q0 U];rfl
 |n::ns,u::vs,i+1,h,c,h'=>by
  have c:(f == n || (ns.take i).contains f)=false:=c;rw[Bool.or_eq_false_iff]at c;have ne:¬ n=f:=λz=>by have:=c.1;rw[z]at this;simp at this
  show bu _ _ ((n,u)::ns.zip vs)=_;rw[bu,qZ ne,kG i h c.2 (Nat.lt_of_succ_lt_succ h')]
  rfl
section
variable {H0 H:Hp}{C:PlC}{ad:Rl->Addr}{hd:Nat->Addr}{lgv:List V}{S:PlS}
theorem PlH.ob(M:PlH a H0 H C ad hd lgv S):H C.b=some (plO a C ad S.sp):=M.b▸M.own.av .b trivial
end
theorem lz0{x:List V}{v:V}(h:x[0]?=some v):List.lookup ("yard":Str) (plN.zip x)=some v:=d4 0 U Qy h
theorem lz1{x:List V}{v:V}(h:x[1]?=some v):List.lookup ("doers":Str) (plN.zip x)=some v:=d4 1 U Qy h
theorem lz2{x:List V}{v:V}(h:x[2]?=some v):List.lookup ("pace":Str) (plN.zip x)=some v:=d4 2 U Qy h
theorem lz3{x:List V}{v:V}(h:x[3]?=some v):List.lookup ("spare":Str) (plN.zip x)=some v:=d4 3 U Qy h
theorem lz4{x:List V}{v:V}(h:x[4]?=some v):List.lookup ("log":Str) (plN.zip x)=some v:=d4 4 U Qy h
theorem lz5{x:List V}{v:V}(h:x[5]?=some v):List.lookup ("held":Str) (plN.zip x)=some v:=d4 5 U Qy h
theorem lz6{x:List V}{v:V}(h:x[6]?=some v):List.lookup ("takings":Str) (plN.zip x)=some v:=d4 6 U Qy h
theorem lz7{x:List V}{v:V}(h:x[7]?=some v):List.lookup ("givers":Str) (plN.zip x)=some v:=d4 7 U Qy h
theorem lz8{x:List V}{v:V}(h:x[8]?=some v):List.lookup ("takers":Str) (plN.zip x)=some v:=d4 8 U Qy h
theorem lz9{x:List V}{v:V}(h:x[9]?=some v):List.lookup ("without_room":Str) (plN.zip x)=some v:=d4 9 U Qy h
theorem kW{x:List V}{v:V}(h:x[10]?=some v):List.lookup ("without_thing":Str) (plN.zip x)=some v:=d4 10 U Qy h
theorem xI(T:Tx P w K mg a):aA P w K mg base CX0 1 a.C3 a.C4 ["self","part"] (nZ a):=by
 refine T.Fa.ok oI (λvs H Q E h=>?_) (λcdv A outer s H vs Q E hr h=>?_)
 ·obtain⟨_,_,_,_,_,_,_,rfl,_⟩:=h
  rfl
 obtain⟨H0,C,ad,hd,lgv,S,x,rfl,B,M,hx,k⟩:=h
 refine⟨_,(ag (aL (aE bd (bI bX U T.mt Q7 (a8 (aF (pq 0) U) ae)) ac (az _)) (ai (ao ac)) aM)
  (ag (aQ (i:=2) oI.nd U Oi (ak aY (aF (pq 0) U) (ah bb (pq 1) (bI bX U T.mt Q7 (a8 (aF (pq 0) U) ae))) Oy))
  (ai (ao (eB (aE fO (bI bX U T.mt Q7 (a8 (pq 2) ae)) ac (az _)) (ak aY (pq 2) (ah bb (ak aY (aF (pq 0) U) (pq 1) Oy) (bI bX U T.mt Q7 (a8 (pq 2) ae))) Oy) ac))))),?_⟩
 have hp:=M.own.sa _ _ B.pc;have ho:=M.ob;have pl:=B.pr.len;unfold bK at k;refine⟨_,U,C.b,_,C.dx,_,_,U,ho,T.dz,T.AM,lz2 U,C.pc,_,U,.inl (SqL.of hp),U,_,U,bj (λc=>?_) (λc=>?_)⟩
 ·rw[Q0 (by have:=dn c;omega)]at k;exact k
 have n0:C.pace.length≠0:=λz=>dw c (by rw[pl,z];rfl);rw[qZ n0]at k;have lt:x % C.pace.length<C.pace.length:=Nat.mod_lt _ Qw;obtain⟨pr,e1,h1⟩:=B.pr.at (x % C.pace.length) (C.pace[x % C.pace.length]) (qc lt);have eg:C.pace.getD (x % C.pace.length) []=C.pace[x % C.pace.length]:=by rw[qj,qc lt];rfl
 rw[eg]at k;have hw:=M.own.sa _ _ h1;generalize C.pace[x % C.pace.length]=row at *
 have hat:atI C.pv ((x:Int) % (C.pv.length:Int))=some (.ref pr):=by
  rw[pl];exact bS (j:=x % C.pace.length) e1
 refine⟨_,U,C.b,_,C.dx,_,_,U,ho,T.dz,T.AM,lz2 U,_,U,_,U,C.b,_,C.dx,_,_,U,ho,T.dz,T.AM,lz2 U,C.pc,_,U,.inl (SqL.of hp),_,_,U,U,Qw,C.pc,_,_,_,U,U,SqL.of hp,hat,?_⟩;refine⟨_,U,pr,_,U,.inl (SqL.of hw),_,_,U,U,_,U,bj (λc=>?_) (λc=>?_)⟩
 ·have r0:row.length≠0:=λz=>by
   have:=Qc c;rw[q9,z]at this;exact Q4 this Qz
  rw[qZ r0]at k;have lt2:S.tks x % row.length<row.length:=Nat.mod_lt _ Qw;have eg2:row.getD (S.tks x % row.length) 0=row[S.tks x % row.length]:=by rw[qj,qc lt2];rfl
  rw[eg2]at k;have ht:=M.own.av .tl trivial;have hat2:atI ((List.range C.n).map λx=>V.int (S.tks x)) (x:Int)=some (.int (S.tks x)):=bS (by rw[qE,List.getElem?_range hx];rfl)
  have hat3:atI (row.map V.int) (((S.tks x:Nat):Int) % ((row.map V.int).length:Int))=some (.int row[S.tks x % row.length]):=by
   rw[q9];exact bS (j:=S.tks x % row.length) (by rw[qE,qc lt2];rfl)
  exact⟨_,U,_,U,C.b,_,C.dx,_,_,U,ho,T.dz,T.AQ,lz6 U,_,U,ad .tl,_,_,_,U,U,SqL.of ht,hat2,_,U,pr,_,U,.inl (SqL.of hw),_,_,U,U,by rw[q9];omega,pr,_,_,_,U,U,SqL.of hw,hat3,k⟩
 ·have r0:row.length=0:=by
   by_cases z:row.length=0
   ·exact z
   ·exact Q4 (Q1 (by rw[q9];omega)) c
  rw[Q0 r0]at k;exact k
theorem gZ{ad:Rl->Addr}:∀{g:Gv}{t:Int},cH (g.map λkv=>((Sum.inl kv.1:Key),V.ref (ad (.gv kv.1)))) (Sum.inl t)=if t∈aN g then some (.ref (ad (.gv t)))else none
 |[],t=>rfl
 |(j,ps)::g,t=>by
  rw[qR];by_cases e:j=t
  ·rw[mx (by show(Sum.inl j:Key)=_;rw[e]),Q0 (by rw[<- e];exact qm),e]
  ·rw[my (by intro z;exact e (Sum.inl.inj z)),gZ];have:t∈aN ((j,ps)::g)↔t∈aN g:=⟨λh=>(qu.mp h).resolve_left λz=>e z.symm,qk _⟩;by_cases m:t∈aN g
   ·rw[Q0 m,Q0 (this.mpr m)]
   ·rw[qZ m,qZ λz=>m (this.mp z)]
theorem vV{ad:Rl->Addr}{g:Gv}{t:Int}{v:V}(h:t∉aN g):cQ (g.map λkv=>((Sum.inl kv.1:Key),V.ref (ad (.gv kv.1)))) (Sum.inl t) v=(g.map λkv=>((Sum.inl kv.1:Key),V.ref (ad (.gv kv.1))))++[(Sum.inl t,v)]:=by
 unfold cQ;rw[qZ];intro z;obtain⟨kv,hk,e⟩:=List.any_eq_true.mp z;obtain⟨jv,hj,rfl⟩:=List.mem_map.mp hk;exact h (List.mem_map.mpr ⟨jv,hj,Sum.inl.inj (Qc e)⟩)
section
variable {H0 H:Hp}{C:PlC}{ad:Rl->Addr}{hd:Nat->Addr}{lgv:List V}{S:PlS}
theorem be.up{H':Hp}{D:Rl->Prop}{c:Rl->HO}(M:be H0 H D ad c)(s:aa H H'):be H0 H' D ad c:=⟨M.sa.trans s,M.nw,M.inj,λr hr=>s _ _ (M.av r hr)⟩
theorem PlH.up{H':Hp}(M:PlH a H0 H C ad hd lgv S)(s:aa H H'):PlH a H0 H' C ad hd lgv S:=⟨M.own.up s,M.b,M.qo,M.hd,M.lg⟩
theorem PlH.low{H0' H':Hp}(M:PlH a H0 H C ad hd lgv S)(s:aa H0 H0')(o:be H0' H' (dmP C.nl (aN S.gv)) ad (cnP a C ad hd lgv S)):PlH a H0' H' C ad hd lgv S:=⟨o,M.b,M.qo,λx hx=>let ⟨vs,h1,h2⟩:=M.hd x hx;⟨vs,s _ _ h1,h2.same s⟩,M.lg.same s⟩
theorem A6{g:Gv}{t:Int}{ps:List Nat}(m:t∈aN g):(bf g t ps).map (λkv=>((Sum.inl kv.1:Key),V.ref (ad (.gv kv.1))))=g.map (λkv=>((Sum.inl kv.1:Key),V.ref (ad (.gv kv.1)))):=by
 unfold bf;split
 ·rfl
 ·first|rw[Q0 m]|skip
  rw[List.map_map]
  exact List.map_congr_left λkv _=>by
   show(λkv:Int×List Nat=>((Sum.inl kv.1:Key),V.ref (ad (.gv kv.1)))) (if kv.1=t then(kv.1,kv.2++ps)else kv)=_;split<;>rfl
theorem PlH.more(M:PlH a H0 H C ad hd lgv S){t:Int}(m:t∈aN S.gv)(ps:List Nat):PlH a H0 (upd H (ad (.gv t)) (.lst (aD (atG S.gv t)++aD ps))) C ad hd lgv { S with gv:=bf S.gv t ps }:=by
 have o:=M.own.put (.gv t) m (.lst (aD (atG S.gv t)++aD ps));refine⟨o.less (λr hr=>?_) λr hr=>?_,M.b,M.qo,M.hd,M.lg⟩
 ·cases r with
  |gv k=>exact(iE.mp hr).elim id λz=>z.2▸m
  |_=>exact hr
 ·cases r with
  |gv k=>
   show _=HO.lst (aD (atG (bf S.gv t ps) k));rw[sU];by_cases e:k=t
   ·rw[e,bR,Q0 U];unfold aD;rw[qO]
   ·rw[bx λz=>e (Rl.gv.inj z),qZ e]
    rfl
  |gd=>
   show HO.dK _=HO.dK ((bf S.gv t ps).map _);rw[A6 m]
  |_=>rfl
theorem PlH.newTurn(M:PlH a H0 H C ad hd lgv S){t:Int}(m:t∉aN S.gv){ps:List Nat}(hp:ps≠[]){z:Addr}(hz:H z=none):PlH a H0 (upd (upd (upd H z (.lst [])) (ad .gd) (.dK ((S.gv.map λkv=>((Sum.inl kv.1:Key),V.ref (ad (.gv kv.1))))++[(Sum.inl t,.ref z)]))) z (.lst (aD ps))) C (at' ad (.gv t) z) hd lgv { S with gv:=bf S.gv t ps }:=by
 have o1:=M.own.new (.gv t) hz (.lst []);have o2:=o1.put .gd (.inr trivial) (.dK ((S.gv.map λkv=>((Sum.inl kv.1:Key),V.ref (ad (.gv kv.1))))++[(Sum.inl t,.ref z)]));have o3:=o2.put (.gv t) (.inl U) (.lst (aD ps));rw[bR]at o3;have ea:bf S.gv t ps=S.gv++[(t,ps)]:=by unfold bf;rw[qZ hp,qZ m]
 refine⟨o3.less (λr hr=>?_) λr hr=>?_,M.b,M.qo,M.hd,M.lg⟩
 ·cases r with
  |gv k=>exact(iE.mp hr).elim .inr λz=>.inl (by rw[z.2])
  |_=>exact .inr hr
 ·cases r with
  |gv k=>
   show _=HO.lst (aD (atG (bf S.gv t ps) k));rw[sU];by_cases e:k=t
   ·rw[e,bR,Q0 U,lV m,Qk]
   ·rw[bx λz=>e (Rl.gv.inj z),qZ e];show at' (cnP a C ad hd lgv S) (.gv t) (.lst []) (.gv k)=_;rw[bx λz=>e (Rl.gv.inj z)]
    rfl
  |gd=>
   show HO.dK _=HO.dK ((bf S.gv t ps).map λkv=>((Sum.inl kv.1:Key),V.ref (at' ad (.gv t) z (.gv kv.1))));rw[ea,qO];refine congrArg HO.dK (congr (congrArg HAppend.hAppend (List.map_congr_left λkv hk=>?_)) ?_)
   ·rw[bx λz=>m (by have e:=Rl.gv.inj z;rw[<- e];exact List.mem_map.mpr ⟨kv,hk,U⟩)]
   ·show _=[((Sum.inl t:Key),V.ref (at' ad (.gv t) z (.gv t)))];rw[bR]
  |_=>rfl
end
theorem pS(T:Tx P w K mg a):aA P w K mg base CX0 1 a.C1 a.C2 ["self","turn","parts"] (o7 a):=by
 refine T.EZ.ok v9 (λvs H Q E h=>?_) (λcdv A outer s H vs Q E hr h=>?_)
 ·obtain⟨_,_,_,_,_,_,_,_,_,rfl,_⟩:=h
  rfl
 obtain⟨H0,C,ad,hd,lgv,S,t,l,ps,rfl,B,M,hl,hn,gl,pl,gb,nd,k⟩:=h;refine⟨_,(ai (aL (aE fO (bI bX U T.mt Q7 (a8 (pq 2) ae)) ac (az _)) (ai (bT (cZ qg Qn Qm pV (wu (aF (pq 0) U) (pq 1) (bz ae) ⟨U,U,U,U⟩) (a8 (pq 2) ae)))) aM)),?_⟩;refine⟨_,U,l,_,U,.inl (SqL.of hl),_,_,U,U,_,U,bj (λc=>?_) (λc=>?_)⟩
 ·have p0:ps≠[]:=λz=>by rw[z]at c;exact Q4 c Qz
  have ho:=M.ob;have hg:=M.own.av .gd trivial;refine⟨_,U,C.b,_,C.dx,_,_,U,ho,T.dz,T.AD,lz7 U,ad .gd,U,.inl ⟨_,.of hg⟩,_,U,qt _,λz hz=>?_⟩;have ng:ad .gd≠z:=λe=>by rw[e,hz]at hg;cases hg
  have nl:l≠z:=λe=>by rw[e,hz]at hl;cases hl
  have ngl:l≠ad .gd:=λe=>by rw[e,hg]at hl;cases hl
  have big:(10000000:Nat)<sizeLine:=Qz;refine⟨_,.inl t,by rw[aj ng];exact hg,U,by rw[q9];omega,λv hv=>?_,λhv=>?_⟩
  ·rw[gZ]at hv;split at hv
   ·rename_i m;cases hv;have M1:=M.up (aa.new hz (.lst []));have h1:=M1.own.av (.gv t) m;have lb:(atG S.gv t).length<=1000:=gb _ (fX m);refine⟨.inl ⟨U,_,SqL.of h1⟩,_,U,ad (.gv t),l,_,_,U,U,h1,by rw[aj nl];exact hl,?_,?_⟩
    ·unfold aD;rw[q9,q9];omega
    exact k _ ad (M1.more m ps) λ_ _=>U
   ·cases hv
  ·rw[gZ]at hv;split at hv
   ·cases hv
   rename_i m;rw[vV m];have M2:=M.newTurn m p0 hz;refine⟨.inl ⟨U,_,SqL.of (xs:=[]) (by rw[aj (Ne.symm ng),af])⟩,_,U,z,l,_,_,U,U,(by rw[aj (Ne.symm ng),af]:_=some (HO.lst [])),(by rw[aj ngl,aj nl];exact hl),?_,?_⟩
   ·show 0+_<=_;unfold aD;rw[q9];omega
   ·exact k _ _ M2 λr hr=>bx (hr t)
 ·have p0:ps=[]:=by
   cases ps with
   |nil=>rfl
   |cons p ps=>exact Q4 (Q1 (by show(0:Int)<(((aD (p::ps)).length:Nat):Int);unfold aD;rw[q9,qA];omega)) c
  have:=k H ad (by rw[p0];exact M) λ_ _=>U;exact this
section
variable {H0 H:Hp}{C:PlC}{ad:Rl->Addr}{hd:Nat->Addr}{lgv:List V}{S:PlS}
def qsP(C:PlC)(ad:Rl->Addr):List (Addr×Addr×Addr):=(List.range C.nl).map λi=>(C.qo i,C.dq i,ad (.ql i))
def stP(C:PlC)(S:PlS):List (List Int×Nat):=(List.range C.nl).map S.st
def lsP(C:PlC):List (Option Int):=(List.range C.nl).map C.ls
theorem ck{α:Type}{f:Nat->α}{n i:Nat}(h:i<n):((List.range n).map f)[i]?=some (f i):=by rw[qE,List.getElem?_range h];rfl
theorem PlH.ry(M:PlH a H0 H C ad hd lgv S)(B:PlB a H0 C)(cp:∀i,(S.st i).2<=(S.st i).1.length/\(S.st i).1.length<=10000000):RY a H C.y C.dy C.la C.lq (qsP C ad) (stP C S) (lsP C):=by
 refine⟨M.own.sa _ _ B.yo,?_,by unfold qsP stP;simp,λi q s hq hs=>?_,?_,by unfold lsP stP;simp⟩
 ·rw[M.own.sa _ _ B.lq];unfold qsP;rw[List.map_map]
  rfl
 ·have lt:i<C.nl:=by have:=(qf.mp hs).1;unfold stP at this;simpa using this
  unfold qsP at hq;unfold stP at hs;rw[ck lt]at hq hs;cases hq;cases hs;exact⟨M.qo i lt▸M.own.av (.qo i) lt,M.own.av (.ql i) lt,(cp i).1,(cp i).2⟩
 ·rw[M.own.sa _ _ B.la];unfold lsP;rw[List.map_map]
  rfl
end
theorem RPs.at{H:Hp}:∀{vs:List V}{xs:List (Int×Int)},RPs H vs xs->∀{i:Nat}{v:V},vs[i]?=some v->∃p x,v=.ref p/\xs[i]?=some x/\H p=some (.tup [.int x.1,.int x.2])
 |_,_,.nil,i,v,h=>by simp at h
 |_,_,.cons (p:=p) (x:=x) a r,0,v,h=>by cases h;exact⟨p,x,U,U,a⟩
 |_,_,.cons a r,i+1,v,h=>RPs.at r (by simpa using h)
theorem lJ{α:Type}{p:α->Bool}:∀{l:List α}{i:Nat}{y:α},l[i]?=some y->p y=true->(∀z∈l.take i,p z=false)->l.find? p=some y
 |[],i,y,h,_,_=>by simp at h
 |x::l,0,y,h,hy,_=>by cases h;rw[List.find?_cons_of_pos hy]
 |x::l,i+1,y,h,hy,hz=>by
  rw[List.find?_cons_of_neg (by rw[hz x qm];exact qi)];exact lJ (i:=i) (by simpa using h) hy λz hm=>hz z (qk _ hm)
theorem lE:∀(ps:List (Int×Int))(S:PlS)(j:Nat),((ps.foldl ap S).st j).1.length<=(S.st j).1.length+ps.length/\(S.st j).1.length<=((ps.foldl ap S).st j).1.length/\((ps.foldl ap S).st j).2=(S.st j).2
 |[],S,j=>⟨qe _,qe _,U⟩
 |p::ps,S,j=>by
  obtain⟨h1,h2,h3⟩:=lE ps (ap S p) j
  have e:((ap S p).st j).1.length<=(S.st j).1.length+1/\(S.st j).1.length<=((ap S p).st j).1.length/\((ap S p).st j).2=(S.st j).2:=by
   show((put S.st p.1.toNat _ j).1.length<=_)/\_<=(put S.st p.1.toNat _ j).1.length/\(put S.st p.1.toNat _ j).2=_;by_cases c:j=p.1.toNat
   ·rw[c,aK];exact⟨by rw[qb];exact qe _,by rw[qb];exact Nat.le_add_right _ _,U⟩
   ·rw[aB c];exact⟨Nat.le_succ _,qe _,U⟩
  show((ps.foldl ap (ap S p)).st j).1.length<=_/\_<=((ps.foldl ap (ap S p)).st j).1.length/\((ps.foldl ap (ap S p)).st j).2=_;rw[qA];omega
theorem rP:∀(ps:List (Int×Int))(S:PlS),(ps.foldl ap S).lg=S.lg
 |[],_=>rfl
 |p::ps,S=>rP ps (ap S p)
theorem rQ:∀(ps:List (Int×Int))(S:PlS),(ps.foldl ap S).held=S.held
 |[],_=>rfl
 |p::ps,S=>rQ ps (ap S p)
theorem iA(x y:List Nat):aD (x++y)=aD x++aD y:=qO
theorem fh(x:List Nat):(aD x).length=x.length:=q9 _
theorem iF{n i:Nat}(h:i<n):ixN n (i:Int)=some i:=by
 unfold ixN;rw[Q0 Qw,Q0 Qw];simp
theorem ig{α β:Type}{f:Nat->β}{g:β->α}{n i:Nat}{v:β}:((List.range n).map λj=>g (f j)).set i (g v)=(List.range n).map λj=>g (put f i v j):=by
 refine List.ext_getElem? λj=>?_;by_cases hj:j<n
 ·rw[ck hj];by_cases e:i=j
  ·subst e;rw[List.getElem?_set_self (by rw[q9,Qd];exact hj),aK]
  ·rw[List.getElem?_set_ne e,ck hj,aB (Ne.symm e)]
 ·rw[Qo (by rw[List.length_set,q9,Qd];omega),Qo (by rw[q9,Qd];omega)]
section
variable {H0 H:Hp}{C:PlC}{ad:Rl->Addr}{hd:Nat->Addr}{lgv:List V}{S:PlS}
theorem PlH.stuck(M:PlH a H0 H C ad hd lgv S){i x:Nat}(hi:i<C.nl):PlH a H0 (upd H (ad (.wr i)) (.lst (aD (S.wr i)++[.int x]))) C ad hd lgv (fF S i x):=by
 have o:=M.own.put (.wr i) hi (.lst (aD (S.wr i)++[.int x]));refine⟨o.less (λr hr=>hr) λr hr=>?_,M.b,M.qo,M.hd,M.lg⟩
 cases r with
 |wr j=>
  show _=HO.lst (aD (put S.wr i (S.wr i++[x]) j));by_cases e:j=i
  ·rw[e,bR,aK,iA];rfl
  ·rw[bx λz=>e (Rl.wr.inj z),aB e];rfl
 |_=>rfl
theorem PlH.wait(M:PlH a H0 H C ad hd lgv S){i x:Nat}(hi:i<C.nl):PlH a H0 (upd H (ad (.wt i)) (.lst (aD (S.wt i)++[.int x]))) C ad hd lgv (fE S i x):=by
 have o:=M.own.put (.wt i) hi (.lst (aD (S.wt i)++[.int x]));refine⟨o.less (λr hr=>hr) λr hr=>?_,M.b,M.qo,M.hd,M.lg⟩
 cases r with
 |wt j=>
  show _=HO.lst (aD (put S.wt i (S.wt i++[x]) j));by_cases e:j=i
  ·rw[e,bR,aK,iA];rfl
  ·rw[bx λz=>e (Rl.wt.inj z),aB e];rfl
 |_=>rfl
theorem A9{ad:Rl->Addr}{i:Nat}{z:Addr}:(λj=>V.ref (at' ad (.wt i) z (.wt j)))=λj=>V.ref (put (λj=>ad (.wt j)) i z j):=funext λj=>by
 by_cases e:j=i
 ·rw[e,bR,aK]
 ·rw[bx λz=>e (Rl.wt.inj z),aB e]
theorem A8{ad:Rl->Addr}{i:Nat}{z:Addr}:(λj=>V.ref (at' ad (.wr i) z (.wr j)))=λj=>V.ref (put (λj=>ad (.wr j)) i z j):=funext λj=>by
 by_cases e:j=i
 ·rw[e,bR,aK]
 ·rw[bx λz=>e (Rl.wr.inj z),aB e]
theorem PlH.hand(M:PlH a H0 H C ad hd lgv S){p:Int×Int}(hi:p.1.toNat<C.nl){z:Addr}(hz:upd (upd H (ad (.ql p.1.toNat)) (.lst (((S.st p.1.toNat).1++[p.2]).map V.int))) (ad .tk) (.lst (aD S.tr++aD (S.wt p.1.toNat))) z=none):
 PlH a H0 (upd (upd (upd (upd H (ad (.ql p.1.toNat)) (.lst (((S.st p.1.toNat).1++[p.2]).map V.int))) (ad .tk) (.lst (aD S.tr++aD (S.wt p.1.toNat)))) z (.lst [])) (ad .wtl) (.lst (((List.range C.nl).map λi=>V.ref (ad (.wt i))).set p.1.toNat (.ref z)))) C (at' ad (.wt p.1.toNat) z) hd lgv (ap S p):=by
 have o1:=M.own.put (.ql p.1.toNat) hi (.lst (((S.st p.1.toNat).1++[p.2]).map V.int));have o2:=o1.put .tk trivial (.lst (aD S.tr++aD (S.wt p.1.toNat)));have o3:=o2.new (.wt p.1.toNat) hz (.lst []);have o4:=o3.put .wtl (.inr trivial) (.lst (((List.range C.nl).map λi=>V.ref (ad (.wt i))).set p.1.toNat (.ref z)));refine⟨o4.less (λr hr=>.inr hr) λr hr=>?_,M.b,M.qo,M.hd,M.lg⟩
 cases r with
 |wt j=>
  show at' _ (Rl.wt _) _ (Rl.wt j)=HO.lst (aD (put S.wt p.1.toNat [] j));by_cases e:j=p.1.toNat
  ·rw[e,bR,aK];rfl
  ·rw[bx λz=>e (Rl.wt.inj z),aB e];rfl
 |ql j=>
  show at' _ (Rl.ql _) _ (Rl.ql j)=HO.lst ((put S.st p.1.toNat _ j).1.map V.int);by_cases e:j=p.1.toNat
  ·rw[e,bR,aK]
  ·rw[bx λz=>e (Rl.ql.inj z),aB e];rfl
 |qo j=>
  show HO.ins _ _ [_,("gone",V.int ((S.st j).2:Nat))]=HO.ins _ _ [_,("gone",V.int ((put S.st p.1.toNat _ j).2:Nat))];by_cases e:j=p.1.toNat
  ·rw[e,aK];rfl
  ·rw[aB e];rfl
 |tk=>
  show HO.lst _=HO.lst (aD (S.tr++S.wt p.1.toNat));rw[iA]
 |wtl=>
  show HO.lst _=HO.lst ((List.range C.nl).map λj=>V.ref (at' ad (.wt p.1.toNat) z (.wt j)));rw[A9,ig]
 |_=>rfl
theorem PlH.ent(M:PlH a H0 H C ad hd lgv S){e:Ent}{z l:Addr}{us:List V}(hz:H z=none)(h2:H0 l=some (.lst us))(h3:RPs H0 us e.hs):
 PlH a (upd H0 z (.tup [.int e.now,.int e.part,.str (if e.took then "took" else "gave"),.ref l])) (upd (upd H z (.tup [.int e.now,.int e.part,.str (if e.took then "took" else "gave"),.ref l])) (ad .lg) (.lst (lgv++[.ref z]))) C ad hd (lgv++[.ref z]) { S with lg:=S.lg++[e] }:=by
 have s0:aa H0 (upd H0 z (.tup [.int e.now,.int e.part,.str (if e.took then "took" else "gave"),.ref l])):=aa.new (aa.none M.own.sa hz) _;have o:=(M.own.base hz (.tup [.int e.now,.int e.part,.str (if e.took then "took" else "gave"),.ref l])).put .lg trivial (.lst (lgv++[.ref z]));refine⟨o.less (λr hr=>hr) λr hr=>?_,M.b,M.qo,λx hx=>let ⟨vs,h1,h2⟩:=M.hd x hx;⟨vs,s0 _ _ h1,h2.same s0⟩,REs.snoc af (s0 _ _ h2) (h3.same s0) (M.lg.same s0)⟩;cases r<;>rfl
theorem PlH.trx(M:PlH a H0 H C ad hd lgv S)(x:Nat):PlH a H0 (upd H (ad .tk) (.lst (aD S.tr++[.int x]))) C ad hd lgv { S with tr:=S.tr++[x] }:=by
 have o:=M.own.put .tk trivial (.lst (aD S.tr++[.int x]));refine⟨o.less (λr hr=>hr) λr hr=>?_,M.b,M.qo,M.hd,M.lg⟩
 cases r with
 |tk=>show HO.lst _=HO.lst (aD (S.tr++[x]));rw[iA];rfl
 |_=>rfl
end
theorem xJ(T:Tx P w K mg a):aA P w K mg base CX0 4 a.BX a.BY ["self","now","part"] (o6 a):=by
 refine T.EV.ok fI (λvs H Q E h=>?_) (λcdv A outer s H vs Q E hr h=>?_)
 ·obtain⟨_,_,_,_,_,_,_,_,_,rfl,_⟩:=h
  rfl
 obtain⟨H0,C,ad,hd,lgv,S,now,x,rem,rfl,B,M,G,k⟩:=h
 refine⟨_,(ag (aQ (i:=3) fI.nd U Oi (ak aY (aF (pq 0) U) (pq 2) Oy))
  (ag (cI PassesOwn.never U (cu (pq 3)) (gE U (c5 (aV (i:=4) fI.nd U Oi) (c5 (aV (i:=5) fI.nd U Oi) dG)))
  (ai (aL (gA (df (cY (aF (pq 0) U) T.wp T.FQ (xr T) (hr.mono Qz) T.Ej .nil ay (a8 (pq 4) ae)))) (ag (bT (cZ qg qv qw dE (ak aY (aF (pq 0) U) (pq 4) Oy) (a8 (pq 2) ae)))
  (ai vZ)) aM)))
  (ag (cI PassesOwn.never U (cu (pq 3)) (gE U (c5 (aV (i:=4) fI.nd U Oi) (c5 (aV (i:=5) fI.nd U Oi) dG)))
  (ag (bT (cY (aF (pq 0) U) T.wp T.FS (xu T) (hr.mono Qz) T.En .nil ay (a8 (pq 4) (a8 (pq 5) ae))))
  (ag (bT (cZ qg Qn Qm pV (aF (pq 0) U) (a8 (ak aY (aF (pq 0) U) (pq 4) Oy) ae)))
  (ai (dF (bz ae) (f9 (aF (pq 0) U) (pq 4) eX))))))
  (ag (bT (cZ qg qv qw dE (aF (pq 0) U) (a8 (bw (a8 (pq 1) (a8 (pq 2) (a8 bo (a8 (pq 3) ae))))) ae)))
  (ai (bT (cZ qg qv qw dE (aF (pq 0) U) (a8 (pq 2) ae)))))))),?_⟩
 obtain⟨loc,I⟩:=G.loc;have hx:=I.not.2.1;have ho:=M.ob;obtain⟨vs,hv0,hvs⟩:=M.hd x hx;have hv:=M.own.sa _ _ hv0;have vl:=hvs.len;have cp:=G.cap;have hh:=M.own.av .hl trivial;have ry:=M.ry B λi=>⟨(cp.st i).2,by have:=(cp.st i).1;omega⟩;have hat:atI ((List.range C.n).map λx=>V.ref (hd x)) (x:Int)=some (.ref (hd x)):=bS (ck hx);refine⟨_,U,C.b,_,C.dx,_,_,U,ho,T.dz,T.D5,lz5 U,_,U,ad .hl,_,_,_,U,U,SqL.of hh,hat,?_⟩;refine⟨_,U,hd x,U,⟨_,SqL.of hv⟩,?_⟩;refine gO (K:=K) (a:=hd x) (xs:=vs) (λi σ G=>(∃v4 v5,σ=[some (.ref C.b),some (.int now),some (.int x),some (.ref (hd x)),v4,v5])/\G=H/\∀p∈(S.held x).take i,roomF C.ls S p.1.toNat=true) ⟨⟨_,_,U⟩,U,λp hp=>by simp at hp⟩ ?_ ?_ ?_
 ·rintro i σ G _ ⟨_,rfl,_⟩;exact SqL.of hv
 ·rintro i v σ G hi ⟨⟨v4,v5,rfl⟩,rfl,hp⟩;obtain⟨p,y,rfl,hy,hpy⟩:=hvs.at hi;have hp1:=M.own.sa _ _ hpy;have yr:=(cp.hn x hx).1 y (qz hy);have lt:y.1.toNat<C.nl:=Qw;refine⟨p,_,U,SqT.of hp1,U,_,_,U,_,_,U,U,?_⟩;refine⟨_,U,C.b,_,C.dx,_,_,U,ho,T.dz,T.As,lz0 U,C.y,C.dy,_,U,ry.o,fj Qy,_,U,C.y,C.dy,C.la,C.lq,_,_,_,y.1,S.st y.1.toNat,C.ls y.1.toNat,U,ry,yr.1,ck lt,ck lt,_,U,?_⟩
  cases c:roomF C.ls S y.1.toNat with
  |true=>
   refine aJ (by rw[show roomV (C.ls y.1.toNat) (((S.st y.1.toNat).1.length:Int)-(S.st y.1.toNat).2)=true from c];rfl) ⟨⟨_,_,U⟩,U,λq hq=>?_⟩;rw[qr,hy,qh]at hq;rcases hq with hq|hq
   ·exact hp q hq
   ·rw[qS.mp hq];exact c
  |false=>
   have hwr:=M.own.av .wrl trivial;have hwi:=M.own.av (.wr y.1.toNat) lt
   have hatw:atI ((List.range C.nl).map λi=>V.ref (ad (.wr i))) y.1=some (.ref (ad (.wr y.1.toNat))):=by
    rw[<- Int.toNat_of_nonneg yr.1];exact bS (ck lt)
   have wl:=(I.wr y.1.toNat).len;have nb:=B.n;refine bn (by rw[show roomV (C.ls y.1.toNat) (((S.st y.1.toNat).1.length:Int)-(S.st y.1.toNat).2)=false from c];rfl) ?_;refine⟨_,U,C.b,_,C.dx,_,_,U,ho,T.dz,T.AR,lz9 U,_,U,ad .wrl,_,_,_,U,U,SqL.of hwr,hatw,.inl ⟨U,_,SqL.of hwi⟩,_,U,ad (.wr y.1.toNat),_,_,U,U,hwi,bi (m:=1000) (by rw[fh];omega),?_⟩;refine k H0 _ ad lgv (aa.refl _) ?_
   rw[show bD C.ls S now x=fF S y.1.toNat x by
    unfold bD
    rw[lJ hy (by rw[c];rfl) λz hz=>by rw[hp z hz];rfl]]
   exact M.stuck lt
 ·rintro σ G ⟨⟨v4,v5,rfl⟩,rfl,hp⟩;rw[List.take_of_length_le Qw]at hp
  have eg:bD C.ls S now x=cy S now x:=by
   unfold bD;rw[List.find?_eq_none.mpr λp hm=>by rw[hp p hm];exact qi]
  rw[eg]at k;refine⟨_,U,hd x,U,⟨_,SqL.of hv⟩,?_⟩;refine gO (K:=K) (a:=hd x) (xs:=vs) (λi σ G=>(∃v4 v5,σ=[some (.ref C.b),some (.int now),some (.int x),some (.ref (hd x)),v4,v5])/\∃ad' loc',aU C.n loc' (x::rem) (((S.held x).take i).foldl ap S)/\PlH a H0 G C ad' hd lgv (((S.held x).take i).foldl ap S)) ⟨⟨_,_,U⟩,ad,loc,I,M⟩ ?_ ?_ ?_
  ·rintro i σ G _ ⟨_,ad',loc',_,M1⟩;exact SqL.of (M1.own.sa _ _ hv0)
  ·rintro i v σ G hi ⟨⟨v4,v5,rfl⟩,ad',loc',I1,M1⟩;obtain⟨p,y,rfl,hy,hpy⟩:=hvs.at hi;have hp1:=M1.own.sa _ _ hpy;have yr:=(cp.hn x hx).1 y (qz hy);have lt:y.1.toNat<C.nl:=Qw;have hl10:=(cp.hn x hx).2.1
   have es:((S.held x).take (i+1)).foldl ap S=ap (((S.held x).take i).foldl ap S) y:=by
    rw[qr,hy,List.foldl_append]
    rfl
   have hst:=lE ((S.held x).take i) S;generalize ((S.held x).take i).foldl ap S=S1 at I1 M1 es hst;have tl:((S.held x).take i).length<=10:=qy (List.length_take_le' _ _) hl10;have ry1:=M1.ry B λj=>⟨by have:=hst j;have:=cp.st j;omega,by have:=hst j;have:=cp.st j;omega⟩;refine⟨p,_,U,SqT.of hp1,U,_,_,U,_,_,U,U,?_⟩;refine⟨_,U,C.b,_,C.dx,_,_,U,M1.ob,T.dz,T.As,lz0 U,C.y,C.dy,_,U,ry1.o,fj Qy,_,U,_,U,C.y,C.dy,C.la,C.lq,_,_,_,y.1,y.2,_,S1.st y.1.toNat,U,ry1,yr.1,ck lt,ck lt,?_⟩;have o1:=M1.own.put (.ql y.1.toNat) lt (.lst (((S1.st y.1.toNat).1++[y.2]).map V.int));have b1:upd G (ad' (.ql y.1.toNat)) (.lst (((S1.st y.1.toNat).1++[y.2]).map V.int)) C.b=some (plO a C ad' S1.sp):=M1.b▸o1.av .b trivial;have t1:_=some (HO.lst (aD S1.tr)):=o1.av .tk trivial;have w1:_=some (HO.lst ((List.range C.nl).map λi=>V.ref (ad' (.wt i)))):=o1.av .wtl trivial;have v1:_=some (HO.lst (aD (S1.wt y.1.toNat))):=o1.av (.wt y.1.toNat) lt
   have hatw:atI ((List.range C.nl).map λi=>V.ref (ad' (.wt i))) y.1=some (.ref (ad' (.wt y.1.toNat))):=by
    rw[<- Int.toNat_of_nonneg yr.1];exact bS (ck lt)
   have lb:=I1.tr.len2 (I1.wt y.1.toNat) nofun
   have nb:=B.n;have big:(1000:Nat)<sizeLine:=Qz;refine⟨_,U,C.b,_,C.dx,_,_,U,b1,T.dz,T.AE,lz8 U,.inl ⟨U,_,SqL.of t1⟩,_,U,C.b,_,C.dx,_,_,U,b1,T.dz,T.AS,kW U,_,U,ad' .wtl,_,_,_,U,U,SqL.of w1,hatw,ad' .tk,ad' (.wt y.1.toNat),_,_,U,U,t1,v1,by rw[fh,fh];omega,?_⟩;have o2:=o1.put .tk trivial (.lst (aD S1.tr++aD (S1.wt y.1.toNat)));refine⟨qt _,λz hz=>?_⟩;have M3:=M1.hand (p:=y) lt hz;have o3:=o2.up (aa.new hz (.lst []));have b3:_=some (plO a C ad' S1.sp):=M1.b▸o3.av .b trivial;have w3:_=some (HO.lst ((List.range C.nl).map λi=>V.ref (ad' (.wt i)))):=o3.av .wtl trivial;refine⟨_,U,C.b,_,C.dx,_,_,U,b3,T.dz,T.AS,kW U,_,U,ad' .wtl,_,_,y.1.toNat,U,U,w3,?_,?_⟩
   ·rw[q9,Qd,<- Int.toNat_of_nonneg yr.1];exact iF lt
   exact⟨⟨_,_,U⟩,_,_,by rw[es];exact I1.hand y,by rw[es];exact M3⟩
  ·rintro σ G ⟨⟨v4,v5,rfl⟩,ad',loc',I1,M1⟩;rw[List.take_of_length_le Qw]at I1 M1;have el:=rP (S.held x) S;have eh:=rQ (S.held x) S;have tb:=I1.tr.len;have nb:=B.n;have ll:=M1.lg.len;have l7:=cp.lg;have big:(10000000:Nat)<sizeLine:=Qz;have h2:H0 (hd x)=some (.lst vs):=hv0;unfold cy at k;generalize (S.held x).foldl ap S=S1 at I1 M1 el eh k tb ll;have hlg:=M1.own.av .lg trivial;refine⟨_,U,C.b,_,C.dx,_,_,U,M1.ob,T.dz,T.AO,lz4 U,.inl ⟨U,_,SqL.of hlg⟩,_,U,_,U,_,U,ln4,λz hz=>?_⟩;have M2:=M1.ent (e:=⟨now,x,false,S.held x⟩) hz h2 hvs;have nz:ad' .lg≠z:=λe=>by rw[e,hz]at hlg;cases hlg
   refine⟨ad' .lg,_,_,U,U,by rw[aj nz];exact hlg,?_,?_⟩
   ·show lgv.length<_;rw[ll,el];omega
   have t2:=M2.own.av .tk trivial;refine⟨_,U,C.b,_,C.dx,_,_,U,M2.ob,T.dz,T.AE,lz8 U,.inl ⟨U,_,SqL.of t2⟩,_,U,ad' .tk,_,_,U,U,t2,bi (m:=1000) (by show(aD S1.tr).length+1<=1000;rw[fh];omega),?_⟩;exact k _ _ ad' _ (aa.new (aa.none M1.own.sa hz) _) (M2.trx x)
theorem tz(T:Tx P w K mg a){H:Hp}{v:V}{r:PR}(h:RPt a H v r){X:Cx}(e1:X.prog=P)(e2:X.w=w)(e3:X.K=K)(e4:X.mg=mg)(hr:bA 4 X.A):∃p C dx fs,v=.ref p/\H p=some (.ins C dx fs)/\List.lookup ("wants":Str) fs=none/\ma X C "wants" (hU a (decide (r.kind=3))):=by
 subst e1 e2 e3 e4
 cases h with
 |pass h1 _ _ _=>exact⟨_,_,_,_,U,h1,by rw[aW Qy,aW Qy,aW Qy];rfl,1,_,_,_,T.Ap,T.FY,kQ T,hr.mono Qz,T.CO⟩
 |work h1 _ _ _ _=>exact⟨_,_,_,_,U,h1,by rw[aW Qy,aW Qy,aW Qy,aW Qy];rfl,1,_,_,_,T.wT,T.Gc,kQ T,hr.mono Qz,T.CO⟩
 |choose h1 _ _ _=>exact⟨_,_,_,_,U,h1,by rw[aW Qy,aW Qy,aW Qy,aW Qy,aW Qy];rfl,1,_,_,_,T.wE,T.Gh,kQ T,hr.mono Qz,T.CO⟩
 |merge h1 _ _ _ _=>exact⟨_,_,_,_,U,h1,by rw[aW Qy,aW Qy,aW Qy,aW Qy];rfl,4,_,_,_,T.wP,T.Gk,xN T,hr.mono Qz,T.EL⟩
theorem yi(T:Tx P w K mg a){H:Hp}{v:V}{r:PR}(h:RPt a H v r){X:Cx}(e1:X.prog=P)(e2:X.w=w)(e3:X.K=K)(e4:X.mg=mg)(hr:bA 3 X.A):∃p C dx fs,v=.ref p/\H p=some (.ins C dx fs)/\List.lookup ("made":Str) fs=none/\ma X C "made" (fG a r.kind):=by
 subst e1 e2 e3 e4
 cases h with
 |pass h1 _ _ _=>exact⟨_,_,_,_,U,h1,by rw[aW Qy,aW Qy,aW Qy];rfl,1,_,_,_,T.Ap,T.FX,xL T,hr.mono Qz,T.Ez⟩
 |work h1 _ _ _ _=>exact⟨_,_,_,_,U,h1,by rw[aW Qy,aW Qy,aW Qy,aW Qy];rfl,3,_,_,_,T.wT,T.Gb,xy T,hr.mono Qz,T.ED⟩
 |choose h1 _ _ _=>exact⟨_,_,_,_,U,h1,by rw[aW Qy,aW Qy,aW Qy,aW Qy,aW Qy];rfl,1,_,_,_,T.wE,T.Gg,xQ T,hr.mono Qz,T.EH⟩
 |merge h1 _ _ _ _=>exact⟨_,_,_,_,U,h1,by rw[aW Qy,aW Qy,aW Qy,aW Qy];rfl,1,_,_,_,T.wP,T.Gm,xO T,hr.mono Qz,T.EN⟩
section
variable {H0 H:Hp}{C:PlC}{ad:Rl->Addr}{hd:Nat->Addr}{lgv:List V}{S:PlS}
theorem PlH.adopt(M:PlH a H0 H C ad hd lgv S){t:Addr}{ys:List V}(ht:H t=some (.tup ys)):∃H0',aa H0 H0'/\H0' t=some (.tup ys)/\PlH a H0' H C ad hd lgv S:=by
 have ne:∀r,dmP C.nl (aN S.gv) r->ad r≠t:=λr hr z=>by
  have:=M.own.av r hr;rw[z,ht]at this;cases r<;>cases this
 have s:aa H0 (upd H0 t (.tup ys)):=λc o h=>by
  by_cases e:c=t
  ·rw[e,af];rw[e]at h;exact ht.symm.trans (M.own.sa _ _ h)
  ·rw[aj e];exact h
 refine⟨_,s,af,M.low s ⟨λc o h=>?_,λr hr=>by rw[aj (ne r hr)];exact M.own.nw r hr,M.own.inj,M.own.av⟩⟩;by_cases e:c=t
 ·rw[e,af]at h;rw[e];exact ht.trans h
 ·rw[aj e]at h;exact M.own.sa _ _ h
theorem PlH.ground(M:PlH a H0 H C ad hd lgv S){H':Hp}(s:aa H H'):∃H0',aa H0 H0'/\(∀x o,H x=none->H' x=some o->H0' x=some o)/\PlH a H0' H' C ad hd lgv S:=by
 obtain⟨H0',s0,h,o⟩:=M.own.more s;exact⟨H0',s0,h,M.low s0 o⟩
theorem RPs.new{H' K0:Hp}:∀{us:List V}{ps:List (Int×Int)},RPs H' us ps->gf H us->(∀x o,H x=none->H' x=some o->K0 x=some o)->RPs K0 us ps
 |_,_,.nil,_,_=>.nil
 |_,_,.cons h r,n,k=>.cons (k _ _ (n _ qm) h) (RPs.new r (λp hp=>n p (qk _ hp)) k)
theorem PlH.earth(M:PlH a H0 H C ad hd lgv S){z:Addr}(hz:H z=none)(o:HO):PlH a (upd H0 z o) (upd H z o) C ad hd lgv S:=M.low (aa.new (aa.none M.own.sa hz) _) (M.own.base hz o)
theorem PlH.spare(M:PlH a H0 H C ad hd lgv S){n:Nat}{v:V}(e:v=.int n):PlH a H0 (upd H C.b (.ins a.f8 C.dx (plN.zip ((plV C ad S.sp).set 3 v)))) C ad hd lgv { S with sp:=n }:=by
 subst e;have o:=M.own.put .b trivial (plO a C ad n);rw[M.b]at o;refine⟨o.less (λr hr=>hr) λr hr=>?_,M.b,M.qo,M.hd,M.lg⟩;cases r<;>rfl
theorem PlH.takeOne(M:PlH a H0 H C ad hd lgv S){i:Nat}(hi:i<C.nl):PlH a H0 (upd H (C.qo i) (.ins a.gt (C.dq i) [("laid",.ref (ad (.ql i))),("gone",.int ((S.st i).2+1:Nat))])) C ad hd lgv { S with st:=put S.st i ((S.st i).1,(S.st i).2+1) }:=by
 have o:=M.own.put (.qo i) hi (.ins a.gt (C.dq i) [("laid",.ref (ad (.ql i))),("gone",.int ((S.st i).2+1:Nat))]);rw[M.qo i hi]at o;refine⟨o.less (λr hr=>hr) λr hr=>?_,M.b,M.qo,M.hd,M.lg⟩
 cases r with
 |qo j=>
  show _=HO.ins a.gt (C.dq j) [_,("gone",V.int ((put S.st i _ j).2:Nat))];by_cases e:j=i
  ·rw[e,bR,aK]
  ·rw[bx λz=>e (Rl.qo.inj z),aB e];rfl
 |ql j=>
  show HO.lst _=HO.lst ((put S.st i _ j).1.map V.int);by_cases e:j=i
  ·rw[e,aK]
  ·rw[aB e]
 |_=>rfl
theorem PlH.hold(M:PlH a H0 H C ad hd lgv S){x:Nat}{l:Addr}{us:List V}{ps:List (Int×Int)}(h1:H0 l=some (.lst us))(h2:RPs H0 us ps):PlH a H0 (upd H (ad .hl) (.lst (((List.range C.n).map λj=>V.ref (hd j)).set x (.ref l)))) C ad (put hd x l) lgv { S with held:=put S.held x ps }:=by
 have o:=M.own.put .hl trivial (.lst (((List.range C.n).map λj=>V.ref (hd j)).set x (.ref l)));refine⟨o.less (λr hr=>hr) λr hr=>?_,M.b,M.qo,λy hy=>?_,M.lg⟩
 ·cases r with
  |hl=>show HO.lst _=HO.lst ((List.range C.n).map λj=>V.ref (put hd x l j));rw[ig]
  |_=>rfl
 ·show ∃vs,H0 (put hd x l y)=_/\RPs H0 vs (put S.held x ps y);by_cases e:y=x
  ·rw[e,aK,aK];exact⟨us,h1,h2⟩
  ·rw[aB e,aB e];exact M.hd y hy
theorem PlH.count(M:PlH a H0 H C ad hd lgv S){x n:Nat}{v:V}(e:v=.int n):PlH a H0 (upd H (ad .tl) (.lst (((List.range C.n).map λj=>V.int (S.tks j)).set x v))) C ad hd lgv { S with tks:=put S.tks x n }:=by
 subst e;have o:=M.own.put .tl trivial (.lst (((List.range C.n).map λj=>V.int (S.tks j)).set x (.int n)));refine⟨o.less (λr hr=>hr) λr hr=>?_,M.b,M.qo,M.hd,M.lg⟩
 cases r with
 |tl=>
  have:=ig (f:=S.tks) (g:=λk:Nat=>V.int k) (n:=C.n) (i:=x) (v:=n);exact congrArg HO.lst this
 |_=>rfl
theorem PlH.clear(M:PlH a H0 H C ad hd lgv S){i:Nat}{z:Addr}(hz:H z=none):PlH a H0 (upd (upd H z (.lst [])) (ad .wrl) (.lst (((List.range C.nl).map λi=>V.ref (ad (.wr i))).set i (.ref z)))) C (at' ad (.wr i) z) hd lgv { S with wr:=put S.wr i [] }:=by
 have o3:=M.own.new (.wr i) hz (.lst []);have o4:=o3.put .wrl (.inr trivial) (.lst (((List.range C.nl).map λi=>V.ref (ad (.wr i))).set i (.ref z)));refine⟨o4.less (λr hr=>.inr hr) λr hr=>?_,M.b,M.qo,M.hd,M.lg⟩
 cases r with
 |wr j=>
  show at' _ (Rl.wr _) _ (Rl.wr j)=HO.lst (aD (put S.wr i [] j));by_cases e:j=i
  ·rw[e,bR,aK];rfl
  ·rw[bx λz=>e (Rl.wr.inj z),aB e];rfl
 |wrl=>
  show HO.lst _=HO.lst ((List.range C.nl).map λj=>V.ref (at' ad (.wr i) z (.wr j)));rw[A8,ig]
 |_=>rfl
end
theorem xH(T:Tx P w K mg a):aA P w K mg base CX0 5 a.AA a.BZ ["self","now","part"] (nY a):=by
 refine T.EX.ok gu (λvs H Q E h=>?_) (λcdv A outer s H vs Q E hr h=>?_)
 ·obtain⟨_,_,_,_,_,_,_,_,_,rfl,_⟩:=h
  rfl
 obtain⟨H0,C,ad,hd,lgv,S,now,x,rem,rfl,B,M,G,k1,k2,k3⟩:=h
 refine⟨_,(ag (aQ (i:=3) gu.nd U Oi (pG (ak aY (aF (pq 0) U) (pq 2) Oy) (a8 (aF (pq 0) U) ae)))
  (ag (cI PassesOwn.never U (gC (pq 3)) (aV (i:=4) gu.nd U Oi)
  (ai (aL (aE bd (cY (aF (pq 0) U) T.wp T.DJ (pQ T) (hr.mono Qz) T.Dc .nil ay (a8 (pq 4) ae)) ac (az _)) (ag (bT (cZ qg qv qw dE (ak aY (aF (pq 0) U) (pq 4) Oy) (a8 (pq 2) ae)))
  (ai (ao bU))) aM)))
  (ag (aL (aE bd (aF (pq 0) U) ac (az _)) (ai (ao bU)) aM)
  (ag (bv (pq 0) (ah fK (aF (pq 0) U) ac) U)
  (ag (ik (i:=5) gu.nd U Oi (k:=1) (Nc:=["line","self"]) (js:=[0]) (show aS (am fJ) ["self","now","part","wanted","line","things"] _ 1 ["line","self"] [0]from aS.mk U (by decide +kernel) (by decide +kernel) (by decide +kernel) U (by decide +kernel)) U (gC (pq 3)) (λ_ _ _ _ _=>(aV (i:=0) (show List.Nodup (["line","self"]:List Str)from by decide +kernel) U Oi)) (λ_ _ _ _ _=>bY) (λ_ _ _ _ _=>(cY (wq (K:=K) U (pq 1) U) T.wp T.FT (xp T) (hr.mono Qz) T.Ep .nil ay (a8 (pq 0) ae))))
  (ag (bT (cZ qg qv qw dE (aF (pq 0) U) (a8 (bw (a8 (pq 1) (a8 (pq 2) (a8 bo (a8 (ip U U T.Ax U T.AC (a8 (pq 3) (a8 (pq 5) ae))) ae))))) ae)))
  (ag (dF (pG (ak aY (aF (pq 0) U) (pq 2) Oy) (a8 (pq 5) ae)) (f9 (aF (pq 0) U) (pq 2) eX))
  (ag (bT (cY (pq 0) T.dz T.DY (pS T) (hr.mono Qz) T.Dg .nil ay (a8 (ah bC (ah bC (pq 1) ac) (cY (pq 0) T.dz T.Gu (xI T) (hr.mono Qz) T.Fb .nil ay (a8 (pq 2) ae))) (a8 (bz (a8 (pq 2) ae)) ae))))
  (ag (dF (ah bC (ak aY (aF (pq 0) U) (pq 2) Oy) ac) (f9 (aF (pq 0) U) (pq 2) eX))
  (ag (cI PassesOwn.never U (gC (pq 3)) (aV (i:=4) gu.nd U Oi)
  (ag (bT (cY (pq 0) T.dz T.DY (pS T) (hr.mono Qz) T.Dg .nil ay (a8 (ah bC (pq 1) ac) (a8 (ak aY (aF (pq 0) U) (pq 4) Oy) ae))))
  (ai (dF (bz ae) (f9 (aF (pq 0) U) (pq 4) eX)))))
  (ai (ao bU)))))))))))),?_⟩
 obtain⟨loc,I⟩:=G.loc;have hx:=I.not.2.1;obtain⟨v,hv,rp⟩:=B.du x hx;obtain⟨rok,rft⟩:=B.ok x hx;have cp:=G.cap;have ry:=M.ry B λi=>⟨(cp.st i).2,by have:=(cp.st i).1;omega⟩;have rpH:=rp.same M.own.sa;have nb:=B.n;have big:(10000000:Nat)<sizeLine:=Qz;obtain⟨p,cC,dx',fs,rfl,hp,lw,mw⟩:=tz T rpH (X:=(dJ CX0 P w K mg base ["self","now","part","wanted","line","things"] "Play.take" (am fJ) a.AA cdv A outer s H E).nox) U U U U (hr.mono Qz);have hatd:atI C.us (x:Int)=some (.ref p):=bS hv;refine⟨_,U,C.b,_,C.dx,_,_,U,M.ob,T.dz,T.D4,lz1 U,_,U,C.dl,_,_,_,U,U,SqL.of (M.own.sa _ _ B.dl),hatd,p,cC,dx',fs,_,U,hp,lw,mw,_,U,C.b,_,C.dx,_,_,U,M.ob,T.dz,T.As,lz0 U,C,S,_,C.prt x,_,_,U,U,rpH,rok,rft,ry,λH1 t s1 ht=>?_⟩;have M0:=M.up s1;obtain⟨H0',s0,ht0,M1⟩:=M0.adopt ht;have B1:=B.same s0;have ft:=j0 (S:=S) rft;have few:=mr (S:=S) rok;have ww:=iY (S:=S) rok;generalize hws:aq S (C.prt x)=ws at ht ht0 ft few ww k1 k2 k3;have ry1:=M1.ry B1 λi=>⟨(cp.st i).2,by have:=(cp.st i).1;omega⟩;dsimp only[aO];refine⟨_,U,t,U,⟨_,SqT.of ht⟩,?_⟩;refine iN (K:=K) (a:=t) (xs:=ws.map V.int) (λi σ G=>(∃v4 v5,σ=[some (.ref C.b),some (.int now),some (.int x),some (.ref t),v4,v5])/\G=H1/\∀w∈ws.take i,(ax S w.toNat).isEmpty=false) ⟨⟨_,_,U⟩,U,λp hp=>by simp at hp⟩ ?_ ?_ ?_
 ·rintro i σ G _ ⟨_,rfl,_⟩;exact SqT.of ht
 ·rintro i v σ G hi ⟨⟨v4,v5,rfl⟩,rfl,hp⟩;rw[qE]at hi;obtain⟨w,hw,rfl⟩:=qP.mp hi;have wl:=ft.lo w (qz hw);have wh:=ft.hi w (qz hw);have lt:w.toNat<C.nl:=Qw;refine⟨_,U,C.b,_,C.dx,_,_,U,M1.ob,T.dz,T.As,lz0 U,C.y,C.dy,_,U,ry1.o,fj Qy,_,U,C.y,C.dy,C.la,C.lq,_,_,_,w,S.st w.toNat,U,ry1,wl,ck lt,U,_,U,?_⟩;have hg:=(cp.st w.toNat).2
  have er:(((S.st w.toNat).1.length:Int)-(S.st w.toNat).2=0)↔(ax S w.toNat).isEmpty=true:=by
   unfold ax;rw[List.isEmpty_iff,List.drop_eq_nil_iff];omega
  refine bj (λc=>?_) (λc=>?_)
  ·have ce:=er.mp (dn c);have hwr:=M1.own.av .wtl trivial;have hwi:=M1.own.av (.wt w.toNat) lt
   have hatw:atI ((List.range C.nl).map λi=>V.ref (ad (.wt i))) w=some (.ref (ad (.wt w.toNat))):=by
    conv=>lhs;arg 2;rw[<- Int.toNat_of_nonneg wl]
    exact bS (ck lt)
   have wl':=(I.wt w.toNat).len;refine⟨_,U,C.b,_,C.dx,_,_,U,M1.ob,T.dz,T.AS,kW U,_,U,ad .wtl,_,_,_,U,U,SqL.of hwr,hatw,.inl ⟨U,_,SqL.of hwi⟩,_,U,ad (.wt w.toNat),_,_,U,U,hwi,bi (m:=1000) (by rw[fh];omega),?_⟩;exact k1 w (lJ hw ce hp) H0' _ s0 (M1.wait lt)
  ·have ce:(ax S w.toNat).isEmpty=false:=by
    cases e:(ax S w.toNat).isEmpty with
    |false=>rfl
    |true=>exact Q4 (er.mpr e) (dw c)
   refine⟨⟨_,_,U⟩,U,λq hq=>?_⟩;rw[qr,hw,qh]at hq;rcases hq with hq|hq
   ·exact hp q hq
   ·rw[qS.mp hq];exact ce
 rintro σ G ⟨⟨v4,v5,rfl⟩,rfl,hp⟩;rw[q9,qH]at hp;have nl:cb S ws=none:=List.find?_eq_none.mpr λw hw=>by rw[hp w hw];exact qi
 have k2:=k2 nl;have k3:=k3 nl;have ww:=ww nl;refine⟨_,U,C.b,_,C.dx,_,_,U,M1.ob,T.dz,T.AN,lz3 U,U,_,U,bj (λc=>?_) (λc=>?_)⟩
 ·exact k2 (by have:=dn c;omega) H0' _ s0 M1
 have sp0:S.sp≠0:=λz=>dw c (by rw[z];rfl);have k3:=k3 sp0;refine⟨_,U,C.b,_,C.dx,_,_,U,M1.ob,T.dz,T.AN,lz3 U,_,_,U,U,_,U,C.b,_,C.dx,_,U,M1.ob,T.dz,T.AN,by simp[plN,plV],?_⟩;rw[kG 3 U Qy (by show 3<11;decide)];have M2:=M1.spare (n:=S.sp-1) (v:=.int ((S.sp:Int)-1)) (by congr 1;omega)
 have rne:∀w∈ws,(S.st w.toNat).2<(S.st w.toNat).1.length:=λw hw=>by
  have:=hp w hw;unfold ax at this
  cases e:(S.st w.toNat).1.drop (S.st w.toNat).2 with
  |nil=>rw[e]at this;cases this
  |cons y r=>
   by_cases z:(S.st w.toNat).2<(S.st w.toNat).1.length
   ·exact z
   ·rw[List.drop_eq_nil_iff.mpr Qw]at e;cases e
 have hth:∀w∈ws,(S.st w.toNat).1[(S.st w.toNat).2]?=some (aR S w):=λw hw=>by
  have lt:=rne w hw;unfold aR ax;rw[List.drop_eq_getElem_cons lt,qc lt]
  rfl
 refine⟨_,U,t,U,⟨_,SqT.of (M2.own.sa _ _ ht0)⟩,?_⟩;refine zQ (K:=K) (a:=t) (xs:=ws.map V.int) (λi ys σ G=>(∃v,σ=[v,some (.ref C.b)])/\ys=((ws.take i).map (aR S)).map V.int/\PlH a H0' G C ad hd lgv { S with sp:=S.sp-1,st:=bB S.st (ws.take i) }) ⟨⟨_,U⟩,U,M2⟩ ?_ (bi (m:=1000) (by rw[q9];omega)) ?_ ?_ ?_
 ·rintro i ys σ G hi ⟨_,rfl,_⟩;rw[q9,q9];exact List.length_take_le _ _
 ·rintro i ys σ G ⟨_,_,Mi⟩;exact SqT.of (Mi.own.sa _ _ ht0)
 ·rintro i v ys σ G hi ⟨⟨v',rfl⟩,rfl,Mi⟩;rw[qE]at hi;obtain⟨w,hw,rfl⟩:=qP.mp hi;have wm:=qz hw;have wl:=ft.lo w wm;have wh:=ft.hi w wm;have lt:w.toNat<C.nl:=Qw;have nd:=ft.nd;have nd2:((ws.take i).map Int.toNat).Nodup:=nd.sublist ((List.take_sublist _ _).map _)
  have off:w.toNat∉(ws.take i).map Int.toNat:=by
   have e:(ws.take (i+1)).map Int.toNat=(ws.take i).map Int.toNat++[w.toNat]:=by rw[qr,hw,qO];rfl
   have n3:((ws.take (i+1)).map Int.toNat).Nodup:=nd.sublist ((List.take_sublist _ _).map _);rw[e,List.nodup_append]at n3;exact λz=>n3.2.2 _ z _ (qS.mpr U) U
  have es:bB S.st (ws.take i) w.toNat=S.st w.toNat:=mE off;have ryi:=Mi.ry B1 λj=>⟨j4 nd2 (λu hu=>rne u (List.mem_of_mem_take hu)) (λj=>(cp.st j).2) j,by show(bB S.st (ws.take i) j).1.length<=_;rw[h6];have:=(cp.st j).1;omega⟩;have tm:=Mi.takeOne lt;refine⟨_,U,C.b,_,C.dx,_,_,U,Mi.ob,T.dz,T.As,lz0 U,C.y,C.dy,_,U,ryi.o,fj Qy,_,U,C.y,C.dy,C.la,C.lq,_,_,_,w,aR S w,_,_,U,ryi,wl,ck lt,ck lt,?_,?_⟩
  ·show(bB S.st (ws.take i) w.toNat).1[(bB S.st (ws.take i) w.toNat).2]?=_;rw[es];exact hth w wm
  ·refine⟨⟨_,U⟩,?_,?_⟩
   ·rw[qr,hw,qO,qO];rfl
   ·rw[qr,hw];show PlH a H0' _ C ad hd lgv { S with sp:=S.sp-1,st:=bB S.st (ws.take i++[w]) };rw[tQ];exact tm
 rintro ys σ3 G3 ⟨_,rfl,M3⟩ l hl;rw[q9,qH]at M3 ⊢;have M4:=M3.earth hl (.lst ((ws.map (aR S)).map V.int));have s4:aa H0' (upd H0' l (.lst ((ws.map (aR S)).map V.int))):=aa.new (aa.none M3.own.sa hl) _;have hl4:upd H0' l (.lst ((ws.map (aR S)).map V.int)) l=some (.lst ((ws.map (aR S)).map V.int)):=af;have ht4:=s4 _ _ ht0;have B4:=B1.same s4;have s04:=s0.trans s4;generalize upd H0' l (.lst ((ws.map (aR S)).map V.int))=K0 at M4 s4 hl4 ht4 B4 s04;generalize upd G3 l (.lst ((ws.map (aR S)).map V.int))=G4 at M4 ⊢;dsimp only[aO];have hlg:=M4.own.av .lg trivial;refine⟨_,U,C.b,_,C.dx,_,_,U,M4.ob,T.dz,T.AO,lz4 U,.inl ⟨U,_,SqL.of hlg⟩,_,U,_,U,_,U,_,U,true,false,t,l,_,_,U,SqT.of (M4.own.sa _ _ ht4),SqL.of (M4.own.sa _ _ hl4),λH5 lz ts s5 nlz hz tl at_=>?_⟩;obtain⟨K1,s6,new6,M5⟩:=M4.ground s5;have hz0:=new6 _ _ nlz hz;have rz:RPs K1 (ts.map V.ref) (ws.zip (ws.map (aR S))):=RPs.zip (by rw[tl,q9,q9]) λj t x y a b c=>new6 _ _ (at_ j t x y a b c).2 (at_ j t x y a b c).1;refine⟨ln4,λz hz'=>?_⟩;have M6:=M5.ent (e:=⟨now,x,true,ws.zip (ws.map (aR S))⟩) hz' hz0 rz;have hlg5:=M5.own.av .lg trivial;have nz:ad .lg≠z:=λe=>by rw[e,hz']at hlg5;cases hlg5
 have ll:=M5.lg.len;refine⟨ad .lg,_,_,U,U,by rw[aj nz];exact hlg5,?_,?_⟩
 ·show lgv.length<_;have:=cp.lg;have ll:lgv.length=S.lg.length:=ll;omega
 have s7:aa K1 _:=aa.new (aa.none M5.own.sa hz') (.tup [.int now,.int x,.str "took",.ref lz]);have s07:=s04.trans (s6.trans s7);have B6:=B4.same (s6.trans s7);have hl6:=(s6.trans s7) _ _ hl4;have ht6:=(s6.trans s7) _ _ ht4;have rp6:=rp.same s07;change PlH a (upd K1 z (.tup [.int now,.int x,.str "took",.ref lz])) (upd (upd H5 z (.tup [.int now,.int x,.str "took",.ref lz])) (ad .lg) (.lst (lgv++[.ref z]))) C ad hd (lgv++[.ref z]) { S with sp:=S.sp-1,st:=bB S.st ws,lg:=S.lg++[⟨now,x,true,ws.zip (ws.map (aR S))⟩] }at M6;show hE _ _ _ _ (upd (upd H5 z (.tup [.int now,.int x,.str "took",.ref lz])) (ad .lg) (.lst (lgv++[.ref z])));generalize upd K1 z (.tup [.int now,.int x,.str "took",.ref lz])=K2 at M6 s7 s07 B6 hl6 ht6 rp6;generalize upd (upd H5 z (.tup [.int now,.int x,.str "took",.ref lz])) (ad .lg) (.lst (lgv++[.ref z]))=G6 at M6 ⊢;have rp6H:=rp6.same M6.own.sa;obtain⟨p',cC',dx'',fs',ep,hp6,lm,mm⟩:=yi T rp6H (X:=(dJ CX0 P w K mg base ["self","now","part","wanted","line","things"] "Play.take" (am fJ) a.AA cdv A outer s H E).nox) U U U U (hr.mono Qz);cases ep
 have on:∀v∈ws.map (aR S),OnW v:=λv hv=>by
  obtain⟨w,hw,rfl⟩:=List.mem_map.mp hv;exact cp.on w.toNat _ (qz (hth w hw))
 refine⟨_,U,C.b,_,C.dx,_,_,U,M6.ob,T.dz,T.D4,lz1 U,_,U,C.dl,_,_,_,U,U,SqL.of (M6.own.sa _ _ B6.dl),hatd,p,cC',dx'',fs',_,U,hp6,lm,mm,_,U,_,l,C.prt x,ws.map (aR S),U,U,rp6H,rok,M6.own.sa _ _ hl6,by rw[q9];exact ww,on,λH7 l7 us7 s8 n7 h7 an7 r7=>?_⟩;obtain⟨K3,s9,new9,M7⟩:=M6.ground s8;have M8:=M7.hold (x:=x) (new9 _ _ n7 h7) (RPs.new r7 an7 new9);have B8:=B6.same s9;have ht8:=s9 _ _ ht6;have s08:=s07.trans s9;have hh:=M7.own.av .hl trivial;refine⟨_,U,C.b,_,C.dx,_,_,U,M7.ob,T.dz,T.D5,lz5 U,_,U,ad .hl,_,_,x,U,U,hh,iF (by rw[q9,Qd];exact hx),?_⟩;show hE _ _ _ _ (upd H7 (ad .hl) (.lst (((List.range C.n).map λj=>V.ref (hd j)).set x (.ref l7))));generalize upd H7 (ad .hl) (.lst (((List.range C.n).map λj=>V.ref (hd j)).set x (.ref l7)))=G8 at M8 ⊢;refine⟨_,U,C.b,C.dx,_,U,M8.ob,fg Qy,_,U,_,_,U,U,_,U,C.b,C.dx,_,U,M8.ob,fg Qy,_,U,K3,C,ad,_,_,_,x,U,B8,M8,hx,_,_,U,U,_,U,ln1,λz9 hz9=>?_⟩;have M9:=M8.earth hz9 (.lst (aD [x]));have s10:aa K3 (upd K3 z9 (.lst (aD [x]))):=aa.new (aa.none M8.own.sa hz9) _;have B9:=B8.same s10;have ht9:=s10 _ _ ht8;have s09:=s08.trans s10;refine⟨_,C,ad,_,_,_,_,z9,[x],U,B9,M9,af,λk hk e=>?_,?_,by show 1<=1000;decide,λkv hkv=>?_,I.gk,λH10 ad10 M10 ead=>?_⟩
 ·have:=M8.own.av (.gv k) hk;rw[<- e,hz9]at this;cases this
 ·have:=cp.gv;show S.gv.length<_;omega
 ·have:=(I.gv kv hkv).len;omega
 generalize upd K3 z9 (.lst (aD [x]))=K4 at M10 s10 B9 ht9 s09;have tl10:=M10.own.av .tl trivial;have hat10:atI ((List.range C.n).map λx=>V.int (S.tks x)) (x:Int)=some (.int (S.tks x)):=bS (ck hx);refine⟨_,U,C.b,_,C.dx,_,_,U,M10.ob,T.dz,T.AQ,lz6 U,_,U,ad10 .tl,_,_,_,U,U,SqL.of tl10,hat10,_,_,U,U,_,U,C.b,_,C.dx,_,_,U,M10.ob,T.dz,T.AQ,lz6 U,_,U,ad10 .tl,_,_,x,U,U,tl10,iF (by rw[q9,Qd];exact hx),?_⟩;have M11:=M10.count (x:=x) (n:=S.tks x+1) (v:=.int ((S.tks x:Int)+1)) U
 have e11:({ S with sp:=S.sp-1,st:=bB S.st ws,lg:=S.lg++[⟨now,x,true,ws.zip (ws.map (aR S))⟩],held:=put S.held x ((C.prt x).made (ws.map (aR S))),gv:=bf S.gv (now+1+bK C.pace x (S.tks x)) [x],tks:=put S.tks x (S.tks x+1) }:PlS)=bH (C.prt x) C.pace S now x:=by
  unfold bH;rw[hws]
 have I11:aU C.n (put loc x (.gv (now+1+bK C.pace x (S.tks x)))) rem (bH (C.prt x) C.pace S now x):=(I.toGv (now+1+bK C.pace x (S.tks x))).eq U U U U
 have g11:(bH (C.prt x) C.pace S now x).gv.length<=S.gv.length+1:=by
  show(bf S.gv (now+1+bK C.pace x (S.tks x)) [x]).length<=_;exact iU
 have M11:PlH a K4 _ C ad10 _ _ (bH (C.prt x) C.pace S now x):=e11▸M11;have k3:∀H0' H' ad' hd' lgv',aa H0 H0'->PlH a H0' H' C ad' hd' lgv' (ws.foldl (bg now) (bH (C.prt x) C.pace S now x))->Q (.bl true) H':=λa1 a2 a3 a4 a5 a6 a7=>k3 a1 a2 a3 a4 a5 a6 (by unfold aT;rw[hws];exact a7);generalize bH (C.prt x) C.pace S now x=S11 at M11 I11 g11 k3;refine⟨_,U,t,U,⟨_,SqT.of (M11.own.sa _ _ ht9)⟩,?_⟩;refine iN (K:=K) (a:=t) (xs:=ws.map V.int) (λi σ G=>(∃v4,σ=[some (.ref C.b),some (.int now),some (.int x),some (.ref t),v4,some (.ref l)])/\∃ad' loc',aU C.n loc' rem ((ws.take i).foldl (bg now) S11)/\((ws.take i).foldl (bg now) S11).gv.length<=S.gv.length+1+i/\PlH a K4 G C ad' (put hd x l7) (lgv++[.ref z]) ((ws.take i).foldl (bg now) S11)) ⟨⟨_,U⟩,_,_,I11,g11,M11⟩ ?_ ?_ ?_
 ·rintro i σ G _ ⟨_,ad',loc',_,_,Mi⟩;exact SqT.of (Mi.own.sa _ _ ht9)
 ·rintro i v σ G hi ⟨⟨v4,rfl⟩,ad',loc',Ii,gi,Mi⟩;rw[qE]at hi;obtain⟨w,hw,rfl⟩:=qP.mp hi;have il:=(qf.mp hw).1;have wm:=qz hw;have wl:=ft.lo w wm;have wh:=ft.hi w wm;have lt:w.toNat<C.nl:=Qw
  have es:(ws.take (i+1)).foldl (bg now) S11=bg now ((ws.take i).foldl (bg now) S11) w:=by
   rw[qr,hw,List.foldl_append]
   rfl
  generalize (ws.take i).foldl (bg now) S11=Si at Ii gi Mi es;have hwr:=Mi.own.av .wrl trivial;have hwi:=Mi.own.av (.wr w.toNat) lt
  have hatw:atI ((List.range C.nl).map λi=>V.ref (ad' (.wr i))) w=some (.ref (ad' (.wr w.toNat))):=by
   conv=>lhs;arg 2;rw[<- Int.toNat_of_nonneg wl]
   exact bS (ck lt)
  have wl2:=(Ii.wr w.toNat).len;dsimp only[aO];refine⟨_,U,C.b,C.dx,_,U,Mi.ob,fg Qy,_,U,_,_,U,U,_,U,C.b,_,C.dx,_,_,U,Mi.ob,T.dz,T.AR,lz9 U,_,U,ad' .wrl,_,_,_,U,U,SqL.of hwr,hatw,?_⟩;refine⟨_,C,ad',_,_,_,_,ad' (.wr w.toNat),Si.wr w.toNat,U,B9,Mi,hwi,λk hk e=>?_,?_,Qw,λkv hkv=>?_,Ii.gk,λH12 ad12 M12 ead2=>?_⟩
  ·exact nomatch Mi.own.inj (.wr w.toNat) (.gv k) lt hk e
  ·have:=cp.gv;omega
  ·have:=(Ii.gv kv hkv).len;omega
  refine⟨qt _,λz13 hz13=>?_⟩;have M13:=M12.clear (i:=w.toNat) hz13;have M12u:=M12.up (aa.new hz13 (.lst []));have w13:=M12u.own.av .wrl trivial;refine⟨_,U,C.b,_,C.dx,_,_,U,M12u.ob,T.dz,T.AR,lz9 U,_,U,ad12 .wrl,_,_,w.toNat,U,U,w13,?_,?_⟩
  ·rw[q9,Qd]
   conv=>lhs;arg 2;rw[<- Int.toNat_of_nonneg wl]
   exact iF lt
  refine⟨⟨_,U⟩,_,_,by rw[es];exact Ii.free now w,?_,by rw[es];exact M13⟩;rw[es];have:(bf Si.gv (now+1) (Si.wr w.toNat)).length<=Si.gv.length+1:=iU;show(bf Si.gv (now+1) (Si.wr w.toNat)).length<=_;omega
 rintro σ G ⟨⟨v4',rfl⟩,ad',loc',_,_,Mi⟩;rw[q9,qH]at Mi;exact k3 K4 _ ad' _ _ s09 Mi
structure Hs(nl:Nat)(ps:List (Int×Int)):Prop where
 ok:∀p∈ps,0<=p.1/\p.1<nl/\OnW p.2
 few:ps.length<=10
 nd:(ps.map λp=>p.1.toNat).Nodup
theorem mf:∀(ls xs:List Int),((ls.zip xs).map λp=>p.1.toNat).Sublist (ls.map Int.toNat)
 |[],_=>List.Sublist.slnil
 |_::_,[]=>List.nil_sublist _
 |l::ls,x::xs=>List.Sublist.cons_cons _ (mf ls xs)
theorem Hs.zip{nl:Nat}{ls xs:List Int}(f:Fit nl ls)(few:ls.length<=10)(on:∀x∈xs,OnW x):Hs nl (ls.zip xs):=by
 refine⟨λp hp=>?_,by rw[List.length_zip];omega,?_⟩
 ·have h:=List.of_mem_zip (a:=p.1) (b:=p.2) hp;exact⟨f.lo _ h.1,f.hi _ h.1,on _ h.2⟩
 ·exact f.nd.sublist (mf ls xs)
theorem yt{nl:Nat}{r:PR}{xs:List Int}(ok:r.ok)(ft:r.fit nl)(wide:xs.length=r.wide)(on:∀x∈xs,OnW x):Hs nl (r.made xs):=by
 have on0:∀i:Nat,i<xs.length->OnW (xs.getD i 0):=λi hi=>by
  rw[qj,qc hi];exact on _ (List.getElem_mem hi)
 cases r with
 |pass ins outs route=>
  obtain⟨o1,o2,o3,o4⟩:=ok;change xs.length=ins.length at wide;refine Hs.zip ft.2 Qw λx hx=>?_;obtain⟨r,hr,rfl⟩:=List.mem_map.mp hx;have:=o4 r hr;exact on0 _ Qw
 |work ins out sg l r=>
  obtain⟨o1,o2,o3⟩:=ok;change xs.length=ins.length at wide;refine⟨λp hp=>?_,by show 1<=10;decide,Qq _ _⟩;rw[qS.mp hp];exact⟨ft.2.lo _ qm,ft.2.hi _ qm,zF (gU (wide▸o2) on) (gU (wide▸o3) on)⟩
 |choose ins which ones noughts told=>
  obtain⟨o1,o2,o3,o4,o5⟩:=ok;change xs.length=ins.length at wide
  have go:∀(ls:List Int)(v:Int),Fit nl (ls++[told])->ls.length=ins.length->OnW v->Hs nl (ls.zip xs++[(told,v)]):=λls v f e ov=>by
   rw[show ls.zip xs++[(told,v)]=(ls++[told]).zip (xs++[v])by rw[List.zip_append Qw];rfl];refine Hs.zip f (by rw[qb,Q6];omega) λx hx=>?_;rcases qh.mp hx with h|h
   ·exact on x h
   ·rw[qS.mp h];exact ov
  show Hs nl (if xs.getD which.toNat 0=0 then noughts.zip xs++[(told,0)]else ones.zip xs++[(told,1)]);split
  ·exact go _ _ ft.2.2 o4 ⟨Qz,Qz⟩
  ·exact go _ _ ft.2.1 o3 ⟨Qz,Qz⟩
 |merge told ones noughts outs=>
  obtain⟨o1,o2,o3⟩:=ok;exact Hs.zip ft.2.2 Qw λx hx=>on x (List.mem_of_mem_tail hx)
theorem rN:∀(ps:List (Int×Int))(S:PlS)(j:Nat),j∉ps.map (λp=>p.1.toNat)->(ps.foldl ap S).st j=S.st j
 |[],_,_,_=>rfl
 |p::ps,S,j,h=>by
  show(ps.foldl ap (ap S p)).st j=_;rw[rN ps _ j λz=>h (qk _ z)];exact aB λz=>h (by rw[z];exact qm)
theorem rL:∀(ps:List (Int×Int))(S:PlS)(j:Nat),(ps.map λp=>p.1.toNat).Nodup->((ps.foldl ap S).st j).1.length<=(S.st j).1.length+1
 |[],_,_,_=>Nat.le_succ _
 |p::ps,S,j,nd=>by
  have nd:p.1.toNat∉ps.map (λp=>p.1.toNat)/\(ps.map λp=>p.1.toNat).Nodup:=List.nodup_cons.mp nd;show((ps.foldl ap (ap S p)).st j).1.length<=_;by_cases e:j=p.1.toNat
  ·rw[e,rN ps _ _ nd.1];show(put S.st p.1.toNat _ p.1.toNat).1.length<=_;rw[aK,qb];exact qe _
  ·have:=rL ps (ap S p) j nd.2
   rwa [show(ap S p).st j=S.st j from aB e]at this
theorem eI:∀(ps:List (Int×Int))(S:PlS),(ps.foldl ap S).gv=S.gv/\(ps.foldl ap S).sp=S.sp/\(ps.foldl ap S).lg=S.lg/\(ps.foldl ap S).held=S.held/\(ps.foldl ap S).tks=S.tks/\(ps.foldl ap S).wr=S.wr
 |[],_=>⟨U,U,U,U,U,U⟩
 |p::ps,S=>eI ps (ap S p)
theorem rM:∀(ps:List (Int×Int))(S:PlS),(∀p∈ps,OnW p.2)->(∀i,∀v∈(S.st i).1,OnW v)->∀i,∀v∈((ps.foldl ap S).st i).1,OnW v
 |[],_,_,h=>h
 |p::ps,S,hp,h=>by
  refine rM ps (ap S p) (λq hq=>hp q (qk _ hq)) λi v hv=>?_;have hv:v∈(put S.st p.1.toNat ((S.st p.1.toNat).1++[p.2],(S.st p.1.toNat).2) i).1:=hv;by_cases e:i=p.1.toNat
  ·rw[e,aK]at hv;rcases qh.mp hv with hv|hv
   ·exact h _ v hv
   ·rw[qS.mp hv];exact hp p qm
  ·rw[aB e]at hv;exact h i v hv
section
variable {C:PlC}{k:Nat}{S:PlS}{x:Nat}
theorem cG.mono{k':Nat}(h:cG C k S)(le:k'<=k):cG C k' S:=⟨λi=>⟨by have:=(h.st i).1;omega,(h.st i).2⟩,by have:=h.lg;omega,by have:=h.gv;omega,h.on,h.hn⟩
theorem cG.gave(h:cG C (k+1) S)(hx:x<C.n)(now:Int):cG C k (cy S now x):=by
 obtain⟨e1,e2,e3,e4,e5,e6⟩:=eI (S.held x) S;obtain⟨h1,h2,h3⟩:=h.hn x hx;refine⟨λi=>?_,?_,?_,rM _ S (λp hp=>(h1 p hp).2.2) h.on,λy hy=>?_⟩
 ·show((((S.held x).foldl ap S).st i).1.length+k<=_)/\(((S.held x).foldl ap S).st i).2<=(((S.held x).foldl ap S).st i).1.length;have a1:=rL (S.held x) S i h3;have a2:=lE (S.held x) S i;have a3:=h.st i;omega
 ·show(((S.held x).foldl ap S).lg++[_]).length+k<=_;rw[e3,qb,Q6];have:=h.lg;omega
 ·show((S.held x).foldl ap S).gv.length+k<=_;rw[e1];have:=h.gv;omega
 ·show(∀p∈((S.held x).foldl ap S).held y,_)/\(((S.held x).foldl ap S).held y).length<=10/\((((S.held x).foldl ap S).held y).map _).Nodup;rw[e4];exact h.hn y hy
theorem rV(now:Int):∀(ws:List Int)(S:PlS),(ws.foldl (bg now) S).gv.length<=S.gv.length+1/\(now+1∈aN S.gv->(ws.foldl (bg now) S).gv.length=S.gv.length)
 |[],_=>⟨Nat.le_succ _,λ_=>rfl⟩
 |w::ws,S=>by
  obtain⟨h1,h2⟩:=rV now ws (bg now S w);show(ws.foldl (bg now) (bg now S w)).gv.length<=_/\(_->(ws.foldl (bg now) (bg now S w)).gv.length=_);have e:(bg now S w).gv=bf S.gv (now+1) (S.wr w.toNat):=U;rw[e]at h1 h2;by_cases m:now+1∈aN S.gv
  ·have:=h2 (iE.mpr (.inl m));rw[A5 m]at this;exact⟨Qw,λ_=>this⟩
  ·refine⟨?_,λz=>Q4 z m⟩;by_cases c:S.wr w.toNat=[]
   ·rw[c]at h1;exact h1
   ·rw[h2 (iE.mpr (.inr ⟨c,U⟩))];exact iU
theorem fy(now:Int):∀(ws:List Int)(S:PlS),(ws.foldl (bg now) S).st=S.st/\(ws.foldl (bg now) S).sp=S.sp/\(ws.foldl (bg now) S).lg=S.lg/\(ws.foldl (bg now) S).held=S.held/\(ws.foldl (bg now) S).tks=S.tks/\(ws.foldl (bg now) S).tr=S.tr/\(ws.foldl (bg now) S).wt=S.wt
 |[],_=>⟨U,U,U,U,U,U,U⟩
 |w::ws,S=>fy now ws (bg now S w)
theorem rj(h:cb S (aq S (C.prt x))=none):∀w∈aq S (C.prt x),(S.st w.toNat).2<(S.st w.toNat).1.length:=λw hw=>by
 have:=List.find?_eq_none.mp h w hw;by_cases z:(S.st w.toNat).2<(S.st w.toNat).1.length
 ·exact z
 ·exact Q4 (by unfold ax;rw[List.drop_eq_nil_iff.mpr Qw];rfl) this
theorem mD(h:cG C k S)(n:cb S (aq S (C.prt x))=none):∀v∈(aq S (C.prt x)).map (aR S),OnW v:=λv hv=>by
 obtain⟨w,hw,rfl⟩:=List.mem_map.mp hv;have lt:=rj n w hw;unfold aR ax;rw[List.drop_eq_getElem_cons lt];exact h.on w.toNat _ (List.getElem_mem lt)
theorem j3{r:PR}{pace:List (List Int)}{now:Int}:(aT r pace S now x).gv.length<=S.gv.length+2:=by
 have h:=(rV now (aq S r) (bH r pace S now x)).1;have e:(bH r pace S now x).gv.length<=S.gv.length+1:=iU (g:=S.gv) (t:=now+1+bK pace x (S.tks x)) (ps:=[x]);unfold aT;omega
theorem cG.taken(h:cG C (k+3) S)(B:(C.prt x).ok/\(C.prt x).fit C.nl)(n:cb S (aq S (C.prt x))=none)(now:Int):cG C k (aT (C.prt x) C.pace S now x):=by
 obtain⟨e1,e2,e3,e4,e5,e6,e7⟩:=fy now (aq S (C.prt x)) (bH (C.prt x) C.pace S now x);have ft:=j0 (S:=S) B.2;refine⟨λi=>?_,?_,?_,λi v hv=>?_,λy hy=>?_⟩
 ·unfold aT;rw[e1];have:=j4 ft.nd (rj n) (λj=>(h.st j).2) i;refine⟨?_,this⟩;show(bB S.st (aq S (C.prt x)) i).1.length+k<=_;rw[h6];have:=(h.st i).1;omega
 ·unfold aT;rw[e3];show(S.lg++[_]).length+k<=_;rw[qb,Q6];have:=h.lg;omega
 ·have:=j3 (S:=S) (r:=C.prt x) (pace:=C.pace) (now:=now) (x:=x);have:=h.gv;omega
 ·unfold aT at hv;rw[e1]at hv;have hv:v∈(bB S.st (aq S (C.prt x)) i).1:=hv;rw[h6]at hv;exact h.on i v hv
 ·unfold aT;rw[e4];show(∀p∈put S.held x _ y,_)/\(put S.held x _ y).length<=10/\((put S.held x _ y).map _).Nodup;by_cases e:y=x
  ·rw[e,aK];have q:=yt B.1 B.2 (xs:=(aq S (C.prt x)).map (aR S)) (by rw[q9];exact iY B.1 n) (mD h n);exact⟨q.ok,q.few,q.nd⟩
  ·rw[aB e];exact h.hn y hy
end
def GdP(C:PlC):Ph->PlS->Prop
 |.top,S=>Gd C (bF S+20) [] S
 |.giv _ r,S=>Gd C (bF S+r.length+84) r S
 |.tak _ r,S=>Gd C (bF S+r.length+20) r S
theorem lF{ls:Nat->Option Int}{S:PlS}{now:Int}{x:Nat}:(bD ls S now x).sp=S.sp/\(bD ls S now x).gv=S.gv:=by
 unfold bD;split
 ·exact⟨U,U⟩
 ·exact⟨(eI (S.held x) S).2.1,(eI (S.held x) S).1⟩
theorem aX.gd{C:PlC}(okC:∀x,x<C.n->(C.prt x).ok/\(C.prt x).fit C.nl)(n60:C.n<60){S0:PlS}(g0:Gd C (bF S0+20) [] S0){ph:Ph}{S:PlS}(h:aX C.ls C.prt C.pace S0 ph S):GdP C ph S:=by
 induction h with
 |base=>exact g0
 |@turn S k r h hk p rs ih=>
  obtain⟨⟨loc,I⟩,cp⟩:=ih;have I':=I.turn hk.1 p;have rl:=I'.rm.len;have dl:=lK hk.1;refine⟨⟨_,I'⟩,?_⟩
  have c2:=cp.mono (k':=bF { S with gv:=bp S.gv k }+r.length+84) (by
   unfold bF;show 130 * (3 * S.sp+(bp S.gv k).length)+r.length+84<=130 * (3 * S.sp+S.gv.length)+20
   omega)
  exact⟨c2.st,c2.lg,qy (Nat.add_le_add_right (Nat.le_of_lt dl) _) c2.gv,c2.on,c2.hn⟩
 |@give S k x r h ih=>
  obtain⟨⟨loc,I⟩,cp⟩:=ih;have hx:=I.not.2.1;obtain⟨e1,e2⟩:=lF (ls:=C.ls) (S:=S) (now:=k) (x:=x);have eb:bF (bD C.ls S k x)=bF S:=by unfold bF;rw[e1,e2]
  show Gd C (bF (bD C.ls S k x)+r.length+84) r (bD C.ls S k x);rw[eb];have cp:cG C (bF S+(r.length+1)+84) S:=cp;unfold bD;split
  ·exact⟨⟨_,I.stuck _⟩,let c:=cp.mono (k':=bF S+r.length+84) Qw;⟨c.st,c.lg,c.gv,c.on,c.hn⟩⟩
  ·obtain⟨loc',I'⟩:=aU.hands (S.held x) I;exact⟨⟨_,I'.toTr _⟩,(cp.mono (k':=bF S+r.length+84+1) Qw).gave hx k⟩
 |@half S k r h p rs ih=>
  obtain⟨⟨loc,I⟩,cp⟩:=ih;have I':=I.half p;have rl:=I'.rm.len;have cp:cG C (bF S+0+84) S:=cp;have c2:=cp.mono (k':=bF S+r.length+20) Qw;exact⟨⟨_,I'⟩,⟨c2.st,c2.lg,c2.gv,c2.on,c2.hn⟩⟩
 |@wait S k i x r h hl ih=>
  obtain⟨⟨loc,I⟩,cp⟩:=ih;have cp:cG C (bF S+(r.length+1)+20) S:=cp;have c2:=cp.mono (k':=bF S+r.length+20) Qw;exact⟨⟨_,I.wait i.toNat⟩,⟨c2.st,c2.lg,c2.gv,c2.on,c2.hn⟩⟩
 |@take S k x r h hl hs ih=>
  obtain⟨⟨loc,I⟩,cp⟩:=ih;have cp:cG C (bF S+(r.length+1)+20) S:=cp;have hx:=I.not.2.1;have e2:(aT (C.prt x) C.pace S k x).sp=S.sp-1:=(fy k (aq S (C.prt x)) (bH (C.prt x) C.pace S k x)).2.1;have e3:=j3 (S:=S) (r:=C.prt x) (pace:=C.pace) (now:=k) (x:=x)
  have le:bF (aT (C.prt x) C.pace S k x)+r.length+20+3<=bF S+(r.length+1)+20:=by
   unfold bF;rw[e2];omega
  obtain⟨loc',I'⟩:=aU.frees k (aq S (C.prt x)) (((I.toGv (k+1+bK C.pace x (S.tks x))).eq (S':=bH (C.prt x) C.pace S k x) U U U U));exact⟨⟨loc',I'⟩,(cp.mono le).taken (okC x hx) hl k⟩
 |over h ih=>exact ih
theorem zE{ad:Rl->Addr}{g:Gv}{t:Int}:dA (g.map λkv=>((Sum.inl kv.1:Key),V.ref (ad (.gv kv.1)))) (Sum.inl t)=(bp g t).map λkv=>((Sum.inl kv.1:Key),V.ref (ad (.gv kv.1))):=by
 unfold dA bp;rw[List.filter_map];refine congrArg _ (List.filter_congr λkv _=>?_);exact decide_eq_decide.mpr ⟨λh z=>h (congrArg Sum.inl z),λh z=>h (Sum.inl.inj z)⟩
theorem lX:∀{g:Gv}{k m:Int},k≠m->atG (bp g m) k=atG g k
 |[],_,_,_=>rfl
 |(j,ps)::g,k,m,h=>by
  unfold bp;by_cases e:j=m
  ·rw[List.filter_cons_of_neg (by simpa using e),cM,qZ λz=>h (z.symm.trans e)];exact lX h
  ·rw[List.filter_cons_of_pos (by simpa using e),cM,cM];split
   ·rfl
   ·exact lX h
theorem kR(xs:List Nat):aD xs=(xs.map λj:Nat=>(j:Int)).map V.int:=by unfold aD;rw[List.map_map];rfl
theorem oi{zs:List Int}{ys:List Nat}(p:zs.Perm (ys.map λj:Nat=>(j:Int)))(h:List.Pairwise (λx1 x2=>x1<=x2) zs):∃r:List Nat,zs.map V.int=aD r/\r.Perm ys/\dB r:=by
 refine⟨zs.map Int.toNat,?_,?_,?_⟩
 ·rw[kR,List.map_map (f:=Int.toNat)];refine congrArg (List.map V.int) (((List.map_congr_left λz hz=>?_).trans (List.map_id zs)).symm);obtain⟨y,_,e⟩:=List.mem_map.mp (p.mem_iff.mp hz);rw[<- e]
  rfl
 ·have:=p.map Int.toNat;rw[List.map_map,show(Int.toNat ∘ λj:Nat=>(j:Int))=id from rfl,List.map_id]at this;exact this
 ·exact List.pairwise_map.mpr (h.imp λ{a b} le=>Qw)
section
variable {H0 H:Hp}{C:PlC}{ad:Rl->Addr}{hd:Nat->Addr}{lgv:List V}{S:PlS}
theorem PlH.pop(M:PlH a H0 H C ad hd lgv S)(t:Int):PlH a H0 (upd H (ad .gd) (.dK (dA (S.gv.map λkv=>((Sum.inl kv.1:Key),V.ref (ad (.gv kv.1)))) (Sum.inl t)))) C ad hd lgv { S with gv:=bp S.gv t }:=by
 have o:=M.own.put .gd trivial (.dK (dA (S.gv.map λkv=>((Sum.inl kv.1:Key),V.ref (ad (.gv kv.1)))) (Sum.inl t)));refine⟨o.less (λr hr=>?_) λr hr=>?_,M.b,M.qo,M.hd,M.lg⟩
 ·cases r with
  |gv k=>exact(rA.mp hr).1
  |_=>exact hr
 ·cases r with
  |gv k=>
   show HO.lst (aD (atG S.gv k))=HO.lst (aD (atG (bp S.gv t) k));rw[lX (rA.mp hr).2]
  |gd=>
   show HO.dK _=HO.dK ((bp S.gv t).map _);rw[zE]
  |_=>rfl
theorem PlH.newTk(M:PlH a H0 H C ad hd lgv S){z:Addr}(hz:H z=none):PlH a H0 (upd (upd H z (.lst [])) C.b (.ins a.f8 C.dx (plN.zip ((plV C ad S.sp).set 8 (.ref z))))) C (at' ad .tk z) hd lgv { S with tr:=[] }:=by
 have o3:=M.own.new .tk hz (.lst []);have o4:=o3.put .b (.inr trivial) (.ins a.f8 C.dx (plN.zip ((plV C ad S.sp).set 8 (.ref z))));have eb:at' ad .tk z .b=C.b:=M.b;rw[eb]at o4;refine⟨o4.less (λr hr=>.inr hr) λr hr=>?_,M.b,M.qo,M.hd,M.lg⟩;cases r<;>rfl
end
def PlW(a:Adr)(H0:Hp)(C:PlC)(S0:PlS)(ph:Ph)(u:Nat)(G:Hp):Prop:=∃(H1:Hp)(ad:Rl->Addr)(hd:Nat->Addr)(lgv:List V)(S:PlS),aa H0 H1/\PlH a H1 G C ad hd lgv S/\aX C.ls C.prt C.pace S0 ph S/\3 * S.sp+S.gv.length<=u
theorem xG(T:Tx P w K mg a):aA P w K mg base CX0 6 a.BV a.BW ["self"] (nX a):=by
 refine T.ET.ok gq (λvs H Q E h=>?_) (λcdv A outer s H vs Q E hr h=>?_)
 ·obtain⟨_,_,_,_,_,_,rfl,_⟩:=h
  rfl
 obtain⟨H0,C,ad,hd,lgv,S0,rfl,B,M,G0,k⟩:=h
 refine⟨_,(ag (vY PassesOwn.never (aE fO (bI A4 U T.mt Q7 (a8 (aF (pq 0) U) ae)) ac (az _)) (ag (aQ (i:=1) gq.nd U Oi (bI (zY U) U T.DG PyProof.Rows.Boot.«min» (a8 (aF (pq 0) U) ae)))
  (ag (cI PassesOwn.never U (cu (bI (sM U) U T.DH PyProof.Rows.Boot.«sorted» (a8 (wv (aF (pq 0) U) (pq 1) ⟨U,U,U,U⟩) ae))) (aV (i:=2) gq.nd U Oi)
  (ai (bT (cY (pq 0) T.dz T.Gq (xJ T) (hr.mono Qz) T.EW .nil ay (a8 (pq 1) (a8 (pq 2) ae))))))
  (ag (aQ (i:=3) gq.nd U Oi (bI (sM U) U T.DH PyProof.Rows.Boot.«sorted» (a8 (aF (pq 0) U) ae)))
  (ag (bv (pq 0) (bz ae) U)
  (ai (cI PassesOwn.never U (cu (pq 3)) (aV (i:=2) gq.nd U Oi)
  (ai (aL (gA (df (cY (pq 0) T.dz T.Gr (xH T) (hr.mono Qz) T.EY .nil ay (a8 (pq 1) (a8 (pq 2) ae))))) (ai (ao bU)) aM)))))))))
  (ai (ao bU))),?_⟩
 have gd:∀{ph:Ph}{S:PlS},aX C.ls C.prt C.pace S0 ph S->GdP C ph S:=λh=>h.gd B.ok B.n G0;have nb:=B.n;refine⟨λu σ G=>(∃v1 v2 v3,σ=[some (.ref C.b),v1,v2,v3])/\PlW a H0 C S0 .top u G,⟨_,⟨_,_,_,U⟩,H0,ad,hd,lgv,S0,aa.refl _,M,.base,qe _⟩,?_⟩;rintro u σ G ⟨⟨v1,v2,v3,rfl⟩,H1,ad1,hd1,lgv1,S1,s1,M1,R1,u1⟩;have hgd:=M1.own.av .gd trivial;refine⟨_,U,C.b,_,C.dx,_,_,U,M1.ob,T.dz,T.AD,lz7 U,ad1 .gd,_,U,hgd,_,_,U,U,_,U,?_⟩
 cases hg:S1.gv with
 |nil=>exact aJ (by rfl) ((k H1 G ad1 hd1 lgv1 S1 s1 M1).1 R1 hg)
 |cons kv0 g0=>
 rw[<- hg];have g1:S1.gv≠[]:=by rw[hg];exact List.cons_ne_nil _ _
 refine bn (Q1 (by rw[hg,qR,qA];omega)) ?_;refine⟨λσ G=>(∃v1 v2 v3,σ=[some (.ref C.b),v1,v2,v3])/\∃u',u'<u/\PlW a H0 C S0 .top u' G,λσ' G' ⟨h1,u',lt,h2⟩=>⟨u',lt,h1,h2⟩,?_⟩;refine⟨_,U,C.b,_,C.dx,_,_,U,M1.ob,T.dz,T.AD,lz7 U,ad1 .gd,_,aN S1.gv,U,hgd,by unfold aN;rw[List.map_map,List.map_map];rfl,λz=>g1 (List.map_eq_nil_iff.mp z),λm hm hmin=>?_⟩;dsimp only[aO];have hgl:=M1.own.av (.gv m) hm;have I1:=gd R1;obtain⟨⟨loc1,L1⟩,cp1⟩:=I1;have ll:=(L1.gv _ (fX hm)).len;have M2:=M1.pop m;have hgl2:=M2.own.sa;refine⟨_,U,C.b,_,C.dx,_,_,U,M1.ob,T.dz,T.AD,lz7 U,ad1 .gd,U,.inl ⟨_,.of hgd⟩,_,U,_,.inl m,_,hgd,U,by rw[gZ,Q0 hm],ad1 (.gv m),(atG S1.gv m).map (λj:Nat=>(j:Int)),U,?_,by rw[q9];exact Nat.lt_of_le_of_lt ll Qw,λl zs hl perm srt=>?_⟩
 ·rw[<- kR];exact SqL.of (by rw[aj λe=>nomatch M1.own.inj (.gv m) .gd hm trivial e];exact hgl)
 obtain⟨r,er,rp,rr⟩:=oi perm srt;rw[er];have M3:=M2.earth hl (.lst (aD r));have s3:aa H1 (upd H1 l (.lst (aD r))):=aa.new (aa.none M2.own.sa hl) _;have hl3:upd H1 l (.lst (aD r)) l=some (.lst (aD r)):=af;have R2:=R1.turn ⟨hm,hmin⟩ rp rr;have s03:=s1.trans s3;generalize upd H1 l (.lst (aD r))=H3 at M3 s3 hl3 s03;refine⟨l,U,⟨_,SqL.of (M3.own.sa _ _ hl3)⟩,?_⟩;refine gO (K:=K) (a:=l) (xs:=aD r) (λi σ G=>(∃v2 v3,σ=[some (.ref C.b),some (.int m),v2,v3])/\(∃u',u'<u/\PlW a H3 C S0 (.giv m (r.drop i)) u' G)) ⟨⟨_,_,U⟩,_,?_,H3,ad1,hd1,lgv1,_,aa.refl _,M3,R2,qe _⟩ ?_ ?_ ?_
 ·show 3 * S1.sp+(bp S1.gv m).length<u;have:=lK hm;omega
 ·rintro i σ G _ ⟨_,u',_,H4,ad4,hd4,lgv4,S4,s4,M4,_⟩;exact SqL.of (M4.own.sa _ _ (s4 _ _ hl3))
 ·rintro i v σ G hi ⟨⟨v2,v3,rfl⟩,u',lu,H4,ad4,hd4,lgv4,S4,s4,M4,R4,u4⟩;unfold aD at hi;rw[qE]at hi;obtain⟨x,hx,rfl⟩:=qP.mp hi
  have ed:r.drop i=x::r.drop (i+1):=by
   have lt:=(qf.mp hx).1;rw[List.drop_eq_getElem_cons lt];rw[qc lt]at hx;cases hx
   rfl
  rw[ed]at R4;have G4:=gd R4;dsimp only[aO];refine⟨_,U,C.b,C.dx,_,U,M4.ob,fg Qy,_,U,_,U,H4,C,ad4,hd4,lgv4,S4,m,x,r.drop (i+1),U,B.same (s03.trans s4),M4,⟨G4.loc,G4.cap.mono Qw⟩,λH5 G5 ad5 lgv5 s5 M5=>?_⟩;refine⟨⟨_,_,U⟩,u',lu,H5,ad5,hd4,lgv5,_,s4.trans s5,M5,R4.give,?_⟩;rw[lF.1,lF.2];exact u4
 rintro σ G ⟨⟨v2,v3,rfl⟩,u',lu,H4,ad4,hd4,lgv4,S4,s4,M4,R4,u4⟩;rw[fh,List.drop_length]at R4;obtain⟨⟨loc4,L4⟩,cp4⟩:=gd R4;have htk:=M4.own.av .tk trivial;have tl:=L4.tr.len;refine⟨_,U,C.b,_,C.dx,_,_,U,M4.ob,T.dz,T.AE,lz8 U,ad4 .tk,S4.tr.map (λj:Nat=>(j:Int)),U,by rw[<- kR];exact SqL.of htk,by rw[q9];omega,λl2 zs2 hl2 perm2 srt2=>?_⟩;dsimp only[aO];obtain⟨r2,er2,rp2,rr2⟩:=oi perm2 srt2;rw[er2];have M5:=M4.earth hl2 (.lst (aD r2));have s5:aa H4 (upd H4 l2 (.lst (aD r2))):=aa.new (aa.none M4.own.sa hl2) _;have hl5:upd H4 l2 (.lst (aD r2)) l2=some (.lst (aD r2)):=af;have R5:=R4.half rp2 rr2;have s05:=s03.trans (s4.trans s5);generalize upd H4 l2 (.lst (aD r2))=H5 at M5 s5 hl5 s05;generalize upd G l2 (.lst (aD r2))=G5 at M5 ⊢;refine⟨qt _,λz hz=>?_⟩;have M6:=M5.newTk hz;have M5u:=M5.up (aa.new hz (.lst []));refine⟨_,U,C.b,_,C.dx,_,U,M5u.ob,T.dz,T.AE,by simp[plN,plV],?_⟩;rw[kG 8 U Qy (by show 8<11;decide)];refine⟨_,U,l2,U,⟨_,SqL.of (M6.own.sa _ _ hl5)⟩,?_⟩;refine gO (K:=K) (a:=l2) (xs:=aD r2) (λi σ G=>(∃v2,σ=[some (.ref C.b),some (.int m),v2,some (.ref l2)])/\PlW a H5 C S0 (.tak m (r2.drop i)) u' G) ⟨⟨_,U⟩,H5,_,hd4,lgv4,_,aa.refl _,M6,R5,u4⟩ ?_ ?_ ?_
 ·rintro i σ G _ ⟨_,H6,ad6,hd6,lgv6,S6,s6,M6,_⟩;exact SqL.of (M6.own.sa _ _ (s6 _ _ hl5))
 ·rintro i v σ G hi ⟨⟨v2',rfl⟩,H6,ad6,hd6,lgv6,S6,s6,M6,R6,u6⟩;unfold aD at hi;rw[qE]at hi;obtain⟨x,hx,rfl⟩:=qP.mp hi
  have ed:r2.drop i=x::r2.drop (i+1):=by
   have lt:=(qf.mp hx).1;rw[List.drop_eq_getElem_cons lt];rw[qc lt]at hx;cases hx
   rfl
  rw[ed]at R6;have G6:=gd R6;dsimp only[aO];refine⟨_,U,C.b,C.dx,_,U,M6.ob,fg Qy,_,U,_,U,H6,C,ad6,hd6,lgv6,S6,m,x,r2.drop (i+1),U,B.same (s05.trans s6),M6,⟨G6.loc,G6.cap.mono Qw⟩,λi' hl H7 G7 s7 M7=>?_,λhl hs H7 G7 s7 M7=>?_,λhl hs H7 G7 ad7 hd7 lgv7 s7 M7=>?_⟩
  ·exact⟨_,U,aJ U ⟨⟨_,U⟩,H7,ad6,hd6,lgv6,_,s6.trans s7,M7,R6.wait hl,u6⟩⟩
  ·exact⟨_,U,bn U ((k H7 G7 ad6 hd6 lgv6 S6 (s05.trans (s6.trans s7)) M7).2 m x _ R6 hl hs)⟩
  ·refine⟨_,U,aJ U ⟨⟨_,U⟩,H7,ad7,hd7,lgv7,_,s6.trans s7,M7,R6.take hl hs,?_⟩⟩;have e2:(aT (C.prt x) C.pace S6 m x).sp=S6.sp-1:=(fy m (aq S6 (C.prt x)) (bH (C.prt x) C.pace S6 m x)).2.1;have e3:=j3 (S:=S6) (r:=C.prt x) (pace:=C.pace) (now:=m) (x:=x);rw[e2];omega
 rintro σ G ⟨⟨v2',rfl⟩,H6,ad6,hd6,lgv6,S6,s6,M6,R6,u6⟩;rw[fh,List.drop_length]at R6;exact⟨⟨_,_,_,U⟩,u',lu,H6,ad6,hd6,lgv6,S6,s05.trans s6,M6,R6.over,u6⟩
section
variable {H0 H:Hp}{D:Rl->Prop}{ad:Rl->Addr}{c:Rl->HO}
open Classical in
theorem be.join(M:be H0 H D ad c){H':Hp}(s:aa H H'){D2:Rl->Prop}{ad2:Rl->Addr}{c2:Rl->HO}(nw:∀r,D2 r->H (ad2 r)=none)(inj:∀r s,D2 r->D2 s->ad2 r=ad2 s->r=s)(av:∀r,D2 r->H' (ad2 r)=some (c2 r)):
 ∃H0',aa H0 H0'/\(∀x o,H x=none->(∀r,D2 r->ad2 r≠x)->H' x=some o->H0' x=some o)/\be H0' H' (λr=>D2 r\/D r) (λr=>if D2 r then ad2 r else ad r) (λr=>if D2 r then c2 r else c r):=by
 have ne:∀r s,D2 r->D s->ad2 r≠ad s:=λr s hr hs z=>by have:=M.av s hs;rw[<- z,nw r hr]at this;cases this
 refine⟨λx=>if(∃r,D2 r/\ad2 r=x)then none else if H x=none then H' x else H0 x,λx o h=>?_,λx o hx hn h=>?_,⟨λx o h=>?_,λr hr=>?_,λr t hr ht e=>?_,λr hr=>?_⟩⟩
 ·show(if(∃r,D2 r/\ad2 r=x)then none else if H x=none then H' x else H0 x)=_;have hx:=M.sa _ _ h;rw[qZ (λ⟨r,hr,e⟩=>by rw[<- e,nw r hr]at hx;cases hx),qZ (by rw[hx];exact λz=>by cases z)];exact h
 ·show(if(∃r,D2 r/\ad2 r=x)then none else if H x=none then H' x else H0 x)=_;rw[qZ (λ⟨r,hr,e⟩=>hn r hr e),Q0 hx];exact h
 ·have h:(if(∃r,D2 r/\ad2 r=x)then none else if H x=none then H' x else H0 x)=some o:=h;split at h
  ·cases h
  split at h
  ·exact h
  ·exact s _ _ (M.sa _ _ h)
 ·show(if(∃t,D2 t/\ad2 t=(if D2 r then ad2 r else ad r))then none else _)=_;by_cases e:D2 r
  ·rw[Q0 e,Q0 ⟨r,e,U⟩]
  ·have hr:=hr.resolve_left e;rw[qZ e,qZ (λ⟨t,ht,z⟩=>ne t r ht hr z),qZ (by rw[M.av r hr];exact λz=>by cases z)];exact M.nw r hr
 ·have e:(if D2 r then ad2 r else ad r)=(if D2 t then ad2 t else ad t):=e;by_cases e1:D2 r
  ·by_cases e2:D2 t
   ·rw[Q0 e1,Q0 e2]at e;exact inj r t e1 e2 e
   ·rw[Q0 e1,qZ e2]at e;exact Q4 e (ne r t e1 (ht.resolve_left e2))
  ·by_cases e2:D2 t
   ·rw[qZ e1,Q0 e2]at e;exact Q4 e.symm (ne t r e2 (hr.resolve_left e1))
   ·rw[qZ e1,qZ e2]at e;exact M.inj r t (hr.resolve_left e1) (ht.resolve_left e2) e
 ·show H' (if D2 r then ad2 r else ad r)=some (if D2 r then c2 r else c r);by_cases e:D2 r
  ·rw[Q0 e,Q0 e];exact av r e
  ·rw[qZ e,qZ e];exact s _ _ (M.av r (hr.resolve_left e))
end
inductive RRs(H:Hp):List V->List PR->Prop
 |nil:RRs H [] []
 |cons {v:V}{vs:List V}{r:PR}{rs:List PR}:RR H v r->RRs H vs rs->RRs H (v::vs) (r::rs)
theorem RRs.same{H H':Hp}(s:aa H H'):∀{vs:List V}{rs:List PR},RRs H vs rs->RRs H' vs rs
 |_,_,.nil=>.nil
 |_,_,.cons a r=>.cons (a.same s) (RRs.same s r)
theorem RRs.len{H:Hp}:∀{vs:List V}{rs:List PR},RRs H vs rs->vs.length=rs.length
 |_,_,.nil=>rfl
 |_,_,.cons _ r=>congrArg (·+1) (RRs.len r)
theorem RRs.at{H:Hp}:∀{vs:List V}{rs:List PR},RRs H vs rs->∀{i:Nat}{v:V},vs[i]?=some v->∃r,rs[i]?=some r/\RR H v r
 |_,_,.nil,i,v,h=>by simp at h
 |_,_,.cons a r,0,v,h=>by cases h;exact⟨_,U,a⟩
 |_,_,.cons a r,i+1,v,h=>RRs.at r (by simpa using h)
def aZ(rs:List PR):Nat->PR:=λx=>rs.getD x (.merge 0 [] [] [])
def bJ(xs:List Ln):Nat->Ln:=λi=>xs.getD i (none,[])
def bE(xs:List Ln)(n most:Nat):PlS:={ st:=λi=>((bJ xs i).2,0),held:=λ_=>[],tks:=λ_=>0,gv:=[(0,[])],tr:=List.range n,wr:=λ_=>[],wt:=λ_=>[],sp:=most,lg:=[] }
structure Ae(a:Adr)(H H1 H':Hp)(b:Addr)(C:PlC)(ad:Rl->Addr)(hd:Nat->Addr)(xs:List Ln)(rs:List PR)(pace:List (List Int))(most:Nat):Prop where
 B:PlB a H1 C
 M:PlH a H1 H' C ad hd [] (bE xs rs.length most)
 b:C.b=b
 prt:C.prt=aZ rs
 ls:C.ls=λi=>(bJ xs i).1
 n:C.n=rs.length
 nl:C.nl=xs.length
 pace:C.pace=pace
 keep:∀q o,q≠C.b->H q=some o->H1 q=some o
inductive o8(a:Adr)(vs:List V)(H:Hp)(Q:VK)(E:XK):Prop
 |mk (b dx ll lp pc:Addr) (us ps pv:List V) (xs:List Ln) (rs:List PR) (pace:List (List Int)) (most:Nat) (h0_:vs=[.ref b,.ref ll,.ref lp,.ref pc,.int most]) (h1_:H b=some (.ins a.f8 dx [])) (h2_:H ll=some (.lst us)) (h3_:RLn H us xs) (h4_:H lp=some (.lst ps)) (h5_:RRs H ps rs) (h6_:H pc=some (.lst pv)) (h7_:RIs H pv pace) (h8_:rs.length<60) (h9_:xs.length<=1000) (h10_:(∀x∈xs,x.2.length<=64)) (h11_:pace.length<=1000) (h12_:(∀r∈pace,r.length<=1000)) (h13_:(∀r∈rs,r.ok/\r.fit xs.length)) (h14_:∀H1 H' C ad hd,Ae a H H1 H' b C ad hd xs rs pace most->Q .non H'):o8 a vs H Q E
theorem be.cong{H0 H:Hp}{D:Rl->Prop}{ad:Rl->Addr}{c:Rl->HO}(M:be H0 H D ad c){D':Rl->Prop}{ad':Rl->Addr}{c':Rl->HO}(h:∀r,D' r->D r/\ad' r=ad r/\c' r=c r):be H0 H D' ad' c':=
 ⟨M.sa,λr hr=>by rw[(h r hr).2.1];exact M.nw r (h r hr).1,λr s hr hs e=>M.inj r s (h r hr).1 (h s hs).1 (by rw[<- (h r hr).2.1,<- (h s hs).2.1];exact e),λr hr=>by rw[(h r hr).2.1,(h r hr).2.2];exact M.av r (h r hr).1⟩
def dM(K G:Hp)(f:Nat->Rl)(D:Rl->Prop)(ad:Rl->Addr)(c:Rl->HO)(i:Nat)(ys:List V):Prop:=∃(ad':Rl->Addr)(c':Rl->HO),ys=(List.range i).map (λj=>V.ref (ad' (f j)))/\(∀r,D r->ad' r=ad r/\c' r=c r)/\(∀j,j<i->c' (f j)=.lst [])/\be K G (λr=>(∃j,j<i/\r=f j)\/D r) ad' c'
theorem dM.start{K G:Hp}{f:Nat->Rl}{D:Rl->Prop}{ad:Rl->Addr}{c:Rl->HO}(M:be K G D ad c):dM K G f D ad c 0 []:=⟨ad,c,U,λ_ _=>⟨U,U⟩,λj h=>Q4 h (Qx _),M.less (λr hr=>hr.resolve_left λ⟨j,h,_⟩=>Qx _ h) λ_ _=>U⟩
theorem dM.step{K G:Hp}{f:Nat->Rl}{D:Rl->Prop}{ad:Rl->Addr}{c:Rl->HO}{i:Nat}{ys:List V}(fi:∀j k,f j=f k->j=k)(fd:∀j,¬ D (f j))(M:dM K G f D ad c i ys){x:Addr}(hx:G x=none):dM K (upd G x (.lst [])) f D ad c (i+1) (ys++[.ref x]):=by
 obtain⟨ad',c',rfl,h1,h2,o⟩:=M;refine⟨at' ad' (f i) x,at' c' (f i) (.lst []),?_,λr hr=>?_,λj hj=>?_,?_⟩
 ·rw[List.range_succ,qO];refine congr (congrArg HAppend.hAppend (List.map_congr_left λj hj=>?_)) ?_
  ·rw[bx λe=>qG (List.mem_range.mp hj) (fi j i e)]
  ·show _=[V.ref (at' ad' (f i) x (f i))];rw[bR]
 ·have ne:r≠f i:=λe=>fd i (e▸hr);rw[bx ne,bx ne];exact h1 r hr
 ·by_cases e:j=i
  ·rw[e,bR]
  ·rw[bx λz=>e (fi j i z)];exact h2 j Qw
 ·refine(o.new (f i) hx (.lst [])).less (λr hr=>?_) λ_ _=>U;rcases hr with⟨j,hj,rfl⟩|hr
  ·by_cases e:j=i
   ·exact .inl (by rw[e])
   ·exact .inr (.inl ⟨j,Qw,U⟩)
  ·exact .inr (.inr hr)
theorem RS.keep{H H':Hp}(e:∀b ys,H b=some (.tup ys)->H' b=some (.tup ys)){v:V}{r:Sd}(h:RS H v r):RS H' v r:=by
 cases h with
 |num a=>exact .num (e _ _ a)
 |thing a=>exact .thing (e _ _ a)
theorem RR.keep{H H':Hp}(e:∀b ys,H b=some (.tup ys)->H' b=some (.tup ys)){v:V}{r:PR}(h:RR H v r):RR H' v r:=by
 cases h with
 |pass a b c d=>exact .pass (e _ _ a) (e _ _ b) (e _ _ c) (e _ _ d)
 |work a b c d=>exact .work (e _ _ a) (e _ _ b) (c.keep e) (d.keep e)
 |choose a b c d=>exact .choose (e _ _ a) (e _ _ b) (e _ _ c) (e _ _ d)
 |merge a b c d=>exact .merge (e _ _ a) (e _ _ b) (e _ _ c) (e _ _ d)
theorem RRs.keep{H H':Hp}(e:∀b ys,H b=some (.tup ys)->H' b=some (.tup ys)):∀{vs:List V}{rs:List PR},RRs H vs rs->RRs H' vs rs
 |_,_,.nil=>.nil
 |_,_,.cons a r=>.cons (a.keep e) (RRs.keep e r)
theorem RIs.keep{H H':Hp}(e:∀b ys,H b=some (.lst ys)->H' b=some (.lst ys)):∀{vs:List V}{xss:List (List Int)},RIs H vs xss->RIs H' vs xss
 |_,_,.nil=>.nil
 |_,_,.cons a r=>.cons (e _ _ a) (RIs.keep e r)
def ly(nl:Nat):Rl->Prop
 |.qo i=>i<nl
 |.ql i=>i<nl
 |.b=>True
 |_=>False
def iH(b:Addr)(qs:List (Addr×Addr×Addr)):Rl->Addr
 |.qo i=>(qs.getD i (b,b,b)).1
 |.ql i=>(qs.getD i (b,b,b)).2.2
 |_=>b
def iG(a:Adr)(b:Addr)(o:HO)(qs:List (Addr×Addr×Addr))(xs:List Ln):Rl->HO
 |.qo i=>.ins a.gt (qs.getD i (b,b,b)).2.1 [("laid",.ref (qs.getD i (b,b,b)).2.2),("gone",.int (0:Nat))]
 |.ql i=>.lst ((bJ xs i).2.map V.int)
 |_=>o
theorem pB{f:Str}{v:V}:∀{l:List (Str×V)},(∀p∈l,p.1≠f)->bu f v l=l++[(f,v)]
 |[],_=>rfl
 |(g,u)::l,h=>by
  rw[bu,qZ (h _ qm),pB λp hp=>h p (qk _ hp)]
  rfl
def obO(a:Adr)(dx:Addr)(k:Nat)(vs:List V):HO:=.ins a.f8 dx ((plN.take k).zip vs)
theorem vU{k:Nat}{f:Str}{v:V}{vs:List V}(hl:vs.length=k)(hf:plN[k]?=some f)(hn:(plN.take k).contains f=false):bu f v ((plN.take k).zip vs)=(plN.take (k+1)).zip (vs++[v]):=by
 have kl:=(qf.mp hf).1;rw[pB λp hp e=>?_,qr,hf,List.zip_append (by rw[qK,hl];omega)]
 ·rfl
 ·have:=(List.of_mem_zip (a:=p.1) (b:=p.2) hp).1;rw[e]at this;rw[List.contains_iff_mem.mpr this]at hn;cases hn
theorem dc{a:Adr}{dx:Addr}{k:Nat}{f:Str}{v:V}{vs ws:List V}(hl:vs.length=k)(hf:plN[k]?=some f)(hn:(plN.take k).contains f=false)(e:vs++[v]=ws):HO.ins a.f8 dx (bu f v ((plN.take k).zip vs))=obO a dx (k+1) ws:=by
 rw[vU hl hf hn,e]
 rfl
theorem di{k:Nat}{vs:List V}:((plN.take k).zip vs).length<1000:=by
 rw[List.length_zip,qK];have:plN.length=11:=U;omega
theorem pX{α β:Type}{l:List α}{d:α}{f:α->β}{n:Nat}(h:l.length=n):l.map f=(List.range n).map λi=>f (l.getD i d):=by
 refine List.ext_getElem? λi=>?_;by_cases hi:i<n
 ·rw[ck hi,qE,qc Qw,qj,qc Qw]
  rfl
 ·rw[Qo (by rw[q9];omega),Qo (by rw[q9,Qd];omega)]
theorem xK(T:Tx P w K mg a):aA P w K mg base CX0 5 a.BS a.BU ["self","lines","parts","pace","most"] (o8 a):=by
 refine T.ER.ok va (λvs H Q E h=>?_) (λcdv A outer s H vs Q E hr h=>?_)
 ·obtain⟨_,_,_,_,_,_,_,_,_,_,_,_,rfl,_⟩:=h
  rfl
 obtain⟨b,dx,ll,lp,pc,us,ps,pv,xs,rs,pace,most,rfl,hb,hll,rln,hlp,rrs,hpc,ris,n60,nl,fl,pl,pb,okr,k⟩:=h
 refine⟨_,(ag (bv (pq 0) (ff T.FP (xx T) (hr.mono Qz) U T.FO T.Eg .nil ay (a8 (pq 1) ae)) U)
  (ag (bv (pq 0) (ci (k:=1) (Nc:=["row"]) (js:=[]) (show aS (am dW) ["self","lines","parts","pace","most"] _ 1 ["row"] []from aS.mk U (by decide +kernel) (by decide +kernel) (by decide +kernel) U (by decide +kernel)) U (cu (pq 2)) (λ_ _ _ _ _=>(aV (i:=0) (show List.Nodup (["row"]:List Str)from by decide +kernel) U Oi)) (λ_ _ _ _ _=>bY) (λ_ _ _ _ _=>(ba (wX T) (hr.mono Qz) U T.EQ T.Df.kp T.EO .nil ay (a8 (pq 0) ae)))) U)
  (ag (bv (pq 0) (pq 3) U)
  (ag (bv (pq 0) (pq 4) U)
  (ag (bv (pq 0) (bz ae) U)
  (ag (bv (pq 0) (ci (k:=1) (Nc:=["part"]) (js:=[]) (show aS (am dW) ["self","lines","parts","pace","most"] _ 1 ["part"] []from aS.mk U (by decide +kernel) (by decide +kernel) (by decide +kernel) U (by decide +kernel)) U (cu (pq 2)) (λ_ _ _ _ _=>(aV (i:=0) (show List.Nodup (["part"]:List Str)from by decide +kernel) U Oi)) (λ_ _ _ _ _=>bY) (λ_ _ _ _ _=>(bz ae))) U)
  (ag (bv (pq 0) (ci (k:=1) (Nc:=["part"]) (js:=[]) (show aS (am dW) ["self","lines","parts","pace","most"] _ 1 ["part"] []from aS.mk U (by decide +kernel) (by decide +kernel) (by decide +kernel) U (by decide +kernel)) U (cu (pq 2)) (λ_ _ _ _ _=>(aV (i:=0) (show List.Nodup (["part"]:List Str)from by decide +kernel) U Oi)) (λ_ _ _ _ _=>bY) (λ_ _ _ _ _=>ac)) U)
  (ag (bv (pq 0) (wx (w5 ac (bz ae) w4) U U (List.cons_ne_nil _ _) Qz) U)
  (ag (bv (pq 0) (wn U U T.Ax U T.wS (bI bX U T.mt Q7 (a8 (pq 2) ae))) U)
  (ag (bv (pq 0) (ci (k:=1) (Nc:=["line"]) (js:=[]) (show aS (am dW) ["self","lines","parts","pace","most"] _ 1 ["line"] []from aS.mk U (by decide +kernel) (by decide +kernel) (by decide +kernel) U (by decide +kernel)) U (cu (pq 1)) (λ_ _ _ _ _=>(aV (i:=0) (show List.Nodup (["line"]:List Str)from by decide +kernel) U Oi)) (λ_ _ _ _ _=>bY) (λ_ _ _ _ _=>(bz ae))) U)
  (ai (bv (pq 0) (ci (k:=1) (Nc:=["line"]) (js:=[]) (show aS (am dW) ["self","lines","parts","pace","most"] _ 1 ["line"] []from aS.mk U (by decide +kernel) (by decide +kernel) (by decide +kernel) U (by decide +kernel)) U (cu (pq 1)) (λ_ _ _ _ _=>(aV (i:=0) (show List.Nodup (["line"]:List Str)from by decide +kernel) U Oi)) (λ_ _ _ _ _=>bY) (λ_ _ _ _ _=>(bz ae))) U)))))))))))),?_⟩
 let K0:Hp:=λc=>if c=b then none else H c
 have k0:∀c o,c≠b->H c=some o->K0 c=some o:=λc o n h=>(qZ n).trans h;have kt:∀c ys,H c=some (.tup ys)->K0 c=some (.tup ys):=λc ys h=>k0 c _ (λz=>by rw[z,hb]at h;cases h) h;have kl:∀c ys,H c=some (.lst ys)->K0 c=some (.lst ys):=λc ys h=>k0 c _ (λz=>by rw[z,hb]at h;cases h) h
 have M0:be K0 H (λr=>r=.b) (λ_=>b) (λ_=>.ins a.f8 dx []):=⟨λc o h=>by
  have h:(if c=b then none else H c)=some o:=h;split at h
  ·cases h
  ·exact h,λ_ _=>Q0 U,λr t hr ht _=>hr.trans ht.symm,λ_ _=>hb⟩
 refine⟨_,U,λy dy hy hdy ny=>?_⟩
 have sy:aa H (upd (upd H dy (.own y)) y (.ins a.ld dy [])):=λc o h=>by
  have n1:c≠y:=λz=>by rw[z,hy]at h;cases h
  have n2:c≠dy:=λz=>by rw[z,hdy]at h;cases h
  rw[aj n1,aj n2];exact h
 refine⟨y,dy,ll,us,xs,U,af,sy _ _ hll,rln.same sy,nl,fl,λH' la lq qs hk ry n2 n1 nq hlq hla=>?_⟩;have s1:aa H H':=λc o h=>hk c o (λz=>by rw[z,hy]at h;cases h) (sy _ _ h)
 have hq:∀i,i<xs.length->qs[i]?=some (qs.getD i (b,b,b)):=λi hi=>by
  have:i<qs.length:=by have:=ry.n;unfold cz at this;rw[q9]at this;omega
  rw[qj,qc this]
  rfl
 have rq:∀i,i<xs.length->RQ a H' (qs.getD i (b,b,b)) ((bJ xs i).2,0):=λi hi=>ry.q i _ _ (hq i hi) (by unfold cz bJ;rw[qE,qj,qc hi];rfl)
 obtain⟨K1,sk1,new1,O1⟩:=M0.join s1 (D2:=λr=>match r with|.qo i=>i<xs.length|.ql i=>i<xs.length|_=>False) (ad2:=iH b qs) (c2:=iG a b (.ins a.f8 dx []) qs xs) (λr hr=>by
  cases r with
  |qo i=>exact aa.none sy (nq _ (qz (hq i hr))).2.2
  |ql i=>exact aa.none sy (nq _ (qz (hq i hr))).1
  |_=>exact Q4 hr id) (λr t hr ht e=>by
  have l1:∀i,i<xs.length->(qs.map λq=>q.1)[i]?=some (qs.getD i (b,b,b)).1:=λi hi=>by rw[qE,hq i hi];rfl
  have l2:∀i,i<xs.length->(qs.map λq=>q.2.2)[i]?=some (qs.getD i (b,b,b)).2.2:=λi hi=>by rw[qE,hq i hi];rfl
  cases r with
  |qo i=>
   cases t with
   |qo j=>exact congrArg Rl.qo ((List.getElem?_inj (qf.mp (l1 i hr)).1 n1).mp (by rw[l1 i hr,l1 j ht];exact congrArg some e))
   |ql j=>
    have h1:=(rq i hr).1;have e:(qs.getD i (b,b,b)).1=(qs.getD j (b,b,b)).2.2:=e;rw[e,(rq j ht).2.1]at h1;cases h1
   |_=>exact Q4 ht id
  |ql i=>
   cases t with
   |ql j=>exact congrArg Rl.ql ((List.getElem?_inj (qf.mp (l2 i hr)).1 n2).mp (by rw[l2 i hr,l2 j ht];exact congrArg some e))
   |qo j=>
    have h1:=(rq j ht).1;have e:(qs.getD i (b,b,b)).2.2=(qs.getD j (b,b,b)).1:=e;rw[<- e,(rq i hr).2.1]at h1;cases h1
   |_=>exact Q4 ht id
  |_=>exact Q4 hr id) (λr hr=>by
  cases r with
  |qo i=>exact(rq i hr).1
  |ql i=>exact(rq i hr).2.1
  |_=>exact Q4 hr id)
 have M1:be K1 H' (ly xs.length) (iH b qs) (iG a b (.ins a.f8 dx []) qs xs):=O1.cong λr hr=>by
  cases r with
  |qo i=>exact⟨.inl hr,(Q0 hr).symm,(Q0 hr).symm⟩
  |ql i=>exact⟨.inl hr,(Q0 hr).symm,(Q0 hr).symm⟩
  |b=>exact⟨.inr U,(qZ id).symm,(qZ id).symm⟩
  |_=>exact Q4 hr id
 have isD:∀c o,H c=none->H' c=some o->(∀i,i<xs.length->(qs.getD i (b,b,b)).1≠c/\(qs.getD i (b,b,b)).2.2≠c)->K1 c=some o:=λc o h1 h2 h3=>new1 c o h1 (λr hr=>by
  cases r with
  |qo i=>exact(h3 i hr).1
  |ql i=>exact(h3 i hr).2
  |_=>exact Q4 hr id) h2
 have ky:=isD y _ hy ry.o λi hi=>⟨(nq _ (qz (hq i hi))).2.1,λz=>(by have h:=(rq i hi).2.1;rw[z,ry.o]at h;cases h)⟩;have kla:=isD la _ (aa.none sy hla.1) ry.w λi hi=>⟨λz=>(by have h:=(rq i hi).1;rw[z,ry.w]at h;cases h),λz=>hla.2 (List.mem_map.mpr ⟨_,qz (hq i hi),z⟩)⟩;have klq:=isD lq _ (aa.none sy hlq.1) ry.l λi hi=>⟨λz=>(by have h:=(rq i hi).1;rw[z,ry.l]at h;cases h),λz=>hlq.2 (List.mem_map.mpr ⟨_,qz (hq i hi),z⟩)⟩;refine⟨U,_,U,b,a.f8,dx,[],U,s1 _ _ hb,T.dz,T.As,by simp,?_⟩;rw[show HO.ins a.f8 dx (bu ("yard":Str) (V.ref y) [])=obO a dx 1 [.ref y]from rfl];have M2:=M1.put .b trivial (obO a dx 1 [.ref y]);change be K1 (upd H' b (obO a dx 1 [.ref y])) _ _ _ at M2;generalize upd H' b (obO a dx 1 [.ref y])=G2 at M2 ⊢;have lp1:=sk1 _ _ (kl _ _ hlp);have rr1:=(rrs.keep kt).same sk1;have pl1:=rrs.len;refine⟨_,U,lp,U,⟨_,SqL.of (M2.sa _ _ lp1)⟩,?_⟩;refine dL (K:=K) (a:=lp) (xs:=ps) (λi ys σ G=>(∃v,σ=[v])/\∃K2,aa K1 K2/\ys.length=i/\(∀j,j<i->∃v,ys[j]?=some v/\RPt a K2 v (aZ rs j))/\be K2 G (ly xs.length) (iH b qs) (at' (iG a b (.ins a.f8 dx []) qs xs) .b (obO a dx 1 [.ref y]))) ⟨⟨_,U⟩,K1,aa.refl _,U,λj h=>Q4 h (Qx _),M2⟩ ?_ (bi (m:=1000) Qw) ?_ ?_ ?_
 ·rintro i ys σ G _ ⟨_,K2,_,e,_⟩;rw[e];exact qe _
 ·rintro i ys σ G ⟨_,K2,s2,_,_,M⟩;exact SqL.of (M.sa _ _ (s2 _ _ lp1))
 ·rintro i v ys σ G hi ⟨⟨v',rfl⟩,K2,s2,e2,r2,M⟩;obtain⟨r,hr2,rr⟩:=rr1.at hi;dsimp only[aO];refine⟨_,U,K2,v,r,U,M.sa,rr.same s2,λG' p sg np f=>?_⟩;obtain⟨K3,s3,new3,M3⟩:=M.more sg;refine⟨⟨_,U⟩,K3,s2.trans s3,by rw[qb,e2];rfl,λj hj=>?_,M3⟩;by_cases e:j=i
  ·refine⟨.ref p,by rw[e,qL Qw,e2,Nat.sub_self];rfl,?_⟩;rw[show aZ rs j=r by unfold aZ;rw[e,qj,hr2];rfl];exact f K3 s3 new3
  ·obtain⟨v,h1,h2⟩:=r2 j Qw;exact⟨v,by rw[Q5 Qw];exact h1,h2.same s3⟩
 rintro ys σ3 G3 ⟨_,K2,s2,yl,dr,M3⟩ dl hdl;have M4:=M3.base hdl (.lst ys);have s4:aa K2 (upd K2 dl (.lst ys)):=aa.new (aa.none M3.sa hdl) _;have hd4:upd K2 dl (.lst ys) dl=some (.lst ys):=af;have dr4:∀j,j<ps.length->∃v,ys[j]?=some v/\RPt a (upd K2 dl (.lst ys)) v (aZ rs j):=λj hj=>let ⟨v,h1,h2⟩:=dr j hj;⟨v,h1,h2.same s4⟩;have sk4:=sk1.trans (s2.trans s4);have s14:=s2.trans s4;generalize upd K2 dl (.lst ys)=K4 at M4 s4 hd4 dr4 sk4 s14;generalize upd G3 dl (.lst ys)=G4 at M4 ⊢;have b4:G4 b=some (obO a dx 1 [.ref y]):=M4.av .b trivial;refine⟨_,U,b,a.f8,dx,_,U,b4,T.dz,T.D4,di,?_⟩;rw[dc (k:=1) (f:="doers") (v:=.ref dl) (vs:=[.ref y]) (ws:=[.ref y,.ref dl]) U U Qy U];have M5:=M4.put .b trivial (obO a dx 2 [.ref y,.ref dl]);change be K4 (upd G4 b (obO a dx 2 [.ref y,.ref dl])) _ _ _ at M5;refine⟨_,U,_,U,b,a.f8,dx,_,U,M5.av .b trivial,T.dz,T.AM,di,?_⟩;rw[dc (k:=2) (f:="pace") (v:=.ref pc) (vs:=[.ref y,.ref dl]) (ws:=[.ref y,.ref dl,.ref pc]) U U Qy U];have M6:=M5.put .b trivial (obO a dx 3 [.ref y,.ref dl,.ref pc]);refine⟨_,U,_,U,b,a.f8,dx,_,U,M6.av .b trivial,T.dz,T.AN,di,?_⟩;rw[dc (k:=3) (f:="spare") (v:=.int most) (vs:=[.ref y,.ref dl,.ref pc]) (ws:=[.ref y,.ref dl,.ref pc,.int most]) U U Qy U];have M7:=M6.put .b trivial (obO a dx 4 [.ref y,.ref dl,.ref pc,.int most]);refine⟨qt _,λlg hlg=>?_⟩;have M8:=M7.new .lg hlg (.lst []);refine⟨_,U,b,a.f8,dx,_,U,M8.av .b (.inr trivial),T.dz,T.AO,di,?_⟩;rw[dc (k:=4) (f:="log") (v:=.ref lg) (vs:=[.ref y,.ref dl,.ref pc,.int most]) (ws:=[.ref y,.ref dl,.ref pc,.int most,.ref lg]) U U Qy U];have M9:=M8.put .b (.inr trivial) (obO a dx 5 [.ref y,.ref dl,.ref pc,.int most,.ref lg]);have lp4:=s14 _ _ lp1
 let D9:Rl->Prop:=λs=>s=.lg\/ly xs.length s
 let ad9:Rl->Addr:=at' (iH b qs) .lg lg
 let c9:Rl->HO:=at' (at' (iG a b (.ins a.f8 dx []) qs xs) .lg (.lst [])) .b (obO a dx 5 [.ref y,.ref dl,.ref pc,.int most,.ref lg])
 have M9:be K4 _ D9 ad9 c9:=M9.less (λ_ h=>h) λr _=>by cases r<;>rfl
 refine⟨_,U,lp,U,⟨_,SqL.of (M9.sa _ _ lp4)⟩,?_⟩;refine dL (K:=K) (a:=lp) (xs:=ps) (λi ys σ G=>(∃v,σ=[v])/\∃(K':Hp)(hd:Nat->Addr),aa K4 K'/\ys=(List.range i).map (λj=>V.ref (hd j))/\(∀j,j<i->K' (hd j)=some (.lst []))/\be K' G D9 ad9 c9) ⟨⟨_,U⟩,K4,λ_=>b,aa.refl _,U,λj h=>Q4 h (Qx _),M9⟩ ?_ (bi (m:=1000) Qw) ?_ ?_ ?_
 ·rintro i ys σ G _ ⟨_,K',hd,_,rfl,_⟩;rw[q9,Qd];exact qe _
 ·rintro i ys σ G ⟨_,K',hd,s',_,_,M⟩;exact SqL.of (M.sa _ _ (s' _ _ lp4))
 ·rintro i v ys σ G hi ⟨⟨v',rfl⟩,K',hd,s',rfl,h',M⟩;refine⟨qt _,λz hz=>⟨⟨_,U⟩,upd K' z (.lst []),put hd i z,s'.trans (aa.new (aa.none M.sa hz) _),?_,λj hj=>?_,M.base hz _⟩⟩
  ·rw[List.range_succ,qO];refine congr (congrArg HAppend.hAppend (List.map_congr_left λj hj=>?_)) ?_
   ·rw[aB (qG (List.mem_range.mp hj))]
   ·show _=[V.ref (put hd i z i)];rw[aK]
  ·by_cases e:j=i
   ·rw[e,aK,af]
   ·rw[aB e];exact aa.new (aa.none M.sa hz) _ _ _ (h' j Qw)
 rintro ys9 σ9 G9 ⟨_,K5,hd,s5,rfl,hh,M10⟩ hl hhl;have M11:=M10.new .hl hhl (.lst ((List.range ps.length).map λj=>V.ref (hd j)));refine⟨_,U,b,a.f8,dx,_,U,M11.av .b (.inr (.inr trivial)),T.dz,T.D5,di,?_⟩;rw[dc (k:=5) (f:="held") (v:=.ref hl) (vs:=[.ref y,.ref dl,.ref pc,.int most,.ref lg]) (ws:=[.ref y,.ref dl,.ref pc,.int most,.ref lg,.ref hl]) U U Qy U];have M12:=M11.put .b (.inr (.inr trivial)) (obO a dx 6 [.ref y,.ref dl,.ref pc,.int most,.ref lg,.ref hl]);have lp5:=s5 _ _ lp4
 let D12:Rl->Prop:=λs=>s=.hl\/D9 s
 let ad12:Rl->Addr:=at' ad9 .hl hl
 let c12:Rl->HO:=at' (at' c9 .hl (.lst ((List.range ps.length).map λj=>V.ref (hd j)))) .b (obO a dx 6 [.ref y,.ref dl,.ref pc,.int most,.ref lg,.ref hl])
 have M12:be K5 _ D12 ad12 c12:=M12;refine⟨_,U,lp,U,⟨_,SqL.of (M12.sa _ _ lp5)⟩,?_⟩;refine dL (K:=K) (a:=lp) (xs:=ps) (λi ys σ G=>(∃v,σ=[v])/\ys=(List.range i).map (λ_=>V.int ((0:Nat):Int))/\be K5 G D12 ad12 c12) ⟨⟨_,U⟩,U,M12⟩ ?_ (bi (m:=1000) Qw) ?_ ?_ ?_
 ·rintro i ys σ G _ ⟨_,rfl,_⟩;rw[q9,Qd];exact qe _
 ·rintro i ys σ G ⟨_,_,M⟩;exact SqL.of (M.sa _ _ lp5)
 ·rintro i v ys σ G hi ⟨⟨v',rfl⟩,rfl,M⟩;exact⟨⟨_,U⟩,by rw[List.range_succ,qO];rfl,M⟩
 rintro ys12 σ12 G12 ⟨_,rfl,M12'⟩ tl htl;have M13:=M12'.new .tl htl (.lst ((List.range ps.length).map λ_=>V.int ((0:Nat):Int)));refine⟨_,U,b,a.f8,dx,_,U,M13.av .b (.inr (.inr (.inr trivial))),T.dz,T.AQ,di,?_⟩;rw[dc (k:=6) (f:="takings") (v:=.ref tl) (vs:=[.ref y,.ref dl,.ref pc,.int most,.ref lg,.ref hl]) (ws:=[.ref y,.ref dl,.ref pc,.int most,.ref lg,.ref hl,.ref tl]) U U Qy U];have M14:=M13.put .b (.inr (.inr (.inr trivial))) (obO a dx 7 [.ref y,.ref dl,.ref pc,.int most,.ref lg,.ref hl,.ref tl])
 let D14:Rl->Prop:=λs=>s=.tl\/D12 s
 let ad14:Rl->Addr:=at' ad12 .tl tl
 let c14:Rl->HO:=at' (at' c12 .tl (.lst ((List.range ps.length).map λ_=>V.int ((0:Nat):Int)))) .b (obO a dx 7 [.ref y,.ref dl,.ref pc,.int most,.ref lg,.ref hl,.ref tl])
 have M14:be K5 _ D14 ad14 c14:=M14;intro gd hgd;refine⟨qt _,λgl hgl=>?_⟩;have M15:=M14.new .gd hgd (.dK []);have M16:=M15.new (.gv 0) hgl (.lst []);have hgd2:=M16.av .gd (.inr (.inl U));refine⟨hgd2,[(.inl 0,.ref gl)],U,by show 1<=15;decide,?_⟩;have M17:=M16.put .gd (.inr (.inl U)) (.dK (fV [] [(.inl 0,.ref gl)]));have hb17:_=some (obO a dx 7 [.ref y,.ref dl,.ref pc,.int most,.ref lg,.ref hl,.ref tl]):=M17.av .b (.inr (.inr (.inr (.inr (.inr trivial)))));refine⟨_,U,b,a.f8,dx,_,U,hb17,T.dz,T.AD,di,?_⟩;rw[dc (k:=7) (f:="givers") (v:=.ref gd) (vs:=[.ref y,.ref dl,.ref pc,.int most,.ref lg,.ref hl,.ref tl]) (ws:=[.ref y,.ref dl,.ref pc,.int most,.ref lg,.ref hl,.ref tl,.ref gd]) U U Qy U];have M18:=M17.put .b (.inr (.inr (.inr (.inr (.inr trivial))))) (obO a dx 8 [.ref y,.ref dl,.ref pc,.int most,.ref lg,.ref hl,.ref tl,.ref gd]);refine⟨_,U,lp,_,U,.inl (SqL.of (M18.sa _ _ lp5)),ps.length,U,Qw,λtk htk=>?_⟩;have M19:=M18.new .tk htk (.lst ((List.range ps.length).map λj:Nat=>V.int j));refine⟨_,U,b,a.f8,dx,_,U,M19.av .b (.inr (.inr (.inr (.inr (.inr (.inr trivial)))))),T.dz,T.AE,di,?_⟩;rw[dc (k:=8) (f:="takers") (v:=.ref tk) (vs:=[.ref y,.ref dl,.ref pc,.int most,.ref lg,.ref hl,.ref tl,.ref gd]) (ws:=[.ref y,.ref dl,.ref pc,.int most,.ref lg,.ref hl,.ref tl,.ref gd,.ref tk]) U U Qy U];have M20:=M19.put .b (.inr (.inr (.inr (.inr (.inr (.inr trivial)))))) (obO a dx 9 [.ref y,.ref dl,.ref pc,.int most,.ref lg,.ref hl,.ref tl,.ref gd,.ref tk])
 let D20:Rl->Prop:=λs=>s=.tk\/s=.gv 0\/s=.gd\/D14 s
 let ad20:Rl->Addr:=at' (at' (at' ad14 .gd gd) (.gv 0) gl) .tk tk
 let c20:Rl->HO:=at' (at' (at' (at' c14 .gd (.dK [(.inl 0,.ref gl)])) (.gv 0) (.lst [])) .tk (.lst ((List.range ps.length).map λj:Nat=>V.int j))) .b (obO a dx 9 [.ref y,.ref dl,.ref pc,.int most,.ref lg,.ref hl,.ref tl,.ref gd,.ref tk])
 have M20:be K5 _ D20 ad20 c20:=M20.less (λ_ h=>h) λr _=>by cases r<;>rfl
 have ll5:=s5 _ _ (s14 _ _ (sk1 _ _ (kl _ _ hll)));have ul:=rln.len;refine⟨_,U,ll,U,⟨_,SqL.of (M20.sa _ _ ll5)⟩,?_⟩;refine dL (K:=K) (a:=ll) (xs:=us) (λi ys σ G=>(∃v,σ=[v])/\dM K5 G Rl.wr D20 ad20 c20 i ys) ⟨⟨_,U⟩,dM.start M20⟩ ?_ (bi (m:=1000) Qw) ?_ ?_ ?_
 ·rintro i ys σ G _ ⟨_,_,_,rfl,_⟩;rw[q9,Qd];exact qe _
 ·rintro i ys σ G ⟨_,_,_,_,_,_,M⟩;exact SqL.of (M.sa _ _ ll5)
 ·rintro i v ys σ G hi ⟨⟨v',rfl⟩,M⟩;exact⟨qt _,λz hz=>⟨⟨_,U⟩,M.step (λj k e=>Rl.wr.inj e) (λj h=>by rcases h with h|h|h|h|h|h|h<;>first|cases h|exact h) hz⟩⟩
 rintro ysR σR GR ⟨_,adR,cR,rfl,eR,fR,MR⟩ wrl hwrl;have M21:=MR.new .wrl hwrl (.lst ((List.range us.length).map λj=>V.ref (adR (.wr j))));have Db:D20 .b:=.inr (.inr (.inr (.inr (.inr (.inr trivial)))));have ebR:adR .b=b:=(eR .b Db).1
 have hb21:upd GR wrl (.lst ((List.range us.length).map λj=>V.ref (adR (.wr j)))) b=some (obO a dx 9 [.ref y,.ref dl,.ref pc,.int most,.ref lg,.ref hl,.ref tl,.ref gd,.ref tk]):=by
  have h:=M21.av .b (.inr (.inr Db));rw[show at' adR .wrl wrl .b=b from ebR,show at' cR .wrl (.lst ((List.range us.length).map λj=>V.ref (adR (.wr j)))) .b=obO a dx 9 [.ref y,.ref dl,.ref pc,.int most,.ref lg,.ref hl,.ref tl,.ref gd,.ref tk]from(eR .b Db).2]at h;exact h
 refine⟨_,U,b,a.f8,dx,_,U,hb21,T.dz,T.AR,di,?_⟩;rw[dc (k:=9) (f:="without_room") (v:=.ref wrl) (vs:=[.ref y,.ref dl,.ref pc,.int most,.ref lg,.ref hl,.ref tl,.ref gd,.ref tk]) (ws:=[.ref y,.ref dl,.ref pc,.int most,.ref lg,.ref hl,.ref tl,.ref gd,.ref tk,.ref wrl]) U U Qy U];have M22:=M21.put .b (.inr (.inr Db)) (obO a dx 10 [.ref y,.ref dl,.ref pc,.int most,.ref lg,.ref hl,.ref tl,.ref gd,.ref tk,.ref wrl]);rw[show at' adR .wrl wrl .b=b from ebR]at M22
 let D22:Rl->Prop:=λs=>s=.wrl\/(∃j,j<us.length/\s=.wr j)\/D20 s
 let ad22:Rl->Addr:=at' adR .wrl wrl
 let c22:Rl->HO:=at' (at' cR .wrl (.lst ((List.range us.length).map λj=>V.ref (adR (.wr j))))) .b (obO a dx 10 [.ref y,.ref dl,.ref pc,.int most,.ref lg,.ref hl,.ref tl,.ref gd,.ref tk,.ref wrl])
 have M22:be K5 _ D22 ad22 c22:=M22;refine⟨_,U,ll,U,⟨_,SqL.of (M22.sa _ _ ll5)⟩,?_⟩;refine dL (K:=K) (a:=ll) (xs:=us) (λi ys σ G=>(∃v,σ=[v])/\dM K5 G Rl.wt D22 ad22 c22 i ys) ⟨⟨_,U⟩,dM.start M22⟩ ?_ (bi (m:=1000) Qw) ?_ ?_ ?_
 ·rintro i ys σ G _ ⟨_,_,_,rfl,_⟩;rw[q9,Qd];exact qe _
 ·rintro i ys σ G ⟨_,_,_,_,_,_,M⟩;exact SqL.of (M.sa _ _ ll5)
 ·rintro i v ys σ G hi ⟨⟨v',rfl⟩,M⟩;exact⟨qt _,λz hz=>⟨⟨_,U⟩,M.step (λj k e=>Rl.wt.inj e) (λj h=>by rcases h with h|⟨_,_,h⟩|h|h|h|h|h|h|h<;>first|cases h|exact h) hz⟩⟩
 rintro ysT σT GT ⟨_,adT,cT,rfl,eT,fT,MT⟩ wtl hwtl;have M23:=MT.new .wtl hwtl (.lst ((List.range us.length).map λj=>V.ref (adT (.wt j))));have Db2:D22 .b:=.inr (.inr Db);have ebT:adT .b=b:=(eT .b Db2).1.trans ebR
 have hb23:upd GT wtl (.lst ((List.range us.length).map λj=>V.ref (adT (.wt j)))) b=some (obO a dx 10 [.ref y,.ref dl,.ref pc,.int most,.ref lg,.ref hl,.ref tl,.ref gd,.ref tk,.ref wrl]):=by
  have h:=M23.av .b (.inr (.inr Db2));rw[show at' adT .wtl wtl .b=b from ebT,show at' cT .wtl (.lst ((List.range us.length).map λj=>V.ref (adT (.wt j)))) .b=obO a dx 10 [.ref y,.ref dl,.ref pc,.int most,.ref lg,.ref hl,.ref tl,.ref gd,.ref tk,.ref wrl]from(eT .b Db2).2]at h;exact h
 refine⟨_,U,b,a.f8,dx,_,U,hb23,T.dz,T.AS,di,?_⟩;rw[dc (k:=10) (f:="without_thing") (v:=.ref wtl) (vs:=[.ref y,.ref dl,.ref pc,.int most,.ref lg,.ref hl,.ref tl,.ref gd,.ref tk,.ref wrl]) (ws:=[.ref y,.ref dl,.ref pc,.int most,.ref lg,.ref hl,.ref tl,.ref gd,.ref tk,.ref wrl,.ref wtl]) U U Qy U];have M24:=M23.put .b (.inr (.inr Db2)) (obO a dx 11 [.ref y,.ref dl,.ref pc,.int most,.ref lg,.ref hl,.ref tl,.ref gd,.ref tk,.ref wrl,.ref wtl]);rw[show at' adT .wtl wtl .b=b from ebT]at M24
 let C:PlC:={ b:=b,dx:=dx,y:=y,dy:=dy,la:=la,lq:=lq,dl:=dl,pc:=pc,dq:=λi=>(qs.getD i (b,b,b)).2.1,qo:=λi=>(qs.getD i (b,b,b)).1,us:=ys,pv:=pv,n:=rs.length,nl:=xs.length,prt:=aZ rs,ls:=λi=>(bJ xs i).1,pace:=pace }
 have eA:∀r,D20 r->r≠.wrl->r≠.wtl->at' adT .wtl wtl r=ad20 r:=λr h n1 n2=>by
  rw[bx n2,(eT r (.inr (.inr h))).1];show at' adR .wrl wrl r=_;rw[bx n1,(eR r h).1]
 have s15:=s14.trans s5;refine k K5 _ C (at' adT .wtl wtl) hd ⟨?_,⟨?_,?_,?_,?_,.nil⟩,U,U,U,U,U,U,?_⟩
 ·refine⟨s15 _ _ ky,?_,?_,s5 _ _ hd4,λx hx=>?_,s15 _ _ (sk1 _ _ (kl _ _ hpc)),((ris.keep kl).same sk1).same s15,λx hx=>?_,n60,nl,pl,pb⟩
  ·rw[s15 _ _ kla,List.map_map];exact congrArg some (congrArg HO.lst (pX (d:=((none,[]):Ln)) U))
  ·rw[s15 _ _ klq];exact congrArg some (congrArg HO.lst (pX (d:=(b,b,b)) (by have:=ry.n;unfold cz at this;rw[q9]at this;exact this)))
  ·obtain⟨v,h1,h2⟩:=dr4 x (by have:x<rs.length:=hx;omega);exact⟨v,h1,h2.same s5⟩
  ·have hx:x<rs.length:=hx;refine okr _ ?_;show rs.getD x _∈rs;rw[qj,qc hx];exact List.getElem_mem hx
 ·have eps:ps.length=rs.length:=pl1;have Dq:∀i,i<xs.length->D20 (.qo i)/\D20 (.ql i):=λi hi=>⟨.inr (.inr (.inr (.inr (.inr (.inr hi))))),.inr (.inr (.inr (.inr (.inr (.inr hi)))))⟩;have D1:D20 .lg/\D20 .hl/\D20 .tl/\D20 .gd/\D20 .tk/\D20 (.gv 0):=⟨.inr (.inr (.inr (.inr (.inr (.inl U))))),.inr (.inr (.inr (.inr (.inl U)))),.inr (.inr (.inr (.inl U))),.inr (.inr (.inl U)),.inl U,.inr (.inl U)⟩
  have eC:∀r,D20 r->r≠.wrl->r≠.wtl->r≠.b->at' (at' cT .wtl (.lst ((List.range us.length).map λj=>V.ref (adT (.wt j))))) .b (obO a dx 11 [.ref y,.ref dl,.ref pc,.int most,.ref lg,.ref hl,.ref tl,.ref gd,.ref tk,.ref wrl,.ref wtl]) r=c20 r:=λr h n1 n2 n3=>by
   rw[bx n3,bx n2,(eT r (.inr (.inr h))).2];show at' (at' cR .wrl _) .b _ r=_;rw[bx n3,bx n1,(eR r h).2]
  have aw:∀i,i<xs.length->at' adT .wtl wtl (.wr i)=adR (.wr i):=λi hi=>(eT (.wr i) (.inr (.inl ⟨i,Qw,U⟩))).1;refine M24.less (λr hr=>?_) (λr hr=>?_)
  ·cases r with
   |b=>exact .inr (.inr Db2)
   |lg=>exact .inr (.inr (.inr (.inr D1.1)))
   |hl=>exact .inr (.inr (.inr (.inr D1.2.1)))
   |tl=>exact .inr (.inr (.inr (.inr D1.2.2.1)))
   |gd=>exact .inr (.inr (.inr (.inr D1.2.2.2.1)))
   |tk=>exact .inr (.inr (.inr (.inr D1.2.2.2.2.1)))
   |wrl=>exact .inr (.inr (.inl U))
   |wtl=>exact .inl U
   |qo i=>exact .inr (.inr (.inr (.inr (Dq i hr).1)))
   |ql i=>exact .inr (.inr (.inr (.inr (Dq i hr).2)))
   |wr i=>exact .inr (.inr (.inr (.inl ⟨i,by have:i<xs.length:=hr;omega,U⟩)))
   |wt i=>exact .inr (.inl ⟨i,by have:i<xs.length:=hr;omega,U⟩)
   |gv k=>
    have e:k=0:=qS.mp hr;rw[e];exact .inr (.inr (.inr (.inr D1.2.2.2.2.2)))
  ·cases r with
   |b=>
    rw[bR];show obO a dx 11 _=plO a C (at' adT .wtl wtl) most;unfold plO plV;rw[eA .lg D1.1 nofun nofun,eA .hl D1.2.1 nofun nofun,eA .tl D1.2.2.1 nofun nofun,eA .gd D1.2.2.2.1 nofun nofun,eA .tk D1.2.2.2.2.1 nofun nofun,bR,show at' adT .wtl wtl .wrl=wrl from(eT .wrl (.inl U)).1]
    rfl
   |lg=>rw[eC .lg D1.1 nofun nofun nofun];rfl
   |hl=>
    rw[eC .hl D1.2.1 nofun nofun nofun];show HO.lst ((List.range ps.length).map _)=HO.lst ((List.range rs.length).map _);rw[eps]
   |tl=>
    rw[eC .tl D1.2.2.1 nofun nofun nofun];show HO.lst ((List.range ps.length).map _)=HO.lst ((List.range rs.length).map _);rw[eps]
    rfl
   |gd=>
    rw[eC .gd D1.2.2.2.1 nofun nofun nofun];show HO.dK [(Sum.inl 0,V.ref gl)]=HO.dK [(Sum.inl 0,V.ref (at' adT .wtl wtl (.gv 0)))];rw[eA (.gv 0) D1.2.2.2.2.2 nofun nofun]
    rfl
   |tk=>
    rw[eC .tk D1.2.2.2.2.1 nofun nofun nofun];show HO.lst ((List.range ps.length).map _)=HO.lst (aD (List.range rs.length));rw[eps]
    rfl
   |wrl=>
    refine((eT .wrl (.inl U)).2).trans ?_;show HO.lst ((List.range us.length).map λj=>V.ref (adR (.wr j)))=HO.lst ((List.range xs.length).map λi=>V.ref (at' adT .wtl wtl (.wr i)));rw[ul];exact congrArg HO.lst (List.map_congr_left λi hi=>by rw[aw i (List.mem_range.mp hi)])
   |wtl=>
    show HO.lst ((List.range us.length).map λj=>V.ref (adT (.wt j)))=HO.lst ((List.range xs.length).map λi=>V.ref (at' adT .wtl wtl (.wt i)));rw[ul]
    rfl
   |qo i=>
    rw[eC (.qo i) (Dq i hr).1 nofun nofun nofun];show HO.ins _ _ [("laid",V.ref (qs.getD i (b,b,b)).2.2),_]=HO.ins _ _ [("laid",V.ref (at' adT .wtl wtl (.ql i))),_];rw[eA (.ql i) (Dq i hr).2 nofun nofun]
    rfl
   |ql i=>rw[eC (.ql i) (Dq i hr).2 nofun nofun nofun];rfl
   |wr i=>
    have hi:i<us.length:=by have:i<xs.length:=hr;omega
    exact((eT (.wr i) (.inr (.inl ⟨i,hi,U⟩))).2).trans (fR i hi)
   |wt i=>
    have hi:i<us.length:=by have:i<xs.length:=hr;omega
    exact fT i hi
   |gv k=>
    have e:k=0:=qS.mp hr;rw[e,eC (.gv 0) D1.2.2.2.2.2 nofun nofun nofun]
    rfl
 ·exact ebT
 ·exact λi hi=>eA (.qo i) (.inr (.inr (.inr (.inr (.inr (.inr hi)))))) nofun nofun
 ·exact λx hx=>⟨[],hh x (by have:x<rs.length:=hx;omega),.nil⟩
 ·exact λq o n h=>s15 _ _ (sk1 _ _ (k0 q o n h))
def dC(xs:List Ln)(rs:List PR)(pace:List (List Int))(most:Nat)(S:PlS):Bool->Prop
 |true=>aX (λi=>(bJ xs i).1) (aZ rs) pace (bE xs rs.length most) .top S/\S.gv=[]
 |false=>∃k x r,aX (λi=>(bJ xs i).1) (aZ rs) pace (bE xs rs.length most) (.tak k (x::r)) S/\cb S (aq S (aZ rs x))=none/\S.sp=0
structure lZ(H H':Hp)(t:Addr)(xs:List Ln)(rs:List PR)(pace:List (List Int))(most:Nat)(S:PlS)(still:Bool)(lg st:Addr)(lgv us:List V):Prop where
 sa:aa H H'
 tp:H' t=some (.tup [.bl still,.ref lg,.ref st])
 hl:H' lg=some (.lst lgv)
 es:REs H' lgv S.lg
 hs:H' st=some (.lst us)
 ri:RIs H' us ((List.range xs.length).map (ax S))
 nd:dC xs rs pace most S still
inductive mP(a:Adr)(vs:List V)(H:Hp)(Q:VK)(E:XK):Prop
 |mk (ll lp:Addr) (v:V) (us ps:List V) (xs:List Ln) (rs:List PR) (pace:List (List Int)) (most:Nat) (h0_:vs=[.ref ll,.ref lp,v,.int most]) (h1_:H ll=some (.lst us)) (h2_:RLn H us xs) (h3_:H lp=some (.lst ps)) (h4_:RRs H ps rs) (h5_:RPc H v pace) (h6_:rs.length<60) (h7_:xs.length<=1000) (h8_:(∀x∈xs,x.2.length<=64)) (h9_:(∀x∈xs,∀n∈x.2,OnW n)) (h10_:pace.length<=1000) (h11_:(∀r∈pace,r.length<=1000)) (h12_:(∀r∈rs,r.ok/\r.fit xs.length)) (h13_:most<=5000) (h14_:∀H' t S still lg st lgv us',lZ H H' t xs rs pace most S still lg st lgv us'->Q (.ref t) H'):mP a vs H Q E
theorem gT.of{C:PlC}{xs:List Ln}{rs:List PR}{pace:List (List Int)}{most:Nat}{S':PlS}{q:Bool->Prop}(h1:C.ls=λi=>(bJ xs i).1)(h2:C.prt=aZ rs)(h3:C.pace=pace)(h:∀b,dC xs rs pace most S' b->q b):gT C (bE xs rs.length most) S' q:=by
 unfold gT;rw[h1,h2,h3];exact⟨λa b=>h true ⟨a,b⟩,λk x r a b c=>h false ⟨k,x,r,a,b,c⟩⟩
theorem lx{C:PlC}{xs:List Ln}{rs:List PR}{most:Nat}(hn:C.n=rs.length)(fl:∀x∈xs,x.2.length<=64)(fo:∀x∈xs,∀n∈x.2,OnW n)(hm:most<=5000):Gd C (bF (bE xs rs.length most)+20) [] (bE xs rs.length most):=by
 have ln:∀i,(bJ xs i).2.length<=64/\∀n∈(bJ xs i).2,OnW n:=λi=>by
  unfold bJ;rw[qj]
  cases h:xs[i]? with
  |none=>exact⟨qt _,λ_ z=>(nomatch z)⟩
  |some x=>exact⟨fl x (qz h),fo x (qz h)⟩
 have eb:bF (bE xs rs.length most)=130 * (3 * most+1):=U;refine⟨⟨λ_=>.tr,⟨⟨List.nodup_range,λx hx=>⟨by rw[hn];exact List.mem_range.mp hx,U⟩⟩,λ_=>.nil,λ_=>.nil,Qq _ _,λkv h=>?_,.nil⟩⟩,⟨λi=>⟨?_,qt _⟩,?_,?_,λi=>(ln i).2,λx _=>⟨λp hp=>(nomatch hp),qt _,List.nodup_nil⟩⟩⟩
 ·rw[qS.mp h];exact .nil
 ·rw[eb];show(bJ xs i).2.length+_<=_;have:=(ln i).1;omega
 ·rw[eb];show 0+_<=_;omega
 ·rw[eb];show 1+_<=_;omega
theorem kO(T:Tx P w K mg a):aA P w K mg base CX0 7 a.C5 a.AB ["lines","parts","pace","most"] (mP a):=by
 refine T.AI.ok je (λvs H Q E h=>?_) (λcdv A outer s H vs Q E hr h=>?_)
 ·obtain⟨_,_,_,_,_,_,_,_,_,rfl,_⟩:=h
  rfl
 obtain⟨ll,lp,v,us,ps,xs,rs,pace,most,rfl,hll,rln,hlp,rrs,rpc,n60,nl,fl,fo,pl,pb,okr,hm,k⟩:=h
 refine⟨_,(ag (aQ (i:=4) je.nd U Oi (ff T.Go (xK T) (hr.mono Qz) U T.Gn T.ES .nil ay (a8 (pq 0) (a8 (pq 1) (a8 (eB (aE gy (pq 2) cS (az _)) (bz ae) (pq 2)) (a8 (pq 3) ae))))))
  (ag (aQ (i:=5) je.nd U Oi (fe (pq 4) T.dz T.Gp (xG T) (hr.mono Qz) T.EU .nil ay))
  (ai (ao (bw (a8 (pq 5) (a8 (aF (pq 4) U) (a8 (fe (aF (pq 4) U) T.wp T.FU (xq T) (hr.mono Qz) T.Es .nil ay) ae)))))))),?_⟩
 have pick:∀Q2:VK,(∀pc pv H2,aa H H2->H2 pc=some (.lst pv)->RIs H2 pv pace->Q2 (.ref pc) H2)->tIf (f6 (tOp kA (eZ 2) (tC V.non))) (ij hG) (eZ 2) (L2.start ["lines","parts","pace","most","playing","still"] [V.ref ll,V.ref lp,v,V.int most]) H Q2:=by
  intro Q2 h;rcases rpc with⟨rfl,rfl⟩|⟨pc,pv,rfl,hpc,ris⟩
  ·exact⟨_,U,U,_,U,bn U ⟨qt _,λz hz=>h z [] _ (aa.new hz _) af .nil⟩⟩
  ·exact⟨_,U,U,_,U,aJ U ⟨_,U,h pc pv H (aa.refl _) hpc ris⟩⟩
 refine⟨_,U,_,U,pick _ λpc pv H2 s2 hpc ris=>⟨_,U,λb dx hb hdx nb=>?_⟩⟩
 have s3:aa H2 (upd (upd H2 dx (.own b)) b (.ins a.f8 dx [])):=λc o h=>by
  have n1:c≠b:=λz=>by rw[z,hb]at h;cases h
  have n2:c≠dx:=λz=>by rw[z,hdx]at h;cases h
  rw[aj n1,aj n2];exact h
 have s23:=s2.trans s3;refine⟨b,dx,ll,lp,pc,us,ps,pv,xs,rs,pace,most,U,af,s23 _ _ hll,rln.same s23,s23 _ _ hlp,rrs.same s23,s3 _ _ hpc,ris.same s3,n60,nl,fl,pl,pb,okr,λK1 H4 C ad hd R=>⟨U,?_⟩⟩;have sK:aa H K1:=λc o h=>R.keep c o (by rw[R.b];intro z;have:=s2 _ _ h;rw[z,hb]at this;cases this) (s23 _ _ h);have eb:=R.b;subst eb;have M:=R.M;have hob:=M.ob;dsimp only[aO];refine⟨_,U,C.b,C.dx,_,U,hob,fg Qy,K1,C,ad,hd,[],_,U,R.B,M,lx R.n fl fo hm,λK5 H5 ad5 hd5 lgv5 S5 s5 M5=>?_⟩;refine gT.of R.ls R.prt R.pace λstill he=>?_;dsimp only[aO];have B5:=R.B.same s5
 have g5:∀i,(S5.st i).2<=(S5.st i).1.length/\(S5.st i).1.length<=10000000:=by
  have ini:=lx (C:=C) (most:=most) R.n fl fo hm;have rg:∀{ph:Ph},aX C.ls C.prt C.pace (bE xs rs.length most) ph S5->GdP C ph S5:=λh=>h.gd R.B.ok R.B.n ini
  cases still with
  |true=>
   have:=(rg (ph:=.top) (by rw[R.ls,R.prt,R.pace];exact he.1)).cap;exact λi=>⟨(this.st i).2,by have:=(this.st i).1;omega⟩
  |false=>
   obtain⟨k',x,r,h1,_⟩:=he;have:=(rg (ph:=.tak k' (x::r)) (by rw[R.ls,R.prt,R.pace];exact h1)).cap;exact λi=>⟨(this.st i).2,by have:=(this.st i).1;omega⟩
 have ry5:=M5.ry B5 g5;have ob5:=M5.ob;refine⟨_,U,_,U,C.b,_,C.dx,_,_,U,ob5,T.dz,T.AO,lz4 U,_,U,C.b,_,C.dx,_,_,U,ob5,T.dz,T.As,lz0 U,C.y,C.dy,_,U,ry5.o,fj Qy,C.y,C.dy,C.la,C.lq,_,_,_,U,ry5,?_,λH6 l us6 s6 nl6 hl6 ri6 an6=>⟨?_,λt ht=>?_⟩⟩
 ·unfold qsP;rw[q9,Qd,R.nl];exact nl
 ·exact(by decide:3<=sizeLine)
 have s7:=aa.new ht (.tup [.bl still,.ref (ad5 .lg),.ref l]);have s57:aa H5 _:=s6.trans s7;have lg5:=M5.own.av .lg trivial;refine k _ t S5 still (ad5 .lg) l lgv5 us6 ⟨sK.trans (s5.trans (M5.own.sa.trans s57)),af,s57 _ _ lg5,(M5.lg.same M5.own.sa).same s57,s7 _ _ hl6,?_,he⟩
 have e:dX (stP C S5)=(List.range xs.length).map (ax S5):=by
  unfold dX stP;rw[List.map_map,R.nl]
  rfl
 exact(e▸ri6).same s7
def cD(f:Nat->List Int):PR->List Int
 |.pass ins _ _=>ins
 |.work ins _ _ _ _=>ins
 |.choose ins _ _ _ _=>ins
 |.merge t o n _=>match f t.toNat with
  |[]=>[t]
  |x::_=>t::(if x=0 then n else o)
theorem gW{S:PlS}:∀r:PR,aq S r=cD (ax S) r
 |.pass ..=>rfl
 |.work ..=>rfl
 |.choose ..=>rfl
 |.merge ..=>rfl
structure WS where
 rows:Nat->List Int
 post:Nat->Option (List (Int×Int))
 due:Nat->Int
 tks:Nat->Nat
 l1:Int
 l2:Int
 l3:Int
def cK(f:Nat->List Int)(hs:List (Int×Int)):Nat->List Int:=hs.foldl (λf p=>put f p.1.toNat (f p.1.toNat++[p.2])) f
def dg(f:Nat->List Int)(hs:List (Int×Int)):Nat->List Int:=hs.foldl (λf p=>put f p.1.toNat (f p.1.toNat).tail) f
def bQ(prt:Nat->PR)(pace:List (List Int))(W:WS)(e:Ent):WS:=
 if e.took then{ rows:=dg W.rows e.hs,post:=put W.post e.part (some ((prt e.part).made (e.hs.map (·.2)))),due:=put W.due e.part (e.now+1+bK pace e.part (W.tks e.part)),tks:=put W.tks e.part (W.tks e.part+1),l1:=e.now,l2:=1,l3:=e.part }
 else{ W with rows:=cK W.rows e.hs,post:=put W.post e.part none,l1:=e.now,l2:=0,l3:=e.part }
def yC(a b c a' b' c':Int):Prop:=a<a'\/(a=a'/\(b<b'\/(b=b'/\c<c')))
structure OkE(n nl:Nat)(ls:Nat->Option Int)(prt:Nat->PR)(W:WS)(e:Ent):Prop where
 now:0<=e.now
 part:e.part<n
 hs:Hs nl e.hs
 sz:∀i,(W.rows i).length<10000000
 lex:yC W.l1 W.l2 W.l3 e.now (if e.took then 1 else 0) e.part
 tk:e.took=true->W.post e.part=none/\e.hs.map (·.1)=cD W.rows (prt e.part)/\(∀p∈e.hs,(W.rows p.1.toNat).head?=some p.2)/\e.hs.length=(prt e.part).wide
 gv:e.took=false->W.post e.part=some e.hs/\W.due e.part<=e.now/\∀p∈e.hs,roomV (ls p.1.toNat) ((W.rows p.1.toNat).length:Int)=true
def d8(n nl:Nat)(ls:Nat->Option Int)(prt:Nat->PR)(pace:List (List Int)):WS->List Ent->Prop
 |_,[]=>True
 |W,e::es=>OkE n nl ls prt W e/\d8 n nl ls prt pace (bQ prt pace W e) es
theorem d8.snoc{n nl:Nat}{ls:Nat->Option Int}{prt:Nat->PR}{pace:List (List Int)}:∀{es:List Ent}{W:WS}{e:Ent},d8 n nl ls prt pace W es->OkE n nl ls prt (es.foldl (bQ prt pace) W) e->d8 n nl ls prt pace W (es++[e])
 |[],_,_,_,h=>⟨h,trivial⟩
 |_::_,_,_,a,h=>⟨a.1,d8.snoc a.2 h⟩
theorem vn{S:PlS}(h:∀i,(S.st i).2<=(S.st i).1.length)(p:Int×Int):ax (ap S p)=put (ax S) p.1.toNat (ax S p.1.toNat++[p.2])/\∀i,((ap S p).st i).2<=((ap S p).st i).1.length:=by
 refine⟨funext λi=>?_,λi=>?_⟩
 ·show(put S.st p.1.toNat _ i).1.drop (put S.st p.1.toNat _ i).2=_;by_cases e:i=p.1.toNat
  ·rw[e,aK,aK];exact List.drop_append_of_le_length (h _)
  ·rw[aB e,aB e];rfl
 ·show(put S.st p.1.toNat _ i).2<=(put S.st p.1.toNat _ i).1.length;by_cases e:i=p.1.toNat
  ·rw[e,aK,qb];exact Nat.le_add_right_of_le (h _)
  ·rw[aB e];exact h i
theorem ke:∀(ps:List (Int×Int)){S:PlS},(∀i,(S.st i).2<=(S.st i).1.length)->ax (ps.foldl ap S)=cK (ax S) ps
 |[],_,_=>rfl
 |p::ps,S,h=>by
  obtain⟨h1,h2⟩:=vn h p;show ax (ps.foldl ap (ap S p))=cK (put (ax S) p.1.toNat (ax S p.1.toNat++[p.2])) ps;rw[ke ps h2,h1]
theorem kc:∀(ws xs:List Int)(f:Nat->List Int×Nat),ws.length=xs.length->(λi=>(bB f ws i).1.drop (bB f ws i).2)=dg (λi=>(f i).1.drop (f i).2) (ws.zip xs)
 |[],_,f,_=>rfl
 |_::_,[],_,h=>by simp at h
 |w::ws,x::xs,f,h=>by
  have e:(λi=>((put f w.toNat ((f w.toNat).1,(f w.toNat).2+1)) i).1.drop ((put f w.toNat ((f w.toNat).1,(f w.toNat).2+1)) i).2)=put (λi=>(f i).1.drop (f i).2) w.toNat ((f w.toNat).1.drop (f w.toNat).2).tail:=funext λi=>by
   show((put f w.toNat ((f w.toNat).1,(f w.toNat).2+1)) i).1.drop ((put f w.toNat ((f w.toNat).1,(f w.toNat).2+1)) i).2=_;by_cases e:i=w.toNat
   ·rw[e,aK,aK,List.tail_drop]
   ·rw[aB e,aB e]
  show(λi=>(bB (put f w.toNat ((f w.toNat).1,(f w.toNat).2+1)) ws i).1.drop (bB (put f w.toNat ((f w.toNat).1,(f w.toNat).2+1)) ws i).2)=dg (put (λi=>(f i).1.drop (f i).2) w.toNat ((f w.toNat).1.drop (f w.toNat).2).tail) (ws.zip xs);rw[kc ws xs _ (by simpa using h),e]
theorem rO:∀(ps:List (Int×Int))(S:PlS),(∀x∈(ps.foldl ap S).tr,x∈S.tr\/∃i,x∈S.wt i)/\∀i,∀x∈(ps.foldl ap S).wt i,x∈S.wt i
 |[],_=>⟨λ_ h=>.inl h,λ_ _ h=>h⟩
 |p::ps,S=>by
  obtain⟨h1,h2⟩:=rO ps (ap S p)
  have e2:∀i,∀x∈(ap S p).wt i,x∈S.wt i:=λi x h=>by
   have h:x∈put S.wt p.1.toNat [] i:=h;by_cases e:i=p.1.toNat
   ·rw[e,aK]at h;cases h
   ·rwa [aB e]at h
  refine⟨λx hx=>?_,λi x hx=>e2 i x (h2 i x hx)⟩;rcases h1 x hx with h|⟨i,h⟩
  ·rcases qh.mp h with h|h
   ·exact .inl h
   ·exact .inr ⟨_,h⟩
  ·exact .inr ⟨i,e2 i x h⟩
theorem lT{g:Gv}{now t:Int}{ps:List Nat}{A:Int->Nat->Prop}(h:∀kv∈g,now<kv.1/\∀x∈kv.2,A kv.1 x)(lt:now<t)(hp:∀x∈ps,A t x):∀kv∈bf g t ps,now<kv.1/\∀x∈kv.2,A kv.1 x:=λkv hk=>by
 rcases kT hk with⟨h',_⟩|⟨h1,h2,_⟩|⟨h1,qs,h2,h3⟩
 ·exact h kv h'
 ·rw[h1,h2];exact⟨lt,hp⟩
 ·rw[h1,h3];refine⟨lt,λx hx=>?_⟩;rcases qh.mp hx with hx|hx
  ·exact(h _ h2).2 x hx
  ·exact hp x hx
theorem lI{now:Int}{A:Int->Nat->Prop}{B:Nat->Prop}(hAB:∀x,B x->A (now+1) x):∀(ws:List Int)(S:PlS),(∀kv∈S.gv,now<kv.1/\∀x∈kv.2,A kv.1 x)->(∀i,∀x∈S.wr i,B x)->(∀kv∈(ws.foldl (bg now) S).gv,now<kv.1/\∀x∈kv.2,A kv.1 x)/\∀i,∀x∈(ws.foldl (bg now) S).wr i,B x
 |[],_,h1,h2=>⟨h1,h2⟩
 |w::ws,S,h1,h2=>by
  refine lI hAB ws (bg now S w) (lT h1 Qw λx hx=>hAB x (h2 _ x hx)) λi x hx=>?_;have hx:x∈put S.wr w.toNat [] i:=hx;by_cases e:i=w.toNat
  ·rw[e,aK]at hx;cases hx
  ·rw[aB e]at hx;exact h2 i x hx
theorem oQ{pace:List (List Int)}(h:∀r∈pace,∀x∈r,0<=x)(x k:Nat):0<=bK pace x k:=by
 unfold bK;split
 ·exact Int.le_refl _
 ·show 0<=(if(pace.getD (x % pace.length) []).length=0 then 0 else(pace.getD (x % pace.length) []).getD (k % (pace.getD (x % pace.length) []).length) 0);split
  ·exact Int.le_refl _
  ·rename_i n1 n2;have l1:x % pace.length<pace.length:=Nat.mod_lt _ Qw;have e1:pace.getD (x % pace.length) []=pace[x % pace.length]:=by rw[qj,qc l1];rfl
   rw[e1]at n2 ⊢;have l2:k % (pace[x % pace.length]).length<(pace[x % pace.length]).length:=Nat.mod_lt _ Qw;rw[qj,qc l2];exact h _ (List.getElem_mem l1) _ (List.getElem_mem l2)
structure Sim(W:WS)(now:Int)(S:PlS):Prop where
 rows:W.rows=ax S
 tks:W.tks=S.tks
 tr:∀x∈S.tr,W.post x=none
 wt:∀i,∀x∈S.wt i,W.post x=none
 gv:∀kv∈S.gv,now<kv.1/\∀x∈kv.2,W.post x=some (S.held x)/\W.due x<=kv.1
 wr:∀i,∀x∈S.wr i,W.post x=some (S.held x)/\W.due x<=now
def cw(xs:List Ln):WS:={ rows:=λi=>(bJ xs i).2,post:=λ_=>none,due:=λ_=>0,tks:=λ_=>0,l1:=0,l2:=0,l3:=-1 }
def au(es:List Ent):Nat:=(es.filter λe=>e.took).length
def m9(W:WS)(S:PlS):Ph->Prop
 |.top=>∃now,Sim W now S/\-1<=now/\∀k∈aN S.gv,W.l1<k\/(W.l1=k/\W.l2=0/\W.l3=-1)
 |.giv k r=>Sim W k S/\0<=k/\dB r/\(∀x∈r,W.post x=some (S.held x)/\W.due x<=k)/\(W.l1<k\/(W.l1=k/\W.l2=0/\∀x∈r,W.l3<x))
 |.tak k r=>Sim W k S/\0<=k/\dB r/\(∀x∈r,W.post x=none)/\(W.l1<k\/(W.l1=k/\(W.l2=0\/(W.l2=1/\∀x∈r,W.l3<x))))
theorem Sim.as{W:WS}{now now':Int}{S S':PlS}(I:Sim W now S)(e1:S'.st=S.st)(e2:S'.tks=S.tks)(e3:S'.held=S.held)(tr:∀x∈S'.tr,W.post x=none)(wt:∀i,∀x∈S'.wt i,W.post x=none)(gv:∀kv∈S'.gv,now'<kv.1/\∀x∈kv.2,W.post x=some (S'.held x)/\W.due x<=kv.1)(wr:∀i,∀x∈S'.wr i,W.post x=some (S'.held x)/\W.due x<=now'):Sim W now' S':=
 ⟨I.rows.trans (by unfold ax;rw[e1]),I.tks.trans e2.symm,tr,wt,gv,wr⟩
theorem kg{n:Nat}{loc:Nat->Loc}{x:Nat}{r:List Nat}{S:PlS}(I:aU n loc (x::r) S)(rs:dB (x::r)):∀y∈r,x<y:=λy hy=>by
 have h1:=List.rel_of_pairwise_cons rs hy;have h2:x≠y:=λz=>I.not.2.2 (z▸hy);omega
theorem aX.sim{C:PlC}(okC:∀x,x<C.n->(C.prt x).ok/\(C.prt x).fit C.nl)(n60:C.n<60)(nn:∀r∈C.pace,∀x∈r,0<=x){xs:List Ln}{most:Nat}(g0:Gd C (bF (bE xs C.n most)+20) [] (bE xs C.n most)){ph:Ph}{S:PlS}(h:aX C.ls C.prt C.pace (bE xs C.n most) ph S):d8 C.n C.nl C.ls C.prt C.pace (cw xs) S.lg/\m9 (S.lg.foldl (bQ C.prt C.pace) (cw xs)) S ph/\au S.lg+S.sp=most:=by
 induction h with
 |base=>
  refine⟨trivial,⟨-1,⟨U,U,λ_ _=>U,λ_ _ h=>(nomatch h),λkv h=>?_,λ_ _ h=>(nomatch h)⟩,by omega,λk hk=>?_⟩,Nat.zero_add _⟩
  ·rw[qS.mp h];exact⟨by show(-1:Int)<0;decide,λ_ h=>(nomatch h)⟩
  ·rw[qS.mp hk];exact .inr ⟨U,U,U⟩
 |@turn S k r h hk p rs ih=>
  obtain⟨w,⟨now,I,m1,ll⟩,c⟩:=ih;have fk:=fX hk.1;have nk:=I.gv _ fk;refine⟨w,⟨I.as U U U I.tr I.wt (λkv hv=>?_) (λi x hx=>?_),by have:now<k:=nk.1;omega,rs,λx hx=>nk.2 x (p.mem_iff.mp hx),?_⟩,c⟩
  ·have hv:=List.mem_filter.mp hv;have ne:kv.1≠k:=Qc hv.2;have le:=hk.2 kv.1 (List.mem_map.mpr ⟨kv,hv.1,U⟩);exact⟨Qw,(I.gv kv hv.1).2⟩
  ·have:=I.wr i x hx;exact⟨this.1,by have:=this.2;have:now<k:=nk.1;omega⟩
  ·rcases ll k hk.1 with z|⟨z1,z2,z3⟩
   ·exact .inl z
   ·exact .inr ⟨z1,z2,λx _=>by show(S.lg.foldl (bQ C.prt C.pace) (cw xs)).l3<x;rw[z3];omega⟩
 |@give S k x r h ih=>
  obtain⟨w,⟨I,k0,rs,rm,ll⟩,c⟩:=ih;obtain⟨⟨loc,L⟩,cp⟩:=h.gd okC n60 g0;have hx:=L.not.2.1;have lt:=kg L rs;have px:=rm x qm;unfold bD;split
  ·rename_i q hq;refine⟨w,⟨I.as U U U I.tr I.wt I.gv (λi y hy=>?_),k0,rs.of_cons,λy hy=>rm y (qk _ hy),ll.imp id λz=>⟨z.1,z.2.1,λy hy=>z.2.2 y (qk _ hy)⟩⟩,c⟩;have hy:y∈put S.wr q.1.toNat (S.wr q.1.toNat++[x]) i:=hy;by_cases e:i=q.1.toNat
   ·rw[e,aK]at hy;rcases qh.mp hy with hy|hy
    ·exact I.wr _ y hy
    ·rw[qS.mp hy];exact px
   ·rw[aB e]at hy;exact I.wr i y hy
  ·rename_i hq;have hq:=List.find?_eq_none.mp hq;obtain⟨e1,e2,e3,e4,e5,e6⟩:=eI (S.held x) S;obtain⟨m1,m2⟩:=rO (S.held x) S;have hh:=cp.hn x hx
   have el:(cy S k x).lg=S.lg++[⟨k,x,false,S.held x⟩]:=by
    show((S.held x).foldl ap S).lg++_=_;rw[e3]
   have le:∀i,(S.st i).2<=(S.st i).1.length:=λi=>(cp.st i).2
   have sz:∀i,((S.lg.foldl (bQ C.prt C.pace) (cw xs)).rows i).length<10000000:=λi=>by
    rw[I.rows];unfold ax;rw[qY];have:=(cp.st i).1;omega
   have ok:OkE C.n C.nl C.ls C.prt (S.lg.foldl (bQ C.prt C.pace) (cw xs)) ⟨k,x,false,S.held x⟩:=by
    refine⟨k0,hx,⟨hh.1,hh.2.1,hh.2.2⟩,sz,?_,nofun,λ_=>⟨px.1,px.2,λp hp=>?_⟩⟩
    ·rcases ll with z|⟨z1,z2,z3⟩
     ·exact .inl z
     ·exact .inr ⟨z1,.inr ⟨z2,z3 x qm⟩⟩
    ·have:=hq p hp;rw[I.rows];unfold roomF at this
     have e:((ax S p.1.toNat).length:Int)=((S.st p.1.toNat).1.length:Int)-(S.st p.1.toNat).2:=by
      unfold ax;rw[qY];have:=le p.1.toNat;omega
     rw[e];simpa using this
   rw[el,List.foldl_append];refine⟨w.snoc ok,?_,?_⟩
   ·generalize hW:S.lg.foldl (bQ C.prt C.pace) (cw xs)=W at I rm ll;show m9 { W with rows:=cK W.rows (S.held x),post:=put W.post x none,l1:=k,l2:=0,l3:=x } (cy S k x) (.giv k r);have oth:∀{l:Loc}{ys:List Nat},OnL C.n loc l ys->l≠.rem->∀y∈ys,put W.post x none y=W.post y:=λh1 h2 y hy=>aB λz=>L.notin h1 h2 (z▸hy);refine⟨⟨?_,?_,λy hy=>?_,λi y hy=>?_,λkv hv=>?_,λi y hy=>?_⟩,k0,rs.of_cons,λy hy=>?_,.inr ⟨U,U,λy hy=>by have:=lt y hy;show(x:Int)<y;omega⟩⟩
    ·show cK W.rows (S.held x)=ax ((S.held x).foldl ap S);rw[ke _ le,I.rows]
    ·show W.tks=((S.held x).foldl ap S).tks;rw[e5];exact I.tks
    ·show put W.post x none y=none;rcases qh.mp hy with hy|hy
     ·rcases m1 y hy with hy|⟨i,hy⟩
      ·rw[oth L.tr nofun y hy];exact I.tr y hy
      ·rw[oth (L.wt i) nofun y hy];exact I.wt i y hy
     ·rw[qS.mp hy];exact aK
    ·show put W.post x none y=none;rw[oth (L.wt i) nofun y (m2 i y hy)];exact I.wt i y (m2 i y hy)
    ·have hv:kv∈((S.held x).foldl ap S).gv:=hv;rw[e1]at hv;refine⟨(I.gv kv hv).1,λy hy=>?_⟩;show put W.post x none y=some (((S.held x).foldl ap S).held y)/\W.due y<=kv.1;rw[oth (L.gv kv hv) nofun y hy,e4];exact(I.gv kv hv).2 y hy
    ·have hy:y∈((S.held x).foldl ap S).wr i:=hy;rw[e6]at hy;show put W.post x none y=some (((S.held x).foldl ap S).held y)/\W.due y<=k;rw[oth (L.wr i) nofun y hy,e4];exact I.wr i y hy
    ·show put W.post x none y=some (((S.held x).foldl ap S).held y)/\W.due y<=k;rw[aB λz:y=x=>L.not.2.2 (z▸hy),e4];exact rm y (qk _ hy)
   ·show au (S.lg++[⟨k,x,false,S.held x⟩])+((S.held x).foldl ap S).sp=most;unfold au;rw[e2,Qr];simpa[au]using c
 |@half S k r h p rs ih=>
  obtain⟨w,⟨I,k0,_,_,ll⟩,c⟩:=ih;refine⟨w,⟨I.as U U U (λ_ h=>(nomatch h)) I.wt I.gv I.wr,k0,rs,λx hx=>I.tr x (p.mem_iff.mp hx),ll.imp id λz=>⟨z.1,.inl z.2.1⟩⟩,c⟩
 |@wait S k i x r h hl ih=>
  obtain⟨w,⟨I,k0,rs,rm,ll⟩,c⟩:=ih;refine⟨w,⟨I.as U U U I.tr (λj y hy=>?_) I.gv I.wr,k0,rs.of_cons,λy hy=>rm y (qk _ hy),ll.imp id λz=>⟨z.1,z.2.imp id λz=>⟨z.1,λy hy=>z.2 y (qk _ hy)⟩⟩⟩,c⟩;have hy:y∈put S.wt i.toNat (S.wt i.toNat++[x]) j:=hy;by_cases e:j=i.toNat
  ·rw[e,aK]at hy;rcases qh.mp hy with hy|hy
   ·exact I.wt _ y hy
   ·rw[qS.mp hy];exact rm x qm
  ·rw[aB e]at hy;exact I.wt j y hy
 |@take S k x r h hl hs ih=>
  obtain⟨w,⟨I,k0,rs,rm,ll⟩,c⟩:=ih;obtain⟨⟨loc,L⟩,cp⟩:=h.gd okC n60 g0;have hx:=L.not.2.1;have lt:=kg L rs;have px:=rm x qm;have okx:=okC x hx;have ww:=iY okx.1 hl;obtain⟨e1,e2,e3,e4,e5,e6,e7⟩:=fy k (aq S (C.prt x)) (bH (C.prt x) C.pace S k x);have el:(aT (C.prt x) C.pace S k x).lg=S.lg++[⟨k,x,true,(aq S (C.prt x)).zip ((aq S (C.prt x)).map (aR S))⟩]:=e3;have z1:((aq S (C.prt x)).zip ((aq S (C.prt x)).map (aR S))).map (·.1)=aq S (C.prt x):=List.map_fst_zip (by rw[q9];exact qe _);have z2:((aq S (C.prt x)).zip ((aq S (C.prt x)).map (aR S))).map (·.2)=(aq S (C.prt x)).map (aR S):=List.map_snd_zip (by rw[q9];exact qe _)
  have sz:∀i,((S.lg.foldl (bQ C.prt C.pace) (cw xs)).rows i).length<10000000:=λi=>by
   rw[I.rows];unfold ax;rw[qY];have:=(cp.st i).1;omega
  have ok:OkE C.n C.nl C.ls C.prt (S.lg.foldl (bQ C.prt C.pace) (cw xs)) ⟨k,x,true,(aq S (C.prt x)).zip ((aq S (C.prt x)).map (aR S))⟩:=by
   refine⟨k0,hx,Hs.zip (j0 okx.2) (mr okx.1) (mD cp hl),sz,?_,λ_=>⟨px,?_,λp hp=>?_,?_⟩,nofun⟩
   ·rcases ll with z|⟨z1,z⟩
    ·exact .inl z
    ·refine .inr ⟨z1,?_⟩;rcases z with z|⟨z2,z3⟩
     ·exact .inl (by rw[z];show(0:Int)<1;decide)
     ·exact .inr ⟨z2,z3 x qm⟩
   ·rw[I.rows,<- gW];exact z1
   ·rw[I.rows]
    have hp':p.2=aR S p.1/\p.1∈aq S (C.prt x):=by
     obtain⟨i,hi,e⟩:=List.mem_iff_getElem.mp hp;rw[<- e,List.getElem_zip,List.getElem_map];exact⟨U,List.getElem_mem _⟩
    have:=List.find?_eq_none.mp hl p.1 hp'.2;rw[hp'.1];unfold aR
    cases hr:ax S p.1.toNat with
    |nil=>rw[hr]at this;exact Q4 U this
    |cons a as=>rfl
   ·show((aq S (C.prt x)).zip ((aq S (C.prt x)).map (aR S))).length=_;rw[List.length_zip,q9,Nat.min_self];exact ww
  rw[el,List.foldl_append];refine⟨w.snoc ok,?_,?_⟩
  ·generalize hW:S.lg.foldl (bQ C.prt C.pace) (cw xs)=W at I rm ll;show m9 { rows:=dg W.rows ((aq S (C.prt x)).zip ((aq S (C.prt x)).map (aR S))),post:=put W.post x (some ((C.prt x).made (((aq S (C.prt x)).zip ((aq S (C.prt x)).map (aR S))).map (·.2)))),due:=put W.due x (k+1+bK C.pace x (W.tks x)),tks:=put W.tks x (W.tks x+1),l1:=k,l2:=1,l3:=x } (aT (C.prt x) C.pace S k x) (.tak k r);rw[z2];have rn:=oQ nn x (S.tks x);have oth:∀{l:Loc}{ys:List Nat},OnL C.n loc l ys->l≠.rem->∀y∈ys,y≠x:=λh1 h2 y hy z=>L.notin h1 h2 (z▸hy);have eh:(aT (C.prt x) C.pace S k x).held=put S.held x ((C.prt x).made ((aq S (C.prt x)).map (aR S))):=e4
   have fk:=lI (now:=k) (A:=λj y=>put W.post x (some ((C.prt x).made ((aq S (C.prt x)).map (aR S)))) y=some ((aT (C.prt x) C.pace S k x).held y)/\put W.due x (k+1+bK C.pace x (W.tks x)) y<=j) (B:=λy=>put W.post x (some ((C.prt x).made ((aq S (C.prt x)).map (aR S)))) y=some ((aT (C.prt x) C.pace S k x).held y)/\put W.due x (k+1+bK C.pace x (W.tks x)) y<=k) (λy hy=>⟨hy.1,by have:=hy.2;omega⟩) (aq S (C.prt x)) (bH (C.prt x) C.pace S k x) (by
    refine lT (t:=k+1+bK C.pace x (S.tks x)) (ps:=[x]) (A:=λj y=>put W.post x (some ((C.prt x).made ((aq S (C.prt x)).map (aR S)))) y=some ((aT (C.prt x) C.pace S k x).held y)/\put W.due x (k+1+bK C.pace x (W.tks x)) y<=j) (λkv hv=>⟨(I.gv kv hv).1,λy hy=>?_⟩) Qw λy hy=>?_
    ·have ne:=oth (L.gv kv hv) nofun y hy
     rw[eh,aB ne,aB ne,aB ne];exact(I.gv kv hv).2 y hy
    ·rw[qS.mp hy,eh,aK,aK,aK]
     exact⟨U,by rw[I.tks];exact Int.le_refl _⟩) (λi y hy=>by
    have ne:=oth (L.wr i) nofun y hy
    rw[eh,aB ne,aB ne,aB ne]
    exact I.wr i y hy)
   refine⟨⟨?_,?_,λy hy=>?_,λi y hy=>?_,fk.1,fk.2⟩,k0,rs.of_cons,λy hy=>?_,.inr ⟨U,.inr ⟨U,λy hy=>by have:=lt y hy;show(x:Int)<y;omega⟩⟩⟩
   ·show dg W.rows _=λi=>((aT (C.prt x) C.pace S k x).st i).1.drop ((aT (C.prt x) C.pace S k x).st i).2;unfold aT;rw[e1];rw[show(bH (C.prt x) C.pace S k x).st=bB S.st (aq S (C.prt x))from rfl,kc _ ((aq S (C.prt x)).map (aR S)) _ (by rw[q9]),I.rows]
    rfl
   ·show put W.tks x (W.tks x+1)=(aT (C.prt x) C.pace S k x).tks;unfold aT;rw[e5,I.tks]
    rfl
   ·have hy:y∈(aT (C.prt x) C.pace S k x).tr:=hy;unfold aT at hy;rw[e6]at hy;show put W.post x _ y=none;rw[aB (oth L.tr nofun y hy)];exact I.tr y hy
   ·have hy:y∈(aT (C.prt x) C.pace S k x).wt i:=hy;unfold aT at hy;rw[e7]at hy;show put W.post x _ y=none;rw[aB (oth (L.wt i) nofun y hy)];exact I.wt i y hy
   ·show put W.post x _ y=none;rw[aB λz:y=x=>L.not.2.2 (z▸hy)];exact rm y (qk _ hy)
  ·show au (S.lg++[_])+(aT (C.prt x) C.pace S k x).sp=most;unfold aT;rw[e2];show au (S.lg++[_])+(S.sp-1)=most;unfold au at c ⊢;rw[Qr,qb];show _+1+_=_;omega
 |@over S k h ih=>
  obtain⟨w,⟨I,k0,_,_,ll⟩,c⟩:=ih;refine⟨w,⟨k,I,Qw,λj hj=>.inl ?_⟩,c⟩;obtain⟨kv,hv,rfl⟩:=List.mem_map.mp hj;have:=(I.gv kv hv).1;rcases ll with z|z<;>omega
inductive Shp:Nat->PyData->Prop
 |non (n:Nat):Shp n .none
 |int (n:Nat) (i:Int):Shp n (.int i)
 |bl (n:Nat) (b:Bool):Shp n (.bool b)
 |str (n:Nat) {s:Str}:PyData.strOk s=true->Shp n (.str s)
 |lst {n:Nat}{ds:List PyData}:(∀d∈ds,Shp n d)->Shp (n+1) (.list ds)
 |tup {n:Nat}{ds:List PyData}:(∀d∈ds,Shp n d)->Shp (n+1) (.tuple ds)
theorem Shp.up{n:Nat}{d:PyData}(h:Shp n d):Shp (n+1) d:=by
 induction h with
 |non n=>exact .non _
 |int n i=>exact .int _ _
 |bl n b=>exact .bl _ _
 |str n h=>exact .str _ h
 |lst _ ih=>exact .lst ih
 |tup _ ih=>exact .tup ih
theorem l6:∀{ds:List PyData},(∀d∈ds,PyData.canLay0 d=true)->PyData.canLayAll0 ds=true
 |[],_=>by simp[PyData.canLayAll0]
 |d::ds,h=>by simp[PyData.canLayAll0,h d qm,l6 λe he=>h e (qk _ he)]
theorem lN{n:Nat}:∀{ds:List PyData},(∀d∈ds,PyData.depth d<=n)->PyData.depthAll ds<=n
 |[],_=>by simp[PyData.depthAll]
 |d::ds,h=>by
  have h1:=h d qm;have h2:=lN (ds:=ds) λe he=>h e (qk _ he);simp[PyData.depthAll];omega
theorem Shp.lay{n:Nat}{d:PyData}(h:Shp n d):PyData.canLay0 d=true/\PyData.depth d<=n+1:=by
 induction h with
 |non n=>exact⟨by simp[PyData.canLay0],by simp[PyData.depth]⟩
 |int n i=>exact⟨by simp[PyData.canLay0],by simp[PyData.depth]⟩
 |bl n b=>exact⟨by simp[PyData.canLay0],by simp[PyData.depth]⟩
 |str n h=>exact⟨by simp[PyData.canLay0,h],by simp[PyData.depth]⟩
 |lst h ih=>
  have h1:=l6 λd hd=>(ih d hd).1;have h2:=lN λd hd=>(ih d hd).2;exact⟨by simp[PyData.canLay0,h1],by simp[PyData.depth];omega⟩
 |tup h ih=>
  have h1:=l6 λd hd=>(ih d hd).1;have h2:=lN λd hd=>(ih d hd).2;exact⟨by simp[PyData.canLay0,h1],by simp[PyData.depth];omega⟩
theorem Shp.shaped{n:Nat}{d:PyData}(h:Shp n d)(le:n<=9):SeqAt.shaped d=true:=by
 obtain⟨h1,h2⟩:=h.lay;unfold SeqAt.shaped;simp[h1];omega
theorem iP{n:Nat}{d:PyData}(h:Shp n d)(le:n<=9):PyData.eqv d d=true:=SeqAt.eqv_refl _ (SeqAt.canLay_of_shaped (h.shaped le))
theorem gP{K:W.Frag}{H:Hp}:∀xs:List Int,cF K H (xs.map V.int) (xs.map PyData.int)
 |[]=>.nil
 |x::r=>.cons (.int x) (gP r)
theorem gn{n:Nat}(xs:List Int):∀d∈xs.map PyData.int,Shp n d:=λd hd=>by
 obtain⟨x,_,rfl⟩:=List.mem_map.mp hd;exact .int _ _
theorem RPs.dt{K:W.Frag}{H:Hp}:∀{vs:List V}{ps:List (Int×Int)},RPs H vs ps->cF K H vs (ps.map λp=>.tuple [.int p.1,.int p.2])
 |_,_,.nil=>.nil
 |_,_,.cons h r=>.cons (.tup (SqT.of h) (.cons (.int _) (.cons (.int _) .nil))) (RPs.dt r)
theorem uB(ps:List (Int×Int)):Shp 2 (.list (ps.map λp=>.tuple [.int p.1,.int p.2])):=.lst λd hd=>by
 obtain⟨p,_,rfl⟩:=List.mem_map.mp hd;exact .tup (gn [p.1,p.2])
theorem RIs.dt{K:W.Frag}{H:Hp}:∀{vs:List V}{xss:List (List Int)},RIs H vs xss->cF K H vs (xss.map λxs=>.list (xs.map PyData.int))
 |_,_,.nil=>.nil
 |_,_,.cons h r=>.cons (.lst (SqL.of h) (gP _)) (RIs.dt r)
theorem oo(xss:List (List Int)):Shp 2 (.list (xss.map λxs=>.list (xs.map PyData.int))):=.lst λd hd=>by
 obtain⟨xs,_,rfl⟩:=List.mem_map.mp hd;exact .lst (gn xs)
theorem RLn.dt{K:W.Frag}{H:Hp}:∀{vs:List V}{xs:List Ln},RLn H vs xs->∃ds,cF K H vs ds/\∀d∈ds,Shp 2 d
 |_,_,.nil=>⟨[],.nil,λ_ h=>(nomatch h)⟩
 |_,_,.cons (x:=x) a b r=>by
  obtain⟨ds,h1,h2⟩:=RLn.dt (K:=K) r
  have hl:∃d,Dt K H (cU x.1) d/\Shp 1 d:=by
   cases x.1 with
   |none=>exact⟨_,.non,.non _⟩
   |some n=>exact⟨_,.int n,.int _ _⟩
  obtain⟨d,hd,sd⟩:=hl;refine⟨_,.cons (.tup (SqT.of a) (.cons hd (.cons (.tup (SqT.of b) (gP _)) .nil))) h1,λe he=>?_⟩;rcases qu.mp he with rfl|he
  ·refine .tup λe he=>?_;rcases qu.mp he with rfl|he
   ·exact sd
   ·rw[qS.mp he];exact .tup (gn _)
  ·exact h2 e he
def PR.sgOk:PR->Prop
 |.work _ _ sg _ _=>PyData.strOk sg=true
 |_=>True
theorem uz(i:Int):PyData.strOk ⟨#[("+-*/<=&|^":Str).cps.toList.getD (i % 9).toNat 0]⟩=true:=by
 have h:(i % 9).toNat<9:=Qw;have all:∀k:Nat,k<9->PyData.strOk ⟨#[("+-*/<=&|^":Str).cps.toList.getD k 0]⟩=true:=Qy;exact all _ h
theorem eW{n:Nat}{d:PyData}{ds:List PyData}(h:Shp n d)(h':∀e∈ds,Shp n e):∀e∈d::ds,Shp n e:=λe he=>by
 rcases qu.mp he with rfl|he
 ·exact h
 ·exact h' e he
theorem oq{n:Nat}:∀e∈([]:List PyData),Shp n e:=λ_ h=>(nomatch h)
def dmW(nl n:Nat):Rl->Prop
 |.ql i=>i<nl
 |.wt x=>x<n
 |_=>False
def cnW(W:WS)(hv:Nat->V):Rl->HO
 |.ql i=>.lst ((W.rows i).map V.int)
 |.wt x=>.lst [hv x,.int (W.due x),.int (W.tks x)]
 |_=>.lst []
def Ah(H:Hp)(v:V):Option (List (Int×Int))->Prop
 |none=>v=.non
 |some ps=>∃l us,v=.ref l/\H l=some (.lst us)/\RPs H us ps
structure WH(H0 H:Hp)(nl n:Nat)(lr lp:Addr)(ad:Rl->Addr)(hv:Nat->V)(W:WS):Prop where
 own:be H0 H (dmW nl n) ad (cnW W hv)
 lr:H0 lr=some (.lst ((List.range nl).map λi=>V.ref (ad (.ql i))))
 lp:H0 lp=some (.lst ((List.range n).map λx=>V.ref (ad (.wt x))))
 hv:∀x,x<n->Ah H0 (hv x) (W.post x)
section
variable {H0 H:Hp}{nl n:Nat}{lr lp:Addr}{ad:Rl->Addr}{hv:Nat->V}{W:WS}
end
theorem lU{f:Nat->V}{n i:Nat}(h:i<n):atI ((List.range n).map f) (i:Int)=some (f i):=bS (by rw[qE,List.getElem?_range h];rfl)
theorem sT{f:Nat->V}{n:Nat}{i:Int}(h0:0<=i)(h:i<n):atI ((List.range n).map f) i=some (f i.toNat):=by
 have:=lU (f:=f) (n:=n) (i:=i.toNat) Qw
 rwa [Int.toNat_of_nonneg h0]at this
inductive uo(vs:List V)(H:Hp)(Q:VK)(E:XK):Prop
 |mk (v:V) (l:Addr) (r:PR) (xs:List Int) (h0_:vs=[v,.ref l]) (h1_:RR H v r) (h2_:r.ok) (h3_:H l=some (.lst (xs.map V.int))) (h4_:xs.length=r.wide) (h5_:(∀x∈xs,OnW x)) (h6_:∀H' l' us,aa H H'->H' l'=some (.lst us)->RPs H' us (r.made xs)->H l'=none->Q (.ref l') H'):uo vs H Q E
inductive mT(vs:List V)(H:Hp)(Q:VK)(E:XK):Prop
 |mk (v:V) (r:PR) (lr:Addr) (f:Nat->List Int) (ra:Nat->Addr) (nl:Nat) (h0_:vs=[v,.ref lr]) (h1_:RR H v r) (h2_:r.ok) (h3_:r.fit nl) (h4_:H lr=some (.lst ((List.range nl).map λi=>V.ref (ra i)))) (h5_:(∀i,i<nl->H (ra i)=some (.lst ((f i).map V.int)))) (h6_:∀H' t,aa H H'->H' t=some (.tup ((cD f r).map V.int))->Q (.ref t) H'):mT vs H Q E
inductive uj(vs:List V)(H:Hp)(Q:VK)(E:XK):Prop
 |mk (v:V) (pace:List (List Int)) (x k:Nat) (h0_:vs=[v,.int x,.int k]) (h1_:RPc H v pace) (h2_:∀H',aa H H'->Q (.int (bK pace x k)) H'):uj vs H Q E
inductive uk(vs:List V)(H:Hp)(Q:VK)(E:XK):Prop
 |mk (l:Addr) (us:List V) (ps:List (Int×Int)) (nl:Nat) (h0_:vs=[.ref l,.int nl]) (h1_:H l=some (.lst us)) (h2_:RPs H us ps) (h3_:(∀p∈ps,0<=p.1/\p.1<nl/\OnW p.2)) (h4_:Q (.bl true) H):uk vs H Q E
inductive ut(vs:List V)(H:Hp)(Q:VK)(E:XK):Prop
 |mk (e l ll lp:Addr) (us ls ps:List V) (Et:Ent) (h0_:vs=[.ref e,.ref ll,.ref lp]) (h1_:H e=some (.tup [.int Et.now,.int Et.part,.str (if Et.took then "took" else "gave"),.ref l])) (h2_:H l=some (.lst us)) (h3_:RPs H us Et.hs) (h4_:H ll=some (.lst ls)) (h5_:H lp=some (.lst ps)) (h6_:0<=Et.now) (h7_:Et.part<ps.length) (h8_:(∀p∈Et.hs,0<=p.1/\p.1<ls.length/\OnW p.2)) (h9_:∀H',aa H H'->Q (.bl true) H'):ut vs H Q E
def vo(xs:List Ln)(f:Nat->List Int)(ps:List (Int×Int)):Bool:=ps.all λp=>roomV (bJ xs p.1.toNat).1 ((f p.1.toNat).length:Int)
inductive ui(vs:List V)(H:Hp)(Q:VK)(E:XK):Prop
 |mk (ll lr l:Addr) (ls us:List V) (xs:List Ln) (f:Nat->List Int) (ra:Nat->Addr) (ps:List (Int×Int)) (h0_:vs=[.ref ll,.ref lr,.ref l]) (h1_:H ll=some (.lst ls)) (h2_:RLn H ls xs) (h3_:H lr=some (.lst ((List.range xs.length).map λi=>V.ref (ra i)))) (h4_:(∀i,i<xs.length->H (ra i)=some (.lst ((f i).map V.int)))) (h5_:H l=some (.lst us)) (h6_:RPs H us ps) (h7_:(∀p∈ps,0<=p.1/\p.1<xs.length)) (h8_:Q (.bl (vo xs f ps)) H):ui vs H Q E
structure WG(H0:Hp)(ll lq e:Addr)(v:V)(xs:List Ln)(rs:List PR)(pace:List (List Int))(Et:Ent):Prop where
 e:∃l us,H0 e=some (.tup [.int Et.now,.int Et.part,.str (if Et.took then "took" else "gave"),.ref l])/\H0 l=some (.lst us)/\RPs H0 us Et.hs
 l:∃ls,H0 ll=some (.lst ls)/\RLn H0 ls xs
 q:∃ps,H0 lq=some (.lst ps)/\RRs H0 ps rs
 p:RPc H0 v pace
 ok:∀r∈rs,r.ok/\r.fit xs.length
inductive ug(vs:List V)(H:Hp)(Q:VK)(E:XK):Prop
 |mk (H0:Hp) (ll lq e lr lp:Addr) (v:V) (xs:List Ln) (rs:List PR) (pace:List (List Int)) (Et:Ent) (ad:Rl->Addr) (hv:Nat->V) (W:WS) (h0_:vs=[.ref e,.ref ll,.ref lq,v,.ref lr,.ref lp]) (h1_:WG H0 ll lq e v xs rs pace Et) (h2_:WH H0 H xs.length rs.length lr lp ad hv W) (h3_:Et.took=true) (h4_:OkE rs.length xs.length (λi=>(bJ xs i).1) (aZ rs) W Et) (h5_:∀H0' H' hv',aa H0 H0'->WH H0' H' xs.length rs.length lr lp ad hv' (bQ (aZ rs) pace W Et)->Q (.bl true) H'):ug vs H Q E
inductive ur(vs:List V)(H:Hp)(Q:VK)(E:XK):Prop
 |mk (H0:Hp) (ll lq e lr lp:Addr) (v:V) (xs:List Ln) (rs:List PR) (pace:List (List Int)) (Et:Ent) (ad:Rl->Addr) (hv:Nat->V) (W:WS) (h0_:vs=[.ref e,.ref ll,.ref lr,.ref lp]) (h1_:WG H0 ll lq e v xs rs pace Et) (h2_:WH H0 H xs.length rs.length lr lp ad hv W) (h3_:Et.took=false) (h4_:OkE rs.length xs.length (λi=>(bJ xs i).1) (aZ rs) W Et) (h5_:∀H0' H' hv',aa H0 H0'->WH H0' H' xs.length rs.length lr lp ad hv' (bQ (aZ rs) pace W Et)->Q (.bl true) H'):ur vs H Q E
inductive uf(vs:List V)(H:Hp)(Q:VK)(E:XK):Prop
 |mk (ll lq lg:Addr) (v:V) (us ps lgv:List V) (xs:List Ln) (rs:List PR) (pace:List (List Int)) (es:List Ent) (h0_:vs=[.ref ll,.ref lq,v,.ref lg]) (h1_:H ll=some (.lst us)) (h2_:RLn H us xs) (h3_:H lq=some (.lst ps)) (h4_:RRs H ps rs) (h5_:RPc H v pace) (h6_:H lg=some (.lst lgv)) (h7_:REs H lgv es) (h8_:(∀r∈rs,r.ok/\r.fit xs.length)) (h9_:xs.length<=1000) (h10_:rs.length<60) (h11_:d8 rs.length xs.length (λi=>(bJ xs i).1) (aZ rs) pace (cw xs) es) (h12_:∀H' lr us',aa H H'->H' lr=some (.lst us')->RIs H' us' ((List.range xs.length).map (es.foldl (bQ (aZ rs) pace) (cw xs)).rows)->Q (.ref lr) H'):uf vs H Q E
inductive AlI(H:Hp):Nat->V->V->Prop
 |int (n:Nat) (i:Int):AlI H n (.int i) (.int i)
 |lst {n:Nat}{a b:Addr}{xs ys:List V}:H a=some (.lst xs)->H b=some (.lst ys)->xs.length=ys.length->xs.length<=10000000->(∀(i:Nat)(x y:V),xs[i]?=some x->ys[i]?=some y->AlI H n x y)->AlI H (n+1) (.ref a) (.ref b)
inductive uu(n:Nat)(vs:List V)(H:Hp)(Q:VK)(E:XK):Prop
 |mk (x y:V) (m:Nat) (h0_:vs=[x,y]) (h1_:m<n) (h2_:AlI H m x y) (h3_:Q (.bl true) H):uu n vs H Q E
theorem kP(T:Tx P w K mg a):aA P w K mg base CX0 1 a.C6 a.C7 ["_law_script","_law_k"] (nF K):=by
 refine T.AJ.ok uO (λvs H Q E h=>?_) (λcdv A outer s H vs Q E hr h=>?_)
 ·obtain⟨_,_,_,rfl,_⟩:=h
  rfl
 obtain⟨l,ns,k,rfl,hS,k0,q⟩:=h
 refine⟨_,(ag (aL (aE fN (pq 1) (bI bX U T.mt Q7 (a8 (pq 0) ae)) (az _)) (ai (ao (ak aY (pq 0) (pq 1) Oy))) aM)
  (ai (ao ac))),?_⟩
 refine⟨_,U,_,U,l,_,U,.inl hS,_,_,U,U,_,U,bj (λc=>?_) (λc=>?_)⟩
 ·have lt:k.toNat<ns.length:=by
   have:=Qc c;rw[q9]at this;omega
  exact⟨_,U,_,U,l,_,_,_,U,U,hS,eN k0 (by rw[qE,qc lt];rfl),q _⟩
 ·exact q _
theorem fS(T:Tx P w K mg a):aA P w K mg base CX0 1 a.C8 a.C9 ["_law_cell_here","_law_k"] ni:=by
 refine T.Aq.ok oE (λvs H Q E h=>?_) (λcdv A outer s H vs Q E hr h=>?_)
 ·obtain⟨_,_,rfl,_⟩:=h
  rfl
 obtain⟨c,k,rfl,hk,q⟩:=h
 refine⟨_,(ag (aQ (i:=2) oE.nd U Oi (ah bb (ah bC (ah c8 (ah bb (pq 0) ac) ac) (ah c8 (ah bC (ah bC (ah c8 (pq 1) (pq 1)) (ah c8 ac (pq 1))) ac) ac)) ac))
  (ai (ao (ah bb (ah c8 (pq 2) (pq 2)) ac)))),?_⟩
 have kb:Builtin.Int.intBits k<=64:=intBits_le_64 Qw Qw;walk_at "rd";refine⟨IntMulOk.of_right (intBits_le_64 Qz Qz),?_⟩;walk_at "rd";refine⟨IntMulOk.of_right kb,?_⟩;walk_at "rd";refine⟨IntMulOk.of_right kb,?_⟩;walk_at "rd";refine⟨IntMulOk.of_right (intBits_le_64 Qz Qz),?_⟩;walk_at "rd";have m0:=Q9 (c % 2147483647 * 48271+(k * k+3 * k+7) * 69621) (show(2147483647:Int)≠0 by decide);have m1:=Qe (c % 2147483647 * 48271+(k * k+3 * k+7) * 69621) (show(0:Int)<2147483647 by decide);generalize (c % 2147483647 * 48271+(k * k+3 * k+7) * 69621) % 2147483647=m at m0 m1 ⊢;refine⟨IntMulOk.of_right (intBits_le_64 Qw Qw),?_⟩;walk_at "rd";exact q _ (Q9 _ Qz) (Qe _ Qz)
theorem pO(T:Tx P w K mg a):aA P w K mg base CX0 1 a.Ca a.Cb ["_law_cell_here","_law_way"] nc:=by
 refine T.CU.ok oC (λvs H Q E h=>?_) (λcdv A outer s H vs Q E hr h=>?_)
 ·obtain⟨_,_,rfl,_⟩:=h
  rfl
 obtain⟨c,k,rfl,hk,q⟩:=h
 refine⟨_,(ag (aQ (i:=2) oC.nd U Oi (ah bb (pq 0) (ah gH ac ac)))
  (ag (aL (aE bd (ah bb (pq 1) ac) ac (az _)) (ai (ao (ah bb (pq 2) ac))) aM)
  (ag (aL (aE bd (ah bb (pq 1) ac) ac (az _)) (ai (ao (ah fK (ah fK (ah gH ac ac) ac) (ah bb (pq 2) ac)))) aM)
  (ag (aL (aE bd (ah bb (pq 1) ac) ac (az _)) (ai (ao (ah bb (pq 2) (ah gH ac ac)))) aM)
  (ai (ao (ah bb (ah c8 (ah c8 (ah bC (pq 2) ac) (ah bC (ah c8 (pq 1) (pq 1)) ac)) ac) (ah gH ac ac)))))))),?_⟩
 walk_at "rd";have m0:=Q9 c (show(10:Int) ^ (60:Int).toNat≠0 by rw[p60];decide);have m1:=Qe c (show(0:Int)<(10:Int) ^ (60:Int).toNat by rw[p60];decide);generalize c % (10:Int) ^ (60:Int).toNat=m at m0 m1 ⊢;rw[p60]at m1;refine bj (λ_=>?_) (λ_=>?_)
 ·walk_at "rd";exact q _ ⟨Qw,Qw⟩
 walk_at "rd";refine bj (λ_=>?_) (λ_=>?_)
 ·walk_at "rd";rw[p30];exact q _ ⟨Qw,Qw⟩
 walk_at "rd";refine bj (λ_=>?_) (λ_=>?_)
 ·walk_at "rd";rw[p30];exact q _ ⟨Qw,Qw⟩
 walk_at "rd";refine⟨IntMulOk.of_right (intBits_le_64 Qw Qw),?_⟩;have k2:0<=k * k:=Int.mul_nonneg hk.1 hk.1;have k3:k * k<=2147483647 * 2147483647:=Int.mul_le_mul hk.2 hk.2 hk.1 Qz;generalize k * k=y at k2 k3;walk_at "rd";have b1:Builtin.Int.intBits (m+1)<=2 ^ 20:=qy ((PySem.intBits_le_iff (m:=250)).mpr Qw) Qz;have b2:Builtin.Int.intBits (y+11)<=2 ^ 20:=qy ((PySem.intBits_le_iff (m:=250)).mpr Qw) Qz;refine⟨IntMulOk.of_bits b1 b2,?_⟩;have y2:0<=(m+1) * (y+11):=Int.mul_nonneg Qw Qw;have y3:(m+1) * (y+11)<=1000000000000000000000000000000000000000000000000000000000000 * 5000000000000000000:=Int.mul_le_mul Qw Qw Qw Qz;generalize (m+1) * (y+11)=z at y2 y3 ⊢;walk_at "rd";refine⟨IntMulOk.of_bits (qy ((PySem.intBits_le_iff (m:=400)).mpr Qw) Qz) Qy,?_⟩;walk_at "rd";rw[p30];exact q _ ⟨Q9 _ Qz,Qe _ Qz⟩
theorem zN(xs:List Int){n:Int}(h0:0<=n)(h1:n<=xs.length):c6 (xs.map V.int) none (some n)=(xs.take n.toNat).map V.int:=by
 unfold c6;have e1:HT.sIx (xs.map V.int).length 0 none=0:=U
 have e2:HT.sIx (xs.map V.int).length (xs.map V.int).length (some n)=n.toNat:=by
  have:=HT.sIx_nat (xs.map V.int).length (xs.map V.int).length n.toNat;rw[Int.toNat_of_nonneg h0]at this;rw[this,q9];omega
 rw[e1,e2,List.drop_zero,Nat.sub_zero,List.map_take]
theorem uA(i:Int):atI ("+-*/<=&|^":Str).cps.toList (i % 9)=some (("+-*/<=&|^":Str).cps.toList.getD (i % 9).toNat 0):=by
 have h1:0<=i % 9:=Q9 _ Qz;have h2:i % 9<9:=Qe _ Qz;have ln:("+-*/<=&|^":Str).cps.toList.length=9:=Qy;have lt:(i % 9).toNat<("+-*/<=&|^":Str).cps.toList.length:=Qw;have:=bS (xs:=("+-*/<=&|^":Str).cps.toList) (j:=(i % 9).toNat) (v:=("+-*/<=&|^":Str).cps.toList.getD (i % 9).toNat 0) (by rw[qj,qc lt];rfl)
 rwa [Int.toNat_of_nonneg h1]at this
theorem yD(m:Int):∃L:Option Int,atI [V.int 1,.int 1,.int 2,.int 3,.non] (m % 5)=some (cU L)/\∀n,L=some n->1<=n:=by
 have h0:0<=m % 5:=Q9 _ Qz;have h1:m % 5<5:=Qe _ Qz;generalize m % 5=i at h0 h1;obtain rfl|rfl|rfl|rfl|rfl:i=0\/i=1\/i=2\/i=3\/i=4:=Qw
 ·exact⟨some 1,U,λn e=>by cases e;decide⟩
 ·exact⟨some 1,U,λn e=>by cases e;decide⟩
 ·exact⟨some 2,U,λn e=>by cases e;decide⟩
 ·exact⟨some 3,U,λn e=>by cases e;decide⟩
 ·exact⟨none,U,λn e=>by cases e⟩
theorem x8(T:Tx P w K mg a):aA P w K mg base CX0 2 a.Cc a.Cd ["_law_cell_here","_law_way"] mU:=by
 refine T.Dk.ok uK (λvs H Q E h=>?_) (λcdv A outer s H vs Q E hr h=>?_)
 ·obtain⟨_,_,rfl,_⟩:=h
  rfl
 obtain⟨c,k,rfl,hk,q⟩:=h
 refine⟨_,(ag (aL (aE bd (ah bb (pq 1) ac) ac (az _)) (ai (ao (ba (pO T) (hr.mono Qz) U T.Dj T.CU.kp T.Di .nil ay (a8 (pq 0) (a8 (ah bL (pq 1) ac) ae))))) aM)
  (ai (ao (ah bb (ah bL (pq 1) ac) ac)))),?_⟩
 refine⟨_,U,_,_,U,U,Qz,U,_,U,?_⟩;refine bj (λ_=>?_) (λ_=>?_)
 ·exact⟨_,U,_,U,_,_,U,U,⟨Qz,Qz⟩,_,_,U,⟨Qw,Qw⟩,q⟩
 ·exact⟨_,U,_,_,U,U,⟨Qz,Qz⟩,_,_,U,U,Qz,q _ ⟨Qw,Qw⟩⟩
theorem xi(T:Tx P w K mg a):aA P w K mg base CX0 3 a.Ce a.Cf ["_law_cell_here","_law_k"] nu:=by
 refine T.Dl.ok gp (λvs H Q E h=>?_) (λcdv A outer s H vs Q E hr h=>?_)
 ·obtain⟨_,_,rfl,_⟩:=h
  rfl
 obtain⟨c,k,rfl,hk,q⟩:=h
 refine⟨_,(ag (aQ (i:=2) gp.nd U (Or.inr U) (ba (fS T) (hr.mono Qz) U T.Aw T.Aq.kp T.Av .nil ay (a8 (pq 0) (a8 (ah bC (pq 1) ac) ae))))
  (ag (aQ (i:=3) gp.nd U Oi (ak aY (bz (pJ U)) (ah bb (pq 2) ac) Oy))
  (ag (aQ (i:=4) gp.nd U Oi (ah bb (ah bL (pq 2) ac) ac))
  (ag (aL (aE ki (pq 3) cS (az _)) (ai (aQ (i:=4) gp.nd U Oi (bI (zZ U) U T.DG PyProof.Rows.Boot.«min» (a8 (pq 4) (a8 (pq 3) ae))))) aM)
  (ai (ao (bw (a8 (pq 3) (a8 (ir lR U T.CZ PyProof.Rows.Boot.«tuple» (a8 (ci (k:=1) (Nc:=["_law_j","_law_cell_here","_law_m"]) (js:=[0,2]) (show aS (am i9) ["_law_cell_here","_law_k","_law_m","_law_length","_law_many"] _ 1 ["_law_j","_law_cell_here","_law_m"] [0,2]from aS.mk U (by decide +kernel) (by decide +kernel) (by decide +kernel) U (by decide +kernel)) U (dh U T.wS (a8 (pq 4) ae)) (λ_ _ _ _ _=>(aV (i:=0) (show List.Nodup (["_law_j","_law_cell_here","_law_m"]:List Str)from by decide +kernel) U Oi)) (λ_ _ _ _ _=>bY) (λ_ _ _ _ _=>(ba (x8 T) (hr.mono Qz) U T.Fe T.Dk.kp T.Fd .nil ay (a8 (pq 1) (a8 (ah bL (pq 2) (ah bC ac (ah c8 ac (pq 0)))) ae))))) ae)) ae))))))))),?_⟩
 refine⟨_,U,_,U,_,_,U,U,_,_,U,⟨Qw,Qw⟩,λm m0 m1=>?_⟩;obtain⟨L,eL,hL⟩:=yD m;refine⟨ln5,λl hl=>⟨_,U,_,_,U,U,Qz,l,_,_,_,U,U,SqL.of af,eL,?_⟩⟩;have s1:=aa.new hl (.lst [V.int 1,.int 1,.int 2,.int 3,.non]);refine⟨_,U,_,_,U,U,⟨Qz,Qz⟩,_,_,U,U,Qz,?_⟩;have a0:0<=m / 5 % 4/\m / 5 % 4<=4:=Qw;generalize m / 5 % 4=mn at a0 ⊢;refine⟨_,U,U,_,U,?_⟩;generalize upd H l (.lst [V.int 1,.int 1,.int 2,.int 3,.non])=H1 at s1 ⊢;refine yR (w:=mn) (P:=λmn=>0<=mn/\mn<=4) a0 (λmn hm=>?_) (λcc go=>?_)
 ·refine⟨_,U,_,U,_,U,Qw,Qw,?_⟩;refine g6 (λi ys σ H3=>(∃v,σ=[v,some (.int c),some (.int m)])/\H3=H1/\∃xs:List Int,ys=xs.map V.int/\xs.length=i/\∀n∈xs,OnW n) ⟨⟨none,U⟩,U,[],U,U,λ_ h=>(nomatch h)⟩ ?_ (bi (m:=100) Qw) ?_ ?_
  ·rintro i ys σ H3 _ ⟨_,_,xs,rfl,h,_⟩;rw[q9,h];exact qe _
  ·rintro i ys σ H3 hi ⟨⟨v,rfl⟩,rfl,xs,rfl,hl,ho⟩;have dv:(20:Int)+7 * (i:Int)≠0:=Qw;have q0:=Int.ediv_nonneg (a:=m) (b:=20+7 * (i:Int)) m0 Qw;have q1:=Int.ediv_le_self (a:=m) (20+7 * (i:Int)) m0;refine⟨_,U,_,U,_,U,_,_,U,U,IntMulOk.of_bits (dN ⟨Qz,Qz⟩) (dN ⟨Qw,Qw⟩),_,_,U,U,_,_,U,U,⟨Qw,Qw⟩,_,_,U,⟨q0,Qw⟩,λx hx=>⟨⟨_,U⟩,U,xs++[x],by rw[qO];rfl,by rw[qb,hl];rfl,λn hn=>?_⟩⟩;rcases qh.mp hn with hn|hn
   ·exact ho n hn
   ·rw[qS.mp hn];exact hx
  rintro ys σ3 H3 ⟨_,rfl,xs,rfl,hl,ho⟩ lc hlc;refine⟨lc,_,U,.inl ⟨SqL.of af,λt ht=>⟨ln2,λp hp=>?_⟩⟩⟩;have s2:=(aa.new hlc (.lst (xs.map V.int))).trans (aa.new ht (.tup (xs.map V.int)));exact q _ p t (L,xs) (s1.trans (s2.trans (aa.new hp _))) af (aa.new hp _ _ _ af) (by show xs.length<=4;omega) ho
 ·cases L with
  |none=>exact Q4 cc Qz
  |some n=>
   have:=hL n U;refine⟨_,U,_,U,_,_,U,go _ ?_⟩;split<;>omega
theorem pM(T:Tx P w K mg a):aA P w K mg base CX0 2 a.Ci a.Cj ["_law_way","_law_width","_law_cell_here"] mW:=by
 refine T.CV.ok uL (λvs H Q E h=>?_) (λcdv A outer s H vs Q E hr h=>?_)
 ·obtain⟨_,_,_,rfl,_⟩:=h
  rfl
 obtain⟨i,j,c,rfl,hi,hj,k⟩:=h
 refine⟨_,(ag (aL (aE bd (ah bb (pq 0) ac) ac (az _)) (ai (ao (bw (a8 bo (a8 (ba (pO T) (hr.mono Qz) U T.Dj T.CU.kp T.Di .nil ay (a8 (pq 2) (a8 (ah bL (pq 0) ac) ae))) ae))))) aM)
  (ai (ao (bw (a8 bo (a8 (ah bb (ah bL (pq 0) ac) (pq 1)) ae)))))),?_⟩
 refine⟨_,U,_,_,U,U,Qz,U,_,U,?_⟩;refine bj (λ_=>?_) (λ_=>?_)
 ·refine⟨_,U,_,U,_,_,U,U,⟨Qz,Qz⟩,_,_,U,⟨Qw,Qw⟩,λm hm=>⟨ln2,λp hp=>k _ _ (.num m) (aa.new hp _) (.num af) hm⟩⟩
 ·exact⟨_,U,_,_,U,U,⟨Qz,Qz⟩,_,U,_,_,U,U,hj,ln2,λp hp=>k _ _ (.thing (i / 3 % j)) (aa.new hp _) (.thing af) ⟨Q9 _ Qw,by have:=Qe (i / 3) hj;omega⟩⟩
theorem ox{A' B':TS}{D:dD}{σ:St}{H:Hp}(Pv:St->Hp->Prop)(hb:∀σ' H',Pv σ' H'->B' D σ' H')(ha:∀N:St->Hp->Prop,(∀σ' H',Pv σ' H'->N σ' H')->A' { D with nx:=N } σ H):hE A' B' D σ H:=ha _ hb
structure br(m:Nat)(xs:List Int):Prop where
 nd:xs.Nodup
 lt:∀x∈xs,0<=x/\x<m
theorem br.len{m:Nat}{xs:List Int}(h:br m xs):xs.length<=m:=by
 have nd:(xs.map Int.toNat).Nodup:=by
  refine List.nodup_iff_pairwise_ne.mpr (List.pairwise_map.mpr ((List.nodup_iff_pairwise_ne.mp h.nd).imp_of_mem λ{x y} hx hy n e=>n ?_));have:=h.lt x hx;have:=h.lt y hy;omega
 have:=nd.length_le_of_subset (l₂:=List.range m) λk hk=>by
  obtain⟨x,hx,rfl⟩:=List.mem_map.mp hk;have:=h.lt x hx;exact List.mem_range.mpr Qw
 rwa [q9,Qd]at this
theorem br.fit{m:Nat}{xs:List Int}(h:br m xs):Fit m xs:=by
 refine⟨λx hx=>(h.lt x hx).1,λx hx=>(h.lt x hx).2,?_⟩;refine List.nodup_iff_pairwise_ne.mpr (List.pairwise_map.mpr ((List.nodup_iff_pairwise_ne.mp h.nd).imp_of_mem λ{x y} hx hy n e=>n ?_));have:=h.lt x hx;have:=h.lt y hy;omega
theorem br.more{m:Nat}{xs:List Int}(h:br m xs):br (m+1) (xs++[(m:Int)]):=by
 refine⟨List.nodup_append.mpr ⟨h.nd,Qq _ _,λx hx y hy e=>?_⟩,λx hx=>?_⟩
 ·have:=(h.lt x hx).2;rw[e,qS.mp hy]at this;omega
 ·rcases qh.mp hx with hx|hx
  ·have:=h.lt x hx;omega
  ·rw[qS.mp hx];omega
theorem br.sub{m:Nat}{xs ys:List Int}(h:br m ys)(s:xs.Sublist ys):br m xs:=⟨h.nd.sublist s,λx hx=>h.lt x (s.subset hx)⟩
theorem sj{f:Int->V}:∀(xs:List Int)(k:Nat),(xs.map f).eraseIdx k=(xs.eraseIdx k).map f
 |[],_=>rfl
 |_::_,0=>rfl
 |x::xs,k+1=>congrArg (f x::·) (sj xs k)
theorem si:∀{xs:List Int}{k:Nat}{x:Int},xs[k]?=some x->(x::xs.eraseIdx k).Perm xs
 |[],k,x,h=>by simp at h
 |y::xs,0,x,h=>by cases h;exact List.Perm.refl _
 |y::xs,k+1,x,h=>(List.Perm.swap y x _).trans ((si (xs:=xs) (k:=k) (by simpa using h)).cons y)
theorem br.pick{m:Nat}{xs out:List Int}{k:Nat}{x:Int}(h:br m (out++xs))(hk:xs[k]?=some x):br m ((out++[x])++xs.eraseIdx k):=by
 have lt:=(qf.mp hk).1
 have p:((out++[x])++xs.eraseIdx k).Perm (out++xs):=by
  rw[qN];refine List.Perm.append_left _ ?_;exact si hk
 exact⟨p.nodup_iff.mpr h.nd,λy hy=>h.lt y (p.mem_iff.mp hy)⟩
inductive mZ(K:W.Frag)(vs:List V)(H:Hp)(Q:VK)(E:XK):Prop
 |mk (lt lg lm:Addr) (ts gs Ut Ug:List Int) (m:Nat) (many way:Int) (h0_:vs=[.ref lt,.ref lg,.ref lm,.int many,.int way]) (h1_:H lt=some (.lst (ts.map V.int))) (h2_:H lg=some (.lst (gs.map V.int))) (h3_:H lm=some (.lst [.int m])) (h4_:(lt≠lg/\lt≠lm/\lg≠lm)) (h5_:br m (Ut++ts)) (h6_:br m (Ug++gs)) (h7_:m<=800) (h8_:(0<=many/\many<=5)) (h9_:(0<=way/\way<2147483647)) (h10_:∀H' p out ts' gs' m',(∀c o,c≠lt->c≠lg->c≠lm->H c=some o->H' c=some o)->H' lt=some (.lst (ts'.map V.int))->H' lg=some (.lst (gs'.map V.int))->H' lm=some (.lst [.int (m':Nat)])->H' p=some (.tup (out.map V.int))->H p=none->(out.length:Int)=many->br m' ((Ut++out)++ts')->br m' (Ug++gs')->m<=m'->m'<=m+5->Q (.ref p) H'):mZ K vs H Q E
theorem eD(T:Tx P w K mg a):aA P w K mg base CX0 1 a.Cg a.Ch ["_law_pool","_law_other","_law_lines","_law_many","_law_way"] (mZ K):=by
 refine T.xz.ok jg (λvs H Q E h=>?_) (λcdv A outer s H vs Q E hr h=>?_)
 ·obtain⟨_,_,_,_,_,_,_,_,_,_,rfl,_⟩:=h
  rfl
 obtain⟨lt,lg,lm,ts,gs,Ut,Ug,m,many,way,rfl,ht,hg,hm,⟨n1,n2,n3⟩,pt,pg,m8,hmany,hway,k⟩:=h
 refine⟨_,(ag (aQ (i:=5) jg.nd U Oi (bz ae))
  (ag (cI PassesOwn.never U (dh U T.wS (a8 (pq 3) ae)) (aV (i:=6) jg.nd U Oi)
  (ag (aL (aE bd (bI bX U T.mt Q7 (a8 (pq 0) ae)) ac (az _)) (ag (bT (cZ qg qv qw dE (pq 0) (a8 (ak aY (pq 2) ac Oy) ae)))
  (ag (bT (cZ qg qv qw dE (pq 1) (a8 (ak aY (pq 2) ac Oy) ae)))
  (ai (dF (ah bC (ak aY (pq 2) ac Oy) ac) (f9 (pq 2) ac eX))))) aM)
  (ai (bT (cZ qg qv qw dE (pq 5) (a8 (cZ qg PySem.F.slot_list_pop PySem.F.type_list_pop ye (pq 0) (a8 (ah bb (ah bC (pq 4) (ah c8 ac (pq 6))) (bI bX U T.mt Q7 (a8 (pq 0) ae))) ae)) ae))))))
  (ai (ao (ir lR U T.CZ PyProof.Rows.Boot.«tuple» (a8 (pq 5) ae)))))),?_⟩
 refine⟨qt _,λlo hlo=>?_⟩;have n4:lt≠lo:=λz=>by rw[z,hlo]at ht;cases ht
 have n5:lg≠lo:=λz=>by rw[z,hlo]at hg;cases hg
 have n6:lm≠lo:=λz=>by rw[z,hlo]at hm;cases hm
 dsimp only[aO];refine⟨_,U,_,U,Qw,Qw,?_⟩;refine iO (λi σ G=>(∃v,σ=[some (.ref lt),some (.ref lg),some (.ref lm),some (.int many),some (.int way),some (.ref lo),v])/\∃(ts' gs' out:List Int)(m':Nat),G lt=some (.lst (ts'.map V.int))/\G lg=some (.lst (gs'.map V.int))/\G lm=some (.lst [.int m'])/\G lo=some (.lst (out.map V.int))/\(∀c o,c≠lt->c≠lg->c≠lm->H c=some o->G c=some o)/\out.length=i/\br m' ((Ut++out)++ts')/\br m' (Ug++gs')/\m<=m'/\m'<=m+i) ⟨⟨_,U⟩,ts,gs,[],m,by rw[aj n4];exact ht,by rw[aj n5];exact hg,by rw[aj n6];exact hm,af,λc o _ _ _ h=>aa.new hlo _ _ _ h,U,(by rw[qx];exact pt),pg,qe _,qe _⟩ ?_ ?_
 ·rintro i σ G hi ⟨⟨v,rfl⟩,ts',gs',out,m',g1,g2,g3,g4,fr,ol,po,pg',mm,mi⟩;have i5:i<5:=Qw;have tl:=po.len;have gl:=pg'.len;rw[qb]at tl gl;dsimp only[aO];refine ox (λσ G=>(∃v,σ=[some (.ref lt),some (.ref lg),some (.ref lm),some (.int many),some (.int way),some (.ref lo),v]/\v=some (.int ((0:Int)+i)))/\∃(ts' gs':List Int)(m':Nat),G lt=some (.lst (ts'.map V.int))/\G lg=some (.lst (gs'.map V.int))/\G lm=some (.lst [.int m'])/\G lo=some (.lst (out.map V.int))/\(∀c o,c≠lt->c≠lg->c≠lm->H c=some o->G c=some o)/\ts'≠[]/\br m' ((Ut++out)++ts')/\br m' (Ug++gs')/\m<=m'/\m'<=m+(i+1)) ?_ (λN hN=>?_)
  rotate_left
  ·refine⟨_,U,lt,_,U,.inl (SqL.of g1),U,_,U,bj (λc=>?_) (λc=>?_)⟩
   ·have e0:ts'=[]:=by
     have:=dn c;rw[q9]at this;exact List.length_eq_zero_iff.mp Qw
    subst e0;have hat:∀{x:V},atI [x] (0:Int)=some x:=U;refine⟨_,U,.inl ⟨U,_,SqL.of g1⟩,_,U,lm,_,_,_,U,U,SqL.of g3,hat,lt,_,_,U,U,g1,bi (m:=1000) (by rw[q9];exact(by decide:1<=1000)),?_⟩;have a2:upd G lt (.lst (([]:List Int).map V.int++[.int m'])) lg=some (.lst (gs'.map V.int)):=by rw[aj (Ne.symm n1)];exact g2
    have a3:upd G lt (.lst (([]:List Int).map V.int++[.int m'])) lm=some (.lst [.int m']):=by rw[aj (Ne.symm n2)];exact g3
    refine⟨_,U,.inl ⟨U,_,SqL.of a2⟩,_,U,lm,_,_,_,U,U,SqL.of a3,hat,lg,_,_,U,U,a2,bi (m:=1000) (by rw[q9];omega),?_⟩;have b3:upd (upd G lt (.lst (([]:List Int).map V.int++[.int m']))) lg (.lst (gs'.map V.int++[.int m'])) lm=some (.lst [.int m']):=by rw[aj (Ne.symm n3)];exact a3
    refine⟨_,U,lm,_,_,_,U,U,SqL.of b3,hat,_,_,U,U,_,U,lm,_,_,0,U,U,b3,U,?_⟩;refine hN _ _ ⟨⟨_,U,U⟩,[(m':Int)],gs'++[(m':Int)],m'+1,?_,?_,af,?_,λc o c1 c2 c3 h=>?_,List.cons_ne_nil _ _,?_,(by rw[<- qN];exact pg'.more),Qw,Qw⟩
    ·rw[aj n2,aj n1,af];rfl
    ·rw[aj n3,af,qO];rfl
    ·rw[aj (Ne.symm n6),aj (Ne.symm n5),aj (Ne.symm n4)];exact g4
    ·rw[aj c3,aj c2,aj c1];exact fr c o c1 c2 c3 h
    ·rw[qx]at po;exact po.more
   ·exact hN _ _ ⟨⟨_,U,U⟩,ts',gs',m',g1,g2,g3,g4,fr,λz=>dw c (by rw[z];rfl),po,pg',mm,Qw⟩
  ·rintro σ G ⟨⟨v',rfl,rfl⟩,ts2,gs2,m2,g1,g2,g3,g4,fr,ne,po,pg2,mm,mi⟩;have tl2:=po.len;rw[qb]at tl2;have l0:0<ts2.length:=List.length_pos_iff.mpr ne;have p0:=Q9 (way+3 * (0+(i:Int))) (b:=(ts2.length:Int)) Qw;have p1:=Qe (way+3 * (0+(i:Int))) (b:=(ts2.length:Int)) Qw;refine⟨_,U,.inl ⟨U,_,SqL.of g4⟩,_,U,.inl ⟨U,_,SqL.of g1⟩,_,U,_,U,_,_,U,U,IntMulOk.of_bits (dN ⟨Qz,Qz⟩) (dN ⟨Qw,Qw⟩),_,_,U,U,_,U,lt,_,U,.inl (SqL.of g1),_,_,U,U,by rw[q9];omega,?_⟩;rw[q9];have hx:ts2[((way+3 * (0+(i:Int))) % (ts2.length:Int)).toNat]?=some (ts2[((way+3 * (0+(i:Int))) % (ts2.length:Int)).toNat]' Qw):=qc _;generalize ts2[((way+3 * (0+(i:Int))) % (ts2.length:Int)).toNat]' Qw=x at hx;generalize (way+3 * (0+(i:Int))) % (ts2.length:Int)=j at p0 p1 hx
   have hj:seqIndex? j (ts2.map V.int).length=some j.toNat:=by
    unfold seqIndex?;rw[q9];simp only[qZ (by omega:¬ j<0)];rw[Q0 (by simp;omega)]
   refine⟨lt,_,j,j.toNat,.int x,U,U,g1,Qw,Qw,hj,by rw[qE,hx];rfl,?_⟩;have b4:upd G lt (.lst ((ts2.map V.int).eraseIdx j.toNat)) lo=some (.lst (out.map V.int)):=by rw[aj (Ne.symm n4)];exact g4
   refine⟨lo,_,_,U,U,b4,bi (m:=1000) (by rw[q9];omega),?_⟩;refine⟨⟨_,U⟩,ts2.eraseIdx j.toNat,gs2,out++[x],m2,?_,?_,?_,?_,λc o c1 c2 c3 h=>?_,by rw[qb,ol];rfl,(by rw[<- qN Ut];exact po.pick hx),pg2,mm,mi⟩
   ·rw[aj n4,af,sj]
   ·rw[aj n5,aj (Ne.symm n1)];exact g2
   ·rw[aj n6,aj (Ne.symm n2)];exact g3
   ·rw[af,qO];rfl
   ·have c4:c≠lo:=λz=>by rw[z,hlo]at h;cases h
    rw[aj c4,aj c1];exact fr c o c1 c2 c3 h
 ·rintro σ G ⟨⟨v,rfl⟩,ts',gs',out,m',g1,g2,g3,g4,fr,ol,po,pg',mm,mi⟩;refine⟨_,U,lo,_,U,.inl ⟨SqL.of g4,λp hp=>?_⟩⟩;have d1:lt≠p:=λz=>by rw[z,hp]at g1;cases g1
  have d2:lg≠p:=λz=>by rw[z,hp]at g2;cases g2
  have d3:lm≠p:=λz=>by rw[z,hp]at g3;cases g3
  have h0:H p=none:=by
   cases e:H p with
   |none=>rfl
   |some o=>rw[fr p o (Ne.symm d1) (Ne.symm d2) (Ne.symm d3) e]at hp;cases hp
  refine k _ p out ts' gs' m' (λc o c1 c2 c3 h=>aa.new hp _ _ _ (fr c o c1 c2 c3 h)) (by rw[aj d1];exact g1) (by rw[aj d2];exact g2) (by rw[aj d3];exact g3) af h0 Qw po pg' mm Qw
theorem xb(T:Tx P w K mg a):aA P w K mg base CX0 2 a.Co a.Cp ["_law_cell_here","_law_k"] mX:=by
 refine T.Dr.ok oA (λvs H Q E h=>?_) (λcdv A outer s H vs Q E hr h=>?_)
 ·obtain⟨_,_,rfl,_⟩:=h
  rfl
 obtain⟨c,k,rfl,hk,q⟩:=h
 refine⟨_,(ag (aQ (i:=2) oA.nd U (Or.inr U) (ba (fS T) (hr.mono Qz) U T.Aw T.Aq.kp T.Av .nil ay (a8 (pq 0) (a8 (ah bC (pq 1) ac) ae))))
  (ag (aL (aE bd (ah bb (pq 2) ac) ac (az _)) (ai (ao (bz (a8 (ah bL (pq 2) ac) (a8 ac (a8 (ah bb (ah bL (pq 2) ac) (ah gH ac ac)) ae)))))) aM)
  (ai (ao (ci (k:=1) (Nc:=["_law_j","_law_m"]) (js:=[2]) (show aS (am i4) ["_law_cell_here","_law_k","_law_m"] _ 1 ["_law_j","_law_m"] [2]from aS.mk U (by decide +kernel) (by decide +kernel) (by decide +kernel) U (by decide +kernel)) U (dh U T.wS (a8 (ah bb (ah bL (pq 2) ac) ac) ae)) (λ_ _ _ _ _=>(aV (i:=0) (show List.Nodup (["_law_j","_law_m"]:List Str)from by decide +kernel) U Oi)) (λ_ _ _ _ _=>bY) (λ_ _ _ _ _=>(ah bb (ah bL (pq 1) (ah bC ac (ah c8 ac (pq 0)))) ac))))))),?_⟩
 have pw:(0:Int)<(10:Int) ^ (30:Int).toNat:=by rw[p30];decide
 refine⟨_,U,_,U,_,_,U,U,_,_,U,⟨Qw,Qw⟩,λm m0 m1=>?_⟩;dsimp only[aO];refine⟨_,U,_,_,U,U,Qz,U,_,U,bj (λcc=>?_) (λcc=>?_)⟩
 ·refine⟨_,U,_,_,U,U,⟨Qz,Qz⟩,_,U,_,_,U,U,⟨Qz,Qz⟩,_,_,U,U,⟨Qz,Qz,Qz⟩,_,_,U,U,pw,kY,λl hl=>?_⟩
  exact q _ l [m / 9,0,m / 7 % (10:Int) ^ (30:Int).toNat] (aa.new hl _) hl af (λx hx=>by
   simp only[qu,qQ,or_false]at hx;rcases hx with rfl|rfl|rfl
   ·omega
   ·omega
   ·exact Q9 _ Qw) (by show 3<=4;decide)
 ·refine⟨_,U,_,_,U,U,⟨Qz,Qz⟩,_,_,U,U,Qz,_,U,Qw,Qw,?_⟩;have k4:0<=m / 9 % 4/\m / 9 % 4<=4:=Qw;refine g6 (λi ys σ H3=>(∃v,σ=[v,some (.int m)])/\H3=H/\∃xs:List Int,ys=xs.map V.int/\xs.length=i/\∀x∈xs,0<=x) ⟨⟨none,U⟩,U,[],U,U,λ_ h=>(nomatch h)⟩ ?_ (bi (m:=100) Qw) ?_ ?_
  ·rintro i ys σ H3 _ ⟨_,_,xs,rfl,h,_⟩;rw[q9,h];exact qe _
  ·rintro i ys σ H3 hi ⟨⟨v,rfl⟩,rfl,xs,rfl,hl,ho⟩;refine⟨_,U,_,U,_,_,U,U,IntMulOk.of_bits (dN ⟨Qz,Qz⟩) (dN ⟨Qw,Qw⟩),_,_,U,U,_,_,U,U,⟨Qw,Qw⟩,_,_,U,U,Qz,⟨_,U⟩,U,xs++[_],by rw[qO];rfl,by rw[qb,hl];rfl,λn hn=>?_⟩;rcases qh.mp hn with hn|hn
   ·exact ho n hn
   ·rw[qS.mp hn];exact Q9 _ Qz
  rintro ys σ3 H3 ⟨_,rfl,xs,rfl,hl,ho⟩ l hl';exact q _ l xs (aa.new hl' _) hl' af ho Qw
theorem kI(xs:List Int)(lo hi st:Option Int):∃ys:List Int,e8 (xs.map V.int) lo hi st=ys.map V.int/\ys.length=(e8 (xs.map V.int) lo hi st).length:=by
 have go:∀is:List Nat,∃ys:List Int,(is.filterMap λi=>(xs.map V.int)[i]?)=ys.map V.int:=by
  intro is
  induction is with
  |nil=>exact⟨[],U⟩
  |cons i is ih=>
   obtain⟨ys,e⟩:=ih
   cases h:xs[i]? with
   |none=>exact⟨ys,by rw[List.filterMap_cons_none (by rw[qE,h];rfl)];exact e⟩
   |some x=>exact⟨x::ys,by rw[List.filterMap_cons_some (b:=V.int x) (by rw[qE,h];rfl),e];rfl⟩
 obtain⟨ys,e⟩:=go (sliceRange (sliceBounds lo hi st (xs.map V.int).length).1 (sliceBounds lo hi st (xs.map V.int).length).2.1 (sliceBounds lo hi st (xs.map V.int).length).2.2);have e:e8 (xs.map V.int) lo hi st=ys.map V.int:=e;exact⟨ys,e,by rw[e,q9]⟩
theorem xf(T:Tx P w K mg a):aA P w K mg base CX0 3 a.Cq a.Cr ["_law_script","_law_way"] (n9 K):=by
 refine T.Ds.ok uM (λvs H Q E h=>?_) (λcdv A outer s H vs Q E hr h=>?_)
 ·obtain⟨_,_,_,rfl,_⟩:=h
  rfl
 obtain⟨l,ns,way,rfl,hl,n63,hw,q⟩:=h
 refine⟨_,(ag (aL (aE bd (ah bb (pq 1) ac) ac (az _)) (ai (ao cS)) aM)
  (ag (aL (aE bd (ah bb (pq 1) ac) ac (az _)) (ai (ao (bz ae))) aM)
  (ai (ao (ci (k:=2) (Nc:=["_law_k","_law_cell_here","_law_way"]) (js:=[1]) (show aS (am i7) ["_law_script","_law_way"] _ 2 ["_law_k","_law_cell_here","_law_way"] [1]from aS.mk U (by decide +kernel) (by decide +kernel) (by decide +kernel) U (by decide +kernel)) U (pE U T.DF (a8 (kK (pq 0) (bZ ac) (bZ ac) (bZ ac)) ae)) (λ_ _ _ _ _=>(gD 2 U (c5 (aV (i:=0) (show List.Nodup (["_law_k","_law_cell_here","_law_way"]:List Str)from by decide +kernel) U Oi) (c5 (aV (i:=1) (show List.Nodup (["_law_k","_law_cell_here","_law_way"]:List Str)from by decide +kernel) U Oi) dG)))) (λ_ _ _ _ _=>bY) (λ_ _ _ _ _=>(ba (xb T) (hr.mono Qz) U T.Fm T.Dr.kp T.Fl .nil ay (a8 (ah bC (pq 1) (pq 2)) (a8 (pq 0) ae))))))))),?_⟩
 refine⟨_,U,_,_,U,U,Qz,U,_,U,bj (λcc=>?_) (λcc=>?_)⟩
 ·exact q H .non [] (aa.refl _) (.inl ⟨U,U⟩) (qt _) λ_ h=>(nomatch h)
 refine⟨_,U,_,_,U,U,Qz,U,_,U,bj (λcc=>?_) (λcc=>?_)⟩
 ·exact⟨qt _,λz hz=>q _ (.ref z) [] (aa.new hz _) (.inr ⟨z,[],U,af,.nil⟩) (qt _) λ_ h=>(nomatch h)⟩
 obtain⟨ys,ey,yl⟩:=kI ns (some 6) (some 54) (some 3);have y16:ys.length<=16:=by rw[yl];exact kJ Qz Qz
 refine⟨_,U,_,U,_,U,_,U,l,_,U,hl,Qz,bi (m:=100) (by rw[<- yl];omega),λp hp=>?_⟩;rw[ey];refine⟨p,_,U,SqL.of af,?_⟩;have s1:=aa.new hp (.lst (ys.map V.int));have hp1:upd H p (.lst (ys.map V.int)) p=some (.lst (ys.map V.int)):=af;generalize upd H p (.lst (ys.map V.int))=H1 at s1 hp1;refine sD (K:=K) (l:=p) (xs:=ys.map V.int) (λi zs σ G=>(∃v v',σ=[v,v',some (.int way)])/\aa H1 G/\∃xss:List (List Int),xss.length=i/\RIs G zs xss/\∀r∈xss,r.length<=4/\∀x∈r,0<=x) ⟨⟨_,_,U⟩,aa.refl _,[],U,.nil,λ_ h=>(nomatch h)⟩ ?_ (bi (m:=100) (by rw[q9];omega)) ?_ ?_ ?_
 ·rintro i zs σ G ⟨_,_,xss,e,r,_⟩;rw[r.len,e];exact qe _
 ·rintro i zs σ G ⟨_,s2,_⟩;exact SqL.of (s2 _ _ hp1)
 ·rintro i x zs σ G pt hx ⟨⟨v,v',rfl⟩,s2,xss,e,r,ok⟩ hpt;rw[qE]at hx;obtain⟨n,hn,rfl⟩:=qP.mp hx;have il:=(qf.mp hn).1;refine⟨pt,_,U,SqT.of af,U,_,_,U,_,_,U,U,?_⟩;refine⟨_,U,_,U,_,_,U,U,_,U,_,_,U,⟨Qw,Qw⟩,λG' l' xs' s3 n3 h3 o3 l3=>?_⟩;have s4:=(aa.new hpt (.tup [.int (i:Int),.int n])).trans s3;refine⟨⟨_,_,U⟩,s2.trans s4,xss++[xs'],by rw[qb,e];rfl,(r.same s4).snoc h3,λr' hr'=>?_⟩;rcases qh.mp hr' with h|h
  ·exact ok r' h
  ·rw[qS.mp h];exact⟨l3,o3⟩
 rintro zs σ G ⟨_,s2,xss,e,r,ok⟩ l2 hl2;rw[q9]at e;exact q _ (.ref l2) xss (s1.trans (s2.trans (aa.new hl2 _))) (.inr ⟨l2,zs,U,af,r.same (aa.new hl2 _)⟩) Qw ok
def ca:PR->List Int
 |.pass ins _ _=>ins
 |.work ins _ _ _ _=>ins
 |.choose ins _ _ _ _=>ins
 |.merge t o n _=>o++n++[t]
def kU:PR->List Int
 |.pass _ outs _=>outs
 |.work _ out _ _ _=>[out]
 |.choose _ _ o n t=>o++n++[t]
 |.merge _ _ _ outs=>outs
theorem Fit.up{nl nl':Nat}{xs:List Int}(h:Fit nl xs)(le:nl<=nl'):Fit nl' xs:=⟨h.lo,λx hx=>by have:=h.hi x hx;omega,h.nd⟩
structure bG(H:Hp)(lt lg lm:Addr)(Ut Ug ts gs:List Int)(m:Nat):Prop where
 t:H lt=some (.lst (ts.map V.int))
 g:H lg=some (.lst (gs.map V.int))
 l:H lm=some (.lst [.int m])
 ne:lt≠lg/\lt≠lm/\lg≠lm
 pt:br m (Ut++ts)
 pg:br m (Ug++gs)
def bM(lt lg lm:Addr)(H:Hp):Hp:=λc=>if c=lt\/c=lg\/c=lm then none else H c
section
variable {lt lg lm:Addr}{H H':Hp}{Ut Ug ts gs ts' gs':List Int}{m m':Nat}
theorem iI:aa (bM lt lg lm H) H:=λc o h=>by
 have h:(if c=lt\/c=lg\/c=lm then none else H c)=some o:=h;split at h
 ·cases h
 ·exact h
theorem iJ{c:Addr}{o:HO}(h1:c≠lt)(h2:c≠lg)(h3:c≠lm)(h:H c=some o):bM lt lg lm H c=some o:=by
 show(if c=lt\/c=lg\/c=lm then none else H c)=_;rw[qZ (by rintro(z|z|z);exact h1 z;exact h2 z;exact h3 z)];exact h
theorem cV(h:∀c o,c≠lt->c≠lg->c≠lm->H c=some o->H' c=some o):aa (bM lt lg lm H) (bM lt lg lm H'):=λc o e=>by
 have e:(if c=lt\/c=lg\/c=lm then none else H c)=some o:=e;split at e
 ·cases e
 ·rename_i n;exact iJ (λz=>n (.inl z)) (λz=>n (.inr (.inl z))) (λz=>n (.inr (.inr z))) (h c o (λz=>n (.inl z)) (λz=>n (.inr (.inl z))) (λz=>n (.inr (.inr z))) e)
theorem bG.tup(P:bG H lt lg lm Ut Ug ts gs m){c:Addr}{xs:List V}(h:H c=some (.tup xs)):bM lt lg lm H c=some (.tup xs):=
 iJ (λz=>by rw[z,P.t]at h;cases h) (λz=>by rw[z,P.g]at h;cases h) (λz=>by rw[z,P.l]at h;cases h) h
theorem bG.same(P:bG H lt lg lm Ut Ug ts gs m)(s:aa H H'):bG H' lt lg lm Ut Ug ts gs m:=⟨s _ _ P.t,s _ _ P.g,s _ _ P.l,P.ne,P.pt,P.pg⟩
theorem bG.hid(s:aa H H'):aa (bM lt lg lm H) (bM lt lg lm H'):=cV λc o _ _ _ h=>s c o h
theorem bG.swap(P:bG H lt lg lm Ut Ug ts gs m):bG H lg lt lm Ug Ut gs ts m:=⟨P.g,P.t,P.l,⟨Ne.symm P.ne.1,P.ne.2.2,P.ne.2.1⟩,P.pg,P.pt⟩
end
theorem Fit.perm{nl:Nat}{xs ys:List Int}(h:Fit nl ys)(p:xs.Perm ys):Fit nl xs:=⟨λx hx=>h.lo x (p.mem_iff.mp hx),λx hx=>h.hi x (p.mem_iff.mp hx),(p.map Int.toNat).nodup_iff.mpr h.nd⟩
theorem zM(xs:List Int){n m:Int}(h0:0<=n)(h1:n<=m)(h2:m<=xs.length):c6 (xs.map V.int) (some n) (some m)=((xs.drop n.toNat).take (m.toNat-n.toNat)).map V.int:=by
 unfold c6
 have e1:HT.sIx (xs.map V.int).length 0 (some n)=n.toNat:=by
  have:=HT.sIx_nat (xs.map V.int).length 0 n.toNat;rw[Int.toNat_of_nonneg h0]at this;rw[this,q9];omega
 have e2:HT.sIx (xs.map V.int).length (xs.map V.int).length (some m)=m.toNat:=by
  have:=HT.sIx_nat (xs.map V.int).length (xs.map V.int).length m.toNat;rw[Int.toNat_of_nonneg Qw]at this;rw[this,q9];omega
 rw[e1,e2,<- List.map_drop,<- List.map_take]
theorem mC(xs:List Int){w:Int}(w1:1<=w)(h:(xs.length:Int)=2 * w+1):∃A B:List Int,∃t:Int,xs=A++B++[t]/\(A.length:Int)=w/\(B.length:Int)=w/\c6 (xs.map V.int) none (some w)=A.map V.int/\c6 (xs.map V.int) (some w) (some (2 * w))=B.map V.int/\atI (xs.map V.int) (2 * w)=some (.int t)/\¬ (HT.sIx (xs.map V.int).length 0 none=0/\HT.sIx (xs.map V.int).length (xs.map V.int).length (some w)=(xs.map V.int).length)/\¬ (HT.sIx (xs.map V.int).length 0 (some w)=0/\HT.sIx (xs.map V.int).length (xs.map V.int).length (some (2 * w))=(xs.map V.int).length):=by
 have lt:(2 * w).toNat<xs.length:=Qw;refine⟨xs.take w.toNat,(xs.drop w.toNat).take ((2 * w).toNat-w.toNat),xs[(2 * w).toNat],?_,?_,?_,zN xs Qw Qw,zM xs Qw Qw Qw,eN Qw (by rw[qE,qc lt];rfl),λz=>?_,λz=>?_⟩
 ·rw[qN]
  conv=>lhs;rw[<- Qt w.toNat xs]
  congr 1
  conv=>lhs;rw[<- Qt ((2 * w).toNat-w.toNat) (xs.drop w.toNat)]
  congr 1
  rw[List.drop_drop,show w.toNat+((2 * w).toNat-w.toNat)=(2 * w).toNat by omega,List.drop_eq_getElem_cons lt,List.drop_eq_nil_of_le (by omega)]
 ·rw[qK];omega
 ·rw[qK,qY];omega
 ·have:=HT.sIx_nat (xs.map V.int).length (xs.map V.int).length w.toNat;rw[Int.toNat_of_nonneg Qw]at this;rw[this,q9]at z;omega
 ·have:=HT.sIx_nat (xs.map V.int).length 0 w.toNat;rw[Int.toNat_of_nonneg Qw]at this;rw[this,q9]at z;omega
theorem sf{m:Nat}{A B:List Int}{t:Int}(h:Fit m (A++B++[t])):Fit m (A++[t])/\Fit m (B++[t])/\Fit m (t::A)/\Fit m (t::B):=by
 have f1:Fit m (A++[t]):=h.sub ((List.sublist_append_left A B).append (List.Sublist.refl _));have f2:Fit m (B++[t]):=h.sub ((List.sublist_append_right A B).append (List.Sublist.refl _));exact⟨f1,f2,f1.perm (List.perm_append_comm (l₁:=[t])),f2.perm (List.perm_append_comm (l₁:=[t]))⟩
theorem PR.fit_up{nl nl':Nat}(le:nl<=nl'):∀{r:PR},r.fit nl->r.fit nl'
 |.pass ..,h=>⟨h.1.up le,h.2.up le⟩
 |.work ..,h=>⟨h.1.up le,h.2.up le⟩
 |.choose ..,h=>⟨h.1.up le,h.2.1.up le,h.2.2.up le⟩
 |.merge ..,h=>⟨h.1.up le,h.2.1.up le,h.2.2.up le⟩
inductive n8(K:W.Frag)(vs:List V)(H:Hp)(Q:VK)(E:XK):Prop
 |mk (c k:Int) (lt lg lm:Addr) (Ut Ug ts gs:List Int) (m:Nat) (h0_:vs=[.int c,.int k,.ref lt,.ref lg,.ref lm]) (h1_:(0<=k/\k<=1000)) (h2_:bG H lt lg lm Ut Ug ts gs m) (h3_:m<=700) (h4_:∀H' v r ts' gs' m',aa (bM lt lg lm H) (bM lt lg lm H')->bG H' lt lg lm (Ut++ca r) (Ug++kU r) ts' gs' m'->m<=m'->m'<=m+10->RR (bM lt lg lm H') v r->r.ok->r.fit m'->r.sgOk->Q v H'):n8 K vs H Q E
theorem xc(T:Tx P w K mg a):aA P w K mg base CX0 3 a.Ck a.Cl ["_law_cell_here","_law_k","_law_takers","_law_givers","_law_lines"] (n8 K):=by
 refine T.Do.ok cP (λvs H Q E h=>?_) (λcdv A outer s H vs Q E hr h=>?_)
 ·obtain⟨_,_,_,_,_,_,_,_,_,_,rfl,_⟩:=h
  rfl
 obtain⟨c,k,lt,lg,lm,Ut,Ug,ts,gs,m,rfl,hk,P0,m7,q⟩:=h
 refine⟨_,(ag (aQ (i:=5) cP.nd U Oi (ba (fS T) (hr.mono Qz) U T.Aw T.Aq.kp T.Av .nil ay (a8 (pq 0) (a8 (pq 1) ae))))
  (ag (aQ (i:=6) cP.nd U (Or.inr U) (ba (fS T) (hr.mono Qz) U T.Aw T.Aq.kp T.Av .nil ay (a8 (pq 0) (a8 (ah bC (pq 1) ac) ae))))
  (ag (aQ (i:=7) cP.nd U (Or.inr U) (ah bC ac (ah bb (ah bL (pq 5) ac) ac)))
  (ag (aL (aE fN (ah bb (pq 5) ac) ac (az _)) (ag (aQ (i:=8) cP.nd U Oi (ba (eD T) (hr.mono Qz) U T.Ao T.xz.kp T.An .nil ay (a8 (pq 2) (a8 (pq 3) (a8 (pq 4) (a8 (pq 7) (a8 (pq 6) ae)))))))
  (ag (aQ (i:=9) cP.nd U Oi (ba (eD T) (hr.mono Qz) U T.Ao T.xz.kp T.An .nil ay (a8 (pq 3) (a8 (pq 2) (a8 (pq 4) (a8 (ah bb (ah bL (pq 5) ac) ac) (a8 (ah bL (pq 6) ac) ae)))))))
  (ai (ao (bw (a8 bo (a8 (pq 8) (a8 (pq 9) (a8 (ir lR U T.CZ PyProof.Rows.Boot.«tuple» (a8 (ci (k:=1) (Nc:=["_law_j","_law_w","_law_n"]) (js:=[7,6]) (show aS (am i6) ["_law_cell_here","_law_k","_law_takers","_law_givers","_law_lines","_law_m","_law_n","_law_w","_law_ins","_law_outs","_law_out","_law_left","_law_at"] _ 1 ["_law_j","_law_w","_law_n"] [7,6]from aS.mk U (by decide +kernel) (by decide +kernel) (by decide +kernel) U (by decide +kernel)) U (dh U T.wS (a8 (bI bX U T.mt Q7 (a8 (pq 9) ae)) ae)) (λ_ _ _ _ _=>(aV (i:=0) (show List.Nodup (["_law_j","_law_w","_law_n"]:List Str)from by decide +kernel) U Oi)) (λ_ _ _ _ _=>bY) (λ_ _ _ _ _=>(ah bb (ah bL (pq 2) (ah bC ac (pq 0))) (pq 1)))) ae)) ae))))))))) aM)
  (ag (aL (aE fN (ah bb (pq 5) ac) ac (az _)) (ag (aQ (i:=8) cP.nd U Oi (ba (eD T) (hr.mono Qz) U T.Ao T.xz.kp T.An .nil ay (a8 (pq 2) (a8 (pq 3) (a8 (pq 4) (a8 (pq 7) (a8 (pq 6) ae)))))))
  (ag (aQ (i:=10) cP.nd U Oi (ak aH (ba (eD T) (hr.mono Qz) U T.Ao T.xz.kp T.An .nil ay (a8 (pq 3) (a8 (pq 2) (a8 (pq 4) (a8 ac (a8 (ah bL (pq 6) ac) ae)))))) ac Oy))
  (ag (aQ (i:=11) cP.nd U Oi (ba (pM T) (hr.mono Qz) U T.Dn T.CV.kp T.Dm .nil ay (a8 (ah bb (ah bL (pq 5) ac) ac) (a8 (pq 7) (a8 (pq 0) ae)))))
  (ai (ao (bw (a8 bo (a8 (pq 8) (a8 (pq 10) (a8 (ak yV bo (ah bb (pq 6) ac) Oy) (a8 (pq 11) (a8 (ba (pM T) (hr.mono Qz) U T.Dn T.CV.kp T.Dm .nil ay (a8 (ah bb (ah bL (pq 5) ac) ac) (a8 (pq 7) (a8 (pq 0) ae)))) ae)))))))))))) aM)
  (ag (aL (aE fN (ah bb (pq 5) ac) ac (az _)) (ag (aQ (i:=8) cP.nd U Oi (ba (eD T) (hr.mono Qz) U T.Ao T.xz.kp T.An .nil ay (a8 (pq 2) (a8 (pq 3) (a8 (pq 4) (a8 (pq 7) (a8 (pq 6) ae)))))))
  (ag (aQ (i:=12) cP.nd U Oi (ba (eD T) (hr.mono Qz) U T.Ao T.xz.kp T.An .nil ay (a8 (pq 3) (a8 (pq 2) (a8 (pq 4) (a8 (ah bC (ah c8 ac (pq 7)) ac) (a8 (ah bL (pq 6) ac) ae)))))))
  (ai (ao (bw (a8 bo (a8 (pq 8) (a8 (ah bb (ah bL (pq 6) ac) (pq 7)) (a8 (eu gm (pq 12) fP (bZ (pq 7))) (a8 (eu gm (pq 12) (bZ (pq 7)) (bZ (ah c8 ac (pq 7)))) (a8 (ak aH (pq 12) (ah c8 ac (pq 7)) Oy) ae))))))))))) aM)
  (ag (aQ (i:=12) cP.nd U Oi (ba (eD T) (hr.mono Qz) U T.Ao T.xz.kp T.An .nil ay (a8 (pq 2) (a8 (pq 3) (a8 (pq 4) (a8 (ah bC (ah c8 ac (pq 7)) ac) (a8 (pq 6) ae)))))))
  (ag (aQ (i:=9) cP.nd U Oi (ba (eD T) (hr.mono Qz) U T.Ao T.xz.kp T.An .nil ay (a8 (pq 3) (a8 (pq 2) (a8 (pq 4) (a8 (pq 7) (a8 (ah bL (pq 6) ac) ae)))))))
  (ai (ao (bw (a8 bo (a8 (ak aH (pq 12) (ah c8 ac (pq 7)) Oy) (a8 (eu gm (pq 12) fP (bZ (pq 7))) (a8 (eu gm (pq 12) (bZ (pq 7)) (bZ (ah c8 ac (pq 7)))) (a8 (pq 9) ae)))))))))))))))),?_⟩
 refine⟨_,U,_,U,_,_,U,⟨Qw,Qw⟩,λx x0 x1=>?_⟩;refine⟨_,U,_,U,_,_,U,U,_,_,U,⟨Qw,Qw⟩,λn n0 n1=>?_⟩;refine⟨_,U,_,_,U,U,⟨Qz,Qz⟩,_,_,U,U,Qz,_,_,U,U,?_⟩;have w0:1<=1+x / 7 % 2/\1+x / 7 % 2<=2:=Qw;generalize 1+x / 7 % 2=wd at w0 ⊢;have n31:0<=n / 31/\n / 31<2147483647:=Qw;dsimp only[aO];refine⟨_,U,_,_,U,U,Qz,_,_,U,U,_,U,bj (λ_=>?_) (λ_=>?_)⟩
 ·refine⟨_,U,_,U,_,U,_,U,_,U,lt,lg,lm,ts,gs,Ut,Ug,m,wd,n,U,P0.t,P0.g,P0.l,P0.ne,P0.pt,P0.pg,Qw,⟨Qw,Qw⟩,⟨n0,n1⟩,λH1 p1 ins ts1 gs1 m1 f1 t1 g1 l1 h1 e1 il pt1 pg1 a1 b1=>?_⟩;have pi:br m1 ins:=pt1.sub ((List.sublist_append_right Ut ins).trans (List.sublist_append_left _ _));have P1:bG H1 lt lg lm (Ut++ins) Ug ts1 gs1 m1:=⟨t1,g1,l1,P0.ne,pt1,pg1⟩;dsimp only[aO];have o0:0<=x / 14 % 3/\x / 14 % 3<=2:=Qw;refine⟨_,U,_,U,_,U,_,U,_,_,U,U,⟨Qz,Qz⟩,_,_,U,U,Qz,_,U,_,_,U,U,⟨Qz,Qz⟩,lg,lt,lm,gs1,ts1,Ug,Ut++ins,m1,x / 14 % 3,n / 31,U,g1,t1,l1,P1.swap.ne,pg1,pt1,Qw,⟨Qw,Qw⟩,n31,λH2 p2 outs gs2 ts2 m2 f2 g2 t2 l2 h2 e2 ol pg2 pt2 a2 b2=>?_⟩;have po:br m2 outs:=pg2.sub ((List.sublist_append_right Ug outs).trans (List.sublist_append_left _ _));have P2:bG H2 lt lg lm (Ut++ins) (Ug++outs) ts2 gs2 m2:=⟨t2,g2,l2,P0.ne,pt2,pg2⟩;have sh:aa (bM lt lg lm H) (bM lt lg lm H2):=(cV f1).trans (cV λc o c1 c2 c3 h=>f2 c o c2 c1 c3 h);have k1:=(cV (H':=H2) λc o c1 c2 c3 h=>f2 c o c2 c1 c3 h) _ _ (P1.tup h1);have k2:=P2.tup h2;dsimp only[aO];refine⟨_,U,_,U,_,U,p2,_,U,.inr (SqT.of h2),_,U,by rw[q9];omega,by rw[q9];omega,?_⟩;refine g6 (λi ys σ G=>(∃v,σ=[v,some (.int wd),some (.int n)])/\G=H2/\∃rs:List Int,ys=rs.map V.int/\rs.length=i/\∀r∈rs,0<=r/\r<wd) ⟨⟨none,U⟩,U,[],U,U,λ_ h=>(nomatch h)⟩ ?_ (bi (m:=100) (by rw[q9];omega)) ?_ ?_
  ·rintro i ys σ G _ ⟨_,_,rs,rfl,h,_⟩;rw[q9,h];exact qe _
  ·rintro i ys σ G hi ⟨⟨v,rfl⟩,rfl,rs,rfl,hl,hrs⟩;have i3:i<5:=by rw[q9]at hi;omega
   refine⟨_,U,_,U,_,_,U,U,_,_,U,U,⟨Qw,Qw⟩,_,U,_,_,U,U,Qw,⟨_,U⟩,U,rs++[_],by rw[qO];rfl,by rw[qb,hl];rfl,λr hr=>?_⟩;rcases qh.mp hr with hr|hr
   ·exact hrs r hr
   ·rw[qS.mp hr];exact⟨Q9 _ Qw,Qe _ Qw⟩
  rintro ys σ3 H3 ⟨_,rfl,rs,rfl,hl,hrs⟩ lr hlr;refine⟨lr,_,U,.inl ⟨SqL.of af,λtr htr=>⟨ln4,λpp hpp=>?_⟩⟩⟩;have s3:=((aa.new hlr (.lst (rs.map V.int))).trans (aa.new htr (.tup (rs.map V.int)))).trans (aa.new hpp (.tup [.str "pass",.ref p1,.ref p2,.ref tr]));have P3:=P2.same s3;have sh3:=bG.hid (lt:=lt) (lg:=lg) (lm:=lm) s3;refine q _ _ (.pass ins outs rs) ts2 gs2 m2 (sh.trans sh3) P3 Qw Qw (.pass (P3.tup af) (sh3 _ _ k1) (sh3 _ _ k2) (P3.tup (aa.new hpp _ _ _ af))) ⟨?_,Qw,Qw,λr hr=>?_⟩ ⟨pi.fit.up Qw,po.fit⟩ trivial
  ·rw[hl,q9];simp
  ·have:=hrs r hr;omega
 refine⟨_,U,_,_,U,U,Qz,_,_,U,U,_,U,bj (λ_=>?_) (λ_=>?_)⟩
 ·refine⟨_,U,_,U,_,U,_,U,_,U,lt,lg,lm,ts,gs,Ut,Ug,m,wd,n,U,P0.t,P0.g,P0.l,P0.ne,P0.pt,P0.pg,Qw,⟨Qw,Qw⟩,⟨n0,n1⟩,λH1 p1 ins ts1 gs1 m1 f1 t1 g1 l1 h1 e1 il pt1 pg1 a1 b1=>?_⟩;have pi:br m1 ins:=pt1.sub ((List.sublist_append_right Ut ins).trans (List.sublist_append_left _ _));have P1:bG H1 lt lg lm (Ut++ins) Ug ts1 gs1 m1:=⟨t1,g1,l1,P0.ne,pt1,pg1⟩;dsimp only[aO];refine⟨_,U,_,U,_,U,_,U,_,_,U,U,⟨Qz,Qz⟩,lg,lt,lm,gs1,ts1,Ug,Ut++ins,m1,1,n / 31,U,g1,t1,l1,P1.swap.ne,pg1,pt1,Qw,⟨Qw,Qw⟩,n31,λH2 p2 outs gs2 ts2 m2 f2 g2 t2 l2 h2 e2 ol pg2 pt2 a2 b2=>?_⟩;have po:br m2 outs:=pg2.sub ((List.sublist_append_right Ug outs).trans (List.sublist_append_left _ _));have P2:bG H2 lt lg lm (Ut++ins) (Ug++outs) ts2 gs2 m2:=⟨t2,g2,l2,P0.ne,pt2,pg2⟩;have sh:aa (bM lt lg lm H) (bM lt lg lm H2):=(cV f1).trans (cV λc o c1 c2 c3 h=>f2 c o c2 c1 c3 h);have k1:=(cV (H':=H2) λc o c1 c2 c3 h=>f2 c o c2 c1 c3 h) _ _ (P1.tup h1)
  obtain⟨o,rfl⟩:∃o,outs=[o]:=by
   match outs,ol with
   |[o],_=>exact⟨o,U⟩
   |[],z=>simp at z
   |_::_::_,z=>simp at z;omega
  refine⟨p2,_,_,_,U,U,SqT.of h2,U,?_⟩;dsimp only[aO];refine⟨_,U,_,_,U,U,⟨Qz,Qz⟩,_,_,U,U,Qz,_,U,_,U,_,_,_,U,⟨Qw,Qw⟩,Qw,λH3 v3 sd3 s3 rs3 ok3=>?_⟩;dsimp only[aO];refine⟨_,U,_,U,_,U,_,_,U,U,Qz,_,_,_,U,U,Qz,uA n,_,U,_,U,_,_,U,U,⟨Qz,Qz⟩,_,_,U,U,Qz,_,U,_,U,_,_,_,U,⟨Qw,Qw⟩,Qw,λH4 v4 sd4 s4 rs4 ok4=>⟨ln6,λpp hpp=>?_⟩⟩
  have fin:∀sg:Str,PyData.strOk sg=true->Q (V.ref pp) (upd H4 pp (.tup [.str "work",.ref p1,.int o,.str sg,v3,v4])):=λsg hsg=>by
   have s5:=(s3.trans s4).trans (aa.new hpp (.tup [.str "work",.ref p1,.int o,.str sg,v3,v4]));have P5:=P2.same s5;have sh5:=bG.hid (lt:=lt) (lg:=lg) (lm:=lm) s5;have side:∀{v:V}{sd:Sd},RS (upd H4 pp (.tup [.str "work",.ref p1,.int o,.str sg,v3,v4])) v sd->RS (bM lt lg lm (upd H4 pp (.tup [.str "work",.ref p1,.int o,.str sg,v3,v4]))) v sd:=λh=>h.keep λb ys hb=>P5.tup hb;refine q _ _ (.work ins o sg sd3 sd4) ts2 gs2 m2 (sh.trans sh5) P5 Qw Qw (.work (P5.tup af) (sh5 _ _ k1) (side ((rs3.same s4).same (aa.new hpp _))) (side (rs4.same (aa.new hpp _)))) ⟨Qw,?_,?_⟩ ⟨pi.fit.up Qw,po.fit⟩ hsg
   ·rw[show ins.length=wd.toNat by omega];exact ok3
   ·rw[show ins.length=wd.toNat by omega];exact ok4
  exact fin _ (uz n)
 refine⟨_,U,_,_,U,U,Qz,_,_,U,U,_,U,bj (λ_=>?_) (λ_=>?_)⟩
 ·refine⟨_,U,_,U,_,U,_,U,_,U,lt,lg,lm,ts,gs,Ut,Ug,m,wd,n,U,P0.t,P0.g,P0.l,P0.ne,P0.pt,P0.pg,Qw,⟨Qw,Qw⟩,⟨n0,n1⟩,λH1 p1 ins ts1 gs1 m1 f1 t1 g1 l1 h1 e1 il pt1 pg1 a1 b1=>?_⟩;have pi:br m1 ins:=pt1.sub ((List.sublist_append_right Ut ins).trans (List.sublist_append_left _ _));have P1:bG H1 lt lg lm (Ut++ins) Ug ts1 gs1 m1:=⟨t1,g1,l1,P0.ne,pt1,pg1⟩;dsimp only[aO];have mb:IntMulOk 2 wd:=IntMulOk.of_right (intBits_le_64 Qw Qw);refine⟨_,U,_,U,_,U,_,U,_,_,U,U,mb,_,_,U,U,_,U,_,_,U,U,⟨Qz,Qz⟩,lg,lt,lm,gs1,ts1,Ug,Ut++ins,m1,2 * wd+1,n / 31,U,g1,t1,l1,P1.swap.ne,pg1,pt1,Qw,⟨Qw,Qw⟩,n31,λH2 p2 outs gs2 ts2 m2 f2 g2 t2 l2 h2 e2 ol pg2 pt2 a2 b2=>?_⟩;have po:br m2 outs:=pg2.sub ((List.sublist_append_right Ug outs).trans (List.sublist_append_left _ _));have P2:bG H2 lt lg lm (Ut++ins) (Ug++outs) ts2 gs2 m2:=⟨t2,g2,l2,P0.ne,pt2,pg2⟩;have sh:aa (bM lt lg lm H) (bM lt lg lm H2):=(cV f1).trans (cV λc o c1 c2 c3 h=>f2 c o c2 c1 c3 h);have k1:=(cV (H':=H2) λc o c1 c2 c3 h=>f2 c o c2 c1 c3 h) _ _ (P1.tup h1);obtain⟨A3,B3,t3,eo,lA,lB,cA,cB,cT,nA,nB⟩:=mC outs w0.1 ol;have f3:=sf (eo▸po.fit);dsimp only[aO];refine⟨_,U,_,U,_,_,U,U,⟨Qz,Qz⟩,_,U,_,_,U,U,Qw,_,U,_,U,_,U,p2,_,U,SqT.of h2,nA,λtA htA=>?_⟩;rw[cA];have sA:=aa.new htA (.tup (A3.map V.int));refine⟨_,U,_,U,_,U,_,U,_,_,U,U,mb,_,U,p2,_,U,SqT.of (sA _ _ h2),nB,λtB htB=>?_⟩;rw[cB];have sB:=aa.new htB (.tup (B3.map V.int));refine⟨_,U,_,U,_,_,U,U,mb,p2,_,_,_,U,U,SqT.of (sB _ _ (sA _ _ h2)),cT,ln6,λpp hpp=>?_⟩;have sp:=aa.new hpp (.tup [.str "choose",.ref p1,.int (n / 7 % wd),.ref tA,.ref tB,.int t3]);have s5:=(sA.trans sB).trans sp;have P5:=P2.same s5;have sh5:=bG.hid (lt:=lt) (lg:=lg) (lm:=lm) s5;have:=Qe (n / 7) (show 0<wd by omega);exact q _ _ (.choose ins (n / 7 % wd) A3 B3 t3) ts2 gs2 m2 (sh.trans sh5) (by rw[eo]at P5;exact P5) Qw Qw (.choose (P5.tup af) (sh5 _ _ k1) (P5.tup (sp _ _ (sB _ _ af))) (P5.tup (sp _ _ af))) ⟨Q9 _ Qw,Qw,Qw,Qw,Qw⟩ ⟨pi.fit.up Qw,f3.1,f3.2.1⟩ trivial
 ·have mb:IntMulOk 2 wd:=IntMulOk.of_right (intBits_le_64 Qw Qw);refine⟨_,U,_,U,_,U,_,U,_,_,U,U,mb,_,_,U,U,_,U,lt,lg,lm,ts,gs,Ut,Ug,m,2 * wd+1,n,U,P0.t,P0.g,P0.l,P0.ne,P0.pt,P0.pg,Qw,⟨Qw,Qw⟩,⟨n0,n1⟩,λH1 p1 ins ts1 gs1 m1 f1 t1 g1 l1 h1 e1 il pt1 pg1 a1 b1=>?_⟩;have pi:br m1 ins:=pt1.sub ((List.sublist_append_right Ut ins).trans (List.sublist_append_left _ _));have P1:bG H1 lt lg lm (Ut++ins) Ug ts1 gs1 m1:=⟨t1,g1,l1,P0.ne,pt1,pg1⟩;dsimp only[aO];refine⟨_,U,_,U,_,U,_,U,_,U,_,_,U,U,⟨Qz,Qz⟩,lg,lt,lm,gs1,ts1,Ug,Ut++ins,m1,wd,n / 31,U,g1,t1,l1,P1.swap.ne,pg1,pt1,Qw,⟨Qw,Qw⟩,n31,λH2 p2 outs gs2 ts2 m2 f2 g2 t2 l2 h2 e2 ol pg2 pt2 a2 b2=>?_⟩;have po:br m2 outs:=pg2.sub ((List.sublist_append_right Ug outs).trans (List.sublist_append_left _ _));have P2:bG H2 lt lg lm (Ut++ins) (Ug++outs) ts2 gs2 m2:=⟨t2,g2,l2,P0.ne,pt2,pg2⟩;have sh:aa (bM lt lg lm H) (bM lt lg lm H2):=(cV f1).trans (cV λc o c1 c2 c3 h=>f2 c o c2 c1 c3 h);have k1:=(cV (H':=H2) λc o c1 c2 c3 h=>f2 c o c2 c1 c3 h) _ _ (P1.tup h1);have h1':=iI _ _ k1;obtain⟨A3,B3,t3,eo,lA,lB,cA,cB,cT,nA,nB⟩:=mC ins w0.1 il;have f3:=sf (eo▸pi.fit);dsimp only[aO];refine⟨_,U,_,U,_,_,U,U,mb,p1,_,_,_,U,U,SqT.of h1',cT,?_⟩;refine⟨_,U,_,U,_,U,p1,_,U,SqT.of h1',nA,λtA htA=>?_⟩;rw[cA];have sA:=aa.new htA (.tup (A3.map V.int));refine⟨_,U,_,U,_,U,_,U,_,_,U,U,mb,_,U,p1,_,U,SqT.of (sA _ _ h1'),nB,λtB htB=>?_⟩;rw[cB];have sB:=aa.new htB (.tup (B3.map V.int));refine⟨_,U,ln5,λpp hpp=>?_⟩;have sp:=aa.new hpp (.tup [.str "merge",.int t3,.ref tA,.ref tB,.ref p2]);have s5:=(sA.trans sB).trans sp;have P5:=P2.same s5;have sh5:=bG.hid (lt:=lt) (lg:=lg) (lm:=lm) s5;have u:=f3.2.2;exact q _ _ (.merge t3 A3 B3 outs) ts2 gs2 m2 (sh.trans sh5) (by rw[eo]at P5;exact P5) Qw Qw (.merge (P5.tup af) (P5.tup (sp _ _ (sB _ _ af))) (P5.tup (sp _ _ af)) (sh5 _ _ (P2.tup h2))) ⟨Qw,Qw,Qw⟩ ⟨u.1.up Qw,u.2.up Qw,po.fit⟩ trivial
theorem RRs.snoc{H:Hp}{v:V}{r:PR}(h:RR H v r):∀{vs:List V}{rs:List PR},RRs H vs rs->RRs H (vs++[v]) (rs++[r])
 |_,_,.nil=>.cons h .nil
 |_,_,.cons a b=>.cons a (RRs.snoc h b)
theorem pD(m:Nat):br m ((List.range m).map λk:Nat=>(k:Int)):=by
 refine⟨List.nodup_iff_pairwise_ne.mpr (List.pairwise_map.mpr ((List.nodup_iff_pairwise_ne.mp List.nodup_range).imp λh e=>h Qw)),λx hx=>?_⟩;obtain⟨k,hk,rfl⟩:=List.mem_map.mp hx;have:=List.mem_range.mp hk;omega
inductive nh(K:W.Frag)(vs:List V)(H:Hp)(Q:VK)(E:XK):Prop
 |mk (l:Addr) (ns:List Int) (h0_:vs=[.ref l]) (h1_:SqL K H l (ns.map V.int)) (h2_:ns.length<=63) (h3_:∀H' t ll lp us ps xs rs,aa H H'->H' t=some (.tup [.ref ll,.ref lp])->H' ll=some (.lst us)->RLn H' us xs->H' lp=some (.lst ps)->RRs H' ps rs->rs.length<=16->xs.length<=1000->(∀x∈xs,x.2.length<=4/\∀n∈x.2,OnW n)->(∀r∈rs,r.ok/\r.fit xs.length)->(∀r∈rs,r.sgOk)->(rs.flatMap ca).Nodup->(rs.flatMap kU).Nodup->0<xs.length->Q (.ref t) H'):nh K vs H Q E
theorem xg(T:Tx P w K mg a):aA P w K mg base CX0 4 a.Cm a.Cn ["_law_script"] (nh K):=by
 refine T.Dp.ok dS (λvs H Q E h=>?_) (λcdv A outer s H vs Q E hr h=>?_)
 ·obtain⟨_,_,rfl,_⟩:=h
  rfl
 obtain⟨l,ns,rfl,hl,n63,q⟩:=h
 refine⟨_,(ag (aQ (i:=1) dS.nd U Oi (kK (pq 0) (bZ ac) (bZ ac) (bZ ac)))
  (ag (aQ (i:=2) dS.nd U (Or.inr U) (bz (a8 (ah bC ac (ah bb (ba (fS T) (hr.mono Qz) U T.Aw T.Aq.kp T.Av .nil ay (a8 (ba (kP T) (hr.mono Qz) U T.CT T.AJ.kp T.CS .nil ay (a8 (pq 0) (a8 ac ae))) (a8 ac ae))) ac)) ae)))
  (ag (aQ (i:=3) dS.nd U (Or.inr U) (ci (k:=1) (Nc:=["_law_k"]) (js:=[]) (show aS (am eY) ["_law_script","_law_cells","_law_many","_law_takers","_law_givers","_law_parts","_law_seeds","_law_lines"] _ 1 ["_law_k"] []from aS.mk U (by decide +kernel) (by decide +kernel) (by decide +kernel) U (by decide +kernel)) U (dh U T.wS (a8 (ak aY (pq 2) ac Oy) ae)) (λ_ _ _ _ _=>(aV (i:=0) (show List.Nodup (["_law_k"]:List Str)from by decide +kernel) U Oi)) (λ_ _ _ _ _=>bY) (λ_ _ _ _ _=>(pq 0))))
  (ag (aQ (i:=4) dS.nd U (Or.inr U) (ci (k:=1) (Nc:=["_law_k"]) (js:=[]) (show aS (am eY) ["_law_script","_law_cells","_law_many","_law_takers","_law_givers","_law_parts","_law_seeds","_law_lines"] _ 1 ["_law_k"] []from aS.mk U (by decide +kernel) (by decide +kernel) (by decide +kernel) U (by decide +kernel)) U (dh U T.wS (a8 (ak aY (pq 2) ac Oy) ae)) (λ_ _ _ _ _=>(aV (i:=0) (show List.Nodup (["_law_k"]:List Str)from by decide +kernel) U Oi)) (λ_ _ _ _ _=>bY) (λ_ _ _ _ _=>(pq 0))))
  (ag (ik (i:=5) dS.nd U Oi (k:=2) (Nc:=["_law_k","_law_cell_here","_law_takers","_law_givers","_law_many"]) (js:=[3,4,2]) (show aS (am eY) ["_law_script","_law_cells","_law_many","_law_takers","_law_givers","_law_parts","_law_seeds","_law_lines"] _ 2 ["_law_k","_law_cell_here","_law_takers","_law_givers","_law_many"] [3,4,2]from aS.mk U (by decide +kernel) (by decide +kernel) (by decide +kernel) U (by decide +kernel)) U (pE U T.DF (a8 (pq 1) ae)) (λ_ _ _ _ _=>(gD 2 U (c5 (aV (i:=0) (show List.Nodup (["_law_k","_law_cell_here","_law_takers","_law_givers","_law_many"]:List Str)from by decide +kernel) U Oi) (c5 (aV (i:=1) (show List.Nodup (["_law_k","_law_cell_here","_law_takers","_law_givers","_law_many"]:List Str)from by decide +kernel) U Oi) dG)))) (λ_ _ _ _ _=>bY) (λ_ _ _ _ _=>(ba (xc T) (hr.mono Qz) U T.Fi T.Do.kp T.Fh .nil ay (a8 (pq 1) (a8 (pq 0) (a8 (pq 2) (a8 (pq 3) (a8 (pq 4) ae))))))))
  (ag (aQ (i:=6) dS.nd U (Or.inr U) (ah kj (kK (pq 0) (bZ ac) (bZ ac) (bZ ac)) (bz (a8 (ba (kP T) (hr.mono Qz) U T.CT T.AJ.kp T.CS .nil ay (a8 (pq 0) (a8 ac ae))) ae))))
  (ag (ik (i:=7) dS.nd U Oi (k:=1) (Nc:=["_law_k","_law_seeds"]) (js:=[6]) (show aS (am eY) ["_law_script","_law_cells","_law_many","_law_takers","_law_givers","_law_parts","_law_seeds","_law_lines"] _ 1 ["_law_k","_law_seeds"] [6]from aS.mk U (by decide +kernel) (by decide +kernel) (by decide +kernel) U (by decide +kernel)) U (dh U T.wS (a8 (ak aY (pq 2) ac Oy) ae)) (λ_ _ _ _ _=>(aV (i:=0) (show List.Nodup (["_law_k","_law_seeds"]:List Str)from by decide +kernel) U Oi)) (λ_ _ _ _ _=>bY) (λ_ _ _ _ _=>(ba (xi T) (hr.mono Qz) U T.Fg T.Dl.kp T.Ff .nil ay (a8 (ak (oV (K:=K) U) (pq 1) (ah bb (pq 0) (bI (vM (K:=K) U) U T.mt Q7 (a8 (pq 1) ae))) Oy) (a8 (pq 0) ae)))))
  (ai (ao (bw (a8 (pq 7) (a8 (pq 5) ae)))))))))))),?_⟩
 obtain⟨ys,ey,yl⟩:=kI ns (some 4) (some 52) (some 3);have y16:ys.length<=16:=by rw[yl];exact kJ Qz Qz
 refine⟨_,U,_,U,_,U,_,U,l,_,U,hl,Qz,bi (m:=100) (by rw[<- yl];omega),λp hp=>?_⟩;rw[ey];have s1:=aa.new hp (.lst (ys.map V.int));have hp1:upd H p (.lst (ys.map V.int)) p=some (.lst (ys.map V.int)):=af;generalize upd H p (.lst (ys.map V.int))=H1 at s1 hp1 ⊢;dsimp only[aO];have hl1:=s1.seq hl;refine⟨_,U,l,ns,1,U,hl1,Qz,λc0=>⟨c0,1,U,⟨Qz,Qz⟩,λm m0 m1=>⟨_,_,U,U,Qz,_,_,U,U,ln1,λlm hlm=>?_⟩⟩⟩;obtain⟨mn,emn,mn5,mn0⟩:∃mn:Nat,2+m % 4=(mn:Int)/\mn<=5/\0<mn:=⟨(2+m % 4).toNat,Qw,Qw,Qw⟩;rw[emn];have s2:=aa.new hlm (.lst [V.int (mn:Int)]);have hm2:upd H1 lm (.lst [V.int (mn:Int)]) lm=some (.lst [V.int (mn:Int)]):=af;have hlmH:=aa.none s1 hlm;generalize upd H1 lm (.lst [V.int (mn:Int)])=H2 at s2 hm2 ⊢;dsimp only[aO];refine⟨_,U,lm,_,_,_,U,U,SqL.of hm2,U,_,U,Qw,Qw,?_⟩;refine g6 (λi ys σ G=>(∃v,σ=[v])/\G=H2/\ys=((List.range i).map λk:Nat=>(k:Int)).map V.int) ⟨⟨none,U⟩,U,U⟩ ?_ (bi (m:=100) Qw) ?_ ?_
 ·rintro i ys σ G _ ⟨_,_,rfl⟩;simp
 ·rintro i ys σ G hi ⟨⟨v,rfl⟩,rfl,rfl⟩;exact⟨_,U,⟨_,U⟩,U,by rw[List.range_succ,qO,qO];rfl⟩
 rintro ys0 σ0 G0 ⟨_,eG,rfl⟩ lt hlt;rw[eG]at hlt ⊢;dsimp only[aO];have ht3:upd H2 lt (.lst (((List.range mn).map λk:Nat=>(k:Int)).map V.int)) lt=some (.lst (((List.range mn).map λk:Nat=>(k:Int)).map V.int)):=af;have s3:=aa.new hlt (.lst (((List.range mn).map λk:Nat=>(k:Int)).map V.int));have n1:lm≠lt:=λz=>by rw[z,hlt]at hm2;cases hm2
 rw[qX];generalize upd H2 lt (.lst (((List.range mn).map λk:Nat=>(k:Int)).map V.int))=H3 at s3 ht3 ⊢;refine⟨_,U,lm,_,_,_,U,U,SqL.of (s3 _ _ hm2),U,_,U,Qw,Qw,?_⟩;refine g6 (λi ys σ G=>(∃v,σ=[v])/\G=H3/\ys=((List.range i).map λk:Nat=>(k:Int)).map V.int) ⟨⟨none,U⟩,U,U⟩ ?_ (bi (m:=100) Qw) ?_ ?_
 ·rintro i ys σ G _ ⟨_,_,rfl⟩;simp
 ·rintro i ys σ G hi ⟨⟨v,rfl⟩,rfl,rfl⟩;exact⟨_,U,⟨_,U⟩,U,by rw[List.range_succ,qO,qO];rfl⟩
 rintro ys0 σ0 G1 ⟨_,eG,rfl⟩ lg hlg;rw[eG]at hlg ⊢;dsimp only[aO];have s4:=aa.new hlg (.lst (((List.range mn).map λk:Nat=>(k:Int)).map V.int));have n2:lt≠lg:=λz=>by rw[z,hlg]at ht3;cases ht3
 have n3:lm≠lg:=λz=>by have:=s3 _ _ hm2;rw[z,hlg]at this;cases this
 rw[qX];have P0:bG (upd H3 lg (.lst (((List.range mn).map λk:Nat=>(k:Int)).map V.int))) lt lg lm [] [] _ _ mn:=⟨s4 _ _ ht3,af,s4 _ _ (s3 _ _ hm2),⟨n2,Ne.symm n1,Ne.symm n3⟩,pD mn,pD mn⟩;have hp4:=s4 _ _ (s3 _ _ (s2 _ _ hp1));have np:p≠lt/\p≠lg/\p≠lm:=⟨λz=>(by have:=s2 _ _ hp1;rw[z,hlt]at this;cases this),λz=>(by have:=s3 _ _ (s2 _ _ hp1);rw[z,hlg]at this;cases this),λz=>(by rw[z,hlm]at hp1;cases hp1)⟩
 have sH:aa H (bM lt lg lm (upd H3 lg (.lst (((List.range mn).map λk:Nat=>(k:Int)).map V.int)))):=λc o h=>by
  have h1:=s1 _ _ h;have h2:=s2 _ _ h1;have h3:=s3 _ _ h2;refine iJ (λz=>?_) (λz=>?_) (λz=>?_) (s4 _ _ h3)
  ·rw[z,hlt]at h2;cases h2
  ·rw[z,hlg]at h3;cases h3
  ·rw[z,hlm]at h1;cases h1
 have hp5:bM lt lg lm (upd H3 lg (.lst (((List.range mn).map λk:Nat=>(k:Int)).map V.int))) p=_:=iJ np.1 np.2.1 np.2.2 hp4;generalize upd H3 lg (.lst (((List.range mn).map λk:Nat=>(k:Int)).map V.int))=H4 at P0 sH hp4 hp5 ⊢;refine⟨_,U,p,_,U,SqL.of hp4,?_⟩;refine sD (K:=K) (l:=p) (xs:=ys.map V.int) (λi zs σ G=>(∃v v',σ=[v,v',some (.ref lt),some (.ref lg),some (.ref lm)])/\∃ts gs m rs,bG G lt lg lm (rs.flatMap ca) (rs.flatMap kU) ts gs m/\aa (bM lt lg lm H4) (bM lt lg lm G)/\0<m/\m<=5+10 * i/\i<=16/\RRs (bM lt lg lm G) zs rs/\rs.length=i/\(∀r∈rs,r.ok/\r.fit m)/\∀r∈rs,r.sgOk) ⟨⟨_,_,U⟩,_,_,mn,[],P0,aa.refl _,mn0,Qw,qt _,.nil,U,λ_ h=>(nomatch h),λ_ h=>(nomatch h)⟩ ?_ (bi (m:=100) (by rw[q9];omega)) ?_ ?_ ?_
 ·rintro i zs σ G ⟨_,ts,gs,m,rs,P,s5,m0p,m5,i16,rr,e,_⟩;rw[rr.len,e];exact qe _
 ·rintro i zs σ G ⟨_,ts,gs,m,rs,P,s5,_⟩;exact SqL.of (iI _ _ (s5 _ _ hp5))
 ·rintro i x zs σ G pt hx ⟨⟨v,v',rfl⟩,ts,gs,m,rs,P,s5,m0p,m5,i16,rr,e,okr,sgr⟩ hpt;rw[qE]at hx;obtain⟨n,hn,rfl⟩:=qP.mp hx;have il:=(qf.mp hn).1;refine⟨pt,_,U,SqT.of af,U,_,_,U,_,_,U,U,?_⟩;have sp:=aa.new hpt (.tup [.int (i:Int),.int n]);refine⟨_,U,_,U,_,U,_,U,_,U,n,i,lt,lg,lm,_,_,ts,gs,m,U,⟨Qw,Qw⟩,P.same sp,Qw,λG2 v2 r ts2 gs2 m2 s6 P2 ml mu rr2 ok2 ft2 sg2=>?_⟩;have s7:=(bG.hid (lt:=lt) (lg:=lg) (lm:=lm) sp).trans s6;refine⟨⟨_,_,U⟩,ts2,gs2,m2,rs++[r],(by rw[qU,qU,List.flatMap_singleton,List.flatMap_singleton];exact P2),s5.trans s7,Qw,Qw,Qw,(rr.same s7).snoc rr2,by rw[qb,e];rfl,λr' hr'=>?_,λr' hr'=>?_⟩
  ·rcases qh.mp hr' with h|h
   ·exact⟨(okr r' h).1,PR.fit_up ml (okr r' h).2⟩
   ·rw[qS.mp h];exact⟨ok2,ft2⟩
  ·rcases qh.mp hr' with h|h
   ·exact sgr r' h
   ·rw[qS.mp h];exact sg2
 rintro zs σ G ⟨_,ts,gs,m,rs,P,s5,m0p,m5,i16,rr,e,okr,sgr⟩ l5 hl5;rw[q9]at m5 i16 e;have sl5:=aa.new hl5 (.lst zs);have sG:aa H (upd G l5 (.lst zs)):=(sH.trans (s5.trans iI)).trans sl5;have rr5:=(rr.same iI).same sl5;have hm5:=sl5 _ _ P.l;have h55:upd G l5 (.lst zs) l5=some (.lst zs):=af;generalize upd G l5 (.lst zs)=H5 at sG rr5 hm5 h55 ⊢;dsimp only[aO];obtain⟨ys2,ey2,yl2⟩:=kI ns (some 5) (some 53) (some 3);have z16:ys2.length<=16:=by rw[yl2];exact kJ Qz Qz
 refine⟨_,U,_,U,_,U,_,U,l,_,U,sG.seq hl,Qz,bi (m:=100) (by rw[<- yl2];omega),λp6 hp6=>?_⟩;rw[ey2];have s6:=aa.new hp6 (.lst (ys2.map V.int));refine⟨_,U,l,ns,0,U,s6.seq (sG.seq hl),Qz,λc1=>⟨ln1,λp7 hp7=>?_⟩⟩;have s7:=aa.new hp7 (.lst [.int c1]);refine⟨p6,p7,_,_,U,U,SqL.of (s7 _ _ af),SqL.of af,bi (m:=100) (by rw[q9,Q6];omega),λp8 hp8=>?_⟩;have s8:=aa.new hp8 (.lst (ys2.map V.int++[.int c1]));have s58:=s6.trans (s7.trans s8);have h88:upd (upd (upd H5 p6 (.lst (ys2.map V.int))) p7 (.lst [.int c1])) p8 (.lst (ys2.map V.int++[.int c1])) p8=some (.lst ((ys2++[c1]).map V.int)):=by rw[af,qO];rfl
 generalize upd (upd (upd H5 p6 (.lst (ys2.map V.int))) p7 (.lst [.int c1])) p8 (.lst (ys2.map V.int++[.int c1]))=H8 at s58 h88 ⊢;dsimp only[aO];have zl:(ys2++[c1]).length<=17/\0<(ys2++[c1]).length:=by rw[qb,Q6];omega
 generalize ys2++[c1]=sd at h88 zl;refine⟨_,U,lm,_,_,_,U,U,SqL.of (s58 _ _ hm5),U,_,U,Qw,Qw,?_⟩;refine g6 (λi ys σ G=>(∃v,σ=[v,some (.ref p8)])/\aa H8 G/\∃xs:List Ln,RLn G ys xs/\xs.length=i/\∀x∈xs,x.2.length<=4/\∀n∈x.2,OnW n) ⟨⟨none,U⟩,aa.refl _,[],.nil,U,λ_ h=>(nomatch h)⟩ ?_ (bi (m:=1000) Qw) ?_ ?_
 ·rintro i ys σ G _ ⟨_,_,xs,r,h,_⟩;rw[r.len,h];exact qe _
 ·rintro i ys σ G hi ⟨⟨v,rfl⟩,sg,xs,r,h,ok⟩;have ms:i % sd.length<sd.length:=Nat.mod_lt _ zl.2
  have e2:atI (sd.map V.int) ((i:Int) % ((sd.map V.int).length:Nat))=some (.int sd[i % sd.length]):=by
   rw[q9,<- Int.natCast_emod];exact bS (by rw[qE,qc ms];rfl)
  refine⟨_,U,_,U,_,U,p8,_,U,.inl (SqL.of (sg _ _ h88)),_,_,U,U,by rw[q9];omega,p8,_,_,_,U,U,SqL.of (sg _ _ h88),e2,_,U,_,_,U,⟨Qw,Qw⟩,λG' pl tl x s' h1 h2 x4 xo=>?_⟩;refine⟨⟨_,U⟩,sg.trans s',xs++[x],RLn.snoc h1 h2 (r.same s'),by rw[qb,h];rfl,λy hy=>?_⟩;rcases qh.mp hy with hy|hy
  ·exact ok y hy
  ·rw[qS.mp hy];exact⟨x4,xo⟩
 rintro us σ G9 ⟨_,s9,xs,rl,xl,okx⟩ l9 hl9;have sl9:=aa.new hl9 (.lst us);have h99:upd G9 l9 (.lst us) l9=some (.lst us):=af;have s5x:=s58.trans (s9.trans sl9);have rl9:=rl.same sl9;generalize upd G9 l9 (.lst us)=H9 at s5x h99 rl9 ⊢;dsimp only[aO];have xm:xs.length=m:=by rw[xl];exact qX m
 refine⟨_,U,_,U,ln2,λt ht=>?_⟩;have st:=aa.new ht (.tup [.ref l9,.ref l5]);exact q _ t l9 l5 us zs xs rs (sG.trans (s5x.trans st)) af (st _ _ h99) (rl9.same st) (st _ _ (s5x _ _ h55)) ((rr5.same s5x).same st) Qw Qw okx (by rw[xm];exact okr) sgr (P.pt.nd.sublist (List.sublist_append_left _ _)) (P.pg.nd.sublist (List.sublist_append_left _ _)) Qw
theorem rS{as:List Addr}{i:Nat}{d:Addr}(h:i<as.length):as[i]?=some (as.getD i d)/\as.getD i d∈as:=by
 rw[qj,qc h];exact⟨U,List.getElem_mem h⟩
theorem vv{as:List Addr}{d:Addr}{n:Nat}(h:as.length=n):as.map V.ref=(List.range n).map λi=>V.ref (as.getD i d):=by
 refine List.ext_getElem? λi=>?_;rw[qE,qE];by_cases lt:i<n
 ·rw[List.getElem?_range lt,(rS (d:=d) Qw).1];rfl
 ·rw[Qo Qw,Qo (by rw[Qd];omega)];rfl
theorem REs.at{H:Hp}:∀{vs:List V}{es:List Ent},REs H vs es->∀{i:Nat}{v:V},vs[i]?=some v->∃p l us e,v=.ref p/\es[i]?=some e/\H p=some (.tup [.int e.now,.int e.part,.str (if e.took then "took" else "gave"),.ref l])/\H l=some (.lst us)/\RPs H us e.hs
 |_,_,.nil,i,v,h=>by simp at h
 |_,_,.cons (p:=p) (l:=l) (us:=us) (e:=e) a b c r,0,v,h=>by cases h;exact⟨p,l,us,e,U,U,a,b,c⟩
 |_,_,.cons a b c r,i+1,v,h=>REs.at r (by simpa using h)
theorem x6(T:Tx P w K mg a):aA P w K mg base CX0 1 a.Cs a.Ct ["_law_row","_law_rows"] mT:=by
 refine T.Du.ok uJ (λvs H Q E h=>?_) (λcdv A outer s H vs Q E hr h=>?_)
 ·obtain⟨_,_,_,_,_,_,rfl,_⟩:=h
  rfl
 obtain⟨v,r,lr,f,ra,nl,rfl,hr',ok,ft,hl,hi,k⟩:=h
 refine⟨_,(ag (aL (aE ii (ak aH (pq 0) ac Oy) bo (az _)) (ai (ao (ak aH (pq 0) ac Oy))) aM)
  (ag (aL (aE (kN hr.units) (ak aY (pq 1) (ak aH (pq 0) ac Oy) Oy) (bz ae) (az _)) (ai (ao (bw (a8 (ak aH (pq 0) ac Oy) ae)))) aM)
  (ag (aL (aE bd (ak aY (ak aY (pq 1) (ak aH (pq 0) ac Oy) Oy) ac Oy) ac (az _)) (ai (ao (ah gF (bw (a8 (ak aH (pq 0) ac Oy) ae)) (ak aH (pq 0) ac Oy)))) aM)
  (ai (ao (ah gF (bw (a8 (ak aH (pq 0) ac Oy) ae)) (ak aH (pq 0) ac Oy))))))),?_⟩
 cases hr' with
 |pass h1 h2=>exact⟨_,U,_,_,_,_,U,U,SqT.of h1,U,U,_,U,lC (jb Qy) ⟨_,U,_,_,_,_,U,U,SqT.of h1,U,k H _ (aa.refl _) h2⟩⟩
 |work h1 h2=>exact⟨_,U,_,_,_,_,U,U,SqT.of h1,U,U,_,U,lC (jb Qy) ⟨_,U,_,_,_,_,U,U,SqT.of h1,U,k H _ (aa.refl _) h2⟩⟩
 |choose h1 h2=>exact⟨_,U,_,_,_,_,U,U,SqT.of h1,U,U,_,U,lC (jb Qy) ⟨_,U,_,_,_,_,U,U,SqT.of h1,U,k H _ (aa.refl _) h2⟩⟩
 |merge h1 h2 h3=>
  rename_i p ta tb tc told ones noughts outs u;obtain⟨o1,o2,o3⟩:=ok;have t0:0<=told:=ft.1.lo _ qm;have t1:told<nl:=ft.1.hi _ qm;have lt:told.toNat<nl:=Qw;have hpr:=hi told.toNat lt;have e1:atI ((List.range nl).map λi=>V.ref (ra i)) told=some (.ref (ra told.toNat)):=sT t0 t1;refine⟨_,U,_,_,_,_,U,U,SqT.of h1,U,U,_,U,rE U ?_⟩;have kk:=k;simp only[cD]at kk;refine⟨_,U,_,U,_,_,_,_,U,U,SqT.of h1,U,lr,_,_,_,U,U,SqL.of hl,e1,qt _,λpe hpe=>?_⟩;have s1:=aa.new hpe (.lst []);refine⟨_,.list [],.lst (SqL.of (s1 _ _ hpr)) (gP _),.lst (SqL.of af) .nil,(Shp.lst (n:=0) (gn _)).shaped Qz,Qy,_,U,?_⟩;generalize hrow:f told.toNat=row at kk hpr ⊢
  cases row with
  |nil=>
   refine bn Qy ?_;refine⟨_,U,_,_,_,_,U,U,SqT.of (s1 _ _ h1),U,ln1,λp6 hp6=>?_⟩;exact kk _ p6 (s1.trans (aa.new hp6 _)) af
  |cons x row=>
   refine aJ U ?_;refine⟨_,U,_,U,_,_,_,_,U,U,SqT.of (s1 _ _ h1),U,lr,_,_,_,U,U,SqL.of (s1 _ _ hl),e1,ra told.toNat,_,_,_,U,U,SqL.of (s1 _ _ hpr),at0,U,_,U,?_⟩;dsimp only at kk;refine bj (λc=>?_) (λc=>?_)
   ·rw[Q0 (dn c)]at kk;refine⟨_,U,_,_,_,_,U,U,SqT.of (s1 _ _ h1),U,ln1,λp6 hp6=>?_⟩;have s2:=s1.trans (aa.new hp6 (.tup [.int told]));refine⟨_,U,_,_,_,_,U,U,SqT.of (s2 _ _ h1),U,p6,tb,_,_,U,U,SqT.of af,SqT.of (s2 _ _ h3),by simp,bi (m:=1000) (by rw[q9,Q6];omega),λe=>?_,λ_ p7 hp7=>?_⟩
    ·rw[List.map_eq_nil_iff]at e;subst e;exact kk _ p6 s2 af
    ·exact kk _ p7 (s2.trans (aa.new hp7 _)) af
   ·rw[qZ (dw c)]at kk;refine⟨_,U,_,_,_,_,U,U,SqT.of (s1 _ _ h1),U,ln1,λp6 hp6=>?_⟩;have s2:=s1.trans (aa.new hp6 (.tup [.int told]));refine⟨_,U,_,_,_,_,U,U,SqT.of (s2 _ _ h1),U,p6,ta,_,_,U,U,SqT.of af,SqT.of (s2 _ _ h2),by simp,bi (m:=1000) (by rw[q9,Q6];omega),λe=>?_,λ_ p7 hp7=>?_⟩
    ·rw[List.map_eq_nil_iff]at e;subst e;exact kk _ p6 s2 af
    ·exact kk _ p7 (s2.trans (aa.new hp7 _)) af
def Ad(ls:Nat->Option Int)(W:WS)(hs:List (Int×Int)):Prop:=∀p∈hs,roomV (ls p.1.toNat) ((W.rows p.1.toNat).length:Int)=true
def md(n:Nat)(ls:Nat->Option Int)(W:WS)(t:Int):Prop:=∃x,x<n/\∃hs,W.post x=some hs/\W.due x<=t/\Ad ls W hs
def iV(prt:Nat->PR)(W:WS)(x:Nat):Prop:=W.post x=none/\∀l∈cD W.rows (prt x),W.rows l.toNat≠[]
def bN(es:List Ent):Int:=es.foldl (λ_ e=>e.now) (-1)
theorem iD{es:List Ent}{e:Ent}:bN (es++[e])=e.now:=by unfold bN;rw[List.foldl_append];rfl
theorem lH:∀(ps:List (Int×Int))(f:Nat->List Int)(j:Nat),∃s,cK f ps j=f j++s
 |[],f,j=>⟨[],(qx _).symm⟩
 |p::ps,f,j=>by
  obtain⟨s,e⟩:=lH ps (put f p.1.toNat (f p.1.toNat++[p.2])) j;show ∃s,cK (put f p.1.toNat (f p.1.toNat++[p.2])) ps j=f j++s;by_cases c:j=p.1.toNat
  ·rw[e,c,aK,qN];exact⟨_,U⟩
  ·rw[e,aB c];exact⟨_,U⟩
theorem lG:∀{ps:List (Int×Int)}{f:Nat->List Int}{j:Nat},j∉ps.map (λp=>p.1.toNat)->cK f ps j=f j
 |[],_,_,_=>rfl
 |p::ps,f,j,h=>by
  show cK (put f p.1.toNat _) ps j=_;rw[lG λz=>h (qk _ z),aB λz=>h (by rw[z];exact qm)]
theorem kH:∀{ps:List (Int×Int)}{f:Nat->List Int}{j:Nat},j∉ps.map (λp=>p.1.toNat)->dg f ps j=f j
 |[],_,_,_=>rfl
 |p::ps,f,j,h=>by
  show dg (put f p.1.toNat _) ps j=_;rw[kH λz=>h (qk _ z),aB λz=>h (by rw[z];exact qm)]
theorem iZ{f:Nat->List Int}:∀{r:PR}{l:Int},l∈cD f r->l∈ca r
 |.pass ..,_,h=>h
 |.work ..,_,h=>h
 |.choose ..,_,h=>h
 |.merge t o n _,l,h=>by
  have h:l∈(match f t.toNat with|[]=>[t]|x::_=>t::(if x=0 then n else o)):=h;show l∈o++n++[t]
  cases e:f t.toNat with
  |nil=>rw[e]at h;exact qI _ h
  |cons x _=>
   rw[e]at h;rcases qu.mp h with rfl|h
   ·exact qI _ (qS.mpr U)
   ·refine qV _ ?_;split at h
    ·exact qI _ h
    ·exact qV _ h
theorem tE{f:Nat->List Int}{ps:List (Int×Int)}:∀{r:PR}{l:Int},l∈cD f r->l.toNat∉ps.map (λp=>p.1.toNat)->f l.toNat=[]->l∈cD (cK f ps) r
 |.pass ..,_,h,_,_=>h
 |.work ..,_,h,_,_=>h
 |.choose ..,_,h,_,_=>h
 |.merge t o n _,l,h,off,em=>by
  have h:l∈(match f t.toNat with|[]=>[t]|x::_=>t::(if x=0 then n else o)):=h;show l∈(match cK f ps t.toNat with|[]=>[t]|x::_=>t::(if x=0 then n else o))
  cases e:f t.toNat with
  |nil=>
   rw[e]at h;have:=qS.mp h;subst this;rw[lG off,em];exact qS.mpr U
  |cons x xs=>
   rw[e]at h;obtain⟨s,es⟩:=lH ps f t.toNat;rw[es,e];exact h
theorem tD{f f':Nat->List Int}:∀{r:PR},(∀l∈ca r,f' l.toNat=f l.toNat)->cD f' r=cD f r
 |.pass ..,_=>rfl
 |.work ..,_=>rfl
 |.choose ..,_=>rfl
 |.merge t o n _,h=>by
  show(match f' t.toNat with|[]=>[t]|x::_=>t::(if x=0 then n else o))=(match f t.toNat with|[]=>[t]|x::_=>t::(if x=0 then n else o));rw[h t (qI _ (qS.mpr U))]
theorem rK:∀(ps:List (Int×Int))(S:PlS),(∀x∈S.tr,x∈(ps.foldl ap S).tr)/\(∀i,∀x∈S.wt i,x∈(ps.foldl ap S).tr\/x∈(ps.foldl ap S).wt i)/\∀i,∀x∈(ps.foldl ap S).wt i,x∈S.wt i/\i∉ps.map (λp=>p.1.toNat)
 |[],_=>⟨λ_ h=>h,λ_ _ h=>.inr h,λ_ _ h=>⟨h,λz=>(nomatch z)⟩⟩
 |p::ps,S=>by
  obtain⟨h1,h2,h3⟩:=rK ps (ap S p);refine⟨λx hx=>h1 x (qV _ hx),λi x hx=>?_,λi x hx=>?_⟩
  ·by_cases e:i=p.1.toNat
   ·exact .inl (h1 x (qI _ (e▸hx)))
   ·exact h2 i x (by show x∈put S.wt p.1.toNat [] i;rw[aB e];exact hx)
  ·obtain⟨a,b⟩:=h3 i x hx;have a:x∈put S.wt p.1.toNat [] i:=a;by_cases e:i=p.1.toNat
   ·rw[e,aK]at a;cases a
   ·rw[aB e]at a;exact⟨a,λz=>(qu.mp z).elim e b⟩
theorem iT{g:Gv}{t:Int}{ps:List Nat}{x:Nat}:((∃kv∈g,x∈kv.2)->∃kv∈bf g t ps,x∈kv.2)/\(x∈ps->∃kv∈bf g t ps,x∈kv.2):=by
 unfold bf;by_cases e:ps=[]
 ·rw[Q0 e];exact⟨id,λh=>by rw[e]at h;cases h⟩
 rw[qZ e];by_cases m:t∈aN g
 ·rw[Q0 m];refine⟨λ⟨kv,hk,hx⟩=>⟨_,List.mem_map.mpr ⟨kv,hk,U⟩,?_⟩,λhx=>?_⟩
  ·split
   ·exact qV _ hx
   ·exact hx
  ·obtain⟨kv,hk,ek⟩:=List.mem_map.mp m;exact⟨_,List.mem_map.mpr ⟨kv,hk,U⟩,by rw[Q0 ek];exact qI _ hx⟩
 ·rw[qZ m];exact⟨λ⟨kv,hk,hx⟩=>⟨kv,qV _ hk,hx⟩,λhx=>⟨_,qI _ (qS.mpr U),hx⟩⟩
theorem rU(now:Int):∀(ws:List Int)(S:PlS)(x:Nat),((∃kv∈S.gv,x∈kv.2)->∃kv∈(ws.foldl (bg now) S).gv,x∈kv.2)/\(∀i,x∈S.wr i->(∃kv∈(ws.foldl (bg now) S).gv,x∈kv.2)\/x∈(ws.foldl (bg now) S).wr i)/\∀i,x∈(ws.foldl (bg now) S).wr i->x∈S.wr i/\i∉ws.map Int.toNat
 |[],_,_=>⟨id,λ_ h=>.inr h,λ_ h=>⟨h,λz=>(nomatch z)⟩⟩
 |w::ws,S,x=>by
  obtain⟨h1,h2,h3⟩:=rU now ws (bg now S w) x;refine⟨λh=>h1 (iT.1 h),λi hx=>?_,λi hx=>?_⟩
  ·by_cases e:i=w.toNat
   ·exact .inl (h1 (iT.2 (e▸hx)))
   ·exact h2 i (by show x∈put S.wr w.toNat [] i;rw[aB e];exact hx)
  ·obtain⟨a,b⟩:=h3 i hx;have a:x∈put S.wr w.toNat [] i:=a;by_cases e:i=w.toNat
   ·rw[e,aK]at a;cases a
   ·rw[aB e]at a;exact⟨a,λz=>(qu.mp z).elim e b⟩
structure Cmp(C:PlC)(W:WS)(S:PlS)(no so:List Nat):Prop where
 no:∀x,x<C.n->W.post x=none->x∈S.tr\/(∃i,x∈S.wt i)\/x∈no
 so:∀x,x<C.n->∀hs,W.post x=some hs->(∃kv∈S.gv,x∈kv.2)\/(∃i,x∈S.wr i)\/x∈so
 full:∀i,∀x∈S.wr i,∃p∈S.held x,p.1.toNat=i/\roomV (C.ls i) ((ax S i).length:Int)=false
 lack:∀i,∀x∈S.wt i,∃l∈cD (ax S) (C.prt x),l.toNat=i/\ax S i=[]
theorem yv{L:Option Int}{a b:Int}(h:roomV L a=false)(le:a<=b):roomV L b=false:=by
 cases L with
 |none=>cases h
 |some m=>
  have h:decide (a<m)=false:=h;show decide (b<m)=false;have:=of_decide_eq_false h;exact Q3 Qw
def bh(C:PlC)(xs:List Ln)(es:List Ent):WS:=es.foldl (bQ C.prt C.pace) (cw xs)
theorem rZ{C:PlC}{xs:List Ln}{es:List Ent}{e:Ent}:bh C xs (es++[e])=bQ C.prt C.pace (bh C xs es) e:=by unfold bh;rw[List.foldl_append];rfl
def m6(C:PlC)(W:WS)(last k:Int):Prop:=last+1<k->¬ md C.n C.ls W (k-1)/\∀x,x<C.n->¬ iV C.prt W x
structure Grp(C:PlC)(xs:List Ln)(es:List Ent)(k:Int)(gvs tks:List Ent):Prop where
 g:∀e∈gvs,e.now=k/\e.took=false
 t:∀e∈tks,e.now=k/\e.took=true
 last:bN es<k
 start:gvs++tks≠[]->m6 C (bh C xs es) (bN es) k
 glad:¬ md C.n C.ls (bh C xs (es++gvs)) k
structure sX(C:PlC)(xs:List Ln)(es g:List Ent):Prop where
 ex:∃k gvs tks,g=gvs++tks/\Grp C xs es k gvs tks
 ne:g≠[]
def gc(C:PlC)(xs:List Ln)(Gs:List (List Ent)):Prop:=∀gs g rest,Gs=gs++g::rest->sX C xs gs.flatten g/\∀x,x<C.n->¬ iV C.prt (bh C xs (gs.flatten++g)) x
theorem gc.snoc{C:PlC}{xs:List Ln}{Gs:List (List Ent)}{g:List Ent}(h:gc C xs Gs)(h1:sX C xs Gs.flatten g)(h2:∀x,x<C.n->¬ iV C.prt (bh C xs (Gs.flatten++g)) x):gc C xs (Gs++[g]):=λgs g' rest e=>by
 rcases List.eq_nil_or_concat rest with rfl|⟨r0,l0,rfl⟩
 ·have e:Gs++[g]=gs++[g']:=e;have e1:=List.append_inj' e U;obtain rfl:=e1.1;cases e1.2;exact⟨h1,h2⟩
 ·have e:Gs++[g]=(gs++g'::r0)++[l0]:=by rw[e];simp
  have e1:=List.append_inj' e U;exact h gs g' r0 e1.1
def NbP(C:PlC)(xs:List Ln)(S:PlS):Ph->Prop
 |.top=>(∃Gs,S.lg=Gs.flatten/\gc C xs Gs)/\Cmp C (bh C xs S.lg) S [] []/\(S.tr=[]\/(S.lg=[]/\S.gv=[(0,[])]))/\(∀k∈aN S.gv,bN S.lg<k)/\∀kv∈S.gv,∀x∈kv.2,(bh C xs S.lg).due x=kv.1\/kv.1=bN S.lg+1
 |.giv k r=>(∃Gs gvs,S.lg=Gs.flatten++gvs/\gc C xs Gs/\(∀e∈gvs,e.now=k/\e.took=false)/\bN Gs.flatten<k/\(gvs≠[]->m6 C (bh C xs Gs.flatten) (bN Gs.flatten) k))/\Cmp C (bh C xs S.lg) S [] r/\(S.tr=[]\/bN S.lg=k\/(k=0/\bN S.lg=-1))/\(bN S.lg+1<k->∀x∈r,(bh C xs S.lg).due x=k)/\(∀kv∈S.gv,∀x∈kv.2,(bh C xs S.lg).due x=kv.1)/\bN S.lg<=k
 |.tak k r=>(∃Gs gvs tks,S.lg=Gs.flatten++(gvs++tks)/\gc C xs Gs/\Grp C xs Gs.flatten k gvs tks/\∀e∈tks,∀y∈r,e.part<y)/\Cmp C (bh C xs S.lg) S r []/\S.tr=[]/\(r=[]\/bN S.lg=k\/(k=0/\bN S.lg=-1))/\(∀kv∈S.gv,∀x∈kv.2,(bh C xs S.lg).due x=kv.1\/(kv.1=k+1/\bN S.lg=k))/\bN S.lg<=k
theorem Cmp.notReady{C:PlC}{W:WS}{S:PlS}{no so:List Nat}(c:Cmp C W S no so)(er:W.rows=ax S)(tr:S.tr=[]){x:Nat}(hx:x<C.n)(h:iV C.prt W x):x∈no:=by
 rcases c.no x hx h.1 with m|⟨i,m⟩|m
 ·rw[tr]at m;cases m
 ·obtain⟨l,hl,e,em⟩:=c.lack i x m;exact Q4 (by rw[er,e];exact em) (h.2 l (by rw[er];exact hl))
 ·exact m
theorem Cmp.notGlad{C:PlC}{W:WS}{S:PlS}{no so:List Nat}(c:Cmp C W S no so)(er:W.rows=ax S)(hw:∀i,∀x∈S.wr i,W.post x=some (S.held x)){t:Int}(hg:∀kv∈S.gv,∀x∈kv.2,t<W.due x)(hs:∀x∈so,t<W.due x):¬ md C.n C.ls W t:=by
 rintro⟨x,hx,hs',hp,hd,ro⟩;rcases c.so x hx hs' hp with⟨kv,hk,m⟩|⟨i,m⟩|m
 ·have:=hg kv hk x m;omega
 ·obtain⟨p,hp',e,fu⟩:=c.full i x m;have e2:=hw i x m;rw[hp]at e2;cases e2;have:=ro p hp';rw[er,e]at this;rw[this]at fu;cases fu
 ·have:=hs x m;omega
theorem aX.nob{C:PlC}(okC:∀x,x<C.n->(C.prt x).ok/\(C.prt x).fit C.nl)(n60:C.n<60)(nn:∀r∈C.pace,∀x∈r,0<=x)(dj:∀x y,x<C.n->y<C.n->x≠y->∀l∈ca (C.prt x),∀l'∈ca (C.prt y),l.toNat≠l'.toNat){xs:List Ln}{most:Nat}(g0:Gd C (bF (bE xs C.n most)+20) [] (bE xs C.n most)){ph:Ph}{S:PlS}(h:aX C.ls C.prt C.pace (bE xs C.n most) ph S):NbP C xs S ph:=by
 induction h with
 |base=>
  refine⟨⟨[],U,λgs g rest e=>by simp at e⟩,⟨λx hx _=>.inl (List.mem_range.mpr hx),λx _ hs h=>(by cases h),λ_ _ h=>(nomatch h),λ_ _ h=>(nomatch h)⟩,.inr ⟨U,U⟩,λk hk=>?_,λkv hk x hx=>?_⟩
  ·rw[qS.mp hk];show(-1:Int)<0;decide
  ·rw[qS.mp hk]at hx;cases hx
 |@turn S k r h hk p rs ih=>
  obtain⟨⟨Gs,eg,cl⟩,c,tr,lk,du⟩:=ih;obtain⟨_,⟨now,I,_,_⟩,_⟩:=h.sim okC n60 nn g0;have lt:=lk k hk.1;have fk:=fX hk.1;refine⟨⟨Gs,[],by rw[qx];exact eg,cl,λ_ h=>(nomatch h),by rw[<- eg];exact lt,λz=>Q4 U z⟩,⟨c.no,λx hx hs hp=>?_,c.full,c.lack⟩,?_,λl1 x hx=>?_,λkv hv x hx=>?_,(by show bN S.lg<=k;omega)⟩
  ·rcases c.so x hx hs hp with⟨kv,hv,m⟩|m|m
   ·by_cases e:kv.1=k
    ·refine .inr (.inr (p.mem_iff.mpr ?_))
     have:kv.2=atG S.gv k:=by
      have gk:(aN S.gv).Nodup:=(h.gd okC n60 g0).loc.elim λ_ L=>L.gk;rw[<- e];clear hk p lt fk
      have go:∀g:Gv,(aN g).Nodup->kv∈g->kv.2=atG g kv.1:=λg=>by
       induction g with
       |nil=>exact λ_ m=>(nomatch m)
       |cons a g ih=>
        intro nd m;have nd:a.1∉aN g/\(aN g).Nodup:=List.nodup_cons.mp nd;rw[show a::g=(a.1,a.2)::g from rfl,cM];rcases qu.mp m with rfl|m
        ·rw[Q0 U]
        ·rw[qZ λz=>nd.1 (by rw[z];exact List.mem_map.mpr ⟨kv,m,U⟩)];exact ih nd.2 m
      exact go _ gk hv
     rw[<- this];exact m
    ·exact .inl ⟨kv,List.mem_filter.mpr ⟨hv,Q1 e⟩,m⟩
   ·exact .inr (.inl m)
   ·cases m
  ·rcases tr with t|⟨t1,t2⟩
   ·exact .inl t
   ·refine .inr (.inr ⟨?_,by show bN S.lg=-1;rw[t1];rfl⟩);have:=hk.1;rw[t2]at this;exact qS.mp this
  ·rcases du _ fk x (p.mem_iff.mp hx)with z|z
   ·exact z
   ·have z:k=bN S.lg+1:=z;have l1:bN S.lg+1<k:=l1;omega
  ·have hv:=List.mem_filter.mp hv;have ne:kv.1≠k:=Qc hv.2;have le:=hk.2 kv.1 (List.mem_map.mpr ⟨kv,hv.1,U⟩);rcases du kv hv.1 x hx with z|z
   ·exact z
   ·omega
 |@give S k x r h ih=>
  obtain⟨⟨Gs,gvs,eg,cl,hg,lg,st⟩,c,tr,rd,du,lk⟩:=ih;obtain⟨_,⟨I,k0,rs,rm,_⟩,_⟩:=h.sim okC n60 nn g0;obtain⟨⟨loc,L⟩,cp⟩:=h.gd okC n60 g0;have hx:=L.not.2.1;unfold bD;split
  ·rename_i q hq;have hq':=List.find?_some hq;have hqm:=List.mem_of_find?_eq_some hq;refine⟨⟨Gs,gvs,eg,cl,hg,lg,st⟩,⟨c.no,λy hy hs hp=>?_,λi y hy=>?_,c.lack⟩,tr,λl1 y hy=>rd l1 y (qk _ hy),du,lk⟩
   ·rcases c.so y hy hs hp with m|⟨i,m⟩|m
    ·exact .inl m
    ·refine .inr (.inl ⟨i,?_⟩);show y∈put S.wr q.1.toNat (S.wr q.1.toNat++[x]) i;by_cases e:i=q.1.toNat
     ·rw[e,aK];exact qV _ (e▸m)
     ·rw[aB e];exact m
    ·rcases qu.mp m with rfl|m
     ·refine .inr (.inl ⟨q.1.toNat,?_⟩);show y∈put S.wr q.1.toNat (S.wr q.1.toNat++[y]) q.1.toNat;rw[aK];exact qI _ (qS.mpr U)
     ·exact .inr (.inr m)
   ·have hy:y∈put S.wr q.1.toNat (S.wr q.1.toNat++[x]) i:=hy;by_cases e:i=q.1.toNat
    ·rw[e,aK]at hy;rcases qh.mp hy with hy|hy
     ·rw[e];exact c.full _ y hy
     ·rw[qS.mp hy,e];refine⟨q,hqm,U,?_⟩;unfold roomF at hq';have le:=(cp.st q.1.toNat).2
      have e:((ax S q.1.toNat).length:Int)=((S.st q.1.toNat).1.length:Int)-(S.st q.1.toNat).2:=by
       unfold ax;rw[qY];omega
      show roomV (C.ls q.1.toNat) ((ax S q.1.toNat).length:Int)=false;rw[e];simpa using hq'
    ·rw[aB e]at hy;exact c.full i y hy
  ·rename_i hq;obtain⟨e1,e2,e3,e4,e5,e6⟩:=eI (S.held x) S;obtain⟨t1,t2,t3⟩:=rK (S.held x) S;have le:∀i,(S.st i).2<=(S.st i).1.length:=λi=>(cp.st i).2
   have el:(cy S k x).lg=S.lg++[⟨k,x,false,S.held x⟩]:=by
    show((S.held x).foldl ap S).lg++_=_;rw[e3]
   have er:ax (cy S k x)=cK (ax S) (S.held x):=ke _ le
   have sk:m6 C (bh C xs Gs.flatten) (bN Gs.flatten) k:=by
    by_cases ne:gvs=[]
    ·rw[ne,qx]at eg;intro l1;rw[<- eg]at l1 ⊢;refine⟨c.notGlad I.rows (λi y hy=>(I.wr i y hy).1) (λkv hv y hy=>?_) (λy hy=>?_),λy hy hr=>?_⟩
     ·have:=du kv hv y hy;have:=(I.gv kv hv).1;omega
     ·have:=rd l1 y hy;omega
     ·have:=c.notReady I.rows (tr.resolve_right λz=>Qw) hy hr;cases this
    ·exact st ne
   have ew:bh C xs (cy S k x).lg={ bh C xs S.lg with rows:=cK (bh C xs S.lg).rows (S.held x),post:=put (bh C xs S.lg).post x none,l1:=k,l2:=0,l3:=x }:=by
    rw[el,rZ]
    rfl
   refine⟨⟨Gs,gvs++[⟨k,x,false,S.held x⟩],by rw[el,eg,qN],cl,λe he=>?_,lg,λ_=>sk⟩,⟨λy hy hp=>?_,λy hy hs hp=>?_,λi y hy=>?_,λi y hy=>?_⟩,.inr (.inl (by rw[el,iD])),λl1=>?_,λkv hv y hy=>?_,by rw[el,iD];exact Int.le_refl _⟩
   ·rcases qh.mp he with he|he
    ·exact hg e he
    ·rw[qS.mp he];exact⟨U,U⟩
   ·rw[ew]at hp;have hp:put (bh C xs S.lg).post x none y=none:=hp;by_cases e:y=x
    ·exact .inl (qI _ (qS.mpr e))
    ·rw[aB e]at hp;rcases c.no y hy hp with m|⟨i,m⟩|m
     ·exact .inl (qV _ (t1 y m))
     ·rcases t2 i y m with m|m
      ·exact .inl (qV _ m)
      ·exact .inr (.inl ⟨i,m⟩)
     ·cases m
   ·rw[ew]at hp;have hp:put (bh C xs S.lg).post x none y=some hs:=hp;by_cases e:y=x
    ·rw[e,aK]at hp;cases hp
    ·rw[aB e]at hp;rcases c.so y hy hs hp with m|⟨i,m⟩|m
     ·refine .inl ?_;show ∃kv∈((S.held x).foldl ap S).gv,y∈kv.2;rw[e1];exact m
     ·refine .inr (.inl ⟨i,?_⟩);show y∈((S.held x).foldl ap S).wr i;rw[e6];exact m
     ·exact .inr (.inr ((qu.mp m).resolve_left e))
   ·have hy:y∈((S.held x).foldl ap S).wr i:=hy;rw[e6]at hy;obtain⟨p,hp,ep,fu⟩:=c.full i y hy;refine⟨p,?_,ep,?_⟩
    ·show p∈((S.held x).foldl ap S).held y;rw[e4];exact hp
    ·rw[er];obtain⟨s,es⟩:=lH (S.held x) (ax S) i;rw[es];exact yv fu (by rw[qb];omega)
   ·obtain⟨m,off⟩:=t3 i y hy;obtain⟨l,hl,ei,em⟩:=c.lack i y m;refine⟨l,?_,ei,?_⟩
    ·rw[er];exact tE hl (by rw[ei];exact off) (by rw[ei];exact em)
    ·rw[er,lG off];exact em
   ·rw[el,iD]at l1;have l1:k+1<k:=l1;omega
   ·have hv:kv∈((S.held x).foldl ap S).gv:=hv;rw[e1]at hv;rw[ew];exact du kv hv y hy
 |@half S k r h p rs ih=>
  obtain⟨⟨Gs,gvs,eg,cl,hg,lg,st⟩,c,tr,rd,du,lk⟩:=ih;obtain⟨_,⟨I,k0,_,_,_⟩,_⟩:=h.sim okC n60 nn g0;refine⟨⟨Gs,gvs,[],by rw[qx];exact eg,cl,⟨hg,λ_ h=>(nomatch h),lg,λz=>st (by rw[qx]at z;exact z),?_⟩,λ_ h=>(nomatch h)⟩,⟨λy hy hp=>?_,c.so,c.full,c.lack⟩,U,?_,λkv hv y hy=>.inl (du kv hv y hy),lk⟩
  ·rw[<- eg];exact c.notGlad I.rows (λi y hy=>(I.wr i y hy).1) (λkv hv y hy=>by have:=du kv hv y hy;have:=(I.gv kv hv).1;omega) (λy hy=>(nomatch hy))
  ·rcases c.no y hy hp with m|m|m
   ·exact .inr (.inr (p.mem_iff.mpr m))
   ·exact .inr (.inl m)
   ·cases m
  ·rcases tr with t|t
   ·rw[t]at p;exact .inl p.eq_nil
   ·exact .inr t
 |@wait S k i x r h hl ih=>
  obtain⟨⟨Gs,gvs,tks,eg,cl,gr,pr⟩,c,tr,rd,du,lk⟩:=ih;obtain⟨_,⟨I,k0,_,_,_⟩,_⟩:=h.sim okC n60 nn g0;refine⟨⟨Gs,gvs,tks,eg,cl,gr,λe he y hy=>pr e he y (qk _ hy)⟩,⟨λy hy hp=>?_,c.so,c.full,λj y hy=>?_⟩,tr,rd.imp (λz=>by cases z) id,du,lk⟩
  ·rcases c.no y hy hp with m|⟨j,m⟩|m
   ·exact .inl m
   ·refine .inr (.inl ⟨j,?_⟩);show y∈put S.wt i.toNat (S.wt i.toNat++[x]) j;by_cases e:j=i.toNat
    ·rw[e,aK];exact qV _ (e▸m)
    ·rw[aB e];exact m
   ·rcases qu.mp m with rfl|m
    ·refine .inr (.inl ⟨i.toNat,?_⟩);show y∈put S.wt i.toNat (S.wt i.toNat++[y]) i.toNat;rw[aK];exact qI _ (qS.mpr U)
    ·exact .inr (.inr m)
  ·have hy:y∈put S.wt i.toNat (S.wt i.toNat++[x]) j:=hy;by_cases e:j=i.toNat
   ·rw[e,aK]at hy;rcases qh.mp hy with hy|hy
    ·rw[e];exact c.lack _ y hy
    ·rw[qS.mp hy,e];refine⟨i,?_,U,?_⟩
     ·rw[show ax (fE S i.toNat x)=ax S from rfl,<- gW];exact List.mem_of_find?_eq_some hl
     ·exact List.isEmpty_iff.mp (List.find?_some (p:=λi:Int=>(ax S i.toNat).isEmpty) hl)
   ·rw[aB e]at hy;exact c.lack j y hy
 |@take S k x r h hl hs ih=>
  obtain⟨⟨Gs,gvs,tks,eg,cl,gr,pr⟩,c,tr,rd,du,lk⟩:=ih;obtain⟨_,⟨I,k0,rs,rm,_⟩,_⟩:=h.sim okC n60 nn g0;obtain⟨⟨loc,L⟩,cp⟩:=h.gd okC n60 g0;have hx:=L.not.2.1;have lt:=kg L rs;obtain⟨e1,e2,e3,e4,e5,e6,e7⟩:=fy k (aq S (C.prt x)) (bH (C.prt x) C.pace S k x);have el:(aT (C.prt x) C.pace S k x).lg=S.lg++[⟨k,x,true,(aq S (C.prt x)).zip ((aq S (C.prt x)).map (aR S))⟩]:=e3;have z2:((aq S (C.prt x)).zip ((aq S (C.prt x)).map (aR S))).map (·.2)=(aq S (C.prt x)).map (aR S):=List.map_snd_zip (by rw[q9];exact qe _)
  have er:ax (aT (C.prt x) C.pace S k x)=dg (ax S) ((aq S (C.prt x)).zip ((aq S (C.prt x)).map (aR S))):=by
   show(λi=>((aT (C.prt x) C.pace S k x).st i).1.drop ((aT (C.prt x) C.pace S k x).st i).2)=_;unfold aT;rw[e1,show(bH (C.prt x) C.pace S k x).st=bB S.st (aq S (C.prt x))from rfl,kc _ ((aq S (C.prt x)).map (aR S)) _ (by rw[q9])]
   rfl
  have off:∀y,y<C.n->y≠x->∀l∈ca (C.prt y),l.toNat∉((aq S (C.prt x)).zip ((aq S (C.prt x)).map (aR S))).map (λp=>p.1.toNat):=λy hy ne l hl z=>by
   obtain⟨q,hq,eq⟩:=List.mem_map.mp z;have:=(List.of_mem_zip (a:=q.1) (b:=q.2) hq).1;rw[gW]at this;exact dj y x hy hx ne l hl q.1 (iZ this) eq.symm
  have ew:bh C xs (aT (C.prt x) C.pace S k x).lg={ rows:=dg (bh C xs S.lg).rows ((aq S (C.prt x)).zip ((aq S (C.prt x)).map (aR S))),post:=put (bh C xs S.lg).post x (some ((C.prt x).made ((aq S (C.prt x)).map (aR S)))),due:=put (bh C xs S.lg).due x (k+1+bK C.pace x ((bh C xs S.lg).tks x)),tks:=put (bh C xs S.lg).tks x ((bh C xs S.lg).tks x+1),l1:=k,l2:=1,l3:=x }:=by
   rw[el,rZ];show WS.mk _ (put (bh C xs S.lg).post x (some ((C.prt x).made (((aq S (C.prt x)).zip ((aq S (C.prt x)).map (aR S))).map (·.2))))) _ _ _ _ _=_;rw[z2]
  have eh:(aT (C.prt x) C.pace S k x).held=put S.held x ((C.prt x).made ((aq S (C.prt x)).map (aR S))):=e4;have fm:=rU k (aq S (C.prt x)) (bH (C.prt x) C.pace S k x);have es:(aT (C.prt x) C.pace S k x).wt=S.wt/\(aT (C.prt x) C.pace S k x).tr=S.tr:=⟨e7,e6⟩;have lk2:bN (aT (C.prt x) C.pace S k x).lg=k:=by rw[el,iD]
  have cne:gvs++tks≠[]\/k=0/\bN S.lg=-1:=by
   rcases rd with z|z|z
   ·cases z
   ·refine .inl λe=>?_;rw[e,qx]at eg;have:=gr.last;rw[<- eg]at this;omega
   ·exact .inr z
  refine⟨⟨Gs,gvs,tks++[⟨k,x,true,(aq S (C.prt x)).zip ((aq S (C.prt x)).map (aR S))⟩],by rw[el,eg,qN,qN],cl,⟨gr.g,λe he=>?_,gr.last,λ_=>?_,gr.glad⟩,λe he y hy=>?_⟩,⟨λy hy hp=>?_,λy hy hs' hp=>?_,λi y hy=>?_,λi y hy=>?_⟩,by rw[es.2];exact tr,.inr (.inl lk2),λkv hv y hy=>?_,by rw[lk2];exact Int.le_refl _⟩
  ·rcases qh.mp he with he|he
   ·exact gr.t e he
   ·rw[qS.mp he];exact⟨U,U⟩
  ·rcases cne with z|⟨z1,z2⟩
   ·exact gr.start z
   ·intro l1;by_cases ce:gvs++tks=[]
    ·rw[ce,qx]at eg;rw[<- eg]at l1;omega
    ·exact gr.start ce l1
  ·rcases qh.mp he with he|he
   ·exact pr e he y (qk _ hy)
   ·rw[qS.mp he];exact lt y hy
  ·rw[ew]at hp;have hp:put (bh C xs S.lg).post x _ y=none:=hp;by_cases e:y=x
   ·rw[e,aK]at hp;cases hp
   ·rw[aB e]at hp;rw[es.1,es.2];rcases c.no y hy hp with m|m|m
    ·exact .inl m
    ·exact .inr (.inl m)
    ·exact .inr (.inr ((qu.mp m).resolve_left e))
  ·rw[ew]at hp;have hp:put (bh C xs S.lg).post x _ y=some hs':=hp;by_cases e:y=x
   ·exact .inl ((fm y).1 (iT.2 (qS.mpr e)))
   ·rw[aB e]at hp;rcases c.so y hy hs' hp with m|⟨i,m⟩|m
    ·exact .inl ((fm y).1 (iT (t:=k+1+bK C.pace x (S.tks x)) (ps:=[x]) |>.1 m))
    ·rcases(fm y).2.1 i m with m|m
     ·exact .inl m
     ·exact .inr (.inl ⟨i,m⟩)
    ·cases m
  ·obtain⟨m,offi⟩:=(fm y).2.2 i hy;have m:y∈S.wr i:=m;have ne:y≠x:=λz=>L.notin (L.wr i) nofun (z▸m)
   obtain⟨p,hp,ep,fu⟩:=c.full i y m;refine⟨p,by rw[eh,aB ne];exact hp,ep,?_⟩;rw[er,kH λz=>offi ?_]
   ·exact fu
   ·obtain⟨q,hq,eq⟩:=List.mem_map.mp z;exact List.mem_map.mpr ⟨q.1,(List.of_mem_zip (a:=q.1) (b:=q.2) hq).1,eq⟩
  ·rw[es.1]at hy;have ne:y≠x:=λz=>L.notin (L.wt i) nofun (z▸hy)
   have yn:=((L.wt i).2 y hy).1;obtain⟨l,hl',ei,em⟩:=c.lack i y hy;have eq:∀l∈ca (C.prt y),ax (aT (C.prt x) C.pace S k x) l.toNat=ax S l.toNat:=λl hl=>by rw[er];exact kH (off y yn ne l hl)
   refine⟨l,by rw[tD eq];exact hl',ei,?_⟩;rw[<- ei,eq l (iZ hl'),ei];exact em
  ·rw[ew,lk2];show put (bh C xs S.lg).due x _ y=kv.1\/_
   have key:=lI (now:=k) (A:=λj y=>put (bh C xs S.lg).due x (k+1+bK C.pace x ((bh C xs S.lg).tks x)) y=j\/j=k+1) (B:=λ_=>True) (λy _=>.inr U) (aq S (C.prt x)) (bH (C.prt x) C.pace S k x) (by
    refine lT (t:=k+1+bK C.pace x (S.tks x)) (ps:=[x]) (A:=λj y=>put (bh C xs S.lg).due x (k+1+bK C.pace x ((bh C xs S.lg).tks x)) y=j\/j=k+1) (λkv hv=>⟨(I.gv kv hv).1,λy hy=>?_⟩) (by have:=oQ nn x (S.tks x);omega) λy hy=>?_
    ·have ne:y≠x:=λz=>L.notin (L.gv kv hv) nofun (z▸hy)
     rw[aB ne];exact(du kv hv y hy).imp id λz=>z.1
    ·rw[qS.mp hy,aK]
     exact .inl (by rw[show(bh C xs S.lg).tks=S.tks from I.tks])) (λ_ _ _=>trivial)
   rcases(key.1 kv hv).2 y hy with z|z
   ·exact .inl z
   ·exact .inr ⟨z,U⟩
 |@over S k h ih=>
  obtain⟨⟨Gs,gvs,tks,eg,cl,gr,pr⟩,c,tr,rd,du,lk⟩:=ih;obtain⟨_,⟨I,k0,_,_,_⟩,_⟩:=h.sim okC n60 nn g0;refine⟨?_,c,.inl tr,λj hj=>?_,λkv hv y hy=>(du kv hv y hy).imp id λz=>by rw[z.1,z.2]⟩
  ·by_cases ne:gvs++tks=[]
   ·exact⟨Gs,by rw[eg,ne,qx],cl⟩
   ·refine⟨Gs++[gvs++tks],by rw[eg,List.flatten_append,List.flatten_singleton],cl.snoc ⟨⟨k,gvs,tks,U,gr⟩,ne⟩ λy hy hr=>?_⟩;rw[<- eg]at hr;have:=c.notReady I.rows tr hy hr;cases this
  ·obtain⟨kv,hv,rfl⟩:=List.mem_map.mp hj;have:=(I.gv kv hv).1;omega
theorem kf:∀{a b:List Nat},dB a->dB b->a.Perm b->a=b
 |[],b,_,_,p=>p.nil_eq
 |x::a,[],_,_,p=>p.eq_nil
 |x::a,y::b,ha,hb,p=>by
  have e:x=y:=by
   have h1:x∈y::b:=p.mem_iff.mp qm;have h2:y∈x::a:=p.mem_iff.mpr qm;rcases qu.mp h1 with h1|h1
   ·exact h1
   ·rcases qu.mp h2 with h2|h2
    ·exact h2.symm
    ·have:=List.rel_of_pairwise_cons ha h2;have:=List.rel_of_pairwise_cons hb h1;omega
  subst e;rw[kf ha.of_cons hb.of_cons ((List.perm_cons x).mp p)]
inductive Stp(ls:Nat->Option Int)(prt:Nat->PR)(pace:List (List Int)):Ph->PlS->Ph->PlS->Prop
 |turn {S:PlS}{k:Int}{r:List Nat}:kS S.gv k->r.Perm (atG S.gv k)->dB r->Stp ls prt pace .top S (.giv k r) { S with gv:=bp S.gv k }
 |give {S:PlS}{k:Int}{x:Nat}{r:List Nat}:Stp ls prt pace (.giv k (x::r)) S (.giv k r) (bD ls S k x)
 |half {S:PlS}{k:Int}{r:List Nat}:r.Perm S.tr->dB r->Stp ls prt pace (.giv k []) S (.tak k r) { S with tr:=[] }
 |wait {S:PlS}{k i:Int}{x:Nat}{r:List Nat}:cb S (aq S (prt x))=some i->Stp ls prt pace (.tak k (x::r)) S (.tak k r) (fE S i.toNat x)
 |take {S:PlS}{k:Int}{x:Nat}{r:List Nat}:cb S (aq S (prt x))=none->S.sp≠0->Stp ls prt pace (.tak k (x::r)) S (.tak k r) (aT (prt x) pace S k x)
 |over {S:PlS}{k:Int}:Stp ls prt pace (.tak k []) S .top S
section
variable {ls:Nat->Option Int}{prt:Nat->PR}{pace:List (List Int)}
theorem Stp.uq{p p1 p2:Ph}{S S1 S2:PlS}(a:Stp ls prt pace p S p1 S1)(b:Stp ls prt pace p S p2 S2):p1=p2/\S1=S2:=by
 cases a with
 |turn h1 h2 h3=>
  cases b with
  |turn g1 g2 g3=>
   rename_i k r k' r'
   have e:k=k':=by
    have:=h1.2 k' g1.1;have:=g1.2 k h1.1;omega
   subst e;obtain rfl:=kf h3 g3 (h2.trans g2.symm);exact⟨U,U⟩
 |give=>cases b;exact⟨U,U⟩
 |half h2 h3=>
  cases b with
  |half g2 g3=>
   obtain rfl:=kf h3 g3 (h2.trans g2.symm);exact⟨U,U⟩
 |wait h=>
  cases b with
  |wait g=>rw[h]at g;cases g;exact⟨U,U⟩
  |take g _=>rw[h]at g;cases g
 |take h _=>
  cases b with
  |wait g=>rw[h]at g;cases g
  |take _ _=>exact⟨U,U⟩
 |over=>cases b;exact⟨U,U⟩
inductive d9(ls:Nat->Option Int)(prt:Nat->PR)(pace:List (List Int)):Ph->PlS->Ph->PlS->Prop
 |refl {p:Ph}{S:PlS}:d9 ls prt pace p S p S
 |head {p p1 p2:Ph}{S S1 S2:PlS}:Stp ls prt pace p S p1 S1->d9 ls prt pace p1 S1 p2 S2->d9 ls prt pace p S p2 S2
theorem d9.tail{p p1 p2:Ph}{S S1 S2:PlS}(a:d9 ls prt pace p S p1 S1)(b:Stp ls prt pace p1 S1 p2 S2):d9 ls prt pace p S p2 S2:=by
 induction a with
 |refl=>exact .head b .refl
 |head h _ ih=>exact .head h (ih b)
theorem aX.str{S0 S:PlS}{p:Ph}(h:aX ls prt pace S0 p S):d9 ls prt pace .top S0 p S:=by
 induction h with
 |base=>exact .refl
 |turn _ h1 h2 h3 ih=>exact ih.tail (.turn h1 h2 h3)
 |give _ ih=>exact ih.tail .give
 |half _ h2 h3 ih=>exact ih.tail (.half h2 h3)
 |wait _ h ih=>exact ih.tail (.wait h)
 |take _ h hs ih=>exact ih.tail (.take h hs)
 |over _ ih=>exact ih.tail .over
theorem d9.uq{p p1 p2:Ph}{S S1 S2:PlS}(a:d9 ls prt pace p S p1 S1)(e1:∀p' S',¬ Stp ls prt pace p1 S1 p' S')(e2:∀p' S',¬ Stp ls prt pace p2 S2 p' S'):d9 ls prt pace p S p2 S2->p1=p2/\S1=S2:=by
 induction a with
 |refl=>
  intro b
  cases b with
  |refl=>exact⟨U,U⟩
  |head h _=>exact Q4 h (e1 _ _)
 |head h _ ih=>
  intro b
  cases b with
  |refl=>exact Q4 h (e2 _ _)
  |head g r=>
   obtain⟨rfl,rfl⟩:=h.uq g;exact ih e1 r
theorem zB{S:PlS}(h:S.gv=[]):∀p' S',¬ Stp ls prt pace .top S p' S':=λp' S' z=>by
 cases z with
 |turn h1 _ _=>
  have:=h1.1;rw[h]at this;cases this
theorem zC{S:PlS}{k:Int}{x:Nat}{r:List Nat}(h:cb S (aq S (prt x))=none)(h0:S.sp=0):∀p' S',¬ Stp ls prt pace (.tak k (x::r)) S p' S':=λp' S' z=>by
 cases z with
 |wait g=>rw[h]at g;cases g
 |take _ g=>exact g h0
end
def c7(S:PlS)(s:Nat):PlS:={ S with sp:=s }
def cq(F:Nat):List Ent->List Ent
 |[]=>[]
 |e::es=>if e.took then(match F with|0=>[]|F+1=>e::cq F es)else e::cq F es
theorem j2{e:Ent}{es:List Ent}:au (e::es)=(if e.took then 1 else 0)+au es:=by
 unfold au
 cases h:e.took with
 |true=>rw[List.filter_cons_of_pos (by simpa using h)];simp;omega
 |false=>rw[List.filter_cons_of_neg (by simpa using h)];simp
theorem eU{e:Ent}{es:List Ent}:au (es++[e])=au es+(if e.took then 1 else 0):=by
 unfold au;rw[Qr,qb]
 cases h:e.took with
 |true=>rw[List.filter_cons_of_pos (by simpa using h)];simp
 |false=>rw[List.filter_cons_of_neg (by simpa using h)];simp
theorem gS:∀{es:List Ent}{F:Nat},au es<=F->cq F es=es
 |[],_,_=>rfl
 |e::es,F,h=>by
  rw[j2]at h;unfold cq
  cases tk:e.took with
  |true=>
   rw[tk]at h
   cases F with
   |zero=>simp at h
   |succ F=>exact congrArg (e::·) (gS (by simp at h;omega))
  |false=>
   rw[tk]at h;exact congrArg (e::·) (gS (by simpa using h))
theorem gR:∀{es fs:List Ent}{F:Nat},F<au es->cq F (es++fs)=cq F es
 |[],_,_,h=>by simp[au]at h
 |e::es,fs,F,h=>by
  rw[j2]at h;rw[Ql];unfold cq
  cases tk:e.took with
  |true=>
   rw[tk]at h
   cases F with
   |zero=>rfl
   |succ F=>exact congrArg (e::·) (gR (by simp at h;omega))
  |false=>
   rw[tk]at h;exact congrArg (e::·) (gR (by simpa using h))
theorem iS:∀{es:List Ent}{e:Ent}{F:Nat},au es=F->e.took=true->cq F (es++[e])=es
 |[],e,F,h,tk=>by
  have:F=0:=by rw[<- h];rfl
  subst this;show cq 0 [e]=[];unfold cq;rw[Q0 tk]
 |a::es,e,F,h,tk=>by
  rw[j2]at h;rw[Ql];unfold cq
  cases ta:a.took with
  |true=>
   rw[ta]at h
   cases F with
   |zero=>simp at h
   |succ F=>exact congrArg (a::·) (iS (by simp at h;omega) tk)
  |false=>
   rw[ta]at h;exact congrArg (a::·) (iS (by simpa using h) tk)
section
variable {ls:Nat->Option Int}{prt:Nat->PR}{pace:List (List Int)}
theorem zm{S:PlS}{k:Int}{x s:Nat}:bD ls (c7 S s) k x=c7 (bD ls S k x) s:=by
 have hd:∀(ps:List (Int×Int))(S:PlS),ps.foldl ap (c7 S s)=c7 (ps.foldl ap S) s:=by
  intro ps
  induction ps with
  |nil=>intro S;rfl
  |cons p ps ih=>intro S;exact ih (ap S p)
 unfold bD;show(match(S.held x).find? (λp=>!roomF ls S p.1.toNat)with|some p=>fF (c7 S s) p.1.toNat x|none=>cy (c7 S s) k x)=_
 cases(S.held x).find? (λp=>!roomF ls S p.1.toNat)with
 |some p=>rfl
 |none=>
  show cy (c7 S s) k x=c7 (cy S k x) s;show(let S':=(S.held x).foldl ap (c7 S s);({ S' with lg:=S'.lg++[⟨k,x,false,S.held x⟩],tr:=S'.tr++[x] }:PlS))=_;rw[hd]
  rfl
theorem tP{S:PlS}{k:Int}{x s:Nat}:aT (prt x) pace (c7 S (s+1)) k x=c7 (aT (prt x) pace S k x) s:=by
 have fr:∀(ws:List Int)(S:PlS),ws.foldl (bg k) (c7 S s)=c7 (ws.foldl (bg k) S) s:=by
  intro ws
  induction ws with
  |nil=>intro S;rfl
  |cons w ws ih=>intro S;exact ih (bg k S w)
 have ew:aq (c7 S (s+1)) (prt x)=aq S (prt x):=by cases prt x<;>rfl
 unfold aT;rw[ew,<- fr]
 congr 1
theorem gX{S:PlS}{s:Nat}{r:PR}:aq (c7 S s) r=aq S r:=by cases r<;>rfl
theorem mB{S:PlS}{k:Int}{x:Nat}:au (bD ls S k x).lg=au S.lg:=by
 unfold bD;split
 ·rfl
 ·show au (((S.held x).foldl ap S).lg++[_])=_;rw[eU,(eI (S.held x) S).2.2.1]
  rfl
theorem yB{S:PlS}{k:Int}{x:Nat}:∃fs,(bD ls S k x).lg=S.lg++fs:=by
 unfold bD;split
 ·exact⟨[],(qx _).symm⟩
 ·exact⟨[⟨k,x,false,S.held x⟩],by show((S.held x).foldl ap S).lg++[_]=_;rw[(eI (S.held x) S).2.2.1]⟩
theorem aX.fewer{xs:List Ln}{n M F:Nat}{ph:Ph}{S:PlS}(h:aX ls prt pace (bE xs n M) ph S):(au S.lg<=F->aX ls prt pace (bE xs n F) ph (c7 S (F-au S.lg)))/\(F<au S.lg->∃k x r S',aX ls prt pace (bE xs n F) (.tak k (x::r)) S'/\cb S' (aq S' (prt x))=none/\S'.sp=0/\S'.lg=cq F S.lg):=by
 induction h with
 |base=>exact⟨λ_=>.base,λz=>by simp[bE,au]at z⟩
 |@turn S k r h hk p rs ih=>exact⟨λz=>.turn (ih.1 z) hk p rs,ih.2⟩
 |@give S k x r h ih=>
  refine⟨λz=>?_,λz=>?_⟩
  ·rw[mB]at z ⊢;rw[<- zm];exact .give (ih.1 z)
  ·rw[mB]at z;obtain⟨fs,e⟩:=yB (ls:=ls) (S:=S) (k:=k) (x:=x);rw[e,gR z];exact ih.2 z
 |@half S k r h p rs ih=>exact⟨λz=>.half (ih.1 z) p rs,ih.2⟩
 |@wait S k i x r h hl ih=>exact⟨λz=>aX.wait (S:=c7 S (F-au S.lg)) (ih.1 z) (by rw[gX];exact hl),ih.2⟩
 |@take S k x r h hl hs ih=>
  have el:(aT (prt x) pace S k x).lg=S.lg++[⟨k,x,true,(aq S (prt x)).zip ((aq S (prt x)).map (aR S))⟩]:=(fy k (aq S (prt x)) (bH (prt x) pace S k x)).2.2.1;have et:au (aT (prt x) pace S k x).lg=au S.lg+1:=by rw[el,eU];rfl
  rw[et];refine⟨λz=>?_,λz=>?_⟩
  ·have hh:=ih.1 Qw;rw[show F-au S.lg=F-(au S.lg+1)+1 by omega]at hh;have:=aX.take hh (by rw[gX];exact hl) (Nat.succ_ne_zero _)
   rwa [tP]at this
  ·by_cases c:F<au S.lg
   ·rw[el,gR c];exact ih.2 c
   ·have ef:au S.lg=F:=by omega
    refine⟨k,x,r,c7 S 0,?_,by rw[gX];exact hl,U,?_⟩
    ·have:=ih.1 Qw
     rwa [show F-au S.lg=0 by omega]at this
    ·rw[el,iS ef U]
     rfl
 |over _ ih=>exact⟨λz=>.over (ih.1 z),ih.2⟩
end
def cJ(es:List Ent)(x:Nat):Bool:=es.foldl (λb e=>if e.part=x then e.took else b) false
def bO(es:List Ent)(x:Nat):List (Int×Int):=es.foldl (λh e=>if e.took=true/\e.part=x then e.hs else h) []
theorem kX{es:List Ent}{e:Ent}{x:Nat}:cJ (es++[e]) x=if e.part=x then e.took else cJ es x:=by unfold cJ;rw[List.foldl_append];rfl
theorem rh{es:List Ent}{e:Ent}{x:Nat}:bO (es++[e]) x=if e.took=true/\e.part=x then e.hs else bO es x:=by unfold bO;rw[List.foldl_append];rfl
theorem mv{n nl:Nat}{ls:Nat->Option Int}{prt:Nat->PR}{pace:List (List Int)}:∀{es:List Ent}{W:WS}{e:Ent},d8 n nl ls prt pace W (es++[e])->d8 n nl ls prt pace W es/\OkE n nl ls prt (es.foldl (bQ prt pace) W) e
 |[],_,_,h=>⟨trivial,h.1⟩
 |_::es,_,_,h=>let ⟨a,b⟩:=mv (es:=es) h.2;⟨⟨h.1,a⟩,b⟩
theorem uv{P:List Ent->Prop}(h0:P [])(hs:∀es e,P es->P (es++[e])):∀es,P es:=λes=>by
 have go:∀(n:Nat)(es:List Ent),es.length=n->P es:=by
  intro n
  induction n with
  |zero=>intro es h;rw[List.length_eq_zero_iff.mp h];exact h0
  |succ n ih=>
   intro es h;have ne:es≠[]:=λz=>by rw[z]at h;cases h
   rw[<- List.dropLast_concat_getLast ne];exact hs _ _ (ih _ (by rw[List.length_dropLast,h];rfl))
 exact go _ es U
theorem rJ{n nl:Nat}{ls:Nat->Option Int}{prt:Nat->PR}{pace:List (List Int)}{xs:List Ln}:∀es:List Ent,d8 n nl ls prt pace (cw xs) es->∀x,(cJ es x=false/\(es.foldl (bQ prt pace) (cw xs)).post x=none)\/(cJ es x=true/\(es.foldl (bQ prt pace) (cw xs)).post x=some ((prt x).made ((bO es x).map (·.2)))/\(bO es x).length=(prt x).wide):=by
 refine uv (λ_ x=>.inl ⟨U,U⟩) λes e ih w x=>?_;obtain⟨w,O⟩:=mv w;have ih:=ih w x;rw[List.foldl_append,kX,rh];generalize es.foldl (bQ prt pace) (cw xs)=W at ih O;show(_/\(bQ prt pace W e).post x=none)\/(_/\(bQ prt pace W e).post x=some _/\_);unfold bQ
 cases tk:e.took with
 |true=>
  rw[Q0 U];show(_/\put W.post e.part _ x=none)\/(_/\put W.post e.part _ x=some _/\_);by_cases c:e.part=x
  ·subst c;rw[Q0 U,Q0 ⟨U,U⟩,aK];exact .inr ⟨U,U,(O.tk tk).2.2.2⟩
  ·rw[qZ c,qZ λz=>c z.2,aB λz=>c z.symm];exact ih
 |false=>
  have e1:(if false=true then(WS.mk (dg W.rows e.hs) (put W.post e.part (some ((prt e.part).made (e.hs.map (·.2))))) (put W.due e.part (e.now+1+bK pace e.part (W.tks e.part))) (put W.tks e.part (W.tks e.part+1)) e.now 1 e.part)else{ W with rows:=cK W.rows e.hs,post:=put W.post e.part none,l1:=e.now,l2:=0,l3:=e.part }).post x=put W.post e.part none x:=U;have e2:(if false=true/\e.part=x then e.hs else bO es x)=bO es x:=qZ λz=>by cases z.1
  rw[e1,e2];by_cases c:e.part=x
  ·subst c;rw[Q0 U,aK];exact .inl ⟨U,U⟩
  ·rw[qZ c,aB λz=>c z.symm];exact ih
def d5:PR->List (Int×Int)->List Int
 |.pass _ outs _,_=>outs
 |.work _ out _ _ _,_=>[out]
 |.choose _ w o n t,ts=>if(ts.map (·.2)).getD w.toNat 0=0 then n++[t]else o++[t]
 |.merge _ _ _ outs,_=>outs
theorem zj:∀{r:PR}{ts:List (Int×Int)},r.ok->ts.length=r.wide->(r.made (ts.map (·.2))).map (·.1)=d5 r ts
 |.pass _ outs route,ts,ok,_=>List.map_fst_zip (by rw[q9];have:=ok.1;omega)
 |.work ..,_,_,_=>rfl
 |.choose ins w o n t,ts,ok,wd=>by
  obtain⟨_,_,o3,o4,_⟩:=ok;have wd:ts.length=ins.length:=wd;show(if(ts.map λp:Int×Int=>p.2).getD w.toNat 0=0 then n.zip (ts.map λp:Int×Int=>p.2)++[(t,0)]else o.zip (ts.map λp:Int×Int=>p.2)++[(t,1)]).map (λp:Int×Int=>p.1)=if(ts.map λp:Int×Int=>p.2).getD w.toNat 0=0 then n++[t]else o++[t];split
  ·rw[qO,List.map_fst_zip (by rw[q9];omega)];rfl
  ·rw[qO,List.map_fst_zip (by rw[q9];omega)];rfl
 |.merge _ _ _ outs,ts,_,wd=>by
  have wd:ts.length=1+outs.length:=wd;exact List.map_fst_zip (by rw[List.length_tail,q9];omega)
def tkE(m:Int)(t:Nat):Ent:=⟨t,0,true,[(0,m)]⟩
def gvE(m:Int)(t:Nat):Ent:=⟨t,0,false,[(0,m)]⟩
def d6(m:Int):Nat->List Ent
 |0=>[tkE m 0]
 |t+1=>d6 m t++[gvE m (t+1),tkE m (t+1)]
def dY:PR:=.pass [0] [0] [0]
structure RgT(m:Int)(j:Nat)(S:PlS)(lg:List Ent)(sp:Nat):Prop where
 st:S.st 0=(List.replicate (j+1) m,j)
 gv:S.gv=[]
 tr:S.tr=[]
 wr:∀i,S.wr i=[]
 wt:∀i,S.wt i=[]
 sp:S.sp=sp
 lg:S.lg=lg
structure RgI(m:Int)(t:Nat)(S:PlS):Prop where
 st:S.st 0=(List.replicate (t+1) m,t+1)
 held:S.held 0=[(0,m)]
 gv:S.gv=[((t:Int)+1,[0])]
 tr:S.tr=[]
 wr:∀i,S.wr i=[]
 wt:∀i,S.wt i=[]
 sp:S.sp=4999-t
 lg:S.lg=d6 m t
theorem RgT.row{m:Int}{j:Nat}{S:PlS}{lg:List Ent}{sp:Nat}(h:RgT m j S lg sp):ax S 0=[m]:=by
 unfold ax;rw[h.st];show(List.replicate (j+1) m).drop j=[m];rw[List.drop_replicate,show j+1-j=1 by omega]
 rfl
theorem RgT.lack{m:Int}{j:Nat}{S:PlS}{lg:List Ent}{sp:Nat}(h:RgT m j S lg sp):cb S (aq S dY)=none:=by
 show List.find? (λi:Int=>(ax S i.toNat).isEmpty) [0]=none;rw[List.find?_cons_of_neg (by show ¬ (ax S 0).isEmpty=true;rw[h.row];simp)]
 rfl
theorem RgT.taken{m:Int}{j:Nat}{S:PlS}{lg:List Ent}(h:RgT m j S lg (5000-j))(el:lg++[tkE m j]=d6 m j):RgI m j (aT dY [] S j 0):=by
 have th:aR S 0=m:=by show(ax S 0).headD 0=m;rw[h.row];rfl
 have eT:aT dY [] S j 0=bg j (bH dY [] S j 0) 0:=U
 have eg:(bH dY [] S j 0).gv=[((j:Int)+1,[0])]:=by
  show bf S.gv ((j:Int)+1+0) [0]=_;rw[h.gv,Int.add_zero]
  rfl
 rw[eT];refine⟨?_,?_,?_,h.tr,λi=>?_,h.wt,?_,?_⟩
 ·show(put S.st 0 ((S.st 0).1,(S.st 0).2+1)) 0=_;rw[aK,h.st]
 ·show(put S.held 0 _) 0=_;rw[aK];show[((0:Int),([aR S 0]:List Int).getD (0:Int).toNat 0)]=_;rw[th]
  rfl
 ·show bf (bH dY [] S j 0).gv ((j:Int)+1) (S.wr 0)=_;rw[eg,h.wr 0]
  rfl
 ·show put S.wr 0 [] i=[];by_cases c:i=0
  ·rw[c,aK]
  ·rw[aB c];exact h.wr i
 ·show S.sp-1=_;rw[h.sp];omega
 ·show S.lg++[⟨(j:Int),0,true,[((0:Int),aR S 0)]⟩]=_;rw[h.lg,th,<- el]
  rfl
section
variable {m L:Int}{ls:Nat->Option Int}{prt:Nat->PR}
theorem oP(hL:ls 0=some L)(h1:1<=L){t:Nat}{S:PlS}(h:RgI m t S):RgT m (t+1) { (bD ls { S with gv:=bp S.gv ((t:Int)+1) } ((t:Int)+1) 0)with tr:=[] } (d6 m t++[gvE m (t+1)]) (4999-t)/\(bD ls { S with gv:=bp S.gv ((t:Int)+1) } ((t:Int)+1) 0).tr=[0]:=by
 have eg:bp S.gv ((t:Int)+1)=[]:=by
  rw[h.gv];unfold bp;rw[List.filter_cons_of_neg (by simp)]
  rfl
 have er:roomF ls { S with gv:=bp S.gv ((t:Int)+1) } 0=true:=by
  unfold roomF;show roomV (ls 0) (((S.st 0).1.length:Int)-(S.st 0).2)=true;rw[hL,h.st];show decide (_<L)=true;rw[List.length_replicate];exact Q1 Qw
 have eG:bD ls { S with gv:=bp S.gv ((t:Int)+1) } ((t:Int)+1) 0=cy { S with gv:=bp S.gv ((t:Int)+1) } ((t:Int)+1) 0:=by
  unfold bD;show(match(S.held 0).find? (λp=>!roomF ls { S with gv:=bp S.gv ((t:Int)+1) } p.1.toNat)with|some p=>fF { S with gv:=bp S.gv ((t:Int)+1) } p.1.toNat 0|none=>cy { S with gv:=bp S.gv ((t:Int)+1) } ((t:Int)+1) 0)=_;rw[h.held,List.find?_cons_of_neg (by show ¬ (!roomF ls { S with gv:=bp S.gv ((t:Int)+1) } 0)=true;rw[er];decide)]
  rfl
 have eH:cy { S with gv:=bp S.gv ((t:Int)+1) } ((t:Int)+1) 0=(let S':=ap { S with gv:=bp S.gv ((t:Int)+1) } (0,m);({ S' with lg:=S'.lg++[⟨(t:Int)+1,0,false,[(0,m)]⟩],tr:=S'.tr++[0] }:PlS)):=by
  unfold cy;show(let S':=(S.held 0).foldl ap { S with gv:=bp S.gv ((t:Int)+1) };({ S' with lg:=S'.lg++[⟨(t:Int)+1,0,false,S.held 0⟩],tr:=S'.tr++[0] }:PlS))=_;rw[h.held]
  rfl
 rw[eG,eH];refine⟨⟨?_,eg,U,h.wr,λi=>?_,h.sp,?_⟩,?_⟩
 ·show put S.st 0 ((S.st 0).1++[m],(S.st 0).2) 0=_;rw[aK,h.st];show(List.replicate (t+1) m++[m],t+1)=_;rw[List.replicate_succ' (n:=t+1)]
 ·show put S.wt 0 [] i=[];by_cases c:i=0
  ·rw[c,aK]
  ·rw[aB c];exact h.wt i
 ·show S.lg++[⟨(t:Int)+1,0,false,[(0,m)]⟩]=_;rw[h.lg]
  rfl
 ·show(S.tr++S.wt 0)++[0]=[0];rw[h.tr,h.wt 0]
  rfl
theorem oN{t:Nat}{S:PlS}(h:RgI m t S):kS S.gv ((t:Int)+1)/\([0]:List Nat).Perm (atG S.gv ((t:Int)+1)):=by
 rw[h.gv];refine⟨⟨qS.mpr U,λj hj=>by rw[qS.mp hj];exact Int.le_refl _⟩,?_⟩;unfold atG;rw[List.find?_cons_of_pos (by simp)];exact List.Perm.refl _
theorem vp{xs:List Ln}(hx:xs=[(some L,[m])])(hL:ls 0=some L)(h1:1<=L)(hp:prt 0=dY):∀t:Nat,t<=4999->∃S,aX ls prt [] (bE xs 1 5000) .top S/\RgI m t S:=by
 subst hx;intro t
 induction t with
 |zero=>
  intro _;have R0:aX ls prt [] (bE [(some L,[m])] 1 5000) (.giv 0 []) _:=aX.turn (k:=0) (r:=[]) .base ⟨qS.mpr U,λj hj=>by rw[qS.mp hj];exact Int.le_refl _⟩ (List.Perm.refl _) List.Pairwise.nil;have R1:=aX.half (r:=[0]) R0 (List.Perm.refl _) (Qq _ _);have I1:RgT m 0 ({ ({ (bE [(some L,[m])] 1 5000)with gv:=bp (bE [(some L,[m])] 1 5000).gv 0 }:PlS)with tr:=[] }:PlS) [] (5000-0):=⟨U,U,U,λ_=>U,λ_=>U,U,U⟩;have R2:=aX.take R1 (by rw[hp];exact I1.lack) (by show(5000:Nat)≠0;decide);rw[hp]at R2;exact⟨_,R2.over,I1.taken U⟩
 |succ t ih=>
  intro le;obtain⟨S,R,I⟩:=ih Qw;obtain⟨t1,t2⟩:=oN I;obtain⟨g1,g2⟩:=oP (ls:=ls) hL h1 I;have R1:=aX.turn R t1 t2 (Qq _ _);have R2:=R1.give;have R3:=aX.half (r:=[0]) R2 (by rw[g2]) (Qq _ _);have R4:=aX.take R3 (by rw[hp];exact g1.lack) (by rw[g1.sp];omega);rw[hp]at R4;refine⟨_,R4.over,?_⟩;have g1':=g1;rw[show 4999-t=5000-(t+1)by omega]at g1';exact g1'.taken (by show d6 m t++[gvE m (t+1)]++[tkE m (t+1)]=d6 m t++[gvE m (t+1),tkE m (t+1)];rw[qN];rfl)
theorem vq{xs:List Ln}(hx:xs=[(some L,[m])])(hL:ls 0=some L)(h1:1<=L)(hp:prt 0=dY):∃S,aX ls prt [] (bE xs 1 5000) (.tak 5000 [0]) S/\cb S (aq S (prt 0))=none/\S.sp=0/\S.lg=d6 m 4999++[gvE m 5000]/\ax S 0=[m]:=by
 obtain⟨S,R,I⟩:=vp (prt:=prt) hx hL h1 hp 4999 (qe _);obtain⟨t1,t2⟩:=oN I;obtain⟨g1,g2⟩:=oP (ls:=ls) hL h1 I;have R1:=aX.turn R t1 t2 (Qq _ _);have R2:=R1.give;have R3:=aX.half (r:=[0]) R2 (by rw[g2]) (Qq _ _);exact⟨_,R3,by rw[hp];exact g1.lack,g1.sp,g1.lg,g1.row⟩
theorem oO:∀t:Nat,(d6 m t).length=2 * t+1/\au (d6 m t)=t+1
 |0=>⟨U,U⟩
 |t+1=>by
  obtain⟨a,b⟩:=oO t;refine⟨by show(d6 m t++[gvE m (t+1),tkE m (t+1)]).length=_;rw[qb,a];rfl,?_⟩;show au (d6 m t++[gvE m (t+1),tkE m (t+1)])=_;unfold au at b ⊢;rw[Qr,qb,b]
  rfl
end
theorem RPc.sameK{H H':Hp}(s:aa H H'){v:V}{pace:List (List Int)}(h:RPc H v pace):RPc H' v pace:=h.imp id λ⟨pc,pv,e,h1,h2⟩=>⟨pc,pv,e,s _ _ h1,h2.same s⟩
def fY(e:Ent):PyData:=.tuple [.int e.now,.int e.part,.str (if e.took then "took" else "gave"),.list (e.hs.map λp=>.tuple [.int p.1,.int p.2])]
theorem REs.dtF{K:W.Frag}{H:Hp}:∀{vs:List V}{es:List Ent},REs H vs es->cF K H vs (es.map fY)
 |_,_,.nil=>.nil
 |_,_,.cons a b c r=>.cons (.tup (SqT.of a) (.cons (.int _) (.cons (.int _) (.cons (.str _) (.cons (.lst (SqL.of b) c.dt) .nil))))) (REs.dtF r)
theorem ow(e:Ent):Shp 3 (fY e):=.tup (eW (.int _ _) (eW (.int _ _) (eW (.str _ (by cases e.took<;>decide +kernel)) (eW (uB _) oq))))
theorem ou(es:List Ent):Shp 4 (.list (es.map fY)):=.lst λd hd=>by
 obtain⟨e,_,rfl⟩:=List.mem_map.mp hd;exact ow e
theorem oK{H:Hp}:∀{vs:List V}{xss:List (List Int)},RIs H vs xss->∃as:List Addr,vs=as.map V.ref/\as.length=xss.length/\∀(j:Nat) x xs,as[j]?=some x->xss[j]?=some xs->H x=some (.lst (xs.map V.int))
 |_,_,.nil=>⟨[],U,U,λj x xs h=>by simp at h⟩
 |_,_,.cons (p:=p) a r=>by
  obtain⟨as,h1,h2,h3⟩:=oK r;refine⟨p::as,by rw[h1];rfl,congrArg (·+1) h2,λj x xs hj hx=>?_⟩
  cases j with
  |zero=>cases hj;cases hx;exact a
  |succ j=>exact h3 j x xs (by simpa using hj) (by simpa using hx)
def cX(f:Nat->List Int)(r:PR):Bool:=(cD f r).all λl=>!(f l.toNat).isEmpty
def ldV(es:List Ent)(x:Nat):V:=if cJ es x then .bl true else .non
theorem REs.splitK{H:Hp}{vs:List V}{es fs:List Ent}(h:REs H vs (es++fs)):REs H (vs.take es.length) es/\REs H (vs.drop es.length) fs:=by
 induction es generalizing vs with
 |nil=>exact⟨.nil,h⟩
 |cons e es ih=>
  cases h with
  |cons a b c r=>
   obtain⟨h1,h2⟩:=ih r;exact⟨.cons a b c h1,h2⟩
inductive nr(vs:List V)(H:Hp)(Q:VK)(E:XK):Prop
 |mk (lq lg:Addr) (ps lgv:List V) (es:List Ent) (h0_:vs=[.ref lq,.ref lg]) (h1_:H lq=some (.lst ps)) (h2_:H lg=some (.lst lgv)) (h3_:REs H lgv es) (h4_:(∀e∈es,e.part<ps.length)) (h5_:ps.length<60) (h6_:∀H' l,aa H H'->H' l=some (.lst ((List.range ps.length).map (ldV es)))->Q (.ref l) H'):nr vs H Q E
inductive mY(vs:List V)(H:Hp)(Q:VK)(E:XK):Prop
 |mk (v:V) (r:PR) (lr:Addr) (rv:List V) (f:Nat->List Int) (nl:Nat) (h0_:vs=[v,.ref lr]) (h1_:RR H v r) (h2_:r.ok) (h3_:r.fit nl) (h4_:H lr=some (.lst rv)) (h5_:RIs H rv ((List.range nl).map f)) (h6_:∀H',aa H H'->Q (.bl (cX f r)) H'):mY vs H Q E
inductive nD(vs:List V)(H:Hp)(Q:VK)(E:XK):Prop
 |mk (v:V) (r:PR) (l:Addr) (us:List V) (ts:List (Int×Int)) (h0_:vs=[v,.ref l]) (h1_:RR H v r) (h2_:r.ok) (h3_:H l=some (.lst us)) (h4_:RPs H us ts) (h5_:ts.length=r.wide) (h6_:∀H' t,aa H H'->H' t=some (.tup ((d5 r ts).map V.int))->Q (.ref t) H'):nD vs H Q E
inductive nC(vs:List V)(H:Hp)(Q:VK)(E:XK):Prop
 |mk (lg:Addr) (lgv:List V) (es:List Ent) (x:Nat) (h0_:vs=[.ref lg,.int x]) (h1_:H lg=some (.lst lgv)) (h2_:REs H lgv es) (h3_:∀H' l us,aa H H'->H' l=some (.lst us)->RPs H' us (bO es x)->Q (.ref l) H'):nC vs H Q E
structure SkB(H:Hp)(ll lq lg lf:Addr)(xs:List Ln)(rs:List PR)(es:List Ent)(f:Nat->List Int):Prop where
 l:∃us,H ll=some (.lst us)/\RLn H us xs
 q:∃ps,H lq=some (.lst ps)/\RRs H ps rs
 g:∃lgv,H lg=some (.lst lgv)/\REs H lgv es
 f:∃fv,H lf=some (.lst fv)/\RIs H fv ((List.range xs.length).map f)
 ok:∀r∈rs,r.ok/\r.fit xs.length
 n:rs.length<60
 ep:∀e∈es,e.part<rs.length
theorem SkB.same{H H':Hp}{ll lq lg lf:Addr}{xs:List Ln}{rs:List PR}{es:List Ent}{f:Nat->List Int}(h:SkB H ll lq lg lf xs rs es f)(s:aa H H'):SkB H' ll lq lg lf xs rs es f:=
 ⟨let ⟨u,a,b⟩:=h.l;⟨u,s _ _ a,b.same s⟩,let ⟨u,a,b⟩:=h.q;⟨u,s _ _ a,b.same s⟩,let ⟨u,a,b⟩:=h.g;⟨u,s _ _ a,b.same s⟩,let ⟨u,a,b⟩:=h.f;⟨u,s _ _ a,b.same s⟩,h.ok,h.n,h.ep⟩
def eJ(xs:List Ln)(f:Nat->List Int)(l:Int):Bool:=!roomV (bJ xs l.toNat).1 ((f l.toNat).length:Int)
inductive mV(vs:List V)(H:Hp)(Q:VK)(E:XK):Prop
 |mk (ll lq lg lf:Addr) (xs:List Ln) (rs:List PR) (es:List Ent) (f:Nat->List Int) (h0_:vs=[.ref ll,.ref lq,.ref lg,.ref lf]) (h1_:SkB H ll lq lg lf xs rs es f) (h2_:(∀x,x<rs.length->cJ es x=false->cX f (aZ rs x)=false)) (h3_:(∀x,x<rs.length->cJ es x=true->(bO es x).length=(aZ rs x).wide/\(∀l∈d5 (aZ rs x) (bO es x),0<=l/\l<xs.length)/\∃l∈d5 (aZ rs x) (bO es x),eJ xs f l=true)) (h4_:∀H',aa H H'->Q (.bl true) H'):mV vs H Q E
inductive nj(vs:List V)(H:Hp)(Q:VK)(E:XK):Prop
 |mk (ll lq lg lf:Addr) (xs:List Ln) (rs:List PR) (es:List Ent) (f:Nat->List Int) (h0_:vs=[.ref lq,.ref lg,.ref lf]) (h1_:SkB H ll lq lg lf xs rs es f) (h2_:(∃x,x<rs.length/\cJ es x=false/\cX f (aZ rs x)=true)) (h3_:∀H',aa H H'->Q (.bl true) H'):nj vs H Q E
inductive nE(vs:List V)(H:Hp)(Q:VK)(E:XK):Prop
 |mk (lg:Addr) (lgv:List V) (es:List Ent) (F:Nat) (h0_:vs=[.ref lg,.int F]) (h1_:H lg=some (.lst lgv)) (h2_:REs H lgv es) (h3_:es.length<=10000000) (h4_:∀H' l us,aa H H'->H' l=some (.lst us)->REs H' us (cq F es)->Q (.ref l) H'):nE vs H Q E
inductive jc(vs:List V)(H:Hp)(Q:VK)(E:XK):Prop
 |mk (m:Int) (h0_:vs=[.int m]) (h1_:(0<=m/\m<2147483647)) (h2_:∀H',Q (.bl true) H'):jc vs H Q E
theorem pP(T:Tx P w K mg a):aA P w K mg base CX0 1 a.Cu a.Cv ["_law_parts","_law_log"] nr:=by
 refine T.CW.ok ji (λvs H Q E h=>?_) (λcdv A outer s H vs Q E hr h=>?_)
 ·obtain⟨_,_,_,_,_,rfl,_⟩:=h
  rfl
 obtain⟨lq,lg,ps,lgv,es,rfl,hlq,hlg,res,ep,n60,q⟩:=h
 refine⟨_,(ag (ik (i:=2) ji.nd U Oi (k:=1) (Nc:=["_law_row"]) (js:=[]) (show aS (am i8) ["_law_parts","_law_log","_law_loads_here","_law_entry"] _ 1 ["_law_row"] []from aS.mk U (by decide +kernel) (by decide +kernel) (by decide +kernel) U (by decide +kernel)) U (cu (pq 0)) (λ_ _ _ _ _=>(aV (i:=0) (show List.Nodup (["_law_row"]:List Str)from by decide +kernel) U Oi)) (λ_ _ _ _ _=>bY) (λ_ _ _ _ _=>cS))
  (ag (cI PassesOwn.never U (cu (pq 1)) (aV (i:=3) ji.nd U Oi)
  (ai (aL (aE bd (ak aH (pq 3) ac Oy) bo (az _)) (ai (dF bU (f9 (pq 2) (ak aH (pq 3) ac Oy) eX))) (ai (dF cS (f9 (pq 2) (ak aH (pq 3) ac Oy) eX))))))
  (ai (ao (pq 2))))),?_⟩
 refine⟨_,U,lq,U,⟨_,SqL.of hlq⟩,?_⟩;refine dL (K:=K) (a:=lq) (xs:=ps) (λi ys σ G=>(∃v,σ=[v])/\G=H/\ys=(List.range i).map (ldV [])) ⟨⟨none,U⟩,U,U⟩ ?_ (bi (m:=1000) Qw) ?_ ?_ ?_
 ·rintro i ys σ G _ ⟨_,_,rfl⟩;simp
 ·rintro i ys σ G ⟨_,rfl,_⟩;exact SqL.of hlq
 ·rintro i x ys σ G hx ⟨⟨v,rfl⟩,rfl,rfl⟩;exact⟨⟨_,U⟩,U,by rw[List.range_succ,qO];rfl⟩
 rintro ys σ G ⟨_,eG,rfl⟩ lo hlo;rw[eG]at hlo ⊢;have so:=aa.new hlo (.lst ((List.range ps.length).map (ldV [])));dsimp only[aO];refine⟨_,U,lg,U,⟨_,SqL.of (so _ _ hlg)⟩,?_⟩;refine gO (K:=K) (a:=lg) (xs:=lgv) (λi σ G=>(∃v3,σ=[some (.ref lq),some (.ref lg),some (.ref lo),v3])/\aa H G/\G lo=some (.lst ((List.range ps.length).map (ldV (es.take i))))) ⟨⟨_,U⟩,so,af⟩ ?_ ?_ ?_
 ·rintro i σ G _ ⟨_,sg,_⟩;exact SqL.of (sg _ _ hlg)
 ·rintro i y σ G hy ⟨⟨v3,rfl⟩,sg,ho⟩;obtain⟨pe,le,eus,e,rfl,he,hpe,_⟩:=res.at hy;have en:=ep e (qz he);have et:es.take (i+1)=es.take i++[e]:=by rw[qr,he];rfl
  have ix:ixN ((List.range ps.length).map (ldV (es.take i))).length (e.part:Int)=some e.part:=by
   unfold ixN;rw[q9,Qd,Q0 Qw,Q0 Qw]
   rfl
  have st:∀v:V,v=ldV (es.take (i+1)) e.part->((List.range ps.length).map (ldV (es.take i))).set e.part v=(List.range ps.length).map (ldV (es.take (i+1))):=λv ev=>by
   refine List.ext_getElem? λj=>?_;rw[List.getElem?_set,qE,qE,q9,Qd];by_cases jl:j<ps.length
   ·rw[List.getElem?_range jl];by_cases c:e.part=j
    ·rw[Q0 c,Q0 en,ev,c];rfl
    ·rw[qZ c];show some (ldV _ j)=some (ldV _ j);unfold ldV;rw[et,kX,qZ c]
   ·rw[Qo (by rw[Qd];omega)];by_cases c:e.part=j
    ·omega
    ·rw[qZ c]
     rfl
  have lv:ldV (es.take (i+1)) e.part=if e.took then .bl true else .non:=by
   unfold ldV;rw[et,kX,Q0 U]
  dsimp only[aO]
  cases tk:e.took with
  |true=>
   rw[tk]at hpe lv;refine⟨_,U,pe,_,_,_,U,U,SqT.of (sg _ _ hpe),U,U,_,U,bn Qy ?_⟩;refine⟨_,U,_,U,pe,_,_,_,U,U,SqT.of (sg _ _ hpe),U,lo,_,_,e.part,U,U,ho,ix,?_⟩;rw[st (.bl true) lv.symm];exact⟨⟨_,U⟩,aa.over sg hlo,af⟩
  |false=>
   rw[tk]at hpe lv;refine⟨_,U,pe,_,_,_,U,U,SqT.of (sg _ _ hpe),U,U,_,U,aJ Qy ?_⟩;refine⟨_,U,_,U,pe,_,_,_,U,U,SqT.of (sg _ _ hpe),U,lo,_,_,e.part,U,U,ho,ix,?_⟩;rw[st .non lv.symm];exact⟨⟨_,U⟩,aa.over sg hlo,af⟩
 ·rintro σ G ⟨⟨v3,rfl⟩,sg,ho⟩;rw[res.len,qH]at ho;exact⟨_,U,q _ lo sg ho⟩
theorem pN(T:Tx P w K mg a):aA P w K mg base CX0 2 a.Cw a.Cy ["_law_row","_law_rows"] mY:=by
 refine T.CY.ok oB (λvs H Q E h=>?_) (λcdv A outer s H vs Q E hr h=>?_)
 ·obtain⟨_,_,_,_,_,_,rfl,_⟩:=h
  rfl
 obtain⟨v,r,lr,rv,f,nl,rfl,hrr,ok,ft,hlr,ris,q⟩:=h
 refine⟨_,(ag (cI PassesOwn.never U (gC (ba (x6 T) (hr.mono Qz) U T.Fq T.Du.kp T.Fp .nil ay (a8 (pq 0) (a8 (pq 1) ae)))) (aV (i:=2) oB.nd U Oi)
  (ai (aL (aE (kN hr.units) (ak aY (pq 1) (pq 2) Oy) (bz ae) (az _)) (ai (ao bU)) aM)))
  (ai (ao bU))),?_⟩
 obtain⟨as,rfl,al,hat⟩:=oK ris;rw[q9,Qd]at al;have hlr':H lr=some (.lst ((List.range nl).map λi=>V.ref (as.getD i lr))):=by rw[hlr,vv (d:=lr) al]
 have hra:∀i,i<nl->H (as.getD i lr)=some (.lst ((f i).map V.int)):=λi hi=>hat i _ _ (rS (d:=lr) Qw).1 (by rw[qE,List.getElem?_range hi];rfl);refine⟨_,U,_,U,v,r,lr,f,λi=>as.getD i lr,nl,U,hrr,ok,ft,hlr',hra,λH1 t s1 ht=>⟨t,U,⟨_,SqT.of ht⟩,?_⟩⟩;refine iN (K:=K) (a:=t) (xs:=(cD f r).map V.int) (λi σ G=>(∃v2,σ=[some v,some (.ref lr),v2])/\aa H1 G/\((cD f r).take i).all (λl=>!(f l.toNat).isEmpty)=true) ⟨⟨_,U⟩,aa.refl _,U⟩ ?_ ?_ ?_
 ·rintro i σ G _ ⟨_,sg,_⟩;exact SqT.of (sg _ _ ht)
 ·rintro i x σ G hx ⟨⟨v2,rfl⟩,sg,all⟩;rw[qE]at hx;obtain⟨l,hl,rfl⟩:=qP.mp hx;have lm:=iZ (qz hl)
  have lb:0<=l/\l<nl:=by
   cases r with
   |pass=>exact⟨ft.1.lo l lm,ft.1.hi l lm⟩
   |work=>exact⟨ft.1.lo l lm,ft.1.hi l lm⟩
   |choose=>exact⟨ft.1.lo l lm,ft.1.hi l lm⟩
   |merge=>
    rcases qh.mp lm with m|m
    ·rcases qh.mp m with m|m
     ·exact⟨ft.1.lo l (qk _ m),ft.1.hi l (qk _ m)⟩
     ·exact⟨ft.2.1.lo l (qk _ m),ft.2.1.hi l (qk _ m)⟩
    ·rw[qS.mp m];exact⟨ft.1.lo _ qm,ft.1.hi _ qm⟩
  have s01:=s1.trans sg;have rw0:=s01 _ _ (hra l.toNat Qw);dsimp only[aO];refine⟨_,U,_,U,lr,_,_,_,U,U,SqL.of (s01 _ _ hlr'),sT lb.1 lb.2,qt _,λpe hpe=>?_⟩;have s3:=aa.new hpe (.lst []);refine⟨_,.list [],.lst (SqL.of (s3 _ _ rw0)) (gP _),.lst (SqL.of af) .nil,(Shp.lst (n:=0) (gn _)).shaped Qz,Qy,_,U,?_⟩
  cases hrow:f l.toNat with
  |nil=>
   refine bn Qy ?_
   have e:cX f r=false:=by
    unfold cX;rw[List.all_eq_false];exact⟨l,qz hl,by rw[hrow];decide⟩
   have q:=q _ (s01.trans s3);rw[e]at q;exact q
  |cons b bs=>
   refine aJ U ⟨⟨_,U⟩,sg.trans s3,?_⟩;rw[qr,hl,List.all_append,all];simp[hrow]
 ·rintro σ G ⟨⟨v2,rfl⟩,sg,all⟩;rw[q9,qH]at all;have q:=q _ (s1.trans sg);rw[show cX f r=true from all]at q;exact q
theorem xk(T:Tx P w K mg a):aA P w K mg base CX0 1 a.Cz a.CA ["_law_row","_law_things"] nD:=by
 refine T.Dz.ok uN (λvs H Q E h=>?_) (λcdv A outer s H vs Q E hr h=>?_)
 ·obtain⟨_,_,_,_,_,rfl,_⟩:=h
  rfl
 obtain⟨v,r,l,us,ts,rfl,hrr,ok,hl,rp,wd,q⟩:=h
 refine⟨_,(ag (aL (aE bd (ak aH (pq 0) ac Oy) bo (az _)) (ai (ao (ak aH (pq 0) ac Oy))) aM)
  (ag (aL (aE bd (ak aH (pq 0) ac Oy) bo (az _)) (ai (ao (bw (a8 (ak aH (pq 0) ac Oy) ae)))) aM)
  (ag (aL (aE bd (ak aH (pq 0) ac Oy) bo (az _)) (ai (ao (ak aH (pq 0) ac Oy))) aM)
  (ag (aL (aE bd (ak aH (ak aY (pq 1) (ak aH (pq 0) ac Oy) Oy) ac Oy) ac (az _)) (ai (ao (ah gF (ak aH (pq 0) ac Oy) (bw (a8 (ak aH (pq 0) ac Oy) ae))))) aM)
  (ai (ao (ah gF (ak aH (pq 0) ac Oy) (bw (a8 (ak aH (pq 0) ac Oy) ae))))))))),?_⟩
 cases hrr with
 |pass h1 h2 h3 h4=>
  exact⟨_,U,_,_,_,_,U,U,SqT.of h1,U,U,_,U,bn Qy ⟨_,U,_,_,_,_,U,U,SqT.of h1,U,q H _ (aa.refl _) h3⟩⟩
 |work h1 h2 h3 h4=>
  refine⟨_,U,_,_,_,_,U,U,SqT.of h1,U,U,_,U,aJ Qy ?_⟩;exact⟨_,U,_,_,_,_,U,U,SqT.of h1,U,U,_,U,bn Qy ⟨_,U,_,_,_,_,U,U,SqT.of h1,U,ln1,λt ht=>q _ t (aa.new ht _) af⟩⟩
 |merge h1 h2 h3 h4=>
  refine⟨_,U,_,_,_,_,U,U,SqT.of h1,U,U,_,U,aJ Qy ?_⟩;refine⟨_,U,_,_,_,_,U,U,SqT.of h1,U,U,_,U,aJ Qy ?_⟩;exact⟨_,U,_,_,_,_,U,U,SqT.of h1,U,U,_,U,bn Qy ⟨_,U,_,_,_,_,U,U,SqT.of h1,U,q H _ (aa.refl _) h4⟩⟩
 |choose h1 h2 h3 h4=>
  rename_i p t0 t1 t2 ins ones noughts which told;obtain⟨o1,o2,o3,o4,o5⟩:=ok;change ts.length=ins.length at wd;refine⟨_,U,_,_,_,_,U,U,SqT.of h1,U,U,_,U,aJ Qy ?_⟩;refine⟨_,U,_,_,_,_,U,U,SqT.of h1,U,U,_,U,aJ Qy ?_⟩;refine⟨_,U,_,_,_,_,U,U,SqT.of h1,U,U,_,U,aJ Qy ?_⟩;have wl:which.toNat<us.length:=by rw[rp.len];omega
  obtain⟨pp,y,ey,hy,hpp⟩:=rp.at (qc wl);have ea:atI us which=some (.ref pp):=by rw[<- ey];exact eN o1 (qc wl)
  have eg:(ts.map λp:Int×Int=>p.2).getD which.toNat 0=y.2:=by rw[qj,qE,hy];rfl
  refine⟨_,U,_,U,_,_,_,_,U,U,SqT.of h1,U,l,_,_,_,U,U,SqL.of hl,ea,pp,_,_,_,U,U,SqT.of hpp,U,U,_,U,?_⟩
  have q':∀H' t,aa H H'->H' t=some (.tup ((if y.2=0 then noughts++[told]else ones++[told]).map V.int))->Q (.ref t) H':=λH' t s h=>q H' t s (by
   show H' t=some (.tup ((if(ts.map λp:Int×Int=>p.2).getD which.toNat 0=0 then noughts++[told]else ones++[told]).map V.int));rw[eg]
   exact h)
  refine bj (λc=>?_) (λc=>?_)
  ·rw[Q0 (dn c)]at q';refine⟨_,U,_,_,_,_,U,U,SqT.of h1,U,_,U,_,_,_,_,U,U,SqT.of h1,U,ln1,λp6 hp6=>?_⟩;have s1:=aa.new hp6 (.tup [.int told]);refine⟨t2,p6,_,_,U,U,SqT.of (s1 _ _ h4),SqT.of af,?_,?_,?_,?_⟩
   ·exact λz=>by rw[List.map_eq_nil_iff.mp z,List.length_nil]at o4;omega
   ·exact bi (m:=100) (by rw[q9,Q6];omega)
   ·exact λz=>by cases z
   ·exact λ_ p7 hp7=>q' _ p7 (s1.trans (aa.new hp7 _)) (by rw[af,qO];rfl)
  ·rw[qZ (dw c)]at q';refine⟨_,U,_,_,_,_,U,U,SqT.of h1,U,_,U,_,_,_,_,U,U,SqT.of h1,U,ln1,λp6 hp6=>?_⟩;have s1:=aa.new hp6 (.tup [.int told]);refine⟨t1,p6,_,_,U,U,SqT.of (s1 _ _ h3),SqT.of af,?_,?_,?_,?_⟩
   ·exact λz=>by rw[List.map_eq_nil_iff.mp z,List.length_nil]at o3;omega
   ·exact bi (m:=100) (by rw[q9,Q6];omega)
   ·exact λz=>by cases z
   ·exact λ_ p7 hp7=>q' _ p7 (s1.trans (aa.new hp7 _)) (by rw[af,qO];rfl)
theorem xj(T:Tx P w K mg a):aA P w K mg base CX0 1 a.CB a.CC ["_law_log","_law_place"] nC:=by
 refine T.DA.ok oF (λvs H Q E h=>?_) (λcdv A outer s H vs Q E hr h=>?_)
 ·obtain⟨_,_,_,_,rfl,_⟩:=h
  rfl
 obtain⟨lg,lgv,es,x,rfl,hlg,res,q⟩:=h
 refine⟨_,(ag (cI PassesOwn.never U (we U T.FG (a8 (pq 0) ae)) (aV (i:=2) oF.nd U Oi)
  (ai (aL (PW.pt (dZ (aE bd (ak aH (pq 2) ac Oy) (pq 1) (az _)) (f7 (aE bd (ak aH (pq 2) ac Oy) bo (az _))))) (ai (ao (ak aH (pq 2) ac Oy))) aM)))
  (ai (ao (bz ae)))),?_⟩
 refine⟨_,U,lg,_,U,SqL.of hlg,?_⟩;refine zx (K:=K) (a:=lg) (xs:=lgv) (λi σ G=>(∃v2,σ=[some (.ref lg),some (.int x),v2])/\G=H/\i<=es.length/\bO es x=bO (es.take (es.length-i)) x) ⟨⟨_,U⟩,U,qt _,by rw[Nat.sub_zero,qH]⟩ ?_ ?_ ?_
 ·rintro i σ G ⟨_,rfl,_⟩;exact SqL.of hlg
 ·rintro i y σ G hy ⟨⟨v2,rfl⟩,rfl,ile,el⟩
  have il:i<lgv.length:=by
   have:=(qf.mp hy).1
   rwa [List.length_reverse]at this
  rw[List.getElem?_reverse il,res.len]at hy;obtain⟨pe,le,eus,e,rfl,he,hpe,hle,rp⟩:=res.at hy;rw[res.len]at il
  have et:es.take (es.length-i)=es.take (es.length-(i+1))++[e]:=by
   rw[show es.length-i=es.length-(i+1)+1 by omega,qr,show es.length-(i+1)=es.length-1-i by omega,he]
   rfl
  rw[et,rh]at el;dsimp only[aO];by_cases c:e.part=x
  ·refine⟨_,U,pe,_,_,_,U,U,SqT.of hpe,U,_,U,U,_,U,bn (by rw[c];exact Q1 U) ?_⟩
   cases tk:e.took with
   |true=>
    rw[tk]at hpe;rw[Q0 ⟨tk,c⟩]at el;refine⟨_,U,pe,_,_,_,U,U,SqT.of hpe,U,U,_,U,bn Qy ?_⟩;exact⟨_,U,pe,_,_,_,U,U,SqT.of hpe,U,q _ le eus (aa.refl _) hle (by rw[el];exact rp)⟩
   |false=>
    rw[tk]at hpe;rw[qZ λz=>by rw[tk]at z;cases z.1]at el;exact⟨_,U,pe,_,_,_,U,U,SqT.of hpe,U,U,_,U,aJ Qy ⟨⟨_,U⟩,U,Qw,el⟩⟩
  ·rw[qZ λz=>c z.2]at el;refine⟨_,U,pe,_,_,_,U,U,SqT.of hpe,U,_,U,U,_,U,aJ (Q3 λz=>c (by have:=V.int.inj z;omega)) (aJ U ⟨⟨_,U⟩,U,Qw,el⟩)⟩
 ·rintro σ G ⟨⟨v2,rfl⟩,rfl,_,el⟩;rw[res.len,Nat.sub_self,List.take_zero]at el;exact⟨qt _,λl hl=>q _ l [] (aa.new hl _) af (by rw[el];exact .nil)⟩
theorem zL(xs:List V){n:Nat}(h:n<=xs.length):c6 xs none (some (n:Int))=xs.take n:=by
 unfold c6;have e1:HT.sIx xs.length 0 none=0:=U
 have e2:HT.sIx xs.length xs.length (some (n:Int))=n:=by
  have:=HT.sIx_nat xs.length xs.length n;rw[this];omega
 rw[e1,e2,List.drop_zero,Nat.sub_zero]
theorem xn(T:Tx P w K mg a):aA P w K mg base CX0 1 a.CI a.CJ ["_law_log","_law_most"] nE:=by
 refine T.DD.ok hX (λvs H Q E h=>?_) (λcdv A outer s H vs Q E hr h=>?_)
 ·obtain⟨_,_,_,_,rfl,_⟩:=h
  rfl
 obtain⟨lg,lgv,es,F,rfl,hlg,res,esz,q⟩:=h
 refine⟨_,(ag (aQ (i:=2) hX.nd U Oi ac)
  (ag (cI PassesOwn.never U (dh U T.wS (a8 (bI bX U T.mt Q7 (a8 (pq 0) ae)) ae)) (aV (i:=3) hX.nd U Oi)
  (ai (aL (aE bd (ak aH (ak aY (pq 0) (pq 3) Oy) ac Oy) bo (az _)) (ag (aQ (i:=2) hX.nd U Oi (ah bC (pq 2) ac))
  (ai (aL (aE fO (pq 2) (pq 1) (az _)) (ai (ao (eu jd (pq 0) fP (bZ (pq 3))))) aM))) aM)))
  (ai (ao (pq 0))))),?_⟩
 refine⟨_,U,lg,_,U,.inl (SqL.of hlg),_,U,by rw[res.len];omega,by rw[res.len];omega,?_⟩;refine iO (λi σ G=>(∃v3,σ=[some (.ref lg),some (.int F),some (.int (au (es.take i):Nat)),v3])/\G=H/\au (es.take i)<=F) ⟨⟨_,U⟩,U,qt _⟩ ?_ ?_
 ·rintro i σ G hi ⟨⟨v3,rfl⟩,rfl,tf⟩;have il:i<es.length:=by rw[res.len]at hi;simpa using hi
  obtain⟨pe,le,eus,e,ee,he,hpe,_⟩:=res.at (qc (show i<lgv.length by rw[res.len];exact il));have et:es.take (i+1)=es.take i++[e]:=by rw[qr,he];rfl
  have e0:(0:Int)+(i:Int)=(i:Int):=Int.zero_add _;dsimp only[aO];rw[e0];have ea:atI lgv (i:Int)=some (.ref pe):=by rw[<- ee];exact bS (qc _)
  rw[et,eU]
  cases tk:e.took with
  |true=>
   rw[tk]at hpe;refine⟨_,U,_,U,lg,_,_,_,U,U,SqL.of hlg,ea,pe,_,_,_,U,U,SqT.of hpe,U,U,_,U,bn Qy ?_⟩;refine⟨_,U,_,_,U,U,?_⟩;dsimp only[aO];refine⟨_,U,_,U,_,_,U,U,_,U,?_⟩;by_cases c:(F:Int)<(au (es.take i):Int)+1
   ·refine bn (Q1 c) ?_;have ef:au (es.take i)=F:=Qw
    have ec:cq F es=es.take i:=by
     have e3:es=es.take (i+1)++es.drop (i+1):=(Qt _ _).symm
     conv=>lhs;rw[e3]
     rw[gR (by rw[et,eU,tk,ef];simp),et];exact iS ef tk
    refine⟨_,U,_,U,_,U,lg,_,U,SqL.of hlg,λl3 hl3=>?_⟩;rw[zL _ (by rw[res.len];omega)];have s3:=aa.new hl3 (.lst (lgv.take i));have rs:=(REs.splitK (es:=es.take i) (fs:=es.drop i) (by rw[Qt];exact res)).1;rw[qK,Nat.min_eq_left Qw]at rs;exact q _ l3 _ s3 af (by rw[ec];exact rs.same s3)
   ·exact aJ (Q3 c) ⟨⟨_,U⟩,U,by rw[Q0 U];omega⟩
  |false=>
   rw[tk]at hpe;exact⟨_,U,_,U,lg,_,_,_,U,U,SqL.of hlg,ea,pe,_,_,_,U,U,SqT.of hpe,U,U,_,U,aJ Qy ⟨⟨_,U⟩,U,tf⟩⟩
 ·rintro σ G ⟨⟨v3,rfl⟩,rfl,tf⟩;rw[res.len]at tf;have tf:au es<=F:=by simpa using tf
  exact⟨_,U,q _ lg lgv (aa.refl _) hlg (by rw[gS tf];exact res)⟩
theorem xh(T:Tx P w K mg a):aA P w K mg base CX0 3 a.CG a.CH ["_law_parts","_law_log","_law_left"] nj:=by
 refine T.DC.ok jh (λvs H Q E h=>?_) (λcdv A outer s H vs Q E hr h=>?_)
 ·obtain⟨_,_,_,_,_,_,_,_,rfl,_⟩:=h
  rfl
 obtain⟨ll,lq,lg,lf,xs,rs,es,f,rfl,B,⟨x0,x0l,x0n,x0r⟩,q⟩:=h
 refine⟨_,(ag (aQ (i:=3) jh.nd U Oi (ba (pP T) (hr.mono Qz) U T.Dw T.CW.kp T.Dv .nil ay (a8 (pq 0) (a8 (pq 1) ae))))
  (ag (cI PassesOwn.never U (dh U T.wS (a8 (bI bX U T.mt Q7 (a8 (pq 0) ae)) ae)) (aV (i:=4) jh.nd U Oi)
  (ai (aL (PW.pt (dZ (aE gy (ak aY (pq 3) (pq 4) Oy) cS (az _)) (f7 (df (ba (pN T) (hr.mono Qz) U T.Dy T.CY.kp T.Dx .nil ay (a8 (ak aY (pq 0) (pq 4) Oy) (a8 (pq 2) ae))))))) (ai (ao bU)) aM)))
  (ai (ao bU)))),?_⟩
 obtain⟨ps,hlq,rrs⟩:=B.q;obtain⟨lgv,hlg,res⟩:=B.g;obtain⟨fv,hlf,ris⟩:=B.f;have n60:=B.n;have pl:=rrs.len;refine⟨_,U,_,U,lq,lg,ps,lgv,es,U,hlq,hlg,res,by rw[pl];exact B.ep,Qw,λH1 l1 s1 h1=>?_⟩;dsimp only[aO];refine⟨_,U,lq,_,U,.inl (SqL.of (s1 _ _ hlq)),_,U,by rw[pl];omega,by rw[pl];omega,?_⟩;refine iO (λi σ G=>(∃v4,σ=[some (.ref lq),some (.ref lg),some (.ref lf),some (.ref l1),v4])/\aa H1 G/\i<=x0) ⟨⟨_,U⟩,aa.refl _,qt _⟩ ?_ ?_
 ·rintro i σ G hi ⟨⟨v4,rfl⟩,sg,ix⟩;have il:i<rs.length:=by rw[pl]at hi;simpa using hi
  have lv:i<ps.length:=by rw[pl];exact il
  obtain⟨r,er,hrr⟩:=rrs.at (qc lv);have ep:aZ rs i=r:=by unfold aZ;rw[qj,er];rfl
  have rm:=qz er;have e0:(0:Int)+(i:Int)=(i:Int):=Int.zero_add _;have s01:=s1.trans sg;have la:atI ((List.range ps.length).map (ldV es)) (i:Int)=some (ldV es i):=lU lv;dsimp only[aO];rw[e0];refine⟨_,U,_,U,l1,_,_,_,U,U,SqL.of (sg _ _ h1),la,?_⟩
  cases hl:cJ es i with
  |true=>
   have ev:ldV es i=.bl true:=by unfold ldV;rw[hl];rfl
   rw[ev];refine⟨U,_,U,aJ U (aJ U ⟨⟨_,U⟩,sg,?_⟩)⟩;by_cases c:i=x0
   ·rw[c,x0n]at hl;cases hl
   ·omega
  |false=>
   have ev:ldV es i=.non:=by unfold ldV;rw[hl];rfl
   rw[ev];refine⟨U,_,U,bn U ?_⟩;refine⟨_,U,_,U,lq,_,_,_,U,U,SqL.of (s01 _ _ hlq),bS (qc lv),_,U,_,r,lf,fv,f,xs.length,U,hrr.same s01,(B.ok r rm).1,(B.ok r rm).2,s01 _ _ hlf,ris.same s01,λH2 s2=>⟨_,U,?_⟩⟩
   cases hb:cX f r with
   |true=>exact bn U (q _ (s01.trans s2))
   |false=>
    refine aJ U ⟨⟨_,U⟩,sg.trans s2,?_⟩;by_cases c:i=x0
    ·rw[<- c,ep,hb]at x0r;cases x0r
    ·omega
 ·rintro σ G ⟨⟨v4,rfl⟩,sg,ix⟩;rw[pl]at ix;have ix:rs.length<=x0:=by simpa using ix
  omega
theorem x9(T:Tx P w K mg a):aA P w K mg base CX0 3 a.CD a.CF ["_law_lines","_law_parts","_law_log","_law_left"] mV:=by
 refine T.DB.ok fH (λvs H Q E h=>?_) (λcdv A outer s H vs Q E hr h=>?_)
 ·obtain⟨_,_,_,_,_,_,_,_,rfl,_⟩:=h
  rfl
 obtain⟨ll,lq,lg,lf,xs,rs,es,f,rfl,B,no,so,q⟩:=h
 refine⟨_,(ag (aQ (i:=4) fH.nd U Oi (ba (pP T) (hr.mono Qz) U T.Dw T.CW.kp T.Dv .nil ay (a8 (pq 1) (a8 (pq 2) ae))))
  (ag (cI PassesOwn.never U (dh U T.wS (a8 (bI bX U T.mt Q7 (a8 (pq 1) ae)) ae)) (aV (i:=5) fH.nd U Oi)
  (ag (aL (PW.pt (dZ (aE gy (ak aY (pq 4) (pq 5) Oy) cS (az _)) (f7 (df (ba (pN T) (hr.mono Qz) U T.Dy T.CY.kp T.Dx .nil ay (a8 (ak aY (pq 1) (pq 5) Oy) (a8 (pq 3) ae))))))) (ai (ao bU)) aM)
  (ai (aL (aE ki (ak aY (pq 4) (pq 5) Oy) cS (az _)) (ag (aQ (i:=6) fH.nd U Oi ac)
  (ag (cI PassesOwn.never U (gC (ba (xk T) (hr.mono Qz) U T.Fs T.Dz.kp T.Fr .nil ay (a8 (ak aY (pq 1) (pq 5) Oy) (a8 (ba (xj T) (hr.mono Qz) U T.Fu T.DA.kp T.Ft .nil ay (a8 (pq 2) (a8 (pq 5) ae))) ae)))) (aV (i:=7) fH.nd U Oi)
  (ai (aL (PW.pt (dZ (aE ki (ak aH (ak aY (pq 0) (pq 7) Oy) ac Oy) cS (az _)) (f7 (aE vK (bI bX U T.mt Q7 (a8 (ak aY (pq 3) (pq 7) Oy) ae)) (ak aH (ak aY (pq 0) (pq 7) Oy) ac Oy) (az _))))) (ai (aQ (i:=6) fH.nd U Oi (ah bC (pq 6) ac))) aM)))
  (ai (aL (aE bd (pq 6) ac (az _)) (ai (ao bU)) aM)))) aM))))
  (ai (ao bU)))),?_⟩
 obtain⟨us,hll,rln⟩:=B.l;obtain⟨ps,hlq,rrs⟩:=B.q;obtain⟨lgv,hlg,res⟩:=B.g;obtain⟨fv,hlf,ris⟩:=B.f;have n60:=B.n;have pl:=rrs.len;refine⟨_,U,_,U,lq,lg,ps,lgv,es,U,hlq,hlg,res,by rw[pl];exact B.ep,Qw,λH1 l1 s1 h1=>?_⟩;dsimp only[aO];refine⟨_,U,lq,_,U,.inl (SqL.of (s1 _ _ hlq)),_,U,by rw[pl];omega,by rw[pl];omega,?_⟩;refine iO (λi σ G=>(∃v5 v6 v7,σ=[some (.ref ll),some (.ref lq),some (.ref lg),some (.ref lf),some (.ref l1),v5,v6,v7])/\aa H1 G) ⟨⟨_,_,_,U⟩,aa.refl _⟩ ?_ ?_
 ·rintro i σ G hi ⟨⟨v5,v6,v7,rfl⟩,sg⟩;have il:i<rs.length:=by rw[pl]at hi;simpa using hi
  have lv:i<ps.length:=by rw[pl];exact il
  obtain⟨r,er,hrr⟩:=rrs.at (qc lv);have ep:aZ rs i=r:=by unfold aZ;rw[qj,er];rfl
  have rm:=qz er;have e0:(0:Int)+(i:Int)=(i:Int):=Int.zero_add _;have s01:=s1.trans sg;have la:atI ((List.range ps.length).map (ldV es)) (i:Int)=some (ldV es i):=lU lv;dsimp only[aO];rw[e0];refine⟨_,U,_,U,l1,_,_,_,U,U,SqL.of (sg _ _ h1),la,?_⟩
  cases hl:cJ es i with
  |false=>
   have ev:ldV es i=.non:=by unfold ldV;rw[hl];rfl
   rw[ev];refine⟨U,_,U,bn U ?_⟩;have rn:=no i il hl;rw[ep]at rn;refine⟨_,U,_,U,lq,_,_,_,U,U,SqL.of (s01 _ _ hlq),bS (qc lv),_,U,_,r,lf,fv,f,xs.length,U,hrr.same s01,(B.ok r rm).1,(B.ok r rm).2,s01 _ _ hlf,ris.same s01,λH2 s2=>⟨_,U,?_⟩⟩;rw[rn];refine aJ U ?_;refine⟨_,U,_,U,l1,_,_,_,U,U,SqL.of ((sg.trans s2) _ _ h1),la,?_⟩;rw[ev];exact⟨U,_,U,aJ U ⟨⟨_,_,_,U⟩,sg.trans s2⟩⟩
  |true=>
   have ev:ldV es i=.bl true:=by unfold ldV;rw[hl];rfl
   rw[ev];refine⟨U,_,U,aJ U (aJ U ?_)⟩;dsimp only[eV];refine⟨_,U,_,U,l1,_,_,_,U,U,SqL.of (sg _ _ h1),la,?_⟩;rw[ev];refine⟨U,_,U,bn U ?_⟩;obtain⟨w1,w2,l0,l0m,l0f⟩:=so i il hl;rw[ep]at w1 w2 l0m;refine⟨_,U,_,U,lq,_,_,_,U,U,SqL.of (s01 _ _ hlq),bS (qc lv),?_⟩;refine⟨_,U,_,U,lg,lgv,es,i,U,s01 _ _ hlg,res.same s01,λH2 l2 us2 s2 h2 r2=>?_⟩;have s02:=s01.trans s2;refine⟨_,r,l2,us2,bO es i,U,hrr.same s02,(B.ok r rm).1,h2,r2,w1,λH3 t3 s3 ht3=>⟨t3,U,⟨_,SqT.of ht3⟩,?_⟩⟩;have s03:=s02.trans s3;refine iN (K:=K) (a:=t3) (xs:=(d5 r (bO es i)).map V.int) (λj σ G'=>(∃(c:Int)(v7:Option V),σ=[some (.ref ll),some (.ref lq),some (.ref lg),some (.ref lf),some (.ref l1),some (.int i),some (.int c),v7]/\0<=c/\((∃l∈(d5 r (bO es i)).take j,eJ xs f l=true)->0<c))/\G'=H3) ⟨⟨0,_,U,Int.le_refl _,λ⟨_,z,_⟩=>by simp at z⟩,U⟩ ?_ ?_ ?_
   ·rintro j σ G' _ ⟨_,rfl⟩;exact SqT.of ht3
   ·rintro j y σ G' hy ⟨⟨c,v7,rfl,c0,cf⟩,rfl⟩;rw[qE]at hy;obtain⟨l,hl',rfl⟩:=qP.mp hy;obtain⟨lb0,lb1⟩:=w2 l (qz hl');have et:(d5 r (bO es i)).take (j+1)=(d5 r (bO es i)).take j++[l]:=by rw[qr,hl'];rfl
    have lt:l.toNat<xs.length:=Qw;have ltu:l.toNat<us.length:=by rw[rln.len];exact lt
    obtain⟨pl',tl',xl,ex',exl,hpl,_⟩:=rln.at l.toNat _ (qc ltu);have e1:atI us l=some (.ref pl'):=by rw[<- ex'];exact eN lb0 (qc ltu)
    have ex:bJ xs l.toNat=xl:=by unfold bJ;rw[qj,exl];rfl
    obtain⟨pf,ef,hpf⟩:=ris.at l.toNat (f l.toNat) (by rw[qE,List.getElem?_range lt];rfl);have eff:atI fv l=some (.ref pf):=eN lb0 ef;have fb:eJ xs f l=!roomV xl.1 ((f l.toNat).length:Int):=by unfold eJ;rw[ex]
    dsimp only[aO];refine⟨_,U,_,U,ll,_,_,_,U,U,SqL.of (s03 _ _ hll),e1,pl',_,_,_,U,U,SqT.of (s03 _ _ hpl),U,?_⟩
    have stay:eJ xs f l=false->(∃l'∈(d5 r (bO es i)).take (j+1),eJ xs f l'=true)->0<c:=λhn ⟨l',m,z⟩=>by
     rw[et]at m;rcases qh.mp m with m|m
     ·exact cf ⟨l',m,z⟩
     ·rw[qS.mp m,hn]at z;cases z
    cases hL:xl.1 with
    |none=>exact⟨U,_,U,rF (aJ U ⟨⟨c,_,U,c0,stay (by rw[fb,hL];rfl)⟩,U⟩)⟩
    |some n=>
     refine⟨U,_,U,yX ?_⟩;have hpl2:=hpl;rw[hL]at hpl2;refine⟨_,U,_,U,lf,_,_,_,U,U,SqL.of (s03 _ _ hlf),eff,pf,_,U,.inl (SqL.of (s03 _ _ hpf)),_,U,_,U,ll,_,_,_,U,U,SqL.of (s03 _ _ hll),e1,pl',_,_,_,U,U,SqT.of (s03 _ _ hpl2),U,_,_,U,U,_,U,?_⟩;rw[q9];by_cases ge:n<=((f l.toNat).length:Int)
     ·refine bn (Q1 ge) ?_;exact⟨_,U,_,_,U,U,⟨c+1,_,U,Qw,λ_=>Qw⟩,U⟩
     ·refine aJ (Q3 ge) ⟨⟨c,_,U,c0,stay ?_⟩,U⟩;rw[fb,hL];show(!decide (_<n))=false;rw[Q1 Qw]
      rfl
   ·rintro σ G' ⟨⟨c,v7,rfl,c0,cf⟩,rfl⟩;rw[q9,qH]at cf;have cp:=cf ⟨l0,l0m,l0f⟩;exact⟨_,U,U,_,U,aJ (Q3 λz=>by have:=V.int.inj z;omega) ⟨⟨_,_,_,U⟩,sg.trans (s2.trans s3)⟩⟩
 ·rintro σ G ⟨⟨v5,v6,v7,rfl⟩,sg⟩;exact q _ (s1.trans sg)
theorem dC.uq{xs:List Ln}{rs:List PR}{pace:List (List Int)}{most:Nat}{S S':PlS}{b b':Bool}(h:dC xs rs pace most S b)(h':dC xs rs pace most S' b'):S=S'/\b=b':=by
 have go:∀{S:PlS}{b:Bool},dC xs rs pace most S b->∃p,d9 (λi=>(bJ xs i).1) (aZ rs) pace .top (bE xs rs.length most) p S/\(∀p' S',¬ Stp (λi=>(bJ xs i).1) (aZ rs) pace p S p' S')/\(b=true↔p=.top):=λ{S b} h=>by
  cases b with
  |true=>exact⟨_,h.1.str,zB h.2,λ_=>rfl,λ_=>rfl⟩
  |false=>
   obtain⟨k,x,r,R,l,s0⟩:=h;exact⟨_,R.str,zC l s0,λz=>(by cases z),λz=>(by cases z)⟩
 obtain⟨p,a1,a2,a3⟩:=go h;obtain⟨p',b1,b2,b3⟩:=go h';obtain⟨e1,e2⟩:=a1.uq a2 b2 b1;subst e1;refine⟨e2,?_⟩
 cases b with
 |true=>exact(b3.mpr (a3.mp U)).symm
 |false=>
  cases b' with
  |true=>exact a3.mpr (b3.mp U)
  |false=>rfl
theorem xa(T:Tx P w K mg a):aA P w K mg base CX0 8 a.CK a.CL ["_law_m"] jc:=by
 refine T.DE.ok jf (λvs H Q E h=>?_) (λcdv A outer s H vs Q E hr h=>?_)
 ·obtain⟨_,rfl,_⟩:=h
  rfl
 obtain⟨m,rfl,hm,q⟩:=h
 refine⟨_,(ag (aQ (i:=1) jf.nd U Oi (ba (kO T) (hr.mono Qz) U T.CQ T.AI.kp T.Fc (show ar [.non,.int 5000] [.none,.int 5000 a.AG]from .cons U (.cons ⟨_,U⟩ .nil)) ay (a8 (bz (a8 (bw (a8 (ah bC ac (ah bb (pq 0) ac)) (a8 (bw (a8 (pq 0) ae)) ae))) ae)) (a8 (bz (a8 (bw (a8 bo (a8 (bw (a8 ac ae)) (a8 (bw (a8 ac ae)) (a8 (bw (a8 ac ae)) ae))))) ae)) ae))))
  (ag (aL (PW.pt (kF (df (ak aH (pq 1) ac Oy)) (kF (aE (kM hr.units) (ak aH (pq 1) ac Oy) (bz (a8 (bz (a8 (pq 0) ae)) ae)) (az _)) (pA (aE ii (bI bX U T.mt Q7 (a8 (ak aH (pq 1) ac Oy) ae)) ac (az _)))))) (ai (ao bU)) aM)
  (ag (aQ (i:=2) jf.nd U Oi (bI bX U T.mt Q7 (a8 (ci (k:=1) (Nc:=["_law_entry"]) (js:=[]) (show aS (am hZ) ["_law_m","_law_found","_law_takings"] _ 1 ["_law_entry"] []from aS.mk U (by decide +kernel) (by decide +kernel) (by decide +kernel) U (by decide +kernel)) U (cu (ak aH (pq 1) ac Oy)) (λ_ _ _ _ _=>(aV (i:=0) (show List.Nodup (["_law_entry"]:List Str)from by decide +kernel) U Oi)) (λ_ _ _ _ _=>(pC (aE bd (ak (oU (K:=K) U) (pq 0) ac Oy) bo (az _)))) (λ_ _ _ _ _=>ac)) ae)))
  (ai (ao (pI (fQ bd (pq 2) ac (az _)) (io (fQ (kN hr.units) (ak aY (ak aH (pq 1) ac Oy) ac Oy) (bw (a8 ac (a8 ac (a8 bo (a8 (bz (a8 (bw (a8 ac (a8 (pq 0) ae))) ae)) ae))))) (az _))))))))),?_⟩
 refine⟨_,U,_,_,U,U,Qz,_,_,U,U,_,U,ln1,λt1 h1=>⟨ln2,λp1 hp1=>⟨ln1,λll hll=>?_⟩⟩⟩;have s1:=(aa.new h1 (.tup [.int m])).trans ((aa.new hp1 (.tup [.int (1+m % 3),.ref t1])).trans (aa.new hll (.lst [.ref p1])));refine⟨ln1,λt2 h2=>⟨ln1,λt3 h3=>⟨ln1,λt4 h4=>⟨ln4,λp2 hp2=>⟨ln1,λlq hlq=>?_⟩⟩⟩⟩⟩;have s2:=(aa.new h2 (.tup [.int 0])).trans ((aa.new h3 (.tup [.int 0])).trans ((aa.new h4 (.tup [.int 0])).trans ((aa.new hp2 (.tup [.str "pass",.ref t2,.ref t3,.ref t4])).trans (aa.new hlq (.lst [.ref p2])))));have a1:=s2 _ _ (aa.new hll _ _ _ (aa.new hp1 _ _ _ (af (H:=H) (a:=t1) (o:=.tup [.int m]))));have a2:=s2 _ _ (aa.new hll _ _ _ (af (a:=p1) (o:=.tup [.int (1+m % 3),.ref t1])));have a3:=s2 _ _ (af (a:=ll) (o:=.lst [.ref p1]));have c1:=aa.new hlq (.lst [V.ref p2]) _ _ (aa.new hp2 (.tup [.str "pass",.ref t2,.ref t3,.ref t4]) _ _ (aa.new h4 (.tup [.int 0]) _ _ (aa.new h3 (.tup [.int 0]) _ _ (af (a:=t2) (o:=.tup [.int 0])))));have c2:=aa.new hlq (.lst [V.ref p2]) _ _ (aa.new hp2 (.tup [.str "pass",.ref t2,.ref t3,.ref t4]) _ _ (aa.new h4 (.tup [.int 0]) _ _ (af (a:=t3) (o:=.tup [.int 0]))));have c3:=aa.new hlq (.lst [V.ref p2]) _ _ (aa.new hp2 (.tup [.str "pass",.ref t2,.ref t3,.ref t4]) _ _ (af (a:=t4) (o:=.tup [.int 0])));have c4:=aa.new hlq (.lst [V.ref p2]) _ _ (af (a:=p2) (o:=.tup [.str "pass",.ref t2,.ref t3,.ref t4]));have mon:OnW m:=⟨hm.1,Qw⟩;refine⟨ll,lq,.non,[.ref p1],[.ref p2],[(some (1+m % 3),[m])],[.pass [0] [0] [0]],[],5000,U,a3,.cons (x:=(some (1+m % 3),[m])) a2 a1 .nil,af,.cons (.pass c4 c1 c2 c3) .nil,.inl ⟨U,U⟩,Qz,(show 1<=1000 by decide),?_,?_,by decide,λ_ h=>(nomatch h),?_,by decide,λH7 tf S still lg st lgv us7 TD=>?_⟩
 ·intro x hx;rw[qS.mp hx];exact(by decide:1<=64)
 ·intro x hx n hn;rw[qS.mp hx]at hn;rw[qS.mp hn];exact mon
 ·intro r hr;rw[qS.mp hr];have f1:Fit 1 [0]:=⟨λx hx=>by rw[qS.mp hx];decide,λx hx=>by rw[qS.mp hx];decide,Qq _ _⟩;exact⟨⟨U,Qz,Qz,λr hr=>by rw[qS.mp hr];decide⟩,f1,f1⟩
 obtain⟨Sr,R,lk,sp0,elg,erow⟩:=vq (m:=m) (L:=1+m % 3) (ls:=λi=>(bJ [(some (1+m % 3),[m])] i).1) (prt:=aZ [.pass [0] [0] [0]]) (xs:=[(some (1+m % 3),[m])]) U U Qw U;obtain⟨eS,eb⟩:=TD.nd.uq (b':=false) ⟨5000,0,[],R,lk,sp0⟩;subst eS;subst eb;have rl:=oO (m:=m) 4999;have ll1:S.lg.length=10000:=by rw[elg,qb,rl.1];rfl
 have tk1:au S.lg=5000:=by rw[elg,eU,rl.2];rfl
 have ri:=TD.ri;rw[show(List.range [((some (1+m % 3):Option Int),[m])].length).map (ax S)=[[m]]by show[ax S 0]=_;rw[erow]]at ri;dsimp only[aO];refine⟨_,U,tf,_,_,_,U,U,SqT.of TD.tp,U,_,U,aJ U ?_⟩;refine⟨_,U,tf,_,_,_,U,U,SqT.of TD.tp,U,_,U,ln1,λla hla=>⟨ln1,λlb hlb=>?_⟩⟩;have sa:=aa.new hla (.lst [.int m]);have sb:=aa.new hlb (.lst [.ref la]);have sab:=sa.trans sb;have sh:=oo [[m]];refine⟨_,_,.lst (SqL.of (sab _ _ TD.hs)) (ri.same sab).dt,.lst (SqL.of af) (RIs.dt (.cons (sb _ _ af) .nil)),sh.shaped Qz,sh.shaped Qz,_,U,?_⟩;rw[iP sh Qz];refine aJ U ?_;have tfb:=sab _ _ TD.tp;have lgb:=sab _ _ TD.hl;have esb:=TD.es.same sab;generalize upd (upd H7 la (.lst [.int m])) lb (.lst [.ref la])=H8 at tfb lgb esb;refine⟨_,U,tf,_,_,_,U,U,SqT.of tfb,U,lg,_,U,.inl (SqL.of lgb),U,_,U,?_⟩;rw[esb.len,ll1];refine rE U ?_;refine⟨_,U,tf,_,_,_,U,U,SqT.of tfb,U,lg,U,⟨_,SqL.of lgb⟩,?_⟩;refine lQ (K:=K) (a:=lg) (xs:=lgv) (λi ys σ G=>(∃v,σ=[v])/\G=H8/\ys.length=au (S.lg.take i)) ⟨⟨none,U⟩,U,U⟩ ?_ (by rw[esb.len,sizeLine_eq];omega) ?_ ?_ ?_
 ·rintro i ys σ G _ ⟨_,_,e⟩;rw[e];unfold au;have h1:=List.length_filter_le (λe:Ent=>e.took) (S.lg.take i);rw[qK]at h1;omega
 ·rintro i ys σ G ⟨_,rfl,_⟩;exact SqL.of lgb
 ·rintro i x ys σ G hx ⟨⟨v0,rfl⟩,rfl,e⟩;obtain⟨p,le,eus,en,rfl,he,hp,_⟩:=esb.at hx;have et:au (S.lg.take (i+1))=au (S.lg.take i)+(if en.took then 1 else 0):=by rw[qr,he];exact eU
  cases tk:en.took with
  |true=>
   rw[tk]at hp et;exact⟨_,U,p,_,_,_,U,U,SqT.of hp,U,U,_,U,bn Qy ⟨⟨_,U⟩,U,by rw[qb,e,et];rfl⟩⟩
  |false=>
   rw[tk]at hp et;exact⟨_,U,p,_,_,_,U,U,SqT.of hp,U,U,_,U,aJ Qy ⟨⟨_,U⟩,U,by rw[e,et];rfl⟩⟩
 rintro ys σ G ⟨_,eG,yl⟩ lc hlc;rw[eG]at hlc ⊢;rw[esb.len,qH,tk1]at yl;have sc:=aa.new hlc (.lst ys);refine⟨lc,_,U,.inl (SqL.of af),?_⟩;dsimp only[aO];rw[yl];refine⟨_,U,U,_,U,bn U ?_⟩;have l9:(9999:Nat)<lgv.length:=by rw[esb.len,ll1];decide
 obtain⟨p9,l9',us9,e9,ee9,he9,hp9,hl9,rp9⟩:=esb.at (qc l9)
 have e9v:e9=gvE m 5000:=by
  rw[elg,qL (by rw[rl.1];decide),rl.1]at he9;exact(qJ he9).symm
 have a9:atI lgv (9999:Int)=some (.ref p9):=by rw[<- ee9];exact bS (j:=9999) (qc l9)
 refine⟨_,U,tf,_,_,_,U,U,SqT.of (sc _ _ tfb),U,lg,_,_,_,U,U,SqL.of (sc _ _ lgb),a9,_,U,ln2,λq1 hq1=>⟨ln1,λq2 hq2=>⟨ln4,λq3 hq3=>?_⟩⟩⟩;have d1:=aa.new hq1 (.tup [.int 0,.int m]);have d2:=aa.new hq2 (.lst [.ref q1]);have d3:=aa.new hq3 (.tup [.int 5000,.int 0,.str "gave",.ref q2]);have sx:=sc.trans (d1.trans (d2.trans d3));subst e9v;have sh9:=ow (gvE m 5000);have dt1:=(REs.cons (hp9) hl9 rp9 .nil:REs H8 [.ref p9] [gvE m 5000]).same sx |>.dtF (K:=K)
 cases dt1 with
 |cons dt1 _=>
  refine⟨fY (gvE m 5000),fY (gvE m 5000),dt1,.tup (SqT.of af) (.cons (.int _) (.cons (.int _) (.cons (.str _) (.cons (.lst (SqL.of (d3 _ _ af)) (.cons (.tup (SqT.of (d3 _ _ (d2 _ _ af))) (.cons (.int _) (.cons (.int _) .nil))) .nil)) .nil)))),sh9.shaped Qz,sh9.shaped Qz,?_⟩;rw[iP sh9 Qz];exact q _
theorem zA{xs:List Ln}{rs:List PR}{pace:List (List Int)}{M F:Nat}{S S2:PlS}{b b2:Bool}(h:dC xs rs pace M S b)(ht:au S.lg+S.sp=M)(le:F<=M)(h2:dC xs rs pace F S2 b2):S2.lg=cq F S.lg/\b2=(b && decide (au S.lg<=F))/\(b=true->au S.lg<=F->ax S2=ax S):=by
 by_cases c:au S.lg<=F
 ·rw[Q1 c,Bool.and_true,gS c]
  have pe:dC xs rs pace F (c7 S (F-au S.lg)) b:=by
   cases b with
   |true=>exact⟨(h.1.fewer (F:=F)).1 c,h.2⟩
   |false=>
    obtain⟨k,x,r,R,l,s0⟩:=h;exact⟨k,x,r,(R.fewer (F:=F)).1 c,by rw[gX];exact l,by show F-au S.lg=0;omega⟩
  obtain⟨e1,e2⟩:=h2.uq pe;rw[e1];exact⟨U,e2,λ_ _=>U⟩
 ·rw[Q3 c,Bool.and_false]
  have pe:∃S',dC xs rs pace F S' false/\S'.lg=cq F S.lg:=by
   cases b with
   |true=>
    obtain⟨k,x,r,S',R,l,s0,e⟩:=(h.1.fewer (F:=F)).2 Qw;exact⟨S',⟨k,x,r,R,l,s0⟩,e⟩
   |false=>
    obtain⟨k,x,r,R,l,s0⟩:=h;obtain⟨k,x,r,S',R,l,s0,e⟩:=(R.fewer (F:=F)).2 Qw;exact⟨S',⟨k,x,r,R,l,s0⟩,e⟩
  obtain⟨S',p1,p2⟩:=pe;obtain⟨e1,e2⟩:=h2.uq p1;rw[e1];exact⟨p2,e2,λ_ z=>Q4 z c⟩
theorem zy{rs:List PR}(h:(rs.flatMap ca).Nodup):∀x y,x<rs.length->y<rs.length->x≠y->∀l∈ca (aZ rs x),∀l'∈ca (aZ rs y),l≠l':=by
 have go:∀x y,x<y->y<rs.length->∀l∈ca (aZ rs x),∀l'∈ca (aZ rs y),l≠l':=λx y lt hy l hl l' hl'=>by
  have hx:x<rs.length:=Qw;have ex:aZ rs x=rs[x]:=by unfold aZ;rw[qj,qc hx];rfl
  have ey:aZ rs y=rs[y]:=by unfold aZ;rw[qj,qc hy];rfl
  rw[ex]at hl;rw[ey]at hl';have e:rs=rs.take y++rs[y]::rs.drop (y+1):=by rw[<- List.drop_eq_getElem_cons hy,Qt]
  rw[e,qU,List.flatMap_cons]at h;have d:=(List.nodup_append.mp h).2.2 l (List.mem_flatMap.mpr ⟨rs[x],?_,hl⟩) l' (qV _ hl')
  ·exact d
  ·exact List.mem_take_iff_getElem.mpr ⟨x,Qw,U⟩
 intro x y hx hy ne l hl l' hl' z;rcases Nat.lt_or_ge x y with lt|ge
 ·exact go x y lt hy l hl l' hl' z
 ·exact go y x Qw hx l' hl' l hl z.symm
theorem pW{nl:Nat}:∀{r:PR},r.fit nl->∀l∈ca r,0<=l
 |.pass ..,h,l,hl=>h.1.lo l hl
 |.work ..,h,l,hl=>h.1.lo l hl
 |.choose ..,h,l,hl=>h.1.lo l hl
 |.merge ..,h,l,hl=>by
  rcases qh.mp hl with hl|hl
  ·rcases qh.mp hl with hl|hl
   ·exact h.1.lo l (qk _ hl)
   ·exact h.2.1.lo l (qk _ hl)
  ·rw[qS.mp hl];exact h.1.lo _ qm
theorem zk{nl:Nat}{ts:List (Int×Int)}:∀{r:PR},r.fit nl->∀l∈d5 r ts,0<=l/\l<nl
 |.pass ..,h,l,hl=>⟨h.2.lo l hl,h.2.hi l hl⟩
 |.work ..,h,l,hl=>⟨h.2.lo l hl,h.2.hi l hl⟩
 |.choose _ w o n t,h,l,hl=>by
  have hl:l∈(if(ts.map λp:Int×Int=>p.2).getD w.toNat 0=0 then n++[t]else o++[t]):=hl;split at hl
  ·exact⟨h.2.2.lo l hl,h.2.2.hi l hl⟩
  ·exact⟨h.2.1.lo l hl,h.2.1.hi l hl⟩
 |.merge ..,h,l,hl=>⟨h.2.2.lo l hl,h.2.2.hi l hl⟩
structure TdS(xs:List Ln)(rs:List PR)(most:Nat)(S:PlS)(still:Bool):Prop where
 ht:au S.lg+S.sp=most
 sz:S.lg.length<=10000000
 ep:∀e∈S.lg,e.part<rs.length
 no:still=true->∀x,x<rs.length->cJ S.lg x=false->cX (ax S) (aZ rs x)=false
 so:still=true->∀x,x<rs.length->cJ S.lg x=true->(bO S.lg x).length=(aZ rs x).wide/\(∀l∈d5 (aZ rs x) (bO S.lg x),0<=l/\l<xs.length)/\∃l∈d5 (aZ rs x) (bO S.lg x),eJ xs (ax S) l=true
 may:still=false->∃x,x<rs.length/\cJ S.lg x=false/\cX (ax S) (aZ rs x)=true
theorem kL{n nl:Nat}{ls:Nat->Option Int}{prt:Nat->PR}{pace:List (List Int)}:∀{es:List Ent}{W:WS},d8 n nl ls prt pace W es->∀e∈es,e.part<n
 |[],_,_,_,h=>(nomatch h)
 |a::es,_,w,e,h=>(qu.mp h).elim (λz=>z▸w.1.part) λz=>kL (es:=es) w.2 e z
theorem lZ.tds{H H':Hp}{t:Addr}{xs:List Ln}{rs:List PR}{pace:List (List Int)}{most:Nat}{S:PlS}{still:Bool}{lg st:Addr}{lgv us:List V}(T:lZ H H' t xs rs pace most S still lg st lgv us)(n60:rs.length<60)(nn:∀r∈pace,∀x∈r,0<=x)(fl:∀x∈xs,x.2.length<=64)(fo:∀x∈xs,∀n∈x.2,OnW n)(ok:∀r∈rs,r.ok/\r.fit xs.length)(hm:most<=5000)(nd:(rs.flatMap ca).Nodup):TdS xs rs most S still:=by
 let C:PlC:={ b:=t,dx:=t,y:=t,dy:=t,la:=t,lq:=t,dl:=t,pc:=t,dq:=λ_=>t,qo:=λ_=>t,us:=[],pv:=[],n:=rs.length,nl:=xs.length,prt:=aZ rs,ls:=λi=>(bJ xs i).1,pace:=pace }
 have rm:∀x,x<rs.length->aZ rs x∈rs:=λx hx=>by unfold aZ;rw[qj,qc hx];exact List.getElem_mem hx
 have okC:∀x,x<C.n->(C.prt x).ok/\(C.prt x).fit C.nl:=λx hx=>ok _ (rm x hx);have g0:=lx (C:=C) (rs:=rs) (most:=most) U fl fo hm
 have dj:∀x y,x<C.n->y<C.n->x≠y->∀l∈ca (C.prt x),∀l'∈ca (C.prt y),l.toNat≠l'.toNat:=λx y hx hy ne l hl l' hl' z=>by
  have h1:=pW (ok _ (rm x hx)).2 l hl;have h2:=pW (ok _ (rm y hy)).2 l' hl';exact zy nd x y hx hy ne l hl l' hl' Qw
 have rb:∀{f:Nat->List Int}{r:PR},cX f r=true↔∀l∈cD f r,f l.toNat≠[]:=λ{f r}=>by
  unfold cX;rw[List.all_eq_true];refine⟨λh l hl z=>?_,λh l hl=>?_⟩
  ·have:=h l hl;rw[z]at this;cases this
  ·have:=h l hl
   cases hf:f l.toNat with
   |nil=>exact Q4 hf this
   |cons=>rfl
 cases still with
 |true=>
  have R:aX C.ls C.prt C.pace (bE xs C.n most) .top S:=T.nd.1;obtain⟨w,⟨_,I,_⟩,tt⟩:=R.sim okC n60 nn g0;have cp:=(R.gd okC n60 g0).cap;obtain⟨_,c,tr,_,_⟩:=R.nob okC n60 nn dj g0;have tr0:S.tr=[]:=tr.resolve_right λz=>by have:=z.2;rw[T.nd.2]at this;cases this
  have I:Sim (bh C xs S.lg) _ S:=I;have hh:=rJ S.lg w;refine⟨tt,by have:=cp.lg;omega,kL w,λ_ x hx hl=>?_,λ_ x hx hl=>?_,λz=>(by cases z)⟩
  ·rcases hh x with⟨_,z⟩|⟨z,_⟩
   ·cases hb:cX (ax S) (aZ rs x)with
    |false=>rfl
    |true=>
     have:=c.notReady I.rows tr0 hx ⟨z,λl hl=>by rw[I.rows]at hl ⊢;exact rb.mp hb l hl⟩;cases this
   ·rw[hl]at z;cases z
  ·rcases hh x with⟨z,_⟩|⟨_,z1,z2⟩
   ·rw[hl]at z;cases z
   ·refine⟨z2,zk (ok _ (rm x hx)).2,?_⟩;rcases c.so x hx _ z1 with⟨kv,hk,_⟩|⟨i,m⟩|m
    ·rw[T.nd.2]at hk;cases hk
    ·obtain⟨p,hp',e,fu⟩:=c.full i x m;have e2:=(I.wr i x m).1;have e3:some ((aZ rs x).made ((bO S.lg x).map (·.2)))=some (S.held x):=z1.symm.trans e2;rw[<- qJ e3]at hp';refine⟨p.1,?_,?_⟩
     ·rw[<- zj (ok _ (rm x hx)).1 z2];exact List.mem_map.mpr ⟨p,hp',U⟩
     ·unfold eJ;rw[e];show(!roomV (C.ls i) _)=true;rw[fu]
      rfl
    ·cases m
 |false=>
  obtain⟨k,x,r,R,lk,sp⟩:=T.nd;have R:aX C.ls C.prt C.pace (bE xs C.n most) (.tak k (x::r)) S:=R;obtain⟨w,⟨I,_,_,rmv,_⟩,tt⟩:=R.sim okC n60 nn g0;obtain⟨⟨loc,L⟩,cp⟩:=R.gd okC n60 g0;have hx:=L.not.2.1;refine⟨tt,by have:=cp.lg;omega,kL w,λz=>(by cases z),λz=>(by cases z),λ_=>⟨x,hx,?_,?_⟩⟩
  ·have pn:=rmv x qm;rcases rJ S.lg w x with⟨z,_⟩|⟨_,z1,_⟩
   ·exact z
   ·rw[pn]at z1;cases z1
  ·refine rb.mpr λl hl z=>?_;rw[<- gW]at hl;have:=List.find?_eq_none.mp lk l hl;exact this (by rw[z];rfl)
theorem wY(T:Tx P w K mg a):aA P w K mg base CX0 9 a.CM a.CN ["_law_script"] (gj K):=by
 refine T.FE.ok cW (λvs H Q E h=>?_) (λcdv A outer s H vs Q E hr h=>?_)
 ·obtain⟨_,_,rfl,_⟩:=h
  rfl
 obtain⟨l,ns,rfl,hl,n63,_,_,q⟩:=h
 refine⟨_,(ag (dF (ba (xg T) (hr.mono Qz) U T.Fk T.Dp.kp T.Fj .nil ay (a8 (pq 0) ae)) (gE U (c5 (aV (i:=1) cW.nd U Oi) (c5 (aV (i:=2) cW.nd U Oi) dG))))
  (ag (aQ (i:=3) cW.nd U Oi (ba (fS T) (hr.mono Qz) U T.Aw T.Aq.kp T.Av .nil ay (a8 (ba (kP T) (hr.mono Qz) U T.CT T.AJ.kp T.CS .nil ay (a8 (pq 0) (a8 ac ae))) (a8 ac ae))))
  (ag (aQ (i:=4) cW.nd U Oi (ba (xf T) (hr.mono Qz) U T.Fo T.Ds.kp T.Fn .nil ay (a8 (pq 0) (a8 (pq 3) ae))))
  (ag (aQ (i:=5) cW.nd U Oi (ah bb (ah bL (pq 3) ac) ac))
  (ag (dF (ba (kO T) (hr.mono Qz) U T.CQ T.AI.kp T.Dh .nil ay (a8 (pq 1) (a8 (pq 2) (a8 (pq 4) (a8 (pq 5) ae))))) (gE U (c5 (aV (i:=6) cW.nd U Oi) (c5 (aV (i:=7) cW.nd U Oi) (c5 (aV (i:=8) cW.nd U Oi) dG)))))
  (ag (aQ (i:=9) cW.nd U Oi (bI bX U T.mt Q7 (a8 (ci (k:=1) (Nc:=["_law_entry"]) (js:=[]) (show aS (am dU) ["_law_script","_law_lines","_law_parts","_law_m","_law_pace_here","_law_most","_law_still","_law_log","_law_left","_law_takings","_law_fewer","_law_found"] _ 1 ["_law_entry"] []from aS.mk U (by decide +kernel) (by decide +kernel) (by decide +kernel) U (by decide +kernel)) U (cu (pq 7)) (λ_ _ _ _ _=>(aV (i:=0) (show List.Nodup (["_law_entry"]:List Str)from by decide +kernel) U Oi)) (λ_ _ _ _ _=>(pC (aE bd (ak (oU (K:=K) U) (pq 0) ac Oy) bo (az _)))) (λ_ _ _ _ _=>ac)) ae)))
  (ag (aQ (i:=10) cW.nd U Oi (ak aY (bz (a8 (ah bb (ah bL (pq 3) ac) (ah bC (pq 5) ac)) (a8 (pq 9) (a8 (bI (A0 U) U T.FF PyProof.Rows.Boot.«max» (a8 ac (a8 (ah fK (pq 9) ac) ae))) ae)))) (ah bb (ah bL (pq 3) ac) ac) Oy))
  (ag (aQ (i:=11) cW.nd U Oi (ba (kO T) (hr.mono Qz) U T.CQ T.AI.kp T.Dh .nil ay (a8 (pq 1) (a8 (pq 2) (a8 (pq 4) (a8 (pq 10) ae))))))
  (ag (aL (PW.pt (kF (aE fO (pq 9) (pq 5) (az _)) (pA (aE (kM hr.units) (ak aH (pq 11) ac Oy) (ba (xn T) (hr.mono Qz) U T.FB T.DD.kp T.FA .nil ay (a8 (pq 7) (a8 (pq 10) ae))) (az _))))) (ai (ao bU)) aM)
  (ag (aL (PW.pt (dZ (df (pq 6)) (dZ (aE oW (pq 9) (pq 10) (az _)) (f7 (aE (kM hr.units) (pq 11) (bw (a8 (pq 6) (a8 (pq 7) (a8 (pq 8) ae)))) (az _)))))) (ai (ao bU)) aM)
  (ag (aL (aE ii (ak aH (pq 11) ac Oy) (pI (pq 6) (io (fQ oW (pq 9) (pq 10) (az _)))) (az _)) (ai (ao bU)) aM)
  (ag (aL (PW.pt (dZ (df (pq 6)) (f7 (gA (df (ba (x9 T) (hr.mono Qz) U T.Fw T.DB.kp T.Fv .nil ay (a8 (pq 1) (a8 (pq 2) (a8 (pq 7) (a8 (pq 8) ae)))))))))) (ai (ao bU)) aM)
  (ag (aL (PW.pt (dZ (gA (df (pq 6))) (f7 (gA (df (ba (xh T) (hr.mono Qz) U T.Fy T.DC.kp T.Fx .nil ay (a8 (pq 2) (a8 (pq 7) (a8 (pq 8) ae))))))))) (ai (ao bU)) aM)
  (ai (ao (pF (fQ ii (ah bb (ah bL (pq 3) ac) ac) ac (az _)) (io (ba (xa T) (hr.mono Qz) U T.FD T.DE.kp T.FC .nil ay (a8 (pq 3) ae))))))))))))))))))),?_⟩
 refine⟨_,U,l,ns,U,hl,n63,λH1 t ll lp us ps xs rs s1 ht hll rln hlp rrs r16 x1000 okx okr sgr ndt _ _=>?_⟩;refine⟨t,_,U,SqT.of ht,U,_,_,U,_,_,U,U,?_⟩;have fl:∀x∈xs,x.2.length<=64:=λx hx=>by have:=(okx x hx).1;omega
 have fo:∀x∈xs,∀n∈x.2,OnW n:=λx hx=>(okx x hx).2;dsimp only[aO];refine⟨_,U,l,ns,2,U,s1.seq hl,Qz,λc=>⟨c,1,U,⟨Qz,Qz⟩,λm m0 m1=>?_⟩⟩;dsimp only[aO];refine⟨_,U,_,U,l,ns,m,U,s1.seq hl,n63,⟨m0,m1⟩,λH2 v pace s2 rpc p16 pok=>?_⟩;dsimp only[aO];refine⟨_,U,_,_,U,U,⟨Qz,Qz⟩,_,_,U,U,Qz,?_⟩;obtain⟨mo,emo,mo40⟩:∃mo:Nat,m / 5 % 41=(mo:Int)/\mo<=40:=⟨(m / 5 % 41).toNat,Qw,Qw⟩;rw[emo];dsimp only[aO];refine⟨_,U,_,U,_,U,_,U,ll,lp,v,us,ps,xs,rs,pace,mo,U,s2 _ _ hll,rln.same s2,s2 _ _ hlp,rrs.same s2,rpc,Qw,x1000,fl,fo,Qw,λr hr=>by have:=(pok r hr).1;omega,okr,Qw,λH3 tf S still lg st lgv us3 TD=>?_⟩;have td:=TD.tds Qw (λr hr=>(pok r hr).2) fl fo okr Qw ndt;have s3:=TD.sa;have s23:=s2.trans s3;refine⟨tf,_,U,SqT.of TD.tp,U,_,_,U,_,_,U,_,_,U,U,?_⟩;dsimp only[aO];refine⟨_,U,lg,U,⟨_,SqL.of TD.hl⟩,?_⟩;refine lQ (K:=K) (a:=lg) (xs:=lgv) (λi ys σ G=>(∃v,σ=[v])/\G=H3/\ys.length=au (S.lg.take i)) ⟨⟨none,U⟩,U,U⟩ ?_ (by have:=td.sz;rw[TD.es.len,sizeLine_eq];omega) ?_ ?_ ?_
 ·rintro i ys σ G _ ⟨_,_,e⟩;rw[e];unfold au;have h1:=List.length_filter_le (λe:Ent=>e.took) (S.lg.take i);rw[qK]at h1;omega
 ·rintro i ys σ G ⟨_,rfl,_⟩;exact SqL.of TD.hl
 ·rintro i x ys σ G hx ⟨⟨v0,rfl⟩,rfl,e⟩;obtain⟨p,le,eus,en,rfl,he,hp,_⟩:=TD.es.at hx;have et:au (S.lg.take (i+1))=au (S.lg.take i)+(if en.took then 1 else 0):=by rw[qr,he];exact eU
  cases tk:en.took with
  |true=>
   rw[tk]at hp et;exact⟨_,U,p,_,_,_,U,U,SqT.of hp,U,U,_,U,bn Qy ⟨⟨_,U⟩,U,by rw[qb,e,et];rfl⟩⟩
  |false=>
   rw[tk]at hp et;exact⟨_,U,p,_,_,_,U,U,SqT.of hp,U,U,_,U,aJ Qy ⟨⟨_,U⟩,U,by rw[e,et];rfl⟩⟩
 rintro ys σ G ⟨_,eG,yl⟩ lc hlc;rw[eG]at hlc ⊢;rw[TD.es.len,qH]at yl;have sc:=aa.new hlc (.lst ys);refine⟨lc,_,U,.inl (SqL.of af),?_⟩;rw[yl];generalize upd H3 lc (.lst ys)=H4 at sc;dsimp only[aO];have tle:au S.lg<=mo:=by have:=td.ht;omega
 have mp:(0:Int)<(mo:Int)+1:=Qw;refine⟨_,U,_,_,U,U,⟨Qz,Qz⟩,_,U,_,_,U,U,_,_,U,U,mp,_,U,_,U,_,_,U,U,_,_,U,kY,λlz hlz=>?_⟩
 obtain⟨F,eF,Fle⟩:∃F:Nat,atI [V.int (m / 820 % ((mo:Int)+1)),.int (au S.lg:Nat),.int (if(0:Int)<(au S.lg:Int)-1 then(au S.lg:Int)-1 else 0)] (m / 205 % 3)=some (.int (F:Int))/\F<=mo:=by
  have i0:0<=m / 205 % 3:=Q9 _ Qz;have i1:m / 205 % 3<3:=Qe _ Qz;generalize m / 205 % 3=i at i0 i1;obtain rfl|rfl|rfl:i=0\/i=1\/i=2:=Qw
  ·have f0:=Q9 (m / 820) (show(mo:Int)+1≠0 by omega);have f1:=Qe (m / 820) mp;generalize m / 820 % ((mo:Int)+1)=fq at f0 f1;exact⟨fq.toNat,by show some (V.int fq)=_;rw[Int.toNat_of_nonneg f0],by omega⟩
  ·exact⟨au S.lg,U,tle⟩
  ·refine⟨au S.lg-1,?_,Qw⟩;show some (V.int _)=some (V.int _)
   congr 2
   split<;>omega
 refine⟨_,U,_,_,U,U,⟨Qz,Qz⟩,_,_,U,U,Qz,lz,_,_,_,U,U,SqL.of af,eF,?_⟩;have sz:=aa.new hlz (.lst [V.int (m / 820 % ((mo:Int)+1)),.int (au S.lg:Nat),.int (if(0:Int)<(au S.lg:Int)-1 then(au S.lg:Int)-1 else 0)]);have s35:=sc.trans sz;show aO 10 (V.int F) _ (upd H4 lz (.lst [V.int (m / 820 % ((mo:Int)+1)),.int (au S.lg:Nat),.int (if(0:Int)<(au S.lg:Int)-1 then(au S.lg:Int)-1 else 0)])) _;generalize upd H4 lz (.lst [V.int (m / 820 % ((mo:Int)+1)),.int (au S.lg:Nat),.int (if(0:Int)<(au S.lg:Int)-1 then(au S.lg:Int)-1 else 0)])=H5 at s35;have s25:=s23.trans s35;dsimp only[aO];refine⟨_,U,_,U,_,U,_,U,ll,lp,v,us,ps,xs,rs,pace,F,U,s25 _ _ hll,rln.same s25,s25 _ _ hlp,rrs.same s25,rpc.sameK (s3.trans s35),Qw,x1000,fl,fo,Qw,λr hr=>by have:=(pok r hr).1;omega,okr,Qw,λH6 tf2 S2 still2 lg2 st2 lgv2 us6 TD2=>?_⟩;obtain⟨el,eb,er⟩:=zA TD.nd td.ht Fle TD2.nd;subst eb;have s6:=TD2.sa;have s36:=s35.trans s6;have s26:=s25.trans s6;have es2:=TD2.es;rw[el]at es2;dsimp only[aO];refine⟨_,U,_,U,_,_,U,U,_,U,aJ (Q3 Qw) ?_⟩;refine⟨_,U,tf2,_,_,_,U,U,SqT.of TD2.tp,U,_,U,_,U,lg,lgv,S.lg,F,U,s36 _ _ TD.hl,TD.es.same s36,td.sz,λH7 l7 us7 s7 h7 r7=>?_⟩;have shc:=ou (cq F S.lg);refine⟨_,_,.lst (SqL.of (s7 _ _ TD2.hl)) (es2.same s7).dtF,.lst (SqL.of h7) r7.dtF,shc.shaped Qz,shc.shaped Qz,_,U,?_⟩;rw[iP shc Qz];refine aJ U ?_;dsimp only[eV];have s37:=s36.trans s7;have s27:=s26.trans s7;have B:SkB H7 ll lp lg st xs rs S.lg (ax S):=⟨⟨us,s27 _ _ hll,rln.same s27⟩,⟨ps,s27 _ _ hlp,rrs.same s27⟩,⟨lgv,s37 _ _ TD.hl,TD.es.same s37⟩,⟨us3,s37 _ _ TD.hs,TD.ri.same s37⟩,okr,Qw,td.ep⟩;refine ox (λσ' G'=>σ'=[some (.ref l),some (.ref ll),some (.ref lp),some (.int m),some v,some (.int mo),some (.bl still),some (.ref lg),some (.ref st),some (.int (au S.lg:Nat)),some (.int F),some (.ref tf2)]/\aa H7 G') ?_ ?_
 rotate_left
 ·intro N hN;refine⟨_,U,_,U,?_⟩
  cases still with
  |false=>exact aJ U (aJ U (hN _ _ ⟨U,aa.refl _⟩))
  |true=>
   refine bn U ⟨_,U,_,U,_,_,U,U,_,U,?_⟩;by_cases tf:au S.lg<=F
   ·refine bn (Q1 Qw) ⟨_,U,_,U,_,U,_,U,kY,λt8 h8=>?_⟩;have s8:=aa.new h8 (.tup [.bl true,.ref lg,.ref st]);have s38:=s37.trans s8;have s78:=s7.trans s8;rw[gS tf]at es2;have ri2:=TD2.ri;rw[er U tf]at ri2;have sh:Shp 5 (.tuple [.bool true,.list (S.lg.map fY),.list (((List.range xs.length).map (ax S)).map λxs=>.list (xs.map PyData.int))]):=.tup (eW (.bl _ _) (eW (ou _) (eW (oo _).up.up oq)));have bt:(true && decide (au S.lg<=F))=true:=by rw[Q1 tf];rfl
    have tp2:=TD2.tp;rw[bt]at tp2;refine⟨_,_,.tup (SqT.of (s78 _ _ tp2)) (.cons (.bl _) (.cons (.lst (SqL.of (s78 _ _ TD2.hl)) (es2.same s78).dtF) (.cons (.lst (SqL.of (s78 _ _ TD2.hs)) (ri2.same s78).dt) .nil))),.tup (SqT.of af) (.cons (.bl _) (.cons (.lst (SqL.of (s38 _ _ TD.hl)) (TD.es.same s38).dtF) (.cons (.lst (SqL.of (s38 _ _ TD.hs)) (TD.ri.same s38).dt) .nil))),sh.shaped Qz,sh.shaped Qz,_,U,?_⟩;rw[iP sh Qz];exact aJ U (hN _ _ ⟨U,s8⟩)
   ·exact aJ (Q3 Qw) (aJ U (hN _ _ ⟨U,aa.refl _⟩))
 rintro σ' G1 ⟨rfl,sg1⟩;refine⟨_,U,tf2,_,_,_,U,U,SqT.of (sg1 _ _ (s7 _ _ TD2.tp)),U,_,U,still,U,?_⟩
 have fin:∀G2,mG (mH (tOp qNe (tOp kq (tOp kD (eZ 3) (tC (.int 9000))) (tC (.int 8))) (tC (.int 0))) (j9 jc [] E0 (mJ (eZ 3) hG))) { nx:=λ_ H'=>Q .non H',rt:=Q } [some (.ref l),some (.ref ll),some (.ref lp),some (.int m),some v,some (.int mo),some (.bl still),some (.ref lg),some (.ref st),some (.int (au S.lg:Nat)),some (.int F),some (.ref tf2)] G2:=λG2=>by
  refine⟨_,U,_,_,U,U,⟨Qz,Qz⟩,_,_,U,U,Qz,U,_,U,?_⟩
  cases(!decide (V.int (m / 9000 % 8)=V.int 0))with
  |true=>exact q _
  |false=>exact⟨_,U,m,U,⟨m0,m1⟩,λH9=>q _⟩
 cases still with
 |true=>
  refine bn U ⟨_,U,_,U,_,_,U,U,?_⟩
  have dd:decide ((au S.lg:Int)<=(F:Int))=(true && decide (au S.lg<=F)):=by
   rw[Bool.true_and];exact decide_eq_decide.mpr Qw
  rw[dd];refine⟨U,_,U,aJ (by simp) ?_⟩;dsimp only[eV];refine⟨_,U,_,U,bn U ⟨_,U,_,U,_,U,_,U,ll,lp,lg,st,xs,rs,S.lg,ax S,U,B.same sg1,td.no U,td.so U,λH8 _=>⟨_,U,aJ U ?_⟩⟩⟩;dsimp only[eV];refine⟨_,U,_,U,aJ U (aJ U ?_)⟩;exact fin H8
 |false=>
  refine aJ U ⟨U,_,U,aJ (by simp) ?_⟩;dsimp only[eV];refine⟨_,U,_,U,aJ U (aJ U ?_)⟩;dsimp only[eV];refine⟨_,U,_,U,bn U ⟨_,U,_,U,_,U,ll,lp,lg,st,xs,rs,S.lg,ax S,U,B.same sg1,td.may U,λH8 _=>⟨_,U,aJ U ?_⟩⟩⟩;exact fin H8
end
theorem fM(P:Params)(f:Addr)(st:Stmt){x qual:Str}{oc:Value}{od an:Option Addr}{osl:Array (Option Value)}{kV doc pm cdv ct:Value}(l:(hk P).lookup f=some ⟨oc,od,.func (W.fnOf x qual (cE st) (cm st) (am st) .none kV doc pm an cdv ct),osl⟩:=by k_is)
 (c:W.codeIn (hk P) cdv qual=true:=by k_is) (k:W.keepIn (hk P) (.ref f)=true:=by k_is):Fun (hk P) x qual st f (W.fnOf x qual (cE st) (cm st) (am st) .none kV doc pm an cdv ct):=zw l c k
theorem eM(P:Params)(f:Addr)(st:Stmt){x qual:Str}{dt:Addr}{oc:Value}{od an d2:Option Addr}{osl e2:Array (Option Value)}{n:Nat}{kV doc pm cdv ct:Value}{dvs:Array Value}(l:(hk P).lookup f=some ⟨oc,od,.func (W.fnOf x qual (cE st) (cm st) (am st) (.ref dt) kV doc pm an cdv ct),osl⟩:=by k_is)
 (c:W.codeIn (hk P) cdv qual=true:=by k_is) (k:W.keepIn (hk P) (.ref f)=true:=by k_is) (t:(hk P).lookup dt=some ⟨.type "tuple",d2,.seq dvs n,e2⟩:=by k_is):fB (hk P) x qual st f (W.fnOf x qual (cE st) (cm st) (am st) (.ref dt) kV doc pm an cdv ct) dvs:=zv l c k t U
theorem d7{R:List Value->Prop}(h:∀x0,R [x0]):∀us:List Value,us.length=1->R us
 |[_],_=>h _
theorem len2{R:List Value->Prop}(h:∀x0 x1,R [x0,x1]):∀us:List Value,us.length=2->R us
 |[_,_],_=>h _ _
theorem eE{R:List Value->Prop}(h:∀x0 x1 x2,R [x0,x1,x2]):∀us:List Value,us.length=3->R us
 |[_,_,_],_=>h _ _ _
theorem rf{R:List Value->Prop}(h:∀x0 x1 x2 x3,R [x0,x1,x2,x3]):∀us:List Value,us.length=4->R us
 |[_,_,_,_],_=>h _ _ _ _
theorem gM{R:List Value->Prop}(h:∀x0 x1 x2 x3 x4,R [x0,x1,x2,x3,x4]):∀us:List Value,us.length=5->R us
 |[_,_,_,_,_],_=>h _ _ _ _ _
theorem yE{R:List Value->Prop}(h:∀x0 x1 x2 x3 x4 x5,R [x0,x1,x2,x3,x4,x5]):∀us:List Value,us.length=6->R us
 |[_,_,_,_,_,_],_=>h _ _ _ _ _ _
theorem mM{P:Params}{h:Heap}{mg:Str->Option Value}{x:Str}{v:Value}(X:(hk P).In h)(G:h.Ns mainGlobals mg)(e:W.nsIn (hk P) mainGlobals x=some (some v):=by k_is):mg x=some v:=W.mg_of X G e
theorem nM{P:Params}{h:Heap}{mg:Str->Option Value}{x:Str}(X:(hk P).In h)(G:h.Ns mainGlobals mg)(e:W.nsIn (hk P) mainGlobals x=some none:=by k_is):mg x=none:=W.mg_none_of X G e
theorem oM{P:Params}{C:Addr}{f:Str}(e:W.findIn (hk P) (.ref C) f=some none:=by k_is):bc (hk P) C f:=e
set_option maxHeartbeats 0 in
theorem Aa{w:World}{h:Heap}{mg:Str->Option Value}{fa:Addr}(X:(hk w.params).In h)(G:h.Ns mainGlobals mg)(hfa:mg "law"=some (.ref fa)):
 ∃fd:FuncData,(∀(s:Shared)(v:Value),BindsTo s fd ⟨[v],[]⟩ [("_law_script",v)])/\∀base:Heap,(hk w.params).In base->base.Ns mainGlobals mg->aA PySem.Challenge.rw_handflow_k45_still_is_still.prog w (hk w.params) mg base CX0 9 fa fd ["_law_script"] (gj (hk w.params)):=by
 k_fill
 cases hfa.symm.trans (mM (v:=.ref 485) X G);have F0:=fM w.params 28 jR;have b0:=F0.binds (ps:=["self","things"]) λ_ _ _ _ _ _=>len2 λ_ _=>U;have F1:=fM w.params 35 jN;have b1:=F1.binds (ps:=["self"]) λ_ _ _ _ _ _=>d7 λ_=>U;have F2:=fM w.params 42 jQ;have b2:=F2.binds (ps:=["self"]) λ_ _ _ _ _ _=>d7 λ_=>U;have F3:=fM w.params 49 jP;have b3:=F3.binds (ps:=["self","thing"]) λ_ _ _ _ _ _=>len2 λ_ _=>U;have F4:=fM w.params 56 jM;have b4:=F4.binds (ps:=["self"]) λ_ _ _ _ _ _=>d7 λ_=>U;have F5:=fM w.params 63 jO;have b5:=F5.binds (ps:=["self"]) λ_ _ _ _ _ _=>d7 λ_=>U;have F6:=fM w.params 77 jp;have b6:=F6.binds (ps:=["sign","a","b"]) λ_ _ _ _ _ _=>eE λ_ _ _=>U;have F7:=fM w.params 84 jk;have b7:=F7.binds (ps:=["sign","a","b"]) λ_ _ _ _ _ _=>eE λ_ _ _=>U;have F8:=fM w.params 96 gw;have b8:=F8.binds (ps:=["self","lines"]) λ_ _ _ _ _ _=>len2 λ_ _=>U;have F9:=fM w.params 103 jH;have b9:=F9.binds (ps:=["self","line"]) λ_ _ _ _ _ _=>len2 λ_ _=>U;have F10:=fM w.params 110 jG;have b10:=F10.binds (ps:=["self","line"]) λ_ _ _ _ _ _=>len2 λ_ _=>U;have F11:=fM w.params 117 jJ;have b11:=F11.binds (ps:=["self","line"]) λ_ _ _ _ _ _=>len2 λ_ _=>U;have F12:=fM w.params 124 jI;have b12:=F12.binds (ps:=["self","line","thing"]) λ_ _ _ _ _ _=>eE λ_ _ _=>U;have F13:=fM w.params 131 jF;have b13:=F13.binds (ps:=["self","line"]) λ_ _ _ _ _ _=>len2 λ_ _=>U;have F14:=fM w.params 136 ic;have b14:=F14.binds (ps:=["self"]) λ_ _ _ _ _ _=>d7 λ_=>U;have F15:=fM w.params 157 jY;have b15:=F15.binds (ps:=["self","ins"]) λ_ _ _ _ _ _=>len2 λ_ _=>U;have F16:=fM w.params 164 jX;have b16:=F16.binds (ps:=["self","yard"]) λ_ _ _ _ _ _=>len2 λ_ _=>U;have F17:=fM w.params 185 jW;have b17:=F17.binds (ps:=["self","ins","outs","route"]) λ_ _ _ _ _ _=>rf λ_ _ _ _=>U;have F18:=fM w.params 190 ie;have b18:=F18.binds (ps:=["self","things"]) λ_ _ _ _ _ _=>len2 λ_ _=>U;have F19:=fM w.params 209 jL;have b19:=F19.binds (ps:=["self","ins","out","sign","sides"]) λ_ _ _ _ _ _=>gM λ_ _ _ _ _=>U;have F20:=fM w.params 216 jK;have b20:=F20.binds (ps:=["self","things"]) λ_ _ _ _ _ _=>len2 λ_ _=>U;have F21:=fM w.params 235 ka;have b21:=F21.binds (ps:=["self","ins","which","ones","noughts","told"]) λ_ _ _ _ _ _=>yE λ_ _ _ _ _ _=>U;have F22:=fM w.params 242 k9;have b22:=F22.binds (ps:=["self","things"]) λ_ _ _ _ _ _=>len2 λ_ _=>U;have F23:=fM w.params 261 k7;have b23:=F23.binds (ps:=["self","told","ones","noughts","outs"]) λ_ _ _ _ _ _=>gM λ_ _ _ _ _=>U;have F24:=fM w.params 268 jZ;have b24:=F24.binds (ps:=["self","yard"]) λ_ _ _ _ _ _=>len2 λ_ _=>U;have F25:=fM w.params 275 k6;have b25:=F25.binds (ps:=["self","things"]) λ_ _ _ _ _ _=>len2 λ_ _=>U;have F26:=fM w.params 287 jo;have b26:=F26.binds (ps:=["side","things"]) λ_ _ _ _ _ _=>len2 λ_ _=>U;have F27:=fM w.params 294 jn;have b27:=F27.binds (ps:=["row"]) λ_ _ _ _ _ _=>d7 λ_=>U;have F28:=fM w.params 306 dW;have b28:=F28.binds (ps:=["self","lines","parts","pace","most"]) λ_ _ _ _ _ _=>gM λ_ _ _ _ _=>U;have F29:=fM w.params 313 jS;have b29:=F29.binds (ps:=["self"]) λ_ _ _ _ _ _=>d7 λ_=>U;have F30:=fM w.params 320 jU;have b30:=F30.binds (ps:=["self","now","part"]) λ_ _ _ _ _ _=>eE λ_ _ _=>U;have F31:=fM w.params 325 fJ;have b31:=F31.binds (ps:=["self","now","part"]) λ_ _ _ _ _ _=>eE λ_ _ _=>U;have F32:=fM w.params 332 jV;have b32:=F32.binds (ps:=["self","turn","parts"]) λ_ _ _ _ _ _=>eE λ_ _ _=>U;have F33:=fM w.params 339 jT;have b33:=F33.binds (ps:=["self","part"]) λ_ _ _ _ _ _=>len2 λ_ _=>U;have F35:=fM w.params 361 jE;have b35:=F35.binds (ps:=["_law_script","_law_k"]) λ_ _ _ _ _ _=>len2 λ_ _=>U;have F36:=fM w.params 368 jz;have b36:=F36.binds (ps:=["_law_cell_here","_law_k"]) λ_ _ _ _ _ _=>len2 λ_ _=>U;have F37:=fM w.params 375 jy;have b37:=F37.binds (ps:=["_law_cell_here","_law_way"]) λ_ _ _ _ _ _=>len2 λ_ _=>U;have F38:=fM w.params 382 jr;have b38:=F38.binds (ps:=["_law_cell_here","_law_way"]) λ_ _ _ _ _ _=>len2 λ_ _=>U;have F39:=fM w.params 387 i9;have b39:=F39.binds (ps:=["_law_cell_here","_law_k"]) λ_ _ _ _ _ _=>len2 λ_ _=>U;have F40:=fM w.params 394 jx;have b40:=F40.binds (ps:=["_law_pool","_law_other","_law_lines","_law_many","_law_way"]) λ_ _ _ _ _ _=>gM λ_ _ _ _ _=>U;have F41:=fM w.params 401 ju;have b41:=F41.binds (ps:=["_law_way","_law_width","_law_cell_here"]) λ_ _ _ _ _ _=>eE λ_ _ _=>U;have F42:=fM w.params 406 i6;have b42:=F42.binds (ps:=["_law_cell_here","_law_k","_law_takers","_law_givers","_law_lines"]) λ_ _ _ _ _ _=>gM λ_ _ _ _ _=>U;have F43:=fM w.params 411 eY;have b43:=F43.binds (ps:=["_law_script"]) λ_ _ _ _ _ _=>d7 λ_=>U;have F44:=fM w.params 416 i4;have b44:=F44.binds (ps:=["_law_cell_here","_law_k"]) λ_ _ _ _ _ _=>len2 λ_ _=>U;have F45:=fM w.params 421 i7;have b45:=F45.binds (ps:=["_law_script","_law_way"]) λ_ _ _ _ _ _=>len2 λ_ _=>U;have F46:=fM w.params 428 jq;have b46:=F46.binds (ps:=["_law_row","_law_rows"]) λ_ _ _ _ _ _=>len2 λ_ _=>U;have F47:=fM w.params 433 i8;have b47:=F47.binds (ps:=["_law_parts","_law_log"]) λ_ _ _ _ _ _=>len2 λ_ _=>U;have F48:=fM w.params 440 jw;have b48:=F48.binds (ps:=["_law_row","_law_rows"]) λ_ _ _ _ _ _=>len2 λ_ _=>U;have F49:=fM w.params 447 jC;have b49:=F49.binds (ps:=["_law_row","_law_things"]) λ_ _ _ _ _ _=>len2 λ_ _=>U;have F50:=fM w.params 454 jB;have b50:=F50.binds (ps:=["_law_log","_law_place"]) λ_ _ _ _ _ _=>len2 λ_ _=>U;have F51:=fM w.params 461 jt;have b51:=F51.binds (ps:=["_law_lines","_law_parts","_law_log","_law_left"]) λ_ _ _ _ _ _=>rf λ_ _ _ _=>U;have F52:=fM w.params 468 jA;have b52:=F52.binds (ps:=["_law_parts","_law_log","_law_left"]) λ_ _ _ _ _ _=>eE λ_ _ _=>U;have F53:=fM w.params 475 jD;have b53:=F53.binds (ps:=["_law_log","_law_most"]) λ_ _ _ _ _ _=>len2 λ_ _=>U;have F54:=fM w.params 480 hZ;have b54:=F54.binds (ps:=["_law_m"]) λ_ _ _ _ _ _=>d7 λ_=>U;have F55:=fM w.params 485 dU;have b55:=F55.binds (ps:=["_law_script"]) λ_ _ _ _ _ _=>d7 λ_=>U;have F34:=eM (dvs:=#[.none,.int 5000 655]) w.params 354 jm;have b34:=F34.binds (ps:=["lines","parts","pace","most"]) [] λ_ _ _ _ _ _ _ _ _ _ us hg hd hl=>match us,(show us.length=4 from by simpa using hl)with|[_,_,_,_],_=>BindsTo.of_defaults U hg hd U U
 have bd34:=F34.binds (ps:=["lines","parts","pace","most"]) [.int 5000 655] λ_ _ _ _ _ _ _ _ _ _ us hg hd hl=>match us,(show us.length=3 from by simpa using hl)with|[_,_,_],_=>BindsTo.of_defaults U hg hd U U
 have bdd34:=F34.binds (ps:=["lines","parts","pace","most"]) [.none,.int 5000 655] λ_ _ _ _ _ _ _ _ _ _ us hg hd hl=>match us,(show us.length=2 from by simpa using hl)with|[_,_],_=>BindsTo.of_defaults U hg hd U U
 have T:Tx PySem.Challenge.rw_handflow_k45_still_is_still.prog w (hk w.params) mg (Adr.mk 28 _ 35 _ 42 _ 49 _ 56 _ 63 _ 77 _ 84 _ 96 _ 103 _ 110 _ 117 _ 124 _ 131 _ 136 _ 157 _ 164 _ 185 _ 190 _ 209 _ 216 _ 235 _ 242 _ 261 _ 268 _ 275 _ 287 _ 294 _ 306 _ 313 _ 320 _ 325 _ 332 _ 339 _ 354 _ 655 361 _ 368 _ 375 _ 382 _ 387 _ 394 _ 401 _ 406 _ 411 _ 416 _ 421 _ 428 _ 433 _ 440 _ 447 _ 454 _ 461 _ 468 _ 475 _ 480 _ 485 _ 258 66 139 167 193 219 245 278 342):=Tx.mk F0 b0 F1 b1 F2 b2 F3 b3 F4 b4 F5 b5 F6 b6 (mM X G) F7 b7 (mM X G) F8 b8 F9 b9 F10 b10 F11 b11 F12 b12 F13 b13 F14 b14 F15 b15 F16 b16 F17 b17 F18 b18 F19 b19 F20 b20 F21 b21 F22 b22 F23 b23 F24 b24 F25 b25 F26 b26 (mM X G) F27 b27 (mM X G) F28 b28 F29 b29 F30 b30 F31 b31 F32 b32 F33 b33 F34 bd34 bdd34 b34 (mM X G) F35 b35 (mM X G) F36 b36 (mM X G) F37 b37 (mM X G) F38 b38 (mM X G) F39 b39 (mM X G) F40 b40 (mM X G) F41 b41 (mM X G) F42 b42 (mM X G) F43 b43 (mM X G) F44 b44 (mM X G) F45 b45 (mM X G) F46 b46 (mM X G) F47 b47 (mM X G) F48 b48 (mM X G) F49 b49 (mM X G) F50 b50 (mM X G) F51 b51 (mM X G) F52 b52 (mM X G) F53 b53 (mM X G) F54 b54 (mM X G) F55 b55 (mM X G) (nM X G) (nM X G) (nM X G) (nM X G) (nM X G) (nM X G) (nM X G) (nM X G) (nM X G) (nM X G) (mM X G) (mM X G) (Cls.mk (by k_is) (by k_is) (by k_is) (by k_is)) (Mk.mk (by k_is) (by k_is) (by k_is) (by k_is)) (aP.mk (by k_is) (by k_is) (by k_is)) (aP.mk (by k_is) (by k_is) (by k_is)) (aP.mk (by k_is) (by k_is) (by k_is)) (aP.mk (by k_is) (by k_is) (by k_is)) (aP.mk (by k_is) (by k_is) (by k_is)) oM oM (mM X G) (Cls.mk (by k_is) (by k_is) (by k_is) (by k_is)) (Mk.mk (by k_is) (by k_is) (by k_is) (by k_is)) (aP.mk (by k_is) (by k_is) (by k_is)) (aP.mk (by k_is) (by k_is) (by k_is)) (aP.mk (by k_is) (by k_is) (by k_is)) (aP.mk (by k_is) (by k_is) (by k_is)) (aP.mk (by k_is) (by k_is) (by k_is)) (aP.mk (by k_is) (by k_is) (by k_is)) oM oM (mM X G) (Cls.mk (by k_is) (by k_is) (by k_is) (by k_is)) (Mk.mk (by k_is) (by k_is) (by k_is) (by k_is)) (aP.mk (by k_is) (by k_is) (by k_is)) oM (mM X G) (Cls.mk (by k_is) (by k_is) (by k_is) (by k_is)) (Mk.mk (by k_is) (by k_is) (by k_is) (by k_is)) (aP.mk (by k_is) (by k_is) (by k_is)) (aP.mk (by k_is) (by k_is) (by k_is)) oM oM oM (mM X G) (Cls.mk (by k_is) (by k_is) (by k_is) (by k_is)) (Mk.mk (by k_is) (by k_is) (by k_is) (by k_is)) (aP.mk (by k_is) (by k_is) (by k_is)) (aP.mk (by k_is) (by k_is) (by k_is)) oM oM oM oM (mM X G) (Cls.mk (by k_is) (by k_is) (by k_is) (by k_is)) (Mk.mk (by k_is) (by k_is) (by k_is) (by k_is)) (aP.mk (by k_is) (by k_is) (by k_is)) (aP.mk (by k_is) (by k_is) (by k_is)) oM oM oM oM oM (mM X G) (Cls.mk (by k_is) (by k_is) (by k_is) (by k_is)) (Mk.mk (by k_is) (by k_is) (by k_is) (by k_is)) (aP.mk (by k_is) (by k_is) (by k_is)) (aP.mk (by k_is) (by k_is) (by k_is)) oM oM oM oM (mM X G) (Cls.mk (by k_is) (by k_is) (by k_is) (by k_is)) (Mk.mk (by k_is) (by k_is) (by k_is) (by k_is)) (aP.mk (by k_is) (by k_is) (by k_is)) (aP.mk (by k_is) (by k_is) (by k_is)) (aP.mk (by k_is) (by k_is) (by k_is)) (aP.mk (by k_is) (by k_is) (by k_is)) (aP.mk (by k_is) (by k_is) (by k_is)) oM oM oM oM oM oM oM oM oM oM oM (me.mk (by k_is) (by k_is) (by k_is) (by k_is));exact⟨_,λs v=>.of_eq U,λbase _ _=>wY T⟩
theorem tG{l:W.OpenLaw}{q:Program}{loose:List Str}{XP:(Str->Option Value)->Heap->Prop}{YP:World->Heap->Prop}{d:DefRec}{K:Params->W.Frag}(hn:l.most=some 63)(hdf:d.params.defaults=[])
 (hY:∀(w:World)(h:Heap),YP w h->(K w.params).In h)
 (F:∀(w:World)(mg:Str->Option Value)(fa:Addr)(h:Heap),(K w.params).In h->h.Ns mainGlobals mg->mg d.name=some (.ref fa)->
  ∃fd:FuncData,(∀(s:Shared)(u:Value),BindsTo s fd ⟨[u],[]⟩ [("_law_script",u)])/\∀base:Heap,(K w.params).In base->base.Ns mainGlobals mg->aA l.prog w (K w.params) mg base CX0 9 fa fd ["_law_script"] (gj (K w.params))):
 W.WalkO q loose XP YP l.row.toRowW d [] (λf vs=>PySem.call f vs):=
 L2.tF (n:=63) (k:=9) (x:="_law_script") (CX:=λ_=>CX0) (sp:=λw=>gj (K w.params)) hn Qz hdf ⟨U,Qz,Qz,U⟩ hY F (λ_ _ a ns hl hb hO hS=>⟨a,ns,U,hS,hl,hb,hO,λ_=>U⟩) λ_ _ _ _ _ z=>z
noncomputable def zG:PySem.DefRec:=⟨"law",cE dU,cm dU,am dU,defPos dU⟩
theorem rR{p:Program}{w:World}{A:Option Value}:∀{m:Nat}{x x':W.SharedT}{y:Thread},goT p w A m x y=some x'->W.topRun PySem.treeTable p w 11 A m x.abs y=some x'.abs
 |0,_,_,_,h=>nomatch h
 |m+1,x,x',y,h=>by
  unfold goT at h;unfold W.topRun
  cases a:W.through y with
  |true=>rw[a]at h;cases h;rfl
  |false=>
   rw[a]at h
   cases b:W.stepOk 11 A y with
   |false=>rw[b]at h;cases h
   |true=>
    rw[b]at h
    cases c:W.stepT (denote PySem.treeTable) p w x y with
    |none=>rw[c]at h;cases h
    |some z=>rw[c]at h;rw[W.stepT_spec c];exact rR h
theorem yF{p q:Program}{loose:List Str}{Xt:Shared->Bool}{α:Type}{Yf:Shared->α}{Ya:World->α}{N:Nat}(e:W.opening p=W.plainProg p.main.scope.names)(hN:Nat.ble 600 N=true)(f:∀s,fenceModules? p s=some s)
 (H:∀w,EndsT p q loose Xt Yf Ya N w):W.LeftO p q loose Xt Yf Ya N:=λw=>by
 obtain⟨⟨h,gs,d,k,os⟩,u,u'⟩:=qP.mp (W.boot_open e hN f w);obtain⟨rfl,rfl,rfl,rfl⟩:h=W.boot_heap w.params/\gs=#[]/\d=W.boot_drawn/\k=W.boot_toks:=by simpa using u'
 obtain⟨s,r,l⟩:=qP.mp (H w os);have r:=rR r;rw[bs_is]at r;obtain⟨l1,l2,l3⟩:_/\_/\_:=by simpa only[Prod.mk.injEq]using l
 have z1:((W.boot_heap w.params).isNs mainGlobals && (#[]:Array GenState).size == 0)=true:=by kernel_rfl
 have z2:(W.boot_heap w.params).objs.size=11:=by kernel_rfl
 have t:W.topFrom PySem.treeTable p w N ⟨W.boot_heap w.params,#[],W.boot_drawn,W.boot_toks,os⟩=some s.abs:=by
  unfold W.topFrom;dsimp only;rw[z1,z2,r];show(match W.staticsOk (PySem.importedModules p.main.body) (W.boot_heap w.params) s.abs.heap && W.namesBound p s.abs.heap && W.gensDone s.abs && W.laidKept (W.boot_heap w.params) s.abs.heap with|true=>_|false=>_)=_;rw[l1]
 unfold W.openEnds;rw[u];show(W.topFrom PySem.treeTable p w N _).map _=_;rw[t];exact congrArg some (Prod.ext l2 l3)
set_option maxHeartbeats 0 in
theorem left:W.LeftO PySem.Challenge.pw_handflow_k45_still_is_still vw [("play":Str)] xt hkH.obs hkH.val 6976:=yF (by kernel_rfl) Qz (λ_=>by kernel_rfl) leftF
end K45
open PySem PySem.W PyProof.Rows
set_option maxRecDepth 100000 in
set_option maxHeartbeats 0 in
theorem PySem.Challenge.cw_handflow_k45_still_is_still_holds : PySem.Challenge.rw_handflow_k45_still_is_still.Holds := by
 w_on;refine holds_law K45.said fun said=>?_
 refine holds_open (q:=K45.vw) (loose:=[("play":Str)]) (Xt:=K45.xt) (XP:=XL K45.vw []) (Yf:=Hook.obs K45.hkH) (Ya:=Hook.val K45.hkH) (YP:=Hook.says K45.hkH) (d:=K45.zG) (kwd:=[]) (N:=6976) K45.left (Hook.of K45.hkH) (Hook.keeps K45.hkH) (fun s e=>xl_of s (Bool.and_eq_true_iff.mp e).1) XL.keeps (by kernel_rfl) (by kernel_rfl) (by kernel_rfl) (fun s e=>recFacts_of (Bool.and_eq_true_iff.mp e).2) (by rfl) (by first|assumption|decide +kernel) (by decide +kernel) ⟨rfl,rfl,rfl,rfl,rfl,by decide +kernel⟩ ?hw ?hc
 (case hw=>w_witness2)
 refine K45.tG (l:=PySem.Challenge.rw_handflow_k45_still_is_still) rfl (by kernel_rfl) (K:=K45.hk) (fun w h Y=>PySem.W.kIn_of (K:=K45.hk) (as:=K45.hks) (e:=K45.hk_as) Y) ?F
 case F=>exact fun w mg fa h X G e=>K45.Aa X G e
