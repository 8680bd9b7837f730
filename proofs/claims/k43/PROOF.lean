import PyProof.Rows.All
import Wide.All
import OpenK.AllK
import Wide.FinOn
import Lean
import PyProof.EqAt
import PyProof.EqKinds
import PyProof.TupleCall
import PySem.Challenge.RW_handflow_k43_chain
set_option Elab.async false
set_option maxRecDepth 100000
set_option linter.all false
theorem U{α:Sort u}{a:α}:a=a:=rfl
theorem Oi{p:Prop}{α:Sort u}{a:α}:a=a\/p:=.inl rfl
theorem Oy{α:Sort u}{β:Sort v}{γ:Sort w}{f:α->β->γ}:∀a b,f a b=f a b:=λ_ _=>rfl
section
open PySem PySem.Spec PyProof.Rows PySem.W
theorem Qx{p:Prop}(h:p:=by decide +kernel):p:=h
theorem Qy{p:Prop}(h:p:=by decide):p:=h
theorem Qz{p:Prop}(h:p:=by omega):p:=h
abbrev Qw:=Value->Shared->Prop
def q0:=@wpAny_bind
def q4:=@List.length_map
def q5:=@Heap.get?_push_of_some
def q9:=@List.length_append
def qa:=@List.getElem?_eq_getElem
def qb:=@wpAny_pure
def qc:=@Nat.le_refl
def qd:=@List.getElem?_eq_some_iff
def qe:=@PySem.F.plainAttrs_list
def qf:=@List.mem_append
def qg:=@Bool.false_ne_true
def qh:=@List.getD_eq_getElem?_getD
def qi:=@List.mem_cons_of_mem
def qj:=@List.mem_cons_self
def qk:=@Heap.get?_push_size
def qm:=@Heap.lt_size
def qp:=@List.take_add_one
def qq:=@Nat.zero_le
def qr:=@List.mem_cons
def qt:=@PySem.F.slot_list_append
def qu:=@PySem.F.type_list_append
def qv:=@List.append_nil
def qw:=@Nat.le_trans
def qx:=@List.mem_of_getElem?
def qy:=@List.length_cons
def qz:=@List.size_toArray
def qA:=@Nat.lt_of_lt_of_le
def qC:=@List.getElem?_map
def qE:=@Nat.ne_of_lt
def qF:=@List.take_length
def qG:=@List.mem_append_right
def qH:=@Option.some.inj
def qI:=@List.length_take
def qJ:=@List.getElem?_append_right
def qK:=@Array.length_toList
def qL:=@List.append_assoc
def qM:=@List.map_append
def qN:=@Option.map_eq_some_iff
def qO:=@List.not_mem_nil
def qP:=@List.map_cons
def qQ:=@List.mem_singleton
def qR:=@Array.getElem?_toList
def qS:=@List.flatMap_append
def qT:=@List.mem_append_left
def qV:=@Int.toNat_natCast
def qW:=@List.length_drop
def qX:=@if_neg
def qY:=@if_pos
def qZ:=@decide_eq_true
def Q0:=@decide_eq_false
def Q1:=@absurd
def Q3:=@List.getElem?_append_left
def Q4:=@List.length_singleton
def Q5:=@PySem.boot_len
def Q6:=@List.find?_cons
def Q7:=@Int.emod_nonneg
def Q8:=@Nat.lt_succ_self
def Q9:=@Nat.lt_irrefl
def Qa:=@of_decide_eq_true
def Qb:=@List.length_range
def Qc:=@Int.emod_lt_of_pos
def Qd:=@Heap.size_push
def Qe:=@Heap.get?_update_self
def Qf:=@PySem.mem_of_lookup
def Qg:=@wpAny_call_entry
def Qh:=@Bool.false_eq_true
def Qi:=@List.nil_append
def Qk:=@PySem.F.type_list_extend
def Ql:=@PySem.F.slot_list_extend
def Qm:=@List.getElem?_eq_none
def Qn:=@Nat.lt_succ_of_lt
def Qo:=@List.pairwise_singleton
def Qp:=@List.filter_append
def Qq:=@Heap.get?_update_other
def Qs:=@wpAny_holding
def Qt:=@wpAny_seqItems
def Qu:=@PySem.W.kia_one
def Qv:=@Nat.not_lt_zero
end
namespace L2
open PySem PySem.Spec PyProof.Rows PySem.W
def inClass(s:Stmt)(j:Nat):Stmt:=match s with
 |.ClassDef _ _ _ body _ _ _ _ _ _ _=>body.getD j (.Pass ⟨0,0,0,0⟩)
 |_=>.Pass ⟨0,0,0,0⟩
def cr(s:Stmt):Arguments:=match s with
 |.FunctionDef _ a _ _ _ _ _ _ _ _=>a
 |_=>{ posonlyargs:=[],args:=[],vararg:=none,kwonlyargs:=[],kw_defaults:=[],kwarg:=none,defaults:=[] }
def c8(s:Stmt):List Stmt:=match s with
 |.FunctionDef _ _ b _ _ _ _ _ _ _=>b
 |_=>[]
def aj(s:Stmt):Scope:=match s with
 |.FunctionDef _ _ _ _ _ _ sc _ _ _=>sc
 |_=>{ kind:=.function,names:=[],isGenerator:=false,isCoroutine:=false }
end L2
namespace K43
open PySem L2
set_option maxHeartbeats 0 in
theorem said:PySem.W.OpenLaw.wellSaid PySem.Challenge.rw_handflow_k43_chain=true:=by kernel_rfl
def top(i:Nat):Stmt:=PySem.Challenge.pw_handflow_k43_chain.main.body.getD i (.Pass ⟨0,0,0,0⟩)
noncomputable def defPos(s:Stmt):Pos:=match s with
 |.FunctionDef _ _ _ _ _ _ _ _ _ p=>p
 |_=>⟨0,0,0,0⟩
abbrev vs(x:String)(t:Nat):Value:=.str (Str.ofString x) t
abbrev de(P:Params)(x:String)(t:Nat)(v:Value):DictEntry:=⟨PyData.keyHash P (Str.ofString x),vs x t,v⟩
abbrev co(a b:String)(t l n r:Nat)(x y z u:Value)(m:Nat):Obj:=Obj.mk (.type "code") none (Data.fields #[vs a t,vs b (t+1),vs "/claim/cut.py" (t+2),.int l 0,.int n 0,.int 0 0,.int 0 0,.int 3 0,.ref r,.bool true,.int 181 0,.ref (r+1),x,y,z,u,.int m 0,.int l 0,vs "/claim/cut.py" (m+1)]) #[]
abbrev fo(a b:String)(s:Stmt)(m:String)(t c:Nat):Obj:=Obj.mk (.type "function") none (.func (PySem.W.fnOf a b (cr s) (c8 s) (aj s) .none .none .none (vs m t) none (.ref c) .none)) #[]
noncomputable def hk:Params->PySem.W.Frag:=λP=>
 (nat_lit 2,Obj.mk .none none (Data.dict #[]) #[]) ::
 (nat_lit 3,Obj.mk (.type "dict") none (Data.dict #[de P "__name__" 165 (vs "law_handflow_k43_chain" 676),de P "__doc__" 166 .none,de P "__package__" 167 .none,de P "__loader__" 168 (.builtin "__main__.__loader__#opaque"),de P "__spec__" 169 .none,de P "__annotations__" 170 (.ref 6),de P "__builtins__" 171 (.ref 4),de P "__file__" 173 (vs "/claim/cut.py" 172),de P "__cached__" 174 .none,de P "Queue" 255 (.ref 66),de P "WHEEL" 259 (.int 1000000000000000000000000000000 258),de P "done" 268 (.ref 77),de P "reckoned" 277 (.ref 84),de P "Yard" 355 (.ref 139),de P "Part" 392 (.ref 167),de P "Pass" 426 (.ref 193),de P "Work" 466 (.ref 219),de P "Choose" 506 (.ref 245),de P "Merge" 553 (.ref 278),de P "on_side" 561 (.ref 287),de P "part_of" 569 (.ref 294),de P "Play" 654 (.ref 342),de P "play" 667 (.ref 354),de P "history" 675 (.ref 359),de P "_law_cell" 685 (.ref 366),de P "_law_mixed" 694 (.ref 373),de P "_law_number" 703 (.ref 380),de P "_law_firsts" 709 (.ref 385),de P "_law_lengths" 721 (.ref 392),de P "_law_pace" 727 (.ref 397),de P "_law_needed" 736 (.ref 404),de P "_law_come" 746 (.ref 411),de P "_law_fit" 760 (.ref 418),de P "_law_played" 771 (.ref 425),de P "law" 777 (.ref 430)] 35) #[]) ::
 (nat_lit 27,co "__init__" "Queue.__init__" 201 4 2 22 .none (.ref 24) (.ref 25) (.ref 26) 206) ::
 (nat_lit 28,fo "__init__" "Queue.__init__" (inClass (top 1) 0) "handflow.queues" 187 27) ::
 (nat_lit 34,co "standing" "Queue.standing" 209 8 1 29 .none (.ref 31) (.ref 32) (.ref 33) 213) ::
 (nat_lit 35,fo "standing" "Queue.standing" (inClass (top 1) 1) "handflow.queues" 187 34) ::
 (nat_lit 41,co "head" "Queue.head" 216 11 1 36 .none (.ref 38) (.ref 39) (.ref 40) 220) ::
 (nat_lit 42,fo "head" "Queue.head" (inClass (top 1) 2) "handflow.queues" 187 41) ::
 (nat_lit 48,co "lay" "Queue.lay" 223 14 2 43 .none (.ref 45) (.ref 46) (.ref 47) 228) ::
 (nat_lit 49,fo "lay" "Queue.lay" (inClass (top 1) 3) "handflow.queues" 187 48) ::
 (nat_lit 55,co "take" "Queue.take" 231 17 1 50 .none (.ref 52) (.ref 53) (.ref 54) 236) ::
 (nat_lit 56,fo "take" "Queue.take" (inClass (top 1) 4) "handflow.queues" 187 55) ::
 (nat_lit 62,co "rest" "Queue.rest" 239 22 1 57 .none (.ref 59) (.ref 60) (.ref 61) 243) ::
 (nat_lit 63,fo "rest" "Queue.rest" (inClass (top 1) 5) "handflow.queues" 187 62) ::
 (nat_lit 64,Obj.mk (.type "tuple") none (Data.seq #[vs "gone" 246,vs "laid" 247]) #[]) ::
 (nat_lit 65,Obj.mk (.type "dict") none (Data.dict #[de P "__module__" 196 (vs "handflow.queues" 187),de P "__firstlineno__" 200 (.int 2 199),de P "__init__" 208 (.ref 28),de P "standing" 215 (.ref 35),de P "head" 222 (.ref 42),de P "lay" 230 (.ref 49),de P "take" 238 (.ref 56),de P "rest" 245 (.ref 63),de P "__static_attributes__" 248 (.ref 64),de P "__dict__" 250 (.ref 67),de P "__weakref__" 252 (.ref 68),de P "__doc__" 253 .none] 4) #[]) ::
 (nat_lit 66,Obj.mk (.type "type") none (Data.cls (ClassData.mk (Str.ofString "Queue") [.type "object"] [.ref 66,.type "object"] 65 (Str.ofString "Queue") true [] [] false none false)) #[none,none,some (vs "Queue" 189),some (vs "Queue" 197),some (.builtin "object.__new__"),some (.bool true)]) ::
 (nat_lit 67,Obj.mk (.type "getset_descriptor") none (Data.fields #[vs "__dict__" 249,.ref 66,.builtin "function.__dict__",.builtin "function.__dict__#set"]) #[]) ::
 (nat_lit 68,Obj.mk (.type "getset_descriptor") none (Data.fields #[vs "__weakref__" 251,.ref 66,.builtin "ExceptionGroup.__weakref__",.none]) #[]) ::
 (nat_lit 76,co "done" "done" 260 26 3 71 .none (.ref 73) (.ref 74) (.ref 75) 266) ::
 (nat_lit 77,fo "done" "done" (top 4) "handflow.wheel" 256 76) ::
 (nat_lit 83,co "reckoned" "reckoned" 269 34 3 78 .none (.ref 80) (.ref 81) (.ref 82) 275) ::
 (nat_lit 84,fo "reckoned" "reckoned" (top 5) "handflow.wheel" 256 83) ::
 (nat_lit 95,co "__init__" "Yard.__init__" 292 49 2 92 .none .none .none (.ref 94) 295) ::
 (nat_lit 96,fo "__init__" "Yard.__init__" (inClass (top 7) 0) "handflow.parts" 278 95) ::
 (nat_lit 102,co "holds" "Yard.holds" 298 53 2 97 .none (.ref 99) (.ref 100) (.ref 101) 303) ::
 (nat_lit 103,fo "holds" "Yard.holds" (inClass (top 7) 1) "handflow.parts" 278 102) ::
 (nat_lit 109,co "room" "Yard.room" 306 56 2 104 .none (.ref 106) (.ref 107) (.ref 108) 312) ::
 (nat_lit 110,fo "room" "Yard.room" (inClass (top 7) 2) "handflow.parts" 278 109) ::
 (nat_lit 116,co "first" "Yard.first" 315 60 2 111 .none (.ref 113) (.ref 114) (.ref 115) 320) ::
 (nat_lit 117,fo "first" "Yard.first" (inClass (top 7) 3) "handflow.parts" 278 116) ::
 (nat_lit 123,co "hand" "Yard.hand" 323 63 3 118 .none (.ref 120) (.ref 121) (.ref 122) 329) ::
 (nat_lit 124,fo "hand" "Yard.hand" (inClass (top 7) 4) "handflow.parts" 278 123) ::
 (nat_lit 130,co "taken" "Yard.taken" 332 66 2 125 .none (.ref 127) (.ref 128) (.ref 129) 337) ::
 (nat_lit 131,fo "taken" "Yard.taken" (inClass (top 7) 5) "handflow.parts" 278 130) ::
 (nat_lit 135,co "stands" "Yard.stands" 340 69 1 132 .none .none .none (.ref 134) 343) ::
 (nat_lit 136,fo "stands" "Yard.stands" (inClass (top 7) 6) "handflow.parts" 278 135) ::
 (nat_lit 137,Obj.mk (.type "tuple") none (Data.seq #[vs "lengths" 346,vs "queues" 347]) #[]) ::
 (nat_lit 138,Obj.mk (.type "dict") none (Data.dict #[de P "__module__" 287 (vs "handflow.parts" 278),de P "__firstlineno__" 291 (.int 47 290),de P "__init__" 297 (.ref 96),de P "holds" 305 (.ref 103),de P "room" 314 (.ref 110),de P "first" 322 (.ref 117),de P "hand" 331 (.ref 124),de P "taken" 339 (.ref 131),de P "stands" 345 (.ref 136),de P "__static_attributes__" 348 (.ref 137),de P "__dict__" 350 (.ref 140),de P "__weakref__" 352 (.ref 141),de P "__doc__" 353 .none] 4) #[]) ::
 (nat_lit 139,Obj.mk (.type "type") none (Data.cls (ClassData.mk (Str.ofString "Yard") [.type "object"] [.ref 139,.type "object"] 138 (Str.ofString "Yard") true [] [] false none false)) #[none,none,some (vs "Yard" 280),some (vs "Yard" 288),some (.builtin "object.__new__"),some (.bool true)]) ::
 (nat_lit 140,Obj.mk (.type "getset_descriptor") none (Data.fields #[vs "__dict__" 349,.ref 139,.builtin "function.__dict__",.builtin "function.__dict__#set"]) #[]) ::
 (nat_lit 141,Obj.mk (.type "getset_descriptor") none (Data.fields #[vs "__weakref__" 351,.ref 139,.builtin "ExceptionGroup.__weakref__",.none]) #[]) ::
 (nat_lit 156,co "__init__" "Part.__init__" 368 73 2 151 .none (.ref 153) (.ref 154) (.ref 155) 373) ::
 (nat_lit 157,fo "__init__" "Part.__init__" (inClass (top 8) 0) "handflow.parts" 278 156) ::
 (nat_lit 163,co "wants" "Part.wants" 376 76 2 158 .none (.ref 160) (.ref 161) (.ref 162) 381) ::
 (nat_lit 164,fo "wants" "Part.wants" (inClass (top 8) 1) "handflow.parts" 278 163) ::
 (nat_lit 165,Obj.mk (.type "tuple") none (Data.seq #[vs "ins" 384]) #[]) ::
 (nat_lit 166,Obj.mk (.type "dict") none (Data.dict #[de P "__module__" 363 (vs "handflow.parts" 278),de P "__firstlineno__" 367 (.int 71 366),de P "__init__" 375 (.ref 157),de P "wants" 383 (.ref 164),de P "__static_attributes__" 385 (.ref 165),de P "__dict__" 387 (.ref 168),de P "__weakref__" 389 (.ref 169),de P "__doc__" 390 .none] 4) #[]) ::
 (nat_lit 167,Obj.mk (.type "type") none (Data.cls (ClassData.mk (Str.ofString "Part") [.type "object"] [.ref 167,.type "object"] 166 (Str.ofString "Part") true [] [.ref 193,.ref 219,.ref 245,.ref 278] false none false)) #[none,none,some (vs "Part" 356),some (vs "Part" 364),some (.builtin "object.__new__"),some (.bool true)]) ::
 (nat_lit 168,Obj.mk (.type "getset_descriptor") none (Data.fields #[vs "__dict__" 386,.ref 167,.builtin "function.__dict__",.builtin "function.__dict__#set"]) #[]) ::
 (nat_lit 169,Obj.mk (.type "getset_descriptor") none (Data.fields #[vs "__weakref__" 388,.ref 167,.builtin "ExceptionGroup.__weakref__",.none]) #[]) ::
 (nat_lit 172,Obj.mk (.type "tuple") none (Data.seq #[.ref 167]) #[]) ::
 (nat_lit 184,co "__init__" "Pass.__init__" 405 80 4 179 .none (.ref 181) (.ref 182) (.ref 183) 412) ::
 (nat_lit 185,fo "__init__" "Pass.__init__" (inClass (top 9) 0) "handflow.parts" 278 184) ::
 (nat_lit 189,co "made" "Pass.made" 415 85 2 186 .none .none .none (.ref 188) 418) ::
 (nat_lit 190,fo "made" "Pass.made" (inClass (top 9) 1) "handflow.parts" 278 189) ::
 (nat_lit 191,Obj.mk (.type "tuple") none (Data.seq #[vs "outs" 421,vs "route" 422]) #[]) ::
 (nat_lit 192,Obj.mk (.type "dict") none (Data.dict #[de P "__module__" 400 (vs "handflow.parts" 278),de P "__firstlineno__" 404 (.int 78 403),de P "__init__" 414 (.ref 185),de P "made" 420 (.ref 190),de P "__static_attributes__" 423 (.ref 191),de P "__doc__" 424 .none] 2) #[]) ::
 (nat_lit 193,Obj.mk (.type "type") none (Data.cls (ClassData.mk (Str.ofString "Pass") [.ref 167] [.ref 193,.ref 167,.type "object"] 192 (Str.ofString "Pass") true [] [] false none false)) #[some (.ref 172),none,some (vs "Pass" 393),some (vs "Pass" 401),some (.builtin "object.__new__"),some (.bool true)]) ::
 (nat_lit 196,Obj.mk (.type "tuple") none (Data.seq #[.ref 167]) #[]) ::
 (nat_lit 208,co "__init__" "Work.__init__" 439 89 5 203 .none (.ref 205) (.ref 206) (.ref 207) 447) ::
 (nat_lit 209,fo "__init__" "Work.__init__" (inClass (top 10) 0) "handflow.parts" 278 208) ::
 (nat_lit 215,co "made" "Work.made" 450 95 2 210 .none (.ref 212) (.ref 213) (.ref 214) 457) ::
 (nat_lit 216,fo "made" "Work.made" (inClass (top 10) 1) "handflow.parts" 278 215) ::
 (nat_lit 217,Obj.mk (.type "tuple") none (Data.seq #[vs "out" 460,vs "sides" 461,vs "sign" 462]) #[]) ::
 (nat_lit 218,Obj.mk (.type "dict") none (Data.dict #[de P "__module__" 434 (vs "handflow.parts" 278),de P "__firstlineno__" 438 (.int 87 437),de P "__init__" 449 (.ref 209),de P "made" 459 (.ref 216),de P "__static_attributes__" 463 (.ref 217),de P "__doc__" 464 .none] 2) #[]) ::
 (nat_lit 219,Obj.mk (.type "type") none (Data.cls (ClassData.mk (Str.ofString "Work") [.ref 167] [.ref 219,.ref 167,.type "object"] 218 (Str.ofString "Work") true [] [] false none false)) #[some (.ref 196),none,some (vs "Work" 427),some (vs "Work" 435),some (.builtin "object.__new__"),some (.bool true)]) ::
 (nat_lit 222,Obj.mk (.type "tuple") none (Data.seq #[.ref 167]) #[]) ::
 (nat_lit 234,co "__init__" "Choose.__init__" 479 101 6 229 .none (.ref 231) (.ref 232) (.ref 233) 488) ::
 (nat_lit 235,fo "__init__" "Choose.__init__" (inClass (top 11) 0) "handflow.parts" 278 234) ::
 (nat_lit 241,co "made" "Choose.made" 491 108 2 236 .none (.ref 238) (.ref 239) (.ref 240) 496) ::
 (nat_lit 242,fo "made" "Choose.made" (inClass (top 11) 1) "handflow.parts" 278 241) ::
 (nat_lit 243,Obj.mk (.type "tuple") none (Data.seq #[vs "noughts" 499,vs "ones" 500,vs "told" 501,vs "which" 502]) #[]) ::
 (nat_lit 244,Obj.mk (.type "dict") none (Data.dict #[de P "__module__" 474 (vs "handflow.parts" 278),de P "__firstlineno__" 478 (.int 99 477),de P "__init__" 490 (.ref 235),de P "made" 498 (.ref 242),de P "__static_attributes__" 503 (.ref 243),de P "__doc__" 504 .none] 2) #[]) ::
 (nat_lit 245,Obj.mk (.type "type") none (Data.cls (ClassData.mk (Str.ofString "Choose") [.ref 167] [.ref 245,.ref 167,.type "object"] 244 (Str.ofString "Choose") true [] [] false none false)) #[some (.ref 222),none,some (vs "Choose" 467),some (vs "Choose" 475),some (.builtin "object.__new__"),some (.bool true)]) ::
 (nat_lit 248,Obj.mk (.type "tuple") none (Data.seq #[.ref 167]) #[]) ::
 (nat_lit 260,co "__init__" "Merge.__init__" 519 114 5 255 .none (.ref 257) (.ref 258) (.ref 259) 527) ::
 (nat_lit 261,fo "__init__" "Merge.__init__" (inClass (top 12) 0) "handflow.parts" 278 260) ::
 (nat_lit 267,co "wants" "Merge.wants" 530 120 2 262 .none (.ref 264) (.ref 265) (.ref 266) 536) ::
 (nat_lit 268,fo "wants" "Merge.wants" (inClass (top 12) 1) "handflow.parts" 278 267) ::
 (nat_lit 274,co "made" "Merge.made" 539 126 2 269 .none (.ref 271) (.ref 272) (.ref 273) 544) ::
 (nat_lit 275,fo "made" "Merge.made" (inClass (top 12) 2) "handflow.parts" 278 274) ::
 (nat_lit 276,Obj.mk (.type "tuple") none (Data.seq #[vs "noughts" 547,vs "ones" 548,vs "outs" 549]) #[]) ::
 (nat_lit 277,Obj.mk (.type "dict") none (Data.dict #[de P "__module__" 514 (vs "handflow.parts" 278),de P "__firstlineno__" 518 (.int 112 517),de P "__init__" 529 (.ref 261),de P "wants" 538 (.ref 268),de P "made" 546 (.ref 275),de P "__static_attributes__" 550 (.ref 276),de P "__doc__" 551 .none] 2) #[]) ::
 (nat_lit 278,Obj.mk (.type "type") none (Data.cls (ClassData.mk (Str.ofString "Merge") [.ref 167] [.ref 278,.ref 167,.type "object"] 277 (Str.ofString "Merge") true [] [] false none false)) #[some (.ref 248),none,some (vs "Merge" 507),some (vs "Merge" 515),some (.builtin "object.__new__"),some (.bool true)]) ::
 (nat_lit 286,co "on_side" "on_side" 554 128 2 281 .none (.ref 283) (.ref 284) (.ref 285) 559) ::
 (nat_lit 287,fo "on_side" "on_side" (top 13) "handflow.parts" 278 286) ::
 (nat_lit 293,co "part_of" "part_of" 562 130 1 288 .none (.ref 290) (.ref 291) (.ref 292) 567) ::
 (nat_lit 294,fo "part_of" "part_of" (top 14) "handflow.parts" 278 293) ::
 (nat_lit 305,co "__init__" "Play.__init__" 584 142 5 302 .none .none .none (.ref 304) 587) ::
 (nat_lit 306,fo "__init__" "Play.__init__" (inClass (top 16) 0) "handflow.player" 570 305) ::
 (nat_lit 312,co "to_its_end" "Play.to_its_end" 590 155 1 307 .none (.ref 309) (.ref 310) (.ref 311) 597) ::
 (nat_lit 313,fo "to_its_end" "Play.to_its_end" (inClass (top 16) 1) "handflow.player" 570 312) ::
 (nat_lit 319,co "give" "Play.give" 600 167 3 314 .none (.ref 316) (.ref 317) (.ref 318) 609) ::
 (nat_lit 320,fo "give" "Play.give" (inClass (top 16) 2) "handflow.player" 570 319) ::
 (nat_lit 324,co "take" "Play.take" 612 180 3 321 .none .none .none (.ref 323) 615) ::
 (nat_lit 325,fo "take" "Play.take" (inClass (top 16) 3) "handflow.player" 570 324) ::
 (nat_lit 331,co "await_turn" "Play.await_turn" 618 199 3 326 .none (.ref 328) (.ref 329) (.ref 330) 624) ::
 (nat_lit 332,fo "await_turn" "Play.await_turn" (inClass (top 16) 4) "handflow.player" 570 331) ::
 (nat_lit 338,co "rest_of" "Play.rest_of" 627 203 2 333 .none (.ref 335) (.ref 336) (.ref 337) 633) ::
 (nat_lit 339,fo "rest_of" "Play.rest_of" (inClass (top 16) 5) "handflow.player" 570 338) ::
 (nat_lit 340,Obj.mk (.type "tuple") none (Data.seq #[vs "doers" 636,vs "givers" 637,vs "held" 638,vs "log" 639,vs "pace" 640,vs "spare" 641,vs "takers" 642,vs "takings" 643,vs "without_room" 644,vs "without_thing" 645,vs "yard" 646]) #[]) ::
 (nat_lit 341,Obj.mk (.type "dict") none (Data.dict #[de P "__module__" 579 (vs "handflow.player" 570),de P "__firstlineno__" 583 (.int 140 582),de P "__init__" 589 (.ref 306),de P "to_its_end" 599 (.ref 313),de P "give" 611 (.ref 320),de P "take" 617 (.ref 325),de P "await_turn" 626 (.ref 332),de P "rest_of" 635 (.ref 339),de P "__static_attributes__" 647 (.ref 340),de P "__dict__" 649 (.ref 343),de P "__weakref__" 651 (.ref 344),de P "__doc__" 652 .none] 4) #[]) ::
 (nat_lit 342,Obj.mk (.type "type") none (Data.cls (ClassData.mk (Str.ofString "Play") [.type "object"] [.ref 342,.type "object"] 341 (Str.ofString "Play") true [] [] false none false)) #[none,none,some (vs "Play" 572),some (vs "Play" 580),some (.builtin "object.__new__"),some (.bool true)]) ::
 (nat_lit 343,Obj.mk (.type "getset_descriptor") none (Data.fields #[vs "__dict__" 648,.ref 342,.builtin "function.__dict__",.builtin "function.__dict__#set"]) #[]) ::
 (nat_lit 344,Obj.mk (.type "getset_descriptor") none (Data.fields #[vs "__weakref__" 650,.ref 342,.builtin "ExceptionGroup.__weakref__",.none]) #[]) ::
 (nat_lit 347,Obj.mk (.type "tuple") none (Data.seq #[.none,.int 5000 655]) #[]) ::
 (nat_lit 353,co "play" "play" 656 208 4 348 .none (.ref 350) (.ref 351) (.ref 352) 665) ::
 (nat_lit 354,Obj.mk (.type "function") none (.func (PySem.W.fnOf "play" "play" (cr (top 17)) (c8 (top 17)) (aj (top 17)) (.ref 347) .none .none (vs "handflow.player" 570) none (.ref 353) .none)) #[]) ::
 (nat_lit 358,co "history" "history" 670 213 3 355 .none .none .none (.ref 357) 673) ::
 (nat_lit 359,fo "history" "history" (top 19) "handflow.history" 668 358) ::
 (nat_lit 365,co "_law_cell" "_law_cell" 678 220 2 360 .none (.ref 362) (.ref 363) (.ref 364) 683) ::
 (nat_lit 366,fo "_law_cell" "_law_cell" (top 21) "law_handflow_k43_chain" 676 365) ::
 (nat_lit 372,co "_law_mixed" "_law_mixed" 686 224 2 367 .none (.ref 369) (.ref 370) (.ref 371) 692) ::
 (nat_lit 373,fo "_law_mixed" "_law_mixed" (top 22) "law_handflow_k43_chain" 676 372) ::
 (nat_lit 379,co "_law_number" "_law_number" 695 227 2 374 .none (.ref 376) (.ref 377) (.ref 378) 701) ::
 (nat_lit 380,fo "_law_number" "_law_number" (top 23) "law_handflow_k43_chain" 676 379) ::
 (nat_lit 384,co "_law_firsts" "_law_firsts" 704 236 2 381 .none .none .none (.ref 383) 707) ::
 (nat_lit 385,fo "_law_firsts" "_law_firsts" (top 24) "law_handflow_k43_chain" 676 384) ::
 (nat_lit 391,co "_law_lengths" "_law_lengths" 710 242 3 386 .none (.ref 388) (.ref 389) (.ref 390) 719) ::
 (nat_lit 392,fo "_law_lengths" "_law_lengths" (top 25) "law_handflow_k43_chain" 676 391) ::
 (nat_lit 396,co "_law_pace" "_law_pace" 722 250 2 393 .none .none .none (.ref 395) 725) ::
 (nat_lit 397,fo "_law_pace" "_law_pace" (top 26) "law_handflow_k43_chain" 676 396) ::
 (nat_lit 403,co "_law_needed" "_law_needed" 728 259 1 398 .none (.ref 400) (.ref 401) (.ref 402) 734) ::
 (nat_lit 404,fo "_law_needed" "_law_needed" (top 27) "law_handflow_k43_chain" 676 403) ::
 (nat_lit 410,co "_law_come" "_law_come" 737 264 2 405 .none (.ref 407) (.ref 408) (.ref 409) 744) ::
 (nat_lit 411,fo "_law_come" "_law_come" (top 28) "law_handflow_k43_chain" 676 410) ::
 (nat_lit 417,co "_law_fit" "_law_fit" 747 269 4 412 .none (.ref 414) (.ref 415) (.ref 416) 758) ::
 (nat_lit 418,fo "_law_fit" "_law_fit" (top 29) "law_handflow_k43_chain" 676 417) ::
 (nat_lit 424,co "_law_played" "_law_played" 761 285 5 419 .none (.ref 421) (.ref 422) (.ref 423) 769) ::
 (nat_lit 425,fo "_law_played" "_law_played" (top 30) "law_handflow_k43_chain" 676 424) ::
 (nat_lit 429,co "law" "law" 772 293 1 426 .none .none .none (.ref 428) 775) ::
 (nat_lit 430,fo "law" "law" (top 31) "law_handflow_k43_chain" 676 429) ::
 []
noncomputable def hks:List Addr:=[2,3,27,28,34,35,41,42,48,49,55,56,62,63,64,65,66,67,68,76,77,83,84,95,96,102,103,109,110,116,117,123,124,130,131,135,136,137,138,139,140,141,156,157,163,164,165,166,167,168,169,172,184,185,189,190,191,192,193,196,208,209,215,216,217,218,219,222,234,235,241,242,243,244,245,248,260,261,267,268,274,275,276,277,278,286,287,293,294,305,306,312,313,319,320,324,325,331,332,338,339,340,341,342,343,344,347,353,354,358,359,365,366,372,373,379,380,384,385,391,392,396,397,403,404,410,411,417,418,424,425,429,430]
theorem hk_as:∀P,hks=(hk P).map (·.1):=λ_=>by kernel_rfl
noncomputable def vw:Program:=PySem.W.view PySem.Challenge.pw_handflow_k43_chain [1,3,4,5,7,8,9,10,11,12,13,14,16,19,21,22,23,24,25,26,27,28,29,30,31]
noncomputable def hkH:PySem.W.Hook:=PySem.W.kHook hk hks hk_as
noncomputable def xt(s:Shared):Bool:=PySem.W.xlAt vw [] s && PySem.W.recOk (PySem.W.RowW.records (PySem.W.OpenRow.toRowW (PySem.W.OpenLaw.row PySem.Challenge.rw_handflow_k43_chain))) s
noncomputable def bt(P:Params):PySem.W.BT:=(.node (PySem.W.boot_o_0 P) (.node (PySem.W.boot_o_1 P) (.node (PySem.W.boot_o_3 P) (.node (PySem.W.boot_o_7 P) .nil .nil) .nil) (.node (PySem.W.boot_o_5 P) (.node (PySem.W.boot_o_9 P) .nil .nil) .nil)) (.node (PySem.W.boot_o_2 P) (.node (PySem.W.boot_o_4 P) (.node (PySem.W.boot_o_8 P) .nil .nil) .nil) (.node (PySem.W.boot_o_6 P) (.node (PySem.W.boot_o_10 P) .nil .nil) .nil)))
theorem bt_is(P:Params):PySem.W.absHeap (bt P) 11 {}=PySem.W.boot_heap P:=by kernel_rfl
noncomputable def bs(P:Params)(os:OsState):PySem.W.SharedT:=⟨bt P,11,{},#[],PySem.W.boot_drawn,PySem.W.boot_toks,os⟩
theorem bs_is(P:Params)(os:OsState):(bs P os).abs=⟨PySem.W.boot_heap P,#[],PySem.W.boot_drawn,PySem.W.boot_toks,os⟩:=by
 unfold bs PySem.W.SharedT.abs;rw[bt_is]
def goT(p:Program)(w:World)(A:Option Value):Nat->PySem.W.SharedT->Thread->Option PySem.W.SharedT
 |0,_,_=>none
 |m+1,x,y=>match PySem.W.through y with
  |true=>some x
  |false=>match PySem.W.stepOk 11 A y with
   |false=>none
   |true=>match PySem.W.stepT (denote PySem.treeTable) p w x y with
    |none=>none
    |some (x',y')=>goT p w A m x' y'
noncomputable abbrev annB(w:World):Option Value:=(PySem.W.boot_heap w.params).nsMap mainGlobals "__annotations__"
def EndsT(p q:Program)(loose:List Str)(Xt:Shared->Bool){α:Type}(Yf:Shared->α)(Ya:World->α)(N:Nat)(w:World):Prop:=
 ∀os:OsState,(goT p w (annB w) N (bs w.params os) (PySem.W.topStub p)).map (λs=>(PySem.W.staticsOk (PySem.importedModules p.main.body) (PySem.W.boot_heap w.params) s.abs.heap && PySem.W.namesBound p s.abs.heap && PySem.W.gensDone s.abs && PySem.W.laidKept (PySem.W.boot_heap w.params) s.abs.heap,PySem.W.openSeen q loose (PySem.importedModules p.main.body) Xt true s.abs,Yf s.abs))=some (true,PySem.W.openGood q loose,Ya w)
set_option maxHeartbeats 0 in
theorem leftF:∀w:World,EndsT PySem.Challenge.pw_handflow_k43_chain vw [("play":Str)] xt hkH.obs hkH.val 6480 w:=λw os=>by kernel_rfl
end K43
namespace L2
open PySem PySem.Spec PyProof.Rows
abbrev Key:=Sum Int Str
def eD:Key->Value->Bool
 |.inl k,v=>Value.isInt k v
 |.inr x,v=>Value.isStrOf x v
def xx(w:World):Key->Int
 |.inl k=>hashInt k
 |.inr x=>hashStr w x
theorem d6:∀{k:Key}{v:Value},eD k v=true->(∃i t,k=Sum.inl i/\v=Value.int i t)\/(∃x t,k=Sum.inr x/\v=Value.str x t)
 |.inl i,v,h=>by
  obtain⟨t,e⟩:=Value.isInt_shape (k:=i) (v:=v) h;exact .inl ⟨i,t,U,e⟩
 |.inr x,v,h=>by
  obtain⟨t,e⟩:=Value.isStrOf_shape (x:=x) (v:=v) h;exact .inr ⟨x,t,U,e⟩
theorem xw(i:Int)(t:Tok):eD (.inl i) (.int i t)=true:=by simp[eD,Value.isInt]
theorem xu(x:Str)(t:Tok):eD (.inr x) (.str x t)=true:=by simp[eD,Value.isStrOf]
theorem xr(a b:Int):decide ((Sum.inl a:Key)=Sum.inl b)=(a == b):=by
 by_cases e:a=b
 ·subst e;simp
 ·have h:¬ (Sum.inl a:Key)=Sum.inl b:=λq=>e (Sum.inl.inj q);rw[Q0 h];exact(beq_eq_false_iff_ne.mpr e).symm
theorem xm(a b:Str):decide ((Sum.inr a:Key)=Sum.inr b)=decide (a=b):=by
 by_cases e:a=b
 ·subst e;simp
 ·have h:¬ (Sum.inr a:Key)=Sum.inr b:=λq=>e (Sum.inr.inj q);rw[Q0 h,Q0 e]
theorem xq(a:Int)(b:Str):decide ((Sum.inl a:Key)=Sum.inr b)=false:=Q0 (λq=>nomatch q)
theorem xo(a:Str)(b:Int):decide ((Sum.inr a:Key)=Sum.inl b)=false:=Q0 (λq=>nomatch q)
def bU(prog:Program)(w:World):PySem.KeyKind prog w Key where
 is:=eD
 hash:=xx w
 inj:=λv a b ha hb=>by
  rcases d6 ha with⟨i,t,rfl,rfl⟩|⟨x,t,rfl,rfl⟩
  ·rcases d6 hb with⟨j,u,rfl,e⟩|⟨y,u,rfl,e⟩
   ·injection e with e1 _;rw[e1]
   ·exact nomatch e
  ·rcases d6 hb with⟨j,u,rfl,e⟩|⟨y,u,rfl,e⟩
   ·exact nomatch e
   ·injection e with e1 _;rw[e1]
 byValue:=λk v h=>by
  rcases d6 h with⟨i,t,rfl,rfl⟩|⟨x,t,rfl,rfl⟩<;>rfl
 pyHash:=λhv h=>by
  rcases d6 hv with⟨i,t,rfl,rfl⟩|⟨x,t,rfl,rfl⟩
  ·exact wpAny_pyHash_int h
  ·exact wpAny_pyHash_str h
 eqBool:=λhu hv h=>by
  rcases d6 hu with⟨i,t,rfl,rfl⟩|⟨x,t,rfl,rfl⟩
  ·rcases d6 hv with⟨j,u,rfl,rfl⟩|⟨y,u,rfl,rfl⟩
   ·rw[xr]at h;exact wpAny_eqBool_int h
   ·rw[xq]at h;exact SeqAt.EqAt.int_str i t y u _ _ _ _ h
  ·rcases d6 hv with⟨j,u,rfl,rfl⟩|⟨y,u,rfl,rfl⟩
   ·rw[xo]at h;exact SeqAt.EqAt.str_int x t j u _ _ _ _ h
   ·rw[xm]at h;exact wpAny_eqBool_str h
 «strs»:=λk x t v h=>by
  rcases d6 h with⟨i,u,rfl,e⟩|⟨y,u,rfl,e⟩
  ·exact nomatch e
  ·injection e with e1 _;subst e1;cases v<;>rfl
theorem wJ(prog:Program)(w:World)(i:Int)(t:Tok):(bU prog w).is (.inl i) (.int i t)=true:=xw i t
theorem wI(prog:Program)(w:World)(x:Str)(t:Tok):(bU prog w).is (.inr x) (.str x t)=true:=xu x t
inductive V where
 |non|bl (b:Bool)|int (i:Int)|str (x:Str)|byt (b:Array UInt8)|flt (b:UInt64)|ref (a:Addr)|ty (n:String)
 deriving DecidableEq
def au:V->Value->Prop
 |.non,u=>u=Value.none
 |.bl b,u=>u=Value.bool b
 |.int i,u=>∃t,u=Value.int i t
 |.str x,u=>∃t,u=Value.str x t
 |.byt b,u=>∃t,u=Value.bytes b t
 |.flt b,u=>∃t,u=Value.float b t
 |.ref a,u=>u=Value.ref a
 |.ty n,u=>u=Value.type n
abbrev aq:List V->List Value->Prop:=Paired au
theorem aq.length{xs:List V}{us:List Value}(r:aq xs us):xs.length=us.length:=Paired.length r
theorem aq.get:∀{xs:List V}{us:List Value}{i:Nat}{x:V},aq xs us->xs[i]?=some x->∃u,us[i]?=some u/\au x u
 |_,_,_,_,.nil,e=>by simp at e
 |_,_,0,_,.cons r _,e=>by simp at e;subst e;exact⟨_,U,r⟩
 |_,_,i+1,x,.cons _ t,e=>by
  obtain⟨u,h1,h2⟩:=aq.get (i:=i) (x:=x) t (by simpa using e);exact⟨u,by simpa using h1,h2⟩
theorem aq.set{x:V}{u:Value}(r:au x u):∀{xs:List V}{us:List Value}(i:Nat),aq xs us->aq (xs.set i x) (us.set i u)
 |_,_,_,.nil=>.nil
 |_,_,0,.cons _ t=>.cons r t
 |_,_,i+1,.cons q t=>.cons q (aq.set r i t)
theorem aq.append:∀{xs ys:List V}{us ws:List Value},aq xs us->aq ys ws->aq (xs++ys) (us++ws)
 |_,_,_,_,.nil,s=>s
 |_,_,_,_,.cons r t,s=>.cons r (aq.append t s)
theorem aq.take:∀{xs:List V}{us:List Value}(n:Nat),aq xs us->aq (xs.take n) (us.take n)
 |_,_,0,_=>.nil
 |_,_,_+1,.nil=>.nil
 |_,_,n+1,.cons r t=>.cons r (aq.take n t)
theorem aq.drop:∀{xs:List V}{us:List Value}(n:Nat),aq xs us->aq (xs.drop n) (us.drop n)
 |_,_,0,r=>r
 |_,_,_+1,.nil=>.nil
 |_,_,n+1,.cons _ t=>aq.drop n t
def bV:Option V->Option Value->Prop
 |some v,some u=>au v u
 |none,none=>True
 |_,_=>False
def KV{κ:Type}:List (κ×V)->List (κ×Value)->Prop:=Paired λ(p:κ×V)(q:κ×Value)=>p.1=q.1/\au p.2 q.2
def kV:Key->V
 |.inl i=>.int i
 |.inr x=>.str x
inductive HO where
 |lst (xs:List V)
 |tup (xs:List V)
 |dK (kvs:List (Key×V))|dT (kvs:List (List Key×V))
 |set (S:Int->Bool) (n:Nat)
 |ins (C dx:Addr) (fs:List (Str×V))
 |own (x:Addr)
 |xd (fs:List (Str×V))
 |met (f x:Addr)
 |rng (lo hi:Int)
 |frz (o:Obj) (u:HO)
 |tbl (ps:Array Value)
 |ext (φ:Heap->Prop)
abbrev Hp:=Addr->Option HO
def upd(H:Hp)(a:Addr)(o:HO):Hp:=λb=>if b=a then some o else H b
theorem ae{H:Hp}{a:Addr}{o:HO}:upd H a o a=some o:=by unfold upd;rw[qY U]
theorem ag{H:Hp}{a b:Addr}{o:HO}(h:b≠a):upd H a o b=H b:=by unfold upd;rw[qX h]
theorem c5{H:Hp}{a b:Addr}{o:HO}(h:H a=some o)(h':H b=none):a≠b:=by
 intro e;subst e;rw[h]at h';cases h'
section
variable (P:Program) (w:World)
def bz(H:Hp)(h:Heap)(a:Addr):HO->Prop
 |.lst xs=>xs.length<=sizeLine/\∃(its:List Value)(n:Nat),aq xs its/\h.get? a=some { cls:=.type "list",data:=.seq its.toArray n }
 |.tup xs=>xs.length<=sizeLine/\∃its:List Value,aq xs its/\IsTup h a its.toArray
 |.dK kvs=>kvs.length<=sizeLine/\(a == sysModules)=false/\∃vs,KV kvs vs/\h.DictOf (bU P w) a vs
 |.dT kvs=>kvs.length<=sizeLine/\(a == sysModules)=false/\∃xs:List (List Key×Addr×Value),
  Paired (λ(p:List Key×V)(q:List Key×Addr×Value)=>p.1=q.1/\H q.2.1=some (.tup (p.1.map kV))/\au p.2 q.2.2) kvs xs /\
  ∃o es ep,h.get? a=some o/\o.ExactDict/\o.data=.dict es ep/\es.toList=xs.map (entryOfKey (tupleKind (bU P w)))/\(xs.map (·.1)).Nodup
 |.set S n=>h.SetOf (intKind P w) a S n
 |.ins C dx fs=>H dx=some (.own a)/\fs.length<=1000/\dx≠a/\h.get? a=some (PySem.W.instObj C dx) /\
  ∃mA,h.Ns1 dx mA/\(∀f,bV (fs.lookup f) (mA f))/\PySem.Within mA (fs.map (·.1))
 |.own _=>∃o,h.get? a=some o
 |.xd fs=>∃mA,h.Ns1 a mA/\∀f,bV (fs.lookup f) (mA f)
 |.rng lo hi=>∃t u v,h.get? a=some { cls:=.type "range",data:=.fields #[.int lo t,.int hi u,.int 1 v] }
 |.frz o u=>h.get? a=some o/\bz H h a u
 |.tbl ps=>h.get? a=some { cls:=.none,data:=.fields ps }
 |.met f x=>h.get? a=some (PySem.W.methodObj (.ref f) (.ref x))
 |.ext φ=>φ h/\(∃o,h.get? a=some o)/\∀h1 h2:Heap,φ h1->(∀o,h1.get? a=some o->h2.get? a=some o)->φ h2
def HOk(H:Hp)(h:Heap):Prop:=∀a o,H a=some o->bz P w H h a o
end
section
variable {P:Program}{w:World}{H H':Hp}{h h':Heap}{a:Addr}{o:HO}
theorem bz.lt(x:bz P w H h a o):a<h.objs.size:=by
 cases o with
 |lst xs=>obtain⟨_,_,_,_,e⟩:=x;exact qm e
 |tup xs=>obtain⟨_,_,_,p⟩:=x;exact p.lt
 |dK kvs=>obtain⟨_,_,_,_,o,_,_,e,_⟩:=x;exact qm e
 |dT kvs=>obtain⟨_,_,_,_,o,_,_,e,_⟩:=x;exact qm e
 |set S n=>obtain⟨o,_,_,_,e,_⟩:=x;exact qm e
 |ins C dx fs=>obtain⟨_,_,_,e,_⟩:=x;exact qm e
 |own y=>obtain⟨_,e⟩:=x;exact qm e
 |xd fs=>obtain⟨_,⟨_,_,_,e,_⟩,_⟩:=x;exact qm e
 |rng lo hi=>obtain⟨_,_,_,e⟩:=x;exact qm e
 |frz ob u=>obtain⟨e,_⟩:=x;exact qm e
 |tbl ps=>exact qm (show h.get? a=some _ from x)
 |met f y=>exact qm (show h.get? a=some _ from x)
 |ext φ=>obtain⟨_,⟨_,e⟩,_⟩:=x;exact qm e
theorem Paired.mapP{α β:Type}{F G:α->β->Prop}:∀{l₁:List α}{l₂:List β},Paired F l₁ l₂->(∀a b,F a b->G a b)->Paired G l₁ l₂
 |_,_,.nil,_=>.nil
 |_,_,.cons r t,f=>.cons (f _ _ r) (Paired.mapP t f)
theorem bz.stay(x:bz P w H h a o)(k:∀b u,(b=a\/H b=some (.own a))->h.get? b=some u->h'.get? b=some u)
 (ho:∀b,H b=some (.own a)->H' b=some (.own a)) (ht:∀b xs,H b=some (.tup xs)->H' b=some (.tup xs)):bz P w H' h' a o:=by
 induction o with
 |lst xs=>obtain⟨z,its,n,r,e⟩:=x;exact⟨z,its,n,r,k _ _ (.inl U) e⟩
 |tup xs=>obtain⟨z,its,r,ob,e,c⟩:=x;exact⟨z,its,r,ob,k _ _ (.inl U) e,c⟩
 |dK kvs=>obtain⟨z,y,vs,r,ob,es,ep,e,c⟩:=x;exact⟨z,y,vs,r,ob,es,ep,k _ _ (.inl U) e,c⟩
 |dT kvs=>
  obtain⟨z,y,xs,r,ob,es,ep,e,c⟩:=x;exact⟨z,y,xs,Paired.mapP r λp q z=>⟨z.1,ht _ _ z.2.1,z.2.2⟩,ob,es,ep,k _ _ (.inl U) e,c⟩
 |set S n=>obtain⟨ob,es,ep,t,e,c⟩:=x;exact⟨ob,es,ep,t,k _ _ (.inl U) e,c⟩
 |ins C dx fs=>
  obtain⟨d,z,ne,e,mA,⟨od,es,ep,e2,c⟩,r⟩:=x;exact⟨ho _ d,z,ne,k _ _ (.inl U) e,mA,⟨od,es,ep,k _ _ (.inr d) e2,c⟩,r⟩
 |own y=>obtain⟨ob,e⟩:=x;exact⟨ob,k _ _ (.inl U) e⟩
 |xd fs=>obtain⟨mA,⟨od,es,ep,e,c⟩,r⟩:=x;exact⟨mA,⟨od,es,ep,k _ _ (.inl U) e,c⟩,r⟩
 |rng lo hi=>obtain⟨t,u,v,e⟩:=x;exact⟨t,u,v,k _ _ (.inl U) e⟩
 |frz ob u ih=>obtain⟨e,q⟩:=x;exact⟨k _ _ (.inl U) e,ih q⟩
 |tbl ps=>
  have e:h.get? a=some { cls:=.none,data:=.fields ps }:=x;show h'.get? a=some { cls:=.none,data:=.fields ps };exact k a _ (.inl U) e
 |met f y=>
  have e:h.get? a=some (PySem.W.methodObj (.ref f) (.ref y)):=x;show h'.get? a=some (PySem.W.methodObj (.ref f) (.ref y));exact k a _ (.inl U) e
 |ext φ=>obtain⟨p,⟨o,e⟩,st⟩:=x;exact⟨st _ _ p λo q=>k _ _ (.inl U) q,⟨o,k _ _ (.inl U) e⟩,st⟩
theorem HOk.lt(x:HOk P w H h)(e:H a=some o):a<h.objs.size:=(x a o e).lt
theorem HOk.fresh(x:HOk P w H h)(e:h.objs.size<=a):H a=none:=by
 cases q:H a with
 |none=>rfl
 |some u=>exact Q1 (qA (x.lt q) e) (Q9 _)
theorem HOk.kept(x:HOk P w H h)(k:∀b u,h.get? b=some u->h'.get? b=some u):HOk P w H h':=λa o e=>
 (x a o e).stay (λb u _ q=>k b u q) (λ_ q=>q) λ_ _ q=>q
theorem HOk.laid(x:HOk P w H h)(k:∀b u,h.get? b=some u->h'.get? b=some u)(hp:h.objs.size<=a)(new:bz P w (upd H a o) h' a o):HOk P w (upd H a o) h':=λb u e=>by
 have hn:=x.fresh hp;by_cases hb:b=a
 ·subst hb;rw[ae]at e;cases e;exact new
 ·rw[ag hb]at e;exact(x b u e).stay (λc v _ q=>k c v q) (λc q=>by rw[ag (c5 q hn)];exact q) λc xs q=>by rw[ag (c5 q hn)];exact q
end
def Rd(H:Hp)(a:Addr)(u:HO):Prop:=H a=some u\/∃o,H a=some (.frz o u)
theorem Rd.of{H:Hp}{a:Addr}{u:HO}(h:H a=some u):Rd H a u:=.inl h
theorem Rd.ok{P:Program}{w:World}{H:Hp}{h:Heap}{a:Addr}{u:HO}(r:Rd H a u)(x:HOk P w H h):bz P w H h a u:=by
 rcases r with r|⟨o,r⟩
 ·exact x a u r
 ·obtain⟨_,q⟩:=x a _ r;exact q
def Mut:Option HO->Prop
 |some (.lst _)=>True
 |some (.dK _)=>True
 |some (.dT _)=>True
 |some (.set _ _)=>True
 |some (.ins _ _ _)=>True
 |some (.ext _)=>True
 |_=>False
section
variable {P:Program}{w:World}{H:Hp}{h h':Heap}{x e:Addr}{o':HO}
theorem HOk.write(ok:HOk P w H h)(mu:Mut (H x))(he:e=x\/H e=some (.own x))(k:∀b u,b≠e->h.get? b=some u->h'.get? b=some u)(heo:∃u,h'.get? e=some u)
 (new:bz P w (upd H x o') h' x o'):HOk P w (upd H x o') h':=λb u q=>by
 have nown:∀c y,H c=some (.own y)->c≠x:=λc y r z=>by subst z;rw[r]at mu;exact mu
 have ntup:∀c xs,H c=some (.tup xs)->c≠x:=λc xs r z=>by subst z;rw[r]at mu;exact mu
 by_cases hb:b=x
 ·subst hb;rw[ae]at q;cases q;exact new
 ·rw[ag hb]at q;by_cases hbe:b=e
  ·have q':H b=some (.own x):=by
    rcases he with z|z
    ·exact Q1 (hbe.trans z) hb
    ·rw[hbe];exact z
   rw[q]at q';cases q';obtain⟨v,hv⟩:=heo;exact⟨v,by rw[hbe];exact hv⟩
  ·refine(ok b u q).stay (λc v hc r=>k c v ?_ r) (λc r=>by rw[ag (nown c b r)];exact r) λc xs r=>by rw[ag (ntup c xs r)];exact r
   rcases hc with rfl|hc
   ·exact hbe
   ·rintro rfl;rcases he with z|z
    ·exact nown c b hc z
    ·rw[hc]at z;cases z;exact hb U
end
structure Un(fs ex:List Addr)(H H':Hp)(h h':Heap):Prop where
 keep:∀b o,h.get? b=some o->H b=none->b∉fs->b∉ex->h'.get? b=some o
 slot:∀b o,h.get? b=some o->H b=none->b∈fs->b∉ex->∃sl,h'.get? b=some { o with slots:=sl }
 free:∀b o,h.get? b=some o->H b=none->b∉ex->H' b=none
 there:∀b o,h.get? b=some o->b∉ex->∃o',h'.get? b=some o'
 tups:∀b xs,H b=some (.tup xs)->H' b=some (.tup xs)
 frzs:∀b o u,H b=some (.frz o u)->H' b=some (.frz o u)
 tbls:∀b ps,H b=some (.tbl ps)->∃more,H' b=some (.tbl (ps++more))
section
variable {fs fs' ex ex':List Addr}{H H1 H2:Hp}{h h1 h2 h':Heap}{a x e:Addr}{o:HO}
theorem Un.any(u:Un fs ex H H1 h h1){b:Addr}{ob:Obj}(q:h.get? b=some ob)(n:H b=none)(hx:b∉ex):∃sl,h1.get? b=some { ob with slots:=sl }:=by
 by_cases hb:b∈fs
 ·exact u.slot b ob q n hb hx
 ·exact⟨ob.slots,u.keep b ob q n hb hx⟩
theorem Un.kept(k:∀b u,h.get? b=some u->h'.get? b=some u):Un fs ex H H h h':=
 ⟨λb ob q _ _ _=>k b ob q,λb ob q _ _ _=>⟨ob.slots,k b ob q⟩,λ_ _ _ n _=>n,λb ob q _=>⟨ob,k b ob q⟩,λ_ _ q=>q,λ_ _ _ q=>q,λ_ ps q=>⟨#[],by rw[q];simp⟩⟩
theorem Un.refl:Un fs ex H H h h:=Un.kept λ_ _ q=>q
theorem Un.laid(k:∀b u,h.get? b=some u->h'.get? b=some u)(hp:h.objs.size<=a)(hn:H a=none):Un fs ex H (upd H a o) h h' where
 keep:=λb u q _ _ _=>k b u q
 slot:=λb u q _ _ _=>⟨u.slots,k b u q⟩
 free:=λb u q n _=>by rw[ag (qE (qA (qm q) hp))];exact n
 there:=λb u q _=>⟨u,k b u q⟩
 tups:=λb xs q=>by rw[ag (c5 q hn)];exact q
 frzs:=λb u xs q=>by rw[ag (c5 q hn)];exact q
 tbls:=λb ps q=>⟨#[],by rw[ag (c5 q hn),q];simp⟩
theorem Un.write(mu:Mut (H x))(he:e=x\/H e=some (.own x))(k:∀b u,b≠e->h.get? b=some u->h'.get? b=some u)(heo:∃u,h'.get? e=some u):Un fs ex H (upd H x o) h h':=by
 have hx:∀b,H b=none->b≠x:=λb n z=>by subst z;rw[n]at mu;exact mu
 have hb:∀b,H b=none->b≠e:=λb n z=>by
  subst z;rcases he with r|r
  ·exact hx b n r
  ·rw[n]at r;cases r
 have hm:∀b u,H b=some u->¬ Mut (some u)->b≠x:=λb u q nm z=>by subst z;rw[q]at mu;exact nm mu
 refine⟨λb u q n _ _=>k b u (hb b n) q,λb u q n _ _=>⟨u.slots,k b u (hb b n) q⟩,λb u q n _=>by rw[ag (hx b n)];exact n,λb u q _=>?_,
  λb xs q=>by rw[ag (hm b _ q λz=>z)];exact q,λb u xs q=>by rw[ag (hm b _ q λz=>z)];exact q,λb ps q=>⟨#[],by rw[ag (hm b _ q λz=>z),q];simp⟩⟩
 by_cases hbe:b=e
 ·subst hbe;exact heo
 ·exact⟨u,k b u hbe q⟩
end
def trk(h:Heap)(H:Hp):List Addr:=(List.range h.objs.size).filter λa=>(H a).isSome
def dm(h:Heap)(H:Hp):Heap:=PySem.W.hideAll h (trk h H)
theorem xN(h:Heap)(H:Hp):(dm h H).objs.size=h.objs.size:=PySem.W.hideAll_size _ _
theorem xO{h:Heap}{H:Hp}{b:Addr}{o:Obj}(e:h.get? b=some o)(n:H b=none):(dm h H).get? b=some o:=
 PySem.W.hideAll_get _ e λhm=>by
  have q:(H b).isSome=true:=(List.mem_filter.mp hm).2;rw[n]at q;simp at q
theorem wB{h:Heap}{H:Hp}{b:Addr}{o:Obj}(e:(dm h H).get? b=some o):h.get? b=some o/\H b=none:=by
 have e':h.get? b=some o:=PySem.W.of_hideAll (trk h H) e;refine⟨e',?_⟩
 cases q:H b with
 |none=>rfl
 |some x=>
  have hm:b∈trk h H:=List.mem_filter.mpr ⟨List.mem_range.mpr (qm e'),by simp[q]⟩;have z:(dm h H).get? b=none:=PySem.W.hideAll_none (trk h H) hm;rw[z]at e;cases e
structure Mod(K:W.Frag)(mg:Str->Option Value)(base:Heap):Prop where
 kin:K.In base
 glob:base.Ns mainGlobals mg
 blt:∃mb,base.Ns builtinsNs mb/\∀x:Str,x≠"__name__"->mb x=bootBuiltins x
 nolimit:base.NoLimit
structure Cx where
 prog:Program
 w:World
 K:W.Frag
 mg:Str->Option Value
 base:Heap
 A:Around
 N:List Str
 s₀:Shared
 H₀:Hp
 env:Env
 outer:List Env
 stack:List Env
 ex:List Addr
 fn:Str->Bool
 calm:Bool
 pn:List (Addr×Obj)
 xe:Value->Shared->Prop
def frs(l:List Env):List Addr:=l.filterMap (·.frame)
abbrev Cx.fs(X:Cx):List Addr:=frs X.outer
def Vis(sc:Scope)(x:Str):Prop:=sc.names.lookup x=some .local\/sc.names.lookup x=some .cell\/sc.names.lookup x=some .free
def Loc(sc:Scope)(x:Str):Prop:=sc.names.lookup x=some .local\/sc.names.lookup x=some .cell
def yU(env:Env)(h:Heap)(m:Str->Option Value)(x:Str)(u:Value):Prop:=
 (env.kindOf x=some .local/\m x=some u)\/((env.kindOf x=some .cell\/env.kindOf x=some .free)/\∃c,env.cells.lookup x=some c/\h.IsCell c (some u))
structure Cx.Ok(X:Cx):Prop where
 mod:Mod X.K X.mg X.base
 kind:X.env.scope.kind=.function
 glob:X.env.globals=mainGlobals
 blt:X.env.builtins=builtinsNs
 above:X.s₀.heap.objs.size<=X.env.locals
 inj:∀x y c,X.env.cells.lookup x=some c->X.env.cells.lookup y=some c->x=y
 has:∀x,(X.env.kindOf x=some .cell\/X.env.kindOf x=some .free)->∃c,X.env.cells.lookup x=some c
 cab:∀x c,X.fn x=true->X.env.cells.lookup x=some c->X.s₀.heap.objs.size<=c
 hd:X.calm=true->X.A.handled=none
 frames:X.A.frames=some X.stack
 stk:X.stack=X.outer\/(X.stack=X.env::X.outer/\X.env.frame=some X.env.locals)
 exf:∀b∈X.ex,b≠X.env.locals/\∀x c,X.env.cells.lookup x=some c->c≠b
 bs:∀b o,X.base.get? b=some o->X.s₀.heap.get? b=some o/\X.H₀ b=none
 bsz:X.base.objs.size<=X.s₀.heap.objs.size
 noex:∀b o,X.base.get? b=some o->b∉X.ex
 exfs:∀b∈X.ex,b∉X.fs
 funs:X.s₀.heap.FunFrames X.base X.outer
 frf:∀b∈X.fs,X.H₀ b=none
structure Inv(X:Cx)(pins:List (Addr×Obj))(σ:List (Option V))(H:Hp)(s:Shared):Prop where
 ok:X.Ok
 os:s.os=X.s₀.os
 bare:AllBare s.gens
 base:Un X.fs X.ex X.H₀ H X.s₀.heap s.heap
 loc:∃m,s.heap.Ns X.env.locals m/\∀(i:Nat)(x:Str)(v:V),X.N[i]?=some x->σ[i]?=some (some v)->Vis X.env.scope x->∃u,au v u/\yU X.env s.heap m x u
 cell:∀x c,X.env.cells.lookup x=some c->∃v,s.heap.IsCell c v
 free:H X.env.locals=none
 freeC:∀x c,X.env.cells.lookup x=some c->H c=none
 pin:∀p∈X.pn++pins,s.heap.get? p.1=some p.2/\H p.1=none/\p.1≠X.env.locals/\p.1∉X.fs/\∀v,p.2.data≠.cell v
 hok:HOk X.prog X.w H s.heap
 len:σ.length=X.N.length
section
variable {X:Cx}{pins:List (Addr×Obj)}{σ:List (Option V)}{H H':Hp}{s:Shared}{h':Heap}
theorem Cx.Ok.nofr(ok:X.Ok){b:Addr}{o:Obj}(e:X.base.get? b=some o):b∉X.fs:=λhb=>by
 have:=(ok.funs.mem hb).1;rw[e]at this;cases this
theorem Inv.bs(I:Inv X pins σ H s):∀b o,X.base.get? b=some o->s.heap.get? b=some o/\H b=none:=λb o e=>
 ⟨I.base.keep b o (I.ok.bs b o e).1 (I.ok.bs b o e).2 (I.ok.nofr e) (I.ok.noex b o e),I.base.free b o (I.ok.bs b o e).1 (I.ok.bs b o e).2 (I.ok.noex b o e)⟩
theorem Inv.bk(I:Inv X pins σ H s):∀b o,X.base.get? b=some o->s.heap.get? b=some o:=λb o e=>(I.bs b o e).1
theorem Inv.mod(I:Inv X pins σ H s):Mod X.K X.mg X.base:=I.ok.mod
theorem Inv.kIn(I:Inv X pins σ H s):X.K.In s.heap:=I.ok.mod.kin.keeps I.bk
theorem Inv.lt(I:Inv X pins σ H s):X.env.locals<s.heap.objs.size:=let ⟨_,hn,_⟩:=I.loc;hn.lt
theorem Inv.sz(I:Inv X pins σ H s):X.s₀.heap.objs.size<=s.heap.objs.size:=qw I.ok.above (Nat.le_of_lt I.lt)
theorem Inv.nofs(I:Inv X pins σ H s){a:Addr}(h:s.heap.objs.size<=a):a∉X.fs:=λhb=>by
 obtain⟨_,o,ho,_⟩:=I.ok.funs.mem hb;exact Q1 (qA (qm ho) (qw I.sz h)) (Q9 _)
theorem Inv.cne(I:Inv X pins σ H s):∀x c,X.env.cells.lookup x=some c->c≠X.env.locals:=λx c e z=>by
 obtain⟨v,o,ho,hd⟩:=I.cell x c e;obtain⟨m,⟨o',es,ep,ho',hd',_⟩,_⟩:=I.loc;rw[z,ho']at ho;cases ho;rw[hd']at hd;cases hd
theorem Inv.funs(I:Inv X pins σ H s):s.heap.FunFrames X.base X.outer:=by
 have all:∀(l:List Env),(∀b∈frs l,b∈X.fs)->X.s₀.heap.FunFrames X.base l->s.heap.FunFrames X.base l:=by
  intro l
  induction l with
  |nil=>intro _ _;trivial
  |cons env r ih=>
   intro hs hl;obtain⟨hk,⟨L,o,hf,hn,ho,hd⟩,hr⟩:=hl;have hL:L∈X.fs:=hs L (by unfold frs;rw[List.filterMap_cons,hf];exact qj);obtain⟨sl,e⟩:=I.base.slot L o ho (I.ok.frf L hL) hL λz=>I.ok.exfs L z hL;exact⟨hk,⟨L,_,hf,hn,e,hd⟩,ih (λb hb=>hs b (by unfold frs;rw[List.filterMap_cons,hf];exact qi _ hb)) hr⟩
 exact all X.outer (λ_ hb=>hb) I.ok.funs
theorem Inv.stack(I:Inv X pins σ H s):s.heap.FunFrames X.base X.stack:=by
 rcases I.ok.stk with e|⟨e,hf⟩
 ·rw[e];exact I.funs
 ·rw[e];obtain⟨m,hn,_⟩:=I.loc;refine .cons (by rw[I.ok.kind];decide) hf hn ?_ I.funs;exact Heap.get?_none_of_le (qw I.ok.bsz I.ok.above)
theorem Inv.stkSub(I:Inv X pins σ H s):∀b∈frs X.stack,b∈X.env.locals::X.fs:=λb hb=>by
 rcases I.ok.stk with e|⟨e,hf⟩
 ·rw[e]at hb;exact qi _ hb
 ·rw[e]at hb;unfold frs at hb;rw[List.filterMap_cons,hf]at hb;exact hb
theorem Inv.stkFree(I:Inv X pins σ H s):∀b∈frs X.stack,H b=none:=λb hb=>by
 rcases qr.mp (I.stkSub b hb)with e|hb
 ·rw[e];exact I.free
 ·obtain⟨_,o,ho,_⟩:=I.ok.funs.mem hb;exact I.base.free b o ho (I.ok.frf b hb) λz=>I.ok.exfs b z hb
theorem Inv.step{g':Array GenState}{t':Nat}{d':Drawn}{ch:List Addr}(I:Inv X pins σ H s)
 (hch:∀b∈ch,(b∈X.ex\/X.s₀.heap.objs.size<=b)/\b≠X.env.locals/\(∀x c,X.env.cells.lookup x=some c->c≠b)/\∀p∈X.pn++pins,p.1≠b)
 (keep:∀b o,b≠X.env.locals->b∉X.fs->b∉ch->s.heap.get? b=some o->H b=none->h'.get? b=some o)
 (slot:∀b o,b≠X.env.locals->b∈X.fs->b∉ch->s.heap.get? b=some o->H b=none->∃sl,h'.get? b=some { o with slots:=sl }) (free:∀b o,b∉ch->s.heap.get? b=some o->H b=none->H' b=none)
 (there:∀b o,b∉ch->s.heap.get? b=some o->∃o',h'.get? b=some o')
 (tups:∀b xs,H b=some (.tup xs)->H' b=some (.tup xs)) (frzs:∀b o u,H b=some (.frz o u)->H' b=some (.frz o u)) (tbls:∀b ps,H b=some (.tbl ps)->∃more,H' b=some (.tbl (ps++more)))
 (ns:∀m,s.heap.Ns X.env.locals m->h'.Ns X.env.locals m) (hok:HOk X.prog X.w H' h') (hg:AllBare g'):
 Inv X pins σ H' { s with heap:=h',gens:=g',drawn:=d',toks:=t' }:=by
 have neL:∀b o,X.s₀.heap.get? b=some o->b≠X.env.locals:=λb o e=>qE (qA (qm e) I.ok.above)
 have neC:∀b o,X.s₀.heap.get? b=some o->b∉X.ex->b∉ch:=λb o e hx hb=>by
  rcases(hch b hb).1 with z|z
  ·exact hx z
  ·exact Q1 (qA (qm e) z) (Q9 _)
 have cellK:∀x c,X.env.cells.lookup x=some c->∀v,s.heap.IsCell c v->h'.IsCell c v:=λx c e v ⟨o,ho,hd⟩=>by
  have nch:c∉ch:=λz=>(hch c z).2.2.1 x c e U;by_cases hc:c∈X.fs
  ·obtain⟨sl,q⟩:=slot c o (I.cne x c e) hc nch ho (I.freeC x c e);exact⟨_,q,hd⟩
  ·exact⟨o,keep c o (I.cne x c e) hc nch ho (I.freeC x c e),hd⟩
 refine⟨I.ok,I.os,hg,⟨λb o e n hb hx=>?_,λb o e n hb hx=>?_,λb o e n hx=>?_,λb o e hx=>?_,λb xs e=>tups b xs (I.base.tups b xs e),λb o xs e=>frzs b o xs (I.base.frzs b o xs e),λb ps e=>?_⟩,?_,λx c e=>?_,?_,λx c e=>?_,λp hp=>?_,hok,I.len⟩
 ·exact keep b o (neL b o e) hb (neC b o e hx) (I.base.keep b o e n hb hx) (I.base.free b o e n hx)
 ·obtain⟨sl,e1⟩:=I.base.slot b o e n hb hx;obtain⟨sl',e2⟩:=slot b _ (neL b o e) hb (neC b o e hx) e1 (I.base.free b o e n hx);exact⟨sl',e2⟩
 ·obtain⟨o',e1⟩:=I.base.there b o e hx;exact free b o' (neC b o e hx) e1 (I.base.free b o e n hx)
 ·obtain⟨o',e1⟩:=I.base.there b o e hx;exact there b o' (neC b o e hx) e1
 ·obtain⟨m1,e1⟩:=I.base.tbls b ps e;obtain⟨m2,e2⟩:=tbls b _ e1;exact⟨m1++m2,by rw[e2,Array.append_assoc]⟩
 ·obtain⟨m,hn,hl⟩:=I.loc;refine⟨m,ns m hn,λi x v e1 e2 e3=>?_⟩;obtain⟨u,r,l⟩:=hl i x v e1 e2 e3;refine⟨u,r,?_⟩;rcases l with l|⟨k,c,e,z⟩
  ·exact .inl l
  ·exact .inr ⟨k,c,e,cellK x c e _ z⟩
 ·obtain⟨v,z⟩:=I.cell x c e;exact⟨v,cellK x c e v z⟩
 ·obtain⟨m,⟨o,_,_,ho,_⟩,_⟩:=I.loc;exact free _ o (λz=>(hch _ z).2.1 U) ho I.free
 ·obtain⟨v,o,ho,hd⟩:=I.cell x c e;exact free c o (λz=>(hch c z).2.2.1 x c e U) ho (I.freeC x c e)
 ·obtain⟨e,n,ne,nf,d⟩:=I.pin p hp;have nch:p.1∉ch:=λz=>(hch p.1 z).2.2.2 p hp U;exact⟨keep p.1 p.2 ne nf nch e n,free p.1 p.2 nch e n,ne,nf,d⟩
theorem Inv.un{t':Nat}(I:Inv X pins σ H s)(u:Un X.fs [] H H' s.heap h')(hok:HOk X.prog X.w H' h'):Inv X pins σ H' { s with heap:=h',toks:=t' }:=by
 obtain⟨m,⟨o,es,ep,ho,r⟩,_⟩:=id I.loc;obtain⟨sl,hL⟩:=u.any ho I.free (by simp)
 exact I.step (g':=s.gens) (d':=s.drawn) (ch:=[]) (λ_ z=>nomatch z) (λb o _ hb _ e n=>u.keep b o e n hb (by simp)) (λb o _ hb _ e n=>u.slot b o e n hb (by simp)) (λb o _ e n=>u.free b o e n (by simp)) (λb o _ e=>u.there b o e (by simp)) u.tups u.frzs u.tbls (λm' hm=>by
  obtain⟨o',es',ep',ho',r'⟩:=hm;rw[ho]at ho';cases ho'
  exact⟨_,es',ep',hL,r'⟩) hok I.bare
theorem Inv.call{g':Array GenState}{t':Nat}{d':Drawn}{ch:List Addr}(I:Inv X pins σ H s)(u:Un (frs X.stack) ch H H' s.heap h')(hok:HOk X.prog X.w H' h')(hg:AllBare g')
 (hch:∀b∈ch,(b∈X.ex\/X.s₀.heap.objs.size<=b)/\b≠X.env.locals/\(∀x c,X.env.cells.lookup x=some c->c≠b)/\∀p∈X.pn++pins,p.1≠b):
 Inv X pins σ H' { s with heap:=h',gens:=g',drawn:=d',toks:=t' }:=by
 obtain⟨m,⟨o,es,ep,ho,r⟩,_⟩:=id I.loc;obtain⟨sl,hL⟩:=u.any ho I.free λz=>(hch _ z).2.1 U
 exact I.step (ch:=ch) hch (λb o hL hb hc e n=>u.keep b o e n (λz=>(qr.mp (I.stkSub b z)).elim hL hb) hc) (λb o _ _ hc e n=>u.any e n hc) (λb o hc e n=>u.free b o e n hc) (λb o hc e=>u.there b o e hc) u.tups u.frzs u.tbls (λm' hm=>by
  obtain⟨o',es',ep',ho',r'⟩:=hm;rw[ho]at ho';cases ho'
  exact⟨_,es',ep',hL,r'⟩) hok hg
theorem Inv.turned{t':Nat}{it:Addr}(I:Inv X pins σ H s)(k:∀b o,b≠it->s.heap.get? b=some o->h'.get? b=some o)(hn:H it=none)(hL:it≠X.env.locals)
 (h1:it∈X.ex\/X.s₀.heap.objs.size<=it) (h2:∀x c,X.env.cells.lookup x=some c->c≠it) (h3:∀p∈X.pn++pins,p.1≠it):Inv X pins σ H { s with heap:=h',toks:=t' }:=by
 have nit:∀b u,H b=some u->b≠it:=λb u e z=>by rw[z,hn]at e;cases e
 refine I.step (g':=s.gens) (d':=s.drawn) (ch:=[it]) (λb hb=>?_) (λb o _ _ hc e _=>k b o (λz=>hc (by simp[z])) e) (λb o _ _ hc e _=>⟨o.slots,k b o (λz=>hc (by simp[z])) e⟩) (λ_ _ _ _ n=>n)
  (λb o hc e=>⟨o,k b o (λz=>hc (by simp[z])) e⟩) (λ_ _ e=>e) (λ_ _ _ e=>e) (λb ps e=>⟨#[],by rw[e];simp⟩) (λm hm=>?_) (λb u e=>?_) I.bare
 ·have e:b=it:=by simpa using hb
  subst e;exact⟨h1,hL,h2,h3⟩
 ·obtain⟨o,es,ep,ho,r⟩:=hm;exact⟨o,es,ep,k _ o (Ne.symm hL) ho,r⟩
 ·refine(I.hok b u e).stay (λc v hc q=>k c v ?_ q) (λ_ q=>q) λ_ _ q=>q;rcases hc with z|z
  ·rw[z];exact nit b u e
  ·exact nit c _ z
theorem Inv.tok(I:Inv X pins σ H s)(t:Nat):Inv X pins σ H { s with toks:=t }:=I.un (h':=s.heap) (t':=t) Un.refl I.hok
theorem Inv.kept{t':Nat}(I:Inv X pins σ H s)(k:∀b u,s.heap.get? b=some u->h'.get? b=some u):Inv X pins σ H { s with heap:=h',toks:=t' }:=I.un (Un.kept k) (I.hok.kept k)
theorem Inv.laid{a:Addr}{o:HO}{t':Nat}(I:Inv X pins σ H s)(k:∀b u,s.heap.get? b=some u->h'.get? b=some u)(hp:s.heap.objs.size<=a)(new:bz X.prog X.w (upd H a o) h' a o):
 Inv X pins σ (upd H a o) { s with heap:=h',toks:=t' }:=I.un (Un.laid k hp (I.hok.fresh hp)) (I.hok.laid k hp new)
theorem Inv.write{x e:Addr}{o:HO}{t':Nat}(I:Inv X pins σ H s)(mu:Mut (H x))(he:e=x\/H e=some (.own x))(k:∀b u,b≠e->s.heap.get? b=some u->h'.get? b=some u)(heo:∃u,h'.get? e=some u)
 (new:bz X.prog X.w (upd H x o) h' x o):Inv X pins σ (upd H x o) { s with heap:=h',toks:=t' }:=I.un (Un.write mu he k heo) (I.hok.write mu he k heo new)
theorem Inv.pins_of{pins':List (Addr×Obj)}(I:Inv X pins σ H s)(h:∀p∈pins',s.heap.get? p.1=some p.2/\H p.1=none/\p.1≠X.env.locals/\p.1∉X.fs/\∀v,p.2.data≠.cell v):Inv X pins' σ H s:=
 ⟨I.ok,I.os,I.bare,I.base,I.loc,I.cell,I.free,I.freeC,λp hp=>(qf.mp hp).elim (λz=>I.pin p (qT _ z)) (h p),I.hok,I.len⟩
theorem nX{N:List Str}(hN:N.Nodup){i j:Nat}{x:Str}(a:N[i]?=some x)(b:N[j]?=some x):i=j:=by
 obtain⟨h1,e1⟩:=qd.mp a;obtain⟨h2,e2⟩:=qd.mp b;exact(List.getElem_inj hN).mp (e1.trans e2.symm)
theorem lU{M:Model}{A:Around}{E:Qw}{i:Nat}{x:Str}{v:V}{u:Value}{Q:Unit->Shared->Prop}(I:Inv X pins σ H s)(hN:X.N.Nodup)(hi:X.N[i]?=some x)(hx:Loc X.env.scope x)(r:au v u)
 (h:∀s',Inv X pins (σ.set i (some v)) H s'->(∃a,Heap.SameBut a s.heap s'.heap/\(a=X.env.locals\/X.env.cells.lookup x=some a))->Q () s') (hf:X.fn x=true\/X.env.scope.names.lookup x=some .local:=by first|exact .inl U|exact .inr U|assumption):wpAny M A (storeName X.env x u) Q E s:=by
 obtain⟨m,hn,hl⟩:=id I.loc;have hcls:(X.env.scope.kind == .class || (X.env.scope.kind == .module && X.env.locals != X.env.globals))=false:=by rw[I.ok.kind];rfl
 have hiσ:i<σ.length:=by rw[I.len];exact(qd.mp hi).1
 have cne:=I.cne
 have tracked:∀{a:Addr}{h':Heap},(∃o,s.heap.get? a=some o/\H a=none)->Heap.SameBut a s.heap h'->HOk X.prog X.w H h':=λ{a h'} ha hs b ob e=>by
  obtain⟨_,_,hfree⟩:=ha;refine(I.hok b ob e).stay (λc w' hc q=>(hs.2 c ?_).trans q) (λ_ q=>q) λ_ _ q=>q;rintro rfl;rcases hc with rfl|hc
  ·rw[hfree]at e;cases e
  ·rw[hfree]at hc;cases hc
 rcases hx with hk|hk
 ·refine wpAny_storeName_local hk hn (λh' hn' hs=>?_) hcls;obtain⟨oL,_,_,hoL,_⟩:=id hn;refine h _ ⟨I.ok,I.os,I.bare,⟨λb o e n hb hx=>?_,λb o e n hb hx=>?_,I.base.free,λb o e hx=>?_,I.base.tups,I.base.frzs,I.base.tbls⟩,⟨_,hn',λj y v' e1 e2 e3=>?_⟩,λy c e=>?_,I.free,I.freeC,λp hp=>?_,tracked ⟨oL,hoL,I.free⟩ hs,by simpa using I.len⟩ ⟨_,hs,.inl U⟩
  ·exact(hs.2 b (qE (qA (qm e) I.ok.above))).trans (I.base.keep b o e n hb hx)
  ·obtain⟨sl,e1⟩:=I.base.slot b o e n hb hx;exact⟨sl,(hs.2 b (qE (qA (qm e) I.ok.above))).trans e1⟩
  ·obtain⟨o',e1⟩:=I.base.there b o e hx;exact⟨o',(hs.2 b (qE (qA (qm e) I.ok.above))).trans e1⟩
  ·by_cases hj:j=i
   ·subst hj;rw[hi]at e1;cases e1;rw[List.getElem?_set_self hiσ]at e2;cases e2;exact⟨u,r,.inl ⟨hk,by simp⟩⟩
   ·rw[List.getElem?_set_ne (Ne.symm hj)]at e2;obtain⟨u',r',q⟩:=hl j y v' e1 e2 e3;refine⟨u',r',?_⟩;rcases q with⟨k,e⟩|⟨k,c,e,z⟩
    ·refine .inl ⟨k,?_⟩;have:y≠x:=λe=>hj (nX hN e1 (e▸hi));simp[this,e]
    ·exact .inr ⟨k,c,e,z.sameBut hs (cne y c e)⟩
  ·obtain⟨w',z⟩:=I.cell y c e;exact⟨w',z.sameBut hs (cne y c e)⟩
  ·obtain⟨e,n,ne,nf,d⟩:=I.pin p hp;exact⟨(hs.2 p.1 ne).trans e,n,ne,nf,d⟩
 ·have hfn:X.fn x=true:=by
   rcases hf with z|z
   ·exact z
   ·rw[z]at hk;cases hk
  obtain⟨c,hc⟩:=I.ok.has x (.inl hk);obtain⟨w',z⟩:=I.cell x c hc;refine wpAny_storeName_cell I.ok.kind hk hc z (λh' hc' hs=>?_);obtain⟨oc,hoc,hocd⟩:=id z;refine h { s with heap:=h' } ⟨I.ok,I.os,I.bare,⟨λb o e n hb hx=>?_,λb o e n hb hx=>?_,I.base.free,λb o e hx=>?_,I.base.tups,I.base.frzs,I.base.tbls⟩,⟨m,hn.sameBut hs (Ne.symm (cne x c hc)),λj y v' e1 e2 e3=>?_⟩,λy c' e=>?_,I.free,I.freeC,λp hp=>?_,tracked ⟨oc,hoc,I.freeC x c hc⟩ hs,by simpa using I.len⟩ ⟨c,hs,.inr hc⟩
  ·exact(hs.2 b (qE (qA (qm e) (I.ok.cab x c hfn hc)))).trans (I.base.keep b o e n hb hx)
  ·obtain⟨sl,e1⟩:=I.base.slot b o e n hb hx;exact⟨sl,(hs.2 b (qE (qA (qm e) (I.ok.cab x c hfn hc)))).trans e1⟩
  ·obtain⟨o',e1⟩:=I.base.there b o e hx;exact⟨o',(hs.2 b (qE (qA (qm e) (I.ok.cab x c hfn hc)))).trans e1⟩
  ·by_cases hj:j=i
   ·subst hj;rw[hi]at e1;cases e1;rw[List.getElem?_set_self hiσ]at e2;cases e2;exact⟨u,r,.inr ⟨.inl hk,c,hc,hc'⟩⟩
   ·rw[List.getElem?_set_ne (Ne.symm hj)]at e2;obtain⟨u',r',q⟩:=hl j y v' e1 e2 e3;refine⟨u',r',?_⟩;rcases q with q|⟨k,c',e,z'⟩
    ·exact .inl q
    ·refine .inr ⟨k,c',e,z'.sameBut hs ?_⟩;rintro rfl;exact hj (nX hN e1 (I.ok.inj _ _ _ e hc▸hi))
  ·by_cases hcc:c'=c
   ·subst hcc;exact⟨_,hc'⟩
   ·obtain⟨w2,z2⟩:=I.cell y c' e;exact⟨w2,z2.sameBut hs hcc⟩
  ·obtain⟨e,n,ne,nf,d⟩:=I.pin p hp;refine⟨(hs.2 p.1 ?_).trans e,n,ne,nf,d⟩;intro q;rw[q,hoc]at e;have q':oc=p.2:=qH e;exact d w' (by rw[<- q'];exact hocd)
theorem lV{M:Model}{A:Around}{E:Qw}{i:Nat}{x:Str}{v:V}{u:Value}{Q:Unit->Shared->Prop}(I:Inv X pins σ H s)(hN:X.N.Nodup)(hi:X.N[i]?=some x)(hx:Loc X.env.scope x)(r:au v u)
 (h:∀s',Inv X pins (σ.set i (some v)) H s'->Q () s') (hf:X.fn x=true\/X.env.scope.names.lookup x=some .local:=by first|exact .inl U|exact .inr U|assumption):wpAny M A (storeName X.env x u) Q E s:=
 lU I hN hi hx r (λs' I' _=>h s' I') hf
theorem Inv.call'{s':Shared}{ch:List Addr}(I:Inv X pins σ H s)(ho:s'.os=s.os)(u:Un (frs X.stack) ch H H' s.heap s'.heap)(hok:HOk X.prog X.w H' s'.heap)(hg:AllBare s'.gens)
 (hch:∀b∈ch,(b∈X.ex\/X.s₀.heap.objs.size<=b)/\b≠X.env.locals/\(∀x c,X.env.cells.lookup x=some c->c≠b)/\∀p∈X.pn++pins,p.1≠b):Inv X pins σ H' s':=by
 obtain⟨h',g',d',t',o'⟩:=s';have e:o'=s.os:=ho;subst e;exact I.call (g':=g') (t':=t') (d':=d') u hok hg hch
end
abbrev XK:=Value->Option Addr->Hp->Prop
abbrev St:=List (Option V)
abbrev VK:=V->Hp->Prop
abbrev TE:=St->Hp->VK->Prop
abbrev TT:=St->Hp->(Bool->Hp->Prop)->Prop
abbrev TA:=St->Hp->(List V->Hp->Prop)->Prop
structure dc where
 nx:St->Hp->Prop
 rt:VK
 bk:St->Hp->Prop:=λ_ _=>False
 ct:St->Hp->Prop:=λ_ _=>False
abbrev TS:=dc->St->Hp->Prop
def EP(X:Cx)(pins:List (Addr×Obj))(σ:St)(Q:VK)(u:Value)(s':Shared):Prop:=∃v H',Inv X pins σ H' s'/\au v u/\Q v H'
def TP(X:Cx)(pins:List (Addr×Obj))(σ:St)(Q:Bool->Hp->Prop)(b:Bool)(s':Shared):Prop:=∃H',Inv X pins σ H' s'/\Q b H'
def AP(X:Cx)(pins:List (Addr×Obj))(σ:St)(Q:List V->Hp->Prop)(us:List Value)(s':Shared):Prop:=∃vs H',Inv X pins σ H' s'/\aq vs us/\Q vs H'
def SP(X:Cx)(pins:List (Addr×Obj))(D:dc)(f:Flow)(s':Shared):Prop:=
 match f with
 |.next=>∃σ' H',Inv X pins σ' H' s'/\D.nx σ' H'
 |.brk=>∃σ' H',Inv X pins σ' H' s'/\D.bk σ' H'
 |.cont=>∃σ' H',Inv X pins σ' H' s'/\D.ct σ' H'
 |.ret u=>∃v σ' H',Inv X pins σ' H' s'/\au v u/\D.rt v H'
def PE(X:Cx)(e:Expr)(t:TE):Prop:=
 ∀(pins:List (Addr×Obj))(s:Shared)(σ:St)(H:Hp)(Q:VK),Inv X pins σ H s->t σ H Q->wpAny (model X.prog X.w) X.A (eval e X.env) (EP X pins σ Q) X.xe s
def PT(X:Cx)(e:Expr)(t:TT):Prop:=
 ∀(pins:List (Addr×Obj))(s:Shared)(σ:St)(H:Hp)(Q:Bool->Hp->Prop),Inv X pins σ H s->t σ H Q->wpAny (model X.prog X.w) X.A (isTrue e X.env (eval e X.env)) (TP X pins σ Q) X.xe s
def PW(X:Cx)(e:Expr)(t:TT):Prop:=
 ∀(whole:Sem Value)(pins:List (Addr×Obj))(s:Shared)(σ:St)(H:Hp)(Q:Bool->Hp->Prop),Inv X pins σ H s->t σ H Q->wpAny (model X.prog X.w) X.A (isTrue e X.env whole) (TP X pins σ Q) X.xe s
theorem PW.pt{X:Cx}{e:Expr}{t:TT}(h:PW X e t):PT X e t:=h _
def PA(X:Cx)(es:List Expr)(t:TA):Prop:=
 ∀(pos:Pos)(pins:List (Addr×Obj))(s:Shared)(σ:St)(H:Hp)(Q:List V->Hp->Prop),Inv X pins σ H s->t σ H Q->wpAny (model X.prog X.w) X.A (spliced (backTo pos (starEach es X.env))) (AP X pins σ Q) X.xe s
def PS(X:Cx)(st:Stmt)(t:TS):Prop:=
 ∀(pins:List (Addr×Obj))(s:Shared)(σ:St)(H:Hp)(D:dc),Inv X pins σ H s->t D σ H->wpAny (model X.prog X.w) X.A (exec st X.env) (SP X pins D) X.xe s
def PSs(X:Cx)(st:List Stmt)(t:TS):Prop:=
 ∀(pins:List (Addr×Obj))(s:Shared)(σ:St)(H:Hp)(D:dc),Inv X pins σ H s->t D σ H->wpAny (model X.prog X.w) X.A (execs st X.env) (SP X pins D) X.xe s
theorem thn{α:Type}{t:Sem α}{Q Q':α->Shared->Prop}{M:Model}{A:Around}{E:Qw}{s:Shared}(h:wpAny M A t Q E s)(hQ:∀a s,Q a s->Q' a s):wpAny M A t Q' E s:=wpAny_mono h hQ λ_ _ x=>x
section
variable {X:Cx}
theorem bin{a b:Expr}{ta tb:TE}(ha:PE X a ta)(hb:PE X b tb){pins:List (Addr×Obj)}{s:Shared}{σ:St}{H:Hp}{R:V->V->Hp->Prop}(I:Inv X pins σ H s)(h:ta σ H λx H1=>tb σ H1 λy H2=>R x y H2)
 {α:Type}{Q:α->Shared->Prop}{f:Value->Value->Sem α}
 (hf:∀v u s2 x y H2,Inv X pins σ H2 s2->au x v->au y u->R x y H2->wpAny (model X.prog X.w) X.A (f v u) Q X.xe s2):
 wpAny (model X.prog X.w) X.A (eval a X.env) (λv s₁=>wpAny (model X.prog X.w) X.A (eval b X.env) (λu s₂=>wpAny (model X.prog X.w) X.A (f v u) Q X.xe s₂) X.xe s₁) X.xe s:=by
 refine thn (ha pins s σ H _ I h) λv s1 ⟨x,H1,I1,r1,q1⟩=>?_;refine thn (hb pins s1 σ H1 _ I1 q1) λu s2 ⟨y,H2,I2,r2,q2⟩=>?_;exact hf v u s2 x y H2 I2 r1 r2 q2
def lK(i:Nat):TE:=λσ H Q=>∃v,σ[i]?=some (some v)/\Q v H
def tC(v:V):TE:=λ_ H Q=>Q v H
theorem uP{i:Nat}{x:Str}{pos:Pos}(hN:X.N[i]?=some x)(hv:Vis X.env.scope x)(hd:(x == ("__debug__":Str))=false:=by decide)(hcd:(x == ("__classdict__":Str))=false:=by decide):PE X (.Name x pos) (lK i):=by
 intro pins s σ H Q I h;obtain⟨v,e,h⟩:=h;obtain⟨m,hn,hl⟩:=I.loc;obtain⟨u,r,l⟩:=hl i x v hN e hv;have fin:EP X pins σ Q u s:=⟨v,H,I,r,h⟩;rcases l with⟨hk,hm⟩|⟨hk,c,hc,hcell⟩
 ·exact wpAny_Name (wpAny_loadName_local I.ok.kind hk hn hm fin) hd
 ·rcases hk with hk|hk
  ·exact wpAny_Name (wpAny_loadName_cell I.ok.kind hk hc hcell fin) hd
  ·exact wpAny_Name (wpAny_loadName_free I.ok.kind hk hc hcell fin hcd) hd
theorem aa{i j pos}:PE X (.Constant (.int i) j pos) (tC (.int i)):=λ_ _ _ H _ I h=>wpAny_Constant_int ⟨.int i,H,I.tok _,⟨_,U⟩,h⟩
theorem cq{b j pos}:PE X (.Constant (.bool b) j pos) (tC (.bl b)):=λ_ _ _ H _ I h=>Constant_bool ⟨.bl b,H,I,U,h⟩
theorem cM{j pos}:PE X (.Constant .none j pos) (tC .non):=λ_ _ _ H _ I h=>Constant_none ⟨.non,H,I,U,h⟩
theorem c0{x j pos}:PE X (.Constant (.str x) j pos) (tC (.str x)):=λ_ _ _ H _ I h=>Calls.Constant_str ⟨.str x,H,I.tok _,⟨_,U⟩,h⟩
def Gl(X:Cx)(x:Str):Prop:=X.env.kindOf x=some .globalImplicit
theorem ik{E:Qw}{pins:List (Addr×Obj)}{s:Shared}{σ:St}{H:Hp}{x:Str}{u:Value}{pos:Pos}{Q:Qw}(I:Inv X pins σ H s)(hg:Gl X x)(hm:X.mg x=some u)(h:Q u s)
 (hd:(x == ("__debug__":Str))=false:=by decide):wpAny (model X.prog X.w) X.A (eval (.Name x pos) X.env) Q E s:=
 Calls.Name_function_global I.ok.kind hg (Calls.loadGlobal_global (by rw[I.ok.glob];exact I.mod.glob.keeps I.bk) hm h) hd
theorem cV{E:Qw}{pins:List (Addr×Obj)}{s:Shared}{σ:St}{H:Hp}{x:Str}{u:Value}{pos:Pos}{Q:Qw}(I:Inv X pins σ H s)(hg:Gl X x)(hm:X.mg x=none)(hv:bootBuiltins x=some u)(h:Q u s)
 (hn:x≠"__name__":=by decide) (hd:(x == ("__debug__":Str))=false:=by decide):wpAny (model X.prog X.w) X.A (eval (.Name x pos) X.env) Q E s:=by
 obtain⟨mb,h1,h2⟩:=I.mod.blt;exact Calls.Name_function_global I.ok.kind hg (Calls.loadGlobal_builtin (by rw[I.ok.glob];exact I.mod.glob.keeps I.bk) hm (by rw[I.ok.blt];exact h1.keeps I.bk) ((h2 x hn).trans hv) h) hd
theorem uW{x:Str}{v:V}{u:Value}{pos:Pos}(hg:Gl X x)(hm:X.mg x=some u)(r:au v u)(hd:(x == ("__debug__":Str))=false:=by decide):PE X (.Name x pos) (tC v):=
 λ_ _ _ H _ I h=>ik I hg hm ⟨v,H,I,r,h⟩ hd
theorem gf{x:Str}{v:V}{u:Value}{pos:Pos}(hg:Gl X x)(hm:X.mg x=none)(hv:bootBuiltins x=some u)(r:au v u)(hn:x≠"__name__":=by decide)(hd:(x == ("__debug__":Str))=false:=by decide):PE X (.Name x pos) (tC v):=
 λ_ _ _ H _ I h=>cV I hg hm hv ⟨v,H,I,r,h⟩ hn hd
variable {a b:Expr}{ta tb:TE}{pos:Pos}
def PC(X:Cx)(op:CmpOp)(a b:Expr)(t:TE):Prop:=
 ∀(pins:List (Addr×Obj))(s:Shared)(σ:St)(H:Hp)(Q:VK),Inv X pins σ H s->t σ H Q->
  wpAny (model X.prog X.w) X.A (eval a X.env) (λv s₁=>wpAny (model X.prog X.w) X.A (eval b X.env) (λu s₂=>wpAny (model X.prog X.w) X.A (compareOp op v u) (EP X pins σ Q) X.xe s₂) X.xe s₁) X.xe s
def tB(t:TE):TT:=λσ H Q=>t σ H λx H1=>∃c,x=.bl c/\Q c H1
theorem yZ{op:CmpOp}{t:TE}(h:PC X op a b t)(h1:behindInMarks op b=false:=by first|exact nobehind _ Qy Qy|rfl):PT X (.Compare a [op] [b] pos) (tB t):=by
 intro pins s σ H Q I hw;refine wpAny_isTrue_Compare1 (thn (h pins s σ H _ I hw) λv s1 h1=>thn h1 λu s2 h2=>thn h2 λc s3 ⟨x,H1,I1,r1,q1⟩=>?_) h1;obtain⟨d,rfl,q⟩:=q1;cases r1;exact wpAny_truthy_bool ⟨H1,I1,q⟩
theorem uA{e:Expr}{t:TE}(h:PE X e t)(he:∀whole,isTrue e X.env whole=(do let v <- whole;standAt e.pos;holding [v] (truthy v)):=by intro _;rfl):PT X e (tB t):=by
 intro pins s σ H Q I hw;refine isTrue_plain (thn (h pins s σ H _ I hw) λv s1 ⟨x,H1,I1,r1,q1⟩=>?_) (he _);obtain⟨d,rfl,q⟩:=q1;cases r1;exact wpAny_truthy_bool ⟨H1,I1,q⟩
variable {tA tB':TT}{rest:List Expr}
def sv(t u:TT):TT:=λσ H Q=>t σ H λc H1=>if c=true then u σ H1 Q else Q false H1
def tOr(t u:TT):TT:=λσ H Q=>t σ H λc H1=>if c=true then Q true H1 else u σ H1 Q
def rT(t:TT):TT:=λσ H Q=>t σ H λc H1=>Q (!c) H1
theorem hU(ha:PT X a tA):PW X (.BoolOp .And [a] pos) tA:=by
 intro wh pins s σ H Q I h;refine isTrue_and (thn (ha pins s σ H Q I h) λc s1 e=>?_)
 cases c with
 |true=>exact isTrue_and_nil e
 |false=>exact e
theorem dW(ha:PT X a tA):PW X (.BoolOp .Or [a] pos) tA:=by
 intro wh pins s σ H Q I h;refine isTrue_or (thn (ha pins s σ H Q I h) λc s1 e=>?_)
 cases c with
 |false=>exact isTrue_or_nil e
 |true=>exact e
theorem hV(ha:PT X a tA)(hb:PW X (.BoolOp .And (b::rest) pos) tB'):PW X (.BoolOp .And (a::b::rest) pos) (sv tA tB'):=by
 intro wh pins s σ H Q I h;refine isTrue_and (thn (ha pins s σ H _ I h) λc s1 ⟨H1,I1,q1⟩=>?_)
 cases c with
 |true=>exact hb wh pins s1 σ H1 Q I1 q1
 |false=>exact⟨H1,I1,q1⟩
theorem cY(ha:PT X a tA)(hb:PW X (.BoolOp .Or (b::rest) pos) tB'):PW X (.BoolOp .Or (a::b::rest) pos) (tOr tA tB'):=by
 intro wh pins s σ H Q I h;refine isTrue_or (thn (ha pins s σ H _ I h) λc s1 ⟨H1,I1,q1⟩=>?_)
 cases c with
 |true=>exact⟨H1,I1,q1⟩
 |false=>exact hb wh pins s1 σ H1 Q I1 q1
theorem dX(ha:PT X a tA):PT X (.UnaryOp .Not a pos) (rT tA):=by
 intro pins s σ H Q I h;exact isTrue_not (ha pins s σ H (λc H1=>Q (!c) H1) I h)
def rS(ta tb:TE):TE:=λσ H Q=>ta σ H λx H1=>∃c,x=.bl c/\if c=true then Q (.bl true) H1 else tb σ H1 Q
theorem uT{op}{t:TE}(h:PE X a t):PE X (.BoolOp op [a] pos) t:=λpins s σ H Q I hw=>BoolOp_one (h pins s σ H Q I hw)
theorem uS(ha:PE X a ta)(hb:PE X (.BoolOp .Or (b::rest) pos) tb):PE X (.BoolOp .Or (a::b::rest) pos) (rS ta tb):=by
 intro pins s σ H Q I h;refine BoolOp_or (thn (ha pins s σ H _ I h) λv s1 ⟨x,H1,I1,r1,q1⟩=>?_);obtain⟨c,rfl,q1⟩:=q1;cases r1;refine wpAny_truthy_bool ?_
 cases c with
 |false=>exact hb pins s1 σ H1 Q I1 q1
 |true=>exact⟨.bl true,H1,I1,U,q1⟩
def tIf(t:TT)(ta tb:TE):TE:=λσ H Q=>t σ H λc H1=>if c=true then ta σ H1 Q else tb σ H1 Q
theorem dM{c:Expr}(hc:PT X c tA)(ha:PE X a ta)(hb:PE X b tb):PE X (.IfExp c a b pos) (tIf tA ta tb):=by
 intro pins s σ H Q I h;refine wpAny_IfExp (thn (hc pins s σ H _ I h) λd s1 ⟨H1,I1,q1⟩=>?_)
 cases d with
 |true=>exact ha pins s1 σ H1 Q I1 q1
 |false=>exact hb pins s1 σ H1 Q I1 q1
end
def SqL(K:W.Frag)(H:Hp)(a:Addr)(xs:List V):Prop:=
 Rd H a (.lst xs) \/
  ∃(o:Obj)(its:Array Value)(n:Nat),K.lookup a=some o/\o.cls=.type "list"/\o.dict=none/\o.data=.seq its n/\its.size<=sizeLine/\aq xs its.toList
def SqT(K:W.Frag)(H:Hp)(a:Addr)(xs:List V):Prop:=
 Rd H a (.tup xs) \/
  ∃(o:Obj)(its:Array Value)(n:Nat),K.lookup a=some o/\o.cls=.type "tuple"/\o.data=.seq its n/\its.size<=sizeLine/\aq xs its.toList
def yQ:Value->Option V
 |.none=>some .non
 |.bool b=>some (.bl b)
 |.int i _=>some (.int i)
 |.str x _=>some (.str x)
 |.bytes b _=>some (.byt b)
 |.float b _=>some (.flt b)
 |.ref a=>some (.ref a)
 |.type n=>some (.ty n)
 |_=>none
theorem au.abs{x:V}{u:Value}(r:au x u):yQ u=some x:=by
 cases x with
 |non=>cases r;rfl
 |bl _=>cases r;rfl
 |int _=>obtain⟨t,rfl⟩:=r;rfl
 |str _=>obtain⟨t,rfl⟩:=r;rfl
 |byt _=>obtain⟨t,rfl⟩:=r;rfl
 |flt _=>obtain⟨t,rfl⟩:=r;rfl
 |ref _=>cases r;rfl
 |ty _=>cases r;rfl
theorem au.inj{x y:V}{u:Value}(r:au x u)(q:au y u):x=y:=qH (r.abs.symm.trans q.abs)
theorem aq.inj:∀{xs ys:List V}{us:List Value},aq xs us->aq ys us->xs=ys
 |_,_,_,.nil,.nil=>rfl
 |_,_,_,.cons r t,.cons r' t'=>by rw[r.inj r',aq.inj t t']
section
variable {X:Cx}{pins:List (Addr×Obj)}{σ:St}{H:Hp}{s:Shared}{a:Addr}{xs ys:List V}
theorem SqL.of{K:W.Frag}(h:H a=some (.lst xs)):SqL K H a xs:=.inl (.inl h)
theorem SqT.of{K:W.Frag}(h:H a=some (.tup xs)):SqT K H a xs:=.inl (.inl h)
theorem Inv.list(I:Inv X pins σ H s)(h:SqL X.K H a xs):∃its:List Value,aq xs its/\PlainL s.heap a its.toArray/\xs.length<=sizeLine:=by
 rcases h with h|⟨o,its,n,hk,hc,hd,hs,hz,r⟩
 ·obtain⟨z,its,n,r,e⟩:=h.ok I.hok;exact⟨its,r,⟨_,n,e,U,U,U⟩,z⟩
 ·refine⟨its.toList,r,⟨o,n,I.kIn a o hk,hc,hd,by simpa using hs⟩,?_⟩;have e:=r.length;simp only[qK]at e;omega
theorem Inv.tuple(I:Inv X pins σ H s)(h:SqT X.K H a xs):∃its:List Value,aq xs its/\IsTup s.heap a its.toArray/\xs.length<=sizeLine:=by
 rcases h with h|⟨o,its,n,hk,hc,hs,hz,r⟩
 ·obtain⟨z,its,r,p⟩:=h.ok I.hok;exact⟨its,r,p,z⟩
 ·refine⟨its.toList,r,⟨o,I.kIn a o hk,hc,n,by simpa using hs⟩,?_⟩;have e:=r.length;simp only[qK]at e;omega
theorem Inv.list_inj(I:Inv X pins σ H s)(h:SqL X.K H a xs)(h':SqL X.K H a ys):xs=ys:=by
 obtain⟨its,r,⟨o,n,e,_,_,d⟩,_⟩:=I.list h;obtain⟨its',r',⟨o',n',e',_,_,d'⟩,_⟩:=I.list h';rw[e]at e';cases e';rw[d]at d';injection d' with d1 _;have:its=its':=by simpa using congrArg Array.toList d1
 subst this;exact r.inj r'
theorem Inv.tuple_inj(I:Inv X pins σ H s)(h:SqT X.K H a xs)(h':SqT X.K H a ys):xs=ys:=by
 obtain⟨its,r,⟨o,e,_,n,d⟩,_⟩:=I.tuple h;obtain⟨its',r',⟨o',e',_,n',d'⟩,_⟩:=I.tuple h';rw[e]at e';cases e';rw[d]at d';injection d' with d1 _;have:its=its':=by simpa using congrArg Array.toList d1
 subst this;exact r.inj r'
end
abbrev Cx.wish(X:Cx)(E:Qw):Cx:={ X with xe:=E }
abbrev Cx.nox(X:Cx):Cx:=X.wish λ_ _=>False
theorem Cx.Ok.wish{X:Cx}(ok:X.Ok)(E:Qw):(X.wish E).Ok:=
 ⟨ok.mod,ok.kind,ok.glob,ok.blt,ok.above,ok.inj,ok.has,ok.cab,ok.hd,ok.frames,ok.stk,ok.exf,ok.bs,ok.bsz,ok.noex,ok.exfs,ok.funs,ok.frf⟩
theorem Cx.Ok.unwish{X:Cx}{E:Qw}(ok:(X.wish E).Ok):X.Ok:=
 ⟨ok.mod,ok.kind,ok.glob,ok.blt,ok.above,ok.inj,ok.has,ok.cab,ok.hd,ok.frames,ok.stk,ok.exf,ok.bs,ok.bsz,ok.noex,ok.exfs,ok.funs,ok.frf⟩
section
variable {X:Cx}{pins:List (Addr×Obj)}{σ:St}{H:Hp}{s:Shared}{E:Qw}
theorem Inv.wish(I:Inv X pins σ H s)(E:Qw):Inv (X.wish E) pins σ H s:=⟨I.ok.wish E,I.os,I.bare,I.base,I.loc,I.cell,I.free,I.freeC,I.pin,I.hok,I.len⟩
theorem Inv.unwish(I:Inv (X.wish E) pins σ H s):Inv X pins σ H s:=⟨I.ok.unwish,I.os,I.bare,I.base,I.loc,I.cell,I.free,I.freeC,I.pin,I.hok,I.len⟩
theorem SP.unwish{D:dc}{f:Flow}{s':Shared}(h:SP (X.wish E) pins D f s'):SP X pins D f s':=by
 cases f with
 |next=>obtain⟨σ',H',I,q⟩:=h;exact⟨σ',H',I.unwish,q⟩
 |brk=>obtain⟨σ',H',I,q⟩:=h;exact⟨σ',H',I.unwish,q⟩
 |cont=>obtain⟨σ',H',I,q⟩:=h;exact⟨σ',H',I.unwish,q⟩
 |ret u=>obtain⟨v,σ',H',I,r,q⟩:=h;exact⟨v,σ',H',I.unwish,r,q⟩
theorem PSs.nox{st:List Stmt}{t:TS}(h:PSs X.nox st t):PSs X st t:=λpins s σ H D I hw=>
 wpAny_mono (h pins s σ H D (I.wish _) hw) (λ_ _ q=>q.unwish) λ_ _ z=>False.elim z
end
section
variable {X:Cx}{st:Stmt}{rest:List Stmt}{t u:TS}{e:Expr}{te:TE}{pos:Pos}
def ck:TS:=λD σ H=>D.nx σ H
def gH(t u:TS):TS:=λD σ H=>t { D with nx:=u D } σ H
theorem aW:PSs X [] ck:=λ_ _ σ H _ I h=>wpAny_execs_nil ⟨σ,H,I,h⟩
theorem ac(h1:PS X st t)(h2:PSs X rest u):PSs X (st::rest) (gH t u):=by
 intro pins s σ H D I h;refine wpAny_execs_cons (thn (h1 pins s σ H { D with nx:=u D } I h) λf s1 q=>?_)
 cases f with
 |next=>
  obtain⟨σ',H',I',q⟩:=q;exact h2 pins s1 σ' H' D I' q
 |ret v=>exact q
 |brk=>exact q
 |cont=>exact q
theorem af(h1:PS X st t):PSs X [st] t:=by
 intro pins s σ H D I h;refine wpAny_execs_cons (thn (h1 pins s σ H D I h) λf s1 q=>?_)
 cases f with
 |next=>exact wpAny_execs_nil q
 |ret v=>exact q
 |brk=>exact q
 |cont=>exact q
theorem Inv.quiet{pins:List (Addr×Obj)}{σ:St}{H:Hp}{s:Shared}(I:Inv X pins σ H s):interactive X.env=false:=by simp[interactive,I.ok.kind]
def si(te:TE):TS:=λD σ H=>te σ H λ_ H1=>D.nx σ H1
theorem bQ(he:PE X e te)(hs:swapsWith e none pos.line X.env=pure false:=by rfl):PS X (.Expr e pos) (si te):=by
 intro pins s σ H D I h;exact wpAny_Expr_any (thn (he pins s σ H _ I h) λv s1 ⟨x,H1,I1,r1,q1⟩=>⟨σ,H1,I1,q1⟩) I.quiet hs
def rQ(te:TE):TS:=λD σ H=>te σ H D.rt
theorem ar(he:PE X e te):PS X (.Return (some e) pos) (rQ te):=by
 intro pins s σ H D I h;exact wpAny_Return_some (thn (he pins s σ H _ I h) λv s1 ⟨x,H1,I1,r1,q1⟩=>⟨x,σ,H1,I1,r1,q1⟩)
def rP:TS:=λD _ H=>D.rt .non H
theorem uD:PS X (.Return none pos) rP:=λ_ _ σ H _ I h=>wpAny_Return_none ⟨.non,σ,H,I,U,h⟩
def se(c:TT)(t u:TS):TS:=λD σ H=>c σ H λb H1=>if b=true then t D σ H1 else u D σ H1
theorem aX{c:Expr}{a b:List Stmt}{tc:TT}(hc:PT X c tc)(ha:PSs X a t)(hb:PSs X b u):PS X (.If c a b pos) (se tc t u):=by
 intro pins s σ H D I h;refine wpAny_If (thn (hc pins s σ H _ I h) λd s1 ⟨H1,I1,q1⟩=>?_)
 cases d with
 |true=>exact ha pins s1 σ H1 D I1 q1
 |false=>exact hb pins s1 σ H1 D I1 q1
end
abbrev TG:=V->St->Hp->(St->Hp->Prop)->Prop
abbrev TGs:=List V->St->Hp->(St->Hp->Prop)->Prop
def PG(X:Cx)(target:Expr)(t:TG):Prop:=
 ∀(pins:List (Addr×Obj))(s:Shared)(σ:St)(H:Hp)(v:V)(u:Value)(Q:St->Hp->Prop),Inv X pins σ H s->au v u->t v σ H Q->
  wpAny (model X.prog X.w) X.A (assign target X.env u) (λ_ s'=>∃σ' H',Inv X pins σ' H' s'/\Q σ' H') X.xe s
def PGs(X:Cx)(ts:List Expr)(t:TGs):Prop:=
 ∀(pins:List (Addr×Obj))(s:Shared)(σ:St)(H:Hp)(vs:List V)(us:List Value)(Q:St->Hp->Prop),Inv X pins σ H s->aq vs us->t vs σ H Q->
  wpAny (model X.prog X.w) X.A (assignInOrder ((assignEach ts X.env).map (·.2)) us) (λ_ s'=>∃σ' H',Inv X pins σ' H' s'/\Q σ' H') X.xe s
abbrev kU:=V->V->V->Hp->(Hp->Prop)->Prop
def pO(X:Cx)(t:kU):Prop:=
 ∀(pins:List (Addr×Obj))(s:Shared)(σ:St)(H:Hp)(o i v:V)(ov iv u:Value)(Q:Hp->Prop),Inv X pins σ H s->au o ov->au i iv->au v u->t o i v H Q->
  wpAny (model X.prog X.w) X.A (setItem ov iv u) (λ_ s'=>∃H',Inv X pins σ H' s'/\Q H') X.xe s
section
variable {X:Cx}{pos:Pos}
def aK(i:Nat):TG:=λv σ H Q=>Q (σ.set i (some v)) H
theorem aU{i:Nat}{x:Str}(hN:X.N.Nodup)(hi:X.N[i]?=some x)(hx:Loc X.env.scope x)(hf:X.fn x=true\/X.env.scope.names.lookup x=some .local:=by first|exact .inl U|exact .inr U|assumption):PG X (.Name x pos) (aK i):=by
 intro pins s σ H v u Q I r h;exact wpAny_assign_Name (lV I hN hi hx r (λs' I'=>⟨_,H,I',h⟩) hf)
def xU:TGs:=λvs σ H Q=>vs=[]/\Q σ H
def xV(t:TG)(u:TGs):TGs:=λvs σ H Q=>∃v r,vs=v::r/\t v σ H λσ' H'=>u r σ' H' Q
theorem dL:PGs X [] xU:=by
 intro pins s σ H vs us Q I r h;obtain⟨e,h⟩:=h;subst e;cases r;exact assignInOrder_nil ⟨σ,H,I,h⟩
theorem bZ{e:Expr}{es:List Expr}{t:TG}{u:TGs}(h1:PG X e t)(h2:PGs X es u)
 (hs:(assignEach (e::es) X.env).map (·.2)=assign e X.env::(assignEach es X.env).map (·.2):=by rfl):PGs X (e::es) (xV t u):=by
 intro pins s σ H vs us Q I r h;obtain⟨v,vr,e1,h⟩:=h;subst e1
 cases r with
 |cons r rr=>
  rw[hs];refine assignInOrder_cons (thn (h1 pins s σ H _ _ _ I r h) λ_ s1 ⟨σ1,H1,I1,q1⟩=>?_);exact h2 pins s1 σ1 H1 _ _ Q I1 rr q1
def oJ(K:W.Frag)(n:Nat)(t:TGs):TG:=λv σ H Q=>∃a xs,v=.ref a/\SqT K H a xs/\xs.length=n/\t xs σ H Q
theorem i3{es:List Expr}{k:Nat}{t:TGs}{n:Nat}(hc:X.calm=true)(h:PGs X es t)
 (hn:(assignEach es X.env).length=n:=by rfl) (hst:(assignEach es X.env).findIdx? (·.1)=none:=by rfl):PG X (.Tuple es k pos) (oJ X.K n t):=by
 intro pins s σ H v u Q I r hw;obtain⟨a,xs,e1,hq,hl,hw⟩:=hw;subst e1;cases r;obtain⟨its,rv,ht,hz⟩:=I.tuple hq;refine assign_Tuple_tuple (I.ok.hd hc) ht (by simp[hn,<- hl,rv.length]) hst λh' hx=>?_;have I1:Inv X pins σ H { s with heap:=h' }:=I.kept (t':=s.toks) λb o e=>hx b o (qE (qm e)) e;exact h pins _ σ H xs _ Q I1 (by simpa using rv) hw
def xT(to ti:TE)(t:kU):TG:=λv σ H Q=>to σ H λo H1=>ti σ H1 λi H2=>t o i v H2 λH3=>Q σ H3
theorem i4{o i:Expr}{to ti:TE}{t:kU}(ho:PE X o to)(hi:PE X i ti)(hs:pO X t)
 (ha:∀v,assign (.Subscript o i pos) X.env v=(do
  let ov <- holding [v] (eval o X.env)
  let iv <- holding [v,ov] (eval i X.env)
  standAt pos
  holding [v,ov,iv] (setItem ov iv v)
  release [v,ov,iv] []):=by intro _;rfl):PG X (.Subscript o i pos) (xT to ti t):=by
 intro pins s σ H v u Q I r h;rw[ha];refine q0 (Qs (thn (ho pins s σ H _ I h) λov s1 ⟨x,H1,I1,r1,q1⟩=>?_));refine q0 (Qs (thn (hi pins s1 σ H1 _ I1 q1) λiv s2 ⟨y,H2,I2,r2,q2⟩=>?_));refine q0 (wpAny_standAt (q0 (Qs (thn (hs pins s2 σ H2 x y v ov iv u _ I2 r1 r2 r q2) λ_ s3 ⟨H3,I3,q3⟩=>?_))));exact wpAny_release ⟨σ,H3,I3,q3⟩
def iV(te:TE)(g:TG):TS:=λD σ H=>te σ H λx H1=>g x σ H1 D.nx
theorem hZ{tg e:Expr}{te:TE}{g:TG}(he:PE X e te)(hg:PG X tg g)(hs:swapsWithSole [tg] e pos.line X.env=pure false:=by rfl)(hw:swappedStores [tg] e X.env=pure none:=by rfl)
 (h1:(assignEach [tg] X.env).map (·.2)=[assign tg X.env]:=by rfl):PS X (.Assign [tg] e pos) (iV te g):=by
 intro pins s σ H D I h;refine wpAny_Assign_stores (thn (he pins s σ H _ I h) λv s1 ⟨x,H1,I1,r1,q1⟩=>?_) hs hw;rw[h1];exact thn (hg pins s1 σ H1 x v _ I1 r1 q1) λ_ s2 q=>q
theorem aS{i:Nat}{x:Str}{e:Expr}{te:TE}{pos':Pos}(hN:X.N.Nodup)(hi:X.N[i]?=some x)(hx:Loc X.env.scope x)(he:PE X e te)(hs:swapsWith e (some (.Name x pos')) pos.line X.env=pure false:=by rfl)(hf:X.fn x=true\/X.env.scope.names.lookup x=some .local:=by first|exact .inl U|exact .inr U|assumption):
 PS X (.Assign [.Name x pos'] e pos) (iV te (aK i)):=by
 intro pins s σ H D I h;refine wpAny_Assign_Name (thn (he pins s σ H _ I h) λv s1 ⟨y,H1,I1,r1,q1⟩=>?_) hs;exact lV I1 hN hi hx r1 (λs2 I2=>⟨_,H1,I2,q1⟩) hf
end
section
variable {X:Cx}{pos:Pos}
def rN(c:TT)(tb:TS):TS:=λD σ H=>∃W:Nat->St->Hp->Prop,(∃m,W m σ H)/\∀m σ H,W m σ H->
 c σ H λb H1=>if b=true then ∃N:St->Hp->Prop,(∀σ' H',N σ' H'->∃m',m'<m/\W m' σ' H')/\tb { D with nx:=N,ct:=N,bk:=D.nx } σ H1 else D.nx σ H1
theorem uC{c:Expr}{body:List Stmt}{tc:TT}{tb:TS}(hp:PassesOwn (model X.prog X.w) X.A X.env X.xe)(hc:PT X c tc)(hb:PSs X body tb):PS X (.While c body [] pos) (rN tc tb):=by
 intro pins s σ H D I h;obtain⟨W,⟨m0,w0⟩,turn⟩:=h;refine wpAny_While (codeAny_whileLoop (λn s'=>∃σ' H',Inv X pins σ' H' s'/\W n σ' H') ?_ m0 ⟨σ,H,I,w0⟩);rintro n s1 ⟨σ1,H1,I1,w1⟩;refine wpAny_passesOwn hp (thn (hc pins s1 σ1 H1 _ I1 (turn n σ1 H1 w1)) λb s2 ⟨H2,I2,q2⟩=>?_)
 cases b with
 |true=>
  obtain⟨N,hN,q2⟩:=q2;rw[qY U];refine wpAny_passesOwn hp (thn (hb pins s2 σ1 H2 _ I2 q2) λf s3 q3=>?_)
  cases f with
  |next=>
   obtain⟨σ3,H3,I3,n3⟩:=q3;obtain⟨m',hm,w3⟩:=hN σ3 H3 n3;exact⟨m',hm,σ3,H3,I3,w3⟩
  |cont=>
   obtain⟨σ3,H3,I3,n3⟩:=q3;obtain⟨m',hm,w3⟩:=hN σ3 H3 n3;exact⟨m',hm,σ3,H3,I3,w3⟩
  |brk=>exact q3
  |ret v=>exact q3
 |false=>
  rw[qX qg];exact wpAny_execs_nil ⟨σ1,H2,I2,q2⟩
end
structure It where
 go:Nat->Hp->Prop
 yld:Nat->Hp->V->Hp->Prop
 stop:Nat->Hp->Prop
def ca(X:Cx)(pins:List (Addr×Obj))(H:Hp)(b:Addr):Prop:=
 H b=none/\b≠X.env.locals/\b∉X.fs/\(b∈X.ex\/X.s₀.heap.objs.size<=b)/\(∀x c,X.env.cells.lookup x=some c->c≠b)/\∀p∈X.pn++pins,p.1≠b
theorem Inv.fpOk{X:Cx}{pins:List (Addr×Obj)}{σ:St}{H H':Hp}{s:Shared}{b:Addr}(I:Inv X pins σ H s)(hb:s.heap.objs.size<=b)(hn:H' b=none):ca X pins H' b:=by
 refine⟨hn,Nat.ne_of_gt (qA I.lt hb),I.nofs hb,.inr (qw I.sz hb),λx c e z=>?_,λp hp z=>?_⟩
 ·obtain⟨v,q⟩:=I.cell x c e;exact Q1 (qA q.lt (by rw[z];exact hb)) (Q9 _)
 ·exact Q1 (qA (qm (I.pin p hp).1) (by rw[z];exact hb)) (Q9 _)
structure dR(P:Program)(w:World)(K:W.Frag)(tg:Expr)(J:It)(fp:List Addr)(it:Addr)(tn:Nat->Heap->Prop):Prop where
 mem:it∈fp
 obj:∀i h,tn i h->∀b∈fp,∃o,h.get? b=some o/\∀v,o.data≠.cell v
 keep:∀i h h',tn i h->(∀b∈fp,∀o,h.get? b=some o->h'.get? b=some o)->tn i h'
 item:∀(X:Cx),X.prog=P->X.w=w->X.K=K->X.calm=true->∀(i:Nat)(pins:List (Addr×Obj))(s:Shared)(σ:St)(H:Hp)(E:Qw),Inv X pins σ H s->(∀b∈fp,ca X pins H b)->tn i s.heap->J.go i H->
  wpAny (model P w) X.A (pyNext (.ref it)) (λr s1=>∃u,r=some u /\
   wpAny (model P w) X.A (letOwnedTupleGo tg (.ref it) u) (λ_ s2=>∃x H',Inv X pins σ H' s2/\au x u/\J.yld i H x H'/\tn (i+1) s2.heap/\∀b∈fp,H' b=none) E s1) E s
 done:∀(X:Cx),X.prog=P->X.w=w->X.K=K->X.calm=true->∀(i:Nat)(pins:List (Addr×Obj))(s:Shared)(σ:St)(H:Hp)(E:Qw),Inv X pins σ H s->(∀b∈fp,ca X pins H b)->tn i s.heap->J.stop i H->
  wpAny (model P w) X.A (pyNext (.ref it)) (λr s1=>r=none/\Inv X pins σ H s1) E s
 self:∀(A:Around)(i:Nat)(s:Shared)(Q:Qw)(E:Qw),tn i s.heap->Q (.ref it) s->wpAny (model P w) A (pyIter (.ref it)) Q E s
abbrev TI:=St->Hp->(It->Hp->Prop)->Prop
def PIE(X:Cx)(pins:List (Addr×Obj))(σ:St)(tg:Expr)(R:It->Hp->Prop)(itv:Value)(s2:Shared):Prop:=
 ∃(it:Addr)(fp:List Addr)(tn:Nat->Heap->Prop)(J:It)(H':Hp),itv=.ref it/\Inv X pins σ H' s2/\dR X.prog X.w X.K tg J fp it tn/\tn 0 s2.heap/\(∀b∈fp,ca X pins H' b)/\R J H'
def PI(X:Cx)(tg iter:Expr)(wi:TI):Prop:=
 ∀(pins:List (Addr×Obj))(s:Shared)(σ:St)(H:Hp)(R:It->Hp->Prop),Inv X pins σ H s->wi σ H R->
  wpAny (model X.prog X.w) X.A (eval iter X.env) (λv s1=>wpAny (model X.prog X.w) X.A (pyIter v) (PIE X pins σ tg R) X.xe s1) X.xe s
theorem iA{M:Model}{A:Around}{E:Qw}{s:Shared}{tg:Expr}{it:Addr}{u:Value}{o:Obj}{n:String}{vs:Array Value}{Q:Unit->Shared->Prop}(ho:s.heap.get? it=some o)(hc:o.cls=.type n)(hd:o.data=.fields vs)
 (hn:["enumerate","zip","dict_itemiterator","dict_reverseitemiterator","odict_iterator","itertools.zip_longest","itertools.pairwise"].contains n=false) (hQ:Q () s):wpAny M A (letOwnedTupleGo tg (.ref it) u) Q E s:=by
 unfold letOwnedTupleGo
 cases tg<;>first
  |exact qb hQ
  |(cases u<;>first
   |exact qb hQ
   |(refine q0 (wpAny_load ho ?_)
     rw[hc,hd];show wpAny M A (if(["enumerate","zip","dict_itemiterator","dict_reverseitemiterator","odict_iterator","itertools.zip_longest","itertools.pairwise"].contains n && vs[0]? == some (rawInt _))=true then _ else _) Q E s;rw[qX (by intro h;rw[hn,Bool.false_and]at h;cases h)]
     exact qb hQ))
def Itl(K:W.Frag)(a:Addr):It:=
 ⟨λi H=>∃xs x,SqL K H a xs/\xs[i]?=some x,λi H x H'=>H'=H/\∀xs,SqL K H a xs->xs[i]?=some x,λi H=>∃xs,SqL K H a xs/\xs.length<=i⟩
def Itt(K:W.Frag)(a:Addr):It:=
 ⟨λi H=>∃xs x,SqT K H a xs/\xs[i]?=some x,λi H x H'=>H'=H/\∀xs,SqT K H a xs->xs[i]?=some x,λi H=>∃xs,SqT K H a xs/\xs.length<=i⟩
def Itr(lo:Int)(n:Nat):It:=⟨λi _=>i<n,λi H x H'=>H'=H/\x=.int (lo+i),λi _=>n<=i⟩
theorem rK{P:Program}{w:World}{K:W.Frag}{tg:Expr}(a it:Addr):dR P w K tg (Itl K a) [it] it (λi h=>h.IsListIter it a i) where
 mem:=by simp
 obj:=λi h st b hb=>by
  have e:b=it:=by simpa using hb
  subst e;obtain⟨o,e,c,d⟩:=st;exact⟨o,e,λv z=>by rw[d]at z;cases z⟩
 keep:=λi h h' st k=>st.at λo e=>k it (by simp) o e
 item:=by
  intro X hP hw hK hc i pins s σ H E I hf st hg;subst hP hw hK;obtain⟨xs,x,hq,hx⟩:=hg;obtain⟨its,rv,p,hz⟩:=I.list hq;obtain⟨u,hu,ru⟩:=rv.get hx;obtain⟨f0,f1,f2,f3,f4,f5⟩:=hf it (by simp);refine wpAny_pyNext_list_item st p.isList (x:=u) (by simpa using hu) λh' st' sb=>?_;have I1:Inv X pins σ H { s with heap:=h' }:=I.turned (t':=s.toks) (λb o hb e=>(sb.2 b hb).trans e) f0 f1 f3 f4 f5;obtain⟨o,e,c,d⟩:=id st';exact⟨u,U,iA (s:={ s with heap:=h' }) e c d Qy ⟨x,H,I1,ru,⟨U,λys hy=>by rw[I.list_inj hy hq];exact hx⟩,st',λb hb=>(hf b hb).1⟩⟩
 done:=by
  intro X hP hw hK hc i pins s σ H E I hf st hg;subst hP hw hK;obtain⟨xs,hq,hx⟩:=hg;obtain⟨its,rv,p,hz⟩:=I.list hq;obtain⟨f0,f1,f2,f3,f4,f5⟩:=hf it (by simp);have hl:=rv.length;exact wpAny_pyNext_list_end (I.ok.hd hc) st p.isList (by simp;omega) λh' eb=>⟨U,I.turned (t':=s.toks) (λb o hb e=>eb b o hb e) f0 f1 f3 f4 f5⟩
 self:=λ_ _ _ _ _ st h=>wpAny_pyIter_listiter st h
theorem rG{P:Program}{w:World}{K:W.Frag}{tg:Expr}(a it:Addr):dR P w K tg (Itt K a) [it] it (λi h=>h.IsTupleIter it a i) where
 mem:=by simp
 obj:=λi h st b hb=>by
  have e:b=it:=by simpa using hb
  subst e;obtain⟨o,e,c,d⟩:=st;exact⟨o,e,λv z=>by rw[d]at z;cases z⟩
 keep:=λi h h' st k=>st.at λo e=>k it (by simp) o e
 item:=by
  intro X hP hw hK hc i pins s σ H E I hf st hg;subst hP hw hK;obtain⟨xs,x,hq,hx⟩:=hg;obtain⟨its,rv,p,hz⟩:=I.tuple hq;obtain⟨u,hu,ru⟩:=rv.get hx;obtain⟨f0,f1,f2,f3,f4,f5⟩:=hf it (by simp);refine wpAny_pyNext_tuple_item st (show s.heap.IsTuple a its.toArray from p) (x:=u) (by simpa using hu) λh' st' sb=>?_;have I1:Inv X pins σ H { s with heap:=h' }:=I.turned (t':=s.toks) (λb o hb e=>(sb.2 b hb).trans e) f0 f1 f3 f4 f5;obtain⟨o,e,c,d⟩:=id st';exact⟨u,U,iA (s:={ s with heap:=h' }) e c d Qy ⟨x,H,I1,ru,⟨U,λys hy=>by rw[I.tuple_inj hy hq];exact hx⟩,st',λb hb=>(hf b hb).1⟩⟩
 done:=by
  intro X hP hw hK hc i pins s σ H E I hf st hg;subst hP hw hK;obtain⟨xs,hq,hx⟩:=hg;obtain⟨its,rv,p,hz⟩:=I.tuple hq;obtain⟨f0,f1,f2,f3,f4,f5⟩:=hf it (by simp);have hl:=rv.length;exact wpAny_pyNext_tuple_end (I.ok.hd hc) st (show s.heap.IsTuple a its.toArray from p) (by simp;omega) λh' eb=>⟨U,I.turned (t':=s.toks) (λb o hb e=>eb b o hb e) f0 f1 f3 f4 f5⟩
 self:=λ_ _ _ _ _ st h=>wpAny_pyIter_tupleiter st h
theorem rJ{P:Program}{w:World}{K:W.Frag}{tg:Expr}(it:Addr)(lo:Int)(n:Nat):dR P w K tg (Itr lo n) [it] it (λi h=>IsRangeIter h it (lo+(i:Nat) * 1) ((n:Int)-(i:Nat)) 1) where
 mem:=by simp
 obj:=λi h st b hb=>by
  have e:b=it:=by simpa using hb
  subst e
  exact⟨_,st,λv z=>by
   have z':Data.fields _=Data.cell v:=z
   cases z'⟩
 keep:=λi h h' st k=>k it (by simp) _ st
 item:=by
  intro X hP hw hK hc i pins s σ H E I hf st hg;subst hP hw hK;obtain⟨f0,f1,f2,f3,f4,f5⟩:=hf it (by simp);have W:=Walks.range (prog:=X.prog) (w:=X.w) (I.ok.hd hc) it lo 1 n;refine W.item i s _ _ hg st λv h' tk hv st' kk=>?_;obtain⟨t,rfl⟩:=hv;have I1:Inv X pins σ H { s with heap:=h',toks:=tk }:=I.turned (λb o hb e=>kk b o (by simpa using hb) e) f0 f1 f3 f4 f5;refine⟨_,U,iA (s:={ s with heap:=h',toks:=tk }) (n:="range_iterator") st' U U Qy ⟨.int (lo+i),H,I1,⟨t,?_⟩,⟨U,U⟩,st',λb hb=>(hf b hb).1⟩⟩;rw[Int.mul_one]
 done:=by
  intro X hP hw hK hc i pins s σ H E I hf st hg;subst hP hw hK;obtain⟨f0,f1,f2,f3,f4,f5⟩:=hf it (by simp);exact wpAny_pyNext_range_end (I.ok.hd hc) st (by have:n<=i:=hg;omega) λh' eb=>⟨U,I.turned (t':=s.toks) (λb o hb e=>eb b o hb e) f0 f1 f3 f4 f5⟩
 self:=λ_ _ _ _ _ st h=>wpAny_pyIter_rangeiter st h
section
variable {X:Cx}{tg:Expr}
def xJ(K:W.Frag)(tl:TE):TI:=λσ H R=>tl σ H λx H1=>∃a,x=.ref a/\(∃xs,SqL K H1 a xs)/\R (Itl K a) H1
def xH(K:W.Frag)(tl:TE):TI:=λσ H R=>tl σ H λx H1=>∃a,x=.ref a/\(∃xs,SqT K H1 a xs)/\R (Itt K a) H1
theorem cb{l:Expr}{tl:TE}(hl:PE X l tl):PI X tg l (xJ X.K tl):=by
 intro pins s σ H R I h;refine thn (hl pins s σ H _ I h) λv s1 ⟨x,H1,I1,r1,q1⟩=>?_;obtain⟨a,e,⟨xs,hq⟩,q⟩:=q1;subst e;cases r1;obtain⟨its,rv,p,hz⟩:=I1.list hq;refine wpAny_pyIter_list p.isList ?_;refine⟨s1.heap.objs.size,[s1.heap.objs.size],_,_,H1,U,I1.kept (t':=s1.toks) λb o e=>q5 _ e,rK a _,⟨_,qk _ U,U,U⟩,λb hb=>?_,q⟩;have e:b=s1.heap.objs.size:=by simpa using hb
 subst e;exact I1.fpOk (qc _) (I1.hok.fresh (qc _))
theorem jV{l:Expr}{tl:TE}(hl:PE X l tl):PI X tg l (xH X.K tl):=by
 intro pins s σ H R I h;refine thn (hl pins s σ H _ I h) λv s1 ⟨x,H1,I1,r1,q1⟩=>?_;obtain⟨a,e,⟨xs,hq⟩,q⟩:=q1;subst e;cases r1;obtain⟨its,rv,p,hz⟩:=I1.tuple hq;refine wpAny_pyIter_tuple (show s1.heap.IsTuple a its.toArray from p) ?_;refine⟨s1.heap.objs.size,[s1.heap.objs.size],_,_,H1,U,I1.kept (t':=s1.toks) λb o e=>q5 _ e,rG a _,⟨_,qk _ U,U,U⟩,λb hb=>?_,q⟩;have e:b=s1.heap.objs.size:=by simpa using hb
 subst e;exact I1.fpOk (qc _) (I1.hok.fresh (qc _))
theorem ub{pins:List (Addr×Obj)}{σ:St}{H:Hp}{s:Shared}{R:It->Hp->Prop}{E:Qw}{lo hi:Int}{t u v:Tok}{tk:Nat}(I:Inv X pins σ H s)(h1:-(2 ^ 62)<=lo)(h2:lo<2 ^ 62)(h3:-(2 ^ 62)<=hi)(h4:hi<2 ^ 62)
 (q:R (Itr lo (hi-lo).toNat) H):wpAny (model X.prog X.w) X.A (pyIter (.ref s.heap.objs.size)) (PIE X pins σ tg R) E { s with heap:=s.heap.push { cls:=.type "range",data:=.fields #[.int lo t,.int hi u,.int 1 v] },toks:=tk }:=by
 refine wpAny_pyIter_range (IsRange.new ..) (small_one h1 h2 h3 h4) ?_;have I1:Inv X pins σ H { s with heap:=s.heap.push { cls:=.type "range",data:=.fields #[.int lo t,.int hi u,.int 1 v] },toks:=tk }:=I.kept λb o e=>q5 _ e
 refine⟨(s.heap.push { cls:=.type "range",data:=.fields #[.int lo t,.int hi u,.int 1 v] }).objs.size,[(s.heap.push { cls:=.type "range",data:=.fields #[.int lo t,.int hi u,.int 1 v] }).objs.size],_,_,H,U,
  I1.kept (t':=tk) λb o e=>q5 _ e,rJ _ lo (hi-lo).toNat,?_,λb hb=>?_,q⟩
 ·have e1:lo+((0:Nat):Int) * 1=lo:=by simp
  have e2:(((hi-lo).toNat:Nat):Int)-((0:Nat):Int)=Builtin.Range.rangeSize lo hi 1:=by rw[rangeSize_one];split<;>omega
  show IsRangeIter _ _ (lo+((0:Nat):Int) * 1) ((((hi-lo).toNat:Nat):Int)-((0:Nat):Int)) 1;rw[e1,e2];exact qk _ U
 ·have e:b=(s.heap.push { cls:=.type "range",data:=.fields #[.int lo t,.int hi u,.int 1 v] }).objs.size:=by simpa using hb
  subst e;exact I1.fpOk (qc _) (I1.hok.fresh (qc _))
def ko(ta:TA):TI:=λσ H R=>ta σ H λvs H1=>∃j:Int,vs=[.int j]/\-(2 ^ 62)<=j/\j<2 ^ 62/\R (Itr 0 j.toNat) H1
theorem uN{a:Expr}{ta:TA}{p pos:Pos}(hg:Gl X "range")(hm:X.mg "range"=none)(ha:PA X [a] ta)(hs:starEach [a] X.env=[(false,eval a X.env)]:=by rfl):PI X tg (.Call (.Name "range" p) [a] [] pos) (ko ta):=by
 intro pins s σ H R I h;refine Call_ (cV I hg hm boot_range (PyProof.Rows.callWith_type1 (thn (ha pos pins s σ H _ I h) λus s1 ⟨vs,H1,I1,r1,q1⟩=>?_) hs U));obtain⟨j,e,q1,q2,q⟩:=q1;subst e
 cases r1 with
 |cons r rr=>
  cases rr;obtain⟨t,rfl⟩:=r;exact call_range_1 (ub I1 Qz Qz q1 q2 (by simpa using q))
def sf(wi:TI)(g:TG)(tb:TS):TS:=λD σ H=>wi σ H λJ H1=>∃W:Nat->Nat->St->Hp->Prop,(∃m,W 0 m σ H1)/\∀i m σ H,W i m σ H->
 (J.stop i H/\D.nx σ H)\/(J.go i H/\∃N:St->Hp->Prop,(∀σ' H',N σ' H'->∃m',m'<m/\W (i+1) m' σ' H')/\∀x H',J.yld i H x H'->g x σ H' λσ2 H2=>tb { D with nx:=N,ct:=N,bk:=D.nx } σ2 H2)
def g9(fp:List Addr)(h:Heap):List (Addr×Obj):=fp.filterMap λb=>(h.get? b).map λo=>(b,o)
theorem ig{fp:List Addr}{h:Heap}{b:Addr}{o:Obj}(hb:b∈fp)(e:h.get? b=some o):(b,o)∈g9 fp h:=List.mem_filterMap.mpr ⟨b,hb,by rw[e];rfl⟩
theorem wA{fp:List Addr}{h:Heap}{p:Addr×Obj}(hp:p∈g9 fp h):p.1∈fp/\h.get? p.1=some p.2:=by
 obtain⟨b,hb,e⟩:=List.mem_filterMap.mp hp
 cases q:h.get? b with
 |none=>rw[q]at e;cases e
 |some o=>
  rw[q]at e;have e':(b,o)=p:=qH e;subst e';exact⟨hb,q⟩
theorem Inv.pinned{pins:List (Addr×Obj)}{σ:St}{H:Hp}{s:Shared}{fp:List Addr}(I:Inv X pins σ H s)(hf:∀b∈fp,ca X pins H b)(ho:∀b∈fp,∃o,s.heap.get? b=some o/\∀v,o.data≠.cell v):Inv X (pins++g9 fp s.heap) σ H s:=
 I.pins_of λp hp=>(qf.mp hp).elim (λz=>I.pin p (qG _ z)) λz=>by
  obtain⟨hb,e⟩:=wA z;obtain⟨f0,f1,f2,_⟩:=hf p.1 hb;obtain⟨o,e',d⟩:=ho p.1 hb;rw[e]at e';cases e';exact⟨e,f0,f1,f2,d⟩
theorem Inv.unpinned{pins pl:List (Addr×Obj)}{σ:St}{H:Hp}{s:Shared}(I:Inv X (pins++pl) σ H s):Inv X pins σ H s:=I.pins_of λp hp=>I.pin p (qG _ (qT _ hp))
theorem cH{iter:Expr}{body:List Stmt}{wi:TI}{g:TG}{tb:TS}{pos:Pos}(hp:PassesOwn (model X.prog X.w) X.A X.env X.xe)(hc:X.calm=true)(hi:PI X tg iter wi)(hg:PG X tg g)(hb:PSs X body tb)
 (hs:∀x,foldedSetIterable iter X.env x=pure x:=by intro _;rfl):PS X (.For tg iter body [] pos) (sf wi g tb):=by
 intro pins s σ H D I h;refine wpAny_For (thn (hi pins s σ H _ I h) λv s1 h1=>thn h1 λitv s2 h2=>?_) hs;obtain⟨it,fp,tn,J,H2,e,I2,T,st2,f2,W,⟨m0,w0⟩,turn⟩:=h2;subst e;have stat:∀{H':Hp},(∀b∈fp,H' b=none)->∀b∈fp,ca X pins H' b:=λhn b hb=>⟨hn b hb,(f2 b hb).2⟩;refine codeAny_forLoop_any (λn s'=>∃i σ' H',Inv X pins σ' H' s'/\tn i s'.heap/\(∀b∈fp,H' b=none)/\W i n σ' H') ?_ m0 ⟨0,σ,H2,I2,st2,λb hb=>(f2 b hb).1,w0⟩;rintro n s3 ⟨i,σ3,H3,I3,st3,fr3,w3⟩;rcases turn i n σ3 H3 w3 with⟨stop,qn⟩|⟨go,N,hN,step⟩
 ·refine wpAny_passesOwn hp (thn (T.done X U U U hc i pins s3 σ3 H3 X.xe I3 (stat fr3) st3 stop) λr s4 ⟨hr,I4⟩=>?_);subst hr;exact wpAny_execs_nil ⟨σ3,H3,I4,qn⟩
 ·refine wpAny_passesOwn hp (thn (T.item X U U U hc i pins s3 σ3 H3 X.xe I3 (stat fr3) st3 go) λr s4 ⟨u,hr,h4⟩=>?_);subst hr;refine wpAny_passesOwn hp (thn h4 λ_ s5 ⟨x,H5,I5,r5,y5,st5,fr5⟩=>?_);have I5':=I5.pinned (stat fr5) (T.obj _ _ st5);refine wpAny_passesOwn hp (thn (hg _ s5 σ3 H5 x u _ I5' r5 (step x H5 y5)) λ_ s6 ⟨σ6,H6,I6,q6⟩=>?_);refine wpAny_passesOwn hp (thn (hb _ s6 σ6 H6 _ I6 q6) λf s7 q7=>?_)
  have again:∀{σ7:St}{H7:Hp},Inv X (pins++g9 fp s5.heap) σ7 H7 s7->N σ7 H7->∃m,m<n/\∃i σ' H',Inv X pins σ' H' s7/\tn i s7.heap/\(∀b∈fp,H' b=none)/\W i m σ' H':=λ{σ7 H7} I7 n7=>by
   obtain⟨m',hm,w7⟩:=hN σ7 H7 n7;refine⟨m',hm,i+1,σ7,H7,I7.unpinned,T.keep _ _ _ st5 λb hb o e=>(I7.pin (b,o) (qG _ (qG _ (ig hb e)))).1,λb hb=>?_,w7⟩;obtain⟨o,e,d⟩:=T.obj _ _ st5 b hb;exact(I7.pin (b,o) (qG _ (qG _ (ig hb e)))).2.1
  cases f with
  |next=>obtain⟨σ7,H7,I7,n7⟩:=q7;exact again I7 n7
  |cont=>obtain⟨σ7,H7,I7,n7⟩:=q7;exact again I7 n7
  |brk=>obtain⟨σ7,H7,I7,q7⟩:=q7;exact⟨σ7,H7,I7.unpinned,q7⟩
  |ret v=>obtain⟨x7,σ7,H7,I7,r7,q7⟩:=q7;exact⟨x7,σ7,H7,I7.unpinned,r7,q7⟩
end
theorem gz{K:W.Frag}{a:Addr}{xs:List V}{g:TG}{tb:TS}{D:dc}{σ:St}{H:Hp}(Pv:Nat->St->Hp->Prop)(h0:Pv 0 σ H)(hl:∀i σ H,i<=xs.length->Pv i σ H->SqL K H a xs)
 (hs:∀i x σ H,xs[i]?=some x->Pv i σ H->g x σ H λσ2 H2=>tb { D with nx:=Pv (i+1),ct:=Pv (i+1),bk:=D.nx } σ2 H2) (hd:∀σ H,Pv xs.length σ H->D.nx σ H):
 ∃W:Nat->Nat->St->Hp->Prop,(∃m,W 0 m σ H)/\∀i m σ H,W i m σ H->
  ((Itl K a).stop i H/\D.nx σ H)\/((Itl K a).go i H/\∃N:St->Hp->Prop,(∀σ' H',N σ' H'->∃m',m'<m/\W (i+1) m' σ' H')/\∀x H',(Itl K a).yld i H x H'->g x σ H' λσ2 H2=>tb { D with nx:=N,ct:=N,bk:=D.nx } σ2 H2):=by
 refine⟨λi m σ H=>m=xs.length-i/\i<=xs.length/\Pv i σ H,⟨xs.length,by simp,qq _,h0⟩,?_⟩;rintro i m σ H ⟨rfl,hi,p⟩;have q:=hl i σ H hi p;by_cases hlt:i<xs.length
 ·refine .inr ⟨⟨xs,xs[i],q,by simp[hlt]⟩,Pv (i+1),λσ' H' p'=>⟨xs.length-(i+1),Qz,U,hlt,p'⟩,λx H' y=>?_⟩;obtain⟨e,y⟩:=y;subst e;exact hs i x σ _ (y xs q) p
 ·have e:i=xs.length:=by omega
  subst e;exact .inl ⟨⟨xs,q,qc _⟩,hd σ H p⟩
theorem oR{K:W.Frag}{a:Addr}{xs:List V}{g:TG}{tb:TS}{D:dc}{σ:St}{H:Hp}(Pv:Nat->St->Hp->Prop)(h0:Pv 0 σ H)(hl:∀i σ H,i<=xs.length->Pv i σ H->SqT K H a xs)
 (hs:∀i x σ H,xs[i]?=some x->Pv i σ H->g x σ H λσ2 H2=>tb { D with nx:=Pv (i+1),ct:=Pv (i+1),bk:=D.nx } σ2 H2) (hd:∀σ H,Pv xs.length σ H->D.nx σ H):
 ∃W:Nat->Nat->St->Hp->Prop,(∃m,W 0 m σ H)/\∀i m σ H,W i m σ H->
  ((Itt K a).stop i H/\D.nx σ H)\/((Itt K a).go i H/\∃N:St->Hp->Prop,(∀σ' H',N σ' H'->∃m',m'<m/\W (i+1) m' σ' H')/\∀x H',(Itt K a).yld i H x H'->g x σ H' λσ2 H2=>tb { D with nx:=N,ct:=N,bk:=D.nx } σ2 H2):=by
 refine⟨λi m σ H=>m=xs.length-i/\i<=xs.length/\Pv i σ H,⟨xs.length,by simp,qq _,h0⟩,?_⟩;rintro i m σ H ⟨rfl,hi,p⟩;have q:=hl i σ H hi p;by_cases hlt:i<xs.length
 ·refine .inr ⟨⟨xs,xs[i],q,by simp[hlt]⟩,Pv (i+1),λσ' H' p'=>⟨xs.length-(i+1),Qz,U,hlt,p'⟩,λx H' y=>?_⟩;obtain⟨e,y⟩:=y;subst e;exact hs i x σ _ (y xs q) p
 ·have e:i=xs.length:=by omega
  subst e;exact .inl ⟨⟨xs,q,qc _⟩,hd σ H p⟩
theorem gy{lo:Int}{n:Nat}{g:TG}{tb:TS}{D:dc}{σ:St}{H:Hp}(Pv:Nat->St->Hp->Prop)(h0:Pv 0 σ H)
 (hs:∀i σ H,i<n->Pv i σ H->g (.int (lo+i)) σ H λσ2 H2=>tb { D with nx:=Pv (i+1),ct:=Pv (i+1),bk:=D.nx } σ2 H2) (hd:∀σ H,Pv n σ H->D.nx σ H):
 ∃W:Nat->Nat->St->Hp->Prop,(∃m,W 0 m σ H)/\∀i m σ H,W i m σ H->
  ((Itr lo n).stop i H/\D.nx σ H)\/((Itr lo n).go i H/\∃N:St->Hp->Prop,(∀σ' H',N σ' H'->∃m',m'<m/\W (i+1) m' σ' H')/\∀x H',(Itr lo n).yld i H x H'->g x σ H' λσ2 H2=>tb { D with nx:=N,ct:=N,bk:=D.nx } σ2 H2):=by
 refine⟨λi m σ H=>m=n-i/\i<=n/\Pv i σ H,⟨n,by simp,qq _,h0⟩,?_⟩;rintro i m σ H ⟨rfl,hi,p⟩;by_cases hlt:i<n
 ·refine .inr ⟨hlt,Pv (i+1),λσ' H' p'=>⟨n-(i+1),Qz,U,hlt,p'⟩,λx H' y=>?_⟩;obtain⟨e,y⟩:=y;subst e y;exact hs i σ _ hlt p
 ·have e:i=n:=by omega
  subst e;exact .inl ⟨qc _,hd σ H p⟩
abbrev R2:=V->V->Hp->VK->Prop
def OpR(X:Cx)(f:Value->Value->Sem Value)(r:R2):Prop:=
 ∀(pins:List (Addr×Obj))(s:Shared)(σ:St)(H:Hp)(x y:V)(v u:Value)(Q:VK),Inv X pins σ H s->au x v->au y u->r x y H Q->
  wpAny (model X.prog X.w) X.A (f v u) (EP X pins σ Q) X.xe s
def UnR(X:Cx)(f:Value->Sem Value)(r:V->Hp->VK->Prop):Prop:=
 ∀(pins:List (Addr×Obj))(s:Shared)(σ:St)(H:Hp)(x:V)(v:Value)(Q:VK),Inv X pins σ H s->au x v->r x H Q->
  wpAny (model X.prog X.w) X.A (f v) (EP X pins σ Q) X.xe s
def bW(X:Cx)(f:Value)(r:List V->Hp->VK->Prop):Prop:=
 ∀(pins:List (Addr×Obj))(s:Shared)(σ:St)(H:Hp)(xs:List V)(us:List Value)(Q:VK),Inv X pins σ H s->aq xs us->r xs H Q->
  wpAny (model X.prog X.w) X.A (call f us) (EP X pins σ Q) X.xe s
def TruR(X:Cx)(r:V->Hp->(Bool->Hp->Prop)->Prop):Prop:=
 ∀(pins:List (Addr×Obj))(s:Shared)(σ:St)(H:Hp)(x:V)(v:Value)(Q:Bool->Hp->Prop),Inv X pins σ H s->au x v->r x H Q->
  wpAny (model X.prog X.w) X.A (truthy v) (TP X pins σ Q) X.xe s
def tOp(r:R2)(ta tb:TE):TE:=λσ H Q=>ta σ H λx H1=>tb σ H1 λy H2=>r x y H2 Q
def tUn(r:V->Hp->VK->Prop)(ta:TE):TE:=λσ H Q=>ta σ H λx H1=>r x H1 Q
def rI(C:Int->Int->Prop)(g:Int->Int->V):R2:=λx y H Q=>∃i j,x=.int i/\y=.int j/\C i j/\Q (g i j) H
def rI0(g:Int->Int->V):R2:=λx y H Q=>∃i j,x=.int i/\y=.int j/\Q (g i j) H
def rU(g:Int->V):V->Hp->VK->Prop:=λx H Q=>∃i,x=.int i/\Q (g i) H
section
variable {X:Cx}{a b c:Expr}{ta tb tc:TE}{pos:Pos}
theorem kL(ha:PE X a ta)(hb:PE X b tb){pins:List (Addr×Obj)}{s:Shared}{σ:St}{H:Hp}{R:V->V->Hp->Prop}(I:Inv X pins σ H s)
 (h:ta σ H λx H1=>tb σ H1 λy H2=>R x y H2) {Q:Qw}{f:Value->Value->Sem Value}
 (hf:∀v u s2 x y H2,Inv X pins σ H2 s2->au x v->au y u->R x y H2->wpAny (model X.prog X.w) X.A (f v u) Q X.xe s2):
 wpAny (model X.prog X.w) X.A (eval a X.env) (λv s₁=>wpAny (model X.prog X.w) X.A (eval b X.env) (λu s₂=>wpAny (model X.prog X.w) X.A (f v u) Q X.xe s₂) X.xe s₁) X.xe s:=by
 refine thn (ha pins s σ H _ I h) λv s1 ⟨x,H1,I1,r1,q1⟩=>?_;refine thn (hb pins s1 σ H1 _ I1 q1) λu s2 ⟨y,H2,I2,r2,q2⟩=>?_;exact hf v u s2 x y H2 I2 r1 r2 q2
theorem ah{op:Operator}{r:R2}(ho:OpR X (binaryOp op) r)(ha:PE X a ta)(hb:PE X b tb):PE X (.BinOp a op b pos) (tOp r ta tb):=by
 intro pins s σ H Q I h;exact wpAny_BinOp (kL ha hb I h λv u s2 x y H2 I2 rx ry q=>ho pins s2 σ H2 x y v u Q I2 rx ry q)
theorem uQ{op:UnaryOp}{r:V->Hp->VK->Prop}(ho:UnR X (unaryOp op) r)(ha:PE X a ta):PE X (.UnaryOp op a pos) (tUn r ta):=by
 intro pins s σ H Q I h;exact UnaryOp_ (thn (ha pins s σ H _ I h) λv s1 ⟨x,H1,I1,r1,q1⟩=>ho pins s1 σ H1 x v Q I1 r1 q1)
theorem opI{f:Value->Value->Sem Value}{C:Int->Int->Prop}{g:Int->Int->Int}
 (rule:∀(i j:Int)(t u:Tok)(s:Shared)(Q:Qw)(E:Qw),C i j->Q (.int (g i j) s.toks) { s with toks:=s.toks+1 }->wpAny (model X.prog X.w) X.A (f (.int i t) (.int j u)) Q E s):
 OpR X f (rI C λi j=>.int (g i j)):=by
 intro pins s σ H x y v u Q I rx ry h;obtain⟨i,j,rfl,rfl,hc,q⟩:=h;obtain⟨t,rfl⟩:=rx;obtain⟨t',rfl⟩:=ry;exact rule i j t t' s _ _ hc ⟨.int (g i j),H,I.tok _,⟨_,U⟩,q⟩
theorem gh{f:Value->Value->Sem Value}{g:Int->Int->Int}
 (rule:∀(i j:Int)(t u:Tok)(s:Shared)(Q:Qw)(E:Qw),Q (.int (g i j) s.toks) { s with toks:=s.toks+1 }->wpAny (model X.prog X.w) X.A (f (.int i t) (.int j u)) Q E s):
 OpR X f (rI0 λi j=>.int (g i j)):=by
 intro pins s σ H x y v u Q I rx ry h;obtain⟨i,j,rfl,rfl,q⟩:=h;obtain⟨t,rfl⟩:=rx;obtain⟨t',rfl⟩:=ry;exact rule i j t t' s _ _ ⟨.int (g i j),H,I.tok _,⟨_,U⟩,q⟩
theorem nQ{f:Value->Value->Sem Value}{g:Int->Int->Bool}
 (rule:∀(i j:Int)(t u:Tok)(s:Shared)(Q:Qw)(E:Qw),Q (.bool (g i j)) s->wpAny (model X.prog X.w) X.A (f (.int i t) (.int j u)) Q E s):
 OpR X f (rI0 λi j=>.bl (g i j)):=by
 intro pins s σ H x y v u Q I rx ry h;obtain⟨i,j,rfl,rfl,q⟩:=h;obtain⟨t,rfl⟩:=rx;obtain⟨t',rfl⟩:=ry;exact rule i j t t' s _ _ ⟨.bl (g i j),H,I,U,q⟩
def yY(i j:Int):Prop:=0<j/\j<1073741824
def yX(i j:Int):Prop:=0<=j/\j<=1000000/\i.natAbs<2 ^ 64
theorem vx:OpR X (binaryOp .Add) (rI0 λi j=>.int (i+j)):=gh λ_ _ _ _ _ _ _ q=>add_int q
theorem vc:OpR X (binaryOp .Sub) (rI0 λi j=>.int (i-j)):=gh λ_ _ _ _ _ _ _ q=>sub_int q
theorem vo:OpR X (binaryOp .FloorDiv) (rI yY λi j=>.int (i / j)):=opI λi j _ _ _ _ _ hc q=>by
 have h1:(0:Int)<j:=hc.1;have h2:j<1073741824:=hc.2;exact floordiv_int Qz (by rw[Int.fdiv_eq_ediv_of_nonneg i Qz];exact q) (.inl (PyProof.noPylong_small Qz))
theorem vj:OpR X (binaryOp .Mod) (rI (λ_ j=>0<j) λi j=>.int (i % j)):=opI λi j _ _ _ _ _ hc q=>by
 have h1:(0:Int)<j:=hc;exact mod_int' Qz (by rw[Int.fmod_eq_emod_of_nonneg i Qz];exact q)
theorem vd:OpR X (binaryOp .Pow) (rI yX λi j=>.int (i ^ j.toNat)):=opI λ_ _ _ _ _ _ _ hc q=>pow_int_small hc.1 hc.2.1 hc.2.2 q
theorem vv:OpR X (binaryOp .BitAnd) (rI0 λi j=>.int (Builtin.bitAnd i j)):=gh λ_ _ _ _ _ _ _ q=>and_int q
theorem ve:OpR X (binaryOp .BitOr) (rI0 λi j=>.int (Builtin.bitOr i j)):=gh λ_ _ _ _ _ _ _ q=>or_int q
theorem vb:OpR X (binaryOp .BitXor) (rI0 λi j=>.int (Builtin.bitXor i j)):=gh λ_ _ _ _ _ _ _ q=>xor_int q
theorem unI{f:Value->Sem Value}{g:Int->Int}
 (rule:∀(i:Int)(t:Tok)(s:Shared)(Q:Qw)(E:Qw),Q (.int (g i) s.toks) { s with toks:=s.toks+1 }->wpAny (model X.prog X.w) X.A (f (.int i t)) Q E s):
 UnR X f (rU λi=>.int (g i)):=by
 intro pins s σ H x v Q I rx h;obtain⟨i,rfl,q⟩:=h;obtain⟨t,rfl⟩:=rx;exact rule i t s _ _ ⟨.int (g i),H,I.tok _,⟨_,U⟩,q⟩
theorem rD:UnR X (unaryOp .USub) (rU λi=>.int (-i)):=unI λ_ _ _ _ _ q=>neg_int q
end
def gO:V->V->Bool
 |.non,.non=>true|.non,.int _=>true|.int _,.non=>true|.non,.bl _=>true|.bl _,.non=>true|.non,.str _=>true|.str _,.non=>true
 |.int _,.int _=>true|.bl _,.bl _=>true|.str _,.str _=>true|.byt _,.byt _=>true
 |.int _,.str _=>true|.str _,.int _=>true|.bl _,.str _=>true|.str _,.bl _=>true
 |_,_=>false
def rEq:R2:=λx y H Q=>gO x y=true/\Q (.bl (decide (x=y))) H
def rNe:R2:=λx y H Q=>gO x y=true/\Q (.bl (!decide (x=y))) H
theorem oX{i j:Int}:decide (V.int i=V.int j)=(i == j):=by
 rw[Bool.eq_iff_iff];simp
theorem oZ{i j:Bool}:decide (V.bl i=V.bl j)=(i == j):=by
 rw[Bool.eq_iff_iff];simp
theorem oW{i j:Str}:decide (V.str i=V.str j)=(i == j):=by
 rw[Bool.eq_iff_iff];simp
theorem oY{i j:Array UInt8}:decide (V.byt i=V.byt j)=(i.toList == j.toList):=by
 rw[Bool.eq_iff_iff];cases i;cases j;simp
section
variable {X:Cx}{a b c:Expr}{ta tb tc:TE}{pos:Pos}
theorem bh{pins:List (Addr×Obj)}{σ:St}{H:Hp}{s:Shared}{Q:VK}{k k':Bool}(I:Inv X pins σ H s)(q:Q (.bl k) H)(e:k=k'):EP X pins σ Q (.bool k') s:=by
 subst e;exact⟨.bl k,H,I,U,q⟩
theorem vp:OpR X (compareOp .Eq) rEq:=by
 intro pins s σ H x y v u Q I rx ry h;obtain⟨hs,q⟩:=h
 cases x with
 |non=>
  cases rx
  cases y with
  |non=>cases ry;exact PySem.EqNone.eq_none_none (bh I q (by simp))
  |bl j=>cases ry;exact PySem.EqNone.eq_none_bool (bh I q (by simp))
  |int j=>obtain⟨t',rfl⟩:=ry;exact PySem.EqNone.eq_none_int (bh I q (by simp))
  |str j=>obtain⟨t',rfl⟩:=ry;exact PySem.EqNone.eq_none_str (bh I q (by simp))
  |_=>exact Q1 (show false=true from hs) qg
 |bl i=>
  cases rx
  cases y with
  |non=>cases ry;exact PySem.EqNone.eq_bool_none (bh I q (by simp))
  |bl j=>cases ry;exact eq_bool (bh I q oZ)
  |str j=>obtain⟨t',rfl⟩:=ry;exact PySem.EqMixed.eq_bool_str (bh I q (by simp))
  |_=>exact Q1 (show false=true from hs) qg
 |int i=>
  obtain⟨t,rfl⟩:=rx
  cases y with
  |non=>cases ry;exact PySem.EqNone.eq_int_none (bh I q (by simp))
  |int j=>obtain⟨t',rfl⟩:=ry;exact eq_int (bh I q oX)
  |str j=>obtain⟨t',rfl⟩:=ry;exact PySem.EqMixed.eq_int_str (bh I q (by simp))
  |_=>exact Q1 (show false=true from hs) qg
 |str i=>
  obtain⟨t,rfl⟩:=rx
  cases y with
  |non=>cases ry;exact PySem.EqNone.eq_str_none (bh I q (by simp))
  |bl j=>cases ry;exact PySem.EqMixed.eq_str_bool (bh I q (by simp))
  |int j=>obtain⟨t',rfl⟩:=ry;exact PySem.EqMixed.eq_str_int (bh I q (by simp))
  |str j=>obtain⟨t',rfl⟩:=ry;exact eq_str (bh I q oW)
  |_=>exact Q1 (show false=true from hs) qg
 |byt i=>
  obtain⟨t,rfl⟩:=rx
  cases y with
  |byt j=>obtain⟨t',rfl⟩:=ry;exact PySem.W.eq_bytes (bh I q oY)
  |_=>exact Q1 (show false=true from hs) qg
 |_=>cases y<;>exact Q1 (show false=true from hs) qg
theorem vh:OpR X (compareOp .NotEq) rNe:=by
 intro pins s σ H x y v u Q I rx ry h;obtain⟨hs,q⟩:=h
 cases x with
 |non=>
  cases rx
  cases y with
  |non=>cases ry;exact PySem.EqNone.ne_none_none (bh I q (by simp))
  |bl j=>cases ry;exact PySem.EqNone.ne_none_bool (bh I q (by simp))
  |int j=>obtain⟨t',rfl⟩:=ry;exact PySem.EqNone.ne_none_int (bh I q (by simp))
  |str j=>obtain⟨t',rfl⟩:=ry;exact PySem.EqNone.ne_none_str (bh I q (by simp))
  |_=>exact Q1 (show false=true from hs) qg
 |bl i=>
  cases rx
  cases y with
  |non=>cases ry;exact PySem.EqNone.ne_bool_none (bh I q (by simp))
  |bl j=>cases ry;exact ne_bool (bh I q (congrArg not oZ))
  |str j=>obtain⟨t',rfl⟩:=ry;exact PySem.EqMixed.ne_bool_str (bh I q (by simp))
  |_=>exact Q1 (show false=true from hs) qg
 |int i=>
  obtain⟨t,rfl⟩:=rx
  cases y with
  |non=>cases ry;exact PySem.EqNone.ne_int_none (bh I q (by simp))
  |int j=>obtain⟨t',rfl⟩:=ry;exact ne_int (bh I q (congrArg not oX))
  |str j=>obtain⟨t',rfl⟩:=ry;exact PySem.EqMixed.ne_int_str (bh I q (by simp))
  |_=>exact Q1 (show false=true from hs) qg
 |str i=>
  obtain⟨t,rfl⟩:=rx
  cases y with
  |non=>cases ry;exact PySem.EqNone.ne_str_none (bh I q (by simp))
  |bl j=>cases ry;exact PySem.EqMixed.ne_str_bool (bh I q (by simp))
  |int j=>obtain⟨t',rfl⟩:=ry;exact PySem.EqMixed.ne_str_int (bh I q (by simp))
  |str j=>obtain⟨t',rfl⟩:=ry;exact ne_str (bh I q (congrArg not oW))
  |_=>exact Q1 (show false=true from hs) qg
 |byt i=>
  obtain⟨t,rfl⟩:=rx
  cases y with
  |byt j=>obtain⟨t',rfl⟩:=ry;exact PySem.W.ne_bytes (bh I q (congrArg not oY))
  |_=>exact Q1 (show false=true from hs) qg
 |_=>cases y<;>exact Q1 (show false=true from hs) qg
theorem vk:OpR X (compareOp .Lt) (rI0 λi j=>.bl (decide (i<j))):=nQ λ_ _ _ _ _ _ _ q=>lt_int q
theorem vn:OpR X (compareOp .Gt) (rI0 λi j=>.bl (decide (j<i))):=nQ λ_ _ _ _ _ _ _ q=>gt_int q
theorem vm:OpR X (compareOp .Is) (λx y H Q=>y=.non/\Q (.bl (decide (x=.non))) H):=by
 intro pins s σ H x y v u Q I rx ry h;obtain⟨rfl,q⟩:=h;cases ry;refine is_none_gen (bh I q ?_)
 cases x<;>first
  |(cases rx;rfl)
  |(obtain⟨t,rfl⟩:=rx;rfl)
theorem vf:OpR X (compareOp .IsNot) (λx y H Q=>y=.non/\Q (.bl (!decide (x=.non))) H):=by
 intro pins s σ H x y v u Q I rx ry h;obtain⟨rfl,q⟩:=h;cases ry;refine isnot_none_gen (bh I q ?_)
 cases x<;>first
  |(cases rx;rfl)
  |(obtain⟨t,rfl⟩:=rx;rfl)
theorem aB(b:Expr){op:CmpOp}(h:op≠.In:=by decide)(h2:op≠.NotIn:=by decide):behindInMarks op b=false:=by
 have e1:(op == CmpOp.In)=false:=by cases op<;>first|rfl|exact Q1 U h
 have e2:(op == CmpOp.NotIn)=false:=by cases op<;>first|rfl|exact Q1 U h2
 cases b<;>simp[behindInMarks,e1,e2]
theorem eZ{op:CmpOp}{r:R2}(ho:OpR X (compareOp op) r)(ha:PE X a ta)(hb:PE X b tb)(hm:behindInMarks op b=false):PE X (.Compare a [op] [b] pos) (tOp r ta tb):=by
 intro pins s σ H Q I h;exact wpAny_Compare1 (kL ha hb I h λv u s2 x y H2 I2 rx ry q=>ho pins s2 σ H2 x y v u Q I2 rx ry q) hm
def iR(t:TE):TT:=λσ H Q=>t σ H λx H'=>∃k,x=.bl k/\Q k H'
theorem uB{op:CmpOp}{r:R2}(ho:OpR X (compareOp op) r)(ha:PE X a ta)(hb:PE X b tb)(hm:behindInMarks op b=false):PT X (.Compare a [op] [b] pos) (iR (tOp r ta tb)):=by
 intro pins s σ H Q I h
 refine wpAny_isTrue_Compare1 (thn (ha pins s σ H _ I h) λv s1 ⟨x,H1,I1,r1,q1⟩=>thn (hb pins s1 σ H1 _ I1 q1) λu s2 ⟨y,H2,I2,r2,q2⟩=>
  thn (ho pins s2 σ H2 x y v u _ I2 r1 r2 q2) λc s3 ⟨z,H3,I3,r3,k,e,q3⟩=>?_) hm
 subst e;cases r3;exact wpAny_truthy_bool ⟨H3,I3,q3⟩
theorem ii:(sizeLine:Nat)<2 ^ 63:=by rw[sizeLine_eq];decide
theorem dC{x:V}{us:List Value}(r:aq [x] us):∃u,us=[u]/\au x u:=by
 cases r with
 |cons r1 r2=>cases r2;exact⟨_,U,r1⟩
theorem fG{x y:V}{us:List Value}(r:aq [x,y] us):∃u w',us=[u,w']/\au x u/\au y w':=by
 cases r with
 |cons r1 r2=>
  cases r2 with
  |cons r3 r4=>cases r4;exact⟨_,_,U,r1,r3⟩
theorem kK(hc:X.calm=true):bW X (.builtin "max") (λxs H Q=>∃i j,xs=[.int i,.int j]/\Q (.int (if j > i then j else i)) H):=by
 intro pins s σ H xs us Q I r h;obtain⟨i,j,rfl,q⟩:=h;obtain⟨u,w',rfl,⟨t,rfl⟩,⟨t',rfl⟩⟩:=fG r;refine max_two_ints (I.ok.hd hc) λh' tk k=>⟨_,H,I.kept k,?_,q⟩;by_cases hj:j > i
 ·rw[qY hj,qY hj];exact⟨_,U⟩
 ·rw[qX hj,qX hj];exact⟨_,U⟩
theorem yD(hc:X.calm=true):bW X (.builtin "min") (λxs H Q=>∃i j,xs=[.int i,.int j]/\Q (.int (if j<i then j else i)) H):=by
 intro pins s σ H xs us Q I r h;obtain⟨i,j,rfl,q⟩:=h;obtain⟨u,w',rfl,⟨t,rfl⟩,⟨t',rfl⟩⟩:=fG r;refine min_two_ints (I.ok.hd hc) λh' tk k=>⟨_,H,I.kept k,?_,q⟩;by_cases hj:j<i
 ·rw[qY hj,qY hj];exact⟨_,U⟩
 ·rw[qX hj,qX hj];exact⟨_,U⟩
end
structure eN(h:Heap)(x dx C:Addr)(mA:Str->Option Value):Prop where
 obj:h.get? x=some (PySem.W.instObj C dx)
 ns:h.Ns1 dx mA
 ne:dx≠x
theorem wX{h:Heap}{dx:Addr}{mA:Str->Option Value}(n:h.Ns1 dx mA):∃od,h.get? dx=some od/\∀name,PySem.W.lookIn name od=some (mA name):=by
 obtain⟨o,es,ep,ho,hd,hk,_,hm⟩:=n;refine⟨o,ho,λname=>?_⟩;have e:=hm name;unfold nsFind findBy at e;rw[<- Array.find?_toList]at e;unfold PySem.W.lookIn;rw[hd];dsimp only;split
 ·rename_i y q;rw[q]at e;exact congrArg some e
 ·rename_i q;rw[q]at e
  have a:es.toList.any (·.refKey)=false:=by
   rw[List.any_eq_false];intro y hy;obtain⟨z,t,hkey⟩:=hk y (Array.mem_toList_iff.mp hy);simp[DictEntry.refKey,hkey]
  have a':¬ es.toList.any (·.refKey)=true:=by rw[a];exact qg
  rw[qX a'];exact congrArg some e
theorem eN.look{h:Heap}{x dx C:Addr}{mA:Str->Option Value}(I:eN h x dx C mA):∃od,PySem.W.InstAt h x (PySem.W.instObj C dx) C (some od)/\∀name,PySem.W.lookIn name od=some (mA name):=
 let ⟨od,ho,hl⟩:=wX I.ns
 ⟨od,⟨I.obj,U,U,ho⟩,hl⟩
section
variable {prog:Program}{w:World}{A:Around}{E:Qw}{s:Shared}{K:W.Frag}{x dx C f:Addr}{mA:Str->Option Value}{name:Str}{v:Value}
theorem xS{expr:Bool}{Q:Qw}(X:K.In s.heap)(I:eN s.heap x dx C mA)(hg:PySem.W.plainGet K C name=true)(hh:PySem.W.hasDictIn K C=true)
 (ha:PySem.W.findIn K (.ref C) name=some none) (hv:mA name=some v) (hv':PySem.W.handedIn v=true) (h:Q v { s with toks:=s.toks+1 }):
 wpAny (model prog w) A (getAttr (.ref x) name expr) Q E s:=by
 obtain⟨od,J,hl⟩:=I.look;exact PySem.W.get_value X J (PySem.W.plainGet_of hg).1 (PySem.W.findObj_own hh ha U (by rw[hl,hv])) hv' h
theorem xR{pl:Sem Bool}{Q:Value×List Value->Shared->Prop}(X:K.In s.heap)(I:eN s.heap x dx C mA)(hg:PySem.W.plainGet K C name=true)
 (hf:PySem.W.findIn K (.ref C) name=some (some (.ref f))) (ht:PySem.W.isFn K (.ref f)=true) (hv:mA name=none) (h:Q (.ref f,[.ref x]) s):
 wpAny (model prog w) A (getMethod (.ref x) name pl) Q E s:=by
 obtain⟨od,J,hl⟩:=I.look;exact PySem.W.method_fn X J (PySem.W.plainGet_of hg).1 (PySem.W.plainGet_of hg).2 hf (beq_iff_eq.mp ht) (by show(PySem.W.lookIn name od).map (·.isSome)=some false;rw[hl,hv];rfl) h
theorem t7{ns:List Str}{Q:Unit->Shared->Prop}(X:K.In s.heap)(I:eN s.heap x dx C mA)
 (hs:PySem.W.findIn K (.ref C) "__setattr__"=some (some (.builtin "object.__setattr__"))) (hp:PySem.W.plainOver K C=true) (ht:PySem.W.takerIn K C name=some none) (hh:PySem.W.hasDictIn K C=true)
 (hw:PySem.Within mA ns) (hsz:ns.length<=sizeLine)
 (h:∀h',eN h' x dx C (λy=>if y=name then some v else mA y)->Heap.SameBut dx s.heap h'->Q () { s with heap:=h',toks:=s.toks+2 }):
 wpAny (model prog w) A (setAttr (.ref x) name v) Q E s:=by
 obtain⟨od,J,hl⟩:=I.look;refine PySem.W.set_plain X J hs (PySem.W.osa_open (s:={ s with toks:=s.toks+1 }) (r:=none) X J hp ht λb=>?_);obtain⟨cd,hc,hd'⟩:=PySem.W.any_some hh;have hx:s.heap.get? x=some ⟨.ref C,some dx,.plain,#[]⟩:=I.obj;refine q0 (qb (q0 (q0 (wpAny_loadPart hx (q0 (PySem.W.Looks.here (s:={ s with toks:=s.toks+1 }) (PySem.W.looks_clsIn X hc) ?_))))));rw[hd'];refine qb (a:=some dx) (q0 (qb (q0 ?_)));refine wpAny_nsSet1 (s:={ s with toks:=s.toks+1 }) I.ns λh' hn2 hs2=>?_;obtain⟨oD,esD,epD,hoD,hdD,hcD⟩:=hn2.count (PySem.Within.cons name v hw);refine q0 (wpAny_lookBehind hoD (by rw[hdD];exact pastItsLine_dict (qw hcD (by rw[qy];omega))) ?_);exact qb (h _ ⟨(hs2.2 _ (Ne.symm I.ne)).trans I.obj,hn2,I.ne⟩ hs2)
theorem wO{R:Result->Shared->Prop}{vs:List Value}{kw:List (Str×Value)}(X:K.In s.heap)(hm:PySem.W.makesIn K C=true)
 (hi:PySem.W.findIn K (.ref C) "__init__"=some (some (.ref f))) (hf:PySem.W.typeIn K (.ref f)=some (.type "function"))
 (h:codeAny (model prog w) (A.under (.builtin "type.__call__" ⟨.ref C::vs,kw⟩)) (.call (.ref f) ⟨.ref (s.heap.objs.size+1)::vs,kw⟩) (PySem.W.InitBack (s.heap.objs.size+1) R)
  { s with heap:=(s.heap.push PySem.W.emptyDict).push (PySem.W.instObj C s.heap.objs.size) }):
 codeAny (model prog w) A (.call (.ref C) ⟨vs,kw⟩) R s:=by
 obtain⟨hh,g,d,t,os⟩:=s;exact PySem.W.make_core (PySem.W.makes_of X hm) (PySem.W.looks_findIn X hi) (λself=>PySem.W.bind_fn X self hf) (.inl U) h
end
def bo(f:Str)(v:V):List (Str×V)->List (Str×V)
 |[]=>[(f,v)]
 |(g,x)::r=>if g=f then(g,v)::r else(g,x)::bo f v r
theorem o7(f g:Str)(v:V):∀fs:List (Str×V),(bo f v fs).lookup g=if g=f then some v else fs.lookup g
 |[]=>by
  show List.lookup g [(f,v)]=_;by_cases h:g=f
  ·have hb:(g == f)=true:=beq_iff_eq.mpr h;simp only[List.lookup,hb,qY h]
  ·have hb:(g == f)=false:=beq_eq_false_iff_ne.mpr h;simp only[List.lookup,hb,qX h]
 |(k,x)::r=>by
  have ih:=o7 f g v r;rw[show bo f v ((k,x)::r)=(if k=f then(k,v)::r else(k,x)::bo f v r)from rfl];by_cases hk:k=f
  ·rw[qY hk];by_cases h:g=k
   ·have hb:(g == k)=true:=beq_iff_eq.mpr h;simp only[List.lookup,hb,qY (h.trans hk)]
   ·have hb:(g == k)=false:=beq_eq_false_iff_ne.mpr h;simp only[List.lookup,hb,qX (λe:g=f=>h (e.trans hk.symm))]
  ·rw[qX hk];by_cases h:g=k
   ·have hb:(g == k)=true:=beq_iff_eq.mpr h;simp only[List.lookup,hb,qX (λe:g=f=>hk (h.symm.trans e))]
   ·have hb:(g == k)=false:=beq_eq_false_iff_ne.mpr h;simp only[List.lookup,hb];exact ih
theorem kh(f:Str)(v:V):∀fs:List (Str×V),f∈(bo f v fs).map (·.1)/\∀g,g∈fs.map (·.1)->g∈(bo f v fs).map (·.1)
 |[]=>⟨by simp[bo],λg h=>by simp at h⟩
 |(k,x)::r=>by
  obtain⟨i1,i2⟩:=kh f v r;rw[show bo f v ((k,x)::r)=(if k=f then(k,v)::r else(k,x)::bo f v r)from rfl];by_cases hk:k=f
  ·rw[qY hk];subst hk;exact⟨by simp,λg h=>by simpa using h⟩
  ·rw[qX hk];refine⟨?_,λg h=>?_⟩
   ·rw[qP];exact qi _ i1
   ·rw[qP]at h ⊢;rcases qr.mp h with e|e
    ·exact qr.mpr (.inl e)
    ·exact qi _ (i2 g e)
theorem o9(f:Str)(v:V):∀fs:List (Str×V),(bo f v fs).length<=fs.length+1
 |[]=>by simp[bo]
 |(k,x)::r=>by
  have ih:=o9 f v r;rw[show bo f v ((k,x)::r)=(if k=f then(k,v)::r else(k,x)::bo f v r)from rfl];by_cases hk:k=f
  ·rw[qY hk,qy,qy];omega
  ·rw[qX hk,qy,qy];omega
theorem bV.some_of{v:V}{o:Option Value}(r:bV (some v) o):∃u,o=some u/\au v u:=by
 cases o with
 |none=>exact(show False from r).elim
 |some u=>exact⟨u,U,r⟩
theorem bV.none_of{o:Option Value}(r:bV none o):o=none:=by
 cases o with
 |none=>rfl
 |some u=>exact(show False from r).elim
theorem xP{v:V}{u:Value}(r:au v u):PySem.W.handedIn u=true:=by
 cases v with
 |non=>cases(show u=Value.none from r);rfl
 |bl b=>cases(show u=Value.bool b from r);rfl
 |int i=>obtain⟨t,e⟩:=(show ∃t,u=Value.int i t from r);cases e;rfl
 |str x=>obtain⟨t,e⟩:=(show ∃t,u=Value.str x t from r);cases e;rfl
 |byt b=>obtain⟨t,e⟩:=(show ∃t,u=Value.bytes b t from r);cases e;rfl
 |flt b=>obtain⟨t,e⟩:=(show ∃t,u=Value.float b t from r);cases e;rfl
 |ref a=>cases(show u=Value.ref a from r);rfl
 |ty n=>cases(show u=Value.type n from r);rfl
section
variable {P:Program}{w:World}{H H':Hp}{h h':Heap}{a C dx:Addr}{fs fs':List (Str×V)}
theorem ir(hok:HOk P w H h)(e:H a=some (.ins C dx fs)):∃mA,eN h a dx C mA/\(∀f,bV (fs.lookup f) (mA f))/\PySem.Within mA (fs.map (·.1))/\fs.length<=1000/\H dx=some (.own a):=by
 obtain⟨d,z,ne,ob,mA,n,r,q⟩:=(show bz P w H h a (.ins C dx fs)from hok a _ e);exact⟨mA,⟨ob,n,ne⟩,r,q,z,d⟩
end
structure Cls(K:W.Frag)(C:Addr):Prop where
 pg:PySem.W.plainGet K C Str.empty=true
 hd:PySem.W.hasDictIn K C=true
 po:PySem.W.plainOver K C=true
 sa:PySem.W.findIn K (.ref C) "__setattr__"=some (some (.builtin "object.__setattr__"))
theorem Cls.get{K:W.Frag}{C:Addr}(c:Cls K C)(f:Str):PySem.W.plainGet K C f=true:=c.pg
def aV(K:W.Frag)(C:Addr)(f:Str):Prop:=PySem.W.findIn K (.ref C) f=some none
theorem aV.taker{K:W.Frag}{C:Addr}{f:Str}(n:aV K C f):PySem.W.takerIn K C f=some none:=by
 unfold PySem.W.takerIn;rw[show PySem.W.findIn K (.ref C) f=some none from n]
 rfl
structure aH(K:W.Frag)(C:Addr)(m:Str)(f:Addr):Prop where
 at_:PySem.W.findIn K (.ref C) m=some (some (.ref f))
 fn:PySem.W.isFn K (.ref f)=true
 kp:PySem.W.keepIn K (.ref f)=true
section
variable {X:Cx}{pins:List (Addr×Obj)}{σ:St}{H:Hp}{s:Shared}{a C dx:Addr}{fs:List (Str×V)}{f:Str}{v:V}{A:Around}{E:Qw}
theorem xQ{b:Bool}{Q:Qw}(I:Inv X pins σ H s)(e:H a=some (.ins C dx fs))(c:Cls X.K C)(n:aV X.K C f)(l:fs.lookup f=some v)
 (h:∀u s',Inv X pins σ H s'->au v u->Q u s'):wpAny (model X.prog X.w) A (getAttr (.ref a) f b) Q E s:=by
 obtain⟨mA,O,r,_,_,_⟩:=ir I.hok e;obtain⟨u,hu,ru⟩:=bV.some_of (v:=v) (o:=mA f) (by rw[<- l];exact r f);exact xS I.kIn O (c.get f) c.hd n hu (xP ru) (h u _ (I.tok _) ru)
theorem iB{m:Str}{g:Addr}{pl:Sem Bool}{Q:Value×List Value->Shared->Prop}(I:Inv X pins σ H s)(e:H a=some (.ins C dx fs))(c:Cls X.K C)(k:aH X.K C m g)(l:fs.lookup m=none)
 (h:Q (.ref g,[.ref a]) s):wpAny (model X.prog X.w) A (getMethod (.ref a) m pl) Q E s:=by
 obtain⟨mA,O,r,_,_,_⟩:=ir I.hok e;have hn:mA m=none:=bV.none_of (by rw[<- l];exact r m);exact xR I.kIn O (c.get m) k.at_ k.fn hn h
theorem t6{y:V}{u:Value}{Q:Unit->Shared->Prop}(I:Inv X pins σ H s)(e:H a=some (.ins C dx fs))(c:Cls X.K C)(n:aV X.K C f)(hl:fs.length<1000)(ry:au y u)
 (h:∀s',Inv X pins σ (upd H a (.ins C dx (bo f y fs))) s'->Q () s'):wpAny (model X.prog X.w) A (setAttr (.ref a) f u) Q E s:=by
 obtain⟨mA,O,r,wi,_,ho⟩:=ir I.hok e;have hz:(fs.map (·.1)).length<=sizeLine:=by rw[q4,sizeLine_eq];omega
 refine t7 I.kIn O c.sa c.po n.taker c.hd wi hz λh' O' sb=>h _ ?_;have hd:∃o,h'.get? dx=some o:=let ⟨o,_,_,e',_⟩:=O'.ns;⟨o,e'⟩;refine I.write (x:=a) (e:=dx) (by rw[e];exact True.intro) (.inr ho) (λb q hb z=>(sb.2 b hb).trans z) hd ?_;refine⟨by rw[ag O.ne];exact ho,?_,O.ne,O'.obj,_,O'.ns,λg=>?_,λg hg=>?_⟩
 ·have:=o9 f y fs;omega
 ·show bV ((bo f y fs).lookup g) (if g=f then some u else mA g);rw[o7];by_cases q:g=f
  ·rw[qY q,qY q];exact ry
  ·rw[qX q,qX q];exact r g
 ·by_cases q:g=f
  ·rw[q];exact(kh f y fs).1
  ·refine(kh f y fs).2 g (wi g λz=>hg ?_);show(if g=f then some u else mA g)=none;rw[qX q];exact z
theorem Inv.made(I:Inv X pins σ H s):Inv X pins σ (upd (upd H s.heap.objs.size (.own (s.heap.objs.size+1))) (s.heap.objs.size+1) (.ins C s.heap.objs.size []))
 { s with heap:=(s.heap.push PySem.W.emptyDict).push (PySem.W.instObj C s.heap.objs.size) }:=by
 have e1:(s.heap.push PySem.W.emptyDict).get? s.heap.objs.size=some PySem.W.emptyDict:=qk s.heap U
 have e2:((s.heap.push PySem.W.emptyDict).push (PySem.W.instObj C s.heap.objs.size)).get? (s.heap.objs.size+1)=some (PySem.W.instObj C s.heap.objs.size):=by
  have:=qk (s.heap.push PySem.W.emptyDict) (o:=PySem.W.instObj C s.heap.objs.size) U
  rwa [Qd]at this
 have e3:(s.heap.push PySem.W.emptyDict).Ns s.heap.objs.size (λ_=>none):=⟨PySem.W.emptyDict,#[],_,e1,U,(λe he=>Q1 he (by simp)),λ_=>U⟩;have I1:=I.laid (a:=s.heap.objs.size) (o:=.own (s.heap.objs.size+1)) (h':=s.heap.push PySem.W.emptyDict) (t':=s.toks) (λb u q=>q5 _ q) (qc _) ⟨_,e1⟩;refine I1.laid (a:=s.heap.objs.size+1) (o:=.ins C s.heap.objs.size []) (t':=s.toks) (λb u q=>q5 _ q) (Nat.le_of_eq (Qd _ _)) ?_;have ne:s.heap.objs.size≠s.heap.objs.size+1:=qE (Q8 _);refine⟨by rw[ag ne,ae],qq _,ne,e2,λ_=>none,(Heap.Ns1.of_empty e3).at λo q=>q5 _ q,λ_=>True.intro,λy hy=>Q1 U hy⟩
theorem yK{prog:Program}{w:World}{env:Env}{e:Expr}{f:Str}{pos:Pos}{s:Shared}{Q:Qw}(hb:attributeBase e f env (eval e env)=eval e env)
 (h:wpAny (model prog w) A (eval e env) (λo s₁=>wpAny (model prog w) A (getAttr o f true) Q E s₁) E s):wpAny (model prog w) A (eval (.Attribute e f pos) env) Q E s:=
 Attribute_any_ h (by rw[arm_eval_Attribute,hb])
end
def gI(K:W.Frag)(ta:TE)(f:Str):TE:=λσ H Q=>ta σ H λx H1=>∃a C dx fs v,x=.ref a/\H1 a=some (.ins C dx fs)/\Cls K C/\aV K C f/\fs.lookup f=some v/\Q v H1
def u3(K:W.Frag)(ta tv:TE)(f:Str):TS:=λD σ H=>tv σ H λy H1=>ta σ H1 λx H2=>∃a C dx fs,x=.ref a/\H2 a=some (.ins C dx fs)/\Cls K C/\aV K C f/\fs.length<1000 /\
 D.nx σ (upd H2 a (.ins C dx (bo f y fs)))
section
variable {X:Cx}{o e value:Expr}{f:Str}{pos pos' tpos:Pos}{ta tv:TE}
theorem nK(he:PE X e ta)(hb:attributeBase e f X.env (eval e X.env)=eval e X.env):PE X (.Attribute e f pos) (gI X.K ta f):=by
 intro pins s σ H Q I h;refine yK hb (thn (he pins s σ H _ I h) λu s1 ⟨x,H1,I1,rx,a,C,dx,fs,v,ex,ea,c,n,l,q⟩=>?_);subst ex;obtain rfl:u=Value.ref a:=rx;exact xQ I1 ea c n l λu' s2 I2 ru=>⟨v,H1,I2,ru,q⟩
theorem bp(ha:PE X o ta)(hv:PE X value tv)(hs:swapsWith value (some (.Attribute o f pos')) pos.line X.env=pure false):PS X (.Assign [.Attribute o f pos'] value pos) (u3 X.K ta tv f):=by
 intro pins s σ H D I h;refine plainObj_wpAny_Assign_Attribute (thn (hv pins s σ H _ I h) λu s1 ⟨y,H1,I1,ry,q⟩=>thn (ha pins s1 σ H1 _ I1 q) λov s2 ⟨x,H2,I2,rx,a,C,dx,fs,ex,ea,c,n,l,q2⟩=>?_) hs;subst ex;obtain rfl:ov=Value.ref a:=rx;exact t6 I2 ea c n l ry λs3 I3=>⟨σ,_,I3,q2⟩
theorem za{pl:Sem Bool}{m:Str}{apos:Pos}{args:List Expr}{pins:List (Addr×Obj)}{s:Shared}{σ:St}{H:Hp}{Q:Qw}{te:TE}(he:PE X e te)(I:Inv X pins σ H s)
 (h:te σ H λx H1=>∃a C dx fs g,x=.ref a/\H1 a=some (.ins C dx fs)/\Cls X.K C/\aH X.K C m g/\fs.lookup m=none /\
  ∀s1,Inv X pins σ H1 s1->wpAny (model X.prog X.w) X.A (callWith pos (.ref g) [.ref a] (backTo pos (starEach args X.env)) (backToKw pos (keywordEach [] X.env))) Q X.xe s1)
 (ht:eval (.Call (.Attribute e m apos) args [] pos) X.env=(do
  let ov <- eval e X.env
  standAt apos.atName
  let (f,first) <- holding [ov] (getMethod ov m pl)
  callWith pos f first (backTo pos (starEach args X.env)) (backToKw pos (keywordEach [] X.env)))):
 wpAny (model X.prog X.w) X.A (eval (.Call (.Attribute e m apos) args [] pos) X.env) Q X.xe s:=by
 refine PySem.W.methodCall_KW (pl:=pl) (thn (he pins s σ H _ I h) λu s1 ⟨x,H1,I1,rx,a,C,dx,fs,g,ex,ea,c,k,l,q⟩=>?_) ht;subst ex;obtain rfl:u=Value.ref a:=rx;exact iB I1 ea c k l (q s1 I1)
end
section
variable {X:Cx}{pins:List (Addr×Obj)}{σ:St}{H:Hp}{s:Shared}{A:Around}{E:Qw}{Q:Qw}{c:Value}{b:Bool}
inductive cB(K:W.Frag)(H:Hp):V->Value->Prop where
 |non:cB K H .non (.type "NoneType")
 |bl (x:Bool):cB K H (.bl x) (.type "bool")
 |int (i:Int):cB K H (.int i) (.type "int")
 |str (x:Str):cB K H (.str x) (.type "str")
 |flt (x:UInt64):cB K H (.flt x) (.type "float")
 |lst {a:Addr}{xs:List V}(e:H a=some (.lst xs)):cB K H (.ref a) (.type "list")
 |frz {a:Addr}{o:Obj}{xs:List V}(e:H a=some (.frz o (.lst xs))):cB K H (.ref a) (.type "list")
 |tup {a:Addr}{xs:List V}(e:H a=some (.tup xs)):cB K H (.ref a) (.type "tuple")
 |dK {a:Addr}{kvs:List (Key×V)}(e:H a=some (.dK kvs)):cB K H (.ref a) (.type "dict")
 |dT {a:Addr}{kvs:List (List Key×V)}(e:H a=some (.dT kvs)):cB K H (.ref a) (.type "dict")
 |ins {a C dx:Addr}{fs:List (Str×V)}(e:H a=some (.ins C dx fs)) (cl:Cls K C) (ha:PySem.W.findIn K (.ref C) "__class__"=some (some (.builtin "object.__class__")))
  (hn:PySem.W.specialIn K (.builtin "object.__class__") "__get__"=some (some (.builtin "getset_descriptor.__get__"))) (htk:PySem.W.takesIn K (.builtin "object.__class__")=some true)
  (hm:PySem.W.mroIn K C (.type "object")=some true):cB K H (.ref a) (.ref C)
theorem xC{x:V}{u t:Value}(I:Inv X pins σ H s)(rx:au x u)(ty:cB X.K H x t)(e:PySem.W.kitOne X.K t c=some b)(h:∀tk,Q (.bool b) { s with toks:=tk }):
 wpAny (model X.prog X.w) A (call (.builtin "isinstance") [u,c]) Q E s:=by
 cases ty with
 |non=>cases(show u=Value.none from rx);exact Qu PySem.W.kitx_none I.kIn True.intro e (λz=>nomatch z) h
 |bl y=>cases(show u=Value.bool y from rx);exact Qu PySem.W.kitx_bool I.kIn True.intro e (λz=>nomatch z) h
 |int i=>obtain⟨t,q⟩:=(show ∃t,u=Value.int i t from rx);cases q;exact Qu PySem.W.kitx_int I.kIn True.intro e (λz=>nomatch z) h
 |str y=>obtain⟨t,q⟩:=(show ∃t,u=Value.str y t from rx);cases q;exact Qu PySem.W.kitx_str I.kIn True.intro e (λz=>nomatch z) h
 |flt y=>obtain⟨t,q⟩:=(show ∃t,u=Value.float y t from rx);cases q;exact Qu PySem.W.kitx_float I.kIn True.intro e (λz=>nomatch z) h
 |@lst a xs ea=>
  cases(show u=Value.ref a from rx);obtain⟨_,_,n,_,h1⟩:=(show bz X.prog X.w H s.heap a (.lst xs)from I.hok a _ ea);exact Qu PySem.W.kitx_list I.kIn ⟨_,h1,U⟩ e (λz=>nomatch z) h
 |@frz a ob xs ea=>
  cases(show u=Value.ref a from rx);obtain⟨_,_,_,n,_,h1⟩:=(show bz X.prog X.w H s.heap a (.frz ob (.lst xs))from I.hok a _ ea);exact Qu PySem.W.kitx_list I.kIn ⟨_,h1,U⟩ e (λz=>nomatch z) h
 |@tup a xs ea=>
  cases(show u=Value.ref a from rx);obtain⟨_,_,_,p⟩:=(show bz X.prog X.w H s.heap a (.tup xs)from I.hok a _ ea);obtain⟨o,h1,h2,_⟩:=p;exact Qu PySem.W.kitx_tuple I.kIn ⟨o,h1,h2⟩ e (λz=>nomatch z) h
 |@dK a kvs ea=>
  cases(show u=Value.ref a from rx);obtain⟨_,_,vs,_,p⟩:=(show bz X.prog X.w H s.heap a (.dK kvs)from I.hok a _ ea);obtain⟨o,es,ep,h1,h2,_⟩:=p;exact Qu PySem.W.kitx_dict I.kIn ⟨o,h1,h2.1⟩ e (λz=>nomatch z) h
 |@dT a kvs ea=>
  cases(show u=Value.ref a from rx);obtain⟨_,_,xs,_,o,es,ep,h1,h2,_⟩:=(show bz X.prog X.w H s.heap a (.dT kvs)from I.hok a _ ea);exact Qu PySem.W.kitx_dict I.kIn ⟨o,h1,h2.1⟩ e (λz=>nomatch z) h
 |@ins a C dx fs ea cl ha hn htk hm=>
  cases(show u=Value.ref a from rx);obtain⟨mA,O,_⟩:=ir I.hok ea;obtain⟨od,J,_⟩:=O.look;exact Qu (PySem.W.kitx_own (cl.get _) cl.hd ha hn htk hm) I.kIn J e (λz=>nomatch z) h
end
structure bw(k:Nat)(A:Around):Prop where
 hd:A.handled=none
 dp:A.depth+3 * k+5<recursionLimit
 un:A.units+16 * k+200<cLine
 gd:A.guards=some []
theorem bw.mono{j k:Nat}{A:Around}(r:bw k A)(h:j<=k):bw j A:=⟨r.hd,by have:=r.dp;omega,by have:=r.un;omega,r.gd⟩
theorem bw.deeper{k:Nat}{A:Around}(r:bw (k+1) A)(env:Env):bw k (A.deeper env):=
 ⟨r.hd,by have:=r.dp;show A.depth+1+3 * k+5<_;omega,by have:=r.un;show A.units+3+16 * k+200<_;omega,r.gd⟩
theorem wR{A:Around}{C:Addr}{us:List Value}{kw:List (Str×Value)}:(A.under (.builtin "type.__call__" ⟨.ref C::us,kw⟩)).depth=A.depth+1:=by
 first|rfl|simp[Around.under,Code.weight,Code.isCreation,Code.isGuard,Code.isCaller,Code.frames,Code.isFrame,guardIds]
theorem wN{A:Around}{C:Addr}{us:List Value}{kw:List (Str×Value)}:(A.under (.builtin "type.__call__" ⟨.ref C::us,kw⟩)).units=A.units+1:=by
 first|rfl|simp[Around.under,Code.cUnits,Code.frames,Code.isFrame]
theorem wQ{A:Around}{C:Addr}{us:List Value}{kw:List (Str×Value)}:(A.under (.builtin "type.__call__" ⟨.ref C::us,kw⟩)).guards=A.guards:=by
 first|rfl|simp[Around.under,Code.guards,Code.isGuard,guardIds,Around.pushGuards]
theorem bw.make{k:Nat}{A:Around}(r:bw (k+1) A)(C:Addr)(us:List Value)(kw:List (Str×Value)):bw k (A.under (.builtin "type.__call__" ⟨.ref C::us,kw⟩)):=
 ⟨r.hd,by have:=r.dp;rw[wR];omega,by have:=r.un;rw[wN];omega,by rw[wQ];exact r.gd⟩
theorem bw.depth{k:Nat}{A:Around}(r:bw k A):A.depth<recursionLimit:=by have:=r.dp;omega
theorem bw.units{k:Nat}{A:Around}(r:bw k A):A.units+64<cLine:=by have:=r.un;omega
def iT:TA:=λ_ H Q=>Q [] H
def su(ta:TE)(tr:TA):TA:=λσ H Q=>ta σ H λx H1=>tr σ H1 λxs H2=>Q (x::xs) H2
section
variable {X:Cx}{e:Expr}{es:List Expr}{te:TE}{t:TA}{pos:Pos}
theorem a9:PA X [] iT:=λ_ _ _ _ H Q I h=>Calls.spliced_nil ⟨[],H,I,.nil,h⟩
theorem a0(ha:PE X e te)(hr:PA X es t)(hs:starEach (e::es) X.env=(false,eval e X.env)::starEach es X.env:=by rfl):PA X (e::es) (su te t):=by
 intro pos pins s σ H Q I h;rw[hs];show wpAny _ _ (spliced ((false,eval e X.env)::backTo pos (starEach es X.env))) _ _ s;refine Calls.spliced_cons (thn (ha pins s σ H _ I h) λu s1 ⟨x,H1,I1,r1,q1⟩=>?_);exact thn (hr pos pins s1 σ H1 _ I1 q1) λus s2 ⟨xs,H2,I2,r2,q2⟩=>⟨x::xs,H2,I2,.cons r1 r2,q2⟩
def iQ(t:TA):TE:=λσ H Q=>t σ H λxs H1=>xs.length<=sizeLine/\∀p,H1 p=none->Q (.ref p) (upd H1 p (.tup xs))
def iU(t:TA):TE:=λσ H Q=>t σ H λxs H1=>xs.length<=sizeLine/\∀p,H1 p=none->Q (.ref p) (upd H1 p (.lst xs))
theorem uR{x1}(h:PA X es t):PE X (.Tuple es x1 pos) (iQ t):=by
 intro pins s σ H Q I hq;refine wpAny_Tuple_spliced (thn (h pos pins s σ H _ I hq) λus s1 ⟨xs,H1,I1,r,z,q⟩=>⟨by rw[<- r.length];exact z,?_⟩);have hf:H1 s1.heap.objs.size=none:=I1.hok.fresh (qc _);refine⟨.ref s1.heap.objs.size,upd H1 s1.heap.objs.size (.tup xs),I1.laid (t':=s1.toks) (λb u e=>q5 _ e) (qc _) ?_,U,q _ hf⟩;exact⟨z,us,r,⟨_,qk _ U,U,_,U⟩⟩
theorem uU(h:PA X es t):PE X (.List es pos) (iU t):=by
 intro pins s σ H Q I hq;refine wpAny_List_spliced (thn (h pos pins s σ H _ I hq) λus s1 ⟨xs,H1,I1,r,z,q⟩=>⟨by rw[<- r.length];exact z,?_⟩);have hf:H1 s1.heap.objs.size=none:=I1.hok.fresh (qc _);refine⟨.ref s1.heap.objs.size,upd H1 s1.heap.objs.size (.lst xs),I1.laid (t':=s1.toks) (λb u e=>q5 _ e) (qc _) ?_,U,q _ hf⟩;exact⟨z,us,0,r,qk _ U⟩
end
abbrev Sp:=List V->Hp->VK->XK->Prop
abbrev CXT:=List Env->Hp->Shared->XK->Value->Shared->Prop
structure eP(P:Program)(w:World)(K:W.Frag)(mg:Str->Option Value)(base:Heap)(A:Around)(outer:List Env)(s:Shared)(H:Hp):Prop where
 frames:A.frames=some outer
 mod:Mod K mg base
 bs:∀b o,base.get? b=some o->s.heap.get? b=some o/\H b=none
 bsz:base.objs.size<=s.heap.objs.size
 funs:s.heap.FunFrames base outer
 frf:∀b∈frs outer,H b=none
 hok:HOk P w H s.heap
 bare:AllBare s.gens
def CE(outer:List Env)(P:Program)(w:World)(H:Hp)(s:Shared)(Q:VK)(u:Value)(s':Shared):Prop:=
 ∃v H',s'.os=s.os/\AllBare s'.gens/\Un (frs outer) [] H H' s.heap s'.heap/\HOk P w H' s'.heap/\au v u/\Q v H'
def CR(CX:CXT)(outer:List Env)(P:Program)(w:World)(H:Hp)(s:Shared)(Q:VK)(E:XK)(r:Result)(s':Shared):Prop:=
 match r with
 |.ok (.ret u)=>CE outer P w H s Q u s'
 |.ok _=>False
 |.error e=>CX outer H s E e s'
structure aC(P:Program)(w:World)(K:W.Frag)(mg:Str->Option Value)(base:Heap)(CX:CXT)(k:Nat)(f:Addr)(fd:FuncData)(ps:List Str)(sp:Sp):Prop where
 len:∀vs H Q E,sp vs H Q E->vs.length=ps.length
 run:∀(A:Around)(outer:List Env)(s:Shared)(H:Hp)(args:Args)(us:List Value)(vs:List V)(Q:VK)(E:XK),bw k A->eP P w K mg base A outer s H->BindsTo s fd args (ps.zip us)->aq vs us->sp vs H Q E->
  codeAny (model P w) A (.call (.ref f) args) (CR CX outer P w H s Q E) s
theorem eP.make{P:Program}{w:World}{K:W.Frag}{mg:Str->Option Value}{base:Heap}{A:Around}{outer:List Env}{s:Shared}{H:Hp}(e:eP P w K mg base A outer s H)(C:Addr)(us:List Value)(kw:List (Str×Value)):
 eP P w K mg base (A.under (.builtin "type.__call__" ⟨.ref C::us,kw⟩)) outer s H:=⟨by first|exact e.frames|(simpa[Around.under,Code.envs,Code.isFrame,pushEnvs]using e.frames),e.mod,e.bs,e.bsz,e.funs,e.frf,e.hok,e.bare⟩
section
variable {X:Cx}{pins:List (Addr×Obj)}{σ:St}{H:Hp}{s s':Shared}
theorem Inv.env0(I:Inv X pins σ H s):eP X.prog X.w X.K X.mg X.base X.A X.stack s H:=
 ⟨I.ok.frames,I.ok.mod,I.bs,qw I.ok.bsz I.sz,I.stack,I.stkFree,I.hok,I.bare⟩
theorem Inv.after{Q:VK}{u:Value}(I:Inv X pins σ H s)(h:CE X.stack X.prog X.w H s Q u s'):EP X pins σ Q u s':=by
 obtain⟨v,H',os,bare,un,hok,r,q⟩:=h;obtain⟨hh,g,d,t,os'⟩:=s';obtain rfl:os'=s.os:=os;exact⟨v,H',I.call (h':=hh) (g':=g) (d':=d) (t':=t) (ch:=[]) un hok bare (λb z=>Q1 z (by simp)),r,q⟩
end
def lO(sp:Sp)(dvs:List V)(E:XK)(t:TA):TE:=λσ H Q=>t σ H λvs H1=>sp (vs++dvs) H1 Q E
def lM(C:Addr)(m:Str)(sp:Sp)(dvs:List V)(E:XK)(ta:TE)(t:TA):TE:=λσ H Q=>ta σ H λx H1=>∃a dx fs,x=.ref a/\H1 a=some (.ins C dx fs)/\fs.lookup m=none /\
 t σ H1 λvs H2=>sp (x::(vs++dvs)) H2 Q E
def rX(C:Addr)(sp:Sp)(dvs:List V)(E:XK)(t:TA):TE:=λσ H Q=>t σ H λvs H1=>∀x dx,H1 x=none->H1 dx=none->dx≠x->
 sp (.ref x::(vs++dvs)) (upd (upd H1 dx (.own x)) x (.ins C dx [])) (λv H2=>v=.non/\Q (.ref x) H2) E
def aD(K:W.Frag)(fd:FuncData)(ps:List Str)(ds:List Value):Prop:=
 ∀(s:Shared)(us:List Value),K.In s.heap->(us++ds).length=ps.length->BindsTo s fd ⟨us,[]⟩ (ps.zip (us++ds))
theorem aD.all{K:W.Frag}{fd:FuncData}{ps:List Str}(h:∀us:List Value,us.length=ps.length->bindArgs fd ⟨us,[]⟩=pure (ps.zip us)):aD K fd ps []:=λs us _ hl=>by
 rw[qv]at hl ⊢;exact .of_eq (h us hl)
def dS(CX:CXT)(X:Cx)(E:XK):Prop:=∀(pins:List (Addr×Obj))(σ:St)(H:Hp)(s:Shared)(e:Value)(s':Shared),Inv X pins σ H s->CX X.stack H s E e s'->X.xe e s'
section
variable {X:Cx}{CX:CXT}{k:Nat}{f C:Addr}{fd:FuncData}{ps:List Str}{sp:Sp}{dvs:List V}{ds:List Value}{E:XK}{x m:Str}{p pos apos:Pos}{e o:Expr}{es:List Expr}{ta:TE}{t:TA}
theorem fU{pins:List (Addr×Obj)}{σ:St}{H:Hp}{s:Shared}{Q:VK}{us:List Value}{vs:List V}(F:aC X.prog X.w X.K X.mg X.base CX k f fd ps sp)(hr:bw k X.A)(hb:aD X.K fd ps ds)(hd:aq dvs ds)(hx:dS CX X E)
 (I:Inv X pins σ H s) (r:aq vs us) (h:sp (vs++dvs) H Q E):wpAny (model X.prog X.w) X.A (call (.ref f) us) (EP X pins σ Q) X.xe s:=by
 have r2:aq (vs++dvs) (us++ds):=r.append hd;have hl:(us++ds).length=ps.length:=by rw[<- r2.length];exact F.len _ _ _ _ h
 refine wpAny_call (codeAny_mono (F.run X.A X.stack s H ⟨us,[]⟩ (us++ds) (vs++dvs) Q E hr I.env0 (hb s us I.kIn hl) r2 h) λr s' hq=>?_)
 cases r with
 |error e=>exact hx pins σ H s e s' I hq
 |ok fl=>
  cases fl with
  |ret u=>exact I.after hq
  |next=>exact False.elim hq
  |brk=>exact False.elim hq
  |cont=>exact False.elim hq
theorem bv(F:aC X.prog X.w X.K X.mg X.base CX k f fd ps sp)(hr:bw k X.A)(hg:Gl X x)(hm:X.mg x=some (.ref f))(hk:PySem.W.keepIn X.K (.ref f)=true)(hb:aD X.K fd ps ds)(hd:aq dvs ds)(hx:dS CX X E)
 (ha:PA X (e::es) t) (hdb:(x == ("__debug__":Str))=false:=by decide) (he:starEach (e::es) X.env=(false,eval e X.env)::starEach es X.env:=by rfl) (hpl:(backTo pos (starEach es X.env)).any (·.1)=false:=by rfl):
 PE X (.Call (.Name x p) (e::es) [] pos) (lO sp dvs E t):=by
 intro pins s σ H Q I h;refine wpAny_Call_Name_kw (ik I hg hm ?_ hdb);refine PySem.W.callWith_K (h₀:=X.base) I.ok.mod.kin hk (thn (ha pos pins s σ H _ I h) λus s1 ⟨vs,H1,I1,r,q⟩=>⟨I1.kIn,?_⟩) he hpl;exact fU F hr hb hd hx I1 r q
theorem cN{pl:Sem Bool}(he:PE X o ta)(c:Cls X.K C)(hm:aH X.K C m f)(F:aC X.prog X.w X.K X.mg X.base CX k f fd ps sp)(hr:bw k X.A)(hb:aD X.K fd ps ds)(hd:aq dvs ds)(hx:dS CX X E)(ha:PA X (e::es) t)
 (hst:starEach (e::es) X.env=(false,eval e X.env)::starEach es X.env:=by rfl) (hpl:(backTo pos (starEach es X.env)).any (·.1)=false:=by rfl)
 (ht:eval (.Call (.Attribute o m apos) (e::es) [] pos) X.env=(do
  let ov <- eval o X.env
  standAt apos.atName
  let (f,first) <- holding [ov] (getMethod ov m pl)
  callWith pos f first (backTo pos (starEach (e::es) X.env)) (backToKw pos (keywordEach [] X.env))):=by rfl):
 PE X (.Call (.Attribute o m apos) (e::es) [] pos) (lM C m sp dvs E ta t):=by
 intro pins s σ H Q I h;refine PySem.W.methodCall_KW (pl:=pl) (thn (he pins s σ H _ I h) λu s1 ⟨x,H1,I1,rx,a,dx,fs,ex,ea,l,q⟩=>?_) ht;subst ex;obtain rfl:u=Value.ref a:=rx;refine iB I1 ea c hm l ?_;refine PySem.W.callWith_K (first:=[.ref a]) (h₀:=X.base) I.ok.mod.kin hm.kp (thn (ha pos pins s1 σ H1 _ I1 q) λus s2 ⟨vs,H2,I2,r,q2⟩=>⟨I2.kIn,?_⟩) hst hpl;exact fU (us:=.ref a::us) (vs:=.ref a::vs) F hr hb hd hx I2 (.cons U r) q2
theorem dZ{pl:Sem Bool}(he:PE X o ta)(c:Cls X.K C)(hm:aH X.K C m f)(F:aC X.prog X.w X.K X.mg X.base CX k f fd ps sp)(hr:bw k X.A)(hb:aD X.K fd ps ds)(hd:aq dvs ds)(hx:dS CX X E)
 (ht:eval (.Call (.Attribute o m apos) [] [] pos) X.env=(do
  let ov <- eval o X.env
  standAt apos.atName
  let (f,first) <- holding [ov] (getMethod ov m pl)
  callWith pos f first (backTo pos (starEach [] X.env)) (backToKw pos (keywordEach [] X.env))):=by rfl):
 PE X (.Call (.Attribute o m apos) [] [] pos) (lM C m sp dvs E ta iT):=by
 intro pins s σ H Q I h;refine PySem.W.methodCall_KW (pl:=pl) (thn (he pins s σ H _ I h) λu s1 ⟨x,H1,I1,rx,a,dx,fs,ex,ea,l,q⟩=>?_) ht;subst ex;obtain rfl:u=Value.ref a:=rx;refine iB I1 ea c hm l ?_;exact PySem.W.callWith_K0 (first:=[.ref a]) I1.kIn hm.kp (fU (us:=[.ref a]) (vs:=[.ref a]) F hr hb hd hx I1 (.cons U .nil) q)
structure Mk(K:W.Frag)(C f:Addr):Prop where
 makes:PySem.W.makesIn K C=true
 init:PySem.W.findIn K (.ref C) "__init__"=some (some (.ref f))
 fn:PySem.W.isFn K (.ref f)=true
 kp:PySem.W.keepIn K (.ref C)=true
theorem u5{pins:List (Addr×Obj)}{σ:St}{H:Hp}{s:Shared}{Q:VK}{us:List Value}{vs:List V}(M:Mk X.K C f)(F:aC X.prog X.w X.K X.mg X.base CX k f fd ps sp)(hr:bw (k+1) X.A)(hb:aD X.K fd ps ds)(hd:aq dvs ds)
 (hx:dS CX X E) (I:Inv X pins σ H s) (r:aq vs us)
 (h:∀x dx,H x=none->H dx=none->dx≠x->sp (.ref x::(vs++dvs)) (upd (upd H dx (.own x)) x (.ins C dx [])) (λv H2=>v=.non/\Q (.ref x) H2) E):
 wpAny (model X.prog X.w) X.A (call (.ref C) us) (EP X pins σ Q) X.xe s:=by
 have hq:=h (s.heap.objs.size+1) s.heap.objs.size (I.hok.fresh (Nat.le_succ _)) (I.hok.fresh (qc _)) (qE (Q8 _));have I2:=Inv.made (C:=C) I;have r2:aq (V.ref (s.heap.objs.size+1)::(vs++dvs)) (Value.ref (s.heap.objs.size+1)::(us++ds)):=.cons U (r.append hd)
 have hl:(Value.ref (s.heap.objs.size+1)::us++ds).length=ps.length:=by
  have e:=r2.length;rw[F.len _ _ _ _ hq]at e;exact e.symm
 refine wpAny_call (wO (f:=f) I.kIn M.makes M.init (beq_iff_eq.mp M.fn) (codeAny_mono (F.run _ X.stack _ _ ⟨Value.ref (s.heap.objs.size+1)::us,[]⟩ (Value.ref (s.heap.objs.size+1)::(us++ds)) _ _ E (hr.make C us [])
  (I2.env0.make C us []) (hb _ (Value.ref (s.heap.objs.size+1)::us) I2.kIn hl) r2 hq) λr s' hq'=>?_))
 cases r with
 |error e=>exact hx pins σ _ _ e s' I2 hq'
 |ok fl=>
  cases fl with
  |ret u=>
   obtain⟨v,H',I3,rv,ev,q3⟩:=I2.after hq';subst ev;exact⟨rv,⟨V.ref (s.heap.objs.size+1),H',I3,U,q3⟩⟩
  |next=>exact False.elim hq'
  |brk=>exact False.elim hq'
  |cont=>exact False.elim hq'
theorem e8(M:Mk X.K C f)(F:aC X.prog X.w X.K X.mg X.base CX k f fd ps sp)(hr:bw (k+1) X.A)(hg:Gl X x)(hm:X.mg x=some (.ref C))(hb:aD X.K fd ps ds)(hd:aq dvs ds)(hx:dS CX X E)
 (ha:PA X (e::es) t) (hdb:(x == ("__debug__":Str))=false:=by decide) (he:starEach (e::es) X.env=(false,eval e X.env)::starEach es X.env:=by rfl) (hpl:(backTo pos (starEach es X.env)).any (·.1)=false:=by rfl):
 PE X (.Call (.Name x p) (e::es) [] pos) (rX C sp dvs E t):=by
 intro pins s σ H Q I h;refine wpAny_Call_Name_kw (ik I hg hm ?_ hdb);refine PySem.W.callWith_K (h₀:=X.base) I.ok.mod.kin M.kp (thn (ha pos pins s σ H _ I h) λus s1 ⟨vs,H1,I1,r,q⟩=>⟨I1.kIn,?_⟩) he hpl;exact u5 M F hr hb hd hx I1 r q
end
section
variable {X:Cx}{CX:CXT}{k:Nat}{f C:Addr}{fd:FuncData}{ps ks:List Str}{sp:Sp}{E:XK}{x m:Str}{p pos apos kpos:Pos}{e o:Expr}{es:List Expr}{kws:List Keyword}{te ta:TE}{t tk:TA}{nm:Option Str}
variable {g:List Value->List Value->List Value}{gV:List V->List V->List V}
end
structure aJ(N P:List Str)(sc:Scope):Prop where
 kind:sc.kind=.function
 co:sc.isCoroutine=false
 gen:sc.isGenerator=false
 nd:N.Nodup
 pre:N.take P.length=P
 par:∀x∈P,sc.names.lookup x=some .local\/sc.names.lookup x=some .cell
 nofree:∀y∈sc.names,y.2≠.free
theorem pB{kindOf:Str->Option NameKind}{x:Str}:∀{binds:List (Str×Value)}{m:Str->Option Value},(∀v,(x,v)∉binds)->bindL kindOf binds m x=m x
 |[],_,_=>rfl
 |(n,v)::r,m,h=>by
  unfold bindL;rw[pB λw hw=>h w (qi _ hw)];split
  ·have:x≠n:=by rintro rfl;exact h v qj
   simp[this]
  ·rfl
theorem pD{kindOf:Str->Option NameKind}{x:Str}:∀{binds:List (Str×Value)}{m:Str->Option Value},(∀v,(x,v)∉binds)->bindC kindOf binds m x=m x
 |[],_,_=>rfl
 |(n,v)::r,m,h=>by
  unfold bindC;rw[pD λw hw=>h w (qi _ hw)];split
  ·rfl
  ·have:x≠n:=by rintro rfl;exact h v qj
   simp[this]
theorem pC{kindOf:Str->Option NameKind}{x:Str}{v:Value}:∀{P:List Str}{vs:List Value}{i:Nat}{m:Str->Option Value},P.Nodup->P[i]?=some x->vs[i]?=some v->kindOf x=some .local->
 bindL kindOf (P.zip vs) m x=some v
 |[],_,_,_,_,h,_,_=>by simp at h
 |_::_,[],_,_,_,_,h,_=>by simp at h
 |p::P,w::vs,0,m,nd,h1,h2,hk=>by
  simp at h1 h2;subst h1;subst h2;show bindL kindOf ((p,w)::P.zip vs) m p=_;unfold bindL;rw[pB λv hv=>(List.nodup_cons.mp nd).1 (List.of_mem_zip hv).1,qY hk];simp
 |p::P,w::vs,i+1,m,nd,h1,h2,hk=>by
  show bindL kindOf ((p,w)::P.zip vs) m x=_;unfold bindL;exact pC (i:=i) (List.nodup_cons.mp nd).2 (by simpa using h1) (by simpa using h2) hk
theorem pE{kindOf:Str->Option NameKind}{x:Str}{v:Value}:∀{P:List Str}{vs:List Value}{i:Nat}{m:Str->Option Value},P.Nodup->P[i]?=some x->vs[i]?=some v->kindOf x≠some .local->
 bindC kindOf (P.zip vs) m x=some v
 |[],_,_,_,_,h,_,_=>by simp at h
 |_::_,[],_,_,_,_,h,_=>by simp at h
 |p::P,w::vs,0,m,nd,h1,h2,hk=>by
  simp at h1 h2;subst h1;subst h2;show bindC kindOf ((p,w)::P.zip vs) m p=_;unfold bindC;rw[pD λv hv=>(List.nodup_cons.mp nd).1 (List.of_mem_zip hv).1,qX hk];simp
 |p::P,w::vs,i+1,m,nd,h1,h2,hk=>by
  show bindC kindOf ((p,w)::P.zip vs) m x=_;unfold bindC;exact pE (i:=i) (List.nodup_cons.mp nd).2 (by simpa using h1) (by simpa using h2) hk
def start(N:List Str)(vs:List V):St:=vs.map some++List.replicate (N.length-vs.length) none
def dw(CX:CXT)(P:Program)(w:World)(K:W.Frag)(mg:Str->Option Value)(base:Heap)(N:List Str)(qual:Str)(scope:Scope)(f:Addr)(cd:Value)(A:Around)(outer:List Env)(s:Shared)(H:Hp)(E:XK):Cx where
 prog:=P
 w:=w
 K:=K
 mg:=mg
 base:=base
 A:=A.deeper (envOfC qual scope s.heap.objs.size f cd)
 N:=N
 s₀:=s
 H₀:=H
 env:=envOfC qual scope s.heap.objs.size f cd
 outer:=outer
 stack:=envOfC qual scope s.heap.objs.size f cd::outer
 ex:=[]
 calm:=true
 fn:=λ_=>true
 pn:=[]
 xe:=λe s'=>wpAny (model P w) (A.deeper (envOfC qual scope s.heap.objs.size f cd)) (leaving (envOfC qual scope s.heap.objs.size f cd) e) (λ_ s''=>CX outer H s E e s'') (λe' s''=>CX outer H s E e' s'') s'
theorem pd{sc:Scope}{n:Nat}{x:Str}(h:sc.names.lookup x=some .cell):∃c,(cellsFrom n sc.names []).lookup x=some c:=by
 have q:=PySem.W.cellsFrom_some sc.names n [] (.inl h);exact Option.isSome_iff_exists.mp q
theorem xE{CX:CXT}{P:Program}{w:World}{K:W.Frag}{mg:Str->Option Value}{base:Heap}{N ps:List Str}{qual:Str}{scope:Scope}{f:Addr}{cd:Value}{A:Around}{outer:List Env}{s s1:Shared}{H:Hp}{E:XK}{us:List Value}{vs:List V}
 (S:aJ N ps scope) (hd:A.handled=none) (e0:eP P w K mg base A outer s H) (hl:vs.length=ps.length) (r:aq vs us)
 (x:InCallC s s.heap.objs.size (bindL (envOfC qual scope s.heap.objs.size f cd).kindOf (ps.zip us) λ_=>none) (cellsFrom (s.heap.objs.size+1) scope.names []) (bindC (envOfC qual scope s.heap.objs.size f cd).kindOf (ps.zip us) λ_=>none) s1):
 Inv (dw CX P w K mg base N qual scope f cd A outer s H E) [] (start N vs) H s1:=by
 have hpl:ps.length<=N.length:=by have:=congrArg List.length S.pre;rw[qI]at this;omega
 obtain⟨h1,tk,rfl,hk⟩:=x.done;have noA:∀b:Addr,b∉(dw CX P w K mg base N qual scope f cd A outer s H E).ex:=λb z=>Q1 (show b∈([]:List Addr)from z) (by simp)
 refine⟨⟨e0.mod,S.kind,U,U,qc _,λy z c h1 h2=>?_,λy hy=>?_,λy c _ h=>?_,λ_=>hd,Around.frames_deeper e0.frames,.inr ⟨U,U⟩,λb z=>Q1 z (noA b),e0.bs,e0.bsz,λb _ _=>noA b,λb z=>Q1 z (noA b),e0.funs,e0.frf⟩,
  rfl,e0.bare,Un.kept hk,⟨_,x.toInCall.ns,λi y v h1 h2 h3=>?_⟩,λy c h=>⟨_,x.cell y c h⟩,e0.hok.fresh (qc _),λy c h=>?_,λp hp=>Q1 (show p∈([]:List (Addr×Obj))from hp) (by simp),e0.hok.kept hk,?_⟩
 ·exact name_of_addr x.apart (Qf h1) (Qf h2)
 ·have hy:scope.names.lookup y=some .cell\/scope.names.lookup y=some .free:=hy;rcases hy with hy|hy
  ·exact pd hy
  ·exact Q1 U (S.nofree _ (Qf hy))
 ·exact Nat.le_of_lt (x.above y c (Qf h))
 ·have hi:i<vs.length:=by
   unfold start at h2;by_cases hi:i<vs.length
   ·exact hi
   ·rw[qJ (by simpa using hi)]at h2;rw[List.getElem?_replicate]at h2;split at h2<;>cases h2
  have ha:vs[i]?=some v:=by
   unfold start at h2;rw[Q3 (by simpa using hi),qC]at h2
   cases e:vs[i]? with
   |none=>rw[e]at h2;cases h2
   |some a=>rw[e]at h2;cases h2;rfl
  obtain⟨u,hu,rv⟩:=r.get ha
  have hp:ps[i]?=some y:=by
   rw[<- S.pre,List.getElem?_take_of_lt Qz];exact h1
  have ndP:ps.Nodup:=by rw[<- S.pre];exact S.nd.sublist (List.take_sublist _ _)
  refine⟨u,rv,?_⟩;rcases S.par y (qx hp)with k|k
  ·exact .inl ⟨k,pC ndP hp hu k⟩
  ·obtain⟨c,e⟩:=pd (n:=s.heap.objs.size+1) k;refine .inr ⟨.inl k,c,e,?_⟩;have q:=x.cell y c e;rw[pE ndP hp hu (by show scope.names.lookup y≠_;rw[k];decide)]at q;exact q
 ·exact e0.hok.fresh (Nat.le_of_lt (x.above y c (Qf h)))
 ·unfold start;show _=N.length;rw[q9,q4,List.length_replicate];omega
theorem oT{CX:CXT}{P:Program}{w:World}{K:W.Frag}{mg:Str->Option Value}{base:Heap}{k:Nat}{f:Addr}{name qual:Str}{params:Arguments}{body:List Stmt}{scope:Scope}{dV kV doc pm cdv ct oc:Value}{an od:Option Addr}
 {osl:Array (Option Value)}{N ps:List Str}{sp:Sp}(lk:K.lookup f=some ⟨oc,od,.func (PySem.W.fnOf name qual params body scope dV kV doc pm an cdv ct),osl⟩) (hcd:PySem.W.codeIn K cdv qual=true) (S:aJ N ps scope)
 (len:∀vs H Q E,sp vs H Q E->vs.length=ps.length)
 (hbody:∀(A:Around)(outer:List Env)(s:Shared)(H:Hp)(vs:List V)(Q:VK)(E:XK),bw k (A.deeper (envOfC qual scope s.heap.objs.size f cdv))->sp vs H Q E->
  ∃t,PSs (dw CX P w K mg base N qual scope f cdv A outer s H E) body t/\t { nx:=λ_ H'=>Q .non H',rt:=Q } (start N vs) H):
 aC P w K mg base CX (k+1) f (PySem.W.fnOf name qual params body scope dV kV doc pm an cdv ct) ps sp:=by
 refine⟨len,λA outer s H args us vs Q E hr e0 hb r hsp=>?_⟩;have hl:=len _ _ _ _ hsp;have KX:K.In s.heap:=e0.mod.kin.keeps λb o e=>(e0.bs b o e).1;have lim:s.heap.NoLimit:=e0.mod.nolimit.keeps λb o e=>(e0.bs b o e).1
 have hkind:∀y∈ps.zip us,scope.names.lookup y.1=some .local\/(scope.names.lookup y.1=some .cell/\((cellsFrom (s.heap.objs.size+1) scope.names []).lookup y.1).isSome=true):=λ⟨n,v⟩ hy=>by
  rcases S.par n (List.of_mem_zip hy).1 with q|q
  ·exact .inl q
  ·exact .inr ⟨q,PySem.W.cellsFrom_some _ _ _ (.inl q)⟩
 refine codeAny_call_function hr.depth (KX _ _ lk) U S.co S.gen U (PySem.W.codeRec_of KX hcd) (hb _ _ _ _ ?_);refine wpAny_newFunctionEnv_cells S.kind hkind λenv he s1 x=>?_;subst he;refine⟨lim.keeps x.toInCall.keep,codeAny_func ?_⟩;obtain⟨t,ht,hq⟩:=hbody A outer s H vs Q E (hr.deeper _) hsp;have I:Inv (dw CX P w K mg base N qual scope f cdv A outer s H E) [] (start N vs) H s1:=xE S hr.hd e0 hl r x;refine wpAny_mono (ht [] s1 (start N vs) H _ I hq) (λfl s' hs=>?_) λe s' hs=>hs
 have fin:∀{σ':St}{H':Hp}{v:V}{u:Value},Inv (dw CX P w K mg base N qual scope f cdv A outer s H E) [] σ' H' s'->au v u->Q v H'->CE outer P w H s Q u s':=
  λ{σ' H' v u} J rv q=>⟨v,H',J.os,J.bare,J.base,J.hok,rv,q⟩
 cases fl with
 |ret u=>
  obtain⟨v,σ',H',J,rv,q⟩:=hs;exact fin J rv q
 |next=>
  obtain⟨σ',H',J,q⟩:=hs;exact fin (v:=V.non) (u:=Value.none) J U q
 |brk=>
  obtain⟨_,_,_,q⟩:=hs;exact False.elim q
 |cont=>
  obtain⟨_,_,_,q⟩:=hs;exact False.elim q
section
variable {X:Cx}{x:Str}{p pos:Pos}{e:Expr}{es:List Expr}{t:TA}{id T:String}{r:List V->Hp->VK->Prop}
def tCB(r:List V->Hp->VK->Prop)(t:TA):TE:=λσ H Q=>t σ H λvs H1=>r vs H1 Q
theorem aZ(hc:bW X (.builtin id) r)(hg:Gl X x)(hm:X.mg x=none)(hv:bootBuiltins x=some (.builtin id))(ha:PA X (e::es) t)(hn:x≠"__name__":=by decide)(hdb:(x == ("__debug__":Str))=false:=by decide)
 (he:starEach (e::es) X.env=(false,eval e X.env)::starEach es X.env:=by rfl) (hpl:(backTo pos (starEach es X.env)).any (·.1)=false:=by rfl):PE X (.Call (.Name x p) (e::es) [] pos) (tCB r t):=by
 intro pins s σ H Q I h;refine wpAny_Call_Name_kw (cV I hg hm hv ?_ hn hdb);exact PyProof.Rows.callWith_builtin1 (thn (ha pos pins s σ H _ I h) λus s1 ⟨vs,H1,I1,r1,q1⟩=>hc pins s1 σ H1 vs us Q I1 r1 q1) he hpl
theorem f6(hc:bW X (.type T) r)(hg:Gl X x)(hm:X.mg x=none)(hv:bootBuiltins x=some (.type T))(ha:PA X (e::es) t)(hn:x≠"__name__":=by decide)(hdb:(x == ("__debug__":Str))=false:=by decide)
 (he:starEach (e::es) X.env=(false,eval e X.env)::starEach es X.env:=by rfl) (hpl:(backTo pos (starEach es X.env)).any (·.1)=false:=by rfl):PE X (.Call (.Name x p) (e::es) [] pos) (tCB r t):=by
 intro pins s σ H Q I h;refine wpAny_Call_Name_kw (cV I hg hm hv ?_ hn hdb);exact PyProof.Rows.callWith_type1 (thn (ha pos pins s σ H _ I h) λus s1 ⟨vs,H1,I1,r1,q1⟩=>hc pins s1 σ H1 vs us Q I1 r1 q1) he hpl
end
end L2
namespace HT
open PySem PyProof.Rows
section
open PySem.SeqAt
open PySem.AutoSeq1 (wpAny_loadPart')
open PySem.MeetsSeq PySem.MeetsSeq2 PySem.MeetsSeq3
end
section
variable {prog:Program}{w:World}{A:Around}{E:Qw}{s:Shared}
theorem cat_tup{t b:Addr}{vs ws:List Value}{Q:Qw}(ht:IsTup s.heap t vs.toArray)(hb:IsTup s.heap b ws.toArray)(hv:vs≠[])
 (h1:ws=[]->Q (.ref t) s) (h2:ws≠[]->Q (.ref s.heap.objs.size) { s with heap:=s.heap.push { cls:=.type "tuple",data:=.seq (vs++ws).toArray } })
 (hsz:vs.length+ws.length<=sizeLine):wpAny (model prog w) A (binaryOp .Add (.ref t) (.ref b)) Q E s:=by
 obtain⟨⟨cls,dd,data,sl⟩,ho,hc,n,hd⟩:=id ht;obtain⟨⟨cls2,dd2,data2,sl2⟩,ho2,hc2,n2,hd2⟩:=id hb;simp only at hc hd hc2 hd2;subst hc hd hc2 hd2;have e:vs.toArray++ws.toArray=(vs++ws).toArray:=by simp
 by_cases hw:ws=[]
 ·exact concat_meets ⟨_,ho,U⟩ ⟨_,ho2,U⟩ noFill_tuple_add seq_tuple_add PySem.F.slot_tuple_add PySem.F.entry_tuple_add (PySem.F.args_tuple_add_2 _ _)
   (tuple_addW1 t b vs.toArray ws.toArray n n2 dd dd2 sl sl2 (by simpa using hv) (by simp[hw])) ⟨ho,ho2,h1 hw⟩
 ·refine concat_meets ⟨_,ho,U⟩ ⟨_,ho2,U⟩ noFill_tuple_add seq_tuple_add PySem.F.slot_tuple_add PySem.F.entry_tuple_add (PySem.F.args_tuple_add_2 _ _)
   (tuple_addW2 t b vs.toArray ws.toArray n n2 dd dd2 sl sl2 (by simpa using hv) (by simpa using hw) (by rw[qz,qz];exact hsz)) ⟨ho,ho2,?_⟩
  rw[e];exact h2 hw
def sIx(n d:Nat):Option Int->Nat
 |none=>d
 |some v=>if v<0 then(v+(n:Int)).toNat else min v.toNat n
theorem sIx_nat(n d k:Nat):sIx n d (some (k:Int))=min k n:=by
 show(if(k:Int)<0 then((k:Int)+(n:Int)).toNat else min (k:Int).toNat n)=min k n;rw[qX Qz,qV]
theorem u0(n d:Nat)(hd:d<=n)(o:Option Int):sIx n d o<=n:=by
 cases o with
 |none=>exact hd
 |some v=>
  show(if v<0 then(v+(n:Int)).toNat else min v.toNat n)<=n;by_cases hv:v<0
  ·rw[qY hv];omega
  ·rw[qX hv];exact Nat.min_le_right _ _
theorem p9(v:Int)(n d:Nat):(if v<0 then max (v+(n:Int)) 0 else min v (n:Int))=((sIx n d (some v):Nat):Int):=by
 show(if v<0 then max (v+(n:Int)) 0 else min v (n:Int))=(((if v<0 then(v+(n:Int)).toNat else min v.toNat n):Nat):Int);by_cases hv:v<0
 ·simp only[qY hv];omega
 ·simp only[qX hv];omega
theorem yP(lo hi:Option Int)(n:Nat):Builtin.Slice.sliceAdjust lo hi 1 (n:Int)=(((sIx n 0 lo:Nat):Int),((sIx n n hi:Nat):Int)):=by
 have h1:¬ ((1:Int)<0):=Qz;unfold Builtin.Slice.sliceAdjust;simp only[h1,if_false];refine Prod.ext ?_ ?_
 ·cases lo with
  |none=>rfl
  |some v=>exact p9 v n 0
 ·cases hi with
  |none=>rfl
  |some v=>exact p9 v n n
theorem uJ(i j:Nat):Builtin.Slice.slicePlaces (i:Int) (j:Int) 1=j-i:=by
 unfold Builtin.Slice.slicePlaces;have h1:(1:Int) > 0:=Qz;simp only[h1,if_true,Int.ediv_one];split<;>omega
theorem mQ{v:Value}{o:Option Int}{Q:Option Int->Shared->Prop}(p:IsPart v o)(h:Q o s):wpAny (model prog w) A (Builtin.Slice.slicePartIndex v) Q E s:=by
 cases p with
 |none=>exact slicePart_none h
 |int i t=>exact slicePart_int h
theorem sY{sl:Addr}{vl vu:Value}{lo hi:Option Int}{n:Nat}{Q:Int×Int×Nat->Shared->Prop}(hs:s.heap.IsSliceOf sl vl vu .none)(pl:IsPart vl lo)(pu:IsPart vu hi)
 (h:Q (((sIx n 0 lo:Nat):Int),1,sIx n n hi-sIx n 0 lo) s):wpAny (model prog w) A (Builtin.Slice.sliceApplied (.ref sl) (pure (n:Int))) Q E s:=by
 obtain⟨os,hos,hcs,hds⟩:=id hs;unfold Builtin.Slice.sliceApplied Builtin.Slice.sliceFields;refine q0 (q0 (wpAny_field hos hds (x:=vl) U (q0 (wpAny_field hos hds (x:=vu) U (q0 (wpAny_field hos hds (x:=.none) U (qb ?_)))))));refine q0 (slicePart_none ?_);show wpAny _ _ (if((1:Int) == 0)=true then _ else _) _ _ s;rw[qX Qy];refine q0 (mQ pl (q0 (mQ pu (q0 (qb ?_)))));show wpAny _ _ (match Builtin.Slice.sliceAdjust lo hi 1 (n:Int)with|(lo,hi)=>pure (lo,(1:Int),Builtin.Slice.slicePlaces lo hi 1)) _ _ s;rw[yP lo hi n];show wpAny _ _ (pure (((sIx n 0 lo:Nat):Int),(1:Int),Builtin.Slice.slicePlaces ((sIx n 0 lo:Nat):Int) ((sIx n n hi:Nat):Int) 1)) _ _ s;rw[uJ];exact qb h
theorem uK(xs:Array Value)(i k:Nat):((List.range k).filterMap λ(m:Nat)=>xs[((i:Int)+(m:Int) * 1).toNat]?).toArray=((xs.toList.drop i).take k).toArray:=by
 have e:(λ(m:Nat)=>xs[((i:Int)+(m:Int) * 1).toNat]?)=λm=>xs[i+m]?:=by
  funext m
  have:((i:Int)+(m:Int) * 1).toNat=i+m:=Qz;rw[this]
 rw[e];have:=pick_run xs i k;rw[List.filterMap_map]at this;have e2:((λx=>xs[x]?) ∘ λx=>i+x)=λm=>xs[i+m]?:=U;rw[e2]at this;rw[this]
theorem getItem_tuple_cut{t sl:Addr}{items:Array Value}{vl vu:Value}{lo hi:Option Int}{Q:Qw}(ht:IsTup s.heap t items)(hs:s.heap.IsSliceOf sl vl vu .none)(pl:IsPart vl lo)(pu:IsPart vu hi)
 (hw:¬ (sIx items.size 0 lo=0/\sIx items.size items.size hi=items.size))
 (h:Q (.ref s.heap.objs.size) { s with heap:=s.heap.push { cls:=.type "tuple",data:=.seq ((items.toList.drop (sIx items.size 0 lo)).take (sIx items.size items.size hi-sIx items.size 0 lo)).toArray } })
 (hsz:items.size<=sizeLine):wpAny (model prog w) A (getItem (.ref t) (.ref sl)) Q E s:=by
 have htake:sizeOk (.seq ((items.toList.drop (sIx items.size 0 lo)).take (sIx items.size items.size hi-sIx items.size 0 lo)).toArray):=by
  show((items.toList.drop (sIx items.size 0 lo)).take (sIx items.size items.size hi-sIx items.size 0 lo)).toArray.size<=sizeLine;rw[qz,qI,qW,qK];omega
 have hj:sIx items.size items.size hi<=items.size:=u0 _ _ (qc _) hi;obtain⟨os,hos,hcs,hds⟩:=id hs;have hTs:s.TypeIs (.ref sl) "slice":=⟨os,hos,hcs⟩;unfold getItem
 try with_reducible refine Qs ?_
 first|refine q0 (qb ?_)|skip
 refine q0 (wpAny_sequenceKey ht.typeIs Qy ?_)
 refine q0 (wpAny_callSpecial?_slot (name:=Str.ofString "__getitem__") ht.typeIs PyProof.Rows.slot_tuple_getitem
  (Qg PyProof.Rows.slot_tuple_getitem ht.typeIs entry_tuple_getitem ?_ (args_tuple_getitem _ _)))
 show wpAny _ _ (Builtin.Tuple.tupleItemsOf (.ref t) >>= _) _ _ s;refine q0 (tupleItemsOf_ ht ?_);refine q0 (wpAny_typeOf hTs ?_);rw[qY Qy];refine q0 (sY hs pl pu ?_)
 have hno:¬ ((((sIx items.size 0 lo:Nat):Int) == 0 && (1:Int) == 1 && (sIx items.size items.size hi-sIx items.size 0 lo) == items.size)=true):=by
  intro q;rw[Bool.and_eq_true,Bool.and_eq_true]at q;have q1:((sIx items.size 0 lo:Nat):Int)=0:=eq_of_beq q.1.1;have q2:sIx items.size items.size hi-sIx items.size 0 lo=items.size:=eq_of_beq q.2;exact hw ⟨Qz,Qz⟩
 show wpAny _ _ (if(((sIx items.size 0 lo:Nat):Int) == 0 && (1:Int) == 1 && (sIx items.size items.size hi-sIx items.size 0 lo) == items.size)=true then _ else _) _ _ s;rw[qX hno,uK]
 first
  |exact q0 (m:=Builtin.Tuple.tupleExact _) (wpAny_newObj_type (qb ⟨_,rfl,qb h⟩) htake)
  |exact q0 (m:=Builtin.Tuple.tupleExact _) (wpAny_newObj_type (q0 (qb (qb ⟨_,rfl,qb h⟩))) htake)
  |exact q0 (q0 (m:=Builtin.Tuple.tupleExact _) (wpAny_newObj_type (qb (qb ⟨_,rfl,qb h⟩)) htake))
  |exact q0 (q0 (m:=Builtin.Tuple.tupleExact _) (wpAny_newObj_type (qb ⟨_,rfl,qb h⟩) htake))
end
end HT
namespace L2
open PySem PySem.Spec PyProof.Rows
abbrev TO:=St->Hp->(Option Int->Hp->Prop)->Prop
def PO(X:Cx)(e:Option Expr)(t:TO):Prop:=
 ∀(pins:List (Addr×Obj))(s:Shared)(σ:St)(H:Hp)(Q:Option Int->Hp->Prop),Inv X pins σ H s->t σ H Q->
  wpAny (model X.prog X.w) X.A (evalPart e X.env) (λu s'=>∃o H',Inv X pins σ H' s'/\IsPart u o/\Q o H') X.xe s
def rV:TO:=λ_ H Q=>Q none H
def rR(t:TE):TO:=λσ H Q=>t σ H λx H1=>∃i,x=.int i/\Q (some i) H1
section
variable {X:Cx}{e:Expr}{te:TE}{lo hi:Option Expr}{tl th:TO}{pos p2:Pos}
theorem eY:PO X none rV:=by
 intro pins s σ H Q I h;rw[evalPart_none];exact qb ⟨none,H,I,.none,h⟩
theorem dJ(h:PE X e te):PO X (some e) (rR te):=by
 intro pins s σ H Q I hw;rw[evalPart_some];refine thn (h pins s σ H _ I hw) λu s1 ⟨x,H1,I1,r1,q1⟩=>?_;obtain⟨i,rfl,q⟩:=q1;obtain⟨t,rfl⟩:=r1;exact⟨some i,H1,I1,.int i t,q⟩
def SlR(X:Cx)(r:V->Option Int->Option Int->Hp->VK->Prop):Prop:=
 ∀(pins:List (Addr×Obj))(s:Shared)(σ:St)(H:Hp)(x:V)(v vl vu:Value)(lo hi:Option Int)(sl:Addr)(Q:VK),Inv X pins σ H s->au x v->s.heap.IsSliceOf sl vl vu .none->IsPart vl lo->IsPart vu hi->r x lo hi H Q->
  ∃T id,typeLookup (.type T) "__getitem__"=pure (some (.builtin id))/\s.TypeIs v T/\wpAny (model X.prog X.w) X.A (getItem v (.ref sl)) (EP X pins σ Q) X.xe s
def tSl(r:V->Option Int->Option Int->Hp->VK->Prop)(te:TE)(tl th:TO):TE:=λσ H Q=>te σ H λx H1=>tl σ H1 λl H2=>th σ H2 λu H3=>r x l u H3 Q
theorem dY{r:V->Option Int->Option Int->Hp->VK->Prop}(hr:SlR X r)(he:PE X e te)(hl:PO X lo tl)(hu:PO X hi th):PE X (.Subscript e (.Slice lo hi none p2) pos) (tSl r te tl th):=by
 intro pins s σ H Q I h;refine Subscript_ (thn (he pins s σ H _ I h) λv s1 ⟨x,H1,I1,r1,q1⟩=>?_);refine wpAny_Slice (thn (hl pins s1 σ H1 _ I1 q1) λvl s2 ⟨l,H2,I2,pl,q2⟩=>thn (hu pins s2 σ H2 _ I2 q2) λvu s3 ⟨u,H3,I3,pu,q3⟩=>?_);rw[evalPart_none];refine qb ?_;have I4:Inv X pins σ H3 { s3 with heap:=s3.heap.push { cls:=.type "slice",data:=.fields #[vl,vu,.none] } }:=I3.kept (t':=s3.toks) λb ob q=>q5 _ q;obtain⟨T,id,hT,ht,hg⟩:=hr pins { s3 with heap:=s3.heap.push { cls:=.type "slice",data:=.fields #[vl,vu,.none] } } σ H3 x v vl vu l u s3.heap.objs.size Q I4 r1 (Heap.IsSliceOf.new ..) pl pu q3;show wpAny (model X.prog X.w) X.A (subscriptTail e (.Slice lo hi none p2) v (.ref s3.heap.objs.size)) (EP X pins σ Q) X.xe { s3 with heap:=s3.heap.push { cls:=.type "slice",data:=.fields #[vl,vu,.none] } };exact tail_any (ops:=[.ref s3.heap.objs.size,v]) ht hT hg (by with_unfolding_all rfl)
def bT(xs:List V)(lo hi:Option Int):List V:=(xs.drop (HT.sIx xs.length 0 lo)).take (HT.sIx xs.length xs.length hi-HT.sIx xs.length 0 lo)
theorem p5(xs:List V)(lo hi:Option Int):(bT xs lo hi).length<=xs.length:=by
 unfold bT;rw[qI,qW];omega
def uc(K:W.Frag):V->Option Int->Option Int->Hp->VK->Prop:=λx lo hi H Q=>∃a xs,x=.ref a/\SqT K H a xs /\
 ¬ (HT.sIx xs.length 0 lo=0/\HT.sIx xs.length xs.length hi=xs.length)/\∀p,H p=none->Q (.ref p) (upd H p (.tup (bT xs lo hi)))
theorem sZ:SlR X (uc X.K):=by
 intro pins s σ H x v vl vu lo hi sl Q I rx hs pl pu h;obtain⟨a,xs,rfl,hx,hw,q⟩:=h;cases rx;obtain⟨its,r,ht,hz⟩:=I.tuple hx;have hlen:its.toArray.size=xs.length:=by rw[qz];exact r.length.symm
 refine⟨"tuple",_,PyProof.Rows.slot_tuple_getitem.lookup,ht.typeIs,?_⟩;refine HT.getItem_tuple_cut ht hs pl pu (by rw[hlen];exact hw) ?_ (by rw[hlen];exact hz);rw[hlen];refine⟨.ref s.heap.objs.size,_,I.laid (t':=s.toks) (o:=.tup (bT xs lo hi)) (λb ob q=>q5 _ q) (qc _) ?_,U,q _ (I.hok.fresh (qc _))⟩;exact⟨qw (p5 xs lo hi) hz,_,(r.drop (HT.sIx xs.length 0 lo)).take (HT.sIx xs.length xs.length hi-HT.sIx xs.length 0 lo),IsTup.new _ _⟩
def ui(K:W.Frag):R2:=λx y H Q=>∃a b xs ys,x=.ref a/\y=.ref b/\SqT K H a xs/\SqT K H b ys/\xs≠[]/\xs.length+ys.length<=sizeLine /\
 (ys=[]->Q (.ref a) H)/\(ys≠[]->∀p,H p=none->Q (.ref p) (upd H p (.tup (xs++ys))))
theorem aq.nil_iff{xs:List V}{us:List Value}(r:aq xs us):us=[]↔xs=[]:=by
 cases r with
 |nil=>simp
 |cons _ _=>simp
theorem vq:OpR X (binaryOp .Add) (ui X.K):=by
 intro pins s σ H x y v u Q I rx ry h;obtain⟨a,b,xs,ys,rfl,rfl,ha,hb,hx,hz,q1,q2⟩:=h;cases rx;cases ry;obtain⟨its,r1,p1,_⟩:=I.tuple ha;obtain⟨its2,r2,p2,_⟩:=I.tuple hb;refine HT.cat_tup p1 p2 (λz=>hx (r1.nil_iff.mp z)) (λz=>⟨.ref a,H,I,U,q1 (r2.nil_iff.mp z)⟩) (λz=>?_) (by rw[<- r1.length,<- r2.length];exact hz);refine⟨.ref s.heap.objs.size,_,I.laid (t':=s.toks) (o:=.tup (xs++ys)) (λb ob q=>q5 _ q) (qc _) ?_,U,q2 (λw=>z (r2.nil_iff.mpr w)) _ (I.hok.fresh (qc _))⟩;exact⟨by rw[q9];exact hz,_,r1.append r2,IsTup.new _ _⟩
end
def ixN(n:Nat)(i:Int):Option Nat:=if 0<=i then(if i<n then some i.toNat else none)else if -(n:Int)<=i then some (i+n).toNat else none
def atI{α:Type}(xs:List α)(i:Int):Option α:=(ixN xs.length i).bind λj=>xs[j]?
theorem oo{n:Nat}{i:Int}{j:Nat}(h:ixN n i=some j):seqIndex? i n=some j/\j<n/\-(n:Int)<=i/\i<n:=by
 unfold ixN at h;by_cases h0:0<=i
 ·rw[qY h0]at h;by_cases h1:i<n
  ·rw[qY h1]at h;have e:i.toNat=j:=qH h;exact⟨by rw[seqIndex_of h0 h1,e],Qz,Qz,h1⟩
  ·rw[qX h1]at h;cases h
 ·rw[qX h0]at h;by_cases h1:-(n:Int)<=i
  ·rw[qY h1]at h;have e:(i+n).toNat=j:=qH h;exact⟨by rw[seqIndex_neg Qz h1,e],Qz,h1,Qz⟩
  ·rw[qX h1]at h;cases h
theorem pK{α:Type}{xs:List α}{i:Int}{v:α}(h:atI xs i=some v):∃j,seqIndex? i xs.length=some j/\xs[j]?=some v/\j<xs.length/\-(xs.length:Int)<=i/\i<xs.length:=by
 unfold atI at h
 cases e:ixN xs.length i with
 |none=>rw[e]at h;cases h
 |some j=>
  rw[e]at h;obtain⟨h1,h2,h3,h4⟩:=oo e;exact⟨j,h1,h,h2,h3,h4⟩
theorem bO{α:Type}{xs:List α}{j:Nat}{v:α}(h:xs[j]?=some v):atI xs (j:Int)=some v:=by
 have hj:j<xs.length:=(qd.mp h).1
 have e:ixN xs.length (j:Int)=some j:=by
  unfold ixN;rw[qY Qz,qY Qz];simp
 unfold atI;rw[e];exact h
def yT(b:Expr):Prop:=∀o i,subscripted b false o i=operate [o,i] (getItem o i)
def IxR(X:Cx)(r:R2):Prop:=
 ∀(value slice:Expr)(pins:List (Addr×Obj))(s:Shared)(σ:St)(H:Hp)(x y:V)(v u:Value)(Q:VK),Inv X pins σ H s->au x v->au y u->r x y H Q->
  subscripted slice false v u=operate [v,u] (getItem v u)->wpAny (model X.prog X.w) X.A (subscriptTail value slice v u) (EP X pins σ Q) X.xe s
def MtR(X:Cx)(id:String)(r:V->List V->Hp->VK->Prop):Prop:=
 ∀(pins:List (Addr×Obj))(s:Shared)(σ:St)(H:Hp)(x:V)(xs:List V)(v:Value)(us:List Value)(Q:VK),Inv X pins σ H s->au x v->aq xs us->r x xs H Q->
  wpAny (model X.prog X.w) X.A (call (.builtin id) (v::us)) (EP X pins σ Q) X.xe s
section
variable {X:Cx}{a b:Expr}{ta tb:TE}{pos:Pos}
theorem am{r:R2}(hr:IxR X r)(ha:PE X a ta)(hb:PE X b tb)(hs:yT b):PE X (.Subscript a b pos) (tOp r ta tb):=by
 intro pins s σ H Q I h;exact Subscript_ (kL ha hb I h λv u s2 x y H2 I2 rx ry q=>hr a b pins s2 σ H2 x y v u Q I2 rx ry q (hs _ _))
def ug(K:W.Frag):R2:=λx y H Q=>∃p xs i v,x=.ref p/\y=.int i/\SqL K H p xs/\atI xs i=some v/\Q v H
def uf(K:W.Frag):R2:=λx y H Q=>∃p xs i v,x=.ref p/\y=.int i/\SqT K H p xs/\atI xs i=some v/\Q v H
theorem xB:IxR X (ug X.K):=by
 intro value slice pins s σ H x y v u Q I rx ry h hs;obtain⟨p,xs,i,z,rfl,rfl,hq,he,q⟩:=h;cases rx;obtain⟨t,rfl⟩:=ry;obtain⟨its,r,pl,hz⟩:=I.list hq;obtain⟨j,h1,h2,h3,h4,h5⟩:=pK he;obtain⟨w,ew,rw'⟩:=r.get h2;have hl:=r.length;have hn:=ii;have fin:EP X pins σ Q w s:=⟨z,H,I,rw',q⟩;by_cases h0:0<=i
 ·have hj:i.toNat=j:=by
   rw[seqIndex_of h0 h5]at h1;exact qH h1
  exact item_listR pl.isList h0 Qz (by rw[hj];simpa using ew) fin hs
 ·have hj:(i+(its.toArray.size:Int)).toNat=j:=by
   rw[seqIndex_neg Qz h4]at h1;rw[qz,<- hl];exact qH h1
  exact subscriptTail_builtinR (x:=w) pl.isList.typeIs slot_list_getitem.lookup
   (wpAny_getItem_list_neg (Q:=λr s'=>r=w/\EP X pins σ Q r s') pl.isList Qz (by rw[qz]<;>omega) Qz (by rw[hj];simpa using ew) ⟨U,fin⟩) hs
theorem xA:IxR X (uf X.K):=by
 intro value slice pins s σ H x y v u Q I rx ry h hs;obtain⟨p,xs,i,z,rfl,rfl,hq,he,q⟩:=h;cases rx;obtain⟨t,rfl⟩:=ry;obtain⟨its,r,pl,hz⟩:=I.tuple hq;obtain⟨j,h1,h2,h3,h4,h5⟩:=pK he;obtain⟨w,ew,rw'⟩:=r.get h2;have hl:=r.length;have hn:=ii;have fin:EP X pins σ Q w s:=⟨z,H,I,rw',q⟩
 exact subscriptTail_builtinR (x:=w) pl.typeIs slot_tuple_getitem.lookup
  (getItem_tuple (j:=j) (Q:=λr s'=>r=w/\EP X pins σ Q r s') pl Qz Qz (by rw[qz,<- hl];exact h1) (by simpa using ew) ⟨U,fin⟩) hs
theorem wM(its:List Value)(n j:Nat)(u:Value):Obj.mapSeq (·.setIfInBounds j u) { cls:=.type "list",data:=.seq its.toArray n }={ cls:=.type "list",data:=.seq (its.set j u).toArray n }:=by
 simp[Obj.mapSeq]
theorem Inv.lst{pins:List (Addr×Obj)}{σ:St}{H:Hp}{s:Shared}{p:Addr}{xs:List V}(I:Inv X pins σ H s)(h:H p=some (.lst xs)):
 ∃(its:List Value)(n:Nat),aq xs its/\s.heap.get? p=some { cls:=.type "list",data:=.seq its.toArray n }/\xs.length<=sizeLine:=by
 obtain⟨z,its,n,r,e⟩:=I.hok p _ h;exact⟨its,n,r,e,z⟩
theorem Inv.lstUpd{pins:List (Addr×Obj)}{σ:St}{H:Hp}{s:Shared}{p:Addr}{xs ys:List V}{its its':List Value}{n n':Nat}{f:Obj->Obj}(I:Inv X pins σ H s)(h:H p=some (.lst xs))
 (ho:s.heap.get? p=some { cls:=.type "list",data:=.seq its.toArray n }) (hf:f { cls:=.type "list",data:=.seq its.toArray n }={ cls:=.type "list",data:=.seq its'.toArray n' }) (r:aq ys its') (hz:ys.length<=sizeLine) (t:Nat):
 Inv X pins σ (upd H p (.lst ys)) { s with heap:=s.heap.update p f,toks:=t }:=by
 have e:(s.heap.update p f).get? p=some { cls:=.type "list",data:=.seq its'.toArray n' }:=by
  rw[Qe f ho (by rw[hf]<;>rfl),hf]
 refine I.write (x:=p) (e:=p) (by rw[h];trivial) (.inl U) (λb u hb q=>(Qq _ _ (Ne.symm hb)).trans q) ⟨_,e⟩ ?_;exact⟨hz,its',n',r,e⟩
def ue:V->V->V->Hp->(Hp->Prop)->Prop:=λo i v H Q=>∃p xs k j,o=.ref p/\i=.int k/\H p=some (.lst xs)/\ixN xs.length k=some j/\Q (upd H p (.lst (xs.set j v)))
theorem gM:pO X ue:=by
 intro pins s σ H o i v ov iv u Q I ro ri rv h;obtain⟨p,xs,k,j,rfl,rfl,hp,hj,q⟩:=h;cases ro;obtain⟨t,rfl⟩:=ri;obtain⟨its,n,r,ho,hz⟩:=I.lst hp;obtain⟨h1,h2,h3,h4⟩:=oo hj;have hl:=r.length;have hn:=ii
 have I':Inv X pins σ (upd H p (.lst (xs.set j v))) { s with heap:=s.heap.update p (Obj.mapSeq (·.setIfInBounds j u)) }:=
  I.lstUpd hp ho (wM its n j u) (r.set rv j) (by rw[List.length_set];exact hz) s.toks
 by_cases h0:0<=k
 ·have hk:k.toNat=j:=by
   rw[seqIndex_of h0 h4]at h1;exact qH h1
  exact PySem.W.ki_setAt ho h0 Qz (by rw[qz,<- hl];exact h4) (by rw[hk];exact⟨_,I',q⟩)
 ·have hk:(k+(its.toArray.size:Int)).toNat=j:=by
   rw[seqIndex_neg Qz h3]at h1;rw[qz,<- hl];exact qH h1
  exact PySem.W.ki_setBack ho Qz (by rw[qz,<- hl];exact h3) Qz (by rw[hk];exact⟨_,I',q⟩)
theorem sW(lo hi:Option Int)(n:Nat):(sliceBounds lo hi none n).1=((HT.sIx n 0 lo:Nat):Int)/\(sliceBounds lo hi none n).2.1=((HT.sIx n n hi:Nat):Int)/\(sliceBounds lo hi none n).2.2=1:=by
 refine⟨?_,?_,U⟩
 ·cases lo with
  |none=>simp[sliceBounds,HT.sIx]
  |some i=>
   simp only[sliceBounds,HT.sIx,Option.getD_none,show(1:Int) > 0 by decide,if_true];by_cases h:i<0
   ·simp only[h,if_true]<;>omega
   ·simp only[h,if_false]<;>omega
 ·cases hi with
  |none=>simp[sliceBounds,HT.sIx]
  |some i=>
   simp only[sliceBounds,HT.sIx,Option.getD_none,show(1:Int) > 0 by decide,if_true];by_cases h:i<0
   ·simp only[h,if_true]<;>omega
   ·simp only[h,if_false]<;>omega
theorem sX(its:List Value)(lo hi:Option Int):slicePick its.toArray lo hi none=((its.drop (HT.sIx its.length 0 lo)).take (HT.sIx its.length its.length hi-HT.sIx its.length 0 lo)).toArray:=by
 obtain⟨h1,h2,h3⟩:=sW lo hi its.toArray.size;unfold slicePick;rw[h1,h2,h3];simp only[sliceRange_one,pick_run,qz]<;>rfl
def ud(K:W.Frag):V->Option Int->Option Int->Hp->VK->Prop:=λx lo hi H Q=>∃a xs,x=.ref a/\SqL K H a xs/\∀p,H p=none->Q (.ref p) (upd H p (.lst (bT xs lo hi)))
theorem eS:SlR X (ud X.K):=by
 intro pins s σ H x v vl vu lo hi sl Q I rx hs pl pu h;obtain⟨a,xs,rfl,hx,q⟩:=h;cases rx;obtain⟨its,r,ht,hz⟩:=I.list hx;have hlen:=r.length;refine⟨"list",_,slot_list_getitem.lookup,ht.isList.typeIs,?_⟩;refine wpAny_getItem_list_slice ht.isList hs pl pu .none (by simp) ?_ (by rw[qz]<;>omega);rw[sX,<- hlen];refine⟨.ref s.heap.objs.size,_,I.laid (t':=s.toks) (o:=.lst (bT xs lo hi)) (λb ob q=>q5 _ q) (qc _) ?_,U,q _ (I.hok.fresh (qc _))⟩;exact⟨qw (p5 xs lo hi) hz,_,0,(r.drop (HT.sIx xs.length 0 lo)).take (HT.sIx xs.length xs.length hi-HT.sIx xs.length 0 lo),qk _ U⟩
def dP:V->Bool
 |.non=>true
 |.bl _=>true
 |.int _=>true
 |.str _=>true
 |_=>false
def eqV:V->V->Bool
 |.non,.non=>true
 |.bl a,.bl b=>a == b
 |.bl a,.int b=>(if a then 1 else 0) == b
 |.int a,.bl b=>a == (if b then 1 else 0)
 |.int a,.int b=>a == b
 |.str a,.str b=>a == b
 |_,_=>false
theorem xZ{A:Around}{s:Shared}{y x:V}{u v:Value}(ry:au y u)(rx:au x v)(fy:dP y=true)(fx:dP x=true):SeqAt.EqAt A s u v (eqV y x):=by
 cases y with
 |non=>
  cases ry
  cases x with
  |non=>cases rx;exact SeqAt.EqAt.same _
  |bl b=>cases rx;exact SeqAt.EqAt.none_bool b
  |int b=>obtain⟨t,rfl⟩:=rx;exact SeqAt.EqAt.none_int b t
  |str b=>obtain⟨t,rfl⟩:=rx;exact SeqAt.EqAt.none_str b t
  |_=>exact Q1 (show false=true from fx) qg
 |bl a=>
  cases ry
  cases x with
  |non=>cases rx;exact SeqAt.EqAt.bool_none a
  |bl b=>cases rx;exact SeqAt.EqAt.bool_bool a b
  |int b=>obtain⟨t,rfl⟩:=rx;exact SeqAt.EqAt.bool_int a b t
  |str b=>obtain⟨t,rfl⟩:=rx;exact SeqAt.EqAt.bool_str a b t
  |_=>exact Q1 (show false=true from fx) qg
 |int a=>
  obtain⟨t',rfl⟩:=ry
  cases x with
  |non=>cases rx;exact SeqAt.EqAt.int_none a t'
  |bl b=>cases rx;exact SeqAt.EqAt.int_bool a t' b
  |int b=>obtain⟨t,rfl⟩:=rx;exact SeqAt.EqAt.int_int a t' b t
  |str b=>obtain⟨t,rfl⟩:=rx;exact SeqAt.EqAt.int_str a t' b t
  |_=>exact Q1 (show false=true from fx) qg
 |str a=>
  obtain⟨t',rfl⟩:=ry
  cases x with
  |non=>cases rx;exact SeqAt.EqAt.str_none a t'
  |bl b=>cases rx;exact SeqAt.EqAt.str_bool a t' b
  |int b=>obtain⟨t,rfl⟩:=rx;exact SeqAt.EqAt.str_int a t' b t
  |str b=>obtain⟨t,rfl⟩:=rx;exact SeqAt.EqAt.str_str a t' b t
  |_=>exact Q1 (show false=true from fx) qg
 |_=>exact Q1 (show false=true from fy) qg
def eqU(x:V)(u:Value):Bool:=match u with
 |.none=>eqV .non x
 |.bool b=>eqV (.bl b) x
 |.int i _=>eqV (.int i) x
 |.str z _=>eqV (.str z) x
 |_=>false
theorem oU{x y:V}{u:Value}(r:au y u)(f:dP y=true):eqU x u=eqV y x:=by
 cases y with
 |non=>cases r;rfl
 |bl b=>cases r;rfl
 |int i=>obtain⟨t,rfl⟩:=r;rfl
 |str z=>obtain⟨t,rfl⟩:=r;rfl
 |_=>exact Q1 (show false=true from f) qg
theorem kS{x:V}:∀{xs:List V}{us:List Value},aq xs us->xs.all dP=true->us.any (eqU x)=xs.any λy=>eqV y x
 |_,_,.nil,_=>rfl
 |y::xs,u::us,.cons r t,f=>by
  rw[List.all_cons,Bool.and_eq_true]at f;rw[List.any_cons,List.any_cons,oU r f.1,kS t f.2]
theorem jZ{A:Around}{s:Shared}{x:V}{v:Value}(rx:au x v)(fx:dP x=true):∀{xs:List V}{us:List Value},aq xs us->xs.all dP=true->∀u∈us,SeqAt.EqAt A s u v (eqU x u)
 |_,_,.nil,_=>λu hu=>by cases hu
 |y::xs,u::us,.cons r t,f=>λu' hu=>by
  rw[List.all_cons,Bool.and_eq_true]at f;rcases qr.mp hu with rfl|hu
  ·rw[oU r f.1];exact xZ r rx f.1 fx
  ·exact jZ rx fx t f.2 u' hu
def inV(x:V)(xs:List V):Bool:=xs.any λy=>eqV y x
def rIn(K:W.Frag)(neg:Bool):R2:=λx y H Q=>∃p xs,y=.ref p/\(SqL K H p xs\/SqT K H p xs)/\dP x=true/\xs.all dP=true/\Q (.bl (if neg then !inV x xs else inV x xs)) H
theorem vg:OpR X (compareOp .NotIn) (rIn X.K true):=by
 intro pins s σ H x y v u Q I rx ry h;obtain⟨p,xs,rfl,hq,fx,fs,q⟩:=h;cases ry;rcases hq with hq|hq
 ·obtain⟨its,r,pl,hz⟩:=I.list hq;refine SeqAt.notIn_listAt (eqU x) pl.isList (λw hw=>jZ rx fx r fs w (by simpa using hw)) ⟨.bl _,H,I,U,?_⟩;rw[show its.toArray.any (eqU x)=its.any (eqU x)by simp,kS r fs];exact q
 ·obtain⟨its,r,pl,hz⟩:=I.tuple hq;refine SeqAt.notIn_tupleAt (eqU x) pl (λw hw=>jZ rx fx r fs w (by simpa using hw)) ⟨.bl _,H,I,U,?_⟩;rw[show its.toArray.any (eqU x)=its.any (eqU x)by simp,kS r fs];exact q
theorem yF:bW X (.builtin "len") (λxs H Q=>∃p ys,xs=[.ref p]/\(SqL X.K H p ys\/SqT X.K H p ys)/\Q (.int ys.length) H):=by
 intro pins s σ H xs us Q I r h;obtain⟨p,ys,rfl,hq,q⟩:=h;obtain⟨u,rfl,rx⟩:=dC r;cases rx;have hn:=ii;rcases hq with hq|hq
 ·obtain⟨its,r',pl,hz⟩:=I.list hq;have hlen:=r'.length;exact Calls.call_len_list pl.isList (by simp only[qz]<;>omega) ⟨.int ys.length,H,I.tok _,⟨s.toks+1,by rw[qz,hlen]⟩,q⟩
 ·obtain⟨its,r',pl,hz⟩:=I.tuple hq;have hlen:=r'.length;exact len_tuple pl (by simp only[qz]<;>omega) ⟨.int ys.length,H,I.tok _,⟨s.toks+1,by rw[qz,hlen]⟩,q⟩
theorem yE:bW X (.type "list") (λxs H Q=>∃p ys,xs=[.ref p]/\(SqL X.K H p ys\/SqT X.K H p ys)/\∀l,H l=none->Q (.ref l) (upd H l (.lst ys))):=by
 intro pins s σ H xs us Q I r h;obtain⟨p,ys,rfl,hq,q⟩:=h;obtain⟨u,rfl,rx⟩:=dC r;cases rx
 have fin:∀(its:List Value),aq ys its->ys.length<=sizeLine->∀(h':Heap)(c':Nat),(∀b o',s.heap.get? b=some o'->h'.get? b=some o')->
  h'.get? s.heap.objs.size=some { cls:=.type "list",dict:=none,data:=.seq its.toArray c',slots:=#[] }->EP X pins σ Q (.ref s.heap.objs.size) { s with heap:=h' }:=λits r' hz h' c' kp e=>
  ⟨.ref s.heap.objs.size,_,I.laid (t':=s.toks) kp (qc _) (show bz X.prog X.w _ h' _ (.lst ys)from⟨hz,its,c',r',e⟩),U,q _ (I.hok.fresh (qc _))⟩
 rcases hq with hq|hq
 ·obtain⟨its,r',pl,hz⟩:=I.list hq;have hlen:=r'.length;obtain⟨o,ho,hc,n,hd⟩:=pl.isList;exact call_list_seq p (.inl U) ho hc hd (λh' c' kp e=>fin its r' hz h' c' kp e) (by simp only[qz]<;>omega)
 ·obtain⟨its,r',pl,hz⟩:=I.tuple hq;have hlen:=r'.length;obtain⟨o,ho,hc,n,hd⟩:=pl;exact call_list_seq p (.inr U) ho hc hd (λh' c' kp e=>fin its r' hz h' c' kp e) (by simp only[qz]<;>omega)
theorem yB:bW X (.type "tuple") (λxs H Q=>∃p ys,xs=[.ref p]/\((SqL X.K H p ys/\∀l,H l=none->Q (.ref l) (upd H l (.tup ys)))\/(SqT X.K H p ys/\Q (.ref p) H))):=by
 intro pins s σ H xs us Q I r h;obtain⟨p,ys,rfl,h⟩:=h;obtain⟨u,rfl,rx⟩:=dC r;cases rx;rcases h with⟨hq,q⟩|⟨hq,q⟩
 ·obtain⟨its,r',pl,hz⟩:=I.list hq;have hlen:=r'.length;refine call_tuple_list pl.isList (λh' kp=>?_) (by simp only[qz]<;>omega);have I1:Inv X pins σ H { s with heap:=h' }:=I.kept (t':=s.toks) kp
  have I2:Inv X pins σ (upd H h'.objs.size (.tup ys)) { s with heap:=h'.push { cls:=.type "tuple",data:=.seq its.toArray } }:=
   I1.laid (t':=s.toks) (λb o e=>q5 _ e) (qc _) (show bz X.prog X.w _ _ _ (.tup ys)from⟨hz,its,r',IsTup.new _ _⟩)
  exact⟨.ref h'.objs.size,_,I2,U,q _ (I1.hok.fresh (qc _))⟩
 ·obtain⟨its,r',pl,hz⟩:=I.tuple hq;exact call_tuple_same pl ⟨.ref p,H,I,U,q⟩
def tyV(K:W.Frag)(T:String)(x:V)(H:Hp):Prop:=match x with
 |.str _=>T="str"
 |.int _=>T="int"
 |.ref p=>(T="list"/\∃xs,SqL K H p xs)\/(T="tuple"/\∃o,K.lookup p=some o/\o.cls=.type "tuple"/\o.dict=none) \/
  (T="dict"/\((∃kvs,H p=some (.dK kvs))\/∃kvs,H p=some (.dT kvs)))\/(T="set"/\∃S n,H p=some (.set S n))
 |_=>False
theorem rE{pins:List (Addr×Obj)}{σ:St}{H:Hp}{s:Shared}{T:String}{x:V}{v:Value}(I:Inv X pins σ H s)(r:au x v)(ty:tyV X.K T x H):
 s.TypeIs v T/\∀a,v=.ref a->∃ob,s.heap.get? a=some ob/\ob.dict=none:=by
 cases x with
 |str z=>
  obtain⟨t,rfl⟩:=r;cases(show T="str" from ty);exact⟨typeIs_str s z t,λ_ e=>nomatch e⟩
 |int i=>
  obtain⟨t,rfl⟩:=r;cases(show T="int" from ty);exact⟨typeIs_int s i t,λ_ e=>nomatch e⟩
 |ref p=>
  cases r;rcases ty with⟨rfl,xs,hq⟩|⟨rfl,o,hk,hc,hd⟩|⟨rfl,hk⟩|⟨rfl,S,n,hk⟩
  ·obtain⟨its,_,pl,_⟩:=I.list hq;refine⟨pl.isList.typeIs,λa e=>?_⟩;cases e;obtain⟨o,n,e,c,hd,_⟩:=pl;exact⟨o,e,hd⟩
  ·refine⟨⟨o,I.kIn p o hk,hc⟩,λa e=>?_⟩;cases e;exact⟨o,I.kIn _ o hk,hd⟩
  ·have z:∃o,s.heap.get? p=some o/\o.ExactDict:=by
    rcases hk with⟨kvs,hk⟩|⟨kvs,hk⟩
    ·obtain⟨_,_,_,_,o,_,_,e,ex,_⟩:=I.hok p _ hk;exact⟨o,e,ex⟩
    ·obtain⟨_,_,_,_,o,_,_,e,ex,_⟩:=I.hok p _ hk;exact⟨o,e,ex⟩
   obtain⟨o,e,ex⟩:=z;refine⟨⟨o,e,ex.1⟩,λa e2=>?_⟩;cases e2;exact⟨o,e,ex.2.1⟩
  ·obtain⟨o,_,_,_,e,ex,_⟩:=I.hok p _ hk;refine⟨⟨o,e,ex.1⟩,λa e2=>?_⟩;cases e2;exact⟨o,e,ex.2.1⟩
 |_=>exact False.elim ty
def tBM(K:W.Frag)(T:String)(r:V->List V->Hp->VK->Prop)(to:TE)(t:TA):TE:=λσ H Q=>to σ H λx H1=>tyV K T x H1/\t σ H1 λxs H2=>r x xs H2 Q
variable {o e:Expr}{es:List Expr}{to:TE}{t:TA}{name:Str}{apos cpos:Pos}{T id:String}{r:V->List V->Hp->VK->Prop}
theorem va(pa:PlainAttrs T)(slot:Slot T name id)(hty:typeOf (.builtin id)=pure (.type "method_descriptor"))(hm:MtR X id r)(ho:PE X o to)(ha:PA X (e::es) t)
 (hbase:attributeBase o name X.env (eval o X.env)=eval o X.env:=by rfl)
 (hfew:((backTo cpos (starEach (e::es) X.env)).all (λx=>!x.1) && (backToKw cpos (keywordEach [] X.env)).all (λx=>x.1.isSome)
  && decide ((e::es).length+([]:List Keyword).length+(if([]:List Keyword).isEmpty then 0 else 1)<30))=true:=by rfl)
 (hline:(apos.endLine == cpos.line)=true:=by rfl) (hs:starEach (e::es) X.env=(false,eval e X.env)::starEach es X.env:=by rfl) (hplain:(backTo cpos (starEach es X.env)).any (·.1)=false:=by rfl):
 PE X (.Call (.Attribute o name apos) (e::es) [] cpos) (tBM X.K T r to t):=by
 intro pins s σ H Q I h;refine wpAny_Call_method_late hbase hfew hline U (thn (ho pins s σ H _ I h) λv s1 ⟨x,H1,I1,r1,ty,q1⟩=>?_);obtain⟨h1,h2⟩:=rE I1 r1 ty;refine⟨T,id,pa,slot,hty,h1,h2,?_⟩;have hA:=ha cpos pins s1 σ H1 _ I1 q1;rw[hs]at hA ⊢;refine Calls.callWith_builtin (by show(false || (backTo cpos (starEach es X.env)).any (·.1))=false;rw[hplain]<;>rfl) (Calls.evalArgs_plain ?_);exact thn hA λus s2 ⟨vs,H2,I2,r2,q2⟩=>hm pins s2 σ H2 x vs v us Q I2 r1 r2 q2
end
def MtM(X:Cx)(id:String)(r:V->List V->Hp->VK->Prop):Prop:=
 ∀(pins:List (Addr×Obj))(s:Shared)(σ:St)(H:Hp)(x:V)(xs:List V)(v:Value)(us:List Value)(Q:VK),Inv X pins σ H s->au x v->aq xs us->r x xs H Q->
  wpAny (model X.prog X.w) X.A (call (.builtin id) (v::us)) (EP X pins σ Q) X.xe s
theorem aq.one:∀{x:V}{us:List Value},aq [x] us->∃u,us=[u]/\au x u
 |_,_,.cons r .nil=>⟨_,U,r⟩
section
variable {X:Cx}{pins:List (Addr×Obj)}{σ:St}{H:Hp}{s:Shared}{l b:Addr}{xs ys zs:List V}
theorem Inv.lset{its its':List Value}{n:Nat}{f:Array Value->Array Value}{t':Nat}(I:Inv X pins σ H s)(hH:H l=some (.lst xs))
 (e:s.heap.get? l=some { cls:=.type "list",data:=.seq its.toArray n }) (hf:f its.toArray=its'.toArray) (hv:aq ys its') (hz:ys.length<=sizeLine):
 Inv X pins σ (upd H l (.lst ys)) { s with heap:=s.heap.update l (Obj.mapSeq f),toks:=t' }:=by
 have q:=PySem.IsL.update e f;rw[hf]at q;refine I.write (x:=l) (e:=l) (by rw[hH];exact trivial) (.inl U) (λb' u hb hu=>(Qq s.heap (Obj.mapSeq f) (Ne.symm hb)).trans hu) ⟨_,q⟩ ?_;exact⟨hz,its',_,hv,q⟩
theorem Inv.lnew{its:List Value}{t':Nat}(I:Inv X pins σ H s)(hv:aq ys its)(hz:ys.length<=sizeLine):
 Inv X pins σ (upd H s.heap.objs.size (.lst ys)) { s with heap:=s.heap.push { cls:=.type "list",data:=.seq its.toArray },toks:=t' }:=
 I.laid (λ_ _ q=>q5 _ q) (qc _) ⟨hz,its,0,hv,qk _ U⟩
theorem Inv.fresh(I:Inv X pins σ H s):H s.heap.objs.size=none:=I.hok.fresh (qc _)
theorem Inv.lstM(I:Inv X pins σ H s)(hH:H l=some (.lst xs)):xs.length<=sizeLine/\∃(its:List Value)(n:Nat),aq xs its/\xs.length=its.length/\s.heap.get? l=some { cls:=.type "list",data:=.seq its.toArray n }:=by
 obtain⟨z,its,n,r,e⟩:=I.hok l _ hH;exact⟨z,its,n,r,r.length,e⟩
theorem wF{n:Nat}(h:n<=sizeLine):Builtin.List.listTooLong n=false:=by
 unfold Builtin.List.listTooLong;exact Q0 Qz
end
section
variable {X:Cx}
def uk:V->List V->Hp->VK->Prop:=λx vs H Q=>∃l xs y,x=.ref l/\vs=[y]/\H l=some (.lst xs)/\xs.length<sizeLine/\Q .non (upd H l (.lst (xs++[y])))
theorem wH:MtM X "list.append" uk:=by
 intro pins s σ H x vs v us Q I rx rv h;obtain⟨l,xs,y,rfl,rfl,hH,hz,q⟩:=h;cases rx;obtain⟨u,rfl,ru⟩:=rv.one;obtain⟨z,its,n,r,hl,e⟩:=I.lstM hH;refine call_meets F.slot_list_append ⟨_,e,U⟩ F.entry_list_append (F.args_list_append_2 _ _) (PySem.list_append l its.toArray n u (by rw[qz];omega)) ⟨e,?_⟩;refine⟨.non,_,I.lset (its':=its++[u]) hH e (by simp) (r.append (.cons ru .nil)) ?_,U,q⟩;rw[q9,Q4];omega
def uh:V->List V->Hp->VK->Prop:=λx vs H Q=>∃l b xs zs,x=.ref l/\vs=[.ref b]/\H l=some (.lst xs)/\H b=some (.lst zs)/\xs.length+zs.length<=sizeLine/\Q .non (upd H l (.lst (xs++zs)))
theorem jY:MtM X "list.extend" uh:=by
 intro pins s σ H x vs v us Q I rx rv h;obtain⟨l,b,xs,zs,rfl,rfl,hH,hB,hz,q⟩:=h;cases rx;obtain⟨u,rfl,ru⟩:=rv.one;cases ru;obtain⟨z,its,n,r,hl,e⟩:=I.lstM hH;obtain⟨z2,its2,n2,r2,hl2,e2⟩:=I.lstM hB;have hsz:its.toArray.size+its2.toArray.size<=sizeLine:=by rw[qz,qz];omega
 have hlong:¬ (!its.toArray.isEmpty && Builtin.List.listTooLong (its.toArray.size+its2.toArray.size))=true:=by
  rw[wF hsz,Bool.and_false];exact qg
 refine call_meets F.slot_list_extend ⟨_,e,U⟩ F.entry_list_extend (F.args_list_extend_2 _ _)
  (AutoSeq1.list_extend_list_list_0 l its.toArray n b its2.toArray n2 hlong (by rw[qz];omega) Qz) ⟨e,e2,?_⟩
 refine⟨.non,_,I.lset (its':=its++its2) hH e (by simp) (r.append r2) ?_,U,q⟩;rw[q9];omega
end
section
variable {prog:Program}{w:World}{A:Around}{E:Qw}{s:Shared}
set_option maxRecDepth 100000 in
end
section
variable {X:Cx}
end
section
variable {κ:Type} [DecidableEq κ]
def cu(kvs:List (κ×V))(k:κ):Option V:=(kvs.find? λkv=>decide (kv.1=k)).map (·.2)
def cG(kvs:List (κ×V))(k:κ)(v:V):List (κ×V):=
 if(kvs.any λkv=>decide (kv.1=k))=true then kvs.map (λkv=>if kv.1=k then(kv.1,v)else kv)else kvs++[(k,v)]
def d9(kvs:List (κ×V))(k:κ):List (κ×V):=kvs.filter λkv=>decide (kv.1≠k)
theorem lE{p:κ×V}{r:List (κ×V)}{k:κ}(e:p.1=k):cu (p::r) k=some p.2:=by simp[cu,Q6,e]
theorem lF{p:κ×V}{r:List (κ×V)}{k:κ}(e:¬ p.1=k):cu (p::r) k=cu r k:=by simp[cu,Q6,e]
theorem o8(kvs:List (κ×V))(k:κ)(v:V):(cG kvs k v).length<=kvs.length+1:=by
 unfold cG;split
 ·rw[q4];omega
 ·rw[q9,qy,List.length_nil];omega
theorem bV.isSome_eq{o:Option V}{u:Option Value}(r:bV o u):o.isSome=u.isSome:=by
 cases o with
 |none=>cases u with
  |none=>rfl
  |some _=>exact(show False from r).elim
 |some _=>cases u with
  |none=>exact(show False from r).elim
  |some _=>rfl
theorem KV.val{kvs:List (κ×V)}{vs:List (κ×Value)}(r:KV kvs vs)(k:κ):bV (cu kvs k) (valueAt vs k):=by
 unfold KV at r
 induction r with
 |nil=>exact True.intro
 |@cons p q ps qs h t ih=>
  obtain⟨h1,h2⟩:=h;by_cases e:p.1=k
  ·have e':q.1=k:=h1.symm.trans e;have b:valueAt (q::qs) k=some q.2:=by simp[valueAt,Q6,e']
   rw[lE e,b];exact h2
  ·have e':¬ q.1=k:=λz=>e (h1.trans z);have b:valueAt (q::qs) k=valueAt qs k:=by simp[valueAt,Q6,e']
   rw[lF e,b];exact ih
theorem KV.any{kvs:List (κ×V)}{vs:List (κ×Value)}(r:KV kvs vs)(k:κ):(kvs.any λkv=>decide (kv.1=k))=vs.any λkv=>decide (kv.1=k):=by
 unfold KV at r
 induction r with
 |nil=>rfl
 |cons h t ih=>rw[List.any_cons,List.any_cons,ih,h.1]
theorem KV.repl{kvs:List (κ×V)}{vs:List (κ×Value)}(r:KV kvs vs)(k:κ){y:V}{u:Value}(ry:au y u):
 KV (kvs.map λkv=>if kv.1=k then(kv.1,y)else kv) (vs.map λkv=>if kv.1=k then(kv.1,u)else kv):=by
 unfold KV at r ⊢
 induction r with
 |nil=>exact .nil
 |@cons p q ps qs h t ih=>
  rw[qP,qP];refine .cons ?_ ih;obtain⟨h1,h2⟩:=h;by_cases e:p.1=k
  ·rw[qY e,qY (h1.symm.trans e)];exact⟨h1,ry⟩
  ·rw[qX e,qX (λz=>e (h1.trans z))];exact⟨h1,h2⟩
theorem KV.put{kvs:List (κ×V)}{vs:List (κ×Value)}(r:KV kvs vs)(k:κ){y:V}{u:Value}(ry:au y u):KV (cG kvs k y) (stored vs k u):=by
 unfold cG stored;rw[r.any k];by_cases e:(vs.any λkv=>decide (kv.1=k))=true
 ·rw[qY e,qY e];exact r.repl k ry
 ·rw[qX e,qX e];exact Paired.snoc r ⟨U,ry⟩
theorem KV.drop{kvs:List (κ×V)}{vs:List (κ×Value)}(r:KV kvs vs)(k:κ):KV (d9 kvs k) (without vs k):=by
 unfold KV at r ⊢;unfold d9 without
 induction r with
 |nil=>exact .nil
 |@cons p q ps qs h t ih=>
  obtain⟨h1,h2⟩:=h;rw[List.filter_cons,List.filter_cons];by_cases e:p.1=k
  ·have a:¬ decide (p.1≠k)=true:=by simp[e]
   have b:¬ decide (q.1≠k)=true:=by simp[h1.symm.trans e]
   rw[qX a,qX b];exact ih
  ·have e':¬ q.1=k:=λz=>e (h1.trans z);have a:decide (p.1≠k)=true:=by simp[e]
   have b:decide (q.1≠k)=true:=by simp[e']
   rw[qY a,qY b];exact .cons ⟨h1,h2⟩ ih
theorem KV.length{kvs:List (κ×V)}{vs:List (κ×Value)}(r:KV kvs vs):kvs.length=vs.length:=Paired.length r
theorem oV(kvs:List (κ×V))(k:κ):(d9 kvs k).length<=kvs.length:=List.length_filter_le _ _
end
theorem gx{P:Program}{w:World}{k:Key}{u:Value}(r:au (kV k) u):(bU P w).is k u=true:=by
 cases k with
 |inl i=>obtain⟨t,e⟩:=(show ∃t,u=Value.int i t from r);subst e;exact wJ P w i t
 |inr x=>obtain⟨t,e⟩:=(show ∃t,u=Value.str x t from r);subst e;exact wI P w x t
theorem ou{P:Program}{w:World}:∀{ks:List Key}{us:List Value},aq (ks.map kV) us->ItemsAre (bU P w) ks us
 |[],_,r=>by rw[List.map_nil]at r;cases r;exact .nil
 |k::ks,_,r=>by
  rw[qP]at r
  cases r with
  |cons h t=>exact .cons (gx h) (ou t)
abbrev KT(H:Hp):List (List Key×V)->List (List Key×Addr×Value)->Prop:=Paired λp q=>p.1=q.1/\H q.2.1=some (.tup (p.1.map kV))/\au p.2 q.2.2
section
variable {P:Program}{w:World}{H:Hp}{h:Heap}{a:Addr}
theorem n9{u:HO}(ok:HOk P w H h)(e:Rd H a u):bz P w H h a u:=e.ok ok
theorem kE{kvs:List (Key×V)}(ok:HOk P w H h)(e:Rd H a (.dK kvs)):kvs.length<=sizeLine/\(a == sysModules)=false/\∃vs,KV kvs vs/\h.DictOf (bU P w) a vs:=
 show bz P w H h a (.dK kvs)from n9 ok e
theorem gA{kvs:List (Key×V)}(ok:HOk P w H h)(e:H a=some (.dK kvs)):kvs.length<=sizeLine/\(a == sysModules)=false/\∃vs,KV kvs vs/\h.DictOf (bU P w) a vs:=kE ok (.inl e)
theorem xp{ks:List Key}(ok:HOk P w H h)(e:H a=some (.tup (ks.map kV))):(tupleKind (bU P w)).is h ks a:=by
 obtain⟨_,its,r,o,h1,h2,n,h3⟩:=(show bz P w H h a (.tup (ks.map kV))from ok a _ e);exact⟨o,its.toArray,n,h1,h2,h3,by simpa using ou r⟩
theorem y4{kvs:List (List Key×V)}(ok:HOk P w H h)(e:Rd H a (.dT kvs)):kvs.length<=sizeLine/\(a == sysModules)=false /\
 ∃xs,KT H kvs xs/\h.DictOfH (tupleKind (bU P w)) a xs:=by
 obtain⟨z,y,xs,r,o,es,ep,h1,h2,h3,h4,h5⟩:=(show bz P w H h a (.dT kvs)from n9 ok e);refine⟨z,y,xs,r,o,es,ep,h1,h2,h3,h4,λx hx=>?_,h5⟩
 have all:∀{l:List (List Key×V)}{m:List (List Key×Addr×Value)},KT H l m->∀x∈m,(tupleKind (bU P w)).is h x.1 x.2.1:=by
  intro l m q
  induction q with
  |nil=>intro x hx;exact nomatch hx
  |@cons p q ps qs hq t ih=>
   intro x hx;rcases qr.mp hx with e|hx
   ·subst e;exact xp ok (by rw[<- hq.1];exact hq.2.1)
   ·exact ih x hx
 exact all r x hx
end
section
variable {X:Cx}{pins:List (Addr×Obj)}{σ:St}{H:Hp}{s:Shared}{a:Addr}{y v:V}{u r:Value}{o:Option V}{A:Around}{E:Qw}
theorem Inv.big(I:Inv X pins σ H s):sysModules<s.heap.objs.size:=by
 have h:mainGlobals<s.heap.objs.size:=(I.mod.glob.keeps I.bk).lt;exact Nat.lt_trans Qy h
theorem iE{h':Heap}{t':Nat}{ob:HO}(I:Inv X pins σ H s)(mu:Mut (H a))(hs:Heap.SameBut a s.heap h')(he:∃q,h'.get? a=some q)(new:bz X.prog X.w (upd H a ob) h' a ob):
 Inv X pins σ (upd H a ob) { s with heap:=h',toks:=t' }:=
 I.write (x:=a) (e:=a) mu (.inl U) (λb q hb z=>(hs.2 b hb).trans z) he new
theorem iD{P:Program}{w:World}{H':Hp}{h':Heap}{kvs:List (Key×V)}{vs:List (Key×Value)}(z:kvs.length<=sizeLine)(hd:(a == sysModules)=false)(rel:KV kvs vs)(dd:h'.DictOf (bU P w) a vs):
 bz P w H' h' a (.dK kvs):=⟨z,hd,vs,rel,dd⟩
end
section
variable {X:Cx}{pins:List (Addr×Obj)}{σ:St}{H:Hp}{s:Shared}{a:Addr}{kvs:List (Key×V)}{k:Key}{u:Value}{A:Around}{E:Qw}
theorem zb{Q:Unit->Shared->Prop}(I:Inv X pins σ H s)(e:H a=some (.dK kvs))(ry:au (kV k) u)(l:(cu kvs k).isSome=true)(h:∀s',Inv X pins σ (upd H a (.dK (d9 kvs k))) s'->Q () s'):
 wpAny (model X.prog X.w) A (delItem (.ref a) u) Q E s:=by
 obtain⟨z,hd,vs,rel,dd⟩:=gA I.hok e
 refine wpAny_delItem_slot dd.typeIs Qy PySem.F.slot_dict_delitem
  (call_meetsIn PySem.F.slot_dict_delitem dd.typeIs PySem.F.entry_dict_delitem (PySem.F.args_dict_delitem_2 _ _) (meets_dict_delitem_pairs (bU X.prog X.w) a (gx ry)) ⟨vs,dd,by rw[<- rel.length];exact z,by rw[<- (rel.val k).isSome_eq];exact l,λh' dd' hs=>h _ ?_⟩)
 have he:∃q,h'.get? a=some q:=let ⟨q,_,_,hq,_⟩:=dd';⟨q,hq⟩;exact iE I (by rw[e];exact True.intro) hs he (iD (qw (oV kvs k) z) hd (rel.drop k) dd')
theorem yc{v:V}{more:List Value}{Q:Qw}(I:Inv X pins σ H s)(e:H a=some (.dK kvs))(ry:au (kV k) u)(l:cu kvs k=some v)(hm:more=[]\/∃x,more=[x])
 (h:∀w' s',Inv X pins σ (upd H a (.dK (d9 kvs k))) s'->au v w'->Q w' s'):wpAny (model X.prog X.w) A (call (.builtin "dict.pop") (.ref a::u::more)) Q E s:=by
 obtain⟨z,hd,vs,rel,dd⟩:=gA I.hok e;obtain⟨w',hw,rw'⟩:=bV.some_of (v:=v) (o:=valueAt vs k) (by rw[<- l];exact rel.val k)
 have hp:(keyPart u).isSome=true:=by
  cases k with
  |inl i=>obtain⟨t,q⟩:=(show ∃t,u=Value.int i t from ry);subst q;rfl
  |inr x=>obtain⟨t,q⟩:=(show ∃t,u=Value.str x t from ry);subst q;rfl
 have ha:argsOk "dict.pop" ⟨.ref a::u::more,[]⟩:=by
  rcases hm with q|⟨x,q⟩
  ·subst q;exact PySem.F.args_dict_pop_2 _ _
  ·subst q;exact PySem.F.args_dict_pop_3 _ _ _
 refine call_meetsIn PySem.F.slot_dict_pop dd.typeIs PySem.F.entry_dict_pop ha (meets_dict_pop_there (bU X.prog X.w) a (gx ry) more hm hp)
  ⟨vs,w',dd,by rw[<- rel.length];exact z,hw,λh' dd' hs=>h w' _ ?_ rw'⟩
 have he:∃q,h'.get? a=some q:=let ⟨q,_,_,hq,_⟩:=dd';⟨q,hq⟩;exact iE I (by rw[e];exact True.intro) hs he (iD (qw (oV kvs k) z) hd (rel.drop k) dd')
theorem yd{Q:Qw}(I:Inv X pins σ H s)(e:Rd H a (.dK kvs))(h:∀t s',Inv X pins σ H s'->Q (.int kvs.length t) s'):wpAny (model X.prog X.w) A (call (.builtin "len") [.ref a]) Q E s:=by
 obtain⟨z,hd,vs,rel,dd⟩:=kE I.hok e;refine call_len_dict hd dd (by rw[<- rel.length];rw[sizeLine_eq]at z;omega) ?_;rw[<- rel.length];exact h _ _ (I.tok _)
end
section
variable {X:Cx}{o i e value:Expr}{pos pos' tpos:Pos}{td ty tv:TE}
end
theorem y9{P:Program}{w:World}{H:Hp}(h:Heap)(hb:sysModules<h.objs.size):bz P w H (h.push { cls:=.type "dict",data:=.dict #[] }) h.objs.size (.dK []):=
 ⟨qq _,beq_eq_false_iff_ne.mpr (Ne.symm (qE hb)),[],.nil,Heap.DictOf.new h⟩
section
variable {X:Cx}{pos:Pos}
end
def iS:List (TE×TE)->St->Hp->(List (V×V)->Hp->Prop)->Prop
 |[],_,H,Q=>Q [] H
 |(tk,tv)::r,σ,H,Q=>tk σ H λx H1=>tv σ H1 λy H2=>iS r σ H2 λps H3=>Q ((x,y)::ps) H3
abbrev VV:List (V×V)->List (Value×Value)->Prop:=Paired λp q=>au p.1 q.1/\au p.2 q.2
def PPs(X:Cx)(pos:Pos)(keys:List (Option Expr))(values:List Expr)(trs:List (TE×TE)):Prop:=
 ∀(pins:List (Addr×Obj))(s:Shared)(σ:St)(H:Hp)(Q:List (V×V)->Hp->Prop),Inv X pins σ H s->iS trs σ H Q->
  wpAny (model X.prog X.w) X.A (evalPairs (pairTrees keys values X.env pos)) (λvs s'=>∃ps H',Inv X pins σ H' s'/\VV ps vs/\Q ps H') X.xe s
theorem uG{X:Cx}{pos:Pos}:PPs X pos [] [] []:=λpins s σ H Q I h=>pairTrees_nil_walk ⟨[],H,I,.nil,h⟩
theorem uH{X:Cx}{pos:Pos}{k v:Expr}{ks:List (Option Expr)}{vs:List Expr}{tk tv:TE}{trs:List (TE×TE)}(hk:PE X k tk)(hv:PE X v tv)(hr:PPs X pos ks vs trs):
 PPs X pos (some k::ks) (v::vs) ((tk,tv)::trs):=λpins s σ H Q I h=>
 pairTrees_cons_walk (thn (hk pins s σ H _ I h) λu s1 ⟨x,H1,I1,rx,q1⟩=>thn (hv pins s1 σ H1 _ I1 q1) λw2 s2 ⟨y,H2,I2,ry,q2⟩=>
  thn (hr pins s2 σ H2 _ I2 q2) λws s3 ⟨ps,H3,I3,rel,q3⟩=>⟨(x,y)::ps,H3,I3,.cons ⟨rx,ry⟩ rel,q3⟩)
def f9(kvs more:List (Key×V)):List (Key×V):=more.foldl (λacc kv=>cG acc kv.1 kv.2) kvs
theorem KV.merge:∀{more:List (Key×V)}{rs:List (Key×Value)}{kvs:List (Key×V)}{vs:List (Key×Value)},KV more rs->KV kvs vs->KV (f9 kvs more) (merged vs rs):=by
 intro more rs kvs vs r;unfold KV at r
 induction r generalizing kvs vs with
 |nil=>intro q;exact q
 |@cons p q ps qs h t ih=>
  intro r0
  have e:KV (cG kvs p.1 p.2) (stored vs q.1 q.2):=by
   have:=r0.put p.1 h.2;rw[<- h.1];exact this
  exact ih e
theorem oa:∀(more kvs:List (Key×V)),(f9 kvs more).length<=kvs.length+more.length
 |[],kvs=>by show kvs.length<=kvs.length+0;omega
 |p::r,kvs=>by
  have h1:=oa r (cG kvs p.1 p.2);have h2:=o8 kvs p.1 p.2;show(f9 (cG kvs p.1 p.2) r).length<=_;rw[qy];omega
theorem pj{P:Program}{w:World}:∀{kvs:List (Key×V)}{ws:List (Value×Value)},VV (kvs.map λkv=>(kV kv.1,kv.2)) ws->∃rs,Carries (bU P w) ws rs/\KV kvs rs
 |[],_,r=>by rw[List.map_nil]at r;cases r;exact⟨[],True.intro,.nil⟩
 |p::kvs,_,r=>by
  rw[qP]at r
  cases r with
  |@cons a b as bs h t=>
   obtain⟨rs,c,q⟩:=pj (P:=P) (w:=w) t;obtain⟨b1,b2⟩:=b;exact⟨(p.1,b2)::rs,⟨gx h.1,U,c⟩,.cons ⟨U,h.2⟩ q⟩
def sj(trs:List (TE×TE)):TE:=λσ H Q=>∀p,H p=none->iS trs σ (upd H p (.dK [])) λps H2=>H2 p=some (.dK [])/\∃kvs:List (Key×V),ps=kvs.map (λkv=>(kV kv.1,kv.2))/\kvs.length<=15/\Q (.ref p) (upd H2 p (.dK (f9 [] kvs)))
theorem v8{X:Cx}{pos:Pos}{keys:List (Option Expr)}{values:List Expr}{trs:List (TE×TE)}(h:PPs X pos keys values trs)(hall:keys.all (·.isSome)=true)(hl:keys.length=values.length)(h0:keys≠[])
 (h15:keys.length<=15):PE X (.Dict keys values pos) (sj trs):=by
 intro pins s σ H Q I q;have hn:=I.hok.fresh (qc s.heap.objs.size);have I1:=I.laid (a:=s.heap.objs.size) (o:=.dK []) (h':=s.heap.push { cls:=.type "dict",data:=.dict #[] }) (t':=s.toks) (λ_ _ q=>q5 _ q) (qc _) (y9 s.heap I.big);refine wpAny_Dict_walk (knd:=bU X.prog X.w) hall hl h0 h15 (thn (h pins _ σ _ _ I1 (q _ hn)) λws s2 ⟨ps,H2,I2,rel,e,kvs,ep,lk,q2⟩=>?_);subst ep;obtain⟨rs,c,rk⟩:=pj (P:=X.prog) (w:=X.w) rel;obtain⟨z,hd,vs0,r0,dd⟩:=gA I2.hok e;cases r0;refine⟨rs,c,dd,λh' dd' hs=>⟨.ref s.heap.objs.size,_,?_,U,q2⟩⟩
 have hz:(f9 [] kvs).length<=sizeLine:=by
  have h1:=oa kvs [];rw[List.length_nil]at h1;rw[sizeLine_eq];omega
 have he:∃q,h'.get? s.heap.objs.size=some q:=let ⟨q,_,_,hq,_⟩:=dd';⟨q,hq⟩;exact iE I2 (by rw[e];exact True.intro) hs he (iD hz hd (rk.merge .nil) dd')
structure M1(X:Cx)(o:Expr)(m:Str)(apos:Pos)(e:Expr)(cpos:Pos):Prop where
 base:attributeBase o m X.env (eval o X.env)=eval o X.env
 few:((backTo cpos (starEach [e] X.env)).all (λx=>!x.1) && (backToKw cpos (keywordEach [] X.env)).all (λx=>x.1.isSome)
  && decide (([e]:List Expr).length+([]:List Keyword).length+(if([]:List Keyword).isEmpty then 0 else 1)<30))=true
 line:(apos.endLine == cpos.line)=true
 trees:backTo cpos (starEach [e] X.env)=[(false,eval e X.env)]
structure M2(X:Cx)(o:Expr)(m:Str)(apos:Pos)(e f:Expr)(cpos:Pos):Prop where
 base:attributeBase o m X.env (eval o X.env)=eval o X.env
 few:((backTo cpos (starEach [e,f] X.env)).all (λx=>!x.1) && (backToKw cpos (keywordEach [] X.env)).all (λx=>x.1.isSome)
  && decide (([e,f]:List Expr).length+([]:List Keyword).length+(if([]:List Keyword).isEmpty then 0 else 1)<30))=true
 line:(apos.endLine == cpos.line)=true
 trees:backTo cpos (starEach [e,f] X.env)=[(false,eval e X.env),(false,eval f X.env)]
def IsD(H:Hp)(a:Addr):Prop:=(∃kvs,Rd H a (.dK kvs))\/∃kvs,Rd H a (.dT kvs)
theorem ow{X:Cx}{pins:List (Addr×Obj)}{σ:St}{H:Hp}{s:Shared}{a:Addr}(I:Inv X pins σ H s)(d:IsD H a):
 s.TypeIs (.ref a) "dict"/\(∀b,Value.ref a=.ref b->∃ob,s.heap.get? b=some ob/\ob.dict=none)/\(a == sysModules)=false:=by
 rcases d with⟨kvs,e⟩|⟨kvs,e⟩
 ·obtain⟨_,hd,vs,_,dd⟩:=kE I.hok e;refine⟨dd.typeIs,λb q=>?_,hd⟩;cases q;obtain⟨ob,_,_,h1,h2,_⟩:=dd;exact⟨ob,h1,h2.2.1⟩
 ·obtain⟨_,hd,xs,_,dd⟩:=y4 I.hok e;refine⟨dd.typeIs,λb q=>?_,hd⟩;cases q;obtain⟨ob,_,_,h1,h2,_⟩:=dd;exact⟨ob,h1,h2.2.1⟩
section
variable {X:Cx}{pins:List (Addr×Obj)}{σ:St}{H:Hp}{s:Shared}{a:Addr}{y d:V}{u r:Value}{o:Option V}{A:Around}{E:Qw}
end
def ss(td ty:TE):TE:=λσ H Q=>td σ H λx H1=>∃a,x=.ref a/\IsD H1 a/\ty σ H1 λy H2=>∃kvs k v,H2 a=some (.dK kvs)/\y=kV k/\cu kvs k=some v/\Q v (upd H2 a (.dK (d9 kvs k)))
section
variable {X:Cx}{o e f:Expr}{apos cpos:Pos}{td ty tx:TE}
theorem uZ(ho:PE X o td)(he:PE X e ty)(m:M1 X o "pop" apos e cpos):PE X (.Call (.Attribute o "pop" apos) [e] [] cpos) (ss td ty):=by
 intro pins s σ H Q I h;refine wpAny_Call_method m.base m.few m.line PySem.F.plainAttrs_dict PySem.F.slot_dict_pop PySem.F.type_dict_pop (thn (ho pins s σ H _ I h) λu s1 ⟨x,H1,I1,rx,a,ex,d,q1⟩=>?_);subst ex;obtain rfl:u=Value.ref a:=rx;obtain⟨t1,t2,_⟩:=ow I1 d;refine⟨t1,t2,?_⟩;rw[m.trees];refine Calls.callWith_builtin U (Calls.evalArgs_plain (Calls.spliced_cons (thn (he pins s1 σ H1 _ I1 q1) λiv s2 ⟨y,H2,I2,ry,kvs,k,v,ea,ey,l,q2⟩=>Calls.spliced_nil ?_)));subst ey;exact yc I2 ea ry l (.inl U) λw' s3 I3 rw'=>⟨v,_,I3,rw',q2⟩
end
section
variable {X:Cx}{pins:List (Addr×Obj)}{σ:St}{H:Hp}{s:Shared}{a:Addr}{kvs:List (Key×V)}{A:Around}{E:Qw}
end
section
variable {X:Cx}{pins:List (Addr×Obj)}{σ:St}{H:Hp}{s:Shared}{a:Addr}{y:V}{u:Value}{A:Around}{E:Qw}
end
end L2
namespace Att
open PySem PySem.W PySem.Calls PyProof.Rows
theorem xF{P:Params}{h:Heap}:∀(ns:List Int)(vs:List Value),WellAll P h vs (ns.map WData.int)->IntsAre vs ns:=by
 intro ns
 induction ns with
 |nil=>
  intro vs w;rw[List.map_nil]at w;cases w;exact .nil
 |cons n ns ih=>
  intro vs w;rw[qP]at w
  cases w with
  |cons a b=>
   cases a;exact .cons _ _ (ih _ b)
theorem t9{l:OpenLaw}{n:Nat}(hn:l.most=some n){P:Params}{h:Heap}{args:List WData}{vals:List Value}
 (hpre:l.row.toRowW.claim.pre args=true) (hwl:WellAll P h vals args):
 ∃a vs ns,vals=[Value.ref a]/\args=[WData.list (ns.map WData.int)]/\h.get? a=some { cls:=.type "list",data:=.seq vs.toArray }/\IntsAre vs ns/\ns.length<=n:=by
 have hsh:WShape.hasAll [] args [.list .int]=true:=(pre_splitW hpre).1;have hc:l.pre.holds [] { args:=args }=true:=(pre_splitW hpre).2;obtain⟨d,r,rfl,h1,h2⟩:=hasAllW_cons hsh;obtain rfl:=hasAllW_nil h2;obtain⟨xs,rfl,h3⟩:=hasW_list h1;obtain⟨ns,rfl⟩:=items_int h3
 have hlen:ns.length<=n:=by
  unfold OpenLaw.pre at hc
  have h4:(WTm.not (.lt (.lit (.int (n:Int))) (.len (.arg 0)))).holds [] { args:=[.list (ns.map .int)] }=true:=by
   have h4:=(holds_andW hc).1;rw[hn]at h4;exact h4
  have h5:=condW_of h4 (w_not (w_lt w_lit (w_len_list (w_arg U))));rw[q4]at h5;refine Nat.le_of_not_lt λq=>?_;have q':(n:Int)<((ns.length:Nat):Int):=Qz
  first
   |(rw[qZ q']at h5;exact Q1 h5 Qy)
   |(simp at h5;omega)
 cases hwl with
 |cons w1 w2=>
  cases w2
  cases w1 with
  |list ho hall=>exact⟨_,_,ns,U,U,ho,xF ns _ hall,hlen⟩
theorem uI(l:OpenLaw)(args:List WData):l.row.toRowW.claim.post args (.bool true) args=true:=
 postW_of (r:=l.row.toRowW) (X:=(true == true))
  (show WShape.has [] (.bool true) .bool=true by first|rfl|decide|simp[WShape.has,WShape.arms,WShape.armsAll])
  (show(WTm.eq .res (.lit (.bool true))).value [] { args:=args,res:=some (.bool true),after:=args }=some (.bool (true == true))from w_eq_bool (w_res U) w_lit) U
section
variable {prog:Program}{w:World}{A:Around}{E:Qw}{s:Shared}{K:Frag}
end
end Att
namespace L2
open PySem PySem.Spec PyProof.Rows
theorem iN:∀{vs:List Value}{ns:List Int},IntsAre vs ns->aq (ns.map V.int) vs
 |_,_,.nil=>.nil
 |_,_,.cons n t h=>.cons ⟨t,U⟩ (iN h)
def iI(H:Hp):Prop:=∀b,H b=none\/∃o xs,H b=some (.frz o (.lst xs))
theorem xi{P:Program}{w:World}{K:W.Frag}{mg mb:Str->Option Value}{CX:CXT}{k:Nat}{fa a:Addr}{fd:FuncData}{x:Str}{sp:Sp}{s₁:Shared}{vs:List Value}{ns:List Int}
 (KX:K.In s₁.heap) (hns:s₁.heap.Ns mainGlobals mg) (hb:s₁.heap.Ns builtinsNs mb) (hbb:∀x:Str,x≠"__name__"->mb x=bootBuiltins x) (hlim:s₁.heap.NoLimit) (hg:s₁.gens=#[])
 (ha:s₁.heap.get? a=some { cls:=.type "list",data:=.seq vs.toArray }) (hi:IntsAre vs ns) (hl:ns.length<=sizeLine) (hr:bw k callerA)
 (F:∀base:Heap,K.In base->base.Ns mainGlobals mg->aC P w K mg base CX k fa fd [x] sp) (hbind:∀(s:Shared)(u:Value),BindsTo s fd ⟨[u],[]⟩ [(x,u)])
 (hsp:∀H:Hp,iI H->SqL K H a (ns.map V.int)->sp [.ref a] H (λv _=>v=.bl true) λ_ _ _=>False)
 (hCX:∀H e s',CX [] H s₁ (λ_ _ _=>False) e s'->False):
 codeAny (model P w) callerA (.call (.ref fa) ⟨[.ref a],[]⟩) (λr s'=>r=.ok (.ret (.bool true))/\OldK s₁.heap s'.heap/\s'.os=s₁.os/\AllBare s'.gens) s₁:=by
 have rv:=iN hi;have bg:=hi.length
 have core:∀H:Hp,iI H->SqL K H a (ns.map V.int)->HOk P w H s₁.heap->(∀b,H b≠none->b=a)->(H a≠none->K.lookup a=none)->
  codeAny (model P w) callerA (.call (.ref fa) ⟨[.ref a],[]⟩) (λr s'=>r=.ok (.ret (.bool true))/\OldK s₁.heap s'.heap/\s'.os=s₁.os/\AllBare s'.gens) s₁:=by
  intro H hO hS hok hA hK;have base_of:∀{b:Addr}{o:Obj},s₁.heap.get? b=some o->H b=none->(dm s₁.heap H).get? b=some o:=λe n=>xO e n
  have noA:∀{b:Addr}{o:Obj}{es:Array DictEntry}{ep:Nat},s₁.heap.get? b=some o->o.data=.dict es ep->H b=none:=λ{b o es ep} e d=>by
   cases q:H b with
   |none=>rfl
   |some u=>
    have e':b=a:=hA b (by rw[q];simp);subst e';rw[ha]at e;cases e;have d':Data.seq vs.toArray _=Data.dict es ep:=d;cases d'
  have nsK:∀{b:Addr}{m:Str->Option Value},s₁.heap.Ns b m->(dm s₁.heap H).Ns b m:=λ{b m}⟨o,es,ep,e,d,r⟩=>⟨o,es,ep,base_of e (noA e d),d,r⟩
  have hKb:K.In (dm s₁.heap H):=λb o e=>base_of (KX b o e) (by
   cases q:H b with
   |none=>rfl
   |some u=>
    have e':b=a:=hA b (by rw[q];simp);subst e'
    rw[hK (by rw[q];simp)]at e;cases e)
  have hM:Mod K mg (dm s₁.heap H):=⟨hKb,nsK hns,⟨mb,nsK hb,hbb⟩,let ⟨mc,h1,h2⟩:=hlim;⟨mc,nsK h1,h2⟩⟩;have e0:eP P w K mg (dm s₁.heap H) callerA [] s₁ H:=⟨U,hM,λb o e=>wB e,Nat.le_of_eq (xN _ _),trivial,λb hb=>Q1 (show b∈([]:List Addr)from hb) (by simp),hok,.of_eq hg⟩;refine codeAny_mono ((F _ hKb (nsK hns)).run callerA [] s₁ H ⟨[.ref a],[]⟩ [.ref a] [.ref a] _ _ hr e0 (hbind s₁ (.ref a)) (.cons U .nil) (hsp H hO hS)) λr s' h=>?_
  cases r with
  |error e=>exact(hCX H e s' h).elim
  |ok fl=>
   cases fl with
   |next=>exact False.elim h
   |brk=>exact False.elim h
   |cont=>exact False.elim h
   |ret u=>
    obtain⟨v,H',os,bare,un,hok',r',q⟩:=h;have q':v=.bl true:=q;subst q';obtain rfl:u=Value.bool true:=r';refine⟨U,OldK.of_keep λb o e=>?_,os,bare⟩
    cases q:H b with
    |none=>exact un.keep b o e q (by intro z;exact Q1 (show b∈([]:List Addr)from z) (by simp)) (by simp)
    |some u=>
     rcases hO b with z|⟨ob,xs,z⟩
     ·rw[q]at z;cases z
     ·have z2:=un.frzs b ob _ z;obtain⟨e1,_⟩:=hok b _ z;obtain⟨e2,_⟩:=hok' b _ z2;rw[e]at e1;cases e1;exact e2
 cases hk:K.lookup a with
 |some o=>
  have e:=KX a o hk;rw[ha]at e;cases e;refine core (λ_=>none) (λ_=>.inl U) (.inr ⟨_,vs.toArray,_,hk,U,U,U,by rw[qz,bg];exact hl,by simpa using rv⟩) (λb u z=>by have z':(none:Option HO)=some u:=z;cases z') (λb z=>Q1 U z) λz=>Q1 U z
 |none=>
  refine core (λb=>if b=a then some (.frz { cls:=.type "list",data:=.seq vs.toArray } (.lst (ns.map V.int)))else none) (λb=>?_) (.inl (.inr ⟨{ cls:=.type "list",data:=.seq vs.toArray },qY U⟩)) (λb u z=>?_) (λb z=>?_) λ_=>hk
  ·by_cases hb:b=a
   ·exact .inr ⟨_,_,qY hb⟩
   ·exact .inl (qX hb)
  ·by_cases hb:b=a
   ·have z':=(qY hb).symm.trans z;cases z';subst hb;exact⟨ha,by rw[q4];exact hl,vs,_,rv,ha⟩
   ·have z':=(qX hb).symm.trans z;cases z'
  ·by_cases hb:b=a
   ·exact hb
   ·exact Q1 (qX hb) z
abbrev CX0:CXT:=λ_ _ _ _ _ _=>False
abbrev E0:XK:=λ_ _ _=>False
theorem aE{X:Cx}:dS CX0 X E0:=λ_ _ _ _ _ _ _ h=>h.elim
structure Fun(K:W.Frag)(x qual:Str)(st:Stmt)(f:Addr)(fd:FuncData):Prop where
 ex:∃(oc:Value)(od:Option Addr)(kV doc pm:Value)(an:Option Addr)(cdv ct:Value)(osl:Array (Option Value)),
  fd=PySem.W.fnOf x qual (cr st) (c8 st) (aj st) .none kV doc pm an cdv ct/\K.lookup f=some ⟨oc,od,.func fd,osl⟩/\PySem.W.codeIn K cdv qual=true
 kp:PySem.W.keepIn K (.ref f)=true
section
variable {P:Program}{w:World}{K:W.Frag}{mg:Str->Option Value}{base:Heap}
theorem Fun.ok{x qual:Str}{st:Stmt}{f:Addr}{fd:FuncData}{N ps:List Str}{k:Nat}{sp:Sp}(F:Fun K x qual st f fd)(S:aJ N ps (aj st))(len:∀vs H Q E,sp vs H Q E->vs.length=ps.length)
 (hbody:∀(cdv:Value)(A:Around)(outer:List Env)(s:Shared)(H:Hp)(vs:List V)(Q:VK)(E:XK),bw k (A.deeper (envOfC qual (aj st) s.heap.objs.size f cdv))->sp vs H Q E->
  ∃t,PSs (dw CX0 P w K mg base N qual (aj st) f cdv A outer s H E).nox (c8 st) t/\t { nx:=λ_ H'=>Q .non H',rt:=Q } (start N vs) H):aC P w K mg base CX0 (k+1) f fd ps sp:=by
 obtain⟨oc,od,kV,doc,pm,an,cdv,ct,osl,rfl,lk,hcd⟩:=F.ex;refine oT lk hcd S len λA outer s H vs Q E hr hsp=>?_;obtain⟨t,h,q⟩:=hbody cdv A outer s H vs Q E hr hsp;exact⟨t,h.nox,q⟩
theorem Fun.binds{x qual:Str}{st:Stmt}{f:Addr}{fd:FuncData}{ps:List Str}(F:Fun K x qual st f fd)
 (h:∀(kV doc pm:Value)(an:Option Addr)(cdv ct:Value)(us:List Value),us.length=ps.length->bindArgs (PySem.W.fnOf x qual (cr st) (c8 st) (aj st) .none kV doc pm an cdv ct) ⟨us,[]⟩=pure (ps.zip us)):aD K fd ps []:=by
 obtain⟨oc,od,kV,doc,pm,an,cdv,ct,osl,rfl,lk,hcd⟩:=F.ex;exact .all (h kV doc pm an cdv ct)
theorem xX{x qual:Str}{st:Stmt}{f:Addr}{oc:Value}{od an:Option Addr}{osl:Array (Option Value)}{kV doc pm cdv ct:Value}(l:K.lookup f=some ⟨oc,od,.func (PySem.W.fnOf x qual (cr st) (c8 st) (aj st) .none kV doc pm an cdv ct),osl⟩)
 (c:PySem.W.codeIn K cdv qual=true) (k:PySem.W.keepIn K (.ref f)=true):Fun K x qual st f (PySem.W.fnOf x qual (cr st) (c8 st) (aj st) .none kV doc pm an cdv ct):=⟨⟨oc,od,kV,doc,pm,an,cdv,ct,osl,U,l,c⟩,k⟩
end
section
variable {X:Cx}
end
theorem bJ{c A B:Prop}[Decidable c](h1:c->A)(h2:¬ c->B):if c then A else B:=by
 by_cases h:c
 ·rw[qY h];exact h1 h
 ·rw[qX h];exact h2 h
def a8(H H':Hp):Prop:=∀b o,H b=some o->H' b=some o
theorem a8.refl(H:Hp):a8 H H:=λ_ _ h=>h
theorem a8.trans{H H1 H2:Hp}(a:a8 H H1)(b:a8 H1 H2):a8 H H2:=λc o h=>b c o (a c o h)
theorem a8.seq{K:W.Frag}{H H':Hp}{a:Addr}{xs:List V}(e:a8 H H')(h:SqL K H a xs):SqL K H' a xs:=by
 rcases h with(h|⟨o,h⟩)|h
 ·exact .inl (.inl (e _ _ h))
 ·exact .inl (.inr ⟨o,e _ _ h⟩)
 ·exact .inr h
section
variable {X:Cx}
theorem yG:bW X (.builtin "len") (λxs H Q=>∃a kvs,xs=[V.ref a]/\H a=some (.dK kvs)/\Q (.int kvs.length) H):=by
 intro pins s σ H xs us Q I r h;obtain⟨a,kvs,rfl,ha,q⟩:=h;obtain⟨u,rfl,ru⟩:=dC r;cases ru;exact yd I (.inl ha) λt s' I'=>⟨.int kvs.length,H,I',⟨t,U⟩,q⟩
end
section
variable {κ:Type} [DecidableEq κ]
end
def cy(cells:List (Str×Addr)):List (Str×NameKind)->List (Str×Addr)->List (Str×Addr)
 |[],acc=>acc
 |(n,k)::r,acc=>cy cells r (if k == .free then(match cells.lookup n with|some c=>(n,c)::acc|none=>acc)else acc)
theorem yy{scope:Scope}{env:Env}(h:∀y∈scope.names,y.2=.free->∃c,env.cells.lookup y.1=some c):closureFor scope env=pure (cy env.cells scope.names []):=by
 simp only[closureFor];generalize ([]:List (Str×Addr))=acc
 revert h
 generalize scope.names=l;intro h
 induction l generalizing acc with
 |nil=>simp[cy]
 |cons x r ih=>
  obtain⟨n,k⟩:=x;rw[List.forIn_cons];have hr:∀y∈r,y.2=NameKind.free->∃c,env.cells.lookup y.1=some c:=λy hy=>h y (qi _ hy);by_cases hk:k=.free
  ·subst hk;obtain⟨c,e⟩:=h (n,.free) qj U;have e':List.lookup n env.cells=some c:=e;have e2:cellOf env n=pure c:=by unfold cellOf;rw[e']
   simp only[beq_self_eq_true,if_true,e2,pure_bind,cy,e'];exact ih _ hr
  ·have hb:(k == NameKind.free)=false:=by simpa using hk
   simp only[hb,Qh,if_false,pure_bind,cy];exact ih _ hr
theorem oO(cells:List (Str×Addr)):∀(l:List (Str×NameKind))(acc:List (Str×Addr))(p:Str×Addr),p∈cy cells l acc->p∈acc\/(p.1,NameKind.free)∈l/\cells.lookup p.1=some p.2
 |[],_,_,h=>.inl h
 |(n,k)::r,acc,p,h=>by
  have h':p∈cy cells r (if k == .free then(match cells.lookup n with|some c=>(n,c)::acc|none=>acc)else acc):=h;rcases oO cells r _ p h' with q|⟨q1,q2⟩
  ·by_cases hk:k=.free
   ·subst hk;simp only[beq_self_eq_true,if_true]at q
    cases e:cells.lookup n with
    |none=>rw[e]at q;exact .inl q
    |some c=>
     rw[e]at q;rcases qr.mp q with rfl|q
     ·exact .inr ⟨qj,e⟩
     ·exact .inl q
   ·have hb:(k == NameKind.free)=false:=by simpa using hk
    simp only[hb,Qh,if_false]at q;exact .inl q
  ·exact .inr ⟨qi _ q1,q2⟩
theorem o6{α β:Type}[BEq α][LawfulBEq α]{x:α}:∀{l:List (α×β)}{c:β},(x,c)∈l->∃d,l.lookup x=some d
 |(a,b)::r,c,h=>by
  by_cases e:x=a
  ·subst e;exact⟨b,by simp⟩
  ·rcases qr.mp h with q|q
   ·cases q;exact Q1 U e
   ·obtain⟨d,hd⟩:=o6 q;refine⟨d,?_⟩;have e':(x == a)=false:=by simpa using e
    simp only[List.lookup_cons,e'];exact hd
theorem oP(cells:List (Str×Addr))(x:Str)(c:Addr)(e:cells.lookup x=some c):∀(l:List (Str×NameKind))(acc:List (Str×Addr)),((x,NameKind.free)∈l\/(x,c)∈acc)->(x,c)∈cy cells l acc
 |[],_,h=>h.elim (λq=>nomatch q) id
 |(n,k)::r,acc,h=>by
  refine oP cells x c e r _ ?_;rcases h with h|h
  ·rcases qr.mp h with q|q
   ·cases q;refine .inr ?_;rw[e];exact qj
   ·exact .inl q
  ·refine .inr ?_;by_cases hk:(k == NameKind.free)=true
   ·rw[qY hk]
    cases cells.lookup n with
    |none=>exact h
    |some _=>exact qi _ h
   ·rw[qX hk];exact h
theorem dO{cells:List (Str×Addr)}{names:List (Str×NameKind)}{x:Str}{c:Addr}(h:(cy cells names []).lookup x=some c):cells.lookup x=some c:=by
 have hm:=Qf h;rcases oO cells names [] _ hm with q|⟨_,q⟩
 ·exact nomatch q
 ·exact q
theorem oQ{cells:List (Str×Addr)}{names:List (Str×NameKind)}{x:Str}{c:Addr}(hm:(x,NameKind.free)∈names)(e:cells.lookup x=some c):(cy cells names []).lookup x=some c:=by
 obtain⟨d,hd⟩:=o6 (oP cells x c e names [] (.inl hm));have:=dO hd;rw[e]at this;rw[hd,this]
theorem n4{scope:Scope}{env:Env}{x:Str}{k:NameKind}(h:(relabel scope env).names.lookup x=some k):∃k',scope.names.lookup x=some k'/\(k'=k\/(k'=.free/\k=.cell)):=by
 have go:∀(l:List (Str×NameKind)),(l.map λ(n,k)=>if(k == NameKind.free && env.scope.kind == .function && env.kindOf n == some .cell)then(n,NameKind.cell)else(n,k)).lookup x=some k->∃k',l.lookup x=some k'/\(k'=k\/(k'=.free/\k=.cell)):=by
  intro l
  induction l with
  |nil=>intro h;simp at h
  |cons p r ih=>
   obtain⟨n,kk⟩:=p;intro h;simp only[qP]at h;by_cases hx:x=n
   ·subst hx;by_cases hc:(kk == NameKind.free && env.scope.kind == .function && env.kindOf x == some .cell)=true
    ·rw[qY hc]at h;simp at h
     have:kk=.free:=by
      simp only[Bool.and_eq_true,beq_iff_eq]at hc;exact hc.1.1
     exact⟨kk,by simp,.inr ⟨this,h.symm⟩⟩
    ·rw[qX hc]at h;simp at h;exact⟨kk,by simp,.inl h⟩
   ·have e':(x == n)=false:=by simpa using hx
    have:∀b:Bool,(if b=true then(n,NameKind.cell)else(n,kk)).1=n:=λb=>by cases b<;>rfl
    rw[List.lookup_cons,this,e']at h;obtain⟨k',h1,h2⟩:=ih h;exact⟨k',by rw[List.lookup_cons,e'];exact h1,h2⟩
 exact go scope.names h
theorem ua{scope:Scope}{env:Env}{x:Str}(h:scope.names.lookup x=some .free):(relabel scope env).names.lookup x=some .cell\/(relabel scope env).names.lookup x=some .free:=by
 have go:∀(l:List (Str×NameKind)),l.lookup x=some .free->(l.map λ(n,k)=>if(k == NameKind.free && env.scope.kind == .function && env.kindOf n == some .cell)then(n,NameKind.cell)else(n,k)).lookup x=some .cell\/(l.map λ(n,k)=>if(k == NameKind.free && env.scope.kind == .function && env.kindOf n == some .cell)then(n,NameKind.cell)else(n,k)).lookup x=some .free:=by
  intro l
  induction l with
  |nil=>intro h;simp at h
  |cons p r ih=>
   obtain⟨n,kk⟩:=p;intro h;simp only[qP];by_cases hx:x=n
   ·subst hx;simp at h;by_cases hc:(kk == NameKind.free && env.scope.kind == .function && env.kindOf x == some .cell)=true
    ·rw[qY hc];simp
    ·rw[qX hc];simp[h]
   ·have e':(x == n)=false:=by simpa using hx
    have t:∀b:Bool,(if b=true then(n,NameKind.cell)else(n,kk)).1=n:=λb=>by cases b<;>rfl
    rw[List.lookup_cons,e']at h;rw[List.lookup_cons,t,e'];exact ih h
 exact go scope.names h
section
variable {prog:Program}{w:World}{A:Around}{R:Result->Shared->Prop}{s:Shared}
theorem yw{elt target iter:Expr}{ifs:List Expr}{scope:Scope}{pos:Pos}{it acc:Value}{env:Env}(I:Nat->Shared->Prop)
 (turn:∀n s,I n s->wpAny (model prog w) A (pyNext it) (λr s₁=>match r with
  |none=>R (.ok .next) s₁
  |some v=>wpAny (model prog w) A (letOwnedTupleGo target it v) (λ_ s₁'=>wpAny (model prog w) A (assign target env v) (λ_ s₂=>
   wpAny (model prog w) A (forIn ifs true λc r=>if r=true then do let ok <- isTrue c env (eval c env);pure (ForInStep.yield ok)else pure (ForInStep.yield r)) (λok s₃=>
    if ok=true then wpAny (model prog w) A (eval elt env) (λx s₄=>
     wpAny (model prog w) A (call (.builtin "list.append") [acc,x]) (λ_ s₅=>∃m,m<n/\I m s₅) (λ_ _=>False) s₄) (λ_ _=>False) s₃
    else ∃m,m<n/\I m s₃) (λ_ _=>False) s₂) (λ_ _=>False) s₁') (λ_ _=>False) s₁) (λ_ _=>False) s)
 (n:Nat) (h:I n s):
 codeAny (model prog w) A (.compLoop (.ListComp elt [⟨target,iter,ifs,0⟩] scope pos) 0 it acc env) R s:=by
 refine codeAny_loop U I (λn s hI=>?_) n h;show wpAny _ A ((compTurn (.ListComp elt [⟨target,iter,ifs,0⟩] scope pos) 0 it acc env).onRaise (λx=>do noteFrame x env;theTreesLotGoes x)) _ _ s;refine wpAny_noted ?_;rw[compTurn_list];refine q0 (wpAny_standAt (q0 (wpAny_mono (turn n s hI) (λr s₁ h₁=>?_) λ_ _ h'=>h'.elim)))
 cases r with
 |none=>exact qb h₁
 |some v=>
  refine q0 (wpAny_mono h₁ (λ_ s₁' h₁'=>?_) λ_ _ h'=>h'.elim);refine q0 (wpAny_mono h₁' (λ_ s₂ h₂=>q0 (wpAny_mono h₂ (λok s₃ h₃=>?_) λ_ _ h'=>h'.elim)) λ_ _ h'=>h'.elim)
  cases ok with
  |false=>exact qb ⟨U,h₃⟩
  |true=>
   exact q0 (q0 (wpAny_mono h₃ (λx s₄ h₄=>q0 (wpAny_mono h₄ (λ_ s₅ h₅=>qb (qb ⟨U,h₅⟩)) λ_ _ h'=>h'.elim)) λ_ _ h'=>h'.elim))
end
structure aO(esc:Scope)(N:List Str)(scope:Scope)(k:Nat)(Nc:List Str)(js:List Nat):Prop where
 kind:scope.kind=.function
 cell:∀y∈scope.names,y.2≠.cell
 names:∀y∈scope.names,y.2=.local->scope.names.lookup y.1=some .local
 free:∀y∈scope.names,y.2=.free->esc.names.lookup y.1=some .cell\/esc.names.lookup y.1=some .free
 len:Nc.length=k+js.length
 out:∀p∈(Nc.drop k).zip js,N[p.2]?=some p.1/\scope.names.lookup p.1=some .free
def eK(k:Nat)(js:List Nat)(σ:St):St:=List.replicate k none++js.map λj=>(σ[j]?).join
def Cx.comp(X:Cx)(pins:List (Addr×Obj))(Nc:List Str)(scope:Scope)(fp:List Addr)(s:Shared)(H:Hp)(C:Addr):Cx:=
 { X with N:=Nc,s₀:=s,H₀:=H,env:=compEnvC scope (cy X.env.cells scope.names []) C X.env,outer:=X.stack,stack:=X.stack,ex:=fp,fn:=λ_=>false,pn:=X.pn++pins,xe:=λ_ _=>False }
section
variable {X:Cx}{pins:List (Addr×Obj)}{σ:St}{H:Hp}{s:Shared}{scope:Scope}{Nc:List Str}{js:List Nat}{k:Nat}
theorem aO.some(S:aO X.env.scope X.N scope k Nc js)(I:Inv X pins σ H s):∀y∈scope.names,y.2=.free->∃c,X.env.cells.lookup y.1=some c:=λy hy hk=>I.ok.has y.1 (S.free y hy hk)
theorem aO.clos(S:aO X.env.scope X.N scope k Nc js)(I:Inv X pins σ H s):closureFor scope X.env=pure (cy X.env.cells scope.names []):=yy (S.some I)
theorem yq(S:aO X.env.scope X.N scope k Nc js)(I:Inv X pins σ H s){fp:List Addr}(hf:∀b∈fp,ca X pins H b)(hlt:∀b∈fp,b<s.heap.objs.size){C:Addr}(hC:s.heap.objs.size<=C):(X.comp pins Nc scope fp s H C).Ok:=by
 have ltC:∀b,b<s.heap.objs.size->b≠C:=λb hb=>qE (qA hb hC)
 have notstk:∀b∈fp,b∉frs X.stack:=λb hb z=>by
  rcases qr.mp (I.stkSub b z)with e|e
  ·exact(hf b hb).2.1 e
  ·exact(hf b hb).2.2.1 e
 refine⟨I.ok.mod,S.kind,I.ok.glob,I.ok.blt,hC,λx y c h1 h2=>I.ok.inj x y c (dO h1) (dO h2),λx hx=>?_,λx c h=>?_,I.ok.hd,I.ok.frames,.inl U,λb hb=>⟨?_,λx c e=>(hf b hb).2.2.2.2.1 x c (dO e)⟩,
  λb o e=>⟨(I.bs b o e).1,(I.bs b o e).2⟩,qw I.ok.bsz I.sz,λb o e hb=>?_,notstk,I.stack,I.stkFree⟩
 ·have hx':(relabel scope X.env).names.lookup x=some .cell\/(relabel scope X.env).names.lookup x=some .free:=hx
  have hfree:(x,NameKind.free)∈scope.names:=by
   rcases hx' with h|h
   ·obtain⟨k',h1,h2⟩:=n4 h;rcases h2 with rfl|⟨rfl,_⟩
    ·exact Q1 U (S.cell _ (Qf h1))
    ·exact Qf h1
   ·obtain⟨k',h1,h2⟩:=n4 h;rcases h2 with rfl|⟨rfl,_⟩
    ·exact Qf h1
    ·exact Qf h1
  obtain⟨c,hc⟩:=S.some I (x,.free) hfree U;exact⟨c,oQ hfree hc⟩
 ·exact Q1 (show false=true from h) qg
 ·exact ltC b (hlt b hb)
 ·rcases(hf b hb).2.2.2.1 with q|q
  ·exact I.ok.noex b o e q
  ·exact Q1 (qA (qm e) (qw I.ok.bsz q)) (Q9 _)
theorem yt(S:aO X.env.scope X.N scope k Nc js)(I:Inv X pins σ H s){fp:List Addr}(hf:∀b∈fp,ca X pins H b)(hlt:∀b∈fp,b<s.heap.objs.size){C:Addr}(hC:s.heap.objs.size<=C){s1:Shared}
 (os:s1.os=s.os) (bare:AllBare s1.gens) (kept:∀b o,s.heap.get? b=some o->s1.heap.get? b=some o) (ns:∃m,s1.heap.Ns C m):Inv (X.comp pins Nc scope fp s H C) [] (eK k js σ) H s1:=by
 have ltC:∀b,b<s.heap.objs.size->b≠C:=λb hb=>qE (qA hb hC);refine⟨yq S I hf hlt hC,os,bare,Un.kept kept,?_,λx c e=>?_,I.hok.fresh hC,λx c e=>I.freeC x c (dO e),λp hp=>?_,I.hok.kept kept,?_⟩
 ·obtain⟨mc,hns⟩:=ns;refine⟨mc,hns,λi x v e1 e2 e3=>?_⟩;have e1':Nc[i]?=some x:=e1;by_cases hi:i<k
  ·unfold eK at e2;rw[Q3 (by simpa using hi),List.getElem?_replicate,qY hi]at e2;cases e2
  ·obtain⟨i',rfl⟩:∃i',i=k+i':=⟨i-k,Qz⟩;unfold eK at e2;rw[qJ (by simp),List.length_replicate,Nat.add_sub_cancel_left,qC]at e2
   cases ej:js[i']? with
   |none=>rw[ej]at e2;cases e2
   |some j=>
    rw[ej]at e2;have e2':(σ[j]?).join=some v:=qH e2
    have e4:σ[j]?=some (some v):=by
     cases q:σ[j]? with
     |none=>rw[q]at e2';cases e2'
     |some z=>rw[q]at e2';cases z with
      |none=>cases e2'
      |some z=>cases e2';rfl
    have hm:(x,j)∈(Nc.drop k).zip js:=qx (i:=i') (List.getElem?_zip_eq_some.mpr ⟨by rw[List.getElem?_drop];exact e1',ej⟩);obtain⟨hN,hfr⟩:=S.out _ hm;have hfm:(x,NameKind.free)∈scope.names:=Qf hfr;have hk:=S.free _ hfm U;obtain⟨m,hn,hl⟩:=I.loc;obtain⟨u,r,l⟩:=hl j x v hN e4 (.inr hk);refine⟨u,r,?_⟩;rcases l with⟨hk',_⟩|⟨_,c,hc,o,ho,hd⟩
    ·have hk'':X.env.scope.names.lookup x=some .local:=hk';rcases hk with hk|hk
     ·rw[hk]at hk'';cases hk''
     ·rw[hk]at hk'';cases hk''
    ·exact .inr ⟨ua hfr,c,oQ hfm hc,o,kept _ _ ho,hd⟩
 ·obtain⟨v,o,ho,hd⟩:=I.cell x c (dO e);exact⟨v,o,kept _ _ ho,hd⟩
 ·have hp':p∈X.pn++pins:=by
   rcases qf.mp hp with z|z
   ·exact z
   ·exact nomatch z
  obtain⟨e,n,ne,nf,d⟩:=I.pin p hp';refine⟨kept _ _ e,n,ltC _ (qm e),λz=>?_,d⟩;rcases qr.mp (I.stkSub _ z)with q|q
  ·exact ne q
  ·exact nf q
 ·show(eK k js σ).length=Nc.length;unfold eK;rw[q9,List.length_replicate,q4,S.len]
theorem yv(I:Inv X pins σ H s){fp:List Addr}(hf:∀b∈fp,ca X pins H b){C D:Addr}(hDs:s.heap.objs.size<=D){pins':List (Addr×Obj)}{σ':St}{H':Hp}{s':Shared}{ys:List V}{its:List Value}{n:Nat}
 (J:Inv (X.comp pins Nc scope fp s H C) pins' σ' H' s') (hD:H' D=none) (hz:ys.length<=sizeLine) (hv:aq ys its) (ho:s'.heap.get? D=some { cls:=.type "list",data:=.seq its.toArray n }):
 Inv X pins σ (upd H' D (.lst ys)) s':=by
 have B:Un (frs X.stack) fp H H' s.heap s'.heap:=J.base;have neD:∀b o,s.heap.get? b=some o->b≠D:=λb o e=>qE (qA (qm e) hDs);refine I.call' (ch:=fp) J.os ⟨B.keep,B.slot,λb o e n hx=>?_,B.there,λb xs e=>?_,λb o u e=>?_,λb ps e=>?_⟩ (λb o e=>?_) J.bare λb hb=>⟨(hf b hb).2.2.2.1,(hf b hb).2.1,(hf b hb).2.2.2.2.1,(hf b hb).2.2.2.2.2⟩
 ·rw[ag (neD b o e)];exact B.free b o e n hx
 ·rw[ag (c5 (B.tups b xs e) hD)];exact B.tups b xs e
 ·rw[ag (c5 (B.frzs b o u e) hD)];exact B.frzs b o u e
 ·obtain⟨more,q⟩:=B.tbls b ps e;exact⟨more,by rw[ag (c5 q hD)];exact q⟩
 ·by_cases hb:b=D
  ·subst hb;rw[ae]at e;cases e;exact⟨hz,its,n,hv,ho⟩
  ·rw[ag hb]at e;exact(J.hok b o e).stay (λc v _ q=>q) (λc q=>by rw[ag (c5 q hD)];exact q) λc xs q=>by rw[ag (c5 q hD)];exact q
end
def PTs(Y:Cx)(ifs:List Expr)(t:TT):Prop:=
 ∀(pins:List (Addr×Obj))(s:Shared)(σ:St)(H:Hp)(Q:Bool->Hp->Prop),Inv Y pins σ H s->t σ H Q->
  wpAny (model Y.prog Y.w) Y.A (forIn ifs true λc r=>if r=true then do let ok <- isTrue c Y.env (eval c Y.env);pure (ForInStep.yield ok)else pure (ForInStep.yield r)) (TP Y pins σ Q) Y.xe s
def dD:TT:=λ_ H Q=>Q true H
theorem c4{Y:Cx}:PTs Y [] dD:=λ_ _ _ H _ I h=>wpAny_tests_nil ⟨H,I,h⟩
theorem nI{Y:Cx}{c:Expr}{t:TT}(h:PT Y c t):PTs Y [c] t:=λpins s σ H Q I hq=>wpAny_tests_one (h pins s σ H Q I hq)
def cW(J:It)(g:TG)(tt:TT)(te:TE)(Fin:List V->Hp->Prop)(W:Nat->Nat->List V->St->Hp->Prop):Prop:=
 ∀i m ys σ H,W i m ys σ H->(J.stop i H/\ys.length<=sizeLine/\Fin ys H)\/(J.go i H/\ys.length<sizeLine/\∃N:List V->St->Hp->Prop,(∀ys' σ' H',N ys' σ' H'->∃m',m'<m/\W (i+1) m' ys' σ' H') /\
  ∀x H',J.yld i H x H'->g x σ H' λσ2 H2=>tt σ2 H2 λb H3=>if b=true then te σ2 H3 λy H4=>N (ys++[y]) σ2 H4 else N ys σ2 H3)
section
variable {X:Cx}{pins:List (Addr×Obj)}{σ:St}{H:Hp}{s:Shared}{scope:Scope}{Nc:List Str}{js:List Nat}{k:Nat}{tg iter elt:Expr}{ifs:List Expr}{pos:Pos}{g:TG}{tt:TT}{te:TE}
theorem p7{J:It}{fp:List Addr}{it:Addr}{tn:Nat->Heap->Prop}{Fin:List V->Hp->Prop}{W:Nat->Nat->List V->St->Hp->Prop}{RR:Value->Addr->Result->Shared->Prop}{E:Qw}{m0:Nat}
 (S:aO X.env.scope X.N scope k Nc js) (hc:X.calm=true) (I:Inv X pins σ H s) (T:dR X.prog X.w X.K tg J fp it tn) (st:tn 0 s.heap) (hf:∀b∈fp,ca X pins H b)
 (hg:∀pins fp s H C,PG (X.comp pins Nc scope fp s H C) tg g) (ht:∀pins fp s H C,PTs (X.comp pins Nc scope fp s H C) ifs tt) (he:∀pins fp s H C,PE (X.comp pins Nc scope fp s H C) elt te)
 (w0:W 0 m0 [] (eK k js σ) H) (turn:cW J g tt te Fin W)
 (hRR:∀D C s' ys H',Inv X pins σ (upd H' D (.lst ys)) s'->ca X pins (upd H' D (.lst ys)) C->(∃m,s'.heap.Ns C m)->H' D=none->Fin ys H'->RR (.ref D) C (.ok .next) s'):
 wpAny (model X.prog X.w) X.A (newList []) (λacc s₃=>wpAny (model X.prog X.w) X.A (newFunctionEnv scope X.env.globals (cy X.env.cells scope.names []) [] X.env.qual none .none (some X.env)) (λcenv s₄=>
  codeAny (model X.prog X.w) X.A (.compStart (.ListComp elt [⟨tg,iter,ifs,0⟩] scope pos) 0 (.ref it) acc { cenv with scope:=relabel scope X.env }) (RR acc cenv.locals) s₄) E s₃) E s:=by
 refine wpAny_newObj_type (wpAny_newFunctionEnv S.cell (by intro y hy;simp at hy) (λh₁ hns₁ hsb₁=>?_) S.kind);dsimp only at hns₁ hsb₁ ⊢;generalize hH2:s.heap.push { cls:=.type "list",dict:=none,data:=.seq ([]:List Value).toArray }=H2 at hns₁ hsb₁ ⊢;have hC:H2.objs.size=s.heap.objs.size+1:=by rw[<- hH2,Qd]
 have hCle:s.heap.objs.size<=H2.objs.size:=by rw[hC];exact Nat.le_succ _
 have hDC:s.heap.objs.size≠H2.objs.size:=by rw[hC];exact qE (Q8 _)
 have old:∀b o,s.heap.get? b=some o->h₁.get? b=some o:=λb o e=>
  hsb₁.extBut b o (qE (qA (qm e) hCle)) (q5 _ (hH2▸q5 _ e))
 have hacc:h₁.get? s.heap.objs.size=some { cls:=.type "list",data:=.seq ([]:List Value).toArray 0 }:=hsb₁.extBut _ _ hDC (q5 _ (hH2▸qk _ U));have hob:∀b∈fp,∃o,s.heap.get? b=some o:=λb hb=>let ⟨o,e,_⟩:=T.obj 0 _ st b hb;⟨o,e⟩;have hlt:∀b∈fp,b<s.heap.objs.size:=λb hb=>let ⟨_,e⟩:=hob b hb;qm e
 have notstk:∀b∈fp,b∉frs X.stack:=λb hb z=>by
  rcases qr.mp (I.stkSub b z)with e|e
  ·exact(hf b hb).2.1 e
  ·exact(hf b hb).2.2.1 e
 have hDstk:s.heap.objs.size∉frs X.stack:=λz=>by
  rcases qr.mp (I.stkSub _ z)with e|e
  ·have:=I.lt;rw[<- e]at this;exact Q9 _ this
  ·exact I.nofs (qc _) e
 let dpin:List Value->Nat->List (Addr×Obj):=λits n=>[(s.heap.objs.size,{ cls:=.type "list",data:=.seq its.toArray n })]
 have fpok:∀{H':Hp}{its:List Value}{n:Nat},(∀b∈fp,H' b=none)->∀b∈fp,ca (X.comp pins Nc scope fp s H H2.objs.size) (dpin its n) H' b:=λ{H' its n} hn b hb=>
  ⟨hn b hb,qE (qA (hlt b hb) hCle),notstk b hb,.inl hb,λx c e=>(hf b hb).2.2.2.2.1 x c (dO e),λp hp z=>by
   rcases qf.mp hp with q|q
   ·exact(hf b hb).2.2.2.2.2 p q z
   ·have e:p=(s.heap.objs.size,_):=qQ.mp q;rw[e]at z
    exact Q1 (hlt b hb) (by rw[<- z];exact Q9 _)⟩
 have loop:∀s₃:Shared,s₃={ s with heap:=h₁,toks:=s.toks+([]:List (Str×Value)).length }->
  codeAny (model X.prog X.w) X.A (.compLoop (.ListComp elt [⟨tg,iter,ifs,0⟩] scope pos) 0 (.ref it) (.ref s.heap.objs.size) (compEnvC scope (cy X.env.cells scope.names []) H2.objs.size X.env)) (RR (.ref s.heap.objs.size) H2.objs.size) s₃:=by
  rintro s₃ rfl
  refine yw (λn s'=>∃i ys its nn σc H',Inv (X.comp pins Nc scope fp s H H2.objs.size) [] σc H' s'/\tn i s'.heap/\(∀b∈fp,H' b=none)/\H' s.heap.objs.size=none/\aq ys its /\
   s'.heap.get? s.heap.objs.size=some { cls:=.type "list",data:=.seq its.toArray nn }/\W i n ys σc H') ?_ m0 ?_
  ·rintro n s3 ⟨i,ys,its,nn,σ3,H3,I3,st3,fr3,hD3,hv3,ho3,w3⟩
   have I3':Inv (X.comp pins Nc scope fp s H H2.objs.size) (dpin its nn) σ3 H3 s3:=I3.pins_of λp hp=>by
    have e:p=(s.heap.objs.size,_):=qQ.mp hp;subst e;exact⟨ho3,hD3,hDC,hDstk,λv z=>by cases z⟩
   rcases turn i n ys σ3 H3 w3 with⟨stop,hz,fin⟩|⟨go,hz,N,hN,step⟩
   ·refine thn (T.done (X.comp pins Nc scope fp s H H2.objs.size) U U U hc i (dpin its nn) s3 σ3 H3 (λ_ _=>False) I3' (fpok fr3) st3 stop) λr s4 ⟨hr,I4⟩=>?_;subst hr;have ho4:=(I4.pin _ (qG _ (qQ.mpr U))).1;obtain⟨m4,hn4,_⟩:=I4.loc;refine hRR _ _ s4 ys H3 (yv I hf (qc _) I4 hD3 hz hv3 ho4) (I.fpOk hCle ?_) ⟨m4,hn4⟩ hD3 fin;rw[ag (Ne.symm hDC)];exact I4.free
   ·refine thn (T.item (X.comp pins Nc scope fp s H H2.objs.size) U U U hc i (dpin its nn) s3 σ3 H3 (λ_ _=>False) I3' (fpok fr3) st3 go) λr s4 ⟨u,hr,h4⟩=>?_;subst hr;refine thn h4 λ_ s5 ⟨x,H5,I5,r5,y5,st5,fr5⟩=>?_;have I5':=I5.pinned (fpok fr5) (T.obj _ _ st5);refine thn (hg pins fp s H H2.objs.size _ s5 σ3 H5 x u _ I5' r5 (step x H5 y5)) λ_ s6 ⟨σ6,H6,I6,q6⟩=>?_;refine thn (ht pins fp s H H2.objs.size _ s6 σ6 H6 _ I6 q6) λok s7 ⟨H7,I7,q7⟩=>?_
    have keepIt:∀{σ':St}{H':Hp}{s':Shared},Inv (X.comp pins Nc scope fp s H H2.objs.size) (dpin its nn++g9 fp s5.heap) σ' H' s'->
     s'.heap.get? s.heap.objs.size=some { cls:=.type "list",data:=.seq its.toArray nn }/\H' s.heap.objs.size=none/\(∀b∈fp,H' b=none)/\(∀b∈fp,∀o,s5.heap.get? b=some o->s'.heap.get? b=some o):=λ{σ' H' s'} J=>by
     have p1:=J.pin (s.heap.objs.size,_) (qG _ (qT _ (qQ.mpr U)));refine⟨p1.1,p1.2.1,λb hb=>?_,λb hb o e=>(J.pin (b,o) (qG _ (qG _ (ig hb e)))).1⟩;obtain⟨o,e,_⟩:=T.obj _ _ st5 b hb;exact(J.pin (b,o) (qG _ (qG _ (ig hb e)))).2.1
    cases ok with
    |true=>
     rw[qY U]at q7 ⊢;refine thn (he pins fp s H H2.objs.size _ s7 σ6 H7 _ I7 q7) λy s8 ⟨v,H8,I8,r8,q8⟩=>?_;obtain⟨ho8,hD8,fr8,k8⟩:=keepIt I8;refine append_at (hsz:=by have:=hv3.length;show its.toArray.size<=sizeLine;rw[qz,<- this];exact Nat.le_of_lt hz) ho8 λh9 hs9 ho9=>?_;obtain⟨m',hm',w9⟩:=hN _ _ _ q8;have I8u:Inv (X.comp pins Nc scope fp s H H2.objs.size) [] σ6 H8 s8:=I8.pins_of λp hp=>nomatch hp
     have I9:Inv (X.comp pins Nc scope fp s H H2.objs.size) [] σ6 H8 { s8 with heap:=h9 }:=I8u.turned (t':=s8.toks) (it:=s.heap.objs.size) (λb o hb e=>(hs9.2 b hb).trans e) hD8 hDC (.inr (qc _)) (λx c e z=>by
      obtain⟨v,q⟩:=I.cell x c (dO e)
      exact Q1 q.lt (by rw[z];exact Q9 _)) λp hp z=>by
       have hp':p∈X.pn++pins:=by
        rcases qf.mp hp with q|q
        ·exact q
        ·exact nomatch q
       exact Q1 (qm (I.pin p hp').1) (by rw[z];exact Q9 _)
     refine⟨m',hm',i+1,ys++[v],its++[y],nn+1,σ6,H8,I9,T.keep _ _ _ st5 λb hb o e=>(hs9.2 b (qE (hlt b hb))).trans (k8 b hb o e),fr8,hD8,hv3.append (.cons r8 .nil),?_,w9⟩;show h9.get? s.heap.objs.size=_;rw[ho9];simp
    |false=>
     rw[qX qg]at q7 ⊢;obtain⟨ho8,hD8,fr8,k8⟩:=keepIt I7;obtain⟨m',hm',w9⟩:=hN _ _ _ q7;exact⟨m',hm',i+1,ys,its,nn,σ6,H7,I7.pins_of λp hp=>(nomatch hp),T.keep _ _ _ st5 k8,fr8,hD8,hv3,ho8,w9⟩
  ·exact⟨0,[],[],0,_,H,yt S I hf hlt hCle U I.bare old ⟨_,hns₁⟩,T.keep _ _ _ st λb _ o e=>old b o e,λb hb=>(hf b hb).1,I.hok.fresh (qc _),.nil,hacc,w0⟩
 exact codeAny_compStart_list (loop _ U) (T.self X.A 0 _ _ _ (T.keep _ _ _ st λb _ o e=>old b o e) (loop _ U))
def lN(wi:TI)(k:Nat)(js:List Nat)(g:TG)(tt:TT)(te:TE):TE:=λσ H Q=>wi σ H λJ H1=>∃W:Nat->Nat->List V->St->Hp->Prop,(∃m,W 0 m [] (eK k js σ) H1) /\
 cW J g tt te (λys H=>∀D,H D=none->Q (.ref D) (upd H D (.lst ys))) W
theorem cm{wi:TI}(S:aO X.env.scope X.N scope k Nc js)(hc:X.calm=true)(hi:PI X tg iter wi)
 (hg:∀pins fp s H C,PG (X.comp pins Nc scope fp s H C) tg g) (ht:∀pins fp s H C,PTs (X.comp pins Nc scope fp s H C) ifs tt) (he:∀pins fp s H C,PE (X.comp pins Nc scope fp s H C) elt te)
 (hs:∀x,foldedSetIterable iter X.env x=pure x:=by intro _;rfl):PE X (.ListComp elt [⟨tg,iter,ifs,0⟩] scope pos) (lN wi k js g tt te):=by
 intro pins s σ H Q I h;rw[eval_ListComp];refine wpAny_comprehension_free (use:=none) U hs (S.clos I) S.kind S.names (thn (hi pins s σ H _ I h) λxv s1 h1=>thn h1 λitv s2 h2=>?_);obtain⟨it,fp,tn,J,H2,e,I2,T,st2,f2,W,⟨m0,w0⟩,turn⟩:=h2;subst e;refine p7 (RR:=λacc C=>compPost (model X.prog X.w) X.A X.xe none (EP X pins σ Q) acc C) S hc I2 T st2 f2 hg ht he w0 turn λD C s' ys H' I' fC ns hD fin=>?_;obtain⟨m,hn⟩:=ns;exact⟨m,hn,λh' hs'=>⟨.ref D,_,I'.turned (t':=s'.toks) (λb o hb e=>(hs'.2 b hb).trans e) fC.1 fC.2.1 fC.2.2.2.1 fC.2.2.2.2.1 fC.2.2.2.2.2,U,fin D hD⟩⟩
theorem hX{wi:TI}{i:Nat}{x:Str}{px spos:Pos}(hN:X.N.Nodup)(hi':X.N[i]?=some x)(hx:Loc X.env.scope x)(S:aO X.env.scope X.N scope k Nc js)(hc:X.calm=true)(hi:PI X tg iter wi)
 (hg:∀pins fp s H C,PG (X.comp pins Nc scope fp s H C) tg g) (ht:∀pins fp s H C,PTs (X.comp pins Nc scope fp s H C) ifs tt) (he:∀pins fp s H C,PE (X.comp pins Nc scope fp s H C) elt te)
 (hsw:swapsWith (.ListComp elt [⟨tg,iter,ifs,0⟩] scope pos) (some (.Name x px)) spos.line X.env=pure true:=by rfl)
 (hs:∀x,foldedSetIterable iter X.env x=pure x:=by intro _;rfl) (hf:X.fn x=true\/X.env.scope.names.lookup x=some .local:=by first|exact .inl U|exact .inr U|assumption):
 PS X (.Assign [.Name x px] (.ListComp elt [⟨tg,iter,ifs,0⟩] scope pos) spos) (iV (lN wi k js g tt te) (aK i)):=by
 intro pins s σ H D I h;rw[exec_Assign_Name_used _ _ _ _ hsw];refine q0 (wpAny_standAt (q0 ?_));show wpAny _ X.A (do let _ <- comprehension (.ListComp elt [⟨tg,iter,ifs,0⟩] scope pos) scope X.env _ (newList []) false (eval iter X.env) (some (assign (.Name x px) X.env))) _ _ s
 refine q0 (wpAny_mono (wpAny_comprehension_free (use:=some (assign (.Name x px) X.env)) (Q:=λ_ s'=>SP X pins D .next s') U hs (S.clos I) S.kind S.names
  (thn (hi pins s σ H _ I h) λxv s1 h1=>thn h1 λitv s2 h2=>?_)) (λ_ s' hq=>qb (qb hq)) λ_ _ e=>e)
 obtain⟨it,fp,tn,J,H2,e,I2,T,st2,f2,W,⟨m0,w0⟩,turn⟩:=h2;subst e;refine p7 (RR:=λacc C=>compPost (model X.prog X.w) X.A X.xe (some (assign (.Name x px) X.env)) (λ_ s'=>SP X pins D .next s') acc C) S hc I2 T st2 f2 hg ht he w0 turn λA C s' ys H' I' fC ns hD fin=>?_;obtain⟨m,hn⟩:=ns;show wpAny _ X.A (assign (.Name x px) X.env (.ref A)) _ _ _;refine wpAny_assign_Name (lU I' hN hi' hx (v:=.ref A) U (λs'' I'' ⟨a,sb,ha⟩=>?_) hf)
 have hCa:C≠a:=by
  rcases ha with ha|ha
  ·rw[ha];exact fC.2.1
  ·exact λz=>fC.2.2.2.2.1 x a ha z.symm
 exact⟨m,hn.sameBut sb hCa,λh' hs'=>⟨_,_,I''.turned (t':=s''.toks) (λb o hb e=>(hs'.2 b hb).trans e) fC.1 fC.2.1 fC.2.2.2.1 fC.2.2.2.2.1 fC.2.2.2.2.2,fin A hD⟩⟩
end
section
variable {X:Cx}{tg:Expr}
theorem vi:OpR X (binaryOp .Mult) (rI IntMulOk λi j=>.int (i * j)):=opI λ_ _ _ _ _ _ _ hc q=>mul_int q hc
theorem yH:bW X (.builtin "isinstance") (λxs H Q=>∃x t T b,xs=[x,.ty T]/\cB X.K H x t/\PySem.W.kitOne X.K t (.type T)=some b/\Q (.bl b) H):=by
 intro pins s σ H xs us Q I r h;obtain⟨x,t,T,b,rfl,ty,e,q⟩:=h;obtain⟨u,c,rfl,ru,rc⟩:=fG r;have ec:c=.type T:=rc;subst ec;exact xC I ru ty e λtk=>⟨.bl b,H,I.tok tk,U,q⟩
def uj(K:W.Frag):R2:=λx y H Q=>∃l b xs zs,x=.ref l/\y=.ref b/\SqL K H l xs/\SqL K H b zs/\xs.length+zs.length<=sizeLine/\∀p,H p=none->Q (.ref p) (upd H p (.lst (xs++zs)))
theorem vt:OpR X (binaryOp .Add) (uj X.K):=by
 intro pins s σ H x y v u Q I rx ry h;obtain⟨l,b,xs,zs,rfl,rfl,hH,hB,hz,q⟩:=h;cases rx;cases ry;obtain⟨its,r,pl,z1⟩:=I.list hH;obtain⟨its2,r2,pl2,z2⟩:=I.list hB;have hl1:=r.length;have hl2:=r2.length;obtain⟨⟨cls,dd,data,sl⟩,n,ho,hc,_,hd⟩:=pl;obtain⟨⟨cls2,dd2,data2,sl2⟩,n2,ho2,hc2,_,hd2⟩:=pl2;simp only at hc hd hc2 hd2;subst hc hd hc2 hd2;refine concat_meets ⟨_,ho,U⟩ ⟨_,ho2,U⟩ noFill_list_add seq_list_add PySem.F.slot_list_add PySem.F.entry_list_add (PySem.F.args_list_add_2 _ _) (list_addW l b its.toArray its2.toArray n n2 dd dd2 sl sl2 (by rw[qz,qz];omega)) ⟨ho,ho2,?_⟩;have ea:its.toArray++its2.toArray=(its++its2).toArray:=by simp
 rw[ea];exact⟨.ref _,_,I.lnew (t':=s.toks) (r.append r2) (by rw[q9];omega),U,q _ I.fresh⟩
end
section
variable {X:Cx}
end
theorem fE{te:TE}{N N':V->St->Hp->Prop}{M:St->Hp->Prop}:(λ(σ2:St)(H2:Hp)=>dD σ2 H2 λb H3=>if b=true then te σ2 H3 λy H4=>N y σ2 H4 else M σ2 H3)=λσ2 H2=>te σ2 H2 λy H4=>N y σ2 H4:=by
 funext σ2 H2
 unfold dD;dsimp only;rw[qY U]
def kH(e:Expr):Option V:=match e with
 |.Constant (.str x) _ _=>some (.str x)
 |.Constant (.int i) _ _=>some (.int i)
 |.Constant (.bool b) _ _=>some (.bl b)
 |.Constant .none _ _=>some .non
 |_=>none
def kG:List Expr->Option (List V)
 |[]=>some []
 |e::es=>match kH e,kG es with
  |some v,some vs=>some (v::vs)
  |_,_=>none
def rO(vs:List V):TA:=λ_ H Q=>Q vs H
theorem v9{X:Cx}{e:Expr}{v:V}(h:kH e=some v):PE X e (tC v)/\∀es,starEach (e::es) X.env=(false,eval e X.env)::starEach es X.env:=by
 unfold kH at h;split at h
 ·cases h;exact⟨c0,λ_=>U⟩
 ·cases h;exact⟨aa,λ_=>U⟩
 ·cases h;exact⟨cq,λ_=>U⟩
 ·cases h;exact⟨cM,λ_=>U⟩
 ·cases h
theorem nN{X:Cx}:∀{es:List Expr}{vs:List V},kG es=some vs->PA X es (rO vs)
 |[],vs,h=>by cases h;exact a9
 |e::es,vs,h=>by
  unfold kG at h;split at h
  ·rename_i v ws h1 h2;cases h;obtain⟨p,s⟩:=v9 (X:=X) h1;exact a0 p (nN h2) (s es)
  ·cases h
section
variable {X:Cx}
theorem wz:OpR X (binaryOp .Add) (λx y H Q=>∃i j,x=.int i/\y=.int j/\Q (.int (i+j)) H):=vx
theorem wj:OpR X (binaryOp .Sub) (λx y H Q=>∃i j,x=.int i/\y=.int j/\Q (.int (i-j)) H):=vc
theorem cU:OpR X (binaryOp .Mult) (λx y H Q=>∃i j,x=.int i/\y=.int j/\IntMulOk i j/\Q (.int (i * j)) H):=vi
theorem wx:OpR X (binaryOp .FloorDiv) (λx y H Q=>∃i j,x=.int i/\y=.int j/\(0<j/\j<1073741824)/\Q (.int (i / j)) H):=vo
theorem wo:OpR X (binaryOp .Mod) (λx y H Q=>∃i j,x=.int i/\y=.int j/\0<j/\Q (.int (i % j)) H):=vj
theorem gm:OpR X (binaryOp .Pow) (λx y H Q=>∃i j,x=.int i/\y=.int j/\(0<=j/\j<=1000000/\i.natAbs<2 ^ 64)/\Q (.int (i ^ j.toNat)) H):=vd
theorem wq:OpR X (compareOp .Lt) (λx y H Q=>∃i j,x=.int i/\y=.int j/\Q (.bl (decide (i<j))) H):=vk
theorem wu:OpR X (compareOp .Gt) (λx y H Q=>∃i j,x=.int i/\y=.int j/\Q (.bl (decide (j<i))) H):=vn
end
end L2
namespace Att
open PySem PySem.W PySem.Calls PyProof.Rows
theorem tj{ns:List Int}(h:WData.layableAll [WData.list (ns.map WData.int)]=true):∀n∈ns,Builtin.Int.intBits n<=2 ^ 20:=λn hn=>by
 have h1:=layableW_arg h _ (qQ.mpr U);have h2:=layableW_item h1 (WData.int n) (List.mem_map.mpr ⟨n,hn,U⟩);exact PyData.bits_of_layable (layable0_of_all (lay0_int h2))
theorem attach_callB{l:OpenLaw}{n:Nat}{q:Program}{loose:List Str}{XP:(Str->Option Value)->Heap->Prop}{YP:World->Heap->Prop}{d:DefRec}
 (hn:l.most=some n) (hdf:d.params.defaults=[])
 (call:∀(w:World)(s₀ s₁:Shared)(mg mb:Str->Option Value)(fa:Addr)(o:Obj)(pm cd doc:Value)(a:Addr)(vs:List Value)(ns:List Int),
  Ground q loose [] XP w s₀ mg mb s₁.heap->YP w s₁.heap->
  s₁.heap.get? fa=some o->o.data=.func (docDef d.name d.params d.body d.scope pm cd doc)->s₁.heap.CodeRec cd d.name->mg d.name=some (.ref fa)->
  s₁.heap.get? a=some { cls:=.type "list",data:=.seq vs.toArray }->IntsAre vs ns->ns.length<=n->(∀k∈ns,Builtin.Int.intBits k<=2 ^ 20)->s₁.gens=#[]->
  codeAny (model l.prog w) callerA (.call (.ref fa) ⟨[.ref a],[]⟩) (λr s'=>r=.ok (.ret (.bool true))/\OldK s₁.heap s'.heap/\s'.os=s₁.os/\AllBare s'.gens) s₁):
 WalkO q loose XP YP l.row.toRowW d [] (λf vs=>PySem.call f vs):=by
 intro w s₀ s₁ mg mb G Y fa o pm cd doc dV kV ho hd hcd hD hmg hg args vals as hpre hlay hrd hwl hlo;obtain rfl:dV=.none:=Dflts.none hD hdf;obtain rfl:kV=.none:=Dflts.noKw hD;obtain⟨a,vs,ns,rfl,rfl,hobj,hints,hlen⟩:=t9 hn hpre hwl;refine enter_call (codeAny_mono (call w s₀ s₁ mg mb fa o pm cd doc a vs ns G Y ho (fd_plain hd) hcd hmg hobj hints hlen (tj hlay) hg) λr s' hq=>?_);obtain⟨rfl,h2,h3,h4⟩:=hq;exact⟨.inl ⟨.bool true,.bool true,[],U,λ_=>U,.bool true,uI l _,λ_=>⟨List.Pairwise.nil,λ_ hm=>(nomatch hm)⟩⟩,h2,h3,h4⟩
end Att
namespace L2
open PySem PySem.Spec PyProof.Rows
theorem rj{l:PySem.W.OpenLaw}{n k:Nat}{q:Program}{loose:List Str}{XP:(Str->Option Value)->Heap->Prop}{YP:World->Heap->Prop}{d:DefRec}{K:Params->PySem.W.Frag}{CX:World->CXT}{sp:World->Sp}{x:Str}
 (hn:l.most=some n) (hn2:n<=sizeLine) (hdf:d.params.defaults=[]) (hr:bw k callerA)
 (hY:∀(w:World)(h:Heap),YP w h->(K w.params).In h)
 (F:∀(w:World)(mg:Str->Option Value)(fa:Addr)(h:Heap),(K w.params).In h->h.Ns mainGlobals mg->mg d.name=some (.ref fa)->
  ∃fd:FuncData,(∀(s:Shared)(u:Value),BindsTo s fd ⟨[u],[]⟩ [(x,u)]) /\
   ∀base:Heap,(K w.params).In base->base.Ns mainGlobals mg->aC l.prog w (K w.params) mg base (CX w) k fa fd [x] (sp w))
 (hsp:∀(w:World)(H:Hp)(a:Addr)(ns:List Int),ns.length<=n->(∀k∈ns,Builtin.Int.intBits k<=2 ^ 20)->iI H->SqL (K w.params) H a (ns.map V.int)->sp w [.ref a] H (λv _=>v=.bl true) λ_ _ _=>False)
 (hCX:∀(w:World)(H:Hp)(s:Shared)(e:Value)(s':Shared),CX w [] H s (λ_ _ _=>False) e s'->False):
 PySem.W.WalkO q loose XP YP l.row.toRowW d [] (λf vs=>PySem.call f vs):=by
 refine Att.attach_callB hn hdf λw s₀ s₁ mg mb fa o pm cd doc a vs ns G Y ho hd hcd hmg hobj hints hlen hbits hg=>?_;have KX:=hY w _ Y;obtain⟨fd,hb,hF⟩:=F w mg fa _ KX G.T.g hmg;exact xi KX G.T.g G.T.b G.T.builtins G.T.nolimit hg hobj hints (qw hlen hn2) hr hF hb (λH hO hS=>hsp w H a ns hlen hbits hO hS) λH e s'=>hCX w H s₁ e s'
theorem a8.new{H:Hp}{p:Addr}(h:H p=none)(o:HO):a8 H (upd H p o):=λb u q=>by rw[ag (c5 q h)];exact q
theorem bq{n m:Nat}(h:n<=m)(hm:m<=1000000:=by decide):n<=sizeLine:=qw h (qw hm (by rw[sizeLine_eq];decide))
theorem wY{i:Int}(h:i.natAbs<2 ^ 1000):i.natAbs.log2<1920:=by
 by_cases h0:i.natAbs=0
 ·rw[h0];decide
 ·exact Nat.lt_trans ((Nat.log2_lt h0).mpr h) Qy
def SIt(h:Heap):Bool->Addr->Addr->Nat->Prop
 |false,it,l,k=>h.IsListIter it l k
 |true,it,l,k=>h.IsTupleIter it l k
def SSq(h:Heap):Bool->Addr->Array Value->Prop
 |false,l,xs=>h.IsList l xs
 |true,l,xs=>h.IsTuple l xs
theorem SIt.obj{h:Heap}:∀{b:Bool}{it l:Addr}{k:Nat},SIt h b it l k->∃o,h.get? it=some o/\∃vs,o.data=.fields vs
 |false,_,_,_,⟨o,e,_,d⟩=>⟨o,e,_,d⟩
 |true,_,_,_,⟨o,e,_,d⟩=>⟨o,e,_,d⟩
theorem SIt.keep{h h':Heap}:∀{b:Bool}{it l:Addr}{k:Nat},SIt h b it l k->(∀o,h.get? it=some o->h'.get? it=some o)->SIt h' b it l k
 |false,_,_,_,⟨o,e,r⟩,f=>⟨o,f o e,r⟩
 |true,_,_,_,⟨o,e,r⟩,f=>⟨o,f o e,r⟩
theorem SSq.keep{h h':Heap}:∀{b:Bool}{l:Addr}{xs:Array Value},SSq h b l xs->(∀o,h.get? l=some o->h'.get? l=some o)->SSq h' b l xs
 |false,_,_,⟨o,e,r⟩,f=>⟨o,f o e,r⟩
 |true,_,_,⟨o,e,r⟩,f=>⟨o,f o e,r⟩
theorem SSq.obj{h:Heap}:∀{b:Bool}{l:Addr}{xs:Array Value},SSq h b l xs->∃o,h.get? l=some o/\∃n,o.data=.seq xs n
 |false,_,_,⟨o,e,_,n,d⟩=>⟨o,e,n,d⟩
 |true,_,_,⟨o,e,_,n,d⟩=>⟨o,e,n,d⟩
section
variable {prog:Program}{w:World}{A:Around}{E:Qw}{s:Shared}
theorem wC{it t:Addr}{k:Nat}{xs:Array Value}{x:Value}{Q:Qw}(hi:s.heap.IsTupleIter it t k)(ht:s.heap.IsTuple t xs)(hx:xs[k]?=some x)
 (q:∀g,g.IsTupleIter it t (k+1)->Heap.SameBut it s.heap g->Q x { s with heap:=g }):wpAny (model prog w) A (Builtin.SmallTypes.nextOf (.ref it)) Q E s:=by
 obtain⟨o,e,c,d⟩:=id hi;obtain⟨ot,et,_,nt,dt⟩:=ht;unfold Builtin.SmallTypes.nextOf;refine q0 (wpAny_callSpecial?_slot (name:=Str.ofString "__next__") hi.typeIs PySem.F.slot_tuple_iterator_next (Qg PySem.F.slot_tuple_iterator_next hi.typeIs PySem.F.entry_tuple_iterator_next ?_ (PySem.F.args_tuple_iterator_next_1 _)));show wpAny _ _ (field (.ref it) 0 >>= _) _ _ _;refine q0 (wpAny_field e d (x:=.ref t) U ?_);show wpAny _ _ (if(Value.ref t == Value.none)=true then _ else _) _ _ _;rw[qX (show ¬ (Value.ref t == Value.none)=true from qg)];show wpAny _ _ (field (.ref it) 1 >>= _) _ _ _;refine q0 (wpAny_field e d (x:=.int k 0) U ?_);show wpAny _ _ (seqItems? (.ref t) >>= _) _ _ _;refine q0 (Qt et dt ?_);simp only[qV,hx];refine q0 (wpAny_setField e d (by simp) (qb ⟨x,U,qb (q _ ?_ (Heap.SameBut.update ..))⟩));exact⟨_,Qe _ e (Obj.isFreed_of_fields (Obj.data_mapFields d _)),(Obj.cls_mapFields ..).trans c,by rw[Obj.data_mapFields d];simp[rawInt]⟩
theorem wD{it t:Addr}{k:Nat}{xs:Array Value}{Q:Qw}(hh:A.handled=none)(hi:s.heap.IsTupleIter it t k)(ht:s.heap.IsTuple t xs)(hx:xs[k]?=none)
 (q:∀g x,Heap.ExtBut it s.heap g->(∃o,g.get? x=some o/\o.cls=.type "StopIteration")->E (.ref x) { s with heap:=g }):wpAny (model prog w) A (Builtin.SmallTypes.nextOf (.ref it)) Q E s:=by
 obtain⟨o,e,c,d⟩:=id hi;obtain⟨ot,et,_,nt,dt⟩:=ht;unfold Builtin.SmallTypes.nextOf;refine q0 (wpAny_callSpecial?_slot (name:=Str.ofString "__next__") hi.typeIs PySem.F.slot_tuple_iterator_next (Qg PySem.F.slot_tuple_iterator_next hi.typeIs PySem.F.entry_tuple_iterator_next ?_ (PySem.F.args_tuple_iterator_next_1 _)));show wpAny _ _ (field (.ref it) 0 >>= _) _ _ _;refine q0 (wpAny_field e d (x:=.ref t) U ?_);show wpAny _ _ (if(Value.ref t == Value.none)=true then _ else _) _ _ _;rw[qX (show ¬ (Value.ref t == Value.none)=true from qg)];show wpAny _ _ (field (.ref it) 1 >>= _) _ _ _;refine q0 (wpAny_field e d (x:=.int k 0) U ?_);show wpAny _ _ (seqItems? (.ref t) >>= _) _ _ _;refine q0 (Qt et dt ?_);simp only[qV,hx];refine q0 (wpAny_rule (q0 (wpAny_setField e d (by simp) ?_)));show wpAny _ _ (newExc (.type "StopIteration") [] >>= _) _ _ _;refine q0 ?_;simp only[newExc,newTuple];refine q0 (wpAny_newObj_type ?_ (by size_fits));refine q0 (m:=firstArgMember _ _) (wpAny_of_eq (a:=Value.none) (by first|rfl|(simp only[firstArgMember];rfl)) (wpAny_newObj_type ?_ (by size_fits)));simp only[raiseNew];refine q0 (wpAny_handled ?_);first|rw[show A.in1.handled=none from hh]|rw[hh]
 refine q0 (qb (wpAny_throw (q _ _ (((Heap.SameBut.update ..).extBut.push _).push _) ⟨_,qk _ U,U⟩)))
theorem f7{it l:Addr}{k:Nat}{xs:Array Value}{x:Value}{Q:Qw}:∀{b:Bool},SIt s.heap b it l k->SSq s.heap b l xs->xs[k]?=some x->
 (∀g,SIt g b it l (k+1)->Heap.SameBut it s.heap g->Q x { s with heap:=g })->wpAny (model prog w) A (Builtin.SmallTypes.nextOf (.ref it)) Q E s
 |false,a,c,d,q=>wpAny_nextOf_list_item a c d q
 |true,a,c,d,q=>wC a c d q
theorem ic{it l:Addr}{k:Nat}{xs:Array Value}{Q:Qw}(hh:A.handled=none):∀{b:Bool},SIt s.heap b it l k->SSq s.heap b l xs->xs[k]?=none->
 (∀g x,Heap.ExtBut it s.heap g->(∃o,g.get? x=some o/\o.cls=.type "StopIteration")->E (.ref x) { s with heap:=g })->wpAny (model prog w) A (Builtin.SmallTypes.nextOf (.ref it)) Q E s
 |false,a,c,d,q=>wpAny_nextOf_list_end hh a c d q
 |true,a,c,d,q=>wD hh a c d q
structure ZAp(z TI TO i1 i2 l1 l2:Addr):Prop where
 a:TI≠z/\TO≠z/\i1≠z/\i2≠z/\TI≠TO/\TI≠i1/\TI≠i2/\TO≠i1/\TO≠i2/\i1≠i2
 l:∀c,c=l1\/c=l2->c≠z/\c≠TO/\c≠i1/\c≠i2/\c≠TI
theorem pY{z TI TO i1 i2 l1 l2:Addr}{b1 b2:Bool}{k1 k2:Nat}{xs ys:Array Value}{x y a b:Value}{Q:Qw}(D:ZAp z TI TO i1 i2 l1 l2)
 (hz:IsZip s.heap z TI TO .none) (hI:IsPair s.heap TI (.ref i1) (.ref i2)) (hO:IsPair s.heap TO a b) (t1:SIt s.heap b1 i1 l1 k1) (t2:SIt s.heap b2 i2 l2 k2) (q1:SSq s.heap b1 l1 xs) (q2:SSq s.heap b2 l2 ys) (ex:xs[k1]?=some x) (ey:ys[k2]?=some y)
 (q:∀g,IsZip g z TI TO (rawInt s.heap.objs.size)->IsPair g TO x y->SIt g b1 i1 l1 (k1+1)->SIt g b2 i2 l2 (k2+1)->IsPair g s.heap.objs.size x y->(∀c o,c≠z->c≠TO->c≠i1->c≠i2->s.heap.get? c=some o->g.get? c=some o)->Q (.ref s.heap.objs.size) { s with heap:=g }):
 wpAny (model prog w) A (Builtin.«zip.__next__» ⟨[.ref z],[]⟩) (λfin s'=>∃v,fin=.done (.ret v)/\Q v s') E s:=by
 obtain⟨⟨nIz,nOz,n1z,n2z,nIO,nI1,nI2,nO1,nO2,n12⟩,lne⟩:=D;obtain⟨m1z,m1O,m11,m12,m1I⟩:=lne l1 (.inl U);obtain⟨m2z,m2O,m21,m22,m2I⟩:=lne l2 (.inr U);show wpAny _ _ (field (.ref z) 2 >>= _) _ _ _;refine q0 (wpAny_field hz U (x:=.bool false) U ?_);show wpAny _ _ (field (.ref z) 3 >>= _) _ _ _;refine q0 (wpAny_field hz U (x:=.ref TI) U (q0 (Qt hI U ?_)));show wpAny _ _ (Builtin.SmallTypes.ownedTupleIsFree (.ref z) >>= _) _ _ _;refine q0 ?_;unfold Builtin.SmallTypes.ownedTupleIsFree;refine q0 (wpAny_field hz U (x:=.none) U (qb ?_));simp only[if_true];refine q0 (wpAny_rule (q0 (wpAny_field hz U (x:=.ref TO) U (q0 (wpAny_setField_rec hz (by simp) λg1 z1 s1=>?_)))));replace z1:IsZip g1 z TI TO .ellipsis:=z1;refine q0 ?_;simp only[List.zipIdx_cons,List.zipIdx_nil,List.forIn_cons,List.forIn_nil];refine q0 (q0 (wpAny_onRaise ?_));show wpAny _ _ (Builtin.SmallTypes.nextOf (.ref i1) >>= _) _ _ _;refine q0 (f7 (b:=b1) (t1.keep λo e=>s1.extBut _ _ n1z e) (q1.keep λo e=>s1.extBut _ _ m1z e) ex λg2 u1 s2=>qb ?_);have o2:IsPair g2 TO a b:=s2.extBut _ _ nO1 (s1.extBut _ _ nOz hO);refine q0 (Qt o2 U (q0 (wpAny_updateSeq_pair o2 λg3 o3 s3=>q0 (wpAny_letGo (qb ?_)))));replace o3:IsPair g3 TO x b:=o3;refine q0 (q0 (wpAny_onRaise ?_));show wpAny _ _ (Builtin.SmallTypes.nextOf (.ref i2) >>= _) _ _ _;refine q0 (f7 (b:=b2) (t2.keep λo e=>s3.extBut _ _ nO2.symm (s2.extBut _ _ n12.symm (s1.extBut _ _ n2z e))) (q2.keep λo e=>s3.extBut _ _ m2O (s2.extBut _ _ m21 (s1.extBut _ _ m2z e))) ey λg4 u2 s4=>qb ?_);have o4:IsPair g4 TO x b:=s4.extBut _ _ nO2 o3;refine q0 (Qt o4 U (q0 (wpAny_updateSeq_pair o4 λg5 o5 s5=>q0 (wpAny_letGo (qb (qb ?_))))));replace o5:IsPair g5 TO x y:=o5;refine q0 (Qt o5 U (q0 (wpAny_newTuple ?_)));have sz:g5.objs.size=s.heap.objs.size:=by rw[s5.1,s4.1,s3.1,s2.1,s1.1]
 have z5:IsZip g5 z TI TO .ellipsis:=s5.extBut _ _ nOz.symm (s4.extBut _ _ n2z.symm (s3.extBut _ _ nOz.symm (s2.extBut _ _ n1z.symm z1)));have k5:∀c o,c≠z->c≠TO->c≠i1->c≠i2->s.heap.get? c=some o->g5.get? c=some o:=λc o h1 h2 h3 h4 e=>s5.extBut _ _ h2 (s4.extBut _ _ h4 (s3.extBut _ _ h2 (s2.extBut _ _ h3 (s1.extBut _ _ h1 e))));have v1:SIt g5 b1 i1 l1 (k1+1):=u1.keep λo e=>s5.extBut _ _ nO1.symm (s4.extBut _ _ n12 (s3.extBut _ _ nO1.symm e));have v2:SIt g5 b2 i2 l2 (k2+1):=u2.keep λo e=>s5.extBut _ _ nO2.symm e;have zlt:z<g5.objs.size:=qm z5;show wpAny _ _ (Builtin.SmallTypes.ownedTupleHandOut (.ref z) (.ref g5.objs.size) >>= _) _ _ _;refine q0 ?_;unfold Builtin.SmallTypes.ownedTupleHandOut;have z6:IsZip (g5.push { cls:=.type "tuple",data:=.seq #[x,y] }) z TI TO .ellipsis:=q5 _ z5;refine q0 (wpAny_setField_rec z6 (by simp) λg7 z7 s7=>?_);replace z7:IsZip g7 z TI TO (rawInt g5.objs.size):=z7;refine wpAny_setField_rec z7 (by simp) λg8 z8 s8=>?_;replace z8:IsZip g8 z TI TO (rawInt g5.objs.size):=z8;have up:∀c o,c≠z->g5.get? c=some o->g8.get? c=some o:=λc o h1 e=>s8.extBut _ _ h1 (s7.extBut _ _ h1 (q5 _ e));have t8:IsPair g8 g5.objs.size x y:=s8.extBut _ _ (Nat.ne_of_gt zlt) (s7.extBut _ _ (Nat.ne_of_gt zlt) (qk _ U));rw[sz]at z8 t8;refine qb ⟨_,U,?_⟩;show Q (.ref g5.objs.size) _;rw[sz];exact q g8 z8 (up _ _ nOz o5) (v1.keep λo e=>up _ o n1z e) (v2.keep λo e=>up _ o n2z e) t8 λc o h1 h2 h3 h4 e=>up c o h1 (k5 c o h1 h2 h3 h4 e)
theorem pZ{z TI TO i1 i2 l1 l2:Addr}{b1 b2:Bool}{k1 k2:Nat}{xs ys:Array Value}{a b:Value}{Q:Fin->Shared->Prop}(hh:A.handled=none)(D:ZAp z TI TO i1 i2 l1 l2)
 (hz:IsZip s.heap z TI TO .none) (hI:IsPair s.heap TI (.ref i1) (.ref i2)) (hO:IsPair s.heap TO a b) (t1:SIt s.heap b1 i1 l1 k1) (t2:SIt s.heap b2 i2 l2 k2) (q1:SSq s.heap b1 l1 xs) (q2:SSq s.heap b2 l2 ys) (hend:xs[k1]?=none\/ys[k2]?=none)
 (q:∀g e,(∀c o,c≠z->c≠TO->c≠i1->c≠i2->s.heap.get? c=some o->g.get? c=some o)->(∃o,g.get? e=some o/\o.cls=.type "StopIteration")->E (.ref e) { s with heap:=g }):
 wpAny (model prog w) A (Builtin.«zip.__next__» ⟨[.ref z],[]⟩) Q E s:=by
 obtain⟨⟨nIz,nOz,n1z,n2z,nIO,nI1,nI2,nO1,nO2,n12⟩,lne⟩:=D;obtain⟨m1z,m1O,m11,m12,m1I⟩:=lne l1 (.inl U);obtain⟨m2z,m2O,m21,m22,m2I⟩:=lne l2 (.inr U);show wpAny _ _ (field (.ref z) 2 >>= _) _ _ _;refine q0 (wpAny_field hz U (x:=.bool false) U ?_);show wpAny _ _ (field (.ref z) 3 >>= _) _ _ _;refine q0 (wpAny_field hz U (x:=.ref TI) U (q0 (Qt hI U ?_)));show wpAny _ _ (Builtin.SmallTypes.ownedTupleIsFree (.ref z) >>= _) _ _ _;refine q0 ?_;unfold Builtin.SmallTypes.ownedTupleIsFree;refine q0 (wpAny_field hz U (x:=.none) U (qb ?_));simp only[if_true];refine q0 (wpAny_rule (q0 (wpAny_field hz U (x:=.ref TO) U (q0 (wpAny_setField_rec hz (by simp) λg1 z1 s1=>?_)))));replace z1:IsZip g1 z TI TO .ellipsis:=z1;refine q0 ?_;simp only[List.zipIdx_cons,List.zipIdx_nil,List.forIn_cons,List.forIn_nil];refine q0 (q0 (wpAny_onRaise ?_));show wpAny _ _ (Builtin.SmallTypes.nextOf (.ref i1) >>= _) _ _ _
 cases ex:xs[k1]? with
 |none=>
  refine q0 (ic (b:=b1) hh (t1.keep λo e=>s1.extBut _ _ n1z e) (q1.keep λo e=>s1.extBut _ _ m1z e) ex λg2 v s2 hv=>?_);obtain⟨ov,ev,cv⟩:=hv;have z2:IsZip g2 z TI TO .ellipsis:=s2 _ _ n1z.symm z1;have nv:v≠z:=λh=>by subst h;rw[z2]at ev;cases ev;simp at cv
  exact wpAny_setField_rec z2 (by simp) λg3 _ s3=>q g3 v (λc o h1 _ h3 _ e=>s3.extBut _ _ h1 (s2 _ _ h3 (s1.extBut _ _ h1 e))) ⟨ov,s3.extBut _ _ nv ev,cv⟩
 |some x=>
  have ey:ys[k2]?=none:=by rcases hend with h|h;rw[ex]at h;cases h;exact h
  refine q0 (f7 (b:=b1) (t1.keep λo e=>s1.extBut _ _ n1z e) (q1.keep λo e=>s1.extBut _ _ m1z e) ex λg2 u1 s2=>qb ?_);have o2:IsPair g2 TO a b:=s2.extBut _ _ nO1 (s1.extBut _ _ nOz hO);refine q0 (Qt o2 U (q0 (wpAny_updateSeq_pair o2 λg3 o3 s3=>q0 (wpAny_letGo (qb ?_)))));refine q0 (q0 (wpAny_onRaise ?_));show wpAny _ _ (Builtin.SmallTypes.nextOf (.ref i2) >>= _) _ _ _;refine q0 (ic (b:=b2) hh (t2.keep λo e=>s3.extBut _ _ nO2.symm (s2.extBut _ _ n12.symm (s1.extBut _ _ n2z e))) (q2.keep λo e=>s3.extBut _ _ m2O (s2.extBut _ _ m21 (s1.extBut _ _ m2z e))) ey λg4 v s4 hv=>?_);obtain⟨ov,ev,cv⟩:=hv;have z4:IsZip g4 z TI TO .ellipsis:=s4 _ _ n2z.symm (s3.extBut _ _ nOz.symm (s2.extBut _ _ n1z.symm z1));have nv:v≠z:=λh=>by subst h;rw[z4]at ev;cases ev;simp at cv
  exact wpAny_setField_rec z4 (by simp) λg5 _ s5=>q g5 v (λc o h1 h2 h3 h4 e=>s5.extBut _ _ h1 (s4 _ _ h4 (s3.extBut _ _ h2 (s2.extBut _ _ h3 (s1.extBut _ _ h1 e))))) ⟨ov,s5.extBut _ _ nv ev,cv⟩
end
section
variable {X:Cx}{pins:List (Addr×Obj)}{σ:St}{H:Hp}{s:Shared}{h':Heap}
theorem Inv.turnedL{t':Nat}{ch:List Addr}(I:Inv X pins σ H s)(k:∀b o,b∉ch->s.heap.get? b=some o->h'.get? b=some o)(hf:∀b∈ch,ca X pins H b):Inv X pins σ H { s with heap:=h',toks:=t' }:=by
 have nit:∀b u,H b=some u->b∉ch:=λb u e z=>by rw[(hf b z).1]at e;cases e
 have hL:X.env.locals∉ch:=λz=>(hf _ z).2.1 U
 refine I.step (g':=s.gens) (d':=s.drawn) (ch:=ch) (λb hb=>⟨(hf b hb).2.2.2.1,(hf b hb).2.1,(hf b hb).2.2.2.2.1,(hf b hb).2.2.2.2.2⟩) (λb o _ _ hc e _=>k b o hc e) (λb o _ _ hc e _=>⟨o.slots,k b o hc e⟩) (λ_ _ _ _ n=>n)
  (λb o hc e=>⟨o,k b o hc e⟩) (λ_ _ e=>e) (λ_ _ _ e=>e) (λb ps e=>⟨#[],by rw[e];simp⟩) (λm hm=>?_) (λb u e=>?_) I.bare
 ·obtain⟨o,es,ep,ho,r⟩:=hm;exact⟨o,es,ep,k _ o hL ho,r⟩
 ·refine(I.hok b u e).stay (λc v hc q=>k c v ?_ q) (λ_ q=>q) λ_ _ q=>q;rcases hc with z|z
  ·rw[z];exact nit b u e
  ·exact nit c _ z
theorem Inv.track{T:Addr}{o:HO}(I:Inv X pins σ H s)(f:ca X pins H T)(hs:X.s₀.heap.objs.size<=T)(new:bz X.prog X.w (upd H T o) s.heap T o):Inv X pins σ (upd H T o) s:=by
 obtain⟨f0,f1,f2,_,f4,f5⟩:=f;have old:∀b u,X.s₀.heap.get? b=some u->b≠T:=λb u e=>qE (qA (qm e) hs);refine⟨I.ok,I.os,I.bare,⟨I.base.keep,I.base.slot,λb u e n hx=>?_,I.base.there,λb xs e=>?_,λb u v e=>?_,λb ps e=>?_⟩,I.loc,I.cell,?_,λx c e=>?_,λp hp=>?_,λb u e=>?_,I.len⟩
 ·rw[ag (old b u e)];exact I.base.free b u e n hx
 ·rw[ag (c5 (I.base.tups b xs e) f0)];exact I.base.tups b xs e
 ·rw[ag (c5 (I.base.frzs b u v e) f0)];exact I.base.frzs b u v e
 ·obtain⟨more,q⟩:=I.base.tbls b ps e;exact⟨more,by rw[ag (c5 q f0)];exact q⟩
 ·rw[ag (Ne.symm f1)];exact I.free
 ·rw[ag (f4 x c e)];exact I.freeC x c e
 ·obtain⟨e,n,ne,nf,d⟩:=I.pin p hp;exact⟨e,by rw[ag (f5 p hp)];exact n,ne,nf,d⟩
 ·by_cases hb:b=T
  ·subst hb;rw[ae]at e;cases e;exact new
  ·rw[ag hb]at e;exact(I.hok b u e).stay (λc v _ q=>q) (λc q=>by rw[ag (c5 q f0)];exact q) λc xs q=>by rw[ag (c5 q f0)];exact q
end
def SqB(K:W.Frag)(H:Hp):Bool->Addr->List V->Prop
 |false,a,xs=>SqL K H a xs
 |true,a,xs=>SqT K H a xs
theorem SqB.at{X:Cx}{pins:List (Addr×Obj)}{σ:St}{H:Hp}{s:Shared}(I:Inv X pins σ H s):∀{b:Bool}{a:Addr}{xs:List V},SqB X.K H b a xs->∃its:List Value,aq xs its/\SSq s.heap b a its.toArray/\xs.length<=sizeLine
 |false,_,_,h=>let ⟨its,r,p,z⟩:=I.list h;⟨its,r,p.isList,z⟩
 |true,_,_,h=>let ⟨its,r,p,z⟩:=I.tuple h;⟨its,r,p,z⟩
theorem SqB.inj{X:Cx}{pins:List (Addr×Obj)}{σ:St}{H:Hp}{s:Shared}(I:Inv X pins σ H s):∀{b:Bool}{a:Addr}{xs ys:List V},SqB X.K H b a xs->SqB X.K H b a ys->xs=ys
 |false,_,_,_,h,h'=>I.list_inj h h'
 |true,_,_,_,h,h'=>I.tuple_inj h h'
def Itz(K:W.Frag)(b1 b2:Bool)(l1 l2:Addr):It:=
 ⟨λi H=>∃xs ys x y,SqB K H b1 l1 xs/\SqB K H b2 l2 ys/\xs[i]?=some x/\ys[i]?=some y,
  λi H v H'=>∃p x y,H p=none/\v=.ref p/\H'=upd H p (.tup [x,y])/\(∀xs,SqB K H b1 l1 xs->xs[i]?=some x)/\∀ys,SqB K H b2 l2 ys->ys[i]?=some y,
  λi H=>∃xs ys,SqB K H b1 l1 xs/\SqB K H b2 l2 ys/\(xs.length<=i\/ys.length<=i)⟩
section
variable {prog:Program}{w:World}{A:Around}{E:Qw}{s:Shared}
theorem lx{z TI TO i1 i2 l1 l2:Addr}{b1 b2:Bool}{k1 k2:Nat}{xs ys:Array Value}{x y a b:Value}{Q:Option Value->Shared->Prop}(D:ZAp z TI TO i1 i2 l1 l2)
 (hz:IsZip s.heap z TI TO .none) (hI:IsPair s.heap TI (.ref i1) (.ref i2)) (hO:IsPair s.heap TO a b) (t1:SIt s.heap b1 i1 l1 k1) (t2:SIt s.heap b2 i2 l2 k2) (q1:SSq s.heap b1 l1 xs) (q2:SSq s.heap b2 l2 ys) (ex:xs[k1]?=some x) (ey:ys[k2]?=some y)
 (q:∀g,IsZip g z TI TO (rawInt s.heap.objs.size)->IsPair g TO x y->SIt g b1 i1 l1 (k1+1)->SIt g b2 i2 l2 (k2+1)->IsPair g s.heap.objs.size x y->(∀c o,c≠z->c≠TO->c≠i1->c≠i2->s.heap.get? c=some o->g.get? c=some o)->Q (some (.ref s.heap.objs.size)) { s with heap:=g }):
 wpAny (model prog w) A (pyNext (.ref z)) Q E s:=by
 have ty:s.TypeIs (.ref z) "zip":=⟨_,hz,U⟩;unfold pyNext;exact q0 (wpAny_attempt (wpAny_callSpecial?_slot (name:=Str.ofString "__next__") ty PySem.F.slot_zip_next (Qg PySem.F.slot_zip_next ty PySem.F.entry_zip_next (pY D hz hI hO t1 t2 q1 q2 ex ey λg a1 a2 a3 a4 a5 a6=>qb (q g a1 a2 a3 a4 a5 a6)) (PySem.F.args_zip_next_1 _))))
theorem ly{z TI TO i1 i2 l1 l2:Addr}{b1 b2:Bool}{k1 k2:Nat}{xs ys:Array Value}{a b:Value}{Q:Option Value->Shared->Prop}(hh:A.handled=none)(D:ZAp z TI TO i1 i2 l1 l2)
 (hz:IsZip s.heap z TI TO .none) (hI:IsPair s.heap TI (.ref i1) (.ref i2)) (hO:IsPair s.heap TO a b) (t1:SIt s.heap b1 i1 l1 k1) (t2:SIt s.heap b2 i2 l2 k2) (q1:SSq s.heap b1 l1 xs) (q2:SSq s.heap b2 l2 ys) (hend:xs[k1]?=none\/ys[k2]?=none)
 (q:∀g,(∀c o,c≠z->c≠TO->c≠i1->c≠i2->s.heap.get? c=some o->g.get? c=some o)->Q none { s with heap:=g }):wpAny (model prog w) A (pyNext (.ref z)) Q E s:=by
 have ty:s.TypeIs (.ref z) "zip":=⟨_,hz,U⟩;unfold pyNext;refine q0 (wpAny_attempt (wpAny_callSpecial?_slot (name:=Str.ofString "__next__") ty PySem.F.slot_zip_next (Qg PySem.F.slot_zip_next ty PySem.F.entry_zip_next (pZ hh D hz hI hO t1 t2 q1 q2 hend λg e hk he=>?_) (PySem.F.args_zip_next_1 _))));obtain⟨o,ho,hc⟩:=he;exact q0 (wpAny_isInstance (T:="StopIteration") (b:=true) ⟨o,ho,hc⟩ isSubtype_stop (qb (q _ hk)))
end
theorem rF{P:Program}{w:World}{K:W.Frag}{elts:List Expr}{kk:Nat}{tp:Pos}{b1 b2:Bool}(z TI TO i1 i2 l1 l2:Addr)(D:ZAp z TI TO i1 i2 l1 l2):
 dR P w K (.Tuple elts kk tp) (Itz K b1 b2 l1 l2) [z,TI,TO,i1,i2] z (λi h=>IsZip h z TI TO .none/\IsPair h TI (.ref i1) (.ref i2)/\(∃a b,IsPair h TO a b)/\SIt h b1 i1 l1 i/\SIt h b2 i2 l2 i) where
 mem:=by simp
 obj:=λi h st b hb=>by
  obtain⟨hz,hI,⟨a,c,hO⟩,t1,t2⟩:=st;simp only[qr,qO,or_false]at hb;rcases hb with rfl|rfl|rfl|rfl|rfl
  ·exact⟨_,hz,λv q=>by cases q⟩
  ·exact⟨_,hI,λv q=>by cases q⟩
  ·exact⟨_,hO,λv q=>by cases q⟩
  ·obtain⟨o,e,vs,d⟩:=t1.obj;exact⟨o,e,λv q=>by rw[d]at q;cases q⟩
  ·obtain⟨o,e,vs,d⟩:=t2.obj;exact⟨o,e,λv q=>by rw[d]at q;cases q⟩
 keep:=λi h h' st k=>by
  obtain⟨hz,hI,⟨a,c,hO⟩,t1,t2⟩:=st;exact⟨k z (by simp) _ hz,k TI (by simp) _ hI,⟨a,c,k TO (by simp) _ hO⟩,t1.keep λo e=>k i1 (by simp) o e,t2.keep λo e=>k i2 (by simp) o e⟩
 item:=by
  intro X hP hw hK hc i pins s σ H E I hf st hg;subst hP hw hK;obtain⟨hz,hI,⟨a,c,hO⟩,t1,t2⟩:=st;obtain⟨xs,ys,x,y,hx,hy,ex,ey⟩:=hg;obtain⟨its,rv,q1,z1⟩:=SqB.at I hx;obtain⟨jts,rw',q2,z2⟩:=SqB.at I hy;obtain⟨u,hu,ru⟩:=rv.get ex;obtain⟨v,hv,rv'⟩:=rw'.get ey;refine lx D hz hI hO t1 t2 q1 q2 (x:=u) (y:=v) (by simpa using hu) (by simpa using hv) λg a1 a2 a3 a4 a5 a6=>⟨_,U,?_⟩;refine wpAny_letOwnedTupleGo_zip a1 λg' a1' sb=>?_;obtain⟨⟨nIz,nOz,n1z,n2z,nIO,nI1,nI2,nO1,nO2,n12⟩,lne⟩:=id D
  have hT:∀b∈[z,TI,TO,i1,i2],s.heap.objs.size≠b:=λb hb=>by
   have:∃o,s.heap.get? b=some o:=by
    simp only[qr,qO,or_false]at hb;rcases hb with rfl|rfl|rfl|rfl|rfl
    ·exact⟨_,hz⟩
    ·exact⟨_,hI⟩
    ·exact⟨_,hO⟩
    ·obtain⟨o,e,_⟩:=t1.obj;exact⟨o,e⟩
    ·obtain⟨o,e,_⟩:=t2.obj;exact⟨o,e⟩
   obtain⟨o,e⟩:=this;exact Nat.ne_of_gt (qm e)
  have kk:∀b o,b∉[z,TI,TO,i1,i2]->s.heap.get? b=some o->g'.get? b=some o:=λb o hb e=>by
   simp only[qr,qO,or_false,not_or]at hb;exact sb.extBut _ _ hb.1 (a6 b o hb.1 hb.2.2.1 hb.2.2.2.1 hb.2.2.2.2 e)
  have I1:Inv X pins σ H { s with heap:=g' }:=I.turnedL (t':=s.toks) kk hf;have pT:IsPair g' s.heap.objs.size u v:=sb.extBut _ _ (hT z (by simp)) a5;have fT:ca X pins H s.heap.objs.size:=I.fpOk (qc _) (I.hok.fresh (qc _));have I2:Inv X pins σ (upd H s.heap.objs.size (.tup [x,y])) { s with heap:=g' }:=I1.track fT I.sz ⟨by show 2<=sizeLine;decide,[u,v],.cons ru (.cons rv' .nil),⟨_,pT,U,_,U⟩⟩;refine⟨.ref s.heap.objs.size,_,I2,U,⟨_,x,y,I.hok.fresh (qc _),U,U,λxs' h=>by rw[SqB.inj I h hx];exact ex,λys' h=>by rw[SqB.inj I h hy];exact ey⟩,?_,λb hb=>?_⟩
  ·exact⟨a1',sb.extBut _ _ nIz (a6 TI _ nIz nIO nI1 nI2 hI),⟨u,v,sb.extBut _ _ nOz a2⟩,a3.keep λo e=>sb.extBut _ _ n1z e,a4.keep λo e=>sb.extBut _ _ n2z e⟩
  ·rw[ag (Ne.symm (hT b hb))];exact(hf b hb).1
 done:=by
  intro X hP hw hK hc i pins s σ H E I hf st hg;subst hP hw hK;obtain⟨hz,hI,⟨a,c,hO⟩,t1,t2⟩:=st;obtain⟨xs,ys,hx,hy,hend⟩:=hg;obtain⟨its,rv,q1,z1⟩:=SqB.at I hx;obtain⟨jts,rw',q2,z2⟩:=SqB.at I hy;have e1:=rv.length;have e2:=rw'.length
  refine ly (I.ok.hd hc) D hz hI hO t1 t2 q1 q2 (by
   rcases hend with h|h
   ·exact .inl (by simp;omega)
   ·exact .inr (by simp;omega)) λg k=>⟨U,I.turnedL (t':=s.toks) (ch:=[z,TI,TO,i1,i2]) (λb o hb e=>?_) hf⟩
  simp only[qr,qO,or_false,not_or]at hb;exact k b o hb.1 hb.2.2.1 hb.2.2.2.1 hb.2.2.2.2 e
 self:=λ_ _ _ _ _ st h=>wpAny_pyIter_zip st.1 h
def dk(b:Bool)(l:Addr):Obj:={ cls:=.type (if b=true then "tuple_iterator" else "list_iterator"),data:=.fields #[.ref l,.int 0 0] }
theorem SIt.new{h:Heap}:∀{b:Bool}{it l:Addr},h.get? it=some (dk b l)->SIt h b it l 0
 |false,_,_,e=>⟨_,e,U,U⟩
 |true,_,_,e=>⟨_,e,U,U⟩
def zg2(h:Heap)(b1 b2:Bool)(l1 l2:Addr):Heap:=(h.push (dk b1 l1)).push (dk b2 l2)
def zg3(h:Heap)(b1 b2:Bool)(l1 l2:Addr):Heap:=(zg2 h b1 b2 l1 l2).push { cls:=.type "tuple",data:=.seq #[.ref h.objs.size,.ref (h.push (dk b1 l1)).objs.size] }
def zg4(h:Heap)(b1 b2:Bool)(l1 l2:Addr):Heap:=(zg3 h b1 b2 l1 l2).push { cls:=.type "tuple",data:=.seq #[.none,.none] }
def zg5(h:Heap)(b1 b2:Bool)(l1 l2:Addr):Heap:=(zg4 h b1 b2 l1 l2).push { cls:=.type "zip",data:=.fields #[.none,.bool false,.bool false,.ref (zg2 h b1 b2 l1 l2).objs.size,.ref (zg3 h b1 b2 l1 l2).objs.size] }
theorem oq{prog:Program}{w:World}{A:Around}{E:Qw}{s:Shared}{l:Addr}{xs:Array Value}{Q:Qw}:∀{b:Bool},SSq s.heap b l xs->Q (.ref s.heap.objs.size) { s with heap:=s.heap.push (dk b l) }->wpAny (model prog w) A (pyIter (.ref l)) Q E s
 |false,h,q=>wpAny_pyIter_list h q
 |true,h,q=>wpAny_pyIter_tuple h q
theorem SSq.push{h:Heap}{b:Bool}{l:Addr}{xs:Array Value}(x:SSq h b l xs)(o:Obj):SSq (h.push o) b l xs:=x.keep λ_ e=>q5 _ e
set_option maxHeartbeats 8000000 in
theorem fD(b1 b2:Bool)(l1 l2:Addr)(xs ys:Array Value):
 Meets (Builtin.«zip.__new__» ⟨[.type "zip",.ref l1,.ref l2],[]⟩) (λ_ R s=>SSq s.heap b1 l1 xs/\SSq s.heap b2 l2 ys/\R (.ok (.ret (.ref (zg4 s.heap b1 b2 l1 l2).objs.size))) { s with heap:=zg5 s.heap b1 b2 l1 l2 }):=
 .of_wp λprog w A R s h=>by
  obtain⟨hp,g,d,tk,os⟩:=s;obtain⟨h1,h2,h⟩:=h;have hsub:=PySem.sub_zip;have e1:SSq (Shared.heap ⟨hp,g,d,tk,os⟩) b1 l1 xs:=h1;have e2:SSq (Shared.heap ⟨hp.push (dk b1 l1),g,d,tk,os⟩) b2 l2 ys:=SSq.push h2 _
  wp_walk using oq e1,oq e2
  exact⟨_,U,h⟩
section
variable {prog:Program}{w:World}{A:Around}{E:Qw}{s:Shared}
theorem pz{b1 b2:Bool}{l1 l2:Addr}{xs ys:Array Value}{Q:Qw}(h1:SSq s.heap b1 l1 xs)(h2:SSq s.heap b2 l2 ys)
 (h:∀g n,n=s.heap.objs.size->IsZip g (n+4) (n+2) (n+3) .none->IsPair g (n+2) (.ref n) (.ref (n+1))->IsPair g (n+3) .none .none->SIt g b1 n l1 0->SIt g b2 (n+1) l2 0->
  (∀c o,s.heap.get? c=some o->g.get? c=some o)->Q (.ref (n+4)) { s with heap:=g }):wpAny (model prog w) A (call (.type "zip") [.ref l1,.ref l2]) Q E s:=by
 refine callType_new PySem.F.called_zip Qy (PySem.F.typeCall_zip_2 _ _) (PySem.F.newCall_zip_2 _ _) (λobj=>PySem.F.args_object_init_3 obj _ _) PySem.F.entry_zip_new (fD b1 b2 l1 l2 xs ys) ⟨h1,h2,?_⟩;have e1:(s.heap.push (dk b1 l1)).objs.size=s.heap.objs.size+1:=Qd ..;have e2:(zg2 s.heap b1 b2 l1 l2).objs.size=s.heap.objs.size+2:=by unfold zg2;rw[Qd,e1]
 have e3:(zg3 s.heap b1 b2 l1 l2).objs.size=s.heap.objs.size+3:=by unfold zg3;rw[Qd,e2]
 have e4:(zg4 s.heap b1 b2 l1 l2).objs.size=s.heap.objs.size+4:=by unfold zg4;rw[Qd,e3]
 have p:∀{c:Addr}{o:Obj},(zg4 s.heap b1 b2 l1 l2).get? c=some o->(zg5 s.heap b1 b2 l1 l2).get? c=some o:=λq=>q5 _ q;have p4:∀{c:Addr}{o:Obj},(zg3 s.heap b1 b2 l1 l2).get? c=some o->(zg4 s.heap b1 b2 l1 l2).get? c=some o:=λq=>q5 _ q;have p3:∀{c:Addr}{o:Obj},(zg2 s.heap b1 b2 l1 l2).get? c=some o->(zg3 s.heap b1 b2 l1 l2).get? c=some o:=λq=>q5 _ q;have p2:∀{c:Addr}{o:Obj},(s.heap.push (dk b1 l1)).get? c=some o->(zg2 s.heap b1 b2 l1 l2).get? c=some o:=λq=>q5 _ q;have g5:(zg5 s.heap b1 b2 l1 l2).get? (zg4 s.heap b1 b2 l1 l2).objs.size=some _:=qk _ U;have g4:(zg5 s.heap b1 b2 l1 l2).get? (zg3 s.heap b1 b2 l1 l2).objs.size=some _:=p (qk _ U);have g3:(zg5 s.heap b1 b2 l1 l2).get? (zg2 s.heap b1 b2 l1 l2).objs.size=some _:=p (p4 (qk _ U));have g2:(zg5 s.heap b1 b2 l1 l2).get? (s.heap.push (dk b1 l1)).objs.size=some _:=p (p4 (p3 (qk _ U)));have g1:(zg5 s.heap b1 b2 l1 l2).get? s.heap.objs.size=some _:=p (p4 (p3 (p2 (qk _ U))));show _/\_;rw[e2,e3,e4]at g5;rw[e1,e2]at g3;rw[e3]at g4;rw[e1]at g2;rw[e4];exact⟨⟨_,g5,U⟩,h _ _ U g5 g3 g4 (SIt.new g1) (SIt.new g2) λc o x=>p (p4 (p3 (p2 (q5 _ x))))⟩
end
section
variable {X:Cx}
def xG(K:W.Frag)(ta:TA):TI:=λσ H R=>ta σ H λvs H1=>∃b1 b2 l1 l2 xs ys,vs=[.ref l1,.ref l2]/\SqB K H1 b1 l1 xs/\SqB K H1 b2 l2 ys/\R (Itz K b1 b2 l1 l2) H1
theorem uL{a b:Expr}{ta:TA}{p pos tp:Pos}{elts:List Expr}{kk:Nat}(hg:Gl X "zip")(hm:X.mg "zip"=none)(ha:PA X [a,b] ta)(hs:starEach [a,b] X.env=[(false,eval a X.env),(false,eval b X.env)]:=by rfl)(hs2:starEach [b] X.env=[(false,eval b X.env)]:=by rfl):
 PI X (.Tuple elts kk tp) (.Call (.Name "zip" p) [a,b] [] pos) (xG X.K ta):=by
 intro pins s σ H R I h;refine Call_ (cV I hg hm PyProof.Rows.Boot.«zip» (PyProof.Rows.callWith_type1 (thn (ha pos pins s σ H _ I h) λus s1 ⟨vs,H1,I1,r1,q1⟩=>?_) (by rw[hs,hs2]) (by rw[hs2];rfl)));obtain⟨b1,b2,l1,l2,xs,ys,rfl,hx,hy,q⟩:=q1;obtain⟨u,u',rfl,ru,ru'⟩:=fG r1;cases ru;cases ru';obtain⟨its,rv,s1',z1⟩:=SqB.at I1 hx;obtain⟨jts,rw',s2',z2⟩:=SqB.at I1 hy;refine pz s1' s2' λg n hn a1 a2 a3 a4 a5 k=>?_
 have lt:∀c,c=l1\/c=l2->c<n:=λc hc=>by
  rw[hn];rcases hc with rfl|rfl
  ·obtain⟨o,e,_⟩:=s1'.obj;exact qm e
  ·obtain⟨o,e,_⟩:=s2'.obj;exact qm e
 refine wpAny_pyIter_zip a1 ⟨n+4,[n+4,n+2,n+3,n,n+1],_,_,H1,U,I1.kept (t':=s1.toks) k,rF (n+4) (n+2) (n+3) n (n+1) l1 l2 ⟨?_,λc hc=>?_⟩,⟨a1,a2,⟨_,_,a3⟩,a4,a5⟩,λb hb=>?_,q⟩
 ·have e:∀i j:Nat,i≠j->n+i≠n+j:=λi j h z=>h (Nat.add_left_cancel z);exact⟨e 2 4 Qy,e 3 4 Qy,e 0 4 Qy,e 1 4 Qy,e 2 3 Qy,e 2 0 Qy,e 2 1 Qy,e 3 0 Qy,e 3 1 Qy,e 0 1 Qy⟩
 ·have q:=lt c hc;have e:∀i:Nat,c≠n+i:=λi=>qE (qA q (Nat.le_add_right _ _));exact⟨e 4,e 3,e 0,e 1,e 2⟩
 ·have e:∀i:Nat,ca X pins H1 (n+i):=λi=>I1.fpOk (by rw[hn];exact Nat.le_add_right _ _) (I1.hok.fresh (by rw[hn];exact Nat.le_add_right _ _));simp only[qr,qO,or_false]at hb;rcases hb with rfl|rfl|rfl|rfl|rfl
  ·exact e 4
  ·exact e 2
  ·exact e 3
  ·exact e 0
  ·exact e 1
end
open PySem.Builtin.Str in
section
variable {X:Cx}
end
@[irreducible] def rStrAny:List V->Hp->VK->Prop:=λxs H Q=>(∃z:Str,xs=[.str z]/\Q (.str z) H)\/∃i:Int,xs=[.int i]/\i.natAbs.log2<1920/\Q (.str (toString i)) H
section
variable {X:Cx}
end
mutual
inductive Dt(K:W.Frag)(H:Hp):V->PyData->Prop
 |non:Dt K H .non .none
 |bl (b:Bool):Dt K H (.bl b) (.bool b)
 |int (i:Int):Dt K H (.int i) (.int i)
 |str (x:Str):Dt K H (.str x) (.str x)
 |lst {a:Addr}{xs:List V}{ds:List PyData}:SqL K H a xs->cD K H xs ds->Dt K H (.ref a) (.list ds)
 |tup {a:Addr}{xs:List V}{ds:List PyData}:SqT K H a xs->cD K H xs ds->Dt K H (.ref a) (.tuple ds)
inductive cD(K:W.Frag)(H:Hp):List V->List PyData->Prop
 |nil:cD K H [] []
 |cons {v:V}{vs:List V}{d:PyData}{ds:List PyData}:Dt K H v d->cD K H vs ds->cD K H (v::vs) (d::ds)
end
section
variable {X:Cx}{pins:List (Addr×Obj)}{σ:St}{H:Hp}{s:Shared}
mutual
theorem Dt.reads(I:Inv X pins σ H s):∀{v:V}{d:PyData},Dt X.K H v d->∀{u:Value},au v u->∃as,Reads s.heap u d as
 |_,_,.non,_,r=>by cases r;exact⟨_,.none⟩
 |_,_,.bl b,_,r=>by cases r;exact⟨_,.bool b⟩
 |_,_,.int i,_,r=>by obtain⟨t,rfl⟩:=r;exact⟨_,.int i t⟩
 |_,_,.str x,_,r=>by obtain⟨t,rfl⟩:=r;exact⟨_,.str x t⟩
 |_,_,.lst hq ha,_,r=>by
  cases r;obtain⟨its,rv,⟨o,n,e,c,_,d⟩,_⟩:=I.list hq;obtain⟨as,z⟩:=cD.reads I ha rv;exact⟨_,.list e c d (by simpa using z)⟩
 |_,_,.tup hq ha,_,r=>by
  cases r;obtain⟨its,rv,⟨o,e,c,n,d⟩,_⟩:=I.tuple hq;obtain⟨as,z⟩:=cD.reads I ha rv;exact⟨_,.tuple e c d (by simpa using z)⟩
theorem cD.reads(I:Inv X pins σ H s):∀{vs:List V}{ds:List PyData},cD X.K H vs ds->∀{us:List Value},aq vs us->∃as,ReadsAll s.heap us ds as
 |_,_,.nil,_,r=>by cases r;exact⟨_,.nil⟩
 |_,_,.cons h t,_,r=>by
  cases r with
  |cons r1 r2=>
   obtain⟨as,z⟩:=Dt.reads I h r1;obtain⟨bs,z'⟩:=cD.reads I t r2;exact⟨_,.cons z z'⟩
end
end
section
variable {X:Cx}
theorem gg(hu:X.A.units+64<cLine):OpR X (compareOp .NotEq) (λx y H Q=>∃d e,Dt X.K H x d/\Dt X.K H y e/\SeqAt.shaped d=true/\SeqAt.shaped e=true/\Q (.bl (!PyData.eqv d e)) H):=by
 intro pins s σ H x y v u Q I rx ry h;obtain⟨d,e,h1,h2,s1,s2,q⟩:=h;obtain⟨as,r1⟩:=h1.reads I rx;obtain⟨bs,r2⟩:=h2.reads I ry;exact ne_dataH r1 r2 s1 s2 hu ⟨.bl _,H,I,U,q⟩
end
theorem kI{K:W.Frag}{a:Addr}{xs:List V}{g:TG}{tt:TT}{te:TE}{Fin:List V->Hp->Prop}{σ:St}{H:Hp}(Pv:Nat->List V->St->Hp->Prop)(h0:Pv 0 [] σ H)(hz:∀i ys σ H,i<=xs.length->Pv i ys σ H->ys.length<=i)(hx:xs.length<=sizeLine)(hl:∀i ys σ H,Pv i ys σ H->SqL K H a xs)
 (hs:∀i x ys σ H,xs[i]?=some x->Pv i ys σ H->g x σ H λσ2 H2=>tt σ2 H2 λb H3=>if b=true then te σ2 H3 λy H4=>Pv (i+1) (ys++[y]) σ2 H4 else Pv (i+1) ys σ2 H3)
 (hd:∀ys σ H,Pv xs.length ys σ H->Fin ys H):∃W:Nat->Nat->List V->St->Hp->Prop,(∃m,W 0 m [] σ H)/\cW (Itl K a) g tt te Fin W:=by
 refine⟨λi m ys σ H=>m=xs.length-i/\i<=xs.length/\Pv i ys σ H,⟨_,U,qq _,h0⟩,?_⟩;rintro i m ys σ H ⟨rfl,hi,p⟩;have hl':=hz i ys σ H hi p;have q:=hl i ys σ H p;by_cases hlt:i<xs.length
 ·refine .inr ⟨⟨xs,xs[i],q,by simp[hlt]⟩,Qz,Pv (i+1),λys' σ' H' p'=>⟨_,Qz,U,hlt,p'⟩,λv H' y=>?_⟩;obtain⟨e,y⟩:=y;subst e;exact hs i v ys σ _ (y xs q) p
 ·have e:i=xs.length:=by omega
  subst e;exact .inl ⟨⟨xs,q,qc _⟩,Qz,hd ys σ H p⟩
theorem yj{K:W.Frag}{b1 b2:Bool}{l1 l2:Addr}{xs zs:List V}{g:TG}{tt:TT}{te:TE}{Fin:List V->Hp->Prop}{σ:St}{H:Hp}(Pv:Nat->List V->St->Hp->Prop)(h0:Pv 0 [] σ H)(hz:∀i ys σ H,Pv i ys σ H->ys.length<=i)(hx:xs.length<=sizeLine)(hl:∀i ys σ H,Pv i ys σ H->SqB K H b1 l1 xs/\SqB K H b2 l2 zs)
 (hs:∀i x z ys σ H p,xs[i]?=some x->zs[i]?=some z->Pv i ys σ H->H p=none->g (.ref p) σ (upd H p (.tup [x,z])) λσ2 H2=>tt σ2 H2 λb H3=>if b=true then te σ2 H3 λy H4=>Pv (i+1) (ys++[y]) σ2 H4 else Pv (i+1) ys σ2 H3)
 (hd:∀ys σ H,Pv (min xs.length zs.length) ys σ H->Fin ys H):∃W:Nat->Nat->List V->St->Hp->Prop,(∃m,W 0 m [] σ H)/\cW (Itz K b1 b2 l1 l2) g tt te Fin W:=by
 refine⟨λi m ys σ H=>m=min xs.length zs.length-i/\i<=min xs.length zs.length/\Pv i ys σ H,⟨_,U,qq _,h0⟩,?_⟩;rintro i m ys σ H ⟨rfl,hi,p⟩;have hl':=hz i ys σ H p;obtain⟨q1,q2⟩:=hl i ys σ H p;by_cases hlt:i<min xs.length zs.length
 ·have h1:i<xs.length:=by omega
  have h2:i<zs.length:=Qz;refine .inr ⟨⟨xs,zs,xs[i],zs[i],q1,q2,by simp[h1],by simp[h2]⟩,Qz,Pv (i+1),λys' σ' H' p'=>⟨_,Qz,U,hlt,p'⟩,λv H' y=>?_⟩;obtain⟨a,x,y,hn,rfl,rfl,e1,e2⟩:=y;exact hs i x y ys σ H a (e1 xs q1) (e2 zs q2) p hn
 ·have e:i=min xs.length zs.length:=by omega
  subst e;exact .inl ⟨⟨xs,zs,q1,q2,Qz⟩,Qz,hd ys σ H p⟩
end L2
namespace L2
open PySem PySem.Spec PyProof.Rows
section
variable {X:Cx}{tg:Expr}
end
section
variable {X:Cx}
end
end L2
namespace L2
open PySem PySem.Spec PyProof.Rows PySem.NumText
theorem gc{X:Cx}{pins:List (Addr×Obj)}{Nc:List Str}{scope:Scope}{fp:List Addr}{s:Shared}{H:Hp}{C:Addr}{es:List Expr}{k:Nat}{t:TGs}{pos:Pos}(n:Nat)(hc:X.calm=true)(h:PGs (X.comp pins Nc scope fp s H C) es t)
 (hn:(assignEach es (X.comp pins Nc scope fp s H C).env).length=n:=by rfl) (hst:(assignEach es (X.comp pins Nc scope fp s H C).env).findIdx? (·.1)=none:=by rfl):PG (X.comp pins Nc scope fp s H C) (.Tuple es k pos) (oJ X.K n t):=
 i3 (X:=X.comp pins Nc scope fp s H C) hc h hn hst
end L2
namespace L2
open PySem PySem.Spec PyProof.Rows PySem.W
section
variable {prog:Program}{w:World}{A:Around}{R:Result->Shared->Prop}{E:Qw}{h:Heap}{g:Array GenState}{d:Drawn}{t:Nat}{os:OsState}
variable {nm q:Str}{C N f:Addr}{bs bm:List Value}{hdct:Bool}{sn:List Str}{sub:List Value}{ab:Bool}{col:Option Bool}{dd:Option Addr}{k0 k1 k2 k3 k5:Option Value}
end
section
variable {prog:Program}{w:World}{A:Around}{R:Result->Shared->Prop}{E:Qw}{h:Heap}{g:Array GenState}{d:Drawn}{t:Nat}{os:OsState}
variable {nm q:Str}{C N x:Addr}{bs bm:List Value}{sn:List Str}{sub:List Value}{ab:Bool}{col:Option Bool}{dd:Option Addr}{k0 k1 k2 k3 k5:Option Value}{newId:String}{name:Str}{v:Value}{o:Obj}{fs:Array Value}
end
section
variable {prog:Program}{w:World}{A:Around}{R:Result->Shared->Prop}{E:Qw}{h:Heap}{g:Array GenState}{d:Drawn}{t:Nat}{os:OsState}
variable {nm q:Str}{C N e:Addr}{bs bm:List Value}{hdct:Bool}{sn:List Str}{sub:List Value}{ab:Bool}{col:Option Bool}{dd:Option Addr}{k0 k1 k2 k3 k5:Option Value}{newId:String}{oe:Obj}
end
section
variable {X:Cx}{pins:List (Addr×Obj)}{σ:St}{H:Hp}{s:Shared}{a C f dx:Addr}
end
section
variable {X:Cx}{pins:List (Addr×Obj)}{σ:St}{H:Hp}{s:Shared}{a C f dx:Addr}{h':Heap}
end
section
variable {M:Model}{A:Around}{E:Qw}{s:Shared}{base:Heap}{env:Env}{outer:List Env}{L e:Addr}{oe:Obj}{vs:Array Value}
end
section
variable {P:Program}{w:World}{K:W.Frag}{mg:Str->Option Value}{base:Heap}{N:List Str}{qual:Str}{scope:Scope}{f:Addr}{cdv:Value}{A:Around}{outer:List Env}{s0:Shared}{H0:Hp}{E:XK}
end
section
variable {M:Model}{A:Around}{E:Qw}{env:Env}
variable {nm q:Str}{C N:Addr}{bs bm:List Value}{hdct:Bool}{sn:List Str}{sub:List Value}{ab:Bool}{col:Option Bool}{dd:Option Addr}{k0 k1 k2 k3 k5:Option Value}{newId:String}
end
section
variable {X:Cx}{CX:CXT}{k:Nat}{f C:Addr}{fd:FuncData}{ps:List Str}{sp:Sp}{x:Str}{p pos cpos:Pos}{e:Expr}{es:List Expr}{t:TA}
end
section
variable {M:Model}{A:Around}{E:Qw}{h:Heap}{g:Array GenState}{d:Drawn}{t:Nat}{os:OsState}{e:Addr}{oe:Obj}
variable {nm q:Str}{C N:Addr}{bs bm:List Value}{hdct:Bool}{sn:List Str}{sub:List Value}{ab:Bool}{col:Option Bool}{dd:Option Addr}{k0 k1 k2 k3 k5:Option Value}{newId:String}
variable {nm' q':Str}{C' N':Addr}{bs' bm':List Value}{hdct':Bool}{sn':List Str}{sub':List Value}{ab':Bool}{col':Option Bool}{dd':Option Addr}{k0' k1' k2' k3' k5':Option Value}{newId':String}
end
section
variable {X:Cx}{pins:List (Addr×Obj)}{σ:St}{H:Hp}{s:Shared}{a:Addr}{oe:Obj}{vs:Array Value}{ex:List Addr}{fl:Value}{h':Heap}
end
section
variable {X:Cx}{k:Nat}{f C0:Addr}{fd:FuncData}{ps:List Str}{sp:Sp}{dvs:List V}{ds:List Value}{fx cx y m n:Str}{iy im inn:Nat}{p pos apos py cp pm pn pa hpos tpos:Pos}{e:Expr}{es:List Expr}{t:TA}
end
section
variable {prog:Program}{w:World}{A:Around}{E:Qw}{h:Heap}{g:Array GenState}{d:Drawn}{t:Nat}{os:OsState}{a dx:Addr}{o:Obj}{vs:Array Value}
 {nm q:Str}{C N:Addr}{bs bm:List Value}{sn:List Str}{sub:List Value}{ab:Bool}{col:Option Bool}{dd:Option Addr}{k0 k1 k2 k3 k5:Option Value}{newId:String}{mA:Str->Option Value}{name:Str}{v:Value}
end
section
variable {X:Cx}{e:Expr}{te:TE}{pos:Pos}
end
section
variable {P:Program}{w:World}{K:W.Frag}{mg:Str->Option Value}{base:Heap}
end
section
variable {prog:Program}{w:World}{A:Around}{E:Qw}{h:Heap}{g:Array GenState}{d:Drawn}{t:Nat}{os:OsState}{a:Addr}{o:Obj}{vs:Array Value}
 {nm q:Str}{C N:Addr}{bs bm:List Value}{sn:List Str}{sub:List Value}{ab:Bool}{col:Option Bool}{dd:Option Addr}{k0 k1 k2 k3 k5:Option Value}{newId:String}
end
section
variable {X:Cx}
end
section
variable {X:Cx}
theorem wv:OpR X (binaryOp .FloorDiv) (λx y H Q=>∃i j,x=.int i/\y=.int j/\(0<j/\j.natAbs.log2<9000)/\Q (.int (i / j)) H):=by
 have z:OpR X (binaryOp .FloorDiv) (rI (λ_ j=>0<j/\j.natAbs.log2<9000) λi j=>.int (i / j)):=opI λi j _ _ _ _ _ hc q=>by
  have h1:(0:Int)<j:=hc.1;exact floordiv_int Qz (by rw[Int.fdiv_eq_ediv_of_nonneg i Qz];exact q) (.inl (PyProof.noPylong_of_log2 hc.2))
 exact z
theorem wy:OpR X (binaryOp .BitAnd) (λx y H Q=>∃i j,x=.int i/\y=.int j/\Q (.int (Builtin.bitAnd i j)) H):=vv
theorem wn:OpR X (binaryOp .BitOr) (λx y H Q=>∃i j,x=.int i/\y=.int j/\Q (.int (Builtin.bitOr i j)) H):=ve
theorem wg:OpR X (binaryOp .BitXor) (λx y H Q=>∃i j,x=.int i/\y=.int j/\Q (.int (Builtin.bitXor i j)) H):=vb
end
theorem dE{x y:Str}(c:decide (V.str x=V.str y)=true):x=y:=by injection (Qa c)
theorem dF{x y:Str}(c:¬ decide (V.str x=V.str y)=true):¬ x=y:=λe=>c (qZ (by rw[e]))
theorem eE{x y:Int}(c:decide (V.int x=V.int y)=true):x=y:=by injection (Qa c)
theorem eF{x y:Int}(c:¬ decide (V.int x=V.int y)=true):¬ x=y:=λe=>c (qZ (by rw[e]))
section
variable {P:Program}{w:World}{A:Around}{E:Qw}{s:Shared}
end
section
variable {P:Program}{w:World}{A:Around}{E:Qw}{s:Shared}
end
section
variable {P:Program}{w:World}{A:Around}{E:Qw}{s:Shared}
end
section
variable {P:Program}{w:World}{A:Around}{E:Qw}{s:Shared}
end
section
variable {P:Program}{w:World}{A:Around}{E:Qw}{s:Shared}
end
section
variable {P:Program}{w:World}{A:Around}{E:Qw}{s:Shared}
set_option maxHeartbeats 3200000 in
end
section
variable {X:Cx}
end
section
variable {P:Program}{w:World}{A:Around}{E:Qw}{s:Shared}
end
section
variable {X:Cx}
end
theorem ym{K:W.Frag}{a:Addr}{xs:List V}{g:TG}{tt:TT}{te:TE}{Fin:List V->Hp->Prop}{σ:St}{H:Hp}(Pv:Nat->List V->St->Hp->Prop)(h0:Pv 0 [] σ H)(hz:∀i ys σ H,i<=xs.length->Pv i ys σ H->ys.length<=i)(hx:xs.length<=sizeLine)(hl:∀i ys σ H,Pv i ys σ H->SqT K H a xs)
 (hs:∀i x ys σ H,xs[i]?=some x->Pv i ys σ H->g x σ H λσ2 H2=>tt σ2 H2 λb H3=>if b=true then te σ2 H3 λy H4=>Pv (i+1) (ys++[y]) σ2 H4 else Pv (i+1) ys σ2 H3)
 (hd:∀ys σ H,Pv xs.length ys σ H->Fin ys H):∃W:Nat->Nat->List V->St->Hp->Prop,(∃m,W 0 m [] σ H)/\cW (Itt K a) g tt te Fin W:=by
 refine⟨λi m ys σ H=>m=xs.length-i/\i<=xs.length/\Pv i ys σ H,⟨_,U,qq _,h0⟩,?_⟩;rintro i m ys σ H ⟨rfl,hi,p⟩;have few:=hz i ys σ H hi p;have q:=hl i ys σ H p;by_cases lt:i<xs.length
 ·refine .inr ⟨⟨xs,xs[i],q,by simp[lt]⟩,Qz,Pv (i+1),λys' σ' H' p'=>⟨_,Qz,U,lt,p'⟩,λv H' y=>?_⟩;obtain⟨e,y⟩:=y;subst e;exact hs i v ys σ _ (y xs q) p
 ·obtain rfl:i=xs.length:=by omega
  exact .inl ⟨⟨xs,q,qc _⟩,Qz,hd ys σ H p⟩
theorem bC{b:Bool}{A B:Prop}(h:b=true)(x:A):if b=true then A else B:=by rw[qY h];exact x
theorem aI{b:Bool}{A B:Prop}(h:b=false)(x:B):if b=true then A else B:=by rw[qX (by rw[h];decide)];exact x
end L2
namespace Tr
open PySem PySem.Spec PyProof.Rows L2
theorem a8.over{H0 H:Hp}{f:Addr}{o:HO}(h:a8 H0 H)(hf:H0 f=none):a8 H0 (upd H f o):=λb u q=>by
 rw[ag (c5 q hf)];exact h b u q
theorem a8.none{H0 H:Hp}{f:Addr}(h:a8 H0 H)(hf:H f=none):H0 f=none:=by
 cases q:H0 f with
 |none=>rfl
 |some o=>rw[h _ _ q]at hf;cases hf
section
variable {Hb H0 H H1:Hp}{S s0 s1 s2 s3:Addr}{z:List Fz}
end
section
variable {Hb H0 H H1:Hp}{S s0 s1 s2 s3:Addr}{z:List Fz}
end
section
variable {Hb H0 H H':Hp}{S s0 s1 s2 s3:Addr}{z:List Fz}
end
section
variable {Hb H0 H H4:Hp}{S s0 s1 s2 s3:Addr}
end
end Tr
namespace Tr
end Tr
namespace Tr
open PySem PySem.Spec PyProof.Rows L2
end Tr
namespace L2
open PySem PySem.Spec PyProof.Rows
theorem yp{n:Nat}{g:TG}{tt:TT}{te:TE}{Fin:List V->Hp->Prop}{σ:St}{H:Hp}(Pv:Nat->List V->St->Hp->Prop)(h0:Pv 0 [] σ H)(hz:∀i ys σ H,i<=n->Pv i ys σ H->ys.length<=i)(hx:n<=sizeLine)
 (hs:∀i ys σ H,i<n->Pv i ys σ H->g (.int i) σ H λσ2 H2=>tt σ2 H2 λb H3=>if b=true then te σ2 H3 λy H4=>Pv (i+1) (ys++[y]) σ2 H4 else Pv (i+1) ys σ2 H3)
 (hd:∀ys σ H,Pv n ys σ H->Fin ys H):∃W:Nat->Nat->List V->St->Hp->Prop,(∃m,W 0 m [] σ H)/\cW (Itr 0 n) g tt te Fin W:=by
 refine⟨λi m ys σ H=>m=n-i/\i<=n/\Pv i ys σ H,⟨_,U,qq _,h0⟩,?_⟩;rintro i m ys σ H ⟨rfl,hi,p⟩;have few:=hz i ys σ H hi p;by_cases lt:i<n
 ·refine .inr ⟨lt,Qz,Pv (i+1),λys' σ' H' p'=>⟨_,Qz,U,lt,p'⟩,λv H' y=>?_⟩;obtain⟨e,y⟩:=y;rw[Int.zero_add]at y;subst e y;exact hs i ys σ _ lt p
 ·obtain rfl:i=n:=by omega
  exact .inl ⟨qc _,Qz,hd ys σ H p⟩
theorem gB{n:Nat}{g:TG}{te:TE}{Fin:List V->Hp->Prop}{σ:St}{H:Hp}(Pv:Nat->List V->St->Hp->Prop)(h0:Pv 0 [] σ H)(hz:∀i ys σ H,i<=n->Pv i ys σ H->ys.length<=i)(hx:n<=sizeLine)
 (hs:∀i ys σ H,i<n->Pv i ys σ H->g (.int i) σ H λσ2 H2=>te σ2 H2 λy H4=>Pv (i+1) (ys++[y]) σ2 H4)
 (hd:∀ys σ H,Pv n ys σ H->Fin ys H):∃W:Nat->Nat->List V->St->Hp->Prop,(∃m,W 0 m [] σ H)/\cW (Itr 0 n) g dD te Fin W:=
 yp Pv h0 hz hx (λi ys σ H lt p=>by
  rw[fE (N':=λ_ _ _=>True)]
  exact hs i ys σ H lt p) hd
theorem dA{K:W.Frag}{a:Addr}{xs:List V}{g:TG}{te:TE}{Fin:List V->Hp->Prop}{σ:St}{H:Hp}(Pv:Nat->List V->St->Hp->Prop)(h0:Pv 0 [] σ H)(hz:∀i ys σ H,i<=xs.length->Pv i ys σ H->ys.length<=i)(hx:xs.length<=sizeLine)(hl:∀i ys σ H,Pv i ys σ H->SqL K H a xs)
 (hs:∀i x ys σ H,xs[i]?=some x->Pv i ys σ H->g x σ H λσ2 H2=>te σ2 H2 λy H4=>Pv (i+1) (ys++[y]) σ2 H4)
 (hd:∀ys σ H,Pv xs.length ys σ H->Fin ys H):∃W:Nat->Nat->List V->St->Hp->Prop,(∃m,W 0 m [] σ H)/\cW (Itl K a) g dD te Fin W:=
 kI Pv h0 hz hx hl (λi x ys σ H hx p=>by
  rw[fE (N':=λ_ _ _=>True)]
  exact hs i x ys σ H hx p) hd
end L2
namespace Tr
open PySem PySem.Spec PyProof.Rows L2
end Tr
namespace L2
open PySem
section
variable {P:Program}{w:World}{A:Around}{E:Qw}{s:Shared}
end
section
variable {P:Program}{w:World}{A:Around}{E:Qw}{s:Shared}
set_option maxHeartbeats 3200000 in
end
end L2
namespace L2
open PySem PySem.Spec PyProof.Rows
section
variable {X:Cx}
end
section
variable {X:Cx}
end
def Ite(K:W.Frag)(l:Addr):It:=
 ⟨λi H=>∃xs x,SqL K H l xs/\xs[i]?=some x,
  λi H v H'=>∃p x,H p=none/\v=.ref p/\H'=upd H p (.tup [.int i,x])/\∀xs,SqL K H l xs->xs[i]?=some x,
  λi H=>∃xs,SqL K H l xs/\xs.length<=i⟩
theorem rL{P:Program}{w:World}{K:W.Frag}{elts:List Expr}{kk:Nat}{tp:Pos}(e it l:Addr)(ne:e≠it):
 dR P w K (.Tuple elts kk tp) (Ite K l) [e,it] e (λi h=>(∃old,IsEnum h e it i old)/\h.IsListIter it l i) where
 mem:=by simp
 obj:=λi h st b hb=>by
  obtain⟨⟨old,he⟩,o,eo,c,d⟩:=st;simp only[qr,qO,or_false]at hb;rcases hb with rfl|rfl
  ·exact⟨_,he,λv q=>by cases q⟩
  ·exact⟨o,eo,λv q=>by rw[d]at q;cases q⟩
 keep:=λi h h' st k=>by
  obtain⟨⟨old,he⟩,o,eo,r⟩:=st;exact⟨⟨old,k e (by simp) _ he⟩,o,k it (by simp) o eo,r⟩
 item:=by
  intro X hP hw hK hc i pins s σ H E I hf st hg;subst hP hw hK;obtain⟨⟨old,he⟩,hit⟩:=st;obtain⟨xs,x,hx,ex⟩:=hg;obtain⟨its,rv,pl,z1⟩:=I.list hx;obtain⟨u,hu,ru⟩:=rv.get ex;refine wpAny_pyNext_enum_item he hit pl.isList (x:=u) (by simpa using hu) ne λg a1 a2 a3 a4 a5=>⟨_,U,?_⟩;refine wpAny_letOwnedTupleGo_enum a1 λg' a1' sb=>?_
  have hT:∀b∈[e,it],s.heap.objs.size≠b:=λb hb=>by
   simp only[qr,qO,or_false]at hb;rcases hb with rfl|rfl
   ·exact Nat.ne_of_gt (qm he)
   ·obtain⟨o,eo,_⟩:=hit;exact Nat.ne_of_gt (qm eo)
  have ky:∀b o,b∉[e,it]->s.heap.get? b=some o->g'.get? b=some o:=λb o hb q=>by
   simp only[qr,qO,or_false,not_or]at hb;exact sb.extBut _ _ hb.1 (a5 b o hb.1 hb.2 q)
  have I1:Inv X pins σ H { s with heap:=g',toks:=s.toks+1 }:=I.turnedL (t':=s.toks+1) ky hf;have pT:=sb.extBut _ _ (hT e (by simp)) a3;have fT:ca X pins H s.heap.objs.size:=I.fpOk (qc _) (I.hok.fresh (qc _));have I2:Inv X pins σ (upd H s.heap.objs.size (.tup [.int i,x])) { s with heap:=g',toks:=s.toks+1 }:=I1.track fT I.sz ⟨by show 2<=sizeLine;decide,[.int i s.toks,u],.cons ⟨_,U⟩ (.cons ru .nil),⟨_,pT,U,_,U⟩⟩;refine⟨.ref s.heap.objs.size,_,I2,U,⟨_,x,I.hok.fresh (qc _),U,U,λxs' h=>by rw[I.list_inj h hx];exact ex⟩,⟨⟨u,a1'⟩,?_⟩,λb hb=>?_⟩
  ·obtain⟨o,eo,r⟩:=a2;exact⟨o,sb.extBut _ _ (Ne.symm ne) eo,r⟩
  ·rw[ag (Ne.symm (hT b hb))];exact(hf b hb).1
 done:=by
  intro X hP hw hK hc i pins s σ H E I hf st hg;subst hP hw hK;obtain⟨⟨old,he⟩,hit⟩:=st;obtain⟨xs,hx,hend⟩:=hg;obtain⟨its,rv,pl,z1⟩:=I.list hx;have e1:=rv.length;refine wpAny_pyNext_enum_end (I.ok.hd hc) he hit pl.isList (by simp;omega) λg k=>⟨U,I.turnedL (t':=s.toks) (ch:=[e,it]) (λb o hb q=>?_) hf⟩;simp only[qr,qO,or_false,not_or]at hb;exact k b o hb.2 q
 self:=λ_ _ _ _ _ st h=>by
  obtain⟨⟨old,he⟩,_⟩:=st;exact wpAny_pyIter_enum he h
section
variable {X:Cx}
def xK(K:W.Frag)(ta:TA):TI:=λσ H R=>ta σ H λvs H1=>∃l xs,vs=[.ref l]/\SqL K H1 l xs/\R (Ite K l) H1
theorem uO{a:Expr}{ta:TA}{p pos tp:Pos}{elts:List Expr}{kk:Nat}(hg:Gl X "enumerate")(hm:X.mg "enumerate"=none)(ha:PA X [a] ta)(hs:starEach [a] X.env=[(false,eval a X.env)]:=by rfl):
 PI X (.Tuple elts kk tp) (.Call (.Name "enumerate" p) [a] [] pos) (xK X.K ta):=by
 intro pins s σ H R I h;refine Call_ (cV I hg hm PyProof.Rows.Boot.«enumerate» (PyProof.Rows.callWith_type1 (thn (ha pos pins s σ H _ I h) λus s1 ⟨vs,H1,I1,r1,q1⟩=>?_) (by rw[hs];rfl) (by rfl)));obtain⟨l,xs,rfl,hx,q⟩:=q1;obtain⟨u,rfl,ru⟩:=dC r1;cases ru;obtain⟨its,rv,pl,z1⟩:=I1.list hx;refine call_enumerate_list pl.isList λg a1 a2 a3 k=>?_;refine wpAny_pyIter_enum a1 ⟨s1.heap.objs.size+1,[s1.heap.objs.size+1,s1.heap.objs.size],_,_,H1,U,I1.kept (t':=s1.toks) k,rL _ _ l (Nat.succ_ne_self _),⟨⟨_,a1⟩,a2⟩,λb hb=>?_,q⟩;simp only[qr,qO,or_false]at hb;rcases hb with rfl|rfl
 ·exact I1.fpOk (Nat.le_succ _) (I1.hok.fresh (Nat.le_succ _))
 ·exact I1.fpOk (qc _) (I1.hok.fresh (qc _))
end
end L2
namespace L2
end L2
namespace Tr
open PySem PySem.Spec PyProof.Rows L2
end Tr
namespace L2
open PySem PySem.Spec PyProof.Rows
end L2
namespace Tr
open PySem PySem.Spec PyProof.Rows L2
end Tr
namespace L2
open PySem PySem.Spec PyProof.Rows
structure l9(K:W.Frag)(C:Addr)(m:Str)(f:Addr):Prop where
 ga:PySem.W.specialIn K (.ref C) "__getattribute__"=some (some (.builtin "type.__getattribute__"))
 rd:PySem.W.readsIn K C (.type "type")=true
 fc:PySem.W.findCls K (.ref C) (.type "type") m=some (.val (.ref f))
 kp:PySem.W.keepIn K (.ref f)=true
section
variable {X:Cx}{CX:CXT}{k:Nat}{f C:Addr}{fd:FuncData}{ps:List Str}{sp:Sp}{E:XK}{x m:Str}{p pos apos:Pos}{e o:Expr}{es:List Expr}{t:TA}{te ta:TE}{ds:List Value}{dvs:List V}
theorem i6{pl:Sem Bool}(hg:Gl X x)(hmg:X.mg x=some (.ref C))(c:l9 X.K C m f)(F:aC X.prog X.w X.K X.mg X.base CX k f fd ps sp)(hr:bw k X.A)(hb:aD X.K fd ps ds)(hd:aq dvs ds)(hx:dS CX X E)(ha:PA X (e::es) t)(hdb:(x == ("__debug__":Str))=false:=by decide)
 (hst:starEach (e::es) X.env=(false,eval e X.env)::starEach es X.env:=by rfl) (hpl:(backTo pos (starEach es X.env)).any (·.1)=false:=by rfl)
 (ht:eval (.Call (.Attribute (.Name x p) m apos) (e::es) [] pos) X.env=(do
  let ov <- eval (.Name x p) X.env
  standAt apos.atName
  let (f,first) <- holding [ov] (getMethod ov m pl)
  callWith pos f first (backTo pos (starEach (e::es) X.env)) (backToKw pos (keywordEach [] X.env))):=by rfl):
 PE X (.Call (.Attribute (.Name x p) m apos) (e::es) [] pos) (lO sp dvs E t):=by
 intro pins s σ H Q I h;refine PySem.W.methodCall_KW (pl:=pl) (ik I hg hmg ?_ hdb) ht;refine PySem.W.method_cls I.kIn c.ga (PySem.W.cls_value I.kIn c.rd c.fc U ?_);have I2:Inv X pins σ H { s with toks:=s.toks+1 }:=I.tok _;refine PySem.W.callWith_K (first:=[]) (h₀:=X.base) I.ok.mod.kin c.kp (thn (ha pos pins _ σ H _ I2 h) λus s2 ⟨vs,H2,I3,r,q2⟩=>⟨I3.kIn,?_⟩) hst hpl;exact fU (us:=us) (vs:=vs) F hr hb hd hx I3 r q2
def kY(X:Cx)(C:Addr)(m:Str)(sp:Sp):Prop:=∃(k:Nat)(f:Addr)(fd:FuncData)(ps:List Str),Cls X.K C/\aH X.K C m f/\aC X.prog X.w X.K X.mg X.base CX0 k f fd ps sp/\bw k X.A/\aD X.K fd ps []
def rW(X:Cx)(m:Str)(ta:TE)(t:TA):TE:=λσ H Q=>ta σ H λx H1=>∃a C dx fs sp,x=.ref a/\H1 a=some (.ins C dx fs)/\fs.lookup m=none/\kY X C m sp/\t σ H1 λvs H2=>sp (x::vs) H2 Q E0
theorem nJ{pl:Sem Bool}(he:PE X o ta)(ha:PA X (e::es) t)
 (hst:starEach (e::es) X.env=(false,eval e X.env)::starEach es X.env:=by rfl) (hpl:(backTo pos (starEach es X.env)).any (·.1)=false:=by rfl)
 (ht:eval (.Call (.Attribute o m apos) (e::es) [] pos) X.env=(do
  let ov <- eval o X.env
  standAt apos.atName
  let (f,first) <- holding [ov] (getMethod ov m pl)
  callWith pos f first (backTo pos (starEach (e::es) X.env)) (backToKw pos (keywordEach [] X.env))):=by rfl):
 PE X (.Call (.Attribute o m apos) (e::es) [] pos) (rW X m ta t):=by
 intro pins s σ H Q I h;refine PySem.W.methodCall_KW (pl:=pl) (thn (he pins s σ H _ I h) λu s1 ⟨x,H1,I1,rx,a,C,dx,fs,sp,ex,ea,l,⟨k,f,fd,ps,c,hm,F,hr,hb⟩,q⟩=>?_) ht;subst ex;obtain rfl:u=Value.ref a:=rx;refine iB I1 ea c hm l ?_;refine PySem.W.callWith_K (first:=[.ref a]) (h₀:=X.base) I.ok.mod.kin hm.kp (thn (ha pos pins s1 σ H1 _ I1 q) λus s2 ⟨vs,H2,I2,r,q2⟩=>⟨I2.kIn,?_⟩) hst hpl;exact fU (us:=.ref a::us) (vs:=.ref a::vs) (dvs:=[]) F hr hb .nil aE I2 (.cons U r) (by rw[qv];exact q2)
end
theorem c3{f:Str}{v:V}:∀{fs:List (Str×V)}(ks:List Str),fs.map (·.1)=ks->(ks.all λg=>!decide (g=f))=true->bo f v fs=fs++[(f,v)]
 |[],_,_,_=>rfl
 |(g,x)::r,ks,e,h=>by
  subst e;simp only[qP,List.all_cons,Bool.and_eq_true,Bool.not_eq_true',decide_eq_false_iff_not]at h;rw[bo,qX h.1,c3 (r.map (·.1)) U h.2]
  rfl
theorem cE{H:Hp}{p:Addr}{o o':HO}:upd (upd H p o) p o'=upd H p o':=by
 funext b
 by_cases e:b=p
 ·subst e;rw[ae,ae]
 ·rw[ag e,ag e,ag e]
theorem cO{k:Str}{v:V}{r:List (Str×V)}:List.lookup k ((k,v)::r)=some v:=by simp[List.lookup]
theorem aN{k g:Str}{v:V}{r:List (Str×V)}(h:(k == g)=false):List.lookup k ((g,v)::r)=List.lookup k r:=by simp[List.lookup,h]
theorem gC{α:Type}{xs:List α}{i:Int}{v:α}(h:0<=i)(e:xs[i.toNat]?=some v):atI xs i=some v:=by
 have:=bO (xs:=xs) (j:=i.toNat) (v:=v) e
 rwa [Int.toNat_of_nonneg h]at this
inductive fZ(i:Nat)(σ:St)(H:Hp)(Q:VK):Prop
 |mk (v:V) (h:σ[i]?=some (some v)) (q:Q v H):fZ i σ H Q
theorem uo(i:Nat):fZ i=lK i:=by
 funext σ H Q
 exact propext ⟨λ⟨v,h,q⟩=>⟨v,h,q⟩,λ⟨v,h,q⟩=>⟨v,h,q⟩⟩
inductive qB(x:V)(H:Hp)(Q:Bool->Hp->Prop):Prop
 |mk (k:Bool) (h:x=.bl k) (q:Q k H):qB x H Q
theorem nE(Q:Bool->Hp->Prop):(λx H=>qB x H Q)=λx H=>∃k,x=V.bl k/\Q k H:=by
 funext x H
 exact propext ⟨λ⟨v,h,q⟩=>⟨v,h,q⟩,λ⟨v,h,q⟩=>⟨v,h,q⟩⟩
def dU(t:TE):TT:=λσ H Q=>t σ H λx H'=>qB x H' Q
theorem uu(t:TE):dU t=iR t:=by
 funext σ H Q
 unfold dU iR;rw[nE]
theorem ut(t:TE):dU t=tB t:=by
 funext σ H Q
 unfold dU tB;rw[nE]
inductive nG(x y:V)(H:Hp)(Q:VK):Prop
 |mk (i j:Int) (h1:x=.int i) (h2:y=.int j) (q:Q (.int (i+j)) H):nG x y H Q
inductive nj(x y:V)(H:Hp)(Q:VK):Prop
 |mk (i j:Int) (h1:x=.int i) (h2:y=.int j) (q:Q (.int (i-j)) H):nj x y H Q
inductive nC(x y:V)(H:Hp)(Q:VK):Prop
 |mk (i j:Int) (h1:x=.int i) (h2:y=.int j) (c:0<j/\j<1073741824) (q:Q (.int (i / j)) H):nC x y H Q
inductive nu(x y:V)(H:Hp)(Q:VK):Prop
 |mk (i j:Int) (h1:x=.int i) (h2:y=.int j) (c:0<j) (q:Q (.int (i % j)) H):nu x y H Q
inductive qLt(x y:V)(H:Hp)(Q:VK):Prop
 |mk (i j:Int) (h1:x=.int i) (h2:y=.int j) (q:Q (.bl (decide (i<j))) H):qLt x y H Q
inductive qGt(x y:V)(H:Hp)(Q:VK):Prop
 |mk (i j:Int) (h1:x=.int i) (h2:y=.int j) (q:Q (.bl (decide (j<i))) H):qGt x y H Q
inductive qEq(x y:V)(H:Hp)(Q:VK):Prop
 |mk (c:gO x y=true) (q:Q (.bl (decide (x=y))) H):qEq x y H Q
inductive qNe(x y:V)(H:Hp)(Q:VK):Prop
 |mk (c:gO x y=true) (q:Q (.bl (!decide (x=y))) H):qNe x y H Q
inductive jP(x y:V)(H:Hp)(Q:VK):Prop
 |mk (c:y=.non) (q:Q (.bl (decide (x=.non))) H):jP x y H Q
inductive nr(x y:V)(H:Hp)(Q:VK):Prop
 |mk (c:y=.non) (q:Q (.bl (!decide (x=.non))) H):nr x y H Q
inductive jO(K:W.Frag)(x y:V)(H:Hp)(Q:VK):Prop
 |mk (p:Addr) (xs:List V) (i:Int) (v:V) (h1:x=.ref p) (h2:y=.int i) (h3:SqL K H p xs) (h4:atI xs i=some v) (q:Q v H):jO K x y H Q
inductive jN(K:W.Frag)(x y:V)(H:Hp)(Q:VK):Prop
 |mk (p:Addr) (xs:List V) (i:Int) (v:V) (h1:x=.ref p) (h2:y=.int i) (h3:SqT K H p xs) (h4:atI xs i=some v) (q:Q v H):jN K x y H Q
inductive nA(K:W.Frag)(xs:List V)(H:Hp)(Q:VK):Prop
 |mk (p:Addr) (ys:List V) (h1:xs=[.ref p]) (h2:SqL K H p ys\/SqT K H p ys) (q:Q (.int ys.length) H):nA K xs H Q
inductive nB(K:W.Frag)(xs:List V)(H:Hp)(Q:VK):Prop
 |mk (x:V) (t:Value) (T:String) (b:Bool) (h1:xs=[x,.ty T]) (h2:cB K H x t) (h3:PySem.W.kitOne K t (.type T)=some b) (q:Q (.bl b) H):nB K xs H Q
inductive jM(K:W.Frag)(xs:List V)(H:Hp)(Q:VK):Prop
 |mk (p:Addr) (ys:List V) (h1:xs=[.ref p]) (h2:SqL K H p ys\/SqT K H p ys) (q:∀l,H l=none->Q (.ref l) (upd H l (.lst ys))):jM K xs H Q
inductive nF(x:V)(vs:List V)(H:Hp)(Q:VK):Prop
 |mk (l:Addr) (xs:List V) (y:V) (h1:x=.ref l) (h2:vs=[y]) (h3:H l=some (.lst xs)) (h4:xs.length<sizeLine) (q:Q .non (upd H l (.lst (xs++[y])))):nF x vs H Q
inductive nD(K:W.Frag)(x y:V)(H:Hp)(Q:VK):Prop
 |mk (l b:Addr) (xs zs:List V) (h1:x=.ref l) (h2:y=.ref b) (h3:SqL K H l xs) (h4:SqL K H b zs) (h5:xs.length+zs.length<=sizeLine) (q:∀p,H p=none->Q (.ref p) (upd H p (.lst (xs++zs)))):nD K x y H Q
inductive g6(A B:Prop):Prop
 |mk (h:A) (q:B):g6 A B
theorem jS(A B:Prop):g6 A B=(A/\B):=propext ⟨λ⟨a,b⟩=>⟨a,b⟩,λ⟨a,b⟩=>⟨a,b⟩⟩
section
variable {X:Cx}
theorem pq(i:Nat){x:Str}{pos:Pos}(hN:X.N[i]?=some x:=by rfl)(hv:Vis X.env.scope x:=by first|exact Or.inl U|exact Or.inr Oi|exact Or.inr (Or.inr U))(hd:(x == ("__debug__":Str))=false:=by decide)
 (hcd:(x == ("__classdict__":Str))=false:=by decide):PE X (.Name x pos) (fZ i):=by
 rw[uo];exact uP hN hv hd hcd
theorem aF{op:CmpOp}{r:R2}{a b:Expr}{ta tb:TE}{pos:Pos}(ho:OpR X (compareOp op) r)(ha:PE X a ta)(hb:PE X b tb)(hm:behindInMarks op b=false):PT X (.Compare a [op] [b] pos) (dU (tOp r ta tb)):=by
 rw[uu];exact uB ho ha hb hm
theorem df{e:Expr}{t:TE}(h:PE X e t)(he:∀whole,isTrue e X.env whole=(do let v <- whole;standAt e.pos;holding [v] (truthy v)):=by intro _;rfl):PT X e (dU t):=by
 rw[ut];exact uA h he
theorem OpR.as{f:Value->Value->Sem Value}{r r':R2}(h:OpR X f r)(e:∀x y H Q,r' x y H Q->r x y H Q):OpR X f r':=λpins s σ H x y v u Q I rx ry q=>h pins s σ H x y v u Q I rx ry (e _ _ _ _ q)
theorem bW.as{f:Value}{r r':List V->Hp->VK->Prop}(h:bW X f r)(e:∀x H Q,r' x H Q->r x H Q):bW X f r':=λpins s σ H x u Q I rx q=>h pins s σ H x u Q I rx (e _ _ _ q)
theorem IxR.as{r r':R2}(h:IxR X r)(e:∀x y H Q,r' x y H Q->r x y H Q):IxR X r':=λa b pins s σ H x y v u Q I rx ry q=>h a b pins s σ H x y v u Q I rx ry (e _ _ _ _ q)
theorem bH:OpR X (binaryOp .Add) nG:=wz.as λ_ _ _ _ ⟨i,j,a,b,q⟩=>⟨i,j,a,b,q⟩
theorem cF:OpR X (binaryOp .Sub) nj:=wj.as λ_ _ _ _ ⟨i,j,a,b,q⟩=>⟨i,j,a,b,q⟩
theorem dI:OpR X (binaryOp .FloorDiv) nC:=wx.as λ_ _ _ _ ⟨i,j,a,b,c,q⟩=>⟨i,j,a,b,c,q⟩
theorem bD:OpR X (binaryOp .Mod) nu:=wo.as λ_ _ _ _ ⟨i,j,a,b,c,q⟩=>⟨i,j,a,b,c,q⟩
theorem hE:OpR X (compareOp .Lt) qLt:=wq.as λ_ _ _ _ ⟨i,j,a,b,q⟩=>⟨i,j,a,b,q⟩
theorem hG:OpR X (compareOp .Gt) qGt:=wu.as λ_ _ _ _ ⟨i,j,a,b,q⟩=>⟨i,j,a,b,q⟩
theorem ba:OpR X (compareOp .Eq) qEq:=vp.as λ_ _ _ _ ⟨c,q⟩=>⟨c,q⟩
theorem gZ:OpR X (compareOp .NotEq) qNe:=vh.as λ_ _ _ _ ⟨c,q⟩=>⟨c,q⟩
theorem fV:OpR X (compareOp .Is) jP:=vm.as λ_ _ _ _ ⟨c,q⟩=>⟨c,q⟩
theorem ni:OpR X (compareOp .IsNot) nr:=vf.as λ_ _ _ _ ⟨c,q⟩=>⟨c,q⟩
theorem fW:OpR X (binaryOp .Add) (nD X.K):=vt.as λ_ _ _ _ ⟨l,b,xs,zs,h1,h2,h3,h4,h5,q⟩=>⟨l,b,xs,zs,h1,h2,h3,h4,h5,q⟩
theorem aP:IxR X (jO X.K):=xB.as λ_ _ _ _ ⟨p,xs,i,v,a,b,c,d,q⟩=>⟨p,xs,i,v,a,b,c,d,q⟩
theorem bj:IxR X (jN X.K):=xA.as λ_ _ _ _ ⟨p,xs,i,v,a,b,c,d,q⟩=>⟨p,xs,i,v,a,b,c,d,q⟩
theorem jJ{K:W.Frag}(e:X.K=K):IxR X (jO K):=by
 subst e;exact aP
theorem nh{K:W.Frag}(e:X.K=K):IxR X (jN K):=by
 subst e;exact bj
theorem bB:bW X (.builtin "len") (nA X.K):=yF.as λ_ _ _ ⟨p,ys,a,b,q⟩=>⟨p,ys,a,b,q⟩
theorem fY:bW X (.builtin "isinstance") (nB X.K):=yH.as λ_ _ _ ⟨x,t,T,b,h1,h2,h3,q⟩=>⟨x,t,T,b,h1,h2,h3,q⟩
theorem fX:bW X (.type "list") (jM X.K):=yE.as λ_ _ _ ⟨p,ys,a,b,q⟩=>⟨p,ys,a,b,q⟩
theorem um{K:W.Frag}(e:X.K=K):bW X (.type "list") (jM K):=by
 subst e;exact fX
theorem cX:MtM X "list.append" nF:=λpins s σ H x xs v us Q I rx rv ⟨l,ys,y,h1,h2,h3,h4,q⟩=>wH pins s σ H x xs v us Q I rx rv ⟨l,ys,y,h1,h2,h3,h4,q⟩
inductive jQ(K:W.Frag)(f:Str)(x:V)(H:Hp)(Q:VK):Prop
 |mk (a C dx:Addr) (fs:List (Str×V)) (v:V) (h1:x=.ref a) (h2:H a=some (.ins C dx fs)) (h3:Cls K C) (h4:aV K C f) (h5:fs.lookup f=some v) (q:Q v H):jQ K f x H Q
def jR(K:W.Frag)(ta:TE)(f:Str):TE:=λσ H Q=>ta σ H λx H1=>jQ K f x H1 Q
theorem uw(K:W.Frag)(ta:TE)(f:Str):jR K ta f=gI K ta f:=by
 funext σ H Q
 unfold jR gI
 have:(λx H1=>jQ K f x H1 Q)=λx H1=>∃a C dx fs v,x=V.ref a/\H1 a=some (.ins C dx fs)/\Cls K C/\aV K C f/\fs.lookup f=some v/\Q v H1:=by
  funext x H1
  exact propext ⟨λ⟨a,C,dx,fs,v,h1,h2,h3,h4,h5,q⟩=>⟨a,C,dx,fs,v,h1,h2,h3,h4,h5,q⟩,λ⟨a,C,dx,fs,v,h1,h2,h3,h4,h5,q⟩=>⟨a,C,dx,fs,v,h1,h2,h3,h4,h5,q⟩⟩
 rw[this]
theorem az{e:Expr}{ta:TE}{f:Str}{pos:Pos}(he:PE X e ta)(hb:attributeBase e f X.env (eval e X.env)=eval e X.env):PE X (.Attribute e f pos) (jR X.K ta f):=by
 rw[uw];exact nK he hb
def jK(t:TA):TE:=λσ H Q=>t σ H λxs H1=>g6 (xs.length<=sizeLine) (∀p,H1 p=none->Q (.ref p) (upd H1 p (.tup xs)))
def hJ(t:TA):TE:=λσ H Q=>t σ H λxs H1=>g6 (xs.length<=sizeLine) (∀p,H1 p=none->Q (.ref p) (upd H1 p (.lst xs)))
theorem ur(t:TA):jK t=iQ t:=by
 funext σ H Q
 unfold jK iQ;simp only[jS]
theorem uv(t:TA):hJ t=iU t:=by
 funext σ H Q
 unfold hJ iU;simp only[jS]
theorem cw{x1}{es:List Expr}{t:TA}{pos:Pos}(h:PA X es t):PE X (.Tuple es x1 pos) (jK t):=by
 rw[ur];exact uR h
theorem bI{es:List Expr}{t:TA}{pos:Pos}(h:PA X es t):PE X (.List es pos) (hJ t):=by
 rw[uv];exact uU h
inductive jL(vs:List V)(H:Hp)(R:It->Hp->Prop):Prop
 |mk (j:Int) (h:vs=[.int j]) (h1:-(2 ^ 62)<=j) (h2:j<2 ^ 62) (q:R (Itr 0 j.toNat) H):jL vs H R
def ki(ta:TA):TI:=λσ H R=>ta σ H λvs H1=>jL vs H1 R
theorem xy(ta:TA):ki ta=ko ta:=by
 funext σ H R
 unfold ki ko
 have:(λvs H1=>jL vs H1 R)=λvs H1=>∃j:Int,vs=[V.int j]/\-(2 ^ 62)<=j/\j<2 ^ 62/\R (Itr 0 j.toNat) H1:=by
  funext vs H1
  exact propext ⟨λ⟨j,h,h1,h2,q⟩=>⟨j,h,h1,h2,q⟩,λ⟨j,h,h1,h2,q⟩=>⟨j,h,h1,h2,q⟩⟩
 rw[this]
theorem d3{tg a:Expr}{ta:TA}{p pos:Pos}(hg:Gl X "range")(hm:X.mg "range"=none)(ha:PA X [a] ta)(hs:starEach [a] X.env=[(false,eval a X.env)]:=by rfl):PI X tg (.Call (.Name "range" p) [a] [] pos) (ki ta):=by
 rw[xy];exact uN hg hm ha hs
def qBM(K:W.Frag)(T:String)(r:V->List V->Hp->VK->Prop)(to:TE)(t:TA):TE:=λσ H Q=>to σ H λx H1=>g6 (tyV K T x H1) (t σ H1 λxs H2=>r x xs H2 Q)
theorem ux(K:W.Frag)(T:String)(r:V->List V->Hp->VK->Prop)(to:TE)(t:TA):qBM K T r to t=tBM K T r to t:=by
 funext σ H Q
 unfold qBM tBM;simp only[jS]
theorem cI{o e:Expr}{es:List Expr}{to:TE}{t:TA}{name:Str}{apos cpos:Pos}{T id:String}{r:V->List V->Hp->VK->Prop}(pa:PlainAttrs T)(slot:Slot T name id)(hty:typeOf (.builtin id)=pure (.type "method_descriptor"))(hm:MtR X id r)(ho:PE X o to)(ha:PA X (e::es) t)
 (hbase:attributeBase o name X.env (eval o X.env)=eval o X.env:=by rfl)
 (hfew:((backTo cpos (starEach (e::es) X.env)).all (λx=>!x.1) && (backToKw cpos (keywordEach [] X.env)).all (λx=>x.1.isSome)
  && decide ((e::es).length+([]:List Keyword).length+(if([]:List Keyword).isEmpty then 0 else 1)<30))=true:=by rfl)
 (hline:(apos.endLine == cpos.line)=true:=by rfl) (hs:starEach (e::es) X.env=(false,eval e X.env)::starEach es X.env:=by rfl) (hplain:(backTo cpos (starEach es X.env)).any (·.1)=false:=by rfl):
 PE X (.Call (.Attribute o name apos) (e::es) [] cpos) (qBM X.K T r to t):=by
 rw[ux];exact va pa slot hty hm ho ha hbase hfew hline hs hplain
end
abbrev cA(h:Heap)(z TI TO t:Addr)(f:Bool):Prop:=h.get? z=some { cls:=.type "zip",dict:=none,data:=.fields #[rawInt t,.bool f,.bool false,.ref TI,.ref TO],slots:=#[] }
section
variable {prog:Program}{w:World}{A:Around}{E:Qw}{s:Shared}
theorem lA{z TI TO t:Addr}{f:Bool}{ot:Obj}{Q:Bool->Shared->Prop}(hz:cA s.heap z TI TO t f)(ht:s.heap.get? t=some ot)
 (q:∀g,cA g z TI TO t true->Heap.SameBut z s.heap g->Q false { s with heap:=g }):wpAny (model prog w) A (Builtin.SmallTypes.ownedTupleIsFree (.ref z)) Q E s:=by
 unfold Builtin.SmallTypes.ownedTupleIsFree;refine q0 (wpAny_field hz U (x:=rawInt t) U ?_);show wpAny _ _ (loadIfAlive ((t:Int).toNat) >>= _) _ _ _;rw[qV];refine q0 (PySem.W.kdx_alive ht ?_);simp only[Option.isNone_some,Qh,if_false];refine q0 (wpAny_field hz U (x:=.bool f) U ?_)
 cases f with
 |true=>
  rw[qX (show ¬ ((Value.bool true != Value.bool true)=true)from qg)];exact qb (q _ hz (Heap.SameBut.refl _ _))
 |false=>
  rw[qY (show(Value.bool false != Value.bool true)=true from rfl)];refine q0 (wpAny_setField_rec hz (by simp) λh₃ he₃ hs₃=>?_);exact qb (q _ he₃ hs₃)
theorem pW{z TI TO i1 i2 l1 l2 t:Addr}{f b1 b2:Bool}{ot:Obj}{k1 k2:Nat}{xs ys:Array Value}{x y:Value}{Q:Qw}(D:ZAp z TI TO i1 i2 l1 l2)
 (hz:cA s.heap z TI TO t f) (ht:s.heap.get? t=some ot) (hI:IsPair s.heap TI (.ref i1) (.ref i2)) (t1:SIt s.heap b1 i1 l1 k1) (t2:SIt s.heap b2 i2 l2 k2) (q1:SSq s.heap b1 l1 xs) (q2:SSq s.heap b2 l2 ys) (ex:xs[k1]?=some x) (ey:ys[k2]?=some y)
 (q:∀g,cA g z TI TO t true->SIt g b1 i1 l1 (k1+1)->SIt g b2 i2 l2 (k2+1)->IsPair g s.heap.objs.size x y->(∀c o,c≠z->c≠i1->c≠i2->s.heap.get? c=some o->g.get? c=some o)->Q (.ref s.heap.objs.size) { s with heap:=g }):
 wpAny (model prog w) A (Builtin.«zip.__next__» ⟨[.ref z],[]⟩) (λfin s'=>∃v,fin=.done (.ret v)/\Q v s') E s:=by
 obtain⟨⟨nIz,nOz,n1z,n2z,nIO,nI1,nI2,nO1,nO2,n12⟩,lne⟩:=D;obtain⟨m1z,m1O,m11,m12,m1I⟩:=lne l1 (.inl U);obtain⟨m2z,m2O,m21,m22,m2I⟩:=lne l2 (.inr U);show wpAny _ _ (field (.ref z) 2 >>= _) _ _ _;refine q0 (wpAny_field hz U (x:=.bool false) U ?_);show wpAny _ _ (field (.ref z) 3 >>= _) _ _ _;refine q0 (wpAny_field hz U (x:=.ref TI) U (q0 (Qt hI U ?_)));show wpAny _ _ (Builtin.SmallTypes.ownedTupleIsFree (.ref z) >>= _) _ _ _;refine q0 (lA hz ht λg1 z1 s1=>?_);simp only[Qh,if_false];simp only[List.forIn_toArray,List.forIn_cons,List.forIn_nil];refine q0 (q0 (q0 (Qs ?_)));show wpAny _ _ (Builtin.SmallTypes.nextOf (.ref i1) >>= _) _ _ _;refine q0 (f7 (b:=b1) (t1.keep λo e=>s1.extBut _ _ n1z e) (q1.keep λo e=>s1.extBut _ _ m1z e) ex λg2 u1 s2=>qb ?_);refine qb ?_;refine q0 (q0 (Qs ?_));show wpAny _ _ (Builtin.SmallTypes.nextOf (.ref i2) >>= _) _ _ _;refine q0 (f7 (b:=b2) (t2.keep λo e=>s2.extBut _ _ n12.symm (s1.extBut _ _ n2z e)) (q2.keep λo e=>s2.extBut _ _ m21 (s1.extBut _ _ m2z e)) ey λg4 u2 s4=>qb ?_);refine qb (qb ?_);have sz:g4.objs.size=s.heap.objs.size:=by rw[s4.1,s2.1,s1.1]
 refine q0 (wpAny_newTuple (hsz:=(by show 2<=sizeLine;decide)) ?_);refine qb ⟨_,U,?_⟩;show Q (.ref g4.objs.size) _;have tp:IsPair (g4.push { cls:=.type "tuple",data:=.seq #[x,y] }) g4.objs.size x y:=qk _ U;rw[sz]at tp ⊢;have z4:cA g4 z TI TO t true:=s4.extBut _ _ n2z.symm (s2.extBut _ _ n1z.symm z1);exact q _ (q5 _ z4) (u1.keep λo e=>q5 _ (s4.extBut _ _ n12 e)) (u2.keep λo e=>q5 _ e) tp λc o h1 h2 h3 e=>q5 _ (s4.extBut _ _ h3 (s2.extBut _ _ h2 (s1.extBut _ _ h1 e)))
theorem pX{z TI TO i1 i2 l1 l2 t:Addr}{f b1 b2:Bool}{ot:Obj}{k1 k2:Nat}{xs ys:Array Value}{Q:Fin->Shared->Prop}(hh:A.handled=none)(D:ZAp z TI TO i1 i2 l1 l2)
 (hz:cA s.heap z TI TO t f) (ht:s.heap.get? t=some ot) (hI:IsPair s.heap TI (.ref i1) (.ref i2)) (t1:SIt s.heap b1 i1 l1 k1) (t2:SIt s.heap b2 i2 l2 k2) (q1:SSq s.heap b1 l1 xs) (q2:SSq s.heap b2 l2 ys) (hend:xs[k1]?=none\/ys[k2]?=none)
 (q:∀g e,(∀c o,c≠z->c≠i1->c≠i2->s.heap.get? c=some o->g.get? c=some o)->(∃o,g.get? e=some o/\o.cls=.type "StopIteration")->E (.ref e) { s with heap:=g }):
 wpAny (model prog w) A (Builtin.«zip.__next__» ⟨[.ref z],[]⟩) Q E s:=by
 obtain⟨⟨nIz,nOz,n1z,n2z,nIO,nI1,nI2,nO1,nO2,n12⟩,lne⟩:=D;obtain⟨m1z,m1O,m11,m12,m1I⟩:=lne l1 (.inl U);obtain⟨m2z,m2O,m21,m22,m2I⟩:=lne l2 (.inr U);show wpAny _ _ (field (.ref z) 2 >>= _) _ _ _;refine q0 (wpAny_field hz U (x:=.bool false) U ?_);show wpAny _ _ (field (.ref z) 3 >>= _) _ _ _;refine q0 (wpAny_field hz U (x:=.ref TI) U (q0 (Qt hI U ?_)));show wpAny _ _ (Builtin.SmallTypes.ownedTupleIsFree (.ref z) >>= _) _ _ _;refine q0 (lA hz ht λg1 z1 s1=>?_);simp only[Qh,if_false];simp only[List.forIn_toArray,List.forIn_cons,List.forIn_nil];refine q0 (q0 (q0 (Qs ?_)));show wpAny _ _ (Builtin.SmallTypes.nextOf (.ref i1) >>= _) _ _ _
 cases ex:xs[k1]? with
 |none=>
  refine q0 (ic (b:=b1) hh (t1.keep λo e=>s1.extBut _ _ n1z e) (q1.keep λo e=>s1.extBut _ _ m1z e) ex λg2 v s2 hv=>?_);exact q _ _ (λc o h1 h2 _ e=>s2 _ _ h2 (s1.extBut _ _ h1 e)) hv
 |some x=>
  have ey:ys[k2]?=none:=by rcases hend with h|h;rw[ex]at h;cases h;exact h
  refine q0 (f7 (b:=b1) (t1.keep λo e=>s1.extBut _ _ n1z e) (q1.keep λo e=>s1.extBut _ _ m1z e) ex λg2 u1 s2=>qb ?_);refine qb ?_;refine q0 (q0 (Qs ?_));show wpAny _ _ (Builtin.SmallTypes.nextOf (.ref i2) >>= _) _ _ _;refine q0 (ic (b:=b2) hh (t2.keep λo e=>s2.extBut _ _ n12.symm (s1.extBut _ _ n2z e)) (q2.keep λo e=>s2.extBut _ _ m21 (s1.extBut _ _ m2z e)) ey λg4 v s4 hv=>?_);exact q _ _ (λc o h1 h2 h3 e=>s4 _ _ h3 (s2.extBut _ _ h2 (s1.extBut _ _ h1 e))) hv
theorem nP{h:Heap}{z TI TO t t':Addr}{f f':Bool}(a:cA h z TI TO t f)(b:cA h z TI TO t' f'):t=t':=by
 have e:=a.symm.trans b;simp only[Option.some.injEq,Obj.mk.injEq,Data.fields.injEq,true_and,and_true]at e;have e2:=congrArg Array.toList e;simp only[List.cons.injEq]at e2;have e3:=e2.1;unfold rawInt at e3;injection e3 with e3 _;exact Int.ofNat.inj e3
inductive ZSt(h:Heap)(z TI TO i1 i2:Addr):Nat->Prop
 |first {a b:Value}:IsZip h z TI TO .none->IsPair h TO a b->ZSt h z TI TO i1 i2 0
 |more {t:Addr}{f:Bool}{ot:Obj}{k:Nat}:cA h z TI TO t f->h.get? t=some ot->t≠z/\t≠i1/\t≠i2->ZSt h z TI TO i1 i2 (k+1)
theorem pU{z TI TO i1 i2 l1 l2:Addr}{b1 b2:Bool}{k:Nat}{xs ys:Array Value}{x y:Value}{Q:Option Value->Shared->Prop}(D:ZAp z TI TO i1 i2 l1 l2)
 (hz:ZSt s.heap z TI TO i1 i2 k) (hI:IsPair s.heap TI (.ref i1) (.ref i2)) (t1:SIt s.heap b1 i1 l1 k) (t2:SIt s.heap b2 i2 l2 k) (q1:SSq s.heap b1 l1 xs) (q2:SSq s.heap b2 l2 ys) (ex:xs[k]?=some x) (ey:ys[k]?=some y)
 (q:∀g,ZSt g z TI TO i1 i2 (k+1)->SIt g b1 i1 l1 (k+1)->SIt g b2 i2 l2 (k+1)->IsPair g s.heap.objs.size x y->(∀c o,c≠z->c≠TO->c≠i1->c≠i2->s.heap.get? c=some o->g.get? c=some o)->(∀t f,cA g z TI TO t f->t=s.heap.objs.size\/∃f',cA s.heap z TI TO t f')->Q (some (.ref s.heap.objs.size)) { s with heap:=g }):
 wpAny (model prog w) A (pyNext (.ref z)) Q E s:=by
 cases hz with
 |first hz hO=>
  refine lx D hz hI hO t1 t2 q1 q2 ex ey λg a1 a2 a3 a4 a5 a6=>q g (.more a1 a5 ?_) a3 a4 a5 a6 λt f h=>.inl (nP h a1);obtain⟨o1,e1,_⟩:=t1.obj;obtain⟨o2,e2,_⟩:=t2.obj;exact⟨Nat.ne_of_gt (qm hz),Nat.ne_of_gt (qm e1),Nat.ne_of_gt (qm e2)⟩
 |@more t0 f0 ot0 k0 hz ht nt=>
  have ty:s.TypeIs (.ref z) "zip":=⟨_,hz,U⟩;unfold pyNext;refine q0 (wpAny_attempt (wpAny_callSpecial?_slot (name:=Str.ofString "__next__") ty PySem.F.slot_zip_next (Qg PySem.F.slot_zip_next ty PySem.F.entry_zip_next (pW D hz ht hI t1 t2 q1 q2 ex ey λg a1 a3 a4 a5 a6=>qb (q g ?_ a3 a4 a5 (λc o h1 _ h3 h4 e=>a6 c o h1 h3 h4 e) λt' f' h=>.inr ⟨f0,by rw[nP h a1];exact hz⟩)) (PySem.F.args_zip_next_1 _))));exact .more a1 (a6 _ _ nt.1 nt.2.1 nt.2.2 ht) nt
theorem pV{z TI TO i1 i2 l1 l2:Addr}{b1 b2:Bool}{k:Nat}{xs ys:Array Value}{Q:Option Value->Shared->Prop}(hh:A.handled=none)(D:ZAp z TI TO i1 i2 l1 l2)
 (hz:ZSt s.heap z TI TO i1 i2 k) (hI:IsPair s.heap TI (.ref i1) (.ref i2)) (t1:SIt s.heap b1 i1 l1 k) (t2:SIt s.heap b2 i2 l2 k) (q1:SSq s.heap b1 l1 xs) (q2:SSq s.heap b2 l2 ys) (hend:xs[k]?=none\/ys[k]?=none)
 (q:∀g,(∀c o,c≠z->c≠TO->c≠i1->c≠i2->s.heap.get? c=some o->g.get? c=some o)->Q none { s with heap:=g }):wpAny (model prog w) A (pyNext (.ref z)) Q E s:=by
 cases hz with
 |first hz hO=>exact ly hh D hz hI hO t1 t2 q1 q2 hend q
 |more hz ht nt=>
  have ty:s.TypeIs (.ref z) "zip":=⟨_,hz,U⟩;unfold pyNext;refine q0 (wpAny_attempt (wpAny_callSpecial?_slot (name:=Str.ofString "__next__") ty PySem.F.slot_zip_next (Qg PySem.F.slot_zip_next ty PySem.F.entry_zip_next (pX hh D hz ht hI t1 t2 q1 q2 hend λg e hk he=>?_) (PySem.F.args_zip_next_1 _))));obtain⟨o,ho,hc⟩:=he;exact q0 (wpAny_isInstance (T:="StopIteration") (b:=true) ⟨o,ho,hc⟩ isSubtype_stop (qb (q _ λc o h1 _ h3 h4 e=>hk c o h1 h3 h4 e)))
theorem ZSt.obj{h:Heap}{z TI TO i1 i2:Addr}{k:Nat}(hz:ZSt h z TI TO i1 i2 k):∃o,h.get? z=some o/\o.cls=.type "zip":=by
 cases hz with
 |first h _=>exact⟨_,h,U⟩
 |more h _ _=>exact⟨_,h,U⟩
theorem ZSt.keep{h h':Heap}{z TI TO i1 i2 S:Addr}{k:Nat}(hz:ZSt h z TI TO i1 i2 k)(e:∀b o,b≠S->h.get? b=some o->h'.get? b=some o)(nz:z≠S)(nO:TO≠S)(nt:∀t f,cA h z TI TO t f->t≠S):ZSt h' z TI TO i1 i2 k:=by
 cases hz with
 |first h hO=>exact .first (e _ _ nz h) (e _ _ nO hO)
 |more h ht n=>exact .more (e _ _ nz h) (e _ _ (nt _ _ h) ht) n
structure fj(n0:Nat)(h:Heap)(xs ys:Array Value)(av:List Addr)(acc:Array Value)(k:Nat):Prop where
 n:acc.size=k
 at_:∀(j:Nat)(v:Value),acc[j]?=some v->∃(t:Addr)(x y:Value),v=Value.ref t/\xs[j]?=some x/\ys[j]?=some y/\IsPair h t x y/\t∉av/\n0<=t
 inc:∀(i j:Nat)(t t':Addr),i<j->acc[i]?=some (.ref t)->acc[j]?=some (.ref t')->t<t'
theorem fj.keep{n0:Nat}{h h':Heap}{xs ys:Array Value}{av:List Addr}{acc:Array Value}{k:Nat}(g:fj n0 h xs ys av acc k)(e:∀b o,b∉av->h.get? b=some o->h'.get? b=some o):fj n0 h' xs ys av acc k:=
 ⟨g.n,λj v hj=>let ⟨t,x,y,a,b,c,d,n,m⟩:=g.at_ j v hj;⟨t,x,y,a,b,c,e _ _ n d,n,m⟩,g.inc⟩
theorem pS{n0:Nat}{z TI TO i1 i2 l1 l2 S:Addr}{b1 b2:Bool}{xs ys:Array Value}{res:Value}{n:Nat}{R:Result->Shared->Prop}(hh:A.handled=none)(D:ZAp z TI TO i1 i2 l1 l2)(hS:S∉[z,TI,TO,i1,i2,l1,l2])(hn:n=min xs.size ys.size)(hsz:n<=sizeLine)(hO:TO<n0):
 ∀(m k:Nat)(s:Shared)(acc:Array Value)(c:Nat),n-k=m->k<=n->ZSt s.heap z TI TO i1 i2 k->(∀t f,cA s.heap z TI TO t f->t≠S)->IsPair s.heap TI (.ref i1) (.ref i2)->n0<=s.heap.objs.size->SIt s.heap b1 i1 l1 k->SIt s.heap b2 i2 l2 k->SSq s.heap b1 l1 xs->SSq s.heap b2 l2 ys->
 s.heap.get? S=some { cls:=.type "list",dict:=none,data:=.seq acc c,slots:=#[] }->fj n0 s.heap xs ys [S,z,TI,TO,i1,i2] acc k->
 (∀h' tk acc' c',(∀b o,b∉[S,z,TO,i1,i2]->s.heap.get? b=some o->h'.get? b=some o)->h'.get? S=some { cls:=.type "list",dict:=none,data:=.seq acc' c',slots:=#[] }->fj n0 h' xs ys [S,z,TI,TO,i1,i2] acc' n->R (.ok (.ret res)) { s with heap:=h',toks:=tk })->
 codeAny (model prog w) A (.builtin "list.extend.loop" ⟨[.ref S,.ref z,res],[]⟩) R s:=by
 simp only[qr,qO,or_false,not_or]at hS;obtain⟨nSz,nSI,nSO,nS1,nS2,nSl1,nSl2⟩:=hS;obtain⟨⟨nIz,nOz,n1z,n2z,nIO,nI1,nI2,nO1,nO2,n12⟩,lne⟩:=id D;obtain⟨m1z,m1O,m11,m12,m1I⟩:=lne l1 (.inl U);obtain⟨m2z,m2O,m21,m22,m2I⟩:=lne l2 (.inr U);intro m
 induction m with
 |zero=>
  intro k s acc c hk hi hz nt hI hn0 t1 t2 q1 q2 hl hg hR;have hkn:k=n:=Qz;subst hkn;refine codeAny_builtin F.entry_extend_loop ?_;rw[Around.under_plainId F.plain_extend_loop _];show wpAny _ A.in1 (pyNext (.ref z) >>= _) _ _ s
  refine q0 (pV (by simpa using hh) D hz hI t1 t2 q1 q2 (by
   by_cases h:xs.size<=k
   ·exact .inl (Array.getElem?_eq_none h)
   ·exact .inr (Array.getElem?_eq_none Qz)) λg hk=>?_)
  refine qb (hR g s.toks acc c (λb o hb e=>?_) (hk S _ nSz nSO nS1 nS2 hl) (hg.keep λb o hb e=>?_))
  ·simp only[qr,qO,or_false,not_or]at hb;exact hk b o hb.2.1 hb.2.2.1 hb.2.2.2.1 hb.2.2.2.2 e
  ·simp only[qr,qO,or_false,not_or]at hb;exact hk b o hb.2.1 hb.2.2.2.1 hb.2.2.2.2.1 hb.2.2.2.2.2 e
 |succ m ih=>
  intro k s acc c hk hi hz nt hI hn0 t1 t2 q1 q2 hl hg hR;have hlt:k<n:=Qz;have kx:k<xs.size:=Qz;have ky:k<ys.size:=Qz;refine codeAny_builtin F.entry_extend_loop ?_;rw[Around.under_plainId F.plain_extend_loop _];show wpAny _ A.in1 (pyNext (.ref z) >>= _) _ _ s;refine q0 (pU D hz hI t1 t2 q1 q2 (Array.getElem?_eq_getElem kx) (Array.getElem?_eq_getElem ky) λg a1 a3 a4 a5 a6 a7=>?_);have hl':=a6 S _ nSz nSO nS1 nS2 hl;have big:∀b o,s.heap.get? b=some o->s.heap.objs.size≠b:=λb o e=>Nat.ne_of_gt (qm e);have oth:∀b o,b≠S->g.get? b=some o->(g.update S (Obj.mapSeq (·.push (.ref s.heap.objs.size)))).get? b=some o:=λb o hb e=>(Qq _ _ (Ne.symm hb)).trans e
  have nt':∀t f,cA g z TI TO t f->t≠S:=λt f h=>by
   rcases a7 t f h with rfl|⟨f',h'⟩
   ·exact big _ _ hl
   ·exact nt t f' h'
  obtain⟨oz,ez,_⟩:=hz.obj;obtain⟨o1,e1,_⟩:=t1.obj;obtain⟨o2,e2,_⟩:=t2.obj;show wpAny _ A.in1 (updateSeq S (·.push (.ref s.heap.objs.size)) >>= _) _ _ _;refine q0 (wpAny_updateSeq hl' U (qb ⟨plainId_quiet F.plain_extend_loop _,ih (k+1) { s with heap:=g.update S (Obj.mapSeq (·.push (.ref s.heap.objs.size))) } (acc.push (.ref s.heap.objs.size)) _ Qz hlt ?_ ?_ ?_ ?_ ?_ ?_ ?_ ?_ (Qe _ hl' U) ?_ λh' tk acc' c' kp hl'' hg'=>?_⟩) (by rw[hg.n];omega) (by show(acc.push _).size<=sizeLine+1;rw[Array.size_push,hg.n];omega))
  ·exact a1.keep oth (Ne.symm nSz) (Ne.symm nSO) nt'
  ·exact λt f h=>nt' t f ((Qq _ _ nSz).symm.trans h)
  ·exact oth _ _ (Ne.symm nSI) (a6 _ _ nIz nIO nI1 nI2 hI)
  ·exact qw hn0 (Nat.le_of_lt (qm (oth _ _ (big _ _ hl) a5)))
  ·exact a3.keep λo e=>oth _ _ (Ne.symm nS1) e
  ·exact a4.keep λo e=>oth _ _ (Ne.symm nS2) e
  ·exact q1.keep λo e=>oth _ _ (Ne.symm nSl1) (a6 _ _ m1z m1O m11 m12 e)
  ·exact q2.keep λo e=>oth _ _ (Ne.symm nSl2) (a6 _ _ m2z m2O m21 m22 e)
  ·have old:∀(j:Nat)(t:Addr),acc[j]?=some (.ref t)->t<s.heap.objs.size:=λj t hj=>by
    obtain⟨t',x,y,a,_,_,d,_⟩:=hg.at_ j _ hj;cases a;exact qm d
   refine⟨by rw[Array.size_push,hg.n],λj v hj=>?_,λi j t t' lt hi hj=>?_⟩
   rotate_left
   ·rw[Array.getElem?_push]at hi hj;split at hj
    ·rename_i ej;cases hj;rw[qX Qz]at hi;exact old i t hi
    ·split at hi
     ·rename_i ei;have:=(Array.getElem?_eq_some_iff.mp hj).1;omega
     ·exact hg.inc i j t t' lt hi hj
   rw[Array.getElem?_push]at hj;split at hj
   ·rename_i ej;rw[hg.n]at ej;cases hj;subst ej;refine⟨_,_,_,U,Array.getElem?_eq_getElem kx,Array.getElem?_eq_getElem ky,oth _ _ (big _ _ hl) a5,?_⟩;simp only[qr,qO,or_false,not_or];exact⟨⟨big _ _ hl,big _ _ ez,big _ _ hI,Nat.ne_of_gt (qA hO hn0),big _ _ e1,big _ _ e2⟩,hn0⟩
   ·obtain⟨t,x,y,a,b,c',d,n,m⟩:=hg.at_ j v hj;refine⟨t,x,y,a,b,c',?_,n,m⟩;simp only[qr,qO,or_false,not_or]at n;exact oth _ _ n.1 (a6 _ _ n.2.1 n.2.2.2.1 n.2.2.2.2.1 n.2.2.2.2.2 d)
  ·refine hR h' tk acc' c' (λb o hb e=>kp b o hb ?_) hl'' hg';simp only[qr,qO,or_false,not_or]at hb;exact oth _ _ hb.1 (a6 _ _ hb.2.1 hb.2.2.1 hb.2.2.2.1 hb.2.2.2.2 e)
theorem pQ:typeLookup (.type "zip") "__len__"=pure none:=by rw[typeLookup_type,builtinLookup_eq_fast];kernel_rfl
theorem pR:typeLookup (.type "zip") "__length_hint__"=pure none:=by rw[typeLookup_type,builtinLookup_eq_fast];kernel_rfl
theorem x8{z TI TO i1 i2 l1 l2:Addr}{b1 b2:Bool}{xs ys:Array Value}{n n0:Nat}{Q:Qw}(hh:A.handled=none)(D:ZAp z TI TO i1 i2 l1 l2)(hn:n=min xs.size ys.size)(hsz:n<=sizeLine)(hO:TO<n0)(hn0:n0<=s.heap.objs.size)
 (hz:IsZip s.heap z TI TO .none) (hTO:IsPair s.heap TO .none .none) (hI:IsPair s.heap TI (.ref i1) (.ref i2)) (t1:SIt s.heap b1 i1 l1 0) (t2:SIt s.heap b2 i2 l2 0) (q1:SSq s.heap b1 l1 xs) (q2:SSq s.heap b2 l2 ys)
 (h:∀h' tk acc c',(∀b o,b∉[z,TO,i1,i2]->s.heap.get? b=some o->h'.get? b=some o)->h'.get? s.heap.objs.size=some { cls:=.type "list",data:=.seq acc c' }->fj n0 h' xs ys [s.heap.objs.size,z,TI,TO,i1,i2] acc n->Q (.ref s.heap.objs.size) { s with heap:=h',toks:=tk }):
 wpAny (model prog w) A (call (.type "list") [.ref z]) Q E s:=by
 refine callType_codes (Q₁:=λob s1=>ob=.ref s.heap.objs.size/\s1={ s with heap:=s.heap.push { cls:=.type "list",data:=.seq #[] } }) F.called_list (F.typeCall_list_1 _) F.entry_list_init (code_list_new _ ⟨U,U⟩) λob s1 h1=>?_;obtain⟨rfl,rfl⟩:=h1;have hS:(s.heap.push { cls:=.type "list",data:=.seq #[] }).get? s.heap.objs.size=some { cls:=.type "list",data:=.seq #[] }:=qk _ U;refine⟨⟨_,hS,U⟩,F.args_list_init_2 _ _,?_⟩;show wpAny _ _ (do let old <- Builtin.List.listItems (.ref s.heap.objs.size);Builtin.List.listUpdate (.ref s.heap.objs.size) (λ_=>#[]);letGo old.toList.reverse;Builtin.List.listExtendWith (.ref s.heap.objs.size) (.ref z) .none) _ _ _;refine q0 ?_;unfold Builtin.List.listItems;refine q0 (Qt hS U (qb ?_));refine q0 ?_;show wpAny _ _ (updateSeq s.heap.objs.size (λ_=>#[])) _ _ _;refine wpAny_updateSeq hS U ?_;have hS2:=Qe (Obj.mapSeq (λ_=>(#[]:Array Value))) hS U;refine q0 (wpAny_letGo ?_)
 have oth:∀b o,b≠s.heap.objs.size->s.heap.get? b=some o->((s.heap.push { cls:=.type "list",data:=.seq #[] }).update s.heap.objs.size (Obj.mapSeq (λ_=>(#[]:Array Value)))).get? b=some o:=
  λb o hb e=>(Qq _ _ (Ne.symm hb)).trans (q5 _ e)
 have nb:∀b o,s.heap.get? b=some o->b≠s.heap.objs.size:=λb o e=>qE (qm e);obtain⟨o1,e1,_⟩:=t1.obj;obtain⟨o2,e2,_⟩:=t2.obj;obtain⟨o3,e3,_⟩:=q1.obj;obtain⟨o4,e4,_⟩:=q2.obj;have hz2:=oth _ _ (nb _ _ hz) hz;have hO2:=oth _ _ (nb _ _ hTO) hTO;have hI2:=oth _ _ (nb _ _ hI) hI;have t12:=t1.keep λo e=>oth _ _ (nb _ _ e1) e;have t22:=t2.keep λo e=>oth _ _ (nb _ _ e2) e;have q12:=q1.keep λo e=>oth _ _ (nb _ _ e3) e;have q22:=q2.keep λo e=>oth _ _ (nb _ _ e4) e;have bigger:n0<=((s.heap.push { cls:=.type "list",data:=.seq #[] }).update s.heap.objs.size (Obj.mapSeq (λ_=>(#[]:Array Value)))).objs.size:=qw hn0 (Nat.le_of_lt (qm hS2));generalize (s.heap.push { cls:=.type "list",data:=.seq #[] }).update s.heap.objs.size (Obj.mapSeq (λ_=>(#[]:Array Value)))=g0 at hz2 hO2 hI2 t12 t22 q12 q22 hS2 oth bigger ⊢;have ty:Shared.TypeIs { s with heap:=g0 } (.ref z) "zip":=⟨_,hz2,U⟩;have nz:=nb _ _ hz;unfold Builtin.List.listExtendWith;refine q0 (wpAny_typeOf ty ?_);have h1:Builtin.List.listSameRef (.ref s.heap.objs.size) (.ref z)=false:=by simp[Builtin.List.listSameRef,Ne.symm nz]
 have h2:(Value.type "zip" == Value.type "list")=false:=Qy;have h3:(Value.type "zip" == Value.type "tuple")=false:=Qy;simp only[h1,h2,h3,Bool.or_false,Qh,if_false];refine q0 (wpAny_pyIter_zip hz2 ?_);refine q0 (Qs ?_);unfold Builtin.List.listLengthHint;refine q0 (wpAny_specialOf ty pQ ?_);show wpAny _ _ (specialOf (Value.ref z) (Str.ofString "__length_hint__") >>= _) _ _ _;refine q0 (wpAny_specialOf ty pR ?_);refine qb ?_
 show wpAny _ _ (rule "list.extend.makes-room" >>= λ_=>Builtin.List.listTouch (.ref s.heap.objs.size) >>= λ_=>
  again (.builtin "list.extend.loop" ⟨[.ref s.heap.objs.size,.ref z,.none],[]⟩)) _ _ _
 refine q0 (wpAny_rule ?_);refine q0 ?_;show wpAny _ _ (updateSeq s.heap.objs.size (·.push .none) >>= λ_=>updateSeq s.heap.objs.size (·.pop)) _ _ _;refine q0 (wpAny_updateSeq hS2 U ?_);have hS3:=Qe (Obj.mapSeq (·.push Value.none)) hS2 U;refine wpAny_updateSeq (hz:=by seq_fits) hS3 U ?_;have hS4:=Qe (Obj.mapSeq (·.pop)) hS3 U
 have oth2:∀b o,b≠s.heap.objs.size->g0.get? b=some o->((g0.update s.heap.objs.size (Obj.mapSeq (·.push Value.none))).update s.heap.objs.size (Obj.mapSeq (·.pop))).get? b=some o:=
  λb o hb e=>(Qq _ _ (Ne.symm hb)).trans ((Qq _ _ (Ne.symm hb)).trans e)
 have big2:n0<=((g0.update s.heap.objs.size (Obj.mapSeq (·.push Value.none))).update s.heap.objs.size (Obj.mapSeq (·.pop))).objs.size:=qw hn0 (Nat.le_of_lt (qm hS4))
 have notin:s.heap.objs.size∉[z,TI,TO,i1,i2,l1,l2]:=by
  simp only[qr,qO,or_false,not_or];exact⟨Ne.symm nz,Ne.symm (nb _ _ hI),Ne.symm (nb _ _ hTO),Ne.symm (nb _ _ e1),Ne.symm (nb _ _ e2),Ne.symm (nb _ _ e3),Ne.symm (nb _ _ e4)⟩
 refine qb ⟨plainId_quiet F.plain_extend_loop _,pS (n0:=n0) (by simpa using hh) D notin hn hsz hO n 0 _ _ _ (Nat.sub_zero n) (qq _) (.first (oth2 _ _ nz hz2) (oth2 _ _ (nb _ _ hTO) hO2)) (λt f hf=>?_) (oth2 _ _ (nb _ _ hI) hI2) big2 (t12.keep λo e=>oth2 _ _ (nb _ _ e1) e) (t22.keep λo e=>oth2 _ _ (nb _ _ e2) e) (q12.keep λo e=>oth2 _ _ (nb _ _ e3) e) (q22.keep λo e=>oth2 _ _ (nb _ _ e4) e) hS4 ⟨U,λj v hj=>by simp[Array.pop]at hj,λi j t t' _ hi _=>by simp[Array.pop]at hi⟩ λh' tk acc c' kp hl hg=>⟨U,?_⟩⟩
 ·have:=(oth2 _ _ nz hz2).symm.trans hf;simp[rawInt]at this
 ·refine h h' tk acc c' (λb o hb e=>?_) hl hg;refine kp b o ?_ (oth2 _ _ (nb _ _ e) (oth _ _ (nb _ _ e) e));simp only[qr,qO,or_false,not_or]at hb ⊢;exact⟨nb _ _ e,hb⟩
end
section
variable {X:Cx}{pins:List (Addr×Obj)}{σ:St}
theorem lG{H0:Hp}{s0 s:Shared}(I0:Inv X pins σ H0 s0):∀(ts:List Addr)(ps:List (V×V))(H:Hp),Inv X pins σ H s->ts.length=ps.length->ts.Pairwise (·<·)->(∀t∈ts,s0.heap.objs.size<=t/\H t=none)->
 (∀(j:Nat)(t:Addr)(p:V×V),ts[j]?=some t->ps[j]?=some p->∃u v,au p.1 u/\au p.2 v/\IsPair s.heap t u v)->
 ∃H',Inv X pins σ H' s/\a8 H H'/\(∀b,b∉ts->H' b=H b)/\∀(j:Nat)(t:Addr)(p:V×V),ts[j]?=some t->ps[j]?=some p->H' t=some (.tup [p.1,p.2])
 |[],_,H,I,_,_,_,_=>⟨H,I,a8.refl _,λ_ _=>rfl,λj t p h=>by simp at h⟩
 |t::ts,[],_,_,hl,_,_,_=>by simp at hl
 |t::ts,p::ps,H,I,hl,pw,fr,ob=>by
  obtain⟨u,v,ru,rv,pT⟩:=ob 0 t p U U;obtain⟨ht,hn⟩:=fr t qj;obtain⟨pw1,pw2⟩:=List.pairwise_cons.mp pw;have I2:Inv X pins σ (upd H t (.tup [p.1,p.2])) s:=I.track (I0.fpOk ht hn) (qw I0.sz ht) ⟨by show 2<=sizeLine;decide,[u,v],.cons ru (.cons rv .nil),⟨_,pT,U,_,U⟩⟩;obtain⟨H',I3,s3,o3,a3⟩:=lG I0 ts ps _ I2 (by simpa using hl) pw2 (λt' ht'=>⟨(fr t' (qi _ ht')).1,by rw[ag (Nat.ne_of_gt (pw1 t' ht'))];exact(fr t' (qi _ ht')).2⟩) λj t' p' h1 h2=>ob (j+1) t' p' (by simpa using h1) (by simpa using h2);refine⟨H',I3,(a8.new hn _).trans s3,λb hb=>?_,λj t' p' h1 h2=>?_⟩
  ·have nb:b≠t:=λz=>hb (by rw[z];exact qj);rw[o3 b λz=>hb (qi _ z),ag nb]
  ·cases j with
   |zero=>
    simp at h1 h2;subst h1;subst h2;exact s3 _ _ ae
   |succ j=>exact a3 j t' p' (by simpa using h1) (by simpa using h2)
theorem n8:∀vs:List Value,(∀v∈vs,∃t,v=.ref t)->∃ts:List Addr,vs=ts.map Value.ref
 |[],_=>⟨[],U⟩
 |v::vs,h=>by
  obtain⟨t,rfl⟩:=h v qj;obtain⟨ts,e⟩:=n8 vs λv hv=>h v (qi _ hv);exact⟨t::ts,by rw[e];rfl⟩
def rY(K:W.Frag)(ta:TA):TE:=λσ H Q=>ta σ H λvs H1=>∃b1 b2 l1 l2 xs ys,vs=[.ref l1,.ref l2]/\SqB K H1 b1 l1 xs/\SqB K H1 b2 l2 ys /\
 ∀H' l (ts:List Addr),a8 H1 H'->H1 l=none->H' l=some (.lst (ts.map V.ref))->ts.length=min xs.length ys.length->(∀(j:Nat)(t:Addr)(x y:V),ts[j]?=some t->xs[j]?=some x->ys[j]?=some y->H' t=some (.tup [x,y])/\H1 t=none)->Q (.ref l) H'
theorem i5{a b:Expr}{ta:TA}{p1 p2 pos1 pos2:Pos}(hc:X.calm=true)(hg:Gl X "list")(hm:X.mg "list"=none)(hg2:Gl X "zip")(hm2:X.mg "zip"=none)(ha:PA X [a,b] ta)
 (hs:starEach [a,b] X.env=[(false,eval a X.env),(false,eval b X.env)]:=by rfl) (hs2:starEach [b] X.env=[(false,eval b X.env)]:=by rfl)
 (hs3:starEach [.Call (.Name "zip" p2) [a,b] [] pos2] X.env=[(false,eval (.Call (.Name "zip" p2) [a,b] [] pos2) X.env)]:=by rfl):
 PE X (.Call (.Name "list" p1) [.Call (.Name "zip" p2) [a,b] [] pos2] [] pos1) (rY X.K ta):=by
 intro pins s σ H Q I h;refine wpAny_Call_Name_kw (cV I hg hm PyProof.Rows.Boot.«list» ?_);refine PyProof.Rows.callWith_type1 ?_ (by rw[hs3];rfl) U;rw[hs3];show wpAny _ _ (spliced ((false,eval (.Call (.Name "zip" p2) [a,b] [] pos2) X.env)::backTo pos1 [])) _ _ s;refine Calls.spliced_cons ?_;refine Call_ (cV I hg2 hm2 PyProof.Rows.Boot.«zip» (PyProof.Rows.callWith_type1 (thn (ha pos2 pins s σ H _ I h) λus s1 ⟨vs,H1,I1,r1,q1⟩=>?_) (by rw[hs,hs2]) (by rw[hs2];rfl)));obtain⟨b1,b2,l1,l2,xs,ys,rfl,hx,hy,q⟩:=q1;obtain⟨u,u',rfl,ru,ru'⟩:=fG r1;cases ru;cases ru';obtain⟨its,rv,s1',z1⟩:=SqB.at I1 hx;obtain⟨jts,rw',s2',z2⟩:=SqB.at I1 hy;have d5:=rv.length;have len2:=rw'.length;refine pz s1' s2' λg n hn a1 a2 a3 a4 a5 k=>?_
 have lt:∀c,c=l1\/c=l2->c<n:=λc hc=>by
  rw[hn];rcases hc with rfl|rfl
  ·obtain⟨o,e,_⟩:=s1'.obj;exact qm e
  ·obtain⟨o,e,_⟩:=s2'.obj;exact qm e
 have D:ZAp (n+4) (n+2) (n+3) n (n+1) l1 l2:=by
  refine⟨?_,λc hc=>?_⟩
  ·have e:∀i j:Nat,i≠j->n+i≠n+j:=λi j h z=>h (Nat.add_left_cancel z);exact⟨e 2 4 Qy,e 3 4 Qy,e 0 4 Qy,e 1 4 Qy,e 2 3 Qy,e 2 0 Qy,e 2 1 Qy,e 3 0 Qy,e 3 1 Qy,e 0 1 Qy⟩
  ·have q:=lt c hc;have e:∀i:Nat,c≠n+i:=λi=>qE (qA q (Nat.le_add_right _ _));exact⟨e 4,e 3,e 0,e 1,e 2⟩
 refine Calls.spliced_nil ?_;have gsz:n+5<=g.objs.size:=qm a1;refine x8 (n:=min xs.length ys.length) (n0:=n+5) (s:={ s1 with heap:=g }) (I1.ok.hd hc) D (by simp only[qz];omega) Qz (Nat.lt_add_of_pos_right Qy:n+3<n+3+2) gsz a1 a3 a2 a4 a5 (s1'.keep λo e=>k _ _ e) (s2'.keep λo e=>k _ _ e) λh' tk acc c' kp gl zg=>?_
 have keep:∀b o,s1.heap.get? b=some o->h'.get? b=some o:=λb o e=>by
  have lb:b<n:=by rw[hn];exact qm e
  refine kp b o ?_ (k b o e);simp only[qr,qO,or_false,not_or];refine⟨?_,?_,?_,?_⟩<;>intro z<;>rw[z]at lb
  ·exact Q1 lb (Nat.not_lt.mpr (Nat.le_add_right _ _))
  ·exact Q1 lb (Nat.not_lt.mpr (Nat.le_add_right _ _))
  ·exact Q1 lb (Q9 _)
  ·exact Q1 lb (Nat.not_lt.mpr (Nat.le_add_right _ _))
 have J:Inv X pins σ H1 { s1 with heap:=h',toks:=tk }:=I1.kept keep
 obtain⟨ts,ets⟩:=n8 acc.toList λv hv=>by
  obtain⟨j,hj,ej⟩:=List.mem_iff_getElem.mp hv;obtain⟨t,x,y,e,_⟩:=zg.at_ j v (by rw[<- qR,qa hj,ej]);exact⟨t,e⟩
 have tl:ts.length=min xs.length ys.length:=by
  have:=congrArg List.length ets;rw[q4,qK,zg.n]at this;exact this.symm
 have at_:∀(j:Nat)(t:Addr),ts[j]?=some t->acc[j]?=some (.ref t):=λj t h=>by
  rw[<- qR,ets,qC,h]
  rfl
 have info:∀(j:Nat)(t:Addr),ts[j]?=some t->∃u v,its[j]?=some u/\jts[j]?=some v/\IsPair h' t u v/\t∉[g.objs.size,n+4,n+2,n+3,n,n+1]/\n+5<=t:=λj t h=>by
  obtain⟨t',u,v,e,e1,e2,pp,na,nn⟩:=zg.at_ j _ (at_ j t h);cases e;exact⟨u,v,by simpa using e1,by simpa using e2,pp,na,nn⟩
 have mem:∀t∈ts,∃j:Nat,ts[j]?=some t:=λt ht=>by
  obtain⟨j,hj,ej⟩:=List.mem_iff_getElem.mp ht;exact⟨j,by rw[qa hj,ej]⟩
 have old:∀t∈ts,s1.heap.objs.size<=t:=λt ht=>by
  obtain⟨j,hj⟩:=mem t ht;obtain⟨_,_,_,_,_,_,nn⟩:=info j t hj;rw[<- hn];omega
 have pw:ts.Pairwise (·<·):=List.pairwise_iff_getElem.mpr λi j hi hj lt=>zg.inc i j _ _ lt (at_ i _ (qa hi)) (at_ j _ (qa hj));have zl:(xs.zip ys).length=min xs.length ys.length:=List.length_zip;have zat:∀(j:Nat)(x y:V),xs[j]?=some x->ys[j]?=some y->(xs.zip ys)[j]?=some (x,y):=λj x y h1 h2=>List.getElem?_zip_eq_some.mpr ⟨h1,h2⟩
 obtain⟨H',I3,s3,o3,a3⟩:=lG (s:={ s1 with heap:=h',toks:=tk }) I1 ts (xs.zip ys) H1 J (by rw[tl,zl]) pw (λt ht=>⟨old t ht,I1.hok.fresh (old t ht)⟩) λj t p h1 h2=>by
  obtain⟨h3,h4⟩:=List.getElem?_zip_eq_some.mp h2;obtain⟨u,v,e1,e2,pp,_⟩:=info j t h1;obtain⟨u',hu,ru⟩:=rv.get h3;obtain⟨v',hv,rv'⟩:=rw'.get h4;rw[e1]at hu;rw[e2]at hv;cases hu;cases hv;exact⟨u,v,ru,rv',pp⟩
 have lL:s1.heap.objs.size<=g.objs.size:=by rw[<- hn];omega
 have nL:g.objs.size∉ts:=λhm=>by
  obtain⟨j,hj⟩:=mem _ hm;obtain⟨_,_,_,_,_,na,_⟩:=info j _ hj;exact na (by simp)
 have fL:H1 g.objs.size=none:=I1.hok.fresh lL;have hL:H' g.objs.size=none:=by rw[o3 _ nL];exact fL
 have vr:∀ts:List Addr,aq (ts.map V.ref) (ts.map Value.ref):=λts=>by
  induction ts with
  |nil=>exact .nil
  |cons t ts ih=>exact .cons U ih
 have I4:Inv X pins σ (upd H' g.objs.size (.lst (ts.map V.ref))) { s1 with heap:=h',toks:=tk }:=I3.track (I1.fpOk lL hL) (qw I1.sz lL) ⟨by rw[q4,tl];omega,ts.map Value.ref,c',vr ts,by rw[<- ets];simpa using gl⟩;refine⟨.ref g.objs.size,_,I4,U,q _ g.objs.size ts (s3.trans (a8.new hL _)) fL ae tl λj t x y h1 h2 h3=>⟨?_,I1.hok.fresh (old t (qx h1))⟩⟩;exact a8.new hL _ _ _ (a3 j t (x,y) h1 (zat j x y h2 h3))
end
theorem yi{K:W.Frag}{b1 b2:Bool}{l1 l2:Addr}{xs zs:List V}{g:TG}{te:TE}{Fin:List V->Hp->Prop}{σ:St}{H:Hp}(Pv:Nat->List V->St->Hp->Prop)(h0:Pv 0 [] σ H)(hz:∀i ys σ H,Pv i ys σ H->ys.length<=i)(hx:xs.length<=sizeLine)(hl:∀i ys σ H,Pv i ys σ H->SqB K H b1 l1 xs/\SqB K H b2 l2 zs)
 (hs:∀i x z ys σ H p,xs[i]?=some x->zs[i]?=some z->Pv i ys σ H->H p=none->g (.ref p) σ (upd H p (.tup [x,z])) λσ2 H2=>te σ2 H2 λy H4=>Pv (i+1) (ys++[y]) σ2 H4)
 (hd:∀ys σ H,Pv (min xs.length zs.length) ys σ H->Fin ys H):∃W:Nat->Nat->List V->St->Hp->Prop,(∃m,W 0 m [] σ H)/\cW (Itz K b1 b2 l1 l2) g dD te Fin W:=
 yj Pv h0 hz hx hl (λi x z ys σ H p h1 h2 h3 h4=>by
  rw[fE (N':=λ_ _ _=>True)]
  exact hs i x z ys σ H p h1 h2 h3 h4) hd
section
variable {X:Cx}{pins:List (Addr×Obj)}{σ:St}{H:Hp}{s:Shared}{a:Addr}{kvs:List (Key×V)}{k:Key}{z:V}{u r:Value}{A:Around}{E:Qw}
theorem bV.not_got{o:Option V}(h:bV o none):o=none:=by
 cases o with
 |none=>rfl
 |some v=>exact h.elim
theorem bV.got{o:Option V}{u:Value}(h:bV o (some u)):∃v,o=some v/\au v u:=by
 cases o with
 |none=>exact h.elim
 |some v=>exact⟨v,U,h⟩
theorem ya{Q:Qw}(I:Inv X pins σ H s)(e:H a=some (.dK kvs))(ry:au (kV k) u)(rz:au z r)(few:kvs.length<sizeLine)
 (h1:∀v w' s',cu kvs k=some v->Inv X pins σ H s'->au v w'->Q w' s') (h2:∀s',cu kvs k=none->Inv X pins σ (upd H a (.dK (cG kvs k z))) s'->Q r s'):
 wpAny (model X.prog X.w) A (call (.builtin "dict.setdefault") [.ref a,u,r]) Q E s:=by
 obtain⟨zz,hd,vs,rel,dd⟩:=gA I.hok e;have hz:vs.length<=sizeLine:=by rw[<- rel.length];exact zz
 have hl:(cG kvs k z).length<=sizeLine:=by have:=o8 kvs k z;omega
 have rv:=rel.val k;refine call_meetsIn PySem.F.slot_dict_setdefault dd.typeIs PySem.F.entry_dict_setdefault (PySem.F.args_dict_setdefault_3 _ _ _) (kt_meets_setdefault (bU X.prog X.w) a (gx ry) hd r) ⟨vs,dd,hz,λv' hv'=>?_,λhn h' dd' hs=>?_⟩
 ·rw[hv']at rv;obtain⟨v,e1,e2⟩:=bV.got rv;exact h1 v v' _ e1 (I.tok _) e2
 ·rw[hn]at rv;have he:∃q,h'.get? a=some q:=let ⟨q,_,_,hq,_⟩:=dd';⟨q,hq⟩;exact h2 _ (bV.not_got rv) (iE I (by rw[e];exact True.intro) hs he (iD hl hd (rel.put k rz) dd'))
end
def sq(td ty tx:TE):TE:=λσ H Q=>td σ H λx H1=>∃a,x=.ref a/\IsD H1 a/\ty σ H1 λy H2=>tx σ H2 λz H3=>∃kvs k,H3 a=some (.dK kvs)/\y=kV k/\kvs.length<sizeLine /\
 (∀v,cu kvs k=some v->Q v H3)/\(cu kvs k=none->Q z (upd H3 a (.dK (cG kvs k z))))
section
variable {X:Cx}{o e f:Expr}{apos cpos:Pos}{td ty tx:TE}
theorem uY(ho:PE X o td)(he:PE X e ty)(hf:PE X f tx)(m:M2 X o "setdefault" apos e f cpos):PE X (.Call (.Attribute o "setdefault" apos) [e,f] [] cpos) (sq td ty tx):=by
 intro pins s σ H Q I h;refine wpAny_Call_method m.base m.few m.line PySem.F.plainAttrs_dict PySem.F.slot_dict_setdefault PySem.F.type_dict_setdefault (thn (ho pins s σ H _ I h) λu s1 ⟨x,H1,I1,rx,a,ex,d,q1⟩=>?_);subst ex;obtain rfl:u=Value.ref a:=rx;obtain⟨t1,t2,_⟩:=ow I1 d;refine⟨t1,t2,?_⟩;rw[m.trees]
 refine Calls.callWith_builtin U (Calls.evalArgs_plain (Calls.spliced_cons (thn (he pins s1 σ H1 _ I1 q1) λiv s2 ⟨y,H2,I2,ry,q2⟩=>
  Calls.spliced_cons (thn (hf pins s2 σ H2 _ I2 q2) λfv s3 ⟨z,H3,I3,rz,kvs,k,eH,ey,few,g1,g2⟩=>Calls.spliced_nil ?_))))
 subst ey;exact ya I3 eH ry rz few (λv w' s' ev I4 rw'=>⟨v,H3,I4,rw',g1 v ev⟩) λs' en I4=>⟨z,_,I4,rz,g2 en⟩
end
section
variable {prog:Program}{w:World}{A:Around}{E:Qw}{s:Shared}
end
section
variable {prog:Program}{w:World}{A:Around}{R:Result->Shared->Prop}{K:Type} [DecidableEq K] {knd:KeyKind prog w K}
end
section
variable {prog:Program}{w:World}{A:Around}{E:Qw}{K:Type} [DecidableEq K] {knd:KeyKind prog w K}{s:Shared}
end
section
variable {X:Cx}{pins:List (Addr×Obj)}{σ:St}{H:Hp}{s:Shared}
end
end L2
namespace Tr
open PySem PySem.Spec PyProof.Rows L2
end Tr
namespace L2
open PySem PySem.Spec PyProof.Rows
section
variable {X:Cx}
end
end L2
namespace Tr
open PySem PySem.Spec PyProof.Rows L2
end Tr
namespace L2
open PySem
section
variable {P:Program}{w:World}{A:Around}{E:Qw}{s:Shared}
end
end L2
namespace L2
open PySem PySem.Spec PyProof.Rows
section
variable {X:Cx}
end
section
variable {P:Program}{w:World}{A:Around}{E:Qw}{s:Shared}
end
section
variable {X:Cx}
theorem xD{P:Program}{w:World}{k:Key}{u:Value}(h:(bU P w).is k u=true):au (kV k) u:=by
 have h:eD k u=true:=h;rcases d6 h with⟨i,t,rfl,rfl⟩|⟨x,t,rfl,rfl⟩
 ·exact⟨t,U⟩
 ·exact⟨t,U⟩
end
theorem yu{K:W.Frag}{l:Addr}{xs:List V}{g:TG}{te:TE}{Fin:List V->Hp->Prop}{σ:St}{H:Hp}(Pv:Nat->List V->St->Hp->Prop)(h0:Pv 0 [] σ H)(hz:∀i ys σ H,Pv i ys σ H->ys.length<=i)(hx:xs.length<=sizeLine)(hl:∀i ys σ H,Pv i ys σ H->SqL K H l xs)
 (hs:∀i x ys σ H p,xs[i]?=some x->Pv i ys σ H->H p=none->g (.ref p) σ (upd H p (.tup [.int i,x])) λσ2 H2=>te σ2 H2 λy H4=>Pv (i+1) (ys++[y]) σ2 H4)
 (hd:∀ys σ H,Pv xs.length ys σ H->Fin ys H):∃W:Nat->Nat->List V->St->Hp->Prop,(∃m,W 0 m [] σ H)/\cW (Ite K l) g dD te Fin W:=by
 refine⟨λi m ys σ H=>m=xs.length-i/\i<=xs.length/\Pv i ys σ H,⟨_,U,qq _,h0⟩,?_⟩;rintro i m ys σ H ⟨rfl,hi,p⟩;have hl':=hz i ys σ H p;have q:=hl i ys σ H p;by_cases hlt:i<xs.length
 ·refine .inr ⟨⟨xs,xs[i],q,by simp[hlt]⟩,Qz,Pv (i+1),λys' σ' H' p'=>⟨_,Qz,U,hlt,p'⟩,λv H' y=>?_⟩;obtain⟨a,x,hn,rfl,rfl,e1⟩:=y;rw[fE (N':=λ_ _ _=>True)];exact hs i x ys σ H a (e1 xs q) p hn
 ·obtain rfl:i=xs.length:=by omega
  exact .inl ⟨⟨xs,q,qc _⟩,Qz,hd ys σ H p⟩
section
variable {P:Program}{w:World}{K:W.Frag}{mg:Str->Option Value}{base:Heap}
end
end L2
namespace Tr
open PySem PySem.Spec PyProof.Rows L2
structure OnW(x:Int):Prop where
 lo:0<=x
 hi:x<1000000000000000000000000000000
def jI(sg:Str)(a b:Int):Int:=
 if sg="+" then a+b else if sg="-" then a-b else if sg="*" then a * b else if sg="&" then Builtin.bitAnd a b else if sg="|" then Builtin.bitOr a b else Builtin.bitXor a b
def fg(sg:Str)(a b:Int):Int:=
 if sg="/" then(if b=0 then 0 else a / b)else if sg="<" then(if a<b then 1 else 0)else if sg="=" then(if a=b then 1 else 0)else jI sg a b % 1000000000000000000000000000000
theorem y7{sg:Str}{x y:Int}(hx:OnW x)(hy:OnW y):OnW (fg sg x y):=by
 have x0:=hx.lo;have x1:=hx.hi;unfold fg;split
 ·split
  ·exact⟨Qy,Qy⟩
  ·rename_i h;have y0:=hy.lo;have y1:0<y:=Qz;exact⟨Int.ediv_nonneg x0 y0,Int.lt_of_le_of_lt (Int.ediv_le_self y x0) x1⟩
 split
 ·split<;>exact⟨Qy,Qy⟩
 split
 ·split<;>exact⟨Qy,Qy⟩
 exact⟨Q7 _ Qy,Qc _ Qy⟩
end Tr
namespace L2
open PySem PySem.Spec PyProof.Rows
section
variable {X:Cx}
end
section
variable {X:Cx}
end
end L2
namespace L2
open PySem PySem.Spec PyProof.Rows PySem.W
section
variable {X:Cx}{k:Nat}{f C0:Addr}{fd:FuncData}{ps:List Str}{sp:Sp}{dvs:List V}{ds:List Value}{fx cx y m n:Str}{iy im inn:Nat}{p pos apos py cp pm pn pa hpos:Pos}{e:Expr}{es:List Expr}{t:TA}
end
section
variable {X:Cx}
end
end L2
namespace Tr
open PySem PySem.Spec PyProof.Rows L2
end Tr
namespace L2
open PySem PySem.Spec PyProof.Rows PySem.W
section
variable {P:Program}{w:World}{K:W.Frag}{mg:Str->Option Value}{base:Heap}
end
theorem uX{X:Cx}{K:W.Frag}{e:Expr}{f:Str}{ta:TE}{pos:Pos}(hk:X.K=K)(he:PE X e ta)(hb:attributeBase e f X.env (eval e X.env)=eval e X.env):PE X (.Attribute e f pos) (gI K ta f):=by
 subst hk;exact nK he hb
end L2
namespace L2
open PySem PySem.F PySem.Spec PyProof.Rows PySem.W
set_option maxRecDepth 100000
section
variable {prog:Program}{w:World}{A:Around}{E:Qw}{s:Shared}
end
section
variable {X:Cx}
end
section
variable {X:Cx}
end
section
variable {X:Cx}
end
section
variable {X:Cx}
end
section
variable {X:Cx}{pins:List (Addr×Obj)}{σ:St}{H:Hp}{s:Shared}
end
section
variable {X:Cx}{k:Nat}{f C:Addr}{fd:FuncData}{ps:List Str}{sp:Sp}{x:Str}{p pos cpos:Pos}{e:Expr}{es:List Expr}{t:TA}
end
section
variable {X:Cx}
end
section
variable {X:Cx}
end
section
variable {X:Cx}{e:Expr}{te:TE}{pos:Pos}
end
section
variable {X:Cx}{K:W.Frag}{o e:Expr}{es:List Expr}{to:TE}{t:TA}{name:Str}{apos cpos:Pos}{T id:String}{r:V->List V->Hp->VK->Prop}
end
section
variable {X:Cx}
end
section
variable {prog:Program}{w:World}{A:Around}{E:Qw}{s:Shared}{κ:KeyKind}
section
variable {left:Bool}{key:Keyed}{arr:Array Keyed}{base n hint:Nat}{st:SortSt}{Q:Option Nat->SortSt->Prop}
end
end
section
variable {prog:Program}{w:World}{A:Around}{E:Qw}{s:Shared}{κ:KeyKind}
section
variable {r:Keyed->Keyed->Prop}{T o X Y Z:List Keyed}
end
section
variable {a b out:Array Keyed}{ia ib n:Nat}
end
end
section
variable {prog:Program}{w:World}{A:Around}{E:Qw}{s:Shared}{κ:KeyKind}
section
variable {a b out:Array Keyed}{ia ib n:Nat}
end
end
section
variable {prog:Program}{w:World}{A:Around}{E:Qw}{s:Shared}{κ:KeyKind}
section
variable {a b out:Array Keyed}{na nb n:Nat}
end
end
section
variable {prog:Program}{w:World}{A:Around}{E:Qw}{s:Shared}{κ:KeyKind}
section
variable {arr:Array Keyed}{P X Y R:List Keyed}
end
end
section
variable {prog:Program}{w:World}{A:Around}{E:Qw}{s:Shared}{κ:KeyKind}
section
variable {st0 st:SortSt}{lo:Nat}
end
end
section
variable {prog:Program}{w:World}{A:Around}{E:Qw}{s:Shared}{κ:KeyKind}
section
variable {a₀:Array Keyed}{st:SortSt}{Xs:List (List Keyed)}{R:List Keyed}
end
section
variable {a₀:Array Keyed}{st:SortSt}{Xs:List (List Keyed)}{R:List Keyed}{lo n:Nat}
end
end
section
variable {prog:Program}{w:World}{A:Around}{E:Qw}{s:Shared}
end
section
variable {P:Program}{w:World}{A:Around}{E:Qw}{s:Shared}
end
section
variable {X:Cx}
end
section
variable {P:Program}{w:World}{A:Around}{E:Qw}{s:Shared}
end
section
variable {P:Program}{w:World}{A:Around}{E:Qw}{s:Shared}
end
section
variable {X:Cx}
end
section
variable {P:Program}{w:World}{A:Around}{E:Qw}{s:Shared}
end
section
variable {X:Cx}
end
end L2
namespace Tr
open PySem PySem.Spec PyProof.Rows L2
section
variable {Hb H0 H0' H H' H1:Hp}{own:List Addr}{z:List Fz}
end
section
variable {Hb H0 H0' H H' H1:Hp}{s0 s1 s2:Addr}{z:List Fz}
end
end Tr
namespace L2
open PySem PySem.Spec PyProof.Rows PySem.W
section
variable {X:Cx}{k:Nat}{f C0:Addr}{fd:FuncData}{ps:List Str}{sp:Sp}{dvs:List V}{ds:List Value}{fx cx y m n:Str}{iy im inn:Nat}{p pos apos py cp pm pn pl pa hpos tpos:Pos}{e:Expr}{es:List Expr}{t:TA}
end
end L2
namespace Tr
open PySem PySem.Spec PyProof.Rows L2
end Tr
namespace L2
open PySem PySem.Spec PyProof.Rows
theorem ox:∀{ys:List Int}{its:List Value},aq (ys.map V.int) its->IntsAre its ys
 |[],[],_=>.nil
 |y::ys,_::_,.cons h r=>by
  obtain⟨t,rfl⟩:=h;exact .cons y t (ox r)
section
variable {X:Cx}
theorem pA(hc:X.calm=true):bW X (.builtin "sorted") (λxs H Q=>∃(p:Addr)(ys:List Int),xs=[.ref p]/\SqL X.K H p (ys.map V.int)/\ys.length<64 /\
 ∀l zs,H l=none->zs.Perm ys->List.Pairwise (λx1 x2=>x1<=x2) zs->Q (.ref l) (upd H l (.lst (zs.map V.int)))):=by
 intro pins s σ H xs us Q I r h;obtain⟨p,ys,rfl,hq,hz,q⟩:=h;obtain⟨u,rfl,rx⟩:=dC r;cases rx;obtain⟨its,r',pl,_⟩:=I.list hq;have hlen:=r'.length;rw[q4]at hlen;refine sorted_ints (vs:=its) pl.isList (ox r') Qz λout zs hS hp so=>?_;obtain⟨n,at1⟩:=sortedAll_at s.heap its out;have lz:zs.length<=sizeLine:=by rw[hp.length_eq];exact qw (Nat.le_of_lt hz) Qy
 have J:=I.laid (t':=s.toks) (h':=sortedAll s.heap its out) (a:=s.heap.objs.size+1) (o:=.lst (zs.map V.int)) (λb o q=>sortedAll_old q) (Nat.le_succ _) ⟨by rw[q4];exact lz,out.toList,n,iN hS,at1⟩;exact⟨.ref (s.heap.objs.size+1),_,J,U,q _ zs (I.hok.fresh (Nat.le_succ _)) hp so⟩
end
section
variable {P:Program}{w:World}{A:Around}{E:Qw}{s:Shared}
end
section
variable {X:Cx}
end
section
variable {P:Program}{w:World}{A:Around}{E:Qw}{s:Shared}
end
section
variable {X:Cx}
end
section
variable {X:Cx}
end
end L2
namespace Tr
open PySem PySem.Spec PyProof.Rows L2
section
variable {Hb H0 H0' H H' H1:Hp}{s0 s1 s2:Addr}{z:List Fz}{os:List V}
end
end Tr
namespace L2
open PySem PySem.Spec PyProof.Rows
@[reducible] def intKey:KeyKind where
  α:=Int
  blt a b:=decide (a<b)
  irrefl a:=by simp
  trans a b c h1 h2:=by simp only[decide_eq_true_eq]at *;omega
  negTrans a b c h:=by simp only[decide_eq_true_eq]at *;omega
  total a b h1 h2:=by simp only[decide_eq_false_iff_not]at *;omega
  keyOf v:=match v with|.int n _=>some n|_=>none
  dflt:=0
section
variable {prog:Program}{w:World}{A:Around}{E:Qw}{s:Shared}
end
section
variable {X:Cx}
end
end L2
namespace Tr
open PySem PySem.Spec PyProof.Rows L2
end Tr
namespace L2
open PySem PySem.Spec PyProof.Rows
section
variable {P:Program}{w:World}{A:Around}{E:Qw}{s:Shared}{κ:Type} [DecidableEq κ] {knd:PySem.KeyKind P w κ}
end
section
variable {X:Cx}
end
end L2
namespace Tr
open PySem PySem.Spec PyProof.Rows L2
end Tr
namespace L2
open PySem PySem.Spec PyProof.Rows
section
variable {n m:Nat}{p:Array Nat}
end
section
variable {prog:Program}{w:World}{A:Around}{E:Qw}{s:Shared}
end
section
variable {X:Cx}
end
theorem yk{K:W.Frag}{a:Addr}{xs:List V}{g:TG}{te:TE}{Fin:List V->Hp->Prop}{σ:St}{H:Hp}(Pv:Nat->List V->St->Hp->Prop)(h0:Pv 0 [] σ H)(hz:∀i ys σ H,i<=xs.length->Pv i ys σ H->ys.length<=i)(hx:xs.length<=sizeLine)(hl:∀i ys σ H,Pv i ys σ H->SqT K H a xs)
 (hs:∀i x ys σ H,xs[i]?=some x->Pv i ys σ H->g x σ H λσ2 H2=>te σ2 H2 λy H4=>Pv (i+1) (ys++[y]) σ2 H4)
 (hd:∀ys σ H,Pv xs.length ys σ H->Fin ys H):∃W:Nat->Nat->List V->St->Hp->Prop,(∃m,W 0 m [] σ H)/\cW (Itt K a) g dD te Fin W:=
 ym Pv h0 hz hx hl (λi x ys σ H hx p=>by
  rw[fE (N':=λ_ _ _=>True)]
  exact hs i x ys σ H hx p) hd
end L2
namespace Tr
open PySem PySem.Spec PyProof.Rows L2
end Tr
namespace L2
open PySem
section
variable {P:Program}{w:World}{A:Around}{E:Qw}{s:Shared}
set_option maxHeartbeats 3200000 in
end
open PySem.Spec PyProof.Rows
section
variable {X:Cx}
end
end L2
namespace Tr
open PySem PySem.Spec PyProof.Rows L2
end Tr
namespace L2
open PySem PySem.Spec PyProof.Rows
end L2
namespace Tr
open PySem PySem.Spec PyProof.Rows L2 PySem.NumText
end Tr
namespace HT
open PySem PyProof.Rows
section
variable {prog:Program}{w:World}{A:Around}{E:Qw}{s:Shared}
end
end HT
namespace L2
open PySem PySem.Spec PyProof.Rows
section
variable {X:Cx}
end
end L2
namespace Tr
open PySem PySem.Spec PyProof.Rows L2
end Tr
namespace L2
open PySem PySem.Spec PyProof.Rows
section
variable {prog:Program}{w:World}{A:Around}{E:Qw}{s:Shared}
end
section
variable {X:Cx}{pins:List (Addr×Obj)}{σ:St}{H:Hp}{s:Shared}{a:Addr}{A:Around}{E:Qw}
end
section
variable {X:Cx}{o e f i value:Expr}{apos cpos pos pos':Pos}{td ty tx tv:TE}
end
section
variable {X:Cx}
end
end L2
namespace L2
open PySem PySem.Spec PyProof.Rows PySem.W
section
variable {X:Cx}{pins:List (Addr×Obj)}{σ:St}{H:Hp}{s:Shared}{tg:Expr}
theorem KV.nth:∀{kvs:List (Key×V)}{vs:List (Key×Value)},KV kvs vs->∀{i:Nat}{k:Key}{x:Value},vs[i]?=some (k,x)->∃q,kvs[i]?=some q/\q.1=k
 |_,_,.nil,i,k,x,h=>by simp at h
 |_,_,.cons r _,0,k,x,h=>by cases h;exact⟨_,U,r.1⟩
 |_,_,.cons _ t,i+1,k,x,h=>KV.nth (i:=i) t (by simpa using h)
end
section
variable {X:Cx}{pins:List (Addr×Obj)}{σ:St}{H:Hp}{s:Shared}{scope:Scope}{x0:Str}{Nc:List Str}{js:List Nat}{k:Nat}
end
section
variable {X:Cx}{pins:List (Addr×Obj)}{σ:St}{H:Hp}{s:Shared}{scope:Scope}{x0:Str}{Nc:List Str}{js:List Nat}{k:Nat}{tg iter elt:Expr}{ifs:List Expr}{pos:Pos}{g:TG}{tt:TT}{te:TE}
end
theorem pF(f:Nat->Int):∀k,argBest (λi j=>decide (f i<f j)) k<=k/\∀i,i<=k->f (argBest (λi j=>decide (f i<f j)) k)<=f i
 |0=>⟨qc _,λi h=>by rw[Nat.le_zero.mp h];exact Int.le_refl _⟩
 |k+1=>by
  obtain⟨a,b⟩:=pF f k;unfold argBest;by_cases c:f (k+1)<f (argBest (λi j=>decide (f i<f j)) k)
  ·rw[qY (qZ c)];refine⟨qc _,λi hi=>?_⟩;by_cases e:i=k+1
   ·rw[e];exact Int.le_refl _
   ·have:=b i Qz;omega
  ·rw[qX (by rw[Q0 c];exact qg)];refine⟨Qz,λi hi=>?_⟩;by_cases e:i=k+1
   ·rw[e];omega
   ·exact b i Qz
section
variable {X:Cx}
theorem yC(hc:X.calm=true):bW X (.builtin "min") (λxs H Q=>∃(p:Addr)(kvs:List (Key×V))(ks:List Int),xs=[.ref p]/\H p=some (.dK kvs)/\kvs.map (·.1)=ks.map Sum.inl/\ks≠[]/\∀m,m∈ks->(∀k∈ks,m<=k)->Q (.int m) H):=by
 intro pins s σ H xs us Q I r h;obtain⟨p,kvs,ks,rfl,hq,ek,hne,q⟩:=h;obtain⟨u,rfl,rx⟩:=dC r;cases rx;obtain⟨z,hd,vs,rel,dd⟩:=gA I.hok hq;obtain⟨ep,da⟩:=dd.dictAt;have kl:=rel.length;have el:kvs.length=ks.length:=by have:=congrArg List.length ek;rwa [q4,q4]at this
 have n0:0<ks.length:=List.length_pos_iff.mpr hne;have ho:∃o,s.heap.get? p=some o:=let ⟨o,_,e,_⟩:=da;⟨o,e⟩;obtain⟨o,ho⟩:=ho;have hlt:=qm ho;have W:=(Walks.dictKeys (prog:=X.prog) (w:=X.w) (knd:=bU X.prog X.w) (A:=X.A.in1) (I.ok.hd hc) s.heap.objs.size p (qE hlt) vs ep).toS
 have key:∀i v,(∃k x,vs[i]?=some (k,x)/\(bU X.prog X.w).is k v=true)->∃t,v=.int (ks.getD i 0) t:=λi v ⟨k,x,hx,hk⟩=>by
  obtain⟨y,hy,e⟩:=KV.nth rel hx;have e2:(kvs.map (·.1))[i]?=some k:=by rw[qC,hy];exact congrArg some e
  rw[ek,qC]at e2;obtain⟨j,hj,rfl⟩:=qN.mp e2;have:=xD hk;rw[qh,hj];exact this
 refine call_min_walkS (wpAny_pyIter_dict hd da ⟨s.heap.objs.size,_,_,_,_,_,_,_,U,W,⟨⟨_,qk _ U,U,U⟩,da.push _⟩,?_,Qz,CmpOf.ints_lt (λi=>ks.getD i 0) key,λv s' hP hm=>?_⟩)
 ·intro b hb;rw[Qd];simp only[qr,qO,or_false]at hb;rcases hb with rfl|rfl
  ·exact Q8 _
  ·exact Qn hlt
 ·obtain⟨t,rfl⟩:=key _ v hP;obtain⟨b1,b2⟩:=pF (λi=>ks.getD i 0) (vs.length-1);obtain⟨h',g',d',t',os'⟩:=s';have eg:g'=s.gens:=hm.gens;have ed:d'=s.drawn:=hm.drawn;have eo:os'=s.os:=hm.os;subst eg ed eo;have bl:argBest (λi j=>decide (ks.getD i 0<ks.getD j 0)) (vs.length-1)<ks.length:=Qz;refine⟨.int (ks.getD (argBest (λi j=>decide (ks.getD i 0<ks.getD j 0)) (vs.length-1)) 0),H,?_,⟨t,U⟩,q _ ?_ λk hk=>?_⟩
  ·refine I.kept (t':=t') (h':=h') λb o e=>hm.heap b o (λz=>?_) (q5 _ e);rw[qQ]at z;rw[z]at e;exact Q1 (qm e) (Q9 _)
  ·rw[qh,qa bl];exact List.getElem_mem bl
  ·obtain⟨i,hi⟩:=List.mem_iff_getElem?.mp hk;have il:=(qd.mp hi).1;have:=b2 i Qz;rw[qh (l:=ks) (i:=i),hi]at this;exact this
def rZ(te:TE):TE:=λσ H Q=>te σ H λx H1=>∃n:Nat,x=.int n/\n<=100000/\∀l,H1 l=none->Q (.ref l) (upd H1 l (.lst ((List.range n).map λj:Nat=>V.int j)))
theorem rC{acc:List Value}{n:Nat}(hl:acc.length=n)(h:∀(i:Nat)(v:Value),acc[i]?=some v->∃t,v=.int (i:Int) t):aq ((List.range n).map λj:Nat=>V.int j) acc:=by
 have go:∀(k m:Nat)(acc:List Value),acc.length=m->(∀(i:Nat)(v:Value),acc[i]?=some v->∃t,v=.int ((k+i:Nat):Int) t)->aq ((List.range' k m).map λj:Nat=>V.int j) acc:=by
  intro k m
  induction m generalizing k with
  |zero=>
   intro acc hl _;cases List.length_eq_zero_iff.mp hl;exact .nil
  |succ m ih=>
   intro acc hl h
   cases acc with
   |nil=>cases hl
   |cons u r=>
    rw[List.range'_succ,qP];refine .cons ?_ (ih (k+1) r (by simpa using hl) λi v hv=>?_)
    ·obtain⟨t,rfl⟩:=h 0 u U;exact⟨t,U⟩
    ·obtain⟨t,rfl⟩:=h (i+1) v (by simpa using hv);exact⟨t,by rw[show k+(i+1)=k+1+i by omega]⟩
 rw[List.range_eq_range'];exact go 0 n acc hl λi v hv=>by rw[Nat.zero_add];exact h i v hv
theorem uV{e:Expr}{te:TE}{p1 p2 pos1 pos2:Pos}(hc:X.calm=true)(hg:Gl X "list")(hm:X.mg "list"=none)(hg2:Gl X "range")(hm2:X.mg "range"=none)(he:PE X e te)
 (hs:starEach [e] X.env=[(false,eval e X.env)]:=by rfl) (hs2:starEach [.Call (.Name "range" p2) [e] [] pos2] X.env=[(false,eval (.Call (.Name "range" p2) [e] [] pos2) X.env)]:=by rfl):
 PE X (.Call (.Name "list" p1) [.Call (.Name "range" p2) [e] [] pos2] [] pos1) (rZ te):=by
 intro pins s σ H Q I h;refine wpAny_Call_Name_kw (cV I hg hm PyProof.Rows.Boot.«list» ?_);refine PyProof.Rows.callWith_type1 ?_ (by rw[hs2];rfl) U;rw[hs2];show wpAny _ _ (spliced ((false,eval (.Call (.Name "range" p2) [e] [] pos2) X.env)::backTo pos1 [])) _ _ s;refine Calls.spliced_cons ?_;refine wpAny_Call_Name_kw (cV I hg2 hm2 boot_range ?_);refine PyProof.Rows.callWith_type1 ?_ (by rw[hs];rfl) U;rw[hs];show wpAny _ _ (spliced ((false,eval e X.env)::backTo pos2 [])) _ _ s;refine Calls.spliced_cons (thn (he pins s σ H _ I h) λu s1 ⟨x,H1,I1,r1,q1⟩=>?_);refine Calls.spliced_nil ?_;obtain⟨n,rfl,hn,q⟩:=q1;obtain⟨t,rfl⟩:=r1;refine call_range_1 ?_;refine Calls.spliced_nil ?_;refine call_list_range (n:=n) (I1.ok.hd hc) (IsRange.new ..) (small_one Qz Qz Qz Qz) (by rw[rangeSize_one];split<;>omega) Qz λh' tk acc c' kp gl hI=>?_;have kp1:∀b o,s1.heap.get? b=some o->h'.get? b=some o:=λb o e=>kp b o (q5 _ e)
 have hv:aq ((List.range n).map λj:Nat=>V.int j) acc.toList:=rC (by rw[qK];exact hI.1) λi v hv=>by
  obtain⟨t,e⟩:=hI.2 i v (by simpa using hv);exact⟨t,by rw[e];congr 1;omega⟩
 have sz:(s1.heap.push { cls:=.type "range",data:=.fields #[.int 0 s1.toks,.int n t,.int 1 (s1.toks+1)] }).objs.size=s1.heap.objs.size+1:=Qd ..;have big:(100000:Nat)<=sizeLine:=Qy;have J:=I1.laid (t':=tk) (h':=h') (a:=(s1.heap.push { cls:=.type "range",data:=.fields #[.int 0 s1.toks,.int n t,.int 1 (s1.toks+1)] }).objs.size) (o:=.lst ((List.range n).map λj:Nat=>V.int j)) kp1 (by rw[sz];exact Nat.le_succ _) ⟨by rw[q4,Qb];omega,acc.toList,c',hv,by simpa using gl⟩;exact⟨.ref (s1.heap.push { cls:=.type "range",data:=.fields #[.int 0 s1.toks,.int n t,.int 1 (s1.toks+1)] }).objs.size,_,J,U,q _ (I1.hok.fresh (by rw[sz];exact Nat.le_succ _))⟩
end
structure eO(K:W.Frag)(x qual:Str)(st:Stmt)(f:Addr)(fd:FuncData)(dvs:Array Value):Prop where
 ex:∃(oc:Value)(od:Option Addr)(kV doc pm:Value)(an:Option Addr)(cdv ct:Value)(osl:Array (Option Value))(dt:Addr)(d2:Option Addr)(n:Nat)(e2:Array (Option Value)),
  fd=PySem.W.fnOf x qual (cr st) (c8 st) (aj st) (.ref dt) kV doc pm an cdv ct/\K.lookup f=some ⟨oc,od,.func fd,osl⟩/\PySem.W.codeIn K cdv qual=true/\K.lookup dt=some ⟨.type "tuple",d2,.seq dvs n,e2⟩
 kp:PySem.W.keepIn K (.ref f)=true
section
variable {P:Program}{w:World}{K:W.Frag}{mg:Str->Option Value}{base:Heap}
theorem eO.ok{x qual:Str}{st:Stmt}{f:Addr}{fd:FuncData}{dvs:Array Value}{N ps:List Str}{k:Nat}{sp:Sp}(F:eO K x qual st f fd dvs)(S:aJ N ps (aj st))(len:∀vs H Q E,sp vs H Q E->vs.length=ps.length)
 (hbody:∀(cdv:Value)(A:Around)(outer:List Env)(s:Shared)(H:Hp)(vs:List V)(Q:VK)(E:XK),bw k (A.deeper (envOfC qual (aj st) s.heap.objs.size f cdv))->sp vs H Q E->
  ∃t,PSs (dw CX0 P w K mg base N qual (aj st) f cdv A outer s H E).nox (c8 st) t/\t { nx:=λ_ H'=>Q .non H',rt:=Q } (start N vs) H):aC P w K mg base CX0 (k+1) f fd ps sp:=by
 obtain⟨oc,od,kV,doc,pm,an,cdv,ct,osl,dt,d2,n,e2,rfl,lk,hcd,lt⟩:=F.ex;refine oT lk hcd S len λA outer s H vs Q E hr hsp=>?_;obtain⟨t,h,q⟩:=hbody cdv A outer s H vs Q E hr hsp;exact⟨t,h.nox,q⟩
theorem eO.binds{x qual:Str}{st:Stmt}{f:Addr}{fd:FuncData}{dvs:Array Value}{ps:List Str}(F:eO K x qual st f fd dvs)(ds:List Value)
 (h:∀(kV doc pm:Value)(an:Option Addr)(cdv ct:Value)(dt:Addr)(o:Obj)(n:Nat)(s:Shared)(us:List Value),s.heap.get? dt=some o->o.data=.seq dvs n->(us++ds).length=ps.length->
  BindsTo s (PySem.W.fnOf x qual (cr st) (c8 st) (aj st) (.ref dt) kV doc pm an cdv ct) ⟨us,[]⟩ (ps.zip (us++ds))):aD K fd ps ds:=by
 obtain⟨oc,od,kV,doc,pm,an,cdv,ct,osl,dt,d2,n,e2,rfl,lk,hcd,lt⟩:=F.ex;exact λs us X hl=>h kV doc pm an cdv ct dt _ n s us (X _ _ lt) U hl
theorem xW{x qual:Str}{st:Stmt}{f dt:Addr}{oc:Value}{od an d2:Option Addr}{osl e2:Array (Option Value)}{n:Nat}{kV doc pm cdv ct:Value}{dvs i2:Array Value}(l:K.lookup f=some ⟨oc,od,.func (PySem.W.fnOf x qual (cr st) (c8 st) (aj st) (.ref dt) kV doc pm an cdv ct),osl⟩)
 (c:PySem.W.codeIn K cdv qual=true) (k:PySem.W.keepIn K (.ref f)=true) (t:K.lookup dt=some ⟨.type "tuple",d2,.seq i2 n,e2⟩) (hi:i2=dvs):eO K x qual st f (PySem.W.fnOf x qual (cr st) (c8 st) (aj st) (.ref dt) kV doc pm an cdv ct) dvs:=by
 subst hi;exact⟨⟨oc,od,kV,doc,pm,an,cdv,ct,osl,dt,d2,n,e2,U,l,c,t⟩,k⟩
end
section
variable {X:Cx}
end
open PySem.SeqAt
open PySem.AutoSeq1 (wpAny_loadPart')
open PySem.MeetsSeq PySem.MeetsSeq2 PySem.MeetsSeq3
section
variable {prog:Program}{w:World}{A:Around}
variable {R:Result->Shared->Prop}{I:Addr}{fp wr:List Addr}{n:Nat}{P:Nat->Value->Prop}{St:Nat->Heap->Prop}
end
section
variable {X:Cx}
end
def Itv(K:W.Frag)(a:Addr)(n:Nat):It:=
 ⟨λi H=>i<n/\∃xs,SqL K H a xs/\xs.length=n,λi H x H'=>H'=H/\∀xs,SqL K H a xs->xs[n-1-i]?=some x,λi _=>n<=i⟩
theorem rH{P:Program}{w:World}{K:W.Frag}{tg:Expr}(a it:Addr)(n:Nat):dR P w K tg (Itv K a n) [it] it (λi h=>i<=n/\h.IsRevIter it a ((n:Int)-1-i)) where
 mem:=by simp
 obj:=λi h st b hb=>by
  have e:b=it:=by simpa using hb
  subst e;obtain⟨_,o,e,c,d⟩:=st;exact⟨o,e,λv z=>by rw[d]at z;cases z⟩
 keep:=λi h h' st k=>⟨st.1,st.2.at λo e=>k it (by simp) o e⟩
 item:=by
  intro X hP hw hK hc i pins s σ H E I hf st hg;subst hP hw hK;obtain⟨il,xs,hq,hn⟩:=hg;obtain⟨its,rv,p,hz⟩:=I.list hq;have hx:xs[n-1-i]?=some (xs[n-1-i]' Qz):=qa _;generalize xs[n-1-i]' Qz=x at hx;obtain⟨u,hu,ru⟩:=rv.get hx;obtain⟨f0,f1,f2,f3,f4,f5⟩:=hf it (by simp);have e1:(n:Int)-1-i=((n-1-i:Nat):Int):=Qz;have st2:=st.2;rw[e1]at st2;refine wpAny_pyNext_rev_item st2 p.isList (x:=u) (by simpa using hu) λh' st' sb=>?_;have I1:Inv X pins σ H { s with heap:=h' }:=I.turned (t':=s.toks) (λb o hb e=>(sb.2 b hb).trans e) f0 f1 f3 f4 f5;obtain⟨o,e,c,d⟩:=id st';refine⟨u,U,iA (s:={ s with heap:=h' }) e c d Qy ⟨x,H,I1,ru,⟨U,λys hy=>by rw[I.list_inj hy hq];exact hx⟩,⟨il,?_⟩,λb hb=>(hf b hb).1⟩⟩;have e2:(n:Int)-1-((i+1:Nat):Int)=((n-1-i:Nat):Int)-1:=Qz;rw[e2];exact st'
 done:=by
  intro X hP hw hK hc i pins s σ H E I hf st hg;subst hP hw hK;obtain⟨f0,f1,f2,f3,f4,f5⟩:=hf it (by simp);have hg:n<=i:=hg;have le:=st.1;have e1:(n:Int)-1-i=-1:=Qz;have st2:=st.2;rw[e1]at st2;exact wpAny_pyNext_rev_end (I.ok.hd hc) st2 λh' eb=>⟨U,I.turned (t':=s.toks) (λb o hb e=>eb b o hb e) f0 f1 f3 f4 f5⟩
 self:=λ_ _ _ _ _ st h=>wpAny_pyIter_revIter st.2 h
def xI(K:W.Frag)(ta:TA):TI:=λσ H R=>ta σ H λvs H1=>∃a xs,vs=[.ref a]/\SqL K H1 a xs/\R (Itv K a xs.length) H1
section
variable {X:Cx}{tg:Expr}
theorem uM{a:Expr}{ta:TA}{p pos:Pos}(hg:Gl X "reversed")(hm:X.mg "reversed"=none)(ha:PA X [a] ta)(hs:starEach [a] X.env=[(false,eval a X.env)]:=by rfl):
 PI X tg (.Call (.Name "reversed" p) [a] [] pos) (xI X.K ta):=by
 intro pins s σ H R I h;refine Call_ (cV I hg hm PyProof.Rows.Boot.«reversed» (PyProof.Rows.callWith_type1 (thn (ha pos pins s σ H _ I h) λus s1 ⟨vs,H1,I1,r1,q1⟩=>?_) (by rw[hs];rfl) (by rfl)));obtain⟨l,xs,rfl,hx,q⟩:=q1;obtain⟨u,rfl,ru⟩:=dC r1;cases ru;obtain⟨its,rv,pl,z1⟩:=I1.list hx;have hl:=rv.length;refine call_reversed_list pl.isList ?_;have e0:(its.toArray.size:Int)-1=(xs.length:Int)-1-((0:Nat):Int):=by simp;omega
 have hit:(s1.heap.push (revObj l ((its.toArray.size:Int)-1))).IsRevIter s1.heap.objs.size l ((xs.length:Int)-1-((0:Nat):Int)):=by
  rw[<- e0];exact⟨_,qk _ U,U,U⟩
 refine wpAny_pyIter_revIter hit ⟨s1.heap.objs.size,[s1.heap.objs.size],_,_,H1,U,I1.kept (t':=s1.toks) λb o e=>q5 _ e,rH l _ xs.length,⟨qq _,hit⟩,λb hb=>?_,q⟩;have e:b=s1.heap.objs.size:=by simpa using hb
 subst e;exact I1.fpOk (qc _) (I1.hok.fresh (qc _))
end
theorem xY{K:W.Frag}{a:Addr}{xs:List V}{g:TG}{tb:TS}{D:dc}{σ:St}{H:Hp}(Pv:Nat->St->Hp->Prop)(h0:Pv 0 σ H)(hl:∀i σ H,Pv i σ H->SqL K H a xs)
 (hs:∀i x σ H,xs.reverse[i]?=some x->Pv i σ H->g x σ H λσ2 H2=>tb { D with nx:=Pv (i+1),ct:=Pv (i+1),bk:=D.nx } σ2 H2) (hd:∀σ H,Pv xs.length σ H->D.nx σ H):
 ∃W:Nat->Nat->St->Hp->Prop,(∃m,W 0 m σ H)/\∀i m σ H,W i m σ H->
  ((Itv K a xs.length).stop i H/\D.nx σ H)\/((Itv K a xs.length).go i H/\∃N:St->Hp->Prop,(∀σ' H',N σ' H'->∃m',m'<m/\W (i+1) m' σ' H')/\∀x H',(Itv K a xs.length).yld i H x H'->g x σ H' λσ2 H2=>tb { D with nx:=N,ct:=N,bk:=D.nx } σ2 H2):=by
 refine⟨λi m σ H=>m=xs.length-i/\i<=xs.length/\Pv i σ H,⟨xs.length,by simp,qq _,h0⟩,?_⟩;rintro i m σ H ⟨rfl,hi,p⟩;have q:=hl i σ H p;by_cases hlt:i<xs.length
 ·refine .inr ⟨⟨hlt,xs,q,U⟩,Pv (i+1),λσ' H' p'=>⟨xs.length-(i+1),Qz,U,hlt,p'⟩,λx H' y=>?_⟩;obtain⟨e,y⟩:=y;subst e;refine hs i x σ _ ?_ p;rw[List.getElem?_reverse hlt];exact y xs q
 ·obtain rfl:i=xs.length:=by omega
  exact .inl ⟨qc _,hd σ H p⟩
theorem yA{X:Cx}{K:W.Frag}(e:X.K=K):bW X (.type "tuple") (λxs H Q=>∃p ys,xs=[.ref p]/\((SqL K H p ys/\∀l,H l=none->Q (.ref l) (upd H l (.tup ys)))\/(SqT K H p ys/\Q (.ref p) H))):=by
 subst e;exact yB
end L2
set_option Elab.async false
set_option maxRecDepth 100000
set_option maxHeartbeats 4000000
namespace K43
open PySem L2 Tr
seal PE PT PW PA PS PSs PG PGs PI PTs PO OpR UnR bW TruR IxR SlR
local macro_rules|`(tactic| walk_at "rds")=>`(tactic| first|assumption|decide|omega)
local macro_rules|`(tactic| walk_at "rd")=>`(tactic| repeat (first|refine⟨_,rfl,?_⟩|refine⟨_,_,rfl,rfl,?_⟩|refine⟨rfl,_,rfl,?_⟩|refine⟨_,_,rfl,rfl,by walk_at "rds",?_⟩|refine And.intro (by walk_at "rds") ?_))
local macro_rules|`(tactic| walk_at "yes")=>`(tactic| refine bC (by decide +kernel) ?_)
local macro_rules|`(tactic| walk_at "no")=>`(tactic| refine aI (by decide +kernel) ?_)
abbrev jq:Stmt:=inClass (top 1) 0
abbrev jm:Stmt:=inClass (top 1) 1
abbrev jp:Stmt:=inClass (top 1) 2
abbrev jo:Stmt:=inClass (top 1) 3
abbrev jl:Stmt:=inClass (top 1) 4
abbrev jn:Stmt:=inClass (top 1) 5
abbrev j5:Stmt:=top 4
abbrev j1:Stmt:=top 5
abbrev fS:Stmt:=inClass (top 7) 0
abbrev jg:Stmt:=inClass (top 7) 1
abbrev jf:Stmt:=inClass (top 7) 2
abbrev ji:Stmt:=inClass (top 7) 3
abbrev jh:Stmt:=inClass (top 7) 4
abbrev je:Stmt:=inClass (top 7) 5
abbrev gW:Stmt:=inClass (top 7) 6
abbrev jz:Stmt:=inClass (top 8) 0
abbrev jy:Stmt:=inClass (top 8) 1
abbrev jx:Stmt:=inClass (top 9) 0
abbrev gX:Stmt:=inClass (top 9) 1
abbrev jk:Stmt:=inClass (top 10) 0
abbrev jj:Stmt:=inClass (top 10) 1
abbrev jE:Stmt:=inClass (top 11) 0
abbrev jD:Stmt:=inClass (top 11) 1
abbrev jC:Stmt:=inClass (top 12) 0
abbrev jA:Stmt:=inClass (top 12) 1
abbrev jB:Stmt:=inClass (top 12) 2
abbrev j4:Stmt:=top 13
abbrev j3:Stmt:=top 14
abbrev dG:Stmt:=inClass (top 16) 0
abbrev jr:Stmt:=inClass (top 16) 1
abbrev ju:Stmt:=inClass (top 16) 2
abbrev eX:Stmt:=inClass (top 16) 3
abbrev jw:Stmt:=inClass (top 16) 4
abbrev jt:Stmt:=inClass (top 16) 5
abbrev j2:Stmt:=top 17
abbrev gT:Stmt:=top 19
abbrev jd:Stmt:=top 21
abbrev j9:Stmt:=top 22
abbrev j7:Stmt:=top 23
abbrev fQ:Stmt:=top 24
abbrev ja:Stmt:=top 25
abbrev gU:Stmt:=top 26
abbrev j8:Stmt:=top 27
abbrev jc:Stmt:=top 28
abbrev jb:Stmt:=top 29
abbrev j6:Stmt:=top 30
abbrev cL:Stmt:=top 31
theorem tP:aJ ["self","things"] ["self","things"] (aj jq):=⟨U,U,U,Qx,U,Qx,Qx⟩
theorem tL:aJ ["self"] ["self"] (aj jm):=⟨U,U,U,Qx,U,Qx,Qx⟩
theorem tO:aJ ["self"] ["self"] (aj jp):=⟨U,U,U,Qx,U,Qx,Qx⟩
theorem tN:aJ ["self","thing"] ["self","thing"] (aj jo):=⟨U,U,U,Qx,U,Qx,Qx⟩
theorem mW:aJ ["self","thing"] ["self"] (aj jl):=⟨U,U,U,Qx,U,Qx,Qx⟩
theorem tM:aJ ["self"] ["self"] (aj jn):=⟨U,U,U,Qx,U,Qx,Qx⟩
theorem tw:aJ ["sign","a","b"] ["sign","a","b"] (aj j5):=⟨U,U,U,Qx,U,Qx,Qx⟩
theorem tq:aJ ["sign","a","b"] ["sign","a","b"] (aj j1):=⟨U,U,U,Qx,U,Qx,Qx⟩
theorem tJ:aJ ["self","lines"] ["self","lines"] (aj fS):=⟨U,U,U,Qx,U,Qx,Qx⟩
theorem tG:aJ ["self","line"] ["self","line"] (aj jg):=⟨U,U,U,Qx,U,Qx,Qx⟩
theorem mV:aJ ["self","line","length"] ["self","line"] (aj jf):=⟨U,U,U,Qx,U,Qx,Qx⟩
theorem tI:aJ ["self","line"] ["self","line"] (aj ji):=⟨U,U,U,Qx,U,Qx,Qx⟩
theorem tH:aJ ["self","line","thing"] ["self","line","thing"] (aj jh):=⟨U,U,U,Qx,U,Qx,Qx⟩
theorem tE:aJ ["self","line"] ["self","line"] (aj je):=⟨U,U,U,Qx,U,Qx,Qx⟩
theorem tF:aJ ["self"] ["self"] (aj gW):=⟨U,U,U,Qx,U,Qx,Qx⟩
theorem tV:aJ ["self","ins"] ["self","ins"] (aj jz):=⟨U,U,U,Qx,U,Qx,Qx⟩
theorem tU:aJ ["self","yard"] ["self","yard"] (aj jy):=⟨U,U,U,Qx,U,Qx,Qx⟩
theorem tT:aJ ["self","ins","outs","route"] ["self","ins","outs","route"] (aj jx):=⟨U,U,U,Qx,U,Qx,Qx⟩
theorem tS:aJ ["self","things"] ["self","things"] (aj gX):=⟨U,U,U,Qx,U,Qx,Qx⟩
theorem tK:aJ ["self","ins","out","sign","sides"] ["self","ins","out","sign","sides"] (aj jk):=⟨U,U,U,Qx,U,Qx,Qx⟩
theorem j0:aJ ["self","things","left","right"] ["self","things"] (aj jj):=⟨U,U,U,Qx,U,Qx,Qx⟩
theorem tZ:aJ ["self","ins","which","ones","noughts","told"] ["self","ins","which","ones","noughts","told"] (aj jE):=⟨U,U,U,Qx,U,Qx,Qx⟩
theorem tY:aJ ["self","things"] ["self","things"] (aj jD):=⟨U,U,U,Qx,U,Qx,Qx⟩
theorem tX:aJ ["self","told","ones","noughts","outs"] ["self","told","ones","noughts","outs"] (aj jC):=⟨U,U,U,Qx,U,Qx,Qx⟩
theorem mY:aJ ["self","yard","thing"] ["self","yard"] (aj jA):=⟨U,U,U,Qx,U,Qx,Qx⟩
theorem tW:aJ ["self","things"] ["self","things"] (aj jB):=⟨U,U,U,Qx,U,Qx,Qx⟩
theorem tu:aJ ["side","things"] ["side","things"] (aj j4):=⟨U,U,U,Qx,U,Qx,Qx⟩
theorem mS:aJ ["row","kind"] ["row"] (aj j3):=⟨U,U,U,Qx,U,Qx,Qx⟩
theorem tR:aJ ["self","lines","parts","pace","most"] ["self","lines","parts","pace","most"] (aj dG):=⟨U,U,U,Qx,U,Qx,Qx⟩
theorem fO:aJ ["self","now","part","takers"] ["self"] (aj jr):=⟨U,U,U,Qx,U,Qx,Qx⟩
theorem eW:aJ ["self","now","part","things","line","thing"] ["self","now","part"] (aj ju):=⟨U,U,U,Qx,U,Qx,Qx⟩
theorem fP:aJ ["self","now","part","wanted","line","things"] ["self","now","part"] (aj eX):=⟨U,U,U,Qx,U,Qx,Qx⟩
theorem tQ:aJ ["self","turn","parts"] ["self","turn","parts"] (aj jw):=⟨U,U,U,Qx,U,Qx,Qx⟩
theorem mX:aJ ["self","part","row"] ["self","part"] (aj jt):=⟨U,U,U,Qx,U,Qx,Qx⟩
theorem iZ:aJ ["lines","parts","pace","most","playing","still"] ["lines","parts","pace","most"] (aj j2):=⟨U,U,U,Qx,U,Qx,Qx⟩
theorem eV:aJ ["lines","log","line","things","turn","part","word","handed"] ["lines","log","line"] (aj gT):=⟨U,U,U,Qx,U,Qx,Qx⟩
theorem tD:aJ ["_law_script","_law_k"] ["_law_script","_law_k"] (aj jd):=⟨U,U,U,Qx,U,Qx,Qx⟩
theorem mU:aJ ["_law_cell_here","_law_k","_law_m"] ["_law_cell_here","_law_k"] (aj j9):=⟨U,U,U,Qx,U,Qx,Qx⟩
theorem mT:aJ ["_law_cell_here","_law_way","_law_c"] ["_law_cell_here","_law_way"] (aj j7):=⟨U,U,U,Qx,U,Qx,Qx⟩
theorem gR:aJ ["_law_script","_law_many","_law_out","_law_k","_law_m"] ["_law_script","_law_many"] (aj fQ):=⟨U,U,U,Qx,U,Qx,Qx⟩
theorem gQ:aJ ["_law_script","_law_firsts_here","_law_bound","_law_out","_law_k","_law_m"] ["_law_script","_law_firsts_here","_law_bound"] (aj ja):=⟨U,U,U,Qx,U,Qx,Qx⟩
theorem fK:aJ ["_law_script","_law_many","_law_out","_law_k","_law_m","_law_row"] ["_law_script","_law_many"] (aj gU):=⟨U,U,U,Qx,U,Qx,Qx⟩
theorem gP:aJ ["_law_firsts_here","_law_total","_law_k"] ["_law_firsts_here"] (aj j8):=⟨U,U,U,Qx,U,Qx,Qx⟩
theorem gS:aJ ["_law_firsts_here","_law_k","_law_row","_law_one"] ["_law_firsts_here","_law_k"] (aj jc):=⟨U,U,U,Qx,U,Qx,Qx⟩
theorem fN:aJ ["_law_firsts_here","_law_hist","_law_left","_law_full","_law_k","_law_come_here","_law_gone","_law_under"] ["_law_firsts_here","_law_hist","_law_left","_law_full"] (aj jb):=⟨U,U,U,Qx,U,Qx,Qx⟩
theorem tz:aJ ["_law_lines","_law_parts","_law_pace_here","_law_way","_law_needed_here"] ["_law_lines","_law_parts","_law_pace_here","_law_way","_law_needed_here"] (aj j6):=⟨U,U,U,Qx,U,Qx,Qx⟩
theorem c1:aJ ["_law_script","_law_m","_law_many","_law_bound","_law_firsts_here","_law_lengths_here","_law_lines","_law_parts","_law_pace_here","_law_needed_here","_law_way","_law_handed","_law_found","_law_hist","_law_come_here"] ["_law_script"] (aj cL):=⟨U,U,U,Qx,U,Qx,Qx⟩
set_option genInjectivity false in
structure Adr where
 zP:Addr
 zQ:FuncData
 zR:Addr
 zS:FuncData
 zT:Addr
 zU:FuncData
 zV:Addr
 zW:FuncData
 zX:Addr
 zY:FuncData
 zZ:Addr
 A0:FuncData
 done:Addr
 A1:FuncData
 A2:Addr
 A3:FuncData
 A4:Addr
 A5:FuncData
 A6:Addr
 A7:FuncData
 A8:Addr
 A9:FuncData
 Aa:Addr
 Ab:FuncData
 Ac:Addr
 Ad:FuncData
 Ae:Addr
 Af:FuncData
 Ag:Addr
 Ah:FuncData
 zB:Addr
 Ai:FuncData
 zh:Addr
 Aj:FuncData
 Ak:Addr
 Al:FuncData
 Am:Addr
 An:FuncData
 Ao:Addr
 Ap:FuncData
 Aq:Addr
 Ar:FuncData
 As:Addr
 At:FuncData
 Au:Addr
 Av:FuncData
 Aw:Addr
 Ax:FuncData
 Ay:Addr
 Az:FuncData
 AA:Addr
 AB:FuncData
 AC:Addr
 AD:FuncData
 AE:Addr
 AF:FuncData
 AG:Addr
 AH:FuncData
 AI:Addr
 AJ:FuncData
 AK:Addr
 AL:FuncData
 zn:Addr
 AM:FuncData
 AN:Addr
 AO:FuncData
 AQ:Addr
 AR:FuncData
 AS:Addr
 zp:FuncData
 zq:Tok
 AT:Addr
 AU:FuncData
 AV:Addr
 AW:FuncData
 AX:Addr
 AY:FuncData
 AZ:Addr
 B2:FuncData
 B3:Addr
 B7:FuncData
 Ba:Addr
 Bb:FuncData
 Bc:Addr
 Bd:FuncData
 Be:Addr
 Bf:FuncData
 Bg:Addr
 Bh:FuncData
 Bi:Addr
 Bj:FuncData
 Bk:Addr
 Bl:FuncData
 Bm:Addr
 Bn:FuncData
 Bx:Tok
 mt:Addr
 om:Addr
 zi:Addr
 wp:Addr
 u8:Addr
 or:Addr
 pi:Addr
 ge:Addr
structure Tx(P:Program)(w:World)(K:W.Frag)(mg:Str->Option Value)(a:Adr):Prop where
 Cf:Fun K "__init__" "Queue.__init__" jq a.zP a.zQ
 Cg:aD K a.zQ ["self","things"] []
 Ci:Fun K "standing" "Queue.standing" jm a.zR a.zS
 By:aD K a.zS ["self"] []
 Cj:Fun K "head" "Queue.head" jp a.zT a.zU
 Ck:aD K a.zU ["self"] []
 Cl:Fun K "lay" "Queue.lay" jo a.zV a.zW
 Cm:aD K a.zW ["self","thing"] []
 Cn:Fun K "take" "Queue.take" jl a.zX a.zY
 Co:aD K a.zY ["self"] []
 Cp:Fun K "rest" "Queue.rest" jn a.zZ a.A0
 Cq:aD K a.A0 ["self"] []
 Bz:Fun K "done" "done" j5 a.done a.A1
 Cr:aD K a.A1 ["sign","a","b"] []
 Cs:mg "done"=some (.ref a.done)
 BA:Fun K "reckoned" "reckoned" j1 a.A2 a.A3
 Ct:aD K a.A3 ["sign","a","b"] []
 Cu:mg "reckoned"=some (.ref a.A2)
 Cv:Fun K "__init__" "Yard.__init__" fS a.A4 a.A5
 Cw:aD K a.A5 ["self","lines"] []
 Cy:Fun K "holds" "Yard.holds" jg a.A6 a.A7
 BB:aD K a.A7 ["self","line"] []
 Cz:Fun K "room" "Yard.room" jf a.A8 a.A9
 CA:aD K a.A9 ["self","line"] []
 CB:Fun K "first" "Yard.first" ji a.Aa a.Ab
 CC:aD K a.Ab ["self","line"] []
 CD:Fun K "hand" "Yard.hand" jh a.Ac a.Ad
 CF:aD K a.Ad ["self","line","thing"] []
 CG:Fun K "taken" "Yard.taken" je a.Ae a.Af
 CH:aD K a.Af ["self","line"] []
 CI:Fun K "stands" "Yard.stands" gW a.Ag a.Ah
 CJ:aD K a.Ah ["self"] []
 CK:Fun K "__init__" "Part.__init__" jz a.zB a.Ai
 zC:aD K a.Ai ["self","ins"] []
 CL:Fun K "wants" "Part.wants" jy a.zh a.Aj
 Bo:aD K a.Aj ["self","yard"] []
 CM:Fun K "__init__" "Pass.__init__" jx a.Ak a.Al
 CN:aD K a.Al ["self","ins","outs","route"] []
 CO:Fun K "made" "Pass.made" gX a.Am a.An
 CP:aD K a.An ["self","things"] []
 CQ:Fun K "__init__" "Work.__init__" jk a.Ao a.Ap
 CS:aD K a.Ap ["self","ins","out","sign","sides"] []
 CT:Fun K "made" "Work.made" jj a.Aq a.Ar
 CU:aD K a.Ar ["self","things"] []
 CV:Fun K "__init__" "Choose.__init__" jE a.As a.At
 CW:aD K a.At ["self","ins","which","ones","noughts","told"] []
 CY:Fun K "made" "Choose.made" jD a.Au a.Av
 CZ:aD K a.Av ["self","things"] []
 D0:Fun K "__init__" "Merge.__init__" jC a.Aw a.Ax
 D3:aD K a.Ax ["self","told","ones","noughts","outs"] []
 D4:Fun K "wants" "Merge.wants" jA a.Ay a.Az
 D5:aD K a.Az ["self","yard"] []
 D6:Fun K "made" "Merge.made" jB a.AA a.AB
 D7:aD K a.AB ["self","things"] []
 Bp:Fun K "on_side" "on_side" j4 a.AC a.AD
 BC:aD K a.AD ["side","things"] []
 BD:mg "on_side"=some (.ref a.AC)
 BE:Fun K "part_of" "part_of" j3 a.AE a.AF
 D8:aD K a.AF ["row"] []
 Da:mg "part_of"=some (.ref a.AE)
 Dc:Fun K "__init__" "Play.__init__" dG a.AG a.AH
 Dd:aD K a.AH ["self","lines","parts","pace","most"] []
 De:Fun K "to_its_end" "Play.to_its_end" jr a.AI a.AJ
 Df:aD K a.AJ ["self"] []
 Dg:Fun K "give" "Play.give" ju a.AK a.AL
 Dh:aD K a.AL ["self","now","part"] []
 Di:Fun K "take" "Play.take" eX a.zn a.AM
 Dj:aD K a.AM ["self","now","part"] []
 Dk:Fun K "await_turn" "Play.await_turn" jw a.AN a.AO
 BF:aD K a.AO ["self","turn","parts"] []
 Dl:Fun K "rest_of" "Play.rest_of" jt a.AQ a.AR
 Dm:aD K a.AR ["self","part"] []
 zr:eO K "play" "play" j2 a.AS a.zp #[.none,.int 5000 a.zq]
 Dn:aD K a.zp ["lines","parts","pace","most"] [.int 5000 a.zq]
 Do:aD K a.zp ["lines","parts","pace","most"] [.none,.int 5000 a.zq]
 BG:aD K a.zp ["lines","parts","pace","most"] []
 zD:mg "play"=some (.ref a.AS)
 BH:Fun K "history" "history" gT a.AT a.AU
 Dp:aD K a.AU ["lines","log","line"] []
 Dr:mg "history"=some (.ref a.AT)
 zt:Fun K "_law_cell" "_law_cell" jd a.AV a.AW
 zE:aD K a.AW ["_law_script","_law_k"] []
 zF:mg "_law_cell"=some (.ref a.AV)
 zj:Fun K "_law_mixed" "_law_mixed" j9 a.AX a.AY
 zu:aD K a.AY ["_law_cell_here","_law_k"] []
 zv:mg "_law_mixed"=some (.ref a.AX)
 Bq:Fun K "_law_number" "_law_number" j7 a.AZ a.B2
 BI:aD K a.B2 ["_law_cell_here","_law_way"] []
 BJ:mg "_law_number"=some (.ref a.AZ)
 BK:Fun K "_law_firsts" "_law_firsts" fQ a.B3 a.B7
 Ds:aD K a.B7 ["_law_script","_law_many"] []
 Du:mg "_law_firsts"=some (.ref a.B3)
 BL:Fun K "_law_lengths" "_law_lengths" ja a.Ba a.Bb
 Dv:aD K a.Bb ["_law_script","_law_firsts_here","_law_bound"] []
 Dw:mg "_law_lengths"=some (.ref a.Ba)
 BM:Fun K "_law_pace" "_law_pace" gU a.Bc a.Bd
 Dx:aD K a.Bd ["_law_script","_law_many"] []
 Dy:mg "_law_pace"=some (.ref a.Bc)
 BN:Fun K "_law_needed" "_law_needed" j8 a.Be a.Bf
 Dz:aD K a.Bf ["_law_firsts_here"] []
 DA:mg "_law_needed"=some (.ref a.Be)
 Br:Fun K "_law_come" "_law_come" jc a.Bg a.Bh
 BO:aD K a.Bh ["_law_firsts_here","_law_k"] []
 BP:mg "_law_come"=some (.ref a.Bg)
 BQ:Fun K "_law_fit" "_law_fit" jb a.Bi a.Bj
 DB:aD K a.Bj ["_law_firsts_here","_law_hist","_law_left","_law_full"] []
 DC:mg "_law_fit"=some (.ref a.Bi)
 BR:Fun K "_law_played" "_law_played" j6 a.Bk a.Bl
 DD:aD K a.Bl ["_law_lines","_law_parts","_law_pace_here","_law_way","_law_needed_here"] []
 DE:mg "_law_played"=some (.ref a.Bk)
 DF:Fun K "law" "law" cL a.Bm a.Bn
 Ek:aD K a.Bn ["_law_script"] []
 El:mg "law"=some (.ref a.Bm)
 DG:mg "bool"=none
 DH:mg "enumerate"=none
 zw:mg "isinstance"=none
 ld:mg "len"=none
 wP:mg "list"=none
 Bs:mg "max"=none
 BS:mg "min"=none
 xz:mg "range"=none
 DI:mg "reversed"=none
 BU:mg "sorted"=none
 BV:mg "tuple"=none
 zx:mg "zip"=none
 DJ:mg "WHEEL"=some (.int 1000000000000000000000000000000 a.Bx)
 DK:mg "Queue"=some (.ref a.mt)
 r6:Cls K a.mt
 DL:Mk K a.mt a.zP
 BW:aH K a.mt "standing" a.zR
 DM:aH K a.mt "head" a.zT
 DN:aH K a.mt "lay" a.zV
 DO:aH K a.mt "take" a.zX
 DP:aH K a.mt "rest" a.zZ
 zk:aV K a.mt "laid"
 ze:aV K a.mt "gone"
 DQ:mg "Yard"=some (.ref a.om)
 wE:Cls K a.om
 DR:Mk K a.om a.A4
 BX:aH K a.om "holds" a.A6
 DS:aH K a.om "room" a.A8
 DT:aH K a.om "first" a.Aa
 DU:aH K a.om "hand" a.Ac
 DV:aH K a.om "taken" a.Ae
 DW:aH K a.om "stands" a.Ag
 BY:aV K a.om "lengths"
 zm:aV K a.om "queues"
 zG:mg "Part"=some (.ref a.zi)
 Em:Cls K a.zi
 En:Mk K a.zi a.zB
 Eo:aH K a.zi "wants" a.zh
 Ep:aV K a.zi "ins"
 DX:mg "Pass"=some (.ref a.wp)
 zd:Cls K a.wp
 DY:Mk K a.wp a.Ak
 DZ:aH K a.wp "made" a.Am
 E1:aH K a.wp "wants" a.zh
 BZ:aV K a.wp "ins"
 C1:aV K a.wp "outs"
 C2:aV K a.wp "route"
 E2:mg "Work"=some (.ref a.u8)
 zc:Cls K a.u8
 E3:Mk K a.u8 a.Ao
 E4:aH K a.u8 "made" a.Aq
 E5:aH K a.u8 "wants" a.zh
 C3:aV K a.u8 "ins"
 C4:aV K a.u8 "out"
 C5:aV K a.u8 "sign"
 Bt:aV K a.u8 "sides"
 E6:mg "Choose"=some (.ref a.or)
 wS:Cls K a.or
 E7:Mk K a.or a.As
 E8:aH K a.or "made" a.Au
 E9:aH K a.or "wants" a.zh
 C6:aV K a.or "ins"
 C7:aV K a.or "which"
 C8:aV K a.or "ones"
 C9:aV K a.or "noughts"
 Bu:aV K a.or "told"
 Ea:mg "Merge"=some (.ref a.pi)
 wT:Cls K a.pi
 Eb:Mk K a.pi a.Aw
 Ec:aH K a.pi "wants" a.Ay
 Ed:aH K a.pi "made" a.AA
 zH:aV K a.pi "ins"
 Ca:aV K a.pi "ones"
 Cc:aV K a.pi "noughts"
 Cd:aV K a.pi "outs"
 Ee:mg "Play"=some (.ref a.ge)
 f8:Cls K a.ge
 Ef:Mk K a.ge a.AG
 Eg:aH K a.ge "to_its_end" a.AI
 Eh:aH K a.ge "give" a.AK
 Ei:aH K a.ge "take" a.zn
 Ce:aH K a.ge "await_turn" a.AN
 Ej:aH K a.ge "rest_of" a.AQ
 zf:aV K a.ge "yard"
 Bv:aV K a.ge "doers"
 zI:aV K a.ge "pace"
 zJ:aV K a.ge "spare"
 zK:aV K a.ge "log"
 Bw:aV K a.ge "held"
 zL:aV K a.ge "takings"
 zy:aV K a.ge "givers"
 zA:aV K a.ge "takers"
 zM:aV K a.ge "without_room"
 zN:aV K a.ge "without_thing"
 zO:l9 K a.zi "__init__" a.zB
theorem Tx.r_WHEEL{P:Program}{w:World}{K:W.Frag}{mg:Str->Option Value}{a:Adr}(_:Tx P w K mg a):au (.int 1000000000000000000000000000000) (.int 1000000000000000000000000000000 a.Bx):=⟨_,U⟩
def ay(o:List Nat):List V:=o.map λj:Nat=>V.int j
theorem p30:(10:Int) ^ (30:Int).toNat=1000000000000000000000000000000:=Qx
theorem p60:(10:Int) ^ (60:Int).toNat=1000000000000000000000000000000000000000000000000000000000000:=Qx
inductive lW(vs:List V)(H:Hp)(Q:VK)(E:XK):Prop
 |mk (sg:Str) (a b:Int) (h0_:vs=[.str sg,.int a,.int b]) (h1_:OnW a) (h2_:OnW b) (h3_:Q (.int (jI sg a b)) H):lW vs H Q E
inductive m3(vs:List V)(H:Hp)(Q:VK)(E:XK):Prop
 |mk (sg:Str) (a b:Int) (h0_:vs=[.str sg,.int a,.int b]) (h1_:OnW a) (h2_:OnW b) (h3_:Q (.int (fg sg a b)) H):m3 vs H Q E
inductive sI(vs:List V)(H:Hp)(Q:VK)(E:XK):Prop
 |mk (sg:Str) (a b:Int) (h0_:vs=[.str sg,.int a,.int b]) (h1_:OnW a) (h2_:OnW b) (h3_:Q (.int (fg sg a b)) H):sI vs H Q E
theorem gF{x:Int}(h:OnW x):Builtin.Int.intBits x<=2 ^ 20:=qw ((PySem.intBits_le_iff (m:=100)).mpr (by have:=h.lo;have:=h.hi;omega)) Qy
theorem qD{x:Int}(h:OnW x):x.natAbs.log2<9000:=Nat.lt_trans (wY (by have:=h.lo;have:=h.hi;omega)) Qy
inductive ma(vs:List V)(H:Hp)(Q:VK)(E:XK):Prop
 |mk (c k:Int) (h0_:vs=[.int c,.int k]) (h1_:(0<=k/\k<=2000)) (h2_:∀m:Int,0<=m->m<2147483647->Q (.int m) H):ma vs H Q E
inductive m8(vs:List V)(H:Hp)(Q:VK)(E:XK):Prop
 |mk (c k:Int) (h0_:vs=[.int c,.int k]) (h1_:(0<=k/\k<=2147483647)) (h2_:∀m:Int,OnW m->Q (.int m) H):m8 vs H Q E
inductive Sd
 |num (n:Int)
 |thing (i:Int)
inductive RS(H:Hp):V->Sd->Prop
 |num {p:Addr}{n:Int}:H p=some (.tup [.str "is",.int n])->RS H (.ref p) (.num n)
 |thing {p:Addr}{i:Int}:H p=some (.tup [.str "in",.int i])->RS H (.ref p) (.thing i)
theorem RS.same{H H':Hp}(e:a8 H H'){v:V}{r:Sd}(h:RS H v r):RS H' v r:=by
 cases h with
 |num a=>exact .num (e _ _ a)
 |thing a=>exact .thing (e _ _ a)
def Sd.ok(w:Nat):Sd->Prop
 |.num n=>OnW n
 |.thing i=>0<=i/\i<w
def Sd.worth(xs:List Int):Sd->Int
 |.num n=>n
 |.thing i=>xs.getD i.toNat 0
inductive sJ(vs:List V)(H:Hp)(Q:VK)(E:XK):Prop
 |mk (i j c:Int) (h0_:vs=[.int i,.int j,.int c]) (h1_:(0<=i/\i<=2000)) (h2_:0<j) (h3_:∀H' v (s:Sd),a8 H H'->RS H' v s->s.ok j.toNat->Q v H'):sJ vs H Q E
inductive PR
 |pass (ins outs route:List Int)
 |work (ins:List Int) (out:Int) (sg:Str) (l r:Sd)
 |choose (ins:List Int) (which:Int) (ones noughts:List Int) (told:Int)
 |merge (told:Int) (ones noughts outs:List Int)
def PR.wide:PR->Nat
 |.pass ins _ _=>ins.length
 |.work ins _ _ _ _=>ins.length
 |.choose ins _ _ _ _=>ins.length
 |.merge _ _ _ outs=>1+outs.length
structure Fit(nl:Nat)(xs:List Int):Prop where
 lo:∀x∈xs,0<=x
 hi:∀x∈xs,x<nl
 nd:(xs.map Int.toNat).Nodup
def PR.ok:PR->Prop
 |.pass ins outs route=>outs.length=route.length/\outs.length<=9/\ins.length<=9/\∀r∈route,0<=r/\r<ins.length
 |.work ins _ _ l r=>ins.length<=9/\l.ok ins.length/\r.ok ins.length
 |.choose ins which ones noughts _=>0<=which/\which<ins.length/\ones.length=ins.length/\noughts.length=ins.length/\ins.length<=9
 |.merge _ ones noughts outs=>outs.length<=9/\ones.length=outs.length/\noughts.length=outs.length
def PR.fit(nl:Nat):PR->Prop
 |.pass ins outs _=>Fit nl ins/\Fit nl outs
 |.work ins out _ _ _=>Fit nl ins/\Fit nl [out]
 |.choose ins _ ones noughts told=>Fit nl ins/\Fit nl (ones++[told])/\Fit nl (noughts++[told])
 |.merge told ones noughts outs=>Fit nl (told::ones)/\Fit nl (told::noughts)/\Fit nl outs
def PR.made(xs:List Int):PR->List (Int×Int)
 |.pass _ outs route=>outs.zip (route.map λr=>xs.getD r.toNat 0)
 |.work _ out sg l r=>[(out,fg sg (l.worth xs) (r.worth xs))]
 |.choose _ which ones noughts told=>if xs.getD which.toNat 0=0 then noughts.zip xs++[(told,0)]else ones.zip xs++[(told,1)]
 |.merge _ _ _ outs=>outs.zip xs.tail
def PR.kind:PR->Nat
 |.pass ..=>0
 |.work ..=>1
 |.choose ..=>2
 |.merge ..=>3
def PR.word:PR->Str
 |.pass ..=>"pass"
 |.work ..=>"work"
 |.choose ..=>"choose"
 |.merge ..=>"merge"
inductive RR(H:Hp):V->PR->Prop
 |pass {p t0 t1 t2:Addr}{ins outs route:List Int}:H p=some (.tup [.str "pass",.ref t0,.ref t1,.ref t2])->H t0=some (.tup (ins.map V.int))->H t1=some (.tup (outs.map V.int))->H t2=some (.tup (route.map V.int))->RR H (.ref p) (.pass ins outs route)
 |work {p t0:Addr}{ins:List Int}{out:Int}{sg:Str}{sa sb:V}{l r:Sd}:H p=some (.tup [.str "work",.ref t0,.int out,.str sg,sa,sb])->H t0=some (.tup (ins.map V.int))->RS H sa l->RS H sb r->RR H (.ref p) (.work ins out sg l r)
 |choose {p t0 t1 t2:Addr}{ins ones noughts:List Int}{which told:Int}:H p=some (.tup [.str "choose",.ref t0,.int which,.ref t1,.ref t2,.int told])->H t0=some (.tup (ins.map V.int))->H t1=some (.tup (ones.map V.int))->H t2=some (.tup (noughts.map V.int))->RR H (.ref p) (.choose ins which ones noughts told)
 |merge {p t1 t2 t3:Addr}{told:Int}{ones noughts outs:List Int}:H p=some (.tup [.str "merge",.int told,.ref t1,.ref t2,.ref t3])->H t1=some (.tup (ones.map V.int))->H t2=some (.tup (noughts.map V.int))->H t3=some (.tup (outs.map V.int))->RR H (.ref p) (.merge told ones noughts outs)
theorem RR.same{H H':Hp}(e:a8 H H'){v:V}{r:PR}(h:RR H v r):RR H' v r:=by
 cases h with
 |pass a b c d=>exact .pass (e _ _ a) (e _ _ b) (e _ _ c) (e _ _ d)
 |work a b c d=>exact .work (e _ _ a) (e _ _ b) (c.same e) (d.same e)
 |choose a b c d=>exact .choose (e _ _ a) (e _ _ b) (e _ _ c) (e _ _ d)
 |merge a b c d=>exact .merge (e _ _ a) (e _ _ b) (e _ _ c) (e _ _ d)
inductive RPt(a:Adr)(H:Hp):V->PR->Prop
 |pass {p dx t0 t1 t2:Addr}{ins outs route:List Int}:H p=some (.ins a.wp dx [("ins",.ref t0),("outs",.ref t1),("route",.ref t2)])->H t0=some (.tup (ins.map V.int))->H t1=some (.tup (outs.map V.int))->H t2=some (.tup (route.map V.int))->RPt a H (.ref p) (.pass ins outs route)
 |work {p dx t0 ts:Addr}{ins:List Int}{out:Int}{sg:Str}{sa sb:V}{l r:Sd}:H p=some (.ins a.u8 dx [("ins",.ref t0),("out",.int out),("sign",.str sg),("sides",.ref ts)])->H t0=some (.tup (ins.map V.int))->H ts=some (.tup [sa,sb])->RS H sa l->RS H sb r->RPt a H (.ref p) (.work ins out sg l r)
 |choose {p dx t0 t1 t2:Addr}{ins ones noughts:List Int}{which told:Int}:H p=some (.ins a.or dx [("ins",.ref t0),("which",.int which),("ones",.ref t1),("noughts",.ref t2),("told",.int told)])->H t0=some (.tup (ins.map V.int))->H t1=some (.tup (ones.map V.int))->H t2=some (.tup (noughts.map V.int))->RPt a H (.ref p) (.choose ins which ones noughts told)
 |merge {p dx t0 t1 t2 t3:Addr}{told:Int}{ones noughts outs:List Int}:H p=some (.ins a.pi dx [("ins",.ref t0),("ones",.ref t1),("noughts",.ref t2),("outs",.ref t3)])->H t0=some (.tup [.int told])->H t1=some (.tup (ones.map V.int))->H t2=some (.tup (noughts.map V.int))->H t3=some (.tup (outs.map V.int))->RPt a H (.ref p) (.merge told ones noughts outs)
theorem RPt.same{a:Adr}{H H':Hp}(e:a8 H H'){v:V}{r:PR}(h:RPt a H v r):RPt a H' v r:=by
 cases h with
 |pass a b c d=>exact .pass (e _ _ a) (e _ _ b) (e _ _ c) (e _ _ d)
 |work a b c d f=>exact .work (e _ _ a) (e _ _ b) (e _ _ c) (d.same e) (f.same e)
 |choose a b c d=>exact .choose (e _ _ a) (e _ _ b) (e _ _ c) (e _ _ d)
 |merge a b c d f=>exact .merge (e _ _ a) (e _ _ b) (e _ _ c) (e _ _ d) (e _ _ f)
inductive RPs(H:Hp):List V->List (Int×Int)->Prop
 |nil:RPs H [] []
 |cons {p:Addr}{vs:List V}{x:Int×Int}{xs:List (Int×Int)}:H p=some (.tup [.int x.1,.int x.2])->RPs H vs xs->RPs H (.ref p::vs) (x::xs)
theorem RPs.same{H H':Hp}(e:a8 H H'):∀{vs:List V}{xs:List (Int×Int)},RPs H vs xs->RPs H' vs xs
 |_,_,.nil=>.nil
 |_,_,.cons a r=>.cons (e _ _ a) (RPs.same e r)
theorem RPs.len{H:Hp}:∀{vs:List V}{xs:List (Int×Int)},RPs H vs xs->vs.length=xs.length
 |_,_,.nil=>rfl
 |_,_,.cons _ r=>congrArg (·+1) (RPs.len r)
theorem RPs.app{H:Hp}:∀{vs us:List V}{xs ys:List (Int×Int)},RPs H vs xs->RPs H us ys->RPs H (vs++us) (xs++ys)
 |_,_,_,_,.nil,h=>h
 |_,_,_,_,.cons a r,h=>.cons a (RPs.app r h)
theorem RPs.snoc{H:Hp}{p:Addr}{x:Int×Int}(a:H p=some (.tup [.int x.1,.int x.2])){vs:List V}{xs:List (Int×Int)}(h:RPs H vs xs):RPs H (vs++[.ref p]) (xs++[x]):=h.app (.cons a .nil)
theorem RPs.zip{H:Hp}:∀{ts:List Addr}{xs ys:List Int},ts.length=min xs.length ys.length->(∀(j:Nat)(t:Addr)(x y:V),ts[j]?=some t->(xs.map V.int)[j]?=some x->(ys.map V.int)[j]?=some y->H t=some (.tup [x,y]))->RPs H (ts.map V.ref) (xs.zip ys)
 |[],[],_,_,_=>by simp;exact .nil
 |[],_::_,[],_,_=>.nil
 |[],_::_,_::_,h,_=>by simp at h
 |_::_,[],_,h,_=>by simp at h
 |_::_,_::_,[],h,_=>by simp at h
 |t::ts,x::xs,y::ys,h,at_=>by
  refine .cons (at_ 0 t _ _ U U U) (RPs.zip (by simp at h;omega) λj t' x' y' h1 h2 h3=>at_ (j+1) t' x' y' (by simpa using h1) (by simpa using h2) (by simpa using h3))
def bg:Option Int->V
 |none=>.non
 |some n=>.int n
abbrev Ln:=Option Int×List Int
inductive RLn(H:Hp):List V->List Ln->Prop
 |nil:RLn H [] []
 |cons {p t:Addr}{vs:List V}{x:Ln}{xs:List Ln}:H p=some (.tup [bg x.1,.ref t])->H t=some (.tup (x.2.map V.int))->RLn H vs xs->RLn H (.ref p::vs) (x::xs)
theorem RLn.keep{H H':Hp}(e:∀b ys,H b=some (.tup ys)->H' b=some (.tup ys)):∀{vs:List V}{xs:List Ln},RLn H vs xs->RLn H' vs xs
 |_,_,.nil=>.nil
 |_,_,.cons a b r=>.cons (e _ _ a) (e _ _ b) (RLn.keep e r)
theorem RLn.same{H H':Hp}(e:a8 H H'){vs:List V}{xs:List Ln}(h:RLn H vs xs):RLn H' vs xs:=h.keep λb ys=>e b _
theorem RLn.len{H:Hp}:∀{vs:List V}{xs:List Ln},RLn H vs xs->vs.length=xs.length
 |_,_,.nil=>rfl
 |_,_,.cons _ _ r=>congrArg (·+1) (RLn.len r)
theorem RLn.at{H:Hp}:∀{vs:List V}{xs:List Ln},RLn H vs xs->∀(i:Nat)(v:V),vs[i]?=some v->∃p t x,v=.ref p/\xs[i]?=some x/\H p=some (.tup [bg x.1,.ref t])/\H t=some (.tup (x.2.map V.int))
 |_,_,.nil,i,v,h=>by simp at h
 |_,_,.cons (p:=p) (t:=t) (x:=x) a b r,0,v,h=>by
  simp at h;exact⟨p,t,x,h.symm,U,a,b⟩
 |_,_,.cons a b r,i+1,v,h=>RLn.at r i v (by simpa using h)
theorem RLn.snoc{H:Hp}{p t:Addr}{x:Ln}(a:H p=some (.tup [bg x.1,.ref t]))(b:H t=some (.tup (x.2.map V.int))):∀{vs:List V}{xs:List Ln},RLn H vs xs->RLn H (vs++[.ref p]) (xs++[x])
 |_,_,.nil=>.cons a b .nil
 |_,_,.cons a' b' r=>.cons a' b' (RLn.snoc a b r)
def RQ(a:Adr)(H:Hp)(q:Addr×Addr×Addr)(s:List Int×Nat):Prop:=H q.1=some (.ins a.mt q.2.1 [("laid",.ref q.2.2),("gone",.int s.2)])/\H q.2.2=some (.lst (s.1.map V.int))/\s.2<=s.1.length/\s.1.length<=10000000
structure RY(a:Adr)(H:Hp)(y dx la lq:Addr)(qs:List (Addr×Addr×Addr))(st:List (List Int×Nat))(ls:List (Option Int)):Prop where
 o:H y=some (.ins a.om dx [("lengths",.ref la),("queues",.ref lq)])
 l:H lq=some (.lst (qs.map λq=>V.ref q.1))
 n:qs.length=st.length
 q:∀(i:Nat)(q:Addr×Addr×Addr)(s:List Int×Nat),qs[i]?=some q->st[i]?=some s->RQ a H q s
 w:H la=some (.lst (ls.map bg))
 m:ls.length=st.length
def iz(s:List Int×Nat):V:=match s.1.drop s.2 with
 |[]=>.non
 |x::_=>.int x
inductive mD(K:W.Frag)(a:Adr)(vs:List V)(H:Hp)(Q:VK)(E:XK):Prop
 |mk (p dx t:Addr) (xs:List Int) (h0_:vs=[.ref p,.ref t]) (h1_:H p=some (.ins a.mt dx [])) (h2_:SqT K H t (xs.map V.int)) (h3_:∀l,H l=none->Q .non (upd (upd H l (.lst (xs.map V.int))) p (.ins a.mt dx [("laid",.ref l),("gone",.int 0)]))):mD K a vs H Q E
inductive my(a:Adr)(vs:List V)(H:Hp)(Q:VK)(E:XK):Prop
 |mk (q:Addr×Addr×Addr) (s:List Int×Nat) (h0_:vs=[.ref q.1]) (h1_:RQ a H q s) (h2_:Q (.int ((s.1.length:Int)-s.2)) H):my a vs H Q E
inductive mC(a:Adr)(vs:List V)(H:Hp)(Q:VK)(E:XK):Prop
 |mk (q:Addr×Addr×Addr) (s:List Int×Nat) (h0_:vs=[.ref q.1]) (h1_:RQ a H q s) (h2_:Q (iz s) H):mC a vs H Q E
inductive mB(a:Adr)(vs:List V)(H:Hp)(Q:VK)(E:XK):Prop
 |mk (q:Addr×Addr×Addr) (s:List Int×Nat) (x:Int) (h0_:vs=[.ref q.1,.int x]) (h1_:RQ a H q s) (h2_:Q .non (upd H q.2.2 (.lst ((s.1++[x]).map V.int)))):mB a vs H Q E
inductive mx(a:Adr)(vs:List V)(H:Hp)(Q:VK)(E:XK):Prop
 |mk (q:Addr×Addr×Addr) (s:List Int×Nat) (x:Int) (h0_:vs=[.ref q.1]) (h1_:RQ a H q s) (h2_:s.1[s.2]?=some x) (h3_:Q (.int x) (upd H q.1 (.ins a.mt q.2.1 [("laid",.ref q.2.2),("gone",.int (s.2+1:Nat))]))):mx a vs H Q E
inductive mz(a:Adr)(vs:List V)(H:Hp)(Q:VK)(E:XK):Prop
 |mk (q:Addr×Addr×Addr) (s:List Int×Nat) (h0_:vs=[.ref q.1]) (h1_:RQ a H q s) (h2_:∀l,H l=none->Q (.ref l) (upd H l (.lst ((s.1.drop s.2).map V.int)))):mz a vs H Q E
def ci(xs:List Ln):List (List Int×Nat):=xs.map λx=>(x.2,0)
inductive ms(a:Adr)(vs:List V)(H:Hp)(Q:VK)(E:XK):Prop
 |mk (p dx l:Addr) (us:List V) (xs:List Ln) (h0_:vs=[.ref p,.ref l]) (h1_:H p=some (.ins a.om dx [])) (h2_:H l=some (.lst us)) (h3_:RLn H us xs) (h4_:xs.length<=1000) (h5_:(∀x∈xs,x.2.length<=64) /\
 ∀H' la lq qs,(∀b o,b≠p->H b=some o->H' b=some o)->RY a H' p dx la lq qs (ci xs) (xs.map (·.1))->(qs.map λq=>q.2.2).Nodup->(qs.map λq=>q.1).Nodup->(∀q∈qs,H q.2.2=none/\q.1≠p/\H q.1=none)->(H lq=none/\lq∉(qs.map λq=>q.2.2))->(H la=none/\la∉(qs.map λq=>q.2.2))->Q .non H'):ms a vs H Q E
inductive mo(a:Adr)(vs:List V)(H:Hp)(Q:VK)(E:XK):Prop
 |mk (y dx la lq:Addr) (qs:List (Addr×Addr×Addr)) (st:List (List Int×Nat)) (ls:List (Option Int)) (i:Int) (s:List Int×Nat) (h0_:vs=[.ref y,.int i]) (h1_:RY a H y dx la lq qs st ls) (h2_:0<=i) (h3_:st[i.toNat]?=some s) (h4_:Q (.int ((s.1.length:Int)-s.2)) H):mo a vs H Q E
def roomV(L:Option Int)(n:Int):Bool:=match L with
 |none=>true
 |some m=>decide (n<m)
inductive mn(a:Adr)(vs:List V)(H:Hp)(Q:VK)(E:XK):Prop
 |mk (y dx la lq:Addr) (qs:List (Addr×Addr×Addr)) (st:List (List Int×Nat)) (ls:List (Option Int)) (i:Int) (s:List Int×Nat) (L:Option Int) (h0_:vs=[.ref y,.int i]) (h1_:RY a H y dx la lq qs st ls) (h2_:0<=i) (h3_:st[i.toNat]?=some s) (h4_:ls[i.toNat]?=some L) (h5_:Q (.bl (roomV L ((s.1.length:Int)-s.2))) H):mn a vs H Q E
inductive mr(a:Adr)(vs:List V)(H:Hp)(Q:VK)(E:XK):Prop
 |mk (y dx la lq:Addr) (qs:List (Addr×Addr×Addr)) (st:List (List Int×Nat)) (ls:List (Option Int)) (i:Int) (s:List Int×Nat) (h0_:vs=[.ref y,.int i]) (h1_:RY a H y dx la lq qs st ls) (h2_:0<=i) (h3_:st[i.toNat]?=some s) (h4_:Q (iz s) H):mr a vs H Q E
inductive mq(a:Adr)(vs:List V)(H:Hp)(Q:VK)(E:XK):Prop
 |mk (y dx la lq:Addr) (qs:List (Addr×Addr×Addr)) (st:List (List Int×Nat)) (ls:List (Option Int)) (i x:Int) (q:Addr×Addr×Addr) (s:List Int×Nat) (h0_:vs=[.ref y,.int i,.int x]) (h1_:RY a H y dx la lq qs st ls) (h2_:0<=i) (h3_:st[i.toNat]?=some s) (h4_:qs[i.toNat]?=some q) (h5_:Q .non (upd H q.2.2 (.lst ((s.1++[x]).map V.int)))):mq a vs H Q E
inductive mj(a:Adr)(vs:List V)(H:Hp)(Q:VK)(E:XK):Prop
 |mk (y dx la lq:Addr) (qs:List (Addr×Addr×Addr)) (st:List (List Int×Nat)) (ls:List (Option Int)) (i x:Int) (q:Addr×Addr×Addr) (s:List Int×Nat) (h0_:vs=[.ref y,.int i]) (h1_:RY a H y dx la lq qs st ls) (h2_:0<=i) (h3_:st[i.toNat]?=some s) (h4_:qs[i.toNat]?=some q) (h5_:s.1[s.2]?=some x) (h6_:Q (.int x) (upd H q.1 (.ins a.mt q.2.1 [("laid",.ref q.2.2),("gone",.int (s.2+1:Nat))]))):mj a vs H Q E
def dH(st:List (List Int×Nat)):List (List Int):=st.map λs=>s.1.drop s.2
inductive RIs(H:Hp):List V->List (List Int)->Prop
 |nil:RIs H [] []
 |cons {p:Addr}{vs:List V}{xs:List Int}{xss:List (List Int)}:H p=some (.lst (xs.map V.int))->RIs H vs xss->RIs H (.ref p::vs) (xs::xss)
theorem RIs.same{H H':Hp}(e:a8 H H'):∀{vs:List V}{xss:List (List Int)},RIs H vs xss->RIs H' vs xss
 |_,_,.nil=>.nil
 |_,_,.cons a r=>.cons (e _ _ a) (RIs.same e r)
theorem RIs.len{H:Hp}:∀{vs:List V}{xss:List (List Int)},RIs H vs xss->vs.length=xss.length
 |_,_,.nil=>rfl
 |_,_,.cons _ r=>congrArg (·+1) (RIs.len r)
theorem RIs.snoc{H:Hp}{p:Addr}{xs:List Int}(a:H p=some (.lst (xs.map V.int))):∀{vs:List V}{xss:List (List Int)},RIs H vs xss->RIs H (vs++[.ref p]) (xss++[xs])
 |_,_,.nil=>.cons a .nil
 |_,_,.cons a' r=>.cons a' (RIs.snoc a r)
theorem RIs.at{H:Hp}:∀{vs:List V}{xss:List (List Int)},RIs H vs xss->∀(i:Nat)(xs:List Int),xss[i]?=some xs->∃p,vs[i]?=some (.ref p)/\H p=some (.lst (xs.map V.int))
 |_,_,.nil,i,v,h=>by simp at h
 |_,_,.cons (p:=p) a r,0,v,h=>by
  simp at h;subst h;exact⟨p,U,a⟩
 |_,_,.cons a r,i+1,v,h=>by
  obtain⟨p,e,h'⟩:=RIs.at r i v (by simpa using h);exact⟨p,by simpa using e,h'⟩
def fB(H0:Hp)(vs:List V):Prop:=∀p,V.ref p∈vs->H0 p=none
inductive ml(a:Adr)(vs:List V)(H:Hp)(Q:VK)(E:XK):Prop
 |mk (y dx la lq:Addr) (qs:List (Addr×Addr×Addr)) (st:List (List Int×Nat)) (ls:List (Option Int)) (h0_:vs=[.ref y]) (h1_:RY a H y dx la lq qs st ls) (h2_:qs.length<=1000) (h3_:∀H' l us,a8 H H'->H l=none->H' l=some (.lst us)->RIs H' us (dH st)->fB H us->Q (.ref l) H'):ml a vs H Q E
inductive mL(a:Adr)(vs:List V)(H:Hp)(Q:VK)(E:XK):Prop
 |mk (p C dx:Addr) (u:V) (h0_:vs=[.ref p,u]) (h1_:H p=some (.ins C dx [])) (h2_:(C=a.wp\/C=a.u8\/C=a.or\/C=a.pi)) (h3_:Q .non (upd H p (.ins C dx [("ins",u)]))):mL a vs H Q E
inductive mK(a:Adr)(vs:List V)(H:Hp)(Q:VK)(E:XK):Prop
 |mk (p dx:Addr) (u v x:V) (h0_:vs=[.ref p,u,v,x]) (h1_:H p=some (.ins a.wp dx [])) (h2_:Q .non (upd H p (.ins a.wp dx [("ins",u),("outs",v),("route",x)]))):mK a vs H Q E
inductive mv(a:Adr)(vs:List V)(H:Hp)(Q:VK)(E:XK):Prop
 |mk (p dx:Addr) (u v x y:V) (h0_:vs=[.ref p,u,v,x,y]) (h1_:H p=some (.ins a.u8 dx [])) (h2_:Q .non (upd H p (.ins a.u8 dx [("ins",u),("out",v),("sign",x),("sides",y)]))):mv a vs H Q E
inductive mO(a:Adr)(vs:List V)(H:Hp)(Q:VK)(E:XK):Prop
 |mk (p dx:Addr) (u v x y z:V) (h0_:vs=[.ref p,u,v,x,y,z]) (h1_:H p=some (.ins a.or dx [])) (h2_:Q .non (upd H p (.ins a.or dx [("ins",u),("which",v),("ones",x),("noughts",y),("told",z)]))):mO a vs H Q E
inductive mN(a:Adr)(vs:List V)(H:Hp)(Q:VK)(E:XK):Prop
 |mk (p dx:Addr) (u v x y:V) (h0_:vs=[.ref p,u,v,x,y]) (h1_:H p=some (.ins a.pi dx [])) (h2_:∀t,H t=none->Q .non (upd (upd H t (.tup [u])) p (.ins a.pi dx [("ins",.ref t),("ones",v),("noughts",x),("outs",y)]))):mN a vs H Q E
structure Ent where
 now:Int
 part:Nat
 took:Bool
 hs:List (Int×Int)
structure PlS where
 st:Nat->List Int×Nat
 held:Nat->List (Int×Int)
 tks:Nat->Nat
 gv:List (Int×List Nat)
 tr:List Nat
 wr:Nat->List Nat
 wt:Nat->List Nat
 sp:Nat
 lg:List Ent
def put{α:Type}(f:Nat->α)(i:Nat)(v:α):Nat->α:=λk=>if k=i then v else f k
theorem ap{α:Type}{f:Nat->α}{i:Nat}{v:α}:put f i v i=v:=qY U
theorem ai{α:Type}{f:Nat->α}{i k:Nat}{v:α}(h:k≠i):put f i v k=f k:=qX h
def aA(S:PlS)(i:Nat):List Int:=(S.st i).1.drop (S.st i).2
def roomF(ls:Nat->Option Int)(S:PlS)(i:Nat):Bool:=roomV (ls i) (((S.st i).1.length:Int)-(S.st i).2)
def ao(S:PlS):PR->List Int
 |.pass ins _ _=>ins
 |.work ins _ _ _ _=>ins
 |.choose ins _ _ _ _=>ins
 |.merge t o n _=>match aA S t.toNat with
  |[]=>[t]
  |x::_=>t::(if x=0 then n else o)
abbrev Gv:=List (Int×List Nat)
def aG(g:Gv):List Int:=g.map (·.1)
def atG(g:Gv)(k:Int):List Nat:=((g.find? λkv=>decide (kv.1=k)).map (·.2)).getD []
def c7(g:Gv)(k:Int):Gv:=g.filter λkv=>decide (kv.1≠k)
def bc(g:Gv)(t:Int)(ps:List Nat):Gv:=if ps=[]then g else if t∈aG g then g.map (λkv=>if kv.1=t then(kv.1,kv.2++ps)else kv)else g++[(t,ps)]
def ak(S:PlS)(p:Int×Int):PlS:={ S with st:=put S.st p.1.toNat ((S.st p.1.toNat).1++[p.2],(S.st p.1.toNat).2),tr:=S.tr++S.wt p.1.toNat,wt:=put S.wt p.1.toNat [] }
def gJ(S:PlS)(i:Nat)(x:Nat):PlS:={ S with wr:=put S.wr i (S.wr i++[x]) }
def dv(S:PlS)(now:Int)(x:Nat):PlS:=
 let S':=(S.held x).foldl ak S
 { S' with lg:=S'.lg++[⟨now,x,false,S.held x⟩],tr:=S'.tr++[x] }
def cg(ls:Nat->Option Int)(S:PlS)(now:Int)(x:Nat):PlS:=
 match(S.held x).find? λp=>!roomF ls S p.1.toNat with
 |some p=>gJ S p.1.toNat x
 |none=>dv S now x
def cQ(S:PlS)(ws:List Int):Option Int:=ws.find? λi=>(aA S i.toNat).isEmpty
def aM(S:PlS)(i:Int):Int:=(aA S i.toNat).headD 0
def bu(f:Nat->List Int×Nat)(ws:List Int):Nat->List Int×Nat:=ws.foldl (λf i=>put f i.toNat ((f i.toNat).1,(f i.toNat).2+1)) f
def be(now:Int)(S:PlS)(i:Int):PlS:={ S with gv:=bc S.gv (now+1) (S.wr i.toNat),wr:=put S.wr i.toNat [] }
def bM(pace:List (List Int))(x k:Nat):Int:=if pace.length=0 then 0 else
 let r:=pace.getD (x % pace.length) []
 if r.length=0 then 0 else r.getD (k % r.length) 0
def fF(S:PlS)(i x:Nat):PlS:={ S with wt:=put S.wt i (S.wt i++[x]) }
def bP(r:PR)(pace:List (List Int))(S:PlS)(now:Int)(x:Nat):PlS:=
 let ws:=ao S r
 let xs:=ws.map (aM S)
 { S with st:=bu S.st ws,sp:=S.sp-1,lg:=S.lg++[⟨now,x,true,ws.zip xs⟩],held:=put S.held x (r.made xs),gv:=bc S.gv (now+1+bM pace x (S.tks x)) [x],tks:=put S.tks x (S.tks x+1) }
def aT(r:PR)(pace:List (List Int))(S:PlS)(now:Int)(x:Nat):PlS:=(ao S r).foldl (be now) (bP r pace S now x)
theorem lJ:∀{ws:List Int}{f:Nat->List Int×Nat}{j:Nat},j∉ws.map Int.toNat->bu f ws j=f j
 |[],_,_,_=>rfl
 |w::ws,f,j,h=>by
  show bu (put f w.toNat _) ws j=_;rw[lJ λz=>h (qi _ z),ai λz=>h (by rw[z];exact qj)]
theorem rM{ws:List Int}{f:Nat->List Int×Nat}{w:Int}:bu f (ws++[w])=put (bu f ws) w.toNat ((bu f ws w.toNat).1,(bu f ws w.toNat).2+1):=by unfold bu;rw[List.foldl_append];rfl
theorem fH:∀{ws:List Int}{f:Nat->List Int×Nat}{j:Nat},(bu f ws j).1=(f j).1
 |[],_,_=>rfl
 |w::ws,f,j=>by
  show(bu (put f w.toNat _) ws j).1=_;rw[fH];by_cases e:j=w.toNat
  ·rw[e,ap]
  ·rw[ai e]
theorem iP:∀{ws:List Int}{f:Nat->List Int×Nat},(ws.map Int.toNat).Nodup->(∀w∈ws,(f w.toNat).2<(f w.toNat).1.length)->(∀j,(f j).2<=(f j).1.length)->∀j,(bu f ws j).2<=(bu f ws j).1.length
 |[],_,_,_,h0,j=>h0 j
 |w::ws,f,nd,h,h0,j=>by
  have nd:w.toNat∉ws.map Int.toNat/\(ws.map Int.toNat).Nodup:=List.nodup_cons.mp nd;refine iP (f:=put f w.toNat ((f w.toNat).1,(f w.toNat).2+1)) nd.2 (λv hv=>?_) (λi=>?_) j
  ·rw[ai λe=>nd.1 (by rw[<- e];exact List.mem_map.mpr ⟨v,hv,U⟩)];exact h v (qi _ hv)
  ·by_cases e:i=w.toNat
   ·rw[e,ap];exact h w qj
   ·rw[ai e];exact h0 i
theorem Fit.sub{nl:Nat}{xs ys:List Int}(h:Fit nl ys)(s:xs.Sublist ys):Fit nl xs:=⟨λx hx=>h.lo x (s.subset hx),λx hx=>h.hi x (s.subset hx),h.nd.sublist (s.map _)⟩
theorem iM{nl:Nat}{S:PlS}{r:PR}(h:r.fit nl):Fit nl (ao S r):=by
 cases r with
 |pass=>exact h.1
 |work=>exact h.1
 |choose=>exact h.1
 |merge t o n _=>
  show Fit nl (match aA S t.toNat with|[]=>[t]|x::_=>t::(if x=0 then n else o))
  cases aA S t.toNat with
  |nil=>exact h.1.sub (List.Sublist.cons_cons _ (List.nil_sublist _))
  |cons x _=>
   show Fit nl (t::(if x=0 then n else o));split
   ·exact h.2.1
   ·exact h.1
theorem iK{S:PlS}{r:PR}(ok:r.ok)(h:cQ S (ao S r)=none):(ao S r).length=r.wide:=by
 cases r with
 |pass=>rfl
 |work=>rfl
 |choose=>rfl
 |merge t o n outs=>
  obtain⟨_,l1,l2⟩:=ok;have h:=List.find?_eq_none.mp h;show(match aA S t.toNat with|[]=>[t]|x::_=>t::(if x=0 then n else o)).length=1+outs.length
  have ht:¬ (aA S t.toNat).isEmpty=true:=h t (by
   show t∈(match aA S t.toNat with|[]=>[t]|x::_=>t::(if x=0 then n else o))
   cases aA S t.toNat<;>exact qj)
  cases e:aA S t.toNat with
  |nil=>rw[e]at ht;exact Q1 U ht
  |cons x _=>
   show(t::(if x=0 then n else o)).length=_;rw[qy];split<;>omega
theorem lC{S:PlS}{r:PR}(ok:r.ok):(ao S r).length<=10:=by
 cases r with
 |pass ins=>have:=ok.2.2.1;show ins.length<=10;omega
 |work ins=>have:=ok.1;show ins.length<=10;omega
 |choose ins=>have:=ok.2.2.2.2;show ins.length<=10;omega
 |merge t o n outs=>
  obtain⟨_,l1,l2⟩:=ok;show(match aA S t.toNat with|[]=>[t]|x::_=>t::(if x=0 then n else o)).length<=10
  cases aA S t.toNat with
  |nil=>exact(by decide:1<=10)
  |cons x _=>show(t::(if x=0 then n else o)).length<=10;rw[qy];split<;>omega
inductive Ph
 |top
 |giv (now:Int) (rem:List Nat)
 |tak (now:Int) (rem:List Nat)
def wK(g:Gv)(k:Int):Prop:=k∈aG g/\∀j∈aG g,k<=j
def fz(xs:List Nat):Prop:=List.Pairwise (λx y:Nat=>x<=y) xs
inductive bi(ls:Nat->Option Int)(prt:Nat->PR)(pace:List (List Int))(S0:PlS):Ph->PlS->Prop
 |base:bi ls prt pace S0 .top S0
 |turn {S:PlS}{k:Int}{r:List Nat}:bi ls prt pace S0 .top S->wK S.gv k->r.Perm (atG S.gv k)->fz r->bi ls prt pace S0 (.giv k r) { S with gv:=c7 S.gv k }
 |give {S:PlS}{k:Int}{x:Nat}{r:List Nat}:bi ls prt pace S0 (.giv k (x::r)) S->bi ls prt pace S0 (.giv k r) (cg ls S k x)
 |half {S:PlS}{k:Int}{r:List Nat}:bi ls prt pace S0 (.giv k []) S->r.Perm S.tr->fz r->bi ls prt pace S0 (.tak k r) { S with tr:=[] }
 |wait {S:PlS}{k i:Int}{x:Nat}{r:List Nat}:bi ls prt pace S0 (.tak k (x::r)) S->cQ S (ao S (prt x))=some i->bi ls prt pace S0 (.tak k r) (fF S i.toNat x)
 |take {S:PlS}{k:Int}{x:Nat}{r:List Nat}:bi ls prt pace S0 (.tak k (x::r)) S->cQ S (ao S (prt x))=none->S.sp≠0->bi ls prt pace S0 (.tak k r) (aT (prt x) pace S k x)
 |over {S:PlS}{k:Int}:bi ls prt pace S0 (.tak k []) S->bi ls prt pace S0 .top S
inductive Loc
 |tr
 |wt (i:Nat)
 |wr (i:Nat)
 |gv (k:Int)
 |rem
def OnL(n:Nat)(loc:Nat->Loc)(l:Loc)(ys:List Nat):Prop:=ys.Nodup/\∀x∈ys,x<n/\loc x=l
theorem OnL.nil{n:Nat}{loc:Nat->Loc}{l:Loc}:OnL n loc l []:=⟨List.nodup_nil,λ_ h=>(nomatch h)⟩
open Classical in
noncomputable def dQ(loc:Nat->Loc)(l' l:Loc):Nat->Loc:=λx=>if loc x=l' then l else loc x
theorem OnL.app{n:Nat}{loc:Nat->Loc}{l l':Loc}{ys zs:List Nat}(h:OnL n loc l ys)(h':OnL n loc l' zs)(ne:l≠l'):OnL n (dQ loc l' l) l (ys++zs):=by
 refine⟨List.nodup_append.mpr ⟨h.1,h'.1,λx hx y hy e=>?_⟩,λx hx=>?_⟩
 ·exact ne ((h.2 x hx).2.symm.trans (e▸(h'.2 y hy).2))
 ·unfold dQ;rcases qf.mp hx with m|m
  ·exact⟨(h.2 x m).1,by rw[qX (by rw[(h.2 x m).2];exact ne)];exact(h.2 x m).2⟩
  ·exact⟨(h'.2 x m).1,qY (h'.2 x m).2⟩
theorem OnL.other{n:Nat}{loc:Nat->Loc}{l l' m:Loc}{ys:List Nat}(h:OnL n loc m ys)(ne:m≠l'):OnL n (dQ loc l' l) m ys:=
 ⟨h.1,λx hx=>⟨(h.2 x hx).1,by unfold dQ;rw[qX (by rw[(h.2 x hx).2];exact ne)];exact(h.2 x hx).2⟩⟩
theorem OnL.off{n:Nat}{loc:Nat->Loc}{l m:Loc}{ys:List Nat}{x:Nat}(h:OnL n loc m ys)(hx:x∉ys):OnL n (put loc x l) m ys:=
 ⟨h.1,λy hy=>⟨(h.2 y hy).1,(ai λe:y=x=>hx (e▸hy)).trans (h.2 y hy).2⟩⟩
theorem OnL.snoc{n:Nat}{loc:Nat->Loc}{l:Loc}{ys:List Nat}{x:Nat}(h:OnL n loc l ys)(hx:x∉ys)(lt:x<n):OnL n (put loc x l) l (ys++[x]):=by
 refine⟨List.nodup_append.mpr ⟨h.1,Qo _ _,λy hy z hz e=>hx (by rw[<- qQ.mp hz,<- e];exact hy)⟩,λy hy=>?_⟩;rcases qf.mp hy with m|m
 ·exact(h.off hx).2 y m
 ·rw[qQ.mp m];exact⟨lt,ap⟩
theorem OnL.perm{n:Nat}{loc:Nat->Loc}{l:Loc}{ys zs:List Nat}(h:OnL n loc l ys)(p:zs.Perm ys):OnL n loc l zs:=⟨p.nodup_iff.mpr h.1,λx hx=>h.2 x (p.mem_iff.mp hx)⟩
theorem OnL.len{n:Nat}{loc:Nat->Loc}{l:Loc}{ys:List Nat}(h:OnL n loc l ys):ys.length<=n:=by
 have:=h.1.length_le_of_subset (l₂:=List.range n) λk hk=>List.mem_range.mpr (h.2 k hk).1
 rwa [Qb]at this
theorem OnL.len2{n:Nat}{loc:Nat->Loc}{l l':Loc}{ys zs:List Nat}(h:OnL n loc l ys)(h':OnL n loc l' zs)(ne:l≠l'):ys.length+zs.length<=n:=by
 have:=(h.app h' ne).len
 rwa [q9]at this
structure aL(n:Nat)(loc:Nat->Loc)(rem:List Nat)(S:PlS):Prop where
 tr:OnL n loc .tr S.tr
 wt:∀i,OnL n loc (.wt i) (S.wt i)
 wr:∀i,OnL n loc (.wr i) (S.wr i)
 gk:(aG S.gv).Nodup
 gv:∀kv∈S.gv,OnL n loc (.gv kv.1) kv.2
 rm:OnL n loc .rem rem
theorem ff:∀{g:Gv}{k:Int},k∈aG g->(k,atG g k)∈g
 |(j,ps)::g,k,h=>by
  unfold atG;by_cases e:j=k
  ·rw[List.find?_cons_of_pos (by simpa using e)];subst e;exact qj
  ·rw[List.find?_cons_of_neg (by simpa using e)];exact qi _ (ff (g:=g) ((qr.mp h).resolve_left (Ne.symm e)))
theorem oj{g:Gv}{k j:Int}:j∈aG (c7 g k)↔j∈aG g/\j≠k:=by
 unfold aG c7;simp only[List.mem_map,List.mem_filter,decide_eq_true_eq];constructor
 ·rintro⟨kv,⟨h,ne⟩,rfl⟩;exact⟨⟨kv,h,U⟩,ne⟩
 ·rintro⟨⟨kv,h,rfl⟩,ne⟩;exact⟨kv,⟨h,ne⟩,U⟩
theorem xj{g:Gv}{k:Int}(h:(aG g).Nodup):(aG (c7 g k)).Nodup:=h.sublist (List.filter_sublist.map _)
theorem kD:∀{g:Gv}{k:Int},k∈aG g->(c7 g k).length<g.length
 |(j,ps)::g,k,h=>by
  unfold c7;by_cases e:j=k
  ·rw[List.filter_cons_of_neg (by simpa using e)];exact Nat.lt_succ_of_le (List.length_filter_le _ _)
  ·rw[List.filter_cons_of_pos (by simpa using e)];exact Nat.succ_lt_succ (kD (g:=g) ((qr.mp h).resolve_left (Ne.symm e)))
theorem ip{g:Gv}{t:Int}{ps:List Nat}{j:Int}:j∈aG (bc g t ps)↔j∈aG g\/(ps≠[]/\j=t):=by
 unfold bc;by_cases e:ps=[]
 ·rw[qY e];exact⟨.inl,λh=>h.resolve_right λz=>z.1 e⟩
 rw[qX e];by_cases m:t∈aG g
 ·rw[qY m];unfold aG;rw[List.map_map,show((λkv:Int×List Nat=>kv.1) ∘ λkv:Int×List Nat=>if kv.1=t then(kv.1,kv.2++ps)else kv)=λkv=>kv.1 from funext λkv=>by show(if kv.1=t then(kv.1,kv.2++ps)else kv).1=_;split<;>rfl];exact⟨.inl,λh=>h.elim id λz=>z.2▸m⟩
 ·rw[qX m];unfold aG;rw[qM,qf];exact⟨λh=>h.imp id λz=>⟨e,qQ.mp z⟩,λh=>h.imp id λz=>qQ.mpr z.2⟩
theorem iG{g:Gv}{t:Int}{ps:List Nat}:(bc g t ps).length<=g.length+1:=by
 unfold bc;split
 ·omega
 ·split
  ·rw[q4];omega
  ·rw[q9];exact qc _
theorem yI{g:Gv}{t:Int}{ps:List Nat}(h:t∈aG g):(bc g t ps).length=g.length:=by
 unfold bc;split
 ·rfl
 ·first|rw[qY h,q4]|rw[q4]
theorem pH{g:Gv}{t:Int}{ps:List Nat}(h:(aG g).Nodup):(aG (bc g t ps)).Nodup:=by
 unfold bc;split
 ·exact h
 split
 ·unfold aG at *;rw[List.map_map,show((λkv:Int×List Nat=>kv.1) ∘ λkv:Int×List Nat=>if kv.1=t then(kv.1,kv.2++ps)else kv)=λkv=>kv.1 from funext λkv=>by show(if kv.1=t then(kv.1,kv.2++ps)else kv).1=_;split<;>rfl];exact h
 ·rename_i m;unfold aG at *;rw[qM];exact List.nodup_append.mpr ⟨h,Qo _ _,λx hx y hy z=>m (by have e:x=t:=z.trans (qQ.mp hy);exact e▸hx)⟩
theorem cz{g:Gv}{j k:Int}{ps:List Nat}:atG ((j,ps)::g) k=if j=k then ps else atG g k:=by
 unfold atG;by_cases e:j=k
 ·rw[List.find?_cons_of_pos (by simpa using e),qY e];rfl
 ·rw[List.find?_cons_of_neg (by simpa using e),qX e]
theorem kP:∀{g:Gv}{k:Int},k∉aG g->atG g k=[]
 |[],_,_=>rfl
 |(j,ps)::g,k,h=>by
  rw[cz,qX λe:j=k=>h (e▸qj)];exact kP λz=>h (qi _ z)
theorem pJ:∀{g:Gv}{t k:Int}{ps:List Nat},t∉aG g->atG (g++[(t,ps)]) k=if k=t then ps else atG g k
 |[],t,k,ps,_=>by
  rw[Qi,cz];by_cases e:t=k
  ·rw[qY e,qY e.symm]
  ·rw[qX e,qX λz=>e z.symm]
 |(j,qs)::g,t,k,ps,h=>by
  rw[List.cons_append,cz,cz];by_cases e:j=k
  ·rw[qY e,qY e,qX λz=>h (by rw[<- z,<- e];exact qj)]
  ·rw[qX e,qX e];exact pJ λz=>h (qi _ z)
theorem kQ:∀{g:Gv}{t k:Int}{ps:List Nat},t∈aG g->atG (g.map λkv=>if kv.1=t then(kv.1,kv.2++ps)else kv) k=if k=t then atG g t++ps else atG g k
 |(j,qs)::g,t,k,ps,h=>by
  rw[qP];by_cases e:j=t
  ·show atG ((if j=t then(j,qs++ps)else(j,qs))::_) k=_;rw[qY e,cz,cz,cz,qY e];by_cases e2:k=t
   ·rw[qY (e.trans e2.symm),qY e2]
   ·rw[qX λz=>e2 (z.symm.trans e),qX e2,qX λz=>e2 (z.symm.trans e)];by_cases m:t∈aG g
    ·rw[kQ m,qX e2]
    ·rw[show(g.map λkv=>if kv.1=t then(kv.1,kv.2++ps)else kv)=g from(List.map_congr_left (g:=id) λkv hk=>qX λz=>m (List.mem_map.mpr ⟨kv,hk,z⟩)).trans (List.map_id _)]
  ·show atG ((if j=t then(j,qs++ps)else(j,qs))::_) k=_;have m:=(qr.mp h).resolve_left λz=>e z.symm;rw[qX e,cz,cz,cz,qX e];by_cases e2:j=k
   ·rw[qY e2,qX λz=>e (e2.trans z),qY e2]
   ·rw[qX e2,kQ m,qX e2]
theorem pI{g:Gv}{t k:Int}{ps:List Nat}:atG (bc g t ps) k=if k=t then atG g t++ps else atG g k:=by
 unfold bc;by_cases e:ps=[]
 ·rw[qY e,e,qv];split
  ·rename_i z;rw[z]
  ·rfl
 rw[qX e];by_cases m:t∈aG g
 ·rw[qY m,kQ m]
 ·rw[qX m,pJ m,kP m,Qi]
theorem aL.hand{n:Nat}{loc:Nat->Loc}{rem:List Nat}{S:PlS}(I:aL n loc rem S)(p:Int×Int):aL n (dQ loc (.wt p.1.toNat) .tr) rem (ak S p):=by
 refine⟨I.tr.app (I.wt _) nofun,λi=>?_,λi=>(I.wr i).other nofun,I.gk,λkv h=>(I.gv kv h).other nofun,I.rm.other nofun⟩;show OnL n _ (.wt i) (put S.wt p.1.toNat [] i);by_cases e:i=p.1.toNat
 ·rw[e,ap];exact OnL.nil
 ·rw[ai e];exact(I.wt i).other λz=>e (Loc.wt.inj z)
theorem aL.hands{n:Nat}{rem:List Nat}:∀(ps:List (Int×Int)){loc:Nat->Loc}{S:PlS},aL n loc rem S->∃loc',aL n loc' rem (ps.foldl ak S)
 |[],loc,_,I=>⟨loc,I⟩
 |p::ps,_,_,I=>aL.hands ps (I.hand p)
section
variable {n:Nat}{loc:Nat->Loc}{rem:List Nat}{S:PlS}{x:Nat}
theorem aL.not(I:aL n loc (x::rem) S):loc x=.rem/\x<n/\x∉rem:=⟨(I.rm.2 x qj).2,(I.rm.2 x qj).1,(List.nodup_cons.mp I.rm.1).1⟩
theorem aL.notin(I:aL n loc (x::rem) S){l:Loc}{ys:List Nat}(h:OnL n loc l ys)(ne:l≠.rem):x∉ys:=λz=>ne ((h.2 x z).2.symm.trans I.not.1)
theorem aL.rest(I:aL n loc (x::rem) S){l:Loc}:OnL n (put loc x l) .rem rem:=OnL.off ⟨(List.nodup_cons.mp I.rm.1).2,λy hy=>I.rm.2 y (qi _ hy)⟩ I.not.2.2
theorem aL.stuck(I:aL n loc (x::rem) S)(i:Nat):aL n (put loc x (.wr i)) rem (gJ S i x):=by
 refine⟨I.tr.off (I.notin I.tr nofun),λj=>(I.wt j).off (I.notin (I.wt j) nofun),λj=>?_,I.gk,λkv h=>(I.gv kv h).off (I.notin (I.gv kv h) nofun),I.rest⟩;show OnL n _ (.wr j) (put S.wr i (S.wr i++[x]) j);by_cases e:j=i
 ·rw[e,ap];exact(I.wr i).snoc (I.notin (I.wr i) nofun) I.not.2.1
 ·rw[ai e];exact(I.wr j).off (I.notin (I.wr j) nofun)
theorem aL.wait(I:aL n loc (x::rem) S)(i:Nat):aL n (put loc x (.wt i)) rem (fF S i x):=by
 refine⟨I.tr.off (I.notin I.tr nofun),λj=>?_,λj=>(I.wr j).off (I.notin (I.wr j) nofun),I.gk,λkv h=>(I.gv kv h).off (I.notin (I.gv kv h) nofun),I.rest⟩;show OnL n _ (.wt j) (put S.wt i (S.wt i++[x]) j);by_cases e:j=i
 ·rw[e,ap];exact(I.wt i).snoc (I.notin (I.wt i) nofun) I.not.2.1
 ·rw[ai e];exact(I.wt j).off (I.notin (I.wt j) nofun)
theorem aL.toTr(I:aL n loc (x::rem) S)(lg:List Ent):aL n (put loc x .tr) rem { S with lg:=lg,tr:=S.tr++[x] }:=
 ⟨I.tr.snoc (I.notin I.tr nofun) I.not.2.1,λj=>(I.wt j).off (I.notin (I.wt j) nofun),λj=>(I.wr j).off (I.notin (I.wr j) nofun),I.gk,λkv h=>(I.gv kv h).off (I.notin (I.gv kv h) nofun),I.rest⟩
theorem k6{g:Gv}{t:Int}{ps:List Nat}{kv:Int×List Nat}(h:kv∈bc g t ps):(kv∈g/\(kv.1=t->ps=[]))\/(kv.1=t/\kv.2=ps/\t∉aG g)\/(kv.1=t/\∃qs,(t,qs)∈g/\kv.2=qs++ps):=by
 unfold bc at h;by_cases e:ps=[]
 ·rw[qY e]at h;exact .inl ⟨h,λ_=>e⟩
 rw[qX e]at h;by_cases m:t∈aG g
 ·rw[qY m]at h;obtain⟨jv,hj,ej⟩:=List.mem_map.mp h;by_cases c:jv.1=t
  ·rw[qY c]at ej;exact .inr (.inr ⟨by rw[<- ej];exact c,jv.2,by rw[<- c];exact hj,by rw[<- ej]⟩)
  ·rw[qX c]at ej;rw[<- ej];exact .inl ⟨hj,λz=>Q1 z c⟩
 ·rw[qX m]at h;rcases qf.mp h with h|h
  ·exact .inl ⟨h,λz=>Q1 (List.mem_map.mpr ⟨kv,h,z⟩) m⟩
  ·rw[qQ.mp h];exact .inr (.inl ⟨U,U,m⟩)
theorem aL.toGv(I:aL n loc (x::rem) S)(t:Int):aL n (put loc x (.gv t)) rem { S with gv:=bc S.gv t [x] }:=by
 refine⟨I.tr.off (I.notin I.tr nofun),λj=>(I.wt j).off (I.notin (I.wt j) nofun),λj=>(I.wr j).off (I.notin (I.wr j) nofun),show(aG (bc S.gv t [x])).Nodup from pH I.gk,λkv h=>?_,I.rest⟩;have h:kv∈bc S.gv t [x]:=h;rcases k6 h with⟨h,_⟩|⟨h1,h2,_⟩|⟨h1,qs,h2,h3⟩
 ·exact(I.gv kv h).off (I.notin (I.gv kv h) nofun)
 ·rw[h1,h2];exact OnL.snoc (ys:=[]) OnL.nil (λz=>nomatch z) I.not.2.1
 ·rw[h1,h3];exact(I.gv _ h2).snoc (I.notin (I.gv _ h2) nofun) I.not.2.1
theorem aL.free(I:aL n loc rem S)(now i:Int):aL n (dQ loc (.wr i.toNat) (.gv (now+1))) rem (be now S i):=by
 refine⟨I.tr.other nofun,λj=>(I.wt j).other nofun,λj=>?_,show(aG (bc S.gv (now+1) (S.wr i.toNat))).Nodup from pH I.gk,λkv h=>?_,I.rm.other nofun⟩
 ·show OnL n _ (.wr j) (put S.wr i.toNat [] j);by_cases e:j=i.toNat
  ·rw[e,ap];exact OnL.nil
  ·rw[ai e];exact(I.wr j).other λz=>e (Loc.wr.inj z)
 ·rcases k6 h with⟨h,_⟩|⟨h1,h2,_⟩|⟨h1,qs,h2,h3⟩
  ·exact(I.gv kv h).other nofun
  ·rw[h1,h2];exact OnL.app (ys:=[]) OnL.nil (I.wr _) nofun
  ·rw[h1,h3];exact(I.gv _ h2).app (I.wr _) nofun
theorem aL.frees(now:Int):∀(ws:List Int){loc:Nat->Loc}{S:PlS},aL n loc rem S->∃loc',aL n loc' rem (ws.foldl (be now) S)
 |[],loc,_,I=>⟨loc,I⟩
 |i::ws,_,_,I=>aL.frees now ws (I.free now i)
theorem aL.eq(I:aL n loc rem S){S':PlS}(e1:S'.tr=S.tr)(e2:S'.wt=S.wt)(e3:S'.wr=S.wr)(e4:S'.gv=S.gv):aL n loc rem S':=
 ⟨by rw[e1];exact I.tr,by rw[e2];exact I.wt,by rw[e3];exact I.wr,by rw[e4];exact I.gk,by rw[e4];exact I.gv,I.rm⟩
theorem aL.turn(I:aL n loc [] S){k:Int}{r:List Nat}(hk:k∈aG S.gv)(p:r.Perm (atG S.gv k)):aL n (dQ loc (.gv k) .rem) r { S with gv:=c7 S.gv k }:=by
 have q:OnL n _ .rem (atG S.gv k):=OnL.app (ys:=[]) I.rm (I.gv _ (ff hk)) nofun
 refine⟨I.tr.other nofun,λj=>(I.wt j).other nofun,λj=>(I.wr j).other nofun,xj I.gk,λkv h=>?_,q.perm p⟩;have h:=List.mem_filter.mp h;exact(I.gv kv h.1).other λz=>Qa h.2 (Loc.gv.inj z)
theorem aL.half(I:aL n loc [] S){r:List Nat}(p:r.Perm S.tr):aL n (dQ loc .tr .rem) r { S with tr:=[] }:=
 ⟨OnL.nil,λj=>(I.wt j).other nofun,λj=>(I.wr j).other nofun,I.gk,λkv h=>(I.gv kv h).other nofun,(OnL.app (ys:=[]) I.rm I.tr nofun).perm p⟩
end
inductive Rl
 |b|lg|hl|tl|gd|tk|wrl|wtl
 |qo (i:Nat)
 |ql (i:Nat)
 |wr (i:Nat)
 |wt (i:Nat)
 |gv (k:Int)
 deriving DecidableEq
def at'{α:Type}(f:Rl->α)(r:Rl)(v:α):Rl->α:=λs=>if s=r then v else f s
theorem bR{α:Type}{f:Rl->α}{r:Rl}{v:α}:at' f r v r=v:=qY U
theorem br{α:Type}{f:Rl->α}{r s:Rl}{v:α}(h:s≠r):at' f r v s=f s:=qX h
structure aY(H0 H:Hp)(D:Rl->Prop)(ad:Rl->Addr)(c:Rl->HO):Prop where
 sa:a8 H0 H
 nw:∀r,D r->H0 (ad r)=none
 inj:∀r s,D r->D s->ad r=ad s->r=s
 av:∀r,D r->H (ad r)=some (c r)
section
variable {H0 H:Hp}{D:Rl->Prop}{ad:Rl->Addr}{c:Rl->HO}
theorem aY.put(M:aY H0 H D ad c)(r:Rl)(h:D r)(o:HO):aY H0 (upd H (ad r) o) D ad (at' c r o):=
 ⟨λx p hx=>by rw[ag λz=>by rw[z,M.nw r h]at hx;cases hx];exact M.sa x p hx,M.nw,M.inj,λs hs=>by
  by_cases e:s=r
  ·rw[e,ae,bR]
  ·rw[ag λz=>e (M.inj s r hs h z),br e];exact M.av s hs⟩
theorem aY.new(M:aY H0 H D ad c)(r:Rl){x:Addr}(hx:H x=none)(o:HO):aY H0 (upd H x o) (λs=>s=r\/D s) (at' ad r x) (at' c r o):=by
 have ne:∀s,D s->ad s≠x:=λs hs z=>by have:=M.av s hs;rw[z,hx]at this;cases this
 refine⟨λy p hy=>a8.new hx _ _ _ (M.sa y p hy),λs hs=>?_,λs t hs ht e=>?_,λs hs=>?_⟩
 ·by_cases e:s=r
  ·rw[e,bR];exact a8.none M.sa hx
  ·rw[br e];exact M.nw s (hs.resolve_left e)
 ·by_cases e1:s=r
  ·by_cases e2:t=r
   ·rw[e1,e2]
   ·rw[e1,bR,br e2]at e;exact Q1 e.symm (ne t (ht.resolve_left e2))
  ·by_cases e2:t=r
   ·rw[e2,bR,br e1]at e;exact Q1 e (ne s (hs.resolve_left e1))
   ·rw[br e1,br e2]at e;exact M.inj s t (hs.resolve_left e1) (ht.resolve_left e2) e
 ·by_cases e:s=r
  ·rw[e,bR,bR,ae]
  ·rw[br e,br e,ag (ne s (hs.resolve_left e))];exact M.av s (hs.resolve_left e)
theorem aY.base(M:aY H0 H D ad c){x:Addr}(hx:H x=none)(o:HO):aY (upd H0 x o) (upd H x o) D ad c:=by
 have ne:∀s,D s->ad s≠x:=λs hs z=>by have:=M.av s hs;rw[z,hx]at this;cases this
 refine⟨λy p hy=>?_,λs hs=>by rw[ag (ne s hs)];exact M.nw s hs,M.inj,λs hs=>by rw[ag (ne s hs)];exact M.av s hs⟩;by_cases e:y=x
 ·rw[e,ae]at hy ⊢;exact hy
 ·rw[ag e]at hy ⊢;exact M.sa y p hy
theorem aY.more(M:aY H0 H D ad c){H':Hp}(s:a8 H H'):∃H0',a8 H0 H0'/\(∀x o,H x=none->H' x=some o->H0' x=some o)/\aY H0' H' D ad c:=by
 classical
 refine⟨λx=>if H x=none then H' x else H0 x,λx o h=>?_,λx o hx h=>(qY hx).trans h,λx o h=>?_,λr hr=>?_,M.inj,λr hr=>s _ _ (M.av r hr)⟩
 ·show(if H x=none then H' x else H0 x)=_;rw[qX (by rw[M.sa _ _ h];exact λz=>by cases z)];exact h
 ·have h:(if H x=none then H' x else H0 x)=some o:=h;split at h
  ·exact h
  ·exact s _ _ (M.sa _ _ h)
 ·show(if H (ad r)=none then H' (ad r)else H0 (ad r))=_;rw[qX (by rw[M.av r hr];exact λz=>by cases z)];exact M.nw r hr
theorem aY.less(M:aY H0 H D ad c){D':Rl->Prop}(h:∀r,D' r->D r){c':Rl->HO}(e:∀r,D' r->c r=c' r):aY H0 H D' ad c':=
 ⟨M.sa,λr hr=>M.nw r (h r hr),λr s hr hs=>M.inj r s (h r hr) (h s hs),λr hr=>by rw[<- e r hr];exact M.av r (h r hr)⟩
end
structure PlC where
 b:Addr
 dx:Addr
 y:Addr
 dy:Addr
 la:Addr
 lq:Addr
 dl:Addr
 pc:Addr
 dq:Nat->Addr
 qo:Nat->Addr
 us:List V
 pv:List V
 n:Nat
 nl:Nat
 prt:Nat->PR
 ls:Nat->Option Int
 pace:List (List Int)
structure PlB(a:Adr)(H0:Hp)(C:PlC):Prop where
 yo:H0 C.y=some (.ins a.om C.dy [("lengths",.ref C.la),("queues",.ref C.lq)])
 la:H0 C.la=some (.lst ((List.range C.nl).map λi=>bg (C.ls i)))
 lq:H0 C.lq=some (.lst ((List.range C.nl).map λi=>V.ref (C.qo i)))
 dl:H0 C.dl=some (.lst C.us)
 du:∀x,x<C.n->∃v,C.us[x]?=some v/\RPt a H0 v (C.prt x)
 pc:H0 C.pc=some (.lst C.pv)
 pr:RIs H0 C.pv C.pace
 ok:∀x,x<C.n->(C.prt x).ok/\(C.prt x).fit C.nl
 n:C.n<60
 nl:C.nl<=1000
 pl:C.pace.length<=1000
 pb:∀r∈C.pace,r.length<=1000
theorem PlB.same{a:Adr}{H H':Hp}{C:PlC}(B:PlB a H C)(s:a8 H H'):PlB a H' C:=
 ⟨s _ _ B.yo,s _ _ B.la,s _ _ B.lq,s _ _ B.dl,λx hx=>let ⟨v,e,h⟩:=B.du x hx;⟨v,e,h.same s⟩,s _ _ B.pc,B.pr.same s,B.ok,B.n,B.nl,B.pl,B.pb⟩
def plN:List Str:=["yard","doers","pace","spare","log","held","takings","givers","takers","without_room","without_thing"]
def plV(C:PlC)(ad:Rl->Addr)(sp:Nat):List V:=[.ref C.y,.ref C.dl,.ref C.pc,.int sp,.ref (ad .lg),.ref (ad .hl),.ref (ad .tl),.ref (ad .gd),.ref (ad .tk),.ref (ad .wrl),.ref (ad .wtl)]
def plO(a:Adr)(C:PlC)(ad:Rl->Addr)(sp:Nat):HO:=.ins a.ge C.dx (plN.zip (plV C ad sp))
def cnP(a:Adr)(C:PlC)(ad:Rl->Addr)(hd:Nat->Addr)(lgv:List V)(S:PlS):Rl->HO
 |.b=>plO a C ad S.sp
 |.lg=>.lst lgv
 |.hl=>.lst ((List.range C.n).map λx=>V.ref (hd x))
 |.tl=>.lst ((List.range C.n).map λx=>V.int (S.tks x))
 |.gd=>.dK (S.gv.map λkv=>(Sum.inl kv.1,V.ref (ad (.gv kv.1))))
 |.tk=>.lst (ay S.tr)
 |.wrl=>.lst ((List.range C.nl).map λi=>V.ref (ad (.wr i)))
 |.wtl=>.lst ((List.range C.nl).map λi=>V.ref (ad (.wt i)))
 |.qo i=>.ins a.mt (C.dq i) [("laid",.ref (ad (.ql i))),("gone",.int (S.st i).2)]
 |.ql i=>.lst ((S.st i).1.map V.int)
 |.wr i=>.lst (ay (S.wr i))
 |.wt i=>.lst (ay (S.wt i))
 |.gv k=>.lst (ay (atG S.gv k))
def dmP(nl:Nat)(ks:List Int):Rl->Prop
 |.qo i=>i<nl
 |.ql i=>i<nl
 |.wr i=>i<nl
 |.wt i=>i<nl
 |.gv k=>k∈ks
 |_=>True
inductive REs(H:Hp):List V->List Ent->Prop
 |nil:REs H [] []
 |cons {p l:Addr}{vs us:List V}{e:Ent}{es:List Ent}:H p=some (.tup [.int e.now,.int e.part,.str (if e.took then "took" else "gave"),.ref l])->H l=some (.lst us)->RPs H us e.hs->REs H vs es->REs H (.ref p::vs) (e::es)
theorem REs.same{H H':Hp}(s:a8 H H'):∀{vs:List V}{es:List Ent},REs H vs es->REs H' vs es
 |_,_,.nil=>.nil
 |_,_,.cons a b c r=>.cons (s _ _ a) (s _ _ b) (c.same s) (REs.same s r)
theorem REs.snoc{H:Hp}{p l:Addr}{us:List V}{e:Ent}(h1:H p=some (.tup [.int e.now,.int e.part,.str (if e.took then "took" else "gave"),.ref l]))(h2:H l=some (.lst us))(h3:RPs H us e.hs):∀{vs:List V}{es:List Ent},REs H vs es->REs H (vs++[.ref p]) (es++[e])
 |_,_,.nil=>.cons h1 h2 h3 .nil
 |_,_,.cons a b c r=>.cons a b c (REs.snoc h1 h2 h3 r)
theorem REs.len{H:Hp}:∀{vs:List V}{es:List Ent},REs H vs es->vs.length=es.length
 |_,_,.nil=>rfl
 |_,_,.cons _ _ _ r=>congrArg (·+1) (REs.len r)
structure PlH(a:Adr)(H0 H:Hp)(C:PlC)(ad:Rl->Addr)(hd:Nat->Addr)(lgv:List V)(S:PlS):Prop where
 own:aY H0 H (dmP C.nl (aG S.gv)) ad (cnP a C ad hd lgv S)
 b:ad .b=C.b
 qo:∀i,i<C.nl->ad (.qo i)=C.qo i
 hd:∀x,x<C.n->∃vs,H0 (hd x)=some (.lst vs)/\RPs H0 vs (S.held x)
 lg:REs H0 lgv S.lg
structure cj(C:PlC)(k:Nat)(S:PlS):Prop where
 st:∀i,(S.st i).1.length+k<=10000000/\(S.st i).2<=(S.st i).1.length
 lg:S.lg.length+k<=10000000
 gv:S.gv.length+k<=10000000
 on:∀i,∀v∈(S.st i).1,OnW v
 hn:∀x,x<C.n->(∀p∈S.held x,0<=p.1/\p.1<C.nl/\OnW p.2)/\(S.held x).length<=10/\((S.held x).map λp=>p.1.toNat).Nodup
structure Gd(C:PlC)(k:Nat)(rem:List Nat)(S:PlS):Prop where
 loc:∃loc,aL C.n loc rem S
 cap:cj C k S
def bE(S:PlS):Nat:=130 * (3 * S.sp+S.gv.length)
inductive mG(a:Adr)(vs:List V)(H:Hp)(Q:VK)(E:XK):Prop
 |mk (H0:Hp) (C:PlC) (ad:Rl->Addr) (hd:Nat->Addr) (lgv:List V) (S:PlS) (x:Nat) (h0_:vs=[.ref C.b,.int x]) (h1_:PlB a H0 C) (h2_:PlH a H0 H C ad hd lgv S) (h3_:x<C.n) (h4_:Q (.int (bM C.pace x (S.tks x))) H):mG a vs H Q E
inductive mI(a:Adr)(vs:List V)(H:Hp)(Q:VK)(E:XK):Prop
 |mk (H0:Hp) (C:PlC) (ad:Rl->Addr) (hd:Nat->Addr) (lgv:List V) (S:PlS) (t:Int) (l:Addr) (ps:List Nat) (h0_:vs=[.ref C.b,.int t,.ref l]) (h1_:PlB a H0 C) (h2_:PlH a H0 H C ad hd lgv S) (h3_:H l=some (.lst (ay ps))) (h4_:(∀k∈aG S.gv,l≠ad (.gv k))) (h5_:S.gv.length<10000000) (h6_:ps.length<=1000) (h7_:(∀kv∈S.gv,kv.2.length<=1000)) (h8_:(aG S.gv).Nodup /\
 ∀H' ad',PlH a H0 H' C ad' hd lgv { S with gv:=bc S.gv t ps }->(∀r,(∀k,r≠.gv k)->ad' r=ad r)->Q .non H'):mI a vs H Q E
inductive mH(a:Adr)(vs:List V)(H:Hp)(Q:VK)(E:XK):Prop
 |mk (H0:Hp) (C:PlC) (ad:Rl->Addr) (hd:Nat->Addr) (lgv:List V) (S:PlS) (now:Int) (x:Nat) (rem:List Nat) (h0_:vs=[.ref C.b,.int now,.int x]) (h1_:PlB a H0 C) (h2_:PlH a H0 H C ad hd lgv S) (h3_:Gd C 20 (x::rem) S /\
 ∀H0' H' ad' lgv',a8 H0 H0'->PlH a H0' H' C ad' hd lgv' (cg C.ls S now x)->Q .non H'):mH a vs H Q E
inductive mF(a:Adr)(vs:List V)(H:Hp)(Q:VK)(E:XK):Prop
 |mk (H0:Hp) (C:PlC) (ad:Rl->Addr) (hd:Nat->Addr) (lgv:List V) (S:PlS) (now:Int) (x:Nat) (rem:List Nat) (h0_:vs=[.ref C.b,.int now,.int x]) (h1_:PlB a H0 C) (h2_:PlH a H0 H C ad hd lgv S) (h3_:Gd C 20 (x::rem) S /\
 (∀i,cQ S (ao S (C.prt x))=some i->∀H0' H',a8 H0 H0'->PlH a H0' H' C ad hd lgv (fF S i.toNat x)->Q (.bl true) H') /\
 (cQ S (ao S (C.prt x))=none->S.sp=0->∀H0' H',a8 H0 H0'->PlH a H0' H' C ad hd lgv S->Q (.bl false) H') /\
 (cQ S (ao S (C.prt x))=none->S.sp≠0->∀H0' H' ad' hd' lgv',a8 H0 H0'->PlH a H0' H' C ad' hd' lgv' (aT (C.prt x) C.pace S now x)->Q (.bl true) H')):mF a vs H Q E
def gD(C:PlC)(S S':PlS)(q:Bool->Prop):Prop:=(bi C.ls C.prt C.pace S .top S'->S'.gv=[]->q true)/\∀k x r,bi C.ls C.prt C.pace S (.tak k (x::r)) S'->cQ S' (ao S' (C.prt x))=none->S'.sp=0->q false
inductive mE(a:Adr)(vs:List V)(H:Hp)(Q:VK)(E:XK):Prop
 |mk (H0:Hp) (C:PlC) (ad:Rl->Addr) (hd:Nat->Addr) (lgv:List V) (S:PlS) (h0_:vs=[.ref C.b]) (h1_:PlB a H0 C) (h2_:PlH a H0 H C ad hd lgv S) (h3_:Gd C (bE S+20) [] S) (h4_:∀H0' H' ad' hd' lgv' S',a8 H0 H0'->PlH a H0' H' C ad' hd' lgv' S'->gD C S S' (λb=>Q (.bl b) H')):mE a vs H Q E
inductive lY(vs:List V)(H:Hp)(Q:VK)(E:XK):Prop
 |mk (v:V) (l:Addr) (s:Sd) (xs:List Int) (h0_:vs=[v,.ref l]) (h1_:RS H v s) (h2_:s.ok xs.length) (h3_:H l=some (.lst (xs.map V.int))) (h4_:Q (.int (s.worth xs)) H):lY vs H Q E
inductive sP(vs:List V)(H:Hp)(Q:VK)(E:XK):Prop
 |mk (v:V) (l:Addr) (s:Sd) (xs:List Int) (h0_:vs=[v,.ref l]) (h1_:RS H v s) (h2_:s.ok xs.length) (h3_:H l=some (.lst (xs.map V.int))) (h4_:Q (.int (s.worth xs)) H):sP vs H Q E
inductive eQ(a:Adr)(n:Nat)(vs:List V)(H:Hp)(Q:VK)(E:XK):Prop
 |mk (v:V) (l:Addr) (r:PR) (xs:List Int) (h0_:vs=[v,.ref l]) (h1_:r.kind=n) (h2_:RPt a H v r) (h3_:r.ok) (h4_:H l=some (.lst (xs.map V.int))) (h5_:xs.length=r.wide) (h6_:(∀x∈xs,OnW x)) (h7_:∀H' l' us,a8 H H'->H l'=none->H' l'=some (.lst us)->fB H us->RPs H' us (r.made xs)->Q (.ref l') H'):eQ a n vs H Q E
inductive lX(a:Adr)(vs:List V)(H:Hp)(Q:VK)(E:XK):Prop
 |mk (H0:Hp) (v:V) (r:PR) (h0_:vs=[v]) (h1_:a8 H0 H) (h2_:RR H0 v r) (h3_:∀H' p,a8 H H'->H p=none->(∀K0,a8 H0 K0->(∀x o,H x=none->H' x=some o->K0 x=some o)->RPt a K0 (.ref p) r)->Q (.ref p) H'):lX a vs H Q E
inductive gK(a:Adr)(m:Bool)(vs:List V)(H:Hp)(Q:VK)(E:XK):Prop
 |mk (C:PlC) (S:PlS) (v:V) (r:PR) (qs:List (Addr×Addr×Addr)) (ls:List (Option Int)) (h0_:vs=[v,.ref C.y]) (h1_:decide (r.kind=3)=m) (h2_:RPt a H v r) (h3_:r.ok) (h4_:r.fit C.nl) (h5_:RY a H C.y C.dy C.la C.lq qs ((List.range C.nl).map S.st) ls) (h6_:∀H' t,a8 H H'->(H' t=some (.tup ((ao S r).map V.int)))->Q (.ref t) H'):gK a m vs H Q E
def RPc(H:Hp)(v:V)(pace:List (List Int)):Prop:=(v=.non/\pace=[])\/∃pc pv,v=.ref pc/\H pc=some (.lst pv)/\RIs H pv pace
inductive mi(K:W.Frag)(vs:List V)(H:Hp)(Q:VK)(E:XK):Prop
 |mk (l:Addr) (ns:List Int) (k:Int) (h0_:vs=[.ref l,.int k]) (h1_:SqL K H l (ns.map V.int)) (h2_:0<=k) (h3_:∀c:Int,Q (.int c) H):mi K vs H Q E
inductive sG(vs:List V)(H:Hp)(Q:VK)(E:XK):Prop
 |mk (c k:Int) (h0_:vs=[.int c,.int k]) (h1_:(0<=k/\k<=2147483647)) (h2_:∀m:Int,OnW m->Q (.int m) H):sG vs H Q E
inductive sR(vs:List V)(H:Hp)(Q:VK)(E:XK):Prop
 |mk (c k:Int) (h0_:vs=[.int c,.int k]) (h1_:(0<=k/\k<=1000)) (h2_:∀H' p t (x:Ln),a8 H H'->H' p=some (.tup [bg x.1,.ref t])->H' t=some (.tup (x.2.map V.int))->x.2.length<=4->(∀n∈x.2,OnW n)->Q (.ref p) H'):sR vs H Q E
inductive sM(vs:List V)(H:Hp)(Q:VK)(E:XK):Prop
 |mk (c k:Int) (h0_:vs=[.int c,.int k]) (h1_:(0<=k/\k<=1000)) (h2_:∀H' l (xs:List Int),a8 H H'->H l=none->H' l=some (.lst (xs.map V.int))->(∀x∈xs,0<=x)->xs.length<=4->Q (.ref l) H'):sM vs H Q E
inductive fI(K:W.Frag)(vs:List V)(H:Hp)(Q:VK)(E:XK):Prop
 |mk (a:Addr) (ns:List Int) (h0_:vs=[.ref a]) (h1_:SqL K H a (ns.map V.int)) (h2_:ns.length<=63) (h3_:(∀n∈ns,Builtin.Int.intBits n<=2 ^ 20)) (h4_:iI H) (h5_:∀H',Q (.bl true) H'):fI K vs H Q E
theorem ln0:0<=sizeLine:=qq _
theorem ln1:1<=sizeLine:=Qy
theorem ln2:2<=sizeLine:=Qy
theorem kc:3<=sizeLine:=Qy
theorem ln4:4<=sizeLine:=Qy
section
variable {P:Program}{w:World}{K:W.Frag}{mg:Str->Option Value}{base:Heap}{a:Adr}
theorem gq{v u:V}:List.lookup ("laid":Str) [(("laid":Str),v),("gone",u)]=some v:=cO
theorem gu{v u:V}:List.lookup ("gone":Str) [(("laid":Str),v),("gone",u)]=some u:=(aN Qx).trans cO
theorem fb{k:Str}{v u:V}(h:((k == ("laid":Str)) || (k == ("gone":Str)))=false):List.lookup k [(("laid":Str),v),("gone",u)]=none:=by
 rw[Bool.or_eq_false_iff]at h;rw[aN h.1,aN h.2]
 rfl
theorem wV{v u:V}:List.lookup ("lengths":Str) [(("lengths":Str),v),("queues",u)]=some v:=cO
theorem gp{v u:V}:List.lookup ("queues":Str) [(("lengths":Str),v),("queues",u)]=some u:=(aN Qx).trans cO
theorem eB{k:Str}{v u:V}(h:((k == ("lengths":Str)) || (k == ("queues":Str)))=false):List.lookup k [(("lengths":Str),v),("queues",u)]=none:=by
 rw[Bool.or_eq_false_iff]at h;rw[aN h.1,aN h.2]
 rfl
theorem vW(T:Tx P w K mg a):aC P w K mg base CX0 1 a.zP a.zQ ["self","things"] (mD K a):=by
 refine T.Cf.ok tP (λvs H Q E h=>?_) (λcdv A outer s H vs Q E hr h=>?_)
 ·obtain⟨_,_,_,_,rfl,_⟩:=h
  rfl
 obtain⟨p,dx,t,xs,rfl,hp,ht,k⟩:=h
 refine⟨_,(ac (bp (pq 0) (f6 fX U T.wP PyProof.Rows.Boot.«list» (a0 (pq 1) a9)) U)
  (af (bp (pq 0) aa U))),?_⟩
 refine⟨_,U,t,_,U,.inr ht,λl hl=>?_⟩;have ne:p≠l:=λz=>by rw[z,hl]at hp;cases hp
 refine⟨_,U,p,a.mt,dx,[],U,by rw[ag ne];exact hp,T.r6,T.zk,by simp,?_⟩;rw[c3 [] U Qx,Qi];refine⟨_,U,p,a.mt,dx,_,U,ae,T.r6,T.ze,by simp,?_⟩;rw[c3 ["laid"] U Qx,cE];exact k l hl
theorem nV(T:Tx P w K mg a):aC P w K mg base CX0 1 a.zR a.zS ["self"] (my a):=by
 refine T.Ci.ok tL (λvs H Q E h=>?_) (λcdv A outer s H vs Q E hr h=>?_)
 ·obtain⟨_,_,rfl,_⟩:=h
  rfl
 obtain⟨q,st,rfl,⟨h1,h2,h3,h4⟩,k⟩:=h;refine⟨_,(af (ar (ah cF (aZ bB U T.ld Q5 (a0 (az (pq 0) U) a9)) (az (pq 0) U)))),?_⟩;refine⟨_,U,q.1,_,_,_,_,U,h1,T.r6,T.zk,gq,q.2.2,_,U,.inl (SqL.of h2),?_⟩;refine⟨_,U,q.1,_,_,_,_,U,h1,T.r6,T.ze,gu,_,_,U,U,?_⟩;rw[q4];exact k
theorem vV(T:Tx P w K mg a):aC P w K mg base CX0 2 a.zT a.zU ["self"] (mC a):=by
 refine T.Cj.ok tO (λvs H Q E h=>?_) (λcdv A outer s H vs Q E hr h=>?_)
 ·obtain⟨_,_,rfl,_⟩:=h
  rfl
 obtain⟨q,st,rfl,rq,k⟩:=h;refine⟨_,(af (ar (dM (aF hG (dZ (pq 0) T.r6 T.BW (nV T) (hr.mono Qy) T.By .nil aE) aa (aB _)) (am aP (az (pq 0) U) (az (pq 0) U) Oy) cM))),?_⟩;obtain⟨h1,h2,h3,h4⟩:=id rq;refine⟨_,U,q.1,_,_,U,h1,fb Qx,q,st,U,rq,_,_,U,U,_,U,?_⟩;unfold iz at k;refine bJ (λc=>?_) (λc=>?_)
 ·have lt:st.2<st.1.length:=by
   have:=Qa c;omega
  rw[List.drop_eq_getElem_cons lt]at k;have e1:atI (st.1.map V.int) (st.2:Int)=some (.int st.1[st.2]):=bO (by rw[qC,qa lt];rfl);exact⟨_,U,q.1,_,_,_,_,U,h1,T.r6,T.zk,gq,_,U,q.1,_,_,_,_,U,h1,T.r6,T.ze,gu,q.2.2,_,_,_,U,U,SqL.of h2,e1,k⟩
 ·have le:st.1.length<=st.2:=by
   have:=c;simp at this;omega
  rw[List.drop_of_length_le le]at k;exact k
theorem xh{xs:List Int}(h:xs.length<=10000000):(xs.map V.int).length<sizeLine:=by
 have:(10000000:Nat)<sizeLine:=Qy;rw[q4];omega
theorem vU(T:Tx P w K mg a):aC P w K mg base CX0 1 a.zV a.zW ["self","thing"] (mB a):=by
 refine T.Cl.ok tN (λvs H Q E h=>?_) (λcdv A outer s H vs Q E hr h=>?_)
 ·obtain⟨_,_,_,rfl,_⟩:=h
  rfl
 obtain⟨q,st,x,rfl,⟨h1,h2,h3,h4⟩,k⟩:=h;refine⟨_,(af (bQ (cI qe qt qu cX (az (pq 0) U) (a0 (pq 1) a9)))),?_⟩;refine⟨_,U,q.1,_,_,_,_,U,h1,T.r6,T.zk,gq,.inl ⟨U,_,SqL.of h2⟩,_,U,q.2.2,_,_,U,U,h2,xh h4,?_⟩;rw[qM]at k;exact k
theorem vS(T:Tx P w K mg a):aC P w K mg base CX0 1 a.zX a.zY ["self"] (mx a):=by
 refine T.Cn.ok mW (λvs H Q E h=>?_) (λcdv A outer s H vs Q E hr h=>?_)
 ·obtain⟨_,_,_,rfl,_⟩:=h
  rfl
 obtain⟨q,st,x,rfl,⟨h1,h2,h3,h4⟩,hx,k⟩:=h
 refine⟨_,(ac (aS (i:=1) mW.nd U Oi (am aP (az (pq 0) U) (az (pq 0) U) Oy))
  (ac (bp (pq 0) (ah bH (az (pq 0) U) aa) U)
  (af (ar (pq 1))))),?_⟩
 have e1:atI (st.1.map V.int) (st.2:Int)=some (.int x):=bO (by rw[qC,hx];rfl);refine⟨_,U,q.1,_,_,_,_,U,h1,T.r6,T.zk,gq,_,U,q.1,_,_,_,_,U,h1,T.r6,T.ze,gu,q.2.2,_,_,_,U,U,SqL.of h2,e1,?_⟩;refine⟨_,U,q.1,_,_,_,_,U,h1,T.r6,T.ze,gu,_,_,U,U,_,U,q.1,_,_,_,U,h1,T.r6,T.ze,by simp,?_⟩;refine⟨_,U,?_⟩
 have e2:bo (("gone":Str)) (V.int ((st.2:Int)+1)) [(("laid":Str),V.ref q.2.2),(("gone":Str),V.int st.2)]=[(("laid":Str),V.ref q.2.2),(("gone":Str),V.int ((st.2+1:Nat):Int))]:=by
  rw[bo,qX Qx,bo,qY U]
  rfl
 rw[e2];exact k
theorem vT(T:Tx P w K mg a):aC P w K mg base CX0 1 a.zZ a.A0 ["self"] (mz a):=by
 refine T.Cp.ok tM (λvs H Q E h=>?_) (λcdv A outer s H vs Q E hr h=>?_)
 ·obtain⟨_,_,rfl,_⟩:=h
  rfl
 obtain⟨q,st,rfl,⟨h1,h2,h3,h4⟩,k⟩:=h;refine⟨_,(af (ar (dY eS (az (pq 0) U) (dJ (az (pq 0) U)) eY))),?_⟩;refine⟨_,U,q.1,_,_,_,_,U,h1,T.r6,T.zk,gq,_,U,q.1,_,_,_,_,U,h1,T.r6,T.ze,gu,_,U,q.2.2,_,U,SqL.of h2,λl hl=>?_⟩
 have e:bT (st.1.map V.int) (some (st.2:Int)) none=(st.1.drop st.2).map V.int:=by
  unfold bT;rw[HT.sIx_nat];have e2:HT.sIx (st.1.map V.int).length (st.1.map V.int).length none=(st.1.map V.int).length:=U;rw[e2,q4,Nat.min_eq_left h3,List.map_drop,List.take_of_length_le (by rw[qW,q4];omega)]
 rw[e];exact k l hl
theorem RQ.same{H H':Hp}{q:Addr×Addr×Addr}{s:List Int×Nat}(e:a8 H H')(h:RQ a H q s):RQ a H' q s:=⟨e _ _ h.1,e _ _ h.2.1,h.2.2.1,h.2.2.2⟩
theorem RY.at{H:Hp}{y dx la lq:Addr}{qs:List (Addr×Addr×Addr)}{st:List (List Int×Nat)}{ls:List (Option Int)}(h:RY a H y dx la lq qs st ls){i:Int}{s:List Int×Nat}(h0:0<=i)(hs:st[i.toNat]?=some s):∃q,qs[i.toNat]?=some q/\RQ a H q s/\atI (qs.map λq=>V.ref q.1) i=some (.ref q.1):=by
 have lt:i.toNat<qs.length:=by
  have:=(qd.mp hs).1;have:=h.n;omega
 have e:qs[i.toNat]?=some qs[i.toNat]:=qa lt;have ei:i=(i.toNat:Int):=(Int.toNat_of_nonneg h0).symm;refine⟨_,e,h.q _ _ _ e hs,?_⟩;exact gC h0 (by rw[qC,e];rfl)
theorem vO(T:Tx P w K mg a):aC P w K mg base CX0 3 a.Aa a.Ab ["self","line"] (mr a):=by
 refine T.CB.ok tI (λvs H Q E h=>?_) (λcdv A outer s H vs Q E hr h=>?_)
 ·obtain⟨_,_,_,_,_,_,_,_,_,rfl,_⟩:=h
  rfl
 obtain⟨y,dx,la,lq,qs,st,ls,i,s,rfl,ry,i0,hs,k⟩:=h;refine⟨_,(af (ar (dZ (am aP (az (pq 0) U) (pq 1) Oy) T.r6 T.DM (vV T) (hr.mono Qy) T.Ck .nil aE))),?_⟩;obtain⟨q,hq,rq,e⟩:=ry.at i0 hs;exact⟨_,U,y,_,_,_,_,U,ry.o,T.wE,T.zm,gp,_,U,lq,_,_,_,U,U,SqL.of ry.l,e,q.1,_,_,U,rq.1,fb Qx,q,s,U,rq,k⟩
theorem vN(T:Tx P w K mg a):aC P w K mg base CX0 3 a.Ac a.Ad ["self","line","thing"] (mq a):=by
 refine T.CD.ok tH (λvs H Q E h=>?_) (λcdv A outer s H vs Q E hr h=>?_)
 ·obtain⟨_,_,_,_,_,_,_,_,_,_,_,rfl,_⟩:=h
  rfl
 obtain⟨y,dx,la,lq,qs,st,ls,i,x,q,s,rfl,ry,i0,hs,hq',k⟩:=h;refine⟨_,(af (bQ (cN (am aP (az (pq 0) U) (pq 1) Oy) T.r6 T.DN (vU T) (hr.mono Qy) T.Cm .nil aE (a0 (pq 2) a9)))),?_⟩;obtain⟨q2,hq,rq,e⟩:=ry.at i0 hs;rw[hq']at hq;cases hq;exact⟨_,U,y,_,_,_,_,U,ry.o,T.wE,T.zm,gp,_,U,lq,_,_,_,U,U,SqL.of ry.l,e,q.1,_,_,U,rq.1,fb Qx,_,U,q,s,x,U,rq,k⟩
theorem vK(T:Tx P w K mg a):aC P w K mg base CX0 3 a.Ae a.Af ["self","line"] (mj a):=by
 refine T.CG.ok tE (λvs H Q E h=>?_) (λcdv A outer s H vs Q E hr h=>?_)
 ·obtain⟨_,_,_,_,_,_,_,_,_,_,_,rfl,_⟩:=h
  rfl
 obtain⟨y,dx,la,lq,qs,st,ls,i,x,q,s,rfl,ry,i0,hs,hq',hx,k⟩:=h;refine⟨_,(af (ar (dZ (am aP (az (pq 0) U) (pq 1) Oy) T.r6 T.DO (vS T) (hr.mono Qy) T.Co .nil aE))),?_⟩;obtain⟨q2,hq,rq,e⟩:=ry.at i0 hs;rw[hq']at hq;cases hq;exact⟨_,U,y,_,_,_,_,U,ry.o,T.wE,T.zm,gp,_,U,lq,_,_,_,U,U,SqL.of ry.l,e,q.1,_,_,U,rq.1,fb Qx,q,s,x,U,rq,hx,k⟩
theorem nU(T:Tx P w K mg a):aC P w K mg base CX0 2 a.A6 a.A7 ["self","line"] (mo a):=by
 refine T.Cy.ok tG (λvs H Q E h=>?_) (λcdv A outer s H vs Q E hr h=>?_)
 ·obtain⟨_,_,_,_,_,_,_,_,_,rfl,_⟩:=h
  rfl
 obtain⟨y,dx,la,lq,qs,st,ls,i,s,rfl,ry,i0,hs,k⟩:=h;refine⟨_,(af (ar (dZ (am aP (az (pq 0) U) (pq 1) Oy) T.r6 T.BW (nV T) (hr.mono Qy) T.By .nil aE))),?_⟩;obtain⟨q,hq,rq,e⟩:=ry.at i0 hs;exact⟨_,U,y,_,_,_,_,U,ry.o,T.wE,T.zm,gp,_,U,lq,_,_,_,U,U,SqL.of ry.l,e,q.1,_,_,U,rq.1,fb Qx,q,s,U,rq,k⟩
theorem vM(T:Tx P w K mg a):aC P w K mg base CX0 3 a.A8 a.A9 ["self","line"] (mn a):=by
 refine T.Cz.ok mV (λvs H Q E h=>?_) (λcdv A outer s H vs Q E hr h=>?_)
 ·obtain⟨_,_,_,_,_,_,_,_,_,_,rfl,_⟩:=h
  rfl
 obtain⟨y,dx,la,lq,qs,st,ls,i,s,L,rfl,ry,i0,hs,hL,k⟩:=h
 refine⟨_,(ac (aS (i:=2) mV.nd U Oi (am aP (az (pq 0) U) (pq 1) Oy))
  (af (ar (uS (eZ fV (pq 2) cM (aB _)) (uT (eZ hE (cN (pq 0) T.wE T.BX (nU T) (hr.mono Qy) T.BB .nil aE (a0 (pq 1) a9)) (pq 2) (aB _))))))),?_⟩
 have e:atI (ls.map bg) i=some (bg L):=gC i0 (by rw[qC,hL];rfl);refine⟨_,U,y,_,_,_,_,U,ry.o,T.wE,T.BY,wV,_,U,la,_,_,_,U,U,SqL.of ry.w,e,?_⟩
 cases L with
 |none=>exact⟨_,U,U,_,U,bC U k⟩
 |some m=>exact⟨_,U,U,_,U,aI U ⟨_,U,y,_,_,U,ry.o,eB Qx,_,U,y,dx,la,lq,qs,st,ls,i,s,U,ry,i0,hs,_,U,_,_,U,U,k⟩⟩
theorem vL(T:Tx P w K mg a):aC P w K mg base CX0 3 a.Ag a.Ah ["self"] (ml a):=by
 refine T.CI.ok tF (λvs H Q E h=>?_) (λcdv A outer s H vs Q E hr h=>?_)
 ·obtain⟨_,_,_,_,_,_,_,rfl,_⟩:=h
  rfl
 obtain⟨y,dx,la,lq,qs,st,ls,rfl,ry,few,k⟩:=h;refine⟨_,(af (ar (cm (k:=1) (Nc:=["queue"]) (js:=[]) (show aO (aj gW) ["self"] _ 1 ["queue"] []from aO.mk U (by decide +kernel) (by decide +kernel) (by decide +kernel) U (by decide +kernel)) U (cb (az (pq 0) U)) (λ_ _ _ _ _=>(aU (i:=0) (show List.Nodup (["queue"]:List Str)from by decide +kernel) U Oi)) (λ_ _ _ _ _=>c4) (λ_ _ _ _ _=>(dZ (pq 0) T.r6 T.DP (vT T) (hr.mono Qy) T.Cq .nil aE))))),?_⟩;have hl:=ry.l;have ql:(qs.map λq=>V.ref q.1).length=qs.length:=q4 _;refine⟨_,U,y,_,_,_,_,U,ry.o,T.wE,T.zm,gp,lq,U,⟨_,SqL.of hl⟩,?_⟩;refine dA (xs:=qs.map λq=>V.ref q.1) (λi ys σ H3=>(∃v,σ=[v])/\a8 H H3/\RIs H3 ys (dH (st.take i))/\fB H ys) ⟨⟨none,U⟩,a8.refl _,.nil,λp h=>by simp at h⟩ ?_ (bq (m:=1000) Qz) ?_ ?_ ?_
 ·rintro i ys σ H3 _ ⟨_,_,r3,_⟩;rw[r3.len];unfold dH;rw[q4,qI];omega
 ·rintro i ys σ H3 ⟨_,s3,_⟩;exact SqL.of (s3 _ _ hl)
 ·rintro i x ys σ H3 hx ⟨⟨v,rfl⟩,s3,r3,an⟩;rw[qC]at hx;obtain⟨q,hq,rfl⟩:=qN.mp hx
  have li:i<st.length:=by
   have:=(qd.mp hq).1;have:=ry.n;omega
  have hs:st[i]?=some st[i]:=qa li;have rq:=(ry.q i q _ hq hs).same s3;refine⟨_,U,q.1,_,_,U,rq.1,fb Qx,q,_,U,rq,λl hl'=>⟨⟨_,U⟩,s3.trans (a8.new hl' _),?_,λp hp=>?_⟩⟩
  ·have tk:dH (st.take (i+1))=dH (st.take i)++[st[i].1.drop st[i].2]:=by
    unfold dH;rw[qp,hs,qM]
    rfl
   rw[tk];exact(r3.same (a8.new hl' _)).snoc ae
  ·rcases qf.mp hp with hp|hp
   ·exact an p hp
   ·cases qQ.mp hp;exact a8.none s3 hl'
 rintro ys σ3 H3 ⟨_,s3,r3,an⟩ l hl';rw[ql,ry.n,qF]at r3;exact k _ l ys (s3.trans (a8.new hl' _)) (a8.none s3 hl') ae (r3.same (a8.new hl' _)) an
theorem vP(T:Tx P w K mg a):aC P w K mg base CX0 3 a.A4 a.A5 ["self","lines"] (ms a):=by
 refine T.Cv.ok tJ (λvs H Q E h=>?_) (λcdv A outer s H vs Q E hr h=>?_)
 ·obtain⟨_,_,_,_,_,rfl,_⟩:=h
  rfl
 obtain⟨p,dx,l,us,xs0,rfl,hp,hl,hln,few,sm,k⟩:=h
 refine⟨_,(ac (bp (pq 0) (cm (k:=2) (Nc:=["length","first"]) (js:=[]) (show aO (aj fS) ["self","lines"] _ 2 ["length","first"] []from aO.mk U (by decide +kernel) (by decide +kernel) (by decide +kernel) U (by decide +kernel)) U (cb (pq 1)) (λ_ _ _ _ _=>(gc 2 U (bZ (aU (i:=0) (show List.Nodup (["length","first"]:List Str)from by decide +kernel) U Oi) (bZ (aU (i:=1) (show List.Nodup (["length","first"]:List Str)from by decide +kernel) U Oi) dL)))) (λ_ _ _ _ _=>c4) (λ_ _ _ _ _=>(pq 0))) U)
  (af (bp (pq 0) (cm (k:=2) (Nc:=["length","first"]) (js:=[]) (show aO (aj fS) ["self","lines"] _ 2 ["length","first"] []from aO.mk U (by decide +kernel) (by decide +kernel) (by decide +kernel) U (by decide +kernel)) U (cb (pq 1)) (λ_ _ _ _ _=>(gc 2 U (bZ (aU (i:=0) (show List.Nodup (["length","first"]:List Str)from by decide +kernel) U Oi) (bZ (aU (i:=1) (show List.Nodup (["length","first"]:List Str)from by decide +kernel) U Oi) dL)))) (λ_ _ _ _ _=>c4) (λ_ _ _ _ _=>(e8 T.DL (vW T) (hr.mono Qy) U T.DK T.Cg .nil aE (a0 (pq 1) a9)))) U))),?_⟩
 have ul:=hln.len;refine⟨_,U,l,U,⟨_,SqL.of hl⟩,?_⟩;refine dA (xs:=us) (λi ys σ H3=>(∃v v',σ=[v,v'])/\H3=H/\ys=(xs0.take i).map λx=>bg x.1) ⟨⟨none,none,U⟩,U,U⟩ ?_ (bq (m:=1000) Qz) ?_ ?_ ?_
 ·rintro i ys σ H3 _ ⟨_,_,rfl⟩;rw[q4,qI];omega
 ·rintro i ys σ H3 ⟨_,rfl,_⟩;exact SqL.of hl
 ·rintro i x ys σ H3 hx ⟨⟨v,v',rfl⟩,rfl,hy⟩;obtain⟨px,t,xl,rfl,hi,h1,h2⟩:=hln.at i x hx;refine⟨px,_,U,SqT.of h1,U,_,_,U,_,_,U,U,?_⟩;exact⟨_,U,⟨_,_,U⟩,U,by rw[hy,qp,hi,qM];rfl⟩
 rintro ys σ3 H3 ⟨_,rfl,hy⟩ la hla;rw[ul,qF]at hy;have nla:p≠la:=λz=>by rw[z,hla]at hp;cases hp
 have s1:a8 H3 (upd H3 la (.lst ys)):=a8.new hla _;refine⟨_,U,p,a.om,dx,[],U,by rw[ag nla];exact hp,T.wE,T.BY,by simp,?_⟩;rw[c3 [] U Qx,Qi]
 have keep:∀b o,b≠p->H3 b=some o->(upd (upd H3 la (.lst ys)) p (.ins a.om dx [("lengths",.ref la)])) b=some o:=λb o nb hb=>by
  rw[ag nb];exact s1 _ _ hb
 have new:∀b,(upd (upd H3 la (.lst ys)) p (.ins a.om dx [("lengths",.ref la)])) b=none->H3 b=none/\b≠p/\b≠la:=λb hb=>by
  have nb:b≠p:=λz=>by rw[z,ae]at hb;cases hb
  have nl:b≠la:=λz=>by rw[ag nb,z,ae]at hb;cases hb
  rw[ag nb,ag nl]at hb;exact⟨hb,nb,nl⟩
 have hp4:(upd (upd H3 la (.lst ys)) p (.ins a.om dx [("lengths",.ref la)])) p=some (.ins a.om dx [("lengths",.ref la)]):=ae;have ntup:∀b xs,H3 b=some (.tup xs)->b≠p:=λb xs hb z=>by rw[z,hp]at hb;cases hb
 have nlst:∀b xs,H3 b=some (.lst xs)->b≠p:=λb xs hb z=>by rw[z,hp]at hb;cases hb
 have hla4:(upd (upd H3 la (.lst ys)) p (.ins a.om dx [("lengths",.ref la)])) la=some (.lst ys):=by rw[ag (Ne.symm nla)];exact ae
 generalize upd (upd H3 la (.lst ys)) p (.ins a.om dx [("lengths",.ref la)])=H4 at keep new hp4 hla4 ⊢;have hl4:H4 l=some (.lst us):=keep _ _ (nlst _ _ hl) hl;refine⟨_,U,l,U,⟨_,SqL.of hl4⟩,?_⟩
 refine dA (xs:=us) (λi ys σ H5=>(∃v v',σ=[v,v'])/\a8 H4 H5/\∃qs:List (Addr×Addr×Addr),ys=qs.map (λq=>V.ref q.1)/\qs.length=(xs0.take i).length/\(∀(j:Nat) q s,qs[j]?=some q->(ci (xs0.take i))[j]?=some s->RQ a H5 q s)/\(qs.map λq=>q.2.2).Nodup/\(qs.map λq=>q.1).Nodup/\∀q∈qs,H4 q.2.2=none/\H4 q.1=none)
  ⟨⟨none,none,U⟩,a8.refl _,[],U,U,λj q s h=>by simp at h,List.nodup_nil,List.nodup_nil,λq h=>by simp at h⟩ ?_ (bq (m:=1000) Qz) ?_ ?_ ?_
 ·rintro i ys σ H5 _ ⟨_,_,qs,rfl,h,_⟩;rw[q4,h,qI];omega
 ·rintro i ys σ H5 ⟨_,s5,_⟩;exact SqL.of (s5 _ _ hl4)
 ·rintro i x ys σ H5 hx ⟨⟨v,v',rfl⟩,s5,qs,rfl,ql,hq,nd1,nd2,fr⟩;obtain⟨px,t,xl,rfl,hi,h1,h2⟩:=hln.at i x hx;have h1':=s5 _ _ (keep _ _ (ntup _ _ h1) h1);have h2':=s5 _ _ (keep _ _ (ntup _ _ h2) h2);refine⟨px,_,U,SqT.of h1',U,_,_,U,_,_,U,U,?_⟩;refine⟨_,U,λo dq ho hdq ndo=>?_⟩;have nt:t≠dq:=λz=>by rw[z,hdq]at h2';cases h2'
  have nt':t≠o:=λz=>by rw[z,ho]at h2';cases h2'
  refine⟨o,dq,t,xl.2,U,ae,SqT.of (by rw[ag nt',ag nt];exact h2'),λll hll=>⟨U,?_⟩⟩;have nlo:ll≠o:=λz=>by rw[z,ae]at hll;cases hll
  have nld:ll≠dq:=λz=>by rw[ag nlo,z,ae]at hll;cases hll
  have hll5:H5 ll=none:=by rw[ag nlo,ag nld]at hll;exact hll
  have s6:a8 H5 (upd (upd (upd (upd H5 dq (.own o)) o (.ins a.mt dq [])) ll (.lst (xl.2.map V.int))) o (.ins a.mt dq [("laid",.ref ll),("gone",.int 0)])):=λb ob hb=>by
   have n1:b≠o:=λz=>by rw[z,ho]at hb;cases hb
   have n2:b≠dq:=λz=>by rw[z,hdq]at hb;cases hb
   have n3:b≠ll:=λz=>by rw[z,hll5]at hb;cases hb
   rw[ag n1,ag n3,ag n1,ag n2];exact hb
  have none4:∀b,H5 b=none->H4 b=none:=λb hb=>a8.none s5 hb
  have inH5:∀q∈qs,(∃z,H5 q.1=some z)/\∃z,H5 q.2.2=some z:=λq hm=>by
   obtain⟨j,hj,ej⟩:=List.mem_iff_getElem.mp hm;have e1:qs[j]?=some q:=by rw[qa hj,ej]
   have lt:j<(ci (xs0.take i)).length:=by unfold ci;rw[q4,<- ql];exact hj
   have r:=hq j q _ e1 (qa lt);exact⟨⟨_,r.1⟩,_,r.2.1⟩
  have rnew:RQ a (upd (upd (upd (upd H5 dq (.own o)) o (.ins a.mt dq [])) ll (.lst (xl.2.map V.int))) o (.ins a.mt dq [("laid",.ref ll),("gone",.int 0)])) (o,dq,ll) (xl.2,0):=
   ⟨ae,by rw[ag nlo];exact ae,qq _,qw (sm xl (qx hi)) Qy⟩
  refine⟨⟨_,_,U⟩,s5.trans s6,qs++[(o,dq,ll)],by rw[qM];rfl,by rw[qp,hi];simp[ql],λj q s hj hs=>?_,?_,?_,λq hm=>?_⟩
  ·have bt:ci (xs0.take (i+1))=ci (xs0.take i)++[(xl.2,0)]:=by unfold ci;rw[qp,hi,qM];rfl
   have bl:(ci (xs0.take i)).length=qs.length:=by unfold ci;rw[q4,ql]
   rw[bt]at hs;by_cases lt:j<qs.length
   ·rw[Q3 lt]at hj;rw[Q3 Qz]at hs;exact(hq j q s hj hs).same s6
   ·rw[qJ Qz]at hj hs;rw[bl]at hs
    cases ej:j-qs.length with
    |zero=>
     rw[ej]at hj hs;cases qH hj;cases qH hs;exact rnew
    |succ n=>rw[ej]at hj;simp at hj
  ·rw[qM,List.nodup_append];refine⟨nd1,by simp,λx hx y hy z=>?_⟩;obtain⟨q,hm,rfl⟩:=List.mem_map.mp hx;obtain⟨_,w',hw'⟩:=inH5 q hm;simp at hy;subst hy;rw[z,hll5]at hw';cases hw'
  ·rw[qM,List.nodup_append];refine⟨nd2,by simp,λx hx y hy z=>?_⟩;obtain⟨q,hm,rfl⟩:=List.mem_map.mp hx;obtain⟨⟨w',hw'⟩,_⟩:=inH5 q hm;simp at hy;subst hy;rw[z,ho]at hw';cases hw'
  ·rcases qf.mp hm with hm|hm
   ·exact fr q hm
   ·rw[qQ.mp hm];exact⟨none4 _ hll5,none4 _ ho⟩
 rintro ys2 σ5 H5 ⟨_,s5,qs,rfl,ql,hq,nd1,nd2,fr⟩ lq hlq;rw[ul,qF]at ql hq;have s6:=s5.trans (a8.new hlq (.lst (qs.map λq=>V.ref q.1)))
 have nq:p≠lq:=λz=>by
  have:=s5 _ _ hp4;rw[z,hlq]at this;cases this
 refine⟨_,U,p,a.om,dx,_,U,s6 _ _ hp4,T.wE,T.zm,by simp,?_⟩;rw[c3 ["lengths"] U Qx];have up:∀b o,b≠p->(upd H5 lq (.lst (qs.map λq=>V.ref q.1))) b=some o->(upd (upd H5 lq (.lst (qs.map λq=>V.ref q.1))) p (.ins a.om dx ([(("lengths":Str),V.ref la)]++[(("queues":Str),V.ref lq)]))) b=some o:=λb o nb hb=>by rw[ag nb];exact hb
 refine k _ la lq qs (λb o nb hb=>up _ _ nb (s6 _ _ (keep _ _ nb hb))) ⟨ae,up _ _ (Ne.symm nq) ae,by rw[ql];unfold ci;rw[q4],λi q s hi hs=>?_,?_,by unfold ci;rw[q4,q4]⟩ nd1 nd2 (λq hm=>⟨(new _ (fr q hm).1).1,(new _ (fr q hm).2).2.1,(new _ (fr q hm).2).1⟩) ⟨(new _ (a8.none s5 hlq)).1,?_⟩ ⟨hla,?_⟩
 ·have r:=(hq i q s hi hs).same (a8.new hlq (.lst (qs.map λq=>V.ref q.1)));have fq:=fr q (qx hi);exact⟨up _ _ (new _ fq.2).2.1 r.1,up _ _ (new _ fq.1).2.1 r.2.1,r.2.2⟩
 ·refine up _ _ (Ne.symm nla) (s6 _ _ ?_);rw[hla4,hy,List.map_map]
  rfl
 ·intro hm;obtain⟨q,hm,e⟩:=List.mem_map.mp hm;obtain⟨j,hj,ej⟩:=List.mem_iff_getElem.mp hm;have lt:j<(ci xs0).length:=by unfold ci;rw[q4,<- ql];exact hj
  have r:=hq j q _ (by rw[qa hj,ej]) (qa lt);have:=r.2.1;rw[e,hlq]at this;cases this
 ·intro hm;obtain⟨q,hm,e⟩:=List.mem_map.mp hm;have:=(new _ (fr q hm).1).2.2;exact this e
theorem i9(T:Tx P w K mg a):aC P w K mg base CX0 1 a.zB a.Ai ["self","ins"] (mL a):=by
 refine T.CK.ok tV (λvs H Q E h=>?_) (λcdv A outer s H vs Q E hr h=>?_)
 ·obtain⟨_,_,_,_,rfl,_⟩:=h
  rfl
 obtain⟨p,C,dx,u,rfl,hp,hC,k⟩:=h;refine⟨_,(af (bp (pq 0) (pq 1) U)),?_⟩
 have cn:Cls K C/\aV K C "ins":=by
  rcases hC with rfl|rfl|rfl|rfl
  ·exact⟨T.zd,T.BZ⟩
  ·exact⟨T.zc,T.C3⟩
  ·exact⟨T.wS,T.C6⟩
  ·exact⟨T.wT,T.zH⟩
 exact⟨_,U,_,U,p,C,dx,[],U,hp,cn.1,cn.2,by simp,k⟩
theorem wa(T:Tx P w K mg a):aC P w K mg base CX0 2 a.Ak a.Al ["self","ins","outs","route"] (mK a):=by
 refine T.CM.ok tT (λvs H Q E h=>?_) (λcdv A outer s H vs Q E hr h=>?_)
 ·obtain⟨_,_,_,_,_,rfl,_⟩:=h
  rfl
 obtain⟨p,dx,u,v,x,rfl,hp,k⟩:=h
 refine⟨_,(ac (bQ (i6 U T.zG T.zO (i9 T) (hr.mono Qy) T.zC .nil aE (a0 (pq 0) (a0 (pq 1) a9))))
  (ac (bp (pq 0) (pq 2) U)
  (af (bp (pq 0) (pq 3) U)))),?_⟩
 refine⟨_,U,_,U,p,a.wp,dx,u,U,hp,.inl U,?_⟩;refine⟨_,U,_,U,p,a.wp,dx,_,U,ae,T.zd,T.C1,by simp,?_⟩;rw[c3 ["ins"] U Qx];refine⟨_,U,_,U,p,a.wp,dx,_,U,ae,T.zd,T.C2,by simp,?_⟩;rw[c3 ["ins","outs"] U Qx,cE,cE];exact k
theorem vR(T:Tx P w K mg a):aC P w K mg base CX0 2 a.Ao a.Ap ["self","ins","out","sign","sides"] (mv a):=by
 refine T.CQ.ok tK (λvs H Q E h=>?_) (λcdv A outer s H vs Q E hr h=>?_)
 ·obtain⟨_,_,_,_,_,_,rfl,_⟩:=h
  rfl
 obtain⟨p,dx,u,v,x,y,rfl,hp,k⟩:=h
 refine⟨_,(ac (bQ (i6 U T.zG T.zO (i9 T) (hr.mono Qy) T.zC .nil aE (a0 (pq 0) (a0 (pq 1) a9))))
  (ac (bp (pq 0) (pq 2) U)
  (ac (bp (pq 0) (pq 3) U)
  (af (bp (pq 0) (pq 4) U))))),?_⟩
 refine⟨_,U,_,U,p,a.u8,dx,u,U,hp,.inr (.inl U),?_⟩;refine⟨_,U,_,U,p,a.u8,dx,_,U,ae,T.zc,T.C4,by simp,?_⟩;rw[c3 ["ins"] U Qx];refine⟨_,U,_,U,p,a.u8,dx,_,U,ae,T.zc,T.C5,by simp,?_⟩;rw[c3 ["ins","out"] U Qx];refine⟨_,U,_,U,p,a.u8,dx,_,U,ae,T.zc,T.Bt,by simp,?_⟩;rw[c3 ["ins","out","sign"] U Qx,cE,cE,cE];exact k
theorem wf(T:Tx P w K mg a):aC P w K mg base CX0 2 a.As a.At ["self","ins","which","ones","noughts","told"] (mO a):=by
 refine T.CV.ok tZ (λvs H Q E h=>?_) (λcdv A outer s H vs Q E hr h=>?_)
 ·obtain⟨_,_,_,_,_,_,_,rfl,_⟩:=h
  rfl
 obtain⟨p,dx,u,v,x,y,z,rfl,hp,k⟩:=h
 refine⟨_,(ac (bQ (i6 U T.zG T.zO (i9 T) (hr.mono Qy) T.zC .nil aE (a0 (pq 0) (a0 (pq 1) a9))))
  (ac (bp (pq 0) (pq 2) U)
  (ac (bp (pq 0) (pq 3) U)
  (ac (bp (pq 0) (pq 4) U)
  (af (bp (pq 0) (pq 5) U)))))),?_⟩
 refine⟨_,U,_,U,p,a.or,dx,u,U,hp,.inr (.inr (.inl U)),?_⟩;refine⟨_,U,_,U,p,a.or,dx,_,U,ae,T.wS,T.C7,by simp,?_⟩;rw[c3 ["ins"] U Qx];refine⟨_,U,_,U,p,a.or,dx,_,U,ae,T.wS,T.C8,by simp,?_⟩;rw[c3 ["ins","which"] U Qx];refine⟨_,U,_,U,p,a.or,dx,_,U,ae,T.wS,T.C9,by simp,?_⟩;rw[c3 ["ins","which","ones"] U Qx];refine⟨_,U,_,U,p,a.or,dx,_,U,ae,T.wS,T.Bu,by simp,?_⟩;rw[c3 ["ins","which","ones","noughts"] U Qx,cE,cE,cE,cE];exact k
theorem wd(T:Tx P w K mg a):aC P w K mg base CX0 2 a.Aw a.Ax ["self","told","ones","noughts","outs"] (mN a):=by
 refine T.D0.ok tX (λvs H Q E h=>?_) (λcdv A outer s H vs Q E hr h=>?_)
 ·obtain⟨_,_,_,_,_,_,rfl,_⟩:=h
  rfl
 obtain⟨p,dx,u,v,x,y,rfl,hp,k⟩:=h
 refine⟨_,(ac (bQ (i6 U T.zG T.zO (i9 T) (hr.mono Qy) T.zC .nil aE (a0 (pq 0) (a0 (cw (a0 (pq 1) a9)) a9))))
  (ac (bp (pq 0) (pq 2) U)
  (ac (bp (pq 0) (pq 3) U)
  (af (bp (pq 0) (pq 4) U))))),?_⟩
 refine⟨_,U,_,U,ln1,λt ht=>?_⟩;have ne:p≠t:=λz=>by rw[z,ht]at hp;cases hp
 refine⟨p,a.pi,dx,.ref t,U,by rw[ag ne];exact hp,.inr (.inr (.inr U)),?_⟩;refine⟨_,U,_,U,p,a.pi,dx,_,U,ae,T.wT,T.Ca,by simp,?_⟩;rw[c3 ["ins"] U Qx];refine⟨_,U,_,U,p,a.pi,dx,_,U,ae,T.wT,T.Cc,by simp,?_⟩;rw[c3 ["ins","ones"] U Qx];refine⟨_,U,_,U,p,a.pi,dx,_,U,ae,T.wT,T.Cd,by simp,?_⟩;rw[c3 ["ins","ones","noughts"] U Qx,cE,cE,cE];exact k t ht
theorem vz(T:Tx P w K mg a):aC P w K mg base CX0 1 a.A2 a.A3 ["sign","a","b"] lW:=by
 refine T.BA.ok tq (λvs H Q E h=>?_) (λcdv A outer s H vs Q E hr h=>?_)
 ·obtain⟨_,_,_,rfl,_⟩:=h
  rfl
 obtain⟨sg,x,y,rfl,hx,hy,k⟩:=h
 refine⟨_,(ac (aX (aF ba (pq 0) c0 (aB _)) (af (ar (ah bH (pq 1) (pq 2)))) aW)
  (ac (aX (aF ba (pq 0) c0 (aB _)) (af (ar (ah cF (pq 1) (pq 2)))) aW)
  (ac (aX (aF ba (pq 0) c0 (aB _)) (af (ar (ah cU (pq 1) (pq 2)))) aW)
  (ac (aX (aF ba (pq 0) c0 (aB _)) (af (ar (ah wy (pq 1) (pq 2)))) aW)
  (ac (aX (aF ba (pq 0) c0 (aB _)) (af (ar (ah wn (pq 1) (pq 2)))) aW)
  (af (ar (ah wg (pq 1) (pq 2))))))))),?_⟩
 unfold jI at k;walk_at "rd";refine bJ (λc=>?_) (λc=>?_)
 ·rw[qY (dE c)]at k;walk_at "rd";exact k
 rw[qX (dF c)]at k;walk_at "rd";refine bJ (λc=>?_) (λc=>?_)
 ·rw[qY (dE c)]at k;walk_at "rd";exact k
 rw[qX (dF c)]at k;walk_at "rd";refine bJ (λc=>?_) (λc=>?_)
 ·rw[qY (dE c)]at k;walk_at "rd";exact⟨IntMulOk.of_bits (gF hx) (gF hy),k⟩
 rw[qX (dF c)]at k;walk_at "rd";refine bJ (λc=>?_) (λc=>?_)
 ·rw[qY (dE c)]at k;walk_at "rd";exact k
 rw[qX (dF c)]at k;walk_at "rd";refine bJ (λc=>?_) (λc=>?_)
 ·rw[qY (dE c)]at k;walk_at "rd";exact k
 rw[qX (dF c)]at k;walk_at "rd";exact k
theorem vD(T:Tx P w K mg a):aC P w K mg base CX0 2 a.done a.A1 ["sign","a","b"] m3:=by
 refine T.Bz.ok tw (λvs H Q E h=>?_) (λcdv A outer s H vs Q E hr h=>?_)
 ·obtain⟨_,_,_,rfl,_⟩:=h
  rfl
 obtain⟨sg,x,y,rfl,hx,hy,k⟩:=h
 refine⟨_,(ac (aX (aF ba (pq 0) c0 (aB _)) (af (ar (dM (aF ba (pq 2) aa (aB _)) aa (ah wv (pq 1) (pq 2))))) aW)
  (ac (aX (aF ba (pq 0) c0 (aB _)) (af (ar (dM (aF hE (pq 1) (pq 2) (aB _)) aa aa))) aW)
  (ac (aX (aF ba (pq 0) c0 (aB _)) (af (ar (dM (aF ba (pq 1) (pq 2) (aB _)) aa aa))) aW)
  (af (ar (ah bD (bv (vz T) (hr.mono Qy) U T.Cu T.BA.kp T.Ct .nil aE (a0 (pq 0) (a0 (pq 1) (a0 (pq 2) a9)))) (uW U T.DJ T.r_WHEEL))))))),?_⟩
 unfold fg at k;walk_at "rd";refine bJ (λc=>?_) (λc=>?_)
 ·rw[qY (dE c)]at k;walk_at "rd";refine bJ (λc=>?_) (λc=>?_)
  ·rw[qY (eE c)]at k;exact k
  ·have c':=eF c;rw[qX c']at k;walk_at "rd";exact⟨⟨by have:=hy.lo;omega,qD hy⟩,k⟩
 rw[qX (dF c)]at k;walk_at "rd";refine bJ (λc=>?_) (λc=>?_)
 ·rw[qY (dE c)]at k;walk_at "rd";refine bJ (λc=>?_) (λc=>?_)
  ·rw[qY (Qa c)]at k;exact k
  ·rw[qX (λz=>c (qZ z))]at k;exact k
 rw[qX (dF c)]at k;walk_at "rd";refine bJ (λc=>?_) (λc=>?_)
 ·rw[qY (dE c)]at k;walk_at "rd";refine bJ (λc=>?_) (λc=>?_)
  ·rw[qY (eE c)]at k;exact k
  ·rw[qX (eF c)]at k;exact k
 rw[qX (dF c)]at k;walk_at "rd";refine⟨sg,x,y,U,hx,hy,?_⟩;walk_at "rd";exact k
theorem iJ{xs:List Int}{i:Int}(h0:0<=i)(h1:i<xs.length):atI (xs.map V.int) i=some (.int (xs.getD i.toNat 0)):=by
 have lt:i.toNat<xs.length:=Qz;exact gC h0 (by rw[qC,qa lt,qh,qa lt];rfl)
theorem gE{s:Sd}{xs:List Int}(h:s.ok xs.length)(on:∀x∈xs,OnW x):OnW (s.worth xs):=by
 cases s with
 |num n=>exact h
 |thing i=>
  obtain⟨h0,h1⟩:=h;have lt:i.toNat<xs.length:=Qz;show OnW (xs.getD i.toNat 0);rw[qh,qa lt];exact on _ (List.getElem_mem lt)
theorem fD{H1:Hp}{ts:List Addr}{xs ys:List V}(tl:ts.length=min xs.length ys.length)(at_:∀(j:Nat)(t:Addr)(x y:V),ts[j]?=some t->xs[j]?=some x->ys[j]?=some y->H1 t=none):fB H1 (ts.map V.ref):=λp hp=>by
 obtain⟨q,hq,e⟩:=List.mem_map.mp hp;cases e;obtain⟨j,hj⟩:=List.mem_iff_getElem?.mp hq;have lt:=(qd.mp hj).1;exact at_ j p _ _ hj (qa Qz) (qa Qz)
theorem nR(T:Tx P w K mg a):aC P w K mg base CX0 1 a.AC a.AD ["side","things"] lY:=by
 refine T.Bp.ok tu (λvs H Q E h=>?_) (λcdv A outer s H vs Q E hr h=>?_)
 ·obtain⟨_,_,_,_,rfl,_⟩:=h
  rfl
 obtain⟨v,l,sd,xs,rfl,hs,ok,hl,k⟩:=h;refine⟨_,(af (ar (dM (aF ba (am bj (pq 0) aa Oy) c0 (aB _)) (am aP (pq 1) (am bj (pq 0) aa Oy) Oy) (am bj (pq 0) aa Oy)))),?_⟩
 cases hs with
 |num h=>exact⟨_,U,_,_,_,_,U,U,SqT.of h,U,U,_,U,aI Qx ⟨_,U,_,_,_,_,U,U,SqT.of h,U,k⟩⟩
 |thing h=>exact⟨_,U,_,_,_,_,U,U,SqT.of h,U,U,_,U,bC Qx ⟨_,U,_,U,_,_,_,_,U,U,SqT.of h,U,l,_,_,_,U,U,SqL.of hl,iJ ok.1 ok.2,k⟩⟩
theorem lf2{k1 k2:Str}{u v:V}{r:List (Str×V)}(h:(k2 == k1)=false):List.lookup k2 ((k1,u)::(k2,v)::r)=some v:=(aN h).trans cO
theorem lf3{k1 k2 k3:Str}{u v x:V}{r:List (Str×V)}(h:(k3 == k1)=false)(h':(k3 == k2)=false):List.lookup k3 ((k1,u)::(k2,v)::(k3,x)::r)=some x:=(aN h).trans (lf2 h')
theorem lf4{k1 k2 k3 k4:Str}{u v x y:V}{r:List (Str×V)}(h:(k4 == k1)=false)(h':(k4 == k2)=false)(h2:(k4 == k3)=false):List.lookup k4 ((k1,u)::(k2,v)::(k3,x)::(k4,y)::r)=some y:=(aN h).trans (lf3 h' h2)
theorem lf5{k1 k2 k3 k4 k5:Str}{u v x y z:V}{r:List (Str×V)}(h:(k5 == k1)=false)(h':(k5 == k2)=false)(h2:(k5 == k3)=false)(h3:(k5 == k4)=false):List.lookup k5 ((k1,u)::(k2,v)::(k3,x)::(k4,y)::(k5,z)::r)=some z:=(aN h).trans (lf4 h' h2 h3)
theorem vQ(T:Tx P w K mg a):aC P w K mg base CX0 3 a.Aq a.Ar ["self","things"] (eQ a 1):=by
 refine T.CT.ok j0 (λvs H Q E h=>?_) (λcdv A outer s H vs Q E hr h=>?_)
 ·obtain⟨_,_,_,_,rfl,_⟩:=h
  rfl
 obtain⟨v,l,r,xs,rfl,kd,hp,ok,hl,wide,on,k⟩:=h
 refine⟨_,(ac (aS (i:=2) j0.nd U Oi (bv (nR T) (hr.mono Qy) U T.BD T.Bp.kp T.BC .nil aE (a0 (am bj (az (pq 0) U) aa Oy) (a0 (pq 1) a9))))
  (ac (aS (i:=3) j0.nd U Oi (bv (nR T) (hr.mono Qy) U T.BD T.Bp.kp T.BC .nil aE (a0 (am bj (az (pq 0) U) aa Oy) (a0 (pq 1) a9))))
  (af (ar (bI (a0 (cw (a0 (az (pq 0) U) (a0 (bv (vD T) (hr.mono Qy) U T.Cs T.Bz.kp T.Cr .nil aE (a0 (az (pq 0) U) (a0 (pq 2) (a0 (pq 3) a9)))) a9))) a9)))))),?_⟩
 cases hp with
 |pass _ _ _ _=>simp[PR.kind]at kd
 |choose _ _ _ _=>simp[PR.kind]at kd
 |merge _ _ _ _ _=>simp[PR.kind]at kd
 |work h1 h0 h2 h3 h4=>
  rename_i p dx t0 ts ins out sg sa sb sl sr;obtain⟨_,o1,o2⟩:=ok;change xs.length=ins.length at wide;rw[<- wide]at o1 o2;refine⟨_,U,p,_,_,_,_,U,h1,T.zc,T.Bt,lf4 Qx Qx Qx,ts,_,_,_,U,U,SqT.of h2,U,_,U,sa,l,sl,xs,U,h3,o1,hl,?_⟩;refine⟨_,U,p,_,_,_,_,U,h1,T.zc,T.Bt,lf4 Qx Qx Qx,ts,_,_,_,U,U,SqT.of h2,U,_,U,sb,l,sr,xs,U,h4,o2,hl,?_⟩;refine⟨_,U,p,_,_,_,_,U,h1,T.zc,T.C4,lf2 Qx,_,U,p,_,_,_,_,U,h1,T.zc,T.C5,lf3 Qx Qx,_,U,_,U,sg,_,_,U,gE o1 on,gE o2 on,ln2,λt ht=>⟨ln1,λl' hl'=>?_⟩⟩;exact k _ l' _ ((a8.new ht _).trans (a8.new hl' _)) (a8.none (a8.new ht _) hl') ae (λp hp=>by cases qQ.mp hp;exact ht) (.cons (a8.new hl' _ _ _ ae) .nil)
theorem w8(T:Tx P w K mg a):aC P w K mg base CX0 1 a.Am a.An ["self","things"] (eQ a 0):=by
 refine T.CO.ok tS (λvs H Q E h=>?_) (λcdv A outer s H vs Q E hr h=>?_)
 ·obtain⟨_,_,_,_,rfl,_⟩:=h
  rfl
 obtain⟨v,l,r,xs,rfl,kd,hp,ok,hl,wide,on,k⟩:=h;refine⟨_,(af (ar (cm (k:=2) (Nc:=["line","place","things"]) (js:=[1]) (show aO (aj gX) ["self","things"] _ 2 ["line","place","things"] [1]from aO.mk U (by decide +kernel) (by decide +kernel) (by decide +kernel) U (by decide +kernel)) U (uL U T.zx (a0 (az (pq 0) U) (a0 (az (pq 0) U) a9))) (λ_ _ _ _ _=>(gc 2 U (bZ (aU (i:=0) (show List.Nodup (["line","place","things"]:List Str)from by decide +kernel) U Oi) (bZ (aU (i:=1) (show List.Nodup (["line","place","things"]:List Str)from by decide +kernel) U Oi) dL)))) (λ_ _ _ _ _=>c4) (λ_ _ _ _ _=>(cw (a0 (pq 0) (a0 (am (jJ (K:=K) U) (pq 2) (pq 1) Oy) a9))))))),?_⟩
 cases hp with
 |work _ _ _ _ _=>simp[PR.kind]at kd
 |choose _ _ _ _=>simp[PR.kind]at kd
 |merge _ _ _ _ _=>simp[PR.kind]at kd
 |pass h1 h0 h2 h3=>
  rename_i p dx t0 t1 t2 ins outs route;obtain⟨o1,o2,o3,o4⟩:=ok;change xs.length=ins.length at wide;refine⟨_,U,p,_,_,_,_,U,h1,T.zd,T.C1,lf2 Qx,_,U,p,_,_,_,_,U,h1,T.zd,T.C2,lf3 Qx Qx,true,true,t1,t2,_,_,U,SqT.of h2,SqT.of h3,?_⟩;have lz:(outs.zip (route.map λr=>xs.getD r.toNat 0)).length=outs.length:=by rw[List.length_zip,q4];omega
  refine yi (K:=K) (b1:=true) (b2:=true) (l1:=t1) (l2:=t2) (xs:=outs.map V.int) (zs:=route.map V.int) (λi ys σ H3=>(∃v v',σ=[v,v',some (.ref l)])/\a8 H H3/\fB H ys/\RPs H3 ys ((outs.zip (route.map λr=>xs.getD r.toNat 0)).take i)) ⟨⟨none,none,U⟩,a8.refl _,λ_ h=>(nomatch h),.nil⟩ ?_ (bq (m:=1000) (by rw[q4];omega)) ?_ ?_ ?_
  ·rintro i ys σ H3 ⟨_,_,_,r3⟩;rw[r3.len,qI];omega
  ·rintro i ys σ H3 ⟨_,s3,_⟩;exact⟨SqT.of (s3 _ _ h2),SqT.of (s3 _ _ h3)⟩
  ·rintro i x z ys σ H3 pt hx hz ⟨⟨v,v',rfl⟩,s3,n3,r3⟩ hpt;rw[qC]at hx hz;obtain⟨x,hx',rfl⟩:=qN.mp hx;obtain⟨z,hz',rfl⟩:=qN.mp hz;have zo:=o4 z (qx hz');have s4:=s3.trans (a8.new hpt (.tup [.int x,.int z]));refine⟨pt,_,U,SqT.of ae,U,_,_,U,_,_,U,U,?_⟩;refine⟨_,U,_,U,_,U,l,_,_,_,U,U,SqL.of (s4 _ _ hl),iJ zo.1 Qz,ln2,λt ht=>⟨⟨_,_,U⟩,s4.trans (a8.new ht _),λp hp=>(qf.mp hp).elim (n3 p) λz=>by cases qQ.mp z;exact a8.none s4 ht,?_⟩⟩;have e:(outs.zip (route.map λr=>xs.getD r.toNat 0))[i]?=some (x,xs.getD z.toNat 0):=List.getElem?_zip_eq_some.mpr ⟨hx',by rw[qC,hz'];rfl⟩;rw[qp,e];exact RPs.snoc (x:=(x,xs.getD z.toNat 0)) ae ((r3.same (a8.new hpt _)).same (a8.new ht _))
  rintro ys σ3 H3 ⟨_,s3,n3,r3⟩ l' hl';rw[q4,q4,<- o1,Nat.min_self,<- lz,qF]at r3;exact k _ l' ys (s3.trans (a8.new hl' _)) (a8.none s3 hl') ae n3 (r3.same (a8.new hl' _))
theorem we(T:Tx P w K mg a):aC P w K mg base CX0 1 a.Au a.Av ["self","things"] (eQ a 2):=by
 refine T.CY.ok tY (λvs H Q E h=>?_) (λcdv A outer s H vs Q E hr h=>?_)
 ·obtain⟨_,_,_,_,rfl,_⟩:=h
  rfl
 obtain⟨v,l,r,xs,rfl,kd,hp,ok,hl,wide,on,k⟩:=h
 refine⟨_,(ac (aX (aF ba (am aP (pq 1) (az (pq 0) U) Oy) aa (aB _)) (af (ar (ah fW (i5 U U T.wP U T.zx (a0 (az (pq 0) U) (a0 (pq 1) a9))) (bI (a0 (cw (a0 (az (pq 0) U) (a0 aa a9))) a9))))) aW)
  (af (ar (ah fW (i5 U U T.wP U T.zx (a0 (az (pq 0) U) (a0 (pq 1) a9))) (bI (a0 (cw (a0 (az (pq 0) U) (a0 aa a9))) a9)))))),?_⟩
 cases hp with
 |work _ _ _ _ _=>simp[PR.kind]at kd
 |pass _ _ _ _=>simp[PR.kind]at kd
 |merge _ _ _ _ _=>simp[PR.kind]at kd
 |choose h1 h0 h2 h3=>
  rename_i p dx t0 t1 t2 ins ones noughts which told;obtain⟨o1,o2,o3,o4,o5⟩:=ok;change xs.length=ins.length at wide;refine⟨_,U,_,U,p,_,_,_,_,U,h1,T.wS,T.C7,lf2 Qx,l,_,_,_,U,U,SqL.of hl,iJ o1 Qz,U,_,U,?_⟩;have km:PR.made xs (.choose ins which ones noughts told)=if xs.getD which.toNat 0=0 then noughts.zip xs++[(told,0)]else ones.zip xs++[(told,1)]:=U;rw[km]at k;refine bJ (λc=>?_) (λc=>?_)
  ·rw[qY (eE c)]at k;refine⟨_,U,p,_,_,_,_,U,h1,T.wS,T.C9,lf4 Qx Qx Qx,_,U,true,false,t2,l,_,_,U,SqT.of h3,SqL.of hl,λH3 lz ts s3 nl hz tl at_=>?_⟩;have rz:=RPs.zip (H:=H3) (ts:=ts) (xs:=noughts) (ys:=xs) (by rw[tl,q4,q4]) λj t x y a b c=>(at_ j t x y a b c).1;refine⟨_,U,p,_,_,_,_,U,s3 _ _ h1,T.wS,T.Bu,lf5 Qx Qx Qx Qx,ln2,λt4 ht4=>⟨ln1,λl4 hl4=>?_⟩⟩;have s4:=(a8.new ht4 (.tup [.int told,.int 0])).trans (a8.new hl4 (.lst [.ref t4]));refine⟨lz,l4,_,_,U,U,SqL.of (s4 _ _ hz),SqL.of ae,bq (m:=1000) (by rw[q4,tl,q4,q4,Q4];omega),λl5 hl5=>?_⟩;have s5:=a8.new hl5 (.lst (ts.map V.ref++[.ref t4]));exact k _ l5 _ (s3.trans (s4.trans s5)) (a8.none (s3.trans s4) hl5) ae (λp hp=>(qf.mp hp).elim (fD tl (λj t x y a b c=>(at_ j t x y a b c).2) p) λz=>by cases qQ.mp z;exact a8.none s3 ht4) (RPs.same s5 (RPs.snoc (x:=(told,0)) (a8.new hl4 _ _ _ ae) (rz.same s4)))
  ·rw[qX (eF c)]at k;refine⟨_,U,p,_,_,_,_,U,h1,T.wS,T.C8,lf3 Qx Qx,_,U,true,false,t1,l,_,_,U,SqT.of h2,SqL.of hl,λH3 lz ts s3 nl hz tl at_=>?_⟩;have rz:=RPs.zip (H:=H3) (ts:=ts) (xs:=ones) (ys:=xs) (by rw[tl,q4,q4]) λj t x y a b c=>(at_ j t x y a b c).1;refine⟨_,U,p,_,_,_,_,U,s3 _ _ h1,T.wS,T.Bu,lf5 Qx Qx Qx Qx,ln2,λt4 ht4=>⟨ln1,λl4 hl4=>?_⟩⟩;have s4:=(a8.new ht4 (.tup [.int told,.int 1])).trans (a8.new hl4 (.lst [.ref t4]));refine⟨lz,l4,_,_,U,U,SqL.of (s4 _ _ hz),SqL.of ae,bq (m:=1000) (by rw[q4,tl,q4,q4,Q4];omega),λl5 hl5=>?_⟩;have s5:=a8.new hl5 (.lst (ts.map V.ref++[.ref t4]));exact k _ l5 _ (s3.trans (s4.trans s5)) (a8.none (s3.trans s4) hl5) ae (λp hp=>(qf.mp hp).elim (fD tl (λj t x y a b c=>(at_ j t x y a b c).2) p) λz=>by cases qQ.mp z;exact a8.none s3 ht4) (RPs.same s5 (RPs.snoc (x:=(told,1)) (a8.new hl4 _ _ _ ae) (rz.same s4)))
theorem wc(T:Tx P w K mg a):aC P w K mg base CX0 1 a.AA a.AB ["self","things"] (eQ a 3):=by
 refine T.D6.ok tW (λvs H Q E h=>?_) (λcdv A outer s H vs Q E hr h=>?_)
 ·obtain⟨_,_,_,_,rfl,_⟩:=h
  rfl
 obtain⟨v,l,r,xs,rfl,kd,hp,ok,hl,wide,on,k⟩:=h;refine⟨_,(af (ar (i5 U U T.wP U T.zx (a0 (az (pq 0) U) (a0 (dY eS (pq 1) (dJ aa) eY) a9))))),?_⟩
 cases hp with
 |work _ _ _ _ _=>simp[PR.kind]at kd
 |pass _ _ _ _=>simp[PR.kind]at kd
 |choose _ _ _ _=>simp[PR.kind]at kd
 |merge h1 h0 hb hc h2=>
  rename_i p dx t0 t1 t2 t3 told ones noughts outs;change xs.length=1+outs.length at wide;refine⟨_,U,p,_,_,_,_,U,h1,T.wT,T.Cd,lf4 Qx Qx Qx,_,U,_,U,l,_,U,SqL.of hl,λlc hlc=>?_⟩
  have ec:bT (xs.map V.int) (some 1) none=xs.tail.map V.int:=by
   unfold bT
   have e1:HT.sIx (xs.map V.int).length 0 (some 1)=1:=by
    have:=HT.sIx_nat (xs.map V.int).length 0 1;rw[show((1:Nat):Int)=1 from rfl]at this;rw[this,q4];omega
   have e2:HT.sIx (xs.map V.int).length (xs.map V.int).length none=(xs.map V.int).length:=U;rw[e1,e2,List.drop_one,<- List.map_tail,List.take_of_length_le (by rw[q4,q4,List.length_tail];omega)]
  rw[ec];refine⟨true,false,t3,lc,_,_,U,SqT.of (a8.new hlc _ _ _ h2),SqL.of ae,λH3 lz ts s3 nl hz tl at_=>?_⟩;have rz:=RPs.zip (H:=H3) (ts:=ts) (xs:=outs) (ys:=xs.tail) (by rw[tl,q4,q4]) λj t x y a b c=>(at_ j t x y a b c).1;exact k _ lz _ ((a8.new hlc _).trans s3) (a8.none (a8.new hlc _) nl) hz (λp hp=>a8.none (a8.new hlc _) (fD tl (λj t x y a b c=>(at_ j t x y a b c).2) p hp)) rz
theorem jW(T:Tx P w K mg a):aC P w K mg base CX0 1 a.zh a.Aj ["self","yard"] (gK a false):=by
 refine T.CL.ok tU (λvs H Q E h=>?_) (λcdv A outer s H vs Q E hr h=>?_)
 ·obtain⟨_,_,_,_,_,_,rfl,_⟩:=h
  rfl
 obtain⟨C,S,v,r,qs,ls,rfl,kd,hp,ok,ft,ry,k⟩:=h;refine⟨_,(af (ar (az (pq 0) U))),?_⟩
 cases hp with
 |pass h1 h0 _ _=>exact⟨_,U,_,_,_,_,_,U,h1,T.zd,T.BZ,cO,k _ _ (a8.refl _) h0⟩
 |work h1 h0 _ _ _=>exact⟨_,U,_,_,_,_,_,U,h1,T.zc,T.C3,cO,k _ _ (a8.refl _) h0⟩
 |choose h1 h0 _ _=>exact⟨_,U,_,_,_,_,_,U,h1,T.wS,T.C6,cO,k _ _ (a8.refl _) h0⟩
 |merge _ _ _ _ _=>simp[PR.kind]at kd
theorem ke{u v x y:V}:List.lookup ("ins":Str) [(("ins":Str),u),("ones",v),("noughts",x),("outs",y)]=some u:=cO
theorem wZ{u v x y:V}:List.lookup ("ones":Str) [(("ins":Str),u),("ones",v),("noughts",x),("outs",y)]=some v:=(aN Qx).trans cO
theorem x6{u v x y:V}:List.lookup ("noughts":Str) [(("ins":Str),u),("ones",v),("noughts",x),("outs",y)]=some x:=(aN Qx).trans ((aN Qx).trans cO)
theorem wb(T:Tx P w K mg a):aC P w K mg base CX0 4 a.Ay a.Az ["self","yard"] (gK a true):=by
 refine T.D4.ok mY (λvs H Q E h=>?_) (λcdv A outer s H vs Q E hr h=>?_)
 ·obtain⟨_,_,_,_,_,_,rfl,_⟩:=h
  rfl
 obtain⟨C,S,v,r,qs,ls,rfl,kd,hp,ok,ft,ry,k⟩:=h
 refine⟨_,(ac (aS (i:=2) mY.nd U Oi (cN (pq 1) T.wE T.DT (vO T) (hr.mono Qy) T.CC .nil aE (a0 (am bj (az (pq 0) U) aa Oy) a9)))
  (ac (aX (aF fV (pq 2) cM (aB _)) (af (ar (az (pq 0) U))) aW)
  (af (ar (ah vq (az (pq 0) U) (dM (aF ba (pq 2) aa (aB _)) (az (pq 0) U) (az (pq 0) U))))))),?_⟩
 cases hp with
 |pass _ _ _ _=>simp[PR.kind]at kd
 |work _ _ _ _ _=>simp[PR.kind]at kd
 |choose _ _ _ _=>simp[PR.kind]at kd
 |merge h1 h2 h3 h4 h5=>
  rename_i p dx' ta tb tc td told ones noughts outs;have t0:=ft.1.lo told qj;have lt:told.toNat<C.nl:=by have:=ft.1.hi told qj;omega
  have hs:((List.range C.nl).map S.st)[told.toNat]?=some (S.st told.toNat):=by rw[qC,List.getElem?_range lt];rfl
  obtain⟨ol,l1,l2⟩:=ok;refine⟨_,U,C.y,_,_,U,ry.o,eB Qx,_,U,p,_,_,_,_,U,h1,T.wT,T.zH,ke,ta,_,_,_,U,U,SqT.of h2,U,C.y,C.dy,C.la,C.lq,qs,_,ls,told,_,U,ry,t0,hs,?_⟩;unfold iz;have kk:=k;simp only[ao,aA]at kk;generalize (S.st told.toNat).1.drop (S.st told.toNat).2=row at kk ⊢
  cases row with
  |nil=>
   refine⟨_,U,U,_,U,bC U ?_⟩;exact⟨_,U,p,_,_,_,_,U,h1,T.wT,T.zH,ke,kk H ta (a8.refl _) h2⟩
  |cons x row=>
   refine⟨_,U,U,_,U,aI U ?_⟩;refine⟨_,U,p,_,_,_,_,U,h1,T.wT,T.zH,ke,?_⟩;refine⟨_,U,U,_,U,?_⟩;dsimp only at kk;refine bJ (λc=>?_) (λc=>?_)
   ·rw[qY (eE c)]at kk;refine⟨_,U,p,_,_,_,_,U,h1,T.wT,T.Cc,x6,ta,tc,_,_,U,U,SqT.of h2,SqT.of h4,by simp,bq (m:=1000) (by rw[q4,Q4];omega),λe=>?_,λ_ p6 hp6=>?_⟩
    ·rw[List.map_eq_nil_iff]at e;subst e;exact kk H ta (a8.refl _) h2
    ·exact kk _ p6 (a8.new hp6 _) ae
   ·rw[qX (eF c)]at kk;refine⟨_,U,p,_,_,_,_,U,h1,T.wT,T.Ca,wZ,ta,tb,_,_,U,U,SqT.of h2,SqT.of h3,by simp,bq (m:=1000) (by rw[q4,Q4];omega),λe=>?_,λ_ p6 hp6=>?_⟩
    ·rw[List.map_eq_nil_iff]at e;subst e;exact kk H ta (a8.refl _) h2
    ·exact kk _ p6 (a8.new hp6 _) ae
theorem vA(T:Tx P w K mg a):aC P w K mg base CX0 4 a.AE a.AF ["row"] (lX a):=by
 refine T.BE.ok mS (λvs H Q E h=>?_) (λcdv A outer s H vs Q E hr h=>?_)
 ·obtain⟨_,_,_,rfl,_⟩:=h
  rfl
 obtain⟨H0,v,r,rfl,s0,hr',k⟩:=h
 refine⟨_,(ac (aS (i:=1) mS.nd U Oi (am bj (pq 0) aa Oy))
  (ac (aX (aF ba (pq 1) c0 (aB _)) (af (ar (e8 T.DY (wa T) (hr.mono Qy) U T.DX T.CN .nil aE (a0 (am bj (pq 0) aa Oy) (a0 (am bj (pq 0) aa Oy) (a0 (am bj (pq 0) aa Oy) a9)))))) aW)
  (ac (aX (aF ba (pq 1) c0 (aB _)) (af (ar (e8 T.E3 (vR T) (hr.mono Qy) U T.E2 T.CS .nil aE (a0 (am bj (pq 0) aa Oy) (a0 (am bj (pq 0) aa Oy) (a0 (am bj (pq 0) aa Oy) (a0 (dY sZ (pq 0) (dJ aa) eY) a9))))))) aW)
  (ac (aX (aF ba (pq 1) c0 (aB _)) (af (ar (e8 T.E7 (wf T) (hr.mono Qy) U T.E6 T.CW .nil aE (a0 (am bj (pq 0) aa Oy) (a0 (am bj (pq 0) aa Oy) (a0 (am bj (pq 0) aa Oy) (a0 (am bj (pq 0) aa Oy) (a0 (am bj (pq 0) aa Oy) a9)))))))) aW)
  (af (ar (e8 T.Eb (wd T) (hr.mono Qy) U T.Ea T.D3 .nil aE (a0 (am bj (pq 0) aa Oy) (a0 (am bj (pq 0) aa Oy) (a0 (am bj (pq 0) aa Oy) (a0 (am bj (pq 0) aa Oy) a9))))))))))),?_⟩
 have over:∀(H1:Hp)(o dx:Addr)(u u' u2:HO),H1 o=none->H1 dx=none->a8 H1 (upd (upd (upd H1 dx u) o u') o u2):=λH1 o dx u u' u2 ho hd b ob hb=>by
  have n1:b≠o:=λz=>by rw[z,ho]at hb;cases hb
  have n2:b≠dx:=λz=>by rw[z,hd]at hb;cases hb
  rw[ag n1,ag n1,ag n2];exact hb
 cases hr' with
 |pass h1 h2 h3 h4=>
  rename_i p t0 t1 t2 ins outs route;refine⟨_,U,p,_,_,_,U,U,SqT.of (s0 _ _ h1),U,?_⟩;refine⟨_,U,U,_,U,bC Qx ?_⟩;refine⟨_,U,p,_,_,_,U,U,SqT.of (s0 _ _ h1),U,_,U,p,_,_,_,U,U,SqT.of (s0 _ _ h1),U,_,U,p,_,_,_,U,U,SqT.of (s0 _ _ h1),U,λo dx ho hd nd=>?_⟩;exact⟨o,dx,_,_,_,U,ae,U,k _ _ (over _ _ _ _ _ _ ho hd) ho λK0 sk nw=>.pass (nw _ _ ho ae) (sk _ _ h2) (sk _ _ h3) (sk _ _ h4)⟩
 |work h1 h2 h3 h4=>
  rename_i p t0 ins out sg sa sb sl sr;refine⟨_,U,p,_,_,_,U,U,SqT.of (s0 _ _ h1),U,?_⟩;refine⟨_,U,U,_,U,aI Qx ?_⟩;refine⟨_,U,U,_,U,bC Qx ?_⟩;refine⟨_,U,p,_,_,_,U,U,SqT.of (s0 _ _ h1),U,_,U,p,_,_,_,U,U,SqT.of (s0 _ _ h1),U,_,U,p,_,_,_,U,U,SqT.of (s0 _ _ h1),U,_,U,_,U,p,_,U,SqT.of (s0 _ _ h1),?_,λtt htt=>?_⟩
  ·rintro⟨z,_⟩;exact Q1 z (by show ¬ (HT.sIx 6 0 (some 4)=0);decide)
  intro o dx ho hd nd;have s2:=(a8.new htt (.tup (bT [V.str "work",.ref t0,.int out,.str sg,sa,sb] (some 4) none)));exact⟨o,dx,_,_,_,_,U,ae,U,k _ _ (s2.trans (over _ _ _ _ _ _ ho hd)) (a8.none s2 ho) λK0 sk nw=>.work (nw _ _ (a8.none s2 ho) ae) (sk _ _ h2) (nw _ _ htt (over _ _ _ _ _ _ ho hd _ _ ae)) (h3.same sk) (h4.same sk)⟩
 |choose h1 h2 h3 h4=>
  rename_i p t0 t1 t2 ins ones noughts which told;refine⟨_,U,p,_,_,_,U,U,SqT.of (s0 _ _ h1),U,?_⟩;refine⟨_,U,U,_,U,aI Qx ?_⟩;refine⟨_,U,U,_,U,aI Qx ?_⟩;refine⟨_,U,U,_,U,bC Qx ?_⟩;refine⟨_,U,p,_,_,_,U,U,SqT.of (s0 _ _ h1),U,_,U,p,_,_,_,U,U,SqT.of (s0 _ _ h1),U,_,U,p,_,_,_,U,U,SqT.of (s0 _ _ h1),U,_,U,p,_,_,_,U,U,SqT.of (s0 _ _ h1),U,_,U,p,_,_,_,U,U,SqT.of (s0 _ _ h1),U,λo dx ho hd nd=>?_⟩;exact⟨o,dx,_,_,_,_,_,U,ae,U,k _ _ (over _ _ _ _ _ _ ho hd) ho λK0 sk nw=>.choose (nw _ _ ho ae) (sk _ _ h2) (sk _ _ h3) (sk _ _ h4)⟩
 |merge h1 h2 h3 h4=>
  rename_i p ta tb tc told ones noughts outs;refine⟨_,U,p,_,_,_,U,U,SqT.of (s0 _ _ h1),U,?_⟩;refine⟨_,U,U,_,U,aI Qx ?_⟩;refine⟨_,U,U,_,U,aI Qx ?_⟩;refine⟨_,U,U,_,U,aI Qx ?_⟩;refine⟨_,U,p,_,_,_,U,U,SqT.of (s0 _ _ h1),U,_,U,p,_,_,_,U,U,SqT.of (s0 _ _ h1),U,_,U,p,_,_,_,U,U,SqT.of (s0 _ _ h1),U,_,U,p,_,_,_,U,U,SqT.of (s0 _ _ h1),U,λo dx ho hd nd=>?_⟩;refine⟨o,dx,_,_,_,_,U,ae,λtt htt=>⟨U,?_⟩⟩;have nto:tt≠o:=λz=>by rw[z,ae]at htt;cases htt
  have ntd:tt≠dx:=λz=>by rw[ag nto,z,ae]at htt;cases htt
  have ht0:H tt=none:=by rw[ag nto,ag ntd]at htt;exact htt
  have sm:a8 H (upd (upd (upd (upd H dx (.own o)) o (.ins a.pi dx [])) tt (.tup [.int told])) o (.ins a.pi dx [("ins",.ref tt),("ones",.ref ta),("noughts",.ref tb),("outs",.ref tc)])):=λb ob hb=>by
   have n1:b≠o:=λz=>by rw[z,ho]at hb;cases hb
   have n2:b≠dx:=λz=>by rw[z,hd]at hb;cases hb
   have n3:b≠tt:=λz=>by rw[z,ht0]at hb;cases hb
   rw[ag n1,ag n3,ag n1,ag n2];exact hb
  exact k _ _ sm ho λK0 sk nw=>.merge (nw _ _ ho ae) (nw _ _ ht0 (by rw[ag nto];exact ae)) (sk _ _ h2) (sk _ _ h3) (sk _ _ h4)
theorem cP{f:Str}{v:V}:∀{ns:List Str}{vs:List V}(i:Nat),ns[i]?=some f->((ns.take i).contains f)=false->vs[i]?=some v->(ns.zip vs).lookup f=some v
 |[],_,i,h,_,_=>by simp at h
 |_::_,[],i,_,_,h=>by simp at h
 |n::ns,u::vs,0,h,_,h'=>by cases h;cases h';exact cO
 |n::ns,u::vs,i+1,h,c,h'=>by
  have c:(f == n || (ns.take i).contains f)=false:=c;rw[Bool.or_eq_false_iff]at c;exact(aN c.1).trans (cP i h c.2 h')
theorem e9{f:Str}:∀{ns:List Str}{vs:List V},ns.contains f=false->(ns.zip vs).lookup f=none
 |[],_,_=>rfl
 |_::_,[],_=>rfl
 |n::ns,u::vs,c=>by
  have c:(f == n || ns.contains f)=false:=c;rw[Bool.or_eq_false_iff]at c;exact(aN c.1).trans (e9 c.2)
theorem jT{f:Str}{v:V}:∀{ns:List Str}{vs:List V}(i:Nat),ns[i]?=some f->((ns.take i).contains f)=false->i<vs.length->bo f v (ns.zip vs)=ns.zip (vs.set i v)
 |[],_,i,h,_,_=>by simp at h
 |_::_,[],i,_,_,h=>Q1 h (Qv _)
 |n::ns,u::vs,0,h,_,h'=>by cases h;show bo _ _ ((_,_)::_)=_;rw[bo,qY U];rfl
 |n::ns,u::vs,i+1,h,c,h'=>by
  have c:(f == n || (ns.take i).contains f)=false:=c;rw[Bool.or_eq_false_iff]at c;have ne:¬ n=f:=λz=>by have:=c.1;rw[z]at this;simp at this
  show bo _ _ ((n,u)::ns.zip vs)=_;rw[bo,qX ne,jT i h c.2 (Nat.lt_of_succ_lt_succ h')]
  rfl
section
variable {H0 H:Hp}{C:PlC}{ad:Rl->Addr}{hd:Nat->Addr}{lgv:List V}{S:PlS}
theorem PlH.ob(M:PlH a H0 H C ad hd lgv S):H C.b=some (plO a C ad S.sp):=M.b▸M.own.av .b trivial
end
theorem lz0{x:List V}{v:V}(h:x[0]?=some v):List.lookup ("yard":Str) (plN.zip x)=some v:=cP 0 U Qx h
theorem lz1{x:List V}{v:V}(h:x[1]?=some v):List.lookup ("doers":Str) (plN.zip x)=some v:=cP 1 U Qx h
theorem lz2{x:List V}{v:V}(h:x[2]?=some v):List.lookup ("pace":Str) (plN.zip x)=some v:=cP 2 U Qx h
theorem lz3{x:List V}{v:V}(h:x[3]?=some v):List.lookup ("spare":Str) (plN.zip x)=some v:=cP 3 U Qx h
theorem lz4{x:List V}{v:V}(h:x[4]?=some v):List.lookup ("log":Str) (plN.zip x)=some v:=cP 4 U Qx h
theorem lz5{x:List V}{v:V}(h:x[5]?=some v):List.lookup ("held":Str) (plN.zip x)=some v:=cP 5 U Qx h
theorem lz6{x:List V}{v:V}(h:x[6]?=some v):List.lookup ("takings":Str) (plN.zip x)=some v:=cP 6 U Qx h
theorem lz7{x:List V}{v:V}(h:x[7]?=some v):List.lookup ("givers":Str) (plN.zip x)=some v:=cP 7 U Qx h
theorem lz8{x:List V}{v:V}(h:x[8]?=some v):List.lookup ("takers":Str) (plN.zip x)=some v:=cP 8 U Qx h
theorem lz9{x:List V}{v:V}(h:x[9]?=some v):List.lookup ("without_room":Str) (plN.zip x)=some v:=cP 9 U Qx h
theorem k9{x:List V}{v:V}(h:x[10]?=some v):List.lookup ("without_thing":Str) (plN.zip x)=some v:=cP 10 U Qx h
theorem vZ(T:Tx P w K mg a):aC P w K mg base CX0 1 a.AQ a.AR ["self","part"] (mG a):=by
 refine T.Dl.ok mX (λvs H Q E h=>?_) (λcdv A outer s H vs Q E hr h=>?_)
 ·obtain⟨_,_,_,_,_,_,_,rfl,_⟩:=h
  rfl
 obtain⟨H0,C,ad,hd,lgv,S,x,rfl,B,M,hx,k⟩:=h
 refine⟨_,(ac (aX (aF ba (aZ bB U T.ld Q5 (a0 (az (pq 0) U) a9)) aa (aB _)) (af (ar aa)) aW)
  (ac (aS (i:=2) mX.nd U Oi (am aP (az (pq 0) U) (ah bD (pq 1) (aZ bB U T.ld Q5 (a0 (az (pq 0) U) a9))) Oy))
  (af (ar (dM (aF hG (aZ bB U T.ld Q5 (a0 (pq 2) a9)) aa (aB _)) (am aP (pq 2) (ah bD (am aP (az (pq 0) U) (pq 1) Oy) (aZ bB U T.ld Q5 (a0 (pq 2) a9))) Oy) aa))))),?_⟩
 have hp:=M.own.sa _ _ B.pc;have ho:=M.ob;have pl:=B.pr.len;unfold bM at k;refine⟨_,U,C.b,_,C.dx,_,_,U,ho,T.f8,T.zI,lz2 U,C.pc,_,U,.inl (SqL.of hp),U,_,U,bJ (λc=>?_) (λc=>?_)⟩
 ·rw[qY (by have:=eE c;omega)]at k;exact k
 have n0:C.pace.length≠0:=λz=>eF c (by rw[pl,z];rfl);rw[qX n0]at k;have lt:x % C.pace.length<C.pace.length:=Nat.mod_lt _ Qz;obtain⟨pr,e1,h1⟩:=B.pr.at (x % C.pace.length) (C.pace[x % C.pace.length]) (qa lt);have eg:C.pace.getD (x % C.pace.length) []=C.pace[x % C.pace.length]:=by rw[qh,qa lt];rfl
 rw[eg]at k;have hw:=M.own.sa _ _ h1;generalize C.pace[x % C.pace.length]=row at *
 have hat:atI C.pv ((x:Int) % (C.pv.length:Int))=some (.ref pr):=by
  rw[pl];exact bO (j:=x % C.pace.length) e1
 refine⟨_,U,C.b,_,C.dx,_,_,U,ho,T.f8,T.zI,lz2 U,_,U,_,U,C.b,_,C.dx,_,_,U,ho,T.f8,T.zI,lz2 U,C.pc,_,U,.inl (SqL.of hp),_,_,U,U,Qz,C.pc,_,_,_,U,U,SqL.of hp,hat,?_⟩;refine⟨_,U,pr,_,U,.inl (SqL.of hw),_,_,U,U,_,U,bJ (λc=>?_) (λc=>?_)⟩
 ·have r0:row.length≠0:=λz=>by
   have:=Qa c;rw[q4,z]at this;exact Q1 this Qy
  rw[qX r0]at k;have lt2:S.tks x % row.length<row.length:=Nat.mod_lt _ Qz;have eg2:row.getD (S.tks x % row.length) 0=row[S.tks x % row.length]:=by rw[qh,qa lt2];rfl
  rw[eg2]at k;have ht:=M.own.av .tl trivial;have hat2:atI ((List.range C.n).map λx=>V.int (S.tks x)) (x:Int)=some (.int (S.tks x)):=bO (by rw[qC,List.getElem?_range hx];rfl)
  have hat3:atI (row.map V.int) (((S.tks x:Nat):Int) % ((row.map V.int).length:Int))=some (.int row[S.tks x % row.length]):=by
   rw[q4];exact bO (j:=S.tks x % row.length) (by rw[qC,qa lt2];rfl)
  exact⟨_,U,_,U,C.b,_,C.dx,_,_,U,ho,T.f8,T.zL,lz6 U,_,U,ad .tl,_,_,_,U,U,SqL.of ht,hat2,_,U,pr,_,U,.inl (SqL.of hw),_,_,U,U,by rw[q4];omega,pr,_,_,_,U,U,SqL.of hw,hat3,k⟩
 ·have r0:row.length=0:=by
   by_cases z:row.length=0
   ·exact z
   ·exact Q1 (qZ (by rw[q4];omega)) c
  rw[qY r0]at k;exact k
theorem gG{ad:Rl->Addr}:∀{g:Gv}{t:Int},cu (g.map λkv=>((Sum.inl kv.1:Key),V.ref (ad (.gv kv.1)))) (Sum.inl t)=if t∈aG g then some (.ref (ad (.gv t)))else none
 |[],t=>rfl
 |(j,ps)::g,t=>by
  rw[qP];by_cases e:j=t
  ·rw[lE (by show(Sum.inl j:Key)=_;rw[e]),qY (by rw[<- e];exact qj),e]
  ·rw[lF (by intro z;exact e (Sum.inl.inj z)),gG];have:t∈aG ((j,ps)::g)↔t∈aG g:=⟨λh=>(qr.mp h).resolve_left λz=>e z.symm,qi _⟩;by_cases m:t∈aG g
   ·rw[qY m,qY (this.mpr m)]
   ·rw[qX m,qX λz=>m (this.mp z)]
theorem uz{ad:Rl->Addr}{g:Gv}{t:Int}{v:V}(h:t∉aG g):cG (g.map λkv=>((Sum.inl kv.1:Key),V.ref (ad (.gv kv.1)))) (Sum.inl t) v=(g.map λkv=>((Sum.inl kv.1:Key),V.ref (ad (.gv kv.1))))++[(Sum.inl t,v)]:=by
 unfold cG;rw[qX];intro z;obtain⟨kv,hk,e⟩:=List.any_eq_true.mp z;obtain⟨jv,hj,rfl⟩:=List.mem_map.mp hk;exact h (List.mem_map.mpr ⟨jv,hj,Sum.inl.inj (Qa e)⟩)
section
variable {H0 H:Hp}{C:PlC}{ad:Rl->Addr}{hd:Nat->Addr}{lgv:List V}{S:PlS}
theorem aY.up{H':Hp}{D:Rl->Prop}{c:Rl->HO}(M:aY H0 H D ad c)(s:a8 H H'):aY H0 H' D ad c:=⟨M.sa.trans s,M.nw,M.inj,λr hr=>s _ _ (M.av r hr)⟩
theorem PlH.up{H':Hp}(M:PlH a H0 H C ad hd lgv S)(s:a8 H H'):PlH a H0 H' C ad hd lgv S:=⟨M.own.up s,M.b,M.qo,M.hd,M.lg⟩
theorem PlH.low{H0' H':Hp}(M:PlH a H0 H C ad hd lgv S)(s:a8 H0 H0')(o:aY H0' H' (dmP C.nl (aG S.gv)) ad (cnP a C ad hd lgv S)):PlH a H0' H' C ad hd lgv S:=⟨o,M.b,M.qo,λx hx=>let ⟨vs,h1,h2⟩:=M.hd x hx;⟨vs,s _ _ h1,h2.same s⟩,M.lg.same s⟩
theorem yJ{g:Gv}{t:Int}{ps:List Nat}(m:t∈aG g):(bc g t ps).map (λkv=>((Sum.inl kv.1:Key),V.ref (ad (.gv kv.1))))=g.map (λkv=>((Sum.inl kv.1:Key),V.ref (ad (.gv kv.1)))):=by
 unfold bc;split
 ·rfl
 ·first|rw[qY m]|skip
  rw[List.map_map]
  exact List.map_congr_left λkv _=>by
   show(λkv:Int×List Nat=>((Sum.inl kv.1:Key),V.ref (ad (.gv kv.1)))) (if kv.1=t then(kv.1,kv.2++ps)else kv)=_;split<;>rfl
theorem PlH.more(M:PlH a H0 H C ad hd lgv S){t:Int}(m:t∈aG S.gv)(ps:List Nat):PlH a H0 (upd H (ad (.gv t)) (.lst (ay (atG S.gv t)++ay ps))) C ad hd lgv { S with gv:=bc S.gv t ps }:=by
 have o:=M.own.put (.gv t) m (.lst (ay (atG S.gv t)++ay ps));refine⟨o.less (λr hr=>?_) λr hr=>?_,M.b,M.qo,M.hd,M.lg⟩
 ·cases r with
  |gv k=>exact(ip.mp hr).elim id λz=>z.2▸m
  |_=>exact hr
 ·cases r with
  |gv k=>
   show _=HO.lst (ay (atG (bc S.gv t ps) k));rw[pI];by_cases e:k=t
   ·rw[e,bR,qY U];unfold ay;rw[qM]
   ·rw[br λz=>e (Rl.gv.inj z),qX e]
    rfl
  |gd=>
   show HO.dK _=HO.dK ((bc S.gv t ps).map _);rw[yJ m]
  |_=>rfl
theorem PlH.newTurn(M:PlH a H0 H C ad hd lgv S){t:Int}(m:t∉aG S.gv){ps:List Nat}(hp:ps≠[]){z:Addr}(hz:H z=none):PlH a H0 (upd (upd (upd H z (.lst [])) (ad .gd) (.dK ((S.gv.map λkv=>((Sum.inl kv.1:Key),V.ref (ad (.gv kv.1))))++[(Sum.inl t,.ref z)]))) z (.lst (ay ps))) C (at' ad (.gv t) z) hd lgv { S with gv:=bc S.gv t ps }:=by
 have o1:=M.own.new (.gv t) hz (.lst []);have o2:=o1.put .gd (.inr trivial) (.dK ((S.gv.map λkv=>((Sum.inl kv.1:Key),V.ref (ad (.gv kv.1))))++[(Sum.inl t,.ref z)]));have o3:=o2.put (.gv t) (.inl U) (.lst (ay ps));rw[bR]at o3;have ea:bc S.gv t ps=S.gv++[(t,ps)]:=by unfold bc;rw[qX hp,qX m]
 refine⟨o3.less (λr hr=>?_) λr hr=>?_,M.b,M.qo,M.hd,M.lg⟩
 ·cases r with
  |gv k=>exact(ip.mp hr).elim .inr λz=>.inl (by rw[z.2])
  |_=>exact .inr hr
 ·cases r with
  |gv k=>
   show _=HO.lst (ay (atG (bc S.gv t ps) k));rw[pI];by_cases e:k=t
   ·rw[e,bR,qY U,kP m,Qi]
   ·rw[br λz=>e (Rl.gv.inj z),qX e];show at' (cnP a C ad hd lgv S) (.gv t) (.lst []) (.gv k)=_;rw[br λz=>e (Rl.gv.inj z)]
    rfl
  |gd=>
   show HO.dK _=HO.dK ((bc S.gv t ps).map λkv=>((Sum.inl kv.1:Key),V.ref (at' ad (.gv t) z (.gv kv.1))));rw[ea,qM];refine congrArg HO.dK (congr (congrArg HAppend.hAppend (List.map_congr_left λkv hk=>?_)) ?_)
   ·rw[br λz=>m (by have e:=Rl.gv.inj z;rw[<- e];exact List.mem_map.mpr ⟨kv,hk,U⟩)]
   ·show _=[((Sum.inl t:Key),V.ref (at' ad (.gv t) z (.gv t)))];rw[bR]
  |_=>rfl
end
theorem nW(T:Tx P w K mg a):aC P w K mg base CX0 1 a.AN a.AO ["self","turn","parts"] (mI a):=by
 refine T.Dk.ok tQ (λvs H Q E h=>?_) (λcdv A outer s H vs Q E hr h=>?_)
 ·obtain⟨_,_,_,_,_,_,_,_,_,rfl,_⟩:=h
  rfl
 obtain⟨H0,C,ad,hd,lgv,S,t,l,ps,rfl,B,M,hl,hn,gl,pl,gb,nd,k⟩:=h;refine⟨_,(af (aX (aF hG (aZ bB U T.ld Q5 (a0 (pq 2) a9)) aa (aB _)) (af (bQ (cI qe Ql Qk jY (uY (az (pq 0) U) (pq 1) (bI a9) ⟨U,U,U,U⟩) (a0 (pq 2) a9)))) aW)),?_⟩;refine⟨_,U,l,_,U,.inl (SqL.of hl),_,_,U,U,_,U,bJ (λc=>?_) (λc=>?_)⟩
 ·have p0:ps≠[]:=λz=>by rw[z]at c;exact Q1 c Qy
  have ho:=M.ob;have hg:=M.own.av .gd trivial;refine⟨_,U,C.b,_,C.dx,_,_,U,ho,T.f8,T.zy,lz7 U,ad .gd,U,.inl ⟨_,.of hg⟩,_,U,qq _,λz hz=>?_⟩;have ng:ad .gd≠z:=λe=>by rw[e,hz]at hg;cases hg
  have nl:l≠z:=λe=>by rw[e,hz]at hl;cases hl
  have ngl:l≠ad .gd:=λe=>by rw[e,hg]at hl;cases hl
  have big:(10000000:Nat)<sizeLine:=Qy;refine⟨_,.inl t,by rw[ag ng];exact hg,U,by rw[q4];omega,λv hv=>?_,λhv=>?_⟩
  ·rw[gG]at hv;split at hv
   ·rename_i m;cases hv;have M1:=M.up (a8.new hz (.lst []));have h1:=M1.own.av (.gv t) m;have lb:(atG S.gv t).length<=1000:=gb _ (ff m);refine⟨.inl ⟨U,_,SqL.of h1⟩,_,U,ad (.gv t),l,_,_,U,U,h1,by rw[ag nl];exact hl,?_,?_⟩
    ·unfold ay;rw[q4,q4];omega
    exact k _ ad (M1.more m ps) λ_ _=>U
   ·cases hv
  ·rw[gG]at hv;split at hv
   ·cases hv
   rename_i m;rw[uz m];have M2:=M.newTurn m p0 hz;refine⟨.inl ⟨U,_,SqL.of (xs:=[]) (by rw[ag (Ne.symm ng),ae])⟩,_,U,z,l,_,_,U,U,(by rw[ag (Ne.symm ng),ae]:_=some (HO.lst [])),(by rw[ag ngl,ag nl];exact hl),?_,?_⟩
   ·show 0+_<=_;unfold ay;rw[q4];omega
   ·exact k _ _ M2 λr hr=>br (hr t)
 ·have p0:ps=[]:=by
   cases ps with
   |nil=>rfl
   |cons p ps=>exact Q1 (qZ (by show(0:Int)<(((ay (p::ps)).length:Nat):Int);unfold ay;rw[q4,qy];omega)) c
  have:=k H ad (by rw[p0];exact M) λ_ _=>U;exact this
section
variable {H0 H:Hp}{C:PlC}{ad:Rl->Addr}{hd:Nat->Addr}{lgv:List V}{S:PlS}
def qsP(C:PlC)(ad:Rl->Addr):List (Addr×Addr×Addr):=(List.range C.nl).map λi=>(C.qo i,C.dq i,ad (.ql i))
def stP(C:PlC)(S:PlS):List (List Int×Nat):=(List.range C.nl).map S.st
def lsP(C:PlC):List (Option Int):=(List.range C.nl).map C.ls
theorem c6{α:Type}{f:Nat->α}{n i:Nat}(h:i<n):((List.range n).map f)[i]?=some (f i):=by rw[qC,List.getElem?_range h];rfl
theorem PlH.ry(M:PlH a H0 H C ad hd lgv S)(B:PlB a H0 C)(cp:∀i,(S.st i).2<=(S.st i).1.length/\(S.st i).1.length<=10000000):RY a H C.y C.dy C.la C.lq (qsP C ad) (stP C S) (lsP C):=by
 refine⟨M.own.sa _ _ B.yo,?_,by unfold qsP stP;simp,λi q s hq hs=>?_,?_,by unfold lsP stP;simp⟩
 ·rw[M.own.sa _ _ B.lq];unfold qsP;rw[List.map_map]
  rfl
 ·have lt:i<C.nl:=by have:=(qd.mp hs).1;unfold stP at this;simpa using this
  unfold qsP at hq;unfold stP at hs;rw[c6 lt]at hq hs;cases hq;cases hs;exact⟨M.qo i lt▸M.own.av (.qo i) lt,M.own.av (.ql i) lt,(cp i).1,(cp i).2⟩
 ·rw[M.own.sa _ _ B.la];unfold lsP;rw[List.map_map]
  rfl
end
theorem RPs.at{H:Hp}:∀{vs:List V}{xs:List (Int×Int)},RPs H vs xs->∀{i:Nat}{v:V},vs[i]?=some v->∃p x,v=.ref p/\xs[i]?=some x/\H p=some (.tup [.int x.1,.int x.2])
 |_,_,.nil,i,v,h=>by simp at h
 |_,_,.cons (p:=p) (x:=x) a r,0,v,h=>by cases h;exact⟨p,x,U,U,a⟩
 |_,_,.cons a r,i+1,v,h=>RPs.at r (by simpa using h)
theorem kC{α:Type}{p:α->Bool}:∀{l:List α}{i:Nat}{y:α},l[i]?=some y->p y=true->(∀z∈l.take i,p z=false)->l.find? p=some y
 |[],i,y,h,_,_=>by simp at h
 |x::l,0,y,h,hy,_=>by cases h;rw[List.find?_cons_of_pos hy]
 |x::l,i+1,y,h,hy,hz=>by
  rw[List.find?_cons_of_neg (by rw[hz x qj];exact qg)];exact kC (i:=i) (by simpa using h) hy λz hm=>hz z (qi _ hm)
theorem kr:∀(ps:List (Int×Int))(S:PlS)(j:Nat),((ps.foldl ak S).st j).1.length<=(S.st j).1.length+ps.length/\(S.st j).1.length<=((ps.foldl ak S).st j).1.length/\((ps.foldl ak S).st j).2=(S.st j).2
 |[],S,j=>⟨qc _,qc _,U⟩
 |p::ps,S,j=>by
  obtain⟨h1,h2,h3⟩:=kr ps (ak S p) j
  have e:((ak S p).st j).1.length<=(S.st j).1.length+1/\(S.st j).1.length<=((ak S p).st j).1.length/\((ak S p).st j).2=(S.st j).2:=by
   show((put S.st p.1.toNat _ j).1.length<=_)/\_<=(put S.st p.1.toNat _ j).1.length/\(put S.st p.1.toNat _ j).2=_;by_cases c:j=p.1.toNat
   ·rw[c,ap];exact⟨by rw[q9];exact qc _,by rw[q9];exact Nat.le_add_right _ _,U⟩
   ·rw[ai c];exact⟨Nat.le_succ _,qc _,U⟩
  show((ps.foldl ak (ak S p)).st j).1.length<=_/\_<=((ps.foldl ak (ak S p)).st j).1.length/\((ps.foldl ak (ak S p)).st j).2=_;rw[qy];omega
theorem oG:∀(ps:List (Int×Int))(S:PlS),(ps.foldl ak S).lg=S.lg
 |[],_=>rfl
 |p::ps,S=>oG ps (ak S p)
theorem oH:∀(ps:List (Int×Int))(S:PlS),(ps.foldl ak S).held=S.held
 |[],_=>rfl
 |p::ps,S=>oH ps (ak S p)
theorem ie(x y:List Nat):ay (x++y)=ay x++ay y:=qM
theorem ee(x:List Nat):(ay x).length=x.length:=q4 _
theorem iq{n i:Nat}(h:i<n):ixN n (i:Int)=some i:=by
 unfold ixN;rw[qY Qz,qY Qz];simp
theorem gY{α β:Type}{f:Nat->β}{g:β->α}{n i:Nat}{v:β}:((List.range n).map λj=>g (f j)).set i (g v)=(List.range n).map λj=>g (put f i v j):=by
 refine List.ext_getElem? λj=>?_;by_cases hj:j<n
 ·rw[c6 hj];by_cases e:i=j
  ·subst e;rw[List.getElem?_set_self (by rw[q4,Qb];exact hj),ap]
  ·rw[List.getElem?_set_ne e,c6 hj,ai (Ne.symm e)]
 ·rw[Qm (by rw[List.length_set,q4,Qb];omega),Qm (by rw[q4,Qb];omega)]
section
variable {H0 H:Hp}{C:PlC}{ad:Rl->Addr}{hd:Nat->Addr}{lgv:List V}{S:PlS}
theorem PlH.stuck(M:PlH a H0 H C ad hd lgv S){i x:Nat}(hi:i<C.nl):PlH a H0 (upd H (ad (.wr i)) (.lst (ay (S.wr i)++[.int x]))) C ad hd lgv (gJ S i x):=by
 have o:=M.own.put (.wr i) hi (.lst (ay (S.wr i)++[.int x]));refine⟨o.less (λr hr=>hr) λr hr=>?_,M.b,M.qo,M.hd,M.lg⟩
 cases r with
 |wr j=>
  show _=HO.lst (ay (put S.wr i (S.wr i++[x]) j));by_cases e:j=i
  ·rw[e,bR,ap,ie];rfl
  ·rw[br λz=>e (Rl.wr.inj z),ai e];rfl
 |_=>rfl
theorem PlH.wait(M:PlH a H0 H C ad hd lgv S){i x:Nat}(hi:i<C.nl):PlH a H0 (upd H (ad (.wt i)) (.lst (ay (S.wt i)++[.int x]))) C ad hd lgv (fF S i x):=by
 have o:=M.own.put (.wt i) hi (.lst (ay (S.wt i)++[.int x]));refine⟨o.less (λr hr=>hr) λr hr=>?_,M.b,M.qo,M.hd,M.lg⟩
 cases r with
 |wt j=>
  show _=HO.lst (ay (put S.wt i (S.wt i++[x]) j));by_cases e:j=i
  ·rw[e,bR,ap,ie];rfl
  ·rw[br λz=>e (Rl.wt.inj z),ai e];rfl
 |_=>rfl
theorem yM{ad:Rl->Addr}{i:Nat}{z:Addr}:(λj=>V.ref (at' ad (.wt i) z (.wt j)))=λj=>V.ref (put (λj=>ad (.wt j)) i z j):=funext λj=>by
 by_cases e:j=i
 ·rw[e,bR,ap]
 ·rw[br λz=>e (Rl.wt.inj z),ai e]
theorem yL{ad:Rl->Addr}{i:Nat}{z:Addr}:(λj=>V.ref (at' ad (.wr i) z (.wr j)))=λj=>V.ref (put (λj=>ad (.wr j)) i z j):=funext λj=>by
 by_cases e:j=i
 ·rw[e,bR,ap]
 ·rw[br λz=>e (Rl.wr.inj z),ai e]
theorem PlH.hand(M:PlH a H0 H C ad hd lgv S){p:Int×Int}(hi:p.1.toNat<C.nl){z:Addr}(hz:upd (upd H (ad (.ql p.1.toNat)) (.lst (((S.st p.1.toNat).1++[p.2]).map V.int))) (ad .tk) (.lst (ay S.tr++ay (S.wt p.1.toNat))) z=none):
 PlH a H0 (upd (upd (upd (upd H (ad (.ql p.1.toNat)) (.lst (((S.st p.1.toNat).1++[p.2]).map V.int))) (ad .tk) (.lst (ay S.tr++ay (S.wt p.1.toNat)))) z (.lst [])) (ad .wtl) (.lst (((List.range C.nl).map λi=>V.ref (ad (.wt i))).set p.1.toNat (.ref z)))) C (at' ad (.wt p.1.toNat) z) hd lgv (ak S p):=by
 have o1:=M.own.put (.ql p.1.toNat) hi (.lst (((S.st p.1.toNat).1++[p.2]).map V.int));have o2:=o1.put .tk trivial (.lst (ay S.tr++ay (S.wt p.1.toNat)));have o3:=o2.new (.wt p.1.toNat) hz (.lst []);have o4:=o3.put .wtl (.inr trivial) (.lst (((List.range C.nl).map λi=>V.ref (ad (.wt i))).set p.1.toNat (.ref z)));refine⟨o4.less (λr hr=>.inr hr) λr hr=>?_,M.b,M.qo,M.hd,M.lg⟩
 cases r with
 |wt j=>
  show at' _ (Rl.wt _) _ (Rl.wt j)=HO.lst (ay (put S.wt p.1.toNat [] j));by_cases e:j=p.1.toNat
  ·rw[e,bR,ap];rfl
  ·rw[br λz=>e (Rl.wt.inj z),ai e];rfl
 |ql j=>
  show at' _ (Rl.ql _) _ (Rl.ql j)=HO.lst ((put S.st p.1.toNat _ j).1.map V.int);by_cases e:j=p.1.toNat
  ·rw[e,bR,ap]
  ·rw[br λz=>e (Rl.ql.inj z),ai e];rfl
 |qo j=>
  show HO.ins _ _ [_,("gone",V.int ((S.st j).2:Nat))]=HO.ins _ _ [_,("gone",V.int ((put S.st p.1.toNat _ j).2:Nat))];by_cases e:j=p.1.toNat
  ·rw[e,ap];rfl
  ·rw[ai e];rfl
 |tk=>
  show HO.lst _=HO.lst (ay (S.tr++S.wt p.1.toNat));rw[ie]
 |wtl=>
  show HO.lst _=HO.lst ((List.range C.nl).map λj=>V.ref (at' ad (.wt p.1.toNat) z (.wt j)));rw[yM,gY]
 |_=>rfl
theorem PlH.ent(M:PlH a H0 H C ad hd lgv S){e:Ent}{z l:Addr}{us:List V}(hz:H z=none)(h2:H0 l=some (.lst us))(h3:RPs H0 us e.hs):
 PlH a (upd H0 z (.tup [.int e.now,.int e.part,.str (if e.took then "took" else "gave"),.ref l])) (upd (upd H z (.tup [.int e.now,.int e.part,.str (if e.took then "took" else "gave"),.ref l])) (ad .lg) (.lst (lgv++[.ref z]))) C ad hd (lgv++[.ref z]) { S with lg:=S.lg++[e] }:=by
 have s0:a8 H0 (upd H0 z (.tup [.int e.now,.int e.part,.str (if e.took then "took" else "gave"),.ref l])):=a8.new (a8.none M.own.sa hz) _;have o:=(M.own.base hz (.tup [.int e.now,.int e.part,.str (if e.took then "took" else "gave"),.ref l])).put .lg trivial (.lst (lgv++[.ref z]));refine⟨o.less (λr hr=>hr) λr hr=>?_,M.b,M.qo,λx hx=>let ⟨vs,h1,h2⟩:=M.hd x hx;⟨vs,s0 _ _ h1,h2.same s0⟩,REs.snoc ae (s0 _ _ h2) (h3.same s0) (M.lg.same s0)⟩;cases r<;>rfl
theorem PlH.trx(M:PlH a H0 H C ad hd lgv S)(x:Nat):PlH a H0 (upd H (ad .tk) (.lst (ay S.tr++[.int x]))) C ad hd lgv { S with tr:=S.tr++[x] }:=by
 have o:=M.own.put .tk trivial (.lst (ay S.tr++[.int x]));refine⟨o.less (λr hr=>hr) λr hr=>?_,M.b,M.qo,M.hd,M.lg⟩
 cases r with
 |tk=>show HO.lst _=HO.lst (ay (S.tr++[x]));rw[ie];rfl
 |_=>rfl
end
theorem w5(T:Tx P w K mg a):aC P w K mg base CX0 4 a.AK a.AL ["self","now","part"] (mH a):=by
 refine T.Dg.ok eW (λvs H Q E h=>?_) (λcdv A outer s H vs Q E hr h=>?_)
 ·obtain⟨_,_,_,_,_,_,_,_,_,rfl,_⟩:=h
  rfl
 obtain⟨H0,C,ad,hd,lgv,S,now,x,rem,rfl,B,M,G,k⟩:=h
 refine⟨_,(ac (aS (i:=3) eW.nd U Oi (am aP (az (pq 0) U) (pq 2) Oy))
  (ac (cH PassesOwn.never U (cb (pq 3)) (i3 U (bZ (aU (i:=4) eW.nd U Oi) (bZ (aU (i:=5) eW.nd U Oi) dL)))
  (af (aX (dX (df (cN (az (pq 0) U) T.wE T.DS (vM T) (hr.mono Qy) T.CA .nil aE (a0 (pq 4) a9)))) (ac (bQ (cI qe qt qu cX (am aP (az (pq 0) U) (pq 4) Oy) (a0 (pq 2) a9)))
  (af uD)) aW)))
  (ac (cH PassesOwn.never U (cb (pq 3)) (i3 U (bZ (aU (i:=4) eW.nd U Oi) (bZ (aU (i:=5) eW.nd U Oi) dL)))
  (ac (bQ (cN (az (pq 0) U) T.wE T.DU (vN T) (hr.mono Qy) T.CF .nil aE (a0 (pq 4) (a0 (pq 5) a9))))
  (ac (bQ (cI qe Ql Qk jY (az (pq 0) U) (a0 (am aP (az (pq 0) U) (pq 4) Oy) a9)))
  (af (hZ (bI a9) (i4 (az (pq 0) U) (pq 4) gM))))))
  (ac (bQ (cI qe qt qu cX (az (pq 0) U) (a0 (cw (a0 (pq 1) (a0 (pq 2) (a0 c0 (a0 (pq 3) a9))))) a9)))
  (af (bQ (cI qe qt qu cX (az (pq 0) U) (a0 (pq 2) a9)))))))),?_⟩
 obtain⟨loc,I⟩:=G.loc;have hx:=I.not.2.1;have ho:=M.ob;obtain⟨vs,hv0,hvs⟩:=M.hd x hx;have hv:=M.own.sa _ _ hv0;have vl:=hvs.len;have cp:=G.cap;have hh:=M.own.av .hl trivial;have ry:=M.ry B λi=>⟨(cp.st i).2,by have:=(cp.st i).1;omega⟩;have hat:atI ((List.range C.n).map λx=>V.ref (hd x)) (x:Int)=some (.ref (hd x)):=bO (c6 hx);refine⟨_,U,C.b,_,C.dx,_,_,U,ho,T.f8,T.Bw,lz5 U,_,U,ad .hl,_,_,_,U,U,SqL.of hh,hat,?_⟩;refine⟨_,U,hd x,U,⟨_,SqL.of hv⟩,?_⟩;refine gz (K:=K) (a:=hd x) (xs:=vs) (λi σ G=>(∃v4 v5,σ=[some (.ref C.b),some (.int now),some (.int x),some (.ref (hd x)),v4,v5])/\G=H/\∀p∈(S.held x).take i,roomF C.ls S p.1.toNat=true) ⟨⟨_,_,U⟩,U,λp hp=>by simp at hp⟩ ?_ ?_ ?_
 ·rintro i σ G _ ⟨_,rfl,_⟩;exact SqL.of hv
 ·rintro i v σ G hi ⟨⟨v4,v5,rfl⟩,rfl,hp⟩;obtain⟨p,y,rfl,hy,hpy⟩:=hvs.at hi;have hp1:=M.own.sa _ _ hpy;have yr:=(cp.hn x hx).1 y (qx hy);have lt:y.1.toNat<C.nl:=Qz;refine⟨p,_,U,SqT.of hp1,U,_,_,U,_,_,U,U,?_⟩;refine⟨_,U,C.b,_,C.dx,_,_,U,ho,T.f8,T.zf,lz0 U,C.y,C.dy,_,U,ry.o,eB Qx,_,U,C.y,C.dy,C.la,C.lq,_,_,_,y.1,S.st y.1.toNat,C.ls y.1.toNat,U,ry,yr.1,c6 lt,c6 lt,_,U,?_⟩
  cases c:roomF C.ls S y.1.toNat with
  |true=>
   refine aI (by rw[show roomV (C.ls y.1.toNat) (((S.st y.1.toNat).1.length:Int)-(S.st y.1.toNat).2)=true from c];rfl) ⟨⟨_,_,U⟩,U,λq hq=>?_⟩;rw[qp,hy,qf]at hq;rcases hq with hq|hq
   ·exact hp q hq
   ·rw[qQ.mp hq];exact c
  |false=>
   have hwr:=M.own.av .wrl trivial;have hwi:=M.own.av (.wr y.1.toNat) lt
   have hatw:atI ((List.range C.nl).map λi=>V.ref (ad (.wr i))) y.1=some (.ref (ad (.wr y.1.toNat))):=by
    rw[<- Int.toNat_of_nonneg yr.1];exact bO (c6 lt)
   have wl:=(I.wr y.1.toNat).len;have nb:=B.n;refine bC (by rw[show roomV (C.ls y.1.toNat) (((S.st y.1.toNat).1.length:Int)-(S.st y.1.toNat).2)=false from c];rfl) ?_;refine⟨_,U,C.b,_,C.dx,_,_,U,ho,T.f8,T.zM,lz9 U,_,U,ad .wrl,_,_,_,U,U,SqL.of hwr,hatw,.inl ⟨U,_,SqL.of hwi⟩,_,U,ad (.wr y.1.toNat),_,_,U,U,hwi,bq (m:=1000) (by rw[ee];omega),?_⟩;refine k H0 _ ad lgv (a8.refl _) ?_
   rw[show cg C.ls S now x=gJ S y.1.toNat x by
    unfold cg
    rw[kC hy (by rw[c];rfl) λz hz=>by rw[hp z hz];rfl]]
   exact M.stuck lt
 ·rintro σ G ⟨⟨v4,v5,rfl⟩,rfl,hp⟩;rw[List.take_of_length_le Qz]at hp
  have eg:cg C.ls S now x=dv S now x:=by
   unfold cg;rw[List.find?_eq_none.mpr λp hm=>by rw[hp p hm];exact qg]
  rw[eg]at k;refine⟨_,U,hd x,U,⟨_,SqL.of hv⟩,?_⟩;refine gz (K:=K) (a:=hd x) (xs:=vs) (λi σ G=>(∃v4 v5,σ=[some (.ref C.b),some (.int now),some (.int x),some (.ref (hd x)),v4,v5])/\∃ad' loc',aL C.n loc' (x::rem) (((S.held x).take i).foldl ak S)/\PlH a H0 G C ad' hd lgv (((S.held x).take i).foldl ak S)) ⟨⟨_,_,U⟩,ad,loc,I,M⟩ ?_ ?_ ?_
  ·rintro i σ G _ ⟨_,ad',loc',_,M1⟩;exact SqL.of (M1.own.sa _ _ hv0)
  ·rintro i v σ G hi ⟨⟨v4,v5,rfl⟩,ad',loc',I1,M1⟩;obtain⟨p,y,rfl,hy,hpy⟩:=hvs.at hi;have hp1:=M1.own.sa _ _ hpy;have yr:=(cp.hn x hx).1 y (qx hy);have lt:y.1.toNat<C.nl:=Qz;have hl10:=(cp.hn x hx).2.1
   have es:((S.held x).take (i+1)).foldl ak S=ak (((S.held x).take i).foldl ak S) y:=by
    rw[qp,hy,List.foldl_append]
    rfl
   have hst:=kr ((S.held x).take i) S;generalize ((S.held x).take i).foldl ak S=S1 at I1 M1 es hst;have tl:((S.held x).take i).length<=10:=qw (List.length_take_le' _ _) hl10;have ry1:=M1.ry B λj=>⟨by have:=hst j;have:=cp.st j;omega,by have:=hst j;have:=cp.st j;omega⟩;refine⟨p,_,U,SqT.of hp1,U,_,_,U,_,_,U,U,?_⟩;refine⟨_,U,C.b,_,C.dx,_,_,U,M1.ob,T.f8,T.zf,lz0 U,C.y,C.dy,_,U,ry1.o,eB Qx,_,U,_,U,C.y,C.dy,C.la,C.lq,_,_,_,y.1,y.2,_,S1.st y.1.toNat,U,ry1,yr.1,c6 lt,c6 lt,?_⟩;have o1:=M1.own.put (.ql y.1.toNat) lt (.lst (((S1.st y.1.toNat).1++[y.2]).map V.int));have b1:upd G (ad' (.ql y.1.toNat)) (.lst (((S1.st y.1.toNat).1++[y.2]).map V.int)) C.b=some (plO a C ad' S1.sp):=M1.b▸o1.av .b trivial;have t1:_=some (HO.lst (ay S1.tr)):=o1.av .tk trivial;have w1:_=some (HO.lst ((List.range C.nl).map λi=>V.ref (ad' (.wt i)))):=o1.av .wtl trivial;have v1:_=some (HO.lst (ay (S1.wt y.1.toNat))):=o1.av (.wt y.1.toNat) lt
   have hatw:atI ((List.range C.nl).map λi=>V.ref (ad' (.wt i))) y.1=some (.ref (ad' (.wt y.1.toNat))):=by
    rw[<- Int.toNat_of_nonneg yr.1];exact bO (c6 lt)
   have lb:=I1.tr.len2 (I1.wt y.1.toNat) nofun
   have nb:=B.n;have big:(1000:Nat)<sizeLine:=Qy;refine⟨_,U,C.b,_,C.dx,_,_,U,b1,T.f8,T.zA,lz8 U,.inl ⟨U,_,SqL.of t1⟩,_,U,C.b,_,C.dx,_,_,U,b1,T.f8,T.zN,k9 U,_,U,ad' .wtl,_,_,_,U,U,SqL.of w1,hatw,ad' .tk,ad' (.wt y.1.toNat),_,_,U,U,t1,v1,by rw[ee,ee];omega,?_⟩;have o2:=o1.put .tk trivial (.lst (ay S1.tr++ay (S1.wt y.1.toNat)));refine⟨qq _,λz hz=>?_⟩;have M3:=M1.hand (p:=y) lt hz;have o3:=o2.up (a8.new hz (.lst []));have b3:_=some (plO a C ad' S1.sp):=M1.b▸o3.av .b trivial;have w3:_=some (HO.lst ((List.range C.nl).map λi=>V.ref (ad' (.wt i)))):=o3.av .wtl trivial;refine⟨_,U,C.b,_,C.dx,_,_,U,b3,T.f8,T.zN,k9 U,_,U,ad' .wtl,_,_,y.1.toNat,U,U,w3,?_,?_⟩
   ·rw[q4,Qb,<- Int.toNat_of_nonneg yr.1];exact iq lt
   exact⟨⟨_,_,U⟩,_,_,by rw[es];exact I1.hand y,by rw[es];exact M3⟩
  ·rintro σ G ⟨⟨v4,v5,rfl⟩,ad',loc',I1,M1⟩;rw[List.take_of_length_le Qz]at I1 M1;have el:=oG (S.held x) S;have eh:=oH (S.held x) S;have tb:=I1.tr.len;have nb:=B.n;have ll:=M1.lg.len;have l7:=cp.lg;have big:(10000000:Nat)<sizeLine:=Qy;have h2:H0 (hd x)=some (.lst vs):=hv0;unfold dv at k;generalize (S.held x).foldl ak S=S1 at I1 M1 el eh k tb ll;have hlg:=M1.own.av .lg trivial;refine⟨_,U,C.b,_,C.dx,_,_,U,M1.ob,T.f8,T.zK,lz4 U,.inl ⟨U,_,SqL.of hlg⟩,_,U,_,U,_,U,ln4,λz hz=>?_⟩;have M2:=M1.ent (e:=⟨now,x,false,S.held x⟩) hz h2 hvs;have nz:ad' .lg≠z:=λe=>by rw[e,hz]at hlg;cases hlg
   refine⟨ad' .lg,_,_,U,U,by rw[ag nz];exact hlg,?_,?_⟩
   ·show lgv.length<_;rw[ll,el];omega
   have t2:=M2.own.av .tk trivial;refine⟨_,U,C.b,_,C.dx,_,_,U,M2.ob,T.f8,T.zA,lz8 U,.inl ⟨U,_,SqL.of t2⟩,_,U,ad' .tk,_,_,U,U,t2,bq (m:=1000) (by show(ay S1.tr).length+1<=1000;rw[ee];omega),?_⟩;exact k _ _ ad' _ (a8.new (a8.none M1.own.sa hz) _) (M2.trx x)
theorem qU(T:Tx P w K mg a){H:Hp}{v:V}{r:PR}(h:RPt a H v r){X:Cx}(e1:X.prog=P)(e2:X.w=w)(e3:X.K=K)(e4:X.mg=mg)(hr:bw 4 X.A):∃p C dx fs,v=.ref p/\H p=some (.ins C dx fs)/\List.lookup ("wants":Str) fs=none/\kY X C "wants" (gK a (decide (r.kind=3))):=by
 subst e1 e2 e3 e4
 cases h with
 |pass h1 _ _ _=>exact⟨_,_,_,_,U,h1,by rw[aN Qx,aN Qx,aN Qx];rfl,1,_,_,_,T.zd,T.E1,jW T,hr.mono Qy,T.Bo⟩
 |work h1 _ _ _ _=>exact⟨_,_,_,_,U,h1,by rw[aN Qx,aN Qx,aN Qx,aN Qx];rfl,1,_,_,_,T.zc,T.E5,jW T,hr.mono Qy,T.Bo⟩
 |choose h1 _ _ _=>exact⟨_,_,_,_,U,h1,by rw[aN Qx,aN Qx,aN Qx,aN Qx,aN Qx];rfl,1,_,_,_,T.wS,T.E9,jW T,hr.mono Qy,T.Bo⟩
 |merge h1 _ _ _ _=>exact⟨_,_,_,_,U,h1,by rw[aN Qx,aN Qx,aN Qx,aN Qx];rfl,4,_,_,_,T.wT,T.Ec,wb T,hr.mono Qy,T.D5⟩
theorem wL(T:Tx P w K mg a){H:Hp}{v:V}{r:PR}(h:RPt a H v r){X:Cx}(e1:X.prog=P)(e2:X.w=w)(e3:X.K=K)(e4:X.mg=mg)(hr:bw 3 X.A):∃p C dx fs,v=.ref p/\H p=some (.ins C dx fs)/\List.lookup ("made":Str) fs=none/\kY X C "made" (eQ a r.kind):=by
 subst e1 e2 e3 e4
 cases h with
 |pass h1 _ _ _=>exact⟨_,_,_,_,U,h1,by rw[aN Qx,aN Qx,aN Qx];rfl,1,_,_,_,T.zd,T.DZ,w8 T,hr.mono Qy,T.CP⟩
 |work h1 _ _ _ _=>exact⟨_,_,_,_,U,h1,by rw[aN Qx,aN Qx,aN Qx,aN Qx];rfl,3,_,_,_,T.zc,T.E4,vQ T,hr.mono Qy,T.CU⟩
 |choose h1 _ _ _=>exact⟨_,_,_,_,U,h1,by rw[aN Qx,aN Qx,aN Qx,aN Qx,aN Qx];rfl,1,_,_,_,T.wS,T.E8,we T,hr.mono Qy,T.CZ⟩
 |merge h1 _ _ _ _=>exact⟨_,_,_,_,U,h1,by rw[aN Qx,aN Qx,aN Qx,aN Qx];rfl,1,_,_,_,T.wT,T.Ed,wc T,hr.mono Qy,T.D7⟩
section
variable {H0 H:Hp}{C:PlC}{ad:Rl->Addr}{hd:Nat->Addr}{lgv:List V}{S:PlS}
theorem PlH.adopt(M:PlH a H0 H C ad hd lgv S){t:Addr}{ys:List V}(ht:H t=some (.tup ys)):∃H0',a8 H0 H0'/\H0' t=some (.tup ys)/\PlH a H0' H C ad hd lgv S:=by
 have ne:∀r,dmP C.nl (aG S.gv) r->ad r≠t:=λr hr z=>by
  have:=M.own.av r hr;rw[z,ht]at this;cases r<;>cases this
 have s:a8 H0 (upd H0 t (.tup ys)):=λc o h=>by
  by_cases e:c=t
  ·rw[e,ae];rw[e]at h;exact ht.symm.trans (M.own.sa _ _ h)
  ·rw[ag e];exact h
 refine⟨_,s,ae,M.low s ⟨λc o h=>?_,λr hr=>by rw[ag (ne r hr)];exact M.own.nw r hr,M.own.inj,M.own.av⟩⟩;by_cases e:c=t
 ·rw[e,ae]at h;rw[e];exact ht.trans h
 ·rw[ag e]at h;exact M.own.sa _ _ h
theorem PlH.ground(M:PlH a H0 H C ad hd lgv S){H':Hp}(s:a8 H H'):∃H0',a8 H0 H0'/\(∀x o,H x=none->H' x=some o->H0' x=some o)/\PlH a H0' H' C ad hd lgv S:=by
 obtain⟨H0',s0,h,o⟩:=M.own.more s;exact⟨H0',s0,h,M.low s0 o⟩
theorem RPs.new{H' K0:Hp}:∀{us:List V}{ps:List (Int×Int)},RPs H' us ps->fB H us->(∀x o,H x=none->H' x=some o->K0 x=some o)->RPs K0 us ps
 |_,_,.nil,_,_=>.nil
 |_,_,.cons h r,n,k=>.cons (k _ _ (n _ qj) h) (RPs.new r (λp hp=>n p (qi _ hp)) k)
theorem PlH.earth(M:PlH a H0 H C ad hd lgv S){z:Addr}(hz:H z=none)(o:HO):PlH a (upd H0 z o) (upd H z o) C ad hd lgv S:=M.low (a8.new (a8.none M.own.sa hz) _) (M.own.base hz o)
theorem PlH.spare(M:PlH a H0 H C ad hd lgv S){n:Nat}{v:V}(e:v=.int n):PlH a H0 (upd H C.b (.ins a.ge C.dx (plN.zip ((plV C ad S.sp).set 3 v)))) C ad hd lgv { S with sp:=n }:=by
 subst e;have o:=M.own.put .b trivial (plO a C ad n);rw[M.b]at o;refine⟨o.less (λr hr=>hr) λr hr=>?_,M.b,M.qo,M.hd,M.lg⟩;cases r<;>rfl
theorem PlH.takeOne(M:PlH a H0 H C ad hd lgv S){i:Nat}(hi:i<C.nl):PlH a H0 (upd H (C.qo i) (.ins a.mt (C.dq i) [("laid",.ref (ad (.ql i))),("gone",.int ((S.st i).2+1:Nat))])) C ad hd lgv { S with st:=put S.st i ((S.st i).1,(S.st i).2+1) }:=by
 have o:=M.own.put (.qo i) hi (.ins a.mt (C.dq i) [("laid",.ref (ad (.ql i))),("gone",.int ((S.st i).2+1:Nat))]);rw[M.qo i hi]at o;refine⟨o.less (λr hr=>hr) λr hr=>?_,M.b,M.qo,M.hd,M.lg⟩
 cases r with
 |qo j=>
  show _=HO.ins a.mt (C.dq j) [_,("gone",V.int ((put S.st i _ j).2:Nat))];by_cases e:j=i
  ·rw[e,bR,ap]
  ·rw[br λz=>e (Rl.qo.inj z),ai e];rfl
 |ql j=>
  show HO.lst _=HO.lst ((put S.st i _ j).1.map V.int);by_cases e:j=i
  ·rw[e,ap]
  ·rw[ai e]
 |_=>rfl
theorem PlH.hold(M:PlH a H0 H C ad hd lgv S){x:Nat}{l:Addr}{us:List V}{ps:List (Int×Int)}(h1:H0 l=some (.lst us))(h2:RPs H0 us ps):PlH a H0 (upd H (ad .hl) (.lst (((List.range C.n).map λj=>V.ref (hd j)).set x (.ref l)))) C ad (put hd x l) lgv { S with held:=put S.held x ps }:=by
 have o:=M.own.put .hl trivial (.lst (((List.range C.n).map λj=>V.ref (hd j)).set x (.ref l)));refine⟨o.less (λr hr=>hr) λr hr=>?_,M.b,M.qo,λy hy=>?_,M.lg⟩
 ·cases r with
  |hl=>show HO.lst _=HO.lst ((List.range C.n).map λj=>V.ref (put hd x l j));rw[gY]
  |_=>rfl
 ·show ∃vs,H0 (put hd x l y)=_/\RPs H0 vs (put S.held x ps y);by_cases e:y=x
  ·rw[e,ap,ap];exact⟨us,h1,h2⟩
  ·rw[ai e,ai e];exact M.hd y hy
theorem PlH.count(M:PlH a H0 H C ad hd lgv S){x n:Nat}{v:V}(e:v=.int n):PlH a H0 (upd H (ad .tl) (.lst (((List.range C.n).map λj=>V.int (S.tks j)).set x v))) C ad hd lgv { S with tks:=put S.tks x n }:=by
 subst e;have o:=M.own.put .tl trivial (.lst (((List.range C.n).map λj=>V.int (S.tks j)).set x (.int n)));refine⟨o.less (λr hr=>hr) λr hr=>?_,M.b,M.qo,M.hd,M.lg⟩
 cases r with
 |tl=>
  have:=gY (f:=S.tks) (g:=λk:Nat=>V.int k) (n:=C.n) (i:=x) (v:=n);exact congrArg HO.lst this
 |_=>rfl
theorem PlH.clear(M:PlH a H0 H C ad hd lgv S){i:Nat}{z:Addr}(hz:H z=none):PlH a H0 (upd (upd H z (.lst [])) (ad .wrl) (.lst (((List.range C.nl).map λi=>V.ref (ad (.wr i))).set i (.ref z)))) C (at' ad (.wr i) z) hd lgv { S with wr:=put S.wr i [] }:=by
 have o3:=M.own.new (.wr i) hz (.lst []);have o4:=o3.put .wrl (.inr trivial) (.lst (((List.range C.nl).map λi=>V.ref (ad (.wr i))).set i (.ref z)));refine⟨o4.less (λr hr=>.inr hr) λr hr=>?_,M.b,M.qo,M.hd,M.lg⟩
 cases r with
 |wr j=>
  show at' _ (Rl.wr _) _ (Rl.wr j)=HO.lst (ay (put S.wr i [] j));by_cases e:j=i
  ·rw[e,bR,ap];rfl
  ·rw[br λz=>e (Rl.wr.inj z),ai e];rfl
 |wrl=>
  show HO.lst _=HO.lst ((List.range C.nl).map λj=>V.ref (at' ad (.wr i) z (.wr j)));rw[yL,gY]
 |_=>rfl
end
theorem vY(T:Tx P w K mg a):aC P w K mg base CX0 5 a.zn a.AM ["self","now","part"] (mF a):=by
 refine T.Di.ok fP (λvs H Q E h=>?_) (λcdv A outer s H vs Q E hr h=>?_)
 ·obtain⟨_,_,_,_,_,_,_,_,_,rfl,_⟩:=h
  rfl
 obtain⟨H0,C,ad,hd,lgv,S,now,x,rem,rfl,B,M,G,k1,k2,k3⟩:=h
 refine⟨_,(ac (aS (i:=3) fP.nd U Oi (nJ (am aP (az (pq 0) U) (pq 2) Oy) (a0 (az (pq 0) U) a9)))
  (ac (cH PassesOwn.never U (jV (pq 3)) (aU (i:=4) fP.nd U Oi)
  (af (aX (aF ba (cN (az (pq 0) U) T.wE T.BX (nU T) (hr.mono Qy) T.BB .nil aE (a0 (pq 4) a9)) aa (aB _)) (ac (bQ (cI qe qt qu cX (am aP (az (pq 0) U) (pq 4) Oy) (a0 (pq 2) a9)))
  (af (ar cq))) aW)))
  (ac (aX (aF ba (az (pq 0) U) aa (aB _)) (af (ar cq)) aW)
  (ac (bp (pq 0) (ah cF (az (pq 0) U) aa) U)
  (ac (hX (i:=5) fP.nd U Oi (k:=1) (Nc:=["line","self"]) (js:=[0]) (show aO (aj eX) ["self","now","part","wanted","line","things"] _ 1 ["line","self"] [0]from aO.mk U (by decide +kernel) (by decide +kernel) (by decide +kernel) U (by decide +kernel)) U (jV (pq 3)) (λ_ _ _ _ _=>(aU (i:=0) (show List.Nodup (["line","self"]:List Str)from by decide +kernel) U Oi)) (λ_ _ _ _ _=>c4) (λ_ _ _ _ _=>(cN (uX (K:=K) U (pq 1) U) T.wE T.DV (vK T) (hr.mono Qy) T.CH .nil aE (a0 (pq 0) a9))))
  (ac (bQ (cI qe qt qu cX (az (pq 0) U) (a0 (cw (a0 (pq 1) (a0 (pq 2) (a0 c0 (a0 (i5 U U T.wP U T.zx (a0 (pq 3) (a0 (pq 5) a9))) a9))))) a9)))
  (ac (hZ (nJ (am aP (az (pq 0) U) (pq 2) Oy) (a0 (pq 5) a9)) (i4 (az (pq 0) U) (pq 2) gM))
  (ac (bQ (cN (pq 0) T.f8 T.Ce (nW T) (hr.mono Qy) T.BF .nil aE (a0 (ah bH (ah bH (pq 1) aa) (cN (pq 0) T.f8 T.Ej (vZ T) (hr.mono Qy) T.Dm .nil aE (a0 (pq 2) a9))) (a0 (bI (a0 (pq 2) a9)) a9))))
  (ac (hZ (ah bH (am aP (az (pq 0) U) (pq 2) Oy) aa) (i4 (az (pq 0) U) (pq 2) gM))
  (ac (cH PassesOwn.never U (jV (pq 3)) (aU (i:=4) fP.nd U Oi)
  (ac (bQ (cN (pq 0) T.f8 T.Ce (nW T) (hr.mono Qy) T.BF .nil aE (a0 (ah bH (pq 1) aa) (a0 (am aP (az (pq 0) U) (pq 4) Oy) a9))))
  (af (hZ (bI a9) (i4 (az (pq 0) U) (pq 4) gM)))))
  (af (ar cq)))))))))))),?_⟩
 obtain⟨loc,I⟩:=G.loc;have hx:=I.not.2.1;obtain⟨v,hv,rp⟩:=B.du x hx;obtain⟨rok,rft⟩:=B.ok x hx;have cp:=G.cap;have ry:=M.ry B λi=>⟨(cp.st i).2,by have:=(cp.st i).1;omega⟩;have rpH:=rp.same M.own.sa;have nb:=B.n;have big:(10000000:Nat)<sizeLine:=Qy;obtain⟨p,cC,dx',fs,rfl,hp,lw,mw⟩:=qU T rpH (X:=(dw CX0 P w K mg base ["self","now","part","wanted","line","things"] "Play.take" (aj eX) a.zn cdv A outer s H E).nox) U U U U (hr.mono Qy);have hatd:atI C.us (x:Int)=some (.ref p):=bO hv;refine⟨_,U,C.b,_,C.dx,_,_,U,M.ob,T.f8,T.Bv,lz1 U,_,U,C.dl,_,_,_,U,U,SqL.of (M.own.sa _ _ B.dl),hatd,p,cC,dx',fs,_,U,hp,lw,mw,_,U,C.b,_,C.dx,_,_,U,M.ob,T.f8,T.zf,lz0 U,C,S,_,C.prt x,_,_,U,U,rpH,rok,rft,ry,λH1 t s1 ht=>?_⟩;have M0:=M.up s1;obtain⟨H0',s0,ht0,M1⟩:=M0.adopt ht;have B1:=B.same s0;have ft:=iM (S:=S) rft;have few:=lC (S:=S) rok;have ww:=iK (S:=S) rok;generalize hws:ao S (C.prt x)=ws at ht ht0 ft few ww k1 k2 k3;have ry1:=M1.ry B1 λi=>⟨(cp.st i).2,by have:=(cp.st i).1;omega⟩;dsimp only[aK];refine⟨_,U,t,U,⟨_,SqT.of ht⟩,?_⟩;refine oR (K:=K) (a:=t) (xs:=ws.map V.int) (λi σ G=>(∃v4 v5,σ=[some (.ref C.b),some (.int now),some (.int x),some (.ref t),v4,v5])/\G=H1/\∀w∈ws.take i,(aA S w.toNat).isEmpty=false) ⟨⟨_,_,U⟩,U,λp hp=>by simp at hp⟩ ?_ ?_ ?_
 ·rintro i σ G _ ⟨_,rfl,_⟩;exact SqT.of ht
 ·rintro i v σ G hi ⟨⟨v4,v5,rfl⟩,rfl,hp⟩;rw[qC]at hi;obtain⟨w,hw,rfl⟩:=qN.mp hi;have wl:=ft.lo w (qx hw);have wh:=ft.hi w (qx hw);have lt:w.toNat<C.nl:=Qz;refine⟨_,U,C.b,_,C.dx,_,_,U,M1.ob,T.f8,T.zf,lz0 U,C.y,C.dy,_,U,ry1.o,eB Qx,_,U,C.y,C.dy,C.la,C.lq,_,_,_,w,S.st w.toNat,U,ry1,wl,c6 lt,U,_,U,?_⟩;have hg:=(cp.st w.toNat).2
  have er:(((S.st w.toNat).1.length:Int)-(S.st w.toNat).2=0)↔(aA S w.toNat).isEmpty=true:=by
   unfold aA;rw[List.isEmpty_iff,List.drop_eq_nil_iff];omega
  refine bJ (λc=>?_) (λc=>?_)
  ·have ce:=er.mp (eE c);have hwr:=M1.own.av .wtl trivial;have hwi:=M1.own.av (.wt w.toNat) lt
   have hatw:atI ((List.range C.nl).map λi=>V.ref (ad (.wt i))) w=some (.ref (ad (.wt w.toNat))):=by
    conv=>lhs;arg 2;rw[<- Int.toNat_of_nonneg wl]
    exact bO (c6 lt)
   have wl':=(I.wt w.toNat).len;refine⟨_,U,C.b,_,C.dx,_,_,U,M1.ob,T.f8,T.zN,k9 U,_,U,ad .wtl,_,_,_,U,U,SqL.of hwr,hatw,.inl ⟨U,_,SqL.of hwi⟩,_,U,ad (.wt w.toNat),_,_,U,U,hwi,bq (m:=1000) (by rw[ee];omega),?_⟩;exact k1 w (kC hw ce hp) H0' _ s0 (M1.wait lt)
  ·have ce:(aA S w.toNat).isEmpty=false:=by
    cases e:(aA S w.toNat).isEmpty with
    |false=>rfl
    |true=>exact Q1 (er.mpr e) (eF c)
   refine⟨⟨_,_,U⟩,U,λq hq=>?_⟩;rw[qp,hw,qf]at hq;rcases hq with hq|hq
   ·exact hp q hq
   ·rw[qQ.mp hq];exact ce
 rintro σ G ⟨⟨v4,v5,rfl⟩,rfl,hp⟩;rw[q4,qF]at hp;have nl:cQ S ws=none:=List.find?_eq_none.mpr λw hw=>by rw[hp w hw];exact qg
 have k2:=k2 nl;have k3:=k3 nl;have ww:=ww nl;refine⟨_,U,C.b,_,C.dx,_,_,U,M1.ob,T.f8,T.zJ,lz3 U,U,_,U,bJ (λc=>?_) (λc=>?_)⟩
 ·exact k2 (by have:=eE c;omega) H0' _ s0 M1
 have sp0:S.sp≠0:=λz=>eF c (by rw[z];rfl);have k3:=k3 sp0;refine⟨_,U,C.b,_,C.dx,_,_,U,M1.ob,T.f8,T.zJ,lz3 U,_,_,U,U,_,U,C.b,_,C.dx,_,U,M1.ob,T.f8,T.zJ,by simp[plN,plV],?_⟩;rw[jT 3 U Qx (by show 3<11;decide)];have M2:=M1.spare (n:=S.sp-1) (v:=.int ((S.sp:Int)-1)) (by congr 1;omega)
 have rne:∀w∈ws,(S.st w.toNat).2<(S.st w.toNat).1.length:=λw hw=>by
  have:=hp w hw;unfold aA at this
  cases e:(S.st w.toNat).1.drop (S.st w.toNat).2 with
  |nil=>rw[e]at this;cases this
  |cons y r=>
   by_cases z:(S.st w.toNat).2<(S.st w.toNat).1.length
   ·exact z
   ·rw[List.drop_eq_nil_iff.mpr Qz]at e;cases e
 have hth:∀w∈ws,(S.st w.toNat).1[(S.st w.toNat).2]?=some (aM S w):=λw hw=>by
  have lt:=rne w hw;unfold aM aA;rw[List.drop_eq_getElem_cons lt,qa lt]
  rfl
 refine⟨_,U,t,U,⟨_,SqT.of (M2.own.sa _ _ ht0)⟩,?_⟩;refine yk (K:=K) (a:=t) (xs:=ws.map V.int) (λi ys σ G=>(∃v,σ=[v,some (.ref C.b)])/\ys=((ws.take i).map (aM S)).map V.int/\PlH a H0' G C ad hd lgv { S with sp:=S.sp-1,st:=bu S.st (ws.take i) }) ⟨⟨_,U⟩,U,M2⟩ ?_ (bq (m:=1000) (by rw[q4];omega)) ?_ ?_ ?_
 ·rintro i ys σ G hi ⟨_,rfl,_⟩;rw[q4,q4];exact List.length_take_le _ _
 ·rintro i ys σ G ⟨_,_,Mi⟩;exact SqT.of (Mi.own.sa _ _ ht0)
 ·rintro i v ys σ G hi ⟨⟨v',rfl⟩,rfl,Mi⟩;rw[qC]at hi;obtain⟨w,hw,rfl⟩:=qN.mp hi;have wm:=qx hw;have wl:=ft.lo w wm;have wh:=ft.hi w wm;have lt:w.toNat<C.nl:=Qz;have nd:=ft.nd;have nd2:((ws.take i).map Int.toNat).Nodup:=nd.sublist ((List.take_sublist _ _).map _)
  have off:w.toNat∉(ws.take i).map Int.toNat:=by
   have e:(ws.take (i+1)).map Int.toNat=(ws.take i).map Int.toNat++[w.toNat]:=by rw[qp,hw,qM];rfl
   have n3:((ws.take (i+1)).map Int.toNat).Nodup:=nd.sublist ((List.take_sublist _ _).map _);rw[e,List.nodup_append]at n3;exact λz=>n3.2.2 _ z _ (qQ.mpr U) U
  have es:bu S.st (ws.take i) w.toNat=S.st w.toNat:=lJ off;have ryi:=Mi.ry B1 λj=>⟨iP nd2 (λu hu=>rne u (List.mem_of_mem_take hu)) (λj=>(cp.st j).2) j,by show(bu S.st (ws.take i) j).1.length<=_;rw[fH];have:=(cp.st j).1;omega⟩;have tm:=Mi.takeOne lt;refine⟨_,U,C.b,_,C.dx,_,_,U,Mi.ob,T.f8,T.zf,lz0 U,C.y,C.dy,_,U,ryi.o,eB Qx,_,U,C.y,C.dy,C.la,C.lq,_,_,_,w,aM S w,_,_,U,ryi,wl,c6 lt,c6 lt,?_,?_⟩
  ·show(bu S.st (ws.take i) w.toNat).1[(bu S.st (ws.take i) w.toNat).2]?=_;rw[es];exact hth w wm
  ·refine⟨⟨_,U⟩,?_,?_⟩
   ·rw[qp,hw,qM,qM];rfl
   ·rw[qp,hw];show PlH a H0' _ C ad hd lgv { S with sp:=S.sp-1,st:=bu S.st (ws.take i++[w]) };rw[rM];exact tm
 rintro ys σ3 G3 ⟨_,rfl,M3⟩ l hl;rw[q4,qF]at M3 ⊢;have M4:=M3.earth hl (.lst ((ws.map (aM S)).map V.int));have s4:a8 H0' (upd H0' l (.lst ((ws.map (aM S)).map V.int))):=a8.new (a8.none M3.own.sa hl) _;have hl4:upd H0' l (.lst ((ws.map (aM S)).map V.int)) l=some (.lst ((ws.map (aM S)).map V.int)):=ae;have ht4:=s4 _ _ ht0;have B4:=B1.same s4;have s04:=s0.trans s4;generalize upd H0' l (.lst ((ws.map (aM S)).map V.int))=K0 at M4 s4 hl4 ht4 B4 s04;generalize upd G3 l (.lst ((ws.map (aM S)).map V.int))=G4 at M4 ⊢;dsimp only[aK];have hlg:=M4.own.av .lg trivial;refine⟨_,U,C.b,_,C.dx,_,_,U,M4.ob,T.f8,T.zK,lz4 U,.inl ⟨U,_,SqL.of hlg⟩,_,U,_,U,_,U,_,U,true,false,t,l,_,_,U,SqT.of (M4.own.sa _ _ ht4),SqL.of (M4.own.sa _ _ hl4),λH5 lz ts s5 nlz hz tl at_=>?_⟩;obtain⟨K1,s6,new6,M5⟩:=M4.ground s5;have hz0:=new6 _ _ nlz hz;have rz:RPs K1 (ts.map V.ref) (ws.zip (ws.map (aM S))):=RPs.zip (by rw[tl,q4,q4]) λj t x y a b c=>new6 _ _ (at_ j t x y a b c).2 (at_ j t x y a b c).1;refine⟨ln4,λz hz'=>?_⟩;have M6:=M5.ent (e:=⟨now,x,true,ws.zip (ws.map (aM S))⟩) hz' hz0 rz;have hlg5:=M5.own.av .lg trivial;have nz:ad .lg≠z:=λe=>by rw[e,hz']at hlg5;cases hlg5
 have ll:=M5.lg.len;refine⟨ad .lg,_,_,U,U,by rw[ag nz];exact hlg5,?_,?_⟩
 ·show lgv.length<_;have:=cp.lg;have ll:lgv.length=S.lg.length:=ll;omega
 have s7:a8 K1 _:=a8.new (a8.none M5.own.sa hz') (.tup [.int now,.int x,.str "took",.ref lz]);have s07:=s04.trans (s6.trans s7);have B6:=B4.same (s6.trans s7);have hl6:=(s6.trans s7) _ _ hl4;have ht6:=(s6.trans s7) _ _ ht4;have rp6:=rp.same s07;change PlH a (upd K1 z (.tup [.int now,.int x,.str "took",.ref lz])) (upd (upd H5 z (.tup [.int now,.int x,.str "took",.ref lz])) (ad .lg) (.lst (lgv++[.ref z]))) C ad hd (lgv++[.ref z]) { S with sp:=S.sp-1,st:=bu S.st ws,lg:=S.lg++[⟨now,x,true,ws.zip (ws.map (aM S))⟩] }at M6;show gH _ _ _ _ (upd (upd H5 z (.tup [.int now,.int x,.str "took",.ref lz])) (ad .lg) (.lst (lgv++[.ref z])));generalize upd K1 z (.tup [.int now,.int x,.str "took",.ref lz])=K2 at M6 s7 s07 B6 hl6 ht6 rp6;generalize upd (upd H5 z (.tup [.int now,.int x,.str "took",.ref lz])) (ad .lg) (.lst (lgv++[.ref z]))=G6 at M6 ⊢;have rp6H:=rp6.same M6.own.sa;obtain⟨p',cC',dx'',fs',ep,hp6,lm,mm⟩:=wL T rp6H (X:=(dw CX0 P w K mg base ["self","now","part","wanted","line","things"] "Play.take" (aj eX) a.zn cdv A outer s H E).nox) U U U U (hr.mono Qy);cases ep
 have on:∀v∈ws.map (aM S),OnW v:=λv hv=>by
  obtain⟨w,hw,rfl⟩:=List.mem_map.mp hv;exact cp.on w.toNat _ (qx (hth w hw))
 refine⟨_,U,C.b,_,C.dx,_,_,U,M6.ob,T.f8,T.Bv,lz1 U,_,U,C.dl,_,_,_,U,U,SqL.of (M6.own.sa _ _ B6.dl),hatd,p,cC',dx'',fs',_,U,hp6,lm,mm,_,U,_,l,C.prt x,ws.map (aM S),U,U,rp6H,rok,M6.own.sa _ _ hl6,by rw[q4];exact ww,on,λH7 l7 us7 s8 n7 h7 an7 r7=>?_⟩;obtain⟨K3,s9,new9,M7⟩:=M6.ground s8;have M8:=M7.hold (x:=x) (new9 _ _ n7 h7) (RPs.new r7 an7 new9);have B8:=B6.same s9;have ht8:=s9 _ _ ht6;have s08:=s07.trans s9;have hh:=M7.own.av .hl trivial;refine⟨_,U,C.b,_,C.dx,_,_,U,M7.ob,T.f8,T.Bw,lz5 U,_,U,ad .hl,_,_,x,U,U,hh,iq (by rw[q4,Qb];exact hx),?_⟩;show gH _ _ _ _ (upd H7 (ad .hl) (.lst (((List.range C.n).map λj=>V.ref (hd j)).set x (.ref l7))));generalize upd H7 (ad .hl) (.lst (((List.range C.n).map λj=>V.ref (hd j)).set x (.ref l7)))=G8 at M8 ⊢;refine⟨_,U,C.b,C.dx,_,U,M8.ob,e9 Qx,_,U,_,_,U,U,_,U,C.b,C.dx,_,U,M8.ob,e9 Qx,_,U,K3,C,ad,_,_,_,x,U,B8,M8,hx,_,_,U,U,_,U,ln1,λz9 hz9=>?_⟩;have M9:=M8.earth hz9 (.lst (ay [x]));have s10:a8 K3 (upd K3 z9 (.lst (ay [x]))):=a8.new (a8.none M8.own.sa hz9) _;have B9:=B8.same s10;have ht9:=s10 _ _ ht8;have s09:=s08.trans s10;refine⟨_,C,ad,_,_,_,_,z9,[x],U,B9,M9,ae,λk hk e=>?_,?_,by show 1<=1000;decide,λkv hkv=>?_,I.gk,λH10 ad10 M10 ead=>?_⟩
 ·have:=M8.own.av (.gv k) hk;rw[<- e,hz9]at this;cases this
 ·have:=cp.gv;show S.gv.length<_;omega
 ·have:=(I.gv kv hkv).len;omega
 generalize upd K3 z9 (.lst (ay [x]))=K4 at M10 s10 B9 ht9 s09;have tl10:=M10.own.av .tl trivial;have hat10:atI ((List.range C.n).map λx=>V.int (S.tks x)) (x:Int)=some (.int (S.tks x)):=bO (c6 hx);refine⟨_,U,C.b,_,C.dx,_,_,U,M10.ob,T.f8,T.zL,lz6 U,_,U,ad10 .tl,_,_,_,U,U,SqL.of tl10,hat10,_,_,U,U,_,U,C.b,_,C.dx,_,_,U,M10.ob,T.f8,T.zL,lz6 U,_,U,ad10 .tl,_,_,x,U,U,tl10,iq (by rw[q4,Qb];exact hx),?_⟩;have M11:=M10.count (x:=x) (n:=S.tks x+1) (v:=.int ((S.tks x:Int)+1)) U
 have e11:({ S with sp:=S.sp-1,st:=bu S.st ws,lg:=S.lg++[⟨now,x,true,ws.zip (ws.map (aM S))⟩],held:=put S.held x ((C.prt x).made (ws.map (aM S))),gv:=bc S.gv (now+1+bM C.pace x (S.tks x)) [x],tks:=put S.tks x (S.tks x+1) }:PlS)=bP (C.prt x) C.pace S now x:=by
  unfold bP;rw[hws]
 have I11:aL C.n (put loc x (.gv (now+1+bM C.pace x (S.tks x)))) rem (bP (C.prt x) C.pace S now x):=(I.toGv (now+1+bM C.pace x (S.tks x))).eq U U U U
 have g11:(bP (C.prt x) C.pace S now x).gv.length<=S.gv.length+1:=by
  show(bc S.gv (now+1+bM C.pace x (S.tks x)) [x]).length<=_;exact iG
 have M11:PlH a K4 _ C ad10 _ _ (bP (C.prt x) C.pace S now x):=e11▸M11;have k3:∀H0' H' ad' hd' lgv',a8 H0 H0'->PlH a H0' H' C ad' hd' lgv' (ws.foldl (be now) (bP (C.prt x) C.pace S now x))->Q (.bl true) H':=λa1 a2 a3 a4 a5 a6 a7=>k3 a1 a2 a3 a4 a5 a6 (by unfold aT;rw[hws];exact a7);generalize bP (C.prt x) C.pace S now x=S11 at M11 I11 g11 k3;refine⟨_,U,t,U,⟨_,SqT.of (M11.own.sa _ _ ht9)⟩,?_⟩;refine oR (K:=K) (a:=t) (xs:=ws.map V.int) (λi σ G=>(∃v4,σ=[some (.ref C.b),some (.int now),some (.int x),some (.ref t),v4,some (.ref l)])/\∃ad' loc',aL C.n loc' rem ((ws.take i).foldl (be now) S11)/\((ws.take i).foldl (be now) S11).gv.length<=S.gv.length+1+i/\PlH a K4 G C ad' (put hd x l7) (lgv++[.ref z]) ((ws.take i).foldl (be now) S11)) ⟨⟨_,U⟩,_,_,I11,g11,M11⟩ ?_ ?_ ?_
 ·rintro i σ G _ ⟨_,ad',loc',_,_,Mi⟩;exact SqT.of (Mi.own.sa _ _ ht9)
 ·rintro i v σ G hi ⟨⟨v4,rfl⟩,ad',loc',Ii,gi,Mi⟩;rw[qC]at hi;obtain⟨w,hw,rfl⟩:=qN.mp hi;have il:=(qd.mp hw).1;have wm:=qx hw;have wl:=ft.lo w wm;have wh:=ft.hi w wm;have lt:w.toNat<C.nl:=Qz
  have es:(ws.take (i+1)).foldl (be now) S11=be now ((ws.take i).foldl (be now) S11) w:=by
   rw[qp,hw,List.foldl_append]
   rfl
  generalize (ws.take i).foldl (be now) S11=Si at Ii gi Mi es;have hwr:=Mi.own.av .wrl trivial;have hwi:=Mi.own.av (.wr w.toNat) lt
  have hatw:atI ((List.range C.nl).map λi=>V.ref (ad' (.wr i))) w=some (.ref (ad' (.wr w.toNat))):=by
   conv=>lhs;arg 2;rw[<- Int.toNat_of_nonneg wl]
   exact bO (c6 lt)
  have wl2:=(Ii.wr w.toNat).len;dsimp only[aK];refine⟨_,U,C.b,C.dx,_,U,Mi.ob,e9 Qx,_,U,_,_,U,U,_,U,C.b,_,C.dx,_,_,U,Mi.ob,T.f8,T.zM,lz9 U,_,U,ad' .wrl,_,_,_,U,U,SqL.of hwr,hatw,?_⟩;refine⟨_,C,ad',_,_,_,_,ad' (.wr w.toNat),Si.wr w.toNat,U,B9,Mi,hwi,λk hk e=>?_,?_,Qz,λkv hkv=>?_,Ii.gk,λH12 ad12 M12 ead2=>?_⟩
  ·exact nomatch Mi.own.inj (.wr w.toNat) (.gv k) lt hk e
  ·have:=cp.gv;omega
  ·have:=(Ii.gv kv hkv).len;omega
  refine⟨qq _,λz13 hz13=>?_⟩;have M13:=M12.clear (i:=w.toNat) hz13;have M12u:=M12.up (a8.new hz13 (.lst []));have w13:=M12u.own.av .wrl trivial;refine⟨_,U,C.b,_,C.dx,_,_,U,M12u.ob,T.f8,T.zM,lz9 U,_,U,ad12 .wrl,_,_,w.toNat,U,U,w13,?_,?_⟩
  ·rw[q4,Qb]
   conv=>lhs;arg 2;rw[<- Int.toNat_of_nonneg wl]
   exact iq lt
  refine⟨⟨_,U⟩,_,_,by rw[es];exact Ii.free now w,?_,by rw[es];exact M13⟩;rw[es];have:(bc Si.gv (now+1) (Si.wr w.toNat)).length<=Si.gv.length+1:=iG;show(bc Si.gv (now+1) (Si.wr w.toNat)).length<=_;omega
 rintro σ G ⟨⟨v4',rfl⟩,ad',loc',_,_,Mi⟩;rw[q4,qF]at Mi;exact k3 K4 _ ad' _ _ s09 Mi
structure Hs(nl:Nat)(ps:List (Int×Int)):Prop where
 ok:∀p∈ps,0<=p.1/\p.1<nl/\OnW p.2
 few:ps.length<=10
 nd:(ps.map λp=>p.1.toNat).Nodup
theorem lv:∀(ls xs:List Int),((ls.zip xs).map λp=>p.1.toNat).Sublist (ls.map Int.toNat)
 |[],_=>List.Sublist.slnil
 |_::_,[]=>List.nil_sublist _
 |l::ls,x::xs=>List.Sublist.cons_cons _ (lv ls xs)
theorem Hs.zip{nl:Nat}{ls xs:List Int}(f:Fit nl ls)(few:ls.length<=10)(on:∀x∈xs,OnW x):Hs nl (ls.zip xs):=by
 refine⟨λp hp=>?_,by rw[List.length_zip];omega,?_⟩
 ·have h:=List.of_mem_zip (a:=p.1) (b:=p.2) hp;exact⟨f.lo _ h.1,f.hi _ h.1,on _ h.2⟩
 ·exact f.nd.sublist (lv ls xs)
theorem wU{nl:Nat}{r:PR}{xs:List Int}(ok:r.ok)(ft:r.fit nl)(wide:xs.length=r.wide)(on:∀x∈xs,OnW x):Hs nl (r.made xs):=by
 have on0:∀i:Nat,i<xs.length->OnW (xs.getD i 0):=λi hi=>by
  rw[qh,qa hi];exact on _ (List.getElem_mem hi)
 cases r with
 |pass ins outs route=>
  obtain⟨o1,o2,o3,o4⟩:=ok;change xs.length=ins.length at wide;refine Hs.zip ft.2 Qz λx hx=>?_;obtain⟨r,hr,rfl⟩:=List.mem_map.mp hx;have:=o4 r hr;exact on0 _ Qz
 |work ins out sg l r=>
  obtain⟨o1,o2,o3⟩:=ok;change xs.length=ins.length at wide;refine⟨λp hp=>?_,by show 1<=10;decide,Qo _ _⟩;rw[qQ.mp hp];exact⟨ft.2.lo _ qj,ft.2.hi _ qj,y7 (gE (wide▸o2) on) (gE (wide▸o3) on)⟩
 |choose ins which ones noughts told=>
  obtain⟨o1,o2,o3,o4,o5⟩:=ok;change xs.length=ins.length at wide
  have go:∀(ls:List Int)(v:Int),Fit nl (ls++[told])->ls.length=ins.length->OnW v->Hs nl (ls.zip xs++[(told,v)]):=λls v f e ov=>by
   rw[show ls.zip xs++[(told,v)]=(ls++[told]).zip (xs++[v])by rw[List.zip_append Qz];rfl];refine Hs.zip f (by rw[q9,Q4];omega) λx hx=>?_;rcases qf.mp hx with h|h
   ·exact on x h
   ·rw[qQ.mp h];exact ov
  show Hs nl (if xs.getD which.toNat 0=0 then noughts.zip xs++[(told,0)]else ones.zip xs++[(told,1)]);split
  ·exact go _ _ ft.2.2 o4 ⟨Qy,Qy⟩
  ·exact go _ _ ft.2.1 o3 ⟨Qy,Qy⟩
 |merge told ones noughts outs=>
  obtain⟨o1,o2,o3⟩:=ok;exact Hs.zip ft.2.2 Qz λx hx=>on x (List.mem_of_mem_tail hx)
theorem oE:∀(ps:List (Int×Int))(S:PlS)(j:Nat),j∉ps.map (λp=>p.1.toNat)->(ps.foldl ak S).st j=S.st j
 |[],_,_,_=>rfl
 |p::ps,S,j,h=>by
  show(ps.foldl ak (ak S p)).st j=_;rw[oE ps _ j λz=>h (qi _ z)];exact ai λz=>h (by rw[z];exact qj)
theorem oB:∀(ps:List (Int×Int))(S:PlS)(j:Nat),(ps.map λp=>p.1.toNat).Nodup->((ps.foldl ak S).st j).1.length<=(S.st j).1.length+1
 |[],_,_,_=>Nat.le_succ _
 |p::ps,S,j,nd=>by
  have nd:p.1.toNat∉ps.map (λp=>p.1.toNat)/\(ps.map λp=>p.1.toNat).Nodup:=List.nodup_cons.mp nd;show((ps.foldl ak (ak S p)).st j).1.length<=_;by_cases e:j=p.1.toNat
  ·rw[e,oE ps _ _ nd.1];show(put S.st p.1.toNat _ p.1.toNat).1.length<=_;rw[ap,q9];exact qc _
  ·have:=oB ps (ak S p) j nd.2
   rwa [show(ak S p).st j=S.st j from ai e]at this
theorem eI:∀(ps:List (Int×Int))(S:PlS),(ps.foldl ak S).gv=S.gv/\(ps.foldl ak S).sp=S.sp/\(ps.foldl ak S).lg=S.lg/\(ps.foldl ak S).held=S.held/\(ps.foldl ak S).tks=S.tks/\(ps.foldl ak S).wr=S.wr
 |[],_=>⟨U,U,U,U,U,U⟩
 |p::ps,S=>eI ps (ak S p)
theorem oC:∀(ps:List (Int×Int))(S:PlS),(∀p∈ps,OnW p.2)->(∀i,∀v∈(S.st i).1,OnW v)->∀i,∀v∈((ps.foldl ak S).st i).1,OnW v
 |[],_,_,h=>h
 |p::ps,S,hp,h=>by
  refine oC ps (ak S p) (λq hq=>hp q (qi _ hq)) λi v hv=>?_;have hv:v∈(put S.st p.1.toNat ((S.st p.1.toNat).1++[p.2],(S.st p.1.toNat).2) i).1:=hv;by_cases e:i=p.1.toNat
  ·rw[e,ap]at hv;rcases qf.mp hv with hv|hv
   ·exact h _ v hv
   ·rw[qQ.mp hv];exact hp p qj
  ·rw[ai e]at hv;exact h i v hv
section
variable {C:PlC}{k:Nat}{S:PlS}{x:Nat}
theorem cj.mono{k':Nat}(h:cj C k S)(le:k'<=k):cj C k' S:=⟨λi=>⟨by have:=(h.st i).1;omega,(h.st i).2⟩,by have:=h.lg;omega,by have:=h.gv;omega,h.on,h.hn⟩
theorem cj.gave(h:cj C (k+1) S)(hx:x<C.n)(now:Int):cj C k (dv S now x):=by
 obtain⟨e1,e2,e3,e4,e5,e6⟩:=eI (S.held x) S;obtain⟨h1,h2,h3⟩:=h.hn x hx;refine⟨λi=>?_,?_,?_,oC _ S (λp hp=>(h1 p hp).2.2) h.on,λy hy=>?_⟩
 ·show((((S.held x).foldl ak S).st i).1.length+k<=_)/\(((S.held x).foldl ak S).st i).2<=(((S.held x).foldl ak S).st i).1.length;have a1:=oB (S.held x) S i h3;have a2:=kr (S.held x) S i;have a3:=h.st i;omega
 ·show(((S.held x).foldl ak S).lg++[_]).length+k<=_;rw[e3,q9,Q4];have:=h.lg;omega
 ·show((S.held x).foldl ak S).gv.length+k<=_;rw[e1];have:=h.gv;omega
 ·show(∀p∈((S.held x).foldl ak S).held y,_)/\(((S.held x).foldl ak S).held y).length<=10/\((((S.held x).foldl ak S).held y).map _).Nodup;rw[e4];exact h.hn y hy
theorem oN(now:Int):∀(ws:List Int)(S:PlS),(ws.foldl (be now) S).gv.length<=S.gv.length+1/\(now+1∈aG S.gv->(ws.foldl (be now) S).gv.length=S.gv.length)
 |[],_=>⟨Nat.le_succ _,λ_=>rfl⟩
 |w::ws,S=>by
  obtain⟨h1,h2⟩:=oN now ws (be now S w);show(ws.foldl (be now) (be now S w)).gv.length<=_/\(_->(ws.foldl (be now) (be now S w)).gv.length=_);have e:(be now S w).gv=bc S.gv (now+1) (S.wr w.toNat):=U;rw[e]at h1 h2;by_cases m:now+1∈aG S.gv
  ·have:=h2 (ip.mpr (.inl m));rw[yI m]at this;exact⟨Qz,λ_=>this⟩
  ·refine⟨?_,λz=>Q1 z m⟩;by_cases c:S.wr w.toNat=[]
   ·rw[c]at h1;exact h1
   ·rw[h2 (ip.mpr (.inr ⟨c,U⟩))];exact iG
theorem eJ(now:Int):∀(ws:List Int)(S:PlS),(ws.foldl (be now) S).st=S.st/\(ws.foldl (be now) S).sp=S.sp/\(ws.foldl (be now) S).lg=S.lg/\(ws.foldl (be now) S).held=S.held/\(ws.foldl (be now) S).tks=S.tks/\(ws.foldl (be now) S).tr=S.tr/\(ws.foldl (be now) S).wt=S.wt
 |[],_=>⟨U,U,U,U,U,U,U⟩
 |w::ws,S=>eJ now ws (be now S w)
theorem oi(h:cQ S (ao S (C.prt x))=none):∀w∈ao S (C.prt x),(S.st w.toNat).2<(S.st w.toNat).1.length:=λw hw=>by
 have:=List.find?_eq_none.mp h w hw;by_cases z:(S.st w.toNat).2<(S.st w.toNat).1.length
 ·exact z
 ·exact Q1 (by unfold aA;rw[List.drop_eq_nil_iff.mpr Qz];rfl) this
theorem lI(h:cj C k S)(n:cQ S (ao S (C.prt x))=none):∀v∈(ao S (C.prt x)).map (aM S),OnW v:=λv hv=>by
 obtain⟨w,hw,rfl⟩:=List.mem_map.mp hv;have lt:=oi n w hw;unfold aM aA;rw[List.drop_eq_getElem_cons lt];exact h.on w.toNat _ (List.getElem_mem lt)
theorem iO{r:PR}{pace:List (List Int)}{now:Int}:(aT r pace S now x).gv.length<=S.gv.length+2:=by
 have h:=(oN now (ao S r) (bP r pace S now x)).1;have e:(bP r pace S now x).gv.length<=S.gv.length+1:=iG (g:=S.gv) (t:=now+1+bM pace x (S.tks x)) (ps:=[x]);unfold aT;omega
theorem cj.taken(h:cj C (k+3) S)(B:(C.prt x).ok/\(C.prt x).fit C.nl)(n:cQ S (ao S (C.prt x))=none)(now:Int):cj C k (aT (C.prt x) C.pace S now x):=by
 obtain⟨e1,e2,e3,e4,e5,e6,e7⟩:=eJ now (ao S (C.prt x)) (bP (C.prt x) C.pace S now x);have ft:=iM (S:=S) B.2;refine⟨λi=>?_,?_,?_,λi v hv=>?_,λy hy=>?_⟩
 ·unfold aT;rw[e1];have:=iP ft.nd (oi n) (λj=>(h.st j).2) i;refine⟨?_,this⟩;show(bu S.st (ao S (C.prt x)) i).1.length+k<=_;rw[fH];have:=(h.st i).1;omega
 ·unfold aT;rw[e3];show(S.lg++[_]).length+k<=_;rw[q9,Q4];have:=h.lg;omega
 ·have:=iO (S:=S) (r:=C.prt x) (pace:=C.pace) (now:=now) (x:=x);have:=h.gv;omega
 ·unfold aT at hv;rw[e1]at hv;have hv:v∈(bu S.st (ao S (C.prt x)) i).1:=hv;rw[fH]at hv;exact h.on i v hv
 ·unfold aT;rw[e4];show(∀p∈put S.held x _ y,_)/\(put S.held x _ y).length<=10/\((put S.held x _ y).map _).Nodup;by_cases e:y=x
  ·rw[e,ap];have q:=wU B.1 B.2 (xs:=(ao S (C.prt x)).map (aM S)) (by rw[q4];exact iK B.1 n) (lI h n);exact⟨q.ok,q.few,q.nd⟩
  ·rw[ai e];exact h.hn y hy
end
def GdP(C:PlC):Ph->PlS->Prop
 |.top,S=>Gd C (bE S+20) [] S
 |.giv _ r,S=>Gd C (bE S+r.length+84) r S
 |.tak _ r,S=>Gd C (bE S+r.length+20) r S
theorem ku{ls:Nat->Option Int}{S:PlS}{now:Int}{x:Nat}:(cg ls S now x).sp=S.sp/\(cg ls S now x).gv=S.gv:=by
 unfold cg;split
 ·exact⟨U,U⟩
 ·exact⟨(eI (S.held x) S).2.1,(eI (S.held x) S).1⟩
theorem bi.gd{C:PlC}(okC:∀x,x<C.n->(C.prt x).ok/\(C.prt x).fit C.nl)(n60:C.n<60){S0:PlS}(g0:Gd C (bE S0+20) [] S0){ph:Ph}{S:PlS}(h:bi C.ls C.prt C.pace S0 ph S):GdP C ph S:=by
 induction h with
 |base=>exact g0
 |@turn S k r h hk p rs ih=>
  obtain⟨⟨loc,I⟩,cp⟩:=ih;have I':=I.turn hk.1 p;have rl:=I'.rm.len;have dl:=kD hk.1;refine⟨⟨_,I'⟩,?_⟩
  have c2:=cp.mono (k':=bE { S with gv:=c7 S.gv k }+r.length+84) (by
   unfold bE;show 130 * (3 * S.sp+(c7 S.gv k).length)+r.length+84<=130 * (3 * S.sp+S.gv.length)+20
   omega)
  exact⟨c2.st,c2.lg,qw (Nat.add_le_add_right (Nat.le_of_lt dl) _) c2.gv,c2.on,c2.hn⟩
 |@give S k x r h ih=>
  obtain⟨⟨loc,I⟩,cp⟩:=ih;have hx:=I.not.2.1;obtain⟨e1,e2⟩:=ku (ls:=C.ls) (S:=S) (now:=k) (x:=x);have eb:bE (cg C.ls S k x)=bE S:=by unfold bE;rw[e1,e2]
  show Gd C (bE (cg C.ls S k x)+r.length+84) r (cg C.ls S k x);rw[eb];have cp:cj C (bE S+(r.length+1)+84) S:=cp;unfold cg;split
  ·exact⟨⟨_,I.stuck _⟩,let c:=cp.mono (k':=bE S+r.length+84) Qz;⟨c.st,c.lg,c.gv,c.on,c.hn⟩⟩
  ·obtain⟨loc',I'⟩:=aL.hands (S.held x) I;exact⟨⟨_,I'.toTr _⟩,(cp.mono (k':=bE S+r.length+84+1) Qz).gave hx k⟩
 |@half S k r h p rs ih=>
  obtain⟨⟨loc,I⟩,cp⟩:=ih;have I':=I.half p;have rl:=I'.rm.len;have cp:cj C (bE S+0+84) S:=cp;have c2:=cp.mono (k':=bE S+r.length+20) Qz;exact⟨⟨_,I'⟩,⟨c2.st,c2.lg,c2.gv,c2.on,c2.hn⟩⟩
 |@wait S k i x r h hl ih=>
  obtain⟨⟨loc,I⟩,cp⟩:=ih;have cp:cj C (bE S+(r.length+1)+20) S:=cp;have c2:=cp.mono (k':=bE S+r.length+20) Qz;exact⟨⟨_,I.wait i.toNat⟩,⟨c2.st,c2.lg,c2.gv,c2.on,c2.hn⟩⟩
 |@take S k x r h hl hs ih=>
  obtain⟨⟨loc,I⟩,cp⟩:=ih;have cp:cj C (bE S+(r.length+1)+20) S:=cp;have hx:=I.not.2.1;have e2:(aT (C.prt x) C.pace S k x).sp=S.sp-1:=(eJ k (ao S (C.prt x)) (bP (C.prt x) C.pace S k x)).2.1;have e3:=iO (S:=S) (r:=C.prt x) (pace:=C.pace) (now:=k) (x:=x)
  have le:bE (aT (C.prt x) C.pace S k x)+r.length+20+3<=bE S+(r.length+1)+20:=by
   unfold bE;rw[e2];omega
  obtain⟨loc',I'⟩:=aL.frees k (ao S (C.prt x)) (((I.toGv (k+1+bM C.pace x (S.tks x))).eq (S':=bP (C.prt x) C.pace S k x) U U U U));exact⟨⟨loc',I'⟩,(cp.mono le).taken (okC x hx) hl k⟩
 |over h ih=>exact ih
theorem y6{ad:Rl->Addr}{g:Gv}{t:Int}:d9 (g.map λkv=>((Sum.inl kv.1:Key),V.ref (ad (.gv kv.1)))) (Sum.inl t)=(c7 g t).map λkv=>((Sum.inl kv.1:Key),V.ref (ad (.gv kv.1))):=by
 unfold d9 c7;rw[List.filter_map];refine congrArg _ (List.filter_congr λkv _=>?_);exact decide_eq_decide.mpr ⟨λh z=>h (congrArg Sum.inl z),λh z=>h (Sum.inl.inj z)⟩
theorem kR:∀{g:Gv}{k m:Int},k≠m->atG (c7 g m) k=atG g k
 |[],_,_,_=>rfl
 |(j,ps)::g,k,m,h=>by
  unfold c7;by_cases e:j=m
  ·rw[List.filter_cons_of_neg (by simpa using e),cz,qX λz=>h (z.symm.trans e)];exact kR h
  ·rw[List.filter_cons_of_pos (by simpa using e),cz,cz];split
   ·rfl
   ·exact kR h
theorem jX(xs:List Nat):ay xs=(xs.map λj:Nat=>(j:Int)).map V.int:=by unfold ay;rw[List.map_map];rfl
theorem mP{zs:List Int}{ys:List Nat}(p:zs.Perm (ys.map λj:Nat=>(j:Int)))(h:List.Pairwise (λx1 x2=>x1<=x2) zs):∃r:List Nat,zs.map V.int=ay r/\r.Perm ys/\fz r:=by
 refine⟨zs.map Int.toNat,?_,?_,?_⟩
 ·rw[jX,List.map_map (f:=Int.toNat)];refine congrArg (List.map V.int) (((List.map_congr_left λz hz=>?_).trans (List.map_id zs)).symm);obtain⟨y,_,e⟩:=List.mem_map.mp (p.mem_iff.mp hz);rw[<- e]
  rfl
 ·have:=p.map Int.toNat;rw[List.map_map,show(Int.toNat ∘ λj:Nat=>(j:Int))=id from rfl,List.map_id]at this;exact this
 ·exact List.pairwise_map.mpr (h.imp λ{a b} le=>Qz)
section
variable {H0 H:Hp}{C:PlC}{ad:Rl->Addr}{hd:Nat->Addr}{lgv:List V}{S:PlS}
theorem PlH.pop(M:PlH a H0 H C ad hd lgv S)(t:Int):PlH a H0 (upd H (ad .gd) (.dK (d9 (S.gv.map λkv=>((Sum.inl kv.1:Key),V.ref (ad (.gv kv.1)))) (Sum.inl t)))) C ad hd lgv { S with gv:=c7 S.gv t }:=by
 have o:=M.own.put .gd trivial (.dK (d9 (S.gv.map λkv=>((Sum.inl kv.1:Key),V.ref (ad (.gv kv.1)))) (Sum.inl t)));refine⟨o.less (λr hr=>?_) λr hr=>?_,M.b,M.qo,M.hd,M.lg⟩
 ·cases r with
  |gv k=>exact(oj.mp hr).1
  |_=>exact hr
 ·cases r with
  |gv k=>
   show HO.lst (ay (atG S.gv k))=HO.lst (ay (atG (c7 S.gv t) k));rw[kR (oj.mp hr).2]
  |gd=>
   show HO.dK _=HO.dK ((c7 S.gv t).map _);rw[y6]
  |_=>rfl
theorem PlH.newTk(M:PlH a H0 H C ad hd lgv S){z:Addr}(hz:H z=none):PlH a H0 (upd (upd H z (.lst [])) C.b (.ins a.ge C.dx (plN.zip ((plV C ad S.sp).set 8 (.ref z))))) C (at' ad .tk z) hd lgv { S with tr:=[] }:=by
 have o3:=M.own.new .tk hz (.lst []);have o4:=o3.put .b (.inr trivial) (.ins a.ge C.dx (plN.zip ((plV C ad S.sp).set 8 (.ref z))));have eb:at' ad .tk z .b=C.b:=M.b;rw[eb]at o4;refine⟨o4.less (λr hr=>.inr hr) λr hr=>?_,M.b,M.qo,M.hd,M.lg⟩;cases r<;>rfl
end
def PlW(a:Adr)(H0:Hp)(C:PlC)(S0:PlS)(ph:Ph)(u:Nat)(G:Hp):Prop:=∃(H1:Hp)(ad:Rl->Addr)(hd:Nat->Addr)(lgv:List V)(S:PlS),a8 H0 H1/\PlH a H1 G C ad hd lgv S/\bi C.ls C.prt C.pace S0 ph S/\3 * S.sp+S.gv.length<=u
theorem vX(T:Tx P w K mg a):aC P w K mg base CX0 6 a.AI a.AJ ["self"] (mE a):=by
 refine T.De.ok fO (λvs H Q E h=>?_) (λcdv A outer s H vs Q E hr h=>?_)
 ·obtain⟨_,_,_,_,_,_,rfl,_⟩:=h
  rfl
 obtain⟨H0,C,ad,hd,lgv,S0,rfl,B,M,G0,k⟩:=h
 refine⟨_,(ac (uC PassesOwn.never (aF hG (aZ yG U T.ld Q5 (a0 (az (pq 0) U) a9)) aa (aB _)) (ac (aS (i:=1) fO.nd U Oi (aZ (yC U) U T.BS PyProof.Rows.Boot.«min» (a0 (az (pq 0) U) a9)))
  (ac (cH PassesOwn.never U (cb (aZ (pA U) U T.BU PyProof.Rows.Boot.«sorted» (a0 (uZ (az (pq 0) U) (pq 1) ⟨U,U,U,U⟩) a9))) (aU (i:=2) fO.nd U Oi)
  (af (bQ (cN (pq 0) T.f8 T.Eh (w5 T) (hr.mono Qy) T.Dh .nil aE (a0 (pq 1) (a0 (pq 2) a9))))))
  (ac (aS (i:=3) fO.nd U Oi (aZ (pA U) U T.BU PyProof.Rows.Boot.«sorted» (a0 (az (pq 0) U) a9)))
  (ac (bp (pq 0) (bI a9) U)
  (af (cH PassesOwn.never U (cb (pq 3)) (aU (i:=2) fO.nd U Oi)
  (af (aX (dX (df (cN (pq 0) T.f8 T.Ei (vY T) (hr.mono Qy) T.Dj .nil aE (a0 (pq 1) (a0 (pq 2) a9))))) (af (ar cq)) aW)))))))))
  (af (ar cq))),?_⟩
 have gd:∀{ph:Ph}{S:PlS},bi C.ls C.prt C.pace S0 ph S->GdP C ph S:=λh=>h.gd B.ok B.n G0;have nb:=B.n;refine⟨λu σ G=>(∃v1 v2 v3,σ=[some (.ref C.b),v1,v2,v3])/\PlW a H0 C S0 .top u G,⟨_,⟨_,_,_,U⟩,H0,ad,hd,lgv,S0,a8.refl _,M,.base,qc _⟩,?_⟩;rintro u σ G ⟨⟨v1,v2,v3,rfl⟩,H1,ad1,hd1,lgv1,S1,s1,M1,R1,u1⟩;have hgd:=M1.own.av .gd trivial;refine⟨_,U,C.b,_,C.dx,_,_,U,M1.ob,T.f8,T.zy,lz7 U,ad1 .gd,_,U,hgd,_,_,U,U,_,U,?_⟩
 cases hg:S1.gv with
 |nil=>exact aI (by rfl) ((k H1 G ad1 hd1 lgv1 S1 s1 M1).1 R1 hg)
 |cons kv0 g0=>
 rw[<- hg];have g1:S1.gv≠[]:=by rw[hg];exact List.cons_ne_nil _ _
 refine bC (qZ (by rw[hg,qP,qy];omega)) ?_;refine⟨λσ G=>(∃v1 v2 v3,σ=[some (.ref C.b),v1,v2,v3])/\∃u',u'<u/\PlW a H0 C S0 .top u' G,λσ' G' ⟨h1,u',lt,h2⟩=>⟨u',lt,h1,h2⟩,?_⟩;refine⟨_,U,C.b,_,C.dx,_,_,U,M1.ob,T.f8,T.zy,lz7 U,ad1 .gd,_,aG S1.gv,U,hgd,by unfold aG;rw[List.map_map,List.map_map];rfl,λz=>g1 (List.map_eq_nil_iff.mp z),λm hm hmin=>?_⟩;dsimp only[aK];have hgl:=M1.own.av (.gv m) hm;have I1:=gd R1;obtain⟨⟨loc1,L1⟩,cp1⟩:=I1;have ll:=(L1.gv _ (ff hm)).len;have M2:=M1.pop m;have hgl2:=M2.own.sa;refine⟨_,U,C.b,_,C.dx,_,_,U,M1.ob,T.f8,T.zy,lz7 U,ad1 .gd,U,.inl ⟨_,.of hgd⟩,_,U,_,.inl m,_,hgd,U,by rw[gG,qY hm],ad1 (.gv m),(atG S1.gv m).map (λj:Nat=>(j:Int)),U,?_,by rw[q4];exact Nat.lt_of_le_of_lt ll Qz,λl zs hl perm srt=>?_⟩
 ·rw[<- jX];exact SqL.of (by rw[ag λe=>nomatch M1.own.inj (.gv m) .gd hm trivial e];exact hgl)
 obtain⟨r,er,rp,rr⟩:=mP perm srt;rw[er];have M3:=M2.earth hl (.lst (ay r));have s3:a8 H1 (upd H1 l (.lst (ay r))):=a8.new (a8.none M2.own.sa hl) _;have hl3:upd H1 l (.lst (ay r)) l=some (.lst (ay r)):=ae;have R2:=R1.turn ⟨hm,hmin⟩ rp rr;have s03:=s1.trans s3;generalize upd H1 l (.lst (ay r))=H3 at M3 s3 hl3 s03;refine⟨l,U,⟨_,SqL.of (M3.own.sa _ _ hl3)⟩,?_⟩;refine gz (K:=K) (a:=l) (xs:=ay r) (λi σ G=>(∃v2 v3,σ=[some (.ref C.b),some (.int m),v2,v3])/\(∃u',u'<u/\PlW a H3 C S0 (.giv m (r.drop i)) u' G)) ⟨⟨_,_,U⟩,_,?_,H3,ad1,hd1,lgv1,_,a8.refl _,M3,R2,qc _⟩ ?_ ?_ ?_
 ·show 3 * S1.sp+(c7 S1.gv m).length<u;have:=kD hm;omega
 ·rintro i σ G _ ⟨_,u',_,H4,ad4,hd4,lgv4,S4,s4,M4,_⟩;exact SqL.of (M4.own.sa _ _ (s4 _ _ hl3))
 ·rintro i v σ G hi ⟨⟨v2,v3,rfl⟩,u',lu,H4,ad4,hd4,lgv4,S4,s4,M4,R4,u4⟩;unfold ay at hi;rw[qC]at hi;obtain⟨x,hx,rfl⟩:=qN.mp hi
  have ed:r.drop i=x::r.drop (i+1):=by
   have lt:=(qd.mp hx).1;rw[List.drop_eq_getElem_cons lt];rw[qa lt]at hx;cases hx
   rfl
  rw[ed]at R4;have G4:=gd R4;dsimp only[aK];refine⟨_,U,C.b,C.dx,_,U,M4.ob,e9 Qx,_,U,_,U,H4,C,ad4,hd4,lgv4,S4,m,x,r.drop (i+1),U,B.same (s03.trans s4),M4,⟨G4.loc,G4.cap.mono Qz⟩,λH5 G5 ad5 lgv5 s5 M5=>?_⟩;refine⟨⟨_,_,U⟩,u',lu,H5,ad5,hd4,lgv5,_,s4.trans s5,M5,R4.give,?_⟩;rw[ku.1,ku.2];exact u4
 rintro σ G ⟨⟨v2,v3,rfl⟩,u',lu,H4,ad4,hd4,lgv4,S4,s4,M4,R4,u4⟩;rw[ee,List.drop_length]at R4;obtain⟨⟨loc4,L4⟩,cp4⟩:=gd R4;have htk:=M4.own.av .tk trivial;have tl:=L4.tr.len;refine⟨_,U,C.b,_,C.dx,_,_,U,M4.ob,T.f8,T.zA,lz8 U,ad4 .tk,S4.tr.map (λj:Nat=>(j:Int)),U,by rw[<- jX];exact SqL.of htk,by rw[q4];omega,λl2 zs2 hl2 perm2 srt2=>?_⟩;dsimp only[aK];obtain⟨r2,er2,rp2,rr2⟩:=mP perm2 srt2;rw[er2];have M5:=M4.earth hl2 (.lst (ay r2));have s5:a8 H4 (upd H4 l2 (.lst (ay r2))):=a8.new (a8.none M4.own.sa hl2) _;have hl5:upd H4 l2 (.lst (ay r2)) l2=some (.lst (ay r2)):=ae;have R5:=R4.half rp2 rr2;have s05:=s03.trans (s4.trans s5);generalize upd H4 l2 (.lst (ay r2))=H5 at M5 s5 hl5 s05;generalize upd G l2 (.lst (ay r2))=G5 at M5 ⊢;refine⟨qq _,λz hz=>?_⟩;have M6:=M5.newTk hz;have M5u:=M5.up (a8.new hz (.lst []));refine⟨_,U,C.b,_,C.dx,_,U,M5u.ob,T.f8,T.zA,by simp[plN,plV],?_⟩;rw[jT 8 U Qx (by show 8<11;decide)];refine⟨_,U,l2,U,⟨_,SqL.of (M6.own.sa _ _ hl5)⟩,?_⟩;refine gz (K:=K) (a:=l2) (xs:=ay r2) (λi σ G=>(∃v2,σ=[some (.ref C.b),some (.int m),v2,some (.ref l2)])/\PlW a H5 C S0 (.tak m (r2.drop i)) u' G) ⟨⟨_,U⟩,H5,_,hd4,lgv4,_,a8.refl _,M6,R5,u4⟩ ?_ ?_ ?_
 ·rintro i σ G _ ⟨_,H6,ad6,hd6,lgv6,S6,s6,M6,_⟩;exact SqL.of (M6.own.sa _ _ (s6 _ _ hl5))
 ·rintro i v σ G hi ⟨⟨v2',rfl⟩,H6,ad6,hd6,lgv6,S6,s6,M6,R6,u6⟩;unfold ay at hi;rw[qC]at hi;obtain⟨x,hx,rfl⟩:=qN.mp hi
  have ed:r2.drop i=x::r2.drop (i+1):=by
   have lt:=(qd.mp hx).1;rw[List.drop_eq_getElem_cons lt];rw[qa lt]at hx;cases hx
   rfl
  rw[ed]at R6;have G6:=gd R6;dsimp only[aK];refine⟨_,U,C.b,C.dx,_,U,M6.ob,e9 Qx,_,U,_,U,H6,C,ad6,hd6,lgv6,S6,m,x,r2.drop (i+1),U,B.same (s05.trans s6),M6,⟨G6.loc,G6.cap.mono Qz⟩,λi' hl H7 G7 s7 M7=>?_,λhl hs H7 G7 s7 M7=>?_,λhl hs H7 G7 ad7 hd7 lgv7 s7 M7=>?_⟩
  ·exact⟨_,U,aI U ⟨⟨_,U⟩,H7,ad6,hd6,lgv6,_,s6.trans s7,M7,R6.wait hl,u6⟩⟩
  ·exact⟨_,U,bC U ((k H7 G7 ad6 hd6 lgv6 S6 (s05.trans (s6.trans s7)) M7).2 m x _ R6 hl hs)⟩
  ·refine⟨_,U,aI U ⟨⟨_,U⟩,H7,ad7,hd7,lgv7,_,s6.trans s7,M7,R6.take hl hs,?_⟩⟩;have e2:(aT (C.prt x) C.pace S6 m x).sp=S6.sp-1:=(eJ m (ao S6 (C.prt x)) (bP (C.prt x) C.pace S6 m x)).2.1;have e3:=iO (S:=S6) (r:=C.prt x) (pace:=C.pace) (now:=m) (x:=x);rw[e2];omega
 rintro σ G ⟨⟨v2',rfl⟩,H6,ad6,hd6,lgv6,S6,s6,M6,R6,u6⟩;rw[ee,List.drop_length]at R6;exact⟨⟨_,_,_,U⟩,u',lu,H6,ad6,hd6,lgv6,S6,s05.trans s6,M6,R6.over,u6⟩
section
variable {H0 H:Hp}{D:Rl->Prop}{ad:Rl->Addr}{c:Rl->HO}
open Classical in
theorem aY.join(M:aY H0 H D ad c){H':Hp}(s:a8 H H'){D2:Rl->Prop}{ad2:Rl->Addr}{c2:Rl->HO}(nw:∀r,D2 r->H (ad2 r)=none)(inj:∀r s,D2 r->D2 s->ad2 r=ad2 s->r=s)(av:∀r,D2 r->H' (ad2 r)=some (c2 r)):
 ∃H0',a8 H0 H0'/\(∀x o,H x=none->(∀r,D2 r->ad2 r≠x)->H' x=some o->H0' x=some o)/\aY H0' H' (λr=>D2 r\/D r) (λr=>if D2 r then ad2 r else ad r) (λr=>if D2 r then c2 r else c r):=by
 have ne:∀r s,D2 r->D s->ad2 r≠ad s:=λr s hr hs z=>by have:=M.av s hs;rw[<- z,nw r hr]at this;cases this
 refine⟨λx=>if(∃r,D2 r/\ad2 r=x)then none else if H x=none then H' x else H0 x,λx o h=>?_,λx o hx hn h=>?_,⟨λx o h=>?_,λr hr=>?_,λr t hr ht e=>?_,λr hr=>?_⟩⟩
 ·show(if(∃r,D2 r/\ad2 r=x)then none else if H x=none then H' x else H0 x)=_;have hx:=M.sa _ _ h;rw[qX (λ⟨r,hr,e⟩=>by rw[<- e,nw r hr]at hx;cases hx),qX (by rw[hx];exact λz=>by cases z)];exact h
 ·show(if(∃r,D2 r/\ad2 r=x)then none else if H x=none then H' x else H0 x)=_;rw[qX (λ⟨r,hr,e⟩=>hn r hr e),qY hx];exact h
 ·have h:(if(∃r,D2 r/\ad2 r=x)then none else if H x=none then H' x else H0 x)=some o:=h;split at h
  ·cases h
  split at h
  ·exact h
  ·exact s _ _ (M.sa _ _ h)
 ·show(if(∃t,D2 t/\ad2 t=(if D2 r then ad2 r else ad r))then none else _)=_;by_cases e:D2 r
  ·rw[qY e,qY ⟨r,e,U⟩]
  ·have hr:=hr.resolve_left e;rw[qX e,qX (λ⟨t,ht,z⟩=>ne t r ht hr z),qX (by rw[M.av r hr];exact λz=>by cases z)];exact M.nw r hr
 ·have e:(if D2 r then ad2 r else ad r)=(if D2 t then ad2 t else ad t):=e;by_cases e1:D2 r
  ·by_cases e2:D2 t
   ·rw[qY e1,qY e2]at e;exact inj r t e1 e2 e
   ·rw[qY e1,qX e2]at e;exact Q1 e (ne r t e1 (ht.resolve_left e2))
  ·by_cases e2:D2 t
   ·rw[qX e1,qY e2]at e;exact Q1 e.symm (ne t r e2 (hr.resolve_left e1))
   ·rw[qX e1,qX e2]at e;exact M.inj r t (hr.resolve_left e1) (ht.resolve_left e2) e
 ·show H' (if D2 r then ad2 r else ad r)=some (if D2 r then c2 r else c r);by_cases e:D2 r
  ·rw[qY e,qY e];exact av r e
  ·rw[qX e,qX e];exact s _ _ (M.av r (hr.resolve_left e))
end
inductive RRs(H:Hp):List V->List PR->Prop
 |nil:RRs H [] []
 |cons {v:V}{vs:List V}{r:PR}{rs:List PR}:RR H v r->RRs H vs rs->RRs H (v::vs) (r::rs)
theorem RRs.same{H H':Hp}(s:a8 H H'):∀{vs:List V}{rs:List PR},RRs H vs rs->RRs H' vs rs
 |_,_,.nil=>.nil
 |_,_,.cons a r=>.cons (a.same s) (RRs.same s r)
theorem RRs.len{H:Hp}:∀{vs:List V}{rs:List PR},RRs H vs rs->vs.length=rs.length
 |_,_,.nil=>rfl
 |_,_,.cons _ r=>congrArg (·+1) (RRs.len r)
theorem RRs.at{H:Hp}:∀{vs:List V}{rs:List PR},RRs H vs rs->∀{i:Nat}{v:V},vs[i]?=some v->∃r,rs[i]?=some r/\RR H v r
 |_,_,.nil,i,v,h=>by simp at h
 |_,_,.cons a r,0,v,h=>by cases h;exact⟨_,U,a⟩
 |_,_,.cons a r,i+1,v,h=>RRs.at r (by simpa using h)
def bf(rs:List PR):Nat->PR:=λx=>rs.getD x (.merge 0 [] [] [])
def bd(xs:List Ln):Nat->Ln:=λi=>xs.getD i (none,[])
def bY(xs:List Ln)(n most:Nat):PlS:={ st:=λi=>((bd xs i).2,0),held:=λ_=>[],tks:=λ_=>0,gv:=[(0,[])],tr:=List.range n,wr:=λ_=>[],wt:=λ_=>[],sp:=most,lg:=[] }
structure yS(a:Adr)(H H1 H':Hp)(b:Addr)(C:PlC)(ad:Rl->Addr)(hd:Nat->Addr)(xs:List Ln)(rs:List PR)(pace:List (List Int))(most:Nat):Prop where
 B:PlB a H1 C
 M:PlH a H1 H' C ad hd [] (bY xs rs.length most)
 b:C.b=b
 prt:C.prt=bf rs
 ls:C.ls=λi=>(bd xs i).1
 n:C.n=rs.length
 nl:C.nl=xs.length
 pace:C.pace=pace
 keep:∀q o,q≠C.b->H q=some o->H1 q=some o
inductive mJ(a:Adr)(vs:List V)(H:Hp)(Q:VK)(E:XK):Prop
 |mk (b dx ll lp pc:Addr) (us ps pv:List V) (xs:List Ln) (rs:List PR) (pace:List (List Int)) (most:Nat) (h0_:vs=[.ref b,.ref ll,.ref lp,.ref pc,.int most]) (h1_:H b=some (.ins a.ge dx [])) (h2_:H ll=some (.lst us)) (h3_:RLn H us xs) (h4_:H lp=some (.lst ps)) (h5_:RRs H ps rs) (h6_:H pc=some (.lst pv)) (h7_:RIs H pv pace) (h8_:rs.length<60) (h9_:xs.length<=1000) (h10_:(∀x∈xs,x.2.length<=64)) (h11_:pace.length<=1000) (h12_:(∀r∈pace,r.length<=1000)) (h13_:(∀r∈rs,r.ok/\r.fit xs.length)) (h14_:∀H1 H' C ad hd,yS a H H1 H' b C ad hd xs rs pace most->Q .non H'):mJ a vs H Q E
theorem aY.cong{H0 H:Hp}{D:Rl->Prop}{ad:Rl->Addr}{c:Rl->HO}(M:aY H0 H D ad c){D':Rl->Prop}{ad':Rl->Addr}{c':Rl->HO}(h:∀r,D' r->D r/\ad' r=ad r/\c' r=c r):aY H0 H D' ad' c':=
 ⟨M.sa,λr hr=>by rw[(h r hr).2.1];exact M.nw r (h r hr).1,λr s hr hs e=>M.inj r s (h r hr).1 (h s hs).1 (by rw[<- (h r hr).2.1,<- (h s hs).2.1];exact e),λr hr=>by rw[(h r hr).2.1,(h r hr).2.2];exact M.av r (h r hr).1⟩
def dB(K G:Hp)(f:Nat->Rl)(D:Rl->Prop)(ad:Rl->Addr)(c:Rl->HO)(i:Nat)(ys:List V):Prop:=∃(ad':Rl->Addr)(c':Rl->HO),ys=(List.range i).map (λj=>V.ref (ad' (f j)))/\(∀r,D r->ad' r=ad r/\c' r=c r)/\(∀j,j<i->c' (f j)=.lst [])/\aY K G (λr=>(∃j,j<i/\r=f j)\/D r) ad' c'
theorem dB.start{K G:Hp}{f:Nat->Rl}{D:Rl->Prop}{ad:Rl->Addr}{c:Rl->HO}(M:aY K G D ad c):dB K G f D ad c 0 []:=⟨ad,c,U,λ_ _=>⟨U,U⟩,λj h=>Q1 h (Qv _),M.less (λr hr=>hr.resolve_left λ⟨j,h,_⟩=>Qv _ h) λ_ _=>U⟩
theorem dB.step{K G:Hp}{f:Nat->Rl}{D:Rl->Prop}{ad:Rl->Addr}{c:Rl->HO}{i:Nat}{ys:List V}(fi:∀j k,f j=f k->j=k)(fd:∀j,¬ D (f j))(M:dB K G f D ad c i ys){x:Addr}(hx:G x=none):dB K (upd G x (.lst [])) f D ad c (i+1) (ys++[.ref x]):=by
 obtain⟨ad',c',rfl,h1,h2,o⟩:=M;refine⟨at' ad' (f i) x,at' c' (f i) (.lst []),?_,λr hr=>?_,λj hj=>?_,?_⟩
 ·rw[List.range_succ,qM];refine congr (congrArg HAppend.hAppend (List.map_congr_left λj hj=>?_)) ?_
  ·rw[br λe=>qE (List.mem_range.mp hj) (fi j i e)]
  ·show _=[V.ref (at' ad' (f i) x (f i))];rw[bR]
 ·have ne:r≠f i:=λe=>fd i (e▸hr);rw[br ne,br ne];exact h1 r hr
 ·by_cases e:j=i
  ·rw[e,bR]
  ·rw[br λz=>e (fi j i z)];exact h2 j Qz
 ·refine(o.new (f i) hx (.lst [])).less (λr hr=>?_) λ_ _=>U;rcases hr with⟨j,hj,rfl⟩|hr
  ·by_cases e:j=i
   ·exact .inl (by rw[e])
   ·exact .inr (.inl ⟨j,Qz,U⟩)
  ·exact .inr (.inr hr)
theorem RS.keep{H H':Hp}(e:∀b ys,H b=some (.tup ys)->H' b=some (.tup ys)){v:V}{r:Sd}(h:RS H v r):RS H' v r:=by
 cases h with
 |num a=>exact .num (e _ _ a)
 |thing a=>exact .thing (e _ _ a)
theorem RR.keep{H H':Hp}(e:∀b ys,H b=some (.tup ys)->H' b=some (.tup ys)){v:V}{r:PR}(h:RR H v r):RR H' v r:=by
 cases h with
 |pass a b c d=>exact .pass (e _ _ a) (e _ _ b) (e _ _ c) (e _ _ d)
 |work a b c d=>exact .work (e _ _ a) (e _ _ b) (c.keep e) (d.keep e)
 |choose a b c d=>exact .choose (e _ _ a) (e _ _ b) (e _ _ c) (e _ _ d)
 |merge a b c d=>exact .merge (e _ _ a) (e _ _ b) (e _ _ c) (e _ _ d)
theorem RRs.keep{H H':Hp}(e:∀b ys,H b=some (.tup ys)->H' b=some (.tup ys)):∀{vs:List V}{rs:List PR},RRs H vs rs->RRs H' vs rs
 |_,_,.nil=>.nil
 |_,_,.cons a r=>.cons (a.keep e) (RRs.keep e r)
theorem RIs.keep{H H':Hp}(e:∀b ys,H b=some (.lst ys)->H' b=some (.lst ys)):∀{vs:List V}{xss:List (List Int)},RIs H vs xss->RIs H' vs xss
 |_,_,.nil=>.nil
 |_,_,.cons a r=>.cons (e _ _ a) (RIs.keep e r)
def kj(nl:Nat):Rl->Prop
 |.qo i=>i<nl
 |.ql i=>i<nl
 |.b=>True
 |_=>False
def ix(b:Addr)(qs:List (Addr×Addr×Addr)):Rl->Addr
 |.qo i=>(qs.getD i (b,b,b)).1
 |.ql i=>(qs.getD i (b,b,b)).2.2
 |_=>b
def iw(a:Adr)(b:Addr)(o:HO)(qs:List (Addr×Addr×Addr))(xs:List Ln):Rl->HO
 |.qo i=>.ins a.mt (qs.getD i (b,b,b)).2.1 [("laid",.ref (qs.getD i (b,b,b)).2.2),("gone",.int (0:Nat))]
 |.ql i=>.lst ((bd xs i).2.map V.int)
 |_=>o
theorem nH{f:Str}{v:V}:∀{l:List (Str×V)},(∀p∈l,p.1≠f)->bo f v l=l++[(f,v)]
 |[],_=>rfl
 |(g,u)::l,h=>by
  rw[bo,qX (h _ qj),nH λp hp=>h p (qi _ hp)]
  rfl
def obO(a:Adr)(dx:Addr)(k:Nat)(vs:List V):HO:=.ins a.ge dx ((plN.take k).zip vs)
theorem uy{k:Nat}{f:Str}{v:V}{vs:List V}(hl:vs.length=k)(hf:plN[k]?=some f)(hn:(plN.take k).contains f=false):bo f v ((plN.take k).zip vs)=(plN.take (k+1)).zip (vs++[v]):=by
 have kl:=(qd.mp hf).1;rw[nH λp hp e=>?_,qp,hf,List.zip_append (by rw[qI,hl];omega)]
 ·rfl
 ·have:=(List.of_mem_zip (a:=p.1) (b:=p.2) hp).1;rw[e]at this;rw[List.contains_iff_mem.mpr this]at hn;cases hn
theorem cZ{a:Adr}{dx:Addr}{k:Nat}{f:Str}{v:V}{vs ws:List V}(hl:vs.length=k)(hf:plN[k]?=some f)(hn:(plN.take k).contains f=false)(e:vs++[v]=ws):HO.ins a.ge dx (bo f v ((plN.take k).zip vs))=obO a dx (k+1) ws:=by
 rw[uy hl hf hn,e]
 rfl
theorem d4{k:Nat}{vs:List V}:((plN.take k).zip vs).length<1000:=by
 rw[List.length_zip,qI];have:plN.length=11:=U;omega
theorem o0{α β:Type}{l:List α}{d:α}{f:α->β}{n:Nat}(h:l.length=n):l.map f=(List.range n).map λi=>f (l.getD i d):=by
 refine List.ext_getElem? λi=>?_;by_cases hi:i<n
 ·rw[c6 hi,qC,qa Qz,qh,qa Qz]
  rfl
 ·rw[Qm (by rw[q4];omega),Qm (by rw[q4,Qb];omega)]
theorem w6(T:Tx P w K mg a):aC P w K mg base CX0 5 a.AG a.AH ["self","lines","parts","pace","most"] (mJ a):=by
 refine T.Dc.ok tR (λvs H Q E h=>?_) (λcdv A outer s H vs Q E hr h=>?_)
 ·obtain⟨_,_,_,_,_,_,_,_,_,_,_,_,rfl,_⟩:=h
  rfl
 obtain⟨b,dx,ll,lp,pc,us,ps,pv,xs,rs,pace,most,rfl,hb,hll,rln,hlp,rrs,hpc,ris,n60,nl,fl,pl,pb,okr,k⟩:=h
 refine⟨_,(ac (bp (pq 0) (e8 T.DR (vP T) (hr.mono Qy) U T.DQ T.Cw .nil aE (a0 (pq 1) a9)) U)
  (ac (bp (pq 0) (cm (k:=1) (Nc:=["row"]) (js:=[]) (show aO (aj dG) ["self","lines","parts","pace","most"] _ 1 ["row"] []from aO.mk U (by decide +kernel) (by decide +kernel) (by decide +kernel) U (by decide +kernel)) U (cb (pq 2)) (λ_ _ _ _ _=>(aU (i:=0) (show List.Nodup (["row"]:List Str)from by decide +kernel) U Oi)) (λ_ _ _ _ _=>c4) (λ_ _ _ _ _=>(bv (vA T) (hr.mono Qy) U T.Da T.BE.kp T.D8 .nil aE (a0 (pq 0) a9)))) U)
  (ac (bp (pq 0) (pq 3) U)
  (ac (bp (pq 0) (pq 4) U)
  (ac (bp (pq 0) (bI a9) U)
  (ac (bp (pq 0) (cm (k:=1) (Nc:=["part"]) (js:=[]) (show aO (aj dG) ["self","lines","parts","pace","most"] _ 1 ["part"] []from aO.mk U (by decide +kernel) (by decide +kernel) (by decide +kernel) U (by decide +kernel)) U (cb (pq 2)) (λ_ _ _ _ _=>(aU (i:=0) (show List.Nodup (["part"]:List Str)from by decide +kernel) U Oi)) (λ_ _ _ _ _=>c4) (λ_ _ _ _ _=>(bI a9))) U)
  (ac (bp (pq 0) (cm (k:=1) (Nc:=["part"]) (js:=[]) (show aO (aj dG) ["self","lines","parts","pace","most"] _ 1 ["part"] []from aO.mk U (by decide +kernel) (by decide +kernel) (by decide +kernel) U (by decide +kernel)) U (cb (pq 2)) (λ_ _ _ _ _=>(aU (i:=0) (show List.Nodup (["part"]:List Str)from by decide +kernel) U Oi)) (λ_ _ _ _ _=>c4) (λ_ _ _ _ _=>aa)) U)
  (ac (bp (pq 0) (v8 (uH aa (bI a9) uG) U U (List.cons_ne_nil _ _) Qy) U)
  (ac (bp (pq 0) (uV U U T.wP U T.xz (aZ bB U T.ld Q5 (a0 (pq 2) a9))) U)
  (ac (bp (pq 0) (cm (k:=1) (Nc:=["line"]) (js:=[]) (show aO (aj dG) ["self","lines","parts","pace","most"] _ 1 ["line"] []from aO.mk U (by decide +kernel) (by decide +kernel) (by decide +kernel) U (by decide +kernel)) U (cb (pq 1)) (λ_ _ _ _ _=>(aU (i:=0) (show List.Nodup (["line"]:List Str)from by decide +kernel) U Oi)) (λ_ _ _ _ _=>c4) (λ_ _ _ _ _=>(bI a9))) U)
  (af (bp (pq 0) (cm (k:=1) (Nc:=["line"]) (js:=[]) (show aO (aj dG) ["self","lines","parts","pace","most"] _ 1 ["line"] []from aO.mk U (by decide +kernel) (by decide +kernel) (by decide +kernel) U (by decide +kernel)) U (cb (pq 1)) (λ_ _ _ _ _=>(aU (i:=0) (show List.Nodup (["line"]:List Str)from by decide +kernel) U Oi)) (λ_ _ _ _ _=>c4) (λ_ _ _ _ _=>(bI a9))) U)))))))))))),?_⟩
 let K0:Hp:=λc=>if c=b then none else H c
 have k0:∀c o,c≠b->H c=some o->K0 c=some o:=λc o n h=>(qX n).trans h;have kt:∀c ys,H c=some (.tup ys)->K0 c=some (.tup ys):=λc ys h=>k0 c _ (λz=>by rw[z,hb]at h;cases h) h;have kl:∀c ys,H c=some (.lst ys)->K0 c=some (.lst ys):=λc ys h=>k0 c _ (λz=>by rw[z,hb]at h;cases h) h
 have M0:aY K0 H (λr=>r=.b) (λ_=>b) (λ_=>.ins a.ge dx []):=⟨λc o h=>by
  have h:(if c=b then none else H c)=some o:=h;split at h
  ·cases h
  ·exact h,λ_ _=>qY U,λr t hr ht _=>hr.trans ht.symm,λ_ _=>hb⟩
 refine⟨_,U,λy dy hy hdy ny=>?_⟩
 have sy:a8 H (upd (upd H dy (.own y)) y (.ins a.om dy [])):=λc o h=>by
  have n1:c≠y:=λz=>by rw[z,hy]at h;cases h
  have n2:c≠dy:=λz=>by rw[z,hdy]at h;cases h
  rw[ag n1,ag n2];exact h
 refine⟨y,dy,ll,us,xs,U,ae,sy _ _ hll,rln.same sy,nl,fl,λH' la lq qs hk ry n2 n1 nq hlq hla=>?_⟩;have s1:a8 H H':=λc o h=>hk c o (λz=>by rw[z,hy]at h;cases h) (sy _ _ h)
 have hq:∀i,i<xs.length->qs[i]?=some (qs.getD i (b,b,b)):=λi hi=>by
  have:i<qs.length:=by have:=ry.n;unfold ci at this;rw[q4]at this;omega
  rw[qh,qa this]
  rfl
 have rq:∀i,i<xs.length->RQ a H' (qs.getD i (b,b,b)) ((bd xs i).2,0):=λi hi=>ry.q i _ _ (hq i hi) (by unfold ci bd;rw[qC,qh,qa hi];rfl)
 obtain⟨K1,sk1,new1,O1⟩:=M0.join s1 (D2:=λr=>match r with|.qo i=>i<xs.length|.ql i=>i<xs.length|_=>False) (ad2:=ix b qs) (c2:=iw a b (.ins a.ge dx []) qs xs) (λr hr=>by
  cases r with
  |qo i=>exact a8.none sy (nq _ (qx (hq i hr))).2.2
  |ql i=>exact a8.none sy (nq _ (qx (hq i hr))).1
  |_=>exact Q1 hr id) (λr t hr ht e=>by
  have l1:∀i,i<xs.length->(qs.map λq=>q.1)[i]?=some (qs.getD i (b,b,b)).1:=λi hi=>by rw[qC,hq i hi];rfl
  have l2:∀i,i<xs.length->(qs.map λq=>q.2.2)[i]?=some (qs.getD i (b,b,b)).2.2:=λi hi=>by rw[qC,hq i hi];rfl
  cases r with
  |qo i=>
   cases t with
   |qo j=>exact congrArg Rl.qo ((List.getElem?_inj (qd.mp (l1 i hr)).1 n1).mp (by rw[l1 i hr,l1 j ht];exact congrArg some e))
   |ql j=>
    have h1:=(rq i hr).1;have e:(qs.getD i (b,b,b)).1=(qs.getD j (b,b,b)).2.2:=e;rw[e,(rq j ht).2.1]at h1;cases h1
   |_=>exact Q1 ht id
  |ql i=>
   cases t with
   |ql j=>exact congrArg Rl.ql ((List.getElem?_inj (qd.mp (l2 i hr)).1 n2).mp (by rw[l2 i hr,l2 j ht];exact congrArg some e))
   |qo j=>
    have h1:=(rq j ht).1;have e:(qs.getD i (b,b,b)).2.2=(qs.getD j (b,b,b)).1:=e;rw[<- e,(rq i hr).2.1]at h1;cases h1
   |_=>exact Q1 ht id
  |_=>exact Q1 hr id) (λr hr=>by
  cases r with
  |qo i=>exact(rq i hr).1
  |ql i=>exact(rq i hr).2.1
  |_=>exact Q1 hr id)
 have M1:aY K1 H' (kj xs.length) (ix b qs) (iw a b (.ins a.ge dx []) qs xs):=O1.cong λr hr=>by
  cases r with
  |qo i=>exact⟨.inl hr,(qY hr).symm,(qY hr).symm⟩
  |ql i=>exact⟨.inl hr,(qY hr).symm,(qY hr).symm⟩
  |b=>exact⟨.inr U,(qX id).symm,(qX id).symm⟩
  |_=>exact Q1 hr id
 have isD:∀c o,H c=none->H' c=some o->(∀i,i<xs.length->(qs.getD i (b,b,b)).1≠c/\(qs.getD i (b,b,b)).2.2≠c)->K1 c=some o:=λc o h1 h2 h3=>new1 c o h1 (λr hr=>by
  cases r with
  |qo i=>exact(h3 i hr).1
  |ql i=>exact(h3 i hr).2
  |_=>exact Q1 hr id) h2
 have ky:=isD y _ hy ry.o λi hi=>⟨(nq _ (qx (hq i hi))).2.1,λz=>(by have h:=(rq i hi).2.1;rw[z,ry.o]at h;cases h)⟩;have kla:=isD la _ (a8.none sy hla.1) ry.w λi hi=>⟨λz=>(by have h:=(rq i hi).1;rw[z,ry.w]at h;cases h),λz=>hla.2 (List.mem_map.mpr ⟨_,qx (hq i hi),z⟩)⟩;have klq:=isD lq _ (a8.none sy hlq.1) ry.l λi hi=>⟨λz=>(by have h:=(rq i hi).1;rw[z,ry.l]at h;cases h),λz=>hlq.2 (List.mem_map.mpr ⟨_,qx (hq i hi),z⟩)⟩;refine⟨U,_,U,b,a.ge,dx,[],U,s1 _ _ hb,T.f8,T.zf,by simp,?_⟩;rw[show HO.ins a.ge dx (bo ("yard":Str) (V.ref y) [])=obO a dx 1 [.ref y]from rfl];have M2:=M1.put .b trivial (obO a dx 1 [.ref y]);change aY K1 (upd H' b (obO a dx 1 [.ref y])) _ _ _ at M2;generalize upd H' b (obO a dx 1 [.ref y])=G2 at M2 ⊢;have lp1:=sk1 _ _ (kl _ _ hlp);have rr1:=(rrs.keep kt).same sk1;have pl1:=rrs.len;refine⟨_,U,lp,U,⟨_,SqL.of (M2.sa _ _ lp1)⟩,?_⟩;refine dA (K:=K) (a:=lp) (xs:=ps) (λi ys σ G=>(∃v,σ=[v])/\∃K2,a8 K1 K2/\ys.length=i/\(∀j,j<i->∃v,ys[j]?=some v/\RPt a K2 v (bf rs j))/\aY K2 G (kj xs.length) (ix b qs) (at' (iw a b (.ins a.ge dx []) qs xs) .b (obO a dx 1 [.ref y]))) ⟨⟨_,U⟩,K1,a8.refl _,U,λj h=>Q1 h (Qv _),M2⟩ ?_ (bq (m:=1000) Qz) ?_ ?_ ?_
 ·rintro i ys σ G _ ⟨_,K2,_,e,_⟩;rw[e];exact qc _
 ·rintro i ys σ G ⟨_,K2,s2,_,_,M⟩;exact SqL.of (M.sa _ _ (s2 _ _ lp1))
 ·rintro i v ys σ G hi ⟨⟨v',rfl⟩,K2,s2,e2,r2,M⟩;obtain⟨r,hr2,rr⟩:=rr1.at hi;dsimp only[aK];refine⟨_,U,K2,v,r,U,M.sa,rr.same s2,λG' p sg np f=>?_⟩;obtain⟨K3,s3,new3,M3⟩:=M.more sg;refine⟨⟨_,U⟩,K3,s2.trans s3,by rw[q9,e2];rfl,λj hj=>?_,M3⟩;by_cases e:j=i
  ·refine⟨.ref p,by rw[e,qJ Qz,e2,Nat.sub_self];rfl,?_⟩;rw[show bf rs j=r by unfold bf;rw[e,qh,hr2];rfl];exact f K3 s3 new3
  ·obtain⟨v,h1,h2⟩:=r2 j Qz;exact⟨v,by rw[Q3 Qz];exact h1,h2.same s3⟩
 rintro ys σ3 G3 ⟨_,K2,s2,yl,dr,M3⟩ dl hdl;have M4:=M3.base hdl (.lst ys);have s4:a8 K2 (upd K2 dl (.lst ys)):=a8.new (a8.none M3.sa hdl) _;have hd4:upd K2 dl (.lst ys) dl=some (.lst ys):=ae;have dr4:∀j,j<ps.length->∃v,ys[j]?=some v/\RPt a (upd K2 dl (.lst ys)) v (bf rs j):=λj hj=>let ⟨v,h1,h2⟩:=dr j hj;⟨v,h1,h2.same s4⟩;have sk4:=sk1.trans (s2.trans s4);have s14:=s2.trans s4;generalize upd K2 dl (.lst ys)=K4 at M4 s4 hd4 dr4 sk4 s14;generalize upd G3 dl (.lst ys)=G4 at M4 ⊢;have b4:G4 b=some (obO a dx 1 [.ref y]):=M4.av .b trivial;refine⟨_,U,b,a.ge,dx,_,U,b4,T.f8,T.Bv,d4,?_⟩;rw[cZ (k:=1) (f:="doers") (v:=.ref dl) (vs:=[.ref y]) (ws:=[.ref y,.ref dl]) U U Qx U];have M5:=M4.put .b trivial (obO a dx 2 [.ref y,.ref dl]);change aY K4 (upd G4 b (obO a dx 2 [.ref y,.ref dl])) _ _ _ at M5;refine⟨_,U,_,U,b,a.ge,dx,_,U,M5.av .b trivial,T.f8,T.zI,d4,?_⟩;rw[cZ (k:=2) (f:="pace") (v:=.ref pc) (vs:=[.ref y,.ref dl]) (ws:=[.ref y,.ref dl,.ref pc]) U U Qx U];have M6:=M5.put .b trivial (obO a dx 3 [.ref y,.ref dl,.ref pc]);refine⟨_,U,_,U,b,a.ge,dx,_,U,M6.av .b trivial,T.f8,T.zJ,d4,?_⟩;rw[cZ (k:=3) (f:="spare") (v:=.int most) (vs:=[.ref y,.ref dl,.ref pc]) (ws:=[.ref y,.ref dl,.ref pc,.int most]) U U Qx U];have M7:=M6.put .b trivial (obO a dx 4 [.ref y,.ref dl,.ref pc,.int most]);refine⟨qq _,λlg hlg=>?_⟩;have M8:=M7.new .lg hlg (.lst []);refine⟨_,U,b,a.ge,dx,_,U,M8.av .b (.inr trivial),T.f8,T.zK,d4,?_⟩;rw[cZ (k:=4) (f:="log") (v:=.ref lg) (vs:=[.ref y,.ref dl,.ref pc,.int most]) (ws:=[.ref y,.ref dl,.ref pc,.int most,.ref lg]) U U Qx U];have M9:=M8.put .b (.inr trivial) (obO a dx 5 [.ref y,.ref dl,.ref pc,.int most,.ref lg]);have lp4:=s14 _ _ lp1
 let D9:Rl->Prop:=λs=>s=.lg\/kj xs.length s
 let ad9:Rl->Addr:=at' (ix b qs) .lg lg
 let c9:Rl->HO:=at' (at' (iw a b (.ins a.ge dx []) qs xs) .lg (.lst [])) .b (obO a dx 5 [.ref y,.ref dl,.ref pc,.int most,.ref lg])
 have M9:aY K4 _ D9 ad9 c9:=M9.less (λ_ h=>h) λr _=>by cases r<;>rfl
 refine⟨_,U,lp,U,⟨_,SqL.of (M9.sa _ _ lp4)⟩,?_⟩;refine dA (K:=K) (a:=lp) (xs:=ps) (λi ys σ G=>(∃v,σ=[v])/\∃(K':Hp)(hd:Nat->Addr),a8 K4 K'/\ys=(List.range i).map (λj=>V.ref (hd j))/\(∀j,j<i->K' (hd j)=some (.lst []))/\aY K' G D9 ad9 c9) ⟨⟨_,U⟩,K4,λ_=>b,a8.refl _,U,λj h=>Q1 h (Qv _),M9⟩ ?_ (bq (m:=1000) Qz) ?_ ?_ ?_
 ·rintro i ys σ G _ ⟨_,K',hd,_,rfl,_⟩;rw[q4,Qb];exact qc _
 ·rintro i ys σ G ⟨_,K',hd,s',_,_,M⟩;exact SqL.of (M.sa _ _ (s' _ _ lp4))
 ·rintro i v ys σ G hi ⟨⟨v',rfl⟩,K',hd,s',rfl,h',M⟩;refine⟨qq _,λz hz=>⟨⟨_,U⟩,upd K' z (.lst []),put hd i z,s'.trans (a8.new (a8.none M.sa hz) _),?_,λj hj=>?_,M.base hz _⟩⟩
  ·rw[List.range_succ,qM];refine congr (congrArg HAppend.hAppend (List.map_congr_left λj hj=>?_)) ?_
   ·rw[ai (qE (List.mem_range.mp hj))]
   ·show _=[V.ref (put hd i z i)];rw[ap]
  ·by_cases e:j=i
   ·rw[e,ap,ae]
   ·rw[ai e];exact a8.new (a8.none M.sa hz) _ _ _ (h' j Qz)
 rintro ys9 σ9 G9 ⟨_,K5,hd,s5,rfl,hh,M10⟩ hl hhl;have M11:=M10.new .hl hhl (.lst ((List.range ps.length).map λj=>V.ref (hd j)));refine⟨_,U,b,a.ge,dx,_,U,M11.av .b (.inr (.inr trivial)),T.f8,T.Bw,d4,?_⟩;rw[cZ (k:=5) (f:="held") (v:=.ref hl) (vs:=[.ref y,.ref dl,.ref pc,.int most,.ref lg]) (ws:=[.ref y,.ref dl,.ref pc,.int most,.ref lg,.ref hl]) U U Qx U];have M12:=M11.put .b (.inr (.inr trivial)) (obO a dx 6 [.ref y,.ref dl,.ref pc,.int most,.ref lg,.ref hl]);have lp5:=s5 _ _ lp4
 let D12:Rl->Prop:=λs=>s=.hl\/D9 s
 let ad12:Rl->Addr:=at' ad9 .hl hl
 let c12:Rl->HO:=at' (at' c9 .hl (.lst ((List.range ps.length).map λj=>V.ref (hd j)))) .b (obO a dx 6 [.ref y,.ref dl,.ref pc,.int most,.ref lg,.ref hl])
 have M12:aY K5 _ D12 ad12 c12:=M12;refine⟨_,U,lp,U,⟨_,SqL.of (M12.sa _ _ lp5)⟩,?_⟩;refine dA (K:=K) (a:=lp) (xs:=ps) (λi ys σ G=>(∃v,σ=[v])/\ys=(List.range i).map (λ_=>V.int ((0:Nat):Int))/\aY K5 G D12 ad12 c12) ⟨⟨_,U⟩,U,M12⟩ ?_ (bq (m:=1000) Qz) ?_ ?_ ?_
 ·rintro i ys σ G _ ⟨_,rfl,_⟩;rw[q4,Qb];exact qc _
 ·rintro i ys σ G ⟨_,_,M⟩;exact SqL.of (M.sa _ _ lp5)
 ·rintro i v ys σ G hi ⟨⟨v',rfl⟩,rfl,M⟩;exact⟨⟨_,U⟩,by rw[List.range_succ,qM];rfl,M⟩
 rintro ys12 σ12 G12 ⟨_,rfl,M12'⟩ tl htl;have M13:=M12'.new .tl htl (.lst ((List.range ps.length).map λ_=>V.int ((0:Nat):Int)));refine⟨_,U,b,a.ge,dx,_,U,M13.av .b (.inr (.inr (.inr trivial))),T.f8,T.zL,d4,?_⟩;rw[cZ (k:=6) (f:="takings") (v:=.ref tl) (vs:=[.ref y,.ref dl,.ref pc,.int most,.ref lg,.ref hl]) (ws:=[.ref y,.ref dl,.ref pc,.int most,.ref lg,.ref hl,.ref tl]) U U Qx U];have M14:=M13.put .b (.inr (.inr (.inr trivial))) (obO a dx 7 [.ref y,.ref dl,.ref pc,.int most,.ref lg,.ref hl,.ref tl])
 let D14:Rl->Prop:=λs=>s=.tl\/D12 s
 let ad14:Rl->Addr:=at' ad12 .tl tl
 let c14:Rl->HO:=at' (at' c12 .tl (.lst ((List.range ps.length).map λ_=>V.int ((0:Nat):Int)))) .b (obO a dx 7 [.ref y,.ref dl,.ref pc,.int most,.ref lg,.ref hl,.ref tl])
 have M14:aY K5 _ D14 ad14 c14:=M14;intro gd hgd;refine⟨qq _,λgl hgl=>?_⟩;have M15:=M14.new .gd hgd (.dK []);have M16:=M15.new (.gv 0) hgl (.lst []);have hgd2:=M16.av .gd (.inr (.inl U));refine⟨hgd2,[(.inl 0,.ref gl)],U,by show 1<=15;decide,?_⟩;have M17:=M16.put .gd (.inr (.inl U)) (.dK (f9 [] [(.inl 0,.ref gl)]));have hb17:_=some (obO a dx 7 [.ref y,.ref dl,.ref pc,.int most,.ref lg,.ref hl,.ref tl]):=M17.av .b (.inr (.inr (.inr (.inr (.inr trivial)))));refine⟨_,U,b,a.ge,dx,_,U,hb17,T.f8,T.zy,d4,?_⟩;rw[cZ (k:=7) (f:="givers") (v:=.ref gd) (vs:=[.ref y,.ref dl,.ref pc,.int most,.ref lg,.ref hl,.ref tl]) (ws:=[.ref y,.ref dl,.ref pc,.int most,.ref lg,.ref hl,.ref tl,.ref gd]) U U Qx U];have M18:=M17.put .b (.inr (.inr (.inr (.inr (.inr trivial))))) (obO a dx 8 [.ref y,.ref dl,.ref pc,.int most,.ref lg,.ref hl,.ref tl,.ref gd]);refine⟨_,U,lp,_,U,.inl (SqL.of (M18.sa _ _ lp5)),ps.length,U,Qz,λtk htk=>?_⟩;have M19:=M18.new .tk htk (.lst ((List.range ps.length).map λj:Nat=>V.int j));refine⟨_,U,b,a.ge,dx,_,U,M19.av .b (.inr (.inr (.inr (.inr (.inr (.inr trivial)))))),T.f8,T.zA,d4,?_⟩;rw[cZ (k:=8) (f:="takers") (v:=.ref tk) (vs:=[.ref y,.ref dl,.ref pc,.int most,.ref lg,.ref hl,.ref tl,.ref gd]) (ws:=[.ref y,.ref dl,.ref pc,.int most,.ref lg,.ref hl,.ref tl,.ref gd,.ref tk]) U U Qx U];have M20:=M19.put .b (.inr (.inr (.inr (.inr (.inr (.inr trivial)))))) (obO a dx 9 [.ref y,.ref dl,.ref pc,.int most,.ref lg,.ref hl,.ref tl,.ref gd,.ref tk])
 let D20:Rl->Prop:=λs=>s=.tk\/s=.gv 0\/s=.gd\/D14 s
 let ad20:Rl->Addr:=at' (at' (at' ad14 .gd gd) (.gv 0) gl) .tk tk
 let c20:Rl->HO:=at' (at' (at' (at' c14 .gd (.dK [(.inl 0,.ref gl)])) (.gv 0) (.lst [])) .tk (.lst ((List.range ps.length).map λj:Nat=>V.int j))) .b (obO a dx 9 [.ref y,.ref dl,.ref pc,.int most,.ref lg,.ref hl,.ref tl,.ref gd,.ref tk])
 have M20:aY K5 _ D20 ad20 c20:=M20.less (λ_ h=>h) λr _=>by cases r<;>rfl
 have ll5:=s5 _ _ (s14 _ _ (sk1 _ _ (kl _ _ hll)));have ul:=rln.len;refine⟨_,U,ll,U,⟨_,SqL.of (M20.sa _ _ ll5)⟩,?_⟩;refine dA (K:=K) (a:=ll) (xs:=us) (λi ys σ G=>(∃v,σ=[v])/\dB K5 G Rl.wr D20 ad20 c20 i ys) ⟨⟨_,U⟩,dB.start M20⟩ ?_ (bq (m:=1000) Qz) ?_ ?_ ?_
 ·rintro i ys σ G _ ⟨_,_,_,rfl,_⟩;rw[q4,Qb];exact qc _
 ·rintro i ys σ G ⟨_,_,_,_,_,_,M⟩;exact SqL.of (M.sa _ _ ll5)
 ·rintro i v ys σ G hi ⟨⟨v',rfl⟩,M⟩;exact⟨qq _,λz hz=>⟨⟨_,U⟩,M.step (λj k e=>Rl.wr.inj e) (λj h=>by rcases h with h|h|h|h|h|h|h<;>first|cases h|exact h) hz⟩⟩
 rintro ysR σR GR ⟨_,adR,cR,rfl,eR,fR,MR⟩ wrl hwrl;have M21:=MR.new .wrl hwrl (.lst ((List.range us.length).map λj=>V.ref (adR (.wr j))));have Db:D20 .b:=.inr (.inr (.inr (.inr (.inr (.inr trivial)))));have ebR:adR .b=b:=(eR .b Db).1
 have hb21:upd GR wrl (.lst ((List.range us.length).map λj=>V.ref (adR (.wr j)))) b=some (obO a dx 9 [.ref y,.ref dl,.ref pc,.int most,.ref lg,.ref hl,.ref tl,.ref gd,.ref tk]):=by
  have h:=M21.av .b (.inr (.inr Db));rw[show at' adR .wrl wrl .b=b from ebR,show at' cR .wrl (.lst ((List.range us.length).map λj=>V.ref (adR (.wr j)))) .b=obO a dx 9 [.ref y,.ref dl,.ref pc,.int most,.ref lg,.ref hl,.ref tl,.ref gd,.ref tk]from(eR .b Db).2]at h;exact h
 refine⟨_,U,b,a.ge,dx,_,U,hb21,T.f8,T.zM,d4,?_⟩;rw[cZ (k:=9) (f:="without_room") (v:=.ref wrl) (vs:=[.ref y,.ref dl,.ref pc,.int most,.ref lg,.ref hl,.ref tl,.ref gd,.ref tk]) (ws:=[.ref y,.ref dl,.ref pc,.int most,.ref lg,.ref hl,.ref tl,.ref gd,.ref tk,.ref wrl]) U U Qx U];have M22:=M21.put .b (.inr (.inr Db)) (obO a dx 10 [.ref y,.ref dl,.ref pc,.int most,.ref lg,.ref hl,.ref tl,.ref gd,.ref tk,.ref wrl]);rw[show at' adR .wrl wrl .b=b from ebR]at M22
 let D22:Rl->Prop:=λs=>s=.wrl\/(∃j,j<us.length/\s=.wr j)\/D20 s
 let ad22:Rl->Addr:=at' adR .wrl wrl
 let c22:Rl->HO:=at' (at' cR .wrl (.lst ((List.range us.length).map λj=>V.ref (adR (.wr j))))) .b (obO a dx 10 [.ref y,.ref dl,.ref pc,.int most,.ref lg,.ref hl,.ref tl,.ref gd,.ref tk,.ref wrl])
 have M22:aY K5 _ D22 ad22 c22:=M22;refine⟨_,U,ll,U,⟨_,SqL.of (M22.sa _ _ ll5)⟩,?_⟩;refine dA (K:=K) (a:=ll) (xs:=us) (λi ys σ G=>(∃v,σ=[v])/\dB K5 G Rl.wt D22 ad22 c22 i ys) ⟨⟨_,U⟩,dB.start M22⟩ ?_ (bq (m:=1000) Qz) ?_ ?_ ?_
 ·rintro i ys σ G _ ⟨_,_,_,rfl,_⟩;rw[q4,Qb];exact qc _
 ·rintro i ys σ G ⟨_,_,_,_,_,_,M⟩;exact SqL.of (M.sa _ _ ll5)
 ·rintro i v ys σ G hi ⟨⟨v',rfl⟩,M⟩;exact⟨qq _,λz hz=>⟨⟨_,U⟩,M.step (λj k e=>Rl.wt.inj e) (λj h=>by rcases h with h|⟨_,_,h⟩|h|h|h|h|h|h|h<;>first|cases h|exact h) hz⟩⟩
 rintro ysT σT GT ⟨_,adT,cT,rfl,eT,fT,MT⟩ wtl hwtl;have M23:=MT.new .wtl hwtl (.lst ((List.range us.length).map λj=>V.ref (adT (.wt j))));have Db2:D22 .b:=.inr (.inr Db);have ebT:adT .b=b:=(eT .b Db2).1.trans ebR
 have hb23:upd GT wtl (.lst ((List.range us.length).map λj=>V.ref (adT (.wt j)))) b=some (obO a dx 10 [.ref y,.ref dl,.ref pc,.int most,.ref lg,.ref hl,.ref tl,.ref gd,.ref tk,.ref wrl]):=by
  have h:=M23.av .b (.inr (.inr Db2));rw[show at' adT .wtl wtl .b=b from ebT,show at' cT .wtl (.lst ((List.range us.length).map λj=>V.ref (adT (.wt j)))) .b=obO a dx 10 [.ref y,.ref dl,.ref pc,.int most,.ref lg,.ref hl,.ref tl,.ref gd,.ref tk,.ref wrl]from(eT .b Db2).2]at h;exact h
 refine⟨_,U,b,a.ge,dx,_,U,hb23,T.f8,T.zN,d4,?_⟩;rw[cZ (k:=10) (f:="without_thing") (v:=.ref wtl) (vs:=[.ref y,.ref dl,.ref pc,.int most,.ref lg,.ref hl,.ref tl,.ref gd,.ref tk,.ref wrl]) (ws:=[.ref y,.ref dl,.ref pc,.int most,.ref lg,.ref hl,.ref tl,.ref gd,.ref tk,.ref wrl,.ref wtl]) U U Qx U];have M24:=M23.put .b (.inr (.inr Db2)) (obO a dx 11 [.ref y,.ref dl,.ref pc,.int most,.ref lg,.ref hl,.ref tl,.ref gd,.ref tk,.ref wrl,.ref wtl]);rw[show at' adT .wtl wtl .b=b from ebT]at M24
 let C:PlC:={ b:=b,dx:=dx,y:=y,dy:=dy,la:=la,lq:=lq,dl:=dl,pc:=pc,dq:=λi=>(qs.getD i (b,b,b)).2.1,qo:=λi=>(qs.getD i (b,b,b)).1,us:=ys,pv:=pv,n:=rs.length,nl:=xs.length,prt:=bf rs,ls:=λi=>(bd xs i).1,pace:=pace }
 have eA:∀r,D20 r->r≠.wrl->r≠.wtl->at' adT .wtl wtl r=ad20 r:=λr h n1 n2=>by
  rw[br n2,(eT r (.inr (.inr h))).1];show at' adR .wrl wrl r=_;rw[br n1,(eR r h).1]
 have s15:=s14.trans s5;refine k K5 _ C (at' adT .wtl wtl) hd ⟨?_,⟨?_,?_,?_,?_,.nil⟩,U,U,U,U,U,U,?_⟩
 ·refine⟨s15 _ _ ky,?_,?_,s5 _ _ hd4,λx hx=>?_,s15 _ _ (sk1 _ _ (kl _ _ hpc)),((ris.keep kl).same sk1).same s15,λx hx=>?_,n60,nl,pl,pb⟩
  ·rw[s15 _ _ kla,List.map_map];exact congrArg some (congrArg HO.lst (o0 (d:=((none,[]):Ln)) U))
  ·rw[s15 _ _ klq];exact congrArg some (congrArg HO.lst (o0 (d:=(b,b,b)) (by have:=ry.n;unfold ci at this;rw[q4]at this;exact this)))
  ·obtain⟨v,h1,h2⟩:=dr4 x (by have:x<rs.length:=hx;omega);exact⟨v,h1,h2.same s5⟩
  ·have hx:x<rs.length:=hx;refine okr _ ?_;show rs.getD x _∈rs;rw[qh,qa hx];exact List.getElem_mem hx
 ·have eps:ps.length=rs.length:=pl1;have Dq:∀i,i<xs.length->D20 (.qo i)/\D20 (.ql i):=λi hi=>⟨.inr (.inr (.inr (.inr (.inr (.inr hi))))),.inr (.inr (.inr (.inr (.inr (.inr hi)))))⟩;have D1:D20 .lg/\D20 .hl/\D20 .tl/\D20 .gd/\D20 .tk/\D20 (.gv 0):=⟨.inr (.inr (.inr (.inr (.inr (.inl U))))),.inr (.inr (.inr (.inr (.inl U)))),.inr (.inr (.inr (.inl U))),.inr (.inr (.inl U)),.inl U,.inr (.inl U)⟩
  have eC:∀r,D20 r->r≠.wrl->r≠.wtl->r≠.b->at' (at' cT .wtl (.lst ((List.range us.length).map λj=>V.ref (adT (.wt j))))) .b (obO a dx 11 [.ref y,.ref dl,.ref pc,.int most,.ref lg,.ref hl,.ref tl,.ref gd,.ref tk,.ref wrl,.ref wtl]) r=c20 r:=λr h n1 n2 n3=>by
   rw[br n3,br n2,(eT r (.inr (.inr h))).2];show at' (at' cR .wrl _) .b _ r=_;rw[br n3,br n1,(eR r h).2]
  have aw:∀i,i<xs.length->at' adT .wtl wtl (.wr i)=adR (.wr i):=λi hi=>(eT (.wr i) (.inr (.inl ⟨i,Qz,U⟩))).1;refine M24.less (λr hr=>?_) (λr hr=>?_)
  ·cases r with
   |b=>exact .inr (.inr Db2)
   |lg=>exact .inr (.inr (.inr (.inr D1.1)))
   |hl=>exact .inr (.inr (.inr (.inr D1.2.1)))
   |tl=>exact .inr (.inr (.inr (.inr D1.2.2.1)))
   |gd=>exact .inr (.inr (.inr (.inr D1.2.2.2.1)))
   |tk=>exact .inr (.inr (.inr (.inr D1.2.2.2.2.1)))
   |wrl=>exact .inr (.inr (.inl U))
   |wtl=>exact .inl U
   |qo i=>exact .inr (.inr (.inr (.inr (Dq i hr).1)))
   |ql i=>exact .inr (.inr (.inr (.inr (Dq i hr).2)))
   |wr i=>exact .inr (.inr (.inr (.inl ⟨i,by have:i<xs.length:=hr;omega,U⟩)))
   |wt i=>exact .inr (.inl ⟨i,by have:i<xs.length:=hr;omega,U⟩)
   |gv k=>
    have e:k=0:=qQ.mp hr;rw[e];exact .inr (.inr (.inr (.inr D1.2.2.2.2.2)))
  ·cases r with
   |b=>
    rw[bR];show obO a dx 11 _=plO a C (at' adT .wtl wtl) most;unfold plO plV;rw[eA .lg D1.1 nofun nofun,eA .hl D1.2.1 nofun nofun,eA .tl D1.2.2.1 nofun nofun,eA .gd D1.2.2.2.1 nofun nofun,eA .tk D1.2.2.2.2.1 nofun nofun,bR,show at' adT .wtl wtl .wrl=wrl from(eT .wrl (.inl U)).1]
    rfl
   |lg=>rw[eC .lg D1.1 nofun nofun nofun];rfl
   |hl=>
    rw[eC .hl D1.2.1 nofun nofun nofun];show HO.lst ((List.range ps.length).map _)=HO.lst ((List.range rs.length).map _);rw[eps]
   |tl=>
    rw[eC .tl D1.2.2.1 nofun nofun nofun];show HO.lst ((List.range ps.length).map _)=HO.lst ((List.range rs.length).map _);rw[eps]
    rfl
   |gd=>
    rw[eC .gd D1.2.2.2.1 nofun nofun nofun];show HO.dK [(Sum.inl 0,V.ref gl)]=HO.dK [(Sum.inl 0,V.ref (at' adT .wtl wtl (.gv 0)))];rw[eA (.gv 0) D1.2.2.2.2.2 nofun nofun]
    rfl
   |tk=>
    rw[eC .tk D1.2.2.2.2.1 nofun nofun nofun];show HO.lst ((List.range ps.length).map _)=HO.lst (ay (List.range rs.length));rw[eps]
    rfl
   |wrl=>
    refine((eT .wrl (.inl U)).2).trans ?_;show HO.lst ((List.range us.length).map λj=>V.ref (adR (.wr j)))=HO.lst ((List.range xs.length).map λi=>V.ref (at' adT .wtl wtl (.wr i)));rw[ul];exact congrArg HO.lst (List.map_congr_left λi hi=>by rw[aw i (List.mem_range.mp hi)])
   |wtl=>
    show HO.lst ((List.range us.length).map λj=>V.ref (adT (.wt j)))=HO.lst ((List.range xs.length).map λi=>V.ref (at' adT .wtl wtl (.wt i)));rw[ul]
    rfl
   |qo i=>
    rw[eC (.qo i) (Dq i hr).1 nofun nofun nofun];show HO.ins _ _ [("laid",V.ref (qs.getD i (b,b,b)).2.2),_]=HO.ins _ _ [("laid",V.ref (at' adT .wtl wtl (.ql i))),_];rw[eA (.ql i) (Dq i hr).2 nofun nofun]
    rfl
   |ql i=>rw[eC (.ql i) (Dq i hr).2 nofun nofun nofun];rfl
   |wr i=>
    have hi:i<us.length:=by have:i<xs.length:=hr;omega
    exact((eT (.wr i) (.inr (.inl ⟨i,hi,U⟩))).2).trans (fR i hi)
   |wt i=>
    have hi:i<us.length:=by have:i<xs.length:=hr;omega
    exact fT i hi
   |gv k=>
    have e:k=0:=qQ.mp hr;rw[e,eC (.gv 0) D1.2.2.2.2.2 nofun nofun nofun]
    rfl
 ·exact ebT
 ·exact λi hi=>eA (.qo i) (.inr (.inr (.inr (.inr (.inr (.inr hi)))))) nofun nofun
 ·exact λx hx=>⟨[],hh x (by have:x<rs.length:=hx;omega),.nil⟩
 ·exact λq o n h=>s15 _ _ (sk1 _ _ (k0 q o n h))
def pN(xs:List Ln)(rs:List PR)(pace:List (List Int))(most:Nat)(S:PlS):Bool->Prop
 |true=>bi (λi=>(bd xs i).1) (bf rs) pace (bY xs rs.length most) .top S/\S.gv=[]
 |false=>∃k x r,bi (λi=>(bd xs i).1) (bf rs) pace (bY xs rs.length most) (.tak k (x::r)) S/\cQ S (ao S (bf rs x))=none/\S.sp=0
structure fw(H H':Hp)(t:Addr)(xs:List Ln)(rs:List PR)(pace:List (List Int))(most:Nat)(S:PlS)(still:Bool)(lg st:Addr)(lgv us:List V):Prop where
 sa:a8 H H'
 tp:H' t=some (.tup [.bl still,.ref lg,.ref st])
 hl:H' lg=some (.lst lgv)
 es:REs H' lgv S.lg
 hs:H' st=some (.lst us)
 ri:RIs H' us ((List.range xs.length).map (aA S))
 nd:pN xs rs pace most S still
inductive iX(a:Adr)(vs:List V)(H:Hp)(Q:VK)(E:XK):Prop
 |mk (ll lp:Addr) (v:V) (us ps:List V) (xs:List Ln) (rs:List PR) (pace:List (List Int)) (most:Nat) (h0_:vs=[.ref ll,.ref lp,v,.int most]) (h1_:H ll=some (.lst us)) (h2_:RLn H us xs) (h3_:H lp=some (.lst ps)) (h4_:RRs H ps rs) (h5_:RPc H v pace) (h6_:rs.length<60) (h7_:xs.length<=1000) (h8_:(∀x∈xs,x.2.length<=64)) (h9_:(∀x∈xs,∀n∈x.2,OnW n)) (h10_:pace.length<=1000) (h11_:(∀r∈pace,r.length<=1000)) (h12_:(∀r∈rs,r.ok/\r.fit xs.length)) (h13_:most<=5000) (h14_:∀H' t S still lg st lgv us',fw H H' t xs rs pace most S still lg st lgv us'->Q (.ref t) H'):iX a vs H Q E
theorem gD.of{C:PlC}{xs:List Ln}{rs:List PR}{pace:List (List Int)}{most:Nat}{S':PlS}{q:Bool->Prop}(h1:C.ls=λi=>(bd xs i).1)(h2:C.prt=bf rs)(h3:C.pace=pace)(h:∀b,pN xs rs pace most S' b->q b):gD C (bY xs rs.length most) S' q:=by
 unfold gD;rw[h1,h2,h3];exact⟨λa b=>h true ⟨a,b⟩,λk x r a b c=>h false ⟨k,x,r,a,b,c⟩⟩
theorem iu{C:PlC}{xs:List Ln}{rs:List PR}{most:Nat}(hn:C.n=rs.length)(fl:∀x∈xs,x.2.length<=64)(fo:∀x∈xs,∀n∈x.2,OnW n)(hm:most<=5000):Gd C (bE (bY xs rs.length most)+20) [] (bY xs rs.length most):=by
 have ln:∀i,(bd xs i).2.length<=64/\∀n∈(bd xs i).2,OnW n:=λi=>by
  unfold bd;rw[qh]
  cases h:xs[i]? with
  |none=>exact⟨qq _,λ_ z=>(nomatch z)⟩
  |some x=>exact⟨fl x (qx h),fo x (qx h)⟩
 have eb:bE (bY xs rs.length most)=130 * (3 * most+1):=U;refine⟨⟨λ_=>.tr,⟨⟨List.nodup_range,λx hx=>⟨by rw[hn];exact List.mem_range.mp hx,U⟩⟩,λ_=>.nil,λ_=>.nil,Qo _ _,λkv h=>?_,.nil⟩⟩,⟨λi=>⟨?_,qq _⟩,?_,?_,λi=>(ln i).2,λx _=>⟨λp hp=>(nomatch hp),qq _,List.nodup_nil⟩⟩⟩
 ·rw[qQ.mp h];exact .nil
 ·rw[eb];show(bd xs i).2.length+_<=_;have:=(ln i).1;omega
 ·rw[eb];show 0+_<=_;omega
 ·rw[eb];show 1+_<=_;omega
theorem i7(T:Tx P w K mg a):aC P w K mg base CX0 7 a.AS a.zp ["lines","parts","pace","most"] (iX a):=by
 refine T.zr.ok iZ (λvs H Q E h=>?_) (λcdv A outer s H vs Q E hr h=>?_)
 ·obtain⟨_,_,_,_,_,_,_,_,_,rfl,_⟩:=h
  rfl
 obtain⟨ll,lp,v,us,ps,xs,rs,pace,most,rfl,hll,rln,hlp,rrs,rpc,n60,nl,fl,fo,pl,pb,okr,hm,k⟩:=h
 refine⟨_,(ac (aS (i:=4) iZ.nd U Oi (e8 T.Ef (w6 T) (hr.mono Qy) U T.Ee T.Dd .nil aE (a0 (pq 0) (a0 (pq 1) (a0 (dM (aF fV (pq 2) cM (aB _)) (bI a9) (pq 2)) (a0 (pq 3) a9))))))
  (ac (aS (i:=5) iZ.nd U Oi (dZ (pq 4) T.f8 T.Eg (vX T) (hr.mono Qy) T.Df .nil aE))
  (af (ar (cw (a0 (pq 5) (a0 (az (pq 4) U) (a0 (dZ (az (pq 4) U) T.wE T.DW (vL T) (hr.mono Qy) T.CJ .nil aE) a9)))))))),?_⟩
 have pick:∀Q2:VK,(∀pc pv H2,a8 H H2->H2 pc=some (.lst pv)->RIs H2 pv pace->Q2 (.ref pc) H2)->tIf (dU (tOp jP (fZ 2) (tC V.non))) (hJ iT) (fZ 2) (L2.start ["lines","parts","pace","most","playing","still"] [V.ref ll,V.ref lp,v,V.int most]) H Q2:=by
  intro Q2 h;rcases rpc with⟨rfl,rfl⟩|⟨pc,pv,rfl,hpc,ris⟩
  ·exact⟨_,U,U,_,U,bC U ⟨qq _,λz hz=>h z [] _ (a8.new hz _) ae .nil⟩⟩
  ·exact⟨_,U,U,_,U,aI U ⟨_,U,h pc pv H (a8.refl _) hpc ris⟩⟩
 refine⟨_,U,_,U,pick _ λpc pv H2 s2 hpc ris=>⟨_,U,λb dx hb hdx nb=>?_⟩⟩
 have s3:a8 H2 (upd (upd H2 dx (.own b)) b (.ins a.ge dx [])):=λc o h=>by
  have n1:c≠b:=λz=>by rw[z,hb]at h;cases h
  have n2:c≠dx:=λz=>by rw[z,hdx]at h;cases h
  rw[ag n1,ag n2];exact h
 have s23:=s2.trans s3;refine⟨b,dx,ll,lp,pc,us,ps,pv,xs,rs,pace,most,U,ae,s23 _ _ hll,rln.same s23,s23 _ _ hlp,rrs.same s23,s3 _ _ hpc,ris.same s3,n60,nl,fl,pl,pb,okr,λK1 H4 C ad hd R=>⟨U,?_⟩⟩;have sK:a8 H K1:=λc o h=>R.keep c o (by rw[R.b];intro z;have:=s2 _ _ h;rw[z,hb]at this;cases this) (s23 _ _ h);have eb:=R.b;subst eb;have M:=R.M;have hob:=M.ob;dsimp only[aK];refine⟨_,U,C.b,C.dx,_,U,hob,e9 Qx,K1,C,ad,hd,[],_,U,R.B,M,iu R.n fl fo hm,λK5 H5 ad5 hd5 lgv5 S5 s5 M5=>?_⟩;refine gD.of R.ls R.prt R.pace λstill he=>?_;dsimp only[aK];have B5:=R.B.same s5
 have g5:∀i,(S5.st i).2<=(S5.st i).1.length/\(S5.st i).1.length<=10000000:=by
  have ini:=iu (C:=C) (most:=most) R.n fl fo hm;have rg:∀{ph:Ph},bi C.ls C.prt C.pace (bY xs rs.length most) ph S5->GdP C ph S5:=λh=>h.gd R.B.ok R.B.n ini
  cases still with
  |true=>
   have:=(rg (ph:=.top) (by rw[R.ls,R.prt,R.pace];exact he.1)).cap;exact λi=>⟨(this.st i).2,by have:=(this.st i).1;omega⟩
  |false=>
   obtain⟨k',x,r,h1,_⟩:=he;have:=(rg (ph:=.tak k' (x::r)) (by rw[R.ls,R.prt,R.pace];exact h1)).cap;exact λi=>⟨(this.st i).2,by have:=(this.st i).1;omega⟩
 have ry5:=M5.ry B5 g5;have ob5:=M5.ob;refine⟨_,U,_,U,C.b,_,C.dx,_,_,U,ob5,T.f8,T.zK,lz4 U,_,U,C.b,_,C.dx,_,_,U,ob5,T.f8,T.zf,lz0 U,C.y,C.dy,_,U,ry5.o,eB Qx,C.y,C.dy,C.la,C.lq,_,_,_,U,ry5,?_,λH6 l us6 s6 nl6 hl6 ri6 an6=>⟨?_,λt ht=>?_⟩⟩
 ·unfold qsP;rw[q4,Qb,R.nl];exact nl
 ·exact(by decide:3<=sizeLine)
 have s7:=a8.new ht (.tup [.bl still,.ref (ad5 .lg),.ref l]);have s57:a8 H5 _:=s6.trans s7;have lg5:=M5.own.av .lg trivial;refine k _ t S5 still (ad5 .lg) l lgv5 us6 ⟨sK.trans (s5.trans (M5.own.sa.trans s57)),ae,s57 _ _ lg5,(M5.lg.same M5.own.sa).same s57,s7 _ _ hl6,?_,he⟩
 have e:dH (stP C S5)=(List.range xs.length).map (aA S5):=by
  unfold dH stP;rw[List.map_map,R.nl]
  rfl
 exact(e▸ri6).same s7
def cK(f:Nat->List Int):PR->List Int
 |.pass ins _ _=>ins
 |.work ins _ _ _ _=>ins
 |.choose ins _ _ _ _=>ins
 |.merge t o n _=>match f t.toNat with
  |[]=>[t]
  |x::_=>t::(if x=0 then n else o)
theorem iL{S:PlS}:∀r:PR,ao S r=cK (aA S) r
 |.pass ..=>rfl
 |.work ..=>rfl
 |.choose ..=>rfl
 |.merge ..=>rfl
structure WS where
 rows:Nat->List Int
 post:Nat->Option (List (Int×Int))
 due:Nat->Int
 tks:Nat->Nat
 l1:Int
 l2:Int
 l3:Int
def cJ(f:Nat->List Int)(hs:List (Int×Int)):Nat->List Int:=hs.foldl (λf p=>put f p.1.toNat (f p.1.toNat++[p.2])) f
def dh(f:Nat->List Int)(hs:List (Int×Int)):Nat->List Int:=hs.foldl (λf p=>put f p.1.toNat (f p.1.toNat).tail) f
def bL(prt:Nat->PR)(pace:List (List Int))(W:WS)(e:Ent):WS:=
 if e.took then{ rows:=dh W.rows e.hs,post:=put W.post e.part (some ((prt e.part).made (e.hs.map (·.2)))),due:=put W.due e.part (e.now+1+bM pace e.part (W.tks e.part)),tks:=put W.tks e.part (W.tks e.part+1),l1:=e.now,l2:=1,l3:=e.part }
 else{ W with rows:=cJ W.rows e.hs,post:=put W.post e.part none,l1:=e.now,l2:=0,l3:=e.part }
def x9(a b c a' b' c':Int):Prop:=a<a'\/(a=a'/\(b<b'\/(b=b'/\c<c')))
structure OkE(n nl:Nat)(ls:Nat->Option Int)(prt:Nat->PR)(W:WS)(e:Ent):Prop where
 now:0<=e.now
 part:e.part<n
 hs:Hs nl e.hs
 sz:∀i,(W.rows i).length<10000000
 lex:x9 W.l1 W.l2 W.l3 e.now (if e.took then 1 else 0) e.part
 tk:e.took=true->W.post e.part=none/\e.hs.map (·.1)=cK W.rows (prt e.part)/\(∀p∈e.hs,(W.rows p.1.toNat).head?=some p.2)/\e.hs.length=(prt e.part).wide
 gv:e.took=false->W.post e.part=some e.hs/\W.due e.part<=e.now/\∀p∈e.hs,roomV (ls p.1.toNat) ((W.rows p.1.toNat).length:Int)=true
def cS(n nl:Nat)(ls:Nat->Option Int)(prt:Nat->PR)(pace:List (List Int)):WS->List Ent->Prop
 |_,[]=>True
 |W,e::es=>OkE n nl ls prt W e/\cS n nl ls prt pace (bL prt pace W e) es
theorem cS.snoc{n nl:Nat}{ls:Nat->Option Int}{prt:Nat->PR}{pace:List (List Int)}:∀{es:List Ent}{W:WS}{e:Ent},cS n nl ls prt pace W es->OkE n nl ls prt (es.foldl (bL prt pace) W) e->cS n nl ls prt pace W (es++[e])
 |[],_,_,_,h=>⟨h,trivial⟩
 |_::_,_,_,a,h=>⟨a.1,cS.snoc a.2 h⟩
theorem u7{S:PlS}(h:∀i,(S.st i).2<=(S.st i).1.length)(p:Int×Int):aA (ak S p)=put (aA S) p.1.toNat (aA S p.1.toNat++[p.2])/\∀i,((ak S p).st i).2<=((ak S p).st i).1.length:=by
 refine⟨funext λi=>?_,λi=>?_⟩
 ·show(put S.st p.1.toNat _ i).1.drop (put S.st p.1.toNat _ i).2=_;by_cases e:i=p.1.toNat
  ·rw[e,ap,ap];exact List.drop_append_of_le_length (h _)
  ·rw[ai e,ai e];rfl
 ·show(put S.st p.1.toNat _ i).2<=(put S.st p.1.toNat _ i).1.length;by_cases e:i=p.1.toNat
  ·rw[e,ap,q9];exact Nat.le_add_right_of_le (h _)
  ·rw[ai e];exact h i
theorem jG:∀(ps:List (Int×Int)){S:PlS},(∀i,(S.st i).2<=(S.st i).1.length)->aA (ps.foldl ak S)=cJ (aA S) ps
 |[],_,_=>rfl
 |p::ps,S,h=>by
  obtain⟨h1,h2⟩:=u7 h p;show aA (ps.foldl ak (ak S p))=cJ (put (aA S) p.1.toNat (aA S p.1.toNat++[p.2])) ps;rw[jG ps h2,h1]
theorem jF:∀(ws xs:List Int)(f:Nat->List Int×Nat),ws.length=xs.length->(λi=>(bu f ws i).1.drop (bu f ws i).2)=dh (λi=>(f i).1.drop (f i).2) (ws.zip xs)
 |[],_,f,_=>rfl
 |_::_,[],_,h=>by simp at h
 |w::ws,x::xs,f,h=>by
  have e:(λi=>((put f w.toNat ((f w.toNat).1,(f w.toNat).2+1)) i).1.drop ((put f w.toNat ((f w.toNat).1,(f w.toNat).2+1)) i).2)=put (λi=>(f i).1.drop (f i).2) w.toNat ((f w.toNat).1.drop (f w.toNat).2).tail:=funext λi=>by
   show((put f w.toNat ((f w.toNat).1,(f w.toNat).2+1)) i).1.drop ((put f w.toNat ((f w.toNat).1,(f w.toNat).2+1)) i).2=_;by_cases e:i=w.toNat
   ·rw[e,ap,ap,List.tail_drop]
   ·rw[ai e,ai e]
  show(λi=>(bu (put f w.toNat ((f w.toNat).1,(f w.toNat).2+1)) ws i).1.drop (bu (put f w.toNat ((f w.toNat).1,(f w.toNat).2+1)) ws i).2)=dh (put (λi=>(f i).1.drop (f i).2) w.toNat ((f w.toNat).1.drop (f w.toNat).2).tail) (ws.zip xs);rw[jF ws xs _ (by simpa using h),e]
theorem oF:∀(ps:List (Int×Int))(S:PlS),(∀x∈(ps.foldl ak S).tr,x∈S.tr\/∃i,x∈S.wt i)/\∀i,∀x∈(ps.foldl ak S).wt i,x∈S.wt i
 |[],_=>⟨λ_ h=>.inl h,λ_ _ h=>h⟩
 |p::ps,S=>by
  obtain⟨h1,h2⟩:=oF ps (ak S p)
  have e2:∀i,∀x∈(ak S p).wt i,x∈S.wt i:=λi x h=>by
   have h:x∈put S.wt p.1.toNat [] i:=h;by_cases e:i=p.1.toNat
   ·rw[e,ap]at h;cases h
   ·rwa [ai e]at h
  refine⟨λx hx=>?_,λi x hx=>e2 i x (h2 i x hx)⟩;rcases h1 x hx with h|⟨i,h⟩
  ·rcases qf.mp h with h|h
   ·exact .inl h
   ·exact .inr ⟨_,h⟩
  ·exact .inr ⟨i,e2 i x h⟩
theorem kO{g:Gv}{now t:Int}{ps:List Nat}{A:Int->Nat->Prop}(h:∀kv∈g,now<kv.1/\∀x∈kv.2,A kv.1 x)(lt:now<t)(hp:∀x∈ps,A t x):∀kv∈bc g t ps,now<kv.1/\∀x∈kv.2,A kv.1 x:=λkv hk=>by
 rcases k6 hk with⟨h',_⟩|⟨h1,h2,_⟩|⟨h1,qs,h2,h3⟩
 ·exact h kv h'
 ·rw[h1,h2];exact⟨lt,hp⟩
 ·rw[h1,h3];refine⟨lt,λx hx=>?_⟩;rcases qf.mp hx with hx|hx
  ·exact(h _ h2).2 x hx
  ·exact hp x hx
theorem kB{now:Int}{A:Int->Nat->Prop}{B:Nat->Prop}(hAB:∀x,B x->A (now+1) x):∀(ws:List Int)(S:PlS),(∀kv∈S.gv,now<kv.1/\∀x∈kv.2,A kv.1 x)->(∀i,∀x∈S.wr i,B x)->(∀kv∈(ws.foldl (be now) S).gv,now<kv.1/\∀x∈kv.2,A kv.1 x)/\∀i,∀x∈(ws.foldl (be now) S).wr i,B x
 |[],_,h1,h2=>⟨h1,h2⟩
 |w::ws,S,h1,h2=>by
  refine kB hAB ws (be now S w) (kO h1 Qz λx hx=>hAB x (h2 _ x hx)) λi x hx=>?_;have hx:x∈put S.wr w.toNat [] i:=hx;by_cases e:i=w.toNat
  ·rw[e,ap]at hx;cases hx
  ·rw[ai e]at hx;exact h2 i x hx
theorem mZ{pace:List (List Int)}(h:∀r∈pace,∀x∈r,0<=x)(x k:Nat):0<=bM pace x k:=by
 unfold bM;split
 ·exact Int.le_refl _
 ·show 0<=(if(pace.getD (x % pace.length) []).length=0 then 0 else(pace.getD (x % pace.length) []).getD (k % (pace.getD (x % pace.length) []).length) 0);split
  ·exact Int.le_refl _
  ·rename_i n1 n2;have l1:x % pace.length<pace.length:=Nat.mod_lt _ Qz;have e1:pace.getD (x % pace.length) []=pace[x % pace.length]:=by rw[qh,qa l1];rfl
   rw[e1]at n2 ⊢;have l2:k % (pace[x % pace.length]).length<(pace[x % pace.length]).length:=Nat.mod_lt _ Qz;rw[qh,qa l2];exact h _ (List.getElem_mem l1) _ (List.getElem_mem l2)
structure Sim(W:WS)(now:Int)(S:PlS):Prop where
 rows:W.rows=aA S
 tks:W.tks=S.tks
 tr:∀x∈S.tr,W.post x=none
 wt:∀i,∀x∈S.wt i,W.post x=none
 gv:∀kv∈S.gv,now<kv.1/\∀x∈kv.2,W.post x=some (S.held x)/\W.due x<=kv.1
 wr:∀i,∀x∈S.wr i,W.post x=some (S.held x)/\W.due x<=now
def bX(xs:List Ln):WS:={ rows:=λi=>(bd xs i).2,post:=λ_=>none,due:=λ_=>0,tks:=λ_=>0,l1:=0,l2:=0,l3:=-1 }
def bF(es:List Ent):Nat:=(es.filter λe=>e.took).length
def kX(W:WS)(S:PlS):Ph->Prop
 |.top=>∃now,Sim W now S/\-1<=now/\∀k∈aG S.gv,W.l1<k\/(W.l1=k/\W.l2=0/\W.l3=-1)
 |.giv k r=>Sim W k S/\0<=k/\fz r/\(∀x∈r,W.post x=some (S.held x)/\W.due x<=k)/\(W.l1<k\/(W.l1=k/\W.l2=0/\∀x∈r,W.l3<x))
 |.tak k r=>Sim W k S/\0<=k/\fz r/\(∀x∈r,W.post x=none)/\(W.l1<k\/(W.l1=k/\(W.l2=0\/(W.l2=1/\∀x∈r,W.l3<x))))
theorem Sim.as{W:WS}{now now':Int}{S S':PlS}(I:Sim W now S)(e1:S'.st=S.st)(e2:S'.tks=S.tks)(e3:S'.held=S.held)(tr:∀x∈S'.tr,W.post x=none)(wt:∀i,∀x∈S'.wt i,W.post x=none)(gv:∀kv∈S'.gv,now'<kv.1/\∀x∈kv.2,W.post x=some (S'.held x)/\W.due x<=kv.1)(wr:∀i,∀x∈S'.wr i,W.post x=some (S'.held x)/\W.due x<=now'):Sim W now' S':=
 ⟨I.rows.trans (by unfold aA;rw[e1]),I.tks.trans e2.symm,tr,wt,gv,wr⟩
theorem jH{n:Nat}{loc:Nat->Loc}{x:Nat}{r:List Nat}{S:PlS}(I:aL n loc (x::r) S)(rs:fz (x::r)):∀y∈r,x<y:=λy hy=>by
 have h1:=List.rel_of_pairwise_cons rs hy;have h2:x≠y:=λz=>I.not.2.2 (z▸hy);omega
theorem bi.sim{C:PlC}(okC:∀x,x<C.n->(C.prt x).ok/\(C.prt x).fit C.nl)(n60:C.n<60)(nn:∀r∈C.pace,∀x∈r,0<=x){xs:List Ln}{most:Nat}(g0:Gd C (bE (bY xs C.n most)+20) [] (bY xs C.n most)){ph:Ph}{S:PlS}(h:bi C.ls C.prt C.pace (bY xs C.n most) ph S):cS C.n C.nl C.ls C.prt C.pace (bX xs) S.lg/\kX (S.lg.foldl (bL C.prt C.pace) (bX xs)) S ph/\bF S.lg+S.sp=most:=by
 induction h with
 |base=>
  refine⟨trivial,⟨-1,⟨U,U,λ_ _=>U,λ_ _ h=>(nomatch h),λkv h=>?_,λ_ _ h=>(nomatch h)⟩,by omega,λk hk=>?_⟩,Nat.zero_add _⟩
  ·rw[qQ.mp h];exact⟨by show(-1:Int)<0;decide,λ_ h=>(nomatch h)⟩
  ·rw[qQ.mp hk];exact .inr ⟨U,U,U⟩
 |@turn S k r h hk p rs ih=>
  obtain⟨w,⟨now,I,m1,ll⟩,c⟩:=ih;have fk:=ff hk.1;have nk:=I.gv _ fk;refine⟨w,⟨I.as U U U I.tr I.wt (λkv hv=>?_) (λi x hx=>?_),by have:now<k:=nk.1;omega,rs,λx hx=>nk.2 x (p.mem_iff.mp hx),?_⟩,c⟩
  ·have hv:=List.mem_filter.mp hv;have ne:kv.1≠k:=Qa hv.2;have le:=hk.2 kv.1 (List.mem_map.mpr ⟨kv,hv.1,U⟩);exact⟨Qz,(I.gv kv hv.1).2⟩
  ·have:=I.wr i x hx;exact⟨this.1,by have:=this.2;have:now<k:=nk.1;omega⟩
  ·rcases ll k hk.1 with z|⟨z1,z2,z3⟩
   ·exact .inl z
   ·exact .inr ⟨z1,z2,λx _=>by show(S.lg.foldl (bL C.prt C.pace) (bX xs)).l3<x;rw[z3];omega⟩
 |@give S k x r h ih=>
  obtain⟨w,⟨I,k0,rs,rm,ll⟩,c⟩:=ih;obtain⟨⟨loc,L⟩,cp⟩:=h.gd okC n60 g0;have hx:=L.not.2.1;have lt:=jH L rs;have px:=rm x qj;unfold cg;split
  ·rename_i q hq;refine⟨w,⟨I.as U U U I.tr I.wt I.gv (λi y hy=>?_),k0,rs.of_cons,λy hy=>rm y (qi _ hy),ll.imp id λz=>⟨z.1,z.2.1,λy hy=>z.2.2 y (qi _ hy)⟩⟩,c⟩;have hy:y∈put S.wr q.1.toNat (S.wr q.1.toNat++[x]) i:=hy;by_cases e:i=q.1.toNat
   ·rw[e,ap]at hy;rcases qf.mp hy with hy|hy
    ·exact I.wr _ y hy
    ·rw[qQ.mp hy];exact px
   ·rw[ai e]at hy;exact I.wr i y hy
  ·rename_i hq;have hq:=List.find?_eq_none.mp hq;obtain⟨e1,e2,e3,e4,e5,e6⟩:=eI (S.held x) S;obtain⟨m1,m2⟩:=oF (S.held x) S;have hh:=cp.hn x hx
   have el:(dv S k x).lg=S.lg++[⟨k,x,false,S.held x⟩]:=by
    show((S.held x).foldl ak S).lg++_=_;rw[e3]
   have le:∀i,(S.st i).2<=(S.st i).1.length:=λi=>(cp.st i).2
   have sz:∀i,((S.lg.foldl (bL C.prt C.pace) (bX xs)).rows i).length<10000000:=λi=>by
    rw[I.rows];unfold aA;rw[qW];have:=(cp.st i).1;omega
   have ok:OkE C.n C.nl C.ls C.prt (S.lg.foldl (bL C.prt C.pace) (bX xs)) ⟨k,x,false,S.held x⟩:=by
    refine⟨k0,hx,⟨hh.1,hh.2.1,hh.2.2⟩,sz,?_,nofun,λ_=>⟨px.1,px.2,λp hp=>?_⟩⟩
    ·rcases ll with z|⟨z1,z2,z3⟩
     ·exact .inl z
     ·exact .inr ⟨z1,.inr ⟨z2,z3 x qj⟩⟩
    ·have:=hq p hp;rw[I.rows];unfold roomF at this
     have e:((aA S p.1.toNat).length:Int)=((S.st p.1.toNat).1.length:Int)-(S.st p.1.toNat).2:=by
      unfold aA;rw[qW];have:=le p.1.toNat;omega
     rw[e];simpa using this
   rw[el,List.foldl_append];refine⟨w.snoc ok,?_,?_⟩
   ·generalize hW:S.lg.foldl (bL C.prt C.pace) (bX xs)=W at I rm ll;show kX { W with rows:=cJ W.rows (S.held x),post:=put W.post x none,l1:=k,l2:=0,l3:=x } (dv S k x) (.giv k r);have oth:∀{l:Loc}{ys:List Nat},OnL C.n loc l ys->l≠.rem->∀y∈ys,put W.post x none y=W.post y:=λh1 h2 y hy=>ai λz=>L.notin h1 h2 (z▸hy);refine⟨⟨?_,?_,λy hy=>?_,λi y hy=>?_,λkv hv=>?_,λi y hy=>?_⟩,k0,rs.of_cons,λy hy=>?_,.inr ⟨U,U,λy hy=>by have:=lt y hy;show(x:Int)<y;omega⟩⟩
    ·show cJ W.rows (S.held x)=aA ((S.held x).foldl ak S);rw[jG _ le,I.rows]
    ·show W.tks=((S.held x).foldl ak S).tks;rw[e5];exact I.tks
    ·show put W.post x none y=none;rcases qf.mp hy with hy|hy
     ·rcases m1 y hy with hy|⟨i,hy⟩
      ·rw[oth L.tr nofun y hy];exact I.tr y hy
      ·rw[oth (L.wt i) nofun y hy];exact I.wt i y hy
     ·rw[qQ.mp hy];exact ap
    ·show put W.post x none y=none;rw[oth (L.wt i) nofun y (m2 i y hy)];exact I.wt i y (m2 i y hy)
    ·have hv:kv∈((S.held x).foldl ak S).gv:=hv;rw[e1]at hv;refine⟨(I.gv kv hv).1,λy hy=>?_⟩;show put W.post x none y=some (((S.held x).foldl ak S).held y)/\W.due y<=kv.1;rw[oth (L.gv kv hv) nofun y hy,e4];exact(I.gv kv hv).2 y hy
    ·have hy:y∈((S.held x).foldl ak S).wr i:=hy;rw[e6]at hy;show put W.post x none y=some (((S.held x).foldl ak S).held y)/\W.due y<=k;rw[oth (L.wr i) nofun y hy,e4];exact I.wr i y hy
    ·show put W.post x none y=some (((S.held x).foldl ak S).held y)/\W.due y<=k;rw[ai λz:y=x=>L.not.2.2 (z▸hy),e4];exact rm y (qi _ hy)
   ·show bF (S.lg++[⟨k,x,false,S.held x⟩])+((S.held x).foldl ak S).sp=most;unfold bF;rw[e2,Qp];simpa[bF]using c
 |@half S k r h p rs ih=>
  obtain⟨w,⟨I,k0,_,_,ll⟩,c⟩:=ih;refine⟨w,⟨I.as U U U (λ_ h=>(nomatch h)) I.wt I.gv I.wr,k0,rs,λx hx=>I.tr x (p.mem_iff.mp hx),ll.imp id λz=>⟨z.1,.inl z.2.1⟩⟩,c⟩
 |@wait S k i x r h hl ih=>
  obtain⟨w,⟨I,k0,rs,rm,ll⟩,c⟩:=ih;refine⟨w,⟨I.as U U U I.tr (λj y hy=>?_) I.gv I.wr,k0,rs.of_cons,λy hy=>rm y (qi _ hy),ll.imp id λz=>⟨z.1,z.2.imp id λz=>⟨z.1,λy hy=>z.2 y (qi _ hy)⟩⟩⟩,c⟩;have hy:y∈put S.wt i.toNat (S.wt i.toNat++[x]) j:=hy;by_cases e:j=i.toNat
  ·rw[e,ap]at hy;rcases qf.mp hy with hy|hy
   ·exact I.wt _ y hy
   ·rw[qQ.mp hy];exact rm x qj
  ·rw[ai e]at hy;exact I.wt j y hy
 |@take S k x r h hl hs ih=>
  obtain⟨w,⟨I,k0,rs,rm,ll⟩,c⟩:=ih;obtain⟨⟨loc,L⟩,cp⟩:=h.gd okC n60 g0;have hx:=L.not.2.1;have lt:=jH L rs;have px:=rm x qj;have okx:=okC x hx;have ww:=iK okx.1 hl;obtain⟨e1,e2,e3,e4,e5,e6,e7⟩:=eJ k (ao S (C.prt x)) (bP (C.prt x) C.pace S k x);have el:(aT (C.prt x) C.pace S k x).lg=S.lg++[⟨k,x,true,(ao S (C.prt x)).zip ((ao S (C.prt x)).map (aM S))⟩]:=e3;have z1:((ao S (C.prt x)).zip ((ao S (C.prt x)).map (aM S))).map (·.1)=ao S (C.prt x):=List.map_fst_zip (by rw[q4];exact qc _);have z2:((ao S (C.prt x)).zip ((ao S (C.prt x)).map (aM S))).map (·.2)=(ao S (C.prt x)).map (aM S):=List.map_snd_zip (by rw[q4];exact qc _)
  have sz:∀i,((S.lg.foldl (bL C.prt C.pace) (bX xs)).rows i).length<10000000:=λi=>by
   rw[I.rows];unfold aA;rw[qW];have:=(cp.st i).1;omega
  have ok:OkE C.n C.nl C.ls C.prt (S.lg.foldl (bL C.prt C.pace) (bX xs)) ⟨k,x,true,(ao S (C.prt x)).zip ((ao S (C.prt x)).map (aM S))⟩:=by
   refine⟨k0,hx,Hs.zip (iM okx.2) (lC okx.1) (lI cp hl),sz,?_,λ_=>⟨px,?_,λp hp=>?_,?_⟩,nofun⟩
   ·rcases ll with z|⟨z1,z⟩
    ·exact .inl z
    ·refine .inr ⟨z1,?_⟩;rcases z with z|⟨z2,z3⟩
     ·exact .inl (by rw[z];show(0:Int)<1;decide)
     ·exact .inr ⟨z2,z3 x qj⟩
   ·rw[I.rows,<- iL];exact z1
   ·rw[I.rows]
    have hp':p.2=aM S p.1/\p.1∈ao S (C.prt x):=by
     obtain⟨i,hi,e⟩:=List.mem_iff_getElem.mp hp;rw[<- e,List.getElem_zip,List.getElem_map];exact⟨U,List.getElem_mem _⟩
    have:=List.find?_eq_none.mp hl p.1 hp'.2;rw[hp'.1];unfold aM
    cases hr:aA S p.1.toNat with
    |nil=>rw[hr]at this;exact Q1 U this
    |cons a as=>rfl
   ·show((ao S (C.prt x)).zip ((ao S (C.prt x)).map (aM S))).length=_;rw[List.length_zip,q4,Nat.min_self];exact ww
  rw[el,List.foldl_append];refine⟨w.snoc ok,?_,?_⟩
  ·generalize hW:S.lg.foldl (bL C.prt C.pace) (bX xs)=W at I rm ll;show kX { rows:=dh W.rows ((ao S (C.prt x)).zip ((ao S (C.prt x)).map (aM S))),post:=put W.post x (some ((C.prt x).made (((ao S (C.prt x)).zip ((ao S (C.prt x)).map (aM S))).map (·.2)))),due:=put W.due x (k+1+bM C.pace x (W.tks x)),tks:=put W.tks x (W.tks x+1),l1:=k,l2:=1,l3:=x } (aT (C.prt x) C.pace S k x) (.tak k r);rw[z2];have rn:=mZ nn x (S.tks x);have oth:∀{l:Loc}{ys:List Nat},OnL C.n loc l ys->l≠.rem->∀y∈ys,y≠x:=λh1 h2 y hy z=>L.notin h1 h2 (z▸hy);have eh:(aT (C.prt x) C.pace S k x).held=put S.held x ((C.prt x).made ((ao S (C.prt x)).map (aM S))):=e4
   have fk:=kB (now:=k) (A:=λj y=>put W.post x (some ((C.prt x).made ((ao S (C.prt x)).map (aM S)))) y=some ((aT (C.prt x) C.pace S k x).held y)/\put W.due x (k+1+bM C.pace x (W.tks x)) y<=j) (B:=λy=>put W.post x (some ((C.prt x).made ((ao S (C.prt x)).map (aM S)))) y=some ((aT (C.prt x) C.pace S k x).held y)/\put W.due x (k+1+bM C.pace x (W.tks x)) y<=k) (λy hy=>⟨hy.1,by have:=hy.2;omega⟩) (ao S (C.prt x)) (bP (C.prt x) C.pace S k x) (by
    refine kO (t:=k+1+bM C.pace x (S.tks x)) (ps:=[x]) (A:=λj y=>put W.post x (some ((C.prt x).made ((ao S (C.prt x)).map (aM S)))) y=some ((aT (C.prt x) C.pace S k x).held y)/\put W.due x (k+1+bM C.pace x (W.tks x)) y<=j) (λkv hv=>⟨(I.gv kv hv).1,λy hy=>?_⟩) Qz λy hy=>?_
    ·have ne:=oth (L.gv kv hv) nofun y hy
     rw[eh,ai ne,ai ne,ai ne];exact(I.gv kv hv).2 y hy
    ·rw[qQ.mp hy,eh,ap,ap,ap]
     exact⟨U,by rw[I.tks];exact Int.le_refl _⟩) (λi y hy=>by
    have ne:=oth (L.wr i) nofun y hy
    rw[eh,ai ne,ai ne,ai ne]
    exact I.wr i y hy)
   refine⟨⟨?_,?_,λy hy=>?_,λi y hy=>?_,fk.1,fk.2⟩,k0,rs.of_cons,λy hy=>?_,.inr ⟨U,.inr ⟨U,λy hy=>by have:=lt y hy;show(x:Int)<y;omega⟩⟩⟩
   ·show dh W.rows _=λi=>((aT (C.prt x) C.pace S k x).st i).1.drop ((aT (C.prt x) C.pace S k x).st i).2;unfold aT;rw[e1];rw[show(bP (C.prt x) C.pace S k x).st=bu S.st (ao S (C.prt x))from rfl,jF _ ((ao S (C.prt x)).map (aM S)) _ (by rw[q4]),I.rows]
    rfl
   ·show put W.tks x (W.tks x+1)=(aT (C.prt x) C.pace S k x).tks;unfold aT;rw[e5,I.tks]
    rfl
   ·have hy:y∈(aT (C.prt x) C.pace S k x).tr:=hy;unfold aT at hy;rw[e6]at hy;show put W.post x _ y=none;rw[ai (oth L.tr nofun y hy)];exact I.tr y hy
   ·have hy:y∈(aT (C.prt x) C.pace S k x).wt i:=hy;unfold aT at hy;rw[e7]at hy;show put W.post x _ y=none;rw[ai (oth (L.wt i) nofun y hy)];exact I.wt i y hy
   ·show put W.post x _ y=none;rw[ai λz:y=x=>L.not.2.2 (z▸hy)];exact rm y (qi _ hy)
  ·show bF (S.lg++[_])+(aT (C.prt x) C.pace S k x).sp=most;unfold aT;rw[e2];show bF (S.lg++[_])+(S.sp-1)=most;unfold bF at c ⊢;rw[Qp,q9];show _+1+_=_;omega
 |@over S k h ih=>
  obtain⟨w,⟨I,k0,_,_,ll⟩,c⟩:=ih;refine⟨w,⟨k,I,Qz,λj hj=>.inl ?_⟩,c⟩;obtain⟨kv,hv,rfl⟩:=List.mem_map.mp hj;have:=(I.gv kv hv).1;rcases ll with z|z<;>omega
inductive Shp:Nat->PyData->Prop
 |non (n:Nat):Shp n .none
 |int (n:Nat) (i:Int):Shp n (.int i)
 |bl (n:Nat) (b:Bool):Shp n (.bool b)
 |str (n:Nat) {s:Str}:PyData.strOk s=true->Shp n (.str s)
 |lst {n:Nat}{ds:List PyData}:(∀d∈ds,Shp n d)->Shp (n+1) (.list ds)
 |tup {n:Nat}{ds:List PyData}:(∀d∈ds,Shp n d)->Shp (n+1) (.tuple ds)
theorem Shp.up{n:Nat}{d:PyData}(h:Shp n d):Shp (n+1) d:=by
 induction h with
 |non n=>exact .non _
 |int n i=>exact .int _ _
 |bl n b=>exact .bl _ _
 |str n h=>exact .str _ h
 |lst _ ih=>exact .lst ih
 |tup _ ih=>exact .tup ih
theorem kg:∀{ds:List PyData},(∀d∈ds,PyData.canLay0 d=true)->PyData.canLayAll0 ds=true
 |[],_=>by simp[PyData.canLayAll0]
 |d::ds,h=>by simp[PyData.canLayAll0,h d qj,kg λe he=>h e (qi _ he)]
theorem kF{n:Nat}:∀{ds:List PyData},(∀d∈ds,PyData.depth d<=n)->PyData.depthAll ds<=n
 |[],_=>by simp[PyData.depthAll]
 |d::ds,h=>by
  have h1:=h d qj;have h2:=kF (ds:=ds) λe he=>h e (qi _ he);simp[PyData.depthAll];omega
theorem Shp.lay{n:Nat}{d:PyData}(h:Shp n d):PyData.canLay0 d=true/\PyData.depth d<=n+1:=by
 induction h with
 |non n=>exact⟨by simp[PyData.canLay0],by simp[PyData.depth]⟩
 |int n i=>exact⟨by simp[PyData.canLay0],by simp[PyData.depth]⟩
 |bl n b=>exact⟨by simp[PyData.canLay0],by simp[PyData.depth]⟩
 |str n h=>exact⟨by simp[PyData.canLay0,h],by simp[PyData.depth]⟩
 |lst h ih=>
  have h1:=kg λd hd=>(ih d hd).1;have h2:=kF λd hd=>(ih d hd).2;exact⟨by simp[PyData.canLay0,h1],by simp[PyData.depth];omega⟩
 |tup h ih=>
  have h1:=kg λd hd=>(ih d hd).1;have h2:=kF λd hd=>(ih d hd).2;exact⟨by simp[PyData.canLay0,h1],by simp[PyData.depth];omega⟩
theorem Shp.shaped{n:Nat}{d:PyData}(h:Shp n d)(le:n<=9):SeqAt.shaped d=true:=by
 obtain⟨h1,h2⟩:=h.lay;unfold SeqAt.shaped;simp[h1];omega
theorem iC{n:Nat}{d:PyData}(h:Shp n d)(le:n<=9):PyData.eqv d d=true:=SeqAt.eqv_refl _ (SeqAt.canLay_of_shaped (h.shaped le))
theorem d8{K:W.Frag}{H:Hp}:∀xs:List Int,cD K H (xs.map V.int) (xs.map PyData.int)
 |[]=>.nil
 |x::r=>.cons (.int x) (d8 r)
theorem gL{n:Nat}(xs:List Int):∀d∈xs.map PyData.int,Shp n d:=λd hd=>by
 obtain⟨x,_,rfl⟩:=List.mem_map.mp hd;exact .int _ _
theorem RIs.dt{K:W.Frag}{H:Hp}:∀{vs:List V}{xss:List (List Int)},RIs H vs xss->cD K H vs (xss.map λxs=>.list (xs.map PyData.int))
 |_,_,.nil=>.nil
 |_,_,.cons h r=>.cons (.lst (SqL.of h) (d8 _)) (RIs.dt r)
theorem t5(xss:List (List Int)):Shp 2 (.list (xss.map λxs=>.list (xs.map PyData.int))):=.lst λd hd=>by
 obtain⟨xs,_,rfl⟩:=List.mem_map.mp hd;exact .lst (gL xs)
theorem RLn.dt{K:W.Frag}{H:Hp}:∀{vs:List V}{xs:List Ln},RLn H vs xs->∃ds,cD K H vs ds/\∀d∈ds,Shp 2 d
 |_,_,.nil=>⟨[],.nil,λ_ h=>(nomatch h)⟩
 |_,_,.cons (x:=x) a b r=>by
  obtain⟨ds,h1,h2⟩:=RLn.dt (K:=K) r
  have hl:∃d,Dt K H (bg x.1) d/\Shp 1 d:=by
   cases x.1 with
   |none=>exact⟨_,.non,.non _⟩
   |some n=>exact⟨_,.int n,.int _ _⟩
  obtain⟨d,hd,sd⟩:=hl;refine⟨_,.cons (.tup (SqT.of a) (.cons hd (.cons (.tup (SqT.of b) (d8 _)) .nil))) h1,λe he=>?_⟩;rcases qr.mp he with rfl|he
  ·refine .tup λe he=>?_;rcases qr.mp he with rfl|he
   ·exact sd
   ·rw[qQ.mp he];exact .tup (gL _)
  ·exact h2 e he
def PR.sgOk:PR->Prop
 |.work _ _ sg _ _=>PyData.strOk sg=true
 |_=>True
theorem RS.dt{K:W.Frag}{H:Hp}{v:V}{s:Sd}(h:RS H v s):∃d,Dt K H v d/\Shp 1 d:=by
 cases h with
 |num a=>exact⟨_,.tup (SqT.of a) (.cons (.str _) (.cons (.int _) .nil)),.tup λe he=>by
  rcases qr.mp he with rfl|he
  ·exact .str _ Qx
  ·rw[qQ.mp he];exact .int _ _⟩
 |thing a=>exact⟨_,.tup (SqT.of a) (.cons (.str _) (.cons (.int _) .nil)),.tup λe he=>by
  rcases qr.mp he with rfl|he
  ·exact .str _ Qx
  ·rw[qQ.mp he];exact .int _ _⟩
theorem bG{n:Nat}{d:PyData}{ds:List PyData}(h:Shp n d)(h':∀e∈ds,Shp n e):∀e∈d::ds,Shp n e:=λe he=>by
 rcases qr.mp he with rfl|he
 ·exact h
 ·exact h' e he
theorem eU{n:Nat}:∀e∈([]:List PyData),Shp n e:=λ_ h=>(nomatch h)
theorem RR.dt{K:W.Frag}{H:Hp}{v:V}{r:PR}(h:RR H v r)(sg:r.sgOk):∃d,Dt K H v d/\Shp 2 d:=by
 have tp:∀{t:Addr}{xs:List Int},H t=some (.tup (xs.map V.int))->Dt K H (.ref t) (.tuple (xs.map PyData.int)):=λh=>.tup (SqT.of h) (d8 _);have ts:∀xs:List Int,Shp 1 (.tuple (xs.map PyData.int)):=λxs=>.tup (gL xs)
 cases h with
 |pass a b c d=>exact⟨_,.tup (SqT.of a) (.cons (.str _) (.cons (tp b) (.cons (tp c) (.cons (tp d) .nil)))),.tup (bG (.str _ Qx) (bG (ts _) (bG (ts _) (bG (ts _) eU))))⟩
 |work a b c d=>
  obtain⟨d1,h1,s1⟩:=c.dt (K:=K);obtain⟨d2,h2,s2⟩:=d.dt (K:=K);exact⟨_,.tup (SqT.of a) (.cons (.str _) (.cons (tp b) (.cons (.int _) (.cons (.str _) (.cons h1 (.cons h2 .nil)))))),.tup (bG (.str _ Qx) (bG (ts _) (bG (.int _ _) (bG (.str _ sg) (bG s1 (bG s2 eU))))))⟩
 |choose a b c d=>exact⟨_,.tup (SqT.of a) (.cons (.str _) (.cons (tp b) (.cons (.int _) (.cons (tp c) (.cons (tp d) (.cons (.int _) .nil)))))),.tup (bG (.str _ Qx) (bG (ts _) (bG (.int _ _) (bG (ts _) (bG (ts _) (bG (.int _ _) eU))))))⟩
 |merge a b c d=>exact⟨_,.tup (SqT.of a) (.cons (.str _) (.cons (.int _) (.cons (tp b) (.cons (tp c) (.cons (tp d) .nil))))),.tup (bG (.str _ Qx) (bG (.int _ _) (bG (ts _) (bG (ts _) (bG (ts _) eU)))))⟩
theorem RRs.dt{K:W.Frag}{H:Hp}:∀{vs:List V}{rs:List PR},RRs H vs rs->(∀r∈rs,r.sgOk)->∃ds,cD K H vs ds/\∀d∈ds,Shp 2 d
 |_,_,.nil,_=>⟨[],.nil,eU⟩
 |_,_,.cons a r,h=>by
  obtain⟨d,h1,h2⟩:=a.dt (K:=K) (h _ qj);obtain⟨ds,h3,h4⟩:=RRs.dt (K:=K) r λr hr=>h r (qi _ hr);exact⟨_,.cons h1 h3,bG h2 h4⟩
def dmW(nl n:Nat):Rl->Prop
 |.ql i=>i<nl
 |.wt x=>x<n
 |_=>False
def cnW(W:WS)(hv:Nat->V):Rl->HO
 |.ql i=>.lst ((W.rows i).map V.int)
 |.wt x=>.lst [hv x,.int (W.due x),.int (W.tks x)]
 |_=>.lst []
def yV(H:Hp)(v:V):Option (List (Int×Int))->Prop
 |none=>v=.non
 |some ps=>∃l us,v=.ref l/\H l=some (.lst us)/\RPs H us ps
structure WH(H0 H:Hp)(nl n:Nat)(lr lp:Addr)(ad:Rl->Addr)(hv:Nat->V)(W:WS):Prop where
 own:aY H0 H (dmW nl n) ad (cnW W hv)
 lr:H0 lr=some (.lst ((List.range nl).map λi=>V.ref (ad (.ql i))))
 lp:H0 lp=some (.lst ((List.range n).map λx=>V.ref (ad (.wt x))))
 hv:∀x,x<n->yV H0 (hv x) (W.post x)
section
variable {H0 H:Hp}{nl n:Nat}{lr lp:Addr}{ad:Rl->Addr}{hv:Nat->V}{W:WS}
end
inductive sQ(vs:List V)(H:Hp)(Q:VK)(E:XK):Prop
 |mk (v:V) (l:Addr) (r:PR) (xs:List Int) (h0_:vs=[v,.ref l]) (h1_:RR H v r) (h2_:r.ok) (h3_:H l=some (.lst (xs.map V.int))) (h4_:xs.length=r.wide) (h5_:(∀x∈xs,OnW x)) (h6_:∀H' l' us,a8 H H'->H' l'=some (.lst us)->RPs H' us (r.made xs)->H l'=none->Q (.ref l') H'):sQ vs H Q E
inductive sw(vs:List V)(H:Hp)(Q:VK)(E:XK):Prop
 |mk (v:V) (r:PR) (lr:Addr) (f:Nat->List Int) (ra:Nat->Addr) (nl:Nat) (h0_:vs=[v,.ref lr]) (h1_:RR H v r) (h2_:r.ok) (h3_:r.fit nl) (h4_:H lr=some (.lst ((List.range nl).map λi=>V.ref (ra i)))) (h5_:(∀i,i<nl->H (ra i)=some (.lst ((f i).map V.int)))) (h6_:∀H' t,a8 H H'->H' t=some (.tup ((cK f r).map V.int))->Q (.ref t) H'):sw vs H Q E
inductive sN(vs:List V)(H:Hp)(Q:VK)(E:XK):Prop
 |mk (v:V) (pace:List (List Int)) (x k:Nat) (h0_:vs=[v,.int x,.int k]) (h1_:RPc H v pace) (h2_:∀H',a8 H H'->Q (.int (bM pace x k)) H'):sN vs H Q E
inductive sO(vs:List V)(H:Hp)(Q:VK)(E:XK):Prop
 |mk (l:Addr) (us:List V) (ps:List (Int×Int)) (nl:Nat) (h0_:vs=[.ref l,.int nl]) (h1_:H l=some (.lst us)) (h2_:RPs H us ps) (h3_:(∀p∈ps,0<=p.1/\p.1<nl/\OnW p.2)) (h4_:Q (.bl true) H):sO vs H Q E
inductive sT(vs:List V)(H:Hp)(Q:VK)(E:XK):Prop
 |mk (e l ll lp:Addr) (us ls ps:List V) (Et:Ent) (h0_:vs=[.ref e,.ref ll,.ref lp]) (h1_:H e=some (.tup [.int Et.now,.int Et.part,.str (if Et.took then "took" else "gave"),.ref l])) (h2_:H l=some (.lst us)) (h3_:RPs H us Et.hs) (h4_:H ll=some (.lst ls)) (h5_:H lp=some (.lst ps)) (h6_:0<=Et.now) (h7_:Et.part<ps.length) (h8_:(∀p∈Et.hs,0<=p.1/\p.1<ls.length/\OnW p.2)) (h9_:∀H',a8 H H'->Q (.bl true) H'):sT vs H Q E
def u9(xs:List Ln)(f:Nat->List Int)(ps:List (Int×Int)):Bool:=ps.all λp=>roomV (bd xs p.1.toNat).1 ((f p.1.toNat).length:Int)
inductive sL(vs:List V)(H:Hp)(Q:VK)(E:XK):Prop
 |mk (ll lr l:Addr) (ls us:List V) (xs:List Ln) (f:Nat->List Int) (ra:Nat->Addr) (ps:List (Int×Int)) (h0_:vs=[.ref ll,.ref lr,.ref l]) (h1_:H ll=some (.lst ls)) (h2_:RLn H ls xs) (h3_:H lr=some (.lst ((List.range xs.length).map λi=>V.ref (ra i)))) (h4_:(∀i,i<xs.length->H (ra i)=some (.lst ((f i).map V.int)))) (h5_:H l=some (.lst us)) (h6_:RPs H us ps) (h7_:(∀p∈ps,0<=p.1/\p.1<xs.length)) (h8_:Q (.bl (u9 xs f ps)) H):sL vs H Q E
structure WG(H0:Hp)(ll lq e:Addr)(v:V)(xs:List Ln)(rs:List PR)(pace:List (List Int))(Et:Ent):Prop where
 e:∃l us,H0 e=some (.tup [.int Et.now,.int Et.part,.str (if Et.took then "took" else "gave"),.ref l])/\H0 l=some (.lst us)/\RPs H0 us Et.hs
 l:∃ls,H0 ll=some (.lst ls)/\RLn H0 ls xs
 q:∃ps,H0 lq=some (.lst ps)/\RRs H0 ps rs
 p:RPc H0 v pace
 ok:∀r∈rs,r.ok/\r.fit xs.length
inductive sH(vs:List V)(H:Hp)(Q:VK)(E:XK):Prop
 |mk (H0:Hp) (ll lq e lr lp:Addr) (v:V) (xs:List Ln) (rs:List PR) (pace:List (List Int)) (Et:Ent) (ad:Rl->Addr) (hv:Nat->V) (W:WS) (h0_:vs=[.ref e,.ref ll,.ref lq,v,.ref lr,.ref lp]) (h1_:WG H0 ll lq e v xs rs pace Et) (h2_:WH H0 H xs.length rs.length lr lp ad hv W) (h3_:Et.took=true) (h4_:OkE rs.length xs.length (λi=>(bd xs i).1) (bf rs) W Et) (h5_:∀H0' H' hv',a8 H0 H0'->WH H0' H' xs.length rs.length lr lp ad hv' (bL (bf rs) pace W Et)->Q (.bl true) H'):sH vs H Q E
inductive sS(vs:List V)(H:Hp)(Q:VK)(E:XK):Prop
 |mk (H0:Hp) (ll lq e lr lp:Addr) (v:V) (xs:List Ln) (rs:List PR) (pace:List (List Int)) (Et:Ent) (ad:Rl->Addr) (hv:Nat->V) (W:WS) (h0_:vs=[.ref e,.ref ll,.ref lr,.ref lp]) (h1_:WG H0 ll lq e v xs rs pace Et) (h2_:WH H0 H xs.length rs.length lr lp ad hv W) (h3_:Et.took=false) (h4_:OkE rs.length xs.length (λi=>(bd xs i).1) (bf rs) W Et) (h5_:∀H0' H' hv',a8 H0 H0'->WH H0' H' xs.length rs.length lr lp ad hv' (bL (bf rs) pace W Et)->Q (.bl true) H'):sS vs H Q E
inductive sx(vs:List V)(H:Hp)(Q:VK)(E:XK):Prop
 |mk (ll lq lg:Addr) (v:V) (us ps lgv:List V) (xs:List Ln) (rs:List PR) (pace:List (List Int)) (es:List Ent) (h0_:vs=[.ref ll,.ref lq,v,.ref lg]) (h1_:H ll=some (.lst us)) (h2_:RLn H us xs) (h3_:H lq=some (.lst ps)) (h4_:RRs H ps rs) (h5_:RPc H v pace) (h6_:H lg=some (.lst lgv)) (h7_:REs H lgv es) (h8_:(∀r∈rs,r.ok/\r.fit xs.length)) (h9_:xs.length<=1000) (h10_:rs.length<60) (h11_:cS rs.length xs.length (λi=>(bd xs i).1) (bf rs) pace (bX xs) es) (h12_:∀H' lr us',a8 H H'->H' lr=some (.lst us')->RIs H' us' ((List.range xs.length).map (es.foldl (bL (bf rs) pace) (bX xs)).rows)->Q (.ref lr) H'):sx vs H Q E
inductive AlI(H:Hp):Nat->V->V->Prop
 |int (n:Nat) (i:Int):AlI H n (.int i) (.int i)
 |lst {n:Nat}{a b:Addr}{xs ys:List V}:H a=some (.lst xs)->H b=some (.lst ys)->xs.length=ys.length->xs.length<=10000000->(∀(i:Nat)(x y:V),xs[i]?=some x->ys[i]?=some y->AlI H n x y)->AlI H (n+1) (.ref a) (.ref b)
inductive sU(n:Nat)(vs:List V)(H:Hp)(Q:VK)(E:XK):Prop
 |mk (x y:V) (m:Nat) (h0_:vs=[x,y]) (h1_:m<n) (h2_:AlI H m x y) (h3_:Q (.bl true) H):sU n vs H Q E
theorem i8(T:Tx P w K mg a):aC P w K mg base CX0 1 a.AV a.AW ["_law_script","_law_k"] (mi K):=by
 refine T.zt.ok tD (λvs H Q E h=>?_) (λcdv A outer s H vs Q E hr h=>?_)
 ·obtain⟨_,_,_,rfl,_⟩:=h
  rfl
 obtain⟨l,ns,k,rfl,hS,k0,q⟩:=h
 refine⟨_,(ac (aX (aF hE (pq 1) (aZ bB U T.ld Q5 (a0 (pq 0) a9)) (aB _)) (af (ar (am aP (pq 0) (pq 1) Oy))) aW)
  (af (ar aa))),?_⟩
 refine⟨_,U,_,U,l,_,U,.inl hS,_,_,U,U,_,U,bJ (λc=>?_) (λc=>?_)⟩
 ·have lt:k.toNat<ns.length:=by
   have:=Qa c;rw[q4]at this;omega
  exact⟨_,U,_,U,l,_,_,_,U,U,hS,gC k0 (by rw[qC,qa lt];rfl),q _⟩
 ·exact q _
theorem gj(T:Tx P w K mg a):aC P w K mg base CX0 1 a.AX a.AY ["_law_cell_here","_law_k"] ma:=by
 refine T.zj.ok mU (λvs H Q E h=>?_) (λcdv A outer s H vs Q E hr h=>?_)
 ·obtain⟨_,_,rfl,_⟩:=h
  rfl
 obtain⟨c,k,rfl,hk,q⟩:=h
 refine⟨_,(ac (aS (i:=2) mU.nd U Oi (ah bD (ah bH (ah cU (ah bD (pq 0) aa) aa) (ah cU (ah bH (ah bH (ah cU (pq 1) (pq 1)) (ah cU aa (pq 1))) aa) aa)) aa))
  (af (ar (ah bD (ah cU (pq 2) (pq 2)) aa)))),?_⟩
 have kb:Builtin.Int.intBits k<=64:=intBits_le_64 Qz Qz;walk_at "rd";refine⟨IntMulOk.of_right (intBits_le_64 Qy Qy),?_⟩;walk_at "rd";refine⟨IntMulOk.of_right kb,?_⟩;walk_at "rd";refine⟨IntMulOk.of_right kb,?_⟩;walk_at "rd";refine⟨IntMulOk.of_right (intBits_le_64 Qy Qy),?_⟩;walk_at "rd";have m0:=Q7 (c % 2147483647 * 48271+(k * k+3 * k+7) * 69621) (show(2147483647:Int)≠0 by decide);have m1:=Qc (c % 2147483647 * 48271+(k * k+3 * k+7) * 69621) (show(0:Int)<2147483647 by decide);generalize (c % 2147483647 * 48271+(k * k+3 * k+7) * 69621) % 2147483647=m at m0 m1 ⊢;refine⟨IntMulOk.of_right (intBits_le_64 Qz Qz),?_⟩;walk_at "rd";exact q _ (Q7 _ Qy) (Qc _ Qy)
theorem nS(T:Tx P w K mg a):aC P w K mg base CX0 1 a.AZ a.B2 ["_law_cell_here","_law_way"] m8:=by
 refine T.Bq.ok mT (λvs H Q E h=>?_) (λcdv A outer s H vs Q E hr h=>?_)
 ·obtain⟨_,_,rfl,_⟩:=h
  rfl
 obtain⟨c,k,rfl,hk,q⟩:=h
 refine⟨_,(ac (aS (i:=2) mT.nd U Oi (ah bD (pq 0) (ah gm aa aa)))
  (ac (aX (aF ba (ah bD (pq 1) aa) aa (aB _)) (af (ar (ah bD (pq 2) aa))) aW)
  (ac (aX (aF ba (ah bD (pq 1) aa) aa (aB _)) (af (ar (ah cF (ah cF (ah gm aa aa) aa) (ah bD (pq 2) aa)))) aW)
  (ac (aX (aF ba (ah bD (pq 1) aa) aa (aB _)) (af (ar (ah bD (pq 2) (ah gm aa aa)))) aW)
  (af (ar (ah bD (ah cU (ah cU (ah bH (pq 2) aa) (ah bH (ah cU (pq 1) (pq 1)) aa)) aa) (ah gm aa aa)))))))),?_⟩
 walk_at "rd";have m0:=Q7 c (show(10:Int) ^ (60:Int).toNat≠0 by rw[p60];decide);have m1:=Qc c (show(0:Int)<(10:Int) ^ (60:Int).toNat by rw[p60];decide);generalize c % (10:Int) ^ (60:Int).toNat=m at m0 m1 ⊢;rw[p60]at m1;refine bJ (λ_=>?_) (λ_=>?_)
 ·walk_at "rd";exact q _ ⟨Qz,Qz⟩
 walk_at "rd";refine bJ (λ_=>?_) (λ_=>?_)
 ·walk_at "rd";rw[p30];exact q _ ⟨Qz,Qz⟩
 walk_at "rd";refine bJ (λ_=>?_) (λ_=>?_)
 ·walk_at "rd";rw[p30];exact q _ ⟨Qz,Qz⟩
 walk_at "rd";refine⟨IntMulOk.of_right (intBits_le_64 Qz Qz),?_⟩;have k2:0<=k * k:=Int.mul_nonneg hk.1 hk.1;have k3:k * k<=2147483647 * 2147483647:=Int.mul_le_mul hk.2 hk.2 hk.1 Qy;generalize k * k=y at k2 k3;walk_at "rd";have b1:Builtin.Int.intBits (m+1)<=2 ^ 20:=qw ((PySem.intBits_le_iff (m:=250)).mpr Qz) Qy;have b2:Builtin.Int.intBits (y+11)<=2 ^ 20:=qw ((PySem.intBits_le_iff (m:=250)).mpr Qz) Qy;refine⟨IntMulOk.of_bits b1 b2,?_⟩;have y2:0<=(m+1) * (y+11):=Int.mul_nonneg Qz Qz;have y3:(m+1) * (y+11)<=1000000000000000000000000000000000000000000000000000000000000 * 5000000000000000000:=Int.mul_le_mul Qz Qz Qz Qy;generalize (m+1) * (y+11)=z at y2 y3 ⊢;walk_at "rd";refine⟨IntMulOk.of_bits (qw ((PySem.intBits_le_iff (m:=400)).mpr Qz) Qy) Qx,?_⟩;walk_at "rd";rw[p30];exact q _ ⟨Q7 _ Qy,Qc _ Qy⟩
theorem ye(xs:List Int)(lo hi:Option Int):∃ys:List Int,bT (xs.map V.int) lo hi=ys.map V.int/\(∀y∈ys,y∈xs)/\ys.length<=xs.length:=by
 unfold bT;rw[<- List.map_drop,<- List.map_take];refine⟨_,U,λy hy=>List.mem_of_mem_drop (List.mem_of_mem_take hy),?_⟩;rw[qI,qW];omega
theorem yg(xs:List Int){n:Int}(h0:0<=n)(h1:n<=xs.length):bT (xs.map V.int) none (some n)=(xs.take n.toNat).map V.int:=by
 unfold bT;have e1:HT.sIx (xs.map V.int).length 0 none=0:=U
 have e2:HT.sIx (xs.map V.int).length (xs.map V.int).length (some n)=n.toNat:=by
  have:=HT.sIx_nat (xs.map V.int).length (xs.map V.int).length n.toNat;rw[Int.toNat_of_nonneg h0]at this;rw[this,q4];omega
 rw[e1,e2,List.drop_zero,Nat.sub_zero,List.map_take]
theorem fJ{A' B':TS}{D:dc}{σ:St}{H:Hp}(Pv:St->Hp->Prop)(hb:∀σ' H',Pv σ' H'->B' D σ' H')(ha:∀N:St->Hp->Prop,(∀σ' H',Pv σ' H'->N σ' H')->A' { D with nx:=N } σ H):gH A' B' D σ H:=ha _ hb
theorem RRs.snoc{H:Hp}{v:V}{r:PR}(h:RR H v r):∀{vs:List V}{rs:List PR},RRs H vs rs->RRs H (vs++[v]) (rs++[r])
 |_,_,.nil=>.cons h .nil
 |_,_,.cons a b=>.cons a (RRs.snoc h b)
def di:PR->List Int
 |.pass ins _ _=>ins
 |.work ins _ _ _ _=>ins
 |.choose ins _ _ _ _=>ins
 |.merge t o n _=>o++n++[t]
def k7:PR->List Int
 |.pass _ outs _=>outs
 |.work _ out _ _ _=>[out]
 |.choose _ _ o n t=>o++n++[t]
 |.merge _ _ _ outs=>outs
theorem REs.at{H:Hp}:∀{vs:List V}{es:List Ent},REs H vs es->∀{i:Nat}{v:V},vs[i]?=some v->∃p l us e,v=.ref p/\es[i]?=some e/\H p=some (.tup [.int e.now,.int e.part,.str (if e.took then "took" else "gave"),.ref l])/\H l=some (.lst us)/\RPs H us e.hs
 |_,_,.nil,i,v,h=>by simp at h
 |_,_,.cons (p:=p) (l:=l) (us:=us) (e:=e) a b c r,0,v,h=>by cases h;exact⟨p,l,us,e,U,U,a,b,c⟩
 |_,_,.cons a b c r,i+1,v,h=>REs.at r (by simpa using h)
def yR(ls:Nat->Option Int)(W:WS)(hs:List (Int×Int)):Prop:=∀p∈hs,roomV (ls p.1.toNat) ((W.rows p.1.toNat).length:Int)=true
def l6(n:Nat)(ls:Nat->Option Int)(W:WS)(t:Int):Prop:=∃x,x<n/\∃hs,W.post x=some hs/\W.due x<=t/\yR ls W hs
def iH(prt:Nat->PR)(W:WS)(x:Nat):Prop:=W.post x=none/\∀l∈cK W.rows (prt x),W.rows l.toNat≠[]
def bN(es:List Ent):Int:=es.foldl (λ_ e=>e.now) (-1)
theorem io{es:List Ent}{e:Ent}:bN (es++[e])=e.now:=by unfold bN;rw[List.foldl_append];rfl
theorem kA:∀(ps:List (Int×Int))(f:Nat->List Int)(j:Nat),∃s,cJ f ps j=f j++s
 |[],f,j=>⟨[],(qv _).symm⟩
 |p::ps,f,j=>by
  obtain⟨s,e⟩:=kA ps (put f p.1.toNat (f p.1.toNat++[p.2])) j;show ∃s,cJ (put f p.1.toNat (f p.1.toNat++[p.2])) ps j=f j++s;by_cases c:j=p.1.toNat
  ·rw[e,c,ap,qL];exact⟨_,U⟩
  ·rw[e,ai c];exact⟨_,U⟩
theorem kz:∀{ps:List (Int×Int)}{f:Nat->List Int}{j:Nat},j∉ps.map (λp=>p.1.toNat)->cJ f ps j=f j
 |[],_,_,_=>rfl
 |p::ps,f,j,h=>by
  show cJ (put f p.1.toNat _) ps j=_;rw[kz λz=>h (qi _ z),ai λz=>h (by rw[z];exact qj)]
theorem jU:∀{ps:List (Int×Int)}{f:Nat->List Int}{j:Nat},j∉ps.map (λp=>p.1.toNat)->dh f ps j=f j
 |[],_,_,_=>rfl
 |p::ps,f,j,h=>by
  show dh (put f p.1.toNat _) ps j=_;rw[jU λz=>h (qi _ z),ai λz=>h (by rw[z];exact qj)]
theorem lB{f:Nat->List Int}:∀{r:PR}{l:Int},l∈cK f r->l∈di r
 |.pass ..,_,h=>h
 |.work ..,_,h=>h
 |.choose ..,_,h=>h
 |.merge t o n _,l,h=>by
  have h:l∈(match f t.toNat with|[]=>[t]|x::_=>t::(if x=0 then n else o)):=h;show l∈o++n++[t]
  cases e:f t.toNat with
  |nil=>rw[e]at h;exact qG _ h
  |cons x _=>
   rw[e]at h;rcases qr.mp h with rfl|h
   ·exact qG _ (qQ.mpr U)
   ·refine qT _ ?_;split at h
    ·exact qG _ h
    ·exact qT _ h
theorem re{f:Nat->List Int}{ps:List (Int×Int)}:∀{r:PR}{l:Int},l∈cK f r->l.toNat∉ps.map (λp=>p.1.toNat)->f l.toNat=[]->l∈cK (cJ f ps) r
 |.pass ..,_,h,_,_=>h
 |.work ..,_,h,_,_=>h
 |.choose ..,_,h,_,_=>h
 |.merge t o n _,l,h,off,em=>by
  have h:l∈(match f t.toNat with|[]=>[t]|x::_=>t::(if x=0 then n else o)):=h;show l∈(match cJ f ps t.toNat with|[]=>[t]|x::_=>t::(if x=0 then n else o))
  cases e:f t.toNat with
  |nil=>
   rw[e]at h;have:=qQ.mp h;subst this;rw[kz off,em];exact qQ.mpr U
  |cons x xs=>
   rw[e]at h;obtain⟨s,es⟩:=kA ps f t.toNat;rw[es,e];exact h
theorem rb{f f':Nat->List Int}:∀{r:PR},(∀l∈di r,f' l.toNat=f l.toNat)->cK f' r=cK f r
 |.pass ..,_=>rfl
 |.work ..,_=>rfl
 |.choose ..,_=>rfl
 |.merge t o n _,h=>by
  show(match f' t.toNat with|[]=>[t]|x::_=>t::(if x=0 then n else o))=(match f t.toNat with|[]=>[t]|x::_=>t::(if x=0 then n else o));rw[h t (qG _ (qQ.mpr U))]
theorem oy:∀(ps:List (Int×Int))(S:PlS),(∀x∈S.tr,x∈(ps.foldl ak S).tr)/\(∀i,∀x∈S.wt i,x∈(ps.foldl ak S).tr\/x∈(ps.foldl ak S).wt i)/\∀i,∀x∈(ps.foldl ak S).wt i,x∈S.wt i/\i∉ps.map (λp=>p.1.toNat)
 |[],_=>⟨λ_ h=>h,λ_ _ h=>.inr h,λ_ _ h=>⟨h,λz=>(nomatch z)⟩⟩
 |p::ps,S=>by
  obtain⟨h1,h2,h3⟩:=oy ps (ak S p);refine⟨λx hx=>h1 x (qT _ hx),λi x hx=>?_,λi x hx=>?_⟩
  ·by_cases e:i=p.1.toNat
   ·exact .inl (h1 x (qG _ (e▸hx)))
   ·exact h2 i x (by show x∈put S.wt p.1.toNat [] i;rw[ai e];exact hx)
  ·obtain⟨a,b⟩:=h3 i x hx;have a:x∈put S.wt p.1.toNat [] i:=a;by_cases e:i=p.1.toNat
   ·rw[e,ap]at a;cases a
   ·rw[ai e]at a;exact⟨a,λz=>(qr.mp z).elim e b⟩
theorem iF{g:Gv}{t:Int}{ps:List Nat}{x:Nat}:((∃kv∈g,x∈kv.2)->∃kv∈bc g t ps,x∈kv.2)/\(x∈ps->∃kv∈bc g t ps,x∈kv.2):=by
 unfold bc;by_cases e:ps=[]
 ·rw[qY e];exact⟨id,λh=>by rw[e]at h;cases h⟩
 rw[qX e];by_cases m:t∈aG g
 ·rw[qY m];refine⟨λ⟨kv,hk,hx⟩=>⟨_,List.mem_map.mpr ⟨kv,hk,U⟩,?_⟩,λhx=>?_⟩
  ·split
   ·exact qT _ hx
   ·exact hx
  ·obtain⟨kv,hk,ek⟩:=List.mem_map.mp m;exact⟨_,List.mem_map.mpr ⟨kv,hk,U⟩,by rw[qY ek];exact qG _ hx⟩
 ·rw[qX m];exact⟨λ⟨kv,hk,hx⟩=>⟨kv,qT _ hk,hx⟩,λhx=>⟨_,qG _ (qQ.mpr U),hx⟩⟩
theorem oK(now:Int):∀(ws:List Int)(S:PlS)(x:Nat),((∃kv∈S.gv,x∈kv.2)->∃kv∈(ws.foldl (be now) S).gv,x∈kv.2)/\(∀i,x∈S.wr i->(∃kv∈(ws.foldl (be now) S).gv,x∈kv.2)\/x∈(ws.foldl (be now) S).wr i)/\∀i,x∈(ws.foldl (be now) S).wr i->x∈S.wr i/\i∉ws.map Int.toNat
 |[],_,_=>⟨id,λ_ h=>.inr h,λ_ h=>⟨h,λz=>(nomatch z)⟩⟩
 |w::ws,S,x=>by
  obtain⟨h1,h2,h3⟩:=oK now ws (be now S w) x;refine⟨λh=>h1 (iF.1 h),λi hx=>?_,λi hx=>?_⟩
  ·by_cases e:i=w.toNat
   ·exact .inl (h1 (iF.2 (e▸hx)))
   ·exact h2 i (by show x∈put S.wr w.toNat [] i;rw[ai e];exact hx)
  ·obtain⟨a,b⟩:=h3 i hx;have a:x∈put S.wr w.toNat [] i:=a;by_cases e:i=w.toNat
   ·rw[e,ap]at a;cases a
   ·rw[ai e]at a;exact⟨a,λz=>(qr.mp z).elim e b⟩
structure Cmp(C:PlC)(W:WS)(S:PlS)(no so:List Nat):Prop where
 no:∀x,x<C.n->W.post x=none->x∈S.tr\/(∃i,x∈S.wt i)\/x∈no
 so:∀x,x<C.n->∀hs,W.post x=some hs->(∃kv∈S.gv,x∈kv.2)\/(∃i,x∈S.wr i)\/x∈so
 full:∀i,∀x∈S.wr i,∃p∈S.held x,p.1.toNat=i/\roomV (C.ls i) ((aA S i).length:Int)=false
 lack:∀i,∀x∈S.wt i,∃l∈cK (aA S) (C.prt x),l.toNat=i/\aA S i=[]
theorem wW{L:Option Int}{a b:Int}(h:roomV L a=false)(le:a<=b):roomV L b=false:=by
 cases L with
 |none=>cases h
 |some m=>
  have h:decide (a<m)=false:=h;show decide (b<m)=false;have:=of_decide_eq_false h;exact Q0 Qz
def aR(C:PlC)(xs:List Ln)(es:List Ent):WS:=es.foldl (bL C.prt C.pace) (bX xs)
theorem oS{C:PlC}{xs:List Ln}{es:List Ent}{e:Ent}:aR C xs (es++[e])=bL C.prt C.pace (aR C xs es) e:=by unfold aR;rw[List.foldl_append];rfl
def kW(C:PlC)(W:WS)(last k:Int):Prop:=last+1<k->¬ l6 C.n C.ls W (k-1)/\∀x,x<C.n->¬ iH C.prt W x
structure Grp(C:PlC)(xs:List Ln)(es:List Ent)(k:Int)(gvs tks:List Ent):Prop where
 g:∀e∈gvs,e.now=k/\e.took=false
 t:∀e∈tks,e.now=k/\e.took=true
 last:bN es<k
 start:gvs++tks≠[]->kW C (aR C xs es) (bN es) k
 glad:¬ l6 C.n C.ls (aR C xs (es++gvs)) k
structure pP(C:PlC)(xs:List Ln)(es g:List Ent):Prop where
 ex:∃k gvs tks,g=gvs++tks/\Grp C xs es k gvs tks
 ne:g≠[]
def fA(C:PlC)(xs:List Ln)(Gs:List (List Ent)):Prop:=∀gs g rest,Gs=gs++g::rest->pP C xs gs.flatten g/\∀x,x<C.n->¬ iH C.prt (aR C xs (gs.flatten++g)) x
theorem fA.snoc{C:PlC}{xs:List Ln}{Gs:List (List Ent)}{g:List Ent}(h:fA C xs Gs)(h1:pP C xs Gs.flatten g)(h2:∀x,x<C.n->¬ iH C.prt (aR C xs (Gs.flatten++g)) x):fA C xs (Gs++[g]):=λgs g' rest e=>by
 rcases List.eq_nil_or_concat rest with rfl|⟨r0,l0,rfl⟩
 ·have e:Gs++[g]=gs++[g']:=e;have e1:=List.append_inj' e U;obtain rfl:=e1.1;cases e1.2;exact⟨h1,h2⟩
 ·have e:Gs++[g]=(gs++g'::r0)++[l0]:=by rw[e];simp
  have e1:=List.append_inj' e U;exact h gs g' r0 e1.1
def NbP(C:PlC)(xs:List Ln)(S:PlS):Ph->Prop
 |.top=>(∃Gs,S.lg=Gs.flatten/\fA C xs Gs)/\Cmp C (aR C xs S.lg) S [] []/\(S.tr=[]\/(S.lg=[]/\S.gv=[(0,[])]))/\(∀k∈aG S.gv,bN S.lg<k)/\∀kv∈S.gv,∀x∈kv.2,(aR C xs S.lg).due x=kv.1\/kv.1=bN S.lg+1
 |.giv k r=>(∃Gs gvs,S.lg=Gs.flatten++gvs/\fA C xs Gs/\(∀e∈gvs,e.now=k/\e.took=false)/\bN Gs.flatten<k/\(gvs≠[]->kW C (aR C xs Gs.flatten) (bN Gs.flatten) k))/\Cmp C (aR C xs S.lg) S [] r/\(S.tr=[]\/bN S.lg=k\/(k=0/\bN S.lg=-1))/\(bN S.lg+1<k->∀x∈r,(aR C xs S.lg).due x=k)/\(∀kv∈S.gv,∀x∈kv.2,(aR C xs S.lg).due x=kv.1)/\bN S.lg<=k
 |.tak k r=>(∃Gs gvs tks,S.lg=Gs.flatten++(gvs++tks)/\fA C xs Gs/\Grp C xs Gs.flatten k gvs tks/\∀e∈tks,∀y∈r,e.part<y)/\Cmp C (aR C xs S.lg) S r []/\S.tr=[]/\(r=[]\/bN S.lg=k\/(k=0/\bN S.lg=-1))/\(∀kv∈S.gv,∀x∈kv.2,(aR C xs S.lg).due x=kv.1\/(kv.1=k+1/\bN S.lg=k))/\bN S.lg<=k
theorem Cmp.notReady{C:PlC}{W:WS}{S:PlS}{no so:List Nat}(c:Cmp C W S no so)(er:W.rows=aA S)(tr:S.tr=[]){x:Nat}(hx:x<C.n)(h:iH C.prt W x):x∈no:=by
 rcases c.no x hx h.1 with m|⟨i,m⟩|m
 ·rw[tr]at m;cases m
 ·obtain⟨l,hl,e,em⟩:=c.lack i x m;exact Q1 (by rw[er,e];exact em) (h.2 l (by rw[er];exact hl))
 ·exact m
theorem Cmp.notGlad{C:PlC}{W:WS}{S:PlS}{no so:List Nat}(c:Cmp C W S no so)(er:W.rows=aA S)(hw:∀i,∀x∈S.wr i,W.post x=some (S.held x)){t:Int}(hg:∀kv∈S.gv,∀x∈kv.2,t<W.due x)(hs:∀x∈so,t<W.due x):¬ l6 C.n C.ls W t:=by
 rintro⟨x,hx,hs',hp,hd,ro⟩;rcases c.so x hx hs' hp with⟨kv,hk,m⟩|⟨i,m⟩|m
 ·have:=hg kv hk x m;omega
 ·obtain⟨p,hp',e,fu⟩:=c.full i x m;have e2:=hw i x m;rw[hp]at e2;cases e2;have:=ro p hp';rw[er,e]at this;rw[this]at fu;cases fu
 ·have:=hs x m;omega
theorem bi.nob{C:PlC}(okC:∀x,x<C.n->(C.prt x).ok/\(C.prt x).fit C.nl)(n60:C.n<60)(nn:∀r∈C.pace,∀x∈r,0<=x)(dj:∀x y,x<C.n->y<C.n->x≠y->∀l∈di (C.prt x),∀l'∈di (C.prt y),l.toNat≠l'.toNat){xs:List Ln}{most:Nat}(g0:Gd C (bE (bY xs C.n most)+20) [] (bY xs C.n most)){ph:Ph}{S:PlS}(h:bi C.ls C.prt C.pace (bY xs C.n most) ph S):NbP C xs S ph:=by
 induction h with
 |base=>
  refine⟨⟨[],U,λgs g rest e=>by simp at e⟩,⟨λx hx _=>.inl (List.mem_range.mpr hx),λx _ hs h=>(by cases h),λ_ _ h=>(nomatch h),λ_ _ h=>(nomatch h)⟩,.inr ⟨U,U⟩,λk hk=>?_,λkv hk x hx=>?_⟩
  ·rw[qQ.mp hk];show(-1:Int)<0;decide
  ·rw[qQ.mp hk]at hx;cases hx
 |@turn S k r h hk p rs ih=>
  obtain⟨⟨Gs,eg,cl⟩,c,tr,lk,du⟩:=ih;obtain⟨_,⟨now,I,_,_⟩,_⟩:=h.sim okC n60 nn g0;have lt:=lk k hk.1;have fk:=ff hk.1;refine⟨⟨Gs,[],by rw[qv];exact eg,cl,λ_ h=>(nomatch h),by rw[<- eg];exact lt,λz=>Q1 U z⟩,⟨c.no,λx hx hs hp=>?_,c.full,c.lack⟩,?_,λl1 x hx=>?_,λkv hv x hx=>?_,(by show bN S.lg<=k;omega)⟩
  ·rcases c.so x hx hs hp with⟨kv,hv,m⟩|m|m
   ·by_cases e:kv.1=k
    ·refine .inr (.inr (p.mem_iff.mpr ?_))
     have:kv.2=atG S.gv k:=by
      have gk:(aG S.gv).Nodup:=(h.gd okC n60 g0).loc.elim λ_ L=>L.gk;rw[<- e];clear hk p lt fk
      have go:∀g:Gv,(aG g).Nodup->kv∈g->kv.2=atG g kv.1:=λg=>by
       induction g with
       |nil=>exact λ_ m=>(nomatch m)
       |cons a g ih=>
        intro nd m;have nd:a.1∉aG g/\(aG g).Nodup:=List.nodup_cons.mp nd;rw[show a::g=(a.1,a.2)::g from rfl,cz];rcases qr.mp m with rfl|m
        ·rw[qY U]
        ·rw[qX λz=>nd.1 (by rw[z];exact List.mem_map.mpr ⟨kv,m,U⟩)];exact ih nd.2 m
      exact go _ gk hv
     rw[<- this];exact m
    ·exact .inl ⟨kv,List.mem_filter.mpr ⟨hv,qZ e⟩,m⟩
   ·exact .inr (.inl m)
   ·cases m
  ·rcases tr with t|⟨t1,t2⟩
   ·exact .inl t
   ·refine .inr (.inr ⟨?_,by show bN S.lg=-1;rw[t1];rfl⟩);have:=hk.1;rw[t2]at this;exact qQ.mp this
  ·rcases du _ fk x (p.mem_iff.mp hx)with z|z
   ·exact z
   ·have z:k=bN S.lg+1:=z;have l1:bN S.lg+1<k:=l1;omega
  ·have hv:=List.mem_filter.mp hv;have ne:kv.1≠k:=Qa hv.2;have le:=hk.2 kv.1 (List.mem_map.mpr ⟨kv,hv.1,U⟩);rcases du kv hv.1 x hx with z|z
   ·exact z
   ·omega
 |@give S k x r h ih=>
  obtain⟨⟨Gs,gvs,eg,cl,hg,lg,st⟩,c,tr,rd,du,lk⟩:=ih;obtain⟨_,⟨I,k0,rs,rm,_⟩,_⟩:=h.sim okC n60 nn g0;obtain⟨⟨loc,L⟩,cp⟩:=h.gd okC n60 g0;have hx:=L.not.2.1;unfold cg;split
  ·rename_i q hq;have hq':=List.find?_some hq;have hqm:=List.mem_of_find?_eq_some hq;refine⟨⟨Gs,gvs,eg,cl,hg,lg,st⟩,⟨c.no,λy hy hs hp=>?_,λi y hy=>?_,c.lack⟩,tr,λl1 y hy=>rd l1 y (qi _ hy),du,lk⟩
   ·rcases c.so y hy hs hp with m|⟨i,m⟩|m
    ·exact .inl m
    ·refine .inr (.inl ⟨i,?_⟩);show y∈put S.wr q.1.toNat (S.wr q.1.toNat++[x]) i;by_cases e:i=q.1.toNat
     ·rw[e,ap];exact qT _ (e▸m)
     ·rw[ai e];exact m
    ·rcases qr.mp m with rfl|m
     ·refine .inr (.inl ⟨q.1.toNat,?_⟩);show y∈put S.wr q.1.toNat (S.wr q.1.toNat++[y]) q.1.toNat;rw[ap];exact qG _ (qQ.mpr U)
     ·exact .inr (.inr m)
   ·have hy:y∈put S.wr q.1.toNat (S.wr q.1.toNat++[x]) i:=hy;by_cases e:i=q.1.toNat
    ·rw[e,ap]at hy;rcases qf.mp hy with hy|hy
     ·rw[e];exact c.full _ y hy
     ·rw[qQ.mp hy,e];refine⟨q,hqm,U,?_⟩;unfold roomF at hq';have le:=(cp.st q.1.toNat).2
      have e:((aA S q.1.toNat).length:Int)=((S.st q.1.toNat).1.length:Int)-(S.st q.1.toNat).2:=by
       unfold aA;rw[qW];omega
      show roomV (C.ls q.1.toNat) ((aA S q.1.toNat).length:Int)=false;rw[e];simpa using hq'
    ·rw[ai e]at hy;exact c.full i y hy
  ·rename_i hq;obtain⟨e1,e2,e3,e4,e5,e6⟩:=eI (S.held x) S;obtain⟨t1,t2,t3⟩:=oy (S.held x) S;have le:∀i,(S.st i).2<=(S.st i).1.length:=λi=>(cp.st i).2
   have el:(dv S k x).lg=S.lg++[⟨k,x,false,S.held x⟩]:=by
    show((S.held x).foldl ak S).lg++_=_;rw[e3]
   have er:aA (dv S k x)=cJ (aA S) (S.held x):=jG _ le
   have sk:kW C (aR C xs Gs.flatten) (bN Gs.flatten) k:=by
    by_cases ne:gvs=[]
    ·rw[ne,qv]at eg;intro l1;rw[<- eg]at l1 ⊢;refine⟨c.notGlad I.rows (λi y hy=>(I.wr i y hy).1) (λkv hv y hy=>?_) (λy hy=>?_),λy hy hr=>?_⟩
     ·have:=du kv hv y hy;have:=(I.gv kv hv).1;omega
     ·have:=rd l1 y hy;omega
     ·have:=c.notReady I.rows (tr.resolve_right λz=>Qz) hy hr;cases this
    ·exact st ne
   have ew:aR C xs (dv S k x).lg={ aR C xs S.lg with rows:=cJ (aR C xs S.lg).rows (S.held x),post:=put (aR C xs S.lg).post x none,l1:=k,l2:=0,l3:=x }:=by
    rw[el,oS]
    rfl
   refine⟨⟨Gs,gvs++[⟨k,x,false,S.held x⟩],by rw[el,eg,qL],cl,λe he=>?_,lg,λ_=>sk⟩,⟨λy hy hp=>?_,λy hy hs hp=>?_,λi y hy=>?_,λi y hy=>?_⟩,.inr (.inl (by rw[el,io])),λl1=>?_,λkv hv y hy=>?_,by rw[el,io];exact Int.le_refl _⟩
   ·rcases qf.mp he with he|he
    ·exact hg e he
    ·rw[qQ.mp he];exact⟨U,U⟩
   ·rw[ew]at hp;have hp:put (aR C xs S.lg).post x none y=none:=hp;by_cases e:y=x
    ·exact .inl (qG _ (qQ.mpr e))
    ·rw[ai e]at hp;rcases c.no y hy hp with m|⟨i,m⟩|m
     ·exact .inl (qT _ (t1 y m))
     ·rcases t2 i y m with m|m
      ·exact .inl (qT _ m)
      ·exact .inr (.inl ⟨i,m⟩)
     ·cases m
   ·rw[ew]at hp;have hp:put (aR C xs S.lg).post x none y=some hs:=hp;by_cases e:y=x
    ·rw[e,ap]at hp;cases hp
    ·rw[ai e]at hp;rcases c.so y hy hs hp with m|⟨i,m⟩|m
     ·refine .inl ?_;show ∃kv∈((S.held x).foldl ak S).gv,y∈kv.2;rw[e1];exact m
     ·refine .inr (.inl ⟨i,?_⟩);show y∈((S.held x).foldl ak S).wr i;rw[e6];exact m
     ·exact .inr (.inr ((qr.mp m).resolve_left e))
   ·have hy:y∈((S.held x).foldl ak S).wr i:=hy;rw[e6]at hy;obtain⟨p,hp,ep,fu⟩:=c.full i y hy;refine⟨p,?_,ep,?_⟩
    ·show p∈((S.held x).foldl ak S).held y;rw[e4];exact hp
    ·rw[er];obtain⟨s,es⟩:=kA (S.held x) (aA S) i;rw[es];exact wW fu (by rw[q9];omega)
   ·obtain⟨m,off⟩:=t3 i y hy;obtain⟨l,hl,ei,em⟩:=c.lack i y m;refine⟨l,?_,ei,?_⟩
    ·rw[er];exact re hl (by rw[ei];exact off) (by rw[ei];exact em)
    ·rw[er,kz off];exact em
   ·rw[el,io]at l1;have l1:k+1<k:=l1;omega
   ·have hv:kv∈((S.held x).foldl ak S).gv:=hv;rw[e1]at hv;rw[ew];exact du kv hv y hy
 |@half S k r h p rs ih=>
  obtain⟨⟨Gs,gvs,eg,cl,hg,lg,st⟩,c,tr,rd,du,lk⟩:=ih;obtain⟨_,⟨I,k0,_,_,_⟩,_⟩:=h.sim okC n60 nn g0;refine⟨⟨Gs,gvs,[],by rw[qv];exact eg,cl,⟨hg,λ_ h=>(nomatch h),lg,λz=>st (by rw[qv]at z;exact z),?_⟩,λ_ h=>(nomatch h)⟩,⟨λy hy hp=>?_,c.so,c.full,c.lack⟩,U,?_,λkv hv y hy=>.inl (du kv hv y hy),lk⟩
  ·rw[<- eg];exact c.notGlad I.rows (λi y hy=>(I.wr i y hy).1) (λkv hv y hy=>by have:=du kv hv y hy;have:=(I.gv kv hv).1;omega) (λy hy=>(nomatch hy))
  ·rcases c.no y hy hp with m|m|m
   ·exact .inr (.inr (p.mem_iff.mpr m))
   ·exact .inr (.inl m)
   ·cases m
  ·rcases tr with t|t
   ·rw[t]at p;exact .inl p.eq_nil
   ·exact .inr t
 |@wait S k i x r h hl ih=>
  obtain⟨⟨Gs,gvs,tks,eg,cl,gr,pr⟩,c,tr,rd,du,lk⟩:=ih;obtain⟨_,⟨I,k0,_,_,_⟩,_⟩:=h.sim okC n60 nn g0;refine⟨⟨Gs,gvs,tks,eg,cl,gr,λe he y hy=>pr e he y (qi _ hy)⟩,⟨λy hy hp=>?_,c.so,c.full,λj y hy=>?_⟩,tr,rd.imp (λz=>by cases z) id,du,lk⟩
  ·rcases c.no y hy hp with m|⟨j,m⟩|m
   ·exact .inl m
   ·refine .inr (.inl ⟨j,?_⟩);show y∈put S.wt i.toNat (S.wt i.toNat++[x]) j;by_cases e:j=i.toNat
    ·rw[e,ap];exact qT _ (e▸m)
    ·rw[ai e];exact m
   ·rcases qr.mp m with rfl|m
    ·refine .inr (.inl ⟨i.toNat,?_⟩);show y∈put S.wt i.toNat (S.wt i.toNat++[y]) i.toNat;rw[ap];exact qG _ (qQ.mpr U)
    ·exact .inr (.inr m)
  ·have hy:y∈put S.wt i.toNat (S.wt i.toNat++[x]) j:=hy;by_cases e:j=i.toNat
   ·rw[e,ap]at hy;rcases qf.mp hy with hy|hy
    ·rw[e];exact c.lack _ y hy
    ·rw[qQ.mp hy,e];refine⟨i,?_,U,?_⟩
     ·rw[show aA (fF S i.toNat x)=aA S from rfl,<- iL];exact List.mem_of_find?_eq_some hl
     ·exact List.isEmpty_iff.mp (List.find?_some (p:=λi:Int=>(aA S i.toNat).isEmpty) hl)
   ·rw[ai e]at hy;exact c.lack j y hy
 |@take S k x r h hl hs ih=>
  obtain⟨⟨Gs,gvs,tks,eg,cl,gr,pr⟩,c,tr,rd,du,lk⟩:=ih;obtain⟨_,⟨I,k0,rs,rm,_⟩,_⟩:=h.sim okC n60 nn g0;obtain⟨⟨loc,L⟩,cp⟩:=h.gd okC n60 g0;have hx:=L.not.2.1;have lt:=jH L rs;obtain⟨e1,e2,e3,e4,e5,e6,e7⟩:=eJ k (ao S (C.prt x)) (bP (C.prt x) C.pace S k x);have el:(aT (C.prt x) C.pace S k x).lg=S.lg++[⟨k,x,true,(ao S (C.prt x)).zip ((ao S (C.prt x)).map (aM S))⟩]:=e3;have z2:((ao S (C.prt x)).zip ((ao S (C.prt x)).map (aM S))).map (·.2)=(ao S (C.prt x)).map (aM S):=List.map_snd_zip (by rw[q4];exact qc _)
  have er:aA (aT (C.prt x) C.pace S k x)=dh (aA S) ((ao S (C.prt x)).zip ((ao S (C.prt x)).map (aM S))):=by
   show(λi=>((aT (C.prt x) C.pace S k x).st i).1.drop ((aT (C.prt x) C.pace S k x).st i).2)=_;unfold aT;rw[e1,show(bP (C.prt x) C.pace S k x).st=bu S.st (ao S (C.prt x))from rfl,jF _ ((ao S (C.prt x)).map (aM S)) _ (by rw[q4])]
   rfl
  have off:∀y,y<C.n->y≠x->∀l∈di (C.prt y),l.toNat∉((ao S (C.prt x)).zip ((ao S (C.prt x)).map (aM S))).map (λp=>p.1.toNat):=λy hy ne l hl z=>by
   obtain⟨q,hq,eq⟩:=List.mem_map.mp z;have:=(List.of_mem_zip (a:=q.1) (b:=q.2) hq).1;rw[iL]at this;exact dj y x hy hx ne l hl q.1 (lB this) eq.symm
  have ew:aR C xs (aT (C.prt x) C.pace S k x).lg={ rows:=dh (aR C xs S.lg).rows ((ao S (C.prt x)).zip ((ao S (C.prt x)).map (aM S))),post:=put (aR C xs S.lg).post x (some ((C.prt x).made ((ao S (C.prt x)).map (aM S)))),due:=put (aR C xs S.lg).due x (k+1+bM C.pace x ((aR C xs S.lg).tks x)),tks:=put (aR C xs S.lg).tks x ((aR C xs S.lg).tks x+1),l1:=k,l2:=1,l3:=x }:=by
   rw[el,oS];show WS.mk _ (put (aR C xs S.lg).post x (some ((C.prt x).made (((ao S (C.prt x)).zip ((ao S (C.prt x)).map (aM S))).map (·.2))))) _ _ _ _ _=_;rw[z2]
  have eh:(aT (C.prt x) C.pace S k x).held=put S.held x ((C.prt x).made ((ao S (C.prt x)).map (aM S))):=e4;have fm:=oK k (ao S (C.prt x)) (bP (C.prt x) C.pace S k x);have es:(aT (C.prt x) C.pace S k x).wt=S.wt/\(aT (C.prt x) C.pace S k x).tr=S.tr:=⟨e7,e6⟩;have lk2:bN (aT (C.prt x) C.pace S k x).lg=k:=by rw[el,io]
  have cne:gvs++tks≠[]\/k=0/\bN S.lg=-1:=by
   rcases rd with z|z|z
   ·cases z
   ·refine .inl λe=>?_;rw[e,qv]at eg;have:=gr.last;rw[<- eg]at this;omega
   ·exact .inr z
  refine⟨⟨Gs,gvs,tks++[⟨k,x,true,(ao S (C.prt x)).zip ((ao S (C.prt x)).map (aM S))⟩],by rw[el,eg,qL,qL],cl,⟨gr.g,λe he=>?_,gr.last,λ_=>?_,gr.glad⟩,λe he y hy=>?_⟩,⟨λy hy hp=>?_,λy hy hs' hp=>?_,λi y hy=>?_,λi y hy=>?_⟩,by rw[es.2];exact tr,.inr (.inl lk2),λkv hv y hy=>?_,by rw[lk2];exact Int.le_refl _⟩
  ·rcases qf.mp he with he|he
   ·exact gr.t e he
   ·rw[qQ.mp he];exact⟨U,U⟩
  ·rcases cne with z|⟨z1,z2⟩
   ·exact gr.start z
   ·intro l1;by_cases ce:gvs++tks=[]
    ·rw[ce,qv]at eg;rw[<- eg]at l1;omega
    ·exact gr.start ce l1
  ·rcases qf.mp he with he|he
   ·exact pr e he y (qi _ hy)
   ·rw[qQ.mp he];exact lt y hy
  ·rw[ew]at hp;have hp:put (aR C xs S.lg).post x _ y=none:=hp;by_cases e:y=x
   ·rw[e,ap]at hp;cases hp
   ·rw[ai e]at hp;rw[es.1,es.2];rcases c.no y hy hp with m|m|m
    ·exact .inl m
    ·exact .inr (.inl m)
    ·exact .inr (.inr ((qr.mp m).resolve_left e))
  ·rw[ew]at hp;have hp:put (aR C xs S.lg).post x _ y=some hs':=hp;by_cases e:y=x
   ·exact .inl ((fm y).1 (iF.2 (qQ.mpr e)))
   ·rw[ai e]at hp;rcases c.so y hy hs' hp with m|⟨i,m⟩|m
    ·exact .inl ((fm y).1 (iF (t:=k+1+bM C.pace x (S.tks x)) (ps:=[x]) |>.1 m))
    ·rcases(fm y).2.1 i m with m|m
     ·exact .inl m
     ·exact .inr (.inl ⟨i,m⟩)
    ·cases m
  ·obtain⟨m,offi⟩:=(fm y).2.2 i hy;have m:y∈S.wr i:=m;have ne:y≠x:=λz=>L.notin (L.wr i) nofun (z▸m)
   obtain⟨p,hp,ep,fu⟩:=c.full i y m;refine⟨p,by rw[eh,ai ne];exact hp,ep,?_⟩;rw[er,jU λz=>offi ?_]
   ·exact fu
   ·obtain⟨q,hq,eq⟩:=List.mem_map.mp z;exact List.mem_map.mpr ⟨q.1,(List.of_mem_zip (a:=q.1) (b:=q.2) hq).1,eq⟩
  ·rw[es.1]at hy;have ne:y≠x:=λz=>L.notin (L.wt i) nofun (z▸hy)
   have yn:=((L.wt i).2 y hy).1;obtain⟨l,hl',ei,em⟩:=c.lack i y hy;have eq:∀l∈di (C.prt y),aA (aT (C.prt x) C.pace S k x) l.toNat=aA S l.toNat:=λl hl=>by rw[er];exact jU (off y yn ne l hl)
   refine⟨l,by rw[rb eq];exact hl',ei,?_⟩;rw[<- ei,eq l (lB hl'),ei];exact em
  ·rw[ew,lk2];show put (aR C xs S.lg).due x _ y=kv.1\/_
   have key:=kB (now:=k) (A:=λj y=>put (aR C xs S.lg).due x (k+1+bM C.pace x ((aR C xs S.lg).tks x)) y=j\/j=k+1) (B:=λ_=>True) (λy _=>.inr U) (ao S (C.prt x)) (bP (C.prt x) C.pace S k x) (by
    refine kO (t:=k+1+bM C.pace x (S.tks x)) (ps:=[x]) (A:=λj y=>put (aR C xs S.lg).due x (k+1+bM C.pace x ((aR C xs S.lg).tks x)) y=j\/j=k+1) (λkv hv=>⟨(I.gv kv hv).1,λy hy=>?_⟩) (by have:=mZ nn x (S.tks x);omega) λy hy=>?_
    ·have ne:y≠x:=λz=>L.notin (L.gv kv hv) nofun (z▸hy)
     rw[ai ne];exact(du kv hv y hy).imp id λz=>z.1
    ·rw[qQ.mp hy,ap]
     exact .inl (by rw[show(aR C xs S.lg).tks=S.tks from I.tks])) (λ_ _ _=>trivial)
   rcases(key.1 kv hv).2 y hy with z|z
   ·exact .inl z
   ·exact .inr ⟨z,U⟩
 |@over S k h ih=>
  obtain⟨⟨Gs,gvs,tks,eg,cl,gr,pr⟩,c,tr,rd,du,lk⟩:=ih;obtain⟨_,⟨I,k0,_,_,_⟩,_⟩:=h.sim okC n60 nn g0;refine⟨?_,c,.inl tr,λj hj=>?_,λkv hv y hy=>(du kv hv y hy).imp id λz=>by rw[z.1,z.2]⟩
  ·by_cases ne:gvs++tks=[]
   ·exact⟨Gs,by rw[eg,ne,qv],cl⟩
   ·refine⟨Gs++[gvs++tks],by rw[eg,List.flatten_append,List.flatten_singleton],cl.snoc ⟨⟨k,gvs,tks,U,gr⟩,ne⟩ λy hy hr=>?_⟩;rw[<- eg]at hr;have:=c.notReady I.rows tr hy hr;cases this
  ·obtain⟨kv,hv,rfl⟩:=List.mem_map.mp hj;have:=(I.gv kv hv).1;omega
def sel(i:Nat)(ps:List (Int×Int)):List Int:=(ps.filter λp=>decide (p.1.toNat=i)).map (·.2)
theorem gN{i:Nat}{ps qs:List (Int×Int)}:sel i (ps++qs)=sel i ps++sel i qs:=by unfold sel;rw[Qp,qM]
theorem mR{i:Nat}:sel i []=[]:=U
theorem iY{i:Nat}{p:Int×Int}{ps:List (Int×Int)}:sel i (p::ps)=(if p.1.toNat=i then[p.2]else[])++sel i ps:=by
 unfold sel;by_cases c:p.1.toNat=i
 ·rw[List.filter_cons_of_pos (by simpa using c),qY c];rfl
 ·rw[List.filter_cons_of_neg (by simpa using c),qX c];rfl
def tkS(es:List Ent)(x:Nat):List (List (Int×Int)):=(es.filter λe=>e.took && decide (e.part=x)).map (·.hs)
def gvS(es:List Ent)(x:Nat):List (List (Int×Int)):=(es.filter λe=>!e.took && decide (e.part=x)).map (·.hs)
def yO(es:List Ent):List (Int×Int):=(es.filter λe=>e.took).flatMap (·.hs)
def fh(es:List Ent):List (Int×Int):=(es.filter λe=>!e.took).flatMap (·.hs)
theorem kT{es:List Ent}{e:Ent}:fh (es++[e])=fh es++(if e.took=false then e.hs else[]):=by
 unfold fh;rw[Qp,qS];by_cases c:e.took=false
 ·rw[qY c,List.filter_cons_of_pos (by simpa using c)];simp
 ·rw[qX c,List.filter_cons_of_neg (by simpa using c)];rfl
def aQ(xs:List Ln)(es:List Ent)(i:Nat):List Int:=(bd xs i).2++sel i (fh es)
def mdF(prt:Nat->PR)(x:Nat)(hs:List (Int×Int)):List (Int×Int):=(prt x).made (hs.map (·.2))
structure Kh(n:Nat)(prt:Nat->PR)(xs:List Ln)(W:WS)(es:List Ent):Prop where
 rows:∀i,aQ xs es i=sel i (yO es)++W.rows i
 post:∀x,(W.post x=none/\gvS es x=(tkS es x).map (mdF prt x))\/∃hs ts,W.post x=some (mdF prt x hs)/\tkS es x=ts++[hs]/\gvS es x=ts.map (mdF prt x)
 tk:∀e∈es,e.took=true->e.part<n/\∀p∈e.hs,p.1∈di (prt e.part)
 gv:∀e∈es,e.took=false->e.part<n/\∀p∈e.hs,p.1∈k7 (prt e.part)
theorem lD{n nl:Nat}{ls:Nat->Option Int}{prt:Nat->PR}{pace:List (List Int)}:∀{es:List Ent}{W:WS}{e:Ent},cS n nl ls prt pace W (es++[e])->cS n nl ls prt pace W es/\OkE n nl ls prt (es.foldl (bL prt pace) W) e
 |[],_,_,h=>⟨trivial,h.1⟩
 |_::es,_,_,h=>let ⟨a,b⟩:=lD (es:=es) h.2;⟨⟨h.1,a⟩,b⟩
theorem sV{P:List Ent->Prop}(h0:P [])(hs:∀es e,P es->P (es++[e])):∀es,P es:=λes=>by
 have go:∀(n:Nat)(es:List Ent),es.length=n->P es:=by
  intro n
  induction n with
  |zero=>intro es h;rw[List.length_eq_zero_iff.mp h];exact h0
  |succ n ih=>
   intro es h;have ne:es≠[]:=λz=>by rw[z]at h;cases h
   rw[<- List.dropLast_concat_getLast ne];exact hs _ _ (ih _ (by rw[List.length_dropLast,h];rfl))
 exact go _ es U
def Cb{α:Type}(a b:List α):Prop:=a <+: b\/b <+: a
theorem uE{i:Nat}{a b:List (Int×Int)}(h:a <+: b):sel i a <+: sel i b:=by
 obtain⟨c,rfl⟩:=h;exact⟨sel i c,gN.symm⟩
theorem uF{α:Type}{c a b:List α}(h:a <+: b):c++a <+: c++b:=by
 obtain⟨d,rfl⟩:=h;exact⟨d,qL _ _ _⟩
section
variable {n:Nat}{prt:Nat->PR}{xs:List Ln}
structure Uq(n:Nat)(prt:Nat->PR):Prop where
 t:∀x y,x<n->y<n->x≠y->∀l∈di (prt x),∀l'∈di (prt y),l.toNat≠l'.toNat
 g:∀x y,x<n->y<n->x≠y->∀l∈k7 (prt x),∀l'∈k7 (prt y),l.toNat≠l'.toNat
theorem xM{es fs:List Ent}(i:Nat):aQ xs es i <+: aQ xs (es++fs) i:=by
 unfold aQ fh;rw[Qp,qS];exact uF (uE (List.prefix_append _ _))
end
structure pM(n:Nat)(ls:Nat->Option Int)(prt:Nat->PR)(W:WS):Prop where
 no:∀x,x<n->W.post x=none->∃l∈cK W.rows (prt x),W.rows l.toNat=[]
 so:∀x,x<n->∀hs,W.post x=some hs->∃p∈hs,roomV (ls p.1.toNat) ((W.rows p.1.toNat).length:Int)=false
section
variable {n:Nat}{prt:Nat->PR}{xs:List Ln}
end
theorem kq{xs:List Ln}{es:List Ent}{e:Ent}{i:Nat}:aQ xs (es++[e]) i=aQ xs es i++(if e.took=false then sel i e.hs else[]):=by
 unfold aQ;rw[kT,gN,<- qL]
 congr 1
 split<;>rfl
def kZ(nl:Nat)(es:List Ent):Prop:=∀e∈es,e.hs.length<=10/\∀p∈e.hs,0<=p.1/\p.1<nl
theorem xL{xs:List Ln}{es:List Ent}{i m:Nat}:aQ xs (es.take m) i <+: aQ xs es i:=by
 conv=>rhs;rw[<- List.take_append_drop m es]
 exact xM i
theorem oA:∀(ps:List (Int×Int))(S:PlS)(i:Nat),((ps.foldl ak S).st i).1=(S.st i).1++sel i ps
 |[],_,_=>(qv _).symm
 |p::ps,S,i=>by
  show((ps.foldl ak (ak S p)).st i).1=_;rw[oA ps,iY];show(put S.st p.1.toNat _ i).1++_=_;by_cases c:i=p.1.toNat
  ·rw[c,ap,qY U,qL]
  ·rw[ai c,qX λz=>c z.symm];rfl
theorem bi.hist{ls:Nat->Option Int}{prt:Nat->PR}{pace:List (List Int)}{xs:List Ln}{n most:Nat}{ph:Ph}{S:PlS}(h:bi ls prt pace (bY xs n most) ph S):∀i,(S.st i).1=aQ xs S.lg i:=by
 induction h with
 |base=>intro i;exact(qv _).symm
 |turn _ _ _ _ ih=>exact ih
 |@give S k x r h ih=>
  intro i;unfold cg;split
  ·exact ih i
  ·show(((S.held x).foldl ak S).st i).1=aQ xs (((S.held x).foldl ak S).lg++[_]) i;rw[oA,(eI (S.held x) S).2.2.1,kq,qY U,ih i]
 |half _ _ _ ih=>exact ih
 |wait _ _ ih=>exact ih
 |@take S k x r h hl hs ih=>
  intro i;obtain⟨e1,e2,e3,_⟩:=eJ k (ao S (prt x)) (bP (prt x) pace S k x);unfold aT;rw[e1,e3];show(bu S.st (ao S (prt x)) i).1=aQ xs (S.lg++[_]) i;rw[fH,kq,qX (λz=>by cases z),qv,ih i]
 |over _ ih=>exact ih
inductive lZ(vs:List V)(H:Hp)(Q:VK)(E:XK):Prop
 |mk (ll lg:Addr) (k:Int) (us lgv:List V) (xs:List Ln) (es:List Ent) (h0_:vs=[.ref ll,.ref lg,.int k]) (h1_:H ll=some (.lst us)) (h2_:RLn H us xs) (h3_:H lg=some (.lst lgv)) (h4_:REs H lgv es) (h5_:(0<=k/\k<xs.length)) (h6_:kZ xs.length es) (h7_:es.length<=10000000) (h8_:(∀i,(aQ xs es i).length<=10000000)) (h9_:∀H' l,a8 H H'->H' l=some (.lst ((aQ xs es k.toNat).map V.int))->Q (.ref l) H'):lZ vs H Q E
theorem vC(T:Tx P w K mg a):aC P w K mg base CX0 1 a.AT a.AU ["lines","log","line"] lZ:=by
 refine T.BH.ok eV (λvs H Q E h=>?_) (λcdv A outer s H vs Q E hr h=>?_)
 ·obtain⟨_,_,_,_,_,_,_,rfl,_⟩:=h
  rfl
 obtain⟨ll,lg,k,us,lgv,xs,es,rfl,hll,rln,hlg,res,hk,lok,esz,fl,q⟩:=h
 refine⟨_,(ac (aS (i:=3) eV.nd U Oi (f6 fX U T.wP PyProof.Rows.Boot.«list» (a0 (am bj (am aP (pq 0) (pq 2) Oy) aa Oy) a9)))
  (ac (cH PassesOwn.never U (cb (pq 1)) (i3 U (bZ (aU (i:=4) eV.nd U Oi) (bZ (aU (i:=5) eV.nd U Oi) (bZ (aU (i:=6) eV.nd U Oi) (bZ (aU (i:=7) eV.nd U Oi) dL)))))
  (af (aX (aF ba (pq 6) c0 (aB _)) (af (bQ (cI qe Ql Qk jY (pq 3) (a0 (cm (k:=2) (Nc:=["place","thing","line"]) (js:=[2]) (show aO (aj gT) ["lines","log","line","things","turn","part","word","handed"] _ 2 ["place","thing","line"] [2]from aO.mk U (by decide +kernel) (by decide +kernel) (by decide +kernel) U (by decide +kernel)) U (cb (pq 7)) (λ_ _ _ _ _=>(gc 2 U (bZ (aU (i:=0) (show List.Nodup (["place","thing","line"]:List Str)from by decide +kernel) U Oi) (bZ (aU (i:=1) (show List.Nodup (["place","thing","line"]:List Str)from by decide +kernel) U Oi) dL)))) (λ_ _ _ _ _=>(nI (aF ba (pq 0) (pq 2) (aB _)))) (λ_ _ _ _ _=>(pq 1))) a9)))) aW)))
  (af (ar (pq 3))))),?_⟩
 have kl:k.toNat<us.length:=by rw[rln.len];omega
 obtain⟨p,t,x,ex,exl,hp,ht⟩:=rln.at k.toNat _ (qa kl);have e1:atI us k=some (.ref p):=by rw[<- ex];exact gC hk.1 (qa kl)
 have el:bd xs k.toNat=x:=by unfold bd;rw[qh,exl];rfl
 refine⟨_,U,_,U,ll,_,_,_,U,U,SqL.of hll,e1,p,_,_,_,U,U,SqT.of hp,U,t,_,U,.inr (SqT.of ht),λlo hlo=>?_⟩;dsimp only[aK];have so:=a8.new hlo (.lst (x.2.map V.int));refine⟨_,U,lg,U,⟨_,SqL.of (so _ _ hlg)⟩,?_⟩;refine gz (K:=K) (a:=lg) (xs:=lgv) (λi σ G=>(∃v4 v5 v6 v7,σ=[some (.ref ll),some (.ref lg),some (.int k),some (.ref lo),v4,v5,v6,v7])/\a8 H G/\G lo=some (.lst ((aQ xs (es.take i) k.toNat).map V.int))) ⟨⟨_,_,_,_,U⟩,so,?_⟩ ?_ ?_ ?_
 ·rw[ae];unfold aQ fh;simp[sel,el]
 ·rintro i σ G _ ⟨_,sg,_⟩;exact SqL.of (sg _ _ hlg)
 ·rintro i y σ G hy ⟨⟨v4,v5,v6,v7,rfl⟩,sg,ho⟩;obtain⟨pe,le,eus,e,rfl,he,hpe,hle,rp⟩:=res.at hy;have et:es.take (i+1)=es.take i++[e]:=by rw[qp,he];rfl
  have em:=qx he;refine⟨pe,_,U,SqT.of (sg _ _ hpe),U,_,_,U,_,_,U,_,_,U,_,_,U,U,?_⟩;dsimp only[aK];rw[et,kq]
  cases tk:e.took with
  |true=>
   rw[tk]at hpe;rw[qX Qy,qv];exact⟨_,U,U,_,U,aI Qx ⟨⟨_,_,_,_,U⟩,sg,ho⟩⟩
  |false=>
   rw[tk]at hpe;rw[qY U];refine⟨_,U,U,_,U,bC Qx ?_⟩;have rpg:=rp.same sg;have few:=(lok e em).1;refine⟨_,U,.inl ⟨U,_,SqL.of ho⟩,_,U,le,U,⟨_,SqL.of (sg _ _ hle)⟩,?_⟩;refine kI (K:=K) (a:=le) (xs:=eus) (λj ys σ G'=>(∃v v',σ=[v,v',some (.int k)])/\G'=G/\ys=(sel k.toNat (e.hs.take j)).map V.int) ⟨⟨none,none,U⟩,U,U⟩ ?_ (bq (m:=100) (by rw[rp.len];omega)) ?_ ?_ ?_
   ·rintro j ys σ G' _ ⟨_,_,rfl⟩;unfold sel;rw[q4,q4];refine qw (List.length_filter_le _ _) ?_;rw[qI];omega
   ·rintro j ys σ G' ⟨_,rfl,_⟩;exact SqL.of (sg _ _ hle)
   ·rintro j z ys σ G' hz ⟨⟨v,v',rfl⟩,rfl,rfl⟩;obtain⟨pp,y,rfl,hy',hpp⟩:=rpg.at hz;have yb:=(lok e em).2 y (qx hy');have ey:e.hs.take (j+1)=e.hs.take j++[y]:=by rw[qp,hy'];rfl
    refine⟨pp,_,U,SqT.of hpp,U,_,_,U,_,_,U,U,?_⟩;refine⟨_,U,_,U,U,_,U,?_⟩;have es1:sel k.toNat (e.hs.take (j+1))=sel k.toNat (e.hs.take j)++(if y.1.toNat=k.toNat then[y.2]else[]):=by rw[ey,gN,iY,mR,qv]
    by_cases c:y.1=k
    ·exact bC (by rw[c];exact qZ U) ⟨_,U,⟨_,_,U⟩,U,by rw[es1,qY (by rw[c]),qM];rfl⟩
    ·exact aI (Q0 λw=>c (V.int.inj w)) ⟨⟨_,_,U⟩,U,by rw[es1,qX Qz,qv]⟩
   rintro ys σ G' ⟨_,eG,rfl⟩ l5 hl5;rw[eG]at hl5 ⊢;rw[rp.len,qF];have s5:=a8.new hl5 (.lst ((sel k.toNat e.hs).map V.int));refine⟨lo,l5,_,_,U,U,s5 _ _ ho,ae,?_,⟨_,_,_,_,U⟩,a8.over (sg.trans s5) hlo,?_⟩
   ·rw[q4,q4,sizeLine_eq];have h1:=(xL (xs:=xs) (es:=es) (i:=k.toNat) (m:=i)).length_le;have h2:=fl k.toNat
    have h3:(sel k.toNat e.hs).length<=10:=by
     unfold sel;rw[q4];exact qw (List.length_filter_le _ _) few
    omega
   ·rw[ae,qM]
 ·rintro σ G ⟨⟨v4,v5,v6,v7,rfl⟩,sg,ho⟩;rw[res.len,qF]at ho;exact⟨_,U,q _ lo sg ho⟩
structure TdK(xs:List Ln)(rs:List PR)(pace:List (List Int))(S:PlS)(still:Bool):Prop where
 wk:cS rs.length xs.length (λi=>(bd xs i).1) (bf rs) pace (bX xs) S.lg
 rows:(S.lg.foldl (bL (bf rs) pace) (bX xs)).rows=aA S
 lok:kZ xs.length S.lg
 sz:S.lg.length<=10000000
 hsz:∀i,(aQ xs S.lg i).length<=10000000
 rsz:∀i,(aA S i).length<=10000000
 stuck:still=true->pM rs.length (λi=>(bd xs i).1) (bf rs) (S.lg.foldl (bL (bf rs) pace) (bX xs))
theorem ka{n nl:Nat}{ls:Nat->Option Int}{prt:Nat->PR}{pace:List (List Int)}:∀{es:List Ent}{W:WS},cS n nl ls prt pace W es->kZ nl es
 |[],_,_,_,h=>(nomatch h)
 |a::es,_,w,e,h=>(qr.mp h).elim (λz=>z▸⟨w.1.hs.few,λp hp=>⟨(w.1.hs.ok p hp).1,(w.1.hs.ok p hp).2.1⟩⟩) λz=>ka (es:=es) w.2 e z
theorem fw.tdk{H H':Hp}{t:Addr}{xs:List Ln}{rs:List PR}{pace:List (List Int)}{most:Nat}{S:PlS}{still:Bool}{lg st:Addr}{lgv us:List V}(T:fw H H' t xs rs pace most S still lg st lgv us)(n60:rs.length<60)(nn:∀r∈pace,∀x∈r,0<=x)(fl:∀x∈xs,x.2.length<=64)(fo:∀x∈xs,∀n∈x.2,OnW n)(ok:∀r∈rs,r.ok/\r.fit xs.length)(hm:most<=5000)(u:Uq rs.length (bf rs)):TdK xs rs pace S still:=by
 let C:PlC:={ b:=t,dx:=t,y:=t,dy:=t,la:=t,lq:=t,dl:=t,pc:=t,dq:=λ_=>t,qo:=λ_=>t,us:=[],pv:=[],n:=rs.length,nl:=xs.length,prt:=bf rs,ls:=λi=>(bd xs i).1,pace:=pace }
 have rm:∀x,x<rs.length->bf rs x∈rs:=λx hx=>by unfold bf;rw[qh,qa hx];exact List.getElem_mem hx
 have okC:∀x,x<C.n->(C.prt x).ok/\(C.prt x).fit C.nl:=λx hx=>ok _ (rm x hx);have g0:=iu (C:=C) (rs:=rs) (most:=most) U fl fo hm
 have len:∀{S:PlS}{k:Nat},cj C k S->∀i,(aA S i).length<=10000000:=λ{S k} c i=>by
  unfold aA;rw[qW];have:=(c.st i).1;omega
 cases still with
 |true=>
  have R:bi C.ls C.prt C.pace (bY xs C.n most) .top S:=T.nd.1;obtain⟨w,⟨_,I,_⟩,_⟩:=R.sim okC n60 nn g0;have cp:=(R.gd okC n60 g0).cap;obtain⟨_,c,tr,_,_⟩:=R.nob okC n60 nn u.t g0;have tr0:S.tr=[]:=tr.resolve_right λz=>by have:=z.2;rw[T.nd.2]at this;cases this
  have I:Sim (aR C xs S.lg) _ S:=I;refine⟨w,I.rows,ka w,by have:=cp.lg;omega,λi=>by rw[<- R.hist i];have:=(cp.st i).1;omega,len cp,λ_=>⟨λx hx hp=>?_,λx hx hs hp=>?_⟩⟩
  ·have hp:(aR C xs S.lg).post x=none:=hp;show ∃l∈cK (aR C xs S.lg).rows (bf rs x),(aR C xs S.lg).rows l.toNat=[];rw[I.rows];rcases c.no x hx hp with m|⟨i,m⟩|m
   ·rw[tr0]at m;cases m
   ·obtain⟨l,hl,e,em⟩:=c.lack i x m;exact⟨l,hl,by rw[e];exact em⟩
   ·cases m
  ·have hp:(aR C xs S.lg).post x=some hs:=hp;show ∃p∈hs,roomV (C.ls p.1.toNat) (((aR C xs S.lg).rows p.1.toNat).length:Int)=false;rw[I.rows];rcases c.so x hx hs hp with⟨kv,hk,_⟩|⟨i,m⟩|m
   ·rw[T.nd.2]at hk;cases hk
   ·obtain⟨p,hp',e,fu⟩:=c.full i x m;have e2:=(I.wr i x m).1;rw[hp]at e2;cases e2;exact⟨p,hp',by rw[e];exact fu⟩
   ·cases m
 |false=>
  obtain⟨k,x,r,R,_,sp⟩:=T.nd;have R:bi C.ls C.prt C.pace (bY xs C.n most) (.tak k (x::r)) S:=R;obtain⟨w,⟨I,_⟩,_⟩:=R.sim okC n60 nn g0;have cp:=(R.gd okC n60 g0).cap;exact⟨w,I.rows,ka w,by have:=cp.lg;omega,λi=>by rw[<- R.hist i];have:=(cp.st i).1;omega,len cp,λz=>(by cases z)⟩
def bA(f:Nat->Nat):Nat->Nat
 |0=>0
 |n+1=>bA f n+f n
theorem lQ{f:Nat->Nat}{k:Nat}:∀n:Nat,bA (put f k (f k+1)) n=bA f n+(if k<n then 1 else 0)
 |0=>by simp[bA]
 |n+1=>by
  unfold bA;rw[lQ n];by_cases e:n=k
  ·rw[e,ap,qX (Q9 _),qY (Q8 _)];omega
  ·rw[ai e];by_cases c:k<n
   ·rw[qY c,qY Qz];omega
   ·rw[qX c,qX Qz];omega
def chP(k:Nat):PR:=.pass [(k:Int)] [(k:Int)+1] [0]
def ldN(W:WS)(k:Nat):Nat:=match W.post k with
 |none=>0
 |some _=>1
structure Ch(n:Nat)(ls:Nat->Option Int)(xs:List Ln)(W:WS)(es:List Ent):Prop where
 h0:aQ xs es 0=(bd xs 0).2
 hs:∀k,k<n->aQ xs es (k+1)=(bd xs (k+1)).2++(aQ xs es k).take (W.tks k-ldN W k)
 rows:∀k,W.rows k=(aQ xs es k).drop (W.tks k)
 le:∀k,W.tks k<=(aQ xs es k).length
 pt:∀k hs,W.post k=some hs->∃x,hs=[((k:Int)+1,x)]/\0<W.tks k/\(aQ xs es k)[W.tks k-1]?=some x
 z:∀k,n<=k->W.tks k=0
 cap:∀k L,ls k=some L->((W.rows k).length:Int)<=L
 nt:bF es=bA W.tks n
theorem lP:∀n:Nat,bA (λ_=>0) n=0
 |0=>rfl
 |n+1=>lP n
theorem gw{W:WS}{k:Nat}(h:W.post k=none):ldN W k=0:=by unfold ldN;rw[h]
theorem kf{W:WS}{k:Nat}{hs:List (Int×Int)}(h:W.post k=some hs):ldN W k=1:=by unfold ldN;rw[h]
theorem oh{W W':WS}{k:Nat}(h:W'.post k=W.post k):ldN W' k=ldN W k:=by unfold ldN;rw[h]
section
variable {n:Nat}{ls:Nat->Option Int}{xs:List Ln}{W W':WS}{es es':List Ent}{k:Nat}{x:Int}
theorem Ch.took(c:Ch n ls xs W es)(kn:k<n)(o1:W.post k=none)(hx:(W.rows k).head?=some x)(r:W'.rows=put W.rows k (W.rows k).tail)(p:W'.post=put W.post k (some [((k:Int)+1,x)]))(t:W'.tks=put W.tks k (W.tks k+1))(eh:∀i,aQ xs es' i=aQ xs es i)(nt:bF es'=bF es+1):Ch n ls xs W' es':=by
 have xk:(aQ xs es k)[W.tks k]?=some x:=by rw[<- hx,c.rows k,List.head?_drop]
 have lk:W.tks k<(aQ xs es k).length:=(qd.mp xk).1;refine⟨(eh 0).trans c.h0,λj hj=>?_,λj=>?_,λj=>?_,λj hs h=>?_,λj hj=>?_,λj L hL=>?_,?_⟩
 ·rw[eh,eh,c.hs j hj,t];by_cases e:j=k
  ·rw[e,ap,gw o1,kf (by rw[p,ap])];rfl
  ·rw[ai e,oh (W:=W) (W':=W') (by rw[p,ai e])]
 ·rw[eh,r,t];by_cases e:j=k
  ·rw[e,ap,ap,c.rows k,List.tail_drop]
  ·rw[ai e,ai e];exact c.rows j
 ·rw[eh,t];by_cases e:j=k
  ·rw[e,ap];exact lk
  ·rw[ai e];exact c.le j
 ·rw[p]at h;rw[eh,t];by_cases e:j=k
  ·rw[e,ap]at h;rw[e,ap];cases h;exact⟨x,U,Nat.succ_pos _,xk⟩
  ·rw[ai e]at h;rw[ai e];exact c.pt j hs h
 ·rw[t,ai Qz];exact c.z j hj
 ·rw[r];by_cases e:j=k
  ·rw[e,ap,List.length_tail];have:=c.cap k L (e▸hL);omega
  ·rw[ai e];exact c.cap j L hL
 ·rw[nt,c.nt,t,lQ,qY kn]
theorem Ch.gave(c:Ch n ls xs W es)(kn:k<n)(o1:W.post k=some [((k:Int)+1,x)])(o3:roomV (ls (k+1)) ((W.rows (k+1)).length:Int)=true)(r:W'.rows=put W.rows (k+1) (W.rows (k+1)++[x]))(p:W'.post=put W.post k none)(t:W'.tks=W.tks)(eh:aQ xs es'=put (aQ xs es) (k+1) (aQ xs es (k+1)++[x]))(nt:bF es'=bF es):Ch n ls xs W' es':=by
 obtain⟨x',hx,tp,xk⟩:=c.pt k _ o1;cases hx
 have le':∀j,W.tks j<=(aQ xs es' j).length:=λj=>by
  rw[eh];by_cases e:j=k+1
  ·rw[e,ap,q9];exact Nat.le_add_right_of_le (c.le _)
  ·rw[ai e];exact c.le j
 have sub:∀(j m:Nat),m<=(aQ xs es j).length->(aQ xs es' j).take m=(aQ xs es j).take m:=λj m h=>by
  rw[eh];by_cases e:j=k+1
  ·rw[e,ap];rw[e]at h;exact List.take_append_of_le_length h
  ·rw[ai e]
 refine⟨?_,λj hj=>?_,λj=>?_,λj=>?_,λj hs h=>?_,λj hj=>?_,λj L hL=>?_,?_⟩
 ·rw[eh,ai Qz];exact c.h0
 ·rw[t];have lj:=c.le j;rw[sub j _ Qz];by_cases e:j=k
  ·rw[e,eh,ap,c.hs k kn,kf o1,gw (by rw[p,ap]),qL]
   congr 1
   have e1:W.tks k-0=W.tks k-1+1:=Qz;rw[e1,qp,xk]
   rfl
  ·rw[eh,ai Qz,c.hs j hj,oh (W:=W) (W':=W') (by rw[p,ai e])]
 ·rw[r,t,eh];by_cases e:j=k+1
  ·rw[e,ap,ap,c.rows,List.drop_append_of_le_length (c.le _)]
  ·rw[ai e,ai e];exact c.rows j
 ·rw[t];exact le' j
 ·rw[p]at h;rw[t];by_cases e:j=k
  ·rw[e,ap]at h;cases h
  ·rw[ai e]at h;obtain⟨y,e1,e2,e3⟩:=c.pt j hs h;refine⟨y,e1,e2,?_⟩;have lj:=c.le j;rw[eh];by_cases e:j=k+1
   ·rw[e,ap];rw[e]at e3 lj e2;rw[Q3 Qz];exact e3
   ·rw[ai e];exact e3
 ·rw[t];exact c.z j hj
 ·rw[r];by_cases e:j=k+1
  ·rw[e,ap,q9,Q4];rw[e]at hL;rw[hL]at o3;have:=Qa o3;omega
  ·rw[ai e];exact c.cap j L hL
 ·rw[nt,c.nt,t]
end
theorem lH{e:Ent}{es:List Ent}:bF (es++[e])=bF es+(if e.took then 1 else 0):=by
 unfold bF;rw[Qp,q9]
 cases h:e.took with
 |true=>rw[List.filter_cons_of_pos (by simpa using h)];simp
 |false=>rw[List.filter_cons_of_neg (by simpa using h)];simp
theorem vy{α:Type}{x:α}{β:Type}{f:β->α}:∀{ys:List β},ys.map f=[x]->∃y,ys=[y]/\f y=x
 |[y],h=>⟨y,U,by simpa using h⟩
theorem yz{n nl:Nat}{ls:Nat->Option Int}{prt:Nat->PR}{pace:List (List Int)}{xs:List Ln}(hp:∀k,k<n->prt k=chP k)(cp:∀k L,ls k=some L->((bd xs k).2.length:Int)<=L):∀es:List Ent,cS n nl ls prt pace (bX xs) es->Ch n ls xs (es.foldl (bL prt pace) (bX xs)) es:=by
 have hn:∀i,aQ xs [] i=(bd xs i).2:=λi=>qv _;refine sV (λ_=>⟨hn 0,λk _=>by rw[hn];exact(qv _).symm,λk=>(hn k).symm,λk=>qq _,λk hs h=>(nomatch h),λ_ _=>U,cp,(lP n).symm⟩) λes e ih w=>?_;obtain⟨w,O⟩:=lD w;have c:=ih w;rw[List.foldl_append];generalize es.foldl (bL prt pace) (bX xs)=W at c O;show Ch n ls xs (bL prt pace W e) (es++[e]);have kn:=O.part;have nt:bF (es++[e])=bF es+(if e.took then 1 else 0):=lH;unfold bL
 cases tk:e.took with
 |true=>
  rw[qY U];obtain⟨o1,o2,o3,_⟩:=O.tk tk;rw[hp _ kn]at o2 ⊢;obtain⟨⟨a,x⟩,eh,ea⟩:=vy o2;change a=(e.part:Int)at ea;have hx:=o3 (a,x) (by rw[eh];exact qj);rw[eh,ea];rw[ea]at hx;refine c.took kn o1 hx U U U (λi=>?_) (by rw[nt,tk];rfl);unfold aQ;rw[kT,qX (by rw[tk];decide),qv]
 |false=>
  rw[qX Qy];obtain⟨o1,_,o3⟩:=O.gv tk;obtain⟨x,ex,tp,xk⟩:=c.pt _ _ o1;have o3:=o3 _ (by rw[ex];exact qj);rw[ex]at o1 ⊢;refine c.gave kn o1 o3 U U U (funext λi=>?_) (by rw[nt,tk];rfl);unfold aQ;rw[kT,qY tk,ex,gN,iY,mR,qv];show _=put _ _ _ _;by_cases e1:i=e.part+1
  ·rw[e1,ap,qY (show((e.part:Int)+1).toNat=e.part+1 by omega),qL]
  ·rw[ai e1,qX (λz=>e1 (by rw[<- z];rfl)),qv]
def bK(f:Nat->List Int):Nat->List Int
 |0=>f 0
 |k+1=>f (k+1)++bK f k
def bS(f:Nat->List Int)(n:Nat):Nat:=bA (λk=>(bK f k).length) n
def d7(xs:List Ln)(i:Nat):List Int:=(bd xs i).2
theorem lT{f g:Nat->Nat}:∀n:Nat,(∀k,k<n->f k<=g k)->bA f n<=bA g n
 |0,_=>qc _
 |n+1,h=>Nat.add_le_add (lT n λk hk=>h k (Qn hk)) (h n (Q8 _))
theorem lS{f g:Nat->Nat}{j:Nat}:∀n:Nat,(∀k,k<n->f k<=g k)->j<n->f j<g j->bA f n<bA g n
 |0,_,hj,_=>Q1 hj (Qv _)
 |n+1,h,hj,lt=>by
  unfold bA;by_cases e:j=n
  ·have:=lT n λk hk=>h k (Qn hk);rw[e]at lt;omega
  ·have:=lS n (λk hk=>h k (Qn hk)) Qz lt;have:=h n (Q8 _);omega
theorem iW{f g:Nat->Nat}:∀n:Nat,(∀k,k<n->f k=g k)->bA f n=bA g n
 |0,_=>rfl
 |n+1,h=>by unfold bA;rw[iW n λk hk=>h k (Qn hk),h n (Q8 _)]
theorem lR{l:Nat->Nat}{m:Nat}:∀i:Nat,i<=m+1->bA (λk=>l k * (m+1-k)) i=bA (λk=>l k * (m-k)) i+bA l i
 |0,_=>rfl
 |i+1,h=>by
  unfold bA;rw[lR i Qz];have e:m+1-i=m-i+1:=Qz;rw[e,Nat.mul_succ];omega
theorem p8{f:Nat->List Int}:∀k:Nat,(bK f k).length=bA (λk=>(f k).length) (k+1)
 |0=>by simp[bK,bA]
 |k+1=>by
  unfold bK;rw[q9,p8 k,bA.eq_2 _ (k+1)];omega
theorem nZ{f:Nat->List Int}:∀n:Nat,bA (λk=>(f k).length * (n-k)) (n+1)=bS f n
 |0=>by simp[bS,bA]
 |n+1=>by
  show bA (λk=>(f k).length * (n+1-k)) (n+1)+(f (n+1)).length * (n+1-(n+1))=bS f n+(bK f n).length;rw[Nat.sub_self,Nat.mul_zero,Nat.add_zero,lR (n+1) (qc _),nZ n,p8 n]
section
variable {n:Nat}{ls:Nat->Option Int}{prt:Nat->PR}{xs:List Ln}{W:WS}{es:List Ent}
theorem Ch.pre(c:Ch n ls xs W es):∀k,k<=n->aQ xs es k <+: bK (d7 xs) k
 |0,_=>by rw[c.h0];exact List.prefix_refl _
 |k+1,h=>by
  rw[c.hs k h];exact(List.prefix_append_right_inj _).mpr ((List.take_prefix _ _).trans (c.pre k Qz))
theorem Ch.tk_le(c:Ch n ls xs W es):∀k,k<n->W.tks k<=(bK (d7 xs) k).length:=λk h=>qw (c.le k) (c.pre k Qz).length_le
theorem Ch.fewer(c:Ch n ls xs W es){k:Nat}(hk:k<n)(ne:W.rows k≠[]):bF es<bS (d7 xs) n:=by
 rw[c.nt];refine lS n c.tk_le hk ?_;have h1:=(c.pre k Qz).length_le;rw[c.rows k]at ne;have:=Nat.lt_of_not_le λz=>ne (List.drop_eq_nil_iff.mpr z);omega
theorem Ch.done(c:Ch n ls xs W es)(hp:∀k,k<n->prt k=chP k)(b1:∀k L,k<=n->ls k=some L->1<=L)(s:pM n ls prt W)(rm:roomV (ls n) ((W.rows n).length:Int)=true):∀k,k<n->W.rows k=[]/\W.post k=none:=by
 have go:∀j k,k<n->n<=k+j->W.rows k=[]/\W.post k=none:=by
  intro j
  induction j with
  |zero=>intro k h1 h2;omega
  |succ j ih=>
   intro k h1 h2
   have rk:roomV (ls (k+1)) ((W.rows (k+1)).length:Int)=true:=by
    by_cases e:k+1=n
    ·rw[e];exact rm
    ·rw[(ih (k+1) Qz Qz).1];unfold roomV
     cases hl:ls (k+1)with
     |none=>rfl
     |some L=>
      have:=b1 (k+1) L Qz hl;exact qZ (by simp;omega)
   have pn:W.post k=none:=by
    cases hq:W.post k with
    |none=>rfl
    |some hs=>
     obtain⟨x,e,_,_⟩:=c.pt k hs hq;obtain⟨p,hm,hr⟩:=s.so k h1 hs hq;rw[e]at hm;rw[qQ.mp hm]at hr;have e2:((k:Int)+1).toNat=k+1:=Qz;change roomV (ls ((k:Int)+1).toNat) ((W.rows ((k:Int)+1).toNat).length:Int)=false at hr;rw[e2,rk]at hr;cases hr
   obtain⟨l,hl,e⟩:=s.no k h1 pn;rw[hp k h1]at hl;have el:l=(k:Int):=qQ.mp hl;rw[el]at e;exact⟨e,pn⟩
 exact λk h=>go n k h Qz
theorem Ch.all(c:Ch n ls xs W es)(d:∀k,k<n->W.rows k=[]/\W.post k=none):(∀k,k<=n->aQ xs es k=bK (d7 xs) k)/\bF es=bS (d7 xs) n:=by
 have e:∀k,k<=n->aQ xs es k=bK (d7 xs) k:=by
  intro k
  induction k with
  |zero=>intro _;exact c.h0
  |succ k ih=>
   intro h;obtain⟨d1,d2⟩:=d k h;rw[c.rows k]at d1;have:=List.drop_eq_nil_iff.mp d1;rw[c.hs k h,gw d2,Nat.sub_zero,List.take_of_length_le this,ih Qz]
   rfl
 refine⟨e,?_⟩;rw[c.nt];refine iW n λk hk=>?_;have d1:=(d k hk).1;rw[c.rows k]at d1;have h1:=List.drop_eq_nil_iff.mp d1;have h2:=c.le k;rw[<- e k Qz];omega
end
def RF(H:Hp)(l:Addr)(f:Nat->List Int)(m:Nat):Prop:=∃fv,H l=some (.lst fv)/\RIs H fv ((List.range m).map f)
theorem RF.same{H H':Hp}{l:Addr}{f:Nat->List Int}{m:Nat}(h:RF H l f m)(s:a8 H H'):RF H' l f m:=let ⟨v,a,b⟩:=h;⟨v,s _ _ a,b.same s⟩
theorem RF.at{H:Hp}{l:Addr}{f:Nat->List Int}{m:Nat}(h:RF H l f m):∃as:List Addr,H l=some (.lst (as.map V.ref))/\as.length=m/\∀k,k<m->∃x,as[k]?=some x/\H x=some (.lst ((f k).map V.int)):=by
 obtain⟨fv,a,r⟩:=h
 have go:∀{vs:List V}{xss:List (List Int)},RIs H vs xss->∃as:List Addr,vs=as.map V.ref/\as.length=xss.length/\∀(k:Nat)(xs:List Int),xss[k]?=some xs->∃x:Addr,as[k]?=some x/\H x=some (.lst (xs.map V.int)):=by
  intro vs xss r
  induction r with
  |nil=>exact⟨[],U,U,λk xs h=>by simp at h⟩
  |@cons p vs xs xss a r ih=>
   obtain⟨as,h1,h2,h3⟩:=ih;refine⟨p::as,by rw[h1];rfl,congrArg (·+1) h2,λk ys h=>?_⟩
   cases k with
   |zero=>cases h;exact⟨p,U,a⟩
   |succ k=>exact h3 k ys (by simpa using h)
 obtain⟨as,h1,h2,h3⟩:=go r;rw[q4,Qb]at h2;exact⟨as,h1▸a,h2,λk hk=>h3 k (f k) (by rw[qC,List.getElem?_range hk];rfl)⟩
inductive mf(K:W.Frag)(vs:List V)(H:Hp)(Q:VK)(E:XK):Prop
 |mk (l:Addr) (ns:List Int) (n:Nat) (h0_:vs=[.ref l,.int n]) (h1_:SqL K H l (ns.map V.int)) (h2_:ns.length<=63) (h3_:n<=6) (h4_:∀H' lf f,a8 H H'->RF H' lf f (n+1)->(∀k,(f k).length<=64/\∀x∈f k,OnW x)->Q (.ref lf) H'):mf K vs H Q E
inductive md(K:W.Frag)(vs:List V)(H:Hp)(Q:VK)(E:XK):Prop
 |mk (l lf:Addr) (ns:List Int) (n:Nat) (f:Nat->List Int) (b:Option Int) (h0_:vs=[.ref l,.ref lf,bg b]) (h1_:SqL K H l (ns.map V.int)) (h2_:RF H lf f (n+1)) (h3_:n<=6) (h4_:(∀k,(f k).length<=64)) (h5_:(∀x,b=some x->1<=x/\x<=3)) (h6_:∀H' ll (g:Nat->Option Int),a8 H H'->H' ll=some (.lst ((List.range (n+1)).map λk=>bg (g k)))->(∀k L,g k=some L->1<=L/\((f k).length:Int)<=L)->(b=none->g n=none)->(b≠none->g n≠none)->Q (.ref ll) H'):md K vs H Q E
inductive m7(K:W.Frag)(vs:List V)(H:Hp)(Q:VK)(E:XK):Prop
 |mk (l:Addr) (ns:List Int) (n:Nat) (h0_:vs=[.ref l,.int n]) (h1_:SqL K H l (ns.map V.int)) (h2_:n<=6) (h3_:∀H' lp f,a8 H H'->RF H' lp f n->(∀k,(f k).length<=4/\∀x∈f k,0<=x)->Q (.ref lp) H'):m7 K vs H Q E
inductive m9(vs:List V)(H:Hp)(Q:VK)(E:XK):Prop
 |mk (lf:Addr) (n:Nat) (f:Nat->List Int) (h0_:vs=[.ref lf]) (h1_:RF H lf f (n+1)) (h2_:n<=6) (h3_:(∀k,(f k).length<=64)) (h4_:Q (.int (bS f n:Nat)) H):m9 vs H Q E
inductive mh(vs:List V)(H:Hp)(Q:VK)(E:XK):Prop
 |mk (lf:Addr) (n k:Nat) (f:Nat->List Int) (h0_:vs=[.ref lf,.int k]) (h1_:RF H lf f (n+1)) (h2_:n<=6) (h3_:k<=n) (h4_:(∀k,(f k).length<=64)) (h5_:∀H' l,a8 H H'->H' l=some (.lst ((bK f k).map V.int))->Q (.ref l) H'):mh vs H Q E
structure yW(n:Nat)(f h t:Nat->List Int)(full:Bool):Prop where
 pre:∀k,k<=n->h k <+: bK f k
 all:full=true->∀k,k<=n->h k=bK f k/\(k<n->t k=[])
 gone:∃g d:Nat->Nat,g n=0/\(∀k,k<=n->t k=(h k).drop (g k)/\g k<=(h k).length)/\∀k,k<n->d k<=1/\d k<=g k/\(h (k+1)).length=(f (k+1)).length+(g k-d k)/\(full=true->d k=0)
inductive me(vs:List V)(H:Hp)(Q:VK)(E:XK):Prop
 |mk (lf lh lt:Addr) (n:Nat) (f h t:Nat->List Int) (full:Bool) (h0_:vs=[.ref lf,.ref lh,.ref lt,.bl full]) (h1_:RF H lf f (n+1)) (h2_:RF H lh h (n+1)) (h3_:RF H lt t (n+1)) (h4_:n<=6) (h5_:(∀k,(f k).length<=64)) (h6_:yW n f h t full) (h7_:∀H',Q (.bl true) H'):me vs H Q E
inductive m6(vs:List V)(H:Hp)(Q:VK)(E:XK):Prop
 |mk (ll lp pc:Addr) (us ps pv:List V) (xs:List Ln) (rs:List PR) (pace:List (List Int)) (way:Int) (need:Nat) (h0_:vs=[.ref ll,.ref lp,.ref pc,.int way,.int need]) (h1_:(0<=way/\way<4)) (h2_:(way=3->1<=need)) (h3_:need<=5000) (h4_:H ll=some (.lst us)) (h5_:RLn H us xs) (h6_:H lp=some (.lst ps)) (h7_:RRs H ps rs) (h8_:H pc=some (.lst pv)) (h9_:RIs H pv pace) (h10_:rs.length<60) (h11_:xs.length<=1000) (h12_:(∀x∈xs,x.2.length<=64)) (h13_:(∀x∈xs,∀n∈x.2,OnW n)) (h14_:pace.length<=1000) (h15_:(∀r∈pace,r.length<=1000)) (h16_:(∀r∈rs,r.ok/\r.fit xs.length)) (h17_:∀H' t S still lg st lgv us',fw H H' t xs rs (if way=0 then[]else pace) (if way<2 then 5000 else if way=2 then need else need-1) S still lg st lgv us'->Q (.ref t) H'):m6 vs H Q E
theorem vG(T:Tx P w K mg a):aC P w K mg base CX0 1 a.Be a.Bf ["_law_firsts_here"] m9:=by
 refine T.BN.ok gP (λvs H Q E h=>?_) (λcdv A outer s H vs Q E hr h=>?_)
 ·obtain⟨_,_,_,rfl,_⟩:=h
  rfl
 obtain⟨lf,n,f,rfl,rf,n6,f64,q⟩:=h
 refine⟨_,(ac (aS (i:=1) gP.nd U Oi aa)
  (ac (cH PassesOwn.never U (d3 U T.xz (a0 (aZ bB U T.ld Q5 (a0 (pq 0) a9)) a9)) (aU (i:=2) gP.nd U Oi)
  (af (aS (i:=1) gP.nd U Oi (ah bH (pq 1) (ah cU (aZ bB U T.ld Q5 (a0 (am aP (pq 0) (pq 2) Oy) a9)) (ah cF (ah cF (aZ bB U T.ld Q5 (a0 (pq 0) a9)) aa) (pq 2)))))))
  (af (ar (pq 1))))),?_⟩
 obtain⟨as,hl,al,hat⟩:=rf.at;have ul:(as.map V.ref).length=n+1:=by rw[q4,al]
 refine⟨_,U,lf,_,U,.inl (SqL.of hl),_,U,by rw[ul];omega,by rw[ul];omega,?_⟩;refine gy (λi σ G=>(∃v2,σ=[some (.ref lf),some (.int (bA (λk=>(f k).length * (n-k)) i:Nat)),v2])/\G=H) ⟨⟨_,U⟩,U⟩ ?_ ?_
 ·rintro i σ G hi ⟨⟨v2,rfl⟩,eG⟩;rw[eG];have il:i<n+1:=by rw[ul]at hi;omega
  obtain⟨x,ax,hx⟩:=hat i il;have e0:(0:Int)+(i:Int)=(i:Int):=Int.zero_add _;dsimp only[aK];rw[e0];refine⟨_,U,_,U,_,U,lf,_,_,_,U,U,SqL.of hl,bO (by rw[qC,ax];rfl),x,_,U,.inl (SqL.of hx),_,U,lf,_,U,.inl (SqL.of hl),_,_,U,U,_,U,_,_,U,U,_,_,U,U,IntMulOk.of_right (intBits_le_64 (by rw[ul];omega) (by rw[ul];omega)),_,_,U,U,⟨some (.int i),?_⟩,U⟩;have e1:(((as.map V.ref).length:Nat):Int)-1-(i:Int)=((n-i:Nat):Int):=by rw[ul];omega
  rw[e1,q4,<- Int.natCast_mul,<- Int.natCast_add]
  rfl
 ·rintro σ G ⟨⟨v2,rfl⟩,eG⟩;rw[eG];have e1:((as.map V.ref).length:Int).toNat=n+1:=by rw[ul];omega
  rw[e1,nZ];exact⟨_,U,q⟩
theorem yf(xs:List V){n:Int}(h0:0<=n)(h1:n<=xs.length):bT xs none (some n)=xs.take n.toNat:=by
 unfold bT;have e1:HT.sIx xs.length 0 none=0:=U
 have e2:HT.sIx xs.length xs.length (some n)=n.toNat:=by
  have:=HT.sIx_nat xs.length xs.length n.toNat;rw[Int.toNat_of_nonneg h0]at this;rw[this];omega
 rw[e1,e2,List.drop_zero,Nat.sub_zero]
def db(f:Nat->List Int)(k:Nat):Nat->List Int
 |0=>[]
 |i+1=>db f k i++f (k-i)
theorem pG{f:Nat->List Int}{k:Nat}:∀i:Nat,db f (k+1) (i+1)=f (k+1)++db f k i
 |0=>(qv _).symm
 |i+1=>by
  rw[db,pG i,db,qL,show k+1-(i+1)=k-i by omega]
theorem kN{f:Nat->List Int}:∀k:Nat,db f k (k+1)=bK f k
 |0=>rfl
 |k+1=>by rw[pG,kN k];rfl
theorem kM{f:Nat->List Int}{k:Nat}(h:∀k,(f k).length<=64):∀i:Nat,(db f k i).length<=64 * i
 |0=>qc _
 |i+1=>by
  have:=kM h (k:=k) i;have:=h (k-i);rw[db,q9];omega
theorem yx{f:Nat->List Int}{k:Nat}(h:∀k,(f k).length<=64):(bK f k).length<=64 * (k+1):=by rw[<- kN];exact kM h _
theorem nT(T:Tx P w K mg a):aC P w K mg base CX0 1 a.Bg a.Bh ["_law_firsts_here","_law_k"] mh:=by
 refine T.Br.ok gS (λvs H Q E h=>?_) (λcdv A outer s H vs Q E hr h=>?_)
 ·obtain⟨_,_,_,_,rfl,_⟩:=h
  rfl
 obtain⟨lf,n,k,f,rfl,rf,n6,kn,f64,q⟩:=h
 refine⟨_,(ac (aS (i:=2) gS.nd U Oi (bI a9))
  (ac (cH PassesOwn.never U (uM U T.DI (a0 (dY eS (pq 0) eY (dJ (ah bH (pq 1) aa))) a9)) (aU (i:=3) gS.nd U Oi)
  (af (aS (i:=2) gS.nd U Oi (ah fW (pq 2) (pq 3)))))
  (af (ar (pq 2))))),?_⟩
 obtain⟨as,hl,al,hat⟩:=rf.at;refine⟨ln0,λl1 hl1=>?_⟩;have s1:=a8.new hl1 (.lst []);dsimp only[aK];refine⟨_,U,_,U,_,_,U,U,_,U,lf,_,U,SqL.of (s1 _ _ hl),λl2 hl2=>?_⟩
 have ec:bT (as.map V.ref) none (some ((k:Int)+1))=(as.take (k+1)).map V.ref:=by
  rw[yf _ Qz (by rw[q4,al];omega),show((k:Int)+1).toNat=k+1 by omega,List.map_take]
 rw[ec];have s2:=a8.new hl2 (.lst ((as.take (k+1)).map V.ref));have h2:(upd (upd H l1 (.lst [])) l2 (.lst ((as.take (k+1)).map V.ref))) l2=some (.lst ((as.take (k+1)).map V.ref)):=ae;have h1:(upd (upd H l1 (.lst [])) l2 (.lst ((as.take (k+1)).map V.ref))) l1=some (.lst []):=s2 _ _ ae;have s12:=s1.trans s2;generalize upd (upd H l1 (.lst [])) l2 (.lst ((as.take (k+1)).map V.ref))=H2 at s12 h1 h2;refine⟨l2,_,U,SqL.of h2,?_⟩;have tl:(as.take (k+1)).length=k+1:=by rw[qI,al];omega
 refine xY (K:=K) (a:=l2) (xs:=(as.take (k+1)).map V.ref) (λi σ G=>∃lr v3,σ=[some (.ref lf),some (.int k),some (.ref lr),v3]/\a8 H2 G/\G lr=some (.lst ((db f k i).map V.int))) ⟨l1,_,U,a8.refl _,h1⟩ ?_ ?_ ?_
 ·rintro i σ G ⟨_,_,_,sg,_⟩;exact SqL.of (sg _ _ h2)
 ·rintro i y σ G hy ⟨lr,v3,rfl,sg,hr⟩
  have il:i<k+1:=by
   have:=(qd.mp hy).1
   rwa [List.length_reverse,q4,tl]at this
  rw[List.getElem?_reverse (by rw[q4,tl];exact il),q4,tl]at hy;obtain⟨x,ax,hx⟩:=hat (k-i) Qz
  have ey:y=.ref x:=by
   rw[qC,List.getElem?_take_of_lt Qz,show k+1-1-i=k-i by omega,ax]at hy;exact(qH hy).symm
  subst ey;have bl:=kM (k:=k) f64 i;have fl:=f64 (k-i);refine⟨_,U,_,U,lr,x,_,_,U,U,SqL.of hr,SqL.of (sg _ _ (s12 _ _ hx)),bq (m:=1000) (by rw[q4,q4];omega),λp hp=>?_⟩;exact⟨p,_,U,sg.trans (a8.new hp _),by rw[ae,db,qM]⟩
 ·rintro σ G ⟨lr,v3,rfl,sg,hr⟩;rw[q4,tl,kN]at hr;exact⟨_,U,q _ lr (s12.trans sg) hr⟩
theorem vE(T:Tx P w K mg a):aC P w K mg base CX0 8 a.Bk a.Bl ["_law_lines","_law_parts","_law_pace_here","_law_way","_law_needed_here"] m6:=by
 refine T.BR.ok tz (λvs H Q E h=>?_) (λcdv A outer s H vs Q E hr h=>?_)
 ·obtain⟨_,_,_,_,_,_,_,_,_,_,_,rfl,_⟩:=h
  rfl
 obtain⟨ll,lp,pc,us,ps,pv,xs,rs,pace,way,need,rfl,⟨w0,w4⟩,w3,n5,hll,rln,hlp,rrs,hpc,ris,r60,x1000,fl,fo,p1000,pr,okr,q⟩:=h
 refine⟨_,(ac (aX (aF ba (pq 3) aa (aB _)) (af (ar (bv (i7 T) (hr.mono Qy) U T.zD T.zr.kp T.Do (show aq [.non,.int 5000] [.none,.int 5000 a.zq]from .cons U (.cons ⟨_,U⟩ .nil)) aE (a0 (pq 0) (a0 (pq 1) a9))))) aW)
  (ac (aX (aF ba (pq 3) aa (aB _)) (af (ar (bv (i7 T) (hr.mono Qy) U T.zD T.zr.kp T.Dn (show aq [.int 5000] [.int 5000 a.zq]from .cons ⟨_,U⟩ .nil) aE (a0 (pq 0) (a0 (pq 1) (a0 (pq 2) a9)))))) aW)
  (ac (aX (aF ba (pq 3) aa (aB _)) (af (ar (bv (i7 T) (hr.mono Qy) U T.zD T.zr.kp T.BG .nil aE (a0 (pq 0) (a0 (pq 1) (a0 (pq 2) (a0 (pq 4) a9))))))) aW)
  (af (ar (bv (i7 T) (hr.mono Qy) U T.zD T.zr.kp T.BG .nil aE (a0 (pq 0) (a0 (pq 1) (a0 (pq 2) (a0 (ah cF (pq 4) aa) a9)))))))))),?_⟩
 have go:∀(v:V)(p:List (List Int))(m:Nat),RPc H v p->p.length<=1000->(∀r∈p,r.length<=1000)->m<=5000->p=(if way=0 then[]else pace)->m=(if way<2 then 5000 else if way=2 then need else need-1)->iX a [.ref ll,.ref lp,v,.int m] H Q E0:=λv p m h1 h2 h3 h4 h5 h6=>⟨ll,lp,v,us,ps,xs,rs,p,m,U,hll,rln,hlp,rrs,h1,r60,x1000,fl,fo,h2,h3,okr,h4,λH' t S still lg st lgv us' td=>q _ _ _ _ _ _ _ _ (h5▸h6▸td)⟩;have rp:RPc H (.ref pc) pace:=.inr ⟨pc,pv,U,hpc,ris⟩;obtain rfl|rfl|rfl|rfl:way=0\/way=1\/way=2\/way=3:=Qz
 ·exact⟨_,U,U,_,U,bC Qy ⟨_,U,_,U,go .non [] 5000 (.inl ⟨U,U⟩) Qy (λ_ h=>(nomatch h)) (by decide) U U⟩⟩
 ·refine⟨_,U,U,_,U,aI Qy ?_⟩;dsimp only[ck];exact⟨_,U,U,_,U,bC Qy ⟨_,U,_,U,_,U,go (.ref pc) pace 5000 rp p1000 pr Qy U U⟩⟩
 ·refine⟨_,U,U,_,U,aI Qy ?_⟩;dsimp only[ck];refine⟨_,U,U,_,U,aI Qy ?_⟩;dsimp only[ck];exact⟨_,U,U,_,U,bC Qy ⟨_,U,_,U,_,U,_,U,go (.ref pc) pace need rp p1000 pr n5 U U⟩⟩
 ·refine⟨_,U,U,_,U,aI Qy ?_⟩;dsimp only[ck];refine⟨_,U,U,_,U,aI Qy ?_⟩;dsimp only[ck];refine⟨_,U,U,_,U,aI Qy ?_⟩;dsimp only[ck];have e1:(need:Int)-1=((need-1:Nat):Int):=by have:=w3 U;omega
  refine⟨_,U,_,U,_,U,_,U,_,_,U,U,?_⟩;rw[e1];exact go (.ref pc) pace (need-1) rp p1000 pr Qz U U
theorem yh(xs:List V){n:Nat}(h1:n<=xs.length):bT xs (some (n:Int)) none=xs.drop n:=by
 unfold bT
 have e1:HT.sIx xs.length 0 (some (n:Int))=n:=by
  rw[HT.sIx_nat];omega
 have e2:HT.sIx xs.length xs.length none=xs.length:=U;rw[e1,e2];exact List.take_of_length_le (by rw[qW];omega)
theorem vI(T:Tx P w K mg a):aC P w K mg base CX0 2 a.Bi a.Bj ["_law_firsts_here","_law_hist","_law_left","_law_full"] me:=by
 refine T.BQ.ok fN (λvs H Q E h=>?_) (λcdv A outer s H vs Q E hr h=>?_)
 ·obtain⟨_,_,_,_,_,_,_,_,rfl,_⟩:=h
  rfl
 obtain⟨lf,lh,lt,n,f,h,t,full,rfl,rf,rh,rt,n6,f64,fe,q⟩:=h
 refine⟨_,(ac (cH PassesOwn.never U (d3 U T.xz (a0 (aZ bB U T.ld Q5 (a0 (pq 0) a9)) a9)) (aU (i:=4) fN.nd U Oi)
  (ac (aS (i:=5) fN.nd U Oi (bv (nT T) (hr.mono Qy) U T.BP T.Br.kp T.BO .nil aE (a0 (pq 0) (a0 (pq 4) a9))))
  (ac (aX (PW.pt (cY (dX (df (aZ fY U T.zw PyProof.Rows.Boot.«isinstance» (a0 (am aP (pq 1) (pq 4) Oy) (a0 (gf (v:=.ty "list") U T.wP PyProof.Rows.Boot.«list» rfl) a9))))) (cY (dX (df (aZ fY U T.zw PyProof.Rows.Boot.«isinstance» (a0 (am aP (pq 2) (pq 4) Oy) (a0 (gf (v:=.ty "list") U T.wP PyProof.Rows.Boot.«list» rfl) a9))))) (dW (aF (gg hr.units) (am aP (pq 1) (pq 4) Oy) (dY eS (pq 5) eY (dJ (aZ bB U T.ld Q5 (a0 (am aP (pq 1) (pq 4) Oy) a9)))) (aB _)))))) (af (ar cq)) aW)
  (ac (aX (PW.pt (hV (df (pq 3)) (hU (aF (gg hr.units) (am aP (pq 1) (pq 4) Oy) (pq 5) (aB _))))) (af (ar cq)) aW)
  (ac (aS (i:=6) fN.nd U Oi (ah cF (aZ bB U T.ld Q5 (a0 (am aP (pq 1) (pq 4) Oy) a9)) (aZ bB U T.ld Q5 (a0 (am aP (pq 2) (pq 4) Oy) a9))))
  (ac (aX (PW.pt (cY (aF hE (pq 6) aa (aB _)) (dW (aF (gg hr.units) (am aP (pq 2) (pq 4) Oy) (dY eS (am aP (pq 1) (pq 4) Oy) (dJ (pq 6)) eY) (aB _))))) (af (ar cq)) aW)
  (ac (aX (aF ba (pq 4) (ah cF (aZ bB U T.ld Q5 (a0 (pq 0) a9)) aa) (aB _)) (af (ar (eZ ba (pq 6) aa (aB _)))) aW)
  (ac (aS (i:=7) fN.nd U Oi (ah cF (ah bH (pq 6) (aZ bB U T.ld Q5 (a0 (am aP (pq 0) (ah bH (pq 4) aa) Oy) a9))) (aZ bB U T.ld Q5 (a0 (am aP (pq 1) (ah bH (pq 4) aa) Oy) a9))))
  (af (aX (PW.pt (cY (aF vg (pq 7) (cw (a0 aa (a0 aa a9))) (by with_unfolding_all rfl)) (dW (PW.pt (hV (df (pq 3)) (hU (PW.pt (cY (aF gZ (pq 7) aa (aB _)) (dW (aF (gg hr.units) (am aP (pq 2) (pq 4) Oy) (bI a9) (aB _))))))))))) (af (ar cq)) aW))))))))))
  (af (ar cq))),?_⟩
 obtain⟨as,hl,al,hat⟩:=rf.at;obtain⟨bs,hb,bl,hbt⟩:=rh.at;obtain⟨cs,hc,cl,hct⟩:=rt.at;have ul:(as.map V.ref).length=n+1:=by rw[q4,al]
 obtain⟨g,d,gn,gt,gd⟩:=fe.gone;refine⟨_,U,lf,_,U,.inl (SqL.of hl),_,U,by rw[ul];omega,by rw[ul];omega,?_⟩;refine gy (λi σ G=>(∃v4 v5 v6 v7,σ=[some (.ref lf),some (.ref lh),some (.ref lt),some (.bl full),v4,v5,v6,v7])/\a8 H G/\i<=n) ⟨⟨_,_,_,_,U⟩,a8.refl _,qq _⟩ ?_ ?_
 rotate_left
 ·rintro σ G ⟨_,_,z⟩;rw[ul]at z;omega
 rintro i σ G hi ⟨⟨v4,v5,v6,v7,rfl⟩,sg,il⟩;have e0:(0:Int)+(i:Int)=(i:Int):=Int.zero_add _;dsimp only[aK];rw[e0];refine⟨_,U,_,U,lf,n,i,f,U,rf.same sg,n6,il,f64,λH1 lc s1 hc1=>?_⟩;have s01:=sg.trans s1;dsimp only[aK];obtain⟨xa,ax,hxa⟩:=hat i Qz;obtain⟨xb,bx,hxb⟩:=hbt i Qz;obtain⟨xc,cx,hxc⟩:=hct i Qz;have ixb:atI (bs.map V.ref) (i:Int)=some (.ref xb):=bO (by rw[qC,bx];rfl);have ixc:atI (cs.map V.ref) (i:Int)=some (.ref xc):=bO (by rw[qC,cx];rfl);refine⟨_,U,_,U,lh,_,_,_,U,U,SqL.of (s01 _ _ hb),ixb,_,_,_,_,U,.lst (s01 _ _ hxb),by rfl,_,U,aI U ?_⟩;refine⟨_,U,_,U,lt,_,_,_,U,U,SqL.of (s01 _ _ hc),ixc,_,_,_,_,U,.lst (s01 _ _ hxc),by rfl,_,U,aI U ?_⟩;refine⟨_,U,_,U,lh,_,_,_,U,U,SqL.of (s01 _ _ hb),ixb,_,U,_,U,_,U,lh,_,_,_,U,U,SqL.of (s01 _ _ hb),ixb,xb,_,U,.inl (SqL.of (s01 _ _ hxb)),_,U,lc,_,U,SqL.of hc1,λl2 hl2=>?_⟩;have pr:=fe.pre i il
 have cf:bT ((bK f i).map V.int) none (some (((h i).map V.int).length:Int))=(h i).map V.int:=by
  have le:=pr.length_le;rw[yg _ Qz (by rw[q4];omega),q4,qV,<- List.prefix_iff_eq_take.mp pr]
 rw[cf];have s2:=a8.new hl2 (.lst ((h i).map V.int));have h2:(upd H1 l2 (.lst ((h i).map V.int))) l2=some (.lst ((h i).map V.int)):=ae;have hc2:=s2 _ _ hc1;have s02:=s01.trans s2;generalize upd H1 l2 (.lst ((h i).map V.int))=H2 at s2 h2 hc2 s02;have sh:∀xs:List Int,Shp 1 (.list (xs.map PyData.int)):=λxs=>.lst (gL _);refine⟨_,_,.lst (SqL.of (s02 _ _ hxb)) (d8 _),.lst (SqL.of h2) (d8 _),(sh _).shaped Qy,(sh _).shaped Qy,_,U,?_⟩;rw[iC (sh _) Qy];refine aI U ?_;dsimp only[ck];refine fJ (λσ' G'=>σ'=[some (.ref lf),some (.ref lh),some (.ref lt),some (.bl full),some (.int i),some (.ref lc),v6,v7]/\G'=H2) ?_ ?_
 rotate_left
 ·intro N hN;refine⟨_,U,_,U,?_⟩
  cases full with
  |false=>exact aI U (aI U (hN _ _ ⟨U,U⟩))
  |true=>
   refine bC U ⟨_,U,_,U,lh,_,_,_,U,U,SqL.of (s02 _ _ hb),ixb,_,U,_,_,.lst (SqL.of (s02 _ _ hxb)) (d8 _),.lst (SqL.of hc2) (d8 _),(sh _).shaped Qy,(sh _).shaped Qy,_,U,?_⟩;rw[(fe.all U i il).1,iC (sh _) Qy];exact aI U (hN _ _ ⟨U,U⟩)
 rintro σ' G1 ⟨rfl,rfl⟩;obtain⟨et,gl⟩:=gt i il;refine⟨_,U,_,U,lh,_,_,_,U,U,SqL.of (s02 _ _ hb),ixb,xb,_,U,.inl (SqL.of (s02 _ _ hxb)),_,U,_,U,lt,_,_,_,U,U,SqL.of (s02 _ _ hc),ixc,xc,_,U,.inl (SqL.of (s02 _ _ hxc)),_,_,U,U,?_⟩
 have eg:((((h i).map V.int).length:Nat):Int)-((((t i).map V.int).length:Nat):Int)=(g i:Int):=by
  rw[et,q4,q4,qW];omega
 rw[eg];dsimp only[aK];refine⟨_,U,_,_,U,U,_,U,aI (Q0 Qz) ?_⟩;refine⟨_,U,_,U,lt,_,_,_,U,U,SqL.of (s02 _ _ hc),ixc,_,U,_,U,lh,_,_,_,U,U,SqL.of (s02 _ _ hb),ixb,_,U,_,U,xb,_,U,SqL.of (s02 _ _ hxb),λl3 hl3=>?_⟩;rw[yh _ (by rw[q4];exact gl),<- List.map_drop,<- et];have s3:=a8.new hl3 (.lst ((t i).map V.int));have h3:(upd G1 l3 (.lst ((t i).map V.int))) l3=some (.lst ((t i).map V.int)):=ae;have s03:=s02.trans s3;generalize upd G1 l3 (.lst ((t i).map V.int))=H3 at s3 h3 s03;refine⟨_,_,.lst (SqL.of (s03 _ _ hxc)) (d8 _),.lst (SqL.of h3) (d8 _),(sh _).shaped Qy,(sh _).shaped Qy,_,U,?_⟩;rw[iC (sh _) Qy];refine aI U ?_;dsimp only[ck];refine⟨_,U,_,U,lf,_,U,.inl (SqL.of (s03 _ _ hl)),_,_,U,U,U,_,U,?_⟩;rw[ul];by_cases en:i=n
 ·refine bC (qZ (by rw[en];congr 1;omega)) ⟨_,U,U,?_⟩;rw[en,gn];exact q _
 refine aI (Q0 (λz=>en (by have:=V.int.inj z;omega))) ?_;dsimp only[ck];have iln:i<n:=Qz;obtain⟨xd,adx,hxd⟩:=hat (i+1) Qz;obtain⟨xe,bex,hxe⟩:=hbt (i+1) Qz;have ixd:atI (as.map V.ref) ((i:Int)+1)=some (.ref xd):=bO (j:=i+1) (by rw[qC,adx];rfl);have ixe:atI (bs.map V.ref) ((i:Int)+1)=some (.ref xe):=bO (j:=i+1) (by rw[qC,bex];rfl);refine⟨_,U,_,U,_,U,_,_,U,U,lf,_,_,_,U,U,SqL.of (s03 _ _ hl),ixd,xd,_,U,.inl (SqL.of (s03 _ _ hxd)),_,_,U,U,_,U,_,U,_,_,U,U,lh,_,_,_,U,U,SqL.of (s03 _ _ hb),ixe,xe,_,U,.inl (SqL.of (s03 _ _ hxe)),_,_,U,U,?_⟩;obtain⟨d1,dg,hd,dz⟩:=gd i iln
 have eu:(g i:Int)+((((f (i+1)).map V.int).length:Nat):Int)-((((h (i+1)).map V.int).length:Nat):Int)=(d i:Int):=by
  rw[q4,q4,hd];omega
 rw[eu];dsimp only[aK]
 have inb:(!inV (V.int (d i:Int)) [.int 0,.int 1])=false:=by
  obtain e|e:d i=0\/d i=1:=Qz
  ·rw[e];rfl
  ·rw[e];rfl
 refine⟨_,U,ln2,λtp htp=>⟨tp,_,U,.inr (SqT.of ae),U,U,_,U,aI inb ?_⟩⟩;have s4:=a8.new htp (.tup [V.int 0,.int 1]);have s04:=s03.trans s4;refine⟨_,U,_,U,?_⟩
 cases full with
 |false=>exact aI U (aI U ⟨⟨_,_,_,_,U⟩,s04,iln⟩)
 |true=>
  have te:=(fe.all U i il).2 iln;rw[te]at hxc;refine bC U ⟨_,U,U,_,U,aI (by rw[dz U];rfl) ?_⟩;refine⟨_,U,_,U,lt,_,_,_,U,U,SqL.of (s04 _ _ hc),ixc,ln0,λle hle=>?_⟩;have s5:=a8.new hle (.lst []);refine⟨_,.list [],.lst (SqL.of (s5 _ _ (s04 _ _ hxc))) .nil,.lst (SqL.of ae) .nil,Qx,Qx,_,U,?_⟩;exact aI Qx ⟨⟨_,_,_,_,U⟩,s04.trans s5,iln⟩
structure Bld(H G:Hp)(lo:Addr)(as:List Addr)(f:Nat->List Int):Prop where
 sa:a8 H G
 no:H lo=none
 hl:G lo=some (.lst (as.map V.ref))
 rw:∀(k:Nat)(x:Addr),as[k]?=some x->x≠lo/\G x=some (.lst ((f k).map V.int))
theorem Bld.add{H G G':Hp}{lo x:Addr}{as:List Addr}{f:Nat->List Int}{ys:List Int}(B:Bld H G lo as f)(s:a8 G G')(hx:G' x=some (.lst (ys.map V.int)))(no:G x=none):Bld H (upd G' lo (.lst (as.map V.ref++[.ref x]))) lo (as++[x]) (put f as.length ys):=by
 have xl:x≠lo:=λz=>by rw[z,B.hl]at no;cases no
 refine⟨λp o h=>?_,B.no,by rw[ae,qM];rfl,λk y hk=>?_⟩
 ·have pl:p≠lo:=λz=>by rw[z,B.no]at h;cases h
  rw[ag pl];exact s _ _ (B.sa _ _ h)
 ·rcases Nat.lt_trichotomy k as.length with c|c|c
  ·rw[Q3 c]at hk;obtain⟨h1,h2⟩:=B.rw k y hk;exact⟨h1,by rw[ag h1,ai Qz];exact s _ _ h2⟩
  ·rw[qJ Qz,c,Nat.sub_self]at hk;cases hk;exact⟨xl,by rw[ag xl,c,ap];exact hx⟩
  ·rw[qJ Qz,Qm (by rw[Q4];omega)]at hk;cases hk
theorem Bld.rf{H G:Hp}{lo:Addr}{f:Nat->List Int}:∀{as:List Addr},Bld H G lo as f->RF G lo f as.length:=λ{as} B=>by
 refine⟨_,B.hl,?_⟩
 have go:∀(bs:List Addr)(j:Nat),(∀(k:Nat)(x:Addr),bs[k]?=some x->G x=some (.lst ((f (j+k)).map V.int)))->RIs G (bs.map V.ref) ((List.range' j bs.length).map f):=by
  intro bs
  induction bs with
  |nil=>intro j _;exact .nil
  |cons b bs ih=>
   intro j h;refine .cons (h 0 b U) (ih (j+1) λk x hk=>?_);have:=h (k+1) x (by simpa using hk)
   rwa [show j+(k+1)=j+1+k by omega]at this
 have:=go as 0 λk x hk=>by rw[Nat.zero_add];exact(B.rw k x hk).2
 rwa [<- List.range_eq_range']at this
theorem vF(T:Tx P w K mg a):aC P w K mg base CX0 2 a.Bc a.Bd ["_law_script","_law_many"] (m7 K):=by
 refine T.BM.ok fK (λvs H Q E h=>?_) (λcdv A outer s H vs Q E hr h=>?_)
 ·obtain⟨_,_,_,rfl,_⟩:=h
  rfl
 obtain⟨l,ns,n,rfl,hl,n6,q⟩:=h
 refine⟨_,(ac (aS (i:=2) fK.nd U Oi (bI a9))
  (ac (cH PassesOwn.never U (d3 U T.xz (a0 (pq 1) a9)) (aU (i:=3) fK.nd U Oi)
  (ac (aS (i:=4) fK.nd U (Or.inr U) (bv (gj T) (hr.mono Qy) U T.zv T.zj.kp T.zu .nil aE (a0 (bv (i8 T) (hr.mono Qy) U T.zF T.zt.kp T.zE .nil aE (a0 (pq 0) (a0 aa a9))) (a0 (pq 3) a9))))
  (ac (hX (i:=5) fK.nd U Oi (k:=1) (Nc:=["_law_j","_law_m"]) (js:=[4]) (show aO (aj gU) ["_law_script","_law_many","_law_out","_law_k","_law_m","_law_row"] _ 1 ["_law_j","_law_m"] [4]from aO.mk U (by decide +kernel) (by decide +kernel) (by decide +kernel) U (by decide +kernel)) U (d3 U T.xz (a0 (ah bD (pq 4) aa) a9)) (λ_ _ _ _ _=>(aU (i:=0) (show List.Nodup (["_law_j","_law_m"]:List Str)from by decide +kernel) U Oi)) (λ_ _ _ _ _=>c4) (λ_ _ _ _ _=>(ah bD (ah dI (pq 1) (ah bH aa (ah cU aa (pq 0)))) aa)))
  (ac (aX (aF ba (ah bD (ah dI (pq 4) aa) aa) aa (aB _)) (af (bQ (cI qe qt qu cX (pq 5) (a0 (ah bD (ah dI (pq 4) aa) (ah gm aa aa)) a9)))) aW)
  (af (bQ (cI qe qt qu cX (pq 2) (a0 (pq 5) a9))))))))
  (af (ar (pq 2))))),?_⟩
 refine⟨ln0,λlo hlo=>?_⟩;dsimp only[aK];refine⟨_,U,_,U,Qz,Qz,?_⟩;refine gy (λi σ G=>(∃v3 v4 v5,σ=[some (.ref l),some (.int n),some (.ref lo),v3,v4,v5])/\∃as f,Bld H G lo as f/\as.length=i/\∀k,(f k).length<=4/\∀x∈f k,0<=x) ⟨⟨_,_,_,U⟩,[],λ_=>[],⟨a8.new hlo _,hlo,ae,λk x h=>by simp at h⟩,U,λk=>⟨qq _,λ_ h=>(nomatch h)⟩⟩ ?_ ?_
 ·rintro i σ G hi ⟨⟨v3,v4,v5,rfl⟩,as,f,B,el,fk⟩;have e0:(0:Int)+(i:Int)=(i:Int):=Int.zero_add _;dsimp only[aK];rw[e0];refine⟨_,U,l,ns,3,U,B.sa.seq hl,Qy,λc=>⟨_,U,c,i,U,⟨Qz,Qz⟩,λm m0 m1=>?_⟩⟩;dsimp only[aK];refine⟨_,U,_,_,U,U,Qy,_,U,Qz,Qz,?_⟩;refine gB (λj ys σ H3=>(∃v,σ=[v,some (.int m)])/\H3=G/\∃xs:List Int,ys=xs.map V.int/\xs.length=j/\∀x∈xs,0<=x) ⟨⟨none,U⟩,U,[],U,U,λ_ h=>(nomatch h)⟩ ?_ (bq (m:=100) Qz) ?_ ?_
  ·rintro j ys σ H3 _ ⟨_,_,xs,rfl,h,_⟩;rw[q4,h];exact qc _
  ·rintro j ys σ H3 hj ⟨⟨v,rfl⟩,rfl,xs,rfl,hl',ho⟩;refine⟨_,U,_,U,_,_,U,U,IntMulOk.of_bits (gF ⟨Qy,Qy⟩) (gF ⟨Qz,Qz⟩),_,_,U,U,_,_,U,U,⟨Qz,Qz⟩,_,_,U,U,Qy,⟨_,U⟩,U,xs++[_],by rw[qM];rfl,by rw[q9,hl'];rfl,λn hn=>?_⟩;rcases qf.mp hn with hn|hn
   ·exact ho n hn
   ·rw[qQ.mp hn];exact Q7 _ Qy
  rintro ys σ3 H3 ⟨_,eG,xs,rfl,xl,ho⟩ lr hlr;rw[eG]at hlr ⊢;have sr:=a8.new hlr (.lst (xs.map V.int));have hr:(upd G lr (.lst (xs.map V.int))) lr=some (.lst (xs.map V.int)):=ae;dsimp only[aK];refine fJ (λσ' G'=>σ'=[some (.ref l),some (.int n),some (.ref lo),some (.int i),some (.int m),some (.ref lr)]/\∃ys:List Int,a8 G G'/\G' lr=some (.lst (ys.map V.int))/\ys.length<=4/\∀y∈ys,0<=y) ?_ ?_
  rotate_left
  ·intro N hN;refine⟨_,U,_,_,U,U,⟨Qy,Qy⟩,_,_,U,U,Qy,U,_,U,bJ (λcc=>?_) (λcc=>?_)⟩
   ·refine⟨_,U,.inl ⟨U,_,SqL.of hr⟩,_,U,_,_,U,U,⟨Qy,Qy⟩,_,_,U,U,⟨Qy,Qy,Qy⟩,_,_,U,U,Qy,lr,_,_,U,U,hr,bq (m:=1000) (by rw[q4];omega),?_⟩;refine hN _ _ ⟨U,xs++[_],?_,by rw[ae,qM];rfl,by rw[q9,Q4];omega,λy hy=>?_⟩
    ·refine λp o h=>?_;have pl:p≠lr:=λz=>by rw[z,hlr]at h;cases h
     rw[ag pl];exact sr _ _ h
    ·rcases qf.mp hy with hy|hy
     ·exact ho y hy
     ·rw[qQ.mp hy];exact Q7 _ Qy
   ·exact hN _ _ ⟨U,xs,sr,hr,Qz,ho⟩
  rintro σ' G1 ⟨rfl,ys,sg,hy,yl,yo⟩;have hl1:=sg _ _ B.hl;refine⟨_,U,.inl ⟨U,_,SqL.of hl1⟩,_,U,lo,_,_,U,U,hl1,bq (m:=1000) (by rw[q4];omega),?_⟩;refine⟨⟨_,_,_,U⟩,as++[lr],put f as.length ys,B.add sg hy hlr,by rw[q9,el];rfl,λk=>?_⟩;by_cases e:k=as.length
  ·rw[e,ap];exact⟨yl,yo⟩
  ·rw[ai e];exact fk k
 ·rintro σ G ⟨⟨v3,v4,v5,rfl⟩,as,f,B,el,fk⟩;have r:=B.rf;rw[el,qV]at r;exact⟨_,U,q _ lo f B.sa r fk⟩
theorem vJ(T:Tx P w K mg a):aC P w K mg base CX0 2 a.B3 a.B7 ["_law_script","_law_many"] (mf K):=by
 refine T.BK.ok gR (λvs H Q E h=>?_) (λcdv A outer s H vs Q E hr h=>?_)
 ·obtain⟨_,_,_,rfl,_⟩:=h
  rfl
 obtain⟨l,ns,n,rfl,hl,n63,n6,q⟩:=h
 refine⟨_,(ac (aS (i:=2) gR.nd U Oi (bI (a0 (cm (k:=2) (Nc:=["_law_k","_law_cell_here"]) (js:=[]) (show aO (aj fQ) ["_law_script","_law_many","_law_out","_law_k","_law_m"] _ 2 ["_law_k","_law_cell_here"] []from aO.mk U (by decide +kernel) (by decide +kernel) (by decide +kernel) U (by decide +kernel)) U (uO U T.DH (a0 (dY eS (pq 0) (dJ aa) (dJ aa)) a9)) (λ_ _ _ _ _=>(gc 2 U (bZ (aU (i:=0) (show List.Nodup (["_law_k","_law_cell_here"]:List Str)from by decide +kernel) U Oi) (bZ (aU (i:=1) (show List.Nodup (["_law_k","_law_cell_here"]:List Str)from by decide +kernel) U Oi) dL)))) (λ_ _ _ _ _=>c4) (λ_ _ _ _ _=>(bv (nS T) (hr.mono Qy) U T.BJ T.Bq.kp T.BI .nil aE (a0 (pq 1) (a0 (ah bD (bv (gj T) (hr.mono Qy) U T.zv T.zj.kp T.zu .nil aE (a0 (pq 1) (a0 (pq 0) a9))) aa) a9))))) a9)))
  (ac (cH PassesOwn.never U (d3 U T.xz (a0 (pq 1) a9)) (aU (i:=3) gR.nd U Oi)
  (ac (aS (i:=4) gR.nd U (Or.inr U) (bv (gj T) (hr.mono Qy) U T.zv T.zj.kp T.zu .nil aE (a0 (bv (i8 T) (hr.mono Qy) U T.zF T.zt.kp T.zE .nil aE (a0 (pq 0) (a0 aa a9))) (a0 (pq 3) a9))))
  (af (bQ (cI qe qt qu cX (pq 2) (a0 (cm (k:=1) (Nc:=["_law_j","_law_m"]) (js:=[4]) (show aO (aj fQ) ["_law_script","_law_many","_law_out","_law_k","_law_m"] _ 1 ["_law_j","_law_m"] [4]from aO.mk U (by decide +kernel) (by decide +kernel) (by decide +kernel) U (by decide +kernel)) U (d3 U T.xz (a0 (ah bD (pq 4) aa) a9)) (λ_ _ _ _ _=>(aU (i:=0) (show List.Nodup (["_law_j","_law_m"]:List Str)from by decide +kernel) U Oi)) (λ_ _ _ _ _=>c4) (λ_ _ _ _ _=>(bv (nS T) (hr.mono Qy) U T.BJ T.Bq.kp T.BI .nil aE (a0 (ah bH (pq 1) (pq 0)) (a0 (ah bH (ah dI (pq 1) aa) (pq 0)) a9))))) a9))))))
  (af (ar (pq 2))))),?_⟩
 obtain⟨ys,ey,_,yl⟩:=ye ns (some 5) (some 65);refine⟨_,U,_,U,_,U,l,_,U,hl,λp hp=>?_⟩;rw[ey];refine⟨p,_,U,SqL.of ae,?_⟩;have s1:=a8.new hp (.lst (ys.map V.int));have hp1:upd H p (.lst (ys.map V.int)) p=some (.lst (ys.map V.int)):=ae;generalize upd H p (.lst (ys.map V.int))=H1 at s1 hp1;refine yu (K:=K) (l:=p) (xs:=ys.map V.int) (λi zs σ G=>(∃v v',σ=[v,v'])/\a8 H1 G/\∃xs:List Int,zs=xs.map V.int/\xs.length=i/\∀x∈xs,OnW x) ⟨⟨_,_,U⟩,a8.refl _,[],U,U,λ_ h=>(nomatch h)⟩ ?_ (bq (m:=100) (by rw[q4];omega)) ?_ ?_ ?_
 ·rintro i zs σ G ⟨_,_,xs,rfl,e,_⟩;rw[q4,e];exact qc _
 ·rintro i zs σ G ⟨_,s2,_⟩;exact SqL.of (s2 _ _ hp1)
 ·rintro i x zs σ G pt hx ⟨⟨v,v',rfl⟩,s2,xs,rfl,e,ok⟩ hpt;rw[qC]at hx;obtain⟨c,hn,rfl⟩:=qN.mp hx;have il:=(qd.mp hn).1;refine⟨pt,_,U,SqT.of ae,U,_,_,U,_,_,U,U,?_⟩;refine⟨_,U,_,U,_,U,_,_,U,⟨Qz,Qz⟩,λm m0 m1=>⟨_,_,U,U,Qy,_,_,U,⟨Q7 _ Qy,by have:=Qc m (show(0:Int)<1009 by decide);omega⟩,λz oz=>?_⟩⟩;refine⟨⟨_,_,U⟩,s2.trans (a8.new hpt _),xs++[z],by rw[qM];rfl,by rw[q9,e];rfl,λy hy=>?_⟩;rcases qf.mp hy with h|h
  ·exact ok y h
  ·rw[qQ.mp h];exact oz
 rintro zs σ G ⟨_,s2,xs,rfl,e,ok⟩ l2 hl2;rw[q4]at e;have s12:=(s1.trans s2).trans (a8.new hl2 (.lst (xs.map V.int)));have h2:upd G l2 (.lst (xs.map V.int)) l2=some (.lst (xs.map V.int)):=ae;generalize upd G l2 (.lst (xs.map V.int))=H2 at s12 h2;refine⟨ln1,λlo hlo=>?_⟩
 have hno:H lo=none:=by
  cases h:H lo with
  |none=>rfl
  |some o=>have:=s12 _ _ h;rw[hlo]at this;cases this
 have s3:=a8.new hlo (.lst [V.ref l2]);have h2l:l2≠lo:=λz=>by rw[z,hlo]at h2;cases h2
 have B0:Bld H (upd H2 lo (.lst [V.ref l2])) lo [l2] (λ_=>xs):=⟨s12.trans s3,hno,ae,λk x hk=>by
  cases k with
  |zero=>cases hk;exact⟨h2l,s3 _ _ h2⟩
  |succ k=>simp at hk⟩
 generalize upd H2 lo (.lst [V.ref l2])=H3 at B0;dsimp only[aK];refine⟨_,U,_,U,Qz,Qz,?_⟩;refine gy (λi σ G=>(∃v3 v4,σ=[some (.ref l),some (.int n),some (.ref lo),v3,v4])/\∃as f,Bld H G lo as f/\as.length=i+1/\∀k,(f k).length<=64/\∀x∈f k,OnW x) ⟨⟨_,_,U⟩,[l2],λ_=>xs,B0,U,λk=>⟨show xs.length<=64 by omega,ok⟩⟩ ?_ ?_
 ·rintro i σ G hi ⟨⟨v3,v4,rfl⟩,as,f,B,el,fk⟩;have e0:(0:Int)+(i:Int)=(i:Int):=Int.zero_add _;dsimp only[aK];rw[e0];refine⟨_,U,l,ns,1,U,B.sa.seq hl,Qy,λc=>⟨_,U,c,i,U,⟨Qz,Qz⟩,λm m0 m1=>?_⟩⟩;dsimp only[aK];refine⟨_,U,.inl ⟨U,_,SqL.of B.hl⟩,_,U,_,_,U,U,Qy,_,U,Qz,Qz,?_⟩;refine gB (λj ys σ H3=>(∃v,σ=[v,some (.int m)])/\H3=G/\∃xs:List Int,ys=xs.map V.int/\xs.length=j/\∀x∈xs,OnW x) ⟨⟨none,U⟩,U,[],U,U,λ_ h=>(nomatch h)⟩ ?_ (bq (m:=100) Qz) ?_ ?_
  ·rintro j ys σ H3 _ ⟨_,_,xs,rfl,h,_⟩;rw[q4,h];exact qc _
  ·rintro j ys σ H3 hj ⟨⟨v,rfl⟩,rfl,xs,rfl,hl',ho⟩;refine⟨_,U,_,U,_,_,U,U,_,U,_,_,U,U,⟨Qy,Qy⟩,_,U,_,_,U,U,_,_,U,⟨Qz,Qz⟩,λz oz=>⟨⟨_,U⟩,U,xs++[z],by rw[qM];rfl,by rw[q9,hl'];rfl,λy hy=>?_⟩⟩;rcases qf.mp hy with h|h
   ·exact ho y h
   ·rw[qQ.mp h];exact oz
  rintro ys σ3 H3 ⟨_,eG,xs,rfl,xl,ho⟩ lr hlr;rw[eG]at hlr ⊢;have sr:=a8.new hlr (.lst (xs.map V.int));refine⟨lo,_,_,U,U,sr _ _ B.hl,bq (m:=1000) (by rw[q4];omega),?_⟩;refine⟨⟨_,_,U⟩,as++[lr],put f as.length xs,B.add sr ae hlr,by rw[q9,el];rfl,λk=>?_⟩;by_cases e:k=as.length
  ·rw[e,ap];exact⟨Qz,ho⟩
  ·rw[ai e];exact fk k
 ·rintro σ G ⟨⟨v3,v4,rfl⟩,as,f,B,el,fk⟩;have r:=B.rf;rw[el,qV]at r;exact⟨_,U,q _ lo f B.sa r fk⟩
theorem nc{g:Nat->Option Int}{i:Nat}{L:Option Int}:((List.range i).map λk=>bg (g k))++[bg L]=(List.range (i+1)).map λk=>bg (put g i L k):=by
 rw[List.range_succ,qM]
 congr 1
 ·refine List.map_congr_left λk hk=>?_;rw[ai (by have:=List.mem_range.mp hk;omega)]
 ·rw[List.map_singleton,ap]
theorem vH(T:Tx P w K mg a):aC P w K mg base CX0 2 a.Ba a.Bb ["_law_script","_law_firsts_here","_law_bound"] (md K):=by
 refine T.BL.ok gQ (λvs H Q E h=>?_) (λcdv A outer s H vs Q E hr h=>?_)
 ·obtain⟨_,_,_,_,_,_,rfl,_⟩:=h
  rfl
 obtain⟨l,lf,ns,n,f,b,rfl,hl,rf,n6,f64,b3,q⟩:=h
 refine⟨_,(ac (aS (i:=3) gQ.nd U Oi (bI a9))
  (ac (cH PassesOwn.never U (d3 U T.xz (a0 (ah cF (aZ bB U T.ld Q5 (a0 (pq 1) a9)) aa) a9)) (aU (i:=4) gQ.nd U Oi)
  (ac (aS (i:=5) gQ.nd U Oi (bv (gj T) (hr.mono Qy) U T.zv T.zj.kp T.zu .nil aE (a0 (bv (i8 T) (hr.mono Qy) U T.zF T.zt.kp T.zE .nil aE (a0 (pq 0) (a0 aa a9))) (a0 (pq 4) a9))))
  (af (bQ (cI qe qt qu cX (pq 3) (a0 (am aP (bI (a0 (aZ (kK U) U T.Bs PyProof.Rows.Boot.«max» (a0 aa (a0 (aZ bB U T.ld Q5 (a0 (am aP (pq 1) (pq 4) Oy) a9)) a9))) (a0 (aZ (kK U) U T.Bs PyProof.Rows.Boot.«max» (a0 (ah bH aa (ah bD (ah dI (pq 5) aa) aa)) (a0 (aZ bB U T.ld Q5 (a0 (am aP (pq 1) (pq 4) Oy) a9)) a9))) (a0 cM a9)))) (ah bD (pq 5) aa) Oy) a9))))))
  (ac (aX (aF fV (pq 2) cM (aB _)) (af (ar (ah fW (pq 3) (bI (a0 cM a9))))) aW)
  (af (ar (ah fW (pq 3) (bI (a0 (aZ (kK U) U T.Bs PyProof.Rows.Boot.«max» (a0 (pq 2) (a0 (aZ bB U T.ld Q5 (a0 (am aP (pq 1) (uQ rD aa) Oy) a9)) a9))) a9)))))))),?_⟩
 obtain⟨as,hlf,al,hat⟩:=rf.at;have ul:(as.map V.ref).length=n+1:=by rw[q4,al]
 refine⟨ln0,λlo hlo=>?_⟩;have s1:=a8.new hlo (.lst []);dsimp only[aK];refine⟨_,U,lf,_,U,.inl (SqL.of (s1 _ _ hlf)),_,_,U,U,_,U,by rw[ul];omega,by rw[ul];omega,?_⟩;refine gy (λi σ G=>(∃v4 v5,σ=[some (.ref l),some (.ref lf),some (bg b),some (.ref lo),v4,v5])/\a8 H G/\∃g:Nat->Option Int,G lo=some (.lst ((List.range i).map λk=>bg (g k)))/\∀k L,g k=some L->1<=L/\((f k).length:Int)<=L) ⟨⟨_,_,U⟩,s1,λ_=>none,ae,λk L h=>(nomatch h)⟩ ?_ ?_
 ·rintro i σ G hi ⟨⟨v4,v5,rfl⟩,sg,g,hg,gk⟩;have il:i<n:=by rw[ul]at hi;omega
  have e0:(0:Int)+(i:Int)=(i:Int):=Int.zero_add _;dsimp only[aK];rw[e0];obtain⟨x,ax,hx⟩:=hat i Qz;have ixa:atI (as.map V.ref) (i:Int)=some (.ref x):=bO (by rw[qC,ax];rfl);refine⟨_,U,l,ns,2,U,sg.seq hl,Qy,λc=>⟨_,U,c,i,U,⟨Qz,Qz⟩,λm m0 m1=>?_⟩⟩;dsimp only[aK]
  obtain⟨L,eL,pL⟩:∃L:Option Int,atI [V.int (if((((f i).map V.int).length:Nat):Int) > 1 then((((f i).map V.int).length:Nat):Int)else 1),.int (if((((f i).map V.int).length:Nat):Int) > 1+m / 3 % 3 then((((f i).map V.int).length:Nat):Int)else 1+m / 3 % 3),.non] (m % 3)=some (bg L)/\∀z,L=some z->1<=z/\((f i).length:Int)<=z:=by
   rw[q4];have d0:0<=m / 3 % 3:=Qz;obtain e|e|e:m % 3=0\/m % 3=1\/m % 3=2:=Qz
   ·rw[e];exact⟨some _,U,λz hz=>by cases hz;split<;>omega⟩
   ·rw[e];exact⟨some _,U,λz hz=>by cases hz;split<;>omega⟩
   ·rw[e];exact⟨none,U,λz hz=>(nomatch hz)⟩
  refine⟨_,U,.inl ⟨U,_,SqL.of hg⟩,_,U,_,U,lf,_,_,_,U,U,SqL.of (sg _ _ hlf),ixa,x,_,U,.inl (SqL.of (sg _ _ hx)),_,_,U,_,U,_,_,U,U,⟨Qy,Qy⟩,_,_,U,U,Qy,_,_,U,U,_,U,_,U,lf,_,_,_,U,U,SqL.of (sg _ _ hlf),ixa,x,_,U,.inl (SqL.of (sg _ _ hx)),_,_,U,kc,λlz hlz=>⟨_,U,_,_,U,U,Qy,lz,_,_,_,U,U,SqL.of ae,eL,lo,_,_,U,U,a8.new hlz _ _ _ hg,bq (m:=1000) (by rw[q4,Qb];omega),?_⟩⟩;refine⟨⟨_,_,U⟩,λp o h=>?_,put g i L,by rw[ae,nc],λk z hz=>?_⟩
  ·have pl:p≠lo:=λz=>by rw[z,hlo]at h;cases h
   rw[ag pl];exact a8.new hlz _ _ _ (sg _ _ h)
  ·by_cases e:k=i
   ·rw[e,ap]at hz;rw[e];exact pL z hz
   ·rw[ai e]at hz;exact gk k z hz
 ·rintro σ G ⟨⟨v4,v5,rfl⟩,sg,g,hg,gk⟩;have e1:(((as.map V.ref).length:Int)-1).toNat=n:=by rw[ul];omega
  rw[e1]at hg;obtain⟨x,ax,hx⟩:=hat n Qz
  have ixa:atI (as.map V.ref) (-1:Int)=some (.ref x):=by
   unfold atI;rw[ul,show ixN (n+1) (-1)=some n by unfold ixN;rw[qX Qy,qY Qz];congr 1;omega];show(as.map V.ref)[n]?=_;rw[qC,ax]
   rfl
  have cat:∀L:Option Int,(∀z,L=some z->1<=z/\((f n).length:Int)<=z)->(b=none->L=none)->(b≠none->L≠none)->∀(G':Hp)(l5:Addr),G l5=none->G'=upd G l5 (.lst [bg L])->∀p,G' p=none->Q (.ref p) (upd G' p (.lst (((List.range n).map λk=>bg (g k))++[bg L]))):=λL hL h1 h2 G' l5 h5 eG p hp=>by
   have s5:a8 G G':=by rw[eG];exact a8.new h5 _
   refine q _ p (put g n L) (sg.trans (s5.trans (a8.new hp _))) (by rw[ae,nc]) (λk z hz=>?_) (λhb=>by rw[ap];exact h1 hb) (λhb=>by rw[ap];exact h2 hb);by_cases e:k=n
   ·rw[e,ap]at hz;rw[e];exact hL z hz
   ·rw[ai e]at hz;exact gk k z hz
  have rl:∀z:V,(((List.range n).map λk=>bg (g k)).length+[z].length)<=sizeLine:=λz=>bq (m:=1000) (by rw[q4,Qb,Q4];omega)
  cases b with
  |none=>
   exact⟨_,U,U,_,U,bC U ⟨_,U,ln1,λl5 h5=>⟨lo,l5,_,_,U,U,SqL.of (a8.new h5 _ _ _ hg),SqL.of ae,rl _,λp hp=>cat none (λz hz=>(nomatch hz)) (λ_=>U) (λz=>Q1 U z) _ l5 h5 U p hp⟩⟩⟩
  |some bb=>
   obtain⟨b1,_⟩:=b3 bb U;refine⟨_,U,U,_,U,aI U ?_⟩;dsimp only[ck];refine⟨_,U,_,U,_,U,_,U,lf,_,_,_,U,U,SqL.of (sg _ _ hlf),ixa,x,_,U,.inl (SqL.of (sg _ _ hx)),_,_,U,ln1,λl5 h5=>⟨lo,l5,_,_,U,U,SqL.of (a8.new h5 _ _ _ hg),SqL.of ae,rl _,λp hp=>cat (some _) (λz hz=>?_) (λz=>(nomatch z)) (λ_ z=>(nomatch z)) _ l5 h5 U p hp⟩⟩;cases hz;rw[q4];split<;>omega
theorem kJ{f f':Nat->List Int}:∀k:Nat,(∀j,j<=k->f j=f' j)->bK f k=bK f' k
 |0,h=>h 0 (qc _)
 |k+1,h=>by
  show f (k+1)++bK f k=f' (k+1)++bK f' k;rw[h (k+1) (qc _),kJ k λj hj=>h j Qz]
theorem wG{f f':Nat->List Int}{n:Nat}(h:∀j,j<=n->f j=f' j):bS f n=bS f' n:=iW n λk hk=>by rw[kJ k λj hj=>h j Qz]
theorem fw.chain{H H':Hp}{t:Addr}{xs:List Ln}{rs:List PR}{pace:List (List Int)}{most:Nat}{S:PlS}{still:Bool}{lg st:Addr}{lgv us:List V}(T:fw H H' t xs rs pace most S still lg st lgv us)(n60:rs.length<60)(nn:∀r∈pace,∀x∈r,0<=x)(fl:∀x∈xs,x.2.length<=64)(fo:∀x∈xs,∀n∈x.2,OnW n)(ok:∀r∈rs,r.ok/\r.fit xs.length)(hm:most<=5000)(hp:∀k,k<rs.length->bf rs k=chP k):bF S.lg+S.sp=most/\(still=false->S.sp=0/\∃k,k<rs.length/\aA S k≠[]):=by
 let C:PlC:={ b:=t,dx:=t,y:=t,dy:=t,la:=t,lq:=t,dl:=t,pc:=t,dq:=λ_=>t,qo:=λ_=>t,us:=[],pv:=[],n:=rs.length,nl:=xs.length,prt:=bf rs,ls:=λi=>(bd xs i).1,pace:=pace }
 have rm:∀x,x<rs.length->bf rs x∈rs:=λx hx=>by unfold bf;rw[qh,qa hx];exact List.getElem_mem hx
 have okC:∀x,x<C.n->(C.prt x).ok/\(C.prt x).fit C.nl:=λx hx=>ok _ (rm x hx);have g0:=iu (C:=C) (rs:=rs) (most:=most) U fl fo hm
 cases still with
 |true=>
  have R:bi C.ls C.prt C.pace (bY xs C.n most) .top S:=T.nd.1;exact⟨(R.sim okC n60 nn g0).2.2,λz=>(by cases z)⟩
 |false=>
  obtain⟨k,x,r,R,lk,sp⟩:=T.nd;have R:bi C.ls C.prt C.pace (bY xs C.n most) (.tak k (x::r)) S:=R;obtain⟨⟨loc,L⟩,_⟩:=R.gd okC n60 g0;have hx:=L.not.2.1;refine⟨(R.sim okC n60 nn g0).2.2,λ_=>⟨sp,x,hx,λz=>?_⟩⟩;rw[hp x hx]at lk;have:=List.find?_eq_none.mp lk (x:Int) qj;exact this (by rw[show((x:Int)).toNat=x from rfl,z];rfl)
theorem nY{f:Nat->List Int}(h:∀k,(f k).length<=64):∀n:Nat,n<=6->bS f n<=448 * n
 |0,_=>qc _
 |n+1,le=>by
  have h1:=nY h n Qz;have h2:=yx (k:=n) h;show bS f n+(bK f n).length<=_;omega
theorem vB(T:Tx P w K mg a):aC P w K mg base CX0 9 a.Bm a.Bn ["_law_script"] (fI K):=by
 refine T.DF.ok c1 (λvs H Q E h=>?_) (λcdv A outer s H vs Q E hr h=>?_)
 ·obtain⟨_,_,rfl,_⟩:=h
  rfl
 obtain⟨l,ns,rfl,hl,n63,_,_,q⟩:=h
 refine⟨_,(ac (aS (i:=1) c1.nd U Oi (bv (gj T) (hr.mono Qy) U T.zv T.zj.kp T.zu .nil aE (a0 (bv (i8 T) (hr.mono Qy) U T.zF T.zt.kp T.zE .nil aE (a0 (pq 0) (a0 aa a9))) (a0 aa a9))))
  (ac (aS (i:=2) c1.nd U Oi (ah bH aa (ah bD (pq 1) aa)))
  (ac (aS (i:=3) c1.nd U Oi (am aP (bI (nN U)) (ah bD (ah dI (pq 1) aa) aa) Oy))
  (ac (aX (aF ba (ah bD (ah dI (pq 1) aa) aa) aa (aB _)) (af (aS (i:=3) c1.nd U Oi cM)) aW)
  (ac (aS (i:=4) c1.nd U (Or.inr U) (bv (vJ T) (hr.mono Qy) U T.Du T.BK.kp T.Ds .nil aE (a0 (pq 0) (a0 (pq 2) a9))))
  (ac (aS (i:=5) c1.nd U (Or.inr U) (bv (vH T) (hr.mono Qy) U T.Dw T.BL.kp T.Dv .nil aE (a0 (pq 0) (a0 (pq 4) (a0 (pq 3) a9)))))
  (ac (aS (i:=6) c1.nd U (Or.inr U) (cm (k:=1) (Nc:=["_law_k","_law_lengths_here","_law_firsts_here"]) (js:=[5,4]) (show aO (aj cL) ["_law_script","_law_m","_law_many","_law_bound","_law_firsts_here","_law_lengths_here","_law_lines","_law_parts","_law_pace_here","_law_needed_here","_law_way","_law_handed","_law_found","_law_hist","_law_come_here"] _ 1 ["_law_k","_law_lengths_here","_law_firsts_here"] [5,4]from aO.mk U (by decide +kernel) (by decide +kernel) (by decide +kernel) U (by decide +kernel)) U (d3 U T.xz (a0 (ah bH (pq 2) aa) a9)) (λ_ _ _ _ _=>(aU (i:=0) (show List.Nodup (["_law_k","_law_lengths_here","_law_firsts_here"]:List Str)from by decide +kernel) U Oi)) (λ_ _ _ _ _=>c4) (λ_ _ _ _ _=>(cw (a0 (am (jJ (K:=K) U) (pq 1) (pq 0) Oy) (a0 (f6 (yA (K:=K) U) U T.BV PyProof.Rows.Boot.«tuple» (a0 (am (jJ (K:=K) U) (pq 2) (pq 0) Oy) a9)) a9))))))
  (ac (hX (i:=7) c1.nd U Oi (k:=1) (Nc:=["_law_k"]) (js:=[]) (show aO (aj cL) ["_law_script","_law_m","_law_many","_law_bound","_law_firsts_here","_law_lengths_here","_law_lines","_law_parts","_law_pace_here","_law_needed_here","_law_way","_law_handed","_law_found","_law_hist","_law_come_here"] _ 1 ["_law_k"] []from aO.mk U (by decide +kernel) (by decide +kernel) (by decide +kernel) U (by decide +kernel)) U (d3 U T.xz (a0 (pq 2) a9)) (λ_ _ _ _ _=>(aU (i:=0) (show List.Nodup (["_law_k"]:List Str)from by decide +kernel) U Oi)) (λ_ _ _ _ _=>c4) (λ_ _ _ _ _=>(cw (a0 c0 (a0 (cw (a0 (pq 0) a9)) (a0 (cw (a0 (ah bH (pq 0) aa) a9)) (a0 (cw (a0 aa a9)) a9)))))))
  (ac (aS (i:=8) c1.nd U Oi (bv (vF T) (hr.mono Qy) U T.Dy T.BM.kp T.Dx .nil aE (a0 (pq 0) (a0 (pq 2) a9))))
  (ac (aS (i:=9) c1.nd U Oi (bv (vG T) (hr.mono Qy) U T.DA T.BN.kp T.Dz .nil aE (a0 (pq 4) a9)))
  (ac (aS (i:=10) c1.nd U Oi (ah bD (ah dI (pq 1) aa) aa))
  (ac (aX (PW.pt (hV (aF ba (pq 10) aa (aB _)) (hU (PW.pt (cY (aF ba (pq 9) aa (aB _)) (dW (aF ni (pq 3) cM (aB _)))))))) (af (aS (i:=10) c1.nd U Oi aa)) aW)
  (ac (aS (i:=11) c1.nd U Oi (bI (a0 (f6 fX U T.wP PyProof.Rows.Boot.«list» (a0 (pq 6) a9)) (a0 (f6 fX U T.wP PyProof.Rows.Boot.«list» (a0 (pq 7) a9)) (a0 (cm (k:=1) (Nc:=["_law_row"]) (js:=[]) (show aO (aj cL) ["_law_script","_law_m","_law_many","_law_bound","_law_firsts_here","_law_lengths_here","_law_lines","_law_parts","_law_pace_here","_law_needed_here","_law_way","_law_handed","_law_found","_law_hist","_law_come_here"] _ 1 ["_law_row"] []from aO.mk U (by decide +kernel) (by decide +kernel) (by decide +kernel) U (by decide +kernel)) U (cb (pq 8)) (λ_ _ _ _ _=>(aU (i:=0) (show List.Nodup (["_law_row"]:List Str)from by decide +kernel) U Oi)) (λ_ _ _ _ _=>c4) (λ_ _ _ _ _=>(f6 (um (K:=K) U) U T.wP PyProof.Rows.Boot.«list» (a0 (pq 0) a9)))) a9)))))
  (ac (aS (i:=12) c1.nd U (Or.inr U) (bv (vE T) (hr.mono Qy) U T.DE T.BR.kp T.DD .nil aE (a0 (am aP (pq 11) aa Oy) (a0 (am aP (pq 11) aa Oy) (a0 (am aP (pq 11) aa Oy) (a0 (pq 10) (a0 (pq 9) a9)))))))
  (ac (aX (aF (gg hr.units) (pq 11) (bI (a0 (pq 6) (a0 (pq 7) (a0 (pq 8) a9)))) (aB _)) (af (ar cq)) aW)
  (ac (aX (PW.pt (cY (dX (df (aZ fY U T.zw PyProof.Rows.Boot.«isinstance» (a0 (pq 12) (a0 (gf (v:=.ty "tuple") U T.BV PyProof.Rows.Boot.«tuple» rfl) a9))))) (cY (aF gZ (aZ bB U T.ld Q5 (a0 (pq 12) a9)) aa (aB _)) (dW (dX (df (aZ fY U T.zw PyProof.Rows.Boot.«isinstance» (a0 (am bj (pq 12) aa Oy) (a0 (gf (v:=.ty "bool") U T.DG PyProof.Rows.Boot.«bool» rfl) a9))))))))) (af (ar cq)) aW)
  (ac (aX (PW.pt (cY (aF ba (am bj (pq 12) aa Oy) (eZ ba (pq 10) aa (aB _)) (aB _)) (cY (dX (df (aZ fY U T.zw PyProof.Rows.Boot.«isinstance» (a0 (am bj (pq 12) aa Oy) (a0 (gf (v:=.ty "list") U T.wP PyProof.Rows.Boot.«list» rfl) a9))))) (dW (aF gZ (aZ bB U T.ld Q5 (a0 (am bj (pq 12) aa Oy) a9)) (ah bH (pq 2) aa) (aB _)))))) (af (ar cq)) aW)
  (ac (hX (i:=13) c1.nd U Oi (k:=1) (Nc:=["_law_k","_law_lines","_law_found"]) (js:=[6,12]) (show aO (aj cL) ["_law_script","_law_m","_law_many","_law_bound","_law_firsts_here","_law_lengths_here","_law_lines","_law_parts","_law_pace_here","_law_needed_here","_law_way","_law_handed","_law_found","_law_hist","_law_come_here"] _ 1 ["_law_k","_law_lines","_law_found"] [6,12]from aO.mk U (by decide +kernel) (by decide +kernel) (by decide +kernel) U (by decide +kernel)) U (d3 U T.xz (a0 (ah bH (pq 2) aa) a9)) (λ_ _ _ _ _=>(aU (i:=0) (show List.Nodup (["_law_k","_law_lines","_law_found"]:List Str)from by decide +kernel) U Oi)) (λ_ _ _ _ _=>c4) (λ_ _ _ _ _=>(bv (vC T) (hr.mono Qy) U T.Dr T.BH.kp T.Dp .nil aE (a0 (pq 1) (a0 (am (nh (K:=K) U) (pq 2) aa Oy) (a0 (pq 0) a9))))))
  (ac (aS (i:=14) c1.nd U Oi (aZ bB U T.ld Q5 (a0 (bv (nT T) (hr.mono Qy) U T.BP T.Br.kp T.BO .nil aE (a0 (pq 4) (a0 (pq 2) a9))) a9)))
  (ac (aX (PW.pt (hV (aF ni (pq 3) cM (aB _)) (hU (aF gZ (aZ bB U T.ld Q5 (a0 (am aP (pq 13) (pq 2) Oy) a9)) (aZ (yD U) U T.BS PyProof.Rows.Boot.«min» (a0 (am bj (am aP (pq 6) (pq 2) Oy) aa Oy) (a0 (pq 14) a9))) (aB _))))) (af (ar cq)) aW)
  (ac (aX (aF ba (pq 10) aa (aB _)) (af (ar (eZ ba (aZ bB U T.ld Q5 (a0 (cm (k:=1) (Nc:=["_law_entry"]) (js:=[]) (show aO (aj cL) ["_law_script","_law_m","_law_many","_law_bound","_law_firsts_here","_law_lengths_here","_law_lines","_law_parts","_law_pace_here","_law_needed_here","_law_way","_law_handed","_law_found","_law_hist","_law_come_here"] _ 1 ["_law_entry"] []from aO.mk U (by decide +kernel) (by decide +kernel) (by decide +kernel) U (by decide +kernel)) U (cb (am bj (pq 12) aa Oy)) (λ_ _ _ _ _=>(aU (i:=0) (show List.Nodup (["_law_entry"]:List Str)from by decide +kernel) U Oi)) (λ_ _ _ _ _=>(nI (aF ba (am (nh (K:=K) U) (pq 0) aa Oy) c0 (aB _)))) (λ_ _ _ _ _=>aa)) a9)) (ah cF (pq 9) aa) (aB _)))) aW)
  (af (ar (bv (vI T) (hr.mono Qy) U T.DC T.BQ.kp T.DB .nil aE (a0 (pq 4) (a0 (pq 13) (a0 (am bj (pq 12) aa Oy) (a0 (eZ fV (pq 3) cM (aB _)) a9)))))))))))))))))))))))))))),?_⟩
 refine⟨_,U,l,ns,0,U,hl,Qy,λc=>⟨c,1,U,⟨Qy,Qy⟩,λm m0 m1=>?_⟩⟩;dsimp only[aK];refine⟨_,U,_,_,U,U,Qy,_,_,U,U,?_⟩;obtain⟨n,en,n1,n6⟩:∃n:Nat,1+m % 6=(n:Int)/\1<=n/\n<=6:=⟨(1+m % 6).toNat,Qz,Qz,Qz⟩;rw[en];dsimp only[aK]
 obtain⟨b0,eb0,pb0⟩:∃b:Option Int,atI [V.non,.int 1,.int 2,.int 3] (m / 6 % 4)=some (bg b)/\∀x,b=some x->1<=x/\x<=3:=by
  obtain e|e|e|e:m / 6 % 4=0\/m / 6 % 4=1\/m / 6 % 4=2\/m / 6 % 4=3:=Qz
  ·rw[e];exact⟨none,U,λx h=>(nomatch h)⟩
  ·rw[e];exact⟨some 1,U,λx h=>by cases h;decide⟩
  ·rw[e];exact⟨some 2,U,λx h=>by cases h;decide⟩
  ·rw[e];exact⟨some 3,U,λx h=>by cases h;decide⟩
 refine⟨ln4,λlz hlz=>⟨_,U,_,_,U,U,⟨Qy,Qy⟩,_,_,U,U,Qy,lz,_,_,_,U,U,SqL.of ae,eb0,?_⟩⟩;have s1:=a8.new hlz (.lst [V.non,.int 1,.int 2,.int 3]);show aK 3 (bg b0) _ (upd H lz (.lst [V.non,.int 1,.int 2,.int 3])) _;generalize upd H lz (.lst [V.non,.int 1,.int 2,.int 3])=H1 at s1;dsimp only[aK];refine fJ (λσ' G'=>(∃b,(∀x,b=some x->1<=x/\x<=3)/\σ'=[some (.ref l),some (.int m),some (.int n),some (bg b),none,none,none,none,none,none,none,none,none,none,none])/\G'=H1) ?_ ?_
 rotate_left
 ·intro N hN;refine⟨_,U,_,_,U,U,⟨Qy,Qy⟩,_,_,U,U,Qy,U,_,U,bJ (λcc=>?_) (λcc=>?_)⟩
  ·exact hN _ _ ⟨⟨none,λx h=>(nomatch h),U⟩,U⟩
  ·exact hN _ _ ⟨⟨b0,pb0,U⟩,U⟩
 rintro σ' G1 ⟨⟨b,pb,rfl⟩,rfl⟩;refine⟨_,U,_,U,l,ns,n,U,s1.seq hl,n63,n6,λH2 lf f s2 rf fo=>?_⟩;have s12:=s1.trans s2;have f64:∀k,(f k).length<=64:=λk=>(fo k).1;dsimp only[aK];refine⟨_,U,_,U,_,U,l,lf,ns,n,f,b,U,s12.seq hl,rf,n6,f64,pb,λH3 lL g s3 hg gk gn gs=>?_⟩;have s13:=s12.trans s3;obtain⟨as,hf,al,hat⟩:=(rf.same s3).at;dsimp only[aK];refine⟨_,U,_,_,U,U,_,U,Qz,Qz,?_⟩;refine gB (λi ys σ G=>(∃v,σ=[v,some (.ref lL),some (.ref lf)])/\a8 H3 G/\RLn G ys ((List.range i).map λk=>(g k,f k))) ⟨⟨none,U⟩,a8.refl _,.nil⟩ ?_ (bq (m:=100) Qz) ?_ ?_
 ·rintro i ys σ G _ ⟨_,_,r⟩;rw[r.len,q4,Qb];exact qc _
 ·rintro i ys σ G hi ⟨⟨v,rfl⟩,sg,r⟩;have il:i<n+1:=Qz;obtain⟨x,ax,hx⟩:=hat i il;have ixa:atI (as.map V.ref) (i:Int)=some (.ref x):=bO (by rw[qC,ax];rfl);have ixg:atI ((List.range (n+1)).map λk=>bg (g k)) (i:Int)=some (bg (g i)):=bO (by rw[qC,List.getElem?_range il];rfl);dsimp only[aK];refine⟨_,U,_,U,lL,_,_,_,U,U,SqL.of (sg _ _ hg),ixg,_,U,_,U,lf,_,_,_,U,U,SqL.of (sg _ _ hf),ixa,x,_,U,.inl ⟨SqL.of (sg _ _ hx),λlt hlt=>⟨ln2,λtp htp=>?_⟩⟩⟩;have sa:=a8.new hlt (.tup ((f i).map V.int));have sb:=a8.new htp (.tup [bg (g i),.ref lt]);exact⟨⟨_,U⟩,sg.trans (sa.trans sb),by rw[List.range_succ,qM];exact RLn.snoc (x:=(g i,f i)) ae (sb _ _ ae) (r.same (sa.trans sb))⟩
 rintro us σ G ⟨_,sg,rln⟩ ll hll;rw[show((n:Int)+1).toNat=n+1 by omega]at rln;have s4:=sg.trans (a8.new hll (.lst us));have h4:upd G ll (.lst us) ll=some (.lst us):=ae;have rln4:=rln.same (a8.new hll (.lst us));generalize upd G ll (.lst us)=H4 at s4 h4 rln4;have s14:=s13.trans s4;dsimp only[aK];refine⟨_,U,_,U,Qz,Qz,?_⟩;refine gB (λi ys σ G=>(∃v,σ=[v])/\a8 H4 G/\RRs G ys ((List.range i).map chP)) ⟨⟨none,U⟩,a8.refl _,.nil⟩ ?_ (bq (m:=100) Qz) ?_ ?_
 ·rintro i ys σ G _ ⟨_,_,r⟩;rw[r.len,q4,Qb];exact qc _
 ·rintro i ys σ G hi ⟨⟨v,rfl⟩,sg,r⟩;dsimp only[aK];refine⟨_,U,ln1,λt0 h0=>⟨_,U,_,_,U,U,ln1,λt1 h1=>⟨ln1,λt2 h2=>⟨ln4,λtp htp=>?_⟩⟩⟩⟩;have sa:=a8.new h0 (.tup [V.int i]);have sb:=a8.new h1 (.tup [V.int ((i:Int)+1)]);have sc:=a8.new h2 (.tup [V.int 0]);have sd:=a8.new htp (.tup [V.str "pass",.ref t0,.ref t1,.ref t2]);exact⟨⟨_,U⟩,sg.trans (sa.trans (sb.trans (sc.trans sd))),by rw[List.range_succ,qM];exact RRs.snoc (r:=chP i) (RR.pass (ins:=[(i:Int)]) (outs:=[(i:Int)+1]) (route:=[0]) ae (sd _ _ (sc _ _ (sb _ _ ae))) (sd _ _ (sc _ _ ae)) (sd _ _ ae)) (r.same (sa.trans (sb.trans (sc.trans sd))))⟩
 rintro ps σ G ⟨_,sg,rrs⟩ lp hlp;rw[qV]at rrs;have s5:=sg.trans (a8.new hlp (.lst ps));have h5:upd G lp (.lst ps) lp=some (.lst ps):=ae;have rrs5:=rrs.same (a8.new hlp (.lst ps));generalize upd G lp (.lst ps)=H5 at s5 h5 rrs5;have s15:=s14.trans s5;dsimp only[aK];refine⟨_,U,_,U,l,ns,n,U,s15.seq hl,n6,λH6 lpc pf s6 rpf pk=>?_⟩;dsimp only[aK];refine⟨_,U,lf,n,f,U,rf.same (s3.trans (s4.trans (s5.trans s6))),n6,f64,?_⟩;dsimp only[aK];have s16:=s15.trans s6;refine⟨_,U,_,_,U,U,⟨Qy,Qy⟩,_,_,U,U,Qy,?_⟩;dsimp only[aK];refine fJ (λσ' G'=>(∃way:Int,(0<=way/\way<4)/\(way=3->1<=bS f n/\b=none)/\σ'=[some (.ref l),some (.int m),some (.int n),some (bg b),some (.ref lf),some (.ref lL),some (.ref ll),some (.ref lp),some (.ref lpc),some (.int (bS f n:Nat)),some (.int way),none,none,none,none])/\G'=H6) ?_ ?_
 rotate_left
 ·intro N hN;have w0:0<=m / 48 % 4/\m / 48 % 4<4:=Qz;generalize m / 48 % 4=way at w0;refine⟨_,U,U,_,U,?_⟩;by_cases w3:way=3
  ·refine bC (qZ (by rw[w3])) ⟨_,U,U,_,U,?_⟩;have y1:=hN _ _ ⟨⟨1,⟨Qy,Qy⟩,λz=>Q1 z Qy,U⟩,U⟩;by_cases z:bS f n=0
   ·exact bC (qZ (by rw[z];rfl)) (bC U y1)
   ·refine aI (Q0 (λe=>z (by have:=V.int.inj e;omega))) ⟨_,U,U,_,U,?_⟩
    cases b with
    |none=>exact aI U (hN _ _ ⟨⟨way,w0,λ_=>⟨Qz,U⟩,U⟩,U⟩)
    |some bb=>exact bC U y1
  ·exact aI (Q0 (λe=>w3 (V.int.inj e))) (aI U (hN _ _ ⟨⟨way,w0,λz=>Q1 z w3,U⟩,U⟩))
 rintro σ' G6 ⟨⟨way,w4,w3,rfl⟩,rfl⟩;have hll6:=s6 _ _ (s5 _ _ h4);have hlp6:=s6 _ _ h5;have rln6:=rln4.same (s5.trans s6);have rrs6:=rrs5.same s6;obtain⟨pv,hpc,ris⟩:=rpf;have pal:((List.range n).map pf).length=n:=by rw[q4,Qb]
 have pok:∀r∈(List.range n).map pf,r.length<=4/\∀x∈r,0<=x:=λr hr=>by
  obtain⟨k,_,rfl⟩:=List.mem_map.mp hr;exact pk k
 generalize (List.range n).map pf=pace at ris pal pok;refine⟨_,U,ll,_,U,.inl (SqL.of hll6),λl7 h7=>?_⟩;have s7:=a8.new h7 (.lst us);refine⟨_,U,lp,_,U,.inl (SqL.of (s7 _ _ hlp6)),λl8 h8=>?_⟩;have s8:=a8.new h8 (.lst ps);have s78:=s7.trans s8;have h78:=s8 _ _ (ae (H:=G6) (a:=l7) (o:=.lst us));have h88:upd (upd G6 l7 (.lst us)) l8 (.lst ps) l8=some (.lst ps):=ae;generalize upd (upd G6 l7 (.lst us)) l8 (.lst ps)=H8 at s78 h78 h88;refine⟨_,U,lpc,U,⟨_,SqL.of (s78 _ _ hpc)⟩,?_⟩;refine dA (K:=K) (a:=lpc) (xs:=pv) (λi ys σ G=>(∃v,σ=[v])/\a8 H8 G/\RIs G ys (pace.take i)) ⟨⟨none,U⟩,a8.refl _,.nil⟩ ?_ (bq (m:=100) (by rw[ris.len];omega)) ?_ ?_ ?_
 ·rintro i ys σ G _ ⟨_,_,r⟩;rw[r.len,qI];omega
 ·rintro i ys σ G ⟨_,s1,_⟩;exact SqL.of (s1 _ _ (s78 _ _ hpc))
 ·rintro i x ys σ G hx ⟨⟨v0,rfl⟩,s1,r⟩
  have il:i<pace.length:=by
   have:=(qd.mp hx).1;rw[ris.len]at this;exact this
  obtain⟨p,hu,hp⟩:=ris.at i _ (qa il);rw[hx]at hu;cases hu;refine⟨_,U,p,_,U,.inl (SqL.of (s1 _ _ (s78 _ _ hp))),λl1 hl1=>⟨⟨_,U⟩,s1.trans (a8.new hl1 _),?_⟩⟩;rw[qp,qa il];exact(r.same (a8.new hl1 _)).snoc ae
 rintro cv σ' G9 ⟨_,s9,r9⟩ lc hlc;rw[ris.len,qF]at r9;have sA:=a8.new hlc (.lst cv);have hlcA:upd G9 lc (.lst cv) lc=some (.lst cv):=ae;have rA:=r9.same sA;have s9A:=s9.trans sA;generalize upd G9 lc (.lst cv)=HA at sA hlcA rA s9A;refine⟨kc,λlh hlh=>?_⟩;have sB:=a8.new hlh (.lst [.ref l7,.ref l8,.ref lc]);have hhB:upd HA lh (.lst [.ref l7,.ref l8,.ref lc]) lh=some (.lst [.ref l7,.ref l8,.ref lc]):=ae;have s8B:=s9A.trans sB;have s6B:=s78.trans s8B;generalize upd HA lh (.lst [.ref l7,.ref l8,.ref lc])=HB at sB hhB s8B s6B;dsimp only[aK];have xl:((List.range (n+1)).map λk=>(g k,f k)).length=n+1:=by rw[q4,Qb]
 have rl:((List.range n).map chP).length=n:=by rw[q4,Qb]
 have fl:∀x∈(List.range (n+1)).map (λk=>(g k,f k)),x.2.length<=64:=λx hx=>by
  obtain⟨k,_,rfl⟩:=List.mem_map.mp hx;exact f64 k
 have fo':∀x∈(List.range (n+1)).map (λk=>(g k,f k)),∀y∈x.2,OnW y:=λx hx=>by
  obtain⟨k,_,rfl⟩:=List.mem_map.mp hx;exact(fo k).2
 have okr:∀r∈(List.range n).map chP,r.ok/\r.fit (n+1):=λr hr=>by
  obtain⟨k,hk,rfl⟩:=List.mem_map.mp hr;have:=List.mem_range.mp hk;refine⟨⟨U,by show 1<=9;decide,by show 1<=9;decide,λr hr=>?_⟩,⟨λx hx=>?_,λx hx=>?_,Qo _ _⟩,⟨λx hx=>?_,λx hx=>?_,Qo _ _⟩⟩
  ·rw[qQ.mp hr];exact⟨Qy,by show(0:Int)<((1:Nat):Int);decide⟩
  all_goals (rw[qQ.mp hx];omega)
 have nd5:bS f n<=5000:=by have:=nY f64 n n6;omega
 refine⟨_,U,lh,_,_,_,U,U,SqL.of hhB,U,_,U,lh,_,_,_,U,U,SqL.of hhB,U,_,U,lh,_,_,_,U,U,SqL.of hhB,U,_,U,_,U,l7,l8,lc,us,ps,cv,_,_,pace,way,bS f n,U,w4,λz=>(w3 z).1,nd5,s8B _ _ h78,rln6.same s6B,s8B _ _ h88,rrs6.same s6B,sB _ _ hlcA,rA.same sB,Qz,Qz,fl,fo',Qz,λr hr=>by have:=(pok r hr).1;omega,by rw[xl];exact okr,λHC tf S still lg st lgv usC TD=>?_⟩;dsimp only[aK]
 have sgr:∀r∈(List.range n).map chP,r.sgOk:=λr hr=>by
  obtain⟨k,_,rfl⟩:=List.mem_map.mp hr
  trivial
 have sC:=TD.sa;have s6C:=s6B.trans sC;refine⟨_,U,_,U,_,U,_,U,kc,λl3 h3=>?_⟩;have sD:=a8.new h3 (.lst [.ref ll,.ref lp,.ref lpc]);have s6D:=s6C.trans sD;have sBD:=sC.trans sD;obtain⟨d1,dl1,sd1⟩:=(rln6.same s6D).dt (K:=K);obtain⟨d2,dl2,sd2⟩:=(rrs6.same s6D).dt (K:=K) sgr;have shd:Shp 4 (.list [.list d1,.list d2,.list (pace.map λxs=>.list (xs.map PyData.int))]):=.lst (bG (.lst sd1) (bG (.lst sd2) (bG (t5 _).up eU)));refine⟨_,_,.lst (SqL.of (sBD _ _ hhB)) (.cons (.lst (SqL.of (sBD _ _ (s8B _ _ h78))) dl1) (.cons (.lst (SqL.of (sBD _ _ (s8B _ _ h88))) dl2) (.cons (.lst (SqL.of (sBD _ _ (sB _ _ hlcA))) ((rA.same sB).same sBD).dt) .nil))),.lst (SqL.of ae) (.cons (.lst (SqL.of (s6D _ _ hll6)) dl1) (.cons (.lst (SqL.of (s6D _ _ hlp6)) dl2) (.cons (.lst (SqL.of (s6D _ _ hpc)) (ris.same s6D).dt) .nil))),shd.shaped Qy,shd.shaped Qy,_,U,?_⟩;rw[iC shd Qy];refine aI U ?_;have tfD:=sD _ _ TD.tp;have lgD:=sD _ _ TD.hl;have esD:=TD.es.same sD;have stD:=sD _ _ TD.hs;have riD:=TD.ri.same sD;generalize upd HC l3 (.lst [.ref ll,.ref lp,.ref lpc])=HD at s6D sBD tfD lgD esD stD riD;dsimp only[ck];refine⟨_,U,_,_,_,true,U,.tup tfD,U,_,U,aI U ?_⟩;refine⟨_,U,tf,_,U,.inr (SqT.of tfD),U,_,U,aI U ?_⟩;refine⟨_,U,tf,_,_,_,U,U,SqT.of tfD,U,_,_,_,true,U,.bl _,U,_,U,aI U ?_⟩;dsimp only[ck]
 have hpk:∀k,k<((List.range n).map chP).length->bf ((List.range n).map chP) k=chP k:=λk hk=>by
  rw[rl]at hk;unfold bf;rw[qh,qC,List.getElem?_range hk]
  rfl
 have lnk:∀k,k<n+1->bd ((List.range (n+1)).map λk=>(g k,f k)) k=(g k,f k):=λk hk=>by
  unfold bd;rw[qh,qC,List.getElem?_range hk]
  rfl
 have lno:∀k,¬ k<n+1->bd ((List.range (n+1)).map λk=>(g k,f k)) k=(none,[]):=λk hk=>by
  unfold bd;rw[qh,Qm (by rw[xl];omega)]
  rfl
 have uq:Uq ((List.range n).map chP).length (bf ((List.range n).map chP)):=by
  refine⟨λx y hx hy ne l hl l' hl'=>?_,λx y hx hy ne l hl l' hl'=>?_⟩
  ·rw[hpk x hx]at hl;rw[hpk y hy]at hl';rw[qQ.mp hl,qQ.mp hl'];omega
  ·rw[hpk x hx]at hl;rw[hpk y hy]at hl';rw[qQ.mp hl,qQ.mp hl'];omega
 have pnn:∀r∈(if way=0 then[]else pace),∀x∈r,0<=x:=by
  split
  ·exact λ_ h=>(nomatch h)
  ·exact λr hr=>(pok r hr).2
 have m5:(if way<2 then 5000 else if way=2 then bS f n else bS f n-1)<=5000:=by
  split
  ·decide
  ·split<;>omega
 have td:=TD.tdk Qz pnn fl fo' (by rw[xl];exact okr) m5 uq;obtain⟨tt,tn⟩:=TD.chain Qz pnn fl fo' (by rw[xl];exact okr) m5 hpk
 have c:=yz hpk (λk L hL=>by
  by_cases hk:k<n+1
  ·rw[lnk k hk]at hL ⊢;exact(gk k L hL).2
  ·rw[lno k hk]at hL;cases hL) S.lg td.wk
 have ef:∀k,k<=n->d7 ((List.range (n+1)).map λk=>(g k,f k)) k=f k:=λk hk=>by unfold d7;rw[lnk k Qz]
 have er:=td.rows;have sk:=td.stuck;generalize S.lg.foldl (bL (bf ((List.range n).map chP)) (if way=0 then[]else pace)) (bX ((List.range (n+1)).map λk=>(g k,f k)))=W at c er sk;rw[rl]at c sk tn;have en':bS (d7 ((List.range (n+1)).map λk=>(g k,f k))) n=bS f n:=wG ef;have hpn:∀k,k<n->bf ((List.range n).map chP) k=chP k:=λk hk=>hpk k (by rw[rl];exact hk)
 have b1:∀k L,k<=n->(bd ((List.range (n+1)).map λk=>(g k,f k)) k).1=some L->1<=L:=λk L hk hL=>by
  rw[lnk k Qz]at hL;exact(gk k L hL).1
 have dn:still=true->roomV (bd ((List.range (n+1)).map λk=>(g k,f k)) n).1 ((W.rows n).length:Int)=true->∀k,k<n->W.rows k=[]/\W.post k=none:=λh1 h2=>c.done hpn b1 (sk h1) h2
 have rmn:b=none->roomV (bd ((List.range (n+1)).map λk=>(g k,f k)) n).1 ((W.rows n).length:Int)=true:=λhb=>by
  rw[lnk n Qz];show roomV (g n) _=true;rw[gn hb]
  rfl
 have st3:still=!decide (way=3):=by
  cases still with
  |true=>
   by_cases z:way=3
   ·obtain⟨z1,z2⟩:=w3 z;have h1:=(c.all (dn U (rmn z2))).2;rw[en']at h1;rw[qX Qz,qX Qz]at tt;omega
   ·rw[Q0 z];rfl
  |false=>
   obtain⟨z0,k,hk,hr⟩:=tn U;have h1:=c.fewer hk (by rw[er];exact hr);rw[en']at h1;by_cases z:way=3
   ·rw[qZ z];rfl
   ·have h2:=nd5;split at tt
    ·omega
    ·split at tt
     ·omega
     ·omega
 have b0:b≠none->still=true:=λh=>by
  rw[st3,Q0 λz=>h (w3 z).2]
  rfl
 refine⟨_,U,tf,_,_,_,U,U,SqT.of tfD,U,_,U,U,U,_,U,aI (Q0 λz=>?_) ?_⟩
 ·have z:=V.bl.inj z;rw[st3]at z;by_cases c:way=3
  ·rw[c]at z;cases z
  ·rw[Q0 c,Q0 λy=>c (V.int.inj y)]at z;cases z
 refine⟨_,U,tf,_,_,_,U,U,SqT.of tfD,U,_,_,_,true,U,.lst stD,U,_,U,aI U ?_⟩;refine⟨_,U,tf,_,_,_,U,U,SqT.of tfD,U,st,_,U,.inl (SqL.of stD),_,U,_,_,U,U,U,_,U,aI ?_ ?_⟩
 ·rw[riD.len,q4,Qb,xl];exact congrArg not (qZ U)
 dsimp only[ck];refine⟨_,U,_,_,U,U,_,U,Qz,Qz,?_⟩;refine gB (λi ys σ G=>(∃v,σ=[v,some (.ref ll),some (.ref tf)])/\a8 HD G/\RIs G ys ((List.range i).map (aQ ((List.range (n+1)).map λk=>(g k,f k)) S.lg))) ⟨⟨none,U⟩,a8.refl _,.nil⟩ ?_ (bq (m:=100) Qz) ?_ ?_
 ·rintro i ys σ G _ ⟨_,_,r⟩;rw[r.len,q4,Qb];exact qc _
 ·rintro i ys σ G hi ⟨⟨v,rfl⟩,sg,r⟩;dsimp only[aK];refine⟨_,U,_,U,tf,_,_,_,U,U,SqT.of (sg _ _ tfD),U,_,U,ll,lg,i,us,lgv,_,S.lg,U,sg _ _ (s6D _ _ hll6),(rln6.same s6D).same sg,sg _ _ lgD,esD.same sg,⟨Qz,by rw[xl];omega⟩,td.lok,td.sz,td.hsz,λH' l' s' h'=>?_⟩;refine⟨⟨_,U⟩,sg.trans s',?_⟩;rw[List.range_succ (n:=i),qM (l₁:=List.range i)];exact RIs.snoc h' (r.same s')
 rintro hv σ G ⟨_,sg,rh⟩ lh2 hlh2;rw[show((n:Int)+1).toNat=n+1 by omega]at rh;have sE:=sg.trans (a8.new hlh2 (.lst hv));have rhE:RF (upd G lh2 (.lst hv)) lh2 (aQ ((List.range (n+1)).map λk=>(g k,f k)) S.lg) (n+1):=⟨hv,ae,rh.same (a8.new hlh2 (.lst hv))⟩;generalize upd G lh2 (.lst hv)=HE at sE rhE;dsimp only[aK];have s6E:=s6D.trans sE;have rfE:=rf.same (s3.trans (s4.trans (s5.trans (s6.trans s6E))));refine⟨_,U,_,U,lf,n,n,f,U,rfE,n6,qc _,f64,λHF lc2 sF hcF=>⟨lc2,_,U,.inl (SqL.of hcF),?_⟩⟩;rw[q4];have s6F:=s6E.trans sF;have rhF:=rhE.same sF;have rfF:=rfE.same sF;dsimp only[aK];have aw:still=true->b=none->∀k,k<n->W.rows k=[]/\W.post k=none:=λh1 h2=>dn h1 (rmn h2);have ce:∀k,k<=n->bK (d7 ((List.range (n+1)).map λk=>(g k,f k))) k=bK f k:=λk hk=>kJ k λj hj=>ef j Qz;obtain⟨bs,hb,bl,hbt⟩:=rhF.at;obtain⟨xn,bx,hxn⟩:=hbt n Qz;have ixn:atI (bs.map V.ref) (n:Int)=some (.ref xn):=bO (by rw[qC,bx];rfl);refine fJ (λσ' G'=>σ'=[some (.ref l),some (.int m),some (.int n),some (bg b),some (.ref lf),some (.ref lL),some (.ref ll),some (.ref lp),some (.ref lpc),some (.int (bS f n:Nat)),some (.int way),some (.ref lh),some (.ref tf),some (.ref lh2),some (.int (bK f n).length)]/\G'=HF) ?_ ?_
 rotate_left
 ·intro N hN;refine⟨_,U,U,_,U,?_⟩
  cases hb0:b with
  |none=>exact aI U (aI U (hN _ _ ⟨by rw[hb0];rfl,U⟩))
  |some bb=>
   have hb1:b≠none:=by rw[hb0];exact λz=>nomatch z
   obtain⟨L,hL⟩:=Option.ne_none_iff_exists'.mp (gs hb1);have rn:=rln6.same (s6D.trans (sE.trans sF));have un:n<us.length:=by rw[rn.len,xl];omega
   obtain⟨p,t,x,ex,exl,hp,ht⟩:=rn.at n _ (qa un);have ixu:atI us (n:Int)=some (.ref p):=by rw[<- ex];exact bO (qa un)
   rw[qC,List.getElem?_range Qz]at exl;have ex1:x.1=some L:=by rw[<- qH exl];exact hL
   rw[ex1]at hp;refine bC U ⟨_,U,_,U,lh2,_,_,_,U,U,SqL.of hb,ixn,xn,_,U,.inl (SqL.of hxn),_,U,_,U,ll,_,_,_,U,U,SqL.of (s6F _ _ hll6),ixu,p,_,_,_,U,U,SqT.of hp,U,_,U,L,_,U,U,_,U,aI ?_ (hN _ _ ⟨by rw[hb0];rfl,U⟩)⟩;rw[q4];refine congrArg not (qZ (congrArg V.int ?_));have er':W.rows n=aQ ((List.range (n+1)).map λk=>(g k,f k)) S.lg n:=by rw[c.rows n,c.z n (qc _)];rfl
   have h1:=c.cap n L (by rw[lnk n Qz];exact hL);have h2:=(c.pre n (qc _)).length_le;have h3:=dn (b0 hb1);rw[lnk n Qz]at h3;change roomV (g n) _=true->_ at h3;rw[hL]at h3;rw[ce n (qc _)]at h2;rw[er']at h1 h3;by_cases rm:((aQ ((List.range (n+1)).map λk=>(g k,f k)) S.lg n).length:Int)<L
   ·have h4:=(c.all (h3 (qZ rm))).1 n (qc _);rw[h4,ce n (qc _)]at rm ⊢;rw[qY rm]
   ·rw[qX Qz];omega
 rintro σ' G1 ⟨rfl,rfl⟩;refine⟨_,U,U,_,U,?_⟩;by_cases z:way=3
 ·refine bC (qZ (by rw[z])) ?_;have st0:still=false:=by rw[st3,qZ z];rfl
  have tk:bF S.lg=bS f n-1:=by
   rw[qX Qz,qX Qz]at tt;have:=(tn st0).1;omega
  have tfF:=sF _ _ (sE _ _ tfD);have lgF:=sF _ _ (sE _ _ lgD);have esF:=(esD.same sE).same sF;refine⟨_,U,tf,_,_,_,U,U,SqT.of tfF,U,lg,U,⟨_,SqL.of lgF⟩,?_⟩;refine kI (K:=K) (a:=lg) (xs:=lgv) (λi ys σ G=>(∃v,σ=[v])/\G=G1/\ys.length=bF (S.lg.take i)) ⟨⟨none,U⟩,U,U⟩ ?_ (by have:=td.sz;rw[esF.len,sizeLine_eq];omega) ?_ ?_ ?_
  ·rintro i ys σ G _ ⟨_,_,e⟩;rw[e];unfold bF;have h1:=List.length_filter_le (λe:Ent=>e.took) (S.lg.take i);rw[qI]at h1;omega
  ·rintro i ys σ G ⟨_,rfl,_⟩;exact SqL.of lgF
  ·rintro i x ys σ G hx ⟨⟨v0,rfl⟩,rfl,e⟩;obtain⟨p,le,eus,en,rfl,he,hp,_⟩:=esF.at hx;have et:bF (S.lg.take (i+1))=bF (S.lg.take i)+(if en.took then 1 else 0):=by rw[qp,he];exact lH
   cases tk:en.took with
   |true=>
    rw[tk]at hp et;exact⟨_,U,p,_,_,_,U,U,SqT.of hp,U,U,_,U,bC Qx ⟨⟨_,U⟩,U,by rw[q9,e,et];rfl⟩⟩
   |false=>
    rw[tk]at hp et;exact⟨_,U,p,_,_,_,U,U,SqT.of hp,U,U,_,U,aI Qx ⟨⟨_,U⟩,U,by rw[e,et];rfl⟩⟩
  rintro ys σ G ⟨_,eG,yl⟩ lc3 hlc3;rw[eG]at hlc3 ⊢;rw[esF.len,qF]at yl;refine⟨lc3,_,U,.inl (SqL.of ae),_,U,_,_,U,U,U,?_⟩;rw[yl,qZ (congrArg V.int (by have:=(w3 z).1;omega))];exact q _
 refine aI (Q0 (λe=>z (V.int.inj e))) ?_;dsimp only[ck];have st1:still=true:=by rw[st3,Q0 z];rfl
 have rtF:RF G1 st (aA S) (n+1):=⟨_,sF _ _ (sE _ _ stD),by have:=(riD.same sE).same sF;rw[xl]at this;exact this⟩;refine⟨_,U,_,U,_,U,tf,_,_,_,U,U,SqT.of (sF _ _ (sE _ _ tfD)),U,_,U,U,lf,lh2,st,n,f,_,_,_,U,rfF,rhF,rtF,n6,f64,?_,q⟩
 have bn:decide (bg b=V.non)=true->b=none:=λh=>by
  cases b with
  |none=>rfl
  |some x=>exact nomatch Qa h
 refine⟨λk hk=>by rw[<- ce k hk];exact c.pre k hk,λh k hk=>?_,W.tks,ldN W,c.z n (qc _),λk hk=>⟨by rw[<- er];exact c.rows k,c.le k⟩,λk hk=>?_⟩
 ·have h1:=aw st1 (bn h);exact⟨by rw[(c.all h1).1 k hk,ce k hk],λhn=>by rw[<- er];exact(h1 k hn).1⟩
 ·have l1:ldN W k<=1/\ldN W k<=W.tks k:=by
   cases hp:W.post k with
   |none=>rw[gw hp];omega
   |some hs=>
    obtain⟨_,_,h0,_⟩:=c.pt k hs hp;rw[kf hp];omega
  refine⟨l1.1,l1.2,?_,λh=>gw (aw st1 (bn h) k hk).2⟩;have h2:=c.le k;have h3:=ef (k+1) hk;rw[c.hs k hk,q9,qI,<- h3];show _+min _ _=_;rw[Nat.min_eq_left Qz]
  rfl
end
theorem fM(P:Params)(f:Addr)(st:Stmt){x qual:Str}{oc:Value}{od an:Option Addr}{osl:Array (Option Value)}{kV doc pm cdv ct:Value}(l:(hk P).lookup f=some ⟨oc,od,.func (W.fnOf x qual (cr st) (c8 st) (aj st) .none kV doc pm an cdv ct),osl⟩:=by k_is)
 (c:W.codeIn (hk P) cdv qual=true:=by k_is) (k:W.keepIn (hk P) (.ref f)=true:=by k_is):Fun (hk P) x qual st f (W.fnOf x qual (cr st) (c8 st) (aj st) .none kV doc pm an cdv ct):=xX l c k
theorem eM(P:Params)(f:Addr)(st:Stmt){x qual:Str}{dt:Addr}{oc:Value}{od an d2:Option Addr}{osl e2:Array (Option Value)}{n:Nat}{kV doc pm cdv ct:Value}{dvs:Array Value}(l:(hk P).lookup f=some ⟨oc,od,.func (W.fnOf x qual (cr st) (c8 st) (aj st) (.ref dt) kV doc pm an cdv ct),osl⟩:=by k_is)
 (c:W.codeIn (hk P) cdv qual=true:=by k_is) (k:W.keepIn (hk P) (.ref f)=true:=by k_is) (t:(hk P).lookup dt=some ⟨.type "tuple",d2,.seq dvs n,e2⟩:=by k_is):eO (hk P) x qual st f (W.fnOf x qual (cr st) (c8 st) (aj st) (.ref dt) kV doc pm an cdv ct) dvs:=xW l c k t U
theorem d5{R:List Value->Prop}(h:∀x0,R [x0]):∀us:List Value,us.length=1->R us
 |[_],_=>h _
theorem len2{R:List Value->Prop}(h:∀x0 x1,R [x0,x1]):∀us:List Value,us.length=2->R us
 |[_,_],_=>h _ _
theorem dN{R:List Value->Prop}(h:∀x0 x1 x2,R [x0,x1,x2]):∀us:List Value,us.length=3->R us
 |[_,_,_],_=>h _ _ _
theorem og{R:List Value->Prop}(h:∀x0 x1 x2 x3,R [x0,x1,x2,x3]):∀us:List Value,us.length=4->R us
 |[_,_,_,_],_=>h _ _ _ _
theorem ij{R:List Value->Prop}(h:∀x0 x1 x2 x3 x4,R [x0,x1,x2,x3,x4]):∀us:List Value,us.length=5->R us
 |[_,_,_,_,_],_=>h _ _ _ _ _
theorem xf{R:List Value->Prop}(h:∀x0 x1 x2 x3 x4 x5,R [x0,x1,x2,x3,x4,x5]):∀us:List Value,us.length=6->R us
 |[_,_,_,_,_,_],_=>h _ _ _ _ _ _
theorem mM{P:Params}{h:Heap}{mg:Str->Option Value}{x:Str}{v:Value}(X:(hk P).In h)(G:h.Ns mainGlobals mg)(e:W.nsIn (hk P) mainGlobals x=some (some v):=by k_is):mg x=some v:=W.mg_of X G e
theorem nM{P:Params}{h:Heap}{mg:Str->Option Value}{x:Str}(X:(hk P).In h)(G:h.Ns mainGlobals mg)(e:W.nsIn (hk P) mainGlobals x=some none:=by k_is):mg x=none:=W.mg_none_of X G e
theorem oM{P:Params}{C:Addr}{f:Str}(e:W.findIn (hk P) (.ref C) f=some none:=by k_is):aV (hk P) C f:=e
set_option maxHeartbeats 0 in
theorem yN{w:World}{h:Heap}{mg:Str->Option Value}{fa:Addr}(X:(hk w.params).In h)(G:h.Ns mainGlobals mg)(hfa:mg "law"=some (.ref fa)):
 ∃fd:FuncData,(∀(s:Shared)(v:Value),BindsTo s fd ⟨[v],[]⟩ [("_law_script",v)])/\∀base:Heap,(hk w.params).In base->base.Ns mainGlobals mg->aC PySem.Challenge.rw_handflow_k43_chain.prog w (hk w.params) mg base CX0 9 fa fd ["_law_script"] (fI (hk w.params)):=by
 k_fill
 cases hfa.symm.trans (mM (v:=.ref 430) X G);have F0:=fM w.params 28 jq;have b0:=F0.binds (ps:=["self","things"]) λ_ _ _ _ _ _=>len2 λ_ _=>U;have F1:=fM w.params 35 jm;have b1:=F1.binds (ps:=["self"]) λ_ _ _ _ _ _=>d5 λ_=>U;have F2:=fM w.params 42 jp;have b2:=F2.binds (ps:=["self"]) λ_ _ _ _ _ _=>d5 λ_=>U;have F3:=fM w.params 49 jo;have b3:=F3.binds (ps:=["self","thing"]) λ_ _ _ _ _ _=>len2 λ_ _=>U;have F4:=fM w.params 56 jl;have b4:=F4.binds (ps:=["self"]) λ_ _ _ _ _ _=>d5 λ_=>U;have F5:=fM w.params 63 jn;have b5:=F5.binds (ps:=["self"]) λ_ _ _ _ _ _=>d5 λ_=>U;have F6:=fM w.params 77 j5;have b6:=F6.binds (ps:=["sign","a","b"]) λ_ _ _ _ _ _=>dN λ_ _ _=>U;have F7:=fM w.params 84 j1;have b7:=F7.binds (ps:=["sign","a","b"]) λ_ _ _ _ _ _=>dN λ_ _ _=>U;have F8:=fM w.params 96 fS;have b8:=F8.binds (ps:=["self","lines"]) λ_ _ _ _ _ _=>len2 λ_ _=>U;have F9:=fM w.params 103 jg;have b9:=F9.binds (ps:=["self","line"]) λ_ _ _ _ _ _=>len2 λ_ _=>U;have F10:=fM w.params 110 jf;have b10:=F10.binds (ps:=["self","line"]) λ_ _ _ _ _ _=>len2 λ_ _=>U;have F11:=fM w.params 117 ji;have b11:=F11.binds (ps:=["self","line"]) λ_ _ _ _ _ _=>len2 λ_ _=>U;have F12:=fM w.params 124 jh;have b12:=F12.binds (ps:=["self","line","thing"]) λ_ _ _ _ _ _=>dN λ_ _ _=>U;have F13:=fM w.params 131 je;have b13:=F13.binds (ps:=["self","line"]) λ_ _ _ _ _ _=>len2 λ_ _=>U;have F14:=fM w.params 136 gW;have b14:=F14.binds (ps:=["self"]) λ_ _ _ _ _ _=>d5 λ_=>U;have F15:=fM w.params 157 jz;have b15:=F15.binds (ps:=["self","ins"]) λ_ _ _ _ _ _=>len2 λ_ _=>U;have F16:=fM w.params 164 jy;have b16:=F16.binds (ps:=["self","yard"]) λ_ _ _ _ _ _=>len2 λ_ _=>U;have F17:=fM w.params 185 jx;have b17:=F17.binds (ps:=["self","ins","outs","route"]) λ_ _ _ _ _ _=>og λ_ _ _ _=>U;have F18:=fM w.params 190 gX;have b18:=F18.binds (ps:=["self","things"]) λ_ _ _ _ _ _=>len2 λ_ _=>U;have F19:=fM w.params 209 jk;have b19:=F19.binds (ps:=["self","ins","out","sign","sides"]) λ_ _ _ _ _ _=>ij λ_ _ _ _ _=>U;have F20:=fM w.params 216 jj;have b20:=F20.binds (ps:=["self","things"]) λ_ _ _ _ _ _=>len2 λ_ _=>U;have F21:=fM w.params 235 jE;have b21:=F21.binds (ps:=["self","ins","which","ones","noughts","told"]) λ_ _ _ _ _ _=>xf λ_ _ _ _ _ _=>U;have F22:=fM w.params 242 jD;have b22:=F22.binds (ps:=["self","things"]) λ_ _ _ _ _ _=>len2 λ_ _=>U;have F23:=fM w.params 261 jC;have b23:=F23.binds (ps:=["self","told","ones","noughts","outs"]) λ_ _ _ _ _ _=>ij λ_ _ _ _ _=>U;have F24:=fM w.params 268 jA;have b24:=F24.binds (ps:=["self","yard"]) λ_ _ _ _ _ _=>len2 λ_ _=>U;have F25:=fM w.params 275 jB;have b25:=F25.binds (ps:=["self","things"]) λ_ _ _ _ _ _=>len2 λ_ _=>U;have F26:=fM w.params 287 j4;have b26:=F26.binds (ps:=["side","things"]) λ_ _ _ _ _ _=>len2 λ_ _=>U;have F27:=fM w.params 294 j3;have b27:=F27.binds (ps:=["row"]) λ_ _ _ _ _ _=>d5 λ_=>U;have F28:=fM w.params 306 dG;have b28:=F28.binds (ps:=["self","lines","parts","pace","most"]) λ_ _ _ _ _ _=>ij λ_ _ _ _ _=>U;have F29:=fM w.params 313 jr;have b29:=F29.binds (ps:=["self"]) λ_ _ _ _ _ _=>d5 λ_=>U;have F30:=fM w.params 320 ju;have b30:=F30.binds (ps:=["self","now","part"]) λ_ _ _ _ _ _=>dN λ_ _ _=>U;have F31:=fM w.params 325 eX;have b31:=F31.binds (ps:=["self","now","part"]) λ_ _ _ _ _ _=>dN λ_ _ _=>U;have F32:=fM w.params 332 jw;have b32:=F32.binds (ps:=["self","turn","parts"]) λ_ _ _ _ _ _=>dN λ_ _ _=>U;have F33:=fM w.params 339 jt;have b33:=F33.binds (ps:=["self","part"]) λ_ _ _ _ _ _=>len2 λ_ _=>U;have F35:=fM w.params 359 gT;have b35:=F35.binds (ps:=["lines","log","line"]) λ_ _ _ _ _ _=>dN λ_ _ _=>U;have F36:=fM w.params 366 jd;have b36:=F36.binds (ps:=["_law_script","_law_k"]) λ_ _ _ _ _ _=>len2 λ_ _=>U;have F37:=fM w.params 373 j9;have b37:=F37.binds (ps:=["_law_cell_here","_law_k"]) λ_ _ _ _ _ _=>len2 λ_ _=>U;have F38:=fM w.params 380 j7;have b38:=F38.binds (ps:=["_law_cell_here","_law_way"]) λ_ _ _ _ _ _=>len2 λ_ _=>U;have F39:=fM w.params 385 fQ;have b39:=F39.binds (ps:=["_law_script","_law_many"]) λ_ _ _ _ _ _=>len2 λ_ _=>U;have F40:=fM w.params 392 ja;have b40:=F40.binds (ps:=["_law_script","_law_firsts_here","_law_bound"]) λ_ _ _ _ _ _=>dN λ_ _ _=>U;have F41:=fM w.params 397 gU;have b41:=F41.binds (ps:=["_law_script","_law_many"]) λ_ _ _ _ _ _=>len2 λ_ _=>U;have F42:=fM w.params 404 j8;have b42:=F42.binds (ps:=["_law_firsts_here"]) λ_ _ _ _ _ _=>d5 λ_=>U;have F43:=fM w.params 411 jc;have b43:=F43.binds (ps:=["_law_firsts_here","_law_k"]) λ_ _ _ _ _ _=>len2 λ_ _=>U;have F44:=fM w.params 418 jb;have b44:=F44.binds (ps:=["_law_firsts_here","_law_hist","_law_left","_law_full"]) λ_ _ _ _ _ _=>og λ_ _ _ _=>U;have F45:=fM w.params 425 j6;have b45:=F45.binds (ps:=["_law_lines","_law_parts","_law_pace_here","_law_way","_law_needed_here"]) λ_ _ _ _ _ _=>ij λ_ _ _ _ _=>U;have F46:=fM w.params 430 cL;have b46:=F46.binds (ps:=["_law_script"]) λ_ _ _ _ _ _=>d5 λ_=>U;have F34:=eM (dvs:=#[.none,.int 5000 655]) w.params 354 j2;have b34:=F34.binds (ps:=["lines","parts","pace","most"]) [] λ_ _ _ _ _ _ _ _ _ _ us hg hd hl=>match us,(show us.length=4 from by simpa using hl)with|[_,_,_,_],_=>BindsTo.of_defaults U hg hd U U
 have bd34:=F34.binds (ps:=["lines","parts","pace","most"]) [.int 5000 655] λ_ _ _ _ _ _ _ _ _ _ us hg hd hl=>match us,(show us.length=3 from by simpa using hl)with|[_,_,_],_=>BindsTo.of_defaults U hg hd U U
 have bdd34:=F34.binds (ps:=["lines","parts","pace","most"]) [.none,.int 5000 655] λ_ _ _ _ _ _ _ _ _ _ us hg hd hl=>match us,(show us.length=2 from by simpa using hl)with|[_,_],_=>BindsTo.of_defaults U hg hd U U
 have T:Tx PySem.Challenge.rw_handflow_k43_chain.prog w (hk w.params) mg (Adr.mk 28 _ 35 _ 42 _ 49 _ 56 _ 63 _ 77 _ 84 _ 96 _ 103 _ 110 _ 117 _ 124 _ 131 _ 136 _ 157 _ 164 _ 185 _ 190 _ 209 _ 216 _ 235 _ 242 _ 261 _ 268 _ 275 _ 287 _ 294 _ 306 _ 313 _ 320 _ 325 _ 332 _ 339 _ 354 _ 655 359 _ 366 _ 373 _ 380 _ 385 _ 392 _ 397 _ 404 _ 411 _ 418 _ 425 _ 430 _ 258 66 139 167 193 219 245 278 342):=Tx.mk F0 b0 F1 b1 F2 b2 F3 b3 F4 b4 F5 b5 F6 b6 (mM X G) F7 b7 (mM X G) F8 b8 F9 b9 F10 b10 F11 b11 F12 b12 F13 b13 F14 b14 F15 b15 F16 b16 F17 b17 F18 b18 F19 b19 F20 b20 F21 b21 F22 b22 F23 b23 F24 b24 F25 b25 F26 b26 (mM X G) F27 b27 (mM X G) F28 b28 F29 b29 F30 b30 F31 b31 F32 b32 F33 b33 F34 bd34 bdd34 b34 (mM X G) F35 b35 (mM X G) F36 b36 (mM X G) F37 b37 (mM X G) F38 b38 (mM X G) F39 b39 (mM X G) F40 b40 (mM X G) F41 b41 (mM X G) F42 b42 (mM X G) F43 b43 (mM X G) F44 b44 (mM X G) F45 b45 (mM X G) F46 b46 (mM X G) (nM X G) (nM X G) (nM X G) (nM X G) (nM X G) (nM X G) (nM X G) (nM X G) (nM X G) (nM X G) (nM X G) (nM X G) (mM X G) (mM X G) (Cls.mk (by k_is) (by k_is) (by k_is) (by k_is)) (Mk.mk (by k_is) (by k_is) (by k_is) (by k_is)) (aH.mk (by k_is) (by k_is) (by k_is)) (aH.mk (by k_is) (by k_is) (by k_is)) (aH.mk (by k_is) (by k_is) (by k_is)) (aH.mk (by k_is) (by k_is) (by k_is)) (aH.mk (by k_is) (by k_is) (by k_is)) oM oM (mM X G) (Cls.mk (by k_is) (by k_is) (by k_is) (by k_is)) (Mk.mk (by k_is) (by k_is) (by k_is) (by k_is)) (aH.mk (by k_is) (by k_is) (by k_is)) (aH.mk (by k_is) (by k_is) (by k_is)) (aH.mk (by k_is) (by k_is) (by k_is)) (aH.mk (by k_is) (by k_is) (by k_is)) (aH.mk (by k_is) (by k_is) (by k_is)) (aH.mk (by k_is) (by k_is) (by k_is)) oM oM (mM X G) (Cls.mk (by k_is) (by k_is) (by k_is) (by k_is)) (Mk.mk (by k_is) (by k_is) (by k_is) (by k_is)) (aH.mk (by k_is) (by k_is) (by k_is)) oM (mM X G) (Cls.mk (by k_is) (by k_is) (by k_is) (by k_is)) (Mk.mk (by k_is) (by k_is) (by k_is) (by k_is)) (aH.mk (by k_is) (by k_is) (by k_is)) (aH.mk (by k_is) (by k_is) (by k_is)) oM oM oM (mM X G) (Cls.mk (by k_is) (by k_is) (by k_is) (by k_is)) (Mk.mk (by k_is) (by k_is) (by k_is) (by k_is)) (aH.mk (by k_is) (by k_is) (by k_is)) (aH.mk (by k_is) (by k_is) (by k_is)) oM oM oM oM (mM X G) (Cls.mk (by k_is) (by k_is) (by k_is) (by k_is)) (Mk.mk (by k_is) (by k_is) (by k_is) (by k_is)) (aH.mk (by k_is) (by k_is) (by k_is)) (aH.mk (by k_is) (by k_is) (by k_is)) oM oM oM oM oM (mM X G) (Cls.mk (by k_is) (by k_is) (by k_is) (by k_is)) (Mk.mk (by k_is) (by k_is) (by k_is) (by k_is)) (aH.mk (by k_is) (by k_is) (by k_is)) (aH.mk (by k_is) (by k_is) (by k_is)) oM oM oM oM (mM X G) (Cls.mk (by k_is) (by k_is) (by k_is) (by k_is)) (Mk.mk (by k_is) (by k_is) (by k_is) (by k_is)) (aH.mk (by k_is) (by k_is) (by k_is)) (aH.mk (by k_is) (by k_is) (by k_is)) (aH.mk (by k_is) (by k_is) (by k_is)) (aH.mk (by k_is) (by k_is) (by k_is)) (aH.mk (by k_is) (by k_is) (by k_is)) oM oM oM oM oM oM oM oM oM oM oM (l9.mk (by k_is) (by k_is) (by k_is) (by k_is));exact⟨_,λs v=>.of_eq U,λbase _ _=>vB T⟩
theorem rB{l:W.OpenLaw}{q:Program}{loose:List Str}{XP:(Str->Option Value)->Heap->Prop}{YP:World->Heap->Prop}{d:DefRec}{K:Params->W.Frag}(hn:l.most=some 63)(hdf:d.params.defaults=[])
 (hY:∀(w:World)(h:Heap),YP w h->(K w.params).In h)
 (F:∀(w:World)(mg:Str->Option Value)(fa:Addr)(h:Heap),(K w.params).In h->h.Ns mainGlobals mg->mg d.name=some (.ref fa)->
  ∃fd:FuncData,(∀(s:Shared)(u:Value),BindsTo s fd ⟨[u],[]⟩ [("_law_script",u)])/\∀base:Heap,(K w.params).In base->base.Ns mainGlobals mg->aC l.prog w (K w.params) mg base CX0 9 fa fd ["_law_script"] (fI (K w.params))):
 W.WalkO q loose XP YP l.row.toRowW d [] (λf vs=>PySem.call f vs):=
 L2.rj (n:=63) (k:=9) (x:="_law_script") (CX:=λ_=>CX0) (sp:=λw=>fI (K w.params)) hn Qy hdf ⟨U,Qy,Qy,U⟩ hY F (λ_ _ a ns hl hb hO hS=>⟨a,ns,U,hS,hl,hb,hO,λ_=>U⟩) λ_ _ _ _ _ z=>z
noncomputable def y8:PySem.DefRec:=⟨"law",cr cL,c8 cL,aj cL,defPos cL⟩
theorem oI{p:Program}{w:World}{A:Option Value}:∀{m:Nat}{x x':W.SharedT}{y:Thread},goT p w A m x y=some x'->W.topRun PySem.treeTable p w 11 A m x.abs y=some x'.abs
 |0,_,_,_,h=>nomatch h
 |m+1,x,x',y,h=>by
  unfold goT at h;unfold W.topRun
  cases a:W.through y with
  |true=>rw[a]at h;cases h;rfl
  |false=>
   rw[a]at h
   cases b:W.stepOk 11 A y with
   |false=>rw[b]at h;cases h
   |true=>
    rw[b]at h
    cases c:W.stepT (denote PySem.treeTable) p w x y with
    |none=>rw[c]at h;cases h
    |some z=>rw[c]at h;rw[W.stepT_spec c];exact oI h
theorem xg{p q:Program}{loose:List Str}{Xt:Shared->Bool}{α:Type}{Yf:Shared->α}{Ya:World->α}{N:Nat}(e:W.opening p=W.plainProg p.main.scope.names)(hN:Nat.ble 600 N=true)(f:∀s,fenceModules? p s=some s)
 (H:∀w,EndsT p q loose Xt Yf Ya N w):W.LeftO p q loose Xt Yf Ya N:=λw=>by
 obtain⟨⟨h,gs,d,k,os⟩,u,u'⟩:=qN.mp (W.boot_open e hN f w);obtain⟨rfl,rfl,rfl,rfl⟩:h=W.boot_heap w.params/\gs=#[]/\d=W.boot_drawn/\k=W.boot_toks:=by simpa using u'
 obtain⟨s,r,l⟩:=qN.mp (H w os);have r:=oI r;rw[bs_is]at r;obtain⟨l1,l2,l3⟩:_/\_/\_:=by simpa only[Prod.mk.injEq]using l
 have z1:((W.boot_heap w.params).isNs mainGlobals && (#[]:Array GenState).size == 0)=true:=by kernel_rfl
 have z2:(W.boot_heap w.params).objs.size=11:=by kernel_rfl
 have t:W.topFrom PySem.treeTable p w N ⟨W.boot_heap w.params,#[],W.boot_drawn,W.boot_toks,os⟩=some s.abs:=by
  unfold W.topFrom;dsimp only;rw[z1,z2,r];show(match W.staticsOk (PySem.importedModules p.main.body) (W.boot_heap w.params) s.abs.heap && W.namesBound p s.abs.heap && W.gensDone s.abs && W.laidKept (W.boot_heap w.params) s.abs.heap with|true=>_|false=>_)=_;rw[l1]
 unfold W.openEnds;rw[u];show(W.topFrom PySem.treeTable p w N _).map _=_;rw[t];exact congrArg some (Prod.ext l2 l3)
set_option maxHeartbeats 0 in
theorem left:W.LeftO PySem.Challenge.pw_handflow_k43_chain vw [("play":Str)] xt hkH.obs hkH.val 6480:=xg (by kernel_rfl) Qy (λ_=>by kernel_rfl) leftF
end K43
open PySem PySem.W PyProof.Rows
set_option maxRecDepth 100000 in
set_option maxHeartbeats 0 in
theorem PySem.Challenge.cw_handflow_k43_chain_holds : PySem.Challenge.rw_handflow_k43_chain.Holds := by
 w_on;refine holds_law K43.said fun said=>?_
 refine holds_open (q:=K43.vw) (loose:=[("play":Str)]) (Xt:=K43.xt) (XP:=XL K43.vw []) (Yf:=Hook.obs K43.hkH) (Ya:=Hook.val K43.hkH) (YP:=Hook.says K43.hkH) (d:=K43.y8) (kwd:=[]) (N:=6480) K43.left (Hook.of K43.hkH) (Hook.keeps K43.hkH) (fun s e=>xl_of s (Bool.and_eq_true_iff.mp e).1) XL.keeps (by kernel_rfl) (by kernel_rfl) (by kernel_rfl) (fun s e=>recFacts_of (Bool.and_eq_true_iff.mp e).2) (by rfl) (by first|assumption|decide +kernel) (by decide +kernel) ⟨rfl,rfl,rfl,rfl,rfl,by decide +kernel⟩ ?hw ?hc
 (case hw=>w_witness2)
 refine K43.rB (l:=PySem.Challenge.rw_handflow_k43_chain) rfl (by kernel_rfl) (K:=K43.hk) (fun w h Y=>PySem.W.kIn_of (K:=K43.hk) (as:=K43.hks) (e:=K43.hk_as) Y) ?F
 case F=>exact fun w mg fa h X G e=>K43.yN X G e
