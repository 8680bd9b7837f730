import PyProof.Rows.All
import Wide.All
import OpenK.AllK
import Wide.FinOn
import Lean
import PyProof.EqAt
import PyProof.EqKinds
import PyProof.TupleCall
import PySem.Challenge.RW_handflow_k21_waits_of_straight_deeds
set_option Elab.async false
set_option linter.all false
set_option maxRecDepth 100000
namespace L2
open PySem PySem.Spec PyProof.Rows
abbrev Key := Sum Int Str
def keyIs : Key -> Value -> Bool
 | .inl k, v => Value.isInt k v
 | .inr x, v => Value.isStrOf x v
def keyH (w : World) : Key -> Int
 | .inl k => hashInt k
 | .inr x => hashStr w x
theorem keyIs_shape : ∀ {k : Key} {v : Value}, keyIs k v = true -> (∃ i t, k = Sum.inl i /\ v = Value.int i t) \/ (∃ x t, k = Sum.inr x /\ v = Value.str x t)
 | .inl i, v, h => by
  obtain ⟨t, e⟩ := Value.isInt_shape (k := i) (v := v) h
  exact .inl ⟨i, t, rfl, e⟩
 | .inr x, v, h => by
  obtain ⟨t, e⟩ := Value.isStrOf_shape (x := x) (v := v) h
  exact .inr ⟨x, t, rfl, e⟩
theorem keyIs_int (i : Int) (t : Tok) : keyIs (.inl i) (.int i t) = true := by simp [keyIs, Value.isInt]
theorem keyIs_str (x : Str) (t : Tok) : keyIs (.inr x) (.str x t) = true := by simp [keyIs, Value.isStrOf]
theorem key_ll (a b : Int) : decide ((Sum.inl a : Key) = Sum.inl b) = (a == b) := by
 by_cases e : a = b
 ·subst e; simp
 ·have h : ¬ (Sum.inl a : Key) = Sum.inl b := fun q => e (Sum.inl.inj q)
  rw [decide_eq_false h]
  exact (beq_eq_false_iff_ne.mpr e).symm
theorem key_rr (a b : Str) : decide ((Sum.inr a : Key) = Sum.inr b) = decide (a = b) := by
 by_cases e : a = b
 ·subst e; simp
 ·have h : ¬ (Sum.inr a : Key) = Sum.inr b := fun q => e (Sum.inr.inj q)
  rw [decide_eq_false h, decide_eq_false e]
theorem key_lr (a : Int) (b : Str) : decide ((Sum.inl a : Key) = Sum.inr b) = false := decide_eq_false (fun q => nomatch q)
theorem key_rl (a : Str) (b : Int) : decide ((Sum.inr a : Key) = Sum.inl b) = false := decide_eq_false (fun q => nomatch q)
def mixKind (prog : Program) (w : World) : PySem.KeyKind prog w Key where
 is := keyIs
 hash := keyH w
 inj := fun v a b ha hb => by
  rcases keyIs_shape ha with ⟨i, t, rfl, rfl⟩ | ⟨x, t, rfl, rfl⟩
  ·rcases keyIs_shape hb with ⟨j, u, rfl, e⟩ | ⟨y, u, rfl, e⟩
   ·injection e with e1 _; rw [e1]
   ·exact nomatch e
  ·rcases keyIs_shape hb with ⟨j, u, rfl, e⟩ | ⟨y, u, rfl, e⟩
   ·exact nomatch e
   ·injection e with e1 _; rw [e1]
 byValue := fun k v h => by
  rcases keyIs_shape h with ⟨i, t, rfl, rfl⟩ | ⟨x, t, rfl, rfl⟩ <;> rfl
 pyHash := fun hv h => by
  rcases keyIs_shape hv with ⟨i, t, rfl, rfl⟩ | ⟨x, t, rfl, rfl⟩
  ·exact wpAny_pyHash_int h
  ·exact wpAny_pyHash_str h
 eqBool := fun hu hv h => by
  rcases keyIs_shape hu with ⟨i, t, rfl, rfl⟩ | ⟨x, t, rfl, rfl⟩
  ·rcases keyIs_shape hv with ⟨j, u, rfl, rfl⟩ | ⟨y, u, rfl, rfl⟩
   ·rw [key_ll] at h; exact wpAny_eqBool_int h
   ·rw [key_lr] at h; exact SeqAt.EqAt.int_str i t y u _ _ _ _ h
  ·rcases keyIs_shape hv with ⟨j, u, rfl, rfl⟩ | ⟨y, u, rfl, rfl⟩
   ·rw [key_rl] at h; exact SeqAt.EqAt.str_int x t j u _ _ _ _ h
   ·rw [key_rr] at h; exact wpAny_eqBool_str h
 «strs» := fun k x t v h => by
  rcases keyIs_shape h with ⟨i, u, rfl, e⟩ | ⟨y, u, rfl, e⟩
  ·exact nomatch e
  ·injection e with e1 _
   subst e1
   cases v <;> rfl
theorem mixKind_int (prog : Program) (w : World) (i : Int) (t : Tok) : (mixKind prog w).is (.inl i) (.int i t) = true := keyIs_int i t
theorem mixKind_str (prog : Program) (w : World) (x : Str) (t : Tok) : (mixKind prog w).is (.inr x) (.str x t) = true := keyIs_str x t
end L2
namespace L2
open PySem PySem.Spec PyProof.Rows
inductive V where
 | non | bl (b : Bool) | int (i : Int) | str (x : Str) | byt (b : Array UInt8) | flt (b : UInt64) | ref (a : Addr) | ty (n : String)
 deriving DecidableEq
def RelV : V -> Value -> Prop
 | .non, u => u = Value.none
 | .bl b, u => u = Value.bool b
 | .int i, u => ∃ t, u = Value.int i t
 | .str x, u => ∃ t, u = Value.str x t
 | .byt b, u => ∃ t, u = Value.bytes b t
 | .flt b, u => ∃ t, u = Value.float b t
 | .ref a, u => u = Value.ref a
 | .ty n, u => u = Value.type n
abbrev Vals : List V -> List Value -> Prop := Paired RelV
theorem Vals.length {xs : List V} {us : List Value} (r : Vals xs us) : xs.length = us.length := Paired.length r
theorem Vals.get : ∀ {xs : List V} {us : List Value} {i : Nat} {x : V}, Vals xs us -> xs[i]? = some x -> ∃ u, us[i]? = some u /\ RelV x u
 | _, _, _, _, .nil, e => by simp at e
 | _, _, 0, _, .cons r _, e => by simp at e; subst e; exact ⟨_, rfl, r⟩
 | _, _, i + 1, x, .cons _ t, e => by
  obtain ⟨u, h1, h2⟩ := Vals.get (i := i) (x := x) t (by simpa using e)
  exact ⟨u, by simpa using h1, h2⟩
theorem Vals.set {x : V} {u : Value} (r : RelV x u) : ∀ {xs : List V} {us : List Value} (i : Nat), Vals xs us -> Vals (xs.set i x) (us.set i u)
 | _, _, _, .nil => .nil
 | _, _, 0, .cons _ t => .cons r t
 | _, _, i + 1, .cons q t => .cons q (Vals.set r i t)
theorem Vals.append : ∀ {xs ys : List V} {us ws : List Value}, Vals xs us -> Vals ys ws -> Vals (xs ++ ys) (us ++ ws)
 | _, _, _, _, .nil, s => s
 | _, _, _, _, .cons r t, s => .cons r (Vals.append t s)
theorem Vals.take : ∀ {xs : List V} {us : List Value} (n : Nat), Vals xs us -> Vals (xs.take n) (us.take n)
 | _, _, 0, _ => .nil
 | _, _, _ + 1, .nil => .nil
 | _, _, n + 1, .cons r t => .cons r (Vals.take n t)
theorem Vals.drop : ∀ {xs : List V} {us : List Value} (n : Nat), Vals xs us -> Vals (xs.drop n) (us.drop n)
 | _, _, 0, r => r
 | _, _, _ + 1, .nil => .nil
 | _, _, n + 1, .cons _ t => Vals.drop n t
def RelO : Option V -> Option Value -> Prop
 | some v, some u => RelV v u
 | none, none => True
 | _, _ => False
def KV {κ : Type} : List (κ × V) -> List (κ × Value) -> Prop := Paired fun (p : κ × V) (q : κ × Value) => p.1 = q.1 /\ RelV p.2 q.2
def kV : Key -> V
 | .inl i => .int i
 | .inr x => .str x
inductive HO where
 | lst (xs : List V)
 | tup (xs : List V)
 | dK (kvs : List (Key × V)) | dT (kvs : List (List Key × V))
 | set (S : Int -> Bool) (n : Nat)
 | ins (C dx : Addr) (fs : List (Str × V))
 | own (x : Addr)
 | xd (fs : List (Str × V))
 | met (f x : Addr)
 | rng (lo hi : Int)
 | frz (o : Obj) (u : HO)
 | tbl (ps : Array Value)
 | ext (φ : Heap -> Prop)
abbrev Hp := Addr -> Option HO
def upd (H : Hp) (a : Addr) (o : HO) : Hp := fun b => if b = a then some o else H b
theorem upd_same {H : Hp} {a : Addr} {o : HO} : upd H a o a = some o := by unfold upd; rw [if_pos rfl]
theorem upd_ne {H : Hp} {a b : Addr} {o : HO} (h : b ≠ a) : upd H a o b = H b := by unfold upd; rw [if_neg h]
theorem ne_of {H : Hp} {a b : Addr} {o u : HO} (h : H a = some o) (h' : H b = some u) (d : o ≠ u) : a ≠ b := by
 intro e; subst e; rw [h] at h'; exact d (Option.some.inj h')
theorem ne_of_none {H : Hp} {a b : Addr} {o : HO} (h : H a = some o) (h' : H b = none) : a ≠ b := by
 intro e; subst e; rw [h] at h'; cases h'
section
variable (P : Program) (w : World)
def ObjOk (H : Hp) (h : Heap) (a : Addr) : HO -> Prop
 | .lst xs => xs.length <= sizeLine /\ ∃ (its : List Value) (n : Nat), Vals xs its /\ h.get? a = some { cls := .type "list", data := .seq its.toArray n }
 | .tup xs => xs.length <= sizeLine /\ ∃ its : List Value, Vals xs its /\ IsTup h a its.toArray
 | .dK kvs => kvs.length <= sizeLine /\ (a == sysModules) = false /\ ∃ vs, KV kvs vs /\ h.DictOf (mixKind P w) a vs
 | .dT kvs => kvs.length <= sizeLine /\ (a == sysModules) = false /\ ∃ xs : List (List Key × Addr × Value),
   Paired (fun (p : List Key × V) (q : List Key × Addr × Value) => p.1 = q.1 /\ H q.2.1 = some (.tup (p.1.map kV)) /\ RelV p.2 q.2.2) kvs xs /\
   ∃ o es ep, h.get? a = some o /\ o.ExactDict /\ o.data = .dict es ep /\ es.toList = xs.map (entryOfKey (tupleKind (mixKind P w))) /\ (xs.map (·.1)).Nodup
 | .set S n => h.SetOf (intKind P w) a S n
 | .ins C dx fs => H dx = some (.own a) /\ fs.length <= 1000 /\ dx ≠ a /\ h.get? a = some (PySem.W.instObj C dx) /\
   ∃ mA, h.Ns1 dx mA /\ (∀ f, RelO (fs.lookup f) (mA f)) /\ PySem.Within mA (fs.map (·.1))
 | .own _ => ∃ o, h.get? a = some o
 | .xd fs => ∃ mA, h.Ns1 a mA /\ ∀ f, RelO (fs.lookup f) (mA f)
 | .rng lo hi => ∃ t u v, h.get? a = some { cls := .type "range", data := .fields #[.int lo t, .int hi u, .int 1 v] }
 | .frz o u => h.get? a = some o /\ ObjOk H h a u
 | .tbl ps => h.get? a = some { cls := .none, data := .fields ps }
 | .met f x => h.get? a = some (PySem.W.methodObj (.ref f) (.ref x))
 | .ext φ => φ h /\ (∃ o, h.get? a = some o) /\ ∀ h1 h2 : Heap, φ h1 -> (∀ o, h1.get? a = some o -> h2.get? a = some o) -> φ h2
def HOk (H : Hp) (h : Heap) : Prop := ∀ a o, H a = some o -> ObjOk P w H h a o
end
section
variable {P : Program} {w : World} {H H' : Hp} {h h' : Heap} {a : Addr} {o : HO}
theorem ObjOk.lt (x : ObjOk P w H h a o) : a < h.objs.size := by
 cases o with
 | lst xs => obtain ⟨_, _, _, _, e⟩ := x; exact Heap.lt_size e
 | tup xs => obtain ⟨_, _, _, p⟩ := x; exact p.lt
 | dK kvs => obtain ⟨_, _, _, _, o, _, _, e, _⟩ := x; exact Heap.lt_size e
 | dT kvs => obtain ⟨_, _, _, _, o, _, _, e, _⟩ := x; exact Heap.lt_size e
 | set S n => obtain ⟨o, _, _, _, e, _⟩ := x; exact Heap.lt_size e
 | ins C dx fs => obtain ⟨_, _, _, e, _⟩ := x; exact Heap.lt_size e
 | own y => obtain ⟨_, e⟩ := x; exact Heap.lt_size e
 | xd fs => obtain ⟨_, ⟨_, _, _, e, _⟩, _⟩ := x; exact Heap.lt_size e
 | rng lo hi => obtain ⟨_, _, _, e⟩ := x; exact Heap.lt_size e
 | frz ob u => obtain ⟨e, _⟩ := x; exact Heap.lt_size e
 | tbl ps => exact Heap.lt_size (show h.get? a = some _ from x)
 | met f y => exact Heap.lt_size (show h.get? a = some _ from x)
 | ext φ => obtain ⟨_, ⟨_, e⟩, _⟩ := x; exact Heap.lt_size e
theorem Paired.mapP {α β : Type} {F G : α -> β -> Prop} : ∀ {l₁ : List α} {l₂ : List β}, Paired F l₁ l₂ -> (∀ a b, F a b -> G a b) -> Paired G l₁ l₂
 | _, _, .nil, _ => .nil
 | _, _, .cons r t, f => .cons (f _ _ r) (Paired.mapP t f)
theorem ObjOk.stay (x : ObjOk P w H h a o) (k : ∀ b u, (b = a \/ H b = some (.own a)) -> h.get? b = some u -> h'.get? b = some u)
  (ho : ∀ b, H b = some (.own a) -> H' b = some (.own a)) (ht : ∀ b xs, H b = some (.tup xs) -> H' b = some (.tup xs)) : ObjOk P w H' h' a o := by
 induction o with
 | lst xs => obtain ⟨z, its, n, r, e⟩ := x; exact ⟨z, its, n, r, k _ _ (.inl rfl) e⟩
 | tup xs => obtain ⟨z, its, r, ob, e, c⟩ := x; exact ⟨z, its, r, ob, k _ _ (.inl rfl) e, c⟩
 | dK kvs => obtain ⟨z, y, vs, r, ob, es, ep, e, c⟩ := x; exact ⟨z, y, vs, r, ob, es, ep, k _ _ (.inl rfl) e, c⟩
 | dT kvs =>
  obtain ⟨z, y, xs, r, ob, es, ep, e, c⟩ := x
  exact ⟨z, y, xs, Paired.mapP r fun p q z => ⟨z.1, ht _ _ z.2.1, z.2.2⟩, ob, es, ep, k _ _ (.inl rfl) e, c⟩
 | set S n => obtain ⟨ob, es, ep, t, e, c⟩ := x; exact ⟨ob, es, ep, t, k _ _ (.inl rfl) e, c⟩
 | ins C dx fs =>
  obtain ⟨d, z, ne, e, mA, ⟨od, es, ep, e2, c⟩, r⟩ := x
  exact ⟨ho _ d, z, ne, k _ _ (.inl rfl) e, mA, ⟨od, es, ep, k _ _ (.inr d) e2, c⟩, r⟩
 | own y => obtain ⟨ob, e⟩ := x; exact ⟨ob, k _ _ (.inl rfl) e⟩
 | xd fs => obtain ⟨mA, ⟨od, es, ep, e, c⟩, r⟩ := x; exact ⟨mA, ⟨od, es, ep, k _ _ (.inl rfl) e, c⟩, r⟩
 | rng lo hi => obtain ⟨t, u, v, e⟩ := x; exact ⟨t, u, v, k _ _ (.inl rfl) e⟩
 | frz ob u ih => obtain ⟨e, q⟩ := x; exact ⟨k _ _ (.inl rfl) e, ih q⟩
 | tbl ps =>
  have e : h.get? a = some { cls := .none, data := .fields ps } := x
  show h'.get? a = some { cls := .none, data := .fields ps }
  exact k a _ (.inl rfl) e
 | met f y =>
  have e : h.get? a = some (PySem.W.methodObj (.ref f) (.ref y)) := x
  show h'.get? a = some (PySem.W.methodObj (.ref f) (.ref y))
  exact k a _ (.inl rfl) e
 | ext φ => obtain ⟨p, ⟨o, e⟩, st⟩ := x; exact ⟨st _ _ p fun o q => k _ _ (.inl rfl) q, ⟨o, k _ _ (.inl rfl) e⟩, st⟩
theorem HOk.lt (x : HOk P w H h) (e : H a = some o) : a < h.objs.size := (x a o e).lt
theorem HOk.fresh (x : HOk P w H h) (e : h.objs.size <= a) : H a = none := by
 cases q : H a with
 | none => rfl
 | some u => exact absurd (Nat.lt_of_lt_of_le (x.lt q) e) (Nat.lt_irrefl _)
theorem HOk.kept (x : HOk P w H h) (k : ∀ b u, h.get? b = some u -> h'.get? b = some u) : HOk P w H h' := fun a o e =>
 (x a o e).stay (fun b u _ q => k b u q) (fun _ q => q) fun _ _ q => q
theorem HOk.laid (x : HOk P w H h) (k : ∀ b u, h.get? b = some u -> h'.get? b = some u) (hp : h.objs.size <= a) (new : ObjOk P w (upd H a o) h' a o) : HOk P w (upd H a o) h' := fun b u e => by
 have hn := x.fresh hp
 by_cases hb : b = a
 ·subst hb; rw [upd_same] at e; cases e; exact new
 ·rw [upd_ne hb] at e
  exact (x b u e).stay (fun c v _ q => k c v q) (fun c q => by rw [upd_ne (ne_of_none q hn)]; exact q) fun c xs q => by rw [upd_ne (ne_of_none q hn)]; exact q
end
def Rd (H : Hp) (a : Addr) (u : HO) : Prop := H a = some u \/ ∃ o, H a = some (.frz o u)
theorem Rd.ok {P : Program} {w : World} {H : Hp} {h : Heap} {a : Addr} {u : HO} (r : Rd H a u) (x : HOk P w H h) : ObjOk P w H h a u := by
 rcases r with r | ⟨o, r⟩
 ·exact x a u r
 ·obtain ⟨_, q⟩ := x a _ r
  exact q
def Mut : Option HO -> Prop
 | some (.lst _) => True
 | some (.dK _) => True
 | some (.dT _) => True
 | some (.set _ _) => True
 | some (.ins _ _ _) => True
 | some (.ext _) => True
 | _ => False
section
variable {P : Program} {w : World} {H : Hp} {h h' : Heap} {x e : Addr} {o' : HO}
theorem HOk.write (ok : HOk P w H h) (mu : Mut (H x)) (he : e = x \/ H e = some (.own x)) (k : ∀ b u, b ≠ e -> h.get? b = some u -> h'.get? b = some u) (heo : ∃ u, h'.get? e = some u)
  (new : ObjOk P w (upd H x o') h' x o') : HOk P w (upd H x o') h' := fun b u q => by
 have nown : ∀ c y, H c = some (.own y) -> c ≠ x := fun c y r z => by subst z; rw [r] at mu; exact mu
 have ntup : ∀ c xs, H c = some (.tup xs) -> c ≠ x := fun c xs r z => by subst z; rw [r] at mu; exact mu
 by_cases hb : b = x
 ·subst hb; rw [upd_same] at q; cases q; exact new
 ·rw [upd_ne hb] at q
  by_cases hbe : b = e
  ·have q' : H b = some (.own x) := by
    rcases he with z | z
    ·exact absurd (hbe.trans z) hb
    ·rw [hbe]; exact z
   rw [q] at q'; cases q'
   obtain ⟨v, hv⟩ := heo
   exact ⟨v, by rw [hbe]; exact hv⟩
  ·refine (ok b u q).stay (fun c v hc r => k c v ?_ r) (fun c r => by rw [upd_ne (nown c b r)]; exact r) fun c xs r => by rw [upd_ne (ntup c xs r)]; exact r
   rcases hc with rfl | hc
   ·exact hbe
   ·rintro rfl
    rcases he with z | z
    ·exact nown c b hc z
    ·rw [hc] at z; cases z; exact hb rfl
end
structure Un (fs ex : List Addr) (H H' : Hp) (h h' : Heap) : Prop where
 keep : ∀ b o, h.get? b = some o -> H b = none -> b ∉ fs -> b ∉ ex -> h'.get? b = some o
 slot : ∀ b o, h.get? b = some o -> H b = none -> b ∈ fs -> b ∉ ex -> ∃ sl, h'.get? b = some { o with slots := sl }
 free : ∀ b o, h.get? b = some o -> H b = none -> b ∉ ex -> H' b = none
 there : ∀ b o, h.get? b = some o -> b ∉ ex -> ∃ o', h'.get? b = some o'
 tups : ∀ b xs, H b = some (.tup xs) -> H' b = some (.tup xs)
 frzs : ∀ b o u, H b = some (.frz o u) -> H' b = some (.frz o u)
 tbls : ∀ b ps, H b = some (.tbl ps) -> ∃ more, H' b = some (.tbl (ps ++ more))
section
variable {fs fs' ex ex' : List Addr} {H H1 H2 : Hp} {h h1 h2 h' : Heap} {a x e : Addr} {o : HO}
theorem Un.any (u : Un fs ex H H1 h h1) {b : Addr} {ob : Obj} (q : h.get? b = some ob) (n : H b = none) (hx : b ∉ ex) : ∃ sl, h1.get? b = some { ob with slots := sl } := by
 by_cases hb : b ∈ fs
 ·exact u.slot b ob q n hb hx
 ·exact ⟨ob.slots, u.keep b ob q n hb hx⟩
theorem Un.kept (k : ∀ b u, h.get? b = some u -> h'.get? b = some u) : Un fs ex H H h h' :=
 ⟨fun b ob q _ _ _ => k b ob q, fun b ob q _ _ _ => ⟨ob.slots, k b ob q⟩, fun _ _ _ n _ => n, fun b ob q _ => ⟨ob, k b ob q⟩, fun _ _ q => q, fun _ _ _ q => q, fun _ ps q => ⟨#[], by rw [q]; simp⟩⟩
theorem Un.refl : Un fs ex H H h h := Un.kept fun _ _ q => q
theorem Un.laid (k : ∀ b u, h.get? b = some u -> h'.get? b = some u) (hp : h.objs.size <= a) (hn : H a = none) : Un fs ex H (upd H a o) h h' where
 keep := fun b u q _ _ _ => k b u q
 slot := fun b u q _ _ _ => ⟨u.slots, k b u q⟩
 free := fun b u q n _ => by rw [upd_ne (Nat.ne_of_lt (Nat.lt_of_lt_of_le (Heap.lt_size q) hp))]; exact n
 there := fun b u q _ => ⟨u, k b u q⟩
 tups := fun b xs q => by rw [upd_ne (ne_of_none q hn)]; exact q
 frzs := fun b u xs q => by rw [upd_ne (ne_of_none q hn)]; exact q
 tbls := fun b ps q => ⟨#[], by rw [upd_ne (ne_of_none q hn), q]; simp⟩
theorem Un.write (mu : Mut (H x)) (he : e = x \/ H e = some (.own x)) (k : ∀ b u, b ≠ e -> h.get? b = some u -> h'.get? b = some u) (heo : ∃ u, h'.get? e = some u) : Un fs ex H (upd H x o) h h' := by
 have hx : ∀ b, H b = none -> b ≠ x := fun b n z => by subst z; rw [n] at mu; exact mu
 have hb : ∀ b, H b = none -> b ≠ e := fun b n z => by
  subst z
  rcases he with r | r
  ·exact hx b n r
  ·rw [n] at r; cases r
 have hm : ∀ b u, H b = some u -> ¬ Mut (some u) -> b ≠ x := fun b u q nm z => by subst z; rw [q] at mu; exact nm mu
 refine ⟨fun b u q n _ _ => k b u (hb b n) q, fun b u q n _ _ => ⟨u.slots, k b u (hb b n) q⟩, fun b u q n _ => by rw [upd_ne (hx b n)]; exact n, fun b u q _ => ?_,
  fun b xs q => by rw [upd_ne (hm b _ q fun z => z)]; exact q, fun b u xs q => by rw [upd_ne (hm b _ q fun z => z)]; exact q, fun b ps q => ⟨#[], by rw [upd_ne (hm b _ q fun z => z), q]; simp⟩⟩
 by_cases hbe : b = e
 ·subst hbe; exact heo
 ·exact ⟨u, k b u hbe q⟩
end
def trk (h : Heap) (H : Hp) : List Addr := (List.range h.objs.size).filter fun a => (H a).isSome
def hidT (h : Heap) (H : Hp) : Heap := PySem.W.hideAll h (trk h H)
theorem hidT_size (h : Heap) (H : Hp) : (hidT h H).objs.size = h.objs.size := PySem.W.hideAll_size _ _
theorem hidT_get {h : Heap} {H : Hp} {b : Addr} {o : Obj} (e : h.get? b = some o) (n : H b = none) : (hidT h H).get? b = some o :=
 PySem.W.hideAll_get _ e fun hm => by
  have q : (H b).isSome = true := (List.mem_filter.mp hm).2
  rw [n] at q; simp at q
theorem of_hidT {h : Heap} {H : Hp} {b : Addr} {o : Obj} (e : (hidT h H).get? b = some o) : h.get? b = some o /\ H b = none := by
 have e' : h.get? b = some o := PySem.W.of_hideAll (trk h H) e
 refine ⟨e', ?_⟩
 cases q : H b with
 | none => rfl
 | some x =>
  have hm : b ∈ trk h H := List.mem_filter.mpr ⟨List.mem_range.mpr (Heap.lt_size e'), by simp [q]⟩
  have z : (hidT h H).get? b = none := PySem.W.hideAll_none (trk h H) hm
  rw [z] at e; cases e
def allNews (g h : Heap) (L : Addr) : List (Addr × Obj) := (List.range h.objs.size).filterMap fun a => if a = L \/ (g.get? a).isSome = true then none else (h.get? a).map fun o => (a, o)
def rest (g h : Heap) (L d : Addr) : List (Addr × Obj) := (allNews g h L).filter fun p => decide (p.1 ≠ d)
end L2
namespace L2
open PySem PySem.Spec PyProof.Rows
structure Mod (K : PySem.W.Frag) (mg : Str -> Option Value) (base : Heap) : Prop where
 kin : K.In base
 glob : base.Ns mainGlobals mg
 blt : ∃ mb, base.Ns builtinsNs mb /\ ∀ x : Str, x ≠ "__name__" -> mb x = bootBuiltins x
 nolimit : base.NoLimit
structure Cx where
 prog : Program
 w : World
 K : PySem.W.Frag
 mg : Str -> Option Value
 base : Heap
 A : Around
 N : List Str
 s₀ : Shared
 H₀ : Hp
 env : Env
 outer : List Env
 stack : List Env
 ex : List Addr
 fn : Str -> Bool
 calm : Bool
 pn : List (Addr × Obj)
 xe : Value -> Shared -> Prop
def frs (l : List Env) : List Addr := l.filterMap (·.frame)
abbrev Cx.fs (X : Cx) : List Addr := frs X.outer
def Vis (sc : Scope) (x : Str) : Prop := sc.names.lookup x = some .local \/ sc.names.lookup x = some .cell \/ sc.names.lookup x = some .free
def Loc (sc : Scope) (x : Str) : Prop := sc.names.lookup x = some .local \/ sc.names.lookup x = some .cell
def Look (env : Env) (h : Heap) (m : Str -> Option Value) (x : Str) (u : Value) : Prop :=
 (env.kindOf x = some .local /\ m x = some u) \/ ((env.kindOf x = some .cell \/ env.kindOf x = some .free) /\ ∃ c, env.cells.lookup x = some c /\ h.IsCell c (some u))
structure Cx.Ok (X : Cx) : Prop where
 mod : Mod X.K X.mg X.base
 kind : X.env.scope.kind = .function
 glob : X.env.globals = mainGlobals
 blt : X.env.builtins = builtinsNs
 above : X.s₀.heap.objs.size <= X.env.locals
 inj : ∀ x y c, X.env.cells.lookup x = some c -> X.env.cells.lookup y = some c -> x = y
 has : ∀ x, (X.env.kindOf x = some .cell \/ X.env.kindOf x = some .free) -> ∃ c, X.env.cells.lookup x = some c
 cab : ∀ x c, X.fn x = true -> X.env.cells.lookup x = some c -> X.s₀.heap.objs.size <= c
 hd : X.calm = true -> X.A.handled = none
 frames : X.A.frames = some X.stack
 stk : X.stack = X.outer \/ (X.stack = X.env :: X.outer /\ X.env.frame = some X.env.locals)
 exf : ∀ b ∈ X.ex, b ≠ X.env.locals /\ ∀ x c, X.env.cells.lookup x = some c -> c ≠ b
 bs : ∀ b o, X.base.get? b = some o -> X.s₀.heap.get? b = some o /\ X.H₀ b = none
 bsz : X.base.objs.size <= X.s₀.heap.objs.size
 noex : ∀ b o, X.base.get? b = some o -> b ∉ X.ex
 exfs : ∀ b ∈ X.ex, b ∉ X.fs
 funs : X.s₀.heap.FunFrames X.base X.outer
 frf : ∀ b ∈ X.fs, X.H₀ b = none
structure Inv (X : Cx) (pins : List (Addr × Obj)) (σ : List (Option V)) (H : Hp) (s : Shared) : Prop where
 ok : X.Ok
 os : s.os = X.s₀.os
 bare : AllBare s.gens
 base : Un X.fs X.ex X.H₀ H X.s₀.heap s.heap
 loc : ∃ m, s.heap.Ns X.env.locals m /\ ∀ (i : Nat) (x : Str) (v : V), X.N[i]? = some x -> σ[i]? = some (some v) -> Vis X.env.scope x -> ∃ u, RelV v u /\ Look X.env s.heap m x u
 cell : ∀ x c, X.env.cells.lookup x = some c -> ∃ v, s.heap.IsCell c v
 free : H X.env.locals = none
 freeC : ∀ x c, X.env.cells.lookup x = some c -> H c = none
 pin : ∀ p ∈ X.pn ++ pins, s.heap.get? p.1 = some p.2 /\ H p.1 = none /\ p.1 ≠ X.env.locals /\ p.1 ∉ X.fs /\ ∀ v, p.2.data ≠ .cell v
 hok : HOk X.prog X.w H s.heap
 len : σ.length = X.N.length
section
variable {X : Cx} {pins : List (Addr × Obj)} {σ : List (Option V)} {H H' : Hp} {s : Shared} {h' : Heap}
theorem Cx.Ok.nofr (ok : X.Ok) {b : Addr} {o : Obj} (e : X.base.get? b = some o) : b ∉ X.fs := fun hb => by
 have := (ok.funs.mem hb).1
 rw [e] at this; cases this
theorem Inv.bs (I : Inv X pins σ H s) : ∀ b o, X.base.get? b = some o -> s.heap.get? b = some o /\ H b = none := fun b o e =>
 ⟨I.base.keep b o (I.ok.bs b o e).1 (I.ok.bs b o e).2 (I.ok.nofr e) (I.ok.noex b o e), I.base.free b o (I.ok.bs b o e).1 (I.ok.bs b o e).2 (I.ok.noex b o e)⟩
theorem Inv.bk (I : Inv X pins σ H s) : ∀ b o, X.base.get? b = some o -> s.heap.get? b = some o := fun b o e => (I.bs b o e).1
theorem Inv.mod (I : Inv X pins σ H s) : Mod X.K X.mg X.base := I.ok.mod
theorem Inv.kIn (I : Inv X pins σ H s) : X.K.In s.heap := I.ok.mod.kin.keeps I.bk
theorem Inv.lt (I : Inv X pins σ H s) : X.env.locals < s.heap.objs.size := let ⟨_, hn, _⟩ := I.loc; hn.lt
theorem Inv.sz (I : Inv X pins σ H s) : X.s₀.heap.objs.size <= s.heap.objs.size := Nat.le_trans I.ok.above (Nat.le_of_lt I.lt)
theorem Inv.nofs (I : Inv X pins σ H s) {a : Addr} (h : s.heap.objs.size <= a) : a ∉ X.fs := fun hb => by
 obtain ⟨_, o, ho, _⟩ := I.ok.funs.mem hb
 exact absurd (Nat.lt_of_lt_of_le (Heap.lt_size ho) (Nat.le_trans I.sz h)) (Nat.lt_irrefl _)
theorem Inv.cne (I : Inv X pins σ H s) : ∀ x c, X.env.cells.lookup x = some c -> c ≠ X.env.locals := fun x c e z => by
 obtain ⟨v, o, ho, hd⟩ := I.cell x c e
 obtain ⟨m, ⟨o', es, ep, ho', hd', _⟩, _⟩ := I.loc
 rw [z, ho'] at ho; cases ho; rw [hd'] at hd; cases hd
theorem Inv.funs (I : Inv X pins σ H s) : s.heap.FunFrames X.base X.outer := by
 have all : ∀ (l : List Env), (∀ b ∈ frs l, b ∈ X.fs) -> X.s₀.heap.FunFrames X.base l -> s.heap.FunFrames X.base l := by
  intro l
  induction l with
  | nil => intro _ _; trivial
  | cons env r ih =>
   intro hs hl
   obtain ⟨hk, ⟨L, o, hf, hn, ho, hd⟩, hr⟩ := hl
   have hL : L ∈ X.fs := hs L (by unfold frs; rw [List.filterMap_cons, hf]; exact List.mem_cons_self)
   obtain ⟨sl, e⟩ := I.base.slot L o ho (I.ok.frf L hL) hL fun z => I.ok.exfs L z hL
   exact ⟨hk, ⟨L, _, hf, hn, e, hd⟩, ih (fun b hb => hs b (by unfold frs; rw [List.filterMap_cons, hf]; exact List.mem_cons_of_mem _ hb)) hr⟩
 exact all X.outer (fun _ hb => hb) I.ok.funs
theorem Inv.stack (I : Inv X pins σ H s) : s.heap.FunFrames X.base X.stack := by
 rcases I.ok.stk with e | ⟨e, hf⟩
 ·rw [e]; exact I.funs
 ·rw [e]
  obtain ⟨m, hn, _⟩ := I.loc
  refine .cons (by rw [I.ok.kind]; decide) hf hn ?_ I.funs
  exact Heap.get?_none_of_le (Nat.le_trans I.ok.bsz I.ok.above)
theorem Inv.stkSub (I : Inv X pins σ H s) : ∀ b ∈ frs X.stack, b ∈ X.env.locals :: X.fs := fun b hb => by
 rcases I.ok.stk with e | ⟨e, hf⟩
 ·rw [e] at hb; exact List.mem_cons_of_mem _ hb
 ·rw [e] at hb
  unfold frs at hb
  rw [List.filterMap_cons, hf] at hb
  exact hb
theorem Inv.stkFree (I : Inv X pins σ H s) : ∀ b ∈ frs X.stack, H b = none := fun b hb => by
 rcases List.mem_cons.mp (I.stkSub b hb) with e | hb
 ·rw [e]; exact I.free
 ·obtain ⟨_, o, ho, _⟩ := I.ok.funs.mem hb
  exact I.base.free b o ho (I.ok.frf b hb) fun z => I.ok.exfs b z hb
theorem Inv.step {g' : Array GenState} {t' : Nat} {d' : Drawn} {ch : List Addr} (I : Inv X pins σ H s)
  (hch : ∀ b ∈ ch, (b ∈ X.ex \/ X.s₀.heap.objs.size <= b) /\ b ≠ X.env.locals /\ (∀ x c, X.env.cells.lookup x = some c -> c ≠ b) /\ ∀ p ∈ X.pn ++ pins, p.1 ≠ b)
  (keep : ∀ b o, b ≠ X.env.locals -> b ∉ X.fs -> b ∉ ch -> s.heap.get? b = some o -> H b = none -> h'.get? b = some o)
  (slot : ∀ b o, b ≠ X.env.locals -> b ∈ X.fs -> b ∉ ch -> s.heap.get? b = some o -> H b = none -> ∃ sl, h'.get? b = some { o with slots := sl }) (free : ∀ b o, b ∉ ch -> s.heap.get? b = some o -> H b = none -> H' b = none)
  (there : ∀ b o, b ∉ ch -> s.heap.get? b = some o -> ∃ o', h'.get? b = some o')
  (tups : ∀ b xs, H b = some (.tup xs) -> H' b = some (.tup xs)) (frzs : ∀ b o u, H b = some (.frz o u) -> H' b = some (.frz o u)) (tbls : ∀ b ps, H b = some (.tbl ps) -> ∃ more, H' b = some (.tbl (ps ++ more)))
  (ns : ∀ m, s.heap.Ns X.env.locals m -> h'.Ns X.env.locals m) (hok : HOk X.prog X.w H' h') (hg : AllBare g') :
  Inv X pins σ H' { s with heap := h', gens := g', drawn := d', toks := t' } := by
 have neL : ∀ b o, X.s₀.heap.get? b = some o -> b ≠ X.env.locals := fun b o e => Nat.ne_of_lt (Nat.lt_of_lt_of_le (Heap.lt_size e) I.ok.above)
 have neC : ∀ b o, X.s₀.heap.get? b = some o -> b ∉ X.ex -> b ∉ ch := fun b o e hx hb => by
  rcases (hch b hb).1 with z | z
  ·exact hx z
  ·exact absurd (Nat.lt_of_lt_of_le (Heap.lt_size e) z) (Nat.lt_irrefl _)
 have cellK : ∀ x c, X.env.cells.lookup x = some c -> ∀ v, s.heap.IsCell c v -> h'.IsCell c v := fun x c e v ⟨o, ho, hd⟩ => by
  have nch : c ∉ ch := fun z => (hch c z).2.2.1 x c e rfl
  by_cases hc : c ∈ X.fs
  ·obtain ⟨sl, q⟩ := slot c o (I.cne x c e) hc nch ho (I.freeC x c e)
   exact ⟨_, q, hd⟩
  ·exact ⟨o, keep c o (I.cne x c e) hc nch ho (I.freeC x c e), hd⟩
 refine ⟨I.ok, I.os, hg, ⟨fun b o e n hb hx => ?_, fun b o e n hb hx => ?_, fun b o e n hx => ?_, fun b o e hx => ?_, fun b xs e => tups b xs (I.base.tups b xs e), fun b o xs e => frzs b o xs (I.base.frzs b o xs e), fun b ps e => ?_⟩, ?_, fun x c e => ?_, ?_, fun x c e => ?_, fun p hp => ?_, hok, I.len⟩
 ·exact keep b o (neL b o e) hb (neC b o e hx) (I.base.keep b o e n hb hx) (I.base.free b o e n hx)
 ·obtain ⟨sl, e1⟩ := I.base.slot b o e n hb hx
  obtain ⟨sl', e2⟩ := slot b _ (neL b o e) hb (neC b o e hx) e1 (I.base.free b o e n hx)
  exact ⟨sl', e2⟩
 ·obtain ⟨o', e1⟩ := I.base.there b o e hx
  exact free b o' (neC b o e hx) e1 (I.base.free b o e n hx)
 ·obtain ⟨o', e1⟩ := I.base.there b o e hx
  exact there b o' (neC b o e hx) e1
 ·obtain ⟨m1, e1⟩ := I.base.tbls b ps e
  obtain ⟨m2, e2⟩ := tbls b _ e1
  exact ⟨m1 ++ m2, by rw [e2, Array.append_assoc]⟩
 ·obtain ⟨m, hn, hl⟩ := I.loc
  refine ⟨m, ns m hn, fun i x v e1 e2 e3 => ?_⟩
  obtain ⟨u, r, l⟩ := hl i x v e1 e2 e3
  refine ⟨u, r, ?_⟩
  rcases l with l | ⟨k, c, e, z⟩
  ·exact .inl l
  ·exact .inr ⟨k, c, e, cellK x c e _ z⟩
 ·obtain ⟨v, z⟩ := I.cell x c e
  exact ⟨v, cellK x c e v z⟩
 ·obtain ⟨m, ⟨o, _, _, ho, _⟩, _⟩ := I.loc
  exact free _ o (fun z => (hch _ z).2.1 rfl) ho I.free
 ·obtain ⟨v, o, ho, hd⟩ := I.cell x c e
  exact free c o (fun z => (hch c z).2.2.1 x c e rfl) ho (I.freeC x c e)
 ·obtain ⟨e, n, ne, nf, d⟩ := I.pin p hp
  have nch : p.1 ∉ ch := fun z => (hch p.1 z).2.2.2 p hp rfl
  exact ⟨keep p.1 p.2 ne nf nch e n, free p.1 p.2 nch e n, ne, nf, d⟩
theorem Inv.un {t' : Nat} (I : Inv X pins σ H s) (u : Un X.fs [] H H' s.heap h') (hok : HOk X.prog X.w H' h') : Inv X pins σ H' { s with heap := h', toks := t' } := by
 obtain ⟨m, ⟨o, es, ep, ho, r⟩, _⟩ := id I.loc
 obtain ⟨sl, hL⟩ := u.any ho I.free (by simp)
 exact I.step (g' := s.gens) (d' := s.drawn) (ch := []) (fun _ z => nomatch z) (fun b o _ hb _ e n => u.keep b o e n hb (by simp)) (fun b o _ hb _ e n => u.slot b o e n hb (by simp)) (fun b o _ e n => u.free b o e n (by simp)) (fun b o _ e => u.there b o e (by simp)) u.tups u.frzs u.tbls (fun m' hm => by
  obtain ⟨o', es', ep', ho', r'⟩ := hm
  rw [ho] at ho'; cases ho'
  exact ⟨_, es', ep', hL, r'⟩) hok I.bare
theorem Inv.call {g' : Array GenState} {t' : Nat} {d' : Drawn} {ch : List Addr} (I : Inv X pins σ H s) (u : Un (frs X.stack) ch H H' s.heap h') (hok : HOk X.prog X.w H' h') (hg : AllBare g')
  (hch : ∀ b ∈ ch, (b ∈ X.ex \/ X.s₀.heap.objs.size <= b) /\ b ≠ X.env.locals /\ (∀ x c, X.env.cells.lookup x = some c -> c ≠ b) /\ ∀ p ∈ X.pn ++ pins, p.1 ≠ b) :
  Inv X pins σ H' { s with heap := h', gens := g', drawn := d', toks := t' } := by
 obtain ⟨m, ⟨o, es, ep, ho, r⟩, _⟩ := id I.loc
 obtain ⟨sl, hL⟩ := u.any ho I.free fun z => (hch _ z).2.1 rfl
 exact I.step (ch := ch) hch (fun b o hL hb hc e n => u.keep b o e n (fun z => (List.mem_cons.mp (I.stkSub b z)).elim hL hb) hc) (fun b o _ _ hc e n => u.any e n hc) (fun b o hc e n => u.free b o e n hc) (fun b o hc e => u.there b o e hc) u.tups u.frzs u.tbls (fun m' hm => by
  obtain ⟨o', es', ep', ho', r'⟩ := hm
  rw [ho] at ho'; cases ho'
  exact ⟨_, es', ep', hL, r'⟩) hok hg
theorem Inv.turned {t' : Nat} {it : Addr} (I : Inv X pins σ H s) (k : ∀ b o, b ≠ it -> s.heap.get? b = some o -> h'.get? b = some o) (hn : H it = none) (hL : it ≠ X.env.locals)
  (h1 : it ∈ X.ex \/ X.s₀.heap.objs.size <= it) (h2 : ∀ x c, X.env.cells.lookup x = some c -> c ≠ it) (h3 : ∀ p ∈ X.pn ++ pins, p.1 ≠ it) : Inv X pins σ H { s with heap := h', toks := t' } := by
 have nit : ∀ b u, H b = some u -> b ≠ it := fun b u e z => by rw [z, hn] at e; cases e
 refine I.step (g' := s.gens) (d' := s.drawn) (ch := [it]) (fun b hb => ?_) (fun b o _ _ hc e _ => k b o (fun z => hc (by simp [z])) e) (fun b o _ _ hc e _ => ⟨o.slots, k b o (fun z => hc (by simp [z])) e⟩) (fun _ _ _ _ n => n)
  (fun b o hc e => ⟨o, k b o (fun z => hc (by simp [z])) e⟩) (fun _ _ e => e) (fun _ _ _ e => e) (fun b ps e => ⟨#[], by rw [e]; simp⟩) (fun m hm => ?_) (fun b u e => ?_) I.bare
 ·have e : b = it := by simpa using hb
  subst e
  exact ⟨h1, hL, h2, h3⟩
 ·obtain ⟨o, es, ep, ho, r⟩ := hm
  exact ⟨o, es, ep, k _ o (Ne.symm hL) ho, r⟩
 ·refine (I.hok b u e).stay (fun c v hc q => k c v ?_ q) (fun _ q => q) fun _ _ q => q
  rcases hc with z | z
  ·rw [z]; exact nit b u e
  ·exact nit c _ z
theorem Inv.tok (I : Inv X pins σ H s) (t : Nat) : Inv X pins σ H { s with toks := t } := I.un (h' := s.heap) (t' := t) Un.refl I.hok
theorem Inv.kept {t' : Nat} (I : Inv X pins σ H s) (k : ∀ b u, s.heap.get? b = some u -> h'.get? b = some u) : Inv X pins σ H { s with heap := h', toks := t' } := I.un (Un.kept k) (I.hok.kept k)
theorem Inv.laid {a : Addr} {o : HO} {t' : Nat} (I : Inv X pins σ H s) (k : ∀ b u, s.heap.get? b = some u -> h'.get? b = some u) (hp : s.heap.objs.size <= a) (new : ObjOk X.prog X.w (upd H a o) h' a o) :
  Inv X pins σ (upd H a o) { s with heap := h', toks := t' } := I.un (Un.laid k hp (I.hok.fresh hp)) (I.hok.laid k hp new)
theorem Inv.write {x e : Addr} {o : HO} {t' : Nat} (I : Inv X pins σ H s) (mu : Mut (H x)) (he : e = x \/ H e = some (.own x)) (k : ∀ b u, b ≠ e -> s.heap.get? b = some u -> h'.get? b = some u) (heo : ∃ u, h'.get? e = some u)
  (new : ObjOk X.prog X.w (upd H x o) h' x o) : Inv X pins σ (upd H x o) { s with heap := h', toks := t' } := I.un (Un.write mu he k heo) (I.hok.write mu he k heo new)
theorem Inv.pins_of {pins' : List (Addr × Obj)} (I : Inv X pins σ H s) (h : ∀ p ∈ pins', s.heap.get? p.1 = some p.2 /\ H p.1 = none /\ p.1 ≠ X.env.locals /\ p.1 ∉ X.fs /\ ∀ v, p.2.data ≠ .cell v) : Inv X pins' σ H s :=
 ⟨I.ok, I.os, I.bare, I.base, I.loc, I.cell, I.free, I.freeC, fun p hp => (List.mem_append.mp hp).elim (fun z => I.pin p (List.mem_append_left _ z)) (h p), I.hok, I.len⟩
theorem nodup_ix {N : List Str} (hN : N.Nodup) {i j : Nat} {x : Str} (a : N[i]? = some x) (b : N[j]? = some x) : i = j := by
 obtain ⟨h1, e1⟩ := List.getElem?_eq_some_iff.mp a
 obtain ⟨h2, e2⟩ := List.getElem?_eq_some_iff.mp b
 exact (List.getElem_inj hN).mp (e1.trans e2.symm)
theorem store_ok2 {M : Model} {A : Around} {E : Value -> Shared -> Prop} {i : Nat} {x : Str} {v : V} {u : Value} {Q : Unit -> Shared -> Prop} (I : Inv X pins σ H s) (hN : X.N.Nodup) (hi : X.N[i]? = some x) (hx : Loc X.env.scope x) (r : RelV v u)
  (h : ∀ s', Inv X pins (σ.set i (some v)) H s' -> (∃ a, Heap.SameBut a s.heap s'.heap /\ (a = X.env.locals \/ X.env.cells.lookup x = some a)) -> Q () s') (hf : X.fn x = true \/ X.env.scope.names.lookup x = some .local := by first | exact .inl rfl | exact .inr rfl | assumption) : wpAny M A (storeName X.env x u) Q E s := by
 obtain ⟨m, hn, hl⟩ := id I.loc
 have hcls : (X.env.scope.kind == .class || (X.env.scope.kind == .module && X.env.locals != X.env.globals)) = false := by rw [I.ok.kind]; rfl
 have hiσ : i < σ.length := by rw [I.len]; exact (List.getElem?_eq_some_iff.mp hi).1
 have cne := I.cne
 have tracked : ∀ {a : Addr} {h' : Heap}, (∃ o, s.heap.get? a = some o /\ H a = none) -> Heap.SameBut a s.heap h' -> HOk X.prog X.w H h' := fun {a h'} ha hs b ob e => by
  obtain ⟨_, _, hfree⟩ := ha
  refine (I.hok b ob e).stay (fun c w' hc q => (hs.2 c ?_).trans q) (fun _ q => q) fun _ _ q => q
  rintro rfl
  rcases hc with rfl | hc
  ·rw [hfree] at e; cases e
  ·rw [hfree] at hc; cases hc
 rcases hx with hk | hk
 ·refine wpAny_storeName_local hk hn (fun h' hn' hs => ?_) hcls
  obtain ⟨oL, _, _, hoL, _⟩ := id hn
  refine h _ ⟨I.ok, I.os, I.bare, ⟨fun b o e n hb hx => ?_, fun b o e n hb hx => ?_, I.base.free, fun b o e hx => ?_, I.base.tups, I.base.frzs, I.base.tbls⟩, ⟨_, hn', fun j y v' e1 e2 e3 => ?_⟩, fun y c e => ?_, I.free, I.freeC, fun p hp => ?_, tracked ⟨oL, hoL, I.free⟩ hs, by simpa using I.len⟩ ⟨_, hs, .inl rfl⟩
  ·exact (hs.2 b (Nat.ne_of_lt (Nat.lt_of_lt_of_le (Heap.lt_size e) I.ok.above))).trans (I.base.keep b o e n hb hx)
  ·obtain ⟨sl, e1⟩ := I.base.slot b o e n hb hx
   exact ⟨sl, (hs.2 b (Nat.ne_of_lt (Nat.lt_of_lt_of_le (Heap.lt_size e) I.ok.above))).trans e1⟩
  ·obtain ⟨o', e1⟩ := I.base.there b o e hx
   exact ⟨o', (hs.2 b (Nat.ne_of_lt (Nat.lt_of_lt_of_le (Heap.lt_size e) I.ok.above))).trans e1⟩
  ·by_cases hj : j = i
   ·subst hj
    rw [hi] at e1; cases e1
    rw [List.getElem?_set_self hiσ] at e2
    cases e2
    exact ⟨u, r, .inl ⟨hk, by simp⟩⟩
   ·rw [List.getElem?_set_ne (Ne.symm hj)] at e2
    obtain ⟨u', r', q⟩ := hl j y v' e1 e2 e3
    refine ⟨u', r', ?_⟩
    rcases q with ⟨k, e⟩ | ⟨k, c, e, z⟩
    ·refine .inl ⟨k, ?_⟩
     have : y ≠ x := fun e => hj (nodup_ix hN e1 (e ▸ hi))
     simp [this, e]
    ·exact .inr ⟨k, c, e, z.sameBut hs (cne y c e)⟩
  ·obtain ⟨w', z⟩ := I.cell y c e
   exact ⟨w', z.sameBut hs (cne y c e)⟩
  ·obtain ⟨e, n, ne, nf, d⟩ := I.pin p hp
   exact ⟨(hs.2 p.1 ne).trans e, n, ne, nf, d⟩
 ·have hfn : X.fn x = true := by
   rcases hf with z | z
   ·exact z
   ·rw [z] at hk; cases hk
  obtain ⟨c, hc⟩ := I.ok.has x (.inl hk)
  obtain ⟨w', z⟩ := I.cell x c hc
  refine wpAny_storeName_cell I.ok.kind hk hc z (fun h' hc' hs => ?_)
  obtain ⟨oc, hoc, hocd⟩ := id z
  refine h { s with heap := h' } ⟨I.ok, I.os, I.bare, ⟨fun b o e n hb hx => ?_, fun b o e n hb hx => ?_, I.base.free, fun b o e hx => ?_, I.base.tups, I.base.frzs, I.base.tbls⟩, ⟨m, hn.sameBut hs (Ne.symm (cne x c hc)), fun j y v' e1 e2 e3 => ?_⟩, fun y c' e => ?_, I.free, I.freeC, fun p hp => ?_, tracked ⟨oc, hoc, I.freeC x c hc⟩ hs, by simpa using I.len⟩ ⟨c, hs, .inr hc⟩
  ·exact (hs.2 b (Nat.ne_of_lt (Nat.lt_of_lt_of_le (Heap.lt_size e) (I.ok.cab x c hfn hc)))).trans (I.base.keep b o e n hb hx)
  ·obtain ⟨sl, e1⟩ := I.base.slot b o e n hb hx
   exact ⟨sl, (hs.2 b (Nat.ne_of_lt (Nat.lt_of_lt_of_le (Heap.lt_size e) (I.ok.cab x c hfn hc)))).trans e1⟩
  ·obtain ⟨o', e1⟩ := I.base.there b o e hx
   exact ⟨o', (hs.2 b (Nat.ne_of_lt (Nat.lt_of_lt_of_le (Heap.lt_size e) (I.ok.cab x c hfn hc)))).trans e1⟩
  ·by_cases hj : j = i
   ·subst hj
    rw [hi] at e1; cases e1
    rw [List.getElem?_set_self hiσ] at e2
    cases e2
    exact ⟨u, r, .inr ⟨.inl hk, c, hc, hc'⟩⟩
   ·rw [List.getElem?_set_ne (Ne.symm hj)] at e2
    obtain ⟨u', r', q⟩ := hl j y v' e1 e2 e3
    refine ⟨u', r', ?_⟩
    rcases q with q | ⟨k, c', e, z'⟩
    ·exact .inl q
    ·refine .inr ⟨k, c', e, z'.sameBut hs ?_⟩
     rintro rfl
     exact hj (nodup_ix hN e1 (I.ok.inj _ _ _ e hc ▸ hi))
  ·by_cases hcc : c' = c
   ·subst hcc; exact ⟨_, hc'⟩
   ·obtain ⟨w2, z2⟩ := I.cell y c' e
    exact ⟨w2, z2.sameBut hs hcc⟩
  ·obtain ⟨e, n, ne, nf, d⟩ := I.pin p hp
   refine ⟨(hs.2 p.1 ?_).trans e, n, ne, nf, d⟩
   intro q
   rw [q, hoc] at e
   have q' : oc = p.2 := Option.some.inj e
   exact d w' (by rw [<- q']; exact hocd)
theorem store_ok {M : Model} {A : Around} {E : Value -> Shared -> Prop} {i : Nat} {x : Str} {v : V} {u : Value} {Q : Unit -> Shared -> Prop} (I : Inv X pins σ H s) (hN : X.N.Nodup) (hi : X.N[i]? = some x) (hx : Loc X.env.scope x) (r : RelV v u)
  (h : ∀ s', Inv X pins (σ.set i (some v)) H s' -> Q () s') (hf : X.fn x = true \/ X.env.scope.names.lookup x = some .local := by first | exact .inl rfl | exact .inr rfl | assumption) : wpAny M A (storeName X.env x u) Q E s :=
 store_ok2 I hN hi hx r (fun s' I' _ => h s' I') hf
theorem Inv.call' {s' : Shared} {ch : List Addr} (I : Inv X pins σ H s) (ho : s'.os = s.os) (u : Un (frs X.stack) ch H H' s.heap s'.heap) (hok : HOk X.prog X.w H' s'.heap) (hg : AllBare s'.gens)
  (hch : ∀ b ∈ ch, (b ∈ X.ex \/ X.s₀.heap.objs.size <= b) /\ b ≠ X.env.locals /\ (∀ x c, X.env.cells.lookup x = some c -> c ≠ b) /\ ∀ p ∈ X.pn ++ pins, p.1 ≠ b) : Inv X pins σ H' s' := by
 obtain ⟨h', g', d', t', o'⟩ := s'
 have e : o' = s.os := ho
 subst e
 exact I.call (g' := g') (t' := t') (d' := d') u hok hg hch
end
abbrev XK := Value -> Option Addr -> Hp -> Prop
abbrev St := List (Option V)
abbrev VK := V -> Hp -> Prop
abbrev TE := St -> Hp -> VK -> Prop
abbrev TT := St -> Hp -> (Bool -> Hp -> Prop) -> Prop
abbrev TA := St -> Hp -> (List V -> Hp -> Prop) -> Prop
structure Ends where
 nx : St -> Hp -> Prop
 rt : VK
 bk : St -> Hp -> Prop := fun _ _ => False
 ct : St -> Hp -> Prop := fun _ _ => False
abbrev TS := Ends -> St -> Hp -> Prop
def EP (X : Cx) (pins : List (Addr × Obj)) (σ : St) (Q : VK) (u : Value) (s' : Shared) : Prop := ∃ v H', Inv X pins σ H' s' /\ RelV v u /\ Q v H'
def TP (X : Cx) (pins : List (Addr × Obj)) (σ : St) (Q : Bool -> Hp -> Prop) (b : Bool) (s' : Shared) : Prop := ∃ H', Inv X pins σ H' s' /\ Q b H'
def AP (X : Cx) (pins : List (Addr × Obj)) (σ : St) (Q : List V -> Hp -> Prop) (us : List Value) (s' : Shared) : Prop := ∃ vs H', Inv X pins σ H' s' /\ Vals vs us /\ Q vs H'
def SP (X : Cx) (pins : List (Addr × Obj)) (D : Ends) (f : Flow) (s' : Shared) : Prop :=
 match f with
 | .next => ∃ σ' H', Inv X pins σ' H' s' /\ D.nx σ' H'
 | .brk => ∃ σ' H', Inv X pins σ' H' s' /\ D.bk σ' H'
 | .cont => ∃ σ' H', Inv X pins σ' H' s' /\ D.ct σ' H'
 | .ret u => ∃ v σ' H', Inv X pins σ' H' s' /\ RelV v u /\ D.rt v H'
def PE (X : Cx) (e : Expr) (t : TE) : Prop :=
 ∀ (pins : List (Addr × Obj)) (s : Shared) (σ : St) (H : Hp) (Q : VK), Inv X pins σ H s -> t σ H Q -> wpAny (model X.prog X.w) X.A (eval e X.env) (EP X pins σ Q) X.xe s
def PT (X : Cx) (e : Expr) (t : TT) : Prop :=
 ∀ (pins : List (Addr × Obj)) (s : Shared) (σ : St) (H : Hp) (Q : Bool -> Hp -> Prop), Inv X pins σ H s -> t σ H Q -> wpAny (model X.prog X.w) X.A (isTrue e X.env (eval e X.env)) (TP X pins σ Q) X.xe s
def PW (X : Cx) (e : Expr) (t : TT) : Prop :=
 ∀ (whole : Sem Value) (pins : List (Addr × Obj)) (s : Shared) (σ : St) (H : Hp) (Q : Bool -> Hp -> Prop), Inv X pins σ H s -> t σ H Q -> wpAny (model X.prog X.w) X.A (isTrue e X.env whole) (TP X pins σ Q) X.xe s
theorem PW.pt {X : Cx} {e : Expr} {t : TT} (h : PW X e t) : PT X e t := h _
def PA (X : Cx) (es : List Expr) (t : TA) : Prop :=
 ∀ (pos : Pos) (pins : List (Addr × Obj)) (s : Shared) (σ : St) (H : Hp) (Q : List V -> Hp -> Prop), Inv X pins σ H s -> t σ H Q -> wpAny (model X.prog X.w) X.A (spliced (backTo pos (starEach es X.env))) (AP X pins σ Q) X.xe s
def PS (X : Cx) (st : Stmt) (t : TS) : Prop :=
 ∀ (pins : List (Addr × Obj)) (s : Shared) (σ : St) (H : Hp) (D : Ends), Inv X pins σ H s -> t D σ H -> wpAny (model X.prog X.w) X.A (exec st X.env) (SP X pins D) X.xe s
def PSs (X : Cx) (st : List Stmt) (t : TS) : Prop :=
 ∀ (pins : List (Addr × Obj)) (s : Shared) (σ : St) (H : Hp) (D : Ends), Inv X pins σ H s -> t D σ H -> wpAny (model X.prog X.w) X.A (execs st X.env) (SP X pins D) X.xe s
theorem thn {α : Type} {t : Sem α} {Q Q' : α -> Shared -> Prop} {M : Model} {A : Around} {E : Value -> Shared -> Prop} {s : Shared} (h : wpAny M A t Q E s) (hQ : ∀ a s, Q a s -> Q' a s) : wpAny M A t Q' E s := wpAny_mono h hQ fun _ _ x => x
end L2
namespace L2
open PySem PySem.Spec PyProof.Rows
section
variable {X : Cx}
theorem bin {a b : Expr} {ta tb : TE} (ha : PE X a ta) (hb : PE X b tb) {pins : List (Addr × Obj)} {s : Shared} {σ : St} {H : Hp} {R : V -> V -> Hp -> Prop} (I : Inv X pins σ H s) (h : ta σ H fun x H1 => tb σ H1 fun y H2 => R x y H2)
  {α : Type} {Q : α -> Shared -> Prop} {f : Value -> Value -> Sem α}
  (hf : ∀ v u s2 x y H2, Inv X pins σ H2 s2 -> RelV x v -> RelV y u -> R x y H2 -> wpAny (model X.prog X.w) X.A (f v u) Q X.xe s2) :
  wpAny (model X.prog X.w) X.A (eval a X.env) (fun v s₁ => wpAny (model X.prog X.w) X.A (eval b X.env) (fun u s₂ => wpAny (model X.prog X.w) X.A (f v u) Q X.xe s₂) X.xe s₁) X.xe s := by
 refine thn (ha pins s σ H _ I h) fun v s1 ⟨x, H1, I1, r1, q1⟩ => ?_
 refine thn (hb pins s1 σ H1 _ I1 q1) fun u s2 ⟨y, H2, I2, r2, q2⟩ => ?_
 exact hf v u s2 x y H2 I2 r1 r2 q2
def tVar (i : Nat) : TE := fun σ H Q => ∃ v, σ[i]? = some (some v) /\ Q v H
def tC (v : V) : TE := fun _ H Q => Q v H
theorem pe_var {i : Nat} {x : Str} {pos : Pos} (hN : X.N[i]? = some x) (hv : Vis X.env.scope x) (hd : (x == ("__debug__" : Str)) = false := by decide) (hcd : (x == ("__classdict__" : Str)) = false := by decide) : PE X (.Name x pos) (tVar i) := by
 intro pins s σ H Q I h
 obtain ⟨v, e, h⟩ := h
 obtain ⟨m, hn, hl⟩ := I.loc
 obtain ⟨u, r, l⟩ := hl i x v hN e hv
 have fin : EP X pins σ Q u s := ⟨v, H, I, r, h⟩
 rcases l with ⟨hk, hm⟩ | ⟨hk, c, hc, hcell⟩
 ·exact wpAny_Name (wpAny_loadName_local I.ok.kind hk hn hm fin) hd
 ·rcases hk with hk | hk
  ·exact wpAny_Name (wpAny_loadName_cell I.ok.kind hk hc hcell fin) hd
  ·exact wpAny_Name (wpAny_loadName_free I.ok.kind hk hc hcell fin hcd) hd
theorem pe_int {i j pos} : PE X (.Constant (.int i) j pos) (tC (.int i)) := fun _ _ _ H _ I h => wpAny_Constant_int ⟨.int i, H, I.tok _, ⟨_, rfl⟩, h⟩
theorem pe_bl {b j pos} : PE X (.Constant (.bool b) j pos) (tC (.bl b)) := fun _ _ _ H _ I h => Constant_bool ⟨.bl b, H, I, rfl, h⟩
theorem pe_non {j pos} : PE X (.Constant .none j pos) (tC .non) := fun _ _ _ H _ I h => Constant_none ⟨.non, H, I, rfl, h⟩
theorem pe_str {x j pos} : PE X (.Constant (.str x) j pos) (tC (.str x)) := fun _ _ _ H _ I h => Calls.Constant_str ⟨.str x, H, I.tok _, ⟨_, rfl⟩, h⟩
def Gl (X : Cx) (x : Str) : Prop := X.env.kindOf x = some .globalImplicit
theorem ld_glob {E : Value -> Shared -> Prop} {pins : List (Addr × Obj)} {s : Shared} {σ : St} {H : Hp} {x : Str} {u : Value} {pos : Pos} {Q : Value -> Shared -> Prop} (I : Inv X pins σ H s) (hg : Gl X x) (hm : X.mg x = some u) (h : Q u s)
  (hd : (x == ("__debug__" : Str)) = false := by decide) : wpAny (model X.prog X.w) X.A (eval (.Name x pos) X.env) Q E s :=
 Calls.Name_function_global I.ok.kind hg (Calls.loadGlobal_global (by rw [I.ok.glob]; exact I.mod.glob.keeps I.bk) hm h) hd
theorem ld_blt {E : Value -> Shared -> Prop} {pins : List (Addr × Obj)} {s : Shared} {σ : St} {H : Hp} {x : Str} {u : Value} {pos : Pos} {Q : Value -> Shared -> Prop} (I : Inv X pins σ H s) (hg : Gl X x) (hm : X.mg x = none) (hv : bootBuiltins x = some u) (h : Q u s)
  (hn : x ≠ "__name__" := by decide) (hd : (x == ("__debug__" : Str)) = false := by decide) : wpAny (model X.prog X.w) X.A (eval (.Name x pos) X.env) Q E s := by
 obtain ⟨mb, h1, h2⟩ := I.mod.blt
 exact Calls.Name_function_global I.ok.kind hg (Calls.loadGlobal_builtin (by rw [I.ok.glob]; exact I.mod.glob.keeps I.bk) hm (by rw [I.ok.blt]; exact h1.keeps I.bk) ((h2 x hn).trans hv) h) hd
theorem pe_glob {x : Str} {v : V} {u : Value} {pos : Pos} (hg : Gl X x) (hm : X.mg x = some u) (r : RelV v u) (hd : (x == ("__debug__" : Str)) = false := by decide) : PE X (.Name x pos) (tC v) :=
 fun _ _ _ H _ I h => ld_glob I hg hm ⟨v, H, I, r, h⟩ hd
theorem pe_bltn {x : Str} {v : V} {u : Value} {pos : Pos} (hg : Gl X x) (hm : X.mg x = none) (hv : bootBuiltins x = some u) (r : RelV v u) (hn : x ≠ "__name__" := by decide) (hd : (x == ("__debug__" : Str)) = false := by decide) : PE X (.Name x pos) (tC v) :=
 fun _ _ _ H _ I h => ld_blt I hg hm hv ⟨v, H, I, r, h⟩ hn hd
variable {a b : Expr} {ta tb : TE} {pos : Pos}
def PC (X : Cx) (op : CmpOp) (a b : Expr) (t : TE) : Prop :=
 ∀ (pins : List (Addr × Obj)) (s : Shared) (σ : St) (H : Hp) (Q : VK), Inv X pins σ H s -> t σ H Q ->
  wpAny (model X.prog X.w) X.A (eval a X.env) (fun v s₁ => wpAny (model X.prog X.w) X.A (eval b X.env) (fun u s₂ => wpAny (model X.prog X.w) X.A (compareOp op v u) (EP X pins σ Q) X.xe s₂) X.xe s₁) X.xe s
def tB (t : TE) : TT := fun σ H Q => t σ H fun x H1 => ∃ c, x = .bl c /\ Q c H1
theorem pt_cmp {op : CmpOp} {t : TE} (h : PC X op a b t) (h1 : behindInMarks op b = false := by first | exact nobehind _ (by decide) (by decide) | rfl) : PT X (.Compare a [op] [b] pos) (tB t) := by
 intro pins s σ H Q I hw
 refine wpAny_isTrue_Compare1 (thn (h pins s σ H _ I hw) fun v s1 h1 => thn h1 fun u s2 h2 => thn h2 fun c s3 ⟨x, H1, I1, r1, q1⟩ => ?_) h1
 obtain ⟨d, rfl, q⟩ := q1
 cases r1
 exact wpAny_truthy_bool ⟨H1, I1, q⟩
theorem pt_val {e : Expr} {t : TE} (h : PE X e t) (he : ∀ whole, isTrue e X.env whole = (do let v <- whole; standAt e.pos; holding [v] (truthy v)) := by intro _; rfl) : PT X e (tB t) := by
 intro pins s σ H Q I hw
 refine isTrue_plain (thn (h pins s σ H _ I hw) fun v s1 ⟨x, H1, I1, r1, q1⟩ => ?_) (he _)
 obtain ⟨d, rfl, q⟩ := q1
 cases r1
 exact wpAny_truthy_bool ⟨H1, I1, q⟩
variable {tA tB' : TT} {rest : List Expr}
def tAnd (t u : TT) : TT := fun σ H Q => t σ H fun c H1 => if c = true then u σ H1 Q else Q false H1
def tOr (t u : TT) : TT := fun σ H Q => t σ H fun c H1 => if c = true then Q true H1 else u σ H1 Q
def tNot (t : TT) : TT := fun σ H Q => t σ H fun c H1 => Q (!c) H1
theorem pw_and1 (ha : PT X a tA) : PW X (.BoolOp .And [a] pos) tA := by
 intro wh pins s σ H Q I h
 refine isTrue_and (thn (ha pins s σ H Q I h) fun c s1 e => ?_)
 cases c with
 | true => exact isTrue_and_nil e
 | false => exact e
theorem pw_or1 (ha : PT X a tA) : PW X (.BoolOp .Or [a] pos) tA := by
 intro wh pins s σ H Q I h
 refine isTrue_or (thn (ha pins s σ H Q I h) fun c s1 e => ?_)
 cases c with
 | false => exact isTrue_or_nil e
 | true => exact e
theorem pw_and (ha : PT X a tA) (hb : PW X (.BoolOp .And (b :: rest) pos) tB') : PW X (.BoolOp .And (a :: b :: rest) pos) (tAnd tA tB') := by
 intro wh pins s σ H Q I h
 refine isTrue_and (thn (ha pins s σ H _ I h) fun c s1 ⟨H1, I1, q1⟩ => ?_)
 cases c with
 | true => exact hb wh pins s1 σ H1 Q I1 q1
 | false => exact ⟨H1, I1, q1⟩
theorem pw_or (ha : PT X a tA) (hb : PW X (.BoolOp .Or (b :: rest) pos) tB') : PW X (.BoolOp .Or (a :: b :: rest) pos) (tOr tA tB') := by
 intro wh pins s σ H Q I h
 refine isTrue_or (thn (ha pins s σ H _ I h) fun c s1 ⟨H1, I1, q1⟩ => ?_)
 cases c with
 | true => exact ⟨H1, I1, q1⟩
 | false => exact hb wh pins s1 σ H1 Q I1 q1
theorem pt_not (ha : PT X a tA) : PT X (.UnaryOp .Not a pos) (tNot tA) := by
 intro pins s σ H Q I h
 exact isTrue_not (ha pins s σ H (fun c H1 => Q (!c) H1) I h)
def tAndV (ta tb : TE) : TE := fun σ H Q => ta σ H fun x H1 => ∃ c, x = .bl c /\ if c = true then tb σ H1 Q else Q (.bl false) H1
def tNotV (ta : TE) : TE := fun σ H Q => ta σ H fun x H1 => ∃ c, x = .bl c /\ Q (.bl (!c)) H1
theorem pe_one {op} {t : TE} (h : PE X a t) : PE X (.BoolOp op [a] pos) t := fun pins s σ H Q I hw => BoolOp_one (h pins s σ H Q I hw)
theorem pe_and (ha : PE X a ta) (hb : PE X (.BoolOp .And (b :: rest) pos) tb) : PE X (.BoolOp .And (a :: b :: rest) pos) (tAndV ta tb) := by
 intro pins s σ H Q I h
 refine BoolOp_and (thn (ha pins s σ H _ I h) fun v s1 ⟨x, H1, I1, r1, q1⟩ => ?_)
 obtain ⟨c, rfl, q1⟩ := q1
 cases r1
 refine wpAny_truthy_bool ?_
 cases c with
 | true => exact hb pins s1 σ H1 Q I1 q1
 | false => exact ⟨.bl false, H1, I1, rfl, q1⟩
theorem pe_not (ha : PE X a ta) : PE X (.UnaryOp .Not a pos) (tNotV ta) := by
 intro pins s σ H Q I h
 refine UnaryOp_ (thn (ha pins s σ H _ I h) fun v s1 ⟨x, H1, I1, r1, q1⟩ => ?_)
 obtain ⟨c, rfl, q1⟩ := q1
 cases r1
 exact not_of (wpAny_truthy_bool ⟨.bl (!c), H1, I1, rfl, q1⟩)
def tIf (t : TT) (ta tb : TE) : TE := fun σ H Q => t σ H fun c H1 => if c = true then ta σ H1 Q else tb σ H1 Q
theorem pe_ifExp {c : Expr} (hc : PT X c tA) (ha : PE X a ta) (hb : PE X b tb) : PE X (.IfExp c a b pos) (tIf tA ta tb) := by
 intro pins s σ H Q I h
 refine wpAny_IfExp (thn (hc pins s σ H _ I h) fun d s1 ⟨H1, I1, q1⟩ => ?_)
 cases d with
 | true => exact ha pins s1 σ H1 Q I1 q1
 | false => exact hb pins s1 σ H1 Q I1 q1
end
end L2
namespace L2
open PySem PySem.Spec PyProof.Rows
def SqL (K : PySem.W.Frag) (H : Hp) (a : Addr) (xs : List V) : Prop :=
 Rd H a (.lst xs) \/
  ∃ (o : Obj) (its : Array Value) (n : Nat), K.lookup a = some o /\ o.cls = .type "list" /\ o.dict = none /\ o.data = .seq its n /\ its.size <= sizeLine /\ Vals xs its.toList
def SqT (K : PySem.W.Frag) (H : Hp) (a : Addr) (xs : List V) : Prop :=
 Rd H a (.tup xs) \/
  ∃ (o : Obj) (its : Array Value) (n : Nat), K.lookup a = some o /\ o.cls = .type "tuple" /\ o.data = .seq its n /\ its.size <= sizeLine /\ Vals xs its.toList
def absV : Value -> Option V
 | .none => some .non
 | .bool b => some (.bl b)
 | .int i _ => some (.int i)
 | .str x _ => some (.str x)
 | .bytes b _ => some (.byt b)
 | .float b _ => some (.flt b)
 | .ref a => some (.ref a)
 | .type n => some (.ty n)
 | _ => none
theorem RelV.abs {x : V} {u : Value} (r : RelV x u) : absV u = some x := by
 cases x with
 | non => cases r; rfl
 | bl _ => cases r; rfl
 | int _ => obtain ⟨t, rfl⟩ := r; rfl
 | str _ => obtain ⟨t, rfl⟩ := r; rfl
 | byt _ => obtain ⟨t, rfl⟩ := r; rfl
 | flt _ => obtain ⟨t, rfl⟩ := r; rfl
 | ref _ => cases r; rfl
 | ty _ => cases r; rfl
theorem RelV.inj {x y : V} {u : Value} (r : RelV x u) (q : RelV y u) : x = y := Option.some.inj (r.abs.symm.trans q.abs)
theorem Vals.inj : ∀ {xs ys : List V} {us : List Value}, Vals xs us -> Vals ys us -> xs = ys
 | _, _, _, .nil, .nil => rfl
 | _, _, _, .cons r t, .cons r' t' => by rw [r.inj r', Vals.inj t t']
section
variable {X : Cx} {pins : List (Addr × Obj)} {σ : St} {H : Hp} {s : Shared} {a : Addr} {xs ys : List V}
theorem SqL.of {K : PySem.W.Frag} (h : H a = some (.lst xs)) : SqL K H a xs := .inl (.inl h)
theorem SqT.of {K : PySem.W.Frag} (h : H a = some (.tup xs)) : SqT K H a xs := .inl (.inl h)
theorem Inv.list (I : Inv X pins σ H s) (h : SqL X.K H a xs) : ∃ its : List Value, Vals xs its /\ PlainL s.heap a its.toArray /\ xs.length <= sizeLine := by
 rcases h with h | ⟨o, its, n, hk, hc, hd, hs, hz, r⟩
 ·obtain ⟨z, its, n, r, e⟩ := h.ok I.hok
  exact ⟨its, r, ⟨_, n, e, rfl, rfl, rfl⟩, z⟩
 ·refine ⟨its.toList, r, ⟨o, n, I.kIn a o hk, hc, hd, by simpa using hs⟩, ?_⟩
  have e := r.length
  simp only [Array.length_toList] at e
  omega
theorem Inv.tuple (I : Inv X pins σ H s) (h : SqT X.K H a xs) : ∃ its : List Value, Vals xs its /\ IsTup s.heap a its.toArray /\ xs.length <= sizeLine := by
 rcases h with h | ⟨o, its, n, hk, hc, hs, hz, r⟩
 ·obtain ⟨z, its, r, p⟩ := h.ok I.hok
  exact ⟨its, r, p, z⟩
 ·refine ⟨its.toList, r, ⟨o, I.kIn a o hk, hc, n, by simpa using hs⟩, ?_⟩
  have e := r.length
  simp only [Array.length_toList] at e
  omega
theorem Inv.list_inj (I : Inv X pins σ H s) (h : SqL X.K H a xs) (h' : SqL X.K H a ys) : xs = ys := by
 obtain ⟨its, r, ⟨o, n, e, _, _, d⟩, _⟩ := I.list h
 obtain ⟨its', r', ⟨o', n', e', _, _, d'⟩, _⟩ := I.list h'
 rw [e] at e'; cases e'
 rw [d] at d'
 injection d' with d1 _
 have : its = its' := by simpa using congrArg Array.toList d1
 subst this
 exact r.inj r'
theorem Inv.tuple_inj (I : Inv X pins σ H s) (h : SqT X.K H a xs) (h' : SqT X.K H a ys) : xs = ys := by
 obtain ⟨its, r, ⟨o, e, _, n, d⟩, _⟩ := I.tuple h
 obtain ⟨its', r', ⟨o', e', _, n', d'⟩, _⟩ := I.tuple h'
 rw [e] at e'; cases e'
 rw [d] at d'
 injection d' with d1 _
 have : its = its' := by simpa using congrArg Array.toList d1
 subst this
 exact r.inj r'
end
abbrev Cx.wish (X : Cx) (E : Value -> Shared -> Prop) : Cx := { X with xe := E }
abbrev Cx.nox (X : Cx) : Cx := X.wish fun _ _ => False
theorem Cx.Ok.wish {X : Cx} (ok : X.Ok) (E : Value -> Shared -> Prop) : (X.wish E).Ok :=
 ⟨ok.mod, ok.kind, ok.glob, ok.blt, ok.above, ok.inj, ok.has, ok.cab, ok.hd, ok.frames, ok.stk, ok.exf, ok.bs, ok.bsz, ok.noex, ok.exfs, ok.funs, ok.frf⟩
theorem Cx.Ok.unwish {X : Cx} {E : Value -> Shared -> Prop} (ok : (X.wish E).Ok) : X.Ok :=
 ⟨ok.mod, ok.kind, ok.glob, ok.blt, ok.above, ok.inj, ok.has, ok.cab, ok.hd, ok.frames, ok.stk, ok.exf, ok.bs, ok.bsz, ok.noex, ok.exfs, ok.funs, ok.frf⟩
section
variable {X : Cx} {pins : List (Addr × Obj)} {σ : St} {H : Hp} {s : Shared} {E : Value -> Shared -> Prop}
theorem Inv.wish (I : Inv X pins σ H s) (E : Value -> Shared -> Prop) : Inv (X.wish E) pins σ H s := ⟨I.ok.wish E, I.os, I.bare, I.base, I.loc, I.cell, I.free, I.freeC, I.pin, I.hok, I.len⟩
theorem Inv.unwish (I : Inv (X.wish E) pins σ H s) : Inv X pins σ H s := ⟨I.ok.unwish, I.os, I.bare, I.base, I.loc, I.cell, I.free, I.freeC, I.pin, I.hok, I.len⟩
theorem SP.unwish {D : Ends} {f : Flow} {s' : Shared} (h : SP (X.wish E) pins D f s') : SP X pins D f s' := by
 cases f with
 | next => obtain ⟨σ', H', I, q⟩ := h; exact ⟨σ', H', I.unwish, q⟩
 | brk => obtain ⟨σ', H', I, q⟩ := h; exact ⟨σ', H', I.unwish, q⟩
 | cont => obtain ⟨σ', H', I, q⟩ := h; exact ⟨σ', H', I.unwish, q⟩
 | ret u => obtain ⟨v, σ', H', I, r, q⟩ := h; exact ⟨v, σ', H', I.unwish, r, q⟩
theorem PSs.nox {st : List Stmt} {t : TS} (h : PSs X.nox st t) : PSs X st t := fun pins s σ H D I hw =>
 wpAny_mono (h pins s σ H D (I.wish _) hw) (fun _ _ q => q.unwish) fun _ _ z => False.elim z
end
section
variable {X : Cx} {st : Stmt} {rest : List Stmt} {t u : TS} {e : Expr} {te : TE} {pos : Pos}
def tNext : TS := fun D σ H => D.nx σ H
def tSeq (t u : TS) : TS := fun D σ H => t { D with nx := u D } σ H
theorem pss_nil : PSs X [] tNext := fun _ _ σ H _ I h => wpAny_execs_nil ⟨σ, H, I, h⟩
theorem pss_cons (h1 : PS X st t) (h2 : PSs X rest u) : PSs X (st :: rest) (tSeq t u) := by
 intro pins s σ H D I h
 refine wpAny_execs_cons (thn (h1 pins s σ H { D with nx := u D } I h) fun f s1 q => ?_)
 cases f with
 | next =>
  obtain ⟨σ', H', I', q⟩ := q
  exact h2 pins s1 σ' H' D I' q
 | ret v => exact q
 | brk => exact q
 | cont => exact q
theorem pss_one (h1 : PS X st t) : PSs X [st] t := by
 intro pins s σ H D I h
 refine wpAny_execs_cons (thn (h1 pins s σ H D I h) fun f s1 q => ?_)
 cases f with
 | next => exact wpAny_execs_nil q
 | ret v => exact q
 | brk => exact q
 | cont => exact q
theorem Inv.quiet {pins : List (Addr × Obj)} {σ : St} {H : Hp} {s : Shared} (I : Inv X pins σ H s) : interactive X.env = false := by simp [interactive, I.ok.kind]
def tDrop (te : TE) : TS := fun D σ H => te σ H fun _ H1 => D.nx σ H1
theorem ps_expr (he : PE X e te) (hs : swapsWith e none pos.line X.env = pure false := by rfl) : PS X (.Expr e pos) (tDrop te) := by
 intro pins s σ H D I h
 exact wpAny_Expr_any (thn (he pins s σ H _ I h) fun v s1 ⟨x, H1, I1, r1, q1⟩ => ⟨σ, H1, I1, q1⟩) I.quiet hs
def tRet (te : TE) : TS := fun D σ H => te σ H D.rt
theorem ps_ret (he : PE X e te) : PS X (.Return (some e) pos) (tRet te) := by
 intro pins s σ H D I h
 exact wpAny_Return_some (thn (he pins s σ H _ I h) fun v s1 ⟨x, H1, I1, r1, q1⟩ => ⟨x, σ, H1, I1, r1, q1⟩)
def tIfS (c : TT) (t u : TS) : TS := fun D σ H => c σ H fun b H1 => if b = true then t D σ H1 else u D σ H1
theorem ps_if {c : Expr} {a b : List Stmt} {tc : TT} (hc : PT X c tc) (ha : PSs X a t) (hb : PSs X b u) : PS X (.If c a b pos) (tIfS tc t u) := by
 intro pins s σ H D I h
 refine wpAny_If (thn (hc pins s σ H _ I h) fun d s1 ⟨H1, I1, q1⟩ => ?_)
 cases d with
 | true => exact ha pins s1 σ H1 D I1 q1
 | false => exact hb pins s1 σ H1 D I1 q1
def tNever : TS := fun _ _ _ => False
theorem ps_never : PS X st tNever := fun _ _ _ _ _ _ h => h.elim
end
abbrev TG := V -> St -> Hp -> (St -> Hp -> Prop) -> Prop
abbrev TGs := List V -> St -> Hp -> (St -> Hp -> Prop) -> Prop
def PG (X : Cx) (target : Expr) (t : TG) : Prop :=
 ∀ (pins : List (Addr × Obj)) (s : Shared) (σ : St) (H : Hp) (v : V) (u : Value) (Q : St -> Hp -> Prop), Inv X pins σ H s -> RelV v u -> t v σ H Q ->
  wpAny (model X.prog X.w) X.A (assign target X.env u) (fun _ s' => ∃ σ' H', Inv X pins σ' H' s' /\ Q σ' H') X.xe s
def PGs (X : Cx) (ts : List Expr) (t : TGs) : Prop :=
 ∀ (pins : List (Addr × Obj)) (s : Shared) (σ : St) (H : Hp) (vs : List V) (us : List Value) (Q : St -> Hp -> Prop), Inv X pins σ H s -> Vals vs us -> t vs σ H Q ->
  wpAny (model X.prog X.w) X.A (assignInOrder ((assignEach ts X.env).map (·.2)) us) (fun _ s' => ∃ σ' H', Inv X pins σ' H' s' /\ Q σ' H') X.xe s
abbrev TSet := V -> V -> V -> Hp -> (Hp -> Prop) -> Prop
def PSet (X : Cx) (t : TSet) : Prop :=
 ∀ (pins : List (Addr × Obj)) (s : Shared) (σ : St) (H : Hp) (o i v : V) (ov iv u : Value) (Q : Hp -> Prop), Inv X pins σ H s -> RelV o ov -> RelV i iv -> RelV v u -> t o i v H Q ->
  wpAny (model X.prog X.w) X.A (setItem ov iv u) (fun _ s' => ∃ H', Inv X pins σ H' s' /\ Q H') X.xe s
section
variable {X : Cx} {pos : Pos}
def gName (i : Nat) : TG := fun v σ H Q => Q (σ.set i (some v)) H
theorem pg_name {i : Nat} {x : Str} (hN : X.N.Nodup) (hi : X.N[i]? = some x) (hx : Loc X.env.scope x) (hf : X.fn x = true \/ X.env.scope.names.lookup x = some .local := by first | exact .inl rfl | exact .inr rfl | assumption) : PG X (.Name x pos) (gName i) := by
 intro pins s σ H v u Q I r h
 exact wpAny_assign_Name (store_ok I hN hi hx r (fun s' I' => ⟨_, H, I', h⟩) hf)
def gNil : TGs := fun vs σ H Q => vs = [] /\ Q σ H
def gCons (t : TG) (u : TGs) : TGs := fun vs σ H Q => ∃ v r, vs = v :: r /\ t v σ H fun σ' H' => u r σ' H' Q
theorem pgs_nil : PGs X [] gNil := by
 intro pins s σ H vs us Q I r h
 obtain ⟨e, h⟩ := h
 subst e
 cases r
 exact assignInOrder_nil ⟨σ, H, I, h⟩
theorem pgs_cons {e : Expr} {es : List Expr} {t : TG} {u : TGs} (h1 : PG X e t) (h2 : PGs X es u)
  (hs : (assignEach (e :: es) X.env).map (·.2) = assign e X.env :: (assignEach es X.env).map (·.2) := by rfl) : PGs X (e :: es) (gCons t u) := by
 intro pins s σ H vs us Q I r h
 obtain ⟨v, vr, e1, h⟩ := h
 subst e1
 cases r with
 | cons r rr =>
  rw [hs]
  refine assignInOrder_cons (thn (h1 pins s σ H _ _ _ I r h) fun _ s1 ⟨σ1, H1, I1, q1⟩ => ?_)
  exact h2 pins s1 σ1 H1 _ _ Q I1 rr q1
def gTup (K : PySem.W.Frag) (n : Nat) (t : TGs) : TG := fun v σ H Q => ∃ a xs, v = .ref a /\ SqT K H a xs /\ xs.length = n /\ t xs σ H Q
theorem pg_tup {es : List Expr} {k : Nat} {t : TGs} {n : Nat} (hc : X.calm = true) (h : PGs X es t)
  (hn : (assignEach es X.env).length = n := by rfl) (hst : (assignEach es X.env).findIdx? (·.1) = none := by rfl) : PG X (.Tuple es k pos) (gTup X.K n t) := by
 intro pins s σ H v u Q I r hw
 obtain ⟨a, xs, e1, hq, hl, hw⟩ := hw
 subst e1
 cases r
 obtain ⟨its, rv, ht, hz⟩ := I.tuple hq
 refine assign_Tuple_tuple (I.ok.hd hc) ht (by simp [hn, <- hl, rv.length]) hst fun h' hx => ?_
 have I1 : Inv X pins σ H { s with heap := h' } := I.kept (t' := s.toks) fun b o e => hx b o (Nat.ne_of_lt (Heap.lt_size e)) e
 exact h pins _ σ H xs _ Q I1 (by simpa using rv) hw
def gSub (to ti : TE) (t : TSet) : TG := fun v σ H Q => to σ H fun o H1 => ti σ H1 fun i H2 => t o i v H2 fun H3 => Q σ H3
theorem pg_sub {o i : Expr} {to ti : TE} {t : TSet} (ho : PE X o to) (hi : PE X i ti) (hs : PSet X t)
  (ha : ∀ v, assign (.Subscript o i pos) X.env v = (do
   let ov <- holding [v] (eval o X.env)
   let iv <- holding [v, ov] (eval i X.env)
   standAt pos
   holding [v, ov, iv] (setItem ov iv v)
   release [v, ov, iv] []) := by intro _; rfl) : PG X (.Subscript o i pos) (gSub to ti t) := by
 intro pins s σ H v u Q I r h
 rw [ha]
 refine wpAny_bind (wpAny_holding (thn (ho pins s σ H _ I h) fun ov s1 ⟨x, H1, I1, r1, q1⟩ => ?_))
 refine wpAny_bind (wpAny_holding (thn (hi pins s1 σ H1 _ I1 q1) fun iv s2 ⟨y, H2, I2, r2, q2⟩ => ?_))
 refine wpAny_bind (wpAny_standAt (wpAny_bind (wpAny_holding (thn (hs pins s2 σ H2 x y v ov iv u _ I2 r1 r2 r q2) fun _ s3 ⟨H3, I3, q3⟩ => ?_))))
 exact wpAny_release ⟨σ, H3, I3, q3⟩
def tAsg (te : TE) (g : TG) : TS := fun D σ H => te σ H fun x H1 => g x σ H1 D.nx
theorem ps_asg {tg e : Expr} {te : TE} {g : TG} (he : PE X e te) (hg : PG X tg g) (hs : swapsWithSole [tg] e pos.line X.env = pure false := by rfl) (hw : swappedStores [tg] e X.env = pure none := by rfl)
  (h1 : (assignEach [tg] X.env).map (·.2) = [assign tg X.env] := by rfl) : PS X (.Assign [tg] e pos) (tAsg te g) := by
 intro pins s σ H D I h
 refine wpAny_Assign_stores (thn (he pins s σ H _ I h) fun v s1 ⟨x, H1, I1, r1, q1⟩ => ?_) hs hw
 rw [h1]
 exact thn (hg pins s1 σ H1 x v _ I1 r1 q1) fun _ s2 q => q
theorem ps_set {i : Nat} {x : Str} {e : Expr} {te : TE} {pos' : Pos} (hN : X.N.Nodup) (hi : X.N[i]? = some x) (hx : Loc X.env.scope x) (he : PE X e te) (hs : swapsWith e (some (.Name x pos')) pos.line X.env = pure false := by rfl) (hf : X.fn x = true \/ X.env.scope.names.lookup x = some .local := by first | exact .inl rfl | exact .inr rfl | assumption) :
  PS X (.Assign [.Name x pos'] e pos) (tAsg te (gName i)) := by
 intro pins s σ H D I h
 refine wpAny_Assign_Name (thn (he pins s σ H _ I h) fun v s1 ⟨y, H1, I1, r1, q1⟩ => ?_) hs
 exact store_ok I1 hN hi hx r1 (fun s2 I2 => ⟨_, H1, I2, q1⟩) hf
end
section
variable {X : Cx} {pos : Pos}
def tWhile (c : TT) (tb : TS) : TS := fun D σ H => ∃ W : Nat -> St -> Hp -> Prop, (∃ m, W m σ H) /\ ∀ m σ H, W m σ H ->
 c σ H fun b H1 => if b = true then ∃ N : St -> Hp -> Prop, (∀ σ' H', N σ' H' -> ∃ m', m' < m /\ W m' σ' H') /\ tb { D with nx := N, ct := N, bk := D.nx } σ H1 else D.nx σ H1
theorem ps_while {c : Expr} {body : List Stmt} {tc : TT} {tb : TS} (hp : PassesOwn (model X.prog X.w) X.A X.env X.xe) (hc : PT X c tc) (hb : PSs X body tb) : PS X (.While c body [] pos) (tWhile tc tb) := by
 intro pins s σ H D I h
 obtain ⟨W, ⟨m0, w0⟩, turn⟩ := h
 refine wpAny_While (codeAny_whileLoop (fun n s' => ∃ σ' H', Inv X pins σ' H' s' /\ W n σ' H') ?_ m0 ⟨σ, H, I, w0⟩)
 rintro n s1 ⟨σ1, H1, I1, w1⟩
 refine wpAny_passesOwn hp (thn (hc pins s1 σ1 H1 _ I1 (turn n σ1 H1 w1)) fun b s2 ⟨H2, I2, q2⟩ => ?_)
 cases b with
 | true =>
  obtain ⟨N, hN, q2⟩ := q2
  rw [if_pos rfl]
  refine wpAny_passesOwn hp (thn (hb pins s2 σ1 H2 _ I2 q2) fun f s3 q3 => ?_)
  cases f with
  | next =>
   obtain ⟨σ3, H3, I3, n3⟩ := q3
   obtain ⟨m', hm, w3⟩ := hN σ3 H3 n3
   exact ⟨m', hm, σ3, H3, I3, w3⟩
  | cont =>
   obtain ⟨σ3, H3, I3, n3⟩ := q3
   obtain ⟨m', hm, w3⟩ := hN σ3 H3 n3
   exact ⟨m', hm, σ3, H3, I3, w3⟩
  | brk => exact q3
  | ret v => exact q3
 | false =>
  rw [if_neg Bool.false_ne_true]
  exact wpAny_execs_nil ⟨σ1, H2, I2, q2⟩
end
structure It where
 go : Nat -> Hp -> Prop
 yld : Nat -> Hp -> V -> Hp -> Prop
 stop : Nat -> Hp -> Prop
def FpOk (X : Cx) (pins : List (Addr × Obj)) (H : Hp) (b : Addr) : Prop :=
 H b = none /\ b ≠ X.env.locals /\ b ∉ X.fs /\ (b ∈ X.ex \/ X.s₀.heap.objs.size <= b) /\ (∀ x c, X.env.cells.lookup x = some c -> c ≠ b) /\ ∀ p ∈ X.pn ++ pins, p.1 ≠ b
theorem Inv.fpOk {X : Cx} {pins : List (Addr × Obj)} {σ : St} {H H' : Hp} {s : Shared} {b : Addr} (I : Inv X pins σ H s) (hb : s.heap.objs.size <= b) (hn : H' b = none) : FpOk X pins H' b := by
 refine ⟨hn, Nat.ne_of_gt (Nat.lt_of_lt_of_le I.lt hb), I.nofs hb, .inr (Nat.le_trans I.sz hb), fun x c e z => ?_, fun p hp z => ?_⟩
 ·obtain ⟨v, q⟩ := I.cell x c e
  exact absurd (Nat.lt_of_lt_of_le q.lt (by rw [z]; exact hb)) (Nat.lt_irrefl _)
 ·exact absurd (Nat.lt_of_lt_of_le (Heap.lt_size (I.pin p hp).1) (by rw [z]; exact hb)) (Nat.lt_irrefl _)
structure Turn (P : Program) (w : World) (K : PySem.W.Frag) (tg : Expr) (J : It) (fp : List Addr) (it : Addr) (tn : Nat -> Heap -> Prop) : Prop where
 mem : it ∈ fp
 obj : ∀ i h, tn i h -> ∀ b ∈ fp, ∃ o, h.get? b = some o /\ ∀ v, o.data ≠ .cell v
 keep : ∀ i h h', tn i h -> (∀ b ∈ fp, ∀ o, h.get? b = some o -> h'.get? b = some o) -> tn i h'
 item : ∀ (X : Cx), X.prog = P -> X.w = w -> X.K = K -> X.calm = true -> ∀ (i : Nat) (pins : List (Addr × Obj)) (s : Shared) (σ : St) (H : Hp) (E : Value -> Shared -> Prop), Inv X pins σ H s -> (∀ b ∈ fp, FpOk X pins H b) -> tn i s.heap -> J.go i H ->
  wpAny (model P w) X.A (pyNext (.ref it)) (fun r s1 => ∃ u, r = some u /\
   wpAny (model P w) X.A (letOwnedTupleGo tg (.ref it) u) (fun _ s2 => ∃ x H', Inv X pins σ H' s2 /\ RelV x u /\ J.yld i H x H' /\ tn (i + 1) s2.heap /\ ∀ b ∈ fp, H' b = none) E s1) E s
 done : ∀ (X : Cx), X.prog = P -> X.w = w -> X.K = K -> X.calm = true -> ∀ (i : Nat) (pins : List (Addr × Obj)) (s : Shared) (σ : St) (H : Hp) (E : Value -> Shared -> Prop), Inv X pins σ H s -> (∀ b ∈ fp, FpOk X pins H b) -> tn i s.heap -> J.stop i H ->
  wpAny (model P w) X.A (pyNext (.ref it)) (fun r s1 => r = none /\ Inv X pins σ H s1) E s
 self : ∀ (A : Around) (i : Nat) (s : Shared) (Q : Value -> Shared -> Prop) (E : Value -> Shared -> Prop), tn i s.heap -> Q (.ref it) s -> wpAny (model P w) A (pyIter (.ref it)) Q E s
abbrev TI := St -> Hp -> (It -> Hp -> Prop) -> Prop
def PIE (X : Cx) (pins : List (Addr × Obj)) (σ : St) (tg : Expr) (R : It -> Hp -> Prop) (itv : Value) (s2 : Shared) : Prop :=
 ∃ (it : Addr) (fp : List Addr) (tn : Nat -> Heap -> Prop) (J : It) (H' : Hp), itv = .ref it /\ Inv X pins σ H' s2 /\ Turn X.prog X.w X.K tg J fp it tn /\ tn 0 s2.heap /\ (∀ b ∈ fp, FpOk X pins H' b) /\ R J H'
def PI (X : Cx) (tg iter : Expr) (wi : TI) : Prop :=
 ∀ (pins : List (Addr × Obj)) (s : Shared) (σ : St) (H : Hp) (R : It -> Hp -> Prop), Inv X pins σ H s -> wi σ H R ->
  wpAny (model X.prog X.w) X.A (eval iter X.env) (fun v s1 => wpAny (model X.prog X.w) X.A (pyIter v) (PIE X pins σ tg R) X.xe s1) X.xe s
theorem go_of {M : Model} {A : Around} {E : Value -> Shared -> Prop} {s : Shared} {tg : Expr} {it : Addr} {u : Value} {o : Obj} {n : String} {vs : Array Value} {Q : Unit -> Shared -> Prop} (ho : s.heap.get? it = some o) (hc : o.cls = .type n) (hd : o.data = .fields vs)
  (hn : ["enumerate", "zip", "dict_itemiterator", "dict_reverseitemiterator", "odict_iterator", "itertools.zip_longest", "itertools.pairwise"].contains n = false) (hQ : Q () s) : wpAny M A (letOwnedTupleGo tg (.ref it) u) Q E s := by
 unfold letOwnedTupleGo
 cases tg <;> first
  | exact wpAny_pure hQ
  | (cases u <;> first
    | exact wpAny_pure hQ
    | (refine wpAny_bind (wpAny_load ho ?_)
       rw [hc, hd]
       show wpAny M A (if (["enumerate", "zip", "dict_itemiterator", "dict_reverseitemiterator", "odict_iterator", "itertools.zip_longest", "itertools.pairwise"].contains n && vs[0]? == some (rawInt _)) = true then _ else _) Q E s
       rw [if_neg (by intro h; rw [hn, Bool.false_and] at h; cases h)]
       exact wpAny_pure hQ))
def Itl (K : PySem.W.Frag) (a : Addr) : It :=
 ⟨fun i H => ∃ xs x, SqL K H a xs /\ xs[i]? = some x, fun i H x H' => H' = H /\ ∀ xs, SqL K H a xs -> xs[i]? = some x, fun i H => ∃ xs, SqL K H a xs /\ xs.length <= i⟩
def Itt (K : PySem.W.Frag) (a : Addr) : It :=
 ⟨fun i H => ∃ xs x, SqT K H a xs /\ xs[i]? = some x, fun i H x H' => H' = H /\ ∀ xs, SqT K H a xs -> xs[i]? = some x, fun i H => ∃ xs, SqT K H a xs /\ xs.length <= i⟩
def Itr (lo : Int) (n : Nat) : It := ⟨fun i _ => i < n, fun i H x H' => H' = H /\ x = .int (lo + i), fun i _ => n <= i⟩
theorem turn_list {P : Program} {w : World} {K : PySem.W.Frag} {tg : Expr} (a it : Addr) : Turn P w K tg (Itl K a) [it] it (fun i h => h.IsListIter it a i) where
 mem := by simp
 obj := fun i h st b hb => by
  have e : b = it := by simpa using hb
  subst e
  obtain ⟨o, e, c, d⟩ := st
  exact ⟨o, e, fun v z => by rw [d] at z; cases z⟩
 keep := fun i h h' st k => st.at fun o e => k it (by simp) o e
 item := by
  intro X hP hw hK hc i pins s σ H E I hf st hg
  subst hP hw hK
  obtain ⟨xs, x, hq, hx⟩ := hg
  obtain ⟨its, rv, p, hz⟩ := I.list hq
  obtain ⟨u, hu, ru⟩ := rv.get hx
  obtain ⟨f0, f1, f2, f3, f4, f5⟩ := hf it (by simp)
  refine wpAny_pyNext_list_item st p.isList (x := u) (by simpa using hu) fun h' st' sb => ?_
  have I1 : Inv X pins σ H { s with heap := h' } := I.turned (t' := s.toks) (fun b o hb e => (sb.2 b hb).trans e) f0 f1 f3 f4 f5
  obtain ⟨o, e, c, d⟩ := id st'
  exact ⟨u, rfl, go_of (s := { s with heap := h' }) e c d (by decide) ⟨x, H, I1, ru, ⟨rfl, fun ys hy => by rw [I.list_inj hy hq]; exact hx⟩, st', fun b hb => (hf b hb).1⟩⟩
 done := by
  intro X hP hw hK hc i pins s σ H E I hf st hg
  subst hP hw hK
  obtain ⟨xs, hq, hx⟩ := hg
  obtain ⟨its, rv, p, hz⟩ := I.list hq
  obtain ⟨f0, f1, f2, f3, f4, f5⟩ := hf it (by simp)
  have hl := rv.length
  exact wpAny_pyNext_list_end (I.ok.hd hc) st p.isList (by simp; omega) fun h' eb => ⟨rfl, I.turned (t' := s.toks) (fun b o hb e => eb b o hb e) f0 f1 f3 f4 f5⟩
 self := fun _ _ _ _ _ st h => wpAny_pyIter_listiter st h
theorem turn_tuple {P : Program} {w : World} {K : PySem.W.Frag} {tg : Expr} (a it : Addr) : Turn P w K tg (Itt K a) [it] it (fun i h => h.IsTupleIter it a i) where
 mem := by simp
 obj := fun i h st b hb => by
  have e : b = it := by simpa using hb
  subst e
  obtain ⟨o, e, c, d⟩ := st
  exact ⟨o, e, fun v z => by rw [d] at z; cases z⟩
 keep := fun i h h' st k => st.at fun o e => k it (by simp) o e
 item := by
  intro X hP hw hK hc i pins s σ H E I hf st hg
  subst hP hw hK
  obtain ⟨xs, x, hq, hx⟩ := hg
  obtain ⟨its, rv, p, hz⟩ := I.tuple hq
  obtain ⟨u, hu, ru⟩ := rv.get hx
  obtain ⟨f0, f1, f2, f3, f4, f5⟩ := hf it (by simp)
  refine wpAny_pyNext_tuple_item st (show s.heap.IsTuple a its.toArray from p) (x := u) (by simpa using hu) fun h' st' sb => ?_
  have I1 : Inv X pins σ H { s with heap := h' } := I.turned (t' := s.toks) (fun b o hb e => (sb.2 b hb).trans e) f0 f1 f3 f4 f5
  obtain ⟨o, e, c, d⟩ := id st'
  exact ⟨u, rfl, go_of (s := { s with heap := h' }) e c d (by decide) ⟨x, H, I1, ru, ⟨rfl, fun ys hy => by rw [I.tuple_inj hy hq]; exact hx⟩, st', fun b hb => (hf b hb).1⟩⟩
 done := by
  intro X hP hw hK hc i pins s σ H E I hf st hg
  subst hP hw hK
  obtain ⟨xs, hq, hx⟩ := hg
  obtain ⟨its, rv, p, hz⟩ := I.tuple hq
  obtain ⟨f0, f1, f2, f3, f4, f5⟩ := hf it (by simp)
  have hl := rv.length
  exact wpAny_pyNext_tuple_end (I.ok.hd hc) st (show s.heap.IsTuple a its.toArray from p) (by simp; omega) fun h' eb => ⟨rfl, I.turned (t' := s.toks) (fun b o hb e => eb b o hb e) f0 f1 f3 f4 f5⟩
 self := fun _ _ _ _ _ st h => wpAny_pyIter_tupleiter st h
theorem turn_range {P : Program} {w : World} {K : PySem.W.Frag} {tg : Expr} (it : Addr) (lo : Int) (n : Nat) : Turn P w K tg (Itr lo n) [it] it (fun i h => IsRangeIter h it (lo + (i : Nat) * 1) ((n : Int) - (i : Nat)) 1) where
 mem := by simp
 obj := fun i h st b hb => by
  have e : b = it := by simpa using hb
  subst e
  exact ⟨_, st, fun v z => by
   have z' : Data.fields _ = Data.cell v := z
   cases z'⟩
 keep := fun i h h' st k => k it (by simp) _ st
 item := by
  intro X hP hw hK hc i pins s σ H E I hf st hg
  subst hP hw hK
  obtain ⟨f0, f1, f2, f3, f4, f5⟩ := hf it (by simp)
  have W := Walks.range (prog := X.prog) (w := X.w) (I.ok.hd hc) it lo 1 n
  refine W.item i s _ _ hg st fun v h' tk hv st' kk => ?_
  obtain ⟨t, rfl⟩ := hv
  have I1 : Inv X pins σ H { s with heap := h', toks := tk } := I.turned (fun b o hb e => kk b o (by simpa using hb) e) f0 f1 f3 f4 f5
  refine ⟨_, rfl, go_of (s := { s with heap := h', toks := tk }) (n := "range_iterator") st' rfl rfl (by decide) ⟨.int (lo + i), H, I1, ⟨t, ?_⟩, ⟨rfl, rfl⟩, st', fun b hb => (hf b hb).1⟩⟩
  rw [Int.mul_one]
 done := by
  intro X hP hw hK hc i pins s σ H E I hf st hg
  subst hP hw hK
  obtain ⟨f0, f1, f2, f3, f4, f5⟩ := hf it (by simp)
  exact wpAny_pyNext_range_end (I.ok.hd hc) st (by have : n <= i := hg; omega) fun h' eb => ⟨rfl, I.turned (t' := s.toks) (fun b o hb e => eb b o hb e) f0 f1 f3 f4 f5⟩
 self := fun _ _ _ _ _ st h => wpAny_pyIter_rangeiter st h
end L2
namespace L2
open PySem PySem.Spec PyProof.Rows
section
variable {X : Cx} {tg : Expr}
def iList (K : PySem.W.Frag) (tl : TE) : TI := fun σ H R => tl σ H fun x H1 => ∃ a, x = .ref a /\ (∃ xs, SqL K H1 a xs) /\ R (Itl K a) H1
def iTup (K : PySem.W.Frag) (tl : TE) : TI := fun σ H R => tl σ H fun x H1 => ∃ a, x = .ref a /\ (∃ xs, SqT K H1 a xs) /\ R (Itt K a) H1
theorem pi_list {l : Expr} {tl : TE} (hl : PE X l tl) : PI X tg l (iList X.K tl) := by
 intro pins s σ H R I h
 refine thn (hl pins s σ H _ I h) fun v s1 ⟨x, H1, I1, r1, q1⟩ => ?_
 obtain ⟨a, e, ⟨xs, hq⟩, q⟩ := q1
 subst e
 cases r1
 obtain ⟨its, rv, p, hz⟩ := I1.list hq
 refine wpAny_pyIter_list p.isList ?_
 refine ⟨s1.heap.objs.size, [s1.heap.objs.size], _, _, H1, rfl, I1.kept (t' := s1.toks) fun b o e => Heap.get?_push_of_some _ e, turn_list a _, ⟨_, Heap.get?_push_size _ rfl, rfl, rfl⟩, fun b hb => ?_, q⟩
 have e : b = s1.heap.objs.size := by simpa using hb
 subst e
 exact I1.fpOk (Nat.le_refl _) (I1.hok.fresh (Nat.le_refl _))
theorem pi_tup {l : Expr} {tl : TE} (hl : PE X l tl) : PI X tg l (iTup X.K tl) := by
 intro pins s σ H R I h
 refine thn (hl pins s σ H _ I h) fun v s1 ⟨x, H1, I1, r1, q1⟩ => ?_
 obtain ⟨a, e, ⟨xs, hq⟩, q⟩ := q1
 subst e
 cases r1
 obtain ⟨its, rv, p, hz⟩ := I1.tuple hq
 refine wpAny_pyIter_tuple (show s1.heap.IsTuple a its.toArray from p) ?_
 refine ⟨s1.heap.objs.size, [s1.heap.objs.size], _, _, H1, rfl, I1.kept (t' := s1.toks) fun b o e => Heap.get?_push_of_some _ e, turn_tuple a _, ⟨_, Heap.get?_push_size _ rfl, rfl, rfl⟩, fun b hb => ?_, q⟩
 have e : b = s1.heap.objs.size := by simpa using hb
 subst e
 exact I1.fpOk (Nat.le_refl _) (I1.hok.fresh (Nat.le_refl _))
theorem range_it {pins : List (Addr × Obj)} {σ : St} {H : Hp} {s : Shared} {R : It -> Hp -> Prop} {E : Value -> Shared -> Prop} {lo hi : Int} {t u v : Tok} {tk : Nat} (I : Inv X pins σ H s) (h1 : -(2 ^ 62) <= lo) (h2 : lo < 2 ^ 62) (h3 : -(2 ^ 62) <= hi) (h4 : hi < 2 ^ 62)
  (q : R (Itr lo (hi - lo).toNat) H) : wpAny (model X.prog X.w) X.A (pyIter (.ref s.heap.objs.size)) (PIE X pins σ tg R) E { s with heap := s.heap.push { cls := .type "range", data := .fields #[.int lo t, .int hi u, .int 1 v] }, toks := tk } := by
 refine wpAny_pyIter_range (IsRange.new ..) (small_one h1 h2 h3 h4) ?_
 have I1 : Inv X pins σ H { s with heap := s.heap.push { cls := .type "range", data := .fields #[.int lo t, .int hi u, .int 1 v] }, toks := tk } := I.kept fun b o e => Heap.get?_push_of_some _ e
 refine ⟨(s.heap.push { cls := .type "range", data := .fields #[.int lo t, .int hi u, .int 1 v] }).objs.size, [(s.heap.push { cls := .type "range", data := .fields #[.int lo t, .int hi u, .int 1 v] }).objs.size], _, _, H, rfl,
  I1.kept (t' := tk) fun b o e => Heap.get?_push_of_some _ e, turn_range _ lo (hi - lo).toNat, ?_, fun b hb => ?_, q⟩
 ·have e1 : lo + ((0 : Nat) : Int) * 1 = lo := by simp
  have e2 : (((hi - lo).toNat : Nat) : Int) - ((0 : Nat) : Int) = Builtin.Range.rangeSize lo hi 1 := by rw [rangeSize_one]; split <;> omega
  show IsRangeIter _ _ (lo + ((0 : Nat) : Int) * 1) ((((hi - lo).toNat : Nat) : Int) - ((0 : Nat) : Int)) 1
  rw [e1, e2]
  exact Heap.get?_push_size _ rfl
 ·have e : b = (s.heap.push { cls := .type "range", data := .fields #[.int lo t, .int hi u, .int 1 v] }).objs.size := by simpa using hb
  subst e
  exact I1.fpOk (Nat.le_refl _) (I1.hok.fresh (Nat.le_refl _))
def iRng1 (ta : TA) : TI := fun σ H R => ta σ H fun vs H1 => ∃ j : Int, vs = [.int j] /\ -(2 ^ 62) <= j /\ j < 2 ^ 62 /\ R (Itr 0 j.toNat) H1
theorem pi_range1 {a : Expr} {ta : TA} {p pos : Pos} (hg : Gl X "range") (hm : X.mg "range" = none) (ha : PA X [a] ta) (hs : starEach [a] X.env = [(false, eval a X.env)] := by rfl) : PI X tg (.Call (.Name "range" p) [a] [] pos) (iRng1 ta) := by
 intro pins s σ H R I h
 refine Call_ (ld_blt I hg hm boot_range (PyProof.Rows.callWith_type1 (thn (ha pos pins s σ H _ I h) fun us s1 ⟨vs, H1, I1, r1, q1⟩ => ?_) hs rfl))
 obtain ⟨j, e, q1, q2, q⟩ := q1
 subst e
 cases r1 with
 | cons r rr =>
  cases rr
  obtain ⟨t, rfl⟩ := r
  exact call_range_1 (range_it I1 (by omega) (by omega) q1 q2 (by simpa using q))
def tFor (wi : TI) (g : TG) (tb : TS) : TS := fun D σ H => wi σ H fun J H1 => ∃ W : Nat -> Nat -> St -> Hp -> Prop, (∃ m, W 0 m σ H1) /\ ∀ i m σ H, W i m σ H ->
 (J.stop i H /\ D.nx σ H) \/ (J.go i H /\ ∃ N : St -> Hp -> Prop, (∀ σ' H', N σ' H' -> ∃ m', m' < m /\ W (i + 1) m' σ' H') /\ ∀ x H', J.yld i H x H' -> g x σ H' fun σ2 H2 => tb { D with nx := N, ct := N, bk := D.nx } σ2 H2)
def pinsAt (fp : List Addr) (h : Heap) : List (Addr × Obj) := fp.filterMap fun b => (h.get? b).map fun o => (b, o)
theorem mem_pinsAt {fp : List Addr} {h : Heap} {b : Addr} {o : Obj} (hb : b ∈ fp) (e : h.get? b = some o) : (b, o) ∈ pinsAt fp h := List.mem_filterMap.mpr ⟨b, hb, by rw [e]; rfl⟩
theorem of_pinsAt {fp : List Addr} {h : Heap} {p : Addr × Obj} (hp : p ∈ pinsAt fp h) : p.1 ∈ fp /\ h.get? p.1 = some p.2 := by
 obtain ⟨b, hb, e⟩ := List.mem_filterMap.mp hp
 cases q : h.get? b with
 | none => rw [q] at e; cases e
 | some o =>
  rw [q] at e
  have e' : (b, o) = p := Option.some.inj e
  subst e'
  exact ⟨hb, q⟩
theorem Inv.pinned {pins : List (Addr × Obj)} {σ : St} {H : Hp} {s : Shared} {fp : List Addr} (I : Inv X pins σ H s) (hf : ∀ b ∈ fp, FpOk X pins H b) (ho : ∀ b ∈ fp, ∃ o, s.heap.get? b = some o /\ ∀ v, o.data ≠ .cell v) : Inv X (pins ++ pinsAt fp s.heap) σ H s :=
 I.pins_of fun p hp => (List.mem_append.mp hp).elim (fun z => I.pin p (List.mem_append_right _ z)) fun z => by
  obtain ⟨hb, e⟩ := of_pinsAt z
  obtain ⟨f0, f1, f2, _⟩ := hf p.1 hb
  obtain ⟨o, e', d⟩ := ho p.1 hb
  rw [e] at e'; cases e'
  exact ⟨e, f0, f1, f2, d⟩
theorem Inv.unpinned {pins pl : List (Addr × Obj)} {σ : St} {H : Hp} {s : Shared} (I : Inv X (pins ++ pl) σ H s) : Inv X pins σ H s := I.pins_of fun p hp => I.pin p (List.mem_append_right _ (List.mem_append_left _ hp))
theorem ps_for {iter : Expr} {body : List Stmt} {wi : TI} {g : TG} {tb : TS} {pos : Pos} (hp : PassesOwn (model X.prog X.w) X.A X.env X.xe) (hc : X.calm = true) (hi : PI X tg iter wi) (hg : PG X tg g) (hb : PSs X body tb)
  (hs : ∀ x, foldedSetIterable iter X.env x = pure x := by intro _; rfl) : PS X (.For tg iter body [] pos) (tFor wi g tb) := by
 intro pins s σ H D I h
 refine wpAny_For (thn (hi pins s σ H _ I h) fun v s1 h1 => thn h1 fun itv s2 h2 => ?_) hs
 obtain ⟨it, fp, tn, J, H2, e, I2, T, st2, f2, W, ⟨m0, w0⟩, turn⟩ := h2
 subst e
 have stat : ∀ {H' : Hp}, (∀ b ∈ fp, H' b = none) -> ∀ b ∈ fp, FpOk X pins H' b := fun hn b hb => ⟨hn b hb, (f2 b hb).2⟩
 refine codeAny_forLoop_any (fun n s' => ∃ i σ' H', Inv X pins σ' H' s' /\ tn i s'.heap /\ (∀ b ∈ fp, H' b = none) /\ W i n σ' H') ?_ m0 ⟨0, σ, H2, I2, st2, fun b hb => (f2 b hb).1, w0⟩
 rintro n s3 ⟨i, σ3, H3, I3, st3, fr3, w3⟩
 rcases turn i n σ3 H3 w3 with ⟨stop, qn⟩ | ⟨go, N, hN, step⟩
 ·refine wpAny_passesOwn hp (thn (T.done X rfl rfl rfl hc i pins s3 σ3 H3 X.xe I3 (stat fr3) st3 stop) fun r s4 ⟨hr, I4⟩ => ?_)
  subst hr
  exact wpAny_execs_nil ⟨σ3, H3, I4, qn⟩
 ·refine wpAny_passesOwn hp (thn (T.item X rfl rfl rfl hc i pins s3 σ3 H3 X.xe I3 (stat fr3) st3 go) fun r s4 ⟨u, hr, h4⟩ => ?_)
  subst hr
  refine wpAny_passesOwn hp (thn h4 fun _ s5 ⟨x, H5, I5, r5, y5, st5, fr5⟩ => ?_)
  have I5' := I5.pinned (stat fr5) (T.obj _ _ st5)
  refine wpAny_passesOwn hp (thn (hg _ s5 σ3 H5 x u _ I5' r5 (step x H5 y5)) fun _ s6 ⟨σ6, H6, I6, q6⟩ => ?_)
  refine wpAny_passesOwn hp (thn (hb _ s6 σ6 H6 _ I6 q6) fun f s7 q7 => ?_)
  have again : ∀ {σ7 : St} {H7 : Hp}, Inv X (pins ++ pinsAt fp s5.heap) σ7 H7 s7 -> N σ7 H7 -> ∃ m, m < n /\ ∃ i σ' H', Inv X pins σ' H' s7 /\ tn i s7.heap /\ (∀ b ∈ fp, H' b = none) /\ W i m σ' H' := fun {σ7 H7} I7 n7 => by
   obtain ⟨m', hm, w7⟩ := hN σ7 H7 n7
   refine ⟨m', hm, i + 1, σ7, H7, I7.unpinned, T.keep _ _ _ st5 fun b hb o e => (I7.pin (b, o) (List.mem_append_right _ (List.mem_append_right _ (mem_pinsAt hb e)))).1, fun b hb => ?_, w7⟩
   obtain ⟨o, e, d⟩ := T.obj _ _ st5 b hb
   exact (I7.pin (b, o) (List.mem_append_right _ (List.mem_append_right _ (mem_pinsAt hb e)))).2.1
  cases f with
  | next => obtain ⟨σ7, H7, I7, n7⟩ := q7; exact again I7 n7
  | cont => obtain ⟨σ7, H7, I7, n7⟩ := q7; exact again I7 n7
  | brk => obtain ⟨σ7, H7, I7, q7⟩ := q7; exact ⟨σ7, H7, I7.unpinned, q7⟩
  | ret v => obtain ⟨x7, σ7, H7, I7, r7, q7⟩ := q7; exact ⟨x7, σ7, H7, I7.unpinned, r7, q7⟩
end
theorem for_list {K : PySem.W.Frag} {a : Addr} {xs : List V} {g : TG} {tb : TS} {D : Ends} {σ : St} {H : Hp} (Pv : Nat -> St -> Hp -> Prop) (h0 : Pv 0 σ H) (hl : ∀ i σ H, i <= xs.length -> Pv i σ H -> SqL K H a xs)
  (hs : ∀ i x σ H, xs[i]? = some x -> Pv i σ H -> g x σ H fun σ2 H2 => tb { D with nx := Pv (i + 1), ct := Pv (i + 1), bk := D.nx } σ2 H2) (hd : ∀ σ H, Pv xs.length σ H -> D.nx σ H) :
  ∃ W : Nat -> Nat -> St -> Hp -> Prop, (∃ m, W 0 m σ H) /\ ∀ i m σ H, W i m σ H ->
   ((Itl K a).stop i H /\ D.nx σ H) \/ ((Itl K a).go i H /\ ∃ N : St -> Hp -> Prop, (∀ σ' H', N σ' H' -> ∃ m', m' < m /\ W (i + 1) m' σ' H') /\ ∀ x H', (Itl K a).yld i H x H' -> g x σ H' fun σ2 H2 => tb { D with nx := N, ct := N, bk := D.nx } σ2 H2) := by
 refine ⟨fun i m σ H => m = xs.length - i /\ i <= xs.length /\ Pv i σ H, ⟨xs.length, by simp, Nat.zero_le _, h0⟩, ?_⟩
 rintro i m σ H ⟨rfl, hi, p⟩
 have q := hl i σ H hi p
 by_cases hlt : i < xs.length
 ·refine .inr ⟨⟨xs, xs[i], q, by simp [hlt]⟩, Pv (i + 1), fun σ' H' p' => ⟨xs.length - (i + 1), by omega, rfl, hlt, p'⟩, fun x H' y => ?_⟩
  obtain ⟨e, y⟩ := y
  subst e
  exact hs i x σ _ (y xs q) p
 ·have e : i = xs.length := by omega
  subst e
  exact .inl ⟨⟨xs, q, Nat.le_refl _⟩, hd σ H p⟩
theorem for_tup {K : PySem.W.Frag} {a : Addr} {xs : List V} {g : TG} {tb : TS} {D : Ends} {σ : St} {H : Hp} (Pv : Nat -> St -> Hp -> Prop) (h0 : Pv 0 σ H) (hl : ∀ i σ H, i <= xs.length -> Pv i σ H -> SqT K H a xs)
  (hs : ∀ i x σ H, xs[i]? = some x -> Pv i σ H -> g x σ H fun σ2 H2 => tb { D with nx := Pv (i + 1), ct := Pv (i + 1), bk := D.nx } σ2 H2) (hd : ∀ σ H, Pv xs.length σ H -> D.nx σ H) :
  ∃ W : Nat -> Nat -> St -> Hp -> Prop, (∃ m, W 0 m σ H) /\ ∀ i m σ H, W i m σ H ->
   ((Itt K a).stop i H /\ D.nx σ H) \/ ((Itt K a).go i H /\ ∃ N : St -> Hp -> Prop, (∀ σ' H', N σ' H' -> ∃ m', m' < m /\ W (i + 1) m' σ' H') /\ ∀ x H', (Itt K a).yld i H x H' -> g x σ H' fun σ2 H2 => tb { D with nx := N, ct := N, bk := D.nx } σ2 H2) := by
 refine ⟨fun i m σ H => m = xs.length - i /\ i <= xs.length /\ Pv i σ H, ⟨xs.length, by simp, Nat.zero_le _, h0⟩, ?_⟩
 rintro i m σ H ⟨rfl, hi, p⟩
 have q := hl i σ H hi p
 by_cases hlt : i < xs.length
 ·refine .inr ⟨⟨xs, xs[i], q, by simp [hlt]⟩, Pv (i + 1), fun σ' H' p' => ⟨xs.length - (i + 1), by omega, rfl, hlt, p'⟩, fun x H' y => ?_⟩
  obtain ⟨e, y⟩ := y
  subst e
  exact hs i x σ _ (y xs q) p
 ·have e : i = xs.length := by omega
  subst e
  exact .inl ⟨⟨xs, q, Nat.le_refl _⟩, hd σ H p⟩
theorem for_range {lo : Int} {n : Nat} {g : TG} {tb : TS} {D : Ends} {σ : St} {H : Hp} (Pv : Nat -> St -> Hp -> Prop) (h0 : Pv 0 σ H)
  (hs : ∀ i σ H, i < n -> Pv i σ H -> g (.int (lo + i)) σ H fun σ2 H2 => tb { D with nx := Pv (i + 1), ct := Pv (i + 1), bk := D.nx } σ2 H2) (hd : ∀ σ H, Pv n σ H -> D.nx σ H) :
  ∃ W : Nat -> Nat -> St -> Hp -> Prop, (∃ m, W 0 m σ H) /\ ∀ i m σ H, W i m σ H ->
   ((Itr lo n).stop i H /\ D.nx σ H) \/ ((Itr lo n).go i H /\ ∃ N : St -> Hp -> Prop, (∀ σ' H', N σ' H' -> ∃ m', m' < m /\ W (i + 1) m' σ' H') /\ ∀ x H', (Itr lo n).yld i H x H' -> g x σ H' fun σ2 H2 => tb { D with nx := N, ct := N, bk := D.nx } σ2 H2) := by
 refine ⟨fun i m σ H => m = n - i /\ i <= n /\ Pv i σ H, ⟨n, by simp, Nat.zero_le _, h0⟩, ?_⟩
 rintro i m σ H ⟨rfl, hi, p⟩
 by_cases hlt : i < n
 ·refine .inr ⟨hlt, Pv (i + 1), fun σ' H' p' => ⟨n - (i + 1), by omega, rfl, hlt, p'⟩, fun x H' y => ?_⟩
  obtain ⟨e, y⟩ := y
  subst e y
  exact hs i σ _ hlt p
 ·have e : i = n := by omega
  subst e
  exact .inl ⟨Nat.le_refl _, hd σ H p⟩
end L2
namespace L2
open PySem PySem.Spec PyProof.Rows
abbrev R2 := V -> V -> Hp -> VK -> Prop
def OpR (X : Cx) (f : Value -> Value -> Sem Value) (r : R2) : Prop :=
 ∀ (pins : List (Addr × Obj)) (s : Shared) (σ : St) (H : Hp) (x y : V) (v u : Value) (Q : VK), Inv X pins σ H s -> RelV x v -> RelV y u -> r x y H Q ->
  wpAny (model X.prog X.w) X.A (f v u) (EP X pins σ Q) X.xe s
def UnR (X : Cx) (f : Value -> Sem Value) (r : V -> Hp -> VK -> Prop) : Prop :=
 ∀ (pins : List (Addr × Obj)) (s : Shared) (σ : St) (H : Hp) (x : V) (v : Value) (Q : VK), Inv X pins σ H s -> RelV x v -> r x H Q ->
  wpAny (model X.prog X.w) X.A (f v) (EP X pins σ Q) X.xe s
def CallR (X : Cx) (f : Value) (r : List V -> Hp -> VK -> Prop) : Prop :=
 ∀ (pins : List (Addr × Obj)) (s : Shared) (σ : St) (H : Hp) (xs : List V) (us : List Value) (Q : VK), Inv X pins σ H s -> Vals xs us -> r xs H Q ->
  wpAny (model X.prog X.w) X.A (call f us) (EP X pins σ Q) X.xe s
def TruR (X : Cx) (r : V -> Hp -> (Bool -> Hp -> Prop) -> Prop) : Prop :=
 ∀ (pins : List (Addr × Obj)) (s : Shared) (σ : St) (H : Hp) (x : V) (v : Value) (Q : Bool -> Hp -> Prop), Inv X pins σ H s -> RelV x v -> r x H Q ->
  wpAny (model X.prog X.w) X.A (truthy v) (TP X pins σ Q) X.xe s
def tOp (r : R2) (ta tb : TE) : TE := fun σ H Q => ta σ H fun x H1 => tb σ H1 fun y H2 => r x y H2 Q
def tUn (r : V -> Hp -> VK -> Prop) (ta : TE) : TE := fun σ H Q => ta σ H fun x H1 => r x H1 Q
def rI (C : Int -> Int -> Prop) (g : Int -> Int -> V) : R2 := fun x y H Q => ∃ i j, x = .int i /\ y = .int j /\ C i j /\ Q (g i j) H
def rI0 (g : Int -> Int -> V) : R2 := fun x y H Q => ∃ i j, x = .int i /\ y = .int j /\ Q (g i j) H
def rU (g : Int -> V) : V -> Hp -> VK -> Prop := fun x H Q => ∃ i, x = .int i /\ Q (g i) H
section
variable {X : Cx} {a b c : Expr} {ta tb tc : TE} {pos : Pos}
theorem binT (ha : PE X a ta) (hb : PE X b tb) {pins : List (Addr × Obj)} {s : Shared} {σ : St} {H : Hp} {R : V -> V -> Hp -> Prop} (I : Inv X pins σ H s)
  (h : ta σ H fun x H1 => tb σ H1 fun y H2 => R x y H2) {Q : Value -> Shared -> Prop} {f : Value -> Value -> Sem Value}
  (hf : ∀ v u s2 x y H2, Inv X pins σ H2 s2 -> RelV x v -> RelV y u -> R x y H2 -> wpAny (model X.prog X.w) X.A (f v u) Q X.xe s2) :
  wpAny (model X.prog X.w) X.A (eval a X.env) (fun v s₁ => wpAny (model X.prog X.w) X.A (eval b X.env) (fun u s₂ => wpAny (model X.prog X.w) X.A (f v u) Q X.xe s₂) X.xe s₁) X.xe s := by
 refine thn (ha pins s σ H _ I h) fun v s1 ⟨x, H1, I1, r1, q1⟩ => ?_
 refine thn (hb pins s1 σ H1 _ I1 q1) fun u s2 ⟨y, H2, I2, r2, q2⟩ => ?_
 exact hf v u s2 x y H2 I2 r1 r2 q2
theorem pe_op {op : Operator} {r : R2} (ho : OpR X (binaryOp op) r) (ha : PE X a ta) (hb : PE X b tb) : PE X (.BinOp a op b pos) (tOp r ta tb) := by
 intro pins s σ H Q I h
 exact wpAny_BinOp (binT ha hb I h fun v u s2 x y H2 I2 rx ry q => ho pins s2 σ H2 x y v u Q I2 rx ry q)
theorem pe_un {op : UnaryOp} {r : V -> Hp -> VK -> Prop} (ho : UnR X (unaryOp op) r) (ha : PE X a ta) : PE X (.UnaryOp op a pos) (tUn r ta) := by
 intro pins s σ H Q I h
 exact UnaryOp_ (thn (ha pins s σ H _ I h) fun v s1 ⟨x, H1, I1, r1, q1⟩ => ho pins s1 σ H1 x v Q I1 r1 q1)
theorem opI {f : Value -> Value -> Sem Value} {C : Int -> Int -> Prop} {g : Int -> Int -> Int}
  (rule : ∀ (i j : Int) (t u : Tok) (s : Shared) (Q : Value -> Shared -> Prop) (E : Value -> Shared -> Prop), C i j -> Q (.int (g i j) s.toks) { s with toks := s.toks + 1 } -> wpAny (model X.prog X.w) X.A (f (.int i t) (.int j u)) Q E s) :
  OpR X f (rI C fun i j => .int (g i j)) := by
 intro pins s σ H x y v u Q I rx ry h
 obtain ⟨i, j, rfl, rfl, hc, q⟩ := h
 obtain ⟨t, rfl⟩ := rx
 obtain ⟨t', rfl⟩ := ry
 exact rule i j t t' s _ _ hc ⟨.int (g i j), H, I.tok _, ⟨_, rfl⟩, q⟩
theorem opI0 {f : Value -> Value -> Sem Value} {g : Int -> Int -> Int}
  (rule : ∀ (i j : Int) (t u : Tok) (s : Shared) (Q : Value -> Shared -> Prop) (E : Value -> Shared -> Prop), Q (.int (g i j) s.toks) { s with toks := s.toks + 1 } -> wpAny (model X.prog X.w) X.A (f (.int i t) (.int j u)) Q E s) :
  OpR X f (rI0 fun i j => .int (g i j)) := by
 intro pins s σ H x y v u Q I rx ry h
 obtain ⟨i, j, rfl, rfl, q⟩ := h
 obtain ⟨t, rfl⟩ := rx
 obtain ⟨t', rfl⟩ := ry
 exact rule i j t t' s _ _ ⟨.int (g i j), H, I.tok _, ⟨_, rfl⟩, q⟩
theorem opB0 {f : Value -> Value -> Sem Value} {g : Int -> Int -> Bool}
  (rule : ∀ (i j : Int) (t u : Tok) (s : Shared) (Q : Value -> Shared -> Prop) (E : Value -> Shared -> Prop), Q (.bool (g i j)) s -> wpAny (model X.prog X.w) X.A (f (.int i t) (.int j u)) Q E s) :
  OpR X f (rI0 fun i j => .bl (g i j)) := by
 intro pins s σ H x y v u Q I rx ry h
 obtain ⟨i, j, rfl, rfl, q⟩ := h
 obtain ⟨t, rfl⟩ := rx
 obtain ⟨t', rfl⟩ := ry
 exact rule i j t t' s _ _ ⟨.bl (g i j), H, I, rfl, q⟩
def CDiv (i j : Int) : Prop := 0 < j /\ j < 1073741824
def CPow (i j : Int) : Prop := 0 <= j /\ j <= 1000000 /\ i.natAbs < 2 ^ 64
theorem op_add : OpR X (binaryOp .Add) (rI0 fun i j => .int (i + j)) := opI0 fun _ _ _ _ _ _ _ q => add_int q
theorem op_sub : OpR X (binaryOp .Sub) (rI0 fun i j => .int (i - j)) := opI0 fun _ _ _ _ _ _ _ q => sub_int q
theorem op_fdiv : OpR X (binaryOp .FloorDiv) (rI CDiv fun i j => .int (i / j)) := opI fun i j _ _ _ _ _ hc q => by
 have h1 : (0 : Int) < j := hc.1
 have h2 : j < 1073741824 := hc.2
 exact floordiv_int (by omega) (by rw [Int.fdiv_eq_ediv_of_nonneg i (by omega)]; exact q) (.inl (PyProof.noPylong_small (by omega)))
theorem op_mod : OpR X (binaryOp .Mod) (rI (fun _ j => 0 < j) fun i j => .int (i % j)) := opI fun i j _ _ _ _ _ hc q => by
 have h1 : (0 : Int) < j := hc
 exact mod_int' (by omega) (by rw [Int.fmod_eq_emod_of_nonneg i (by omega)]; exact q)
theorem op_pow : OpR X (binaryOp .Pow) (rI CPow fun i j => .int (i ^ j.toNat)) := opI fun _ _ _ _ _ _ _ hc q => pow_int_small hc.1 hc.2.1 hc.2.2 q
theorem unI {f : Value -> Sem Value} {g : Int -> Int}
  (rule : ∀ (i : Int) (t : Tok) (s : Shared) (Q : Value -> Shared -> Prop) (E : Value -> Shared -> Prop), Q (.int (g i) s.toks) { s with toks := s.toks + 1 } -> wpAny (model X.prog X.w) X.A (f (.int i t)) Q E s) :
  UnR X f (rU fun i => .int (g i)) := by
 intro pins s σ H x v Q I rx h
 obtain ⟨i, rfl, q⟩ := h
 obtain ⟨t, rfl⟩ := rx
 exact rule i t s _ _ ⟨.int (g i), H, I.tok _, ⟨_, rfl⟩, q⟩
theorem un_neg : UnR X (unaryOp .USub) (rU fun i => .int (-i)) := unI fun _ _ _ _ _ q => neg_int q
end
def scal : V -> V -> Bool
 | .non, .non => true | .non, .int _ => true | .int _, .non => true | .non, .bl _ => true | .bl _, .non => true | .non, .str _ => true | .str _, .non => true
 | .int _, .int _ => true | .bl _, .bl _ => true | .str _, .str _ => true | .byt _, .byt _ => true
 | .int _, .str _ => true | .str _, .int _ => true | .bl _, .str _ => true | .str _, .bl _ => true
 | _, _ => false
def rEq : R2 := fun x y H Q => scal x y = true /\ Q (.bl (decide (x = y))) H
def rNe : R2 := fun x y H Q => scal x y = true /\ Q (.bl (!decide (x = y))) H
theorem dec_int {i j : Int} : decide (V.int i = V.int j) = (i == j) := by
 rw [Bool.eq_iff_iff]
 simp
theorem dec_bl {i j : Bool} : decide (V.bl i = V.bl j) = (i == j) := by
 rw [Bool.eq_iff_iff]
 simp
theorem dec_str {i j : Str} : decide (V.str i = V.str j) = (i == j) := by
 rw [Bool.eq_iff_iff]
 simp
theorem dec_byt {i j : Array UInt8} : decide (V.byt i = V.byt j) = (i.toList == j.toList) := by
 rw [Bool.eq_iff_iff]
 cases i
 cases j
 simp
section
variable {X : Cx} {a b c : Expr} {ta tb tc : TE} {pos : Pos}
theorem fin_bl {pins : List (Addr × Obj)} {σ : St} {H : Hp} {s : Shared} {Q : VK} {k k' : Bool} (I : Inv X pins σ H s) (q : Q (.bl k) H) (e : k = k') : EP X pins σ Q (.bool k') s := by
 subst e
 exact ⟨.bl k, H, I, rfl, q⟩
theorem op_eq : OpR X (compareOp .Eq) rEq := by
 intro pins s σ H x y v u Q I rx ry h
 obtain ⟨hs, q⟩ := h
 cases x with
 | non =>
  cases rx
  cases y with
  | non => cases ry; exact PySem.EqNone.eq_none_none (fin_bl I q (by simp))
  | bl j => cases ry; exact PySem.EqNone.eq_none_bool (fin_bl I q (by simp))
  | int j => obtain ⟨t', rfl⟩ := ry; exact PySem.EqNone.eq_none_int (fin_bl I q (by simp))
  | str j => obtain ⟨t', rfl⟩ := ry; exact PySem.EqNone.eq_none_str (fin_bl I q (by simp))
  | _ => exact absurd (show false = true from hs) Bool.false_ne_true
 | bl i =>
  cases rx
  cases y with
  | non => cases ry; exact PySem.EqNone.eq_bool_none (fin_bl I q (by simp))
  | bl j => cases ry; exact eq_bool (fin_bl I q dec_bl)
  | str j => obtain ⟨t', rfl⟩ := ry; exact PySem.EqMixed.eq_bool_str (fin_bl I q (by simp))
  | _ => exact absurd (show false = true from hs) Bool.false_ne_true
 | int i =>
  obtain ⟨t, rfl⟩ := rx
  cases y with
  | non => cases ry; exact PySem.EqNone.eq_int_none (fin_bl I q (by simp))
  | int j => obtain ⟨t', rfl⟩ := ry; exact eq_int (fin_bl I q dec_int)
  | str j => obtain ⟨t', rfl⟩ := ry; exact PySem.EqMixed.eq_int_str (fin_bl I q (by simp))
  | _ => exact absurd (show false = true from hs) Bool.false_ne_true
 | str i =>
  obtain ⟨t, rfl⟩ := rx
  cases y with
  | non => cases ry; exact PySem.EqNone.eq_str_none (fin_bl I q (by simp))
  | bl j => cases ry; exact PySem.EqMixed.eq_str_bool (fin_bl I q (by simp))
  | int j => obtain ⟨t', rfl⟩ := ry; exact PySem.EqMixed.eq_str_int (fin_bl I q (by simp))
  | str j => obtain ⟨t', rfl⟩ := ry; exact eq_str (fin_bl I q dec_str)
  | _ => exact absurd (show false = true from hs) Bool.false_ne_true
 | byt i =>
  obtain ⟨t, rfl⟩ := rx
  cases y with
  | byt j => obtain ⟨t', rfl⟩ := ry; exact PySem.W.eq_bytes (fin_bl I q dec_byt)
  | _ => exact absurd (show false = true from hs) Bool.false_ne_true
 | _ => cases y <;> exact absurd (show false = true from hs) Bool.false_ne_true
theorem op_ne : OpR X (compareOp .NotEq) rNe := by
 intro pins s σ H x y v u Q I rx ry h
 obtain ⟨hs, q⟩ := h
 cases x with
 | non =>
  cases rx
  cases y with
  | non => cases ry; exact PySem.EqNone.ne_none_none (fin_bl I q (by simp))
  | bl j => cases ry; exact PySem.EqNone.ne_none_bool (fin_bl I q (by simp))
  | int j => obtain ⟨t', rfl⟩ := ry; exact PySem.EqNone.ne_none_int (fin_bl I q (by simp))
  | str j => obtain ⟨t', rfl⟩ := ry; exact PySem.EqNone.ne_none_str (fin_bl I q (by simp))
  | _ => exact absurd (show false = true from hs) Bool.false_ne_true
 | bl i =>
  cases rx
  cases y with
  | non => cases ry; exact PySem.EqNone.ne_bool_none (fin_bl I q (by simp))
  | bl j => cases ry; exact ne_bool (fin_bl I q (congrArg not dec_bl))
  | str j => obtain ⟨t', rfl⟩ := ry; exact PySem.EqMixed.ne_bool_str (fin_bl I q (by simp))
  | _ => exact absurd (show false = true from hs) Bool.false_ne_true
 | int i =>
  obtain ⟨t, rfl⟩ := rx
  cases y with
  | non => cases ry; exact PySem.EqNone.ne_int_none (fin_bl I q (by simp))
  | int j => obtain ⟨t', rfl⟩ := ry; exact ne_int (fin_bl I q (congrArg not dec_int))
  | str j => obtain ⟨t', rfl⟩ := ry; exact PySem.EqMixed.ne_int_str (fin_bl I q (by simp))
  | _ => exact absurd (show false = true from hs) Bool.false_ne_true
 | str i =>
  obtain ⟨t, rfl⟩ := rx
  cases y with
  | non => cases ry; exact PySem.EqNone.ne_str_none (fin_bl I q (by simp))
  | bl j => cases ry; exact PySem.EqMixed.ne_str_bool (fin_bl I q (by simp))
  | int j => obtain ⟨t', rfl⟩ := ry; exact PySem.EqMixed.ne_str_int (fin_bl I q (by simp))
  | str j => obtain ⟨t', rfl⟩ := ry; exact ne_str (fin_bl I q (congrArg not dec_str))
  | _ => exact absurd (show false = true from hs) Bool.false_ne_true
 | byt i =>
  obtain ⟨t, rfl⟩ := rx
  cases y with
  | byt j => obtain ⟨t', rfl⟩ := ry; exact PySem.W.ne_bytes (fin_bl I q (congrArg not dec_byt))
  | _ => exact absurd (show false = true from hs) Bool.false_ne_true
 | _ => cases y <;> exact absurd (show false = true from hs) Bool.false_ne_true
theorem op_lt : OpR X (compareOp .Lt) (rI0 fun i j => .bl (decide (i < j))) := opB0 fun _ _ _ _ _ _ _ q => lt_int q
theorem op_le : OpR X (compareOp .LtE) (rI0 fun i j => .bl (decide (i <= j))) := opB0 fun _ _ _ _ _ _ _ q => le_int q
theorem op_gt : OpR X (compareOp .Gt) (rI0 fun i j => .bl (decide (j < i))) := opB0 fun _ _ _ _ _ _ _ q => gt_int q
theorem op_ge : OpR X (compareOp .GtE) (rI0 fun i j => .bl (decide (j <= i))) := opB0 fun _ _ _ _ _ _ _ q => ge_int q
theorem op_isN : OpR X (compareOp .Is) (fun x y H Q => y = .non /\ Q (.bl (decide (x = .non))) H) := by
 intro pins s σ H x y v u Q I rx ry h
 obtain ⟨rfl, q⟩ := h
 cases ry
 refine is_none_gen (fin_bl I q ?_)
 cases x <;> first
  | (cases rx; rfl)
  | (obtain ⟨t, rfl⟩ := rx; rfl)
theorem op_notN : OpR X (compareOp .IsNot) (fun x y H Q => y = .non /\ Q (.bl (!decide (x = .non))) H) := by
 intro pins s σ H x y v u Q I rx ry h
 obtain ⟨rfl, q⟩ := h
 cases ry
 refine isnot_none_gen (fin_bl I q ?_)
 cases x <;> first
  | (cases rx; rfl)
  | (obtain ⟨t, rfl⟩ := rx; rfl)
theorem nomark (b : Expr) {op : CmpOp} (h : op ≠ .In := by decide) (h2 : op ≠ .NotIn := by decide) : behindInMarks op b = false := by
 have e1 : (op == CmpOp.In) = false := by cases op <;> first | rfl | exact absurd rfl h
 have e2 : (op == CmpOp.NotIn) = false := by cases op <;> first | rfl | exact absurd rfl h2
 cases b <;> simp [behindInMarks, e1, e2]
theorem pe_cmpR {op : CmpOp} {r : R2} (ho : OpR X (compareOp op) r) (ha : PE X a ta) (hb : PE X b tb) (hm : behindInMarks op b = false) : PE X (.Compare a [op] [b] pos) (tOp r ta tb) := by
 intro pins s σ H Q I h
 exact wpAny_Compare1 (binT ha hb I h fun v u s2 x y H2 I2 rx ry q => ho pins s2 σ H2 x y v u Q I2 rx ry q) hm
def tTest (t : TE) : TT := fun σ H Q => t σ H fun x H' => ∃ k, x = .bl k /\ Q k H'
theorem pt_cmpR {op : CmpOp} {r : R2} (ho : OpR X (compareOp op) r) (ha : PE X a ta) (hb : PE X b tb) (hm : behindInMarks op b = false) : PT X (.Compare a [op] [b] pos) (tTest (tOp r ta tb)) := by
 intro pins s σ H Q I h
 refine wpAny_isTrue_Compare1 (thn (ha pins s σ H _ I h) fun v s1 ⟨x, H1, I1, r1, q1⟩ => thn (hb pins s1 σ H1 _ I1 q1) fun u s2 ⟨y, H2, I2, r2, q2⟩ =>
  thn (ho pins s2 σ H2 x y v u _ I2 r1 r2 q2) fun c s3 ⟨z, H3, I3, r3, k, e, q3⟩ => ?_) hm
 subst e
 cases r3
 exact wpAny_truthy_bool ⟨H3, I3, q3⟩
def tChain (r r' : R2) (ta tb tc : TE) : TE := fun σ H Q => ta σ H fun x H1 => tb σ H1 fun y H2 => r x y H2 fun z H3 => ∃ k, z = .bl k /\
 (if k = true then tc σ H3 fun w' H4 => r' y w' H4 Q else Q (.bl false) H3)
theorem pt_chain {op op' : CmpOp} {r r' : R2} (ho : OpR X (compareOp op) r) (ho' : OpR X (compareOp op') r') (ha : PE X a ta) (hb : PE X b tb) (hc : PE X c tc)
  (hm : lastMarks [op, op'] [b, c] = false := by with_unfolding_all rfl) : PT X (.Compare a [op, op'] [b, c] pos) (tTest (tChain r r' ta tb tc)) := by
 intro pins s σ H Q I h
 refine isTrue_chain (thn (ha pins s σ H _ I h) fun v s1 ⟨x, H1, I1, r1, q1⟩ => test_link (thn (hb pins s1 σ H1 _ I1 q1) fun u s2 ⟨y, H2, I2, r2, q2⟩ =>
  thn (ho pins s2 σ H2 x y v u _ I2 r1 r2 q2) fun d s3 ⟨z, H3, I3, r3, k, e, q3⟩ => ?_)) hm
 subst e
 cases r3
 refine wpAny_truthy_bool ?_
 cases k with
 | false =>
  obtain ⟨k', e', q'⟩ := q3
  cases e'
  exact ite_ff ⟨H3, I3, q'⟩
 | true =>
  refine ite_tt (test_last (thn (hc pins s3 σ H3 _ I3 q3) fun w' s4 ⟨z', H4, I4, r4, q4⟩ => thn (ho' pins s4 σ H4 y z' u w' _ I4 r2 r4 q4) fun d' s5 ⟨z2, H5, I5, r5, k2, e2, q5⟩ => ?_))
  subst e2
  cases r5
  exact wpAny_truthy_bool ⟨H5, I5, q5⟩
theorem line63 : (sizeLine : Nat) < 2 ^ 63 := by rw [sizeLine_eq]; decide
theorem op_add_str : OpR X (binaryOp .Add) (fun x y H Q => ∃ i j, x = .str i /\ y = .str j /\ i.length + j.length <= sizeLine /\ Q (.str (i ++ j)) H) := by
 intro pins s σ H x y v u Q I rx ry h
 obtain ⟨i, j, rfl, rfl, hz, q⟩ := h
 obtain ⟨t, rfl⟩ := rx
 obtain ⟨t', rfl⟩ := ry
 exact add_str (fun t' tk => ⟨.str (i ++ j), H, I.tok _, ⟨_, rfl⟩, q⟩) hz
theorem vals1 {x : V} {us : List Value} (r : Vals [x] us) : ∃ u, us = [u] /\ RelV x u := by
 cases r with
 | cons r1 r2 => cases r2; exact ⟨_, rfl, r1⟩
theorem vals2 {x y : V} {us : List Value} (r : Vals [x, y] us) : ∃ u w', us = [u, w'] /\ RelV x u /\ RelV y w' := by
 cases r with
 | cons r1 r2 =>
  cases r2 with
  | cons r3 r4 => cases r4; exact ⟨_, _, rfl, r1, r3⟩
theorem call_max2 (hc : X.calm = true) : CallR X (.builtin "max") (fun xs H Q => ∃ i j, xs = [.int i, .int j] /\ Q (.int (if j > i then j else i)) H) := by
 intro pins s σ H xs us Q I r h
 obtain ⟨i, j, rfl, q⟩ := h
 obtain ⟨u, w', rfl, ⟨t, rfl⟩, ⟨t', rfl⟩⟩ := vals2 r
 refine max_two_ints (I.ok.hd hc) fun h' tk k => ⟨_, H, I.kept k, ?_, q⟩
 by_cases hj : j > i
 ·rw [if_pos hj, if_pos hj]; exact ⟨_, rfl⟩
 ·rw [if_neg hj, if_neg hj]; exact ⟨_, rfl⟩
theorem call_min2 (hc : X.calm = true) : CallR X (.builtin "min") (fun xs H Q => ∃ i j, xs = [.int i, .int j] /\ Q (.int (if j < i then j else i)) H) := by
 intro pins s σ H xs us Q I r h
 obtain ⟨i, j, rfl, q⟩ := h
 obtain ⟨u, w', rfl, ⟨t, rfl⟩, ⟨t', rfl⟩⟩ := vals2 r
 refine min_two_ints (I.ok.hd hc) fun h' tk k => ⟨_, H, I.kept k, ?_, q⟩
 by_cases hj : j < i
 ·rw [if_pos hj, if_pos hj]; exact ⟨_, rfl⟩
 ·rw [if_neg hj, if_neg hj]; exact ⟨_, rfl⟩
end
end L2
namespace L2
open PySem PySem.Spec PyProof.Rows
structure ObjM (h : Heap) (x dx C : Addr) (mA : Str -> Option Value) : Prop where
 obj : h.get? x = some (PySem.W.instObj C dx)
 ns : h.Ns1 dx mA
 ne : dx ≠ x
theorem lookIn_ns {h : Heap} {dx : Addr} {mA : Str -> Option Value} (n : h.Ns1 dx mA) : ∃ od, h.get? dx = some od /\ ∀ name, PySem.W.lookIn name od = some (mA name) := by
 obtain ⟨o, es, ep, ho, hd, hk, _, hm⟩ := n
 refine ⟨o, ho, fun name => ?_⟩
 have e := hm name
 unfold nsFind findBy at e
 rw [<- Array.find?_toList] at e
 unfold PySem.W.lookIn
 rw [hd]
 dsimp only
 split
 ·rename_i y q
  rw [q] at e
  exact congrArg some e
 ·rename_i q
  rw [q] at e
  have a : es.toList.any (·.refKey) = false := by
   rw [List.any_eq_false]
   intro y hy
   obtain ⟨z, t, hkey⟩ := hk y (Array.mem_toList_iff.mp hy)
   simp [DictEntry.refKey, hkey]
  have a' : ¬ es.toList.any (·.refKey) = true := by rw [a]; exact Bool.false_ne_true
  rw [if_neg a']
  exact congrArg some e
theorem ObjM.look {h : Heap} {x dx C : Addr} {mA : Str -> Option Value} (I : ObjM h x dx C mA) : ∃ od, PySem.W.InstAt h x (PySem.W.instObj C dx) C (some od) /\ ∀ name, PySem.W.lookIn name od = some (mA name) :=
 let ⟨od, ho, hl⟩ := lookIn_ns I.ns
 ⟨od, ⟨I.obj, rfl, rfl, ho⟩, hl⟩
section
variable {prog : Program} {w : World} {A : Around} {E : Value -> Shared -> Prop} {s : Shared} {K : PySem.W.Frag} {x dx C f : Addr} {mA : Str -> Option Value} {name : Str} {v : Value}
end
theorem RelO.some_of {v : V} {o : Option Value} (r : RelO (some v) o) : ∃ u, o = some u /\ RelV v u := by
 cases o with
 | none => exact (show False from r).elim
 | some u => exact ⟨u, rfl, r⟩
section
variable {P : Program} {w : World} {H H' : Hp} {h h' : Heap} {a C dx : Addr} {fs fs' : List (Str × V)}
theorem ins_get (hok : HOk P w H h) (e : H a = some (.ins C dx fs)) : ∃ mA, ObjM h a dx C mA /\ (∀ f, RelO (fs.lookup f) (mA f)) /\ PySem.Within mA (fs.map (·.1)) /\ fs.length <= 1000 /\ H dx = some (.own a) := by
 obtain ⟨d, z, ne, ob, mA, n, r, q⟩ := (show ObjOk P w H h a (.ins C dx fs) from hok a _ e)
 exact ⟨mA, ⟨ob, n, ne⟩, r, q, z, d⟩
end
structure Cls (K : PySem.W.Frag) (C : Addr) : Prop where
 pg : PySem.W.plainGet K C Str.empty = true
 hd : PySem.W.hasDictIn K C = true
 po : PySem.W.plainOver K C = true
 sa : PySem.W.findIn K (.ref C) "__setattr__" = some (some (.builtin "object.__setattr__"))
theorem Cls.get {K : PySem.W.Frag} {C : Addr} (c : Cls K C) (f : Str) : PySem.W.plainGet K C f = true := c.pg
section
variable {X : Cx} {pins : List (Addr × Obj)} {σ : St} {H : Hp} {s : Shared} {a C dx : Addr} {fs : List (Str × V)} {f : Str} {v : V} {A : Around} {E : Value -> Shared -> Prop}
end
section
variable {X : Cx} {o e value : Expr} {f : Str} {pos pos' tpos : Pos} {ta tv : TE}
end
section
variable {X : Cx} {pins : List (Addr × Obj)} {σ : St} {H : Hp} {s : Shared} {A : Around} {E : Value -> Shared -> Prop} {Q : Value -> Shared -> Prop} {c : Value} {b : Bool}
inductive TyOf (K : PySem.W.Frag) (H : Hp) : V -> Value -> Prop where
 | non : TyOf K H .non (.type "NoneType")
 | bl (x : Bool) : TyOf K H (.bl x) (.type "bool")
 | int (i : Int) : TyOf K H (.int i) (.type "int")
 | str (x : Str) : TyOf K H (.str x) (.type "str")
 | flt (x : UInt64) : TyOf K H (.flt x) (.type "float")
 | lst {a : Addr} {xs : List V} (e : H a = some (.lst xs)) : TyOf K H (.ref a) (.type "list")
 | frz {a : Addr} {o : Obj} {xs : List V} (e : H a = some (.frz o (.lst xs))) : TyOf K H (.ref a) (.type "list")
 | tup {a : Addr} {xs : List V} (e : H a = some (.tup xs)) : TyOf K H (.ref a) (.type "tuple")
 | dK {a : Addr} {kvs : List (Key × V)} (e : H a = some (.dK kvs)) : TyOf K H (.ref a) (.type "dict")
 | dT {a : Addr} {kvs : List (List Key × V)} (e : H a = some (.dT kvs)) : TyOf K H (.ref a) (.type "dict")
 | ins {a C dx : Addr} {fs : List (Str × V)} (e : H a = some (.ins C dx fs)) (cl : Cls K C) (ha : PySem.W.findIn K (.ref C) "__class__" = some (some (.builtin "object.__class__")))
   (hn : PySem.W.specialIn K (.builtin "object.__class__") "__get__" = some (some (.builtin "getset_descriptor.__get__"))) (htk : PySem.W.takesIn K (.builtin "object.__class__") = some true)
   (hm : PySem.W.mroIn K C (.type "object") = some true) : TyOf K H (.ref a) (.ref C)
theorem isinst_ok {x : V} {u t : Value} (I : Inv X pins σ H s) (rx : RelV x u) (ty : TyOf X.K H x t) (e : PySem.W.kitOne X.K t c = some b) (h : ∀ tk, Q (.bool b) { s with toks := tk }) :
  wpAny (model X.prog X.w) A (call (.builtin "isinstance") [u, c]) Q E s := by
 cases ty with
 | non => cases (show u = Value.none from rx); exact PySem.W.kia_one PySem.W.kitx_none I.kIn True.intro e (fun z => nomatch z) h
 | bl y => cases (show u = Value.bool y from rx); exact PySem.W.kia_one PySem.W.kitx_bool I.kIn True.intro e (fun z => nomatch z) h
 | int i => obtain ⟨t, q⟩ := (show ∃ t, u = Value.int i t from rx); cases q; exact PySem.W.kia_one PySem.W.kitx_int I.kIn True.intro e (fun z => nomatch z) h
 | str y => obtain ⟨t, q⟩ := (show ∃ t, u = Value.str y t from rx); cases q; exact PySem.W.kia_one PySem.W.kitx_str I.kIn True.intro e (fun z => nomatch z) h
 | flt y => obtain ⟨t, q⟩ := (show ∃ t, u = Value.float y t from rx); cases q; exact PySem.W.kia_one PySem.W.kitx_float I.kIn True.intro e (fun z => nomatch z) h
 | @lst a xs ea =>
  cases (show u = Value.ref a from rx)
  obtain ⟨_, _, n, _, h1⟩ := (show ObjOk X.prog X.w H s.heap a (.lst xs) from I.hok a _ ea)
  exact PySem.W.kia_one PySem.W.kitx_list I.kIn ⟨_, h1, rfl⟩ e (fun z => nomatch z) h
 | @frz a ob xs ea =>
  cases (show u = Value.ref a from rx)
  obtain ⟨_, _, _, n, _, h1⟩ := (show ObjOk X.prog X.w H s.heap a (.frz ob (.lst xs)) from I.hok a _ ea)
  exact PySem.W.kia_one PySem.W.kitx_list I.kIn ⟨_, h1, rfl⟩ e (fun z => nomatch z) h
 | @tup a xs ea =>
  cases (show u = Value.ref a from rx)
  obtain ⟨_, _, _, p⟩ := (show ObjOk X.prog X.w H s.heap a (.tup xs) from I.hok a _ ea)
  obtain ⟨o, h1, h2, _⟩ := p
  exact PySem.W.kia_one PySem.W.kitx_tuple I.kIn ⟨o, h1, h2⟩ e (fun z => nomatch z) h
 | @dK a kvs ea =>
  cases (show u = Value.ref a from rx)
  obtain ⟨_, _, vs, _, p⟩ := (show ObjOk X.prog X.w H s.heap a (.dK kvs) from I.hok a _ ea)
  obtain ⟨o, es, ep, h1, h2, _⟩ := p
  exact PySem.W.kia_one PySem.W.kitx_dict I.kIn ⟨o, h1, h2.1⟩ e (fun z => nomatch z) h
 | @dT a kvs ea =>
  cases (show u = Value.ref a from rx)
  obtain ⟨_, _, xs, _, o, es, ep, h1, h2, _⟩ := (show ObjOk X.prog X.w H s.heap a (.dT kvs) from I.hok a _ ea)
  exact PySem.W.kia_one PySem.W.kitx_dict I.kIn ⟨o, h1, h2.1⟩ e (fun z => nomatch z) h
 | @ins a C dx fs ea cl ha hn htk hm =>
  cases (show u = Value.ref a from rx)
  obtain ⟨mA, O, _⟩ := ins_get I.hok ea
  obtain ⟨od, J, _⟩ := O.look
  exact PySem.W.kia_one (PySem.W.kitx_own (cl.get _) cl.hd ha hn htk hm) I.kIn J e (fun z => nomatch z) h
end
end L2
namespace L2
open PySem PySem.Spec PyProof.Rows
structure Room (k : Nat) (A : Around) : Prop where
 hd : A.handled = none
 dp : A.depth + 3 * k + 5 < recursionLimit
 un : A.units + 16 * k + 200 < cLine
theorem Room.mono {j k : Nat} {A : Around} (r : Room k A) (h : j <= k) : Room j A := ⟨r.hd, by have := r.dp; omega, by have := r.un; omega⟩
theorem Room.deeper {k : Nat} {A : Around} (r : Room (k + 1) A) (env : Env) : Room k (A.deeper env) :=
 ⟨r.hd, by have := r.dp; show A.depth + 1 + 3 * k + 5 < _; omega, by have := r.un; show A.units + 3 + 16 * k + 200 < _; omega⟩
theorem Room.depth {k : Nat} {A : Around} (r : Room k A) : A.depth < recursionLimit := by have := r.dp; omega
theorem Room.units {k : Nat} {A : Around} (r : Room k A) : A.units + 64 < cLine := by have := r.un; omega
def tNil : TA := fun _ H Q => Q [] H
def tCons (ta : TE) (tr : TA) : TA := fun σ H Q => ta σ H fun x H1 => tr σ H1 fun xs H2 => Q (x :: xs) H2
section
variable {X : Cx} {e : Expr} {es : List Expr} {te : TE} {t : TA} {pos : Pos}
theorem pa_nil : PA X [] tNil := fun _ _ _ _ H Q I h => Calls.spliced_nil ⟨[], H, I, .nil, h⟩
theorem pa_cons (ha : PE X e te) (hr : PA X es t) (hs : starEach (e :: es) X.env = (false, eval e X.env) :: starEach es X.env := by rfl) : PA X (e :: es) (tCons te t) := by
 intro pos pins s σ H Q I h
 rw [hs]
 show wpAny _ _ (spliced ((false, eval e X.env) :: backTo pos (starEach es X.env))) _ _ s
 refine Calls.spliced_cons (thn (ha pins s σ H _ I h) fun u s1 ⟨x, H1, I1, r1, q1⟩ => ?_)
 exact thn (hr pos pins s1 σ H1 _ I1 q1) fun us s2 ⟨xs, H2, I2, r2, q2⟩ => ⟨x :: xs, H2, I2, .cons r1 r2, q2⟩
def tTup (t : TA) : TE := fun σ H Q => t σ H fun xs H1 => xs.length <= sizeLine /\ ∀ p, H1 p = none -> Q (.ref p) (upd H1 p (.tup xs))
def tLst (t : TA) : TE := fun σ H Q => t σ H fun xs H1 => xs.length <= sizeLine /\ ∀ p, H1 p = none -> Q (.ref p) (upd H1 p (.lst xs))
theorem pe_tup {x1} (h : PA X es t) : PE X (.Tuple es x1 pos) (tTup t) := by
 intro pins s σ H Q I hq
 refine wpAny_Tuple_spliced (thn (h pos pins s σ H _ I hq) fun us s1 ⟨xs, H1, I1, r, z, q⟩ => ⟨by rw [<- r.length]; exact z, ?_⟩)
 have hf : H1 s1.heap.objs.size = none := I1.hok.fresh (Nat.le_refl _)
 refine ⟨.ref s1.heap.objs.size, upd H1 s1.heap.objs.size (.tup xs), I1.laid (t' := s1.toks) (fun b u e => Heap.get?_push_of_some _ e) (Nat.le_refl _) ?_, rfl, q _ hf⟩
 exact ⟨z, us, r, ⟨_, Heap.get?_push_size _ rfl, rfl, _, rfl⟩⟩
theorem pe_lst (h : PA X es t) : PE X (.List es pos) (tLst t) := by
 intro pins s σ H Q I hq
 refine wpAny_List_spliced (thn (h pos pins s σ H _ I hq) fun us s1 ⟨xs, H1, I1, r, z, q⟩ => ⟨by rw [<- r.length]; exact z, ?_⟩)
 have hf : H1 s1.heap.objs.size = none := I1.hok.fresh (Nat.le_refl _)
 refine ⟨.ref s1.heap.objs.size, upd H1 s1.heap.objs.size (.lst xs), I1.laid (t' := s1.toks) (fun b u e => Heap.get?_push_of_some _ e) (Nat.le_refl _) ?_, rfl, q _ hf⟩
 exact ⟨z, us, 0, r, Heap.get?_push_size _ rfl⟩
end
abbrev Sp := List V -> Hp -> VK -> XK -> Prop
abbrev CXT := List Env -> Hp -> Shared -> XK -> Value -> Shared -> Prop
structure Env0 (P : Program) (w : World) (K : PySem.W.Frag) (mg : Str -> Option Value) (base : Heap) (A : Around) (outer : List Env) (s : Shared) (H : Hp) : Prop where
 frames : A.frames = some outer
 mod : Mod K mg base
 bs : ∀ b o, base.get? b = some o -> s.heap.get? b = some o /\ H b = none
 bsz : base.objs.size <= s.heap.objs.size
 funs : s.heap.FunFrames base outer
 frf : ∀ b ∈ frs outer, H b = none
 hok : HOk P w H s.heap
 bare : AllBare s.gens
def CE (outer : List Env) (P : Program) (w : World) (H : Hp) (s : Shared) (Q : VK) (u : Value) (s' : Shared) : Prop :=
 ∃ v H', s'.os = s.os /\ AllBare s'.gens /\ Un (frs outer) [] H H' s.heap s'.heap /\ HOk P w H' s'.heap /\ RelV v u /\ Q v H'
def CR (CX : CXT) (outer : List Env) (P : Program) (w : World) (H : Hp) (s : Shared) (Q : VK) (E : XK) (r : Result) (s' : Shared) : Prop :=
 match r with
 | .ok (.ret u) => CE outer P w H s Q u s'
 | .ok _ => False
 | .error e => CX outer H s E e s'
structure FnOk (P : Program) (w : World) (K : PySem.W.Frag) (mg : Str -> Option Value) (base : Heap) (CX : CXT) (k : Nat) (f : Addr) (fd : FuncData) (ps : List Str) (sp : Sp) : Prop where
 len : ∀ vs H Q E, sp vs H Q E -> vs.length = ps.length
 run : ∀ (A : Around) (outer : List Env) (s : Shared) (H : Hp) (args : Args) (us : List Value) (vs : List V) (Q : VK) (E : XK), Room k A -> Env0 P w K mg base A outer s H -> BindsTo s fd args (ps.zip us) -> Vals vs us -> sp vs H Q E ->
  codeAny (model P w) A (.call (.ref f) args) (CR CX outer P w H s Q E) s
section
variable {X : Cx} {pins : List (Addr × Obj)} {σ : St} {H : Hp} {s s' : Shared}
theorem Inv.env0 (I : Inv X pins σ H s) : Env0 X.prog X.w X.K X.mg X.base X.A X.stack s H :=
 ⟨I.ok.frames, I.ok.mod, I.bs, Nat.le_trans I.ok.bsz I.sz, I.stack, I.stkFree, I.hok, I.bare⟩
theorem Inv.after {Q : VK} {u : Value} (I : Inv X pins σ H s) (h : CE X.stack X.prog X.w H s Q u s') : EP X pins σ Q u s' := by
 obtain ⟨v, H', os, bare, un, hok, r, q⟩ := h
 obtain ⟨hh, g, d, t, os'⟩ := s'
 obtain rfl : os' = s.os := os
 exact ⟨v, H', I.call (h' := hh) (g' := g) (d' := d) (t' := t) (ch := []) un hok bare (fun b z => absurd z (by simp)), r, q⟩
end
def tCall (sp : Sp) (dvs : List V) (E : XK) (t : TA) : TE := fun σ H Q => t σ H fun vs H1 => sp (vs ++ dvs) H1 Q E
def Binds (K : PySem.W.Frag) (fd : FuncData) (ps : List Str) (ds : List Value) : Prop :=
 ∀ (s : Shared) (us : List Value), K.In s.heap -> (us ++ ds).length = ps.length -> BindsTo s fd ⟨us, []⟩ (ps.zip (us ++ ds))
theorem Binds.all {K : PySem.W.Frag} {fd : FuncData} {ps : List Str} (h : ∀ us : List Value, us.length = ps.length -> bindArgs fd ⟨us, []⟩ = pure (ps.zip us)) : Binds K fd ps [] := fun s us _ hl => by
 rw [List.append_nil] at hl ⊢
 exact .of_eq (h us hl)
def Passes (CX : CXT) (X : Cx) (E : XK) : Prop := ∀ (pins : List (Addr × Obj)) (σ : St) (H : Hp) (s : Shared) (e : Value) (s' : Shared), Inv X pins σ H s -> CX X.stack H s E e s' -> X.xe e s'
section
variable {X : Cx} {CX : CXT} {k : Nat} {f C : Addr} {fd : FuncData} {ps : List Str} {sp : Sp} {dvs : List V} {ds : List Value} {E : XK} {x m : Str} {p pos apos : Pos} {e o : Expr} {es : List Expr} {ta : TE} {t : TA}
theorem run_fn {pins : List (Addr × Obj)} {σ : St} {H : Hp} {s : Shared} {Q : VK} {us : List Value} {vs : List V} (F : FnOk X.prog X.w X.K X.mg X.base CX k f fd ps sp) (hr : Room k X.A) (hb : Binds X.K fd ps ds) (hd : Vals dvs ds) (hx : Passes CX X E)
  (I : Inv X pins σ H s) (r : Vals vs us) (h : sp (vs ++ dvs) H Q E) : wpAny (model X.prog X.w) X.A (call (.ref f) us) (EP X pins σ Q) X.xe s := by
 have r2 : Vals (vs ++ dvs) (us ++ ds) := r.append hd
 have hl : (us ++ ds).length = ps.length := by rw [<- r2.length]; exact F.len _ _ _ _ h
 refine wpAny_call (codeAny_mono (F.run X.A X.stack s H ⟨us, []⟩ (us ++ ds) (vs ++ dvs) Q E hr I.env0 (hb s us I.kIn hl) r2 h) fun r s' hq => ?_)
 cases r with
 | error e => exact hx pins σ H s e s' I hq
 | ok fl =>
  cases fl with
  | ret u => exact I.after hq
  | next => exact False.elim hq
  | brk => exact False.elim hq
  | cont => exact False.elim hq
theorem pe_call (F : FnOk X.prog X.w X.K X.mg X.base CX k f fd ps sp) (hr : Room k X.A) (hg : Gl X x) (hm : X.mg x = some (.ref f)) (hk : PySem.W.keepIn X.K (.ref f) = true) (hb : Binds X.K fd ps ds) (hd : Vals dvs ds) (hx : Passes CX X E)
  (ha : PA X (e :: es) t) (hdb : (x == ("__debug__" : Str)) = false := by decide) (he : starEach (e :: es) X.env = (false, eval e X.env) :: starEach es X.env := by rfl) (hpl : (backTo pos (starEach es X.env)).any (·.1) = false := by rfl) :
  PE X (.Call (.Name x p) (e :: es) [] pos) (tCall sp dvs E t) := by
 intro pins s σ H Q I h
 refine wpAny_Call_Name_kw (ld_glob I hg hm ?_ hdb)
 refine PySem.W.callWith_K (h₀ := X.base) I.ok.mod.kin hk (thn (ha pos pins s σ H _ I h) fun us s1 ⟨vs, H1, I1, r, q⟩ => ⟨I1.kIn, ?_⟩) he hpl
 exact run_fn F hr hb hd hx I1 r q
end
section
variable {X : Cx} {CX : CXT} {k : Nat} {f C : Addr} {fd : FuncData} {ps ks : List Str} {sp : Sp} {E : XK} {x m : Str} {p pos apos kpos : Pos} {e o : Expr} {es : List Expr} {kws : List Keyword} {te ta : TE} {t tk : TA} {nm : Option Str}
variable {g : List Value -> List Value -> List Value} {gV : List V -> List V -> List V}
end
structure FnScope (N P : List Str) (sc : Scope) : Prop where
 kind : sc.kind = .function
 co : sc.isCoroutine = false
 gen : sc.isGenerator = false
 nd : N.Nodup
 pre : N.take P.length = P
 par : ∀ x ∈ P, sc.names.lookup x = some .local \/ sc.names.lookup x = some .cell
 nofree : ∀ y ∈ sc.names, y.2 ≠ .free
theorem bindL_out {kindOf : Str -> Option NameKind} {x : Str} : ∀ {binds : List (Str × Value)} {m : Str -> Option Value}, (∀ v, (x, v) ∉ binds) -> bindL kindOf binds m x = m x
 | [], _, _ => rfl
 | (n, v) :: r, m, h => by
  unfold bindL
  rw [bindL_out fun w hw => h w (List.mem_cons_of_mem _ hw)]
  split
  ·have : x ≠ n := by rintro rfl; exact h v List.mem_cons_self
   simp [this]
  ·rfl
theorem bindC_out {kindOf : Str -> Option NameKind} {x : Str} : ∀ {binds : List (Str × Value)} {m : Str -> Option Value}, (∀ v, (x, v) ∉ binds) -> bindC kindOf binds m x = m x
 | [], _, _ => rfl
 | (n, v) :: r, m, h => by
  unfold bindC
  rw [bindC_out fun w hw => h w (List.mem_cons_of_mem _ hw)]
  split
  ·rfl
  ·have : x ≠ n := by rintro rfl; exact h v List.mem_cons_self
   simp [this]
theorem bindL_get {kindOf : Str -> Option NameKind} {x : Str} {v : Value} : ∀ {P : List Str} {vs : List Value} {i : Nat} {m : Str -> Option Value}, P.Nodup -> P[i]? = some x -> vs[i]? = some v -> kindOf x = some .local ->
  bindL kindOf (P.zip vs) m x = some v
 | [], _, _, _, _, h, _, _ => by simp at h
 | _ :: _, [], _, _, _, _, h, _ => by simp at h
 | p :: P, w :: vs, 0, m, nd, h1, h2, hk => by
  simp at h1 h2; subst h1; subst h2
  show bindL kindOf ((p, w) :: P.zip vs) m p = _
  unfold bindL
  rw [bindL_out fun v hv => (List.nodup_cons.mp nd).1 (List.of_mem_zip hv).1, if_pos hk]
  simp
 | p :: P, w :: vs, i + 1, m, nd, h1, h2, hk => by
  show bindL kindOf ((p, w) :: P.zip vs) m x = _
  unfold bindL
  exact bindL_get (i := i) (List.nodup_cons.mp nd).2 (by simpa using h1) (by simpa using h2) hk
theorem bindC_get {kindOf : Str -> Option NameKind} {x : Str} {v : Value} : ∀ {P : List Str} {vs : List Value} {i : Nat} {m : Str -> Option Value}, P.Nodup -> P[i]? = some x -> vs[i]? = some v -> kindOf x ≠ some .local ->
  bindC kindOf (P.zip vs) m x = some v
 | [], _, _, _, _, h, _, _ => by simp at h
 | _ :: _, [], _, _, _, _, h, _ => by simp at h
 | p :: P, w :: vs, 0, m, nd, h1, h2, hk => by
  simp at h1 h2; subst h1; subst h2
  show bindC kindOf ((p, w) :: P.zip vs) m p = _
  unfold bindC
  rw [bindC_out fun v hv => (List.nodup_cons.mp nd).1 (List.of_mem_zip hv).1, if_neg hk]
  simp
 | p :: P, w :: vs, i + 1, m, nd, h1, h2, hk => by
  show bindC kindOf ((p, w) :: P.zip vs) m x = _
  unfold bindC
  exact bindC_get (i := i) (List.nodup_cons.mp nd).2 (by simpa using h1) (by simpa using h2) hk
def start (N : List Str) (vs : List V) : St := vs.map some ++ List.replicate (N.length - vs.length) none
def cxOf (CX : CXT) (P : Program) (w : World) (K : PySem.W.Frag) (mg : Str -> Option Value) (base : Heap) (N : List Str) (qual : Str) (scope : Scope) (f : Addr) (cd : Value) (A : Around) (outer : List Env) (s : Shared) (H : Hp) (E : XK) : Cx where
 prog := P
 w := w
 K := K
 mg := mg
 base := base
 A := A.deeper (envOfC qual scope s.heap.objs.size f cd)
 N := N
 s₀ := s
 H₀ := H
 env := envOfC qual scope s.heap.objs.size f cd
 outer := outer
 stack := envOfC qual scope s.heap.objs.size f cd :: outer
 ex := []
 calm := true
 fn := fun _ => true
 pn := []
 xe := fun e s' => wpAny (model P w) (A.deeper (envOfC qual scope s.heap.objs.size f cd)) (leaving (envOfC qual scope s.heap.objs.size f cd) e) (fun _ s'' => CX outer H s E e s'') (fun e' s'' => CX outer H s E e' s'') s'
theorem cell_has {sc : Scope} {n : Nat} {x : Str} (h : sc.names.lookup x = some .cell) : ∃ c, (cellsFrom n sc.names []).lookup x = some c := by
 have q := PySem.W.cellsFrom_some sc.names n [] (.inl h)
 exact Option.isSome_iff_exists.mp q
theorem inv_start {CX : CXT} {P : Program} {w : World} {K : PySem.W.Frag} {mg : Str -> Option Value} {base : Heap} {N ps : List Str} {qual : Str} {scope : Scope} {f : Addr} {cd : Value} {A : Around} {outer : List Env} {s s1 : Shared} {H : Hp} {E : XK} {us : List Value} {vs : List V}
  (S : FnScope N ps scope) (hd : A.handled = none) (e0 : Env0 P w K mg base A outer s H) (hl : vs.length = ps.length) (r : Vals vs us)
  (x : InCallC s s.heap.objs.size (bindL (envOfC qual scope s.heap.objs.size f cd).kindOf (ps.zip us) fun _ => none) (cellsFrom (s.heap.objs.size + 1) scope.names []) (bindC (envOfC qual scope s.heap.objs.size f cd).kindOf (ps.zip us) fun _ => none) s1) :
  Inv (cxOf CX P w K mg base N qual scope f cd A outer s H E) [] (start N vs) H s1 := by
 have hpl : ps.length <= N.length := by have := congrArg List.length S.pre; rw [List.length_take] at this; omega
 obtain ⟨h1, tk, rfl, hk⟩ := x.done
 have noA : ∀ b : Addr, b ∉ (cxOf CX P w K mg base N qual scope f cd A outer s H E).ex := fun b z => absurd (show b ∈ ([] : List Addr) from z) (by simp)
 refine ⟨⟨e0.mod, S.kind, rfl, rfl, Nat.le_refl _, fun y z c h1 h2 => ?_, fun y hy => ?_, fun y c _ h => ?_, fun _ => hd, Around.frames_deeper e0.frames, .inr ⟨rfl, rfl⟩, fun b z => absurd z (noA b), e0.bs, e0.bsz, fun b _ _ => noA b, fun b z => absurd z (noA b), e0.funs, e0.frf⟩,
  rfl, e0.bare, Un.kept hk, ⟨_, x.toInCall.ns, fun i y v h1 h2 h3 => ?_⟩, fun y c h => ⟨_, x.cell y c h⟩, e0.hok.fresh (Nat.le_refl _), fun y c h => ?_, fun p hp => absurd (show p ∈ ([] : List (Addr × Obj)) from hp) (by simp), e0.hok.kept hk, ?_⟩
 ·exact name_of_addr x.apart (PySem.mem_of_lookup h1) (PySem.mem_of_lookup h2)
 ·have hy : scope.names.lookup y = some .cell \/ scope.names.lookup y = some .free := hy
  rcases hy with hy | hy
  ·exact cell_has hy
  ·exact absurd rfl (S.nofree _ (PySem.mem_of_lookup hy))
 ·exact Nat.le_of_lt (x.above y c (PySem.mem_of_lookup h))
 ·have hi : i < vs.length := by
   unfold start at h2
   by_cases hi : i < vs.length
   ·exact hi
   ·rw [List.getElem?_append_right (by simpa using hi)] at h2
    rw [List.getElem?_replicate] at h2
    split at h2 <;> cases h2
  have ha : vs[i]? = some v := by
   unfold start at h2
   rw [List.getElem?_append_left (by simpa using hi), List.getElem?_map] at h2
   cases e : vs[i]? with
   | none => rw [e] at h2; cases h2
   | some a => rw [e] at h2; cases h2; rfl
  obtain ⟨u, hu, rv⟩ := r.get ha
  have hp : ps[i]? = some y := by
   rw [<- S.pre, List.getElem?_take_of_lt (by omega)]; exact h1
  have ndP : ps.Nodup := by rw [<- S.pre]; exact S.nd.sublist (List.take_sublist _ _)
  refine ⟨u, rv, ?_⟩
  rcases S.par y (List.mem_of_getElem? hp) with k | k
  ·exact .inl ⟨k, bindL_get ndP hp hu k⟩
  ·obtain ⟨c, e⟩ := cell_has (n := s.heap.objs.size + 1) k
   refine .inr ⟨.inl k, c, e, ?_⟩
   have q := x.cell y c e
   rw [bindC_get ndP hp hu (by show scope.names.lookup y ≠ _; rw [k]; decide)] at q
   exact q
 ·exact e0.hok.fresh (Nat.le_of_lt (x.above y c (PySem.mem_of_lookup h)))
 ·unfold start
  show _ = N.length
  rw [List.length_append, List.length_map, List.length_replicate]
  omega
theorem fn_of {CX : CXT} {P : Program} {w : World} {K : PySem.W.Frag} {mg : Str -> Option Value} {base : Heap} {k : Nat} {f : Addr} {name qual : Str} {params : Arguments} {body : List Stmt} {scope : Scope} {dV kV doc pm cdv ct oc : Value} {an od : Option Addr}
  {osl : Array (Option Value)} {N ps : List Str} {sp : Sp} (lk : K.lookup f = some ⟨oc, od, .func (PySem.W.fnOf name qual params body scope dV kV doc pm an cdv ct), osl⟩) (hcd : PySem.W.codeIn K cdv qual = true) (S : FnScope N ps scope)
  (len : ∀ vs H Q E, sp vs H Q E -> vs.length = ps.length)
  (hbody : ∀ (A : Around) (outer : List Env) (s : Shared) (H : Hp) (vs : List V) (Q : VK) (E : XK), Room k (A.deeper (envOfC qual scope s.heap.objs.size f cdv)) -> sp vs H Q E ->
   ∃ t, PSs (cxOf CX P w K mg base N qual scope f cdv A outer s H E) body t /\ t { nx := fun _ H' => Q .non H', rt := Q } (start N vs) H) :
  FnOk P w K mg base CX (k + 1) f (PySem.W.fnOf name qual params body scope dV kV doc pm an cdv ct) ps sp := by
 refine ⟨len, fun A outer s H args us vs Q E hr e0 hb r hsp => ?_⟩
 have hl := len _ _ _ _ hsp
 have KX : K.In s.heap := e0.mod.kin.keeps fun b o e => (e0.bs b o e).1
 have lim : s.heap.NoLimit := e0.mod.nolimit.keeps fun b o e => (e0.bs b o e).1
 have hkind : ∀ y ∈ ps.zip us, scope.names.lookup y.1 = some .local \/ (scope.names.lookup y.1 = some .cell /\ ((cellsFrom (s.heap.objs.size + 1) scope.names []).lookup y.1).isSome = true) := fun ⟨n, v⟩ hy => by
  rcases S.par n (List.of_mem_zip hy).1 with q | q
  ·exact .inl q
  ·exact .inr ⟨q, PySem.W.cellsFrom_some _ _ _ (.inl q)⟩
 refine codeAny_call_function hr.depth (KX _ _ lk) rfl S.co S.gen rfl (PySem.W.codeRec_of KX hcd) (hb _ _ _ _ ?_)
 refine wpAny_newFunctionEnv_cells S.kind hkind fun env he s1 x => ?_
 subst he
 refine ⟨lim.keeps x.toInCall.keep, codeAny_func ?_⟩
 obtain ⟨t, ht, hq⟩ := hbody A outer s H vs Q E (hr.deeper _) hsp
 have I : Inv (cxOf CX P w K mg base N qual scope f cdv A outer s H E) [] (start N vs) H s1 := inv_start S hr.hd e0 hl r x
 refine wpAny_mono (ht [] s1 (start N vs) H _ I hq) (fun fl s' hs => ?_) fun e s' hs => hs
 have fin : ∀ {σ' : St} {H' : Hp} {v : V} {u : Value}, Inv (cxOf CX P w K mg base N qual scope f cdv A outer s H E) [] σ' H' s' -> RelV v u -> Q v H' -> CE outer P w H s Q u s' :=
  fun {σ' H' v u} J rv q => ⟨v, H', J.os, J.bare, J.base, J.hok, rv, q⟩
 cases fl with
 | ret u =>
  obtain ⟨v, σ', H', J, rv, q⟩ := hs
  exact fin J rv q
 | next =>
  obtain ⟨σ', H', J, q⟩ := hs
  exact fin (v := V.non) (u := Value.none) J rfl q
 | brk =>
  obtain ⟨_, _, _, q⟩ := hs
  exact False.elim q
 | cont =>
  obtain ⟨_, _, _, q⟩ := hs
  exact False.elim q
end L2
namespace L2
open PySem PySem.Spec PyProof.Rows
section
variable {X : Cx} {x : Str} {p pos : Pos} {e : Expr} {es : List Expr} {t : TA} {id T : String} {r : List V -> Hp -> VK -> Prop}
def tCB (r : List V -> Hp -> VK -> Prop) (t : TA) : TE := fun σ H Q => t σ H fun vs H1 => r vs H1 Q
theorem pe_callB (hc : CallR X (.builtin id) r) (hg : Gl X x) (hm : X.mg x = none) (hv : bootBuiltins x = some (.builtin id)) (ha : PA X (e :: es) t) (hn : x ≠ "__name__" := by decide) (hdb : (x == ("__debug__" : Str)) = false := by decide)
  (he : starEach (e :: es) X.env = (false, eval e X.env) :: starEach es X.env := by rfl) (hpl : (backTo pos (starEach es X.env)).any (·.1) = false := by rfl) : PE X (.Call (.Name x p) (e :: es) [] pos) (tCB r t) := by
 intro pins s σ H Q I h
 refine wpAny_Call_Name_kw (ld_blt I hg hm hv ?_ hn hdb)
 exact PyProof.Rows.callWith_builtin1 (thn (ha pos pins s σ H _ I h) fun us s1 ⟨vs, H1, I1, r1, q1⟩ => hc pins s1 σ H1 vs us Q I1 r1 q1) he hpl
theorem pe_callTy (hc : CallR X (.type T) r) (hg : Gl X x) (hm : X.mg x = none) (hv : bootBuiltins x = some (.type T)) (ha : PA X (e :: es) t) (hn : x ≠ "__name__" := by decide) (hdb : (x == ("__debug__" : Str)) = false := by decide)
  (he : starEach (e :: es) X.env = (false, eval e X.env) :: starEach es X.env := by rfl) (hpl : (backTo pos (starEach es X.env)).any (·.1) = false := by rfl) : PE X (.Call (.Name x p) (e :: es) [] pos) (tCB r t) := by
 intro pins s σ H Q I h
 refine wpAny_Call_Name_kw (ld_blt I hg hm hv ?_ hn hdb)
 exact PyProof.Rows.callWith_type1 (thn (ha pos pins s σ H _ I h) fun us s1 ⟨vs, H1, I1, r1, q1⟩ => hc pins s1 σ H1 vs us Q I1 r1 q1) he hpl
end
end L2
namespace HT
open PySem PyProof.Rows
section
open PySem.SeqAt
open PySem.AutoSeq1 (wpAny_loadPart')
open PySem.MeetsSeq PySem.MeetsSeq2 PySem.MeetsSeq3
end
section
variable {prog : Program} {w : World} {A : Around} {E : Value -> Shared -> Prop} {s : Shared}
def sIx (n d : Nat) : Option Int -> Nat
 | none => d
 | some v => if v < 0 then (v + (n : Int)).toNat else min v.toNat n
theorem sIx_none (n d : Nat) : sIx n d none = d := rfl
theorem sIx_nat (n d k : Nat) : sIx n d (some (k : Int)) = min k n := by
 show (if (k : Int) < 0 then ((k : Int) + (n : Int)).toNat else min (k : Int).toNat n) = min k n
 rw [if_neg (by omega), Int.toNat_natCast]
theorem sIx_le (n d : Nat) (hd : d <= n) (o : Option Int) : sIx n d o <= n := by
 cases o with
 | none => exact hd
 | some v =>
  show (if v < 0 then (v + (n : Int)).toNat else min v.toNat n) <= n
  by_cases hv : v < 0
  ·rw [if_pos hv]; omega
  ·rw [if_neg hv]; exact Nat.min_le_right _ _
theorem clip_eq (v : Int) (n d : Nat) : (if v < 0 then max (v + (n : Int)) 0 else min v (n : Int)) = ((sIx n d (some v) : Nat) : Int) := by
 show (if v < 0 then max (v + (n : Int)) 0 else min v (n : Int)) = (((if v < 0 then (v + (n : Int)).toNat else min v.toNat n) : Nat) : Int)
 by_cases hv : v < 0
 ·simp only [if_pos hv]; omega
 ·simp only [if_neg hv]; omega
theorem adjust_gen (lo hi : Option Int) (n : Nat) : Builtin.Slice.sliceAdjust lo hi 1 (n : Int) = (((sIx n 0 lo : Nat) : Int), ((sIx n n hi : Nat) : Int)) := by
 have h1 : ¬ ((1 : Int) < 0) := by omega
 unfold Builtin.Slice.sliceAdjust
 simp only [h1, if_false]
 refine Prod.ext ?_ ?_
 ·cases lo with
  | none => rfl
  | some v => exact clip_eq v n 0
 ·cases hi with
  | none => rfl
  | some v => exact clip_eq v n n
theorem places_gen (i j : Nat) : Builtin.Slice.slicePlaces (i : Int) (j : Int) 1 = j - i := by
 unfold Builtin.Slice.slicePlaces
 have h1 : (1 : Int) > 0 := by omega
 simp only [h1, if_true, Int.ediv_one]
 split <;> omega
theorem slicePart_ {v : Value} {o : Option Int} {Q : Option Int -> Shared -> Prop} (p : IsPart v o) (h : Q o s) : wpAny (model prog w) A (Builtin.Slice.slicePartIndex v) Q E s := by
 cases p with
 | none => exact slicePart_none h
 | int i t => exact slicePart_int h
theorem sliceApplied_gen {sl : Addr} {vl vu : Value} {lo hi : Option Int} {n : Nat} {Q : Int × Int × Nat -> Shared -> Prop} (hs : s.heap.IsSliceOf sl vl vu .none) (pl : IsPart vl lo) (pu : IsPart vu hi)
  (h : Q (((sIx n 0 lo : Nat) : Int), 1, sIx n n hi - sIx n 0 lo) s) : wpAny (model prog w) A (Builtin.Slice.sliceApplied (.ref sl) (pure (n : Int))) Q E s := by
 obtain ⟨os, hos, hcs, hds⟩ := id hs
 unfold Builtin.Slice.sliceApplied Builtin.Slice.sliceFields
 refine wpAny_bind (wpAny_bind (wpAny_field hos hds (x := vl) rfl (wpAny_bind (wpAny_field hos hds (x := vu) rfl (wpAny_bind (wpAny_field hos hds (x := .none) rfl (wpAny_pure ?_)))))))
 refine wpAny_bind (slicePart_none ?_)
 show wpAny _ _ (if ((1 : Int) == 0) = true then _ else _) _ _ s
 rw [if_neg (by decide)]
 refine wpAny_bind (slicePart_ pl (wpAny_bind (slicePart_ pu (wpAny_bind (wpAny_pure ?_)))))
 show wpAny _ _ (match Builtin.Slice.sliceAdjust lo hi 1 (n : Int) with | (lo, hi) => pure (lo, (1 : Int), Builtin.Slice.slicePlaces lo hi 1)) _ _ s
 rw [adjust_gen lo hi n]
 show wpAny _ _ (pure (((sIx n 0 lo : Nat) : Int), (1 : Int), Builtin.Slice.slicePlaces ((sIx n 0 lo : Nat) : Int) ((sIx n n hi : Nat) : Int) 1)) _ _ s
 rw [places_gen]
 exact wpAny_pure h
theorem pick_gen (xs : Array Value) (i k : Nat) : ((List.range k).filterMap fun (m : Nat) => xs[((i : Int) + (m : Int) * 1).toNat]?).toArray = ((xs.toList.drop i).take k).toArray := by
 have e : (fun (m : Nat) => xs[((i : Int) + (m : Int) * 1).toNat]?) = fun m => xs[i + m]? := by
  funext m
  have : ((i : Int) + (m : Int) * 1).toNat = i + m := by omega
  rw [this]
 rw [e]
 have := pick_run xs i k
 rw [List.filterMap_map] at this
 have e2 : ((fun x => xs[x]?) ∘ fun x => i + x) = fun m => xs[i + m]? := rfl
 rw [e2] at this
 rw [this]
theorem getItem_tuple_cut {t sl : Addr} {items : Array Value} {vl vu : Value} {lo hi : Option Int} {Q : Value -> Shared -> Prop} (ht : IsTup s.heap t items) (hs : s.heap.IsSliceOf sl vl vu .none) (pl : IsPart vl lo) (pu : IsPart vu hi)
  (hw : ¬ (sIx items.size 0 lo = 0 /\ sIx items.size items.size hi = items.size))
  (h : Q (.ref s.heap.objs.size) { s with heap := s.heap.push { cls := .type "tuple", data := .seq ((items.toList.drop (sIx items.size 0 lo)).take (sIx items.size items.size hi - sIx items.size 0 lo)).toArray } })
  (hsz : items.size <= sizeLine) : wpAny (model prog w) A (getItem (.ref t) (.ref sl)) Q E s := by
 have htake : sizeOk (.seq ((items.toList.drop (sIx items.size 0 lo)).take (sIx items.size items.size hi - sIx items.size 0 lo)).toArray) := by
  show ((items.toList.drop (sIx items.size 0 lo)).take (sIx items.size items.size hi - sIx items.size 0 lo)).toArray.size <= sizeLine
  rw [List.size_toArray, List.length_take, List.length_drop, Array.length_toList]
  omega
 have hj : sIx items.size items.size hi <= items.size := sIx_le _ _ (Nat.le_refl _) hi
 obtain ⟨os, hos, hcs, hds⟩ := id hs
 have hTs : s.TypeIs (.ref sl) "slice" := ⟨os, hos, hcs⟩
 unfold getItem
 try with_reducible refine wpAny_holding ?_
 first | refine wpAny_bind (wpAny_pure ?_) | skip
 refine wpAny_bind (wpAny_sequenceKey ht.typeIs (by decide) ?_)
 refine wpAny_bind (wpAny_callSpecial?_slot (name := Str.ofString "__getitem__") ht.typeIs PyProof.Rows.slot_tuple_getitem
  (wpAny_call_entry PyProof.Rows.slot_tuple_getitem ht.typeIs entry_tuple_getitem ?_ (args_tuple_getitem _ _)))
 show wpAny _ _ (Builtin.Tuple.tupleItemsOf (.ref t) >>= _) _ _ s
 refine wpAny_bind (tupleItemsOf_ ht ?_)
 refine wpAny_bind (wpAny_typeOf hTs ?_)
 rw [if_pos (by decide)]
 refine wpAny_bind (sliceApplied_gen hs pl pu ?_)
 have hno : ¬ ((((sIx items.size 0 lo : Nat) : Int) == 0 && (1 : Int) == 1 && (sIx items.size items.size hi - sIx items.size 0 lo) == items.size) = true) := by
  intro q
  rw [Bool.and_eq_true, Bool.and_eq_true] at q
  have q1 : ((sIx items.size 0 lo : Nat) : Int) = 0 := eq_of_beq q.1.1
  have q2 : sIx items.size items.size hi - sIx items.size 0 lo = items.size := eq_of_beq q.2
  exact hw ⟨by omega, by omega⟩
 show wpAny _ _ (if (((sIx items.size 0 lo : Nat) : Int) == 0 && (1 : Int) == 1 && (sIx items.size items.size hi - sIx items.size 0 lo) == items.size) = true then _ else _) _ _ s
 rw [if_neg hno, pick_gen]
 first
  | exact wpAny_bind (m := Builtin.Tuple.tupleExact _) (wpAny_newObj_type (wpAny_pure ⟨_, rfl, wpAny_pure h⟩) htake)
  | exact wpAny_bind (m := Builtin.Tuple.tupleExact _) (wpAny_newObj_type (wpAny_bind (wpAny_pure (wpAny_pure ⟨_, rfl, wpAny_pure h⟩))) htake)
  | exact wpAny_bind (wpAny_bind (m := Builtin.Tuple.tupleExact _) (wpAny_newObj_type (wpAny_pure (wpAny_pure ⟨_, rfl, wpAny_pure h⟩)) htake))
  | exact wpAny_bind (wpAny_bind (m := Builtin.Tuple.tupleExact _) (wpAny_newObj_type (wpAny_pure ⟨_, rfl, wpAny_pure h⟩) htake))
end
end HT
namespace L2
open PySem PySem.Spec PyProof.Rows
abbrev TO := St -> Hp -> (Option Int -> Hp -> Prop) -> Prop
def PO (X : Cx) (e : Option Expr) (t : TO) : Prop :=
 ∀ (pins : List (Addr × Obj)) (s : Shared) (σ : St) (H : Hp) (Q : Option Int -> Hp -> Prop), Inv X pins σ H s -> t σ H Q ->
  wpAny (model X.prog X.w) X.A (evalPart e X.env) (fun u s' => ∃ o H', Inv X pins σ H' s' /\ IsPart u o /\ Q o H') X.xe s
def tNoPart : TO := fun _ H Q => Q none H
def tPart (t : TE) : TO := fun σ H Q => t σ H fun x H1 => ∃ i, x = .int i /\ Q (some i) H1
section
variable {X : Cx} {e : Expr} {te : TE} {lo hi : Option Expr} {tl th : TO} {pos p2 : Pos}
theorem po_none : PO X none tNoPart := by
 intro pins s σ H Q I h
 rw [evalPart_none]
 exact wpAny_pure ⟨none, H, I, .none, h⟩
theorem po_some (h : PE X e te) : PO X (some e) (tPart te) := by
 intro pins s σ H Q I hw
 rw [evalPart_some]
 refine thn (h pins s σ H _ I hw) fun u s1 ⟨x, H1, I1, r1, q1⟩ => ?_
 obtain ⟨i, rfl, q⟩ := q1
 obtain ⟨t, rfl⟩ := r1
 exact ⟨some i, H1, I1, .int i t, q⟩
def SlR (X : Cx) (r : V -> Option Int -> Option Int -> Hp -> VK -> Prop) : Prop :=
 ∀ (pins : List (Addr × Obj)) (s : Shared) (σ : St) (H : Hp) (x : V) (v vl vu : Value) (lo hi : Option Int) (sl : Addr) (Q : VK), Inv X pins σ H s -> RelV x v -> s.heap.IsSliceOf sl vl vu .none -> IsPart vl lo -> IsPart vu hi -> r x lo hi H Q ->
  ∃ T id, typeLookup (.type T) "__getitem__" = pure (some (.builtin id)) /\ s.TypeIs v T /\ wpAny (model X.prog X.w) X.A (getItem v (.ref sl)) (EP X pins σ Q) X.xe s
def tSl (r : V -> Option Int -> Option Int -> Hp -> VK -> Prop) (te : TE) (tl th : TO) : TE := fun σ H Q => te σ H fun x H1 => tl σ H1 fun l H2 => th σ H2 fun u H3 => r x l u H3 Q
theorem pe_slice {r : V -> Option Int -> Option Int -> Hp -> VK -> Prop} (hr : SlR X r) (he : PE X e te) (hl : PO X lo tl) (hu : PO X hi th) : PE X (.Subscript e (.Slice lo hi none p2) pos) (tSl r te tl th) := by
 intro pins s σ H Q I h
 refine Subscript_ (thn (he pins s σ H _ I h) fun v s1 ⟨x, H1, I1, r1, q1⟩ => ?_)
 refine wpAny_Slice (thn (hl pins s1 σ H1 _ I1 q1) fun vl s2 ⟨l, H2, I2, pl, q2⟩ => thn (hu pins s2 σ H2 _ I2 q2) fun vu s3 ⟨u, H3, I3, pu, q3⟩ => ?_)
 rw [evalPart_none]
 refine wpAny_pure ?_
 have I4 : Inv X pins σ H3 { s3 with heap := s3.heap.push { cls := .type "slice", data := .fields #[vl, vu, .none] } } := I3.kept (t' := s3.toks) fun b ob q => Heap.get?_push_of_some _ q
 obtain ⟨T, id, hT, ht, hg⟩ := hr pins { s3 with heap := s3.heap.push { cls := .type "slice", data := .fields #[vl, vu, .none] } } σ H3 x v vl vu l u s3.heap.objs.size Q I4 r1 (Heap.IsSliceOf.new ..) pl pu q3
 show wpAny (model X.prog X.w) X.A (subscriptTail e (.Slice lo hi none p2) v (.ref s3.heap.objs.size)) (EP X pins σ Q) X.xe { s3 with heap := s3.heap.push { cls := .type "slice", data := .fields #[vl, vu, .none] } }
 exact tail_any (ops := [.ref s3.heap.objs.size, v]) ht hT hg (by with_unfolding_all rfl)
def cutV (xs : List V) (lo hi : Option Int) : List V := (xs.drop (HT.sIx xs.length 0 lo)).take (HT.sIx xs.length xs.length hi - HT.sIx xs.length 0 lo)
theorem cutV_length (xs : List V) (lo hi : Option Int) : (cutV xs lo hi).length <= xs.length := by
 unfold cutV
 rw [List.length_take, List.length_drop]
 omega
def rSlT (K : PySem.W.Frag) : V -> Option Int -> Option Int -> Hp -> VK -> Prop := fun x lo hi H Q => ∃ a xs, x = .ref a /\ SqT K H a xs /\
 ¬ (HT.sIx xs.length 0 lo = 0 /\ HT.sIx xs.length xs.length hi = xs.length) /\ ∀ p, H p = none -> Q (.ref p) (upd H p (.tup (cutV xs lo hi)))
theorem sl_tup : SlR X (rSlT X.K) := by
 intro pins s σ H x v vl vu lo hi sl Q I rx hs pl pu h
 obtain ⟨a, xs, rfl, hx, hw, q⟩ := h
 cases rx
 obtain ⟨its, r, ht, hz⟩ := I.tuple hx
 have hlen : its.toArray.size = xs.length := by rw [List.size_toArray]; exact r.length.symm
 refine ⟨"tuple", _, PyProof.Rows.slot_tuple_getitem.lookup, ht.typeIs, ?_⟩
 refine HT.getItem_tuple_cut ht hs pl pu (by rw [hlen]; exact hw) ?_ (by rw [hlen]; exact hz)
 rw [hlen]
 refine ⟨.ref s.heap.objs.size, _, I.laid (t' := s.toks) (o := .tup (cutV xs lo hi)) (fun b ob q => Heap.get?_push_of_some _ q) (Nat.le_refl _) ?_, rfl, q _ (I.hok.fresh (Nat.le_refl _))⟩
 exact ⟨Nat.le_trans (cutV_length xs lo hi) hz, _, (r.drop (HT.sIx xs.length 0 lo)).take (HT.sIx xs.length xs.length hi - HT.sIx xs.length 0 lo), IsTup.new _ _⟩
end
end L2
namespace L2
open PySem PySem.Spec PyProof.Rows
def ixN (n : Nat) (i : Int) : Option Nat := if 0 <= i then (if i < n then some i.toNat else none) else if -(n : Int) <= i then some (i + n).toNat else none
def atI {α : Type} (xs : List α) (i : Int) : Option α := (ixN xs.length i).bind fun j => xs[j]?
theorem ixN_seq {n : Nat} {i : Int} {j : Nat} (h : ixN n i = some j) : seqIndex? i n = some j /\ j < n /\ -(n : Int) <= i /\ i < n := by
 unfold ixN at h
 by_cases h0 : 0 <= i
 ·rw [if_pos h0] at h
  by_cases h1 : i < n
  ·rw [if_pos h1] at h
   have e : i.toNat = j := Option.some.inj h
   exact ⟨by rw [seqIndex_of h0 h1, e], by omega, by omega, h1⟩
  ·rw [if_neg h1] at h; cases h
 ·rw [if_neg h0] at h
  by_cases h1 : -(n : Int) <= i
  ·rw [if_pos h1] at h
   have e : (i + n).toNat = j := Option.some.inj h
   exact ⟨by rw [seqIndex_neg (by omega) h1, e], by omega, h1, by omega⟩
  ·rw [if_neg h1] at h; cases h
theorem atI_get {α : Type} {xs : List α} {i : Int} {v : α} (h : atI xs i = some v) : ∃ j, seqIndex? i xs.length = some j /\ xs[j]? = some v /\ j < xs.length /\ -(xs.length : Int) <= i /\ i < xs.length := by
 unfold atI at h
 cases e : ixN xs.length i with
 | none => rw [e] at h; cases h
 | some j =>
  rw [e] at h
  obtain ⟨h1, h2, h3, h4⟩ := ixN_seq e
  exact ⟨j, h1, h, h2, h3, h4⟩
theorem atI_nat {α : Type} {xs : List α} {j : Nat} {v : α} (h : xs[j]? = some v) : atI xs (j : Int) = some v := by
 have hj : j < xs.length := (List.getElem?_eq_some_iff.mp h).1
 have e : ixN xs.length (j : Int) = some j := by
  unfold ixN
  rw [if_pos (by omega), if_pos (by omega)]; simp
 unfold atI; rw [e]; exact h
def PlainIx (b : Expr) : Prop := ∀ o i, subscripted b false o i = operate [o, i] (getItem o i)
def IxR (X : Cx) (r : R2) : Prop :=
 ∀ (value slice : Expr) (pins : List (Addr × Obj)) (s : Shared) (σ : St) (H : Hp) (x y : V) (v u : Value) (Q : VK), Inv X pins σ H s -> RelV x v -> RelV y u -> r x y H Q ->
  subscripted slice false v u = operate [v, u] (getItem v u) -> wpAny (model X.prog X.w) X.A (subscriptTail value slice v u) (EP X pins σ Q) X.xe s
def MtR (X : Cx) (id : String) (r : V -> List V -> Hp -> VK -> Prop) : Prop :=
 ∀ (pins : List (Addr × Obj)) (s : Shared) (σ : St) (H : Hp) (x : V) (xs : List V) (v : Value) (us : List Value) (Q : VK), Inv X pins σ H s -> RelV x v -> Vals xs us -> r x xs H Q ->
  wpAny (model X.prog X.w) X.A (call (.builtin id) (v :: us)) (EP X pins σ Q) X.xe s
section
variable {X : Cx} {a b : Expr} {ta tb : TE} {pos : Pos}
theorem pe_ix {r : R2} (hr : IxR X r) (ha : PE X a ta) (hb : PE X b tb) (hs : PlainIx b) : PE X (.Subscript a b pos) (tOp r ta tb) := by
 intro pins s σ H Q I h
 exact Subscript_ (binT ha hb I h fun v u s2 x y H2 I2 rx ry q => hr a b pins s2 σ H2 x y v u Q I2 rx ry q (hs _ _))
def rIxL (K : PySem.W.Frag) : R2 := fun x y H Q => ∃ p xs i v, x = .ref p /\ y = .int i /\ SqL K H p xs /\ atI xs i = some v /\ Q v H
def rIxT (K : PySem.W.Frag) : R2 := fun x y H Q => ∃ p xs i v, x = .ref p /\ y = .int i /\ SqT K H p xs /\ atI xs i = some v /\ Q v H
def rIxS : R2 := fun x y H Q => ∃ z i c, x = .str z /\ y = .int i /\ z.length <= sizeLine /\ atI z.cps.toList i = some c /\ Q (.str ⟨#[c]⟩) H
theorem ix_list : IxR X (rIxL X.K) := by
 intro value slice pins s σ H x y v u Q I rx ry h hs
 obtain ⟨p, xs, i, z, rfl, rfl, hq, he, q⟩ := h
 cases rx
 obtain ⟨t, rfl⟩ := ry
 obtain ⟨its, r, pl, hz⟩ := I.list hq
 obtain ⟨j, h1, h2, h3, h4, h5⟩ := atI_get he
 obtain ⟨w, ew, rw'⟩ := r.get h2
 have hl := r.length
 have hn := line63
 have fin : EP X pins σ Q w s := ⟨z, H, I, rw', q⟩
 by_cases h0 : 0 <= i
 ·have hj : i.toNat = j := by
   rw [seqIndex_of h0 h5] at h1
   exact Option.some.inj h1
  exact item_listR pl.isList h0 (by omega) (by rw [hj]; simpa using ew) fin hs
 ·have hj : (i + (its.toArray.size : Int)).toNat = j := by
   rw [seqIndex_neg (by omega) h4] at h1
   rw [List.size_toArray, <- hl]
   exact Option.some.inj h1
  exact subscriptTail_builtinR (x := w) pl.isList.typeIs slot_list_getitem.lookup
   (wpAny_getItem_list_neg (Q := fun r s' => r = w /\ EP X pins σ Q r s') pl.isList (by omega) (by rw [List.size_toArray] <;> omega) (by omega) (by rw [hj]; simpa using ew) ⟨rfl, fin⟩) hs
theorem ix_tup : IxR X (rIxT X.K) := by
 intro value slice pins s σ H x y v u Q I rx ry h hs
 obtain ⟨p, xs, i, z, rfl, rfl, hq, he, q⟩ := h
 cases rx
 obtain ⟨t, rfl⟩ := ry
 obtain ⟨its, r, pl, hz⟩ := I.tuple hq
 obtain ⟨j, h1, h2, h3, h4, h5⟩ := atI_get he
 obtain ⟨w, ew, rw'⟩ := r.get h2
 have hl := r.length
 have hn := line63
 have fin : EP X pins σ Q w s := ⟨z, H, I, rw', q⟩
 exact subscriptTail_builtinR (x := w) pl.typeIs slot_tuple_getitem.lookup
  (getItem_tuple (j := j) (Q := fun r s' => r = w /\ EP X pins σ Q r s') pl (by omega) (by omega) (by rw [List.size_toArray, <- hl]; exact h1) (by simpa using ew) ⟨rfl, fin⟩) hs
theorem ix_str : IxR X rIxS := by
 intro value slice pins s σ H x y v u Q I rx ry h hs
 obtain ⟨z, i, c, rfl, rfl, hz, he, q⟩ := h
 obtain ⟨t, rfl⟩ := rx
 obtain ⟨t', rfl⟩ := ry
 obtain ⟨j, h1, h2, h3, h4, h5⟩ := atI_get he
 have hl : z.cps.toList.length = z.length := by simp [Str.length]
 rw [hl] at h1 h4 h5
 have hn := line63
 exact tail_any (typeIs_str s z t) slot_str_getitem.lookup (getItem_str (c := c) (by
  have e1 : decide (i < -(2 ^ 63 : Int)) = false := decide_eq_false (by omega)
  have e2 : decide (i >= 2 ^ 63) = false := decide_eq_false (by omega)
  rw [e1, e2, Bool.or_false]) (by rw [h1]; simpa using h2) ⟨.str ⟨#[c]⟩, H, I.tok _, ⟨_, rfl⟩, q⟩) hs
theorem mapSeq_set (its : List Value) (n j : Nat) (u : Value) : Obj.mapSeq (·.setIfInBounds j u) { cls := .type "list", data := .seq its.toArray n } = { cls := .type "list", data := .seq (its.set j u).toArray n } := by
 simp [Obj.mapSeq]
theorem Inv.lst {pins : List (Addr × Obj)} {σ : St} {H : Hp} {s : Shared} {p : Addr} {xs : List V} (I : Inv X pins σ H s) (h : H p = some (.lst xs)) :
  ∃ (its : List Value) (n : Nat), Vals xs its /\ s.heap.get? p = some { cls := .type "list", data := .seq its.toArray n } /\ xs.length <= sizeLine := by
 obtain ⟨z, its, n, r, e⟩ := I.hok p _ h
 exact ⟨its, n, r, e, z⟩
theorem Inv.lstUpd {pins : List (Addr × Obj)} {σ : St} {H : Hp} {s : Shared} {p : Addr} {xs ys : List V} {its its' : List Value} {n n' : Nat} {f : Obj -> Obj} (I : Inv X pins σ H s) (h : H p = some (.lst xs))
  (ho : s.heap.get? p = some { cls := .type "list", data := .seq its.toArray n }) (hf : f { cls := .type "list", data := .seq its.toArray n } = { cls := .type "list", data := .seq its'.toArray n' }) (r : Vals ys its') (hz : ys.length <= sizeLine) (t : Nat) :
  Inv X pins σ (upd H p (.lst ys)) { s with heap := s.heap.update p f, toks := t } := by
 have e : (s.heap.update p f).get? p = some { cls := .type "list", data := .seq its'.toArray n' } := by
  rw [Heap.get?_update_self f ho (by rw [hf] <;> rfl), hf]
 refine I.write (x := p) (e := p) (by rw [h]; trivial) (.inl rfl) (fun b u hb q => (Heap.get?_update_other _ _ (Ne.symm hb)).trans q) ⟨_, e⟩ ?_
 exact ⟨hz, its', n', r, e⟩
def rSetL : V -> V -> V -> Hp -> (Hp -> Prop) -> Prop := fun o i v H Q => ∃ p xs k j, o = .ref p /\ i = .int k /\ H p = some (.lst xs) /\ ixN xs.length k = some j /\ Q (upd H p (.lst (xs.set j v)))
theorem set_list : PSet X rSetL := by
 intro pins s σ H o i v ov iv u Q I ro ri rv h
 obtain ⟨p, xs, k, j, rfl, rfl, hp, hj, q⟩ := h
 cases ro
 obtain ⟨t, rfl⟩ := ri
 obtain ⟨its, n, r, ho, hz⟩ := I.lst hp
 obtain ⟨h1, h2, h3, h4⟩ := ixN_seq hj
 have hl := r.length
 have hn := line63
 have I' : Inv X pins σ (upd H p (.lst (xs.set j v))) { s with heap := s.heap.update p (Obj.mapSeq (·.setIfInBounds j u)) } :=
  I.lstUpd hp ho (mapSeq_set its n j u) (r.set rv j) (by rw [List.length_set]; exact hz) s.toks
 by_cases h0 : 0 <= k
 ·have hk : k.toNat = j := by
   rw [seqIndex_of h0 h4] at h1
   exact Option.some.inj h1
  exact PySem.W.ki_setAt ho h0 (by omega) (by rw [List.size_toArray, <- hl]; exact h4) (by rw [hk]; exact ⟨_, I', q⟩)
 ·have hk : (k + (its.toArray.size : Int)).toNat = j := by
   rw [seqIndex_neg (by omega) h3] at h1
   rw [List.size_toArray, <- hl]
   exact Option.some.inj h1
  exact PySem.W.ki_setBack ho (by omega) (by rw [List.size_toArray, <- hl]; exact h3) (by omega) (by rw [hk]; exact ⟨_, I', q⟩)
theorem slice_bounds (lo hi : Option Int) (n : Nat) : (sliceBounds lo hi none n).1 = ((HT.sIx n 0 lo : Nat) : Int) /\ (sliceBounds lo hi none n).2.1 = ((HT.sIx n n hi : Nat) : Int) /\ (sliceBounds lo hi none n).2.2 = 1 := by
 refine ⟨?_, ?_, rfl⟩
 ·cases lo with
  | none => simp [sliceBounds, HT.sIx]
  | some i =>
   simp only [sliceBounds, HT.sIx, Option.getD_none, show (1 : Int) > 0 by decide, if_true]
   by_cases h : i < 0
   ·simp only [h, if_true] <;> omega
   ·simp only [h, if_false] <;> omega
 ·cases hi with
  | none => simp [sliceBounds, HT.sIx]
  | some i =>
   simp only [sliceBounds, HT.sIx, Option.getD_none, show (1 : Int) > 0 by decide, if_true]
   by_cases h : i < 0
   ·simp only [h, if_true] <;> omega
   ·simp only [h, if_false] <;> omega
theorem slicePick_cut (its : List Value) (lo hi : Option Int) : slicePick its.toArray lo hi none = ((its.drop (HT.sIx its.length 0 lo)).take (HT.sIx its.length its.length hi - HT.sIx its.length 0 lo)).toArray := by
 obtain ⟨h1, h2, h3⟩ := slice_bounds lo hi its.toArray.size
 unfold slicePick
 rw [h1, h2, h3]
 simp only [sliceRange_one, pick_run, List.size_toArray] <;> rfl
def rSlL (K : PySem.W.Frag) : V -> Option Int -> Option Int -> Hp -> VK -> Prop := fun x lo hi H Q => ∃ a xs, x = .ref a /\ SqL K H a xs /\ ∀ p, H p = none -> Q (.ref p) (upd H p (.lst (cutV xs lo hi)))
theorem sl_list : SlR X (rSlL X.K) := by
 intro pins s σ H x v vl vu lo hi sl Q I rx hs pl pu h
 obtain ⟨a, xs, rfl, hx, q⟩ := h
 cases rx
 obtain ⟨its, r, ht, hz⟩ := I.list hx
 have hlen := r.length
 refine ⟨"list", _, slot_list_getitem.lookup, ht.isList.typeIs, ?_⟩
 refine wpAny_getItem_list_slice ht.isList hs pl pu .none (by simp) ?_ (by rw [List.size_toArray] <;> omega)
 rw [slicePick_cut, <- hlen]
 refine ⟨.ref s.heap.objs.size, _, I.laid (t' := s.toks) (o := .lst (cutV xs lo hi)) (fun b ob q => Heap.get?_push_of_some _ q) (Nat.le_refl _) ?_, rfl, q _ (I.hok.fresh (Nat.le_refl _))⟩
 exact ⟨Nat.le_trans (cutV_length xs lo hi) hz, _, 0, (r.drop (HT.sIx xs.length 0 lo)).take (HT.sIx xs.length xs.length hi - HT.sIx xs.length 0 lo), Heap.get?_push_size _ rfl⟩
def flatV : V -> Bool
 | .non => true
 | .bl _ => true
 | .int _ => true
 | .str _ => true
 | _ => false
def eqV : V -> V -> Bool
 | .non, .non => true
 | .bl a, .bl b => a == b
 | .bl a, .int b => (if a then 1 else 0) == b
 | .int a, .bl b => a == (if b then 1 else 0)
 | .int a, .int b => a == b
 | .str a, .str b => a == b
 | _, _ => false
theorem eqAt_V {A : Around} {s : Shared} {y x : V} {u v : Value} (ry : RelV y u) (rx : RelV x v) (fy : flatV y = true) (fx : flatV x = true) : SeqAt.EqAt A s u v (eqV y x) := by
 cases y with
 | non =>
  cases ry
  cases x with
  | non => cases rx; exact SeqAt.EqAt.same _
  | bl b => cases rx; exact SeqAt.EqAt.none_bool b
  | int b => obtain ⟨t, rfl⟩ := rx; exact SeqAt.EqAt.none_int b t
  | str b => obtain ⟨t, rfl⟩ := rx; exact SeqAt.EqAt.none_str b t
  | _ => exact absurd (show false = true from fx) Bool.false_ne_true
 | bl a =>
  cases ry
  cases x with
  | non => cases rx; exact SeqAt.EqAt.bool_none a
  | bl b => cases rx; exact SeqAt.EqAt.bool_bool a b
  | int b => obtain ⟨t, rfl⟩ := rx; exact SeqAt.EqAt.bool_int a b t
  | str b => obtain ⟨t, rfl⟩ := rx; exact SeqAt.EqAt.bool_str a b t
  | _ => exact absurd (show false = true from fx) Bool.false_ne_true
 | int a =>
  obtain ⟨t', rfl⟩ := ry
  cases x with
  | non => cases rx; exact SeqAt.EqAt.int_none a t'
  | bl b => cases rx; exact SeqAt.EqAt.int_bool a t' b
  | int b => obtain ⟨t, rfl⟩ := rx; exact SeqAt.EqAt.int_int a t' b t
  | str b => obtain ⟨t, rfl⟩ := rx; exact SeqAt.EqAt.int_str a t' b t
  | _ => exact absurd (show false = true from fx) Bool.false_ne_true
 | str a =>
  obtain ⟨t', rfl⟩ := ry
  cases x with
  | non => cases rx; exact SeqAt.EqAt.str_none a t'
  | bl b => cases rx; exact SeqAt.EqAt.str_bool a t' b
  | int b => obtain ⟨t, rfl⟩ := rx; exact SeqAt.EqAt.str_int a t' b t
  | str b => obtain ⟨t, rfl⟩ := rx; exact SeqAt.EqAt.str_str a t' b t
  | _ => exact absurd (show false = true from fx) Bool.false_ne_true
 | _ => exact absurd (show false = true from fy) Bool.false_ne_true
def eqU (x : V) (u : Value) : Bool := match u with
 | .none => eqV .non x
 | .bool b => eqV (.bl b) x
 | .int i _ => eqV (.int i) x
 | .str z _ => eqV (.str z) x
 | _ => false
theorem eqU_of {x y : V} {u : Value} (r : RelV y u) (f : flatV y = true) : eqU x u = eqV y x := by
 cases y with
 | non => cases r; rfl
 | bl b => cases r; rfl
 | int i => obtain ⟨t, rfl⟩ := r; rfl
 | str z => obtain ⟨t, rfl⟩ := r; rfl
 | _ => exact absurd (show false = true from f) Bool.false_ne_true
theorem any_eqU {x : V} : ∀ {xs : List V} {us : List Value}, Vals xs us -> xs.all flatV = true -> us.any (eqU x) = xs.any fun y => eqV y x
 | _, _, .nil, _ => rfl
 | y :: xs, u :: us, .cons r t, f => by
  rw [List.all_cons, Bool.and_eq_true] at f
  rw [List.any_cons, List.any_cons, eqU_of r f.1, any_eqU t f.2]
theorem mem_eqAt {A : Around} {s : Shared} {x : V} {v : Value} (rx : RelV x v) (fx : flatV x = true) : ∀ {xs : List V} {us : List Value}, Vals xs us -> xs.all flatV = true -> ∀ u ∈ us, SeqAt.EqAt A s u v (eqU x u)
 | _, _, .nil, _ => fun u hu => by cases hu
 | y :: xs, u :: us, .cons r t, f => fun u' hu => by
  rw [List.all_cons, Bool.and_eq_true] at f
  rcases List.mem_cons.mp hu with rfl | hu
  ·rw [eqU_of r f.1]; exact eqAt_V r rx f.1 fx
  ·exact mem_eqAt rx fx t f.2 u' hu
def inV (x : V) (xs : List V) : Bool := xs.any fun y => eqV y x
def rIn (K : PySem.W.Frag) (neg : Bool) : R2 := fun x y H Q => ∃ p xs, y = .ref p /\ (SqL K H p xs \/ SqT K H p xs) /\ flatV x = true /\ xs.all flatV = true /\ Q (.bl (if neg then !inV x xs else inV x xs)) H
theorem op_in_seq : OpR X (compareOp .In) (rIn X.K false) := by
 intro pins s σ H x y v u Q I rx ry h
 obtain ⟨p, xs, rfl, hq, fx, fs, q⟩ := h
 cases ry
 rcases hq with hq | hq
 ·obtain ⟨its, r, pl, hz⟩ := I.list hq
  refine SeqAt.in_listAt (eqU x) pl.isList (fun w hw => mem_eqAt rx fx r fs w (by simpa using hw)) ⟨.bl _, H, I, rfl, ?_⟩
  rw [show its.toArray.any (eqU x) = its.any (eqU x) by simp, any_eqU r fs]
  exact q
 ·obtain ⟨its, r, pl, hz⟩ := I.tuple hq
  refine SeqAt.in_tupleAt (eqU x) pl (fun w hw => mem_eqAt rx fx r fs w (by simpa using hw)) ⟨.bl _, H, I, rfl, ?_⟩
  rw [show its.toArray.any (eqU x) = its.any (eqU x) by simp, any_eqU r fs]
  exact q
theorem call_len_seq : CallR X (.builtin "len") (fun xs H Q => ∃ p ys, xs = [.ref p] /\ (SqL X.K H p ys \/ SqT X.K H p ys) /\ Q (.int ys.length) H) := by
 intro pins s σ H xs us Q I r h
 obtain ⟨p, ys, rfl, hq, q⟩ := h
 obtain ⟨u, rfl, rx⟩ := vals1 r
 cases rx
 have hn := line63
 rcases hq with hq | hq
 ·obtain ⟨its, r', pl, hz⟩ := I.list hq
  have hlen := r'.length
  exact Calls.call_len_list pl.isList (by simp only [List.size_toArray] <;> omega) ⟨.int ys.length, H, I.tok _, ⟨s.toks + 1, by rw [List.size_toArray, hlen]⟩, q⟩
 ·obtain ⟨its, r', pl, hz⟩ := I.tuple hq
  have hlen := r'.length
  exact len_tuple pl (by simp only [List.size_toArray] <;> omega) ⟨.int ys.length, H, I.tok _, ⟨s.toks + 1, by rw [List.size_toArray, hlen]⟩, q⟩
theorem call_list_of : CallR X (.type "list") (fun xs H Q => ∃ p ys, xs = [.ref p] /\ (SqL X.K H p ys \/ SqT X.K H p ys) /\ ∀ l, H l = none -> Q (.ref l) (upd H l (.lst ys))) := by
 intro pins s σ H xs us Q I r h
 obtain ⟨p, ys, rfl, hq, q⟩ := h
 obtain ⟨u, rfl, rx⟩ := vals1 r
 cases rx
 have fin : ∀ (its : List Value), Vals ys its -> ys.length <= sizeLine -> ∀ (h' : Heap) (c' : Nat), (∀ b o', s.heap.get? b = some o' -> h'.get? b = some o') ->
   h'.get? s.heap.objs.size = some { cls := .type "list", dict := none, data := .seq its.toArray c', slots := #[] } -> EP X pins σ Q (.ref s.heap.objs.size) { s with heap := h' } := fun its r' hz h' c' kp e =>
  ⟨.ref s.heap.objs.size, _, I.laid (t' := s.toks) kp (Nat.le_refl _) (show ObjOk X.prog X.w _ h' _ (.lst ys) from ⟨hz, its, c', r', e⟩), rfl, q _ (I.hok.fresh (Nat.le_refl _))⟩
 rcases hq with hq | hq
 ·obtain ⟨its, r', pl, hz⟩ := I.list hq
  have hlen := r'.length
  obtain ⟨o, ho, hc, n, hd⟩ := pl.isList
  exact call_list_seq p (.inl rfl) ho hc hd (fun h' c' kp e => fin its r' hz h' c' kp e) (by simp only [List.size_toArray] <;> omega)
 ·obtain ⟨its, r', pl, hz⟩ := I.tuple hq
  have hlen := r'.length
  obtain ⟨o, ho, hc, n, hd⟩ := pl
  exact call_list_seq p (.inr rfl) ho hc hd (fun h' c' kp e => fin its r' hz h' c' kp e) (by simp only [List.size_toArray] <;> omega)
theorem call_tuple_of : CallR X (.type "tuple") (fun xs H Q => ∃ p ys, xs = [.ref p] /\ ((SqL X.K H p ys /\ ∀ l, H l = none -> Q (.ref l) (upd H l (.tup ys))) \/ (SqT X.K H p ys /\ Q (.ref p) H))) := by
 intro pins s σ H xs us Q I r h
 obtain ⟨p, ys, rfl, h⟩ := h
 obtain ⟨u, rfl, rx⟩ := vals1 r
 cases rx
 rcases h with ⟨hq, q⟩ | ⟨hq, q⟩
 ·obtain ⟨its, r', pl, hz⟩ := I.list hq
  have hlen := r'.length
  refine call_tuple_list pl.isList (fun h' kp => ?_) (by simp only [List.size_toArray] <;> omega)
  have I1 : Inv X pins σ H { s with heap := h' } := I.kept (t' := s.toks) kp
  have I2 : Inv X pins σ (upd H h'.objs.size (.tup ys)) { s with heap := h'.push { cls := .type "tuple", data := .seq its.toArray } } :=
   I1.laid (t' := s.toks) (fun b o e => Heap.get?_push_of_some _ e) (Nat.le_refl _) (show ObjOk X.prog X.w _ _ _ (.tup ys) from ⟨hz, its, r', IsTup.new _ _⟩)
  exact ⟨.ref h'.objs.size, _, I2, rfl, q _ (I1.hok.fresh (Nat.le_refl _))⟩
 ·obtain ⟨its, r', pl, hz⟩ := I.tuple hq
  exact call_tuple_same pl ⟨.ref p, H, I, rfl, q⟩
def tyV (K : PySem.W.Frag) (T : String) (x : V) (H : Hp) : Prop := match x with
 | .str _ => T = "str"
 | .int _ => T = "int"
 | .ref p => (T = "list" /\ ∃ xs, SqL K H p xs) \/ (T = "tuple" /\ ∃ o, K.lookup p = some o /\ o.cls = .type "tuple" /\ o.dict = none) \/
   (T = "dict" /\ ((∃ kvs, H p = some (.dK kvs)) \/ ∃ kvs, H p = some (.dT kvs))) \/ (T = "set" /\ ∃ S n, H p = some (.set S n))
 | _ => False
theorem tyV_is {pins : List (Addr × Obj)} {σ : St} {H : Hp} {s : Shared} {T : String} {x : V} {v : Value} (I : Inv X pins σ H s) (r : RelV x v) (ty : tyV X.K T x H) :
  s.TypeIs v T /\ ∀ a, v = .ref a -> ∃ ob, s.heap.get? a = some ob /\ ob.dict = none := by
 cases x with
 | str z =>
  obtain ⟨t, rfl⟩ := r
  cases (show T = "str" from ty)
  exact ⟨typeIs_str s z t, fun _ e => nomatch e⟩
 | int i =>
  obtain ⟨t, rfl⟩ := r
  cases (show T = "int" from ty)
  exact ⟨typeIs_int s i t, fun _ e => nomatch e⟩
 | ref p =>
  cases r
  rcases ty with ⟨rfl, xs, hq⟩ | ⟨rfl, o, hk, hc, hd⟩ | ⟨rfl, hk⟩ | ⟨rfl, S, n, hk⟩
  ·obtain ⟨its, _, pl, _⟩ := I.list hq
   refine ⟨pl.isList.typeIs, fun a e => ?_⟩
   cases e
   obtain ⟨o, n, e, c, hd, _⟩ := pl
   exact ⟨o, e, hd⟩
  ·refine ⟨⟨o, I.kIn p o hk, hc⟩, fun a e => ?_⟩
   cases e
   exact ⟨o, I.kIn _ o hk, hd⟩
  ·have z : ∃ o, s.heap.get? p = some o /\ o.ExactDict := by
    rcases hk with ⟨kvs, hk⟩ | ⟨kvs, hk⟩
    ·obtain ⟨_, _, _, _, o, _, _, e, ex, _⟩ := I.hok p _ hk
     exact ⟨o, e, ex⟩
    ·obtain ⟨_, _, _, _, o, _, _, e, ex, _⟩ := I.hok p _ hk
     exact ⟨o, e, ex⟩
   obtain ⟨o, e, ex⟩ := z
   refine ⟨⟨o, e, ex.1⟩, fun a e2 => ?_⟩
   cases e2
   exact ⟨o, e, ex.2.1⟩
  ·obtain ⟨o, _, _, _, e, ex, _⟩ := I.hok p _ hk
   refine ⟨⟨o, e, ex.1⟩, fun a e2 => ?_⟩
   cases e2
   exact ⟨o, e, ex.2.1⟩
 | _ => exact False.elim ty
def tBM0 (K : PySem.W.Frag) (T : String) (r : V -> List V -> Hp -> VK -> Prop) (to : TE) : TE := fun σ H Q => to σ H fun x H1 => tyV K T x H1 /\ r x [] H1 Q
def tBM (K : PySem.W.Frag) (T : String) (r : V -> List V -> Hp -> VK -> Prop) (to : TE) (t : TA) : TE := fun σ H Q => to σ H fun x H1 => tyV K T x H1 /\ t σ H1 fun xs H2 => r x xs H2 Q
variable {o e : Expr} {es : List Expr} {to : TE} {t : TA} {name : Str} {apos cpos : Pos} {T id : String} {r : V -> List V -> Hp -> VK -> Prop}
theorem pe_bm0 (pa : PlainAttrs T) (slot : Slot T name id) (hty : typeOf (.builtin id) = pure (.type "method_descriptor")) (hm : MtR X id r) (ho : PE X o to)
  (hbase : attributeBase o name X.env (eval o X.env) = eval o X.env := by rfl) (hline : (apos.endLine == cpos.line) = true := by rfl) : PE X (.Call (.Attribute o name apos) [] [] cpos) (tBM0 X.K T r to) := by
 intro pins s σ H Q I h
 refine wpAny_Call_method0_late hbase hline (thn (ho pins s σ H _ I h) fun v s1 ⟨x, H1, I1, r1, ty, q1⟩ => ?_)
 obtain ⟨h1, h2⟩ := tyV_is I1 r1 ty
 exact ⟨T, id, pa, slot, hty, h1, h2, Calls.callWith_builtin rfl (PySem.evalArgs_none (hm pins s1 σ H1 x [] v [] Q I1 r1 .nil q1))⟩
theorem pe_bm (pa : PlainAttrs T) (slot : Slot T name id) (hty : typeOf (.builtin id) = pure (.type "method_descriptor")) (hm : MtR X id r) (ho : PE X o to) (ha : PA X (e :: es) t)
  (hbase : attributeBase o name X.env (eval o X.env) = eval o X.env := by rfl)
  (hfew : ((backTo cpos (starEach (e :: es) X.env)).all (fun x => !x.1) && (backToKw cpos (keywordEach [] X.env)).all (fun x => x.1.isSome)
   && decide ((e :: es).length + ([] : List Keyword).length + (if ([] : List Keyword).isEmpty then 0 else 1) < 30)) = true := by rfl)
  (hline : (apos.endLine == cpos.line) = true := by rfl) (hs : starEach (e :: es) X.env = (false, eval e X.env) :: starEach es X.env := by rfl) (hplain : (backTo cpos (starEach es X.env)).any (·.1) = false := by rfl) :
  PE X (.Call (.Attribute o name apos) (e :: es) [] cpos) (tBM X.K T r to t) := by
 intro pins s σ H Q I h
 refine wpAny_Call_method_late hbase hfew hline rfl (thn (ho pins s σ H _ I h) fun v s1 ⟨x, H1, I1, r1, ty, q1⟩ => ?_)
 obtain ⟨h1, h2⟩ := tyV_is I1 r1 ty
 refine ⟨T, id, pa, slot, hty, h1, h2, ?_⟩
 have hA := ha cpos pins s1 σ H1 _ I1 q1
 rw [hs] at hA ⊢
 refine Calls.callWith_builtin (by show (false || (backTo cpos (starEach es X.env)).any (·.1)) = false; rw [hplain] <;> rfl) (Calls.evalArgs_plain ?_)
 exact thn hA fun us s2 ⟨vs, H2, I2, r2, q2⟩ => hm pins s2 σ H2 x vs v us Q I2 r1 r2 q2
end
end L2
namespace L2
open PySem PySem.Spec PyProof.Rows
def MtM (X : Cx) (id : String) (r : V -> List V -> Hp -> VK -> Prop) : Prop :=
 ∀ (pins : List (Addr × Obj)) (s : Shared) (σ : St) (H : Hp) (x : V) (xs : List V) (v : Value) (us : List Value) (Q : VK), Inv X pins σ H s -> RelV x v -> Vals xs us -> r x xs H Q ->
  wpAny (model X.prog X.w) X.A (call (.builtin id) (v :: us)) (EP X pins σ Q) X.xe s
theorem Vals.one : ∀ {x : V} {us : List Value}, Vals [x] us -> ∃ u, us = [u] /\ RelV x u
 | _, _, .cons r .nil => ⟨_, rfl, r⟩
theorem Vals.zero : ∀ {us : List Value}, Vals [] us -> us = []
 | _, .nil => rfl
theorem Vals.dropLast {xs : List V} {us : List Value} (h : Vals xs us) : Vals xs.dropLast us.dropLast := by
 induction h with
 | nil => exact .nil
 | cons r t ih =>
  cases t with
  | nil => exact .nil
  | cons q t' => exact .cons r ih
theorem Vals.rep {xs : List V} {us : List Value} (h : Vals xs us) : ∀ k : Nat, Vals (List.replicate k xs).flatten (List.replicate k us).flatten
 | 0 => .nil
 | k + 1 => by
  rw [List.replicate_succ, List.replicate_succ, List.flatten_cons, List.flatten_cons]
  exact Vals.append h (Vals.rep h k)
theorem erase_last {α : Type} (l : List α) : l.eraseIdx (l.length - 1) = l.dropLast := by
 induction l with
 | nil => rfl
 | cons a r ih =>
  cases r with
  | nil => rfl
  | cons b r =>
   have e : (a :: b :: r).length - 1 = ((b :: r).length - 1) + 1 := by
    have h1 : (a :: b :: r).length = r.length + 2 := rfl
    have h2 : (b :: r).length = r.length + 1 := rfl
    omega
   rw [e, List.eraseIdx_cons_succ, ih]
   all_goals rfl
theorem foldl_rep (its : List Value) : ∀ (k : Nat) (acc : List Value),
  List.foldl (fun x1 x2 => x1 ++ x2) acc.toArray (List.replicate k its.toArray) = (acc ++ (List.replicate k its).flatten).toArray
 | 0, acc => by simp
 | k + 1, acc => by
  have e : acc.toArray ++ its.toArray = (acc ++ its).toArray := by simp
  have e2 : (acc ++ its) ++ (List.replicate k its).flatten = acc ++ (List.replicate (k + 1) its).flatten := by
   rw [List.replicate_succ, List.flatten_cons, List.append_assoc]
  rw [<- e2, <- foldl_rep its k (acc ++ its), <- e, List.replicate_succ, List.foldl_cons]
section
variable {X : Cx} {pins : List (Addr × Obj)} {σ : St} {H : Hp} {s : Shared} {l b : Addr} {xs ys zs : List V}
theorem Inv.lset {its its' : List Value} {n : Nat} {f : Array Value -> Array Value} {t' : Nat} (I : Inv X pins σ H s) (hH : H l = some (.lst xs))
  (e : s.heap.get? l = some { cls := .type "list", data := .seq its.toArray n }) (hf : f its.toArray = its'.toArray) (hv : Vals ys its') (hz : ys.length <= sizeLine) :
  Inv X pins σ (upd H l (.lst ys)) { s with heap := s.heap.update l (Obj.mapSeq f), toks := t' } := by
 have q := PySem.IsL.update e f
 rw [hf] at q
 refine I.write (x := l) (e := l) (by rw [hH]; exact trivial) (.inl rfl) (fun b' u hb hu => (Heap.get?_update_other s.heap (Obj.mapSeq f) (Ne.symm hb)).trans hu) ⟨_, q⟩ ?_
 exact ⟨hz, its', _, hv, q⟩
theorem Inv.lnew {its : List Value} {t' : Nat} (I : Inv X pins σ H s) (hv : Vals ys its) (hz : ys.length <= sizeLine) :
  Inv X pins σ (upd H s.heap.objs.size (.lst ys)) { s with heap := s.heap.push { cls := .type "list", data := .seq its.toArray }, toks := t' } :=
 I.laid (fun _ _ q => Heap.get?_push_of_some _ q) (Nat.le_refl _) ⟨hz, its, 0, hv, Heap.get?_push_size _ rfl⟩
theorem Inv.fresh (I : Inv X pins σ H s) : H s.heap.objs.size = none := I.hok.fresh (Nat.le_refl _)
theorem Inv.lstM (I : Inv X pins σ H s) (hH : H l = some (.lst xs)) : xs.length <= sizeLine /\ ∃ (its : List Value) (n : Nat), Vals xs its /\ xs.length = its.length /\ s.heap.get? l = some { cls := .type "list", data := .seq its.toArray n } := by
 obtain ⟨z, its, n, r, e⟩ := I.hok l _ hH
 exact ⟨z, its, n, r, r.length, e⟩
theorem notLongL {n : Nat} (h : n <= sizeLine) : Builtin.List.listTooLong n = false := by
 unfold Builtin.List.listTooLong
 exact decide_eq_false (by omega)
end
section
variable {X : Cx}
def rAppend : V -> List V -> Hp -> VK -> Prop := fun x vs H Q => ∃ l xs y, x = .ref l /\ vs = [y] /\ H l = some (.lst xs) /\ xs.length < sizeLine /\ Q .non (upd H l (.lst (xs ++ [y])))
theorem mt_append : MtM X "list.append" rAppend := by
 intro pins s σ H x vs v us Q I rx rv h
 obtain ⟨l, xs, y, rfl, rfl, hH, hz, q⟩ := h
 cases rx
 obtain ⟨u, rfl, ru⟩ := rv.one
 obtain ⟨z, its, n, r, hl, e⟩ := I.lstM hH
 refine call_meets F.slot_list_append ⟨_, e, rfl⟩ F.entry_list_append (F.args_list_append_2 _ _) (PySem.list_append l its.toArray n u (by rw [List.size_toArray]; omega)) ⟨e, ?_⟩
 refine ⟨.non, _, I.lset (its' := its ++ [u]) hH e (by simp) (r.append (.cons ru .nil)) ?_, rfl, q⟩
 rw [List.length_append, List.length_singleton]
 omega
def rExtend : V -> List V -> Hp -> VK -> Prop := fun x vs H Q => ∃ l b xs zs, x = .ref l /\ vs = [.ref b] /\ H l = some (.lst xs) /\ H b = some (.lst zs) /\ xs.length + zs.length <= sizeLine /\ Q .non (upd H l (.lst (xs ++ zs)))
theorem mt_extend : MtM X "list.extend" rExtend := by
 intro pins s σ H x vs v us Q I rx rv h
 obtain ⟨l, b, xs, zs, rfl, rfl, hH, hB, hz, q⟩ := h
 cases rx
 obtain ⟨u, rfl, ru⟩ := rv.one
 cases ru
 obtain ⟨z, its, n, r, hl, e⟩ := I.lstM hH
 obtain ⟨z2, its2, n2, r2, hl2, e2⟩ := I.lstM hB
 have hsz : its.toArray.size + its2.toArray.size <= sizeLine := by rw [List.size_toArray, List.size_toArray]; omega
 have hlong : ¬ (!its.toArray.isEmpty && Builtin.List.listTooLong (its.toArray.size + its2.toArray.size)) = true := by
  rw [notLongL hsz, Bool.and_false]
  exact Bool.false_ne_true
 refine call_meets F.slot_list_extend ⟨_, e, rfl⟩ F.entry_list_extend (F.args_list_extend_2 _ _)
  (AutoSeq1.list_extend_list_list_0 l its.toArray n b its2.toArray n2 hlong (by rw [List.size_toArray]; omega) (by omega)) ⟨e, e2, ?_⟩
 refine ⟨.non, _, I.lset (its' := its ++ its2) hH e (by simp) (r.append r2) ?_, rfl, q⟩
 rw [List.length_append]
 omega
def rPop : V -> List V -> Hp -> VK -> Prop := fun x vs H Q => ∃ l xs y, x = .ref l /\ vs = [] /\ H l = some (.lst xs) /\ xs[xs.length - 1]? = some y /\ Q y (upd H l (.lst xs.dropLast))
theorem mt_pop : MtM X "list.pop" rPop := by
 intro pins s σ H x vs v us Q I rx rv h
 obtain ⟨l, xs, y, rfl, rfl, hH, hy, q⟩ := h
 cases rx
 have hus := rv.zero
 subst hus
 obtain ⟨z, its, n, r, hl, e⟩ := I.lstM hH
 obtain ⟨u, hu, ru⟩ := r.get hy
 have hy' : its.toArray[its.toArray.size - 1]? = some u := by
  show its.toArray[its.length - 1]? = some u
  rw [<- Array.getElem?_toList, <- hl]
  exact hu
 refine call_meets F.slot_list_pop ⟨_, e, rfl⟩ F.entry_list_pop (F.args_list_pop_1 _) (MeetsSeq.list_pop_last l its.toArray n u hy' (by rw [List.size_toArray]; omega)) ⟨e, ?_⟩
 refine ⟨y, _, I.lset (its' := its.dropLast) hH e ?_ r.dropLast ?_, ru, q⟩
 ·show its.toArray.eraseIdxIfInBounds (its.toArray.size - 1) = its.dropLast.toArray
  rw [List.size_toArray, List.eraseIdxIfInBounds_toArray, erase_last]
 ·rw [List.length_dropLast]
  omega
def rRep : R2 := fun x y H Q => ∃ l k xs, x = .ref l /\ y = .int k /\ H l = some (.lst xs) /\ -(2 ^ 63) <= k /\ k < 2 ^ 63 /\ xs.length * k.toNat <= sizeLine /\
 ∀ p, H p = none -> Q (.ref p) (upd H p (.lst (List.replicate k.toNat xs).flatten))
theorem len_rep {α : Type} (xs : List α) (k : Nat) : (List.replicate k xs).flatten.length = k * xs.length := by
 induction k with
 | zero => simp
 | succ k ih => rw [List.replicate_succ, List.flatten_cons, List.length_append, ih, Nat.succ_mul, Nat.add_comm]
theorem op_rep : OpR X (binaryOp .Mult) rRep := by
 intro pins s σ H x y v u Q I rx ry h
 obtain ⟨l, k, xs, rfl, rfl, hH, h1, h2, hz, q⟩ := h
 cases rx
 obtain ⟨t, rfl⟩ := ry
 obtain ⟨z, its, n, r, hl, e⟩ := I.lstM hH
 have hlen : its.toArray.size * k.toNat <= sizeLine := by rw [List.size_toArray, <- hl]; exact hz
 have hcap : ¬ its.toArray.size * k.toNat > (2 ^ 63 - 1) / 8 := by
  have : (sizeLine : Nat) <= (2 ^ 63 - 1) / 8 := by decide
  omega
 have hfit : ¬ (!Builtin.List.listFitsIndex k) = true := by
  rw [fitsIndex_both h1 h2]
  exact Bool.false_ne_true
 have hlong : ¬ Builtin.List.listTooLong (its.toArray.size * k.toNat) = true := by
  rw [notLongL hlen]
  exact Bool.false_ne_true
 have hnew : List.foldl (fun x1 x2 => x1 ++ x2) #[] (List.replicate (if its.toArray.isEmpty = true then 0 else k.toNat) its.toArray) = (List.replicate k.toNat its).flatten.toArray := by
  have f0 : ∀ m : Nat, List.foldl (fun x1 x2 => x1 ++ x2) #[] (List.replicate m its.toArray) = (List.replicate m its).flatten.toArray := fun m => by
   have := foldl_rep its m []
   rw [List.nil_append] at this
   exact this
  rw [f0]
  cases its with
  | nil => simp
  | cons a r' => rw [if_neg (by simp)]
 refine wpAny_binaryOp_repeat_ref (T := "list") (U := "int") (by decide) ⟨_, e, rfl⟩ (fun s' => typeIs_int s' k t) noFill_list_mul F.fills_int_mul F.slot_int_rmul repeat_list F.slot_int_index.lookup
  (call_meets F.slot_int_rmul (typeIs_int s k t) F.entry_int_rmul (F.args_int_rmul_2 _ _) (int___rmul___int_list k t l its.toArray n)
   ⟨e, rfl, ⟨_, e, rfl⟩, call_meets F.slot_list_mul ⟨_, e, rfl⟩ F.entry_list_mul (F.args_list_mul_2 _ _) (AutoListH.list___mul___list_int_3 l its.toArray n k t hfit hcap hlong) ⟨e, ?_⟩⟩)
 rw [hnew]
 exact ⟨.ref _, _, I.lnew (t' := s.toks) (r.rep k.toNat) (by rw [len_rep, Nat.mul_comm]; exact hz), rfl, q _ I.fresh⟩
end
section
variable {prog : Program} {w : World} {A : Around} {E : Value -> Shared -> Prop} {s : Shared}
set_option maxRecDepth 100000 in
end
section
variable {X : Cx}
end
end L2
namespace L2
open PySem PySem.Spec PyProof.Rows
section
variable {κ : Type} [DecidableEq κ]
def valV (kvs : List (κ × V)) (k : κ) : Option V := (kvs.find? fun kv => decide (kv.1 = k)).map (·.2)
def putK (kvs : List (κ × V)) (k : κ) (v : V) : List (κ × V) :=
 if (kvs.any fun kv => decide (kv.1 = k)) = true then kvs.map (fun kv => if kv.1 = k then (kv.1, v) else kv) else kvs ++ [(k, v)]
theorem valV_pos {p : κ × V} {r : List (κ × V)} {k : κ} (e : p.1 = k) : valV (p :: r) k = some p.2 := by simp [valV, List.find?_cons, e]
theorem valV_neg {p : κ × V} {r : List (κ × V)} {k : κ} (e : ¬ p.1 = k) : valV (p :: r) k = valV r k := by simp [valV, List.find?_cons, e]
theorem valV_any (k : κ) : ∀ kvs : List (κ × V), (kvs.any fun kv => decide (kv.1 = k)) = (valV kvs k).isSome
 | [] => rfl
 | p :: r => by
  rw [List.any_cons]
  by_cases e : p.1 = k
  ·simp only [valV_pos e, decide_eq_true e, Bool.true_or, Option.isSome_some]
  ·rw [valV_neg e, decide_eq_false e, Bool.false_or]; exact valV_any k r
theorem valV_map (k j : κ) (y : V) : ∀ kvs : List (κ × V), valV (kvs.map fun kv => if kv.1 = k then (kv.1, y) else kv) j = (valV kvs j).map fun x => if j = k then y else x
 | [] => rfl
 | p :: r => by
  have ih := valV_map k j y r
  rw [List.map_cons]
  by_cases h : p.1 = k
  ·rw [if_pos h]
   by_cases e : p.1 = j
   ·rw [valV_pos (p := (p.1, y)) e, valV_pos e, Option.map_some, if_pos (e.symm.trans h)]
   ·rw [valV_neg (p := (p.1, y)) e, valV_neg e, ih]
  ·rw [if_neg h]
   by_cases e : p.1 = j
   ·rw [valV_pos (p := p) e, valV_pos e, Option.map_some, if_neg (fun z => h (e.trans z))]
   ·rw [valV_neg (p := p) e, valV_neg e, ih]
theorem valV_snoc (k j : κ) (y : V) : ∀ kvs : List (κ × V), valV kvs k = none -> valV (kvs ++ [(k, y)]) j = if j = k then some y else valV kvs j
 | [], _ => by
  by_cases e : k = j
  ·rw [if_pos e.symm]; exact valV_pos (p := (k, y)) e
  ·rw [if_neg (fun z => e z.symm)]; exact valV_neg (p := (k, y)) e
 | p :: r, hn => by
  rw [List.cons_append]
  have hk : ¬ p.1 = k := fun z => by rw [valV_pos z] at hn; cases hn
  rw [valV_neg hk] at hn
  have ih := valV_snoc k j y r hn
  by_cases e : p.1 = j
  ·rw [valV_pos e, valV_pos e, if_neg (fun z => hk (e.trans z))]
  ·rw [valV_neg e, valV_neg e, ih]
theorem valV_put (kvs : List (κ × V)) (k j : κ) (y : V) : valV (putK kvs k y) j = if j = k then some y else valV kvs j := by
 unfold putK
 by_cases a : (kvs.any fun kv => decide (kv.1 = k)) = true
 ·rw [if_pos a, valV_map]
  rw [valV_any] at a
  by_cases e : j = k
  ·obtain ⟨x, hx⟩ := Option.isSome_iff_exists.mp a
   rw [if_pos e, e, hx, Option.map_some, if_pos rfl]
  ·rw [if_neg e]
   cases valV kvs j with
   | none => rfl
   | some x => rw [Option.map_some, if_neg e]
 ·rw [if_neg a]
  refine valV_snoc k j y kvs ?_
  rw [valV_any] at a
  cases q : valV kvs k with
  | none => rfl
  | some x => rw [q] at a; exact (a rfl).elim
theorem length_putK (kvs : List (κ × V)) (k : κ) (v : V) : (putK kvs k v).length <= kvs.length + 1 := by
 unfold putK
 split
 ·rw [List.length_map]; omega
 ·rw [List.length_append, List.length_cons, List.length_nil]; omega
theorem RelO.isSome_eq {o : Option V} {u : Option Value} (r : RelO o u) : o.isSome = u.isSome := by
 cases o with
 | none => cases u with
  | none => rfl
  | some _ => exact (show False from r).elim
 | some _ => cases u with
  | none => exact (show False from r).elim
  | some _ => rfl
theorem RelO.getD {o : Option V} {u : Option Value} {d : V} {d' : Value} (r : RelO o u) (rd : RelV d d') : RelV (o.getD d) (u.getD d') := by
 cases o with
 | none => cases u with
  | none => exact rd
  | some _ => exact (show False from r).elim
 | some _ => cases u with
  | none => exact (show False from r).elim
  | some _ => exact r
theorem KV.val {kvs : List (κ × V)} {vs : List (κ × Value)} (r : KV kvs vs) (k : κ) : RelO (valV kvs k) (valueAt vs k) := by
 unfold KV at r
 induction r with
 | nil => exact True.intro
 | @cons p q ps qs h t ih =>
  obtain ⟨h1, h2⟩ := h
  by_cases e : p.1 = k
  ·have e' : q.1 = k := h1.symm.trans e
   have b : valueAt (q :: qs) k = some q.2 := by simp [valueAt, List.find?_cons, e']
   rw [valV_pos e, b]; exact h2
  ·have e' : ¬ q.1 = k := fun z => e (h1.trans z)
   have b : valueAt (q :: qs) k = valueAt qs k := by simp [valueAt, List.find?_cons, e']
   rw [valV_neg e, b]; exact ih
theorem KV.any {kvs : List (κ × V)} {vs : List (κ × Value)} (r : KV kvs vs) (k : κ) : (kvs.any fun kv => decide (kv.1 = k)) = vs.any fun kv => decide (kv.1 = k) := by
 unfold KV at r
 induction r with
 | nil => rfl
 | cons h t ih => rw [List.any_cons, List.any_cons, ih, h.1]
theorem KV.repl {kvs : List (κ × V)} {vs : List (κ × Value)} (r : KV kvs vs) (k : κ) {y : V} {u : Value} (ry : RelV y u) :
  KV (kvs.map fun kv => if kv.1 = k then (kv.1, y) else kv) (vs.map fun kv => if kv.1 = k then (kv.1, u) else kv) := by
 unfold KV at r ⊢
 induction r with
 | nil => exact .nil
 | @cons p q ps qs h t ih =>
  rw [List.map_cons, List.map_cons]
  refine .cons ?_ ih
  obtain ⟨h1, h2⟩ := h
  by_cases e : p.1 = k
  ·rw [if_pos e, if_pos (h1.symm.trans e)]; exact ⟨h1, ry⟩
  ·rw [if_neg e, if_neg (fun z => e (h1.trans z))]; exact ⟨h1, h2⟩
theorem KV.put {kvs : List (κ × V)} {vs : List (κ × Value)} (r : KV kvs vs) (k : κ) {y : V} {u : Value} (ry : RelV y u) : KV (putK kvs k y) (stored vs k u) := by
 unfold putK stored
 rw [r.any k]
 by_cases e : (vs.any fun kv => decide (kv.1 = k)) = true
 ·rw [if_pos e, if_pos e]; exact r.repl k ry
 ·rw [if_neg e, if_neg e]; exact Paired.snoc r ⟨rfl, ry⟩
theorem KV.length {kvs : List (κ × V)} {vs : List (κ × Value)} (r : KV kvs vs) : kvs.length = vs.length := Paired.length r
end
theorem kV_is {P : Program} {w : World} {k : Key} {u : Value} (r : RelV (kV k) u) : (mixKind P w).is k u = true := by
 cases k with
 | inl i => obtain ⟨t, e⟩ := (show ∃ t, u = Value.int i t from r); subst e; exact mixKind_int P w i t
 | inr x => obtain ⟨t, e⟩ := (show ∃ t, u = Value.str x t from r); subst e; exact mixKind_str P w x t
theorem items_are {P : Program} {w : World} : ∀ {ks : List Key} {us : List Value}, Vals (ks.map kV) us -> ItemsAre (mixKind P w) ks us
 | [], _, r => by rw [List.map_nil] at r; cases r; exact .nil
 | k :: ks, _, r => by
  rw [List.map_cons] at r
  cases r with
  | cons h t => exact .cons (kV_is h) (items_are t)
abbrev KT (H : Hp) : List (List Key × V) -> List (List Key × Addr × Value) -> Prop := Paired fun p q => p.1 = q.1 /\ H q.2.1 = some (.tup (p.1.map kV)) /\ RelV p.2 q.2.2
theorem KT.val {H : Hp} {kvs : List (List Key × V)} {xs : List (List Key × Addr × Value)} (r : KT H kvs xs) (k : List Key) : RelO (valV kvs k) ((atKey xs k).map (·.2)) := by
 induction r with
 | nil => exact True.intro
 | @cons p q ps qs h t ih =>
  obtain ⟨h1, _, h2⟩ := h
  by_cases e : p.1 = k
  ·have e' : q.1 = k := h1.symm.trans e
   have b : atKey (q :: qs) k = some q.2 := by simp [atKey, List.find?_cons, e']
   rw [valV_pos e, b]; exact h2
  ·have e' : ¬ q.1 = k := fun z => e (h1.trans z)
   have b : atKey (q :: qs) k = atKey qs k := by simp [atKey, List.find?_cons, e']
   rw [valV_neg e, b]; exact ih
theorem KT.repl {H : Hp} {kvs : List (List Key × V)} {xs : List (List Key × Addr × Value)} (r : KT H kvs xs) (k : List Key) {y : V} {u : Value} (ry : RelV y u) :
  KT H (kvs.map fun kv => if kv.1 = k then (kv.1, y) else kv) (xs.map (putAt k u)) := by
 induction r with
 | nil => exact .nil
 | @cons p q ps qs h t ih =>
  rw [List.map_cons, List.map_cons]
  refine .cons ?_ ih
  obtain ⟨h1, h2, h3⟩ := h
  unfold putAt
  by_cases e : p.1 = k
  ·rw [if_pos e, if_pos (h1.symm.trans e)]; exact ⟨h1, h2, ry⟩
  ·rw [if_neg e, if_neg (fun z => e (h1.trans z))]; exact ⟨h1, h2, h3⟩
theorem KT.put {H : Hp} {kvs : List (List Key × V)} {xs : List (List Key × Addr × Value)} (r : KT H kvs xs) (k : List Key) {b : Addr} {y : V} {u : Value} (hb : H b = some (.tup (k.map kV))) (ry : RelV y u) :
  KT H (putK kvs k y) (storedH xs k b u) := by
 have e : (kvs.any fun kv => decide (kv.1 = k)) = (atKey xs k).isSome := by
  rw [valV_any, (r.val k).isSome_eq, Option.isSome_map]
 unfold putK storedH
 rw [e]
 by_cases q : (atKey xs k).isSome = true
 ·rw [if_pos q, if_pos q]; exact r.repl k ry
 ·rw [if_neg q, if_neg q]; exact Paired.snoc r ⟨rfl, hb, ry⟩
theorem KT.keeps {H H' : Hp} {kvs : List (List Key × V)} {xs : List (List Key × Addr × Value)} (r : KT H kvs xs) (ht : ∀ b ys, H b = some (.tup ys) -> H' b = some (.tup ys)) : KT H' kvs xs :=
 Paired.mapP r fun _ _ z => ⟨z.1, ht _ _ z.2.1, z.2.2⟩
section
variable {P : Program} {w : World} {H : Hp} {h : Heap} {a : Addr}
theorem rd_of {u : HO} (ok : HOk P w H h) (e : Rd H a u) : ObjOk P w H h a u := e.ok ok
theorem dk_rd {kvs : List (Key × V)} (ok : HOk P w H h) (e : Rd H a (.dK kvs)) : kvs.length <= sizeLine /\ (a == sysModules) = false /\ ∃ vs, KV kvs vs /\ h.DictOf (mixKind P w) a vs :=
 show ObjOk P w H h a (.dK kvs) from rd_of ok e
theorem dk_of {kvs : List (Key × V)} (ok : HOk P w H h) (e : H a = some (.dK kvs)) : kvs.length <= sizeLine /\ (a == sysModules) = false /\ ∃ vs, KV kvs vs /\ h.DictOf (mixKind P w) a vs := dk_rd ok (.inl e)
theorem key_of {ks : List Key} (ok : HOk P w H h) (e : H a = some (.tup (ks.map kV))) : (tupleKind (mixKind P w)).is h ks a := by
 obtain ⟨_, its, r, o, h1, h2, n, h3⟩ := (show ObjOk P w H h a (.tup (ks.map kV)) from ok a _ e)
 exact ⟨o, its.toArray, n, h1, h2, h3, by simpa using items_are r⟩
theorem dt_rd {kvs : List (List Key × V)} (ok : HOk P w H h) (e : Rd H a (.dT kvs)) : kvs.length <= sizeLine /\ (a == sysModules) = false /\
  ∃ xs, KT H kvs xs /\ h.DictOfH (tupleKind (mixKind P w)) a xs := by
 obtain ⟨z, y, xs, r, o, es, ep, h1, h2, h3, h4, h5⟩ := (show ObjOk P w H h a (.dT kvs) from rd_of ok e)
 refine ⟨z, y, xs, r, o, es, ep, h1, h2, h3, h4, fun x hx => ?_, h5⟩
 have all : ∀ {l : List (List Key × V)} {m : List (List Key × Addr × Value)}, KT H l m -> ∀ x ∈ m, (tupleKind (mixKind P w)).is h x.1 x.2.1 := by
  intro l m q
  induction q with
  | nil => intro x hx; exact nomatch hx
  | @cons p q ps qs hq t ih =>
   intro x hx
   rcases List.mem_cons.mp hx with e | hx
   ·subst e
    exact key_of ok (by rw [<- hq.1]; exact hq.2.1)
   ·exact ih x hx
 exact all r x hx
theorem dt_of {kvs : List (List Key × V)} (ok : HOk P w H h) (e : H a = some (.dT kvs)) : kvs.length <= sizeLine /\ (a == sysModules) = false /\
  ∃ xs, KT H kvs xs /\ h.DictOfH (tupleKind (mixKind P w)) a xs := dt_rd ok (.inl e)
end
def DGet (H : Hp) (a : Addr) (y : V) (r : Option V) : Prop :=
 (∃ kvs k, Rd H a (.dK kvs) /\ y = kV k /\ r = valV kvs k) \/ ∃ kvs k b, Rd H a (.dT kvs) /\ y = .ref b /\ H b = some (.tup (k.map kV)) /\ r = valV kvs k
def DPut (H : Hp) (a : Addr) (y v : V) (H' : Hp) : Prop :=
 (∃ kvs k, H a = some (.dK kvs) /\ y = kV k /\ kvs.length < sizeLine /\ H' = upd H a (.dK (putK kvs k v))) \/
 ∃ kvs k b, H a = some (.dT kvs) /\ y = .ref b /\ H b = some (.tup (k.map kV)) /\ kvs.length < sizeLine /\ H' = upd H a (.dT (putK kvs k v))
theorem DGet.k {H : Hp} {a : Addr} {kvs : List (Key × V)} {k : Key} (e : H a = some (.dK kvs)) : DGet H a (kV k) (valV kvs k) := .inl ⟨kvs, k, .inl e, rfl, rfl⟩
theorem DPut.k {H : Hp} {a : Addr} {kvs : List (Key × V)} {k : Key} {v : V} (e : H a = some (.dK kvs)) (hl : kvs.length < sizeLine) : DPut H a (kV k) v (upd H a (.dK (putK kvs k v))) := .inl ⟨kvs, k, e, rfl, hl, rfl⟩
section
variable {X : Cx} {pins : List (Addr × Obj)} {σ : St} {H : Hp} {s : Shared} {a : Addr} {y v : V} {u r : Value} {o : Option V} {A : Around} {E : Value -> Shared -> Prop}
theorem Inv.big (I : Inv X pins σ H s) : sysModules < s.heap.objs.size := by
 have h : mainGlobals < s.heap.objs.size := (I.mod.glob.keeps I.bk).lt
 exact Nat.lt_trans (by decide) h
theorem d_getItem {Q : Value -> Shared -> Prop} (hu : A.units + 1 < cLine) (I : Inv X pins σ H s) (g : DGet H a y (some v)) (ry : RelV y u) (h : ∀ w' s', Inv X pins σ H s' -> RelV v w' -> Q w' s') :
  wpAny (model X.prog X.w) A (getItem (.ref a) u) Q E s := by
 rcases g with ⟨kvs, k, e, ey, l⟩ | ⟨kvs, k, b, e, ey, eb, l⟩
 ·subst ey
  obtain ⟨z, hd, vs, rel, dd⟩ := dk_rd I.hok e
  obtain ⟨w', hw, rw'⟩ := RelO.some_of (v := v) (o := valueAt vs k) (by rw [l]; exact rel.val k)
  exact wpAny_getItem_of (kV_is ry) dd.mapOf hw (h w' _ (I.tok _) rw')
 ·subst ey
  cases (show u = Value.ref b from ry)
  obtain ⟨z, hd, xs, rel, dd⟩ := dt_rd I.hok e
  obtain ⟨w', hw, rw'⟩ := RelO.some_of (v := v) (o := (atKey xs k).map (·.2)) (by rw [l]; exact rel.val k)
  obtain ⟨p, hp, hp2⟩ := Option.map_eq_some_iff.mp hw
  refine wpAny_getItem_heap (tupleKind_room_in1 hu) (key_of I.hok eb) dd hp ?_
  rw [hp2]
  exact h w' _ (I.tok _) rw'
theorem d_write {h' : Heap} {t' : Nat} {ob : HO} (I : Inv X pins σ H s) (mu : Mut (H a)) (hs : Heap.SameBut a s.heap h') (he : ∃ q, h'.get? a = some q) (new : ObjOk X.prog X.w (upd H a ob) h' a ob) :
  Inv X pins σ (upd H a ob) { s with heap := h', toks := t' } :=
 I.write (x := a) (e := a) mu (.inl rfl) (fun b q hb z => (hs.2 b hb).trans z) he new
theorem dk_new {P : Program} {w : World} {H' : Hp} {h' : Heap} {kvs : List (Key × V)} {vs : List (Key × Value)} (z : kvs.length <= sizeLine) (hd : (a == sysModules) = false) (rel : KV kvs vs) (dd : h'.DictOf (mixKind P w) a vs) :
  ObjOk P w H' h' a (.dK kvs) := ⟨z, hd, vs, rel, dd⟩
theorem d_setItem {H' : Hp} {Q : Unit -> Shared -> Prop} (hu : A.units + 1 < cLine) (I : Inv X pins σ H s) (g : DPut H a y v H') (ry : RelV y u) (rv : RelV v r) (h : ∀ s', Inv X pins σ H' s' -> Q () s') :
  wpAny (model X.prog X.w) A (setItem (.ref a) u r) Q E s := by
 rcases g with ⟨kvs, k, e, ey, l, eH⟩ | ⟨kvs, k, b, e, ey, eb, l, eH⟩
 ·subst ey eH
  obtain ⟨z, hd, vs, rel, dd⟩ := dk_of I.hok e
  have hz : vs.length <= sizeLine := by rw [<- rel.length]; exact z
  have hl : (putK kvs k v).length <= sizeLine := by have := length_putK kvs k v; omega
  refine wpAny_setItem_pairs (hsz := hz) (kV_is ry) dd fun h' dd' hs => h _ ?_
  have he : ∃ q, h'.get? a = some q := let ⟨q, _, _, hq, _⟩ := dd'; ⟨q, hq⟩
  exact d_write I (by rw [e]; exact True.intro) hs he (dk_new hl hd (rel.put k rv) dd')
 ·subst ey eH
  cases (show u = Value.ref b from ry)
  obtain ⟨z, hd, xs, rel, dd⟩ := dt_of I.hok e
  have hz : xs.length <= sizeLine := by rw [<- Paired.length rel]; exact z
  have hl : (putK kvs k v).length <= sizeLine := by have := length_putK kvs k v; omega
  refine wpAny_setItem_heap (hsz := hz) (tupleKind_room_in1 hu) (key_of I.hok eb) dd fun h' dd' hs => h _ ?_
  obtain ⟨q, es, ep, hq, h2, h3, h4, _, h5⟩ := dd'
  refine d_write I (by rw [e]; exact True.intro) hs ⟨q, hq⟩ ⟨hl, hd, _, (rel.put k eb rv).keeps fun c ys ec => ?_, q, es, ep, hq, h2, h3, h4, h5⟩
  rw [upd_ne (ne_of ec e (fun z => nomatch z))]
  exact ec
end
section
variable {X : Cx} {pins : List (Addr × Obj)} {σ : St} {H : Hp} {s : Shared} {a : Addr} {kvs : List (Key × V)} {k : Key} {u : Value} {A : Around} {E : Value -> Shared -> Prop}
end
def NoSl (i : Expr) : Prop := ∀ ov iv, subscripted i false ov iv = operate [ov, iv] (getItem ov iv)
theorem subD_of {prog : Program} {w : World} {A : Around} {E : Value -> Shared -> Prop} {s : Shared} {env : Env} {value slice : Expr} {pos : Pos} {T id : String} {Q : Value -> Shared -> Prop}
  (hl : typeLookup (.type T) "__getitem__" = pure (some (.builtin id))) (hs : NoSl slice)
  (h : wpAny (model prog w) A (eval value env) (fun o s₁ => wpAny (model prog w) A (eval slice env) (fun i s₂ => s₂.TypeIs o T /\ wpAny (model prog w) A (getItem o i) Q E s₂) E s₁) E s) :
  wpAny (model prog w) A (eval (.Subscript value slice pos) env) Q E s := by
 refine Subscript_ (wpAny_mono h (fun o s₁ h₁ => wpAny_mono h₁ (fun i s₂ h₂ => ?_) fun _ _ x => x) fun _ _ x => x)
 obtain ⟨hT, h₂⟩ := h₂
 unfold subscriptTail
 refine wpAny_bind ?_
 rw [getitemInPython_of_ne hT.not_modules]
 refine wpAny_bind (wpAny_specialOf hT hl ?_)
 have fin : wpAny (model prog w) A (subscripted slice false o i) (fun r s₃ => wpAny (model prog w) A (letTemporaryGo value o r >>= fun _ => pure r) Q E s₃) E s₂ := by
  rw [hs o i]
  exact wpAny_operating (wpAny_mono h₂ (fun r s₃ h₃ => wpAny_bind (wpAny_letTemporaryGo (wpAny_pure h₃))) fun _ _ x => x)
 first
  | exact wpAny_pure (wpAny_bind fin)
  | exact wpAny_bind (wpAny_pure (wpAny_bind fin))
  | exact wpAny_bind fin
theorem dict_typeIs {X : Cx} {pins : List (Addr × Obj)} {σ : St} {H : Hp} {s : Shared} {a : Addr} {y : V} {o : Option V} (I : Inv X pins σ H s) (g : DGet H a y o) : s.TypeIs (.ref a) "dict" := by
 rcases g with ⟨kvs, k, e, _, _⟩ | ⟨kvs, k, b, e, _, _, _⟩
 ·obtain ⟨_, _, vs, _, dd⟩ := dk_rd I.hok e
  exact dd.typeIs
 ·obtain ⟨_, _, xs, _, dd⟩ := dt_rd I.hok e
  exact dd.typeIs
def tDGet (td ty : TE) : TE := fun σ H Q => td σ H fun x H1 => ty σ H1 fun y H2 => ∃ a v, x = .ref a /\ DGet H2 a y (some v) /\ Q v H2
def sDPut (td ty tv : TE) : TS := fun D σ H => tv σ H fun v H1 => td σ H1 fun x H2 => ty σ H2 fun y H3 => ∃ a H4, x = .ref a /\ DPut H3 a y v H4 /\ D.nx σ H4
section
variable {X : Cx} {o i e value : Expr} {pos pos' tpos : Pos} {td ty tv : TE}
theorem pe_dget (hu : X.A.units + 1 < cLine) (ho : PE X o td) (hi : PE X i ty) (hs : NoSl i) : PE X (.Subscript o i pos) (tDGet td ty) := by
 intro pins s σ H Q I h
 refine subD_of PySem.F.slot_dict_getitem.lookup hs (thn (ho pins s σ H _ I h) fun u s1 ⟨x, H1, I1, rx, q1⟩ => thn (hi pins s1 σ H1 _ I1 q1) fun iv s2 ⟨y, H2, I2, ry, a, v, ex, g, q2⟩ => ?_)
 subst ex
 obtain rfl : u = Value.ref a := rx
 exact ⟨dict_typeIs I2 g, d_getItem hu I2 g ry fun w' s3 I3 rw' => ⟨v, H2, I3, rw', q2⟩⟩
theorem ps_dput (hu : X.A.units + 1 < cLine) (ho : PE X o td) (hi : PE X i ty) (hv : PE X value tv) (hs : swapsWith value (some (.Subscript o i pos')) pos.line X.env = pure false) :
  PS X (.Assign [.Subscript o i pos'] value pos) (sDPut td ty tv) := by
 intro pins s σ H D I h
 refine wpAny_Assign_Subscript (thn (hv pins s σ H _ I h) fun r s1 ⟨v, H1, I1, rv, q1⟩ => thn (ho pins s1 σ H1 _ I1 q1) fun u s2 ⟨x, H2, I2, rx, q2⟩ => thn (hi pins s2 σ H2 _ I2 q2) fun iv s3 ⟨y, H3, I3, ry, a, H4, ex, g, q3⟩ => ?_) hs
 subst ex
 obtain rfl : u = Value.ref a := rx
 exact d_setItem hu I3 g ry rv fun s4 I4 => ⟨σ, H4, I4, q3⟩
end
theorem dk_empty {P : Program} {w : World} {H : Hp} (h : Heap) (hb : sysModules < h.objs.size) : ObjOk P w H (h.push { cls := .type "dict", data := .dict #[] }) h.objs.size (.dK []) :=
 ⟨Nat.zero_le _, beq_eq_false_iff_ne.mpr (Ne.symm (Nat.ne_of_lt hb)), [], .nil, Heap.DictOf.new h⟩
def tDNewK : TE := fun _ H Q => ∀ p, H p = none -> Q (.ref p) (upd H p (.dK []))
section
variable {X : Cx} {pos : Pos}
theorem pe_dnewK : PE X (.Dict [] [] pos) tDNewK := fun pins s σ H Q I h =>
 wpAny_Dict_empty ⟨.ref s.heap.objs.size, _, I.laid (a := s.heap.objs.size) (o := .dK []) (t' := s.toks) (fun _ _ q => Heap.get?_push_of_some _ q) (Nat.le_refl _) (dk_empty s.heap I.big), rfl, h _ (I.hok.fresh (Nat.le_refl _))⟩
end
structure M2 (X : Cx) (o : Expr) (m : Str) (apos : Pos) (e f : Expr) (cpos : Pos) : Prop where
 base : attributeBase o m X.env (eval o X.env) = eval o X.env
 few : ((backTo cpos (starEach [e, f] X.env)).all (fun x => !x.1) && (backToKw cpos (keywordEach [] X.env)).all (fun x => x.1.isSome)
  && decide (([e, f] : List Expr).length + ([] : List Keyword).length + (if ([] : List Keyword).isEmpty then 0 else 1) < 30)) = true
 line : (apos.endLine == cpos.line) = true
 trees : backTo cpos (starEach [e, f] X.env) = [(false, eval e X.env), (false, eval f X.env)]
def IsD (H : Hp) (a : Addr) : Prop := (∃ kvs, Rd H a (.dK kvs)) \/ ∃ kvs, Rd H a (.dT kvs)
theorem isD_at {X : Cx} {pins : List (Addr × Obj)} {σ : St} {H : Hp} {s : Shared} {a : Addr} (I : Inv X pins σ H s) (d : IsD H a) :
  s.TypeIs (.ref a) "dict" /\ (∀ b, Value.ref a = .ref b -> ∃ ob, s.heap.get? b = some ob /\ ob.dict = none) /\ (a == sysModules) = false := by
 rcases d with ⟨kvs, e⟩ | ⟨kvs, e⟩
 ·obtain ⟨_, hd, vs, _, dd⟩ := dk_rd I.hok e
  refine ⟨dd.typeIs, fun b q => ?_, hd⟩
  cases q
  obtain ⟨ob, _, _, h1, h2, _⟩ := dd
  exact ⟨ob, h1, h2.2.1⟩
 ·obtain ⟨_, hd, xs, _, dd⟩ := dt_rd I.hok e
  refine ⟨dd.typeIs, fun b q => ?_, hd⟩
  cases q
  obtain ⟨ob, _, _, h1, h2, _⟩ := dd
  exact ⟨ob, h1, h2.2.1⟩
section
variable {X : Cx} {pins : List (Addr × Obj)} {σ : St} {H : Hp} {s : Shared} {a : Addr} {y d : V} {u r : Value} {o : Option V} {A : Around} {E : Value -> Shared -> Prop}
theorem d_get2 {Q : Value -> Shared -> Prop} (hu : A.units + 1 < cLine) (I : Inv X pins σ H s) (g : DGet H a y o) (ry : RelV y u) (rd : RelV d r) (h : ∀ w' s', Inv X pins σ H s' -> RelV (o.getD d) w' -> Q w' s') :
  wpAny (model X.prog X.w) A (call (.builtin "dict.get") [.ref a, u, r]) Q E s := by
 rcases g with ⟨kvs, k, e, ey, l⟩ | ⟨kvs, k, b, e, ey, eb, l⟩
 ·subst ey
  obtain ⟨z, hd, vs, rel, dd⟩ := dk_rd I.hok e
  refine call_meetsIn PySem.F.slot_dict_get dd.typeIs PySem.F.entry_dict_get (PySem.F.args_dict_get_3 _ _ _) (meets_dict_get_default (mixKind X.prog X.w) a (kV_is ry) hd r) ⟨_, dd.mapOf, h _ _ (I.tok _) ?_⟩
  rw [l]
  exact (rel.val k).getD rd
 ·subst ey
  cases (show u = Value.ref b from ry)
  obtain ⟨z, hd, xs, rel, dd⟩ := dt_rd I.hok e
  refine call_meetsIn PySem.F.slot_dict_get dd.typeIs PySem.F.entry_dict_get (PySem.F.args_dict_get_3 _ _ _) (meetsH_dict_get_default (tupleKind (mixKind X.prog X.w)) a b hd r) ⟨tupleKind_room_in1 hu, k, xs, key_of I.hok eb, dd, h _ _ (I.tok _) ?_⟩
  rw [l]
  exact (rel.val k).getD rd
end
def tDGet2 (td ty tx : TE) : TE := fun σ H Q => td σ H fun x H1 => ∃ a, x = .ref a /\ IsD H1 a /\ ty σ H1 fun y H2 => tx σ H2 fun z H3 => ∃ o, DGet H3 a y o /\ Q (o.getD z) H3
section
variable {X : Cx} {o e f : Expr} {apos cpos : Pos} {td ty tx : TE}
theorem pe_dget2 (hu : X.A.units + 1 < cLine) (ho : PE X o td) (he : PE X e ty) (hf : PE X f tx) (m : M2 X o "get" apos e f cpos) : PE X (.Call (.Attribute o "get" apos) [e, f] [] cpos) (tDGet2 td ty tx) := by
 intro pins s σ H Q I h
 refine wpAny_Call_method m.base m.few m.line PySem.F.plainAttrs_dict PySem.F.slot_dict_get PySem.F.type_dict_get (thn (ho pins s σ H _ I h) fun u s1 ⟨x, H1, I1, rx, a, ex, d, q1⟩ => ?_)
 subst ex
 obtain rfl : u = Value.ref a := rx
 obtain ⟨t1, t2, _⟩ := isD_at I1 d
 refine ⟨t1, t2, ?_⟩
 rw [m.trees]
 refine Calls.callWith_builtin rfl (Calls.evalArgs_plain (Calls.spliced_cons (thn (he pins s1 σ H1 _ I1 q1) fun iv s2 ⟨y, H2, I2, ry, q2⟩ =>
  Calls.spliced_cons (thn (hf pins s2 σ H2 _ I2 q2) fun fv s3 ⟨z, H3, I3, rz, ov, g, q3⟩ => Calls.spliced_nil ?_))))
 exact d_get2 hu I3 g ry rz fun w' s4 I4 rw' => ⟨_, H3, I4, rw', q3⟩
end
section
variable {X : Cx} {pins : List (Addr × Obj)} {σ : St} {H : Hp} {s : Shared} {a : Addr} {kvs : List (Key × V)} {A : Around} {E : Value -> Shared -> Prop}
end
section
variable {X : Cx} {pins : List (Addr × Obj)} {σ : St} {H : Hp} {s : Shared} {a : Addr} {y : V} {u : Value} {A : Around} {E : Value -> Shared -> Prop}
end
end L2
namespace Att
open PySem PySem.W PySem.Calls PyProof.Rows
theorem ints_of_wellAll {P : Params} {h : Heap} : ∀ (ns : List Int) (vs : List Value), WellAll P h vs (ns.map WData.int) -> IntsAre vs ns := by
 intro ns
 induction ns with
 | nil =>
  intro vs w
  rw [List.map_nil] at w
  cases w
  exact .nil
 | cons n ns ih =>
  intro vs w
  rw [List.map_cons] at w
  cases w with
  | cons a b =>
   cases a
   exact .cons _ _ (ih _ b)
theorem script_of {l : OpenLaw} {n : Nat} (hn : l.most = some n) {P : Params} {h : Heap} {args : List WData} {vals : List Value}
  (hpre : l.row.toRowW.claim.pre args = true) (hwl : WellAll P h vals args) :
  ∃ a vs ns, vals = [Value.ref a] /\ args = [WData.list (ns.map WData.int)] /\ h.get? a = some { cls := .type "list", data := .seq vs.toArray } /\ IntsAre vs ns /\ ns.length <= n := by
 have hsh : WShape.hasAll [] args [.list .int] = true := (pre_splitW hpre).1
 have hc : l.pre.holds [] { args := args } = true := (pre_splitW hpre).2
 obtain ⟨d, r, rfl, h1, h2⟩ := hasAllW_cons hsh
 obtain rfl := hasAllW_nil h2
 obtain ⟨xs, rfl, h3⟩ := hasW_list h1
 obtain ⟨ns, rfl⟩ := items_int h3
 have hlen : ns.length <= n := by
  unfold OpenLaw.pre at hc
  have h4 : (WTm.not (.lt (.lit (.int (n : Int))) (.len (.arg 0)))).holds [] { args := [.list (ns.map .int)] } = true := by
   have h4 := (holds_andW hc).1
   rw [hn] at h4
   exact h4
  have h5 := condW_of h4 (w_not (w_lt w_lit (w_len_list (w_arg rfl))))
  rw [List.length_map] at h5
  refine Nat.le_of_not_lt fun q => ?_
  have q' : (n : Int) < ((ns.length : Nat) : Int) := by omega
  first
   | (rw [decide_eq_true q'] at h5; exact absurd h5 (by decide))
   | (simp at h5; omega)
 cases hwl with
 | cons w1 w2 =>
  cases w2
  cases w1 with
  | list ho hall => exact ⟨_, _, ns, rfl, rfl, ho, ints_of_wellAll ns _ hall, hlen⟩
theorem post_true (l : OpenLaw) (args : List WData) : l.row.toRowW.claim.post args (.bool true) args = true :=
 postW_of (r := l.row.toRowW) (X := (true == true))
  (show WShape.has [] (.bool true) .bool = true by first | rfl | decide | simp [WShape.has, WShape.arms, WShape.armsAll])
  (show (WTm.eq .res (.lit (.bool true))).value [] { args := args, res := some (.bool true), after := args } = some (.bool (true == true)) from w_eq_bool (w_res rfl) w_lit) rfl
section
variable {prog : Program} {w : World} {A : Around} {E : Value -> Shared -> Prop} {s : Shared} {K : Frag}
end
end Att
namespace L2
open PySem PySem.Spec PyProof.Rows
theorem vals_ints : ∀ {vs : List Value} {ns : List Int}, IntsAre vs ns -> Vals (ns.map V.int) vs
 | _, _, .nil => .nil
 | _, _, .cons n t h => .cons ⟨t, rfl⟩ (vals_ints h)
def Only (H : Hp) : Prop := ∀ b, H b = none \/ ∃ o xs, H b = some (.frz o (.lst xs))
theorem law_call {P : Program} {w : World} {K : PySem.W.Frag} {mg mb : Str -> Option Value} {CX : CXT} {k : Nat} {fa a : Addr} {fd : FuncData} {x : Str} {sp : Sp} {s₁ : Shared} {vs : List Value} {ns : List Int}
  (KX : K.In s₁.heap) (hns : s₁.heap.Ns mainGlobals mg) (hb : s₁.heap.Ns builtinsNs mb) (hbb : ∀ x : Str, x ≠ "__name__" -> mb x = bootBuiltins x) (hlim : s₁.heap.NoLimit) (hg : s₁.gens = #[])
  (ha : s₁.heap.get? a = some { cls := .type "list", data := .seq vs.toArray }) (hi : IntsAre vs ns) (hl : ns.length <= sizeLine) (hr : Room k callerA)
  (F : ∀ base : Heap, K.In base -> base.Ns mainGlobals mg -> FnOk P w K mg base CX k fa fd [x] sp) (hbind : ∀ (s : Shared) (u : Value), BindsTo s fd ⟨[u], []⟩ [(x, u)])
  (hsp : ∀ H : Hp, Only H -> SqL K H a (ns.map V.int) -> sp [.ref a] H (fun v _ => v = .bl true) fun _ _ _ => False)
  (hCX : ∀ H e s', CX [] H s₁ (fun _ _ _ => False) e s' -> False) :
  codeAny (model P w) callerA (.call (.ref fa) ⟨[.ref a], []⟩) (fun r s' => r = .ok (.ret (.bool true)) /\ OldK s₁.heap s'.heap /\ s'.os = s₁.os /\ AllBare s'.gens) s₁ := by
 have rv := vals_ints hi
 have lenV := hi.length
 have core : ∀ H : Hp, Only H -> SqL K H a (ns.map V.int) -> HOk P w H s₁.heap -> (∀ b, H b ≠ none -> b = a) -> (H a ≠ none -> K.lookup a = none) ->
   codeAny (model P w) callerA (.call (.ref fa) ⟨[.ref a], []⟩) (fun r s' => r = .ok (.ret (.bool true)) /\ OldK s₁.heap s'.heap /\ s'.os = s₁.os /\ AllBare s'.gens) s₁ := by
  intro H hO hS hok hA hK
  have base_of : ∀ {b : Addr} {o : Obj}, s₁.heap.get? b = some o -> H b = none -> (hidT s₁.heap H).get? b = some o := fun e n => hidT_get e n
  have noA : ∀ {b : Addr} {o : Obj} {es : Array DictEntry} {ep : Nat}, s₁.heap.get? b = some o -> o.data = .dict es ep -> H b = none := fun {b o es ep} e d => by
   cases q : H b with
   | none => rfl
   | some u =>
    have e' : b = a := hA b (by rw [q]; simp)
    subst e'
    rw [ha] at e; cases e
    have d' : Data.seq vs.toArray _ = Data.dict es ep := d
    cases d'
  have nsK : ∀ {b : Addr} {m : Str -> Option Value}, s₁.heap.Ns b m -> (hidT s₁.heap H).Ns b m := fun {b m} ⟨o, es, ep, e, d, r⟩ => ⟨o, es, ep, base_of e (noA e d), d, r⟩
  have hKb : K.In (hidT s₁.heap H) := fun b o e => base_of (KX b o e) (by
   cases q : H b with
   | none => rfl
   | some u =>
    have e' : b = a := hA b (by rw [q]; simp)
    subst e'
    rw [hK (by rw [q]; simp)] at e; cases e)
  have hM : Mod K mg (hidT s₁.heap H) := ⟨hKb, nsK hns, ⟨mb, nsK hb, hbb⟩, let ⟨mc, h1, h2⟩ := hlim; ⟨mc, nsK h1, h2⟩⟩
  have e0 : Env0 P w K mg (hidT s₁.heap H) callerA [] s₁ H := ⟨rfl, hM, fun b o e => of_hidT e, Nat.le_of_eq (hidT_size _ _), trivial, fun b hb => absurd (show b ∈ ([] : List Addr) from hb) (by simp), hok, .of_eq hg⟩
  refine codeAny_mono ((F _ hKb (nsK hns)).run callerA [] s₁ H ⟨[.ref a], []⟩ [.ref a] [.ref a] _ _ hr e0 (hbind s₁ (.ref a)) (.cons rfl .nil) (hsp H hO hS)) fun r s' h => ?_
  cases r with
  | error e => exact (hCX H e s' h).elim
  | ok fl =>
   cases fl with
   | next => exact False.elim h
   | brk => exact False.elim h
   | cont => exact False.elim h
   | ret u =>
    obtain ⟨v, H', os, bare, un, hok', r', q⟩ := h
    have q' : v = .bl true := q
    subst q'
    obtain rfl : u = Value.bool true := r'
    refine ⟨rfl, OldK.of_keep fun b o e => ?_, os, bare⟩
    cases q : H b with
    | none => exact un.keep b o e q (by intro z; exact absurd (show b ∈ ([] : List Addr) from z) (by simp)) (by simp)
    | some u =>
     rcases hO b with z | ⟨ob, xs, z⟩
     ·rw [q] at z; cases z
     ·have z2 := un.frzs b ob _ z
      obtain ⟨e1, _⟩ := hok b _ z
      obtain ⟨e2, _⟩ := hok' b _ z2
      rw [e] at e1; cases e1
      exact e2
 cases hk : K.lookup a with
 | some o =>
  have e := KX a o hk
  rw [ha] at e
  cases e
  refine core (fun _ => none) (fun _ => .inl rfl) (.inr ⟨_, vs.toArray, _, hk, rfl, rfl, rfl, by rw [List.size_toArray, lenV]; exact hl, by simpa using rv⟩) (fun b u z => by have z' : (none : Option HO) = some u := z; cases z') (fun b z => absurd rfl z) fun z => absurd rfl z
 | none =>
  refine core (fun b => if b = a then some (.frz { cls := .type "list", data := .seq vs.toArray } (.lst (ns.map V.int))) else none) (fun b => ?_) (.inl (.inr ⟨{ cls := .type "list", data := .seq vs.toArray }, if_pos rfl⟩)) (fun b u z => ?_) (fun b z => ?_) fun _ => hk
  ·by_cases hb : b = a
   ·exact .inr ⟨_, _, if_pos hb⟩
   ·exact .inl (if_neg hb)
  ·by_cases hb : b = a
   ·have z' := (if_pos hb).symm.trans z
    cases z'
    subst hb
    exact ⟨ha, by rw [List.length_map]; exact hl, vs, _, rv, ha⟩
   ·have z' := (if_neg hb).symm.trans z
    cases z'
  ·by_cases hb : b = a
   ·exact hb
   ·exact absurd (if_neg hb) z
end L2
namespace L2
open PySem PySem.Spec PyProof.Rows
end L2
namespace L2
open PySem PySem.Spec PyProof.Rows
def defArgs (s : Stmt) : Arguments := match s with
 | .FunctionDef _ a _ _ _ _ _ _ _ _ => a
 | _ => { posonlyargs := [], args := [], vararg := none, kwonlyargs := [], kw_defaults := [], kwarg := none, defaults := [] }
def defBody (s : Stmt) : List Stmt := match s with
 | .FunctionDef _ _ b _ _ _ _ _ _ _ => b
 | _ => []
def defScope (s : Stmt) : Scope := match s with
 | .FunctionDef _ _ _ _ _ _ sc _ _ _ => sc
 | _ => { kind := .function, names := [], isGenerator := false, isCoroutine := false }
abbrev CX0 : CXT := fun _ _ _ _ _ _ => False
abbrev E0 : XK := fun _ _ _ => False
theorem pass0 {X : Cx} : Passes CX0 X E0 := fun _ _ _ _ _ _ _ h => h.elim
structure Fun (K : PySem.W.Frag) (x qual : Str) (st : Stmt) (f : Addr) (fd : FuncData) : Prop where
 ex : ∃ (oc : Value) (od : Option Addr) (kV doc pm : Value) (an : Option Addr) (cdv ct : Value) (osl : Array (Option Value)),
  fd = PySem.W.fnOf x qual (defArgs st) (defBody st) (defScope st) .none kV doc pm an cdv ct /\ K.lookup f = some ⟨oc, od, .func fd, osl⟩ /\ PySem.W.codeIn K cdv qual = true
 kp : PySem.W.keepIn K (.ref f) = true
section
variable {P : Program} {w : World} {K : PySem.W.Frag} {mg : Str -> Option Value} {base : Heap}
theorem Fun.ok {x qual : Str} {st : Stmt} {f : Addr} {fd : FuncData} {N ps : List Str} {k : Nat} {sp : Sp} (F : Fun K x qual st f fd) (S : FnScope N ps (defScope st)) (len : ∀ vs H Q E, sp vs H Q E -> vs.length = ps.length)
  (hbody : ∀ (cdv : Value) (A : Around) (outer : List Env) (s : Shared) (H : Hp) (vs : List V) (Q : VK) (E : XK), Room k (A.deeper (envOfC qual (defScope st) s.heap.objs.size f cdv)) -> sp vs H Q E ->
   ∃ t, PSs (cxOf CX0 P w K mg base N qual (defScope st) f cdv A outer s H E).nox (defBody st) t /\ t { nx := fun _ H' => Q .non H', rt := Q } (start N vs) H) : FnOk P w K mg base CX0 (k + 1) f fd ps sp := by
 obtain ⟨oc, od, kV, doc, pm, an, cdv, ct, osl, rfl, lk, hcd⟩ := F.ex
 refine fn_of lk hcd S len fun A outer s H vs Q E hr hsp => ?_
 obtain ⟨t, h, q⟩ := hbody cdv A outer s H vs Q E hr hsp
 exact ⟨t, h.nox, q⟩
theorem Fun.binds {x qual : Str} {st : Stmt} {f : Addr} {fd : FuncData} {ps : List Str} (F : Fun K x qual st f fd)
  (h : ∀ (kV doc pm : Value) (an : Option Addr) (cdv ct : Value) (us : List Value), us.length = ps.length -> bindArgs (PySem.W.fnOf x qual (defArgs st) (defBody st) (defScope st) .none kV doc pm an cdv ct) ⟨us, []⟩ = pure (ps.zip us)) : Binds K fd ps [] := by
 obtain ⟨oc, od, kV, doc, pm, an, cdv, ct, osl, rfl, lk, hcd⟩ := F.ex
 exact .all (h kV doc pm an cdv ct)
theorem fun_mk {x qual : Str} {st : Stmt} {f : Addr} {oc : Value} {od an : Option Addr} {osl : Array (Option Value)} {kV doc pm cdv ct : Value} (l : K.lookup f = some ⟨oc, od, .func (PySem.W.fnOf x qual (defArgs st) (defBody st) (defScope st) .none kV doc pm an cdv ct), osl⟩)
  (c : PySem.W.codeIn K cdv qual = true) (k : PySem.W.keepIn K (.ref f) = true) : Fun K x qual st f (PySem.W.fnOf x qual (defArgs st) (defBody st) (defScope st) .none kV doc pm an cdv ct) := ⟨⟨oc, od, kV, doc, pm, an, cdv, ct, osl, rfl, l, c⟩, k⟩
end
section
variable {X : Cx}
end
theorem iteF {A B : Prop} (h : B) : if false = true then A else B := by
 rw [if_neg Bool.false_ne_true]
 exact h
theorem iteT {A B : Prop} (h : A) : if true = true then A else B := by
 rw [if_pos rfl]
 exact h
theorem ite2 {c A B : Prop} [Decidable c] (h1 : c -> A) (h2 : ¬ c -> B) : if c then A else B := by
 by_cases h : c
 ·rw [if_pos h]
  exact h1 h
 ·rw [if_neg h]
  exact h2 h
theorem iteNS {c A B : Prop} [Decidable c] (hc : c) (h : B) : if (!decide c) = true then A else B := by
 rw [decide_eq_true hc]
 exact iteF h
def Same (H H' : Hp) : Prop := ∀ b o, H b = some o -> H' b = some o
theorem Same.refl (H : Hp) : Same H H := fun _ _ h => h
theorem Same.trans {H H1 H2 : Hp} (a : Same H H1) (b : Same H1 H2) : Same H H2 := fun c o h => b c o (a c o h)
theorem Same.free {H H' : Hp} (e : Same H H') {l : Addr} (h : H' l = Option.none) : H l = Option.none := by
 cases q : H l with
 | none => rfl
 | some o =>
  rw [e l o q] at h
  cases h
theorem Same.seq {K : PySem.W.Frag} {H H' : Hp} {a : Addr} {xs : List V} (e : Same H H') (h : SqL K H a xs) : SqL K H' a xs := by
 rcases h with (h | ⟨o, h⟩) | h
 ·exact .inl (.inl (e _ _ h))
 ·exact .inl (.inr ⟨o, e _ _ h⟩)
 ·exact .inr h
end L2
namespace L2
open PySem PySem.Spec PyProof.Rows
section
variable {X : Cx}
end
section
variable {κ : Type} [DecidableEq κ]
end
end L2
namespace L2
open PySem PySem.Spec PyProof.Rows
def freeCells (cells : List (Str × Addr)) : List (Str × NameKind) -> List (Str × Addr) -> List (Str × Addr)
 | [], acc => acc
 | (n, k) :: r, acc => freeCells cells r (if k == .free then (match cells.lookup n with | some c => (n, c) :: acc | none => acc) else acc)
theorem closureFor_eq {scope : Scope} {env : Env} (h : ∀ y ∈ scope.names, y.2 = .free -> ∃ c, env.cells.lookup y.1 = some c) : closureFor scope env = pure (freeCells env.cells scope.names []) := by
 simp only [closureFor]
 generalize ([] : List (Str × Addr)) = acc
 revert h
 generalize scope.names = l
 intro h
 induction l generalizing acc with
 | nil => simp [freeCells]
 | cons x r ih =>
  obtain ⟨n, k⟩ := x
  rw [List.forIn_cons]
  have hr : ∀ y ∈ r, y.2 = NameKind.free -> ∃ c, env.cells.lookup y.1 = some c := fun y hy => h y (List.mem_cons_of_mem _ hy)
  by_cases hk : k = .free
  ·subst hk
   obtain ⟨c, e⟩ := h (n, .free) List.mem_cons_self rfl
   have e' : List.lookup n env.cells = some c := e
   have e2 : cellOf env n = pure c := by unfold cellOf; rw [e']
   simp only [beq_self_eq_true, if_true, e2, pure_bind, freeCells, e']
   exact ih _ hr
  ·have hb : (k == NameKind.free) = false := by simpa using hk
   simp only [hb, Bool.false_eq_true, if_false, pure_bind, freeCells]
   exact ih _ hr
theorem freeCells_mem (cells : List (Str × Addr)) : ∀ (l : List (Str × NameKind)) (acc : List (Str × Addr)) (p : Str × Addr), p ∈ freeCells cells l acc -> p ∈ acc \/ (p.1, NameKind.free) ∈ l /\ cells.lookup p.1 = some p.2
 | [], _, _, h => .inl h
 | (n, k) :: r, acc, p, h => by
  have h' : p ∈ freeCells cells r (if k == .free then (match cells.lookup n with | some c => (n, c) :: acc | none => acc) else acc) := h
  rcases freeCells_mem cells r _ p h' with q | ⟨q1, q2⟩
  ·by_cases hk : k = .free
   ·subst hk
    simp only [beq_self_eq_true, if_true] at q
    cases e : cells.lookup n with
    | none => rw [e] at q; exact .inl q
    | some c =>
     rw [e] at q
     rcases List.mem_cons.mp q with rfl | q
     ·exact .inr ⟨List.mem_cons_self, e⟩
     ·exact .inl q
   ·have hb : (k == NameKind.free) = false := by simpa using hk
    simp only [hb, Bool.false_eq_true, if_false] at q
    exact .inl q
  ·exact .inr ⟨List.mem_cons_of_mem _ q1, q2⟩
theorem lookup_some_of_mem {α β : Type} [BEq α] [LawfulBEq α] {x : α} : ∀ {l : List (α × β)} {c : β}, (x, c) ∈ l -> ∃ d, l.lookup x = some d
 | (a, b) :: r, c, h => by
  by_cases e : x = a
  ·subst e; exact ⟨b, by simp⟩
  ·rcases List.mem_cons.mp h with q | q
   ·cases q; exact absurd rfl e
   ·obtain ⟨d, hd⟩ := lookup_some_of_mem q
    refine ⟨d, ?_⟩
    have e' : (x == a) = false := by simpa using e
    simp only [List.lookup_cons, e']
    exact hd
theorem freeCells_has (cells : List (Str × Addr)) (x : Str) (c : Addr) (e : cells.lookup x = some c) : ∀ (l : List (Str × NameKind)) (acc : List (Str × Addr)), ((x, NameKind.free) ∈ l \/ (x, c) ∈ acc) -> (x, c) ∈ freeCells cells l acc
 | [], _, h => h.elim (fun q => nomatch q) id
 | (n, k) :: r, acc, h => by
  refine freeCells_has cells x c e r _ ?_
  rcases h with h | h
  ·rcases List.mem_cons.mp h with q | q
   ·cases q
    refine .inr ?_
    rw [e]
    exact List.mem_cons_self
   ·exact .inl q
  ·refine .inr ?_
   by_cases hk : (k == NameKind.free) = true
   ·rw [if_pos hk]
    cases cells.lookup n with
    | none => exact h
    | some _ => exact List.mem_cons_of_mem _ h
   ·rw [if_neg hk]; exact h
theorem freeCells_look {cells : List (Str × Addr)} {names : List (Str × NameKind)} {x : Str} {c : Addr} (h : (freeCells cells names []).lookup x = some c) : cells.lookup x = some c := by
 have hm := PySem.mem_of_lookup h
 rcases freeCells_mem cells names [] _ hm with q | ⟨_, q⟩
 ·exact nomatch q
 ·exact q
theorem freeCells_ex {cells : List (Str × Addr)} {names : List (Str × NameKind)} {x : Str} {c : Addr} (hm : (x, NameKind.free) ∈ names) (e : cells.lookup x = some c) : (freeCells cells names []).lookup x = some c := by
 obtain ⟨d, hd⟩ := lookup_some_of_mem (freeCells_has cells x c e names [] (.inl hm))
 have := freeCells_look hd
 rw [e] at this
 rw [hd, this]
theorem relabel_look {scope : Scope} {env : Env} {x : Str} {k : NameKind} (h : (relabel scope env).names.lookup x = some k) : ∃ k', scope.names.lookup x = some k' /\ (k' = k \/ (k' = .free /\ k = .cell)) := by
 have go : ∀ (l : List (Str × NameKind)), (l.map fun (n, k) => if (k == NameKind.free && env.scope.kind == .function && env.kindOf n == some .cell) then (n, NameKind.cell) else (n, k)).lookup x = some k -> ∃ k', l.lookup x = some k' /\ (k' = k \/ (k' = .free /\ k = .cell)) := by
  intro l
  induction l with
  | nil => intro h; simp at h
  | cons p r ih =>
   obtain ⟨n, kk⟩ := p
   intro h
   simp only [List.map_cons] at h
   by_cases hx : x = n
   ·subst hx
    by_cases hc : (kk == NameKind.free && env.scope.kind == .function && env.kindOf x == some .cell) = true
    ·rw [if_pos hc] at h
     simp at h
     have : kk = .free := by
      simp only [Bool.and_eq_true, beq_iff_eq] at hc
      exact hc.1.1
     exact ⟨kk, by simp, .inr ⟨this, h.symm⟩⟩
    ·rw [if_neg hc] at h
     simp at h
     exact ⟨kk, by simp, .inl h⟩
   ·have e' : (x == n) = false := by simpa using hx
    have : ∀ b : Bool, (if b = true then (n, NameKind.cell) else (n, kk)).1 = n := fun b => by cases b <;> rfl
    rw [List.lookup_cons, this, e'] at h
    obtain ⟨k', h1, h2⟩ := ih h
    exact ⟨k', by rw [List.lookup_cons, e']; exact h1, h2⟩
 exact go scope.names h
theorem relabel_free {scope : Scope} {env : Env} {x : Str} (h : scope.names.lookup x = some .free) : (relabel scope env).names.lookup x = some .cell \/ (relabel scope env).names.lookup x = some .free := by
 have go : ∀ (l : List (Str × NameKind)), l.lookup x = some .free -> (l.map fun (n, k) => if (k == NameKind.free && env.scope.kind == .function && env.kindOf n == some .cell) then (n, NameKind.cell) else (n, k)).lookup x = some .cell \/ (l.map fun (n, k) => if (k == NameKind.free && env.scope.kind == .function && env.kindOf n == some .cell) then (n, NameKind.cell) else (n, k)).lookup x = some .free := by
  intro l
  induction l with
  | nil => intro h; simp at h
  | cons p r ih =>
   obtain ⟨n, kk⟩ := p
   intro h
   simp only [List.map_cons]
   by_cases hx : x = n
   ·subst hx
    simp at h
    by_cases hc : (kk == NameKind.free && env.scope.kind == .function && env.kindOf x == some .cell) = true
    ·rw [if_pos hc]; simp
    ·rw [if_neg hc]; simp [h]
   ·have e' : (x == n) = false := by simpa using hx
    have t : ∀ b : Bool, (if b = true then (n, NameKind.cell) else (n, kk)).1 = n := fun b => by cases b <;> rfl
    rw [List.lookup_cons, e'] at h
    rw [List.lookup_cons, t, e']
    exact ih h
 exact go scope.names h
section
variable {prog : Program} {w : World} {A : Around} {R : Result -> Shared -> Prop} {s : Shared}
theorem compLoop_go {elt target iter : Expr} {ifs : List Expr} {scope : Scope} {pos : Pos} {it acc : Value} {env : Env} (I : Nat -> Shared -> Prop)
  (turn : ∀ n s, I n s -> wpAny (model prog w) A (pyNext it) (fun r s₁ => match r with
   | none => R (.ok .next) s₁
   | some v => wpAny (model prog w) A (letOwnedTupleGo target it v) (fun _ s₁' => wpAny (model prog w) A (assign target env v) (fun _ s₂ =>
     wpAny (model prog w) A (forIn ifs true fun c r => if r = true then do let ok <- isTrue c env (eval c env); pure (ForInStep.yield ok) else pure (ForInStep.yield r)) (fun ok s₃ =>
      if ok = true then wpAny (model prog w) A (eval elt env) (fun x s₄ =>
       wpAny (model prog w) A (call (.builtin "list.append") [acc, x]) (fun _ s₅ => ∃ m, m < n /\ I m s₅) (fun _ _ => False) s₄) (fun _ _ => False) s₃
      else ∃ m, m < n /\ I m s₃) (fun _ _ => False) s₂) (fun _ _ => False) s₁') (fun _ _ => False) s₁) (fun _ _ => False) s)
  (n : Nat) (h : I n s) :
  codeAny (model prog w) A (.compLoop (.ListComp elt [⟨target, iter, ifs, 0⟩] scope pos) 0 it acc env) R s := by
 refine codeAny_loop rfl I (fun n s hI => ?_) n h
 show wpAny _ A ((compTurn (.ListComp elt [⟨target, iter, ifs, 0⟩] scope pos) 0 it acc env).onRaise (fun x => do noteFrame x env; theTreesLotGoes x)) _ _ s
 refine wpAny_noted ?_
 rw [compTurn_list]
 refine wpAny_bind (wpAny_standAt (wpAny_bind (wpAny_mono (turn n s hI) (fun r s₁ h₁ => ?_) fun _ _ h' => h'.elim)))
 cases r with
 | none => exact wpAny_pure h₁
 | some v =>
  refine wpAny_bind (wpAny_mono h₁ (fun _ s₁' h₁' => ?_) fun _ _ h' => h'.elim)
  refine wpAny_bind (wpAny_mono h₁' (fun _ s₂ h₂ => wpAny_bind (wpAny_mono h₂ (fun ok s₃ h₃ => ?_) fun _ _ h' => h'.elim)) fun _ _ h' => h'.elim)
  cases ok with
  | false => exact wpAny_pure ⟨rfl, h₃⟩
  | true =>
   exact wpAny_bind (wpAny_bind (wpAny_mono h₃ (fun x s₄ h₄ => wpAny_bind (wpAny_mono h₄ (fun _ s₅ h₅ => wpAny_pure (wpAny_pure ⟨rfl, h₅⟩)) fun _ _ h' => h'.elim)) fun _ _ h' => h'.elim))
end
structure CompSc (esc : Scope) (N : List Str) (scope : Scope) (k : Nat) (Nc : List Str) (js : List Nat) : Prop where
 kind : scope.kind = .function
 cell : ∀ y ∈ scope.names, y.2 ≠ .cell
 names : ∀ y ∈ scope.names, y.2 = .local -> scope.names.lookup y.1 = some .local
 free : ∀ y ∈ scope.names, y.2 = .free -> esc.names.lookup y.1 = some .cell \/ esc.names.lookup y.1 = some .free
 len : Nc.length = k + js.length
 out : ∀ p ∈ (Nc.drop k).zip js, N[p.2]? = some p.1 /\ scope.names.lookup p.1 = some .free
def compSt (k : Nat) (js : List Nat) (σ : St) : St := List.replicate k none ++ js.map fun j => (σ[j]?).join
def Cx.comp (X : Cx) (pins : List (Addr × Obj)) (Nc : List Str) (scope : Scope) (fp : List Addr) (s : Shared) (H : Hp) (C : Addr) : Cx :=
 { X with N := Nc, s₀ := s, H₀ := H, env := compEnvC scope (freeCells X.env.cells scope.names []) C X.env, outer := X.stack, stack := X.stack, ex := fp, fn := fun _ => false, pn := X.pn ++ pins, xe := fun _ _ => False }
section
variable {X : Cx} {pins : List (Addr × Obj)} {σ : St} {H : Hp} {s : Shared} {scope : Scope} {Nc : List Str} {js : List Nat} {k : Nat}
theorem CompSc.some (S : CompSc X.env.scope X.N scope k Nc js) (I : Inv X pins σ H s) : ∀ y ∈ scope.names, y.2 = .free -> ∃ c, X.env.cells.lookup y.1 = some c := fun y hy hk => I.ok.has y.1 (S.free y hy hk)
theorem CompSc.clos (S : CompSc X.env.scope X.N scope k Nc js) (I : Inv X pins σ H s) : closureFor scope X.env = pure (freeCells X.env.cells scope.names []) := closureFor_eq (S.some I)
theorem comp_ok (S : CompSc X.env.scope X.N scope k Nc js) (I : Inv X pins σ H s) {fp : List Addr} (hf : ∀ b ∈ fp, FpOk X pins H b) (hlt : ∀ b ∈ fp, b < s.heap.objs.size) {C : Addr} (hC : s.heap.objs.size <= C) : (X.comp pins Nc scope fp s H C).Ok := by
 have ltC : ∀ b, b < s.heap.objs.size -> b ≠ C := fun b hb => Nat.ne_of_lt (Nat.lt_of_lt_of_le hb hC)
 have notstk : ∀ b ∈ fp, b ∉ frs X.stack := fun b hb z => by
  rcases List.mem_cons.mp (I.stkSub b z) with e | e
  ·exact (hf b hb).2.1 e
  ·exact (hf b hb).2.2.1 e
 refine ⟨I.ok.mod, S.kind, I.ok.glob, I.ok.blt, hC, fun x y c h1 h2 => I.ok.inj x y c (freeCells_look h1) (freeCells_look h2), fun x hx => ?_, fun x c h => ?_, I.ok.hd, I.ok.frames, .inl rfl, fun b hb => ⟨?_, fun x c e => (hf b hb).2.2.2.2.1 x c (freeCells_look e)⟩,
  fun b o e => ⟨(I.bs b o e).1, (I.bs b o e).2⟩, Nat.le_trans I.ok.bsz I.sz, fun b o e hb => ?_, notstk, I.stack, I.stkFree⟩
 ·have hx' : (relabel scope X.env).names.lookup x = some .cell \/ (relabel scope X.env).names.lookup x = some .free := hx
  have hfree : (x, NameKind.free) ∈ scope.names := by
   rcases hx' with h | h
   ·obtain ⟨k', h1, h2⟩ := relabel_look h
    rcases h2 with rfl | ⟨rfl, _⟩
    ·exact absurd rfl (S.cell _ (PySem.mem_of_lookup h1))
    ·exact PySem.mem_of_lookup h1
   ·obtain ⟨k', h1, h2⟩ := relabel_look h
    rcases h2 with rfl | ⟨rfl, _⟩
    ·exact PySem.mem_of_lookup h1
    ·exact PySem.mem_of_lookup h1
  obtain ⟨c, hc⟩ := S.some I (x, .free) hfree rfl
  exact ⟨c, freeCells_ex hfree hc⟩
 ·exact absurd (show false = true from h) Bool.false_ne_true
 ·exact ltC b (hlt b hb)
 ·rcases (hf b hb).2.2.2.1 with q | q
  ·exact I.ok.noex b o e q
  ·exact absurd (Nat.lt_of_lt_of_le (Heap.lt_size e) (Nat.le_trans I.ok.bsz q)) (Nat.lt_irrefl _)
theorem comp_inv (S : CompSc X.env.scope X.N scope k Nc js) (I : Inv X pins σ H s) {fp : List Addr} (hf : ∀ b ∈ fp, FpOk X pins H b) (hlt : ∀ b ∈ fp, b < s.heap.objs.size) {C : Addr} (hC : s.heap.objs.size <= C) {s1 : Shared}
  (os : s1.os = s.os) (bare : AllBare s1.gens) (kept : ∀ b o, s.heap.get? b = some o -> s1.heap.get? b = some o) (ns : ∃ m, s1.heap.Ns C m) : Inv (X.comp pins Nc scope fp s H C) [] (compSt k js σ) H s1 := by
 have ltC : ∀ b, b < s.heap.objs.size -> b ≠ C := fun b hb => Nat.ne_of_lt (Nat.lt_of_lt_of_le hb hC)
 refine ⟨comp_ok S I hf hlt hC, os, bare, Un.kept kept, ?_, fun x c e => ?_, I.hok.fresh hC, fun x c e => I.freeC x c (freeCells_look e), fun p hp => ?_, I.hok.kept kept, ?_⟩
 ·obtain ⟨mc, hns⟩ := ns
  refine ⟨mc, hns, fun i x v e1 e2 e3 => ?_⟩
  have e1' : Nc[i]? = some x := e1
  by_cases hi : i < k
  ·unfold compSt at e2
   rw [List.getElem?_append_left (by simpa using hi), List.getElem?_replicate, if_pos hi] at e2
   cases e2
  ·obtain ⟨i', rfl⟩ : ∃ i', i = k + i' := ⟨i - k, by omega⟩
   unfold compSt at e2
   rw [List.getElem?_append_right (by simp), List.length_replicate, Nat.add_sub_cancel_left, List.getElem?_map] at e2
   cases ej : js[i']? with
   | none => rw [ej] at e2; cases e2
   | some j =>
    rw [ej] at e2
    have e2' : (σ[j]?).join = some v := Option.some.inj e2
    have e4 : σ[j]? = some (some v) := by
     cases q : σ[j]? with
     | none => rw [q] at e2'; cases e2'
     | some z => rw [q] at e2'; cases z with
      | none => cases e2'
      | some z => cases e2'; rfl
    have hm : (x, j) ∈ (Nc.drop k).zip js := List.mem_of_getElem? (i := i') (List.getElem?_zip_eq_some.mpr ⟨by rw [List.getElem?_drop]; exact e1', ej⟩)
    obtain ⟨hN, hfr⟩ := S.out _ hm
    have hfm : (x, NameKind.free) ∈ scope.names := PySem.mem_of_lookup hfr
    have hk := S.free _ hfm rfl
    obtain ⟨m, hn, hl⟩ := I.loc
    obtain ⟨u, r, l⟩ := hl j x v hN e4 (.inr hk)
    refine ⟨u, r, ?_⟩
    rcases l with ⟨hk', _⟩ | ⟨_, c, hc, o, ho, hd⟩
    ·have hk'' : X.env.scope.names.lookup x = some .local := hk'
     rcases hk with hk | hk
     ·rw [hk] at hk''; cases hk''
     ·rw [hk] at hk''; cases hk''
    ·exact .inr ⟨relabel_free hfr, c, freeCells_ex hfm hc, o, kept _ _ ho, hd⟩
 ·obtain ⟨v, o, ho, hd⟩ := I.cell x c (freeCells_look e)
  exact ⟨v, o, kept _ _ ho, hd⟩
 ·have hp' : p ∈ X.pn ++ pins := by
   rcases List.mem_append.mp hp with z | z
   ·exact z
   ·exact nomatch z
  obtain ⟨e, n, ne, nf, d⟩ := I.pin p hp'
  refine ⟨kept _ _ e, n, ltC _ (Heap.lt_size e), fun z => ?_, d⟩
  rcases List.mem_cons.mp (I.stkSub _ z) with q | q
  ·exact ne q
  ·exact nf q
 ·show (compSt k js σ).length = Nc.length
  unfold compSt
  rw [List.length_append, List.length_replicate, List.length_map, S.len]
theorem comp_back (I : Inv X pins σ H s) {fp : List Addr} (hf : ∀ b ∈ fp, FpOk X pins H b) {C D : Addr} (hDs : s.heap.objs.size <= D) {pins' : List (Addr × Obj)} {σ' : St} {H' : Hp} {s' : Shared} {ys : List V} {its : List Value} {n : Nat}
  (J : Inv (X.comp pins Nc scope fp s H C) pins' σ' H' s') (hD : H' D = none) (hz : ys.length <= sizeLine) (hv : Vals ys its) (ho : s'.heap.get? D = some { cls := .type "list", data := .seq its.toArray n }) :
  Inv X pins σ (upd H' D (.lst ys)) s' := by
 have B : Un (frs X.stack) fp H H' s.heap s'.heap := J.base
 have neD : ∀ b o, s.heap.get? b = some o -> b ≠ D := fun b o e => Nat.ne_of_lt (Nat.lt_of_lt_of_le (Heap.lt_size e) hDs)
 refine I.call' (ch := fp) J.os ⟨B.keep, B.slot, fun b o e n hx => ?_, B.there, fun b xs e => ?_, fun b o u e => ?_, fun b ps e => ?_⟩ (fun b o e => ?_) J.bare fun b hb => ⟨(hf b hb).2.2.2.1, (hf b hb).2.1, (hf b hb).2.2.2.2.1, (hf b hb).2.2.2.2.2⟩
 ·rw [upd_ne (neD b o e)]; exact B.free b o e n hx
 ·rw [upd_ne (ne_of_none (B.tups b xs e) hD)]; exact B.tups b xs e
 ·rw [upd_ne (ne_of_none (B.frzs b o u e) hD)]; exact B.frzs b o u e
 ·obtain ⟨more, q⟩ := B.tbls b ps e
  exact ⟨more, by rw [upd_ne (ne_of_none q hD)]; exact q⟩
 ·by_cases hb : b = D
  ·subst hb
   rw [upd_same] at e
   cases e
   exact ⟨hz, its, n, hv, ho⟩
  ·rw [upd_ne hb] at e
   exact (J.hok b o e).stay (fun c v _ q => q) (fun c q => by rw [upd_ne (ne_of_none q hD)]; exact q) fun c xs q => by rw [upd_ne (ne_of_none q hD)]; exact q
end
def PTs (Y : Cx) (ifs : List Expr) (t : TT) : Prop :=
 ∀ (pins : List (Addr × Obj)) (s : Shared) (σ : St) (H : Hp) (Q : Bool -> Hp -> Prop), Inv Y pins σ H s -> t σ H Q ->
  wpAny (model Y.prog Y.w) Y.A (forIn ifs true fun c r => if r = true then do let ok <- isTrue c Y.env (eval c Y.env); pure (ForInStep.yield ok) else pure (ForInStep.yield r)) (TP Y pins σ Q) Y.xe s
def tYes : TT := fun _ H Q => Q true H
theorem pts_nil {Y : Cx} : PTs Y [] tYes := fun _ _ _ H _ I h => wpAny_tests_nil ⟨H, I, h⟩
theorem pts_one {Y : Cx} {c : Expr} {t : TT} (h : PT Y c t) : PTs Y [c] t := fun pins s σ H Q I hq => wpAny_tests_one (h pins s σ H Q I hq)
def CompTurns (J : It) (g : TG) (tt : TT) (te : TE) (Fin : List V -> Hp -> Prop) (W : Nat -> Nat -> List V -> St -> Hp -> Prop) : Prop :=
 ∀ i m ys σ H, W i m ys σ H -> (J.stop i H /\ ys.length <= sizeLine /\ Fin ys H) \/ (J.go i H /\ ys.length < sizeLine /\ ∃ N : List V -> St -> Hp -> Prop, (∀ ys' σ' H', N ys' σ' H' -> ∃ m', m' < m /\ W (i + 1) m' ys' σ' H') /\
  ∀ x H', J.yld i H x H' -> g x σ H' fun σ2 H2 => tt σ2 H2 fun b H3 => if b = true then te σ2 H3 fun y H4 => N (ys ++ [y]) σ2 H4 else N ys σ2 H3)
section
variable {X : Cx} {pins : List (Addr × Obj)} {σ : St} {H : Hp} {s : Shared} {scope : Scope} {Nc : List Str} {js : List Nat} {k : Nat} {tg iter elt : Expr} {ifs : List Expr} {pos : Pos} {g : TG} {tt : TT} {te : TE}
theorem comp_block {J : It} {fp : List Addr} {it : Addr} {tn : Nat -> Heap -> Prop} {Fin : List V -> Hp -> Prop} {W : Nat -> Nat -> List V -> St -> Hp -> Prop} {RR : Value -> Addr -> Result -> Shared -> Prop} {E : Value -> Shared -> Prop} {m0 : Nat}
  (S : CompSc X.env.scope X.N scope k Nc js) (hc : X.calm = true) (I : Inv X pins σ H s) (T : Turn X.prog X.w X.K tg J fp it tn) (st : tn 0 s.heap) (hf : ∀ b ∈ fp, FpOk X pins H b)
  (hg : ∀ pins fp s H C, PG (X.comp pins Nc scope fp s H C) tg g) (ht : ∀ pins fp s H C, PTs (X.comp pins Nc scope fp s H C) ifs tt) (he : ∀ pins fp s H C, PE (X.comp pins Nc scope fp s H C) elt te)
  (w0 : W 0 m0 [] (compSt k js σ) H) (turn : CompTurns J g tt te Fin W)
  (hRR : ∀ D C s' ys H', Inv X pins σ (upd H' D (.lst ys)) s' -> FpOk X pins (upd H' D (.lst ys)) C -> (∃ m, s'.heap.Ns C m) -> H' D = none -> Fin ys H' -> RR (.ref D) C (.ok .next) s') :
  wpAny (model X.prog X.w) X.A (newList []) (fun acc s₃ => wpAny (model X.prog X.w) X.A (newFunctionEnv scope X.env.globals (freeCells X.env.cells scope.names []) [] X.env.qual none .none (some X.env)) (fun cenv s₄ =>
   codeAny (model X.prog X.w) X.A (.compStart (.ListComp elt [⟨tg, iter, ifs, 0⟩] scope pos) 0 (.ref it) acc { cenv with scope := relabel scope X.env }) (RR acc cenv.locals) s₄) E s₃) E s := by
 refine wpAny_newObj_type (wpAny_newFunctionEnv S.cell (by intro y hy; simp at hy) (fun h₁ hns₁ hsb₁ => ?_) S.kind)
 dsimp only at hns₁ hsb₁ ⊢
 generalize hH2 : s.heap.push { cls := .type "list", dict := none, data := .seq ([] : List Value).toArray } = H2 at hns₁ hsb₁ ⊢
 have hC : H2.objs.size = s.heap.objs.size + 1 := by rw [<- hH2, Heap.size_push]
 have hCle : s.heap.objs.size <= H2.objs.size := by rw [hC]; exact Nat.le_succ _
 have hDC : s.heap.objs.size ≠ H2.objs.size := by rw [hC]; exact Nat.ne_of_lt (Nat.lt_succ_self _)
 have old : ∀ b o, s.heap.get? b = some o -> h₁.get? b = some o := fun b o e =>
  hsb₁.extBut b o (Nat.ne_of_lt (Nat.lt_of_lt_of_le (Heap.lt_size e) hCle)) (Heap.get?_push_of_some _ (hH2 ▸ Heap.get?_push_of_some _ e))
 have hacc : h₁.get? s.heap.objs.size = some { cls := .type "list", data := .seq ([] : List Value).toArray 0 } := hsb₁.extBut _ _ hDC (Heap.get?_push_of_some _ (hH2 ▸ Heap.get?_push_size _ rfl))
 have hob : ∀ b ∈ fp, ∃ o, s.heap.get? b = some o := fun b hb => let ⟨o, e, _⟩ := T.obj 0 _ st b hb; ⟨o, e⟩
 have hlt : ∀ b ∈ fp, b < s.heap.objs.size := fun b hb => let ⟨_, e⟩ := hob b hb; Heap.lt_size e
 have notstk : ∀ b ∈ fp, b ∉ frs X.stack := fun b hb z => by
  rcases List.mem_cons.mp (I.stkSub b z) with e | e
  ·exact (hf b hb).2.1 e
  ·exact (hf b hb).2.2.1 e
 have hDstk : s.heap.objs.size ∉ frs X.stack := fun z => by
  rcases List.mem_cons.mp (I.stkSub _ z) with e | e
  ·have := I.lt
   rw [<- e] at this
   exact Nat.lt_irrefl _ this
  ·exact I.nofs (Nat.le_refl _) e
 let dpin : List Value -> Nat -> List (Addr × Obj) := fun its n => [(s.heap.objs.size, { cls := .type "list", data := .seq its.toArray n })]
 have fpok : ∀ {H' : Hp} {its : List Value} {n : Nat}, (∀ b ∈ fp, H' b = none) -> ∀ b ∈ fp, FpOk (X.comp pins Nc scope fp s H H2.objs.size) (dpin its n) H' b := fun {H' its n} hn b hb =>
  ⟨hn b hb, Nat.ne_of_lt (Nat.lt_of_lt_of_le (hlt b hb) hCle), notstk b hb, .inl hb, fun x c e => (hf b hb).2.2.2.2.1 x c (freeCells_look e), fun p hp z => by
   rcases List.mem_append.mp hp with q | q
   ·exact (hf b hb).2.2.2.2.2 p q z
   ·have e : p = (s.heap.objs.size, _) := List.mem_singleton.mp q
    rw [e] at z
    exact absurd (hlt b hb) (by rw [<- z]; exact Nat.lt_irrefl _)⟩
 have loop : ∀ s₃ : Shared, s₃ = { s with heap := h₁, toks := s.toks + ([] : List (Str × Value)).length } ->
   codeAny (model X.prog X.w) X.A (.compLoop (.ListComp elt [⟨tg, iter, ifs, 0⟩] scope pos) 0 (.ref it) (.ref s.heap.objs.size) (compEnvC scope (freeCells X.env.cells scope.names []) H2.objs.size X.env)) (RR (.ref s.heap.objs.size) H2.objs.size) s₃ := by
  rintro s₃ rfl
  refine compLoop_go (fun n s' => ∃ i ys its nn σc H', Inv (X.comp pins Nc scope fp s H H2.objs.size) [] σc H' s' /\ tn i s'.heap /\ (∀ b ∈ fp, H' b = none) /\ H' s.heap.objs.size = none /\ Vals ys its /\
   s'.heap.get? s.heap.objs.size = some { cls := .type "list", data := .seq its.toArray nn } /\ W i n ys σc H') ?_ m0 ?_
  ·rintro n s3 ⟨i, ys, its, nn, σ3, H3, I3, st3, fr3, hD3, hv3, ho3, w3⟩
   have I3' : Inv (X.comp pins Nc scope fp s H H2.objs.size) (dpin its nn) σ3 H3 s3 := I3.pins_of fun p hp => by
    have e : p = (s.heap.objs.size, _) := List.mem_singleton.mp hp
    subst e
    exact ⟨ho3, hD3, hDC, hDstk, fun v z => by cases z⟩
   rcases turn i n ys σ3 H3 w3 with ⟨stop, hz, fin⟩ | ⟨go, hz, N, hN, step⟩
   ·refine thn (T.done (X.comp pins Nc scope fp s H H2.objs.size) rfl rfl rfl hc i (dpin its nn) s3 σ3 H3 (fun _ _ => False) I3' (fpok fr3) st3 stop) fun r s4 ⟨hr, I4⟩ => ?_
    subst hr
    have ho4 := (I4.pin _ (List.mem_append_right _ (List.mem_singleton.mpr rfl))).1
    obtain ⟨m4, hn4, _⟩ := I4.loc
    refine hRR _ _ s4 ys H3 (comp_back I hf (Nat.le_refl _) I4 hD3 hz hv3 ho4) (I.fpOk hCle ?_) ⟨m4, hn4⟩ hD3 fin
    rw [upd_ne (Ne.symm hDC)]
    exact I4.free
   ·refine thn (T.item (X.comp pins Nc scope fp s H H2.objs.size) rfl rfl rfl hc i (dpin its nn) s3 σ3 H3 (fun _ _ => False) I3' (fpok fr3) st3 go) fun r s4 ⟨u, hr, h4⟩ => ?_
    subst hr
    refine thn h4 fun _ s5 ⟨x, H5, I5, r5, y5, st5, fr5⟩ => ?_
    have I5' := I5.pinned (fpok fr5) (T.obj _ _ st5)
    refine thn (hg pins fp s H H2.objs.size _ s5 σ3 H5 x u _ I5' r5 (step x H5 y5)) fun _ s6 ⟨σ6, H6, I6, q6⟩ => ?_
    refine thn (ht pins fp s H H2.objs.size _ s6 σ6 H6 _ I6 q6) fun ok s7 ⟨H7, I7, q7⟩ => ?_
    have keepIt : ∀ {σ' : St} {H' : Hp} {s' : Shared}, Inv (X.comp pins Nc scope fp s H H2.objs.size) (dpin its nn ++ pinsAt fp s5.heap) σ' H' s' ->
      s'.heap.get? s.heap.objs.size = some { cls := .type "list", data := .seq its.toArray nn } /\ H' s.heap.objs.size = none /\ (∀ b ∈ fp, H' b = none) /\ (∀ b ∈ fp, ∀ o, s5.heap.get? b = some o -> s'.heap.get? b = some o) := fun {σ' H' s'} J => by
     have p1 := J.pin (s.heap.objs.size, _) (List.mem_append_right _ (List.mem_append_left _ (List.mem_singleton.mpr rfl)))
     refine ⟨p1.1, p1.2.1, fun b hb => ?_, fun b hb o e => (J.pin (b, o) (List.mem_append_right _ (List.mem_append_right _ (mem_pinsAt hb e)))).1⟩
     obtain ⟨o, e, _⟩ := T.obj _ _ st5 b hb
     exact (J.pin (b, o) (List.mem_append_right _ (List.mem_append_right _ (mem_pinsAt hb e)))).2.1
    cases ok with
    | true =>
     rw [if_pos rfl] at q7 ⊢
     refine thn (he pins fp s H H2.objs.size _ s7 σ6 H7 _ I7 q7) fun y s8 ⟨v, H8, I8, r8, q8⟩ => ?_
     obtain ⟨ho8, hD8, fr8, k8⟩ := keepIt I8
     refine append_at (hsz := by have := hv3.length; show its.toArray.size <= sizeLine; rw [List.size_toArray, <- this]; exact Nat.le_of_lt hz) ho8 fun h9 hs9 ho9 => ?_
     obtain ⟨m', hm', w9⟩ := hN _ _ _ q8
     have I8u : Inv (X.comp pins Nc scope fp s H H2.objs.size) [] σ6 H8 s8 := I8.pins_of fun p hp => nomatch hp
     have I9 : Inv (X.comp pins Nc scope fp s H H2.objs.size) [] σ6 H8 { s8 with heap := h9 } := I8u.turned (t' := s8.toks) (it := s.heap.objs.size) (fun b o hb e => (hs9.2 b hb).trans e) hD8 hDC (.inr (Nat.le_refl _)) (fun x c e z => by
      obtain ⟨v, q⟩ := I.cell x c (freeCells_look e)
      exact absurd q.lt (by rw [z]; exact Nat.lt_irrefl _)) fun p hp z => by
       have hp' : p ∈ X.pn ++ pins := by
        rcases List.mem_append.mp hp with q | q
        ·exact q
        ·exact nomatch q
       exact absurd (Heap.lt_size (I.pin p hp').1) (by rw [z]; exact Nat.lt_irrefl _)
     refine ⟨m', hm', i + 1, ys ++ [v], its ++ [y], nn + 1, σ6, H8, I9, T.keep _ _ _ st5 fun b hb o e => (hs9.2 b (Nat.ne_of_lt (hlt b hb))).trans (k8 b hb o e), fr8, hD8, hv3.append (.cons r8 .nil), ?_, w9⟩
     show h9.get? s.heap.objs.size = _
     rw [ho9]
     simp
    | false =>
     rw [if_neg Bool.false_ne_true] at q7 ⊢
     obtain ⟨ho8, hD8, fr8, k8⟩ := keepIt I7
     obtain ⟨m', hm', w9⟩ := hN _ _ _ q7
     exact ⟨m', hm', i + 1, ys, its, nn, σ6, H7, I7.pins_of fun p hp => (nomatch hp), T.keep _ _ _ st5 k8, fr8, hD8, hv3, ho8, w9⟩
  ·exact ⟨0, [], [], 0, _, H, comp_inv S I hf hlt hCle rfl I.bare old ⟨_, hns₁⟩, T.keep _ _ _ st fun b _ o e => old b o e, fun b hb => (hf b hb).1, I.hok.fresh (Nat.le_refl _), .nil, hacc, w0⟩
 exact codeAny_compStart_list (loop _ rfl) (T.self X.A 0 _ _ _ (T.keep _ _ _ st fun b _ o e => old b o e) (loop _ rfl))
def tComp (wi : TI) (k : Nat) (js : List Nat) (g : TG) (tt : TT) (te : TE) : TE := fun σ H Q => wi σ H fun J H1 => ∃ W : Nat -> Nat -> List V -> St -> Hp -> Prop, (∃ m, W 0 m [] (compSt k js σ) H1) /\
 CompTurns J g tt te (fun ys H => ∀ D, H D = none -> Q (.ref D) (upd H D (.lst ys))) W
theorem pe_comp {wi : TI} (S : CompSc X.env.scope X.N scope k Nc js) (hc : X.calm = true) (hi : PI X tg iter wi)
  (hg : ∀ pins fp s H C, PG (X.comp pins Nc scope fp s H C) tg g) (ht : ∀ pins fp s H C, PTs (X.comp pins Nc scope fp s H C) ifs tt) (he : ∀ pins fp s H C, PE (X.comp pins Nc scope fp s H C) elt te)
  (hs : ∀ x, foldedSetIterable iter X.env x = pure x := by intro _; rfl) : PE X (.ListComp elt [⟨tg, iter, ifs, 0⟩] scope pos) (tComp wi k js g tt te) := by
 intro pins s σ H Q I h
 rw [eval_ListComp]
 refine wpAny_comprehension_free (use := none) rfl hs (S.clos I) S.kind S.names (thn (hi pins s σ H _ I h) fun xv s1 h1 => thn h1 fun itv s2 h2 => ?_)
 obtain ⟨it, fp, tn, J, H2, e, I2, T, st2, f2, W, ⟨m0, w0⟩, turn⟩ := h2
 subst e
 refine comp_block (RR := fun acc C => compPost (model X.prog X.w) X.A X.xe none (EP X pins σ Q) acc C) S hc I2 T st2 f2 hg ht he w0 turn fun D C s' ys H' I' fC ns hD fin => ?_
 obtain ⟨m, hn⟩ := ns
 exact ⟨m, hn, fun h' hs' => ⟨.ref D, _, I'.turned (t' := s'.toks) (fun b o hb e => (hs'.2 b hb).trans e) fC.1 fC.2.1 fC.2.2.2.1 fC.2.2.2.2.1 fC.2.2.2.2.2, rfl, fin D hD⟩⟩
theorem ps_setcomp {wi : TI} {i : Nat} {x : Str} {px spos : Pos} (hN : X.N.Nodup) (hi' : X.N[i]? = some x) (hx : Loc X.env.scope x) (S : CompSc X.env.scope X.N scope k Nc js) (hc : X.calm = true) (hi : PI X tg iter wi)
  (hg : ∀ pins fp s H C, PG (X.comp pins Nc scope fp s H C) tg g) (ht : ∀ pins fp s H C, PTs (X.comp pins Nc scope fp s H C) ifs tt) (he : ∀ pins fp s H C, PE (X.comp pins Nc scope fp s H C) elt te)
  (hsw : swapsWith (.ListComp elt [⟨tg, iter, ifs, 0⟩] scope pos) (some (.Name x px)) spos.line X.env = pure true := by rfl)
  (hs : ∀ x, foldedSetIterable iter X.env x = pure x := by intro _; rfl) (hf : X.fn x = true \/ X.env.scope.names.lookup x = some .local := by first | exact .inl rfl | exact .inr rfl | assumption) :
  PS X (.Assign [.Name x px] (.ListComp elt [⟨tg, iter, ifs, 0⟩] scope pos) spos) (tAsg (tComp wi k js g tt te) (gName i)) := by
 intro pins s σ H D I h
 rw [exec_Assign_Name_used _ _ _ _ hsw]
 refine wpAny_bind (wpAny_standAt (wpAny_bind ?_))
 show wpAny _ X.A (do let _ <- comprehension (.ListComp elt [⟨tg, iter, ifs, 0⟩] scope pos) scope X.env _ (newList []) false (eval iter X.env) (some (assign (.Name x px) X.env))) _ _ s
 refine wpAny_bind (wpAny_mono (wpAny_comprehension_free (use := some (assign (.Name x px) X.env)) (Q := fun _ s' => SP X pins D .next s') rfl hs (S.clos I) S.kind S.names
  (thn (hi pins s σ H _ I h) fun xv s1 h1 => thn h1 fun itv s2 h2 => ?_)) (fun _ s' hq => wpAny_pure (wpAny_pure hq)) fun _ _ e => e)
 obtain ⟨it, fp, tn, J, H2, e, I2, T, st2, f2, W, ⟨m0, w0⟩, turn⟩ := h2
 subst e
 refine comp_block (RR := fun acc C => compPost (model X.prog X.w) X.A X.xe (some (assign (.Name x px) X.env)) (fun _ s' => SP X pins D .next s') acc C) S hc I2 T st2 f2 hg ht he w0 turn fun A C s' ys H' I' fC ns hD fin => ?_
 obtain ⟨m, hn⟩ := ns
 show wpAny _ X.A (assign (.Name x px) X.env (.ref A)) _ _ _
 refine wpAny_assign_Name (store_ok2 I' hN hi' hx (v := .ref A) rfl (fun s'' I'' ⟨a, sb, ha⟩ => ?_) hf)
 have hCa : C ≠ a := by
  rcases ha with ha | ha
  ·rw [ha]; exact fC.2.1
  ·exact fun z => fC.2.2.2.2.1 x a ha z.symm
 exact ⟨m, hn.sameBut sb hCa, fun h' hs' => ⟨_, _, I''.turned (t' := s''.toks) (fun b o hb e => (hs'.2 b hb).trans e) fC.1 fC.2.1 fC.2.2.2.1 fC.2.2.2.2.1 fC.2.2.2.2.2, fin A hD⟩⟩
end
end L2
namespace L2
open PySem PySem.Spec PyProof.Rows
section
variable {X : Cx} {tg : Expr}
def rSlS : V -> Option Int -> Option Int -> Hp -> VK -> Prop := fun x lo hi H Q => ∃ z, x = .str z /\ z.length <= sizeLine /\ Q (.str (Txt.slice z lo hi)) H
theorem sl_str : SlR X rSlS := by
 intro pins s σ H x v vl vu lo hi sl Q I rx hs pl pu h
 obtain ⟨z, rfl, hz, q⟩ := h
 obtain ⟨t, rfl⟩ := rx
 refine ⟨"str", _, PySem.F.slot_str_getitem.lookup, typeIs_str _ _ _, ?_⟩
 have fin : ∀ t' k, EP X pins σ Q (.str (Txt.slice z lo hi) t') { s with toks := k } := fun t' k => ⟨.str _, H, I.tok k, ⟨t', rfl⟩, q⟩
 cases pl with
 | none =>
  cases pu with
  | none => exact wpAny_getItem_str_slice (l := none) (u := none) (st := none) hs rfl (post_val_or_str ⟨Nat.le_trans (Txt.slice_le z _ _) hz, fin⟩)
  | int j tj => exact wpAny_getItem_str_slice (l := none) (u := some (j, tj)) (st := none) hs rfl (post_val_or_str ⟨Nat.le_trans (Txt.slice_le z _ _) hz, fin⟩)
 | int i ti =>
  cases pu with
  | none => exact wpAny_getItem_str_slice (l := some (i, ti)) (u := none) (st := none) hs rfl (post_val_or_str ⟨Nat.le_trans (Txt.slice_le z _ _) hz, fin⟩)
  | int j tj => exact wpAny_getItem_str_slice (l := some (i, ti)) (u := some (j, tj)) (st := none) hs rfl (post_val_or_str ⟨Nat.le_trans (Txt.slice_le z _ _) hz, fin⟩)
theorem op_mulB : OpR X (binaryOp .Mult) (rI IntMulOk fun i j => .int (i * j)) := opI fun _ _ _ _ _ _ _ hc q => mul_int q hc
theorem call_isT : CallR X (.builtin "isinstance") (fun xs H Q => ∃ x t T b, xs = [x, .ty T] /\ TyOf X.K H x t /\ PySem.W.kitOne X.K t (.type T) = some b /\ Q (.bl b) H) := by
 intro pins s σ H xs us Q I r h
 obtain ⟨x, t, T, b, rfl, ty, e, q⟩ := h
 obtain ⟨u, c, rfl, ru, rc⟩ := vals2 r
 have ec : c = .type T := rc
 subst ec
 exact isinst_ok I ru ty e fun tk => ⟨.bl b, H, I.tok tk, rfl, q⟩
def rCatS (K : PySem.W.Frag) : R2 := fun x y H Q => ∃ l b xs zs, x = .ref l /\ y = .ref b /\ SqL K H l xs /\ SqL K H b zs /\ xs.length + zs.length <= sizeLine /\ ∀ p, H p = none -> Q (.ref p) (upd H p (.lst (xs ++ zs)))
theorem op_catS : OpR X (binaryOp .Add) (rCatS X.K) := by
 intro pins s σ H x y v u Q I rx ry h
 obtain ⟨l, b, xs, zs, rfl, rfl, hH, hB, hz, q⟩ := h
 cases rx
 cases ry
 obtain ⟨its, r, pl, z1⟩ := I.list hH
 obtain ⟨its2, r2, pl2, z2⟩ := I.list hB
 have hl1 := r.length
 have hl2 := r2.length
 obtain ⟨⟨cls, dd, data, sl⟩, n, ho, hc, _, hd⟩ := pl
 obtain ⟨⟨cls2, dd2, data2, sl2⟩, n2, ho2, hc2, _, hd2⟩ := pl2
 simp only at hc hd hc2 hd2
 subst hc hd hc2 hd2
 refine concat_meets ⟨_, ho, rfl⟩ ⟨_, ho2, rfl⟩ noFill_list_add seq_list_add PySem.F.slot_list_add PySem.F.entry_list_add (PySem.F.args_list_add_2 _ _) (list_addW l b its.toArray its2.toArray n n2 dd dd2 sl sl2 (by rw [List.size_toArray, List.size_toArray]; omega)) ⟨ho, ho2, ?_⟩
 have ea : its.toArray ++ its2.toArray = (its ++ its2).toArray := by simp
 rw [ea]
 exact ⟨.ref _, _, I.lnew (t' := s.toks) (r.append r2) (by rw [List.length_append]; omega), rfl, q _ I.fresh⟩
end
end L2
namespace L2
open PySem PySem.Spec PyProof.Rows
section
variable {X : Cx}
end
end L2
namespace L2
open PySem PySem.Spec PyProof.Rows
theorem yes_eq {te : TE} {N N' : V -> St -> Hp -> Prop} {M : St -> Hp -> Prop} : (fun (σ2 : St) (H2 : Hp) => tYes σ2 H2 fun b H3 => if b = true then te σ2 H3 fun y H4 => N y σ2 H4 else M σ2 H3) = fun σ2 H2 => te σ2 H2 fun y H4 => N y σ2 H4 := by
 funext σ2 H2
 unfold tYes
 dsimp only
 rw [if_pos rfl]
end L2
namespace L2
open PySem PySem.Spec PyProof.Rows
def constV (e : Expr) : Option V := match e with
 | .Constant (.str x) _ _ => some (.str x)
 | .Constant (.int i) _ _ => some (.int i)
 | .Constant (.bool b) _ _ => some (.bl b)
 | .Constant .none _ _ => some .non
 | _ => none
def constVs : List Expr -> Option (List V)
 | [] => some []
 | e :: es => match constV e, constVs es with
  | some v, some vs => some (v :: vs)
  | _, _ => none
def tVals (vs : List V) : TA := fun _ H Q => Q vs H
theorem pe_const {X : Cx} {e : Expr} {v : V} (h : constV e = some v) : PE X e (tC v) /\ ∀ es, starEach (e :: es) X.env = (false, eval e X.env) :: starEach es X.env := by
 unfold constV at h
 split at h
 ·cases h; exact ⟨pe_str, fun _ => rfl⟩
 ·cases h; exact ⟨pe_int, fun _ => rfl⟩
 ·cases h; exact ⟨pe_bl, fun _ => rfl⟩
 ·cases h; exact ⟨pe_non, fun _ => rfl⟩
 ·cases h
theorem pa_const {X : Cx} : ∀ {es : List Expr} {vs : List V}, constVs es = some vs -> PA X es (tVals vs)
 | [], vs, h => by cases h; exact pa_nil
 | e :: es, vs, h => by
  unfold constVs at h
  split at h
  ·rename_i v ws h1 h2
   cases h
   obtain ⟨p, s⟩ := pe_const (X := X) h1
   exact pa_cons p (pa_const h2) (s es)
  ·cases h
end L2
namespace L2
open PySem PySem.Spec PyProof.Rows
section
variable {X : Cx}
theorem oi_add : OpR X (binaryOp .Add) (fun x y H Q => ∃ i j, x = .int i /\ y = .int j /\ Q (.int (i + j)) H) := op_add
theorem oi_sub : OpR X (binaryOp .Sub) (fun x y H Q => ∃ i j, x = .int i /\ y = .int j /\ Q (.int (i - j)) H) := op_sub
theorem oi_mul : OpR X (binaryOp .Mult) (fun x y H Q => ∃ i j, x = .int i /\ y = .int j /\ IntMulOk i j /\ Q (.int (i * j)) H) := op_mulB
theorem oi_fdiv : OpR X (binaryOp .FloorDiv) (fun x y H Q => ∃ i j, x = .int i /\ y = .int j /\ (0 < j /\ j < 1073741824) /\ Q (.int (i / j)) H) := op_fdiv
theorem oi_mod : OpR X (binaryOp .Mod) (fun x y H Q => ∃ i j, x = .int i /\ y = .int j /\ 0 < j /\ Q (.int (i % j)) H) := op_mod
theorem oi_pow : OpR X (binaryOp .Pow) (fun x y H Q => ∃ i j, x = .int i /\ y = .int j /\ (0 <= j /\ j <= 1000000 /\ i.natAbs < 2 ^ 64) /\ Q (.int (i ^ j.toNat)) H) := op_pow
theorem oi_lt : OpR X (compareOp .Lt) (fun x y H Q => ∃ i j, x = .int i /\ y = .int j /\ Q (.bl (decide (i < j))) H) := op_lt
theorem oi_le : OpR X (compareOp .LtE) (fun x y H Q => ∃ i j, x = .int i /\ y = .int j /\ Q (.bl (decide (i <= j))) H) := op_le
theorem oi_gt : OpR X (compareOp .Gt) (fun x y H Q => ∃ i j, x = .int i /\ y = .int j /\ Q (.bl (decide (j < i))) H) := op_gt
theorem oi_ge : OpR X (compareOp .GtE) (fun x y H Q => ∃ i j, x = .int i /\ y = .int j /\ Q (.bl (decide (j <= i))) H) := op_ge
end
end L2
namespace Att
open PySem PySem.W PySem.Calls PyProof.Rows
theorem script_bits {ns : List Int} (h : WData.layableAll [WData.list (ns.map WData.int)] = true) : ∀ n ∈ ns, Builtin.Int.intBits n <= 2 ^ 20 := fun n hn => by
 have h1 := layableW_arg h _ (List.mem_singleton.mpr rfl)
 have h2 := layableW_item h1 (WData.int n) (List.mem_map.mpr ⟨n, hn, rfl⟩)
 exact PyData.bits_of_layable (layable0_of_all (lay0_int h2))
theorem attach_callB {l : OpenLaw} {n : Nat} {q : Program} {loose : List Str} {XP : (Str -> Option Value) -> Heap -> Prop} {YP : World -> Heap -> Prop} {d : DefRec}
  (hn : l.most = some n) (hdf : d.params.defaults = [])
  (call : ∀ (w : World) (s₀ s₁ : Shared) (mg mb : Str -> Option Value) (fa : Addr) (o : Obj) (pm cd doc : Value) (a : Addr) (vs : List Value) (ns : List Int),
   Ground q loose [] XP w s₀ mg mb s₁.heap -> YP w s₁.heap ->
   s₁.heap.get? fa = some o -> o.data = .func (docDef d.name d.params d.body d.scope pm cd doc) -> s₁.heap.CodeRec cd d.name -> mg d.name = some (.ref fa) ->
   s₁.heap.get? a = some { cls := .type "list", data := .seq vs.toArray } -> IntsAre vs ns -> ns.length <= n -> (∀ k ∈ ns, Builtin.Int.intBits k <= 2 ^ 20) -> s₁.gens = #[] ->
   codeAny (model l.prog w) callerA (.call (.ref fa) ⟨[.ref a], []⟩) (fun r s' => r = .ok (.ret (.bool true)) /\ OldK s₁.heap s'.heap /\ s'.os = s₁.os /\ AllBare s'.gens) s₁) :
  WalkO q loose XP YP l.row.toRowW d [] (fun f vs => PySem.call f vs) := by
 intro w s₀ s₁ mg mb G Y fa o pm cd doc dV kV ho hd hcd hD hmg hg args vals as hpre hlay hrd hwl hlo
 obtain rfl : dV = .none := Dflts.none hD hdf
 obtain rfl : kV = .none := Dflts.noKw hD
 obtain ⟨a, vs, ns, rfl, rfl, hobj, hints, hlen⟩ := script_of hn hpre hwl
 refine enter_call (codeAny_mono (call w s₀ s₁ mg mb fa o pm cd doc a vs ns G Y ho (fd_plain hd) hcd hmg hobj hints hlen (script_bits hlay) hg) fun r s' hq => ?_)
 obtain ⟨rfl, h2, h3, h4⟩ := hq
 exact ⟨.inl ⟨.bool true, .bool true, [], rfl, fun _ => rfl, .bool true, post_true l _, fun _ => ⟨List.Pairwise.nil, fun _ hm => (nomatch hm)⟩⟩, h2, h3, h4⟩
end Att
namespace L2
open PySem PySem.Spec PyProof.Rows
theorem walk_ofB {l : PySem.W.OpenLaw} {n k : Nat} {q : Program} {loose : List Str} {XP : (Str -> Option Value) -> Heap -> Prop} {YP : World -> Heap -> Prop} {d : DefRec} {K : Params -> PySem.W.Frag} {CX : World -> CXT} {sp : World -> Sp} {x : Str}
  (hn : l.most = some n) (hn2 : n <= sizeLine) (hdf : d.params.defaults = []) (hr : Room k callerA)
  (hY : ∀ (w : World) (h : Heap), YP w h -> (K w.params).In h)
  (F : ∀ (w : World) (mg : Str -> Option Value) (fa : Addr) (h : Heap), (K w.params).In h -> h.Ns mainGlobals mg -> mg d.name = some (.ref fa) ->
   ∃ fd : FuncData, (∀ (s : Shared) (u : Value), BindsTo s fd ⟨[u], []⟩ [(x, u)]) /\
    ∀ base : Heap, (K w.params).In base -> base.Ns mainGlobals mg -> FnOk l.prog w (K w.params) mg base (CX w) k fa fd [x] (sp w))
  (hsp : ∀ (w : World) (H : Hp) (a : Addr) (ns : List Int), ns.length <= n -> (∀ k ∈ ns, Builtin.Int.intBits k <= 2 ^ 20) -> Only H -> SqL (K w.params) H a (ns.map V.int) -> sp w [.ref a] H (fun v _ => v = .bl true) fun _ _ _ => False)
  (hCX : ∀ (w : World) (H : Hp) (s : Shared) (e : Value) (s' : Shared), CX w [] H s (fun _ _ _ => False) e s' -> False) :
  PySem.W.WalkO q loose XP YP l.row.toRowW d [] (fun f vs => PySem.call f vs) := by
 refine Att.attach_callB hn hdf fun w s₀ s₁ mg mb fa o pm cd doc a vs ns G Y ho hd hcd hmg hobj hints hlen hbits hg => ?_
 have KX := hY w _ Y
 obtain ⟨fd, hb, hF⟩ := F w mg fa _ KX G.T.g hmg
 exact law_call KX G.T.g G.T.b G.T.builtins G.T.nolimit hg hobj hints (Nat.le_trans hlen hn2) hr hF hb (fun H hO hS => hsp w H a ns hlen hbits hO hS) fun H e s' => hCX w H s₁ e s'
theorem Same.new {H : Hp} {p : Addr} (h : H p = none) (o : HO) : Same H (upd H p o) := fun b u q => by rw [upd_ne (ne_of_none q h)]; exact q
theorem len_le_line {n m : Nat} (h : n <= m) (hm : m <= 1000000 := by decide) : n <= sizeLine := Nat.le_trans h (Nat.le_trans hm (by rw [sizeLine_eq]; decide))
theorem str_len_append (x y : Str) : (x ++ y).length = x.length + y.length := strLen_append x y
end L2
namespace L2
open PySem PySem.Spec PyProof.Rows
theorem join0' {L Pc c A B : Prop} {inst : Decidable c} (hw : ¬ c -> Pc) (rest : Pc -> L) (h : c -> (Pc -> L) -> A) (e : B = L := by rfl) : @ite Prop c inst A B := by
 subst e
 by_cases hc : c
 ·rw [if_pos hc]; exact h hc rest
 ·rw [if_neg hc]; exact rest (hw hc)
end L2
namespace L2
open PySem PySem.Spec PyProof.Rows
def SIt (h : Heap) : Bool -> Addr -> Addr -> Nat -> Prop
 | false, it, l, k => h.IsListIter it l k
 | true, it, l, k => h.IsTupleIter it l k
def SSq (h : Heap) : Bool -> Addr -> Array Value -> Prop
 | false, l, xs => h.IsList l xs
 | true, l, xs => h.IsTuple l xs
theorem SIt.obj {h : Heap} : ∀ {b : Bool} {it l : Addr} {k : Nat}, SIt h b it l k -> ∃ o, h.get? it = some o /\ ∃ vs, o.data = .fields vs
 | false, _, _, _, ⟨o, e, _, d⟩ => ⟨o, e, _, d⟩
 | true, _, _, _, ⟨o, e, _, d⟩ => ⟨o, e, _, d⟩
theorem SIt.keep {h h' : Heap} : ∀ {b : Bool} {it l : Addr} {k : Nat}, SIt h b it l k -> (∀ o, h.get? it = some o -> h'.get? it = some o) -> SIt h' b it l k
 | false, _, _, _, ⟨o, e, r⟩, f => ⟨o, f o e, r⟩
 | true, _, _, _, ⟨o, e, r⟩, f => ⟨o, f o e, r⟩
theorem SSq.keep {h h' : Heap} : ∀ {b : Bool} {l : Addr} {xs : Array Value}, SSq h b l xs -> (∀ o, h.get? l = some o -> h'.get? l = some o) -> SSq h' b l xs
 | false, _, _, ⟨o, e, r⟩, f => ⟨o, f o e, r⟩
 | true, _, _, ⟨o, e, r⟩, f => ⟨o, f o e, r⟩
theorem SSq.obj {h : Heap} : ∀ {b : Bool} {l : Addr} {xs : Array Value}, SSq h b l xs -> ∃ o, h.get? l = some o /\ ∃ n, o.data = .seq xs n
 | false, _, _, ⟨o, e, _, n, d⟩ => ⟨o, e, n, d⟩
 | true, _, _, ⟨o, e, _, n, d⟩ => ⟨o, e, n, d⟩
section
variable {prog : Program} {w : World} {A : Around} {E : Value -> Shared -> Prop} {s : Shared}
theorem nxt_tup_item {it t : Addr} {k : Nat} {xs : Array Value} {x : Value} {Q : Value -> Shared -> Prop} (hi : s.heap.IsTupleIter it t k) (ht : s.heap.IsTuple t xs) (hx : xs[k]? = some x)
  (q : ∀ g, g.IsTupleIter it t (k + 1) -> Heap.SameBut it s.heap g -> Q x { s with heap := g }) : wpAny (model prog w) A (Builtin.SmallTypes.nextOf (.ref it)) Q E s := by
 obtain ⟨o, e, c, d⟩ := id hi
 obtain ⟨ot, et, _, nt, dt⟩ := ht
 unfold Builtin.SmallTypes.nextOf
 refine wpAny_bind (wpAny_callSpecial?_slot (name := Str.ofString "__next__") hi.typeIs PySem.F.slot_tuple_iterator_next (wpAny_call_entry PySem.F.slot_tuple_iterator_next hi.typeIs PySem.F.entry_tuple_iterator_next ?_ (PySem.F.args_tuple_iterator_next_1 _)))
 show wpAny _ _ (field (.ref it) 0 >>= _) _ _ _; refine wpAny_bind (wpAny_field e d (x := .ref t) rfl ?_)
 show wpAny _ _ (if (Value.ref t == Value.none) = true then _ else _) _ _ _; rw [if_neg (show ¬ (Value.ref t == Value.none) = true from Bool.false_ne_true)]
 show wpAny _ _ (field (.ref it) 1 >>= _) _ _ _; refine wpAny_bind (wpAny_field e d (x := .int k 0) rfl ?_)
 show wpAny _ _ (seqItems? (.ref t) >>= _) _ _ _; refine wpAny_bind (wpAny_seqItems et dt ?_)
 simp only [Int.toNat_natCast, hx]; refine wpAny_bind (wpAny_setField e d (by simp) (wpAny_pure ⟨x, rfl, wpAny_pure (q _ ?_ (Heap.SameBut.update ..))⟩))
 exact ⟨_, Heap.get?_update_self _ e (Obj.isFreed_of_fields (Obj.data_mapFields d _)), (Obj.cls_mapFields ..).trans c, by rw [Obj.data_mapFields d]; simp [rawInt]⟩
theorem nxt_tup_end {it t : Addr} {k : Nat} {xs : Array Value} {Q : Value -> Shared -> Prop} (hh : A.handled = none) (hi : s.heap.IsTupleIter it t k) (ht : s.heap.IsTuple t xs) (hx : xs[k]? = none)
  (q : ∀ g x, Heap.ExtBut it s.heap g -> (∃ o, g.get? x = some o /\ o.cls = .type "StopIteration") -> E (.ref x) { s with heap := g }) : wpAny (model prog w) A (Builtin.SmallTypes.nextOf (.ref it)) Q E s := by
 obtain ⟨o, e, c, d⟩ := id hi
 obtain ⟨ot, et, _, nt, dt⟩ := ht
 unfold Builtin.SmallTypes.nextOf
 refine wpAny_bind (wpAny_callSpecial?_slot (name := Str.ofString "__next__") hi.typeIs PySem.F.slot_tuple_iterator_next (wpAny_call_entry PySem.F.slot_tuple_iterator_next hi.typeIs PySem.F.entry_tuple_iterator_next ?_ (PySem.F.args_tuple_iterator_next_1 _)))
 show wpAny _ _ (field (.ref it) 0 >>= _) _ _ _; refine wpAny_bind (wpAny_field e d (x := .ref t) rfl ?_)
 show wpAny _ _ (if (Value.ref t == Value.none) = true then _ else _) _ _ _; rw [if_neg (show ¬ (Value.ref t == Value.none) = true from Bool.false_ne_true)]
 show wpAny _ _ (field (.ref it) 1 >>= _) _ _ _; refine wpAny_bind (wpAny_field e d (x := .int k 0) rfl ?_)
 show wpAny _ _ (seqItems? (.ref t) >>= _) _ _ _; refine wpAny_bind (wpAny_seqItems et dt ?_)
 simp only [Int.toNat_natCast, hx]; refine wpAny_bind (wpAny_rule (wpAny_bind (wpAny_setField e d (by simp) ?_)))
 show wpAny _ _ (newExc (.type "StopIteration") [] >>= _) _ _ _; refine wpAny_bind ?_; simp only [newExc, newTuple]; refine wpAny_bind (wpAny_newObj_type ?_ (by size_fits))
 refine wpAny_bind (m := firstArgMember _ _) (wpAny_of_eq (a := Value.none) (by first | rfl | (simp only [firstArgMember]; rfl)) (wpAny_newObj_type ?_ (by size_fits)))
 simp only [raiseNew]; refine wpAny_bind (wpAny_handled ?_); first | rw [show A.in1.handled = none from hh] | rw [hh]
 refine wpAny_bind (wpAny_pure (wpAny_throw (q _ _ (((Heap.SameBut.update ..).extBut.push _).push _) ⟨_, Heap.get?_push_size _ rfl, rfl⟩)))
theorem nxt_item {it l : Addr} {k : Nat} {xs : Array Value} {x : Value} {Q : Value -> Shared -> Prop} : ∀ {b : Bool}, SIt s.heap b it l k -> SSq s.heap b l xs -> xs[k]? = some x ->
  (∀ g, SIt g b it l (k + 1) -> Heap.SameBut it s.heap g -> Q x { s with heap := g }) -> wpAny (model prog w) A (Builtin.SmallTypes.nextOf (.ref it)) Q E s
 | false, a, c, d, q => wpAny_nextOf_list_item a c d q
 | true, a, c, d, q => nxt_tup_item a c d q
theorem nxt_end {it l : Addr} {k : Nat} {xs : Array Value} {Q : Value -> Shared -> Prop} (hh : A.handled = none) : ∀ {b : Bool}, SIt s.heap b it l k -> SSq s.heap b l xs -> xs[k]? = none ->
  (∀ g x, Heap.ExtBut it s.heap g -> (∃ o, g.get? x = some o /\ o.cls = .type "StopIteration") -> E (.ref x) { s with heap := g }) -> wpAny (model prog w) A (Builtin.SmallTypes.nextOf (.ref it)) Q E s
 | false, a, c, d, q => wpAny_nextOf_list_end hh a c d q
 | true, a, c, d, q => nxt_tup_end hh a c d q
structure ZAp (z TI TO i1 i2 l1 l2 : Addr) : Prop where
 a : TI ≠ z /\ TO ≠ z /\ i1 ≠ z /\ i2 ≠ z /\ TI ≠ TO /\ TI ≠ i1 /\ TI ≠ i2 /\ TO ≠ i1 /\ TO ≠ i2 /\ i1 ≠ i2
 l : ∀ c, c = l1 \/ c = l2 -> c ≠ z /\ c ≠ TO /\ c ≠ i1 /\ c ≠ i2 /\ c ≠ TI
theorem zipN_item {z TI TO i1 i2 l1 l2 : Addr} {b1 b2 : Bool} {k1 k2 : Nat} {xs ys : Array Value} {x y a b : Value} {Q : Value -> Shared -> Prop} (D : ZAp z TI TO i1 i2 l1 l2)
  (hz : IsZip s.heap z TI TO .none) (hI : IsPair s.heap TI (.ref i1) (.ref i2)) (hO : IsPair s.heap TO a b) (t1 : SIt s.heap b1 i1 l1 k1) (t2 : SIt s.heap b2 i2 l2 k2) (q1 : SSq s.heap b1 l1 xs) (q2 : SSq s.heap b2 l2 ys) (ex : xs[k1]? = some x) (ey : ys[k2]? = some y)
  (q : ∀ g, IsZip g z TI TO (rawInt s.heap.objs.size) -> IsPair g TO x y -> SIt g b1 i1 l1 (k1 + 1) -> SIt g b2 i2 l2 (k2 + 1) -> IsPair g s.heap.objs.size x y -> (∀ c o, c ≠ z -> c ≠ TO -> c ≠ i1 -> c ≠ i2 -> s.heap.get? c = some o -> g.get? c = some o) -> Q (.ref s.heap.objs.size) { s with heap := g }) :
  wpAny (model prog w) A (Builtin.«zip.__next__» ⟨[.ref z], []⟩) (fun fin s' => ∃ v, fin = .done (.ret v) /\ Q v s') E s := by
 obtain ⟨⟨nIz, nOz, n1z, n2z, nIO, nI1, nI2, nO1, nO2, n12⟩, lne⟩ := D
 obtain ⟨m1z, m1O, m11, m12, m1I⟩ := lne l1 (.inl rfl)
 obtain ⟨m2z, m2O, m21, m22, m2I⟩ := lne l2 (.inr rfl)
 show wpAny _ _ (field (.ref z) 2 >>= _) _ _ _; refine wpAny_bind (wpAny_field hz rfl (x := .bool false) rfl ?_)
 show wpAny _ _ (field (.ref z) 3 >>= _) _ _ _; refine wpAny_bind (wpAny_field hz rfl (x := .ref TI) rfl (wpAny_bind (wpAny_seqItems hI rfl ?_)))
 show wpAny _ _ (Builtin.SmallTypes.ownedTupleIsFree (.ref z) >>= _) _ _ _; refine wpAny_bind ?_; unfold Builtin.SmallTypes.ownedTupleIsFree
 refine wpAny_bind (wpAny_field hz rfl (x := .none) rfl (wpAny_pure ?_)); simp only [if_true]
 refine wpAny_bind (wpAny_rule (wpAny_bind (wpAny_field hz rfl (x := .ref TO) rfl (wpAny_bind (wpAny_setField_rec hz (by simp) fun g1 z1 s1 => ?_)))))
 replace z1 : IsZip g1 z TI TO .ellipsis := z1
 refine wpAny_bind ?_; simp only [List.zipIdx_cons, List.zipIdx_nil, List.forIn_cons, List.forIn_nil]; refine wpAny_bind (wpAny_bind (wpAny_onRaise ?_))
 show wpAny _ _ (Builtin.SmallTypes.nextOf (.ref i1) >>= _) _ _ _
 refine wpAny_bind (nxt_item (b := b1) (t1.keep fun o e => s1.extBut _ _ n1z e) (q1.keep fun o e => s1.extBut _ _ m1z e) ex fun g2 u1 s2 => wpAny_pure ?_)
 have o2 : IsPair g2 TO a b := s2.extBut _ _ nO1 (s1.extBut _ _ nOz hO)
 refine wpAny_bind (wpAny_seqItems o2 rfl (wpAny_bind (wpAny_updateSeq_pair o2 fun g3 o3 s3 => wpAny_bind (wpAny_letGo (wpAny_pure ?_)))))
 replace o3 : IsPair g3 TO x b := o3
 refine wpAny_bind (wpAny_bind (wpAny_onRaise ?_)); show wpAny _ _ (Builtin.SmallTypes.nextOf (.ref i2) >>= _) _ _ _
 refine wpAny_bind (nxt_item (b := b2) (t2.keep fun o e => s3.extBut _ _ nO2.symm (s2.extBut _ _ n12.symm (s1.extBut _ _ n2z e))) (q2.keep fun o e => s3.extBut _ _ m2O (s2.extBut _ _ m21 (s1.extBut _ _ m2z e))) ey fun g4 u2 s4 => wpAny_pure ?_)
 have o4 : IsPair g4 TO x b := s4.extBut _ _ nO2 o3
 refine wpAny_bind (wpAny_seqItems o4 rfl (wpAny_bind (wpAny_updateSeq_pair o4 fun g5 o5 s5 => wpAny_bind (wpAny_letGo (wpAny_pure (wpAny_pure ?_))))))
 replace o5 : IsPair g5 TO x y := o5
 refine wpAny_bind (wpAny_seqItems o5 rfl (wpAny_bind (wpAny_newTuple ?_)))
 have sz : g5.objs.size = s.heap.objs.size := by rw [s5.1, s4.1, s3.1, s2.1, s1.1]
 have z5 : IsZip g5 z TI TO .ellipsis := s5.extBut _ _ nOz.symm (s4.extBut _ _ n2z.symm (s3.extBut _ _ nOz.symm (s2.extBut _ _ n1z.symm z1)))
 have k5 : ∀ c o, c ≠ z -> c ≠ TO -> c ≠ i1 -> c ≠ i2 -> s.heap.get? c = some o -> g5.get? c = some o := fun c o h1 h2 h3 h4 e => s5.extBut _ _ h2 (s4.extBut _ _ h4 (s3.extBut _ _ h2 (s2.extBut _ _ h3 (s1.extBut _ _ h1 e))))
 have v1 : SIt g5 b1 i1 l1 (k1 + 1) := u1.keep fun o e => s5.extBut _ _ nO1.symm (s4.extBut _ _ n12 (s3.extBut _ _ nO1.symm e))
 have v2 : SIt g5 b2 i2 l2 (k2 + 1) := u2.keep fun o e => s5.extBut _ _ nO2.symm e
 have zlt : z < g5.objs.size := Heap.lt_size z5
 show wpAny _ _ (Builtin.SmallTypes.ownedTupleHandOut (.ref z) (.ref g5.objs.size) >>= _) _ _ _; refine wpAny_bind ?_; unfold Builtin.SmallTypes.ownedTupleHandOut
 have z6 : IsZip (g5.push { cls := .type "tuple", data := .seq #[x, y] }) z TI TO .ellipsis := Heap.get?_push_of_some _ z5
 refine wpAny_bind (wpAny_setField_rec z6 (by simp) fun g7 z7 s7 => ?_)
 replace z7 : IsZip g7 z TI TO (rawInt g5.objs.size) := z7
 refine wpAny_setField_rec z7 (by simp) fun g8 z8 s8 => ?_
 replace z8 : IsZip g8 z TI TO (rawInt g5.objs.size) := z8
 have up : ∀ c o, c ≠ z -> g5.get? c = some o -> g8.get? c = some o := fun c o h1 e => s8.extBut _ _ h1 (s7.extBut _ _ h1 (Heap.get?_push_of_some _ e))
 have t8 : IsPair g8 g5.objs.size x y := s8.extBut _ _ (Nat.ne_of_gt zlt) (s7.extBut _ _ (Nat.ne_of_gt zlt) (Heap.get?_push_size _ rfl))
 rw [sz] at z8 t8
 refine wpAny_pure ⟨_, rfl, ?_⟩
 show Q (.ref g5.objs.size) _
 rw [sz]
 exact q g8 z8 (up _ _ nOz o5) (v1.keep fun o e => up _ o n1z e) (v2.keep fun o e => up _ o n2z e) t8 fun c o h1 h2 h3 h4 e => up c o h1 (k5 c o h1 h2 h3 h4 e)
theorem zipN_end {z TI TO i1 i2 l1 l2 : Addr} {b1 b2 : Bool} {k1 k2 : Nat} {xs ys : Array Value} {a b : Value} {Q : Fin -> Shared -> Prop} (hh : A.handled = none) (D : ZAp z TI TO i1 i2 l1 l2)
  (hz : IsZip s.heap z TI TO .none) (hI : IsPair s.heap TI (.ref i1) (.ref i2)) (hO : IsPair s.heap TO a b) (t1 : SIt s.heap b1 i1 l1 k1) (t2 : SIt s.heap b2 i2 l2 k2) (q1 : SSq s.heap b1 l1 xs) (q2 : SSq s.heap b2 l2 ys) (hend : xs[k1]? = none \/ ys[k2]? = none)
  (q : ∀ g e, (∀ c o, c ≠ z -> c ≠ TO -> c ≠ i1 -> c ≠ i2 -> s.heap.get? c = some o -> g.get? c = some o) -> (∃ o, g.get? e = some o /\ o.cls = .type "StopIteration") -> E (.ref e) { s with heap := g }) :
  wpAny (model prog w) A (Builtin.«zip.__next__» ⟨[.ref z], []⟩) Q E s := by
 obtain ⟨⟨nIz, nOz, n1z, n2z, nIO, nI1, nI2, nO1, nO2, n12⟩, lne⟩ := D
 obtain ⟨m1z, m1O, m11, m12, m1I⟩ := lne l1 (.inl rfl)
 obtain ⟨m2z, m2O, m21, m22, m2I⟩ := lne l2 (.inr rfl)
 show wpAny _ _ (field (.ref z) 2 >>= _) _ _ _; refine wpAny_bind (wpAny_field hz rfl (x := .bool false) rfl ?_)
 show wpAny _ _ (field (.ref z) 3 >>= _) _ _ _; refine wpAny_bind (wpAny_field hz rfl (x := .ref TI) rfl (wpAny_bind (wpAny_seqItems hI rfl ?_)))
 show wpAny _ _ (Builtin.SmallTypes.ownedTupleIsFree (.ref z) >>= _) _ _ _; refine wpAny_bind ?_; unfold Builtin.SmallTypes.ownedTupleIsFree
 refine wpAny_bind (wpAny_field hz rfl (x := .none) rfl (wpAny_pure ?_)); simp only [if_true]
 refine wpAny_bind (wpAny_rule (wpAny_bind (wpAny_field hz rfl (x := .ref TO) rfl (wpAny_bind (wpAny_setField_rec hz (by simp) fun g1 z1 s1 => ?_)))))
 replace z1 : IsZip g1 z TI TO .ellipsis := z1
 refine wpAny_bind ?_; simp only [List.zipIdx_cons, List.zipIdx_nil, List.forIn_cons, List.forIn_nil]; refine wpAny_bind (wpAny_bind (wpAny_onRaise ?_))
 show wpAny _ _ (Builtin.SmallTypes.nextOf (.ref i1) >>= _) _ _ _
 cases ex : xs[k1]? with
 | none =>
  refine wpAny_bind (nxt_end (b := b1) hh (t1.keep fun o e => s1.extBut _ _ n1z e) (q1.keep fun o e => s1.extBut _ _ m1z e) ex fun g2 v s2 hv => ?_)
  obtain ⟨ov, ev, cv⟩ := hv
  have z2 : IsZip g2 z TI TO .ellipsis := s2 _ _ n1z.symm z1
  have nv : v ≠ z := fun h => by subst h; rw [z2] at ev; cases ev; simp at cv
  exact wpAny_setField_rec z2 (by simp) fun g3 _ s3 => q g3 v (fun c o h1 _ h3 _ e => s3.extBut _ _ h1 (s2 _ _ h3 (s1.extBut _ _ h1 e))) ⟨ov, s3.extBut _ _ nv ev, cv⟩
 | some x =>
  have ey : ys[k2]? = none := by rcases hend with h | h; rw [ex] at h; cases h; exact h
  refine wpAny_bind (nxt_item (b := b1) (t1.keep fun o e => s1.extBut _ _ n1z e) (q1.keep fun o e => s1.extBut _ _ m1z e) ex fun g2 u1 s2 => wpAny_pure ?_)
  have o2 : IsPair g2 TO a b := s2.extBut _ _ nO1 (s1.extBut _ _ nOz hO)
  refine wpAny_bind (wpAny_seqItems o2 rfl (wpAny_bind (wpAny_updateSeq_pair o2 fun g3 o3 s3 => wpAny_bind (wpAny_letGo (wpAny_pure ?_)))))
  refine wpAny_bind (wpAny_bind (wpAny_onRaise ?_)); show wpAny _ _ (Builtin.SmallTypes.nextOf (.ref i2) >>= _) _ _ _
  refine wpAny_bind (nxt_end (b := b2) hh (t2.keep fun o e => s3.extBut _ _ nO2.symm (s2.extBut _ _ n12.symm (s1.extBut _ _ n2z e))) (q2.keep fun o e => s3.extBut _ _ m2O (s2.extBut _ _ m21 (s1.extBut _ _ m2z e))) ey fun g4 v s4 hv => ?_)
  obtain ⟨ov, ev, cv⟩ := hv
  have z4 : IsZip g4 z TI TO .ellipsis := s4 _ _ n2z.symm (s3.extBut _ _ nOz.symm (s2.extBut _ _ n1z.symm z1))
  have nv : v ≠ z := fun h => by subst h; rw [z4] at ev; cases ev; simp at cv
  exact wpAny_setField_rec z4 (by simp) fun g5 _ s5 => q g5 v (fun c o h1 h2 h3 h4 e => s5.extBut _ _ h1 (s4 _ _ h4 (s3.extBut _ _ h2 (s2.extBut _ _ h3 (s1.extBut _ _ h1 e))))) ⟨ov, s5.extBut _ _ nv ev, cv⟩
end
end L2
namespace L2
open PySem PySem.Spec PyProof.Rows
section
variable {X : Cx} {pins : List (Addr × Obj)} {σ : St} {H : Hp} {s : Shared} {h' : Heap}
theorem Inv.turnedL {t' : Nat} {ch : List Addr} (I : Inv X pins σ H s) (k : ∀ b o, b ∉ ch -> s.heap.get? b = some o -> h'.get? b = some o) (hf : ∀ b ∈ ch, FpOk X pins H b) : Inv X pins σ H { s with heap := h', toks := t' } := by
 have nit : ∀ b u, H b = some u -> b ∉ ch := fun b u e z => by rw [(hf b z).1] at e; cases e
 have hL : X.env.locals ∉ ch := fun z => (hf _ z).2.1 rfl
 refine I.step (g' := s.gens) (d' := s.drawn) (ch := ch) (fun b hb => ⟨(hf b hb).2.2.2.1, (hf b hb).2.1, (hf b hb).2.2.2.2.1, (hf b hb).2.2.2.2.2⟩) (fun b o _ _ hc e _ => k b o hc e) (fun b o _ _ hc e _ => ⟨o.slots, k b o hc e⟩) (fun _ _ _ _ n => n)
  (fun b o hc e => ⟨o, k b o hc e⟩) (fun _ _ e => e) (fun _ _ _ e => e) (fun b ps e => ⟨#[], by rw [e]; simp⟩) (fun m hm => ?_) (fun b u e => ?_) I.bare
 ·obtain ⟨o, es, ep, ho, r⟩ := hm
  exact ⟨o, es, ep, k _ o hL ho, r⟩
 ·refine (I.hok b u e).stay (fun c v hc q => k c v ?_ q) (fun _ q => q) fun _ _ q => q
  rcases hc with z | z
  ·rw [z]; exact nit b u e
  ·exact nit c _ z
theorem Inv.track {T : Addr} {o : HO} (I : Inv X pins σ H s) (f : FpOk X pins H T) (hs : X.s₀.heap.objs.size <= T) (new : ObjOk X.prog X.w (upd H T o) s.heap T o) : Inv X pins σ (upd H T o) s := by
 obtain ⟨f0, f1, f2, _, f4, f5⟩ := f
 have old : ∀ b u, X.s₀.heap.get? b = some u -> b ≠ T := fun b u e => Nat.ne_of_lt (Nat.lt_of_lt_of_le (Heap.lt_size e) hs)
 refine ⟨I.ok, I.os, I.bare, ⟨I.base.keep, I.base.slot, fun b u e n hx => ?_, I.base.there, fun b xs e => ?_, fun b u v e => ?_, fun b ps e => ?_⟩, I.loc, I.cell, ?_, fun x c e => ?_, fun p hp => ?_, fun b u e => ?_, I.len⟩
 ·rw [upd_ne (old b u e)]; exact I.base.free b u e n hx
 ·rw [upd_ne (ne_of_none (I.base.tups b xs e) f0)]; exact I.base.tups b xs e
 ·rw [upd_ne (ne_of_none (I.base.frzs b u v e) f0)]; exact I.base.frzs b u v e
 ·obtain ⟨more, q⟩ := I.base.tbls b ps e
  exact ⟨more, by rw [upd_ne (ne_of_none q f0)]; exact q⟩
 ·rw [upd_ne (Ne.symm f1)]; exact I.free
 ·rw [upd_ne (f4 x c e)]; exact I.freeC x c e
 ·obtain ⟨e, n, ne, nf, d⟩ := I.pin p hp
  exact ⟨e, by rw [upd_ne (f5 p hp)]; exact n, ne, nf, d⟩
 ·by_cases hb : b = T
  ·subst hb
   rw [upd_same] at e
   cases e
   exact new
  ·rw [upd_ne hb] at e
   exact (I.hok b u e).stay (fun c v _ q => q) (fun c q => by rw [upd_ne (ne_of_none q f0)]; exact q) fun c xs q => by rw [upd_ne (ne_of_none q f0)]; exact q
end
def SqB (K : PySem.W.Frag) (H : Hp) : Bool -> Addr -> List V -> Prop
 | false, a, xs => SqL K H a xs
 | true, a, xs => SqT K H a xs
theorem SqB.at {X : Cx} {pins : List (Addr × Obj)} {σ : St} {H : Hp} {s : Shared} (I : Inv X pins σ H s) : ∀ {b : Bool} {a : Addr} {xs : List V}, SqB X.K H b a xs -> ∃ its : List Value, Vals xs its /\ SSq s.heap b a its.toArray /\ xs.length <= sizeLine
 | false, _, _, h => let ⟨its, r, p, z⟩ := I.list h; ⟨its, r, p.isList, z⟩
 | true, _, _, h => let ⟨its, r, p, z⟩ := I.tuple h; ⟨its, r, p, z⟩
theorem SqB.inj {X : Cx} {pins : List (Addr × Obj)} {σ : St} {H : Hp} {s : Shared} (I : Inv X pins σ H s) : ∀ {b : Bool} {a : Addr} {xs ys : List V}, SqB X.K H b a xs -> SqB X.K H b a ys -> xs = ys
 | false, _, _, _, h, h' => I.list_inj h h'
 | true, _, _, _, h, h' => I.tuple_inj h h'
def Itz (K : PySem.W.Frag) (b1 b2 : Bool) (l1 l2 : Addr) : It :=
 ⟨fun i H => ∃ xs ys x y, SqB K H b1 l1 xs /\ SqB K H b2 l2 ys /\ xs[i]? = some x /\ ys[i]? = some y,
  fun i H v H' => ∃ p x y, H p = none /\ v = .ref p /\ H' = upd H p (.tup [x, y]) /\ (∀ xs, SqB K H b1 l1 xs -> xs[i]? = some x) /\ ∀ ys, SqB K H b2 l2 ys -> ys[i]? = some y,
  fun i H => ∃ xs ys, SqB K H b1 l1 xs /\ SqB K H b2 l2 ys /\ (xs.length <= i \/ ys.length <= i)⟩
section
variable {prog : Program} {w : World} {A : Around} {E : Value -> Shared -> Prop} {s : Shared}
theorem zipP_item {z TI TO i1 i2 l1 l2 : Addr} {b1 b2 : Bool} {k1 k2 : Nat} {xs ys : Array Value} {x y a b : Value} {Q : Option Value -> Shared -> Prop} (D : ZAp z TI TO i1 i2 l1 l2)
  (hz : IsZip s.heap z TI TO .none) (hI : IsPair s.heap TI (.ref i1) (.ref i2)) (hO : IsPair s.heap TO a b) (t1 : SIt s.heap b1 i1 l1 k1) (t2 : SIt s.heap b2 i2 l2 k2) (q1 : SSq s.heap b1 l1 xs) (q2 : SSq s.heap b2 l2 ys) (ex : xs[k1]? = some x) (ey : ys[k2]? = some y)
  (q : ∀ g, IsZip g z TI TO (rawInt s.heap.objs.size) -> IsPair g TO x y -> SIt g b1 i1 l1 (k1 + 1) -> SIt g b2 i2 l2 (k2 + 1) -> IsPair g s.heap.objs.size x y -> (∀ c o, c ≠ z -> c ≠ TO -> c ≠ i1 -> c ≠ i2 -> s.heap.get? c = some o -> g.get? c = some o) -> Q (some (.ref s.heap.objs.size)) { s with heap := g }) :
  wpAny (model prog w) A (pyNext (.ref z)) Q E s := by
 have ty : s.TypeIs (.ref z) "zip" := ⟨_, hz, rfl⟩
 unfold pyNext
 exact wpAny_bind (wpAny_attempt (wpAny_callSpecial?_slot (name := Str.ofString "__next__") ty PySem.F.slot_zip_next (wpAny_call_entry PySem.F.slot_zip_next ty PySem.F.entry_zip_next (zipN_item D hz hI hO t1 t2 q1 q2 ex ey fun g a1 a2 a3 a4 a5 a6 => wpAny_pure (q g a1 a2 a3 a4 a5 a6)) (PySem.F.args_zip_next_1 _))))
theorem zipP_end {z TI TO i1 i2 l1 l2 : Addr} {b1 b2 : Bool} {k1 k2 : Nat} {xs ys : Array Value} {a b : Value} {Q : Option Value -> Shared -> Prop} (hh : A.handled = none) (D : ZAp z TI TO i1 i2 l1 l2)
  (hz : IsZip s.heap z TI TO .none) (hI : IsPair s.heap TI (.ref i1) (.ref i2)) (hO : IsPair s.heap TO a b) (t1 : SIt s.heap b1 i1 l1 k1) (t2 : SIt s.heap b2 i2 l2 k2) (q1 : SSq s.heap b1 l1 xs) (q2 : SSq s.heap b2 l2 ys) (hend : xs[k1]? = none \/ ys[k2]? = none)
  (q : ∀ g, (∀ c o, c ≠ z -> c ≠ TO -> c ≠ i1 -> c ≠ i2 -> s.heap.get? c = some o -> g.get? c = some o) -> Q none { s with heap := g }) : wpAny (model prog w) A (pyNext (.ref z)) Q E s := by
 have ty : s.TypeIs (.ref z) "zip" := ⟨_, hz, rfl⟩
 unfold pyNext
 refine wpAny_bind (wpAny_attempt (wpAny_callSpecial?_slot (name := Str.ofString "__next__") ty PySem.F.slot_zip_next (wpAny_call_entry PySem.F.slot_zip_next ty PySem.F.entry_zip_next (zipN_end hh D hz hI hO t1 t2 q1 q2 hend fun g e hk he => ?_) (PySem.F.args_zip_next_1 _))))
 obtain ⟨o, ho, hc⟩ := he
 exact wpAny_bind (wpAny_isInstance (T := "StopIteration") (b := true) ⟨o, ho, hc⟩ isSubtype_stop (wpAny_pure (q _ hk)))
end
theorem turn_zip {P : Program} {w : World} {K : PySem.W.Frag} {elts : List Expr} {kk : Nat} {tp : Pos} {b1 b2 : Bool} (z TI TO i1 i2 l1 l2 : Addr) (D : ZAp z TI TO i1 i2 l1 l2) :
  Turn P w K (.Tuple elts kk tp) (Itz K b1 b2 l1 l2) [z, TI, TO, i1, i2] z (fun i h => IsZip h z TI TO .none /\ IsPair h TI (.ref i1) (.ref i2) /\ (∃ a b, IsPair h TO a b) /\ SIt h b1 i1 l1 i /\ SIt h b2 i2 l2 i) where
 mem := by simp
 obj := fun i h st b hb => by
  obtain ⟨hz, hI, ⟨a, c, hO⟩, t1, t2⟩ := st
  simp only [List.mem_cons, List.not_mem_nil, or_false] at hb
  rcases hb with rfl | rfl | rfl | rfl | rfl
  ·exact ⟨_, hz, fun v q => by cases q⟩
  ·exact ⟨_, hI, fun v q => by cases q⟩
  ·exact ⟨_, hO, fun v q => by cases q⟩
  ·obtain ⟨o, e, vs, d⟩ := t1.obj
   exact ⟨o, e, fun v q => by rw [d] at q; cases q⟩
  ·obtain ⟨o, e, vs, d⟩ := t2.obj
   exact ⟨o, e, fun v q => by rw [d] at q; cases q⟩
 keep := fun i h h' st k => by
  obtain ⟨hz, hI, ⟨a, c, hO⟩, t1, t2⟩ := st
  exact ⟨k z (by simp) _ hz, k TI (by simp) _ hI, ⟨a, c, k TO (by simp) _ hO⟩, t1.keep fun o e => k i1 (by simp) o e, t2.keep fun o e => k i2 (by simp) o e⟩
 item := by
  intro X hP hw hK hc i pins s σ H E I hf st hg
  subst hP hw hK
  obtain ⟨hz, hI, ⟨a, c, hO⟩, t1, t2⟩ := st
  obtain ⟨xs, ys, x, y, hx, hy, ex, ey⟩ := hg
  obtain ⟨its, rv, q1, z1⟩ := SqB.at I hx
  obtain ⟨jts, rw', q2, z2⟩ := SqB.at I hy
  obtain ⟨u, hu, ru⟩ := rv.get ex
  obtain ⟨v, hv, rv'⟩ := rw'.get ey
  refine zipP_item D hz hI hO t1 t2 q1 q2 (x := u) (y := v) (by simpa using hu) (by simpa using hv) fun g a1 a2 a3 a4 a5 a6 => ⟨_, rfl, ?_⟩
  refine wpAny_letOwnedTupleGo_zip a1 fun g' a1' sb => ?_
  obtain ⟨⟨nIz, nOz, n1z, n2z, nIO, nI1, nI2, nO1, nO2, n12⟩, lne⟩ := id D
  have hT : ∀ b ∈ [z, TI, TO, i1, i2], s.heap.objs.size ≠ b := fun b hb => by
   have : ∃ o, s.heap.get? b = some o := by
    simp only [List.mem_cons, List.not_mem_nil, or_false] at hb
    rcases hb with rfl | rfl | rfl | rfl | rfl
    ·exact ⟨_, hz⟩
    ·exact ⟨_, hI⟩
    ·exact ⟨_, hO⟩
    ·obtain ⟨o, e, _⟩ := t1.obj; exact ⟨o, e⟩
    ·obtain ⟨o, e, _⟩ := t2.obj; exact ⟨o, e⟩
   obtain ⟨o, e⟩ := this
   exact Nat.ne_of_gt (Heap.lt_size e)
  have kk : ∀ b o, b ∉ [z, TI, TO, i1, i2] -> s.heap.get? b = some o -> g'.get? b = some o := fun b o hb e => by
   simp only [List.mem_cons, List.not_mem_nil, or_false, not_or] at hb
   exact sb.extBut _ _ hb.1 (a6 b o hb.1 hb.2.2.1 hb.2.2.2.1 hb.2.2.2.2 e)
  have I1 : Inv X pins σ H { s with heap := g' } := I.turnedL (t' := s.toks) kk hf
  have pT : IsPair g' s.heap.objs.size u v := sb.extBut _ _ (hT z (by simp)) a5
  have fT : FpOk X pins H s.heap.objs.size := I.fpOk (Nat.le_refl _) (I.hok.fresh (Nat.le_refl _))
  have I2 : Inv X pins σ (upd H s.heap.objs.size (.tup [x, y])) { s with heap := g' } := I1.track fT I.sz ⟨by show 2 <= sizeLine; decide, [u, v], .cons ru (.cons rv' .nil), ⟨_, pT, rfl, _, rfl⟩⟩
  refine ⟨.ref s.heap.objs.size, _, I2, rfl, ⟨_, x, y, I.hok.fresh (Nat.le_refl _), rfl, rfl, fun xs' h => by rw [SqB.inj I h hx]; exact ex, fun ys' h => by rw [SqB.inj I h hy]; exact ey⟩, ?_, fun b hb => ?_⟩
  ·exact ⟨a1', sb.extBut _ _ nIz (a6 TI _ nIz nIO nI1 nI2 hI), ⟨u, v, sb.extBut _ _ nOz a2⟩, a3.keep fun o e => sb.extBut _ _ n1z e, a4.keep fun o e => sb.extBut _ _ n2z e⟩
  ·rw [upd_ne (Ne.symm (hT b hb))]
   exact (hf b hb).1
 done := by
  intro X hP hw hK hc i pins s σ H E I hf st hg
  subst hP hw hK
  obtain ⟨hz, hI, ⟨a, c, hO⟩, t1, t2⟩ := st
  obtain ⟨xs, ys, hx, hy, hend⟩ := hg
  obtain ⟨its, rv, q1, z1⟩ := SqB.at I hx
  obtain ⟨jts, rw', q2, z2⟩ := SqB.at I hy
  have e1 := rv.length
  have e2 := rw'.length
  refine zipP_end (I.ok.hd hc) D hz hI hO t1 t2 q1 q2 (by
   rcases hend with h | h
   ·exact .inl (by simp; omega)
   ·exact .inr (by simp; omega)) fun g k => ⟨rfl, I.turnedL (t' := s.toks) (ch := [z, TI, TO, i1, i2]) (fun b o hb e => ?_) hf⟩
  simp only [List.mem_cons, List.not_mem_nil, or_false, not_or] at hb
  exact k b o hb.1 hb.2.2.1 hb.2.2.2.1 hb.2.2.2.2 e
 self := fun _ _ _ _ _ st h => wpAny_pyIter_zip st.1 h
end L2
namespace L2
open PySem PySem.Spec PyProof.Rows
def itObj (b : Bool) (l : Addr) : Obj := { cls := .type (if b = true then "tuple_iterator" else "list_iterator"), data := .fields #[.ref l, .int 0 0] }
theorem SIt.new {h : Heap} : ∀ {b : Bool} {it l : Addr}, h.get? it = some (itObj b l) -> SIt h b it l 0
 | false, _, _, e => ⟨_, e, rfl, rfl⟩
 | true, _, _, e => ⟨_, e, rfl, rfl⟩
def zg2 (h : Heap) (b1 b2 : Bool) (l1 l2 : Addr) : Heap := (h.push (itObj b1 l1)).push (itObj b2 l2)
def zg3 (h : Heap) (b1 b2 : Bool) (l1 l2 : Addr) : Heap := (zg2 h b1 b2 l1 l2).push { cls := .type "tuple", data := .seq #[.ref h.objs.size, .ref (h.push (itObj b1 l1)).objs.size] }
def zg4 (h : Heap) (b1 b2 : Bool) (l1 l2 : Addr) : Heap := (zg3 h b1 b2 l1 l2).push { cls := .type "tuple", data := .seq #[.none, .none] }
def zg5 (h : Heap) (b1 b2 : Bool) (l1 l2 : Addr) : Heap := (zg4 h b1 b2 l1 l2).push { cls := .type "zip", data := .fields #[.none, .bool false, .bool false, .ref (zg2 h b1 b2 l1 l2).objs.size, .ref (zg3 h b1 b2 l1 l2).objs.size] }
theorem iterB {prog : Program} {w : World} {A : Around} {E : Value -> Shared -> Prop} {s : Shared} {l : Addr} {xs : Array Value} {Q : Value -> Shared -> Prop} : ∀ {b : Bool}, SSq s.heap b l xs -> Q (.ref s.heap.objs.size) { s with heap := s.heap.push (itObj b l) } -> wpAny (model prog w) A (pyIter (.ref l)) Q E s
 | false, h, q => wpAny_pyIter_list h q
 | true, h, q => wpAny_pyIter_tuple h q
theorem SSq.push {h : Heap} {b : Bool} {l : Addr} {xs : Array Value} (x : SSq h b l xs) (o : Obj) : SSq (h.push o) b l xs := x.keep fun _ e => Heap.get?_push_of_some _ e
set_option maxHeartbeats 8000000 in
theorem zip_new (b1 b2 : Bool) (l1 l2 : Addr) (xs ys : Array Value) :
  Meets (Builtin.«zip.__new__» ⟨[.type "zip", .ref l1, .ref l2], []⟩) (fun _ R s => SSq s.heap b1 l1 xs /\ SSq s.heap b2 l2 ys /\ R (.ok (.ret (.ref (zg4 s.heap b1 b2 l1 l2).objs.size))) { s with heap := zg5 s.heap b1 b2 l1 l2 }) :=
 .of_wp fun prog w A R s h => by
  obtain ⟨hp, g, d, tk, os⟩ := s
  obtain ⟨h1, h2, h⟩ := h
  have hsub := PySem.sub_zip
  have e1 : SSq (Shared.heap ⟨hp, g, d, tk, os⟩) b1 l1 xs := h1
  have e2 : SSq (Shared.heap ⟨hp.push (itObj b1 l1), g, d, tk, os⟩) b2 l2 ys := SSq.push h2 _
  wp_walk using iterB e1, iterB e2
  exact ⟨_, rfl, h⟩
section
variable {prog : Program} {w : World} {A : Around} {E : Value -> Shared -> Prop} {s : Shared}
theorem call_zipB {b1 b2 : Bool} {l1 l2 : Addr} {xs ys : Array Value} {Q : Value -> Shared -> Prop} (h1 : SSq s.heap b1 l1 xs) (h2 : SSq s.heap b2 l2 ys)
  (h : ∀ g n, n = s.heap.objs.size -> IsZip g (n + 4) (n + 2) (n + 3) .none -> IsPair g (n + 2) (.ref n) (.ref (n + 1)) -> IsPair g (n + 3) .none .none -> SIt g b1 n l1 0 -> SIt g b2 (n + 1) l2 0 ->
   (∀ c o, s.heap.get? c = some o -> g.get? c = some o) -> Q (.ref (n + 4)) { s with heap := g }) : wpAny (model prog w) A (call (.type "zip") [.ref l1, .ref l2]) Q E s := by
 refine callType_new PySem.F.called_zip (by decide) (PySem.F.typeCall_zip_2 _ _) (PySem.F.newCall_zip_2 _ _) (fun obj => PySem.F.args_object_init_3 obj _ _) PySem.F.entry_zip_new (zip_new b1 b2 l1 l2 xs ys) ⟨h1, h2, ?_⟩
 have e1 : (s.heap.push (itObj b1 l1)).objs.size = s.heap.objs.size + 1 := Heap.size_push ..
 have e2 : (zg2 s.heap b1 b2 l1 l2).objs.size = s.heap.objs.size + 2 := by unfold zg2; rw [Heap.size_push, e1]
 have e3 : (zg3 s.heap b1 b2 l1 l2).objs.size = s.heap.objs.size + 3 := by unfold zg3; rw [Heap.size_push, e2]
 have e4 : (zg4 s.heap b1 b2 l1 l2).objs.size = s.heap.objs.size + 4 := by unfold zg4; rw [Heap.size_push, e3]
 have p : ∀ {c : Addr} {o : Obj}, (zg4 s.heap b1 b2 l1 l2).get? c = some o -> (zg5 s.heap b1 b2 l1 l2).get? c = some o := fun q => Heap.get?_push_of_some _ q
 have p4 : ∀ {c : Addr} {o : Obj}, (zg3 s.heap b1 b2 l1 l2).get? c = some o -> (zg4 s.heap b1 b2 l1 l2).get? c = some o := fun q => Heap.get?_push_of_some _ q
 have p3 : ∀ {c : Addr} {o : Obj}, (zg2 s.heap b1 b2 l1 l2).get? c = some o -> (zg3 s.heap b1 b2 l1 l2).get? c = some o := fun q => Heap.get?_push_of_some _ q
 have p2 : ∀ {c : Addr} {o : Obj}, (s.heap.push (itObj b1 l1)).get? c = some o -> (zg2 s.heap b1 b2 l1 l2).get? c = some o := fun q => Heap.get?_push_of_some _ q
 have g5 : (zg5 s.heap b1 b2 l1 l2).get? (zg4 s.heap b1 b2 l1 l2).objs.size = some _ := Heap.get?_push_size _ rfl
 have g4 : (zg5 s.heap b1 b2 l1 l2).get? (zg3 s.heap b1 b2 l1 l2).objs.size = some _ := p (Heap.get?_push_size _ rfl)
 have g3 : (zg5 s.heap b1 b2 l1 l2).get? (zg2 s.heap b1 b2 l1 l2).objs.size = some _ := p (p4 (Heap.get?_push_size _ rfl))
 have g2 : (zg5 s.heap b1 b2 l1 l2).get? (s.heap.push (itObj b1 l1)).objs.size = some _ := p (p4 (p3 (Heap.get?_push_size _ rfl)))
 have g1 : (zg5 s.heap b1 b2 l1 l2).get? s.heap.objs.size = some _ := p (p4 (p3 (p2 (Heap.get?_push_size _ rfl))))
 show _ /\ _
 rw [e2, e3, e4] at g5
 rw [e1, e2] at g3
 rw [e3] at g4
 rw [e1] at g2
 rw [e4]
 exact ⟨⟨_, g5, rfl⟩, h _ _ rfl g5 g3 g4 (SIt.new g1) (SIt.new g2) fun c o x => p (p4 (p3 (p2 (Heap.get?_push_of_some _ x))))⟩
end
section
variable {X : Cx}
def iZip (K : PySem.W.Frag) (ta : TA) : TI := fun σ H R => ta σ H fun vs H1 => ∃ b1 b2 l1 l2 xs ys, vs = [.ref l1, .ref l2] /\ SqB K H1 b1 l1 xs /\ SqB K H1 b2 l2 ys /\ R (Itz K b1 b2 l1 l2) H1
theorem pi_zip {a b : Expr} {ta : TA} {p pos tp : Pos} {elts : List Expr} {kk : Nat} (hg : Gl X "zip") (hm : X.mg "zip" = none) (ha : PA X [a, b] ta) (hs : starEach [a, b] X.env = [(false, eval a X.env), (false, eval b X.env)] := by rfl) (hs2 : starEach [b] X.env = [(false, eval b X.env)] := by rfl) :
  PI X (.Tuple elts kk tp) (.Call (.Name "zip" p) [a, b] [] pos) (iZip X.K ta) := by
 intro pins s σ H R I h
 refine Call_ (ld_blt I hg hm PyProof.Rows.Boot.«zip» (PyProof.Rows.callWith_type1 (thn (ha pos pins s σ H _ I h) fun us s1 ⟨vs, H1, I1, r1, q1⟩ => ?_) (by rw [hs, hs2]) (by rw [hs2]; rfl)))
 obtain ⟨b1, b2, l1, l2, xs, ys, rfl, hx, hy, q⟩ := q1
 obtain ⟨u, u', rfl, ru, ru'⟩ := vals2 r1
 cases ru
 cases ru'
 obtain ⟨its, rv, s1', z1⟩ := SqB.at I1 hx
 obtain ⟨jts, rw', s2', z2⟩ := SqB.at I1 hy
 refine call_zipB s1' s2' fun g n hn a1 a2 a3 a4 a5 k => ?_
 have lt : ∀ c, c = l1 \/ c = l2 -> c < n := fun c hc => by
  rw [hn]
  rcases hc with rfl | rfl
  ·obtain ⟨o, e, _⟩ := s1'.obj; exact Heap.lt_size e
  ·obtain ⟨o, e, _⟩ := s2'.obj; exact Heap.lt_size e
 refine wpAny_pyIter_zip a1 ⟨n + 4, [n + 4, n + 2, n + 3, n, n + 1], _, _, H1, rfl, I1.kept (t' := s1.toks) k, turn_zip (n + 4) (n + 2) (n + 3) n (n + 1) l1 l2 ⟨?_, fun c hc => ?_⟩, ⟨a1, a2, ⟨_, _, a3⟩, a4, a5⟩, fun b hb => ?_, q⟩
 ·have e : ∀ i j : Nat, i ≠ j -> n + i ≠ n + j := fun i j h z => h (Nat.add_left_cancel z)
  exact ⟨e 2 4 (by decide), e 3 4 (by decide), e 0 4 (by decide), e 1 4 (by decide), e 2 3 (by decide), e 2 0 (by decide), e 2 1 (by decide), e 3 0 (by decide), e 3 1 (by decide), e 0 1 (by decide)⟩
 ·have q := lt c hc
  have e : ∀ i : Nat, c ≠ n + i := fun i => Nat.ne_of_lt (Nat.lt_of_lt_of_le q (Nat.le_add_right _ _))
  exact ⟨e 4, e 3, e 0, e 1, e 2⟩
 ·have e : ∀ i : Nat, FpOk X pins H1 (n + i) := fun i => I1.fpOk (by rw [hn]; exact Nat.le_add_right _ _) (I1.hok.fresh (by rw [hn]; exact Nat.le_add_right _ _))
  simp only [List.mem_cons, List.not_mem_nil, or_false] at hb
  rcases hb with rfl | rfl | rfl | rfl | rfl
  ·exact e 4
  ·exact e 2
  ·exact e 3
  ·exact e 0
  ·exact e 1
end
end L2
namespace L2
open PySem PySem.Spec PyProof.Rows
open PySem.Builtin.Str in
section
variable {X : Cx}
end
@[irreducible] def rStrAny : List V -> Hp -> VK -> Prop := fun xs H Q => (∃ z : Str, xs = [.str z] /\ Q (.str z) H) \/ ∃ i : Int, xs = [.int i] /\ i.natAbs.log2 < 1920 /\ Q (.str (toString i)) H
section
variable {X : Cx}
end
mutual
inductive Dt (K : PySem.W.Frag) (H : Hp) : V -> PyData -> Prop
 | non : Dt K H .non .none
 | bl (b : Bool) : Dt K H (.bl b) (.bool b)
 | int (i : Int) : Dt K H (.int i) (.int i)
 | str (x : Str) : Dt K H (.str x) (.str x)
 | lst {a : Addr} {xs : List V} {ds : List PyData} : SqL K H a xs -> DtAll K H xs ds -> Dt K H (.ref a) (.list ds)
 | tup {a : Addr} {xs : List V} {ds : List PyData} : SqT K H a xs -> DtAll K H xs ds -> Dt K H (.ref a) (.tuple ds)
inductive DtAll (K : PySem.W.Frag) (H : Hp) : List V -> List PyData -> Prop
 | nil : DtAll K H [] []
 | cons {v : V} {vs : List V} {d : PyData} {ds : List PyData} : Dt K H v d -> DtAll K H vs ds -> DtAll K H (v :: vs) (d :: ds)
end
section
variable {X : Cx} {pins : List (Addr × Obj)} {σ : St} {H : Hp} {s : Shared}
mutual
theorem Dt.reads (I : Inv X pins σ H s) : ∀ {v : V} {d : PyData}, Dt X.K H v d -> ∀ {u : Value}, RelV v u -> ∃ as, Reads s.heap u d as
 | _, _, .non, _, r => by cases r; exact ⟨_, .none⟩
 | _, _, .bl b, _, r => by cases r; exact ⟨_, .bool b⟩
 | _, _, .int i, _, r => by obtain ⟨t, rfl⟩ := r; exact ⟨_, .int i t⟩
 | _, _, .str x, _, r => by obtain ⟨t, rfl⟩ := r; exact ⟨_, .str x t⟩
 | _, _, .lst hq ha, _, r => by
  cases r
  obtain ⟨its, rv, ⟨o, n, e, c, _, d⟩, _⟩ := I.list hq
  obtain ⟨as, z⟩ := DtAll.reads I ha rv
  exact ⟨_, .list e c d (by simpa using z)⟩
 | _, _, .tup hq ha, _, r => by
  cases r
  obtain ⟨its, rv, ⟨o, e, c, n, d⟩, _⟩ := I.tuple hq
  obtain ⟨as, z⟩ := DtAll.reads I ha rv
  exact ⟨_, .tuple e c d (by simpa using z)⟩
theorem DtAll.reads (I : Inv X pins σ H s) : ∀ {vs : List V} {ds : List PyData}, DtAll X.K H vs ds -> ∀ {us : List Value}, Vals vs us -> ∃ as, ReadsAll s.heap us ds as
 | _, _, .nil, _, r => by cases r; exact ⟨_, .nil⟩
 | _, _, .cons h t, _, r => by
  cases r with
  | cons r1 r2 =>
   obtain ⟨as, z⟩ := Dt.reads I h r1
   obtain ⟨bs, z'⟩ := DtAll.reads I t r2
   exact ⟨_, .cons z z'⟩
end
end
section
variable {X : Cx}
theorem op_eqD (hu : X.A.units + 64 < cLine) : OpR X (compareOp .Eq) (fun x y H Q => ∃ d e, Dt X.K H x d /\ Dt X.K H y e /\ SeqAt.shaped d = true /\ SeqAt.shaped e = true /\ Q (.bl (PyData.eqv d e)) H) := by
 intro pins s σ H x y v u Q I rx ry h
 obtain ⟨d, e, h1, h2, s1, s2, q⟩ := h
 obtain ⟨as, r1⟩ := h1.reads I rx
 obtain ⟨bs, r2⟩ := h2.reads I ry
 exact eq_dataH r1 r2 s1 s2 hu ⟨.bl _, H, I, rfl, q⟩
end
theorem for_zip {K : PySem.W.Frag} {b1 b2 : Bool} {l1 l2 : Addr} {xs ys : List V} {g : TG} {tb : TS} {D : Ends} {σ : St} {H : Hp} (Pv : Nat -> St -> Hp -> Prop) (h0 : Pv 0 σ H) (hl : ∀ i σ H, Pv i σ H -> SqB K H b1 l1 xs /\ SqB K H b2 l2 ys)
  (hs : ∀ i x y σ H p, xs[i]? = some x -> ys[i]? = some y -> Pv i σ H -> H p = none -> g (.ref p) σ (upd H p (.tup [x, y])) fun σ2 H2 => tb { D with nx := Pv (i + 1), ct := Pv (i + 1), bk := D.nx } σ2 H2) (hd : ∀ σ H, Pv (min xs.length ys.length) σ H -> D.nx σ H) :
  ∃ W : Nat -> Nat -> St -> Hp -> Prop, (∃ m, W 0 m σ H) /\ ∀ i m σ H, W i m σ H ->
   ((Itz K b1 b2 l1 l2).stop i H /\ D.nx σ H) \/ ((Itz K b1 b2 l1 l2).go i H /\ ∃ N : St -> Hp -> Prop, (∀ σ' H', N σ' H' -> ∃ m', m' < m /\ W (i + 1) m' σ' H') /\ ∀ x H', (Itz K b1 b2 l1 l2).yld i H x H' -> g x σ H' fun σ2 H2 => tb { D with nx := N, ct := N, bk := D.nx } σ2 H2) := by
 refine ⟨fun i m σ H => m = min xs.length ys.length - i /\ i <= min xs.length ys.length /\ Pv i σ H, ⟨_, rfl, Nat.zero_le _, h0⟩, ?_⟩
 rintro i m σ H ⟨rfl, hi, p⟩
 obtain ⟨q1, q2⟩ := hl i σ H p
 by_cases hlt : i < min xs.length ys.length
 ·have h1 : i < xs.length := by omega
  have h2 : i < ys.length := by omega
  refine .inr ⟨⟨xs, ys, xs[i], ys[i], q1, q2, by simp [h1], by simp [h2]⟩, Pv (i + 1), fun σ' H' p' => ⟨_, by omega, rfl, hlt, p'⟩, fun v H' y => ?_⟩
  obtain ⟨a, x, y, hn, rfl, rfl, e1, e2⟩ := y
  exact hs i x y σ H a (e1 xs q1) (e2 ys q2) p hn
 ·have e : i = min xs.length ys.length := by omega
  subst e
  exact .inl ⟨⟨xs, ys, q1, q2, by omega⟩, hd σ H p⟩
theorem comp_list {K : PySem.W.Frag} {a : Addr} {xs : List V} {g : TG} {tt : TT} {te : TE} {Fin : List V -> Hp -> Prop} {σ : St} {H : Hp} (Pv : Nat -> List V -> St -> Hp -> Prop) (h0 : Pv 0 [] σ H) (hz : ∀ i ys σ H, i <= xs.length -> Pv i ys σ H -> ys.length <= i) (hx : xs.length <= sizeLine) (hl : ∀ i ys σ H, Pv i ys σ H -> SqL K H a xs)
  (hs : ∀ i x ys σ H, xs[i]? = some x -> Pv i ys σ H -> g x σ H fun σ2 H2 => tt σ2 H2 fun b H3 => if b = true then te σ2 H3 fun y H4 => Pv (i + 1) (ys ++ [y]) σ2 H4 else Pv (i + 1) ys σ2 H3)
  (hd : ∀ ys σ H, Pv xs.length ys σ H -> Fin ys H) : ∃ W : Nat -> Nat -> List V -> St -> Hp -> Prop, (∃ m, W 0 m [] σ H) /\ CompTurns (Itl K a) g tt te Fin W := by
 refine ⟨fun i m ys σ H => m = xs.length - i /\ i <= xs.length /\ Pv i ys σ H, ⟨_, rfl, Nat.zero_le _, h0⟩, ?_⟩
 rintro i m ys σ H ⟨rfl, hi, p⟩
 have hl' := hz i ys σ H hi p
 have q := hl i ys σ H p
 by_cases hlt : i < xs.length
 ·refine .inr ⟨⟨xs, xs[i], q, by simp [hlt]⟩, by omega, Pv (i + 1), fun ys' σ' H' p' => ⟨_, by omega, rfl, hlt, p'⟩, fun v H' y => ?_⟩
  obtain ⟨e, y⟩ := y
  subst e
  exact hs i v ys σ _ (y xs q) p
 ·have e : i = xs.length := by omega
  subst e
  exact .inl ⟨⟨xs, q, Nat.le_refl _⟩, by omega, hd ys σ H p⟩
end L2
namespace L2
open PySem PySem.Spec PyProof.Rows
section
variable {X : Cx} {tg : Expr}
end
section
variable {X : Cx}
end
end L2
namespace L2
open PySem PySem.Spec PyProof.Rows PySem.NumText
def wl : List Nat -> List Nat -> List (List Nat)
 | [], cur => if cur = [] then [] else [cur]
 | c :: r, cur => if c = 32 then (if cur = [] then wl r [] else cur :: wl r []) else wl r (cur ++ [c])
theorem pg_tupC {X : Cx} {pins : List (Addr × Obj)} {Nc : List Str} {scope : Scope} {fp : List Addr} {s : Shared} {H : Hp} {C : Addr} {es : List Expr} {k : Nat} {t : TGs} {pos : Pos} (n : Nat) (hc : X.calm = true) (h : PGs (X.comp pins Nc scope fp s H C) es t)
  (hn : (assignEach es (X.comp pins Nc scope fp s H C).env).length = n := by rfl) (hst : (assignEach es (X.comp pins Nc scope fp s H C).env).findIdx? (·.1) = none := by rfl) : PG (X.comp pins Nc scope fp s H C) (.Tuple es k pos) (gTup X.K n t) :=
 pg_tup (X := X.comp pins Nc scope fp s H C) hc h hn hst
theorem join1c {α : Type} {P R : α -> Prop} {c A B : Prop} {inst : Decidable c} {w : α} (hw : ¬ c -> P w) (rest : ∀ w, P w -> R w) (h : c -> (∀ w, P w -> R w) -> A) (e : B = R w := by rfl) : @ite Prop c inst A B := by
 subst e
 by_cases hc : c
 ·rw [if_pos hc]; exact h hc rest
 ·rw [if_neg hc]; exact rest w (hw hc)
end L2
namespace L2
open PySem PySem.Spec PyProof.Rows
section
variable {X : Cx}
end
end L2
namespace L2
open PySem PySem.Spec PyProof.Rows
theorem int_yes {x y : Int} (c : decide (V.int x = V.int y) = true) : x = y := by injection (of_decide_eq_true c)
theorem int_no {x y : Int} (c : ¬ decide (V.int x = V.int y) = true) : ¬ x = y := fun e => c (decide_eq_true (by rw [e]))
end L2
namespace L2
open PySem
def txt (v : Value) : Str := match v with | .str x _ => x | _ => ""
structure TxtTab (P : Program) (w : World) (es : Array (Int × Value)) (t : SetTable) (ys : List Str) : Prop where
 el : ElemsOf (strKind P w) es.toList
 nd : (es.toList.map fun e => txt e.2).Nodup
 mem : ∀ k, k ∈ (es.toList.map fun e => txt e.2) ↔ k ∈ ys
 few : es.size < scanBound
 fit : t.fits es.size = true
 led : t.led = !w.params.followText "set-order"
 pl : 0 < es.size -> t.plain = false
theorem is_txt {P : Program} {w : World} {k : Str} {v : Value} (h : (strKind P w).is k v = true) : txt v = k := by
 obtain ⟨t, rfl⟩ := Value.isStrOf_shape h
 rfl
theorem stand_led (t : SetTable) (n : Nat) : (t.orStandIn n).led = t.led /\ (t.plain = false -> (t.orStandIn n).plain = false) := by
 unfold SetTable.orStandIn
 split
 ·exact ⟨rfl, fun z => z⟩
 ·exact ⟨rfl, fun _ => rfl⟩
theorem layNew_led (t : SetTable) (es : Array (Int × Value)) (h : Int) (x : Value) : (layNew t es h x).2.1.led = t.led /\ (t.plain = false -> (layNew t es h x).2.1.plain = false) := by
 unfold layNew
 split
 ·exact stand_led (t.put _).1 _
 ·exact ⟨rfl, fun _ => rfl⟩
theorem relayAll_led (t : SetTable) (es : Array (Int × Value)) (n : Nat) : (relayAll t es n).2.1.led = t.led /\ (t.plain = false -> (relayAll t es n).2.1.plain = false) := by
 unfold relayAll SetTable.standIn
 split
 ·rename_i t' order he
  unfold SetTable.relaid SetTable.laid at he
  have : t'.led = t.led /\ t'.plain = t.plain := by
   simp only [Option.bind_eq_bind, Option.bind_eq_some_iff] at he
   obtain ⟨ow, _, he⟩ := he
   injection he with he
   injection he with h1 h2
   rw [<- h1]
   exact ⟨rfl, rfl⟩
  dsimp only
  split
  ·exact ⟨this.1, fun z => this.2.trans z⟩
  ·exact ⟨rfl, fun _ => rfl⟩
 ·exact ⟨rfl, fun _ => rfl⟩
def setObj (es : Array (Int × Value)) (ep : Nat) (t : SetTable) : Obj := { cls := .type "set", dict := none, data := .set es ep t }
section
variable {P : Program} {w : World} {A : Around} {E : Value -> Shared -> Prop} {s : Shared}
theorem store_set {a : Addr} {es es' : Array (Int × Value)} {ep : Nat} {t t' : SetTable} (ho : s.heap.get? a = some (setObj es ep t)) :
  (s.heap.update a (Obj.putSet es' t')).get? a = some (setObj es' (ep + 1) t') := by
 have hd : (setObj es ep t).data = .set es ep t := rfl
 have := Heap.get?_update_self (Obj.putSet es' t') ho (by rw [putSet_of es' t' hd]; rfl)
 rw [putSet_of es' t' hd] at this
 exact this
theorem add_txt {a : Addr} {es : Array (Int × Value)} {ep : Nat} {t : SetTable} {ys : List Str} {k : Str} {tk : Tok} {Q : Bool -> Shared -> Prop}
  (ho : s.heap.get? a = some (setObj es ep t)) (T : TxtTab P w es t ys) (room : es.size + 1 < scanBound)
  (h : ∀ (b : Bool) h' es' ep' t', Heap.SameBut a s.heap h' -> h'.get? a = some (setObj es' ep' t') -> TxtTab P w es' t' (ys ++ [k]) -> es'.size <= es.size + 1 -> Q b { s with heap := h' }) :
  wpAny (model P w) A (setAddHashed a (.str k tk) (hashStr w k)) Q E s := by
 have hkey : (strKind P w).is k (.str k tk) = true := by
  show Value.isStrOf k (.str k tk) = true
  simp [Value.isStrOf]
 have hsc : (Value.str k tk).scannable = true := rfl
 have hd : (setObj es ep t).data = .set es ep t := rfl
 unfold setAddHashed setAddHashedIn
 refine wpAny_holding (wpAny_bind (wpAny_setState_of ho hd T.fit ?_))
 dsimp only
 rw [byScan_of hsc T.few T.el]
 simp only [↓reduceIte]
 unfold setAddByScan
 refine wpAny_bind ?_
 refine wpAny_bind (wpAny_rule ?_)
 refine wpAny_bind (wpAny_setScan_of (knd := strKind P w) (k := k) hkey ho hd T.fit T.el ?_)
 cases hr : List.findIdx? (fun e => (strKind P w).is k e.2) es.toList with
 | some j =>
  dsimp only
  obtain ⟨hj, hpj, _⟩ := List.findIdx?_eq_some_iff_getElem.mp hr
  refine wpAny_pure (wpAny_pure ?_)
  have := h false s.heap es ep t (Heap.SameBut.refl a s.heap) ho ⟨T.el, T.nd, fun k' => ?_, T.few, T.fit, T.led, T.pl⟩ (by omega)
  ·exact this
  ·rw [T.mem k', List.mem_append, List.mem_singleton]
   refine ⟨.inl, fun z => z.elim id fun e => ?_⟩
   rw [<- T.mem, e, <- is_txt hpj]
   exact List.mem_map.mpr ⟨_, List.getElem_mem hj, rfl⟩
 | none =>
  dsimp only
  have hnew : k ∉ es.toList.map fun e => txt e.2 := by
   intro hm
   obtain ⟨e, he, hk⟩ := List.mem_map.mp hm
   have hn := List.findIdx?_eq_none_iff.mp hr e he
   obtain ⟨⟨k', hk', _⟩, _⟩ := T.el e he
   rw [is_txt hk'] at hk
   subst hk
   rw [hk'] at hn
   cases hn
  have hgw : ∀ (b : Bool) {s₁ : Shared} {Q' : Unit -> Shared -> Prop}, Q' () s₁ -> wpAny (model P w) A (match b with | true => rule "set.scan.the-table-gave-way" | false => pure ()) Q' E s₁ := by
   intro b s₁ Q' hq
   cases b
   ·exact wpAny_pure hq
   ·exact wpAny_rule hq
  have hperm := layNew_perm t es (hashStr w k) (.str k tk)
  have hfits := layNew_fits t es (hashStr w k) (.str k tk)
  have hled := layNew_led t es (hashStr w k) (.str k tk)
  show wpAny _ _ (match layNew t es (hashStr w k) (.str k tk) with | (es, t, wasDummy, gave) => _) _ _ _
  generalize layNew t es (hashStr w k) (.str k tk) = Ln at hperm hfits hled ⊢
  obtain ⟨es1, t1, wd, gv⟩ := Ln
  dsimp only at hperm hfits hled ⊢
  rw [Array.toList_push] at hperm
  have hsz1 : es1.size = es.size + 1 := by rw [<- Array.length_toList, hperm.length_eq, List.length_append, Array.length_toList]; rfl
  have tab : ∀ (es2 : Array (Int × Value)) (t2 : SetTable), es2.toList.Perm es1.toList -> t2.fits es2.size = true -> t2.led = t.led -> t2.plain = false -> TxtTab P w es2 t2 (ys ++ [k]) := fun es2 t2 hp hf hl hpl => by
   have hp' := hp.trans hperm
   refine ⟨(T.el.push hkey hsc).perm hp', ?_, fun k' => ?_, ?_, hf, hl.trans T.led, fun _ => hpl⟩
   ·refine (hp'.map _).nodup_iff.mpr ?_
    rw [List.map_append, List.nodup_append]
    refine ⟨T.nd, by simp, fun x hx y hy => ?_⟩
    simp only [List.map_cons, List.map_nil, List.mem_singleton] at hy
    rintro rfl
    rw [hy] at hx
    exact hnew hx
   ·rw [(hp'.map _).mem_iff, List.map_append, List.mem_append, T.mem k', List.mem_append]
    rfl
   ·rw [<- Array.length_toList, hp'.length_eq, List.length_append, Array.length_toList]
    exact room
  refine wpAny_bind (hgw _ ?_)
  have tail : ∀ t2 : SetTable, t2.fits es1.size = true -> t2.led = t.led -> t2.plain = false -> ∀ R : Option Bool -> Shared -> Prop, (∀ h' es' ep' t', Heap.SameBut a s.heap h' -> h'.get? a = some (setObj es' ep' t') -> TxtTab P w es' t' (ys ++ [k]) -> es'.size <= es.size + 1 -> R (some true) { s with heap := h' }) ->
    wpAny (model P w) A (do
     storeSet a es1 t2
     if (!wd && t2.tooFull) = true then do
      (match (relayAll t2 es1 (SetTable.grown es1.size)).2.2 with | true => rule "set.scan.the-table-gave-way" | false => pure ())
      storeSet a (relayAll t2 es1 (SetTable.grown es1.size)).1 (relayAll t2 es1 (SetTable.grown es1.size)).2.1
      pure (some true)
     else pure (some true)) R E s := fun t2 hf hl hpl R hR => by
   have room1 : es1.size <= sizeLine := fits_of_scanBound (by rw [hsz1]; exact room)
   refine wpAny_bind (wpAny_storeSet_of ho hd ?_ room1)
   have ho1 := store_set (s := s) (es' := es1) (t' := t2) ho
   have sb1 := Heap.SameBut.update s.heap a (Obj.putSet es1 t2)
   split
   ·have hp := relayAll_perm t2 es1 (SetTable.grown es1.size)
    have hfr := relayAll_fits t2 es1 (SetTable.grown es1.size)
    have hlr := relayAll_led t2 es1 (SetTable.grown es1.size)
    generalize relayAll t2 es1 (SetTable.grown es1.size) = Rl at hp hfr hlr ⊢
    obtain ⟨es2, t3, g2⟩ := Rl
    dsimp only at hp hfr hlr ⊢
    have hsz2 : es2.size = es1.size := by rw [<- Array.length_toList, hp.length_eq, Array.length_toList]
    refine wpAny_bind (hgw _ ?_)
    refine wpAny_bind (wpAny_storeSet_of (s := { s with heap := s.heap.update a (Obj.putSet es1 t2) }) ho1 rfl ?_ (by rw [hsz2]; exact room1))
    exact wpAny_pure (hR _ es2 _ t3 (sb1.trans (Heap.SameBut.update _ a _)) (store_set (s := { s with heap := s.heap.update a (Obj.putSet es1 t2) }) ho1) (tab es2 t3 hp hfr (hlr.1.trans hl) (hlr.2 hpl)) (by omega))
   ·exact wpAny_pure (hR _ es1 _ t2 sb1 ho1 (tab es1 t2 (.refl _) hf hl hpl) (by omega))
  split
  ·refine wpAny_bind ?_
   rw [hashByValue_scannable 8 hsc]
   refine wpAny_pure ?_
   refine tail _ (SetTable.fits_plain_off hfits) hled.1 rfl _ fun h' es' ep' t' a1 a2 a3 a4 => ?_
   exact wpAny_pure (h true h' es' ep' t' a1 a2 a3 a4)
  ·rename_i hpl
   refine wpAny_bind (wpAny_pure ?_)
   simp only [↓reduceIte]
   refine tail _ hfits hled.1 (by simpa using hpl) _ fun h' es' ep' t' a1 a2 a3 a4 => ?_
   exact wpAny_pure (h true h' es' ep' t' a1 a2 a3 a4)
end
end L2
namespace L2
open PySem
section
variable {P : Program} {w : World} {A : Around} {E : Value -> Shared -> Prop} {s : Shared}
theorem fill_txt {R : Result -> Shared -> Prop} {I : Addr} {fp wr : List Addr} {G : Array GenState -> Array GenState -> Prop} {n : Nat} {PI : Nat -> Value -> Prop} {St : Nat -> Shared -> Prop}
  (W : WalksS P w A.in1 I fp wr G n PI St) (S : Addr) (hSf : S ∉ fp) (zs : List Str) (hz : ∀ i v, PI i v -> ∃ k t, zs[i]? = some k /\ v = .str k t) (hb : n + 1 < scanBound) :
  ∀ (k i : Nat) (s : Shared), n - i = k -> i <= n -> St i s ->
   (∃ es ep t, s.heap.get? S = some (setObj es ep t) /\ TxtTab P w es t (zs.take i) /\ es.size <= i) ->
   (∀ s', Moved (S :: wr) G s s' -> (∃ es ep t, s'.heap.get? S = some (setObj es ep t) /\ TxtTab P w es t (zs.take n) /\ es.size <= n) -> R (.ok (.ret .none)) s') ->
   codeAny (model P w) A (.builtin "set.update.loop" ⟨[.ref S, .ref I], []⟩) R s := by
 have hSw : S ∉ wr := fun z => hSf (W.sub _ z)
 have up : ∀ b ∈ wr, b ∈ S :: wr := fun b z => List.mem_cons_of_mem _ z
 intro k
 induction k with
 | zero =>
  intro i s hk hi hst hS hR
  obtain rfl : i = n := by omega
  refine codeAny_builtin PyProof.Rows.F.entry_set_update_loop ?_
  rw [Around.under_plainId PyProof.Rows.F.plain_set_update_loop _]
  show wpAny _ A.in1 (pyNext (.ref I) >>= _) _ _ s
  refine wpAny_bind (W.done s _ _ hst fun s' hm => ?_)
  show wpAny _ A.in1 (ret Value.none) _ _ s'
  obtain ⟨es, ep, t, h1, h2, h3⟩ := hS
  exact wpAny_pure (hR s' (hm.mono up) ⟨es, ep, t, hm.heap S _ hSw h1, h2, h3⟩)
 | succ k ih =>
  intro i s hk hi hst hS hR
  have lt : i < n := by omega
  refine codeAny_builtin PyProof.Rows.F.entry_set_update_loop ?_
  rw [Around.under_plainId PyProof.Rows.F.plain_set_update_loop _]
  show wpAny _ A.in1 (pyNext (.ref I) >>= _) _ _ s
  refine wpAny_bind (W.item i s _ _ lt hst fun v s' hP hst' hm => ?_)
  obtain ⟨z, t, hzi, rfl⟩ := hz i v hP
  obtain ⟨es, ep, tb, h1, h2, h3⟩ := hS
  have h1' := hm.heap S _ hSw h1
  show wpAny _ A.in1 (holding [Value.str z t] (setAdd S (.str z t)) >>= _) _ _ s'
  refine wpAny_bind (wpAny_holding ?_)
  unfold setAdd
  refine wpAny_holding ?_
  refine wpAny_bind (wpAny_pyHash_str ?_)
  refine add_txt (s := { s' with toks := s'.toks + 1 }) h1' h2 (by omega) fun b h' es' ep' t' sb g1 g2 g3 => ?_
  have e : zs.take (i + 1) = zs.take i ++ [z] := by rw [List.take_add_one, hzi]; rfl
  refine wpAny_pure ⟨plainId_quiet PyProof.Rows.F.plain_set_update_loop _, ih (i + 1) _ (by omega) lt (W.frame _ s' _ _ hst' (Nat.le_succ _) fun b hb o q => ?_) ⟨es', ep', t', g1, by rw [e]; exact g2, by omega⟩ fun s2 m2 S2 => ?_⟩
  ·rw [sb.2 b fun z : b = S => hSf (by rw [<- z]; exact hb)]
   exact q
  ·refine hR s2 (Moved.trans W.gtrans ((hm.mono up).then_heap (Nat.le_succ _) fun b o hb q => ?_) m2) S2
   rw [sb.2 b fun z : b = S => hb (by rw [z]; exact List.mem_cons_self)]
   exact q
end
end L2
namespace L2
open PySem
theorem sit_next : Slot "set_iterator" "__next__" "set_iterator.__next__" :=
 .of (owner := "set_iterator") (n := "__next__") (by rw [typeLookup_type, builtinLookup_eq_fast]; kernel_rfl) (by decide +kernel) (by decide +kernel) (by decide +kernel) (.inl (by decide +kernel)) (by rw [isSubtype_type]; kernel_rfl)
theorem sit_next_e : entryFor table "set_iterator.__next__" = some Builtin.«set_iterator.__next__» := entryFor_of_tree (by kernel_rfl)
theorem sit_next_a (a : Value) : argsOk "set_iterator.__next__" ⟨[a], []⟩ := by unfold argsOk; kernel_rfl
theorem sit_iter : Slot "set_iterator" "__iter__" "set_iterator.__iter__" :=
 .of (owner := "set_iterator") (n := "__iter__") (by rw [typeLookup_type, builtinLookup_eq_fast]; kernel_rfl) (by decide +kernel) (by decide +kernel) (by decide +kernel) (by first | exact .inl (by decide +kernel) | exact .inr (by decide +kernel)) (by rw [isSubtype_type]; kernel_rfl)
theorem sit_iter_e : entryFor table "set_iterator.__iter__" = some Builtin.«dict_keyiterator.__iter__» := entryFor_alias (id' := "dict_keyiterator.__iter__") (by kernel_rfl) rfl (by decide +kernel) (by kernel_rfl)
theorem sit_iter_a (a : Value) : argsOk "set_iterator.__iter__" ⟨[a], []⟩ := by unfold argsOk; kernel_rfl
theorem set_iter_e : entryFor table "set.__iter__" = some Builtin.«frozenset.__iter__» := entryFor_alias (id' := "frozenset.__iter__") (by kernel_rfl) rfl (by decide +kernel) (by kernel_rfl)
def sitObj (fst : Value) (i : Nat) (a : Addr) (n ep : Nat) : Obj := { cls := .type "set_iterator", data := .fields #[fst, .int i 0, .ref a, .int n 0, .int ep 0] }
section
variable {P : Program} {w : World} {A : Around} {E : Value -> Shared -> Prop} {s : Shared}
theorem set_entries {a : Addr} {es : Array (Int × Value)} {ep : Nat} {t : SetTable} {Q : Array (Int × Value) -> Shared -> Prop} (ho : s.heap.get? a = some (setObj es ep t)) (hf : t.fits es.size = true) (h : Q es s) :
  wpAny (model P w) A (setEntries a) Q E s := by
 unfold setEntries
 exact wpAny_bind (wpAny_setState_of ho rfl hf (wpAny_pure h))
theorem sit_drawn {I a tp : Addr} {i p n ep : Nat} {es : Array (Int × Value)} {t : SetTable} {its : Array Value} {x : Int × Value} {nn : Nat} {ot : Obj} {tk : Tok} {Q : Option Value -> Shared -> Prop}
  (hi : s.heap.get? I = some (sitObj (.ref tp) i a n ep)) (hs : s.heap.get? a = some (setObj es ep t)) (hf : t.fits es.size = true) (hn : es.size = n)
  (ht : s.heap.get? tp = some ot) (htd : ot.data = .seq its nn) (hp : its[i]? = some (.int (p : Int) tk)) (hx : es[p]? = some x)
  (h : ∀ h', h'.get? I = some (sitObj (.ref tp) (i + 1) a n ep) -> Heap.SameBut I s.heap h' -> Q (some x.2) { s with heap := h' }) :
  wpAny (model P w) A (pyNext (.ref I)) Q E s := by
 have ty : s.TypeIs (.ref I) "set_iterator" := ⟨_, hi, rfl⟩
 unfold pyNext
 refine wpAny_bind (wpAny_attempt (wpAny_callSpecial?_slot (name := Str.ofString "__next__") ty sit_next (wpAny_call_entry sit_next ty sit_next_e ?_ (sit_next_a _))))
 unfold Builtin.«set_iterator.__next__»
 refine wpAny_bind (wpAny_pure ?_)
 refine wpAny_bind (wpAny_fieldsOf hi rfl ?_)
 dsimp only
 refine wpAny_bind (set_entries hs hf ?_)
 have ne : ((es.size : Int) != (n : Int)) = false := by rw [hn]; simp
 rw [ne, if_neg Bool.false_ne_true]
 refine wpAny_bind (wpAny_seqItems ht htd ?_)
 dsimp only
 rw [Int.toNat_natCast, hp]
 dsimp only
 refine wpAny_bind ?_
 unfold setNextDrawn
 refine wpAny_bind (wpAny_setState_of hs rfl hf ?_)
 dsimp only
 have ne2 : (ep != (ep : Int).toNat) = false := by rw [Int.toNat_natCast]; simp
 rw [ne2, if_neg Bool.false_ne_true, Int.toNat_natCast, hx]
 dsimp only
 refine wpAny_pure ?_
 refine wpAny_bind (wpAny_setField hi rfl (by simp) (wpAny_pure ⟨_, rfl, wpAny_pure (h _ ?_ (Heap.SameBut.update ..))⟩))
 have := Heap.get?_update_self (Obj.mapFields (·.setIfInBounds 1 (rawInt ((i : Int) + 1)))) hi rfl
 exact this
theorem stop_it {Q : Option Value -> Shared -> Prop} (hh : A.handled = none) (h : ∀ h', (∀ b o, s.heap.get? b = some o -> h'.get? b = some o) -> Q none { s with heap := h' }) :
  wpAny (model P w) A.in1 (newExc (.type "StopIteration") [] >>= fun x => (raiseNew x : Sem Fin)) (fun fin s' => ∃ v, fin = Fin.done (Flow.ret v) /\ wpAny (model P w) A (pure (some v)) Q E s')
   (fun e s' => wpAny (model P w) A (do if <- isInstance e (Value.type "StopIteration") then pure none else throw e) Q E s') s := by
 refine wpAny_bind ?_
 simp only [newExc, newTuple]
 refine wpAny_bind (wpAny_newObj_type ?_ (by size_fits))
 refine wpAny_bind (m := firstArgMember _ _) (wpAny_of_eq (a := Value.none) (by first | rfl | (simp only [firstArgMember]; rfl)) ?_)
 refine wpAny_newObj_type ?_ (by size_fits)
 simp only [raiseNew]
 refine wpAny_bind (wpAny_handled ?_)
 have hh' : A.in1.handled = none := hh
 rw [hh']
 refine wpAny_bind (wpAny_pure (wpAny_throw ?_))
 refine wpAny_bind (wpAny_isInstance (T := "StopIteration") (b := true) ⟨_, Heap.get?_push_size _ rfl, rfl⟩ isSubtype_stop ?_)
 exact wpAny_pure (h _ fun b o e => Heap.get?_push_of_some _ (Heap.get?_push_of_some _ e))
theorem sit_drawn_end {I a tp : Addr} {i n ep : Nat} {es : Array (Int × Value)} {t : SetTable} {its : Array Value} {nn : Nat} {ot : Obj} {Q : Option Value -> Shared -> Prop} (hh : A.handled = none)
  (hi : s.heap.get? I = some (sitObj (.ref tp) i a n ep)) (hs : s.heap.get? a = some (setObj es ep t)) (hf : t.fits es.size = true) (hn : es.size = n)
  (ht : s.heap.get? tp = some ot) (htd : ot.data = .seq its nn) (hp : its[i]? = none)
  (h : ∀ h', (∀ b o, b ≠ I -> s.heap.get? b = some o -> h'.get? b = some o) -> Q none { s with heap := h' }) :
  wpAny (model P w) A (pyNext (.ref I)) Q E s := by
 have ty : s.TypeIs (.ref I) "set_iterator" := ⟨_, hi, rfl⟩
 unfold pyNext
 refine wpAny_bind (wpAny_attempt (wpAny_callSpecial?_slot (name := Str.ofString "__next__") ty sit_next (wpAny_call_entry sit_next ty sit_next_e ?_ (sit_next_a _))))
 unfold Builtin.«set_iterator.__next__»
 refine wpAny_bind (wpAny_pure ?_)
 refine wpAny_bind (wpAny_fieldsOf hi rfl ?_)
 dsimp only
 refine wpAny_bind (set_entries hs hf ?_)
 have ne : ((es.size : Int) != (n : Int)) = false := by rw [hn]; simp
 rw [ne, if_neg Bool.false_ne_true]
 refine wpAny_bind (wpAny_seqItems ht htd ?_)
 dsimp only
 rw [Int.toNat_natCast, hp]
 dsimp only
 refine wpAny_bind (wpAny_setField hi rfl (by simp) ?_)
 have g1 := Heap.get?_update_self (Obj.mapFields (·.setIfInBounds 0 (rawInt 0))) hi rfl
 refine wpAny_bind (wpAny_setField g1 rfl (by simp) ?_)
 refine stop_it hh fun h' k => h h' fun b o hb e => k b o ?_
 exact (Heap.get?_update_other _ _ (Ne.symm hb)).trans ((Heap.get?_update_other _ _ (Ne.symm hb)).trans e)
theorem sit_slot {I a : Addr} {i n ep sl sl' : Nat} {es : Array (Int × Value)} {t : SetTable} {x : Value} {Q : Option Value -> Shared -> Prop}
  (hi : s.heap.get? I = some (sitObj (.int (sl : Int) 0) i a n ep)) (hs : s.heap.get? a = some (setObj es ep t)) (hf : t.fits es.size = true) (hn : es.size = n)
  (hx : ∀ Q' : Option (Value × Nat) -> Shared -> Prop, ∀ E', Q' (some (x, sl')) s -> wpAny (model P w) A.in1 (setNext a sl i ep) Q' E' s)
  (h : ∀ h', h'.get? I = some (sitObj (.int (sl' : Int) 0) (i + 1) a n ep) -> Heap.SameBut I s.heap h' -> Q (some x) { s with heap := h' }) :
  wpAny (model P w) A (pyNext (.ref I)) Q E s := by
 have ty : s.TypeIs (.ref I) "set_iterator" := ⟨_, hi, rfl⟩
 unfold pyNext
 refine wpAny_bind (wpAny_attempt (wpAny_callSpecial?_slot (name := Str.ofString "__next__") ty sit_next (wpAny_call_entry sit_next ty sit_next_e ?_ (sit_next_a _))))
 unfold Builtin.«set_iterator.__next__»
 refine wpAny_bind (wpAny_pure ?_)
 refine wpAny_bind (wpAny_fieldsOf hi rfl ?_)
 dsimp only
 refine wpAny_bind (set_entries hs hf ?_)
 have ne : ((es.size : Int) != (n : Int)) = false := by rw [hn]; simp
 rw [ne, if_neg Bool.false_ne_true, Int.toNat_natCast, Int.toNat_natCast, Int.toNat_natCast]
 refine wpAny_bind (hx _ _ ?_)
 dsimp only
 refine wpAny_bind (wpAny_setField hi rfl (by simp) ?_)
 have g1 := Heap.get?_update_self (Obj.mapFields (·.setIfInBounds 0 (rawInt (sl' : Int)))) hi rfl
 refine wpAny_bind (wpAny_setField g1 rfl (by simp) (wpAny_pure ⟨_, rfl, wpAny_pure (h _ ?_ ((Heap.SameBut.update ..).trans (Heap.SameBut.update ..)))⟩))
 exact Heap.get?_update_self (Obj.mapFields (·.setIfInBounds 1 (rawInt ((i : Int) + 1)))) g1 rfl
theorem sit_slot_end {I a : Addr} {i n ep sl : Nat} {es : Array (Int × Value)} {t : SetTable} {Q : Option Value -> Shared -> Prop} (hh : A.handled = none)
  (hi : s.heap.get? I = some (sitObj (.int (sl : Int) 0) i a n ep)) (hs : s.heap.get? a = some (setObj es ep t)) (hf : t.fits es.size = true) (hn : es.size = n)
  (hx : ∀ Q' : Option (Value × Nat) -> Shared -> Prop, ∀ E', Q' none s -> wpAny (model P w) A.in1 (setNext a sl i ep) Q' E' s)
  (h : ∀ h', (∀ b o, b ≠ I -> s.heap.get? b = some o -> h'.get? b = some o) -> Q none { s with heap := h' }) :
  wpAny (model P w) A (pyNext (.ref I)) Q E s := by
 have ty : s.TypeIs (.ref I) "set_iterator" := ⟨_, hi, rfl⟩
 unfold pyNext
 refine wpAny_bind (wpAny_attempt (wpAny_callSpecial?_slot (name := Str.ofString "__next__") ty sit_next (wpAny_call_entry sit_next ty sit_next_e ?_ (sit_next_a _))))
 unfold Builtin.«set_iterator.__next__»
 refine wpAny_bind (wpAny_pure ?_)
 refine wpAny_bind (wpAny_fieldsOf hi rfl ?_)
 dsimp only
 refine wpAny_bind (set_entries hs hf ?_)
 have ne : ((es.size : Int) != (n : Int)) = false := by rw [hn]; simp
 rw [ne, if_neg Bool.false_ne_true, Int.toNat_natCast, Int.toNat_natCast, Int.toNat_natCast]
 refine wpAny_bind (hx _ _ ?_)
 dsimp only
 refine wpAny_bind (wpAny_setField hi rfl (by simp) ?_)
 refine stop_it hh fun h' k => h h' fun b o hb e => k b o ?_
 exact (Heap.get?_update_other _ _ (Ne.symm hb)).trans e
theorem sit_self {I a : Addr} {fst : Value} {i n ep : Nat} {Q : Value -> Shared -> Prop} (hi : s.heap.get? I = some (sitObj fst i a n ep)) (h : Q (.ref I) s) : wpAny (model P w) A (pyIter (.ref I)) Q E s := by
 have ty : s.TypeIs (.ref I) "set_iterator" := ⟨_, hi, rfl⟩
 refine wpAny_pyIter_slot ty sit_iter (wpAny_call_entry sit_iter ty sit_iter_e ?_ (sit_iter_a _))
 show wpAny _ _ (ret (.ref I)) _ _ s
 exact wpAny_pure ⟨_, rfl, "set_iterator", _, ty, sit_next.lookup, h⟩
end
end L2
namespace L2
open PySem
section
variable {P : Program} {w : World} {A : Around} {E : Value -> Shared -> Prop} {s : Shared}
theorem wp_pick {src : Source} {n : Nat} {Q : Nat -> Shared -> Prop} (hn : n ≠ 0) (h : ∀ i d, i < n -> Q i { s with drawn := d }) : wpAny (model P w) A (choose src n) Q E s := fun Γ p _ => by
 show Sem.wp _ _ (.choose src n .pure) _ _ _ _
 rw [Sem.wp_choose]
 refine ⟨hn, ?_⟩
 have := h ((model P w).w.draws src (s.drawn.get src) % n) (s.drawn.bump src) (Nat.mod_lt _ (Nat.pos_of_ne_zero hn))
 simpa using this
theorem perm_out {α : Type} {xs : List α} {i : Nat} {x : α} (h : xs[i]? = some x) : (x :: xs.eraseIdx i).Perm xs := by
 induction xs generalizing i with
 | nil => simp at h
 | cons y r ih =>
  cases i with
  | zero => simp at h; subst h; exact .refl _
  | succ j =>
   simp only [List.getElem?_cons_succ] at h
   exact (List.Perm.swap y x _).trans ((ih h).cons y)
theorem draw_all {α : Type} : ∀ (n : Nat) (xs : List α) (s : Shared) (Q : List α -> Shared -> Prop), xs.length = n -> (∀ ys d, ys.Perm xs -> Q ys { s with drawn := d }) -> wpAny (model P w) A (drawOrder n xs) Q E s
 | 0, xs, s, Q, hn, h => by
  obtain rfl := List.length_eq_zero_iff.mp hn
  exact wpAny_pure (h [] s.drawn (.refl _))
 | n + 1, [], s, Q, hn, h => by cases hn
 | n + 1, x :: r, s, Q, hn, h => by
  unfold drawOrder
  refine wpAny_bind (wp_pick (by simp) fun i d hi => ?_)
  have e : (x :: r)[i]? = some (x :: r)[i] := List.getElem?_eq_getElem hi
  rw [e]
  dsimp only
  refine wpAny_bind (draw_all n _ _ _ (by rw [List.length_eraseIdx_of_lt hi]; omega) fun ys d' hp => wpAny_pure ?_)
  exact h _ d' ((hp.cons _).trans (perm_out e))
theorem pick_go {α : Type} (next : Nat -> Nat) : ∀ (fuel k : Nat) (left : List α) (out : Array α), left.length = fuel -> (pickOrder.go next fuel k left out).toList.Perm (out.toList ++ left)
 | 0, k, left, out, h => by
  obtain rfl := List.length_eq_zero_iff.mp h
  unfold pickOrder.go
  rw [List.append_nil]
 | fuel + 1, k, left, out, h => by
  unfold pickOrder.go
  have hi : next k % left.length < left.length := Nat.mod_lt _ (by omega)
  have e := List.getElem?_eq_getElem hi
  rw [e]
  dsimp only
  refine (pick_go next fuel (k + 1) _ _ (by rw [List.length_eraseIdx_of_lt hi]; omega)).trans ?_
  rw [Array.toList_push, List.append_assoc]
  exact (List.Perm.refl _).append (perm_out e)
theorem pick_perm {α : Type} (next : Nat -> Nat) (xs : Array α) : (pickOrder next xs).toList.Perm xs.toList := by
 have := pick_go next xs.size 0 xs.toList #[] Array.length_toList
 simpa [pickOrder] using this
theorem by_text {Q : Bool -> Shared -> Prop} (h : Q (w.params.followText "set-order") s) : wpAny (model P w) A setsByText Q E s := by
 unfold setsByText
 exact wpAny_bind (wpAny_askSetting (wpAny_pure h))
structure SetWalk (P : Program) (w : World) (es : Array (Int × Value)) (a : Addr) (s s' : Shared) (I : Addr) : Prop where
 ex : ∃ (fp : List Addr) (vs : List Value) (St : Nat -> Heap -> Prop), vs.Perm (es.toList.map (·.2)) /\ (∀ A : Around, A.handled = none -> Walks P w A I fp [I] vs.length (fun i v => vs[i]? = some v) St) /\ St 0 s'.heap /\ (∀ b ∈ fp, b < s'.heap.objs.size /\ (b = a \/ s.heap.get? b = none)) /\ I ∈ fp
 old : ∀ b o, s.heap.get? b = some o -> s'.heap.get? b = some o
 new : s.heap.get? I = none
 gens : s'.gens = s.gens
 os : s'.os = s.os
 toks : s'.toks = s.toks
theorem fits_iff {t : SetTable} {n : Nat} (h : t.fits n = true) : t.place.size = n := by
 simp only [SetTable.fits, Bool.and_eq_true, beq_iff_eq] at h
 exact h.1
theorem no_obj {h : Heap} {b : Addr} (k : h.objs.size <= b) : h.get? b = none := by
 cases q : h.get? b with
 | none => rfl
 | some o => exact absurd (Nat.lt_of_lt_of_le (Heap.lt_size q) k) (Nat.lt_irrefl _)
theorem iter_set {a : Addr} {es : Array (Int × Value)} {ep : Nat} {t : SetTable} {ys : List Str} {Q : Value -> Shared -> Prop} (hs : s.heap.get? a = some (setObj es ep t)) (T : TxtTab P w es t ys)
  (h : ∀ s' I, SetWalk P w es a s s' I -> Q (.ref I) s') : wpAny (model P w) A (pyIter (.ref a)) Q E s := by
 have ty : s.TypeIs (.ref a) "set" := ⟨_, hs, rfl⟩
 have alt : a < s.heap.objs.size := Heap.lt_size hs
 refine wpAny_pyIter_slot ty F.slot_set_iter (wpAny_call_entry F.slot_set_iter ty set_iter_e ?_ (F.args_set_iter_1 _))
 unfold Builtin.«frozenset.__iter__»
 refine wpAny_bind (wpAny_pure ?_)
 refine wpAny_bind ?_
 unfold Builtin.Frozenset.sizeOf
 refine wpAny_bind (set_entries hs T.fit (wpAny_pure ?_))
 refine wpAny_bind ?_
 unfold setDrawn
 refine wpAny_bind (wpAny_setState_of hs rfl T.fit ?_)
 dsimp only
 refine wpAny_bind (by_text (wpAny_pure ?_))
 have two : ∀ (fst : Value) (s1 : Shared), s1.heap.get? a = some (setObj es ep t) -> (∀ it s', it = .ref s1.heap.objs.size -> s' = { s1 with heap := s1.heap.push (sitObj fst 0 a es.size ep) } -> Q it s') ->
   wpAny (model P w) A.in1 (do
    let e <- setEpoch a
    let x <- newFields "set_iterator" [fst, rawInt 0, .ref a, rawInt (es.size : Int), rawInt (e : Int)]
    ret x) (fun fin s' => ∃ v, fin = Fin.done (Flow.ret v) /\ ∃ T' r, s'.TypeIs v T' /\ typeLookup (Value.type T') (Str.ofString "__next__") = pure (some r) /\ Q v s') E s1 := fun fst s1 h1 hq => by
  refine wpAny_bind (wpAny_setEpoch_of h1 rfl T.fit ?_)
  unfold newFields
  refine wpAny_bind (wpAny_newObj_type ?_)
  refine wpAny_pure ⟨_, rfl, "set_iterator", _, ⟨_, Heap.get?_push_size _ rfl, rfl⟩, sit_next.lookup, hq _ _ rfl rfl⟩
 show wpAny _ _ (if (!w.params.followText "set-order" && (!t.plain && decide (es.size > 1))) = true then _ else _) _ _ _
 have hpl := fits_iff T.fit
 by_cases hb : w.params.followText "set-order" = true
 ·rw [hb]
  simp only [Bool.not_true, Bool.false_and, Bool.false_eq_true, if_false]
  refine wpAny_bind (wpAny_pure ?_)
  refine two _ s hs fun it s' e1 e2 => ?_
  subst e1 e2
  have pp := pick_perm (w.params.setOrder a ep) es
  have pl : ((pickOrder (w.params.setOrder a ep) es).toList.map (·.2)).length = es.size := by rw [List.length_map, pp.length_eq, Array.length_toList]
  have nx : ∀ (A' : Around) (i : Nat) (s1 : Shared) (Q' : Option (Value × Nat) -> Shared -> Prop) E', s1.heap.get? a = some (setObj es ep t) -> Q' (((pickOrder (w.params.setOrder a ep) es)[i]?).map fun e => (e.2, 0)) s1 -> wpAny (model P w) A' (setNext a 0 i ep) Q' E' s1 := fun A' i s1 Q' E' h1 q => by
   unfold setNext
   refine wpAny_bind (wpAny_setState_of h1 rfl T.fit ?_)
   dsimp only
   refine wpAny_bind (by_text ?_)
   rw [hb, if_pos rfl]
   have ne : (ep != ep) = false := by simp
   rw [ne, if_neg Bool.false_ne_true]
   refine wpAny_bind ?_
   unfold setWalk
   refine wpAny_bind (wpAny_setState_of h1 rfl T.fit ?_)
   dsimp only
   refine wpAny_bind (by_text ?_)
   rw [hb, if_pos rfl]
   refine wpAny_bind (wpAny_askSetting (wpAny_pure ?_))
   exact wpAny_pure q
  have nI : a ≠ s.heap.objs.size := Nat.ne_of_lt alt
  refine h _ _ ⟨⟨[s.heap.objs.size, a], (pickOrder (w.params.setOrder a ep) es).toList.map (·.2), fun i h' => h'.get? s.heap.objs.size = some (sitObj (.int 0 0) i a es.size ep) /\ h'.get? a = some (setObj es ep t), pp.map _, fun A' hh => ?_, ⟨Heap.get?_push_size _ rfl, Heap.get?_push_of_some _ hs⟩, ?_, by simp⟩, fun b o e => Heap.get?_push_of_some _ e, ?_, rfl, rfl, rfl⟩
  ·refine ⟨fun b hb => by simp at hb; simp [hb], fun i h1 h2 st k => ⟨k _ (by simp) _ st.1, k _ (by simp) _ st.2⟩, fun i s1 Q' E' hi st q => ?_, fun s1 Q' E' st q => ?_, fun i s1 Q' E' st q => sit_self st.1 q⟩
   ·have hi' : i < (pickOrder (w.params.setOrder a ep) es).size := by rw [List.length_map, Array.length_toList] at hi; exact hi
    refine sit_slot (sl := 0) (sl' := 0) (x := (pickOrder (w.params.setOrder a ep) es)[i].2) st.1 st.2 T.fit rfl (fun Q2 E2 q2 => nx _ _ _ _ _ st.2 (by rw [Array.getElem?_eq_getElem hi']; exact q2)) fun h' g1 g2 => q _ h' s1.toks ?_ ⟨g1, ?_⟩ fun b o hb e => ?_
    ·simp [hi']
    ·rw [g2.2 _ nI]; exact st.2
    ·rw [g2.2 _ (by simpa using hb)]; exact e
   ·have hi' : (pickOrder (w.params.setOrder a ep) es)[((pickOrder (w.params.setOrder a ep) es).toList.map (·.2)).length]? = none := by simp
    exact sit_slot_end (sl := 0) hh st.1 st.2 T.fit rfl (fun Q2 E2 q2 => nx _ _ _ _ _ st.2 (by rw [hi']; exact q2)) fun h' g => q h' s1.toks fun b o hb e => g b o (by simpa using hb) e
  ·intro b hb
   simp only [List.mem_cons, List.not_mem_nil, or_false] at hb
   rw [Heap.size_push]
   rcases hb with rfl | rfl
   ·exact ⟨Nat.lt_succ_self _, .inr (no_obj (Nat.le_refl _))⟩
   ·exact ⟨Nat.lt_succ_of_lt alt, .inl rfl⟩
  ·exact no_obj (Nat.le_refl _)
 ·have hb' : w.params.followText "set-order" = false := by simpa using hb
  rw [hb']
  have led : t.led = true := by rw [T.led, hb']; rfl
  by_cases hz : es.size > 1
  ·have hp := T.pl (by omega)
   rw [hp]
   simp only [Bool.not_false, Bool.true_and, hz, decide_true, if_true]
   refine wpAny_bind (draw_all _ _ _ _ (by simp) fun ps d hps => ?_)
   refine wpAny_bind (wpAny_newTuple ?_ (by rw [List.length_map, hps.length_eq, List.length_range]; exact fits_of_scanBound T.few))
   refine two _ _ (Heap.get?_push_of_some _ hs) fun it s' e1 e2 => ?_
   subst e1 e2
   dsimp only
   have lt : ∀ p ∈ ps, p < es.size := fun p hm => List.mem_range.mp (hps.mem_iff.mp hm)
   have sz : (s.heap.push { cls := .type "tuple", data := .seq (ps.map fun i : Nat => rawInt i).toArray }).objs.size = s.heap.objs.size + 1 := Heap.size_push ..
   have vp : (ps.map fun p => (es.toList.map (·.2)).getD p .none).Perm (es.toList.map (·.2)) := by
    refine (hps.map _).trans ?_
    have e : (List.range es.size).map (fun p => (es.toList.map (·.2)).getD p .none) = es.toList.map (·.2) := by
     refine List.ext_getElem (by simp) fun i h1 h2 => ?_
     simp only [List.getElem_map, List.getElem_range]
     rw [List.getD_eq_getElem?_getD, List.getElem?_eq_getElem h2]
     simp
    rw [e]
   have nI : a ≠ (s.heap.push { cls := .type "tuple", data := .seq (ps.map fun i : Nat => rawInt i).toArray }).objs.size := by rw [sz]; exact Nat.ne_of_lt (Nat.lt_succ_of_lt alt)
   have nT : s.heap.objs.size ≠ (s.heap.push { cls := .type "tuple", data := .seq (ps.map fun i : Nat => rawInt i).toArray }).objs.size := by rw [sz]; exact Nat.ne_of_lt (Nat.lt_succ_self _)
   refine h _ _ ⟨⟨[(s.heap.push { cls := .type "tuple", data := .seq (ps.map fun i : Nat => rawInt i).toArray }).objs.size, a, s.heap.objs.size], ps.map fun p => (es.toList.map (·.2)).getD p .none,
    fun i h' => h'.get? (s.heap.push { cls := .type "tuple", data := .seq (ps.map fun i : Nat => rawInt i).toArray }).objs.size = some (sitObj (.ref s.heap.objs.size) i a es.size ep) /\ h'.get? a = some (setObj es ep t) /\ h'.get? s.heap.objs.size = some { cls := .type "tuple", data := .seq (ps.map fun i : Nat => rawInt i).toArray },
    vp, fun A' hh => ?_, ⟨Heap.get?_push_size _ rfl, Heap.get?_push_of_some _ (Heap.get?_push_of_some _ hs), Heap.get?_push_of_some _ (Heap.get?_push_size _ rfl)⟩, ?_, by simp⟩, fun b o e => Heap.get?_push_of_some _ (Heap.get?_push_of_some _ e), ?_, rfl, rfl, rfl⟩
   ·refine ⟨fun b hb => by simp at hb; simp [hb], fun i h1 h2 st k => ⟨k _ (by simp) _ st.1, k _ (by simp) _ st.2.1, k _ (by simp) _ st.2.2⟩, fun i s1 Q' E' hi st q => ?_, fun s1 Q' E' st q => ?_, fun i s1 Q' E' st q => sit_self st.1 q⟩
    ·have hi' : i < ps.length := by rw [List.length_map] at hi; exact hi
     have pl := lt _ (List.getElem_mem hi')
     refine sit_drawn (p := ps[i]) (tk := 0) (x := es[ps[i]]) st.1 st.2.1 T.fit rfl st.2.2 rfl (by simp [hi', rawInt]) (Array.getElem?_eq_getElem pl) fun h' g1 g2 => q _ h' s1.toks ?_ ⟨g1, ?_, ?_⟩ fun b o hb e => ?_
     ·simp [hi', pl]
     ·rw [g2.2 _ nI]; exact st.2.1
     ·rw [g2.2 _ nT]; exact st.2.2
     ·rw [g2.2 _ (by simpa using hb)]; exact e
    ·exact sit_drawn_end hh st.1 st.2.1 T.fit rfl st.2.2 rfl (by simp) fun h' g => q h' s1.toks fun b o hb e => g b o (by simpa using hb) e
   ·intro b hb
    simp only [List.mem_cons, List.not_mem_nil, or_false] at hb
    rw [Heap.size_push, sz]
    rcases hb with rfl | rfl | rfl
    ·rw [sz]; exact ⟨Nat.lt_succ_self _, .inr (no_obj (Nat.le_succ _))⟩
    ·exact ⟨Nat.lt_succ_of_lt (Nat.lt_succ_of_lt alt), .inl rfl⟩
    ·exact ⟨Nat.lt_succ_of_lt (Nat.lt_succ_self _), .inr (no_obj (Nat.le_refl _))⟩
   ·rw [sz]; exact no_obj (Nat.le_succ _)
  ·have hz' : decide (es.size > 1) = false := decide_eq_false hz
   rw [hz', Bool.and_false, Bool.and_false, if_neg Bool.false_ne_true]
   refine wpAny_bind (wpAny_pure ?_)
   refine two _ s hs fun it s' e1 e2 => ?_
   subst e1 e2
   have nI : a ≠ s.heap.objs.size := Nat.ne_of_lt alt
   have nx : ∀ (A' : Around) (i sl : Nat) (s1 : Shared) (Q' : Option (Value × Nat) -> Shared -> Prop) E', s1.heap.get? a = some (setObj es ep t) -> Q' (match es[SetTable.below t.place sl]?, t.place[SetTable.below t.place sl]? with | some (_, x), some j => some (x, j + 1) | _, _ => none) s1 -> wpAny (model P w) A' (setNext a sl i ep) Q' E' s1 := fun A' i sl s1 Q' E' h1 q => by
    unfold setNext
    refine wpAny_bind (wpAny_setState_of h1 rfl T.fit ?_)
    dsimp only
    refine wpAny_bind (by_text ?_)
    rw [hb', if_neg Bool.false_ne_true]
    show wpAny _ _ (if (!t.plain && decide (es.size > 1)) = true then _ else _) _ _ _
    rw [hz', Bool.and_false, if_neg Bool.false_ne_true]
    refine wpAny_bind ?_
    show wpAny _ _ (if (!t.led && !es.isEmpty) = true then _ else _) _ _ _
    rw [led, Bool.not_true, Bool.false_and, if_neg Bool.false_ne_true]
    exact wpAny_pure (wpAny_pure q)
   have gofar : ∀ sl : Nat, es.size = 0 -> SetTable.below t.place sl = 0 := fun sl h0 => by
    unfold SetTable.below
    rw [hpl, h0]
    rfl
   have gone : ∀ j sl : Nat, t.place = #[j] -> SetTable.below t.place sl = if j < sl then 1 else 0 := fun j sl e => by
    rw [e]
    simp [SetTable.below, SetTable.below.go]
   have old : ∀ b o, s.heap.get? b = some o -> (s.heap.push (sitObj (rawInt 0) 0 a es.size ep)).get? b = some o := fun b o e => Heap.get?_push_of_some _ e
   have inn : ∀ b ∈ [s.heap.objs.size, a], b < (s.heap.push (sitObj (rawInt 0) 0 a es.size ep)).objs.size /\ (b = a \/ s.heap.get? b = none) := by
    intro b hb
    simp only [List.mem_cons, List.not_mem_nil, or_false] at hb
    rw [Heap.size_push]
    rcases hb with rfl | rfl
    ·exact ⟨Nat.lt_succ_self _, .inr (no_obj (Nat.le_refl _))⟩
    ·exact ⟨Nat.lt_succ_of_lt alt, .inl rfl⟩
   by_cases h0 : es.size = 0
   ·have e0 : es = #[] := Array.eq_empty_of_size_eq_zero h0
    refine h _ _ ⟨⟨[s.heap.objs.size, a], [], fun i h' => h'.get? s.heap.objs.size = some (sitObj (.int ((0 : Nat) : Int) 0) i a es.size ep) /\ h'.get? a = some (setObj es ep t), by rw [e0]; exact .refl _, fun A' hh => ?_, ⟨Heap.get?_push_size _ rfl, old _ _ hs⟩, inn, by simp⟩, old, no_obj (Nat.le_refl _), rfl, rfl, rfl⟩
    refine ⟨fun b hb => by simp at hb; simp [hb], fun i h1 h2 st k => ⟨k _ (by simp) _ st.1, k _ (by simp) _ st.2⟩, fun i s1 Q' E' hi st q => absurd hi (Nat.not_lt_zero _), fun s1 Q' E' st q => ?_, fun i s1 Q' E' st q => sit_self st.1 q⟩
    exact sit_slot_end (sl := 0) hh st.1 st.2 T.fit rfl (fun Q2 E2 q2 => nx _ _ _ _ _ _ st.2 (by rw [gofar 0 h0, e0]; exact q2)) fun h' g => q h' s1.toks fun b o hb e => g b o (by simpa using hb) e
   ·have h1 : es.size = 1 := by omega
    obtain ⟨x, ex⟩ : ∃ x, es = #[x] := ⟨es[0], by
     refine Array.ext (by simpa using h1) fun i hi hj => ?_
     have : i = 0 := by simp at hj; exact hj
     subst this
     rfl⟩
    obtain ⟨j, ej⟩ : ∃ j, t.place = #[j] := ⟨t.place[0]'(by rw [hpl, h1]; decide), by
     refine Array.ext (by simp [hpl, h1]) fun i hi hj => ?_
     have : i = 0 := by simp at hj; exact hj
     subst this
     rfl⟩
    refine h _ _ ⟨⟨[s.heap.objs.size, a], [x.2], fun i h' => h'.get? s.heap.objs.size = some (sitObj (.int ((if i = 0 then 0 else j + 1 : Nat) : Int) 0) i a es.size ep) /\ h'.get? a = some (setObj es ep t), by rw [ex]; exact .refl _, fun A' hh => ?_, ⟨Heap.get?_push_size _ rfl, old _ _ hs⟩, inn, by simp⟩, old, no_obj (Nat.le_refl _), rfl, rfl, rfl⟩
    refine ⟨fun b hb => by simp at hb; simp [hb], fun i h1 h2 st k => ⟨k _ (by simp) _ st.1, k _ (by simp) _ st.2⟩, fun i s1 Q' E' hi st q => ?_, fun s1 Q' E' st q => ?_, fun i s1 Q' E' st q => sit_self st.1 q⟩
    ·obtain rfl : i = 0 := by simp at hi; exact hi
     refine sit_slot (sl := 0) (sl' := j + 1) (x := x.2) st.1 st.2 T.fit rfl (fun Q2 E2 q2 => nx _ _ _ _ _ _ st.2 ?_) fun h' g1 g2 => q _ h' s1.toks rfl ⟨g1, ?_⟩ fun b o hb e => ?_
     ·rw [gone j 0 ej, ej, ex]
      exact q2
     ·rw [g2.2 _ nI]; exact st.2
     ·rw [g2.2 _ (by simpa using hb)]; exact e
    ·refine sit_slot_end (sl := j + 1) hh st.1 st.2 T.fit rfl (fun Q2 E2 q2 => nx _ _ _ _ _ _ st.2 ?_) fun h' g => q h' s1.toks fun b o hb e => g b o (by simpa using hb) e
     rw [gone j (j + 1) ej, if_pos (Nat.lt_succ_self j), ej, ex]
     exact q2
end
end L2
namespace L2
open PySem
section
variable {P : Program} {w : World} {A : Around} {E : Value -> Shared -> Prop} {s : Shared}
theorem set_len_lk : typeLookup (.type "set") "__len__" = pure (some (.builtin "set.__len__")) := by rw [typeLookup_type, builtinLookup_eq_fast]; kernel_rfl
theorem set_sub_self : isSubtype (.type "set") (.type "set") = pure true := by rw [isSubtype_type]; kernel_rfl
theorem collect_set {a : Addr} {es : Array (Int × Value)} {ep : Nat} {t : SetTable} {ys : List Str} {Q : List Value -> Shared -> Prop} (hh : A.handled = none) (hs : s.heap.get? a = some (setObj es ep t)) (T : TxtTab P w es t ys)
  (h : ∀ s' vs, vs.Perm (es.toList.map (·.2)) -> (∀ b o, s.heap.get? b = some o -> s'.heap.get? b = some o) -> s'.gens = s.gens -> s'.os = s.os -> s.heap.objs.size < s'.heap.objs.size -> Q vs s') : wpAny (model P w) A (collect (.ref a)) Q E s := by
 unfold collect
 refine wpAny_bind (wpAny_runValue (codeAny_builtin F.entry_proto_collect ?_))
 rw [Around.under_plainId F.plain_proto_collect _]
 show wpAny _ A.in1 (newList [] >>= fun l => again (.builtin "list.__iadd__" ⟨[l, .ref a], []⟩)) _ _ s
 refine wpAny_bind (wpAny_newObj_type ?_)
 refine wpAny_pure ⟨plainId_quiet F.plain_list_iadd _, codeAny_builtin F.entry_list_iadd ?_⟩
 rw [Around.under_plainId F.plain_list_iadd _]
 have alt : a < s.heap.objs.size := Heap.lt_size hs
 have hs1 : (s.heap.push { cls := .type "list", data := .seq ([] : List Value).toArray }).get? a = some (setObj es ep t) := Heap.get?_push_of_some _ hs
 show wpAny _ A.in1 (Builtin.List.listExtendWith (.ref s.heap.objs.size) (.ref a) (.ref s.heap.objs.size)) _ _ _
 unfold Builtin.List.listExtendWith
 refine wpAny_bind (wpAny_typeOf (T := "set") ⟨_, hs1, rfl⟩ ?_)
 have h1 : Builtin.List.listSameRef (.ref s.heap.objs.size) (.ref a) = false := by
  simp only [Builtin.List.listSameRef, beq_eq_false_iff_ne]
  exact Nat.ne_of_gt alt
 rw [if_neg (by rw [h1]; decide)]
 refine wpAny_bind (iter_set (A := A.in1) (s := { s with heap := s.heap.push { cls := .type "list", data := .seq ([] : List Value).toArray } }) hs1 T fun s2 I W => ?_)
 obtain ⟨⟨fp, vs, St, hp, wk, st0, hfp, hI⟩, old, new, eg, eo, et⟩ := W
 have hs2 := old _ _ hs1
 have l2 := old _ _ (show (s.heap.push { cls := .type "list", data := .seq ([] : List Value).toArray }).get? s.heap.objs.size = some { cls := .type "list", data := .seq ([] : List Value).toArray } from Heap.get?_push_size _ rfl)
 refine wpAny_bind (wpAny_holding ?_)
 unfold Builtin.List.listLengthHint
 refine wpAny_bind (wpAny_specialOf (T := "set") ⟨_, hs2, rfl⟩ set_len_lk ?_)
 have ty2 : s2.TypeIs (.ref a) "set" := ⟨_, hs2, rfl⟩
 (generalize hid : ("set.__len__" : String) = id0; (fail_if_success (clear hid id0)); wp_delta; rw [show splitId id0 = some ("set", "__len__") from by subst hid; decide +kernel]; subst hid)
 refine wpAny_bind (wpAny_isInstance (b := true) ty2 set_sub_self ?_)
 rw [if_neg (by decide)]
 show wpAny _ _ (if _ = true then _ else _) _ _ _
 rw [if_pos (by decide)]
 refine wpAny_bind (wpAny_typeOf ty2 ?_)
 refine wpAny_pure ?_
 rw [if_pos (by decide)]
 refine wpAny_bind (wpAny_rule ?_)
 refine wpAny_bind ?_
 show wpAny _ A.in1 (updateSeq s.heap.objs.size (·.push .none) >>= fun _ => updateSeq s.heap.objs.size (·.pop)) _ _ _
 refine wpAny_bind (wpAny_updateSeq l2 rfl ?_)
 have l3 := Heap.get?_update_self (Obj.mapSeq (·.push Value.none)) l2 rfl
 refine wpAny_updateSeq l3 rfl ?_
 have l4 := Heap.get?_update_self (Obj.mapSeq (·.pop)) l3 rfl
 have oth : ∀ b o, b ≠ s.heap.objs.size -> s2.heap.get? b = some o -> ((s2.heap.update s.heap.objs.size (Obj.mapSeq (·.push Value.none))).update s.heap.objs.size (Obj.mapSeq (·.pop))).get? b = some o := fun b o hb e =>
  (Heap.get?_update_other _ _ (Ne.symm hb)).trans ((Heap.get?_update_other _ _ (Ne.symm hb)).trans e)
 have notin : s.heap.objs.size ∉ fp := fun hm => by
  rcases (hfp _ hm).2 with z | z
  ·exact Nat.lt_irrefl _ (z ▸ alt)
  ·rw [show ({ s with heap := s.heap.push { cls := .type "list", data := .seq ([] : List Value).toArray } } : Shared).heap.get? s.heap.objs.size = some { cls := .type "list", data := .seq ([] : List Value).toArray } from Heap.get?_push_size _ rfl] at z
   cases z
 have hn : vs.length <= sizeLine := by rw [hp.length_eq, List.length_map, Array.length_toList]; exact fits_of_scanBound T.few
 have W := (wk A.in1 (by simp [hh])).toS
 refine wpAny_pure ⟨plainId_quiet F.plain_extend_loop _, codeAny_extend_loopS W hn _ notin _ vs.length 0 _ _ _ rfl (Nat.zero_le _)
  (W.frame 0 s2 _ s2.toks st0 (Nat.le_refl _) fun b hb o e => oth b o (fun z => notin (z ▸ hb)) e) l4 (ItemsOf.nil _) fun s' acc c' hm hS' hacc => ?_⟩
 show wpAny _ A (load s.heap.objs.size >>= _) _ _ s'
 refine wpAny_bind (wpAny_load hS' (wpAny_pure ?_))
 have ea : acc.toList = vs := by
  refine List.ext_getElem? fun i => ?_
  rw [Array.getElem?_toList]
  by_cases hi : i < acc.size
  ·rw [Array.getElem?_eq_getElem hi]
   exact (hacc.2 i _ (Array.getElem?_eq_getElem hi)).symm
  ·rw [Array.getElem?_eq_none (Nat.not_lt.mp hi), List.getElem?_eq_none (by have := hacc.1; omega)]
 rw [ea]
 refine h s' vs hp (fun b o e => ?_) (hm.gens.trans eg) (hm.os.trans eo) (Heap.lt_size hS')
 have lb : b ≠ s.heap.objs.size := fun z => by rw [z] at e; exact Nat.lt_irrefl _ (Heap.lt_size e)
 have bI : b ≠ I := fun z => by
  rw [z] at e
  have e2 : (s.heap.push { cls := .type "list", data := .seq ([] : List Value).toArray }).get? I = some o := Heap.get?_push_of_some _ e
  exact absurd (e2.symm.trans new) (by simp)
 exact hm.heap b o (by simp [lb, bI]) (oth b o lb (old b o (Heap.get?_push_of_some _ e)))
theorem sorted_set {a : Addr} {es : Array (Int × Value)} {ep : Nat} {t : SetTable} {ys : List Str} {Q : Value -> Shared -> Prop} (hh : A.handled = none) (hs : s.heap.get? a = some (setObj es ep t)) (T : TxtTab P w es t ys) (few : es.size < 64)
  (h : ∀ s' l n (zs : List Str) (out : List Value), s.heap.objs.size <= l -> s'.heap.get? l = some { cls := .type "list", data := .seq out.toArray n } -> PyProof.Rows.StrsAre out zs -> zs.Nodup -> (∀ k, k ∈ zs ↔ k ∈ ys) -> PyProof.Rows.sortedS zs = true -> zs.length = es.size ->
   (∀ b o, s.heap.get? b = some o -> s'.heap.get? b = some o) -> s'.gens = s.gens -> s'.os = s.os -> Q (.ref l) s') : wpAny (model P w) A (call (.builtin "sorted") [.ref a]) Q E s := by
 refine Calls.call_function_entry PyProof.Rows.kind_sorted PyProof.Rows.plain_sorted PyProof.Rows.entry_sorted (PyProof.Rows.args_sorted1 _) ?_
 unfold Builtin.«sorted»
 refine wpAny_bind (m := checkCount "sorted" 1 1 _) (wpAny_pure ?_)
 refine wpAny_bind (collect_set (A := A.in1) (by simpa using hh) hs T fun s1 vs hp old eg eo lt1 => ?_)
 have str : ∀ us : List Value, (∀ v ∈ us, ∃ k tk, v = Value.str k tk) -> PyProof.Rows.StrsAre us (us.map txt) := by
  intro us
  induction us with
  | nil => intro _; exact .nil
  | cons v r ih =>
   intro hv
   obtain ⟨k, tk, rfl⟩ := hv _ List.mem_cons_self
   exact .cons k tk (ih fun u hu => hv u (List.mem_cons_of_mem _ hu))
 have all : ∀ v ∈ vs, ∃ k tk, v = Value.str k tk := fun v hv => by
  obtain ⟨e, he, rfl⟩ := List.mem_map.mp (hp.mem_iff.mp hv)
  obtain ⟨⟨k, hk, _⟩, _⟩ := T.el e he
  obtain ⟨tk, e2⟩ := Value.isStrOf_shape hk
  exact ⟨k, tk, e2⟩
 have hS := str vs all
 have len : vs.length = es.size := by rw [hp.length_eq, List.length_map, Array.length_toList]
 refine wpAny_bind (wpAny_newList ?_ (by rw [len]; exact fits_of_scanBound T.few))
 have ho : (s1.heap.push { cls := .type "list", data := .seq vs.toArray }).get? s1.heap.objs.size = some (PyProof.Rows.seqObj "list" vs.toArray 0) := Heap.get?_push_size _ rfl
 refine wpAny_bind (wpAny_holding (wpAny_call_entry PyProof.Rows.slot_list_sort ⟨_, ho, rfl⟩ PyProof.Rows.entry_list_sort (PyProof.Rows.list_sort_treeK PyProof.Rows.strKind_oneLt ho hS.keysOf (fun v1 v2 rest e => PyProof.Rows.keyKind_strs (by rw [<- e]; exact hS)) (by omega) fun st' a1 a2 => ⟨_, rfl, ?_⟩) (PyProof.Rows.args_list_sort _)))
 obtain ⟨zs, h1, h2, h3⟩ := PyProof.Rows.sorted_out_str hS a1 a2
 obtain ⟨n, at1⟩ := PyProof.Rows.sortedHeap_at (out := (PyProof.Rows.arrOf st').map (·.2)) ho
 have pz : zs.Perm (es.toList.map fun e => txt e.2) := by
  refine h2.trans ((hp.map txt).trans ?_)
  rw [List.map_map]
  exact .refl _
 refine wpAny_pure ⟨_, rfl, h _ s1.heap.objs.size n zs ((PyProof.Rows.arrOf st').map (·.2)).toList (Nat.le_of_lt lt1) ?_ h1 (pz.nodup_iff.mpr T.nd) (fun k => (pz.mem_iff).trans (T.mem k)) h3 (by rw [pz.length_eq, List.length_map, Array.length_toList]) (fun b o e => ?_) eg eo⟩
 ·exact at1
 ·have e1 := old b o e
  have lt := Heap.lt_size e1
  have e2 := (PyProof.Rows.sortedHeap_old (h := s1.heap.push { cls := .type "list", data := .seq vs.toArray }) (a := s1.heap.objs.size) (vs := vs) (out := (PyProof.Rows.arrOf st').map (·.2)) (Nat.ne_of_lt lt) (by rw [Heap.size_push]; exact Nat.lt_succ_of_lt lt))
  exact e2.trans (Heap.get?_push_of_some _ e1)
end
end L2
namespace L2
open PySem
section
variable {P : Program} {w : World} {A : Around} {E : Value -> Shared -> Prop} {s : Shared}
def set0 (w : World) : Obj := setObj #[] 0 (.fresh 0 0 (!w.params.followText "set-order"))
theorem new_set (v : Value) {Q1 : Value -> Shared -> Prop} (h : Q1 (.ref s.heap.objs.size) { s with heap := s.heap.push (set0 w) }) :
  codeAny (model P w) A (.call (.builtin "set.__new__") ⟨[.type "set", v], []⟩) (wants Q1 E) s := by
 refine codeAny_of_tree ?_
 show wpAny _ A.in1 (do checkBuiltinCall "set.__new__" ⟨[.type "set", v], []⟩; again (.builtin "set.__new__" ⟨[.type "set", v], []⟩)) _ _ s
 have en := F.entry_set_new
 have pl := F.plain_set_new
 refine wpAny_bind (wpAny_of_eq (F.newCall_set_1 v) (wpAny_pure ⟨plainId_quiet pl _, codeAny_builtin en ?_⟩))
 rw [Around.under_plainId pl _]
 unfold Builtin.«set.__new__» Builtin.Frozenset.newClass
 have sub := sub_set_self
 obtain ⟨hp, g, d, tk, os⟩ := s
 dsimp only
 wp_walk
 refine wpAny_askSetting (wpAny_pure ?_)
 dsimp only
 simp only [newObj]
 refine wpAny_bind (wpAny_alloc (wpAny_pure ?_))
 exact wpAny_pure h
theorem strs_len : ∀ {vs : List Value} {zs : List Str}, PyProof.Rows.StrsAre vs zs -> zs.length = vs.length
 | _, _, .nil => rfl
 | _, _, .cons _ _ r => by rw [List.length_cons, List.length_cons, strs_len r]
theorem strs_at : ∀ {vs : List Value} {zs : List Str}, PyProof.Rows.StrsAre vs zs -> ∀ (i : Nat) (v : Value), vs[i]? = some v -> ∃ k t, zs[i]? = some k /\ v = .str k t
 | _, _, .nil, i, v, h => by simp at h
 | _, _, .cons x t r, 0, v, h => by simp at h; exact ⟨x, t, rfl, h.symm⟩
 | _, _, .cons x t r, i + 1, v, h => by
  simp only [List.getElem?_cons_succ] at h ⊢
  exact strs_at r i v h
theorem tab0 : TxtTab P w #[] (.fresh 0 0 (!w.params.followText "set-order")) [] :=
 { el := (fun e he => by cases he), nd := List.nodup_nil, mem := fun _ => Iff.rfl, few := (by unfold scanBound; decide), fit := rfl, led := rfl, pl := fun z => absurd z (Nat.lt_irrefl 0) }
set_option maxHeartbeats 3200000 in
theorem call_set_txt {l : Addr} {items : Array Value} {zs : List Str} {Q : Value -> Shared -> Prop} (hh : A.handled = none) (hl : s.heap.IsList l items) (hi : PyProof.Rows.StrsAre items.toList zs) (hb : items.size + 1 < scanBound)
  (h : ∀ (h' : Heap) (tk : Nat) es ep t, h'.get? s.heap.objs.size = some (setObj es ep t) -> TxtTab P w es t zs ->
   (∀ b o, b < s.heap.objs.size -> s.heap.get? b = some o -> h'.get? b = some o) -> Q (.ref s.heap.objs.size) { s with heap := h', toks := tk }) :
  wpAny (model P w) A (call (.type "set") [.ref l]) Q E s := by
 obtain ⟨c, tl, hmro⟩ := F.called_set.mro
 have hmade := F.called_set.made
 have hsub := F.called_set.sub
 refine wpAny_call (codeAny_of_tree ?_)
 show wpAny _ _ (callAny (.type "set") _) _ _ _
 refine wpAny_pure ⟨Code.quiet_builtin _ (by decide +kernel), codeAny_builtin F.entry_type_call ?_⟩
 rw [Around.under_plain (weight_type_call_type "set" [.ref l] []) rfl]
 have h1 := F.called_set.notType
 have h2 := F.called_set.canCreate
 have hct := F.typeCall_set_1 (.ref l)
 repeat (any_goals (first | assumption | wp_step))
 refine codeAny_mono (new_set (P := P) (w := w) (E := E) (s := s) (.ref l) (Q1 := fun ob s1 => ob = .ref s.heap.objs.size /\ s1 = { s with heap := s.heap.push (set0 w) }) ⟨rfl, rfl⟩) fun r s1 hr => ?_
 cases r with
 | error e => exact hr
 | ok fl =>
  cases fl with
  | ret ob =>
   obtain ⟨rfl, rfl⟩ := hr
   have hS : (s.heap.push (set0 w)).get? s.heap.objs.size = some (set0 w) := Heap.get?_push_size _ rfl
   have hT : Shared.TypeIs { s with heap := s.heap.push (set0 w) } (.ref s.heap.objs.size) "set" := ⟨_, hS, rfl⟩
   have hli := F.called_set.init.lookup
   have hbi := F.called_set.init.bind (.ref s.heap.objs.size)
   repeat (any_goals (first | assumption | wp_step))
   refine codeAny_mono (codeAny_call_builtin (R := wants (fun r s2 => r = .none /\ ∃ h' tk, s2 = { s with heap := h', toks := tk } /\ (∃ es ep t, h'.get? s.heap.objs.size = some (setObj es ep t) /\ TxtTab P w es t zs) /\
     (∀ b o, b < s.heap.objs.size -> s.heap.get? b = some o -> h'.get? b = some o)) E) F.called_set.init.plain F.entry_set_init (check_set_init_1 hT ?_)) fun r2 s2 hr2 => ?_
   ·obtain ⟨ol, hol, hcl, nl, hdl⟩ := hl
    obtain ⟨ocls, odict, odata, oslots⟩ := ol
    simp only at hcl hdl
    subst hcl hdl
    have hol' : (s.heap.push (set0 w)).get? l = some { cls := .type "list", dict := odict, data := .seq items nl, slots := oslots } := Heap.get?_push_of_some _ hol
    have k1 := F.sub_list_set
    have k2 := F.sub_list_frozenset
    have k3 : (Value.type "list" == Value.type "dict") = false := by decide
    have hl1 : (s.heap.push (set0 w)).IsList l items := ⟨_, hol', rfl, nl, rfl⟩
    unfold Builtin.«set.__init__» noKeywords Builtin.Frozenset.updateFrom
    generalize hPI : pyIter = PI
    wp_walk
    subst hPI
    refine wpAny_pyIter_list hl1 ?_
    refine wpAny_bind (wpAny_runValue ?_)
    have lS : l < s.heap.objs.size := Heap.lt_size hol
    have hh3 : A.in1.in1.in1.handled = none := by simp [hh]
    have neI : l ≠ (s.heap.push (set0 w)).objs.size := by rw [Heap.size_push]; exact Nat.ne_of_lt (Nat.lt_succ_of_lt lS)
    have nin : s.heap.objs.size ∉ [(s.heap.push (set0 w)).objs.size, l] := by
     rw [Heap.size_push]
     simp only [List.mem_cons, List.not_mem_nil, or_false, not_or]
     exact ⟨Nat.ne_of_lt (Nat.lt_succ_self _), Nat.ne_of_gt lS⟩
    have hz : ∀ (i : Nat) (v : Value), items[i]? = some v -> ∃ k t, zs[i]? = some k /\ v = .str k t := fun i v hv => strs_at hi i v (by rw [Array.getElem?_toList]; exact hv)
    have lz : zs.length = items.size := by rw [<- Array.length_toList]; exact strs_len hi
    refine fill_txt ((Walks.list hh3 _ l neI items).toS) s.heap.objs.size nin zs hz hb (items.size - 0) 0 _ (by omega) (Nat.zero_le _) ⟨⟨_, Heap.get?_push_size _ rfl, rfl, rfl⟩, (hl1.push _)⟩ ⟨#[], 0, _, Heap.get?_push_of_some _ hS, tab0, Nat.le_refl _⟩ fun s' hm hS' => ?_
    obtain ⟨es, ep, t, g1, g2, _⟩ := hS'
    obtain ⟨h', g', d', tk', os'⟩ := s'
    have eg : g' = s.gens := hm.gens
    have ed : d' = s.drawn := hm.drawn
    have eo : os' = s.os := hm.os
    subst eg ed eo
    refine wpAny_pure ?_
    rw [<- lz, List.take_length] at g2
    refine wpAny_pure ⟨rfl, h', tk', rfl, ⟨es, ep, t, g1, g2⟩, fun b o hb e => ?_⟩
    have n1 : b ≠ s.heap.objs.size := Nat.ne_of_lt hb
    have n2 : b ≠ (s.heap.push (set0 w)).objs.size := by rw [Heap.size_push]; exact Nat.ne_of_lt (Nat.lt_succ_of_lt hb)
    exact hm.heap b o (by simp only [List.mem_cons, List.not_mem_nil, or_false, not_or]; exact ⟨n1, n2⟩) (Heap.get?_push_of_some _ (Heap.get?_push_of_some _ e))
   ·cases r2 with
    | error e => exact hr2
    | ok fl2 =>
     cases fl2 with
     | ret r =>
      obtain ⟨rfl, h', tk, rfl, ⟨es, ep, t, g1, g2⟩, hk⟩ := hr2
      repeat (any_goals (first | assumption | wp_step))
      exact h _ _ _ _ _ g1 g2 hk
     | _ => exact hr2.elim
  | _ => exact hr.elim
end
end L2
namespace L2
open PySem PySem.Spec PyProof.Rows
def TSetO (P : Program) (w : World) (a : Addr) (ys : List Str) : HO := .ext fun h => ∃ es ep t, h.get? a = some (setObj es ep t) /\ TxtTab P w es t ys
theorem TSetO.ok {P : Program} {w : World} {H : Hp} {h : Heap} {a : Addr} {ys : List Str} {es : Array (Int × Value)} {ep : Nat} {t : SetTable} (e : h.get? a = some (setObj es ep t)) (T : TxtTab P w es t ys) : ObjOk P w H h a (TSetO P w a ys) :=
 ⟨⟨es, ep, t, e, T⟩, ⟨_, e⟩, fun h1 h2 ⟨es, ep, t, q, T⟩ k => ⟨es, ep, t, k _ q, T⟩⟩
theorem strs_of : ∀ {ys : List Str} {its : List Value}, Vals (ys.map V.str) its -> StrsAre its ys
 | [], _, .nil => .nil
 | y :: ys, _, .cons r t => by
  obtain ⟨k, rfl⟩ := r
  exact .cons y k (strs_of t)
theorem of_strs : ∀ {ys : List Str} {its : List Value}, StrsAre its ys -> Vals (ys.map V.str) its
 | _, _, .nil => .nil
 | _, _, .cons x t r => .cons ⟨t, rfl⟩ (of_strs r)
theorem few_of {zs ds : List Str} (h : zs.Nodup) (k : ∀ x ∈ zs, x ∈ ds) : zs.length <= ds.length := by
 induction zs generalizing ds with
 | nil => exact Nat.zero_le _
 | cons x r ih =>
  have hx := k x List.mem_cons_self
  have h' := List.nodup_cons.mp h
  have := ih (ds := ds.erase x) h'.2 fun y hy => (List.mem_erase_of_ne (by rintro rfl; exact h'.1 hy)).mpr (k y (List.mem_cons_of_mem _ hy))
  rw [List.length_erase_of_mem hx] at this
  have : 0 < ds.length := List.length_pos_of_mem hx
  simp only [List.length_cons]
  omega
section
variable {X : Cx}
theorem Inv.redrawn {pins : List (Addr × Obj)} {σ : St} {H : Hp} {s s' : Shared} (I : Inv X pins σ H { s with heap := s'.heap }) (hg : s'.gens = s.gens) (ho : s'.os = s.os) : Inv X pins σ H s' :=
 ⟨I.ok, ho.trans I.os, by rw [hg]; exact I.bare, I.base, I.loc, I.cell, I.free, I.freeC, I.pin, I.hok, I.len⟩
theorem call_set_of (hc : X.calm = true) : CallR X (.type "set") (fun xs H Q => ∃ p ys, xs = [.ref p] /\ SqL X.K H p (ys.map V.str) /\ ys.length < 4000 /\ ∀ l, H l = none -> Q (.ref l) (upd H l (TSetO X.prog X.w l ys))) := by
 intro pins s σ H xs us Q I r h
 obtain ⟨p, ys, rfl, hq, hz, q⟩ := h
 obtain ⟨u, rfl, rx⟩ := vals1 r
 cases rx
 obtain ⟨its, r', pl, _⟩ := I.list hq
 have hlen := r'.length
 rw [List.length_map] at hlen
 refine call_set_txt (I.ok.hd hc) pl.isList (zs := ys) (by simpa using strs_of r') (by simp only [List.size_toArray]; unfold scanBound; omega) fun h' tk es ep t e T k => ?_
 have kp : ∀ b o, s.heap.get? b = some o -> h'.get? b = some o := fun b o q => k b o (Heap.lt_size q) q
 exact ⟨.ref s.heap.objs.size, _, I.laid (t' := tk) kp (Nat.le_refl _) (TSetO.ok e T), rfl, q _ (I.hok.fresh (Nat.le_refl _))⟩
theorem call_sorted_of (hc : X.calm = true) : CallR X (.builtin "sorted") (fun xs H Q => ∃ (p : Addr) (ys ds : List Str), xs = [.ref p] /\ H p = some (TSetO X.prog X.w p ys) /\ (∀ k ∈ ys, k ∈ ds) /\ ds.length < 64 /\
  ∀ l zs, H l = none -> zs.Nodup -> (∀ k, k ∈ zs ↔ k ∈ ys) -> sortedS zs = true -> Q (.ref l) (upd H l (.lst (zs.map V.str)))) := by
 intro pins s σ H xs us Q I r h
 obtain ⟨p, ys, ds, rfl, hq, hd, h64, q⟩ := h
 obtain ⟨u, rfl, rx⟩ := vals1 r
 cases rx
 obtain ⟨⟨es, ep, t, e, T⟩, _, _⟩ := I.hok p _ hq
 have few : es.size < 64 := by
  have := few_of T.nd fun x hx => hd x ((T.mem x).mp hx)
  rw [List.length_map, Array.length_toList] at this
  omega
 refine sorted_set (I.ok.hd hc) e T few fun s' l n zs out hl ho hS nd hm so hzl kp hg hos => ?_
 have lz : zs.length <= sizeLine := by rw [hzl]; exact fits_of_scanBound T.few
 have J := I.laid (t' := s.toks) (h' := s'.heap) (a := l) (o := .lst (zs.map V.str)) kp hl ⟨by rw [List.length_map]; exact lz, out, n, of_strs hS, ho⟩
 exact ⟨.ref l, _, Inv.redrawn (s := s) J hg hos, rfl, q l zs (I.hok.fresh hl) nd hm so⟩
end
end L2
namespace L2
open PySem
theorem lri_nolen : typeLookup (.type "list_reverseiterator") "__len__" = pure none := by rw [typeLookup_type, builtinLookup_eq_fast]; kernel_rfl
theorem lri_hint : typeLookup (.type "list_reverseiterator") "__length_hint__" = pure (some (.builtin "list_reverseiterator.__length_hint__")) := by rw [typeLookup_type, builtinLookup_eq_fast]; kernel_rfl
section
variable {P : Program} {w : World} {A : Around} {E : Value -> Shared -> Prop} {s : Shared}
theorem list_of_rev {I l : Addr} {items : Array Value} {Q : Value -> Shared -> Prop} (hh : A.handled = none) (hne : l ≠ I) (hI : s.heap.IsRevIter I l ((items.size : Int) - 1)) (hl : s.heap.IsList l items) (hz : items.size <= sizeLine)
  (h : ∀ h' tk c', (∀ b o, b ≠ I -> s.heap.get? b = some o -> h'.get? b = some o) -> h'.get? s.heap.objs.size = some { cls := .type "list", data := .seq items.toList.reverse.toArray c' } -> Q (.ref s.heap.objs.size) { s with heap := h', toks := tk }) :
  wpAny (model P w) A (call (.type "list") [.ref I]) Q E s := by
 obtain ⟨oI, gI, cI, dI⟩ := id hI
 obtain ⟨oL, gL, _⟩ := id hl
 have lI := Heap.lt_size gI
 have lL := Heap.lt_size gL
 refine callType_codes (Q₁ := fun ob s1 => ob = .ref s.heap.objs.size /\ s1 = { s with heap := s.heap.push { cls := .type "list", data := .seq #[] } }) F.called_list (F.typeCall_list_1 _) F.entry_list_init (code_list_new _ ⟨rfl, rfl⟩) fun ob s1 h1 => ?_
 obtain ⟨rfl, rfl⟩ := h1
 have hS : (s.heap.push { cls := .type "list", data := .seq #[] }).get? s.heap.objs.size = some { cls := .type "list", data := .seq #[] } := Heap.get?_push_size _ rfl
 refine ⟨⟨_, hS, rfl⟩, F.args_list_init_2 _ _, ?_⟩
 show wpAny _ _ (do let old <- Builtin.List.listItems (.ref s.heap.objs.size); Builtin.List.listUpdate (.ref s.heap.objs.size) (fun _ => #[]); letGo old.toList.reverse; Builtin.List.listExtendWith (.ref s.heap.objs.size) (.ref I) .none) _ _ _
 refine wpAny_bind ?_
 unfold Builtin.List.listItems
 refine wpAny_bind (wpAny_seqItems hS rfl (wpAny_pure ?_))
 refine wpAny_bind ?_
 show wpAny _ _ (updateSeq s.heap.objs.size (fun _ => #[])) _ _ _
 refine wpAny_updateSeq hS rfl ?_
 have hS2 := Heap.get?_update_self (Obj.mapSeq (fun _ => (#[] : Array Value))) hS rfl
 have oth : ∀ b o, b ≠ s.heap.objs.size -> s.heap.get? b = some o -> ((s.heap.push { cls := .type "list", data := .seq #[] }).update s.heap.objs.size (Obj.mapSeq (fun _ => (#[] : Array Value)))).get? b = some o :=
  fun b o hb e => (Heap.get?_update_other _ _ (Ne.symm hb)).trans (Heap.get?_push_of_some _ e)
 refine wpAny_bind (wpAny_letGo ?_)
 have nI : I ≠ s.heap.objs.size := Nat.ne_of_lt lI
 have nL : l ≠ s.heap.objs.size := Nat.ne_of_lt lL
 have hI2 := hI.at fun o e => oth I o nI e
 have hl2 := hl.at fun o e => oth l o nL e
 have ty := hI2.typeIs (s := { s with heap := (s.heap.push { cls := .type "list", data := .seq #[] }).update s.heap.objs.size (Obj.mapSeq (fun _ => (#[] : Array Value))) })
 unfold Builtin.List.listExtendWith
 refine wpAny_bind (wpAny_typeOf ty ?_)
 have h1 : Builtin.List.listSameRef (.ref s.heap.objs.size) (.ref I) = false := by simp [Builtin.List.listSameRef, Ne.symm nI]
 rw [if_neg (by rw [h1]; decide)]
 refine wpAny_bind (wpAny_pyIter_revIter hI2 ?_)
 refine wpAny_bind (wpAny_holding ?_)
 unfold Builtin.List.listLengthHint
 refine wpAny_bind (wpAny_specialOf ty lri_nolen ?_)
 show wpAny _ _ (specialOf (Value.ref I) (Str.ofString "__length_hint__") >>= _) _ _ _
 refine wpAny_bind (wpAny_specialOf ty lri_hint ?_)
 (generalize hid : ("list_reverseiterator.__length_hint__" : String) = id0; (fail_if_success (clear hid id0)); wp_delta; rw [show splitId id0 = some ("list_reverseiterator", "__length_hint__") from by subst hid; decide +kernel]; subst hid)
 refine wpAny_bind (wpAny_isInstance (b := true) ty (by rw [isSubtype_type]; kernel_rfl) ?_)
 refine wpAny_pure ?_
 rw [if_neg (by decide)]
 have W := (Walks.listRev (prog := P) (w := w) (A := A.in1.in1) (by simp [hh]) I l hne items).toS
 have notin : s.heap.objs.size ∉ [I, l] := by simp [Ne.symm nI, Ne.symm nL]
 refine wpAny_pure ⟨plainId_quiet F.plain_extend_loop _, codeAny_extend_loopS W hz _ notin _ items.size 0 _ _ _ rfl (Nat.zero_le _) ⟨Nat.zero_le _, by simpa using hI2, hl2⟩ hS2 (ItemsOf.nil _) fun s' acc c' hm hS' hacc => ?_⟩
 refine ⟨rfl, ?_⟩
 obtain ⟨h', g', d', tk', os'⟩ := s'
 have eg : g' = s.gens := hm.gens
 have ed : d' = s.drawn := hm.drawn
 have eo : os' = s.os := hm.os
 subst eg ed eo
 have ea : acc = items.toList.reverse.toArray := by
  refine Array.ext (by simp [hacc.1]) fun i h1 h2 => ?_
  have q := hacc.2 i _ (Array.getElem?_eq_getElem h1)
  change items[items.size - 1 - i]? = some acc[i] at q
  have lt : items.size - 1 - i < items.size := by have := hacc.1; omega
  rw [Array.getElem?_eq_getElem lt] at q
  simp only [List.getElem_toArray, List.getElem_reverse, Array.getElem_toList, Array.length_toList]
  exact (Option.some.inj q).symm
 subst ea
 refine h h' tk' c' (fun b o hb e => ?_) hS'
 ·have nb : b ≠ s.heap.objs.size := Nat.ne_of_lt (Heap.lt_size e)
  exact hm.heap b o (by simp [nb, hb]) (oth b o nb e)
end
end L2
namespace L2
open PySem PySem.Spec PyProof.Rows
section
variable {X : Cx}
theorem mt_index : MtR X "str.index" (fun v xs H Q => ∃ (z y : Str) (i : Nat) (r : List Nat), v = .str z /\ xs = [.str y] /\ Builtin.Str.occurrences z y 0 z.length 1 = i :: r /\ Q (.int (i : Int)) H) := by
 intro pins s σ H x xs v us Q I rx r h
 obtain ⟨z, y, i, l, rfl, rfl, ho, q⟩ := h
 obtain ⟨t, rfl⟩ := rx
 obtain ⟨u, rfl, t', rfl⟩ := vals1 r
 exact call_gives PySem.F.slot_str_index (typeIs_str _ _ _) PySem.F.entry_str_index (PySem.F.args_str_index_2 _ _) (gives_str_index z y t t' i l ho) ⟨.int i, H, I.tok _, ⟨_, rfl⟩, q⟩
theorem Vals.rev : ∀ {xs : List V} {us : List Value}, Vals xs us -> Vals xs.reverse us.reverse
 | _, _, .nil => .nil
 | _, _, .cons r t => by
  rw [List.reverse_cons, List.reverse_cons]
  exact Vals.append (Vals.rev t) (.cons r .nil)
def tListRev (K : PySem.W.Frag) (te : TE) : TE := fun σ H Q => te σ H fun x H1 => ∃ p ys, x = .ref p /\ SqL K H1 p ys /\ ∀ l, H1 l = none -> Q (.ref l) (upd H1 l (.lst ys.reverse))
theorem pe_listrev {e : Expr} {te : TE} {p1 p2 pos1 pos2 : Pos} (hc : X.calm = true) (hg : Gl X "list") (hm : X.mg "list" = none) (hg2 : Gl X "reversed") (hm2 : X.mg "reversed" = none) (he : PE X e te)
  (hs : starEach [e] X.env = [(false, eval e X.env)] := by rfl) (hs2 : starEach [.Call (.Name "reversed" p2) [e] [] pos2] X.env = [(false, eval (.Call (.Name "reversed" p2) [e] [] pos2) X.env)] := by rfl) :
  PE X (.Call (.Name "list" p1) [.Call (.Name "reversed" p2) [e] [] pos2] [] pos1) (tListRev X.K te) := by
 intro pins s σ H Q I h
 refine wpAny_Call_Name_kw (ld_blt I hg hm PyProof.Rows.Boot.«list» ?_)
 refine PyProof.Rows.callWith_type1 ?_ (by rw [hs2]; rfl) rfl
 rw [hs2]
 show wpAny _ _ (spliced ((false, eval (.Call (.Name "reversed" p2) [e] [] pos2) X.env) :: backTo pos1 [])) _ _ s
 refine Calls.spliced_cons ?_
 refine wpAny_Call_Name_kw (ld_blt I hg2 hm2 PyProof.Rows.Boot.«reversed» ?_)
 refine PyProof.Rows.callWith_type1 ?_ (by rw [hs]; rfl) rfl
 rw [hs]
 show wpAny _ _ (spliced ((false, eval e X.env) :: backTo pos2 [])) _ _ s
 refine Calls.spliced_cons (thn (he pins s σ H _ I h) fun u s1 ⟨x, H1, I1, r1, q1⟩ => ?_)
 refine Calls.spliced_nil ?_
 obtain ⟨p, ys, rfl, hq, q⟩ := q1
 cases r1
 obtain ⟨its, rv, pl, hz⟩ := I1.list hq
 have hlen := rv.length
 have hl := pl.isList
 obtain ⟨oL, gL, _⟩ := id hl
 have lp := Heap.lt_size gL
 refine call_reversed_list hl ?_
 refine Calls.spliced_nil ?_
 have I2 : Inv X pins σ H1 { s1 with heap := s1.heap.push (revObj p ((its.toArray.size : Int) - 1)) } := I1.kept (t' := s1.toks) fun b o e => Heap.get?_push_of_some _ e
 have hI : (s1.heap.push (revObj p ((its.toArray.size : Int) - 1))).IsRevIter s1.heap.objs.size p ((its.toArray.size : Int) - 1) := ⟨_, Heap.get?_push_size _ rfl, rfl, rfl⟩
 refine list_of_rev (s := { s1 with heap := s1.heap.push (revObj p ((its.toArray.size : Int) - 1)) }) (I1.ok.hd hc) (Nat.ne_of_lt lp) hI (hl.at fun o e => Heap.get?_push_of_some _ e) (by simp only [List.size_toArray]; omega) fun h' tk c' kp gl => ?_
 have kp1 : ∀ b o, s1.heap.get? b = some o -> h'.get? b = some o := fun b o e => kp b o (Nat.ne_of_lt (Heap.lt_size e)) (Heap.get?_push_of_some _ e)
 have sz : (s1.heap.push (revObj p ((its.toArray.size : Int) - 1))).objs.size = s1.heap.objs.size + 1 := Heap.size_push ..
 have J := I1.laid (t' := tk) (h' := h') (a := (s1.heap.push (revObj p ((its.toArray.size : Int) - 1))).objs.size) (o := .lst ys.reverse) kp1 (by rw [sz]; exact Nat.le_succ _) ⟨by rw [List.length_reverse]; exact hz, its.reverse, c', rv.rev, by simpa using gl⟩
 exact ⟨.ref (s1.heap.push (revObj p ((its.toArray.size : Int) - 1))).objs.size, _, J, rfl, q _ (I1.hok.fresh (by rw [sz]; exact Nat.le_succ _))⟩
end
end L2
namespace L2
open PySem PySem.Spec PyProof.Rows
theorem comp_tup {K : PySem.W.Frag} {a : Addr} {xs : List V} {g : TG} {tt : TT} {te : TE} {Fin : List V -> Hp -> Prop} {σ : St} {H : Hp} (Pv : Nat -> List V -> St -> Hp -> Prop) (h0 : Pv 0 [] σ H) (hz : ∀ i ys σ H, i <= xs.length -> Pv i ys σ H -> ys.length <= i) (hx : xs.length <= sizeLine) (hl : ∀ i ys σ H, Pv i ys σ H -> SqT K H a xs)
  (hs : ∀ i x ys σ H, xs[i]? = some x -> Pv i ys σ H -> g x σ H fun σ2 H2 => tt σ2 H2 fun b H3 => if b = true then te σ2 H3 fun y H4 => Pv (i + 1) (ys ++ [y]) σ2 H4 else Pv (i + 1) ys σ2 H3)
  (hd : ∀ ys σ H, Pv xs.length ys σ H -> Fin ys H) : ∃ W : Nat -> Nat -> List V -> St -> Hp -> Prop, (∃ m, W 0 m [] σ H) /\ CompTurns (Itt K a) g tt te Fin W := by
 refine ⟨fun i m ys σ H => m = xs.length - i /\ i <= xs.length /\ Pv i ys σ H, ⟨_, rfl, Nat.zero_le _, h0⟩, ?_⟩
 rintro i m ys σ H ⟨rfl, hi, p⟩
 have few := hz i ys σ H hi p
 have q := hl i ys σ H p
 by_cases lt : i < xs.length
 ·refine .inr ⟨⟨xs, xs[i], q, by simp [lt]⟩, by omega, Pv (i + 1), fun ys' σ' H' p' => ⟨_, by omega, rfl, lt, p'⟩, fun v H' y => ?_⟩
  obtain ⟨e, y⟩ := y
  subst e
  exact hs i v ys σ _ (y xs q) p
 ·obtain rfl : i = xs.length := by omega
  exact .inl ⟨⟨xs, q, Nat.le_refl _⟩, by omega, hd ys σ H p⟩
theorem ifYes {b : Bool} {A B : Prop} (h : b = true) (x : A) : if b = true then A else B := by rw [if_pos h]; exact x
theorem ifNo {b : Bool} {A B : Prop} (h : b = false) (x : B) : if b = true then A else B := by rw [if_neg (by rw [h]; decide)]; exact x
theorem ifE {x y : V} {A B : Prop} (h : x = y) (a : A) : if decide (x = y) = true then A else B := by rw [if_pos (decide_eq_true h)]; exact a
theorem ifN {x y : V} {A B : Prop} (h : x ≠ y) (b : B) : if decide (x = y) = true then A else B := by rw [if_neg (by rw [decide_eq_true_iff]; exact h)]; exact b
end L2
namespace L2
open PySem PySem.Spec PyProof.Rows
end L2
namespace Tr
open PySem PySem.Spec PyProof.Rows L2
set_option linter.all false
inductive Val
 | num (n : Int)
 | nm (x : Str)
inductive Deed
 | set (x : Str) (a : Val) (sg : Str) (b : Val)
 | put (q x : Str)
 | get (q x : Str)
 | give (x : Str)
 | cond (x : Str) (t o : List Deed)
 | whl (x : Str) (b : List Deed)
 | rep (n : Int) (b : List Deed)
def Val.names : Val -> List Str
 | .num _ => []
 | .nm x => [x]
def Deed.names : Deed -> List Str
 | .set x a _ b => x :: (a.names ++ b.names)
 | .put _ x | .get _ x | .give x | .cond x _ _ | .whl x _ => [x]
 | .rep _ _ => []
def Deed.inner : Deed -> List (List Deed)
 | .cond _ t o => [t, o]
 | .whl _ b | .rep _ b => [b]
 | _ => []
def Deed.others : Deed -> List Str
 | .put q _ => [q ++ (">" : Str)]
 | .get q _ => [q ++ ("<" : Str)]
 | .give _ | .whl _ _ => [(">" : Str)]
 | _ => []
mutual
def Deed.flat : Deed -> List Deed
 | .cond x t o => .cond x t o :: (flats t ++ flats o)
 | .whl x b => .whl x b :: flats b
 | .rep n b => .rep n b :: flats b
 | .set x a sg b => [.set x a sg b]
 | .put q x => [.put q x]
 | .get q x => [.get q x]
 | .give x => [.give x]
def flats : List Deed -> List Deed
 | [] => []
 | d :: r => d.flat ++ flats r
end
mutual
def Deed.depth : Deed -> Nat
 | .cond _ t o => max (depths t) (depths o) + 1
 | .whl _ b => depths b + 1
 | .rep _ b => depths b + 1
 | _ => 0
def depths : List Deed -> Nat
 | [] => 0
 | d :: r => max d.depth (depths r)
end
def Deed.cards (d : Deed) : List Str := d.names ++ d.others
def cards (b : List Deed) : List Str := (flats b).flatMap Deed.cards
theorem flats_append : ∀ (a b : List Deed), flats (a ++ b) = flats a ++ flats b
 | [], b => rfl
 | d :: a, b => by rw [List.cons_append, flats, flats, flats_append a b, List.append_assoc]
theorem cards_append (a b : List Deed) : cards (a ++ b) = cards a ++ cards b := by unfold cards; rw [flats_append, List.flatMap_append]
theorem depths_append : ∀ (a b : List Deed), depths (a ++ b) = max (depths a) (depths b)
 | [], b => by rw [List.nil_append, depths, Nat.zero_max]
 | d :: a, b => by rw [List.cons_append, depths, depths, depths_append a b, Nat.max_assoc]
theorem flat_inner (d : Deed) : d.flat = d :: d.inner.flatMap flats := by
 cases d <;> simp [Deed.flat, Deed.inner]
theorem cards_one (d : Deed) : cards [d] = d.cards ++ d.inner.flatMap cards := by
 unfold cards
 rw [flats, flats, List.append_nil, flat_inner, List.flatMap_cons]
 congr 1
 rw [List.flatMap_assoc]
inductive Op
 | root
 | ifT (x : Str)
 | ifO (x : Str) (t : List Deed)
 | whl (x : Str)
 | rep (n : Int)
structure Fr where
 op : Op
 ds : List Deed
 shut : Bool
 times : Int
def Fr.deed (f : Fr) : Deed := match f.op with
 | .root => .rep 0 f.ds
 | .ifT x => .cond x f.ds []
 | .ifO x t => .cond x t f.ds
 | .whl x => .whl x f.ds
 | .rep n => .rep n f.ds
def Fr.add (g : Fr) (d : Deed) : Fr := { g with ds := g.ds ++ [d] }
def closeTop : List Fr -> List Fr
 | f :: g :: r => g.add f.deed :: r
 | st => st
def wholeN : Nat -> List Fr -> List Deed
 | 0, st => (st.head?.map Fr.ds).getD []
 | n + 1, st => wholeN n (closeTop st)
def wholeOf (st : List Fr) : List Deed := wholeN (st.length - 1) st
def Op.extra : Op -> List Deed
 | .ifO _ t => t
 | _ => []
def Op.nms : Op -> List Str
 | .ifT x | .ifO x _ | .whl x => [x]
 | _ => []
def Op.one : Op -> Nat
 | .root => 0
 | _ => 1
def StOk (C : List Str) : List Fr -> Prop
 | [] => False
 | [f] => f.op = .root /\ (∀ k ∈ cards f.ds, k ∈ C) /\ depths f.ds <= 12
 | f :: g :: r => f.op ≠ .root /\ (∀ k ∈ f.op.nms, k ∈ C) /\ (∀ k ∈ cards f.ds, k ∈ C) /\ (∀ k ∈ cards f.op.extra, k ∈ C) /\ depths f.ds + (r.length + 1) <= 12 /\ depths f.op.extra + (r.length + 1) <= 12 /\ StOk C (g :: r)
def cnt : List Fr -> Nat
 | [] => 0
 | f :: r => (flats f.ds).length + (flats f.op.extra).length + f.op.one + cnt r
theorem deed_cards {f : Fr} {C : List Str} (h0 : f.op ≠ .root) (hg : (">" : Str) ∈ C) (h1 : ∀ k ∈ f.op.nms, k ∈ C) (h2 : ∀ k ∈ cards f.ds, k ∈ C) (h3 : ∀ k ∈ cards f.op.extra, k ∈ C) : ∀ k ∈ cards [f.deed], k ∈ C := by
 intro k hk
 rw [cards_one] at hk
 unfold Fr.deed at hk
 cases e : f.op with
 | root => exact absurd e h0
 | ifT x =>
  rw [e] at hk h1 h3
  simp only [Deed.cards, Deed.names, Deed.others, Deed.inner, List.flatMap_cons, List.flatMap_nil, List.append_nil, List.mem_append, List.mem_singleton] at hk
  rcases hk with rfl | hk | hk
  ·exact h1 _ (by simp [Op.nms])
  ·exact h2 _ hk
  ·exact absurd hk (by simp [cards, flats])
 | ifO x t =>
  rw [e] at hk h1 h3
  simp only [Deed.cards, Deed.names, Deed.others, Deed.inner, List.flatMap_cons, List.flatMap_nil, List.append_nil, List.mem_append, List.mem_singleton] at hk
  rcases hk with rfl | hk | hk
  ·exact h1 _ (by simp [Op.nms])
  ·exact h3 _ hk
  ·exact h2 _ hk
 | whl x =>
  rw [e] at hk h1 h3
  simp only [Deed.cards, Deed.names, Deed.others, Deed.inner, List.flatMap_cons, List.flatMap_nil, List.append_nil, List.mem_append, List.mem_singleton] at hk
  rcases hk with (rfl | rfl) | hk
  ·exact h1 _ (by simp [Op.nms])
  ·exact hg
  ·exact h2 _ hk
 | rep n =>
  rw [e] at hk
  simp only [Deed.cards, Deed.names, Deed.others, Deed.inner, List.flatMap_cons, List.flatMap_nil, List.append_nil, List.nil_append, List.mem_append] at hk
  exact h2 _ hk
theorem deed_depth (f : Fr) : depths [f.deed] <= max (depths f.ds) (depths f.op.extra) + 1 := by
 unfold Fr.deed
 cases e : f.op <;> simp only [depths, Deed.depth, Op.extra] <;> omega
theorem deed_cnt {f : Fr} (h0 : f.op ≠ .root) : (flats [f.deed]).length <= (flats f.ds).length + (flats f.op.extra).length + f.op.one := by
 unfold Fr.deed
 cases e : f.op with
 | root => exact absurd e h0
 | _ => simp [flats, Deed.flat, Op.extra, Op.one] <;> omega
theorem StOk.add {C : List Str} {g : Fr} {r : List Fr} {d : Deed} (h : StOk C (g :: r)) (h1 : ∀ k ∈ cards [d], k ∈ C) (h2 : depths [d] + r.length <= 12) : StOk C (g.add d :: r) := by
 have hc : (∀ k ∈ cards g.ds, k ∈ C) -> ∀ k ∈ cards (g.add d).ds, k ∈ C := fun z k hk => by
  unfold Fr.add at hk
  rw [cards_append, List.mem_append] at hk
  exact hk.elim (z k) (h1 k)
 have hd : depths (g.add d).ds = max (depths g.ds) (depths [d]) := by unfold Fr.add; rw [depths_append]
 cases r with
 | nil => exact ⟨h.1, hc h.2.1, by rw [hd]; have := h.2.2; simp at h2; omega⟩
 | cons g' r' =>
  obtain ⟨a1, a2, a3, a4, a5, a6, a7⟩ := h
  simp only [List.length_cons] at h2
  exact ⟨a1, a2, hc a3, a4, by rw [hd]; omega, a6, a7⟩
theorem StOk.close {C : List Str} (hg : (">" : Str) ∈ C) {f g : Fr} {r : List Fr} (h : StOk C (f :: g :: r)) : StOk C (closeTop (f :: g :: r)) := by
 obtain ⟨a1, a2, a3, a4, a5, a6, a7⟩ := h
 refine a7.add (deed_cards a1 hg a2 a3 a4) ?_
 have := deed_depth f
 omega
theorem cnt_add (g : Fr) (r : List Fr) (d : Deed) : cnt (g.add d :: r) = cnt (g :: r) + (flats [d]).length := by
 simp only [cnt, Fr.add, flats_append, List.length_append]
 omega
theorem cnt_close {f g : Fr} {r : List Fr} (h0 : f.op ≠ .root) : cnt (closeTop (f :: g :: r)) <= cnt (f :: g :: r) := by
 show cnt (g.add f.deed :: r) <= _
 rw [cnt_add]
 have := deed_cnt h0
 simp only [cnt]
 omega
theorem whole_ok {C : List Str} (hg : (">" : Str) ∈ C) : ∀ (n : Nat) (st : List Fr), st.length = n + 1 -> StOk C st -> (∀ k ∈ cards (wholeN n st), k ∈ C) /\ depths (wholeN n st) <= 12 /\ (flats (wholeN n st)).length <= cnt st
 | 0, [f], _, h => ⟨h.2.1, h.2.2, by simp [wholeN, cnt]; omega⟩
 | n + 1, f :: g :: r, hl, h => by
  have := whole_ok hg n (closeTop (f :: g :: r)) (by simp [closeTop] at hl ⊢; omega) (h.close hg)
  exact ⟨this.1, this.2.1, Nat.le_trans this.2.2 (cnt_close h.1)⟩
def mixed (c k : Int) : Int := (c % 2147483647 * (48271 + 1103 * k * k) % 2147483629 + k) * (c % 2147483647 * (48271 + 1103 * k * k) % 2147483629 + 3 * k) % 2147483587
def letters : Str := "abcdefghijklmnopqrstuvwxyz"
def divs (n : Int) : Nat -> Int
 | 0 => n
 | i + 1 => divs n i / 26
def alphaAt (j : Int) : Nat := letters.cps.toList.getD j.toNat 0
def sgn (c : Nat) : Str := ⟨#[c]⟩
def lettersV (n : Int) : Nat -> Str
 | 0 => ""
 | i + 1 => lettersV n i ++ sgn (alphaAt (divs n i % 26))
def kws : List Str := ["ask", "store", "put", "get", "give", "if", "else", "while", "repeat", "end"]
def lastIx (w : Str) : Int := ((w.cps.toList.getLastD 97 : Nat) : Int) - 97
def speltV (w : Str) : Str := if w ∈ kws then Txt.slice w none (some (-1)) ++ sgn (alphaAt ((lastIx w + 13) % 26)) else w
def poolBase (c : Int) : Str := lettersV (mixed c 1 * mixed c 1 + mixed c 1) 8
def poolSign (c k : Int) : Str := sgn (alphaAt ((mixed c 1 / 192 + k) % 26))
def poolSize (c : Int) : Int := 1 + mixed c 1 / 3 % 8
def poolAt (c : Int) : Int := mixed c 1 / 24 % poolSize c
def poolWord (c k : Int) : Str :=
 if mixed c 1 % 3 = 0 then Txt.slice (poolBase c) none (some (poolAt c)) ++ poolSign c k ++ Txt.slice (poolBase c) (some (poolAt c + 1)) (some (poolSize c))
 else if mixed c 1 % 3 = 1 then Txt.slice (poolBase c) none (some (1 + (mixed c 1 / 24 + k) % 8))
 else Txt.slice (poolSign c k ++ lettersV (mixed c (k + 2)) 7) none (some (1 + mixed c (k + 40) % 8))
def poolUp (c : Int) (n : Nat) : List Str := (List.range n).map fun (k : Nat) => speltV (poolWord c k)
def poolV (c : Int) (n : Nat) : List Str := if mixed c 1 / 5000 % 2 = 1 then (poolUp c n).reverse else poolUp c n
def nth (l : List Str) (i : Int) : Str := l.getD (i % l.length).toNat ""
def signAt (i : Int) : Str := sgn (("+-*/<=&|^" : Str).cps.toList.getD (i % 9).toNat 0)
def simpleV (n : Int) (names rooms : List Str) (shut : Bool) : Deed :=
 if n % 14 = 6 then .give (nth names (n / 14))
 else if (n % 14 = 1 \/ n % 14 = 2 \/ n % 14 = 3 \/ n % 14 = 4 \/ n % 14 = 12 \/ n % 14 = 13) /\ 0 < rooms.length /\ shut = false then
  (if n % 14 = 3 \/ n % 14 = 4 \/ n % 14 = 13 then .get (nth rooms (n / 14 / 5)) (nth names (n / 14)) else .put (nth rooms (n / 14 / 5)) (nth names (n / 14)))
 else .set (nth names (n / 14)) (if n / 14 / 125 % 4 = 0 then .num (n * n * n * 69621 % 1000000000000000000000000000000) else .nm (nth names (n / 14 / 5)))
  (signAt (n / 14 / 1500)) (if n / 14 / 500 % 3 = 0 then .num (n * n * 48271 % 1000000000000000000000000000000) else .nm (nth names (n / 14 / 25)))
def manyV (n most times : Int) : Int := if 0 < times then n / 70 % (1 + most / times) else n / 70 % 100
def openV (n : Int) (x : Str) (most : Int) (st : List Fr) : List Fr := match st with
 | [] => []
 | g :: r => (if n % 14 = 7 then ⟨.ifT x, [], true, 0⟩ else if n % 14 = 8 then ⟨.whl x, [], true, 0⟩ else ⟨.rep (manyV n most g.times), [], g.shut, g.times * manyV n most g.times⟩) :: g :: r
def Op.ifT? : Op -> Option Str
 | .ifT x => some x
 | _ => none
def stepV (names rooms : List Str) (most low : Int) (st : List Fr) (n : Int) : List Fr := match st with
 | [] => []
 | g :: r =>
  if low <= n % 14 /\ n % 14 <= 9 /\ r.length + 1 <= 12 /\ (n % 14 < 9 \/ 0 < most \/ g.shut = true) then openV n (nth names (n / 14)) most (g :: r)
  else match (if n % 14 = 10 then g.op.ifT? else none) with
   | some x => { g with op := .ifO x g.ds, ds := [] } :: r
   | none => if 10 <= n % 14 /\ 0 < r.length then closeTop (g :: r) else g.add (simpleV n names rooms g.shut) :: r
def st0 : List Fr := [⟨.root, [], false, 1⟩]
def statesV (names rooms : List Str) (most low : Int) (cells : List Int) : List Fr := cells.foldl (fun st c => stepV names rooms most low st (mixed c 1)) st0
def blockV (names rooms : List Str) (most low : Int) (cells : List Int) : List Deed := wholeOf (statesV names rooms most low cells)
def allCards (names rooms : List Str) : List Str := names ++ rooms.map (· ++ (">" : Str)) ++ rooms.map (· ++ ("<" : Str)) ++ [(">" : Str)]
theorem nth_mem {l : List Str} (h : 0 < l.length) (i : Int) : nth l i ∈ l := by
 unfold nth
 have h1 : 0 <= i % (l.length : Int) := Int.emod_nonneg _ (by omega)
 have h2 : i % (l.length : Int) < l.length := Int.emod_lt_of_pos _ (by omega)
 have h3 : (i % (l.length : Int)).toNat < l.length := by omega
 rw [List.getD_eq_getElem?_getD, List.getElem?_eq_getElem h3]
 exact List.getElem_mem h3
theorem simple_cards {n : Int} {names rooms : List Str} {shut : Bool} (h : 0 < names.length) : ∀ k ∈ cards [simpleV n names rooms shut], k ∈ allCards names rooms := by
 have hn : ∀ i, nth names i ∈ allCards names rooms := fun i => by unfold allCards; simp [nth_mem h i]
 have hg : (">" : Str) ∈ allCards names rooms := by unfold allCards; simp
 intro k hk
 unfold simpleV at hk
 split at hk
 ·simp [cards, flats, Deed.flat, Deed.cards, Deed.names, Deed.others] at hk
  rcases hk with rfl | rfl
  ·exact hn _
  ·exact hg
 ·split at hk
  ·rename_i hr
   have hm := nth_mem hr.2.1 (n / 14 / 5)
   split at hk
   ·simp [cards, flats, Deed.flat, Deed.cards, Deed.names, Deed.others] at hk
    rcases hk with rfl | rfl
    ·exact hn _
    ·unfold allCards; simp only [List.mem_append, List.mem_map]; exact .inl (.inr ⟨_, hm, rfl⟩)
   ·simp [cards, flats, Deed.flat, Deed.cards, Deed.names, Deed.others] at hk
    rcases hk with rfl | rfl
    ·exact hn _
    ·unfold allCards; simp only [List.mem_append, List.mem_map]; exact .inl (.inl (.inr ⟨_, hm, rfl⟩))
  ·simp only [cards, flats, Deed.flat, Deed.cards, Deed.names, Deed.others, List.append_nil, List.flatMap_cons, List.flatMap_nil, List.mem_cons, List.mem_append] at hk
   rcases hk with rfl | hk | hk
   ·exact hn _
   ·split at hk
    ·exact absurd hk (by simp [Val.names])
    ·simp [Val.names] at hk; subst hk; exact hn _
   ·split at hk
    ·exact absurd hk (by simp [Val.names])
    ·simp [Val.names] at hk; subst hk; exact hn _
theorem simple_depth (n : Int) (names rooms : List Str) (shut : Bool) : depths [simpleV n names rooms shut] = 0 /\ (flats [simpleV n names rooms shut]).length = 1 := by
 unfold simpleV
 split
 ·exact ⟨rfl, rfl⟩
 ·split
  ·split <;> exact ⟨rfl, rfl⟩
  ·exact ⟨rfl, rfl⟩
theorem step_ok {names rooms : List Str} {most low n : Int} {st : List Fr} (h : 0 < names.length) (hs : StOk (allCards names rooms) st) (hl : st.length <= 13) :
  StOk (allCards names rooms) (stepV names rooms most low st n) /\ (stepV names rooms most low st n).length <= 13 /\ cnt (stepV names rooms most low st n) <= cnt st + 1 := by
 have hg : (">" : Str) ∈ allCards names rooms := by unfold allCards; simp
 have hn : ∀ i, nth names i ∈ allCards names rooms := fun i => by unfold allCards; simp [nth_mem h i]
 match st, hs, hl with
 | g :: r, hs, hl =>
  unfold stepV
  dsimp only
  split
  ·rename_i c
   unfold openV
   dsimp only
   have em : cards [] = [] := rfl
   split
   ·exact ⟨⟨by simp, by simp [Op.nms, hn], by simp [em], by simp [Op.extra, em], by simp [depths]; omega, by simp [depths, Op.extra]; omega, hs⟩, by simp; omega, by simp [cnt, flats, Op.extra, Op.one]; omega⟩
   ·split
    ·exact ⟨⟨by simp, by simp [Op.nms, hn], by simp [em], by simp [Op.extra, em], by simp [depths]; omega, by simp [depths, Op.extra]; omega, hs⟩, by simp; omega, by simp [cnt, flats, Op.extra, Op.one]; omega⟩
    ·exact ⟨⟨by simp, by simp [Op.nms], by simp [em], by simp [Op.extra, em], by simp [depths]; omega, by simp [depths, Op.extra]; omega, hs⟩, by simp; omega, by simp [cnt, flats, Op.extra, Op.one]; omega⟩
  ·split
   ·rename_i x hx
    have e : g.op = .ifT x := by
     split at hx
     ·cases e : g.op <;> rw [e] at hx <;> simp [Op.ifT?] at hx
      rw [hx]
     ·cases hx
    cases r with
    | nil => have := hs.1; rw [e] at this; cases this
    | cons g' r' =>
     obtain ⟨a1, a2, a3, a4, a5, a6, a7⟩ := hs
     rw [e] at a2
     refine ⟨⟨by simp, by simpa [Op.nms] using a2, by simp [cards, flats], by simpa [Op.extra] using a3, by simp [depths]; omega, by simpa [Op.extra] using a5, a7⟩, hl, ?_⟩
     simp [cnt, e, Op.extra, Op.one, flats]
   ·split
    ·rename_i c
     cases r with
     | nil => exact absurd c.2 (by simp)
     | cons g' r' => exact ⟨hs.close hg, by simp [closeTop] at hl ⊢; omega, Nat.le_trans (cnt_close hs.1) (Nat.le_succ _)⟩
    ·have sd := simple_depth n names rooms g.shut
     refine ⟨hs.add (simple_cards h) (by rw [sd.1]; simp at hl; omega), by simpa using hl, ?_⟩
     rw [cnt_add, sd.2]
     exact Nat.le_refl _
theorem states_ok {names rooms : List Str} {most low : Int} (h : 0 < names.length) : ∀ (cells : List Int) (st : List Fr), StOk (allCards names rooms) st -> st.length <= 13 ->
  StOk (allCards names rooms) (cells.foldl (fun st c => stepV names rooms most low st (mixed c 1)) st) /\ (cells.foldl (fun st c => stepV names rooms most low st (mixed c 1)) st).length <= 13 /\ cnt (cells.foldl (fun st c => stepV names rooms most low st (mixed c 1)) st) <= cnt st + cells.length
 | [], st, hs, hl => ⟨hs, hl, Nat.le_refl _⟩
 | c :: cs, st, hs, hl => by
  obtain ⟨b1, b2, b3⟩ := step_ok (most := most) (low := low) (n := mixed c 1) h hs hl
  obtain ⟨c1, c2, c3⟩ := states_ok h cs _ b1 b2
  exact ⟨c1, c2, by simp only [List.foldl_cons, List.length_cons]; omega⟩
theorem block_ok {names rooms : List Str} {most low : Int} (h : 0 < names.length) (cells : List Int) :
  (∀ k ∈ cards (blockV names rooms most low cells), k ∈ allCards names rooms) /\ depths (blockV names rooms most low cells) <= 12 /\ (flats (blockV names rooms most low cells)).length <= cells.length := by
 have hg : (">" : Str) ∈ allCards names rooms := by unfold allCards; simp
 obtain ⟨a1, a2, a3⟩ := states_ok (rooms := rooms) (most := most) (low := low) h cells st0 ⟨rfl, by simp [st0, cards, flats], by simp [st0, depths]⟩ (by simp [st0])
 have ne : statesV names rooms most low cells ≠ [] := fun z => by unfold statesV at z; rw [z] at a1; exact a1
 have hl : (statesV names rooms most low cells).length = ((statesV names rooms most low cells).length - 1) + 1 := by
  have := List.length_pos_iff.mpr ne
  omega
 obtain ⟨b1, b2, b3⟩ := whole_ok hg _ _ hl a1
 refine ⟨b1, b2, Nat.le_trans b3 (Nat.le_trans a3 ?_)⟩
 simp [cnt, st0, flats, Op.extra, Op.one]
def Val.v : Val -> V
 | .num n => .int n
 | .nm x => .str x
mutual
inductive RD (H : Hp) : V -> Deed -> Prop
 | set {p : Addr} {x : Str} {a : Val} {sg : Str} {b : Val} : H p = some (.tup [.str "set", .str x, a.v, .str sg, b.v]) -> RD H (.ref p) (.set x a sg b)
 | put {p : Addr} {q x : Str} : H p = some (.tup [.str "put", .str q, .str x]) -> RD H (.ref p) (.put q x)
 | get {p : Addr} {q x : Str} : H p = some (.tup [.str "get", .str q, .str x]) -> RD H (.ref p) (.get q x)
 | give {p : Addr} {x : Str} : H p = some (.tup [.str "give", .str x]) -> RD H (.ref p) (.give x)
 | cond {p t o : Addr} {x : Str} {ts os : List Deed} : H p = some (.tup [.str "if", .str x, .ref t, .ref o]) -> RL H t ts -> RL H o os -> RD H (.ref p) (.cond x ts os)
 | whl {p b : Addr} {x : Str} {bs : List Deed} : H p = some (.tup [.str "while", .str x, .ref b]) -> RL H b bs -> RD H (.ref p) (.whl x bs)
 | rep {p b : Addr} {n : Int} {bs : List Deed} : H p = some (.tup [.str "repeat", .int n, .ref b]) -> RL H b bs -> RD H (.ref p) (.rep n bs)
inductive RL (H : Hp) : Addr -> List Deed -> Prop
 | mk {l : Addr} {vs : List V} {ds : List Deed} : H l = some (.lst vs) -> RDs H vs ds -> RL H l ds
inductive RDs (H : Hp) : List V -> List Deed -> Prop
 | nil : RDs H [] []
 | cons {v : V} {vs : List V} {d : Deed} {ds : List Deed} : RD H v d -> RDs H vs ds -> RDs H (v :: vs) (d :: ds)
end
mutual
theorem RD.same {H H' : Hp} (e : Same H H') : ∀ {v : V} {d : Deed}, RD H v d -> RD H' v d
 | _, _, .set h => .set (e _ _ h)
 | _, _, .put h => .put (e _ _ h)
 | _, _, .get h => .get (e _ _ h)
 | _, _, .give h => .give (e _ _ h)
 | _, _, .cond h a b => .cond (e _ _ h) (RL.same e a) (RL.same e b)
 | _, _, .whl h a => .whl (e _ _ h) (RL.same e a)
 | _, _, .rep h a => .rep (e _ _ h) (RL.same e a)
theorem RL.same {H H' : Hp} (e : Same H H') : ∀ {l : Addr} {ds : List Deed}, RL H l ds -> RL H' l ds
 | _, _, .mk h a => .mk (e _ _ h) (RDs.same e a)
theorem RDs.same {H H' : Hp} (e : Same H H') : ∀ {vs : List V} {ds : List Deed}, RDs H vs ds -> RDs H' vs ds
 | _, _, .nil => .nil
 | _, _, .cons a b => .cons (RD.same e a) (RDs.same e b)
end
theorem RDs.app {H : Hp} : ∀ {us vs : List V} {a b : List Deed}, RDs H us a -> RDs H vs b -> RDs H (us ++ vs) (a ++ b)
 | _, _, _, _, .nil, h => h
 | _, _, _, _, .cons x r, h => .cons x (RDs.app r h)
theorem RDs.len {H : Hp} : ∀ {vs : List V} {ds : List Deed}, RDs H vs ds -> vs.length = ds.length
 | _, _, .nil => rfl
 | _, _, .cons _ r => by rw [List.length_cons, List.length_cons, RDs.len r]
theorem RDs.at {H : Hp} : ∀ {vs : List V} {ds : List Deed}, RDs H vs ds -> ∀ (i : Nat) (v : V), vs[i]? = some v -> ∃ d, ds[i]? = some d /\ RD H v d
 | _, _, .nil, i, v, h => by simp at h
 | _, _, .cons x r, 0, v, h => by simp at h; subst h; exact ⟨_, rfl, x⟩
 | _, _, .cons x r, i + 1, v, h => by
  simp only [List.getElem?_cons_succ] at h ⊢
  exact RDs.at r i v h
mutual
def Deed.data : Deed -> PyData
 | .set x a sg b => .tuple [.str "set", .str x, (match a with | .num n => .int n | .nm y => .str y), .str sg, (match b with | .num n => .int n | .nm y => .str y)]
 | .put q x => .tuple [.str "put", .str q, .str x]
 | .get q x => .tuple [.str "get", .str q, .str x]
 | .give x => .tuple [.str "give", .str x]
 | .cond x t o => .tuple [.str "if", .str x, .list (datas t), .list (datas o)]
 | .whl x b => .tuple [.str "while", .str x, .list (datas b)]
 | .rep n b => .tuple [.str "repeat", .int n, .list (datas b)]
def datas : List Deed -> List PyData
 | [] => []
 | d :: r => d.data :: datas r
end
inductive RLs (H : Hp) : List Addr -> List (List Deed) -> Prop
 | nil : RLs H [] []
 | cons {l : Addr} {ls : List Addr} {d : List Deed} {ds : List (List Deed)} : RL H l d -> RLs H ls ds -> RLs H (l :: ls) (d :: ds)
theorem RLs.same {H H' : Hp} (e : Same H H') : ∀ {ls : List Addr} {ds : List (List Deed)}, RLs H ls ds -> RLs H' ls ds
 | _, _, .nil => .nil
 | _, _, .cons a b => .cons (RL.same e a) (RLs.same e b)
theorem RLs.app {H : Hp} : ∀ {us vs : List Addr} {a b : List (List Deed)}, RLs H us a -> RLs H vs b -> RLs H (us ++ vs) (a ++ b)
 | _, _, _, _, .nil, h => h
 | _, _, _, _, .cons x r, h => .cons x (RLs.app r h)
theorem RLs.len {H : Hp} : ∀ {ls : List Addr} {ds : List (List Deed)}, RLs H ls ds -> ls.length = ds.length
 | _, _, .nil => rfl
 | _, _, .cons _ r => by rw [List.length_cons, List.length_cons, RLs.len r]
theorem rising_le : ∀ (r : List Str) (x : Str), risingS x r = true -> ∀ y ∈ r, x.cps.toList <= y.cps.toList
 | [], _, _, _, h => nomatch h
 | z :: r, x, h, y, hy => by
  have h' : (!ltCps z.cps.toList x.cps.toList && risingS z r) = true := h
  rw [Bool.and_eq_true, Bool.not_eq_true', ltCps_eq, decide_eq_false_iff_not] at h'
  have xz : x.cps.toList <= z.cps.toList := List.not_lt.mp h'.1
  rcases List.mem_cons.mp hy with rfl | hy
  ·exact xz
  ·exact List.le_trans xz (rising_le r z h'.2 y hy)
theorem rising_tail {x : Str} : ∀ {r : List Str}, risingS x r = true -> sortedS r = true
 | [], _ => rfl
 | z :: r, h => by
  have h' : (!ltCps z.cps.toList x.cps.toList && risingS z r) = true := h
  exact (Bool.and_eq_true_iff.mp h').2
theorem str_of_list {x y : Str} (h : x.cps.toList = y.cps.toList) : x = y := PyProof.Rows.ext_toList h
theorem sorted_one : ∀ {a b : List Str}, a.Nodup -> b.Nodup -> sortedS a = true -> sortedS b = true -> (∀ k, k ∈ a ↔ k ∈ b) -> a = b
 | [], [], _, _, _, _, _ => rfl
 | [], y :: s, _, _, _, _, h => absurd ((h y).mpr List.mem_cons_self) (by simp)
 | x :: r, [], _, _, _, _, h => absurd ((h x).mp List.mem_cons_self) (by simp)
 | x :: r, y :: s, ha, hb, sa, sb, h => by
  have ha' := List.nodup_cons.mp ha
  have hb' := List.nodup_cons.mp hb
  have e : x = y := by
   rcases List.mem_cons.mp ((h x).mp List.mem_cons_self) with e | hx
   ·exact e
   rcases List.mem_cons.mp ((h y).mpr List.mem_cons_self) with e | hy
   ·exact e.symm
   exact str_of_list (List.le_antisymm (rising_le r x sa y hy) (rising_le s y sb x hx))
  subst e
  rw [sorted_one ha'.2 hb'.2 (rising_tail sa) (rising_tail sb) fun k => ?_]
  constructor
  ·intro hk
   rcases List.mem_cons.mp ((h k).mp (List.mem_cons_of_mem _ hk)) with e | z
   ·subst e; exact absurd hk ha'.1
   ·exact z
  ·intro hk
   rcases List.mem_cons.mp ((h k).mpr (List.mem_cons_of_mem _ hk)) with e | z
   ·subst e; exact absurd hk hb'.1
   ·exact z
end Tr
namespace Tr
open PySem PySem.Spec PyProof.Rows L2
set_option linter.all false
theorem Same.over {H0 H : Hp} {f : Addr} {o : HO} (h : Same H0 H) (hf : H0 f = none) : Same H0 (upd H f o) := fun b u q => by
 rw [upd_ne (ne_of_none q hf)]
 exact h b u q
theorem Same.none {H0 H : Hp} {f : Addr} (h : Same H0 H) (hf : H f = none) : H0 f = none := by
 cases q : H0 f with
 | none => rfl
 | some o => rw [h _ _ q] at hf; cases hf
structure Fz where
 f : Fr
 c : Addr
 p : Addr
 e : Addr
def Fz.tupV (x : Fz) : List V := match x.f.op with
 | .root => []
 | .ifT n => [.str "if", .str n, .ref x.c, .ref x.e]
 | .ifO n _ => [.str "if", .str n, .ref x.e, .ref x.c]
 | .whl n => [.str "while", .str n, .ref x.c]
 | .rep n => [.str "repeat", .int n, .ref x.c]
def Fz.o (x : Fz) : V := match x.f.op with
 | .ifT _ => .ref x.e
 | _ => .non
def Fz.muts (x : Fz) : List Addr := match x.f.op with
 | .ifT _ => [x.c, x.e]
 | _ => [x.c]
def Fz.side (x : Fz) (H0 H : Hp) : Prop := match x.f.op with
 | .ifT _ => H x.e = some (.lst [])
 | .ifO _ t => RL H0 x.e t
 | _ => True
def ZR (H0 H : Hp) : List Fz -> List V -> Prop
 | [], _ => False
 | x :: r, tl => (∃ vs, H x.c = some (.lst (vs ++ tl)) /\ RDs H0 vs x.f.ds) /\ x.side H0 H /\ ((x.f.op = .root /\ r = []) \/ (x.f.op ≠ .root /\ H x.p = some (.tup x.tupV) /\ ZR H0 H r [.ref x.p]))
theorem Fz.c_mem (x : Fz) : x.c ∈ x.muts := by unfold Fz.muts; split <;> simp
theorem ZR.frame {H0 H H' : Hp} : ∀ {z : List Fz} {tl : List V}, ZR H0 H z tl -> (∀ m ∈ z.flatMap Fz.muts, H' m = H m) -> (∀ p xs, H p = some (.tup xs) -> H' p = some (.tup xs)) -> ZR H0 H' z tl
 | [], _, h, _, _ => h
 | x :: r, tl, ⟨⟨vs, h1, h2⟩, h3, h4⟩, hm, ht => by
  have mx : ∀ m ∈ x.muts, H' m = H m := fun m hm' => hm m (by simp [hm'])
  have mr : ∀ m ∈ r.flatMap Fz.muts, H' m = H m := fun m hm' => hm m (by rw [List.flatMap_cons]; exact List.mem_append_right _ hm')
  refine ⟨⟨vs, by rw [mx _ x.c_mem]; exact h1, h2⟩, ?_, ?_⟩
  ·unfold Fz.side at h3 ⊢
   split
   ·rename_i e
    rw [e] at h3
    rw [mx x.e (by unfold Fz.muts; rw [e]; simp)]
    exact h3
   ·rename_i e
    rw [e] at h3
    exact h3
   ·trivial
  ·rcases h4 with h4 | ⟨h4, h5, h6⟩
   ·exact .inl h4
   ·exact .inr ⟨h4, ht _ _ h5, ZR.frame h6 mr ht⟩
theorem ZR.grow {H0 H0' H : Hp} (e : Same H0 H0') : ∀ {z : List Fz} {tl : List V}, ZR H0 H z tl -> ZR H0' H z tl
 | [], _, h => h
 | x :: r, tl, ⟨⟨vs, h1, h2⟩, h3, h4⟩ => by
  refine ⟨⟨vs, h1, h2.same e⟩, ?_, ?_⟩
  ·unfold Fz.side at h3 ⊢
   revert h3
   cases x.f.op <;> intro h3 <;> first | exact h3 | exact RL.same e h3
  ·rcases h4 with h4 | ⟨h4, h5, h6⟩
   ·exact .inl h4
   ·exact .inr ⟨h4, h5, ZR.grow e h6⟩
def wh : List Fr -> List Deed -> List Deed
 | [], _ => []
 | [f], dt => f.ds ++ dt
 | f :: g :: r, dt => wh (g :: r) [({ f with ds := f.ds ++ dt } : Fr).deed]
theorem wh_add : ∀ (r : List Fr) (g : Fr) (d : Deed), wh (g.add d :: r) [] = wh (g :: r) [d]
 | [], g, d => by simp [wh, Fr.add]
 | g' :: r, g, d => by simp [wh, Fr.add]
theorem wh_whole : ∀ (n : Nat) (st : List Fr), st.length = n + 1 -> wholeN n st = wh st []
 | 0, [f], _ => by simp [wholeN, wh]
 | n + 1, f :: g :: r, h => by
  have e : wholeN (n + 1) (f :: g :: r) = wholeN n (g.add f.deed :: r) := rfl
  rw [e, wh_whole n (g.add f.deed :: r) (by simp at h ⊢; omega), wh_add, wh, List.append_nil]
def bottom : List Fz -> Addr
 | [] => 0
 | [x] => x.c
 | _ :: y :: r => bottom (y :: r)
theorem ZR.whole {H0 H : Hp} (e : Same H0 H) : ∀ {z : List Fz} {tl : List V} {dt : List Deed}, ZR H0 H z tl -> RDs H tl dt -> RL H (bottom z) (wh (z.map (·.f)) dt)
 | [], _, _, h, _ => h.elim
 | [x], tl, dt, ⟨⟨vs, h1, h2⟩, _, _⟩, ht => .mk h1 ((h2.same e).app ht)
 | x :: y :: r, tl, dt, ⟨⟨vs, h1, h2⟩, h3, h4⟩, ht => by
  rcases h4 with ⟨_, h4⟩ | ⟨h4, h5, h6⟩
  ·cases h4
  refine ZR.whole (z := y :: r) e h6 (.cons ?_ .nil)
  have hl : RL H x.c (x.f.ds ++ dt) := .mk h1 ((h2.same e).app ht)
  unfold Fz.tupV at h5
  unfold Fz.side at h3
  unfold Fr.deed
  cases q : x.f.op with
  | root => exact absurd q h4
  | ifT n =>
   rw [q] at h5 h3
   exact .cond h5 hl (.mk h3 .nil)
  | ifO n t =>
   rw [q] at h5 h3
   exact .cond h5 (RL.same e h3) hl
  | whl n =>
   rw [q] at h5
   exact .whl h5 hl
  | rep n =>
   rw [q] at h5
   exact .rep h5 hl
def allMuts (S s0 s1 s2 s3 : Addr) (z : List Fz) : List Addr := S :: s0 :: s1 :: s2 :: s3 :: z.flatMap Fz.muts
structure ZI (Hb H0 H : Hp) (S s0 s1 s2 s3 : Addr) (z : List Fz) : Prop where
 hb : Same Hb H0
 h0 : Same H0 H
 fz : ∀ m ∈ allMuts S s0 s1 s2 s3 z, H0 m = none
 nd : (allMuts S s0 s1 s2 s3 z).Nodup
 cS : H S = some (.lst [.ref s0, .ref s1, .ref s2, .ref s3])
 c0 : H s0 = some (.lst ((z.map fun x => V.ref x.c).reverse))
 c1 : H s1 = some (.lst ((z.map Fz.o).reverse))
 c2 : H s2 = some (.lst ((z.map fun x => V.bl x.f.shut).reverse))
 c3 : H s3 = some (.lst ((z.map fun x => V.int x.f.times).reverse))
 zr : ZR H0 H z []
section
variable {Hb H0 H H1 : Hp} {S s0 s1 s2 s3 : Addr} {z : List Fz}
theorem ZI.hbH (Z : ZI Hb H0 H S s0 s1 s2 s3 z) : Same Hb H := Z.hb.trans Z.h0
theorem ZI.top (Z : ZI Hb H0 H S s0 s1 s2 s3 z) : ∃ x r vs, z = x :: r /\ H x.c = some (.lst vs) /\ RDs H0 vs x.f.ds := by
 have := Z.zr
 match z, this with
 | x :: r, ⟨⟨vs, h1, h2⟩, _⟩ => exact ⟨x, r, vs, rfl, by simpa using h1, h2⟩
theorem ZR.lsts {tl : List V} : ∀ {z : List Fz}, ZR H0 H z tl -> ∀ m ∈ z.flatMap Fz.muts, ∃ vs, H m = some (.lst vs) := by
 intro z
 induction z generalizing tl with
 | nil => intro h; exact h.elim
 | cons x r ih =>
  rintro ⟨⟨vs, h1, _⟩, h3, h4⟩ m hm
  rw [List.flatMap_cons] at hm
  rcases List.mem_append.mp hm with hm | hm
  ·unfold Fz.muts at hm
   unfold Fz.side at h3
   split at hm <;> rename_i q
   ·rw [q] at h3
    simp at hm
    rcases hm with rfl | rfl
    ·exact ⟨_, h1⟩
    ·exact ⟨_, h3⟩
   ·simp at hm
    subst hm
    exact ⟨_, h1⟩
  ·rcases h4 with ⟨_, h4⟩ | ⟨_, _, h6⟩
   ·subst h4; simp at hm
   ·exact ih h6 m hm
theorem ZI.lsts (Z : ZI Hb H0 H S s0 s1 s2 s3 z) : ∀ m ∈ allMuts S s0 s1 s2 s3 z, ∃ vs, H m = some (.lst vs) := by
 intro m hm
 unfold allMuts at hm
 simp only [List.mem_cons] at hm
 rcases hm with rfl | rfl | rfl | rfl | rfl | hm
 ·exact ⟨_, Z.cS⟩
 ·exact ⟨_, Z.c0⟩
 ·exact ⟨_, Z.c1⟩
 ·exact ⟨_, Z.c2⟩
 ·exact ⟨_, Z.c3⟩
 ·exact Z.zr.lsts m hm
theorem ZI.same (Z : ZI Hb H0 H S s0 s1 s2 s3 z) (e : Same H H1) : ZI Hb H0 H1 S s0 s1 s2 s3 z where
 hb := Z.hb
 h0 := Z.h0.trans e
 fz := Z.fz
 nd := Z.nd
 cS := e _ _ Z.cS
 c0 := e _ _ Z.c0
 c1 := e _ _ Z.c1
 c2 := e _ _ Z.c2
 c3 := e _ _ Z.c3
 zr := Z.zr.frame (fun m hm => by obtain ⟨vs, h⟩ := Z.zr.lsts m hm; rw [h]; exact e _ _ h) fun p xs h => e _ _ h
end
end Tr
namespace Tr
open PySem PySem.Spec PyProof.Rows L2
set_option linter.all false
section
variable {Hb H0 H H1 : Hp} {S s0 s1 s2 s3 : Addr} {z : List Fz}
theorem ZI.ne (Z : ZI Hb H0 H S s0 s1 s2 s3 z) {m : Addr} (hm : m ∈ z.flatMap Fz.muts) : S ≠ m /\ s0 ≠ m /\ s1 ≠ m /\ s2 ≠ m /\ s3 ≠ m := by
 have nd := Z.nd
 unfold allMuts at nd
 simp only [List.nodup_cons, List.mem_cons, not_or] at nd
 obtain ⟨⟨_, _, _, _, n0⟩, ⟨_, _, _, n1⟩, ⟨_, _, n2⟩, ⟨_, n3⟩, n4, _⟩ := nd
 exact ⟨(fun e => n0 (e ▸ hm)), (fun e => n1 (e ▸ hm)), (fun e => n2 (e ▸ hm)), (fun e => n3 (e ▸ hm)), (fun e => n4 (e ▸ hm))⟩
theorem ZI.ss (Z : ZI Hb H0 H S s0 s1 s2 s3 z) : S ≠ s0 /\ S ≠ s1 /\ S ≠ s2 /\ S ≠ s3 /\ s0 ≠ s1 /\ s0 ≠ s2 /\ s0 ≠ s3 /\ s1 ≠ s2 /\ s1 ≠ s3 /\ s2 ≠ s3 := by
 have nd := Z.nd
 unfold allMuts at nd
 simp only [List.nodup_cons, List.mem_cons, not_or] at nd
 obtain ⟨⟨a1, a2, a3, a4, _⟩, ⟨b1, b2, b3, _⟩, ⟨c1, c2, _⟩, ⟨d1, _⟩, _⟩ := nd
 exact ⟨a1, a2, a3, a4, b1, b2, b3, c1, c2, d1⟩
theorem ZI.ndz (Z : ZI Hb H0 H S s0 s1 s2 s3 z) : (z.flatMap Fz.muts).Nodup := by
 have nd := Z.nd
 unfold allMuts at nd
 simp only [List.nodup_cons] at nd
 exact nd.2.2.2.2.2
theorem ZI.fzz (Z : ZI Hb H0 H S s0 s1 s2 s3 z) {m : Addr} (hm : m ∈ z.flatMap Fz.muts) : H0 m = none := Z.fz m (by unfold allMuts; simp [hm])
theorem tup_lst {p m : Addr} {xs vs : List V} (h1 : H p = some (.tup xs)) (h2 : H m = some (.lst vs)) : p ≠ m := ne_of h1 h2 (by intro z; cases z)
theorem muts_top {x : Fz} {r : List Fz} : x.c ∈ (x :: r).flatMap Fz.muts := by rw [List.flatMap_cons]; exact List.mem_append_left _ x.c_mem
theorem muts_rest {x : Fz} {r : List Fz} {m : Addr} (h : m ∈ r.flatMap Fz.muts) : m ∈ (x :: r).flatMap Fz.muts := by rw [List.flatMap_cons]; exact List.mem_append_right _ h
theorem c_rest {x : Fz} {r : List Fz} (nd : ((x :: r).flatMap Fz.muts).Nodup) {m : Addr} (h : m ∈ r.flatMap Fz.muts) : m ≠ x.c := by
 rw [List.flatMap_cons] at nd
 intro e
 exact (List.nodup_append.mp nd).2.2 x.c x.c_mem m h e.symm
theorem side_e {x : Fz} {r : List Fz} (nd : ((x :: r).flatMap Fz.muts).Nodup) {n : Str} (q : x.f.op = .ifT n) : x.e ≠ x.c /\ x.e ∈ x.muts /\ ∀ m ∈ r.flatMap Fz.muts, m ≠ x.e := by
 rw [List.flatMap_cons] at nd
 have h := List.nodup_append.mp nd
 have e : x.muts = [x.c, x.e] := by unfold Fz.muts; rw [q]
 rw [e] at h
 refine ⟨?_, by rw [e]; simp, fun m hm z => h.2.2 x.e (by simp) m hm z.symm⟩
 have := h.1
 simp at this
 exact fun z => this z.symm
theorem ZR.rest {x : Fz} {r : List Fz} {tl : List V} {o : HO} (zr : ZR H0 H (x :: r) tl) (nd : ((x :: r).flatMap Fz.muts).Nodup) {vs : List V} (hc : H x.c = some (.lst vs)) :
  x.side H0 (upd H x.c o) /\ ((x.f.op = .root /\ r = []) \/ (x.f.op ≠ .root /\ (upd H x.c o) x.p = some (.tup x.tupV) /\ ZR H0 (upd H x.c o) r [.ref x.p])) := by
 obtain ⟨_, h3, h4⟩ := zr
 refine ⟨?_, ?_⟩
 ·unfold Fz.side at h3 ⊢
  cases q : x.f.op with
  | ifT n =>
   rw [q] at h3
   show (upd H x.c o) x.e = some (.lst [])
   rw [upd_ne (side_e nd q).1]
   exact h3
  | ifO n t => rw [q] at h3; exact h3
  | root => trivial
  | whl n => trivial
  | rep n => trivial
 ·rcases h4 with h4 | ⟨h4, h5, h6⟩
  ·exact .inl h4
  ·refine .inr ⟨h4, by rw [upd_ne (tup_lst h5 hc)]; exact h5, h6.frame (fun m hm => upd_ne (c_rest nd hm)) fun p xs h => by rw [upd_ne (tup_lst h hc)]; exact h⟩
theorem ZI.push {x : Fz} {r : List Fz} {vs xs : List V} {p : Addr} {d : Deed} (Z : ZI Hb H0 H S s0 s1 s2 s3 (x :: r)) (hc : H x.c = some (.lst vs)) (hp : H p = some (.tup xs)) (hp0 : H0 p = none) (hd : RD (upd H0 p (.tup xs)) (.ref p) d) :
  ZI Hb (upd H0 p (.tup xs)) (upd H x.c (.lst (vs ++ [.ref p]))) S s0 s1 s2 s3 ({ x with f := x.f.add d } :: r) := by
 have n := Z.ne (muts_top (x := x) (r := r))
 have pc := tup_lst hp hc
 have cz : H0 x.c = none := Z.fzz muts_top
 have g : Same H0 (upd H0 p (.tup xs)) := Same.new hp0 _
 have rest := (Z.zr.rest (o := .lst (vs ++ [.ref p])) Z.ndz hc)
 refine { hb := Z.hb.trans g, h0 := ?_, fz := ?_, nd := Z.nd, cS := ?_, c0 := ?_, c1 := ?_, c2 := ?_, c3 := ?_, zr := ?_ }
 ·intro b u q
  by_cases e : b = p
  ·subst e
   rw [upd_same] at q
   cases q
   rw [upd_ne pc]
   exact hp
  ·rw [upd_ne e] at q
   rw [upd_ne (ne_of_none q cz)]
   exact Z.h0 _ _ q
 ·intro m hm
  obtain ⟨ws, hw⟩ := Z.lsts m hm
  rw [upd_ne (Ne.symm (tup_lst hp hw))]
  exact Z.fz m hm
 ·rw [upd_ne n.1]; exact Z.cS
 ·rw [upd_ne n.2.1]; exact Z.c0
 ·rw [upd_ne n.2.2.1]; exact Z.c1
 ·rw [upd_ne n.2.2.2.1]; exact Z.c2
 ·rw [upd_ne n.2.2.2.2]; exact Z.c3
 ·obtain ⟨⟨vs', h1, h2⟩, _, _⟩ := Z.zr
  rw [List.append_nil, hc] at h1
  cases h1
  refine ⟨⟨vs ++ [.ref p], by rw [List.append_nil]; exact upd_same, (h2.same g).app (.cons hd .nil)⟩, ?_, ?_⟩
  ·have q := rest.1
   unfold Fz.side at q ⊢
   dsimp only [Fr.add]
   revert q
   cases x.f.op <;> intro q <;> first | exact q | exact RL.same g q
  ·rcases rest.2 with h4 | ⟨h4, h5, h6⟩
   ·exact .inl h4
   ·exact .inr ⟨h4, h5, h6.grow g⟩
end
end Tr
namespace Tr
open PySem PySem.Spec PyProof.Rows L2
set_option linter.all false
section
variable {Hb H0 H H' : Hp} {S s0 s1 s2 s3 : Addr} {z : List Fz}
theorem ZI.opened {x y : Fz} {r : List Fz} {vs : List V} (Z : ZI Hb H0 H S s0 s1 s2 s3 (x :: r)) (hc : H x.c = some (.lst vs))
  (k : ∀ b u, b ≠ x.c -> b ≠ s0 -> b ≠ s1 -> b ≠ s2 -> b ≠ s3 -> H b = some u -> H' b = some u) (nm : ∀ m ∈ y.muts, H m = none /\ H' m = some (.lst [])) (ny : y.muts.Nodup) (hp : H' y.p = some (.tup y.tupV))
  (hop : y.f.op ≠ .root) (hno : ∀ n t, y.f.op ≠ .ifO n t) (hds : y.f.ds = [])
  (kc : H' x.c = some (.lst (vs ++ [.ref y.p]))) (k0 : H' s0 = some (.lst (((x :: r).map fun x => V.ref x.c).reverse ++ [.ref y.c]))) (k1 : H' s1 = some (.lst (((x :: r).map Fz.o).reverse ++ [y.o])))
  (k2 : H' s2 = some (.lst (((x :: r).map fun x => V.bl x.f.shut).reverse ++ [.bl y.f.shut]))) (k3 : H' s3 = some (.lst (((x :: r).map fun x => V.int x.f.times).reverse ++ [.int y.f.times]))) : ZI Hb H0 H' S s0 s1 s2 s3 (y :: x :: r) := by
 have sn := Z.ss
 have cn := Z.ne (muts_top (x := x) (r := r))
 have fresh : ∀ m ∈ y.muts, ∀ b ∈ allMuts S s0 s1 s2 s3 (x :: r), m ≠ b := fun m hm b hb e => by
  obtain ⟨ws, hw⟩ := Z.lsts b hb
  rw [<- e, (nm m hm).1] at hw
  cases hw
 have am : allMuts S s0 s1 s2 s3 (y :: x :: r) = [S, s0, s1, s2, s3] ++ (y.muts ++ (x :: r).flatMap Fz.muts) := by simp [allMuts]
 have am' : allMuts S s0 s1 s2 s3 (x :: r) = [S, s0, s1, s2, s3] ++ (x :: r).flatMap Fz.muts := by simp [allMuts]
 have h0' : Same H0 H' := fun b u q => by
  have nb : ∀ m ∈ allMuts S s0 s1 s2 s3 (x :: r), b ≠ m := fun m hm => ne_of_none q (Z.fz m hm)
  exact k b u (nb _ (by rw [am']; exact List.mem_append_right _ muts_top)) (nb _ (by rw [am']; simp)) (nb _ (by rw [am']; simp)) (nb _ (by rw [am']; simp)) (nb _ (by rw [am']; simp)) (Z.h0 _ _ q)
 have oth : ∀ m, m ∈ (x :: r).flatMap Fz.muts -> m ≠ x.c -> H' m = H m := fun m hm hmc => by
  obtain ⟨ws, hw⟩ := Z.zr.lsts m hm
  have n := Z.ne hm
  rw [hw]
  exact k m _ hmc (Ne.symm n.2.1) (Ne.symm n.2.2.1) (Ne.symm n.2.2.2.1) (Ne.symm n.2.2.2.2) hw
 have tp : ∀ p xs, H p = some (.tup xs) -> H' p = some (.tup xs) := fun p xs h => k p _ (tup_lst h hc) (tup_lst h Z.c0) (tup_lst h Z.c1) (tup_lst h Z.c2) (tup_lst h Z.c3) h
 refine { hb := Z.hb, h0 := h0', fz := ?_, nd := ?_, cS := k _ _ cn.1 sn.1 sn.2.1 sn.2.2.1 sn.2.2.2.1 Z.cS, c0 := ?_, c1 := ?_, c2 := ?_, c3 := ?_, zr := ?_ }
 ·intro m hm
  rw [am, List.mem_append, List.mem_append] at hm
  rcases hm with hm | hm | hm
  ·exact Z.fz m (by rw [am']; exact List.mem_append_left _ hm)
  ·exact Same.none Z.h0 (nm m hm).1
  ·exact Z.fzz hm
 ·have nd := Z.nd
  rw [am'] at nd
  rw [am, List.nodup_append, List.nodup_append]
  have a := List.nodup_append.mp nd
  refine ⟨a.1, ⟨ny, a.2.1, fun m hm b hb => fresh m hm b (by rw [am']; exact List.mem_append_right _ hb)⟩, fun m hm b hb => ?_⟩
  rcases List.mem_append.mp hb with hb | hb
  ·exact Ne.symm (fresh b hb m (by rw [am']; exact List.mem_append_left _ hm))
  ·exact a.2.2 m hm b hb
 ·rw [k0]; simp
 ·rw [k1]; simp
 ·rw [k2]; simp
 ·rw [k3]; simp
 ·obtain ⟨⟨vs', h1, h2⟩, h3, h4⟩ := Z.zr
  rw [List.append_nil, hc] at h1
  cases h1
  refine ⟨⟨[], (nm _ y.c_mem).2, by rw [hds]; exact .nil⟩, ?_, .inr ⟨hop, hp, ⟨vs, kc, h2⟩, ?_, ?_⟩⟩
  ·unfold Fz.side
   cases q : y.f.op with
   | ifT n => exact (nm y.e (by unfold Fz.muts; rw [q]; simp)).2
   | ifO n t => exact absurd q (hno n t)
   | root => trivial
   | whl n => trivial
   | rep n => trivial
  ·unfold Fz.side at h3 ⊢
   cases q : x.f.op with
   | ifT n =>
    rw [q] at h3
    have se := side_e Z.ndz q
    show H' x.e = some (.lst [])
    rw [oth x.e (by rw [List.flatMap_cons]; exact List.mem_append_left _ se.2.1) se.1]
    exact h3
   | ifO n t => rw [q] at h3; exact h3
   | root => trivial
   | whl n => trivial
   | rep n => trivial
  ·rcases h4 with h4 | ⟨h4, h5, h6⟩
   ·exact .inl h4
   ·exact .inr ⟨h4, tp _ _ h5, h6.frame (fun m hm => oth m (muts_rest hm) (c_rest Z.ndz hm)) tp⟩
theorem ZI.elsed {x : Fz} {r : List Fz} {vs : List V} {n : Str} (Z : ZI Hb H0 H S s0 s1 s2 s3 (x :: r)) (q : x.f.op = .ifT n) (hc : H x.c = some (.lst vs))
  (k : ∀ b u, b ≠ s0 -> b ≠ s1 -> H b = some u -> H' b = some u) (k0 : H' s0 = some (.lst ((r.map fun x => V.ref x.c).reverse ++ [.ref x.e]))) (k1 : H' s1 = some (.lst ((r.map Fz.o).reverse ++ [.non]))) :
  ZI Hb (upd H0 x.c (.lst vs)) H' S s0 s1 s2 s3 (⟨{ x.f with op := .ifO n x.f.ds, ds := [] }, x.e, x.p, x.c⟩ :: r) := by
 have sn := Z.ss
 have cn := Z.ne (muts_top (x := x) (r := r))
 have se := side_e Z.ndz q
 have em : x.e ∈ (x :: r).flatMap Fz.muts := by rw [List.flatMap_cons]; exact List.mem_append_left _ se.2.1
 have en := Z.ne em
 have g : Same H0 (upd H0 x.c (.lst vs)) := Same.new (Z.fzz muts_top) _
 have mx : x.muts = [x.c, x.e] := by unfold Fz.muts; rw [q]
 have tp : ∀ p xs, H p = some (.tup xs) -> H' p = some (.tup xs) := fun p xs h => k p _ (tup_lst h Z.c0) (tup_lst h Z.c1) h
 have oth : ∀ m, m ∈ (x :: r).flatMap Fz.muts -> H' m = H m := fun m hm => by
  obtain ⟨ws, hw⟩ := Z.zr.lsts m hm
  have n := Z.ne hm
  rw [hw]
  exact k m _ (Ne.symm n.2.1) (Ne.symm n.2.2.1) hw
 have z0 : H0 s0 = none := Z.fz _ (by simp [allMuts])
 have z1 : H0 s1 = none := Z.fz _ (by simp [allMuts])
 obtain ⟨⟨vs', h1, h2⟩, h3, h4⟩ := Z.zr
 rw [List.append_nil, hc] at h1
 cases h1
 unfold Fz.side at h3
 rw [q] at h3
 have sub : ∀ m, m ∈ allMuts S s0 s1 s2 s3 (⟨{ x.f with op := .ifO n x.f.ds, ds := [] }, x.e, x.p, x.c⟩ :: r) -> m ∈ allMuts S s0 s1 s2 s3 (x :: r) /\ m ≠ x.c := fun m hm => by
  simp only [allMuts, List.flatMap_cons, Fz.muts, List.mem_cons, List.cons_append, List.nil_append] at hm
  simp only [allMuts, List.flatMap_cons, mx, List.mem_cons, List.cons_append, List.nil_append]
  rcases hm with rfl | rfl | rfl | rfl | rfl | rfl | hm
  ·exact ⟨by simp, cn.1⟩
  ·exact ⟨by simp, cn.2.1⟩
  ·exact ⟨by simp, cn.2.2.1⟩
  ·exact ⟨by simp, cn.2.2.2.1⟩
  ·exact ⟨by simp, cn.2.2.2.2⟩
  ·exact ⟨by simp, se.1⟩
  ·have hm' : m ∈ r.flatMap Fz.muts := by simpa using hm
   exact ⟨by simp [hm'], c_rest Z.ndz hm'⟩
 refine { hb := Z.hb.trans g, h0 := ?_, fz := ?_, nd := ?_, cS := k _ _ sn.1 sn.2.1 Z.cS, c0 := ?_, c1 := ?_, c2 := ?_, c3 := ?_, zr := ?_ }
 ·intro b u hb
  by_cases e : b = x.c
  ·subst e
   rw [upd_same] at hb
   cases hb
   exact k _ _ (Ne.symm cn.2.1) (Ne.symm cn.2.2.1) hc
  ·rw [upd_ne e] at hb
   exact k _ _ (ne_of_none hb z0) (ne_of_none hb z1) (Z.h0 _ _ hb)
 ·intro m hm
  rw [upd_ne (sub m hm).2]
  exact Z.fz m (sub m hm).1
 ·have nd := Z.nd
  simp only [allMuts, List.flatMap_cons, mx, List.cons_append, List.nil_append, List.nodup_cons, List.mem_cons, not_or] at nd
  simp only [allMuts, List.flatMap_cons, Fz.muts, List.cons_append, List.nil_append, List.nodup_cons, List.mem_cons, not_or]
  obtain ⟨⟨a1, a2, a3, a4, _, a6, a7⟩, ⟨b1, b2, b3, _, b5, b6⟩, ⟨c1, c2, _, c4, c5⟩, ⟨d1, _, d3, d4⟩, ⟨_, e2, e3⟩, _, f2, f3⟩ := nd
  exact ⟨⟨a1, a2, a3, a4, a6, a7⟩, ⟨b1, b2, b3, b5, b6⟩, ⟨c1, c2, c4, c5⟩, ⟨d1, d3, d4⟩, ⟨e2, e3⟩, f2, f3⟩
 ·rw [k0]; simp
 ·rw [k1]; simp [Fz.o]
 ·refine (k _ _ (Ne.symm sn.2.2.2.2.2.1) (Ne.symm sn.2.2.2.2.2.2.2.1) Z.c2).trans ?_
  simp
 ·refine (k _ _ (Ne.symm sn.2.2.2.2.2.2.1) (Ne.symm sn.2.2.2.2.2.2.2.2.1) Z.c3).trans ?_
  simp
 ·refine ⟨⟨[], ?_, .nil⟩, .mk upd_same (h2.same g), ?_⟩
  ·show H' x.e = some (.lst ([] ++ []))
   rw [oth x.e em]
   exact h3
  ·rcases h4 with ⟨h4, _⟩ | ⟨h4, h5, h6⟩
   ·rw [q] at h4; cases h4
   ·refine .inr ⟨by simp, ?_, (h6.frame (fun m hm => oth m (muts_rest hm)) tp).grow g⟩
    have := tp _ _ h5
    unfold Fz.tupV at this ⊢
    rw [q] at this
    exact this
theorem ZI.closed {x g : Fz} {r : List Fz} (Z : ZI Hb H0 H S s0 s1 s2 s3 (x :: g :: r))
  (k : ∀ b u, b ≠ s0 -> b ≠ s1 -> b ≠ s2 -> b ≠ s3 -> H b = some u -> H' b = some u) (k0 : H' s0 = some (.lst (((g :: r).map fun x => V.ref x.c).reverse))) (k1 : H' s1 = some (.lst (((g :: r).map Fz.o).reverse)))
  (k2 : H' s2 = some (.lst (((g :: r).map fun x => V.bl x.f.shut).reverse))) (k3 : H' s3 = some (.lst (((g :: r).map fun x => V.int x.f.times).reverse))) :
  ∃ H0', ZI Hb H0' H' S s0 s1 s2 s3 ({ g with f := g.f.add x.f.deed } :: r) := by
 have sn := Z.ss
 obtain ⟨⟨vs, h1, h2⟩, h3, h4⟩ := Z.zr
 rw [List.append_nil] at h1
 rcases h4 with ⟨_, h4⟩ | ⟨h4, h5, h6⟩
 ·cases h4
 have tp : ∀ p xs, H p = some (.tup xs) -> H' p = some (.tup xs) := fun p xs h => k p _ (tup_lst h Z.c0) (tup_lst h Z.c1) (tup_lst h Z.c2) (tup_lst h Z.c3) h
 have oth : ∀ m, m ∈ (x :: g :: r).flatMap Fz.muts -> H' m = H m := fun m hm => by
  obtain ⟨ws, hw⟩ := Z.zr.lsts m hm
  have n := Z.ne hm
  rw [hw]
  exact k m _ (Ne.symm n.2.1) (Ne.symm n.2.2.1) (Ne.symm n.2.2.2.1) (Ne.symm n.2.2.2.2) hw
 have mx : ∀ m ∈ x.muts, m ∈ (x :: g :: r).flatMap Fz.muts := fun m hm => by rw [List.flatMap_cons]; exact List.mem_append_left _ hm
 let H0' : Hp := fun b => if b ∈ x.muts \/ b = x.p then H b else H0 b
 have e1 : ∀ b, b ∈ x.muts \/ b = x.p -> H0' b = H b := fun b hb => if_pos hb
 have e2 : ∀ b, ¬ (b ∈ x.muts \/ b = x.p) -> H0' b = H0 b := fun b hb => if_neg hb
 have gr : Same H0 H0' := fun b u hb => by
  by_cases c : b ∈ x.muts \/ b = x.p
  ·rw [e1 b c]; exact Z.h0 _ _ hb
  ·rw [e2 b c]; exact hb
 have hl : RL H0' x.c x.f.ds := .mk ((e1 _ (.inl x.c_mem)).trans h1) (h2.same gr)
 have ht : H0' x.p = some (.tup x.tupV) := (e1 _ (.inr rfl)).trans h5
 have hd : RD H0' (.ref x.p) x.f.deed := by
  unfold Fz.tupV at ht
  unfold Fz.side at h3
  unfold Fr.deed
  cases q : x.f.op with
  | root => exact absurd q h4
  | ifT n =>
   rw [q] at ht h3
   exact .cond ht hl (.mk ((e1 _ (.inl (by unfold Fz.muts; rw [q]; simp))).trans h3) .nil)
  | ifO n t =>
   rw [q] at ht h3
   exact .cond ht (RL.same gr h3) hl
  | whl n =>
   rw [q] at ht
   exact .whl ht hl
  | rep n =>
   rw [q] at ht
   exact .rep ht hl
 have ndx := Z.ndz
 rw [List.flatMap_cons] at ndx
 have nd3 := List.nodup_append.mp ndx
 have ex : ∀ m, m ∈ allMuts S s0 s1 s2 s3 (g :: r) -> H0' m = none := fun m hm => by
  have hm' : m ∈ allMuts S s0 s1 s2 s3 (x :: g :: r) := by
   simp only [allMuts, List.flatMap_cons, List.mem_cons, List.mem_append] at hm ⊢
   rcases hm with h | h | h | h | h | h
   ·exact .inl h
   ·exact .inr (.inl h)
   ·exact .inr (.inr (.inl h))
   ·exact .inr (.inr (.inr (.inl h)))
   ·exact .inr (.inr (.inr (.inr (.inl h))))
   ·exact .inr (.inr (.inr (.inr (.inr (.inr h)))))
  rw [e2 m ?_]
  ·exact Z.fz m hm'
  ·rintro (hx | hx)
   ·have n := Z.ne (mx m hx)
    simp only [allMuts, List.mem_cons] at hm
    rcases hm with h | h | h | h | h | h
    ·exact n.1 h.symm
    ·exact n.2.1 h.symm
    ·exact n.2.2.1 h.symm
    ·exact n.2.2.2.1 h.symm
    ·exact n.2.2.2.2 h.symm
    ·exact nd3.2.2 m hx m h rfl
   ·obtain ⟨ws, hw⟩ := Z.lsts m hm'
    exact tup_lst h5 hw hx.symm
 refine ⟨H0', { hb := Z.hb.trans gr, h0 := ?_, fz := ex, nd := ?_, cS := k _ _ sn.1 sn.2.1 sn.2.2.1 sn.2.2.2.1 Z.cS, c0 := k0, c1 := k1, c2 := k2, c3 := k3, zr := ?_ }⟩
 ·intro b u hb
  by_cases c : b ∈ x.muts \/ b = x.p
  ·rw [e1 b c] at hb
   rcases c with c | c
   ·rw [oth b (mx b c)]; exact hb
   ·subst c; rw [h5] at hb; cases hb; exact tp _ _ h5
  ·rw [e2 b c] at hb
   have z : ∀ m, m ∈ allMuts S s0 s1 s2 s3 (x :: g :: r) -> b ≠ m := fun m hm => ne_of_none hb (Z.fz m hm)
   exact k _ _ (z _ (by simp [allMuts])) (z _ (by simp [allMuts])) (z _ (by simp [allMuts])) (z _ (by simp [allMuts])) (Z.h0 _ _ hb)
 ·have nd := Z.nd
  have am : allMuts S s0 s1 s2 s3 (x :: g :: r) = [S, s0, s1, s2, s3] ++ (x.muts ++ (g :: r).flatMap Fz.muts) := by simp [allMuts]
  rw [am] at nd
  have a := List.nodup_append.mp nd
  show (allMuts S s0 s1 s2 s3 (g :: r)).Nodup
  have am' : allMuts S s0 s1 s2 s3 (g :: r) = [S, s0, s1, s2, s3] ++ (g :: r).flatMap Fz.muts := by simp [allMuts]
  rw [am', List.nodup_append]
  exact ⟨a.1, nd3.2.1, fun m hm b hb => a.2.2 m hm b (List.mem_append_right _ hb)⟩
 ·have h7 := (h6.frame (H' := H') (fun m hm => oth m (muts_rest hm)) tp).grow gr
  obtain ⟨⟨ws, w1, w2⟩, w3, w4⟩ := h7
  exact ⟨⟨ws ++ [.ref x.p], by rw [List.append_nil]; exact w1, w2.app (.cons hd .nil)⟩, w3, w4⟩
end
end Tr
namespace Tr
open PySem PySem.Spec PyProof.Rows L2
set_option linter.all false
section
variable {Hb H0 H H4 : Hp} {S s0 s1 s2 s3 : Addr}
theorem open4 {x y : Fz} {r : List Fz} {vs : List V} (Z : ZI Hb H0 H S s0 s1 s2 s3 (x :: r)) (hc : H x.c = some (.lst vs)) (k4 : ∀ b u, b ≠ x.c -> H b = some u -> H4 b = some u) (nm : ∀ m ∈ y.muts, H m = none /\ H4 m = some (.lst [])) (ny : y.muts.Nodup)
  (hp : H4 y.p = some (.tup y.tupV)) (hop : y.f.op ≠ .root) (hno : ∀ n t, y.f.op ≠ .ifO n t) (hds : y.f.ds = []) (kc : H4 x.c = some (.lst (vs ++ [.ref y.p]))) :
  ZI Hb H0 (upd (upd (upd (upd H4 s0 (.lst (((x :: r).map fun x => V.ref x.c).reverse ++ [.ref y.c]))) s1 (.lst (((x :: r).map Fz.o).reverse ++ [y.o]))) s2 (.lst (((x :: r).map fun x => V.bl x.f.shut).reverse ++ [.bl y.f.shut]))) s3 (.lst (((x :: r).map fun x => V.int x.f.times).reverse ++ [.int y.f.times]))) S s0 s1 s2 s3 (y :: x :: r) := by
 obtain ⟨_, _, _, _, n01, n02, n03, n12, n13, n23⟩ := Z.ss
 have cn := Z.ne (muts_top (x := x) (r := r))
 have ms : ∀ m ∈ y.muts, m ≠ s0 /\ m ≠ s1 /\ m ≠ s2 /\ m ≠ s3 := fun m hm => by
  have hn := (nm m hm).1
  exact ⟨(fun e => by rw [e, Z.c0] at hn; cases hn), (fun e => by rw [e, Z.c1] at hn; cases hn), (fun e => by rw [e, Z.c2] at hn; cases hn), (fun e => by rw [e, Z.c3] at hn; cases hn)⟩
 have c0 := k4 _ _ cn.2.1 Z.c0
 have c1 := k4 _ _ cn.2.2.1 Z.c1
 have c2 := k4 _ _ cn.2.2.2.1 Z.c2
 have c3 := k4 _ _ cn.2.2.2.2 Z.c3
 refine Z.opened (y := y) hc (fun b u h1 h2 h3 h4 h5 hb => ?_) (fun m hm => ⟨(nm m hm).1, ?_⟩) ny ?_ hop hno hds ?_ ?_ ?_ ?_ ?_
 ·rw [upd_ne h5, upd_ne h4, upd_ne h3, upd_ne h2]
  exact k4 b u h1 hb
 ·have h := ms m hm
  rw [upd_ne h.2.2.2, upd_ne h.2.2.1, upd_ne h.2.1, upd_ne h.1]
  exact (nm m hm).2
 ·rw [upd_ne (tup_lst hp c3), upd_ne (tup_lst hp c2), upd_ne (tup_lst hp c1), upd_ne (tup_lst hp c0)]
  exact hp
 ·rw [upd_ne (Ne.symm cn.2.2.2.2), upd_ne (Ne.symm cn.2.2.2.1), upd_ne (Ne.symm cn.2.2.1), upd_ne (Ne.symm cn.2.1)]
  exact kc
 ·rw [upd_ne n03, upd_ne n02, upd_ne n01, upd_same]
 ·rw [upd_ne n13, upd_ne n12, upd_same]
 ·rw [upd_ne n23, upd_same]
 ·rw [upd_same]
theorem last_at {α : Type} {l : List α} {v : α} : atI (l ++ [v]) (-1) = some v := by
 unfold atI
 have e : ixN (l ++ [v]).length (-1) = some l.length := by
  unfold ixN
  simp
  omega
 rw [e]
 simp
theorem last_rev {α β : Type} {f : α -> β} {x : α} {r : List α} : atI (((x :: r).map f).reverse) (-1) = some (f x) := by
 rw [List.map_cons, List.reverse_cons]
 exact last_at
end
end Tr
namespace Tr
open PySem PySem.Spec PyProof.Rows L2
set_option linter.all false
theorem ds_flats : ∀ ds : List Deed, ds.length <= (flats ds).length
 | [] => Nat.le_refl _
 | d :: r => by
  have := ds_flats r
  rw [flats, List.length_append, List.length_cons, flat_inner, List.length_cons]
  omega
theorem top_few {f : Fr} {r : List Fr} : f.ds.length <= cnt (f :: r) := by
 have := ds_flats f.ds
 rw [cnt]
 omega
def TimesOk (st : List Fr) : Prop := ∀ f ∈ st, 0 <= f.times /\ f.times <= 1000
theorem step_times {names rooms : List Str} {most low n : Int} {st : List Fr} (h0 : 0 <= most) (h1 : most <= 1000) (hn : 0 <= n) (ht : TimesOk st) : TimesOk (stepV names rooms most low st n) := by
 match st, ht with
 | [], ht => exact ht
 | g :: r, ht =>
  have hg := ht g List.mem_cons_self
  have hr : ∀ f ∈ r, 0 <= f.times /\ f.times <= 1000 := fun f hf => ht f (List.mem_cons_of_mem _ hf)
  unfold stepV
  dsimp only
  split
  ·unfold openV
   dsimp only
   intro f hf
   rcases List.mem_cons.mp hf with rfl | hf
   ·split
    ·exact ⟨by simp, by simp⟩
    ·split
     ·exact ⟨by simp, by simp⟩
     ·dsimp only
      unfold manyV
      by_cases tp : 0 < g.times
      ·rw [if_pos tp]
       have q0 : 0 <= most / g.times := Int.ediv_nonneg h0 hg.1
       have e0 : 0 <= n / 70 % (1 + most / g.times) := Int.emod_nonneg _ (by omega)
       have e1 : n / 70 % (1 + most / g.times) < 1 + most / g.times := Int.emod_lt_of_pos _ (by omega)
       refine ⟨Int.mul_nonneg hg.1 e0, ?_⟩
       have m1 : g.times * (n / 70 % (1 + most / g.times)) <= g.times * (most / g.times) := Int.mul_le_mul_of_nonneg_left (by omega) hg.1
       have m2 : g.times * (most / g.times) <= most := Int.mul_ediv_self_le (by omega)
       omega
      ·have : g.times = 0 := by omega
       rw [this]
       simp
   ·exact ht f hf
  ·split
   ·intro f hf
    rcases List.mem_cons.mp hf with rfl | hf
    ·exact hg
    ·exact hr f hf
   ·split
    ·cases r with
     | nil => exact ht
     | cons g' r' =>
      intro f hf
      rcases List.mem_cons.mp hf with rfl | hf
      ·exact hr g' List.mem_cons_self
      ·exact hr f (List.mem_cons_of_mem _ hf)
    ·intro f hf
     rcases List.mem_cons.mp hf with rfl | hf
     ·exact hg
     ·exact hr f hf
theorem states_succ {names rooms : List Str} {most low : Int} {cells : List Int} {i : Nat} {c : Int} (h : cells[i]? = some c) : statesV names rooms most low (cells.take (i + 1)) = stepV names rooms most low (statesV names rooms most low (cells.take i)) (mixed c 1) := by
 unfold statesV
 rw [List.take_add_one, h, List.foldl_append]
 rfl
theorem states_times {names rooms : List Str} {most low : Int} (h0 : 0 <= most) (h1 : most <= 1000) : ∀ (cells : List Int) (st : List Fr), TimesOk st -> TimesOk (cells.foldl (fun st c => stepV names rooms most low st (mixed c 1)) st)
 | [], st, h => h
 | c :: cs, st, h => states_times h0 h1 cs _ (step_times h0 h1 (by unfold mixed; exact Int.emod_nonneg _ (by decide)) h)
theorem bottom_f {x x' : Fz} {r : List Fz} (h : x'.c = x.c) : bottom (x' :: r) = bottom (x :: r) := by
 cases r with
 | nil => exact h
 | cons y r => rfl
theorem joinT {L Pc c A B : Prop} {inst : Decidable c} (hw : c -> Pc) (rest : Pc -> L) (h : ¬ c -> (Pc -> L) -> B) (e : A = L := by rfl) : @ite Prop c inst A B := by
 subst e
 by_cases hc : c
 ·rw [if_pos hc]; exact rest (hw hc)
 ·rw [if_neg hc]; exact h hc rest
theorem ix_last {α : Type} {l : List α} {v : α} : ixN (l ++ [v]).length (-1) = some l.length := by
 unfold ixN
 simp
 omega
theorem set_last {α : Type} {l : List α} {v w : α} : (l ++ [v]).set l.length w = l ++ [w] := by
 induction l with
 | nil => rfl
 | cons a r ih => simp [ih]
end Tr
namespace Tr
open L2
theorem goB {Pc : Prop} {F : Bool -> Prop} (go : Pc -> ∃ k, V.bl false = V.bl k /\ F k) (p : Pc) : F false := by
 obtain ⟨k, e, h⟩ := go p
 cases e
 exact h
end Tr
namespace Tr
theorem drop_rev {α β : Type} {f : α -> β} {x : α} {r : List α} : (((x :: r).map f).reverse).dropLast = (r.map f).reverse := by
 rw [List.map_cons, List.reverse_cons, List.dropLast_concat]
theorem last_get {α β : Type} {f : α -> β} {x : α} {r : List α} : (((x :: r).map f).reverse)[(((x :: r).map f).reverse).length - 1]? = some (f x) := by
 rw [List.map_cons, List.reverse_cons]
 simp
end Tr
namespace Tr
open PySem PySem.Spec PyProof.Rows L2
set_option linter.all false
def Deed.strs : Deed -> List Str
 | .set x a sg b => x :: sg :: (a.names ++ b.names)
 | .put q x | .get q x => [q, x]
 | .give x | .cond x _ _ | .whl x _ => [x]
 | .rep _ _ => []
def Texts (D : List Str) (ds : List Deed) : Prop := ∀ d ∈ flats ds, ∀ s ∈ d.strs, s ∈ D
def FrT (D : List Str) (f : Fr) : Prop := Texts D f.ds /\ Texts D f.op.extra /\ ∀ s ∈ f.op.nms, s ∈ D
theorem Texts.nil {D : List Str} : Texts D [] := fun d h => by simp [flats] at h
theorem Texts.app {D : List Str} {a b : List Deed} (h1 : Texts D a) (h2 : Texts D b) : Texts D (a ++ b) := fun d h => by
 rw [flats_append, List.mem_append] at h
 exact h.elim (h1 d) (h2 d)
theorem Texts.one {D : List Str} {d : Deed} (h : ∀ s ∈ d.strs, s ∈ D) (hi : ∀ b ∈ d.inner, Texts D b) : Texts D [d] := fun e he => by
 rw [flats, flats, List.append_nil, flat_inner, List.mem_cons, List.mem_flatMap] at he
 rcases he with rfl | ⟨b, hb, he⟩
 ·exact h
 ·exact hi b hb e he
theorem FrT.deed {D : List Str} {f : Fr} (h : FrT D f) : Texts D [f.deed] := by
 obtain ⟨h1, h2, h3⟩ := h
 unfold Fr.deed
 cases q : f.op <;> rw [q] at h2 h3
 ·exact .one (by simp [Deed.strs]) (by simpa [Deed.inner] using h1)
 ·exact .one (by simpa [Deed.strs, Op.nms] using h3) (by simpa [Deed.inner] using ⟨h1, Texts.nil⟩)
 ·exact .one (by simpa [Deed.strs, Op.nms] using h3) (by simpa [Deed.inner] using ⟨h2, h1⟩)
 ·exact .one (by simpa [Deed.strs, Op.nms] using h3) (by simpa [Deed.inner] using h1)
 ·exact .one (by simp [Deed.strs]) (by simpa [Deed.inner] using h1)
theorem FrT.add {D : List Str} {g : Fr} {d : Deed} (h : FrT D g) (hd : Texts D [d]) : FrT D (g.add d) := ⟨h.1.app hd, h.2.1, h.2.2⟩
def signsL : List Str := ("+-*/<=&|^" : Str).cps.toList.map sgn
def allTexts (names rooms : List Str) : List Str := names ++ rooms ++ signsL
theorem sign_mem (i : Int) : signAt i ∈ signsL := by
 unfold signAt signsL
 have h1 : 0 <= i % 9 := Int.emod_nonneg _ (by decide)
 have h2 : i % 9 < 9 := Int.emod_lt_of_pos _ (by decide)
 have ln : ("+-*/<=&|^" : Str).cps.toList.length = 9 := by decide +kernel
 have lt : (i % 9).toNat < ("+-*/<=&|^" : Str).cps.toList.length := by omega
 rw [List.getD_eq_getElem?_getD, List.getElem?_eq_getElem lt]
 exact List.mem_map.mpr ⟨_, List.getElem_mem lt, rfl⟩
theorem simple_texts {n : Int} {names rooms : List Str} {shut : Bool} (h : 0 < names.length) : Texts (allTexts names rooms) [simpleV n names rooms shut] := by
 have hn : ∀ i, nth names i ∈ allTexts names rooms := fun i => by unfold allTexts; simp [nth_mem h i]
 have hs : ∀ i, signAt i ∈ allTexts names rooms := fun i => by unfold allTexts; simp [sign_mem i]
 unfold simpleV
 split
 ·exact .one (by simpa [Deed.strs] using hn _) (by simp [Deed.inner])
 ·split
  ·rename_i hr
   have hm : nth rooms (n / 14 / 5) ∈ allTexts names rooms := by unfold allTexts; simp [nth_mem hr.2.1]
   split
   ·exact .one (by simp only [Deed.strs, List.mem_cons, List.not_mem_nil, or_false]; rintro s (rfl | rfl); exact hm; exact hn _) (by simp [Deed.inner])
   ·exact .one (by simp only [Deed.strs, List.mem_cons, List.not_mem_nil, or_false]; rintro s (rfl | rfl); exact hm; exact hn _) (by simp [Deed.inner])
  ·refine .one ?_ (by simp [Deed.inner])
   intro s hs'
   simp only [Deed.strs, List.mem_cons, List.mem_append] at hs'
   rcases hs' with rfl | rfl | hs' | hs'
   ·exact hn _
   ·exact hs _
   ·split at hs'
    ·exact absurd hs' (by simp [Val.names])
    ·simp [Val.names] at hs'; subst hs'; exact hn _
   ·split at hs'
    ·exact absurd hs' (by simp [Val.names])
    ·simp [Val.names] at hs'; subst hs'; exact hn _
theorem step_texts {names rooms : List Str} {most low n : Int} {st : List Fr} (h : 0 < names.length) (ht : ∀ f ∈ st, FrT (allTexts names rooms) f) : ∀ f ∈ stepV names rooms most low st n, FrT (allTexts names rooms) f := by
 have hn : ∀ i, nth names i ∈ allTexts names rooms := fun i => by unfold allTexts; simp [nth_mem h i]
 match st, ht with
 | [], ht => exact ht
 | g :: r, ht =>
  have hg := ht g List.mem_cons_self
  have hr : ∀ f ∈ r, FrT (allTexts names rooms) f := fun f hf => ht f (List.mem_cons_of_mem _ hf)
  unfold stepV
  dsimp only
  split
  ·unfold openV
   dsimp only
   intro f hf
   rcases List.mem_cons.mp hf with rfl | hf
   ·split
    ·exact ⟨.nil, .nil, by simpa [Op.nms] using hn _⟩
    ·split
     ·exact ⟨.nil, .nil, by simpa [Op.nms] using hn _⟩
     ·exact ⟨.nil, .nil, by simp [Op.nms]⟩
   ·exact ht f hf
  ·split
   ·rename_i x hx
    have e : g.op = .ifT x := by
     split at hx
     ·cases e : g.op <;> rw [e] at hx <;> simp [Op.ifT?] at hx
      rw [hx]
     ·cases hx
    intro f hf
    rcases List.mem_cons.mp hf with rfl | hf
    ·have := hg.2.2
     rw [e] at this
     exact ⟨.nil, hg.1, by simpa [Op.nms] using this⟩
    ·exact hr f hf
   ·split
    ·cases r with
     | nil => exact ht
     | cons g' r' =>
      intro f hf
      rcases List.mem_cons.mp hf with rfl | hf
      ·exact (hr g' List.mem_cons_self).add hg.deed
      ·exact hr f (List.mem_cons_of_mem _ hf)
    ·intro f hf
     rcases List.mem_cons.mp hf with rfl | hf
     ·exact hg.add (simple_texts h)
     ·exact hr f hf
theorem states_texts {names rooms : List Str} {most low : Int} (h : 0 < names.length) : ∀ (cells : List Int) (st : List Fr), (∀ f ∈ st, FrT (allTexts names rooms) f) -> ∀ f ∈ cells.foldl (fun st c => stepV names rooms most low st (mixed c 1)) st, FrT (allTexts names rooms) f
 | [], st, ht => ht
 | c :: cs, st, ht => states_texts h cs _ (step_texts h ht)
theorem wh_texts {D : List Str} : ∀ (st : List Fr) (dt : List Deed), (∀ f ∈ st, FrT D f) -> Texts D dt -> Texts D (wh st dt)
 | [], _, _, _ => .nil
 | [f], dt, h, hd => (h f List.mem_cons_self).1.app hd
 | f :: g :: r, dt, h, hd => by
  have hf := h f List.mem_cons_self
  exact wh_texts (g :: r) _ (fun f' hf' => h f' (List.mem_cons_of_mem _ hf')) (FrT.deed (f := { f with ds := f.ds ++ dt }) ⟨hf.1.app hd, hf.2⟩)
theorem block_texts {names rooms : List Str} {most low : Int} (h : 0 < names.length) (cells : List Int) : Texts (allTexts names rooms) (blockV names rooms most low cells) := by
 unfold blockV wholeOf
 have ok := states_ok (rooms := rooms) (most := most) (low := low) h cells st0 ⟨rfl, by simp [st0, cards, flats], by simp [st0, depths]⟩ (by simp [st0])
 have ne : statesV names rooms most low cells ≠ [] := fun z => by
  have := ok.1
  unfold statesV at z
  rw [z] at this
  exact this
 rw [wh_whole _ _ (by have := List.length_pos_iff.mpr ne; omega)]
 refine wh_texts _ _ (states_texts h cells st0 ?_) .nil
 intro f hf
 simp [st0] at hf
 subst hf
 exact ⟨.nil, .nil, by simp [Op.nms]⟩
mutual
theorem lay_deed {D : List Str} (hD : ∀ s ∈ D, PyData.strOk s = true) : ∀ d : Deed, (∀ e ∈ d.flat, ∀ s ∈ e.strs, s ∈ D) -> d.data.canLay0 = true
 | .set x a sg b, h => by
  have q : ∀ s ∈ (Deed.set x a sg b).strs, PyData.strOk s = true := fun s hs => hD s (h _ (by simp [Deed.flat]) s hs)
  cases a <;> cases b <;> simp [Deed.strs, Val.names] at q <;> simp [Deed.data, PyData.canLay0, PyData.canLayAll0, q] <;> decide +kernel
 | .put p x, h => by
  have q : ∀ s ∈ (Deed.put p x).strs, PyData.strOk s = true := fun s hs => hD s (h _ (by simp [Deed.flat]) s hs)
  simp [Deed.strs] at q
  simp [Deed.data, PyData.canLay0, PyData.canLayAll0, q]
  decide +kernel
 | .get p x, h => by
  have q : ∀ s ∈ (Deed.get p x).strs, PyData.strOk s = true := fun s hs => hD s (h _ (by simp [Deed.flat]) s hs)
  simp [Deed.strs] at q
  simp [Deed.data, PyData.canLay0, PyData.canLayAll0, q]
  decide +kernel
 | .give x, h => by
  have q : ∀ s ∈ (Deed.give x).strs, PyData.strOk s = true := fun s hs => hD s (h _ (by simp [Deed.flat]) s hs)
  simp [Deed.strs] at q
  simp [Deed.data, PyData.canLay0, PyData.canLayAll0, q]
  decide +kernel
 | .cond x t o, h => by
  have q : ∀ s ∈ (Deed.cond x t o).strs, PyData.strOk s = true := fun s hs => hD s (h _ (by simp [Deed.flat]) s hs)
  simp [Deed.strs] at q
  have h1 := lay_deeds hD t fun e he => h e (by simp [Deed.flat, he])
  have h2 := lay_deeds hD o fun e he => h e (by simp [Deed.flat, he])
  simp [Deed.data, PyData.canLay0, PyData.canLayAll0, q, h1, h2]
  decide +kernel
 | .whl x b, h => by
  have q : ∀ s ∈ (Deed.whl x b).strs, PyData.strOk s = true := fun s hs => hD s (h _ (by simp [Deed.flat]) s hs)
  simp [Deed.strs] at q
  have h1 := lay_deeds hD b fun e he => h e (by simp [Deed.flat, he])
  simp [Deed.data, PyData.canLay0, PyData.canLayAll0, q, h1]
  decide +kernel
 | .rep n b, h => by
  have h1 := lay_deeds hD b fun e he => h e (by simp [Deed.flat, he])
  simp [Deed.data, PyData.canLay0, PyData.canLayAll0, h1]
  decide +kernel
theorem lay_deeds {D : List Str} (hD : ∀ s ∈ D, PyData.strOk s = true) : ∀ ds : List Deed, (∀ e ∈ flats ds, ∀ s ∈ e.strs, s ∈ D) -> PyData.canLayAll0 (datas ds) = true
 | [], _ => by simp [datas, PyData.canLayAll0]
 | d :: r, h => by
  have h1 := lay_deed hD d fun e he => h e (by simp [flats, he])
  have h2 := lay_deeds hD r fun e he => h e (by simp [flats, he])
  simp [datas, PyData.canLayAll0, h1, h2]
end
mutual
theorem depth_deed : ∀ d : Deed, d.data.depth <= 2 * d.depth + 1
 | .set x a sg b => by cases a <;> cases b <;> simp [Deed.data, PyData.depth, PyData.depthAll]
 | .put p x => by simp [Deed.data, PyData.depth, PyData.depthAll]
 | .get p x => by simp [Deed.data, PyData.depth, PyData.depthAll]
 | .give x => by simp [Deed.data, PyData.depth, PyData.depthAll]
 | .cond x t o => by
  have h1 := depth_deeds t
  have h2 := depth_deeds o
  simp [Deed.data, PyData.depth, PyData.depthAll, Deed.depth]
  omega
 | .whl x b => by
  have h1 := depth_deeds b
  simp [Deed.data, PyData.depth, PyData.depthAll, Deed.depth]
  omega
 | .rep n b => by
  have h1 := depth_deeds b
  simp [Deed.data, PyData.depth, PyData.depthAll, Deed.depth]
  omega
theorem depth_deeds : ∀ ds : List Deed, PyData.depthAll (datas ds) <= 2 * depths ds + 1
 | [] => by simp [datas, PyData.depthAll]
 | d :: r => by
  have h1 := depth_deed d
  have h2 := depth_deeds r
  simp [datas, PyData.depthAll, depths]
  omega
end
end Tr
namespace Tr
open PySem PySem.Spec PyProof.Rows L2
set_option linter.all false
def Low (x : Str) : Prop := ∀ c ∈ x.cps.toList, c < 128
theorem Low.app {x y : Str} (h1 : Low x) (h2 : Low y) : Low (x ++ y) := fun c hc => by
 have e : (x ++ y).cps.toList = x.cps.toList ++ y.cps.toList := by
  show (x.cps ++ y.cps).toList = _
  simp
 rw [e, List.mem_append] at hc
 exact hc.elim (h1 c) (h2 c)
theorem Low.slice {x : Str} (h : Low x) (a b : Option Int) : Low (Txt.slice x a b) := fun c hc => by
 unfold Txt.slice at hc
 split at hc
 ·exact h c hc
 ·simp only [List.mem_filterMap] at hc
  obtain ⟨i, _, hi⟩ := hc
  have := Array.mem_of_getElem? hi
  exact h c (by simpa using this)
theorem alpha_low (j : Int) : alphaAt j < 128 := by
 unfold alphaAt
 have all : ∀ c ∈ letters.cps.toList, c < 128 := by decide +kernel
 rw [List.getD_eq_getElem?_getD]
 cases e : letters.cps.toList[j.toNat]? with
 | none => decide
 | some c => exact all c (List.mem_of_getElem? e)
theorem sgn_low {c : Nat} (h : c < 128) : Low (sgn c) := fun d hd => by
 simp [sgn] at hd
 subst hd
 exact h
theorem letters_low (n : Int) : ∀ k, Low (lettersV n k)
 | 0 => fun c hc => by simp [lettersV] at hc; exact absurd hc (by decide +kernel +revert)
 | k + 1 => by rw [lettersV]; exact (letters_low n k).app (sgn_low (alpha_low _))
theorem spelt_low {w : Str} (h : Low w) : Low (speltV w) := by
 unfold speltV
 split
 ·exact (h.slice _ _).app (sgn_low (alpha_low _))
 ·exact h
theorem poolWord_low (c k : Int) : Low (poolWord c k) := by
 have b : Low (poolBase c) := letters_low _ _
 have s : Low (poolSign c k) := sgn_low (alpha_low _)
 unfold poolWord
 split
 ·exact ((b.slice _ _).app s).app (b.slice _ _)
 ·split
  ·exact b.slice _ _
  ·exact (s.app (letters_low _ _)).slice _ _
theorem pool_low (c : Int) (n : Nat) : ∀ w ∈ poolV c n, Low w := by
 have up : ∀ w ∈ poolUp c n, Low w := fun w hw => by
  unfold poolUp at hw
  obtain ⟨k, _, rfl⟩ := List.mem_map.mp hw
  exact spelt_low (poolWord_low c k)
 unfold poolV
 split
 ·intro w hw
  exact up w (List.mem_reverse.mp hw)
 ·exact up
theorem low_ok {w : Str} (h : Low w) : PyData.strOk w = true := by
 unfold PyData.strOk
 rw [<- Array.all_toList, List.all_eq_true]
 intro c hc
 have := h c hc
 simp
 omega
theorem signs_ok : ∀ s ∈ signsL, PyData.strOk s = true := by decide +kernel
theorem texts_ok {c1 c2 : Int} {n1 n2 : Nat} : ∀ s ∈ allTexts (poolV c1 n1) (poolV c2 n2), PyData.strOk s = true := by
 intro s hs
 unfold allTexts at hs
 simp only [List.mem_append] at hs
 rcases hs with (hs | hs) | hs
 ·exact low_ok (pool_low _ _ s hs)
 ·exact low_ok (pool_low _ _ s hs)
 ·exact signs_ok s hs
theorem spelt_len {w : Str} (h : w.length <= 50) : (speltV w).length <= 51 := by
 unfold speltV
 split
 ·have := Txt.slice_le w none (some (-1))
  rw [str_len_append]
  have : (sgn (alphaAt ((lastIx w + 13) % 26))).length = 1 := rfl
  omega
 ·omega
theorem lettersV_len' (n : Int) : ∀ k : Nat, (lettersV n k).length = k
 | 0 => rfl
 | k + 1 => by rw [lettersV, str_len_append, lettersV_len' n k]; rfl
theorem poolWord_len' (c k : Int) : (poolWord c k).length <= 50 := by
 unfold poolWord
 have b : (poolBase c).length = 8 := lettersV_len' _ 8
 have s : (poolSign c k).length = 1 := rfl
 split
 ·have h1 := Txt.slice_le (poolBase c) none (some (poolAt c))
  have h2 := Txt.slice_le (poolBase c) (some (poolAt c + 1)) (some (poolSize c))
  rw [str_len_append, str_len_append]
  omega
 ·split
  ·have h1 := Txt.slice_le (poolBase c) none (some (1 + (mixed c 1 / 24 + k) % 8))
   omega
  ·have h1 := Txt.slice_le (poolSign c k ++ lettersV (mixed c (k + 2)) 7) none (some (1 + mixed c (k + 40) % 8))
   rw [str_len_append, lettersV_len'] at h1
   omega
theorem pool_short (c : Int) (n : Nat) : ∀ w ∈ poolV c n, w.length <= 51 := by
 have up : ∀ w ∈ poolUp c n, w.length <= 51 := fun w hw => by
  unfold poolUp at hw
  obtain ⟨k, _, rfl⟩ := List.mem_map.mp hw
  exact spelt_len (poolWord_len' c k)
 unfold poolV
 split
 ·intro w hw
  exact up w (List.mem_reverse.mp hw)
 ·exact up
theorem allCards_short {c1 c2 : Int} {n1 n2 : Nat} : ∀ s ∈ allCards (poolV c1 n1) (poolV c2 n2), s.length <= 1000 := by
 intro s hs
 unfold allCards at hs
 simp only [List.mem_append, List.mem_map, List.mem_singleton] at hs
 rcases hs with ((hs | ⟨q, hq, rfl⟩) | ⟨q, hq, rfl⟩) | rfl
 ·have := pool_short _ _ s hs; omega
 ·have := pool_short _ _ q hq; rw [str_len_append]; have : ((">" : Str)).length = 1 := by decide +kernel
  omega
 ·have := pool_short _ _ q hq; rw [str_len_append]; have : (("<" : Str)).length = 1 := by decide +kernel
  omega
 ·decide +kernel
theorem allCards_few {names rooms : List Str} : (allCards names rooms).length = names.length + 2 * rooms.length + 1 := by
 unfold allCards
 simp
 omega
end Tr
namespace L2
open PySem PySem.Spec PyProof.Rows
theorem comp_range {n : Nat} {g : TG} {tt : TT} {te : TE} {Fin : List V -> Hp -> Prop} {σ : St} {H : Hp} (Pv : Nat -> List V -> St -> Hp -> Prop) (h0 : Pv 0 [] σ H) (hz : ∀ i ys σ H, i <= n -> Pv i ys σ H -> ys.length <= i) (hx : n <= sizeLine)
  (hs : ∀ i ys σ H, i < n -> Pv i ys σ H -> g (.int i) σ H fun σ2 H2 => tt σ2 H2 fun b H3 => if b = true then te σ2 H3 fun y H4 => Pv (i + 1) (ys ++ [y]) σ2 H4 else Pv (i + 1) ys σ2 H3)
  (hd : ∀ ys σ H, Pv n ys σ H -> Fin ys H) : ∃ W : Nat -> Nat -> List V -> St -> Hp -> Prop, (∃ m, W 0 m [] σ H) /\ CompTurns (Itr 0 n) g tt te Fin W := by
 refine ⟨fun i m ys σ H => m = n - i /\ i <= n /\ Pv i ys σ H, ⟨_, rfl, Nat.zero_le _, h0⟩, ?_⟩
 rintro i m ys σ H ⟨rfl, hi, p⟩
 have few := hz i ys σ H hi p
 by_cases lt : i < n
 ·refine .inr ⟨lt, by omega, Pv (i + 1), fun ys' σ' H' p' => ⟨_, by omega, rfl, lt, p'⟩, fun v H' y => ?_⟩
  obtain ⟨e, y⟩ := y
  rw [Int.zero_add] at y
  subst e y
  exact hs i ys σ _ lt p
 ·obtain rfl : i = n := by omega
  exact .inl ⟨Nat.le_refl _, by omega, hd ys σ H p⟩
theorem comp_range0 {n : Nat} {g : TG} {te : TE} {Fin : List V -> Hp -> Prop} {σ : St} {H : Hp} (Pv : Nat -> List V -> St -> Hp -> Prop) (h0 : Pv 0 [] σ H) (hz : ∀ i ys σ H, i <= n -> Pv i ys σ H -> ys.length <= i) (hx : n <= sizeLine)
  (hs : ∀ i ys σ H, i < n -> Pv i ys σ H -> g (.int i) σ H fun σ2 H2 => te σ2 H2 fun y H4 => Pv (i + 1) (ys ++ [y]) σ2 H4)
  (hd : ∀ ys σ H, Pv n ys σ H -> Fin ys H) : ∃ W : Nat -> Nat -> List V -> St -> Hp -> Prop, (∃ m, W 0 m [] σ H) /\ CompTurns (Itr 0 n) g tYes te Fin W :=
 comp_range Pv h0 hz hx (fun i ys σ H lt p => by
  rw [yes_eq (N' := fun _ _ _ => True)]
  exact hs i ys σ H lt p) hd
theorem comp_list0 {K : PySem.W.Frag} {a : Addr} {xs : List V} {g : TG} {te : TE} {Fin : List V -> Hp -> Prop} {σ : St} {H : Hp} (Pv : Nat -> List V -> St -> Hp -> Prop) (h0 : Pv 0 [] σ H) (hz : ∀ i ys σ H, i <= xs.length -> Pv i ys σ H -> ys.length <= i) (hx : xs.length <= sizeLine) (hl : ∀ i ys σ H, Pv i ys σ H -> SqL K H a xs)
  (hs : ∀ i x ys σ H, xs[i]? = some x -> Pv i ys σ H -> g x σ H fun σ2 H2 => te σ2 H2 fun y H4 => Pv (i + 1) (ys ++ [y]) σ2 H4)
  (hd : ∀ ys σ H, Pv xs.length ys σ H -> Fin ys H) : ∃ W : Nat -> Nat -> List V -> St -> Hp -> Prop, (∃ m, W 0 m [] σ H) /\ CompTurns (Itl K a) g tYes te Fin W :=
 comp_list Pv h0 hz hx hl (fun i x ys σ H hx p => by
  rw [yes_eq (N' := fun _ _ _ => True)]
  exact hs i x ys σ H hx p) hd
end L2
namespace Tr
open PySem PySem.Spec PyProof.Rows L2
inductive RSs (H : Hp) : List V -> List (Str × Int) -> Prop
 | nil : RSs H [] []
 | cons {p : Addr} {vs : List V} {q : Str} {n : Int} {ss : List (Str × Int)} : H p = some (.tup [.str q, .int n]) -> RSs H vs ss -> RSs H (.ref p :: vs) ((q, n) :: ss)
theorem RSs.same {H H' : Hp} (e : Same H H') : ∀ {vs : List V} {ss : List (Str × Int)}, RSs H vs ss -> RSs H' vs ss
 | _, _, .nil => .nil
 | _, _, .cons h r => .cons (e _ _ h) (RSs.same e r)
theorem RSs.snoc {H : Hp} {p : Addr} {q : Str} {n : Int} (h : H p = some (.tup [.str q, .int n])) : ∀ {vs : List V} {ss : List (Str × Int)}, RSs H vs ss -> RSs H (vs ++ [.ref p]) (ss ++ [(q, n)])
 | _, _, .nil => .cons h .nil
 | _, _, .cons h' r => .cons h' (RSs.snoc h r)
theorem RSs.len {H : Hp} : ∀ {vs : List V} {ss : List (Str × Int)}, RSs H vs ss -> vs.length = ss.length
 | _, _, .nil => rfl
 | _, _, .cons _ r => congrArg (· + 1) (RSs.len r)
theorem RSs.at {H : Hp} : ∀ {vs : List V} {ss : List (Str × Int)}, RSs H vs ss -> ∀ (i : Nat) (v : V), vs[i]? = some v -> ∃ p q n, v = .ref p /\ ss[i]? = some (q, n) /\ H p = some (.tup [.str q, .int n])
 | _, _, .nil, i, v, h => by simp at h
 | _, _, .cons (p := p) (q := q) (n := n) h' r, 0, v, h => by
  simp at h
  exact ⟨p, q, n, h.symm, rfl, h'⟩
 | _, _, .cons h' r, i + 1, v, h => RSs.at r i v (by simpa using h)
def storeD (s : Str × Int) : PyData := .tuple [.str s.1, .int s.2]
theorem RSs.dt {K : PySem.W.Frag} {H : Hp} : ∀ {vs : List V} {ss : List (Str × Int)}, RSs H vs ss -> DtAll K H vs (ss.map storeD)
 | _, _, .nil => .nil
 | _, _, .cons h r => .cons (.tup (SqT.of h) (.cons (.str _) (.cons (.int _) .nil))) (RSs.dt r)
theorem strs_dt {K : PySem.W.Frag} {H : Hp} : ∀ xs : List Str, DtAll K H (xs.map V.str) (xs.map PyData.str)
 | [] => .nil
 | x :: r => .cons (.str x) (strs_dt r)
def progD (asks : List Str) (ss : List (Str × Int)) (ds : List Deed) : PyData := .tuple [.list (asks.map PyData.str), .list (ss.map storeD), .list (datas ds)]
theorem lay_strs : ∀ xs : List Str, (∀ s ∈ xs, PyData.strOk s = true) -> PyData.canLayAll0 (xs.map PyData.str) = true /\ PyData.depthAll (xs.map PyData.str) <= 1
 | [], _ => by simp [PyData.canLayAll0, PyData.depthAll]
 | x :: r, h => by
  have h1 := h x List.mem_cons_self
  have h2 := lay_strs r fun s hs => h s (List.mem_cons_of_mem _ hs)
  simp [PyData.canLayAll0, PyData.canLay0, PyData.depthAll, PyData.depth, h1, h2]
theorem lay_stores : ∀ ss : List (Str × Int), (∀ s ∈ ss, PyData.strOk s.1 = true) -> PyData.canLayAll0 (ss.map storeD) = true /\ PyData.depthAll (ss.map storeD) <= 2
 | [], _ => by simp [PyData.canLayAll0, PyData.depthAll]
 | x :: r, h => by
  have h1 := h x List.mem_cons_self
  have h2 := lay_stores r fun s hs => h s (List.mem_cons_of_mem _ hs)
  simp [storeD, PyData.canLayAll0, PyData.canLay0, PyData.depthAll, PyData.depth, h1]
  exact ⟨h2.1, by have := h2.2; omega⟩
theorem shaped_prog {D : List Str} {asks : List Str} {ss : List (Str × Int)} {ds : List Deed} (hD : ∀ s ∈ D, PyData.strOk s = true) (ha : ∀ s ∈ asks, PyData.strOk s = true) (hs : ∀ s ∈ ss, PyData.strOk s.1 = true) (h : Texts D ds) (hd : depths ds <= 12) : SeqAt.shaped (progD asks ss ds) = true := by
 have h1 := lay_deeds hD ds h
 have h2 := depth_deeds ds
 obtain ⟨h3, h4⟩ := lay_strs asks ha
 obtain ⟨h5, h6⟩ := lay_stores ss hs
 unfold SeqAt.shaped progD
 simp [PyData.canLay0, PyData.canLayAll0, PyData.depth, PyData.depthAll, h1, h3, h5]
 omega
structure RP (H : Hp) (p : Addr) (asks : List Str) (ss : List (Str × Int)) (ds : List Deed) (la ls lb : Addr) (us : List V) : Prop where
 top : H p = some (.tup [.ref la, .ref ls, .ref lb])
 as : H la = some (.lst (asks.map V.str))
 st : H ls = some (.lst us)
 ro : RSs H us ss
 bo : RL H lb ds
theorem RP.same {H H' : Hp} {p : Addr} {asks : List Str} {ss : List (Str × Int)} {ds : List Deed} {la ls lb : Addr} {us : List V} (e : Same H H') (h : RP H p asks ss ds la ls lb us) : RP H' p asks ss ds la ls lb us :=
 ⟨e _ _ h.top, e _ _ h.as, e _ _ h.st, h.ro.same e, RL.same e h.bo⟩
def progCards (asks : List Str) (ss : List (Str × Int)) (ds : List Deed) : List Str := asks ++ cards ds ++ [(">" : Str)] ++ ss.flatMap fun s => [s.1 ++ (">" : Str), s.1 ++ ("<" : Str)]
def asksUp (ws : List Str) (t : Int) : Nat -> List Str
 | 0 => []
 | i + 1 => asksUp ws t i ++ (if mixed t ((i : Int) + 10) % 2 = 1 then [ws.getD i (">" : Str)] else [])
theorem asksUp_len (ws : List Str) (t : Int) : ∀ i, (asksUp ws t i).length <= i
 | 0 => Nat.le_refl _
 | i + 1 => by
  have := asksUp_len ws t i
  rw [asksUp]
  split <;> simp <;> omega
theorem asksUp_mem {ws : List Str} {t : Int} : ∀ {i : Nat}, i <= ws.length -> ∀ x ∈ asksUp ws t i, x ∈ ws
 | 0, _, x, h => by simp [asksUp] at h
 | i + 1, hi, x, h => by
  rw [asksUp, List.mem_append] at h
  rcases h with h | h
  ·exact asksUp_mem (by omega) x h
  ·split at h
   ·rw [List.mem_singleton] at h
    subst h
    rw [List.getD_eq_getElem?_getD, List.getElem?_eq_getElem (by omega)]
    exact List.getElem_mem _
   ·simp at h
theorem allTexts_sub {a b r : List Str} (h : ∀ x ∈ a, x ∈ b) : ∀ x ∈ allTexts a r, x ∈ allTexts b r := fun x hx => by
 unfold allTexts at *
 simp only [List.mem_append] at *
 rcases hx with (hx | hx) | hx
 ·exact .inl (.inl (h x hx))
 ·exact .inl (.inr hx)
 ·exact .inr hx
theorem allCards_sub {a b r : List Str} (h : ∀ x ∈ a, x ∈ b) : ∀ x ∈ allCards a r, x ∈ allCards b r := fun x hx => by
 unfold allCards at *
 simp only [List.mem_append] at *
 rcases hx with ((hx | hx) | hx) | hx
 ·exact .inl (.inl (.inl (h x hx)))
 ·exact .inl (.inl (.inr hx))
 ·exact .inl (.inr hx)
 ·exact .inr hx
theorem prog_cards_in {ws rs : List Str} {asks : List Str} {ss : List (Str × Int)} {ds : List Deed} (ha : ∀ x ∈ asks, x ∈ ws) (hs : ∀ s ∈ ss, s.1 ∈ rs) (hd : ∀ x ∈ cards ds, x ∈ allCards ws rs) : ∀ x ∈ progCards asks ss ds, x ∈ allCards ws rs := fun x hx => by
 unfold progCards at hx
 simp only [List.mem_append, List.mem_flatMap] at hx
 rcases hx with ((hx | hx) | hx) | ⟨s, hs', hx⟩
 ·unfold allCards; simp only [List.mem_append]; exact .inl (.inl (.inl (ha x hx)))
 ·exact hd x hx
 ·unfold allCards; simp only [List.mem_append]; exact .inr hx
 ·simp only [List.mem_cons, List.not_mem_nil, or_false] at hx
  unfold allCards
  simp only [List.mem_append, List.mem_map]
  rcases hx with rfl | rfl
  ·exact .inl (.inl (.inr ⟨_, hs s hs', rfl⟩))
  ·exact .inl (.inr ⟨_, hs s hs', rfl⟩)
theorem at_str {ws : List Str} {i : Nat} (h : i < ws.length) : atI (ws.map V.str) (i : Int) = some (.str (ws.getD i (">" : Str))) :=
 atI_nat (by rw [List.getElem?_map, List.getD_eq_getElem?_getD, List.getElem?_eq_getElem h]; rfl)
theorem cut_last (ws : List Str) (h : 0 < ws.length) : cutV (ws.map V.str) none (some (-1)) = ws.dropLast.map V.str := by
 unfold cutV
 have e1 : HT.sIx (ws.map V.str).length 0 none = 0 := rfl
 have e2 : HT.sIx (ws.map V.str).length (ws.map V.str).length (some (-1)) = ws.length - 1 := by
  rw [List.length_map]
  show (if (-1 : Int) < 0 then ((-1 : Int) + (ws.length : Int)).toNat else min (-1 : Int).toNat ws.length) = _
  rw [if_pos (by decide)]
  omega
 rw [e1, e2, List.drop_zero, Nat.sub_zero, <- List.map_take, List.dropLast_eq_take]
end Tr
namespace L2
open PySem
section
variable {P : Program} {w : World} {A : Around} {E : Value -> Shared -> Prop} {s : Shared}
end
end L2
namespace L2
open PySem
section
variable {P : Program} {w : World} {A : Around} {E : Value -> Shared -> Prop} {s : Shared}
set_option maxHeartbeats 3200000 in
end
end L2
namespace L2
open PySem PySem.Spec PyProof.Rows
section
variable {X : Cx}
end
end L2
namespace L2
open PySem PySem.Spec PyProof.Rows
section
variable {X : Cx}
theorem call_sortedL (hc : X.calm = true) : CallR X (.builtin "sorted") (fun xs H Q => ∃ (p : Addr) (ys : List Str), xs = [.ref p] /\ SqL X.K H p (ys.map V.str) /\ ys.length < 64 /\
  ∀ l zs, H l = none -> zs.Perm ys -> sortedS zs = true -> Q (.ref l) (upd H l (.lst (zs.map V.str)))) := by
 intro pins s σ H xs us Q I r h
 obtain ⟨p, ys, rfl, hq, hz, q⟩ := h
 obtain ⟨u, rfl, rx⟩ := vals1 r
 cases rx
 obtain ⟨its, r', pl, _⟩ := I.list hq
 have hlen := r'.length
 rw [List.length_map] at hlen
 refine sorted_strs (vs := its) pl.isList (strs_of r') (by omega) fun out zs hS hp so => ?_
 obtain ⟨n, at1⟩ := sortedAll_at s.heap its out
 have lz : zs.length <= sizeLine := by rw [hp.length_eq]; exact Nat.le_trans (Nat.le_of_lt hz) (by decide)
 have J := I.laid (t' := s.toks) (h' := sortedAll s.heap its out) (a := s.heap.objs.size + 1) (o := .lst (zs.map V.str)) (fun b o q => sortedAll_old q) (Nat.le_succ _) ⟨by rw [List.length_map]; exact lz, out.toList, n, of_strs hS, at1⟩
 exact ⟨.ref (s.heap.objs.size + 1), _, J, rfl, q _ zs (I.hok.fresh (Nat.le_succ _)) hp so⟩
end
end L2
namespace L2
open PySem PySem.Spec PyProof.Rows
def Ite (K : PySem.W.Frag) (l : Addr) : It :=
 ⟨fun i H => ∃ xs x, SqL K H l xs /\ xs[i]? = some x,
  fun i H v H' => ∃ p x, H p = none /\ v = .ref p /\ H' = upd H p (.tup [.int i, x]) /\ ∀ xs, SqL K H l xs -> xs[i]? = some x,
  fun i H => ∃ xs, SqL K H l xs /\ xs.length <= i⟩
theorem turn_enum {P : Program} {w : World} {K : PySem.W.Frag} {elts : List Expr} {kk : Nat} {tp : Pos} (e it l : Addr) (ne : e ≠ it) :
  Turn P w K (.Tuple elts kk tp) (Ite K l) [e, it] e (fun i h => (∃ old, IsEnum h e it i old) /\ h.IsListIter it l i) where
 mem := by simp
 obj := fun i h st b hb => by
  obtain ⟨⟨old, he⟩, o, eo, c, d⟩ := st
  simp only [List.mem_cons, List.not_mem_nil, or_false] at hb
  rcases hb with rfl | rfl
  ·exact ⟨_, he, fun v q => by cases q⟩
  ·exact ⟨o, eo, fun v q => by rw [d] at q; cases q⟩
 keep := fun i h h' st k => by
  obtain ⟨⟨old, he⟩, o, eo, r⟩ := st
  exact ⟨⟨old, k e (by simp) _ he⟩, o, k it (by simp) o eo, r⟩
 item := by
  intro X hP hw hK hc i pins s σ H E I hf st hg
  subst hP hw hK
  obtain ⟨⟨old, he⟩, hit⟩ := st
  obtain ⟨xs, x, hx, ex⟩ := hg
  obtain ⟨its, rv, pl, z1⟩ := I.list hx
  obtain ⟨u, hu, ru⟩ := rv.get ex
  refine wpAny_pyNext_enum_item he hit pl.isList (x := u) (by simpa using hu) ne fun g a1 a2 a3 a4 a5 => ⟨_, rfl, ?_⟩
  refine wpAny_letOwnedTupleGo_enum a1 fun g' a1' sb => ?_
  have hT : ∀ b ∈ [e, it], s.heap.objs.size ≠ b := fun b hb => by
   simp only [List.mem_cons, List.not_mem_nil, or_false] at hb
   rcases hb with rfl | rfl
   ·exact Nat.ne_of_gt (Heap.lt_size he)
   ·obtain ⟨o, eo, _⟩ := hit
    exact Nat.ne_of_gt (Heap.lt_size eo)
  have ky : ∀ b o, b ∉ [e, it] -> s.heap.get? b = some o -> g'.get? b = some o := fun b o hb q => by
   simp only [List.mem_cons, List.not_mem_nil, or_false, not_or] at hb
   exact sb.extBut _ _ hb.1 (a5 b o hb.1 hb.2 q)
  have I1 : Inv X pins σ H { s with heap := g', toks := s.toks + 1 } := I.turnedL (t' := s.toks + 1) ky hf
  have pT := sb.extBut _ _ (hT e (by simp)) a3
  have fT : FpOk X pins H s.heap.objs.size := I.fpOk (Nat.le_refl _) (I.hok.fresh (Nat.le_refl _))
  have I2 : Inv X pins σ (upd H s.heap.objs.size (.tup [.int i, x])) { s with heap := g', toks := s.toks + 1 } := I1.track fT I.sz ⟨by show 2 <= sizeLine; decide, [.int i s.toks, u], .cons ⟨_, rfl⟩ (.cons ru .nil), ⟨_, pT, rfl, _, rfl⟩⟩
  refine ⟨.ref s.heap.objs.size, _, I2, rfl, ⟨_, x, I.hok.fresh (Nat.le_refl _), rfl, rfl, fun xs' h => by rw [I.list_inj h hx]; exact ex⟩, ⟨⟨u, a1'⟩, ?_⟩, fun b hb => ?_⟩
  ·obtain ⟨o, eo, r⟩ := a2
   exact ⟨o, sb.extBut _ _ (Ne.symm ne) eo, r⟩
  ·rw [upd_ne (Ne.symm (hT b hb))]
   exact (hf b hb).1
 done := by
  intro X hP hw hK hc i pins s σ H E I hf st hg
  subst hP hw hK
  obtain ⟨⟨old, he⟩, hit⟩ := st
  obtain ⟨xs, hx, hend⟩ := hg
  obtain ⟨its, rv, pl, z1⟩ := I.list hx
  have e1 := rv.length
  refine wpAny_pyNext_enum_end (I.ok.hd hc) he hit pl.isList (by simp; omega) fun g k => ⟨rfl, I.turnedL (t' := s.toks) (ch := [e, it]) (fun b o hb q => ?_) hf⟩
  simp only [List.mem_cons, List.not_mem_nil, or_false, not_or] at hb
  exact k b o hb.2 q
 self := fun _ _ _ _ _ st h => by
  obtain ⟨⟨old, he⟩, _⟩ := st
  exact wpAny_pyIter_enum he h
section
variable {X : Cx}
def iEnum (K : PySem.W.Frag) (ta : TA) : TI := fun σ H R => ta σ H fun vs H1 => ∃ l xs, vs = [.ref l] /\ SqL K H1 l xs /\ R (Ite K l) H1
theorem pi_enum {a : Expr} {ta : TA} {p pos tp : Pos} {elts : List Expr} {kk : Nat} (hg : Gl X "enumerate") (hm : X.mg "enumerate" = none) (ha : PA X [a] ta) (hs : starEach [a] X.env = [(false, eval a X.env)] := by rfl) :
  PI X (.Tuple elts kk tp) (.Call (.Name "enumerate" p) [a] [] pos) (iEnum X.K ta) := by
 intro pins s σ H R I h
 refine Call_ (ld_blt I hg hm PyProof.Rows.Boot.«enumerate» (PyProof.Rows.callWith_type1 (thn (ha pos pins s σ H _ I h) fun us s1 ⟨vs, H1, I1, r1, q1⟩ => ?_) (by rw [hs]; rfl) (by rfl)))
 obtain ⟨l, xs, rfl, hx, q⟩ := q1
 obtain ⟨u, rfl, ru⟩ := vals1 r1
 cases ru
 obtain ⟨its, rv, pl, z1⟩ := I1.list hx
 refine call_enumerate_list pl.isList fun g a1 a2 a3 k => ?_
 refine wpAny_pyIter_enum a1 ⟨s1.heap.objs.size + 1, [s1.heap.objs.size + 1, s1.heap.objs.size], _, _, H1, rfl, I1.kept (t' := s1.toks) k, turn_enum _ _ l (Nat.succ_ne_self _), ⟨⟨_, a1⟩, a2⟩, fun b hb => ?_, q⟩
 simp only [List.mem_cons, List.not_mem_nil, or_false] at hb
 rcases hb with rfl | rfl
 ·exact I1.fpOk (Nat.le_succ _) (I1.hok.fresh (Nat.le_succ _))
 ·exact I1.fpOk (Nat.le_refl _) (I1.hok.fresh (Nat.le_refl _))
end
theorem for_enum {K : PySem.W.Frag} {l : Addr} {xs : List V} {g : TG} {tb : TS} {D : Ends} {σ : St} {H : Hp} (Pv : Nat -> St -> Hp -> Prop) (h0 : Pv 0 σ H) (hl : ∀ i σ H, Pv i σ H -> SqL K H l xs)
  (hs : ∀ i x σ H p, xs[i]? = some x -> Pv i σ H -> H p = none -> g (.ref p) σ (upd H p (.tup [.int i, x])) fun σ2 H2 => tb { D with nx := Pv (i + 1), ct := Pv (i + 1), bk := D.nx } σ2 H2)
  (hd : ∀ σ H, Pv xs.length σ H -> D.nx σ H) :
  ∃ W : Nat -> Nat -> St -> Hp -> Prop, (∃ m, W 0 m σ H) /\ ∀ i m σ H, W i m σ H ->
   ((Ite K l).stop i H /\ D.nx σ H) \/ ((Ite K l).go i H /\ ∃ N : St -> Hp -> Prop, (∀ σ' H', N σ' H' -> ∃ m', m' < m /\ W (i + 1) m' σ' H') /\ ∀ x H', (Ite K l).yld i H x H' -> g x σ H' fun σ2 H2 => tb { D with nx := N, ct := N, bk := D.nx } σ2 H2) := by
 refine ⟨fun i m σ H => m = xs.length - i /\ i <= xs.length /\ Pv i σ H, ⟨_, rfl, Nat.zero_le _, h0⟩, ?_⟩
 rintro i m σ H ⟨rfl, hi, p⟩
 have q := hl i σ H p
 by_cases lt : i < xs.length
 ·refine .inr ⟨⟨xs, xs[i], q, by simp [lt]⟩, Pv (i + 1), fun σ' H' p' => ⟨_, by omega, rfl, lt, p'⟩, fun v H' y => ?_⟩
  obtain ⟨a, x, hn, rfl, rfl, e1⟩ := y
  exact hs i x σ H a (e1 xs q) p hn
 ·obtain rfl : i = xs.length := by omega
  exact .inl ⟨⟨xs, q, Nat.le_refl _⟩, hd σ H p⟩
end L2
namespace L2
theorem Room.one {n : Nat} {A : PySem.Around} (h : Room n A) : A.units + 1 < PySem.cLine := by
 have := h.units
 omega
end L2
namespace Tr
open PySem PySem.Spec PyProof.Rows L2
theorem sorted_perm : ∀ {a b : List Str}, a.Perm b -> sortedS a = true -> sortedS b = true -> a = b
 | [], b, h, _, _ => (List.nil_perm.mp h).symm
 | x :: r, [], h, _, _ => absurd h.length_eq (by simp)
 | x :: r, y :: s, h, sa, sb => by
  have e : x = y := by
   rcases List.mem_cons.mp (h.mem_iff.mp (List.mem_cons_self (a := x))) with e | hx
   ·exact e
   rcases List.mem_cons.mp (h.mem_iff.mpr (List.mem_cons_self (a := y))) with e | hy
   ·exact e.symm
   exact str_of_list (List.le_antisymm (rising_le r x sa y hy) (rising_le s y sb x hx))
  subst e
  rw [sorted_perm ((List.perm_cons x).mp h) (rising_tail sa) (rising_tail sb)]
noncomputable def srt (l : List Str) : List Str := by
 classical
 exact if h : ∃ zs : List Str, zs.Nodup /\ (∀ k, k ∈ zs ↔ k ∈ l) /\ sortedS zs = true then Classical.choose h else []
theorem srt_eq {l zs : List Str} (nd : zs.Nodup) (hm : ∀ k, k ∈ zs ↔ k ∈ l) (so : sortedS zs = true) : zs = srt l := by
 have h : ∃ zs : List Str, zs.Nodup /\ (∀ k, k ∈ zs ↔ k ∈ l) /\ sortedS zs = true := ⟨zs, nd, hm, so⟩
 unfold srt
 rw [dif_pos h]
 obtain ⟨a, b, c⟩ := Classical.choose_spec h
 exact sorted_one nd a so c fun k => (hm k).trans (b k).symm
noncomputable def srtP (l : List Str) : List Str := by
 classical
 exact if h : ∃ zs : List Str, zs.Perm l /\ sortedS zs = true then Classical.choose h else []
theorem srtP_eq {l zs : List Str} (hp : zs.Perm l) (so : sortedS zs = true) : zs = srtP l := by
 have h : ∃ zs : List Str, zs.Perm l /\ sortedS zs = true := ⟨zs, hp, so⟩
 unfold srtP
 rw [dif_pos h]
 obtain ⟨a, b⟩ := Classical.choose_spec h
 exact sorted_perm (hp.trans a.symm) so b
structure Row where
 kind : Str
 owns : List Str
 reads : List Str
 into : Option Str
 outof : Option Str
def optV : Option Str -> V
 | none => .non
 | some q => .str q
def RRow (H : Hp) (v : V) (r : Row) : Prop := ∃ p po pr, v = .ref p /\ H p = some (.tup [.str r.kind, .ref po, .ref pr, optV r.into, optV r.outof]) /\ H po = some (.tup (r.owns.map V.str)) /\ H pr = some (.tup (r.reads.map V.str))
theorem RRow.same {H H' : Hp} {v : V} {r : Row} (e : Same H H') (h : RRow H v r) : RRow H' v r := by
 obtain ⟨p, po, pr, rfl, h1, h2, h3⟩ := h
 exact ⟨p, po, pr, rfl, e _ _ h1, e _ _ h2, e _ _ h3⟩
inductive RRows (H : Hp) : List V -> List Row -> Prop
 | nil : RRows H [] []
 | cons {v : V} {vs : List V} {r : Row} {rs : List Row} : RRow H v r -> RRows H vs rs -> RRows H (v :: vs) (r :: rs)
theorem RRows.same {H H' : Hp} (e : Same H H') : ∀ {vs : List V} {rs : List Row}, RRows H vs rs -> RRows H' vs rs
 | _, _, .nil => .nil
 | _, _, .cons h r => .cons (h.same e) (RRows.same e r)
theorem RRows.snoc {H : Hp} {v : V} {r : Row} (h : RRow H v r) : ∀ {vs : List V} {rs : List Row}, RRows H vs rs -> RRows H (vs ++ [v]) (rs ++ [r])
 | _, _, .nil => .cons h .nil
 | _, _, .cons h' t => .cons h' (RRows.snoc h t)
theorem RRows.len {H : Hp} : ∀ {vs : List V} {rs : List Row}, RRows H vs rs -> vs.length = rs.length
 | _, _, .nil => rfl
 | _, _, .cons _ t => congrArg (· + 1) (RRows.len t)
theorem RRows.at {H : Hp} : ∀ {vs : List V} {rs : List Row}, RRows H vs rs -> ∀ (i : Nat) (v : V), vs[i]? = some v -> ∃ r, rs[i]? = some r /\ RRow H v r
 | _, _, .nil, i, v, h => by simp at h
 | _, _, .cons (r := r) h' t, 0, v, h => by
  simp at h
  subst h
  exact ⟨r, rfl, h'⟩
 | _, _, .cons h' t, i + 1, v, h => RRows.at t i v (by simpa using h)
noncomputable def rowV : Deed -> Row
 | .set x a sg b => ⟨"set", [x], srt ((a.names ++ b.names).filter fun y => !decide (y = x)), none, none⟩
 | .put q x => ⟨"put", [q ++ (">" : Str)], [x], some q, none⟩
 | .get q x => ⟨"get", srtP [x, q ++ ("<" : Str)], [], none, some q⟩
 | .give x => ⟨"give", [(">" : Str)], [x], none, none⟩
 | .cond x t o => ⟨"if", srt (cards [.cond x t o]), [], none, none⟩
 | .whl x b => ⟨"while", srt (cards [.whl x b]), [], none, none⟩
 | .rep n b => ⟨"repeat", srt (cards [.rep n b]), [], none, none⟩
theorem RRow.new {H : Hp} {p po pr : Addr} {r : Row} (h1 : H po = some (.tup (r.owns.map V.str))) (h2 : H pr = some (.tup (r.reads.map V.str))) (hp : H p = none) : RRow (upd H p (.tup [.str r.kind, .ref po, .ref pr, optV r.into, optV r.outof])) (.ref p) r :=
 ⟨p, po, pr, rfl, upd_same, Same.new hp _ _ _ h1, Same.new hp _ _ _ h2⟩
end Tr
namespace Tr
open PySem PySem.Spec PyProof.Rows L2
def bal (rs : List Row) (q : Str) : Int := ((rs.filter fun r => decide (r.into = some q)).length : Int) - ((rs.filter fun r => decide (r.outof = some q)).length : Int)
theorem bal_snoc (rs : List Row) (r : Row) (q : Str) : bal (rs ++ [r]) q = bal rs q + (if r.into = some q then 1 else 0) - (if r.outof = some q then 1 else 0) := by
 unfold bal
 rw [List.filter_append, List.filter_append, List.length_append, List.length_append]
 by_cases h1 : r.into = some q <;> by_cases h2 : r.outof = some q <;> simp [h1, h2] <;> omega
def Fed (rs : List Row) : Prop := ∀ i r q, rs[i]? = some r -> r.outof = some q -> 0 < bal (rs.take i) q
def OneWay (r : Row) : Prop := r.into = none \/ r.outof = none
end Tr
namespace Tr
open PySem PySem.Spec PyProof.Rows L2
def NoRep (ds : List Deed) : Prop := ∀ d ∈ ds, ∀ n b, d ≠ .rep n b
noncomputable def endRow (asks : List Str) (ss : List (Str × Int)) (ds : List Deed) : Row := ⟨"end", srt (progCards asks ss ds), [], none, none⟩
theorem row_one (d : Deed) : OneWay (rowV d) := by
 cases d <;> simp [OneWay, rowV]
theorem Fed.snoc {rs : List Row} {r : Row} (h : Fed rs) (hr : r.outof = none) : Fed (rs ++ [r]) := fun i r' q hi ho => by
 by_cases lt : i < rs.length
 ·rw [List.getElem?_append_left lt] at hi
  rw [List.take_append_of_le_length (Nat.le_of_lt lt)]
  exact h i r' q hi ho
 ·rw [List.getElem?_append_right (Nat.not_lt.mp lt)] at hi
  have : r' = r := by
   cases e : i - rs.length with
   | zero => rw [e] at hi; exact (Option.some.inj hi).symm
   | succ n => rw [e] at hi; simp at hi
  rw [this, hr] at ho
  cases ho
theorem RRow.off {H : Hp} {c : Addr} {xs : List V} {o : HO} {v : V} {r : Row} (hc : H c = some (.lst xs)) (h : RRow H v r) : RRow (upd H c o) v r := by
 obtain ⟨p, po, pr, rfl, h1, h2, h3⟩ := h
 have ne : ∀ b ys, H b = some (.tup ys) -> b ≠ c := fun b ys q z => by rw [z, hc] at q; cases q
 exact ⟨p, po, pr, rfl, by rw [upd_ne (ne _ _ h1)]; exact h1, by rw [upd_ne (ne _ _ h2)]; exact h2, by rw [upd_ne (ne _ _ h3)]; exact h3⟩
theorem RRows.off {H : Hp} {c : Addr} {xs : List V} {o : HO} (hc : H c = some (.lst xs)) : ∀ {vs : List V} {rs : List Row}, RRows H vs rs -> RRows (upd H c o) vs rs
 | _, _, .nil => .nil
 | _, _, .cons h r => .cons (h.off hc) (RRows.off hc r)
theorem depth_one : ∀ {ds : List Deed} {i : Nat} {d : Deed}, ds[i]? = some d -> d.depth <= depths ds
 | [], _, _, h => by simp at h
 | e :: r, 0, d, h => by
  simp at h
  subst h
  rw [depths]
  exact Nat.le_max_left _ _
 | e :: r, i + 1, d, h => by
  have := depth_one (ds := r) (i := i) (by simpa using h)
  rw [depths]
  omega
theorem flat_one {ds : List Deed} {i : Nat} {d : Deed} (h : ds[i]? = some d) : d.flat.length <= (flats ds).length /\ ∀ e ∈ d.flat, e ∈ flats ds := by
 have sp : ds = ds.take i ++ ([d] ++ ds.drop (i + 1)) := by
  rw [<- List.append_assoc, show ds.take i ++ [d] = ds.take (i + 1) by rw [List.take_add_one, h]; rfl, List.take_append_drop]
 have e : flats ds = flats (ds.take i) ++ (d.flat ++ flats (ds.drop (i + 1))) := by
  conv => lhs; rw [sp]
  rw [flats_append, flats_append, flats, flats, List.append_nil]
 rw [e]
 refine ⟨by simp only [List.length_append]; omega, fun x hx => by simp [hx]⟩
theorem cards_here {ds : List Deed} {i : Nat} {d : Deed} (h : ds[i]? = some d) : ∀ q ∈ cards [d], q ∈ cards ds := fun q hq => by
 unfold cards at *
 rw [flats, flats, List.append_nil] at hq
 obtain ⟨e, he, hq⟩ := List.mem_flatMap.mp hq
 exact List.mem_flatMap.mpr ⟨e, (flat_one h).2 e he, hq⟩
end Tr
namespace Tr
open PySem PySem.Spec PyProof.Rows L2
def textsBut (x : Str) : List V -> List Str
 | [] => []
 | .str y :: r => if y = x then textsBut x r else y :: textsBut x r
 | _ :: r => textsBut x r
theorem textsBut_append (x : Str) : ∀ a b : List V, textsBut x (a ++ b) = textsBut x a ++ textsBut x b
 | [], b => rfl
 | .str y :: a, b => by
  simp only [List.cons_append, textsBut, textsBut_append x a b]
  split <;> simp
 | .int n :: a, b => by simp only [List.cons_append, textsBut, textsBut_append x a b]
 | .non :: a, b => by simp only [List.cons_append, textsBut, textsBut_append x a b]
 | .bl n :: a, b => by simp only [List.cons_append, textsBut, textsBut_append x a b]
 | .ref n :: a, b => by simp only [List.cons_append, textsBut, textsBut_append x a b]
 | .ty n :: a, b => by simp only [List.cons_append, textsBut, textsBut_append x a b]
 | .byt n :: a, b => by simp only [List.cons_append, textsBut, textsBut_append x a b]
 | .flt n :: a, b => by simp only [List.cons_append, textsBut, textsBut_append x a b]
theorem textsBut_len (x : Str) : ∀ a : List V, (textsBut x a).length <= a.length
 | [] => Nat.le_refl _
 | .str y :: a => by
  have := textsBut_len x a
  simp only [textsBut]
  split <;> simp <;> omega
 | .int n :: a => Nat.le_succ_of_le (textsBut_len x a)
 | .non :: a => Nat.le_succ_of_le (textsBut_len x a)
 | .bl n :: a => Nat.le_succ_of_le (textsBut_len x a)
 | .ref n :: a => Nat.le_succ_of_le (textsBut_len x a)
 | .ty n :: a => Nat.le_succ_of_le (textsBut_len x a)
 | .byt n :: a => Nat.le_succ_of_le (textsBut_len x a)
 | .flt n :: a => Nat.le_succ_of_le (textsBut_len x a)
theorem textsBut_vals (x : Str) (a b : Val) : textsBut x [a.v, b.v] = (a.names ++ b.names).filter fun y => !decide (y = x) := by
 cases a with
 | num n =>
  cases b with
  | num m => rfl
  | nm y => by_cases h : y = x <;> simp [textsBut, Val.v, Val.names, h]
 | nm z =>
  cases b with
  | num m => by_cases h : z = x <;> simp [textsBut, Val.v, Val.names, h]
  | nm y => by_cases h : y = x <;> by_cases h' : z = x <;> simp [textsBut, Val.v, Val.names, h, h']
end Tr
namespace L2
open PySem PySem.Spec PyProof.Rows
theorem ix_any {X : Cx} : IxR X (fun x y H Q => rIxL X.K x y H Q \/ rIxT X.K x y H Q) := by
 intro value slice pins s σ H x y v u Q I rx ry h hs
 rcases h with h | h
 ·exact ix_list value slice pins s σ H x y v u Q I rx ry h hs
 ·exact ix_tup value slice pins s σ H x y v u Q I rx ry h hs
inductive Al (H : Hp) : Nat -> V -> V -> Prop
 | non (n : Nat) : Al H n .non .non
 | str (n : Nat) (x : Str) : Al H n (.str x) (.str x)
 | int (n : Nat) (i : Int) : Al H n (.int i) (.int i)
 | lst {n : Nat} {a b : Addr} {xs ys : List V} : H a = some (.lst xs) -> H b = some (.lst ys) -> xs.length = ys.length -> xs.length <= 10000 -> (∀ (i : Nat) (x y : V), xs[i]? = some x -> ys[i]? = some y -> Al H n x y) -> Al H (n + 1) (.ref a) (.ref b)
 | tup {n : Nat} {a b : Addr} {xs ys : List V} : H a = some (.tup xs) -> H b = some (.tup ys) -> xs.length = ys.length -> xs.length <= 10000 -> (∀ (i : Nat) (x y : V), xs[i]? = some x -> ys[i]? = some y -> Al H n x y) -> Al H (n + 1) (.ref a) (.ref b)
end L2
namespace Tr
open PySem PySem.Spec PyProof.Rows L2
end Tr
namespace Tr
open PySem PySem.Spec PyProof.Rows L2
inductive RMs (H : Hp) : List V -> List (Str × Str) -> Prop
 | nil : RMs H [] []
 | cons {p : Addr} {vs : List V} {m : Str × Str} {ms : List (Str × Str)} : H p = some (.tup [.str m.1, .str m.2]) -> RMs H vs ms -> RMs H (.ref p :: vs) (m :: ms)
theorem RMs.same {H H' : Hp} (e : Same H H') : ∀ {vs : List V} {ms : List (Str × Str)}, RMs H vs ms -> RMs H' vs ms
 | _, _, .nil => .nil
 | _, _, .cons h r => .cons (e _ _ h) (RMs.same e r)
theorem RMs.off {H : Hp} {c : Addr} {xs : List V} {o : HO} (hc : H c = some (.lst xs)) : ∀ {vs : List V} {ms : List (Str × Str)}, RMs H vs ms -> RMs (upd H c o) vs ms
 | _, _, .nil => .nil
 | _, _, .cons (p := p) h r => .cons (by rw [upd_ne (fun z => by rw [z, hc] at h; cases h)]; exact h) (RMs.off hc r)
theorem RMs.snoc {H : Hp} {p : Addr} {m : Str × Str} (h : H p = some (.tup [.str m.1, .str m.2])) : ∀ {vs : List V} {ms : List (Str × Str)}, RMs H vs ms -> RMs H (vs ++ [.ref p]) (ms ++ [m])
 | _, _, .nil => .cons h .nil
 | _, _, .cons h' r => .cons h' (RMs.snoc h r)
theorem RMs.len {H : Hp} : ∀ {vs : List V} {ms : List (Str × Str)}, RMs H vs ms -> vs.length = ms.length
 | _, _, .nil => rfl
 | _, _, .cons _ r => congrArg (· + 1) (RMs.len r)
theorem RMs.at {H : Hp} : ∀ {vs : List V} {ms : List (Str × Str)}, RMs H vs ms -> ∀ (i : Nat) (v : V), vs[i]? = some v -> ∃ p m, v = .ref p /\ ms[i]? = some m /\ H p = some (.tup [.str m.1, .str m.2])
 | _, _, .nil, i, v, h => by simp at h
 | _, _, .cons (p := p) (m := m) h' r, 0, v, h => by
  simp at h
  exact ⟨p, m, h.symm, rfl, h'⟩
 | _, _, .cons h' r, i + 1, v, h => RMs.at r i v (by simpa using h)
def Deed.moves : Deed -> List (Str × Str)
 | .put q _ => [("put", q)]
 | .get q _ => [("get", q)]
 | _ => []
def movesV (ds : List Deed) : List (Str × Str) := ds.flatMap Deed.moves
def reachNow (s : Int × Int × Int) (m : Str × Str) : Int := s.1 + (if m.1 = "put" then 1 else -1)
def reachStep (q : Str) (s : Int × Int × Int) (m : Str × Str) : Int × Int × Int :=
 if m.2 = q then (reachNow s m, if reachNow s m < s.2.1 then reachNow s m else s.2.1, if reachNow s m > s.2.2 then reachNow s m else s.2.2) else s
def reachV (q : Str) (ms : List (Str × Str)) : Int × Int × Int := ms.foldl (reachStep q) (0, 0, 0)
theorem reach_snoc (q : Str) (ms : List (Str × Str)) (m : Str × Str) : reachV q (ms ++ [m]) = reachStep q (reachV q ms) m := by
 unfold reachV
 rw [List.foldl_append]
 rfl
def lengthV (pick peak : Int) : Int := if pick % 4 = 0 then 1 + pick / 4 % 2000 else if pick % 4 = 1 then 1 + pick / 4 % 3 else 1 + pick / 4 % (if peak > 1 then peak else 1)
end Tr
namespace Tr
open PySem PySem.Spec PyProof.Rows L2
theorem reach_bounds (q : Str) : ∀ ms : List (Str × Str), -(ms.length : Int) <= (reachV q ms).2.1 /\ (reachV q ms).2.1 <= 0 /\ (reachV q ms).2.1 <= (reachV q ms).1 /\ (reachV q ms).1 <= (reachV q ms).2.2 /\ (reachV q ms).2.2 <= ms.length := fun ms => by
 have key : ∀ (l : List (Str × Str)) (s : Int × Int × Int) (n : Nat), -(n : Int) <= s.2.1 -> s.2.1 <= 0 -> s.2.1 <= s.1 -> s.1 <= s.2.2 -> s.2.2 <= n ->
   -((n + l.length : Nat) : Int) <= (l.foldl (reachStep q) s).2.1 /\ (l.foldl (reachStep q) s).2.1 <= 0 /\ (l.foldl (reachStep q) s).2.1 <= (l.foldl (reachStep q) s).1 /\ (l.foldl (reachStep q) s).1 <= (l.foldl (reachStep q) s).2.2 /\ (l.foldl (reachStep q) s).2.2 <= ((n + l.length : Nat) : Int) := by
  intro l
  induction l with
  | nil =>
   intro s n a b c d e
   exact ⟨a, b, c, d, e⟩
  | cons m r ih =>
   intro s n a b c d e
   rw [List.foldl_cons, List.length_cons]
   have h : ∀ t : Int × Int × Int, t = reachStep q s m -> -((n + 1 : Nat) : Int) <= t.2.1 /\ t.2.1 <= 0 /\ t.2.1 <= t.1 /\ t.1 <= t.2.2 /\ t.2.2 <= ((n + 1 : Nat) : Int) := by
    intro t ht
    subst ht
    unfold reachStep reachNow
    split
    ·dsimp only
     split <;> split <;> split <;> omega
    ·omega
   obtain ⟨h1, h2, h3, h4, h5⟩ := h _ rfl
   have := ih (reachStep q s m) (n + 1) h1 h2 h3 h4 h5
   rw [show n + 1 + r.length = n + (r.length + 1) by omega] at this
   exact this
 have := key ms (0, 0, 0) 0 (by simp) (by simp) (by simp) (by simp) (by simp)
 rw [Nat.zero_add] at this
 exact this
def lackV (q : Str) (ms : List (Str × Str)) : Nat := (-(reachV q ms).2.1).toNat
def frontUp (rs names : List Str) (ms : List (Str × Str)) : Nat -> List Deed
 | 0 => []
 | i + 1 => frontUp rs names ms i ++ List.replicate (lackV (rs.getD i (">" : Str)) ms) (.put (rs.getD i (">" : Str)) (nth names (i : Int)))
def storesUp18 (rs : List Str) (t : Int) (ms : List (Str × Str)) : Nat -> List (Str × Int)
 | 0 => []
 | i + 1 => storesUp18 rs t ms i ++ [(rs.getD i (">" : Str), lengthV (mixed t ((i : Int) + 1)) ((reachV (rs.getD i (">" : Str)) ms).2.2 - (reachV (rs.getD i (">" : Str)) ms).2.1))]
theorem lack_le (q : Str) (ms : List (Str × Str)) : lackV q ms <= ms.length := by
 have := reach_bounds q ms
 unfold lackV
 omega
theorem frontUp_len (rs names : List Str) (ms : List (Str × Str)) : ∀ i, (frontUp rs names ms i).length <= i * ms.length
 | 0 => by simp [frontUp]
 | i + 1 => by
  have h1 := frontUp_len rs names ms i
  have h2 := lack_le (rs.getD i (">" : Str)) ms
  rw [frontUp, List.length_append, List.length_replicate, Nat.succ_mul]
  omega
theorem storesUp18_len (rs : List Str) (t : Int) (ms : List (Str × Str)) : ∀ i, (storesUp18 rs t ms i).length = i
 | 0 => rfl
 | i + 1 => by rw [storesUp18, List.length_append, storesUp18_len rs t ms i]; rfl
theorem storesUp18_mem {rs : List Str} {t : Int} {ms : List (Str × Str)} : ∀ {i : Nat}, i <= rs.length -> ∀ x ∈ storesUp18 rs t ms i, x.1 ∈ rs
 | 0, _, x, h => by simp [storesUp18] at h
 | i + 1, hi, x, h => by
  rw [storesUp18, List.mem_append] at h
  rcases h with h | h
  ·exact storesUp18_mem (by omega) x h
  ·rw [List.mem_singleton] at h
   subst h
   show rs.getD i _ ∈ rs
   rw [List.getD_eq_getElem?_getD, List.getElem?_eq_getElem (by omega)]
   exact List.getElem_mem _
theorem front_norep (rs names : List Str) (ms : List (Str × Str)) : ∀ i, NoRep (frontUp rs names ms i)
 | 0 => fun d h => by simp [frontUp] at h
 | i + 1 => fun d h => by
  rw [frontUp, List.mem_append] at h
  rcases h with h | h
  ·exact front_norep rs names ms i d h
  ·rw [(List.mem_replicate.mp h).2]
   intro n b z
   cases z
end Tr
namespace Tr
open PySem PySem.Spec PyProof.Rows L2
inductive RPs (H : Hp) : List V -> List (Str × Str) -> Prop
 | nil : RPs H [] []
 | cons {p : Addr} {vs : List V} {m : Str × Str} {ms : List (Str × Str)} : H p = some (.tup [.str "put", .str m.1, .str m.2]) -> RPs H vs ms -> RPs H (.ref p :: vs) (m :: ms)
theorem RPs.same {H H' : Hp} (e : Same H H') : ∀ {vs : List V} {ms : List (Str × Str)}, RPs H vs ms -> RPs H' vs ms
 | _, _, .nil => .nil
 | _, _, .cons h r => .cons (e _ _ h) (RPs.same e r)
theorem RPs.off {H : Hp} {c : Addr} {xs : List V} {o : HO} (hc : H c = some (.lst xs)) : ∀ {vs : List V} {ms : List (Str × Str)}, RPs H vs ms -> RPs (upd H c o) vs ms
 | _, _, .nil => .nil
 | _, _, .cons h r => .cons (by rw [upd_ne (fun z => by rw [z, hc] at h; cases h)]; exact h) (RPs.off hc r)
theorem RPs.app {H : Hp} : ∀ {us vs : List V} {a b : List (Str × Str)}, RPs H us a -> RPs H vs b -> RPs H (us ++ vs) (a ++ b)
 | _, _, _, _, .nil, h => h
 | _, _, _, _, .cons x r, h => .cons x (RPs.app r h)
theorem RPs.rep {H : Hp} {p : Addr} {m : Str × Str} (h : H p = some (.tup [.str "put", .str m.1, .str m.2])) : ∀ n : Nat, RPs H (List.replicate n (.ref p)) (List.replicate n m)
 | 0 => .nil
 | n + 1 => .cons h (RPs.rep h n)
theorem RPs.len {H : Hp} : ∀ {vs : List V} {ms : List (Str × Str)}, RPs H vs ms -> vs.length = ms.length
 | _, _, .nil => rfl
 | _, _, .cons _ r => congrArg (· + 1) (RPs.len r)
theorem RPs.rds {H : Hp} : ∀ {vs : List V} {ms : List (Str × Str)}, RPs H vs ms -> RDs H vs (ms.map fun m => .put m.1 m.2)
 | _, _, .nil => .nil
 | _, _, .cons h r => .cons (.put h) (RPs.rds r)
def frontM (rs names : List Str) (ms : List (Str × Str)) : Nat -> List (Str × Str)
 | 0 => []
 | i + 1 => frontM rs names ms i ++ List.replicate (lackV (rs.getD i (">" : Str)) ms) (rs.getD i (">" : Str), nth names (i : Int))
theorem frontM_eq (rs names : List Str) (ms : List (Str × Str)) : ∀ i, (frontM rs names ms i).map (fun m => Deed.put m.1 m.2) = frontUp rs names ms i
 | 0 => rfl
 | i + 1 => by rw [frontM, frontUp, List.map_append, frontM_eq rs names ms i, List.map_replicate]
theorem RSs.off {H : Hp} {c : Addr} {xs : List V} {o : HO} (hc : H c = some (.lst xs)) : ∀ {vs : List V} {ss : List (Str × Int)}, RSs H vs ss -> RSs (upd H c o) vs ss
 | _, _, .nil => .nil
 | _, _, .cons h r => .cons (by rw [upd_ne (fun z => by rw [z, hc] at h; cases h)]; exact h) (RSs.off hc r)
theorem flat_rep (n : Nat) (v : V) : (List.replicate n [v]).flatten = List.replicate n v := by
 induction n with
 | zero => rfl
 | succ n ih => rw [List.replicate_succ, List.flatten_cons, ih]; rfl
end Tr
namespace Tr
open PySem PySem.Spec PyProof.Rows L2
def OpOk (o : Op) : Prop := (∃ x, o = .ifT x) \/ (∃ x t, o = .ifO x t) \/ ∃ x, o = .whl x
theorem OpOk.deed {f : Fr} (h : OpOk f.op) : ∀ n b, f.deed ≠ .rep n b := fun n b z => by
 unfold Fr.deed at z
 rcases h with ⟨x, e⟩ | ⟨x, t, e⟩ | ⟨x, e⟩ <;> rw [e] at z <;> cases z
def NrOk : List Fr -> Prop
 | [] => False
 | [f] => f.shut = false /\ NoRep f.ds
 | [f, g] => OpOk f.op /\ g.shut = false /\ NoRep g.ds
 | _ :: g :: h :: r => NrOk (g :: h :: r)
theorem NoRep.app {a b : List Deed} (h1 : NoRep a) (h2 : NoRep b) : NoRep (a ++ b) := fun d hd => (List.mem_append.mp hd).elim (h1 d) (h2 d)
theorem NoRep.one {d : Deed} (h : ∀ n b, d ≠ .rep n b) : NoRep [d] := fun e he => by rw [List.mem_singleton.mp he]; exact h
theorem simple_norep (n : Int) (names rooms : List Str) (shut : Bool) : ∀ k b, simpleV n names rooms shut ≠ .rep k b := fun k b z => by
 unfold simpleV at z
 split at z
 ·cases z
 ·split at z
  ·split at z <;> cases z
  ·cases z
theorem step_nr {names rooms : List Str} {low n : Int} (hlow : 7 <= low) : ∀ st : List Fr, NrOk st -> NrOk (stepV names rooms 0 low st n)
 | [], h => h.elim
 | [f], h => by
  unfold stepV
  dsimp only
  split
  ·rename_i c
   unfold openV
   dsimp only
   have n78 : n % 14 = 7 \/ n % 14 = 8 := by
    obtain ⟨c1, c2, _, c3⟩ := c
    rcases c3 with c3 | c3 | c3
    ·omega
    ·omega
    ·rw [h.1] at c3; cases c3
   rcases n78 with e | e
   ·rw [if_pos e]
    exact ⟨.inl ⟨_, rfl⟩, h⟩
   ·rw [if_neg (by omega), if_pos e]
    exact ⟨.inr (.inr ⟨_, rfl⟩), h⟩
  ·split
   ·exact ⟨h.1, fun d hd => by simp at hd⟩
   ·rw [if_neg (by simp)]
    exact ⟨h.1, h.2.app (.one (simple_norep _ _ _ _))⟩
 | [f, g], h => by
  unfold stepV
  dsimp only
  split
  ·unfold openV
   exact h
  ·split
   ·rename_i x hx
    exact ⟨.inr (.inl ⟨x, _, rfl⟩), h.2⟩
   ·split
    ·exact ⟨h.2.1, h.2.2.app (.one h.1.deed)⟩
    ·exact h
 | f :: g :: k :: r, h => by
  unfold stepV
  dsimp only
  split
  ·unfold openV
   exact h
  ·split
   ·exact h
   ·split
    ·cases r with
     | nil => exact h
     | cons _ _ => exact h
    ·exact h
theorem states_nr {names rooms : List Str} {low : Int} (hlow : 7 <= low) : ∀ (cells : List Int) (st : List Fr), NrOk st -> NrOk (cells.foldl (fun st c => stepV names rooms 0 low st (mixed c 1)) st)
 | [], st, h => h
 | c :: cs, st, h => states_nr hlow cs _ (step_nr hlow st h)
theorem wh_nr : ∀ (st : List Fr) (dt : List Deed), NrOk st -> (st.length = 1 -> NoRep dt) -> NoRep (wh st dt)
 | [], _, h, _ => h.elim
 | [f], dt, h, hd => h.2.app (hd rfl)
 | [f, g], dt, h, _ => by
  rw [wh]
  exact h.2.2.app (.one (OpOk.deed (f := { f with ds := f.ds ++ dt }) h.1))
 | f :: g :: k :: r, dt, h, _ => by
  rw [wh]
  exact wh_nr (g :: k :: r) _ h (fun z => by simp at z)
theorem block_norep {names rooms : List Str} {low : Int} (hlow : 7 <= low) (hn : 0 < names.length) (cells : List Int) : NoRep (blockV names rooms 0 low cells) := by
 unfold blockV wholeOf
 have nr := states_nr (names := names) (rooms := rooms) hlow cells st0 ⟨rfl, fun d hd => by simp at hd⟩
 have ne : (statesV names rooms 0 low cells).length ≠ 0 := fun z => by
  rw [List.length_eq_zero_iff] at z
  unfold statesV at z
  rw [z] at nr
  exact nr
 rw [wh_whole _ _ (by omega)]
 exact wh_nr _ _ nr (fun _ d hd => by simp at hd)
end Tr
namespace Tr
open PySem PySem.Spec PyProof.Rows L2
theorem bal_append (a b : List Row) (q : Str) : bal (a ++ b) q = bal a q + bal b q := by
 unfold bal
 rw [List.filter_append, List.filter_append, List.length_append, List.length_append]
 omega
theorem moves_snoc (ds : List Deed) (d : Deed) : movesV (ds ++ [d]) = movesV ds ++ d.moves := by unfold movesV; rw [List.flatMap_append]; simp
theorem moves_append (a b : List Deed) : movesV (a ++ b) = movesV a ++ movesV b := by unfold movesV; rw [List.flatMap_append]
theorem put_ne_get : ¬ ("get" : Str) = "put" := by decide +kernel
theorem bal_moves (q : Str) (ds : List Deed) : bal (ds.map rowV) q = (reachV q (movesV ds)).1 := by
 have key : ∀ n, ∀ ds : List Deed, ds.length = n -> bal (ds.map rowV) q = (reachV q (movesV ds)).1 := by
  intro n
  induction n with
  | zero =>
   intro ds h
   rw [List.length_eq_zero_iff] at h
   subst h
   rfl
  | succ n ih =>
   intro ds h
   have ne : ds ≠ [] := fun z => by rw [z] at h; cases h
   have e : ds = ds.dropLast ++ [ds.getLast ne] := (List.dropLast_concat_getLast ne).symm
   have hi := ih ds.dropLast (by rw [List.length_dropLast]; omega)
   generalize ds.getLast ne = d at e
   rw [e, List.map_append, moves_snoc]
   show bal (ds.dropLast.map rowV ++ [rowV d]) q = _
   rw [bal_snoc, hi]
   cases d with
   | put p x =>
    show _ = (reachV q (movesV ds.dropLast ++ [(("put" : Str), p)])).1
    rw [reach_snoc]
    unfold reachStep reachNow
    by_cases h : p = q <;> simp [rowV, h]
   | get p x =>
    show _ = (reachV q (movesV ds.dropLast ++ [(("get" : Str), p)])).1
    rw [reach_snoc]
    unfold reachStep reachNow
    by_cases h : p = q <;> simp [rowV, h, put_ne_get] <;> omega
   | _ => simp [rowV, Deed.moves]
 exact key _ ds rfl
theorem reach_low (q : Str) (a : List (Str × Str)) : ∀ n, ∀ b : List (Str × Str), b.length = n -> (reachV q (a ++ b)).2.1 <= (reachV q a).1 := by
 have mono : ∀ (b : List (Str × Str)) (s : Int × Int × Int), (b.foldl (reachStep q) s).2.1 <= s.2.1 := by
  intro b
  induction b with
  | nil => intro s; exact Int.le_refl _
  | cons m r ih =>
   intro s
   rw [List.foldl_cons]
   refine Int.le_trans (ih _) ?_
   unfold reachStep
   split
   ·dsimp only
    split <;> omega
   ·exact Int.le_refl _
 intro n b _
 have h1 := mono b (reachV q a)
 have h2 := (reach_bounds q a).2.2.1
 have e : reachV q (a ++ b) = b.foldl (reachStep q) (reachV q a) := by unfold reachV; rw [List.foldl_append]
 rw [e]
 omega
theorem bal_puts {q p x : Str} (n : Nat) : bal ((List.replicate n (Deed.put p x)).map rowV) q = if p = q then (n : Int) else 0 := by
 rw [List.map_replicate]
 unfold bal
 by_cases h : p = q
 ·simp [rowV, h]
 ·simp [rowV, h]
theorem bal_front (rs names : List Str) (ms : List (Str × Str)) (q : Str) : ∀ i, 0 <= bal ((frontUp rs names ms i).map rowV) q /\ ∀ k, k < i -> rs.getD k (">" : Str) = q -> (lackV q ms : Int) <= bal ((frontUp rs names ms i).map rowV) q
 | 0 => ⟨by simp [frontUp, bal], fun k hk => absurd hk (Nat.not_lt_zero _)⟩
 | i + 1 => by
  obtain ⟨h1, h2⟩ := bal_front rs names ms q i
  have e : bal ((frontUp rs names ms (i + 1)).map rowV) q = bal ((frontUp rs names ms i).map rowV) q + (if rs.getD i (">" : Str) = q then ((lackV (rs.getD i (">" : Str)) ms : Nat) : Int) else 0) := by
   rw [frontUp, List.map_append, bal_append, bal_puts]
  rw [e]
  refine ⟨by split <;> omega, fun k hk hq => ?_⟩
  by_cases lt : k < i
  ·have := h2 k lt hq
   split <;> omega
  ·obtain rfl : k = i := by omega
   rw [if_pos hq, hq]
   omega
theorem front_puts (rs names : List Str) (ms : List (Str × Str)) : ∀ i, ∀ d ∈ frontUp rs names ms i, (rowV d).outof = none
 | 0, d, h => by simp [frontUp] at h
 | i + 1, d, h => by
  rw [frontUp, List.mem_append] at h
  rcases h with h | h
  ·exact front_puts rs names ms i d h
  ·rw [(List.mem_replicate.mp h).2]
   rfl
theorem row_get {d : Deed} {q : Str} (h : (rowV d).outof = some q) : ∃ x, d = .get q x := by
 cases d with
 | get p x =>
  have : p = q := Option.some.inj h
  exact ⟨x, by rw [this]⟩
 | _ => simp [rowV] at h
theorem fed_of {rs names : List Str} {ds : List Deed} (hin : ∀ q x, .get q x ∈ ds -> q ∈ rs) : Fed ((frontUp rs names (movesV ds) rs.length ++ ds).map rowV) := fun i r q hi ho => by
 rw [List.getElem?_map] at hi
 cases e : (frontUp rs names (movesV ds) rs.length ++ ds)[i]? with
 | none => rw [e] at hi; cases hi
 | some d =>
  rw [e] at hi
  have er : rowV d = r := Option.some.inj hi
  rw [<- er] at ho
  obtain ⟨x, rfl⟩ := row_get ho
  have ge : (frontUp rs names (movesV ds) rs.length).length <= i := by
   rcases Nat.lt_or_ge i (frontUp rs names (movesV ds) rs.length).length with lt | ge
   ·rw [List.getElem?_append_left lt] at e
    have := front_puts rs names (movesV ds) rs.length _ (List.mem_of_getElem? e)
    rw [this] at ho
    cases ho
   ·exact ge
  rw [List.getElem?_append_right ge] at e
  generalize hj : i - (frontUp rs names (movesV ds) rs.length).length = j at e
  have qm := hin q x (List.mem_of_getElem? e)
  obtain ⟨k, hk, hkq⟩ := List.mem_iff_getElem.mp qm
  have b1 := (bal_front rs names (movesV ds) q rs.length).2 k hk (by rw [List.getD_eq_getElem?_getD, List.getElem?_eq_getElem hk]; exact hkq)
  have tk : ((frontUp rs names (movesV ds) rs.length ++ ds).map rowV).take i = (frontUp rs names (movesV ds) rs.length).map rowV ++ (ds.take j).map rowV := by
   rw [<- List.map_take, List.take_append, List.map_append, List.take_of_length_le ge, hj]
  rw [tk, bal_append]
  have e2 : ds.take (j + 1) = ds.take j ++ [.get q x] := by rw [List.take_add_one, e]; rfl
  have b2 : bal ((ds.take (j + 1)).map rowV) q = bal ((ds.take j).map rowV) q - 1 := by
   rw [e2, List.map_append]
   show bal ((ds.take j).map rowV ++ [rowV (.get q x)]) q = _
   rw [bal_snoc]
   simp [rowV]
  have b3 := reach_low q (movesV (ds.take (j + 1))) _ (movesV (ds.drop (j + 1))) rfl
  rw [<- moves_append, List.take_append_drop, <- bal_moves] at b3
  have b4 := reach_bounds q (movesV ds)
  unfold lackV at b1
  omega
end Tr
namespace Tr
open PySem PySem.Spec PyProof.Rows L2
def BotOk (Pd : Deed -> Prop) : List Fr -> Prop
 | [] => False
 | [f] => ∀ d ∈ f.ds, Pd d
 | _ :: g :: r => BotOk Pd (g :: r)
def GetIn (rooms : List Str) (d : Deed) : Prop := ∀ q x, d = .get q x -> q ∈ rooms
theorem fr_getin (rooms : List Str) (f : Fr) : GetIn rooms f.deed := fun q x z => by
 unfold Fr.deed at z
 split at z <;> cases z
theorem simple_getin (n : Int) (names rooms : List Str) (shut : Bool) : GetIn rooms (simpleV n names rooms shut) := fun q x z => by
 unfold simpleV at z
 split at z
 ·cases z
 ·split at z
  ·rename_i c
   split at z
   ·injection z with z1 z2
    rw [<- z1]
    exact nth_mem c.2.1 _
   ·cases z
  ·cases z
theorem step_bot {names rooms : List Str} {most low n : Int} : ∀ st : List Fr, BotOk (GetIn rooms) st -> BotOk (GetIn rooms) (stepV names rooms most low st n)
 | [], h => h.elim
 | [f], h => by
  unfold stepV
  dsimp only
  split
  ·unfold openV
   exact h
  ·split
   ·exact fun d hd => by simp at hd
   ·rw [if_neg (by simp)]
    intro d hd
    rcases List.mem_append.mp hd with hd | hd
    ·exact h d hd
    ·rw [List.mem_singleton.mp hd]
     exact simple_getin _ _ _ _
 | [f, g], h => by
  unfold stepV
  dsimp only
  split
  ·unfold openV
   exact h
  ·split
   ·exact h
   ·split
    ·intro d hd
     rcases List.mem_append.mp hd with hd | hd
     ·exact h d hd
     ·rw [List.mem_singleton.mp hd]
      exact fr_getin _ _
    ·exact h
 | f :: g :: k :: r, h => by
  unfold stepV
  dsimp only
  split
  ·unfold openV
   exact h
  ·split
   ·exact h
   ·split
    ·exact h
    ·exact h
theorem states_bot {names rooms : List Str} {most low : Int} : ∀ (cells : List Int) (st : List Fr), BotOk (GetIn rooms) st -> BotOk (GetIn rooms) (cells.foldl (fun st c => stepV names rooms most low st (mixed c 1)) st)
 | [], st, h => h
 | c :: cs, st, h => states_bot cs _ (step_bot st h)
theorem wh_bot {rooms : List Str} : ∀ (st : List Fr) (dt : List Deed), BotOk (GetIn rooms) st -> (st.length = 1 -> ∀ d ∈ dt, GetIn rooms d) -> ∀ d ∈ wh st dt, GetIn rooms d
 | [], _, h, _ => h.elim
 | [f], dt, h, hd => fun d hm => by
  rw [wh] at hm
  exact (List.mem_append.mp hm).elim (h d) (hd rfl d)
 | f :: g :: r, dt, h, _ => by
  rw [wh]
  refine wh_bot (g :: r) _ h (fun _ d hd => ?_)
  rw [List.mem_singleton.mp hd]
  exact fr_getin _ _
theorem block_gets {names rooms : List Str} {most low : Int} (cells : List Int) : ∀ q x, .get q x ∈ blockV names rooms most low cells -> q ∈ rooms := by
 have nr := states_bot (names := names) (rooms := rooms) (most := most) (low := low) cells st0 (fun d hd => by simp at hd)
 have ne : (statesV names rooms most low cells).length ≠ 0 := fun z => by
  rw [List.length_eq_zero_iff] at z
  unfold statesV at z
  rw [z] at nr
  exact nr
 intro q x hm
 unfold blockV wholeOf at hm
 rw [wh_whole _ _ (by omega)] at hm
 exact wh_bot _ _ nr (fun _ d hd => by simp at hd) _ hm q x rfl
theorem len_flats : ∀ ds : List Deed, ds.length <= (flats ds).length
 | [] => Nat.le_refl _
 | d :: r => by
  have := len_flats r
  rw [flats, List.length_append, flat_inner, List.length_cons, List.length_cons]
  omega
theorem front_all (rs names : List Str) (ms : List (Str × Str)) (hn : 0 < names.length) : ∀ i, i <= rs.length -> ∀ d ∈ frontUp rs names ms i, ∃ q x, d = .put q x /\ q ∈ rs /\ x ∈ names
 | 0, _, d, h => by simp [frontUp] at h
 | i + 1, hi, d, h => by
  rw [frontUp, List.mem_append] at h
  rcases h with h | h
  ·exact front_all rs names ms hn i (by omega) d h
  ·refine ⟨_, _, (List.mem_replicate.mp h).2, ?_, nth_mem hn _⟩
   rw [List.getD_eq_getElem?_getD, List.getElem?_eq_getElem (by omega)]
   exact List.getElem_mem _
theorem puts_flat {ds : List Deed} (h : ∀ d ∈ ds, ∃ q x, d = .put q x) : flats ds = ds /\ depths ds = depths ds /\ ∀ d ∈ ds, d.depth = 0 := by
 refine ⟨?_, rfl, fun d hd => ?_⟩
 ·induction ds with
  | nil => rfl
  | cons d r ih =>
   obtain ⟨q, x, rfl⟩ := h d List.mem_cons_self
   rw [flats, ih fun e he => h e (List.mem_cons_of_mem _ he)]
   rfl
 ·obtain ⟨q, x, rfl⟩ := h d hd
  rfl
theorem depths_zero : ∀ {ds : List Deed}, (∀ d ∈ ds, d.depth = 0) -> depths ds = 0
 | [], _ => rfl
 | d :: r, h => by
  rw [depths, h d List.mem_cons_self, depths_zero fun e he => h e (List.mem_cons_of_mem _ he)]
  rfl
end Tr
namespace Tr
open PySem PySem.Spec PyProof.Rows L2
theorem srt_len (l : List Str) : (srt l).length <= l.length := by
 unfold srt
 split
 ·rename_i h
  obtain ⟨a, b, _⟩ := Classical.choose_spec h
  exact few_of a fun x hx => (b x).mp hx
 ·exact Nat.zero_le _
theorem srtP_len (l : List Str) : (srtP l).length <= l.length := by
 unfold srtP
 split
 ·rename_i h
  exact Nat.le_of_eq (Classical.choose_spec h).1.length_eq
 ·exact Nat.zero_le _
theorem row_small {d : Deed} (h : (cards [d]).length <= 5000) : (rowV d).owns.length <= 10000 /\ (rowV d).reads.length <= 10000 := by
 cases d with
 | set x a sg b =>
  refine ⟨by simp [rowV], ?_⟩
  refine Nat.le_trans (srt_len _) (Nat.le_trans (List.length_filter_le _ _) ?_)
  cases a <;> cases b <;> simp [Val.names]
 | put q x => simp [rowV]
 | get q x =>
  refine ⟨Nat.le_trans (srtP_len _) (by simp), by simp [rowV]⟩
 | give x => simp [rowV]
 | cond x t o => exact ⟨Nat.le_trans (srt_len _) (by omega), by simp [rowV]⟩
 | whl x b => exact ⟨Nat.le_trans (srt_len _) (by omega), by simp [rowV]⟩
 | rep n b => exact ⟨Nat.le_trans (srt_len _) (by omega), by simp [rowV]⟩
end Tr
namespace Tr
open PySem
end Tr
namespace Tr
open PySem
structure Wt where
 g : Int
 e : Deed -> Int
mutual
def Wt.d (w : Wt) : Deed -> Int
 | .rep n b => w.g + n * (Wt.l w b + w.g)
 | .cond _ _ _ => w.g
 | .whl _ _ => w.g
 | .set x a sg b => w.e (.set x a sg b)
 | .put q x => w.e (.put q x)
 | .get q x => w.e (.get q x)
 | .give x => w.e (.give x)
def Wt.l (w : Wt) : List Deed -> Int
 | [] => 0
 | d :: r => Wt.d w d + Wt.l w r
end
def Wt.m (w : Wt) : List Fr -> Int
 | [] => 0
 | [f] => f.times * w.l f.ds
 | f :: g :: r => f.times * w.l f.ds + (g.times * w.g + match f.op with | .rep _ => f.times * w.g | _ => 0) + Wt.m w (g :: r)
end Tr
namespace Tr
open PySem PySem.Spec PyProof.Rows L2
end Tr
namespace L2
open PySem PySem.Spec PyProof.Rows
section
variable {X : Cx} {CX : CXT} {k : Nat} {f C : Addr} {fd : FuncData} {ps : List Str} {sp : Sp} {E : XK} {x m : Str} {p pos apos : Pos} {e o : Expr} {es : List Expr} {t : TA} {te ta : TE} {ds : List Value} {dvs : List V}
end
end L2
namespace L2
open PySem PySem.Spec PyProof.Rows
theorem atI_pos {α : Type} {xs : List α} {i : Int} {v : α} (h : 0 <= i) (e : xs[i.toNat]? = some v) : atI xs i = some v := by
 have := atI_nat (xs := xs) (j := i.toNat) (v := v) e
 rwa [Int.toNat_of_nonneg h] at this
end L2
namespace L2
open PySem PySem.Spec PyProof.Rows
def grow (H0 H H' : Hp) : Hp := fun b => match H b with
 | none => H' b
 | some _ => H0 b
end L2
namespace L2
open PySem PySem.Spec PyProof.Rows
inductive qVar (i : Nat) (σ : St) (H : Hp) (Q : VK) : Prop
 | mk (v : V) (h : σ[i]? = some (some v)) (q : Q v H) : qVar i σ H Q
theorem qVar_eq (i : Nat) : qVar i = tVar i := by
 funext σ H Q
 exact propext ⟨fun ⟨v, h, q⟩ => ⟨v, h, q⟩, fun ⟨v, h, q⟩ => ⟨v, h, q⟩⟩
inductive qB (x : V) (H : Hp) (Q : Bool -> Hp -> Prop) : Prop
 | mk (k : Bool) (h : x = .bl k) (q : Q k H) : qB x H Q
theorem qB_eq (Q : Bool -> Hp -> Prop) : (fun x H => qB x H Q) = fun x H => ∃ k, x = V.bl k /\ Q k H := by
 funext x H
 exact propext ⟨fun ⟨v, h, q⟩ => ⟨v, h, q⟩, fun ⟨v, h, q⟩ => ⟨v, h, q⟩⟩
def qTest (t : TE) : TT := fun σ H Q => t σ H fun x H' => qB x H' Q
theorem qTest_eq (t : TE) : qTest t = tTest t := by
 funext σ H Q
 unfold qTest tTest
 rw [qB_eq]
theorem qTest_eqB (t : TE) : qTest t = tB t := by
 funext σ H Q
 unfold qTest tB
 rw [qB_eq]
inductive qAdd (x y : V) (H : Hp) (Q : VK) : Prop
 | mk (i j : Int) (h1 : x = .int i) (h2 : y = .int j) (q : Q (.int (i + j)) H) : qAdd x y H Q
inductive qSub (x y : V) (H : Hp) (Q : VK) : Prop
 | mk (i j : Int) (h1 : x = .int i) (h2 : y = .int j) (q : Q (.int (i - j)) H) : qSub x y H Q
inductive qFdiv (x y : V) (H : Hp) (Q : VK) : Prop
 | mk (i j : Int) (h1 : x = .int i) (h2 : y = .int j) (c : 0 < j /\ j < 1073741824) (q : Q (.int (i / j)) H) : qFdiv x y H Q
inductive qMod (x y : V) (H : Hp) (Q : VK) : Prop
 | mk (i j : Int) (h1 : x = .int i) (h2 : y = .int j) (c : 0 < j) (q : Q (.int (i % j)) H) : qMod x y H Q
inductive qLt (x y : V) (H : Hp) (Q : VK) : Prop
 | mk (i j : Int) (h1 : x = .int i) (h2 : y = .int j) (q : Q (.bl (decide (i < j))) H) : qLt x y H Q
inductive qLe (x y : V) (H : Hp) (Q : VK) : Prop
 | mk (i j : Int) (h1 : x = .int i) (h2 : y = .int j) (q : Q (.bl (decide (i <= j))) H) : qLe x y H Q
inductive qGt (x y : V) (H : Hp) (Q : VK) : Prop
 | mk (i j : Int) (h1 : x = .int i) (h2 : y = .int j) (q : Q (.bl (decide (j < i))) H) : qGt x y H Q
inductive qGe (x y : V) (H : Hp) (Q : VK) : Prop
 | mk (i j : Int) (h1 : x = .int i) (h2 : y = .int j) (q : Q (.bl (decide (j <= i))) H) : qGe x y H Q
inductive qEq (x y : V) (H : Hp) (Q : VK) : Prop
 | mk (c : scal x y = true) (q : Q (.bl (decide (x = y))) H) : qEq x y H Q
inductive qNe (x y : V) (H : Hp) (Q : VK) : Prop
 | mk (c : scal x y = true) (q : Q (.bl (!decide (x = y))) H) : qNe x y H Q
inductive qIsN (x y : V) (H : Hp) (Q : VK) : Prop
 | mk (c : y = .non) (q : Q (.bl (decide (x = .non))) H) : qIsN x y H Q
inductive qNotN (x y : V) (H : Hp) (Q : VK) : Prop
 | mk (c : y = .non) (q : Q (.bl (!decide (x = .non))) H) : qNotN x y H Q
inductive qIxL (K : PySem.W.Frag) (x y : V) (H : Hp) (Q : VK) : Prop
 | mk (p : Addr) (xs : List V) (i : Int) (v : V) (h1 : x = .ref p) (h2 : y = .int i) (h3 : SqL K H p xs) (h4 : atI xs i = some v) (q : Q v H) : qIxL K x y H Q
inductive qIxT (K : PySem.W.Frag) (x y : V) (H : Hp) (Q : VK) : Prop
 | mk (p : Addr) (xs : List V) (i : Int) (v : V) (h1 : x = .ref p) (h2 : y = .int i) (h3 : SqT K H p xs) (h4 : atI xs i = some v) (q : Q v H) : qIxT K x y H Q
inductive qAddS (x y : V) (H : Hp) (Q : VK) : Prop
 | mk (i j : Str) (h1 : x = .str i) (h2 : y = .str j) (c : i.length + j.length <= sizeLine) (q : Q (.str (i ++ j)) H) : qAddS x y H Q
inductive qLen (K : PySem.W.Frag) (xs : List V) (H : Hp) (Q : VK) : Prop
 | mk (p : Addr) (ys : List V) (h1 : xs = [.ref p]) (h2 : SqL K H p ys \/ SqT K H p ys) (q : Q (.int ys.length) H) : qLen K xs H Q
inductive qIsT (K : PySem.W.Frag) (xs : List V) (H : Hp) (Q : VK) : Prop
 | mk (x : V) (t : Value) (T : String) (b : Bool) (h1 : xs = [x, .ty T]) (h2 : TyOf K H x t) (h3 : PySem.W.kitOne K t (.type T) = some b) (q : Q (.bl b) H) : qIsT K xs H Q
inductive qListOf (K : PySem.W.Frag) (xs : List V) (H : Hp) (Q : VK) : Prop
 | mk (p : Addr) (ys : List V) (h1 : xs = [.ref p]) (h2 : SqL K H p ys \/ SqT K H p ys) (q : ∀ l, H l = none -> Q (.ref l) (upd H l (.lst ys))) : qListOf K xs H Q
inductive qAppend (x : V) (vs : List V) (H : Hp) (Q : VK) : Prop
 | mk (l : Addr) (xs : List V) (y : V) (h1 : x = .ref l) (h2 : vs = [y]) (h3 : H l = some (.lst xs)) (h4 : xs.length < sizeLine) (q : Q .non (upd H l (.lst (xs ++ [y])))) : qAppend x vs H Q
inductive qCatS (K : PySem.W.Frag) (x y : V) (H : Hp) (Q : VK) : Prop
 | mk (l b : Addr) (xs zs : List V) (h1 : x = .ref l) (h2 : y = .ref b) (h3 : SqL K H l xs) (h4 : SqL K H b zs) (h5 : xs.length + zs.length <= sizeLine) (q : ∀ p, H p = none -> Q (.ref p) (upd H p (.lst (xs ++ zs)))) : qCatS K x y H Q
inductive qAnd (A B : Prop) : Prop
 | mk (h : A) (q : B) : qAnd A B
theorem qAnd_eq (A B : Prop) : qAnd A B = (A /\ B) := propext ⟨fun ⟨a, b⟩ => ⟨a, b⟩, fun ⟨a, b⟩ => ⟨a, b⟩⟩
section
variable {X : Cx}
theorem pq (i : Nat) {x : Str} {pos : Pos} (hN : X.N[i]? = some x := by rfl) (hv : Vis X.env.scope x := by first | exact Or.inl rfl | exact Or.inr (Or.inl rfl) | exact Or.inr (Or.inr rfl)) (hd : (x == ("__debug__" : Str)) = false := by decide)
  (hcd : (x == ("__classdict__" : Str)) = false := by decide) : PE X (.Name x pos) (qVar i) := by
 rw [qVar_eq]
 exact pe_var hN hv hd hcd
theorem pt_cmpQ {op : CmpOp} {r : R2} {a b : Expr} {ta tb : TE} {pos : Pos} (ho : OpR X (compareOp op) r) (ha : PE X a ta) (hb : PE X b tb) (hm : behindInMarks op b = false) : PT X (.Compare a [op] [b] pos) (qTest (tOp r ta tb)) := by
 rw [qTest_eq]
 exact pt_cmpR ho ha hb hm
theorem pt_valQ {e : Expr} {t : TE} (h : PE X e t) (he : ∀ whole, isTrue e X.env whole = (do let v <- whole; standAt e.pos; holding [v] (truthy v)) := by intro _; rfl) : PT X e (qTest t) := by
 rw [qTest_eqB]
 exact pt_val h he
theorem OpR.as {f : Value -> Value -> Sem Value} {r r' : R2} (h : OpR X f r) (e : ∀ x y H Q, r' x y H Q -> r x y H Q) : OpR X f r' := fun pins s σ H x y v u Q I rx ry q => h pins s σ H x y v u Q I rx ry (e _ _ _ _ q)
theorem CallR.as {f : Value} {r r' : List V -> Hp -> VK -> Prop} (h : CallR X f r) (e : ∀ x H Q, r' x H Q -> r x H Q) : CallR X f r' := fun pins s σ H x u Q I rx q => h pins s σ H x u Q I rx (e _ _ _ q)
theorem IxR.as {r r' : R2} (h : IxR X r) (e : ∀ x y H Q, r' x y H Q -> r x y H Q) : IxR X r' := fun a b pins s σ H x y v u Q I rx ry q => h a b pins s σ H x y v u Q I rx ry (e _ _ _ _ q)
theorem qi_add : OpR X (binaryOp .Add) qAdd := oi_add.as fun _ _ _ _ ⟨i, j, a, b, q⟩ => ⟨i, j, a, b, q⟩
theorem qi_sub : OpR X (binaryOp .Sub) qSub := oi_sub.as fun _ _ _ _ ⟨i, j, a, b, q⟩ => ⟨i, j, a, b, q⟩
theorem qi_fdiv : OpR X (binaryOp .FloorDiv) qFdiv := oi_fdiv.as fun _ _ _ _ ⟨i, j, a, b, c, q⟩ => ⟨i, j, a, b, c, q⟩
theorem qi_mod : OpR X (binaryOp .Mod) qMod := oi_mod.as fun _ _ _ _ ⟨i, j, a, b, c, q⟩ => ⟨i, j, a, b, c, q⟩
theorem qi_lt : OpR X (compareOp .Lt) qLt := oi_lt.as fun _ _ _ _ ⟨i, j, a, b, q⟩ => ⟨i, j, a, b, q⟩
theorem qi_le : OpR X (compareOp .LtE) qLe := oi_le.as fun _ _ _ _ ⟨i, j, a, b, q⟩ => ⟨i, j, a, b, q⟩
theorem qi_gt : OpR X (compareOp .Gt) qGt := oi_gt.as fun _ _ _ _ ⟨i, j, a, b, q⟩ => ⟨i, j, a, b, q⟩
theorem qi_ge : OpR X (compareOp .GtE) qGe := oi_ge.as fun _ _ _ _ ⟨i, j, a, b, q⟩ => ⟨i, j, a, b, q⟩
theorem qo_eq : OpR X (compareOp .Eq) qEq := op_eq.as fun _ _ _ _ ⟨c, q⟩ => ⟨c, q⟩
theorem qo_ne : OpR X (compareOp .NotEq) qNe := op_ne.as fun _ _ _ _ ⟨c, q⟩ => ⟨c, q⟩
theorem qo_isN : OpR X (compareOp .Is) qIsN := op_isN.as fun _ _ _ _ ⟨c, q⟩ => ⟨c, q⟩
theorem qo_notN : OpR X (compareOp .IsNot) qNotN := op_notN.as fun _ _ _ _ ⟨c, q⟩ => ⟨c, q⟩
theorem qo_add_str : OpR X (binaryOp .Add) qAddS := op_add_str.as fun _ _ _ _ ⟨i, j, a, b, c, q⟩ => ⟨i, j, a, b, c, q⟩
theorem qo_catS : OpR X (binaryOp .Add) (qCatS X.K) := op_catS.as fun _ _ _ _ ⟨l, b, xs, zs, h1, h2, h3, h4, h5, q⟩ => ⟨l, b, xs, zs, h1, h2, h3, h4, h5, q⟩
theorem qx_list : IxR X (qIxL X.K) := ix_list.as fun _ _ _ _ ⟨p, xs, i, v, a, b, c, d, q⟩ => ⟨p, xs, i, v, a, b, c, d, q⟩
theorem qx_tup : IxR X (qIxT X.K) := ix_tup.as fun _ _ _ _ ⟨p, xs, i, v, a, b, c, d, q⟩ => ⟨p, xs, i, v, a, b, c, d, q⟩
theorem qx_listK {K : PySem.W.Frag} (e : X.K = K) : IxR X (qIxL K) := by
 subst e
 exact qx_list
theorem qx_tupK {K : PySem.W.Frag} (e : X.K = K) : IxR X (qIxT K) := by
 subst e
 exact qx_tup
theorem qc_len : CallR X (.builtin "len") (qLen X.K) := call_len_seq.as fun _ _ _ ⟨p, ys, a, b, q⟩ => ⟨p, ys, a, b, q⟩
theorem qc_isT : CallR X (.builtin "isinstance") (qIsT X.K) := call_isT.as fun _ _ _ ⟨x, t, T, b, h1, h2, h3, q⟩ => ⟨x, t, T, b, h1, h2, h3, q⟩
theorem qc_isTK {K : PySem.W.Frag} (e : X.K = K) : CallR X (.builtin "isinstance") (qIsT K) := by
 subst e
 exact qc_isT
theorem qc_list : CallR X (.type "list") (qListOf X.K) := call_list_of.as fun _ _ _ ⟨p, ys, a, b, q⟩ => ⟨p, ys, a, b, q⟩
theorem qc_listK {K : PySem.W.Frag} (e : X.K = K) : CallR X (.type "list") (qListOf K) := by
 subst e
 exact qc_list
theorem qm_append : MtM X "list.append" qAppend := fun pins s σ H x xs v us Q I rx rv ⟨l, ys, y, h1, h2, h3, h4, q⟩ => mt_append pins s σ H x xs v us Q I rx rv ⟨l, ys, y, h1, h2, h3, h4, q⟩
def qTup (t : TA) : TE := fun σ H Q => t σ H fun xs H1 => qAnd (xs.length <= sizeLine) (∀ p, H1 p = none -> Q (.ref p) (upd H1 p (.tup xs)))
def qLst (t : TA) : TE := fun σ H Q => t σ H fun xs H1 => qAnd (xs.length <= sizeLine) (∀ p, H1 p = none -> Q (.ref p) (upd H1 p (.lst xs)))
theorem qTup_eq (t : TA) : qTup t = tTup t := by
 funext σ H Q
 unfold qTup tTup
 simp only [qAnd_eq]
theorem qLst_eq (t : TA) : qLst t = tLst t := by
 funext σ H Q
 unfold qLst tLst
 simp only [qAnd_eq]
theorem pe_tupQ {x1} {es : List Expr} {t : TA} {pos : Pos} (h : PA X es t) : PE X (.Tuple es x1 pos) (qTup t) := by
 rw [qTup_eq]
 exact pe_tup h
theorem pe_lstQ {es : List Expr} {t : TA} {pos : Pos} (h : PA X es t) : PE X (.List es pos) (qLst t) := by
 rw [qLst_eq]
 exact pe_lst h
inductive qRng (vs : List V) (H : Hp) (R : It -> Hp -> Prop) : Prop
 | mk (j : Int) (h : vs = [.int j]) (h1 : -(2 ^ 62) <= j) (h2 : j < 2 ^ 62) (q : R (Itr 0 j.toNat) H) : qRng vs H R
def jRng1 (ta : TA) : TI := fun σ H R => ta σ H fun vs H1 => qRng vs H1 R
theorem jRng1_eq (ta : TA) : jRng1 ta = iRng1 ta := by
 funext σ H R
 unfold jRng1 iRng1
 have : (fun vs H1 => qRng vs H1 R) = fun vs H1 => ∃ j : Int, vs = [V.int j] /\ -(2 ^ 62) <= j /\ j < 2 ^ 62 /\ R (Itr 0 j.toNat) H1 := by
  funext vs H1
  exact propext ⟨fun ⟨j, h, h1, h2, q⟩ => ⟨j, h, h1, h2, q⟩, fun ⟨j, h, h1, h2, q⟩ => ⟨j, h, h1, h2, q⟩⟩
 rw [this]
theorem pj_range1 {tg a : Expr} {ta : TA} {p pos : Pos} (hg : Gl X "range") (hm : X.mg "range" = none) (ha : PA X [a] ta) (hs : starEach [a] X.env = [(false, eval a X.env)] := by rfl) : PI X tg (.Call (.Name "range" p) [a] [] pos) (jRng1 ta) := by
 rw [jRng1_eq]
 exact pi_range1 hg hm ha hs
def qBM (K : PySem.W.Frag) (T : String) (r : V -> List V -> Hp -> VK -> Prop) (to : TE) (t : TA) : TE := fun σ H Q => to σ H fun x H1 => qAnd (tyV K T x H1) (t σ H1 fun xs H2 => r x xs H2 Q)
theorem qBM_eq (K : PySem.W.Frag) (T : String) (r : V -> List V -> Hp -> VK -> Prop) (to : TE) (t : TA) : qBM K T r to t = tBM K T r to t := by
 funext σ H Q
 unfold qBM tBM
 simp only [qAnd_eq]
theorem pe_bmQ {o e : Expr} {es : List Expr} {to : TE} {t : TA} {name : Str} {apos cpos : Pos} {T id : String} {r : V -> List V -> Hp -> VK -> Prop} (pa : PlainAttrs T) (slot : Slot T name id) (hty : typeOf (.builtin id) = pure (.type "method_descriptor")) (hm : MtR X id r) (ho : PE X o to) (ha : PA X (e :: es) t)
  (hbase : attributeBase o name X.env (eval o X.env) = eval o X.env := by rfl)
  (hfew : ((backTo cpos (starEach (e :: es) X.env)).all (fun x => !x.1) && (backToKw cpos (keywordEach [] X.env)).all (fun x => x.1.isSome)
   && decide ((e :: es).length + ([] : List Keyword).length + (if ([] : List Keyword).isEmpty then 0 else 1) < 30)) = true := by rfl)
  (hline : (apos.endLine == cpos.line) = true := by rfl) (hs : starEach (e :: es) X.env = (false, eval e X.env) :: starEach es X.env := by rfl) (hplain : (backTo cpos (starEach es X.env)).any (·.1) = false := by rfl) :
  PE X (.Call (.Attribute o name apos) (e :: es) [] cpos) (qBM X.K T r to t) := by
 rw [qBM_eq]
 exact pe_bm pa slot hty hm ho ha hbase hfew hline hs hplain
end
theorem ite_varsQ {b : Bool} {σ : St} {i j : Nat} {H : Hp} {Q : VK} {x y : Int} (hx : σ[i]? = some (some (.int x))) (hy : σ[j]? = some (some (.int y))) (h : Q (.int (if b = true then x else y)) H) : if b = true then qVar i σ H Q else qVar j σ H Q := by
 cases b
 ·exact ⟨_, hy, h⟩
 ·exact ⟨_, hx, h⟩
end L2
namespace L2
open PySem PySem.Spec PyProof.Rows
section
variable {prog : Program} {w : World} {A : Around} {E : Value -> Shared -> Prop} {s : Shared}
end
end L2
namespace L2
open PySem PySem.Spec PyProof.Rows
section
variable {X : Cx} {pins : List (Addr × Obj)} {σ : St}
end
end L2
namespace L2
open PySem PySem.Spec PyProof.Rows
end L2
namespace L2
open PySem PySem.Spec PyProof.Rows
section
variable {X : Cx} {pins : List (Addr × Obj)} {σ : St} {H : Hp} {s : Shared} {a : Addr} {kvs : List (Key × V)} {k : Key} {z : V} {u r : Value} {A : Around} {E : Value -> Shared -> Prop}
theorem RelO.not_got {o : Option V} (h : RelO o none) : o = none := by
 cases o with
 | none => rfl
 | some v => exact h.elim
theorem RelO.got {o : Option V} {u : Value} (h : RelO o (some u)) : ∃ v, o = some v /\ RelV v u := by
 cases o with
 | none => exact h.elim
 | some v => exact ⟨v, rfl, h⟩
theorem d_setd {Q : Value -> Shared -> Prop} (I : Inv X pins σ H s) (e : H a = some (.dK kvs)) (ry : RelV (kV k) u) (rz : RelV z r) (few : kvs.length < sizeLine)
  (h1 : ∀ v w' s', valV kvs k = some v -> Inv X pins σ H s' -> RelV v w' -> Q w' s') (h2 : ∀ s', valV kvs k = none -> Inv X pins σ (upd H a (.dK (putK kvs k z))) s' -> Q r s') :
  wpAny (model X.prog X.w) A (call (.builtin "dict.setdefault") [.ref a, u, r]) Q E s := by
 obtain ⟨zz, hd, vs, rel, dd⟩ := dk_of I.hok e
 have hz : vs.length <= sizeLine := by rw [<- rel.length]; exact zz
 have hl : (putK kvs k z).length <= sizeLine := by have := length_putK kvs k z; omega
 have rv := rel.val k
 refine call_meetsIn PySem.F.slot_dict_setdefault dd.typeIs PySem.F.entry_dict_setdefault (PySem.F.args_dict_setdefault_3 _ _ _) (kt_meets_setdefault (mixKind X.prog X.w) a (kV_is ry) hd r) ⟨vs, dd, hz, fun v' hv' => ?_, fun hn h' dd' hs => ?_⟩
 ·rw [hv'] at rv
  obtain ⟨v, e1, e2⟩ := RelO.got rv
  exact h1 v v' _ e1 (I.tok _) e2
 ·rw [hn] at rv
  have he : ∃ q, h'.get? a = some q := let ⟨q, _, _, hq, _⟩ := dd'; ⟨q, hq⟩
  exact h2 _ (RelO.not_got rv) (d_write I (by rw [e]; exact True.intro) hs he (dk_new hl hd (rel.put k rz) dd'))
end
def tDSetd (td ty tx : TE) : TE := fun σ H Q => td σ H fun x H1 => ∃ a, x = .ref a /\ IsD H1 a /\ ty σ H1 fun y H2 => tx σ H2 fun z H3 => ∃ kvs k, H3 a = some (.dK kvs) /\ y = kV k /\ kvs.length < sizeLine /\
 (∀ v, valV kvs k = some v -> Q v H3) /\ (valV kvs k = none -> Q z (upd H3 a (.dK (putK kvs k z))))
section
variable {X : Cx} {o e f : Expr} {apos cpos : Pos} {td ty tx : TE}
theorem pe_dsetd (ho : PE X o td) (he : PE X e ty) (hf : PE X f tx) (m : M2 X o "setdefault" apos e f cpos) : PE X (.Call (.Attribute o "setdefault" apos) [e, f] [] cpos) (tDSetd td ty tx) := by
 intro pins s σ H Q I h
 refine wpAny_Call_method m.base m.few m.line PySem.F.plainAttrs_dict PySem.F.slot_dict_setdefault PySem.F.type_dict_setdefault (thn (ho pins s σ H _ I h) fun u s1 ⟨x, H1, I1, rx, a, ex, d, q1⟩ => ?_)
 subst ex
 obtain rfl : u = Value.ref a := rx
 obtain ⟨t1, t2, _⟩ := isD_at I1 d
 refine ⟨t1, t2, ?_⟩
 rw [m.trees]
 refine Calls.callWith_builtin rfl (Calls.evalArgs_plain (Calls.spliced_cons (thn (he pins s1 σ H1 _ I1 q1) fun iv s2 ⟨y, H2, I2, ry, q2⟩ =>
  Calls.spliced_cons (thn (hf pins s2 σ H2 _ I2 q2) fun fv s3 ⟨z, H3, I3, rz, kvs, k, eH, ey, few, g1, g2⟩ => Calls.spliced_nil ?_))))
 subst ey
 exact d_setd I3 eH ry rz few (fun v w' s' ev I4 rw' => ⟨v, H3, I4, rw', g1 v ev⟩) fun s' en I4 => ⟨z, _, I4, rz, g2 en⟩
end
end L2
namespace L2
open PySem PySem.Spec PyProof.Rows
theorem lst_nokeys : typeLookup (.type "list") "keys" = pure none := by rw [typeLookup_type, builtinLookup_eq_fast]; kernel_rfl
section
variable {prog : Program} {w : World} {A : Around} {E : Value -> Shared -> Prop} {s : Shared}
theorem list_keys {a : Addr} {xs : Array Value} {k : Nat} {sl : Array (Option Value)} {Q : Option Value -> Shared -> Prop} (hA : A.handled = none) (hx : s.heap.get? a = some { cls := .type "list", dict := none, data := .seq xs k, slots := sl })
  (h : ∀ h' tk, (∀ b o, s.heap.get? b = some o -> h'.get? b = some o) -> Q none { s with heap := h', toks := tk }) : wpAny (model prog w) A (getAttr? (.ref a) "keys") Q E s := by
 obtain ⟨hp, g, d, tk, os⟩ := s
 have hT : ∀ tk', (⟨hp, g, d, tk', os⟩ : Shared).TypeIs (.ref a) "list" := fun _ => ⟨_, hx, rfl⟩
 have f1 := sub_AttributeError
 have f3 := F.slot_list_getattribute.lookup
 have f4 := F.slot_list_getattribute.bind (.ref a)
 have f5 := am_list_getattr_none
 unfold getAttr? getAttrBy? getAttrBy
 repeat (any_goals (first | assumption | exact hT _ | ((with_reducible show wpAny _ _ (call (Value.builtin "list.__getattribute__") _ _) _ _ _); refine call_meets F.slot_list_getattribute (hT _) am_entry_list_getattribute (F.args_list_getattribute_2 _ _) (meets_getattribute_miss_list a xs k sl "keys" _ lst_nokeys (by decide +kernel)) ⟨hx, hA, fun h' tk' e hx' => ?_⟩) | wp_step))
 obtain ⟨t', u', he⟩ := hx'.there
 show wpAny _ _ (getattributeRaised _ _ _ _ _ _ _) _ _ _
 unfold getattributeRaised
 repeat (any_goals (first | assumption | wp_step))
 exact h _ _ hx'.keeps
end
end L2
namespace L2
open PySem PySem.Spec PyProof.Rows
theorem plain_dul : plainId "dict.update.loop" = true := by decide +kernel
theorem entry_dul : entryFor table "dict.update.loop" = some Builtin.«dict.update.loop» := entryFor_of_fast (by kernel_rfl)
def storeAll {K : Type} [DecidableEq K] (ps : List (K × Value)) : List (K × Value) := ps.foldl (fun kvs p => stored kvs p.1 p.2) []
theorem storeAll_snoc {K : Type} [DecidableEq K] (ps : List (K × Value)) (p : K × Value) : storeAll (ps ++ [p]) = stored (storeAll ps) p.1 p.2 := by
 unfold storeAll
 rw [List.foldl_append]
 rfl
section
variable {prog : Program} {w : World} {A : Around} {R : Result -> Shared -> Prop} {K : Type} [DecidableEq K] {knd : KeyKind prog w K}
def PairsAt (knd : KeyKind prog w K) (h : Heap) (items : Array Value) (ps : List (K × Value)) : Prop :=
 items.size = ps.length /\ ∀ (i : Nat) (p : K × Value), ps[i]? = some p -> ∃ t key, items[i]? = some (.ref t) /\ h.IsTuple t #[key, p.2] /\ knd.is p.1 key = true
theorem PairsAt.keep {h h' : Heap} {items : Array Value} {ps : List (K × Value)} (x : PairsAt knd h items ps) (e : ∀ t o, h.get? t = some o -> o.cls = .type "tuple" -> h'.get? t = some o) : PairsAt knd h' items ps :=
 ⟨x.1, fun i p hp => let ⟨t, key, a, b, c⟩ := x.2 i p hp; ⟨t, key, a, (let ⟨o, e1, e2, r⟩ := b; ⟨o, e t o e1 e2, e2, r⟩), c⟩⟩
theorem dict_fill {it l d : Addr} {items : Array Value} {ps : List (K × Value)} {res : Value} (hh : A.handled = none) (nil' : it ≠ l) (nid : it ≠ d) (nld : l ≠ d) (few : ps.length <= sizeLine)
  (small : ∀ qs, qs.length <= ps.length -> (storeAll (qs : List (K × Value))).length <= qs.length) :
  ∀ (m i : Nat) (s : Shared) (tk : Tok), ps.length - i = m -> i <= ps.length -> s.heap.IsListIter it l i -> s.heap.IsList l items -> s.heap.DictOf knd d (storeAll (ps.take i)) -> PairsAt knd s.heap items ps ->
  (∀ h' tk', (∀ b o, b ≠ it -> b ≠ d -> s.heap.get? b = some o -> h'.get? b = some o) -> h'.DictOf knd d (storeAll ps) -> R (.ok (.ret res)) { s with heap := h', toks := tk' }) ->
  codeAny (model prog w) A (.builtin "dict.update.loop" ⟨[.ref d, .ref it, .int i tk, res], []⟩) R s := by
 intro m
 induction m with
 | zero =>
  intro i s tk hm hi hit hl hd hp hR
  have e : i = ps.length := by omega
  subst e
  rw [List.take_length] at hd
  refine codeAny_builtin entry_dul ?_
  rw [Around.under_plainId plain_dul _]
  show wpAny _ A.in1 (pyNext (.ref it) >>= _) _ _ s
  refine wpAny_bind (wpAny_pyNext_list_end (by simpa using hh) hit hl (Array.getElem?_eq_none (by rw [hp.1]; exact Nat.le_refl _)) fun h' ex => ?_)
  show wpAny _ _ (Builtin.Dict.addKeywords d [] >>= _) _ _ _
  refine wpAny_bind (wpAny_pure (wpAny_pure (hR h' s.toks (fun b o nb _ q => ex b o nb q) ?_)))
  obtain ⟨o, es, ep, ho, r⟩ := hd
  exact ⟨o, es, ep, ex d o (Ne.symm nid) ho, r⟩
 | succ m ih =>
  intro i s tk hm hi hit hl hd hp hR
  have lt : i < ps.length := by omega
  obtain ⟨t, key, e1, e2, e3⟩ := hp.2 i ps[i] (List.getElem?_eq_getElem lt)
  refine codeAny_builtin entry_dul ?_
  rw [Around.under_plainId plain_dul _]
  show wpAny _ A.in1 (pyNext (.ref it) >>= _) _ _ s
  refine wpAny_bind (wpAny_pyNext_list_item hit hl e1 fun h1 hit1 sb1 => ?_)
  obtain ⟨ot, et1, et2, nt, et3⟩ := e2
  have ntit : t ≠ it := fun z => by
   obtain ⟨oi, q1, q2, _⟩ := hit
   rw [z, q1] at et1
   cases et1
   rw [q2] at et2
   exact absurd (Value.type.inj et2) (by decide)
  have ntd : t ≠ d := fun z => by
   obtain ⟨od, q1, q2⟩ := (show s.TypeIs (.ref d) "dict" from hd.typeIs)
   rw [z, q1] at et1
   cases et1
   rw [q2] at et2
   exact absurd (Value.type.inj et2) (by decide)
  have et1' : h1.get? t = some ot := (sb1.2 t ntit).trans et1
  have hd1 : h1.DictOf knd d (storeAll (ps.take i)) := hd.sameBut sb1 (Ne.symm nid)
  refine wpAny_bind (wpAny_holding (wpAny_bind (wpAny_tryCatch ?_)))
  unfold Builtin.Dict.pairItems
  refine wpAny_bind (wpAny_typeOf_ref et1' ?_)
  rw [et2]
  refine wpAny_bind (wpAny_seqItems et1' et3 (wpAny_pure ?_))
  refine wpAny_holding (wpAny_dictSet_pairs e3 hd1 (fun h2 hd2 sb2 => ?_) ?_)
  ·refine wpAny_pure ⟨plainId_quiet plain_dul _, ih (i + 1) { s with heap := h2, toks := s.toks + 1 } 0 (by omega) (by omega) ?_ ?_ ?_ ?_ fun h' tk' kp dd => hR h' tk' (fun b o n1 n2 q => kp b o n1 n2 ((sb2.2 b n2).trans ((sb1.2 b n1).trans q))) dd⟩
   ·obtain ⟨o, q1, r⟩ := hit1
    exact ⟨o, (sb2.2 it nid).trans q1, r⟩
   ·obtain ⟨o, q1, r⟩ := hl
    exact ⟨o, (sb2.2 l nld).trans ((sb1.2 l (Ne.symm nil')).trans q1), r⟩
   ·rw [List.take_add_one, List.getElem?_eq_getElem lt]
    show h2.DictOf knd d (storeAll (ps.take i ++ [ps[i]]))
    rw [storeAll_snoc]
    exact hd2
   ·refine hp.keep fun b o q1 q2 => ?_
    have nb1 : b ≠ it := fun z => by
     obtain ⟨oi, r1, r2, _⟩ := hit
     rw [z, r1] at q1
     cases q1
     rw [r2] at q2
     exact absurd (Value.type.inj q2) (by decide)
    have nb2 : b ≠ d := fun z => by
     obtain ⟨od, r1, r2⟩ := (show s.TypeIs (.ref d) "dict" from hd.typeIs)
     rw [z, r1] at q1
     cases q1
     rw [r2] at q2
     exact absurd (Value.type.inj q2) (by decide)
    exact (sb2.2 b nb2).trans ((sb1.2 b nb1).trans q1)
  ·have h1 := small (ps.take i) (by rw [List.length_take]; omega)
   have h2 : (ps.take i).length <= ps.length := by rw [List.length_take]; omega
   omega
end
end L2
namespace L2
open PySem PySem.Spec PyProof.Rows
section
variable {prog : Program} {w : World} {A : Around} {E : Value -> Shared -> Prop} {K : Type} [DecidableEq K] {knd : KeyKind prog w K} {s : Shared}
theorem dict_of_pairs {l : Addr} {xs : Array Value} {k : Nat} {sl : Array (Option Value)} {ps : List (K × Value)} {Q : Value -> Shared -> Prop} (hh : A.handled = none) (hl : s.heap.get? l = some { cls := .type "list", dict := none, data := .seq xs k, slots := sl }) (hp : PairsAt knd s.heap xs ps) (few : ps.length <= sizeLine)
  (small : ∀ qs, qs.length <= ps.length -> (storeAll (qs : List (K × Value))).length <= qs.length)
  (h : ∀ h' tk, (∀ b o, s.heap.get? b = some o -> h'.get? b = some o) -> h'.DictOf knd s.heap.objs.size (storeAll ps) -> Q (.ref s.heap.objs.size) { s with heap := h', toks := tk }) :
  wpAny (model prog w) A (call (.type "dict") [.ref l]) Q E s := by
 refine callType_codes (Q₁ := fun obj s₁ => obj = .ref s.heap.objs.size /\ s₁ = { s with heap := s.heap.push { cls := .type "dict", data := .dict #[] } }) PySem.F.kt_called_dict (PySem.F.kt_typeCall_dict_1 _) PySem.F.entry_dict_init (kt_code_dict_new _ ⟨rfl, rfl⟩) ?_
 rintro obj s₁ ⟨rfl, rfl⟩
 have hnew : (s.heap.push { cls := .type "dict", data := .dict #[] }).DictOf knd s.heap.objs.size [] := Heap.DictOf.new s.heap
 refine ⟨hnew.typeIs, PySem.F.args_dict_init_2 _ _, ?_⟩
 unfold Builtin.«dict.__init__»
 refine wpAny_bind ?_
 unfold Builtin.Dict.selfAndRest
 refine wpAny_bind (wpAny_notOrdered_dict hnew.typeIs ?_)
 show wpAny _ _ (pure (s.heap.objs.size, [Value.ref l])) _ _ _
 refine wpAny_pure ?_
 show wpAny _ _ (Builtin.Dict.updateFrom "dict.__init__" s.heap.objs.size (.ref l) [] .none) _ _ _
 unfold Builtin.Dict.updateFrom
 have hl' : (s.heap.push { cls := .type "dict", data := .dict #[] }).get? l = some { cls := .type "list", dict := none, data := .seq xs k, slots := sl } := Heap.get?_push_of_some _ hl
 refine wpAny_bind (wpAny_typeOf_ref hl' ?_)
 rw [if_pos (show ((Value.type "list" : Value) != Value.type "dict") = true by decide)]
 refine wpAny_bind (list_keys (by simpa using hh) hl' fun h1 tk1 kp1 => ?_)
 rw [if_pos (show (none : Option Value).isNone = true from rfl)]
 refine wpAny_bind (wpAny_rule ?_)
 have hl1 := kp1 _ _ hl'
 have hd1 : h1.DictOf knd s.heap.objs.size [] := by
  obtain ⟨o, es, ep, ho, r⟩ := hnew
  exact ⟨o, es, ep, kp1 _ _ ho, r⟩
 refine wpAny_bind (wpAny_pyIter_list (items := xs) ⟨_, hl1, rfl, _, rfl⟩ ?_)
 have nl : l ≠ s.heap.objs.size := fun z => absurd (Heap.lt_size hl) (by rw [z]; exact Nat.lt_irrefl _)
 have sz : s.heap.objs.size < h1.objs.size := by
  obtain ⟨o, _, _, ho, _⟩ := hd1
  exact Heap.lt_size ho
 have nit : h1.objs.size ≠ l := fun z => absurd (Heap.lt_size hl1) (by rw [<- z]; exact Nat.lt_irrefl _)
 refine wpAny_pure ⟨plainId_quiet plain_dul _, dict_fill (knd := knd) (items := xs) (ps := ps) (by simpa using hh) nit (Nat.ne_of_gt sz) nl few small ps.length 0 _ 0 (Nat.sub_zero _) (Nat.zero_le _) ?_ ?_ ?_ ?_ fun h' tk' kp dd => ?_⟩
 ·exact ⟨_, Heap.get?_push_size _ rfl, rfl, rfl⟩
 ·exact ⟨_, Heap.get?_push_of_some _ hl1, rfl, _, rfl⟩
 ·exact hd1.push _
 ·exact (hp.keep fun t o q _ => kp1 _ _ (Heap.get?_push_of_some _ q)).keep fun t o q _ => Heap.get?_push_of_some _ q
 ·refine ⟨rfl, h h' tk' (fun b o q => ?_) dd⟩
  have lt := Heap.lt_size q
  exact kp b o (Nat.ne_of_lt (Nat.lt_trans lt sz)) (Nat.ne_of_lt lt) (Heap.get?_push_of_some _ (kp1 _ _ (Heap.get?_push_of_some _ q)))
end
end L2
namespace L2
open PySem PySem.Spec PyProof.Rows
def putAll (ps : List (Key × V)) : List (Key × V) := ps.foldl (fun kvs p => putK kvs p.1 p.2) []
theorem putAll_len (ps : List (Key × V)) : (putAll ps).length <= ps.length := by
 have : ∀ (ps kvs : List (Key × V)), (ps.foldl (fun kvs p => putK kvs p.1 p.2) kvs).length <= kvs.length + ps.length := by
  intro ps
  induction ps with
  | nil => intro kvs; simp
  | cons p r ih =>
   intro kvs
   have h1 := ih (putK kvs p.1 p.2)
   have h2 := length_putK kvs p.1 p.2
   rw [List.foldl_cons, List.length_cons]
   omega
 have := this ps []
 simpa [putAll] using this
theorem stored_len {K : Type} [DecidableEq K] (kvs : List (K × Value)) (k : K) (v : Value) : (stored kvs k v).length <= kvs.length + 1 := by
 unfold stored
 split <;> simp
theorem storeAll_len {K : Type} [DecidableEq K] (qs : List (K × Value)) : (storeAll qs).length <= qs.length := by
 have : ∀ (ps kvs : List (K × Value)), (ps.foldl (fun kvs p => stored kvs p.1 p.2) kvs).length <= kvs.length + ps.length := by
  intro ps
  induction ps with
  | nil => intro kvs; simp
  | cons p r ih =>
   intro kvs
   have h1 := ih (stored kvs p.1 p.2)
   have h2 := stored_len kvs p.1 p.2
   rw [List.foldl_cons, List.length_cons]
   omega
 have := this qs []
 simpa [storeAll] using this
section
variable {X : Cx} {pins : List (Addr × Obj)} {σ : St} {H : Hp} {s : Shared}
def rDictOf (K : PySem.W.Frag) : List V -> Hp -> VK -> Prop := fun vs H Q => ∃ l us ps, vs = [.ref l] /\ H l = some (.lst us) /\ us.length = ps.length /\ ps.length <= sizeLine /\ (∀ (i : Nat) (p : Key × V), ps[i]? = some p -> ∃ t, us[i]? = some (.ref t) /\ H t = some (.tup [kV p.1, p.2])) /\ ∀ d, H d = none -> Q (.ref d) (upd H d (.dK (putAll ps)))
theorem pairs_at {h : Heap} (ok : HOk X.prog X.w H h) : ∀ (us : List V) (its : List Value) (ps : List (Key × V)), Vals us its -> us.length = ps.length -> (∀ (i : Nat) (p : Key × V), ps[i]? = some p -> ∃ t, us[i]? = some (.ref t) /\ H t = some (.tup [kV p.1, p.2])) ->
  ∃ qs : List (Key × Value), KV ps qs /\ its.length = qs.length /\ ∀ (i : Nat) (q : Key × Value), qs[i]? = some q -> ∃ t key, its[i]? = some (.ref t) /\ h.IsTuple t #[key, q.2] /\ (mixKind X.prog X.w).is q.1 key = true
 | [], _, [], .nil, _, _ => ⟨[], .nil, rfl, fun i q hq => by simp at hq⟩
 | u :: us, _, [], _, hl, _ => by simp at hl
 | [], _, p :: ps, _, hl, _ => by simp at hl
 | u :: us, _, p :: ps, @Paired.cons _ _ _ _ y _ ys rx r, hl, hp => by
  obtain ⟨t, e1, e2⟩ := hp 0 p rfl
  obtain rfl : u = .ref t := by simpa using e1
  obtain ⟨qs, kv, ln, hq⟩ := pairs_at ok us ys ps r (by simpa using hl) fun i p' h' => by
   obtain ⟨t', a, b⟩ := hp (i + 1) p' (by simpa using h')
   exact ⟨t', by simpa using a, b⟩
  obtain ⟨_, jts, rj, o, h1, h2, n, h3⟩ := (show ObjOk X.prog X.w H h t (.tup [kV p.1, p.2]) from ok t _ e2)
  obtain ⟨k1, v1, rfl, r1, r2⟩ := vals2 rj
  cases rx
  refine ⟨(p.1, v1) :: qs, .cons ⟨rfl, r2⟩ kv, by simp [ln], fun i q h' => ?_⟩
  cases i with
  | zero =>
   have e : (p.1, v1) = q := by simpa using h'
   subst e
   exact ⟨t, k1, rfl, ⟨o, h1, h2, n, h3⟩, kV_is r1⟩
  | succ i => exact hq i q (by simpa using h')
theorem KV.all : ∀ {ps : List (Key × V)} {qs : List (Key × Value)}, KV ps qs -> KV (putAll ps) (storeAll qs) := by
 have : ∀ {ps : List (Key × V)} {qs : List (Key × Value)}, KV ps qs -> ∀ {a : List (Key × V)} {b : List (Key × Value)}, KV a b -> KV (ps.foldl (fun kvs p => putK kvs p.1 p.2) a) (qs.foldl (fun kvs p => stored kvs p.1 p.2) b) := by
  intro ps qs h
  induction h with
  | nil => intro a b h; exact h
  | cons hx _ ih =>
   intro a b h
   obtain ⟨e1, e2⟩ := hx
   rw [List.foldl_cons, List.foldl_cons, <- e1]
   exact ih (h.put _ e2)
 intro ps qs h
 exact this h .nil
theorem call_dict_of (hc : X.calm = true) : CallR X (.type "dict") (rDictOf X.K) := by
 intro pins s σ H xs us Q I r h
 obtain ⟨l, ys, ps, rfl, hl, ln, few, hp, q⟩ := h
 obtain ⟨u, rfl, rx⟩ := vals1 r
 cases rx
 obtain ⟨hz, its, c', r', e⟩ := (show ObjOk X.prog X.w H s.heap l (.lst ys) from I.hok l _ hl)
 obtain ⟨qs, kv, ln', hq⟩ := pairs_at I.hok ys its ps r' ln hp
 have kl := kv.length
 refine dict_of_pairs (knd := mixKind X.prog X.w) (ps := qs) (I.ok.hd hc) e ⟨by simpa using ln', fun i p hp => ?_⟩ (by omega) (fun qs _ => storeAll_len qs) fun h' tk kp dd => ?_
 ·obtain ⟨t, key, a, b, c⟩ := hq i p hp
  exact ⟨t, key, by simpa using a, b, c⟩
 ·have len := putAll_len ps
  refine ⟨.ref s.heap.objs.size, _, I.laid (t' := tk) kp (Nat.le_refl _) (dk_new (by omega) ?_ kv.all dd), rfl, q _ (I.hok.fresh (Nat.le_refl _))⟩
  exact (dk_empty s.heap I.big : ObjOk X.prog X.w H _ s.heap.objs.size (.dK [])).2.1
end
end L2
namespace Tr
open PySem PySem.Spec PyProof.Rows L2
abbrev sl (x : Str) : List Nat := x.cps.toList
theorem sl_app (x y : Str) : sl (x ++ y) = sl x ++ sl y := by
 show (x.cps ++ y.cps).toList = _
 simp
theorem sl_len (x : Str) : x.length = (sl x).length := rfl
theorem sl_slice (x : Str) (l u : Option Int) : sl (Txt.slice x l u) = ((sl x).drop (HT.sIx x.length 0 l)).take (HT.sIx x.length x.length u - HT.sIx x.length 0 l) := by
 have e : Builtin.Str.strSliceIndices l u 1 x.length = (List.range (HT.sIx x.length x.length u - HT.sIx x.length 0 l)).map (HT.sIx x.length 0 l + ·) := by
  rw [<- sliceRange_one]
  unfold Builtin.Str.strSliceIndices
  simp only [show (1 : Int) > 0 by decide, if_true]
  congr 1
  ·cases l with
   | none => rfl
   | some i =>
    simp only [HT.sIx]
    split <;> omega
  ·cases u with
   | none => rfl
   | some i =>
    simp only [HT.sIx]
    split <;> omega
 unfold Txt.slice
 rw [e]
 split
 ·rename_i h
  simp only [List.length_map, List.length_range, Bool.and_eq_true, beq_iff_eq] at h
  have h1 := HT.sIx_le x.length 0 (Nat.zero_le _) l
  have h2 := HT.sIx_le x.length x.length (Nat.le_refl _) u
  by_cases z : x.length = 0
  ·have : sl x = [] := List.length_eq_zero_iff.mp z
   rw [this]
   simp
  ·have a0 : HT.sIx x.length 0 l = 0 := by omega
   have b0 : HT.sIx x.length x.length u = x.length := by omega
   rw [a0, b0]
   simp only [List.drop_zero, Nat.sub_zero]
   exact (List.take_length).symm
 ·show (((List.range _).map _).filterMap (x.cps[·]?)).toArray.toList = _
  rw [pick_run]
theorem sl_take {x : Str} {k : Int} (h : 0 <= k) : sl (Txt.slice x none (some k)) = (sl x).take k.toNat := by
 obtain ⟨n, rfl⟩ := Int.eq_ofNat_of_zero_le h
 rw [sl_slice]
 simp only [HT.sIx_none, List.drop_zero, Nat.sub_zero]
 rw [show (some (n : Int)) = some ((n : Nat) : Int) from rfl, HT.sIx_nat]
 show _ = (sl x).take n
 rw [List.take_eq_take_iff]
 show min (min n (sl x).length) _ = _
 omega
theorem alpha_is {j : Int} (h1 : 0 <= j) (h2 : j < 26) : alphaAt j = 97 + j.toNat := by
 obtain ⟨n, rfl⟩ := Int.eq_ofNat_of_zero_le h1
 have all : ∀ n : _root_.Fin 26, letters.cps.toList.getD n.1 0 = 97 + n.1 := by decide +kernel
 exact all ⟨n, by omega⟩
theorem kws_last : ∀ w ∈ kws, sl w = (sl w).dropLast ++ [(sl w).getLastD 97] /\ 2 <= (sl w).length := by decide +kernel
theorem sl_spelt (w : Str) : sl (speltV w) = sl w \/ (2 <= (sl w).length /\ sl (speltV w) = (sl w).dropLast ++ [alphaAt ((lastIx w + 13) % 26)]) := by
 unfold speltV
 split
 ·rename_i h
  obtain ⟨e, h2⟩ := kws_last w h
  refine .inr ⟨h2, ?_⟩
  rw [sl_app, sl_slice]
  simp only [HT.sIx_none, List.drop_zero, Nat.sub_zero]
  have : HT.sIx w.length w.length (some (-1)) = (sl w).length - 1 := by
   simp only [HT.sIx, show ((-1 : Int) < 0) by decide, if_true]
   rw [sl_len]
   omega
  rw [this, List.dropLast_eq_take]
  rfl
 ·exact .inl rfl
theorem spelt_length (w : Str) : (sl (speltV w)).length = (sl w).length := by
 rcases sl_spelt w with h | ⟨h2, h⟩
 ·rw [h]
 ·rw [h, List.length_append, List.length_dropLast, List.length_singleton]
  omega
theorem spelt_at {w : Str} {p : Nat} {m : Int} (h1 : 0 <= m) (h2 : m < 26) (e : (sl w)[p]? = some (alphaAt m)) : (sl (speltV w))[p]? = some (alphaAt m) \/ (sl (speltV w))[p]? = some (alphaAt ((m + 13) % 26)) := by
 rcases sl_spelt w with h | ⟨hl, h⟩
 ·rw [h]; exact .inl e
 ·obtain ⟨hp, ep⟩ := List.getElem?_eq_some_iff.mp e
  rw [h]
  by_cases q : p = (sl w).length - 1
  ·refine .inr ?_
   have hlast : (sl w).getLastD 97 = alphaAt m := by
    rw [<- ep, List.getLastD_eq_getLast?, List.getLast?_eq_getElem?, <- q, e, <- ep]
    rfl
   have : lastIx w = m := by
    unfold lastIx
    show (((sl w).getLastD 97 : Nat) : Int) - 97 = m
    rw [hlast, alpha_is h1 h2]
    omega
   rw [this, List.getElem?_append_right (by rw [List.length_dropLast]; omega), List.length_dropLast, show p - ((sl w).length - 1) = 0 by omega]
   rfl
  ·refine .inl ?_
   rw [List.getElem?_append_left (by rw [List.length_dropLast]; omega), List.getElem?_dropLast, if_pos (by omega)]
   exact e
theorem apart {q i j : Int} (hi : 0 <= i /\ i < 13) (hj : 0 <= j /\ j < 13) (ne : i ≠ j) {a b : Nat} (ha : a = alphaAt ((q + i) % 26) \/ a = alphaAt (((q + i) % 26 + 13) % 26)) (hb : b = alphaAt ((q + j) % 26) \/ b = alphaAt (((q + j) % 26 + 13) % 26)) : a ≠ b := by
 intro e
 have z1 := alpha_is (j := (q + i) % 26) (by omega) (by omega)
 have z2 := alpha_is (j := ((q + i) % 26 + 13) % 26) (by omega) (by omega)
 have z3 := alpha_is (j := (q + j) % 26) (by omega) (by omega)
 have z4 := alpha_is (j := ((q + j) % 26 + 13) % 26) (by omega) (by omega)
 rcases ha with rfl | rfl <;> rcases hb with rfl | rfl <;> omega
theorem letters_length (n : Int) : ∀ k, (sl (lettersV n k)).length = k
 | 0 => rfl
 | k + 1 => by rw [lettersV, sl_app, List.length_append, letters_length n k]; rfl
theorem pool_apart (c : Int) {i j : Nat} (hi : i < 8) (hj : j < 8) (ne : i ≠ j) : speltV (poolWord c i) ≠ speltV (poolWord c j) := by
 intro e
 have e' := congrArg sl e
 have sg : ∀ k : Nat, sl (poolSign c k) = [alphaAt ((mixed c 1 / 192 + k) % 26)] := fun _ => rfl
 have bl : (sl (poolBase c)).length = 8 := letters_length _ 8
 by_cases h0 : mixed c 1 % 3 = 0
 ·have s1 : 1 <= poolSize c /\ poolSize c <= 8 := by unfold poolSize; omega
  have a1 : 0 <= poolAt c /\ poolAt c < poolSize c := by
   unfold poolAt
   exact ⟨Int.emod_nonneg _ (by omega), Int.emod_lt_of_pos _ (by omega)⟩
  have at_ : ∀ k : Nat, (sl (poolWord c k))[(poolAt c).toNat]? = some (alphaAt ((mixed c 1 / 192 + k) % 26)) := fun k => by
   unfold poolWord
   rw [if_pos h0, sl_app, sl_app, sl_take a1.1, sg, List.append_assoc, List.getElem?_append_right (by rw [List.length_take]; omega), List.length_take, bl, show (poolAt c).toNat - min (poolAt c).toNat 8 = 0 by omega]
   rfl
  have x := spelt_at (by omega) (by omega) (at_ i)
  have y := spelt_at (by omega) (by omega) (at_ j)
  rw [<- e'] at y
  rcases x with x | x <;> rcases y with y | y <;> rw [x] at y <;> refine apart (q := mixed c 1 / 192) (i := i) (j := j) (by omega) (by omega) (by omega) ?_ ?_ (Option.some.inj y) <;> simp
 ·by_cases h1 : mixed c 1 % 3 = 1
  ·have ln : ∀ k : Nat, ((sl (speltV (poolWord c k))).length : Int) = 1 + (mixed c 1 / 24 + k) % 8 := fun k => by
    rw [spelt_length]
    unfold poolWord
    rw [if_neg h0, if_pos h1, sl_take (by omega), List.length_take, bl]
    omega
   have x := ln i
   have y := ln j
   rw [e'] at x
   omega
  ·have at_ : ∀ k : Nat, (sl (poolWord c k))[0]? = some (alphaAt ((mixed c 1 / 192 + k) % 26)) := fun k => by
    unfold poolWord
    rw [if_neg h0, if_neg h1, sl_take (by omega), sl_app, sg, List.getElem?_take, if_pos (by omega)]
    rfl
   have x := spelt_at (by omega) (by omega) (at_ i)
   have y := spelt_at (by omega) (by omega) (at_ j)
   rw [<- e'] at y
   rcases x with x | x <;> rcases y with y | y <;> rw [x] at y <;> refine apart (q := mixed c 1 / 192) (i := i) (j := j) (by omega) (by omega) (by omega) ?_ ?_ (Option.some.inj y) <;> simp
theorem pool_nodup (c : Int) {n : Nat} (h : n <= 8) : (poolV c n).Nodup := by
 have up : (poolUp c n).Nodup := by
  unfold poolUp
  refine List.pairwise_map.mpr (List.Pairwise.imp_of_mem (fun {a b} ha hb lt => ?_) (List.pairwise_lt_range (n := n)))
  have h1 := List.mem_range.mp ha
  have h2 := List.mem_range.mp hb
  exact pool_apart c (by omega) (by omega) (by omega)
 unfold poolV
 split
 ·exact List.pairwise_reverse.mpr (List.Pairwise.imp (fun h => Ne.symm h) up)
 ·exact up
end Tr
namespace L2
open PySem PySem.Spec PyProof.Rows
section
variable {X : Cx}
theorem op_in_dk : OpR X (compareOp .In) (fun x y H Q => ∃ a kvs k, y = .ref a /\ H a = some (.dK kvs) /\ x = kV k /\ Q (.bl (valV kvs k).isSome) H) := by
 intro pins s σ H x y v u Q I rx ry h
 obtain ⟨a, kvs, k, rfl, hd, rfl, q⟩ := h
 cases ry
 obtain ⟨_, ne, vs, rel, dd⟩ := dk_of I.hok hd
 refine wpAny_in_of (kV_is rx) ne dd.mapOf ⟨.bl _, H, I.tok _, ?_, q⟩
 rw [<- (rel.val k).isSome_eq]
 rfl
theorem ix_dk : IxR X (fun x y H Q => ∃ a kvs k v, x = .ref a /\ H a = some (.dK kvs) /\ y = kV k /\ valV kvs k = some v /\ Q v H) := by
 intro value slice pins s σ H x y v u Q I rx ry h hs
 obtain ⟨a, kvs, k, z, rfl, hd, rfl, e, q⟩ := h
 cases rx
 obtain ⟨_, ne, vs, rel, dd⟩ := dk_of I.hok hd
 obtain ⟨w', hw, rw'⟩ := RelO.some_of (v := z) (o := valueAt vs k) (by rw [<- e]; exact rel.val k)
 exact tail_any dd.typeIs PySem.F.slot_dict_getitem.lookup (wpAny_getItem_of (kV_is ry) dd.mapOf hw ⟨z, H, I.tok _, rw', q⟩) hs
end
end L2
namespace Tr
open PySem PySem.Spec PyProof.Rows L2
abbrev Wat := Int × Str × Str
abbrev watV (e : Wat) : HO := .tup [.int e.1, .str e.2.1, .str e.2.2]
inductive RWs (H : Hp) : List V -> List Wat -> Prop
 | nil : RWs H [] []
 | cons {p : Addr} {vs : List V} {e : Wat} {es : List Wat} : H p = some (watV e) -> RWs H vs es -> RWs H (.ref p :: vs) (e :: es)
theorem RWs.same {H H' : Hp} (s : Same H H') : ∀ {vs : List V} {es : List Wat}, RWs H vs es -> RWs H' vs es
 | _, _, .nil => .nil
 | _, _, .cons h r => .cons (s _ _ h) (RWs.same s r)
theorem RWs.snoc {H : Hp} {p : Addr} {e : Wat} (h : H p = some (watV e)) : ∀ {vs : List V} {es : List Wat}, RWs H vs es -> RWs H (vs ++ [.ref p]) (es ++ [e])
 | _, _, .nil => .cons h .nil
 | _, _, .cons h' r => .cons h' (RWs.snoc h r)
theorem RWs.app {H : Hp} {us : List V} {fs : List Wat} (h : RWs H us fs) : ∀ {vs : List V} {es : List Wat}, RWs H vs es -> RWs H (vs ++ us) (es ++ fs)
 | _, _, .nil => h
 | _, _, .cons h' r => .cons h' (RWs.app h r)
theorem RWs.len {H : Hp} : ∀ {vs : List V} {es : List Wat}, RWs H vs es -> vs.length = es.length
 | _, _, .nil => rfl
 | _, _, .cons _ t => congrArg (· + 1) (RWs.len t)
theorem RWs.off {H : Hp} {c : Addr} {xs : List V} {o : HO} (hc : H c = some (.lst xs)) : ∀ {vs : List V} {es : List Wat}, RWs H vs es -> RWs (upd H c o) vs es
 | _, _, .nil => .nil
 | _, _, .cons (p := p) h r => .cons (by rw [upd_ne (fun z => by rw [z, hc] at h; cases h)]; exact h) (RWs.off hc r)
def byOf (ow : Str -> Option Int) (kd : Str) (cs : List Str) : List Wat := cs.filterMap fun c => (ow c).map fun n => (n, kd, c)
theorem byOf_snoc (ow : Str -> Option Int) (kd c : Str) (cs : List Str) : byOf ow kd (cs ++ [c]) = byOf ow kd cs ++ ((ow c).map fun n => (n, kd, c)).toList := by
 unfold byOf
 rw [List.filterMap_append, List.filterMap_cons, List.filterMap_nil]
 cases ow c <;> rfl
theorem byOf_len (ow : Str -> Option Int) (kd : Str) (cs : List Str) : (byOf ow kd cs).length <= cs.length := List.length_filterMap_le _ _
def Owned (kvs : List (Key × V)) (ow : Str -> Option Int) : Prop := ∀ c : Str, valV kvs (.inr c) = (ow c).map V.int
inductive RWL (H : Hp) : List V -> List (List Wat) -> Prop
 | nil : RWL H [] []
 | cons {p : Addr} {us vs : List V} {es : List Wat} {ws : List (List Wat)} : H p = some (.lst us) -> RWs H us es -> RWL H vs ws -> RWL H (.ref p :: vs) (es :: ws)
theorem RWL.same {H H' : Hp} (s : Same H H') : ∀ {vs : List V} {ws : List (List Wat)}, RWL H vs ws -> RWL H' vs ws
 | _, _, .nil => .nil
 | _, _, .cons h h' r => .cons (s _ _ h) (h'.same s) (RWL.same s r)
theorem RWL.snoc {H : Hp} {p : Addr} {us : List V} {es : List Wat} (h : H p = some (.lst us)) (h' : RWs H us es) : ∀ {vs : List V} {ws : List (List Wat)}, RWL H vs ws -> RWL H (vs ++ [.ref p]) (ws ++ [es])
 | _, _, .nil => .cons h h' .nil
 | _, _, .cons a b r => .cons a b (RWL.snoc h h' r)
theorem RWL.len {H : Hp} : ∀ {vs : List V} {ws : List (List Wat)}, RWL H vs ws -> vs.length = ws.length
 | _, _, .nil => rfl
 | _, _, .cons _ _ t => congrArg (· + 1) (RWL.len t)
def lastOf (rs : List Row) (c : Str) : Option Int := rs.zipIdx.foldl (fun o p => if c ∈ p.1.owns then some (p.2 : Int) else o) none
theorem lastOf_snoc (rs : List Row) (r : Row) (c : Str) : lastOf (rs ++ [r]) c = if c ∈ r.owns then some (rs.length : Int) else lastOf rs c := by
 unfold lastOf
 rw [List.zipIdx_append, List.foldl_append]
 simp
def cardWaits (rs : List Row) (r : Row) : List Wat := byOf (lastOf rs) "card" r.owns ++ byOf (lastOf rs) "copy" r.reads
def allCardWaits (rs : List Row) : Nat -> List (List Wat)
 | 0 => []
 | i + 1 => allCardWaits rs i ++ ((rs[i]?).map fun r => cardWaits (rs.take i) r).toList
theorem RWL.off {H : Hp} {c : Addr} {xs : List V} {o : HO} (hc : H c = some (.lst xs)) : ∀ {vs : List V} {ws : List (List Wat)}, RWL H vs ws -> (∀ v ∈ vs, v ≠ .ref c) -> RWL (upd H c o) vs ws
 | _, _, .nil, _ => .nil
 | _, _, .cons (p := p) h h' r, ne => .cons (by rw [upd_ne (fun z => ne (.ref p) List.mem_cons_self (by rw [z]))]; exact h) (h'.off hc) (RWL.off hc r fun v hv => ne v (List.mem_cons_of_mem _ hv))
theorem RWs.offD {H : Hp} {c : Addr} {kvs : List (Key × V)} {o : HO} (hc : H c = some (.dK kvs)) : ∀ {vs : List V} {es : List Wat}, RWs H vs es -> RWs (upd H c o) vs es
 | _, _, .nil => .nil
 | _, _, .cons (p := p) h r => .cons (by rw [upd_ne (fun z => by rw [z, hc] at h; cases h)]; exact h) (RWs.offD hc r)
theorem RWL.offD {H : Hp} {c : Addr} {kvs : List (Key × V)} {o : HO} (hc : H c = some (.dK kvs)) : ∀ {vs : List V} {ws : List (List Wat)}, RWL H vs ws -> RWL (upd H c o) vs ws
 | _, _, .nil => .nil
 | _, _, .cons (p := p) h h' r => .cons (by rw [upd_ne (fun z => by rw [z, hc] at h; cases h)]; exact h) (h'.offD hc) (RWL.offD hc r)
theorem allCardWaits_len (rs : List Row) : ∀ i, i <= rs.length -> (allCardWaits rs i).length = i
 | 0, _ => rfl
 | i + 1, h => by rw [allCardWaits, List.length_append, allCardWaits_len rs i (by omega), List.getElem?_eq_getElem (by omega)]; rfl
def owning (ow : Str -> Option Int) (n : Int) (cs : List Str) : Str -> Option Int := fun c => if c ∈ cs then some n else ow c
theorem Owned.put {kvs : List (Key × V)} {ow : Str -> Option Int} {n : Int} {cs : List Str} {c : Str} (h : Owned kvs (owning ow n cs)) : Owned (putK kvs (.inr c) (.int n)) (owning ow n (cs ++ [c])) := fun q => by
 rw [valV_put]
 unfold owning
 by_cases e : q = c
 ·subst e
  rw [if_pos rfl, if_pos (by simp)]
  rfl
 ·rw [if_neg (fun z => e (Sum.inr.inj z)), h q]
  unfold owning
  by_cases m : q ∈ cs
  ·rw [if_pos m, if_pos (by simp [m])]
  ·rw [if_neg m, if_neg (by simp [m, e])]
end Tr
namespace Tr
open PySem PySem.Spec PyProof.Rows L2
def numsOf (f : Row -> Option Str) (rs : List Row) (q : Str) : List Int := rs.zipIdx.filterMap fun p => if f p.1 = some q then some (p.2 : Int) else none
theorem numsOf_snoc (f : Row -> Option Str) (rs : List Row) (r : Row) (q : Str) : numsOf f (rs ++ [r]) q = numsOf f rs q ++ (if f r = some q then [(rs.length : Int)] else []) := by
 unfold numsOf
 rw [List.zipIdx_append, List.filterMap_append]
 congr 1
 by_cases h : f r = some q <;> simp [h]
theorem numsOf_len (f : Row -> Option Str) (rs : List Row) (q : Str) : (numsOf f rs q).length <= rs.length := by
 unfold numsOf
 refine Nat.le_trans (List.length_filterMap_le _ _) ?_
 rw [List.length_zipIdx]
 exact Nat.le_refl _
structure RN (H : Hp) (kvs : List (Key × V)) (m : Str -> List Int) : Prop where
 at_ : ∀ q : Str, (valV kvs (.inr q) = none /\ m q = []) \/ ∃ p, valV kvs (.inr q) = some (.ref p) /\ H p = some (.lst ((m q).map V.int))
 one : ∀ (q q' : Str) (p : Addr), valV kvs (.inr q) = some (.ref p) -> valV kvs (.inr q') = some (.ref p) -> q = q'
theorem RN.same {H H' : Hp} {kvs : List (Key × V)} {m : Str -> List Int} (s : Same H H') (h : RN H kvs m) : RN H' kvs m :=
 ⟨fun q => (h.at_ q).imp id fun ⟨p, a, b⟩ => ⟨p, a, s _ _ b⟩, h.one⟩
theorem RN.eq {H : Hp} {kvs : List (Key × V)} {m m' : Str -> List Int} (h : RN H kvs m) (e : ∀ q, m' q = m q) : RN H kvs m' :=
 ⟨fun q => by rw [e q]; exact h.at_ q, h.one⟩
theorem RN.old {H : Hp} {kvs : List (Key × V)} {m m' : Str -> List Int} {q : Str} {p : Addr} {n : Int} (h : RN H kvs m) (hv : valV kvs (.inr q) = some (.ref p)) (e : m' q = m q ++ [n]) (e' : ∀ q', q' ≠ q -> m' q' = m q') : RN (upd H p (.lst ((m q).map V.int ++ [.int n]))) kvs m' := by
 refine ⟨fun q' => ?_, h.one⟩
 by_cases z : q' = q
 ·subst z
  refine .inr ⟨p, hv, ?_⟩
  rw [upd_same, e, List.map_append]
  rfl
 ·rw [e' q' z]
  rcases h.at_ q' with a | ⟨p', a, b⟩
  ·exact .inl a
  ·refine .inr ⟨p', a, ?_⟩
   rw [upd_ne (fun y => z (h.one q' q p (by rw [a, y]) hv))]
   exact b
theorem RN.new {H : Hp} {kvs : List (Key × V)} {m m' : Str -> List Int} {q : Str} {d l : Addr} {n : Int} {o : HO} (h : RN H kvs m) (hd : H d = some (.dK kvs)) (hl : H l = none) (hv : valV kvs (.inr q) = none) (e : m' q = [n]) (e' : ∀ q', q' ≠ q -> m' q' = m q') : RN (upd (upd (upd H l o) d (.dK (putK kvs (.inr q) (.ref l)))) l (.lst [.int n])) (putK kvs (.inr q) (.ref l)) m' := by
 have val : ∀ q' : Str, valV (putK kvs (.inr q) (.ref l)) (.inr q') = if q' = q then some (.ref l) else valV kvs (.inr q') := fun q' => by
  rw [valV_put]
  by_cases z : q' = q
  ·rw [if_pos z, if_pos (by rw [z])]
  ·rw [if_neg z, if_neg (fun y => z (Sum.inr.inj y))]
 have old : ∀ (q' : Str) (p : Addr), valV kvs (.inr q') = some (.ref p) -> p ≠ l := fun q' p hp z => by
  rcases h.at_ q' with ⟨a, _⟩ | ⟨p', a, b⟩
  ·rw [a] at hp; cases hp
  ·rw [a] at hp
   cases hp
   rw [z, hl] at b
   cases b
 refine ⟨fun q' => ?_, fun q1 q2 p h1 h2 => ?_⟩
 ·rw [val]
  by_cases z : q' = q
  ·rw [if_pos z, z, e]
   exact .inr ⟨l, rfl, upd_same⟩
  ·rw [if_neg z, e' q' z]
   rcases h.at_ q' with a | ⟨p', a, b⟩
   ·exact .inl a
   ·refine .inr ⟨p', a, ?_⟩
    have nl := old q' p' a
    have nd : p' ≠ d := fun y => by rw [y, hd] at b; cases b
    rw [upd_ne nl, upd_ne nd, upd_ne nl]
    exact b
 ·rw [val] at h1 h2
  by_cases z1 : q1 = q <;> by_cases z2 : q2 = q
  ·rw [z1, z2]
  ·rw [if_pos z1] at h1
   rw [if_neg z2] at h2
   cases h1
   exact absurd rfl (old _ _ h2)
  ·rw [if_neg z1] at h1
   rw [if_pos z2] at h2
   cases h2
   exact absurd rfl (old _ _ h1)
  ·rw [if_neg z1] at h1
   rw [if_neg z2] at h2
   exact h.one _ _ _ h1 h2
end Tr
namespace Tr
open PySem PySem.Spec PyProof.Rows L2
def addAt (W : List (List Wat)) (i : Nat) (e : Wat) : List (List Wat) := W.modify i (· ++ [e])
theorem addAt_len (W : List (List Wat)) (i : Nat) (e : Wat) : (addAt W i e).length = W.length := List.length_modify ..
theorem addAt_at (W : List (List Wat)) (i j : Nat) (e : Wat) : (addAt W i e)[j]? = (W[j]?).map fun es => if i = j then es ++ [e] else es := by
 unfold addAt
 rw [List.getElem?_modify]
 by_cases h : i = j
 ·simp [h]
 ·simp [h]
structure RWM (H : Hp) (as : List Addr) (W : List (List Wat)) : Prop where
 nd : as.Nodup
 len : as.length = W.length
 at_ : ∀ (i : Nat) (p : Addr) (es : List Wat), as[i]? = some p -> W[i]? = some es -> ∃ us, H p = some (.lst us) /\ RWs H us es
theorem RWM.same {H H' : Hp} {as : List Addr} {W : List (List Wat)} (s : Same H H') (h : RWM H as W) : RWM H' as W :=
 ⟨h.nd, h.len, fun i p es a b => let ⟨us, c, d⟩ := h.at_ i p es a b; ⟨us, s _ _ c, d.same s⟩⟩
theorem RWM.lists {H : Hp} : ∀ {as : List Addr} {W : List (List Wat)}, as.length = W.length -> (∀ (i : Nat) (p : Addr) (es : List Wat), as[i]? = some p -> W[i]? = some es -> ∃ us, H p = some (.lst us) /\ RWs H us es) -> RWL H (as.map V.ref) W
 | [], [], _, _ => .nil
 | [], _ :: _, h, _ => by simp at h
 | _ :: _, [], h, _ => by simp at h
 | p :: as, es :: W, h, g => by
  obtain ⟨us, a, b⟩ := g 0 p es rfl rfl
  exact .cons a b (RWM.lists (by simpa using h) fun i p' es' x y => g (i + 1) p' es' (by simpa using x) (by simpa using y))
theorem RWM.rwl {H : Hp} {as : List Addr} {W : List (List Wat)} (h : RWM H as W) : RWL H (as.map V.ref) W := RWM.lists h.len h.at_
theorem RWM.add {H : Hp} {as : List Addr} {W : List (List Wat)} {n : Nat} {p t : Addr} {us : List V} {e : Wat} (h : RWM H as W) (hp : as[n]? = some p) (hu : H p = some (.lst us)) (ht : H t = some (watV e)) : RWM (upd H p (.lst (us ++ [.ref t]))) as (addAt W n e) := by
 refine ⟨h.nd, by rw [addAt_len]; exact h.len, fun i p' es hi hw => ?_⟩
 rw [addAt_at] at hw
 cases ew : W[i]? with
 | none => rw [ew] at hw; cases hw
 | some es0 =>
  rw [ew] at hw
  obtain ⟨us', a, b⟩ := h.at_ i p' es0 hi ew
  by_cases z : n = i
  ·subst z
   rw [hp] at hi
   cases hi
   rw [hu] at a
   cases a
   have : es0 ++ [e] = es := by simpa using hw
   subst this
   exact ⟨_, upd_same, (b.off hu).snoc (by rw [upd_ne (fun y => by rw [y, hu] at ht; cases ht)]; exact ht)⟩
  ·have : es0 = es := by simpa [z] using hw
   subst this
   have np : p' ≠ p := fun y => z (by
    obtain ⟨l1, e1⟩ := List.getElem?_eq_some_iff.mp hp
    obtain ⟨l2, e2⟩ := List.getElem?_eq_some_iff.mp hi
    exact (List.getElem_inj h.nd).mp (by rw [e1, e2, y]))
   exact ⟨us', by rw [upd_ne np]; exact a, b.off hu⟩
def Sm (W : List (List Wat)) (n : Nat) : Prop := ∀ (i : Nat) (es : List Wat), W[i]? = some es -> es.length <= n
theorem Sm.add {W : List (List Wat)} {n i : Nat} {e : Wat} (h : Sm W n) : Sm (addAt W i e) (n + 1) := fun j es hj => by
 rw [addAt_at] at hj
 cases ew : W[j]? with
 | none => rw [ew] at hj; cases hj
 | some es0 =>
  rw [ew] at hj
  have := h j es0 ew
  have e2 : (if i = j then es0 ++ [e] else es0) = es := by simpa using hj
  rw [<- e2]
  split
  ·rw [List.length_append, List.length_singleton]; omega
  ·omega
theorem Sm.mono {W : List (List Wat)} {n m : Nat} (h : Sm W n) (l : n <= m) : Sm W m := fun i es a => Nat.le_trans (h i es a) l
def thingsW (q : Str) (ps gs : List Int) (W : List (List Wat)) : Nat -> List (List Wat)
 | 0 => W
 | k + 1 => addAt (thingsW q ps gs W k) (gs.getD k 0).toNat (ps.getD k 0, "thing", q)
def awaited (n : Nat) (gs : List Int) (k : Nat) : Int := if k < gs.length then gs.getD k 0 else (n : Int) - 1
def roomsW (q : Str) (n : Nat) (cs gs : List Int) (W : List (List Wat)) : Nat -> List (List Wat)
 | 0 => W
 | k + 1 => addAt (roomsW q n cs gs W k) (cs.getD k 0).toNat (awaited n gs k, "room", q)
def behindOne (rs : List Row) (s : Str × Int) (W : List (List Wat)) : List (List Wat) :=
 roomsW s.1 rs.length ((numsOf Row.into rs s.1).drop s.2.toNat) (numsOf Row.outof rs s.1) (thingsW s.1 (numsOf Row.into rs s.1) (numsOf Row.outof rs s.1) W (min (numsOf Row.into rs s.1).length (numsOf Row.outof rs s.1).length)) ((numsOf Row.into rs s.1).drop s.2.toNat).length
def behindUp (rs : List Row) (ss : List (Str × Int)) (W : List (List Wat)) : Nat -> List (List Wat)
 | 0 => W
 | j + 1 => behindOne rs (ss.getD j ("", 0)) (behindUp rs ss W j)
theorem numsOf_mem {f : Row -> Option Str} {rs : List Row} {q : Str} {k : Nat} {n : Int} (h : (numsOf f rs q)[k]? = some n) : 0 <= n /\ n.toNat < rs.length /\ ∃ r, rs[n.toNat]? = some r /\ f r = some q := by
 have m := List.mem_of_getElem? h
 unfold numsOf at m
 obtain ⟨⟨r, i⟩, hi, e⟩ := List.mem_filterMap.mp m
 by_cases z : f r = some q
 ·have e' : (i : Int) = n := by simpa [z] using e
  subst e'
  have := List.mem_zipIdx_iff_getElem?.mp hi
  exact ⟨by omega, (List.getElem?_eq_some_iff.mp this).1, r, this, z⟩
 ·simp [z] at e
end Tr
namespace Tr
open PySem PySem.Spec PyProof.Rows L2
theorem RWL.at {H : Hp} : ∀ {vs : List V} {ws : List (List Wat)}, RWL H vs ws -> ∀ (i : Nat) (v : V), vs[i]? = some v -> ∃ p us es, v = .ref p /\ H p = some (.lst us) /\ RWs H us es /\ ws[i]? = some es
 | _, _, .nil, i, v, h => by simp at h
 | _, _, .cons (p := p) (us := us) (es := es) a b r, 0, v, h => ⟨p, us, es, by simpa using h.symm, a, b, rfl⟩
 | _, _, .cons _ _ r, i + 1, v, h => RWL.at r i v (by simpa using h)
theorem RWM.push {H : Hp} {as : List Addr} {W : List (List Wat)} {l : Addr} {us : List V} {es : List Wat} (h : RWM H as W) (hl : H l = none) (w : RWs H us es) : RWM (upd H l (.lst us)) (as ++ [l]) (W ++ [es]) := by
 have s : Same H (upd H l (.lst us)) := Same.new hl _
 have old : l ∉ as := fun m => by
  obtain ⟨i, hi, e⟩ := List.mem_iff_getElem.mp m
  have hiw : i < W.length := by rw [<- h.len]; exact hi
  obtain ⟨us', c, _⟩ := h.at_ i l W[i] (by rw [List.getElem?_eq_getElem hi, e]) (List.getElem?_eq_getElem hiw)
  rw [hl] at c
  cases c
 refine ⟨List.nodup_append.mpr ⟨h.nd, by simp, fun a ha b hb z => ?_⟩, by simp [h.len], fun i p es' hi hw => ?_⟩
 ·rw [List.mem_singleton.mp hb] at z
  exact old (z ▸ ha)
 ·by_cases lt : i < as.length
  ·rw [List.getElem?_append_left lt] at hi
   rw [List.getElem?_append_left (by rw [<- h.len]; exact lt)] at hw
   exact (h.same s).at_ i p es' hi hw
  ·have : i = as.length := by
    have := (List.getElem?_eq_some_iff.mp hi).1
    simp at this
    omega
   subst this
   rw [List.getElem?_append_right (Nat.le_refl _), Nat.sub_self] at hi
   rw [h.len, List.getElem?_append_right (Nat.le_refl _), Nat.sub_self] at hw
   cases hi
   cases hw
   exact ⟨us, upd_same, w.same s⟩
theorem RWM.there {H : Hp} {as : List Addr} {W : List (List Wat)} {p : Addr} (h : RWM H as W) (m : p ∈ as) : ∃ us, H p = some (.lst us) := by
 obtain ⟨i, hi, e⟩ := List.mem_iff_getElem.mp m
 have hiw : i < W.length := by rw [<- h.len]; exact hi
 obtain ⟨us', c, _⟩ := h.at_ i p W[i] (by rw [List.getElem?_eq_getElem hi, e]) (List.getElem?_eq_getElem hiw)
 exact ⟨us', c⟩
def cutH (as : List Addr) (H : Hp) : Hp := fun a => if a ∈ as then none else H a
theorem cutH_same (as : List Addr) (H : Hp) : Same (cutH as H) H := fun a o h => by
 unfold cutH at h
 split at h
 ·cases h
 ·exact h
theorem cutH_at {as : List Addr} {H : Hp} {a : Addr} {o : HO} (h : H a = some o) (n : a ∉ as) : cutH as H a = some o := by
 unfold cutH
 rw [if_neg n]
 exact h
theorem cutH_no {as : List Addr} {H : Hp} {a : Addr} (m : a ∈ as) : cutH as H a = none := if_pos m
theorem cutH_over {as : List Addr} {H0 H : Hp} (s : Same H0 H) (f : ∀ p ∈ as, H0 p = none) : Same H0 (cutH as H) := fun a o h => cutH_at (s _ _ h) fun m => by rw [f a m] at h; cases h
theorem RN.cut {as : List Addr} {H : Hp} {kvs : List (Key × V)} {m : Str -> List Int} (h : RN H kvs m) (f : ∀ (q : Str) (p : Addr), valV kvs (.inr q) = some (.ref p) -> p ∉ as) : RN (cutH as H) kvs m :=
 ⟨fun q => (h.at_ q).imp id fun ⟨p, a, b⟩ => ⟨p, a, cutH_at b (f q p a)⟩, h.one⟩
end Tr
namespace Tr
open PySem PySem.Spec PyProof.Rows L2
theorem cut_ints (xs : List Int) {n : Int} (h : 0 <= n) : cutV (xs.map V.int) (some n) none = (xs.drop n.toNat).map V.int := by
 obtain ⟨k, rfl⟩ := Int.eq_ofNat_of_zero_le h
 unfold cutV
 rw [HT.sIx_none, show (some ((k : Nat) : Int)) = some ((k : Nat) : Int) from rfl, HT.sIx_nat, List.length_map, Int.toNat_natCast, <- List.map_drop, <- List.map_take]
 congr 1
 by_cases z : k <= xs.length
 ·rw [Nat.min_eq_left z, List.take_of_length_le (by rw [List.length_drop]; omega)]
 ·rw [Nat.min_eq_right (by omega), List.drop_of_length_le (Nat.le_refl _), List.drop_of_length_le (by omega)]
  simp
end Tr
namespace Tr
open PySem PySem.Spec PyProof.Rows L2
theorem allCardWaits_sm {rs : List Row} (small : ∀ r ∈ rs, r.owns.length <= 4000 /\ r.reads.length <= 4000) : ∀ n, Sm (allCardWaits rs n) 8000
 | 0 => fun i es h => by simp [allCardWaits] at h
 | n + 1 => fun i es h => by
  rw [allCardWaits] at h
  cases e : rs[n]? with
  | none => rw [e] at h; exact allCardWaits_sm small n i es (by simpa using h)
  | some r =>
   rw [e] at h
   by_cases lt : i < (allCardWaits rs n).length
   ·rw [List.getElem?_append_left lt] at h
    exact allCardWaits_sm small n i es h
   ·rw [List.getElem?_append_right (by omega)] at h
    have : es = cardWaits (rs.take n) r := by
     cases ei : i - (allCardWaits rs n).length with
     | zero => rw [ei] at h; simpa using h.symm
     | succ m => rw [ei] at h; simp at h
    subst this
    obtain ⟨a, b⟩ := small r (List.mem_of_getElem? e)
    have h1 := byOf_len (lastOf (rs.take n)) "card" r.owns
    have h2 := byOf_len (lastOf (rs.take n)) "copy" r.reads
    unfold cardWaits
    rw [List.length_append]
    omega
end Tr
namespace Tr
open PySem PySem.Spec PyProof.Rows L2
theorem inV_strs (c : Str) : ∀ zs : List Str, inV (.str c) (zs.map V.str) = decide (c ∈ zs)
 | [] => by simp [inV]
 | z :: r => by
  have ih := inV_strs c r
  unfold inV at *
  rw [List.map_cons, List.any_cons, ih]
  by_cases e : c = z
  ·subst e
   simp [eqV]
  ·have e' : ¬ z = c := fun y => e y.symm
   simp [eqV, e, e']
theorem flat_strs : ∀ zs : List Str, (zs.map V.str).all flatV = true
 | [] => rfl
 | z :: r => by rw [List.map_cons, List.all_cons, flat_strs r]; rfl
end Tr
namespace Tr
open PySem PySem.Spec PyProof.Rows L2
theorem numsOf_split (f : Row -> Option Str) (a : List Row) (r : Row) (b : List Row) (q : Str) : ∃ hi : List Int, (∀ x ∈ hi, (a.length : Int) < x) /\ (∀ x ∈ numsOf f a q, 0 <= x /\ x < (a.length : Int)) /\ numsOf f (a ++ r :: b) q = numsOf f a q ++ ((if f r = some q then [(a.length : Int)] else []) ++ hi) := by
 refine ⟨(b.zipIdx (a.length + 1)).filterMap fun p => if f p.1 = some q then some (p.2 : Int) else none, fun x hx => ?_, fun x hx => ?_, ?_⟩
 ·obtain ⟨⟨r', i⟩, hi, e⟩ := List.mem_filterMap.mp hx
  have := (List.mem_zipIdx hi).1
  by_cases z : f r' = some q
  ·have e' : (i : Int) = x := by simpa [z] using e
   omega
  ·simp [z] at e
 ·obtain ⟨k, hk⟩ := List.getElem?_of_mem hx
  obtain ⟨h1, h2, _⟩ := numsOf_mem hk
  omega
 ·unfold numsOf
  rw [List.zipIdx_append, List.filterMap_append, List.zipIdx_cons, List.filterMap_cons]
  congr 1
  by_cases z : f r = some q
  ·simp [z]
  ·simp [z]
theorem numsOf_place {f : Row -> Option Str} {rs : List Row} {i : Nat} {r : Row} (q : Str) (h : rs[i]? = some r) (k : Nat) : (numsOf f rs q)[k]? = some (i : Int) ↔ f r = some q /\ k = (numsOf f (rs.take i) q).length := by
 have lt := (List.getElem?_eq_some_iff.mp h).1
 have sp : rs = rs.take i ++ r :: rs.drop (i + 1) := by
  rw [<- List.singleton_append, <- List.append_assoc, show rs.take i ++ [r] = rs.take (i + 1) by rw [List.take_add_one, h]; rfl, List.take_append_drop]
 obtain ⟨hi, h1, h2, e⟩ := numsOf_split f (rs.take i) r (rs.drop (i + 1)) q
 rw [<- sp] at e
 have il : (rs.take i).length = i := by rw [List.length_take]; omega
 rw [il] at h1 h2 e
 rw [e]
 constructor
 ·intro g
  by_cases kl : k < (numsOf f (rs.take i) q).length
  ·rw [List.getElem?_append_left kl] at g
   have := (h2 _ (List.mem_of_getElem? g)).2
   omega
  ·rw [List.getElem?_append_right (by omega)] at g
   by_cases z : f r = some q
   ·rw [if_pos z, List.singleton_append] at g
    cases ek : k - (numsOf f (rs.take i) q).length with
    | zero => exact ⟨z, by omega⟩
    | succ m =>
     rw [ek, List.getElem?_cons_succ] at g
     have := h1 _ (List.mem_of_getElem? g)
     omega
   ·rw [if_neg z, List.nil_append] at g
    have := h1 _ (List.mem_of_getElem? g)
    omega
 ·rintro ⟨z, rfl⟩
  rw [List.getElem?_append_right (Nat.le_refl _), Nat.sub_self, if_pos z]
  rfl
theorem numsOf_getD {f : Row -> Option Str} {rs : List Row} {i : Nat} {r : Row} (q : Str) (h : rs[i]? = some r) {k : Nat} (lt : k < (numsOf f rs q).length) : ((numsOf f rs q).getD k 0).toNat = i ↔ f r = some q /\ k = (numsOf f (rs.take i) q).length := by
 rw [<- numsOf_place q h k, List.getD_eq_getElem?_getD, List.getElem?_eq_getElem lt]
 obtain ⟨h1, _⟩ := numsOf_mem (List.getElem?_eq_getElem lt)
 show (numsOf f rs q)[k].toNat = i ↔ some (numsOf f rs q)[k] = some (i : Int)
 constructor
 ·intro e
  congr 1
  omega
 ·intro e
  have := Option.some.inj e
  omega
theorem things_at (q : Str) (ps gs : List Int) (W : List (List Wat)) (i : Nat) (c : Nat) (on : Prop) [Decidable on] : ∀ K, (∀ k, k < K -> ((gs.getD k 0).toNat = i ↔ on /\ k = c)) -> (thingsW q ps gs W K)[i]? = (W[i]?).map fun es => es ++ (if on /\ c < K then ([(ps.getD c 0, "thing", q)] : List Wat) else [])
 | 0, _ => by simp [thingsW]
 | K + 1, h => by
  rw [thingsW, addAt_at, things_at q ps gs W i c on K fun k hk => h k (by omega), Option.map_map]
  have hK := h K (by omega)
  congr 1
  funext es
  show (if (gs.getD K 0).toNat = i then _ ++ _ else _) = _
  by_cases o : on
  ·by_cases z : K = c
   ·subst z
    rw [if_pos (hK.mpr ⟨o, rfl⟩), if_neg (by omega), if_pos ⟨o, by omega⟩]
    show (es ++ []) ++ _ = _
    rw [List.append_nil]
   ·rw [if_neg (fun y => z (hK.mp y).2)]
    by_cases l : c < K
    ·rw [if_pos ⟨o, l⟩, if_pos ⟨o, by omega⟩]
    ·rw [if_neg (fun y => l y.2), if_neg (fun y => by have := y.2; omega)]
  ·rw [if_neg (fun y => o (hK.mp y).1), if_neg (fun y => o y.1), if_neg (fun y => o y.1)]
theorem rooms_at (q : Str) (n : Nat) (cs gs : List Int) (W : List (List Wat)) (i : Nat) (c : Nat) (on : Prop) [Decidable on] : ∀ K, (∀ k, k < K -> ((cs.getD k 0).toNat = i ↔ on /\ k = c)) -> (roomsW q n cs gs W K)[i]? = (W[i]?).map fun es => es ++ (if on /\ c < K then ([(awaited n gs c, "room", q)] : List Wat) else [])
 | 0, _ => by simp [roomsW]
 | K + 1, h => by
  rw [roomsW, addAt_at, rooms_at q n cs gs W i c on K fun k hk => h k (by omega), Option.map_map]
  have hK := h K (by omega)
  congr 1
  funext es
  show (if (cs.getD K 0).toNat = i then _ ++ _ else _) = _
  by_cases o : on
  ·by_cases z : K = c
   ·subst z
    rw [if_pos (hK.mpr ⟨o, rfl⟩), if_neg (by omega), if_pos ⟨o, by omega⟩]
    show (es ++ []) ++ _ = _
    rw [List.append_nil]
   ·rw [if_neg (fun y => z (hK.mp y).2)]
    by_cases l : c < K
    ·rw [if_pos ⟨o, l⟩, if_pos ⟨o, by omega⟩]
    ·rw [if_neg (fun y => l y.2), if_neg (fun y => by have := y.2; omega)]
  ·rw [if_neg (fun y => o (hK.mp y).1), if_neg (fun y => o y.1), if_neg (fun y => o y.1)]
def thingFor (rs : List Row) (i : Nat) (r : Row) (q : Str) : List Wat := if r.outof = some q then [((numsOf Row.into rs q).getD (numsOf Row.outof (rs.take i) q).length 0, "thing", q)] else []
def roomFor (rs : List Row) (i : Nat) (r : Row) (s : Str × Int) : List Wat := if r.into = some s.1 /\ s.2.toNat <= (numsOf Row.into (rs.take i) s.1).length then [(awaited rs.length (numsOf Row.outof rs s.1) ((numsOf Row.into (rs.take i) s.1).length - s.2.toNat), "room", s.1)] else []
theorem behindOne_at {rs : List Row} {i : Nat} {r : Row} (h : rs[i]? = some r) (s : Str × Int) (W : List (List Wat)) (fed : ∀ q, r.outof = some q -> (numsOf Row.outof (rs.take i) q).length < (numsOf Row.into rs q).length) : (behindOne rs s W)[i]? = (W[i]?).map fun es => es ++ (thingFor rs i r s.1 ++ roomFor rs i r s) := by
 unfold behindOne
 have pl : ∀ f : Row -> Option Str, f r = some s.1 -> (numsOf f (rs.take i) s.1).length < (numsOf f rs s.1).length := fun f hf => by
  have := (numsOf_place s.1 h (numsOf f (rs.take i) s.1).length).mpr ⟨hf, rfl⟩
  exact (List.getElem?_eq_some_iff.mp this).1
 rw [rooms_at s.1 rs.length _ _ _ i ((numsOf Row.into (rs.take i) s.1).length - s.2.toNat) (r.into = some s.1 /\ s.2.toNat <= (numsOf Row.into (rs.take i) s.1).length) _ ?hr, things_at s.1 _ _ W i (numsOf Row.outof (rs.take i) s.1).length (r.outof = some s.1) _ ?ht, Option.map_map]
 case ht =>
  intro k hk
  exact numsOf_getD s.1 h (by omega)
 case hr =>
  intro k hk
  rw [List.length_drop] at hk
  have e : ((numsOf Row.into rs s.1).drop s.2.toNat).getD k 0 = (numsOf Row.into rs s.1).getD (s.2.toNat + k) 0 := by rw [List.getD_eq_getElem?_getD, List.getElem?_drop, List.getD_eq_getElem?_getD]
  rw [e, numsOf_getD s.1 h (by omega)]
  constructor
  ·rintro ⟨a, b⟩
   exact ⟨⟨a, by omega⟩, by omega⟩
  ·rintro ⟨⟨a, b⟩, c⟩
   exact ⟨a, by omega⟩
 congr 1
 funext es
 show (es ++ _) ++ _ = es ++ (_ ++ _)
 rw [List.append_assoc]
 congr 1
 congr 1
 ·unfold thingFor
  by_cases z : r.outof = some s.1
  ·have h1 := pl Row.outof z
   have h2 := fed _ z
   rw [if_pos ⟨z, by omega⟩, if_pos z]
  ·rw [if_neg (fun y => z y.1), if_neg z]
 ·unfold roomFor
  by_cases z : r.into = some s.1 /\ s.2.toNat <= (numsOf Row.into (rs.take i) s.1).length
  ·have h1 := pl Row.into z.1
   have h2 := z.2
   rw [if_pos ⟨z, by rw [List.length_drop]; omega⟩, if_pos z]
  ·rw [if_neg (fun y => z y.1), if_neg z]
theorem behindUp_at {rs : List Row} {ss : List (Str × Int)} {i : Nat} {r : Row} (h : rs[i]? = some r) (W : List (List Wat)) (fed : ∀ q, r.outof = some q -> (numsOf Row.outof (rs.take i) q).length < (numsOf Row.into rs q).length) : ∀ j, j <= ss.length -> (behindUp rs ss W j)[i]? = (W[i]?).map fun es => es ++ (ss.take j).flatMap fun s => thingFor rs i r s.1 ++ roomFor rs i r s
 | 0, _ => by simp [behindUp]
 | j + 1, hj => by
  have lt : j < ss.length := by omega
  rw [behindUp, behindOne_at h _ _ fed, behindUp_at h W fed j (by omega), Option.map_map]
  have e : ss.getD j ("", 0) = ss[j] := by rw [List.getD_eq_getElem?_getD, List.getElem?_eq_getElem lt]; rfl
  congr 1
  funext es
  show (es ++ _) ++ _ = es ++ _
  rw [e, List.append_assoc, List.take_add_one, List.getElem?_eq_getElem lt, List.flatMap_append]
  simp
theorem flat_one_of {α : Type} {g : Str × Int -> List α} : ∀ {ss : List (Str × Int)} {q : Str} {n : Int}, (ss.map (·.1)).Nodup -> (q, n) ∈ ss -> (∀ s ∈ ss, s.1 ≠ q -> g s = []) -> ss.flatMap g = g (q, n)
 | [], _, _, _, m, _ => by simp at m
 | s :: ss, q, n, nd, m, hg => by
  rw [List.map_cons, List.nodup_cons] at nd
  rw [List.flatMap_cons]
  rcases List.mem_cons.mp m with e | m
  ·subst e
   have : ss.flatMap g = [] := by
    rw [List.flatMap_eq_nil_iff]
    intro s' hs'
    exact hg s' (List.mem_cons_of_mem _ hs') fun y => nd.1 (by rw [<- y]; exact List.mem_map_of_mem (f := (·.1)) hs')
   rw [this, List.append_nil]
  ·have ne : s.1 ≠ q := fun y => nd.1 (by rw [y]; exact List.mem_map_of_mem (f := (·.1)) m)
   rw [hg s List.mem_cons_self ne, List.nil_append]
   exact flat_one_of nd.2 m fun s' hs' => hg s' (List.mem_cons_of_mem _ hs')
theorem allCardWaits_at {rs : List Row} {i : Nat} {r : Row} (h : rs[i]? = some r) : ∀ n, i < n -> n <= rs.length -> (allCardWaits rs n)[i]? = some (cardWaits (rs.take i) r)
 | 0, l, _ => by omega
 | n + 1, l, hn => by
  have ln := allCardWaits_len rs n (by omega)
  rw [allCardWaits]
  by_cases z : i < n
  ·rw [List.getElem?_append_left (by omega)]
   exact allCardWaits_at h n z (by omega)
  ·have : i = n := by omega
   subst this
   rw [List.getElem?_append_right (by omega), ln, Nat.sub_self, h]
   rfl
theorem behindOne_len (rs : List Row) (s : Str × Int) (W : List (List Wat)) : (behindOne rs s W).length = W.length := by
 have h1 : ∀ K, (thingsW s.1 (numsOf Row.into rs s.1) (numsOf Row.outof rs s.1) W K).length = W.length := fun K => by
  induction K with
  | zero => rfl
  | succ K ih => rw [thingsW, addAt_len, ih]
 have h2 : ∀ (W' : List (List Wat)) (cs : List Int) K, (roomsW s.1 rs.length cs (numsOf Row.outof rs s.1) W' K).length = W'.length := fun W' cs K => by
  induction K with
  | zero => rfl
  | succ K ih => rw [roomsW, addAt_len, ih]
 unfold behindOne
 rw [h2, h1]
theorem behindUp_len (rs : List Row) (ss : List (Str × Int)) (W : List (List Wat)) : ∀ j, (behindUp rs ss W j).length = W.length
 | 0 => rfl
 | j + 1 => by rw [behindUp, behindOne_len, behindUp_len rs ss W j]
end Tr
namespace Tr
open PySem PySem.Spec PyProof.Rows L2
def PutIn (rooms : List Str) (d : Deed) : Prop := ∀ q x, d = .put q x -> q ∈ rooms
theorem fr_putin (rooms : List Str) (f : Fr) : PutIn rooms f.deed := fun q x z => by
 unfold Fr.deed at z
 split at z <;> cases z
theorem simple_putin (n : Int) (names rooms : List Str) (shut : Bool) : PutIn rooms (simpleV n names rooms shut) := fun q x z => by
 unfold simpleV at z
 split at z
 ·cases z
 ·split at z
  ·rename_i c
   split at z
   ·cases z
   ·injection z with z1 z2
    rw [<- z1]
    exact nth_mem c.2.1 _
  ·cases z
theorem step_botP {names rooms : List Str} {most low n : Int} : ∀ st : List Fr, BotOk (PutIn rooms) st -> BotOk (PutIn rooms) (stepV names rooms most low st n)
 | [], h => h.elim
 | [f], h => by
  unfold stepV
  dsimp only
  split
  ·unfold openV
   exact h
  ·split
   ·exact fun d hd => by simp at hd
   ·rw [if_neg (by simp)]
    intro d hd
    rcases List.mem_append.mp hd with hd | hd
    ·exact h d hd
    ·rw [List.mem_singleton.mp hd]
     exact simple_putin _ _ _ _
 | [f, g], h => by
  unfold stepV
  dsimp only
  split
  ·unfold openV
   exact h
  ·split
   ·exact h
   ·split
    ·intro d hd
     rcases List.mem_append.mp hd with hd | hd
     ·exact h d hd
     ·rw [List.mem_singleton.mp hd]
      exact fr_putin _ _
    ·exact h
 | f :: g :: k :: r, h => by
  unfold stepV
  dsimp only
  split
  ·unfold openV
   exact h
  ·split
   ·exact h
   ·split
    ·exact h
    ·exact h
theorem states_botP {names rooms : List Str} {most low : Int} : ∀ (cells : List Int) (st : List Fr), BotOk (PutIn rooms) st -> BotOk (PutIn rooms) (cells.foldl (fun st c => stepV names rooms most low st (mixed c 1)) st)
 | [], st, h => h
 | c :: cs, st, h => states_botP cs _ (step_botP st h)
theorem wh_botP {rooms : List Str} : ∀ (st : List Fr) (dt : List Deed), BotOk (PutIn rooms) st -> (st.length = 1 -> ∀ d ∈ dt, PutIn rooms d) -> ∀ d ∈ wh st dt, PutIn rooms d
 | [], _, h, _ => h.elim
 | [f], dt, h, hd => fun d hm => by
  rw [wh] at hm
  exact (List.mem_append.mp hm).elim (h d) (hd rfl d)
 | f :: g :: r, dt, h, _ => by
  rw [wh]
  refine wh_botP (g :: r) _ h (fun _ d hd => ?_)
  rw [List.mem_singleton.mp hd]
  exact fr_putin _ _
theorem block_puts {names rooms : List Str} {most low : Int} (cells : List Int) : ∀ q x, .put q x ∈ blockV names rooms most low cells -> q ∈ rooms := by
 have nr := states_botP (names := names) (rooms := rooms) (most := most) (low := low) cells st0 (fun d hd => by simp at hd)
 have ne : (statesV names rooms most low cells).length ≠ 0 := fun z => by
  rw [List.length_eq_zero_iff] at z
  unfold statesV at z
  rw [z] at nr
  exact nr
 intro q x hm
 unfold blockV wholeOf at hm
 rw [wh_whole _ _ (by omega)] at hm
 exact wh_botP _ _ nr (fun _ d hd => by simp at hd) _ hm q x rfl
theorem stores_names (rs : List Str) (t : Int) (ms : List (Str × Str)) : ∀ i, i <= rs.length -> (storesUp18 rs t ms i).map (·.1) = rs.take i
 | 0, _ => rfl
 | i + 1, h => by
  rw [storesUp18, List.map_append, stores_names rs t ms i (by omega), List.take_add_one, List.getElem?_eq_getElem (by omega)]
  show _ ++ [rs.getD i _] = _
  rw [List.getD_eq_getElem?_getD, List.getElem?_eq_getElem (by omega)]
  rfl
theorem lengthV_pos (i j : Int) : 0 <= lengthV i j := by
 unfold lengthV
 split
 ·omega
 ·split
  ·omega
  ·have := Int.emod_nonneg (i / 4) (b := if j > 1 then j else 1) (by split <;> omega)
   omega
theorem stores_pos (rs : List Str) (t : Int) (ms : List (Str × Str)) : ∀ i, ∀ s ∈ storesUp18 rs t ms i, 0 <= s.2
 | 0, s, h => by simp [storesUp18] at h
 | i + 1, s, h => by
  rw [storesUp18, List.mem_append] at h
  rcases h with h | h
  ·exact stores_pos rs t ms i s h
  ·rw [List.mem_singleton.mp h]
   exact lengthV_pos _ _
theorem valV_foldl_out {k : Key} : ∀ (ps kvs : List (Key × V)), k ∉ ps.map (·.1) -> valV (ps.foldl (fun kvs p => putK kvs p.1 p.2) kvs) k = valV kvs k
 | [], _, _ => rfl
 | p :: r, kvs, h => by
  rw [List.map_cons, List.mem_cons, not_or] at h
  rw [List.foldl_cons, valV_foldl_out r _ h.2, valV_put, if_neg h.1]
theorem valV_foldl_in {k : Key} {v : V} : ∀ (ps kvs : List (Key × V)), (ps.map (·.1)).Nodup -> (k, v) ∈ ps -> valV (ps.foldl (fun kvs p => putK kvs p.1 p.2) kvs) k = some v
 | [], _, _, h => by simp at h
 | p :: r, kvs, nd, h => by
  rw [List.map_cons, List.nodup_cons] at nd
  rw [List.foldl_cons]
  rcases List.mem_cons.mp h with e | h
  ·subst e
   rw [valV_foldl_out r _ nd.1, valV_put, if_pos rfl]
  ·exact valV_foldl_in r _ nd.2 h
def storeKs (ss : List (Str × Int)) : List (Key × V) := ss.map fun s => (.inr s.1, .int s.2)
theorem storeKs_at {ss : List (Str × Int)} {q : Str} {n : Int} (nd : (ss.map (·.1)).Nodup) (h : (q, n) ∈ ss) : valV (putAll (storeKs ss)) (.inr q) = some (.int n) := by
 refine valV_foldl_in _ _ ?_ (List.mem_map.mpr ⟨(q, n), h, rfl⟩)
 unfold storeKs
 rw [List.map_map]
 have : ((fun x : Key × V => x.1) ∘ fun s : Str × Int => ((Sum.inr s.1 : Key), V.int s.2)) = (fun q : Str => (Sum.inr q : Key)) ∘ (·.1) := rfl
 rw [this, <- List.map_map]
 exact List.pairwise_map.mpr (List.Pairwise.imp (fun h e => h (Sum.inr.inj e)) nd)
def optD : Option Str -> PyData
 | none => .none
 | some q => .str q
def rowD (r : Row) : PyData := .tuple [.str r.kind, .tuple (r.owns.map PyData.str), .tuple (r.reads.map PyData.str), optD r.into, optD r.outof]
theorem opt_dt {K : PySem.W.Frag} {H : Hp} (o : Option Str) : Dt K H (optV o) (optD o) := by cases o <;> constructor
theorem RRow.dt {K : PySem.W.Frag} {H : Hp} {v : V} {r : Row} (h : RRow H v r) : Dt K H v (rowD r) := by
 obtain ⟨p, po, pr, rfl, h1, h2, h3⟩ := h
 exact .tup (SqT.of h1) (.cons (.str _) (.cons (.tup (SqT.of h2) (strs_dt _)) (.cons (.tup (SqT.of h3) (strs_dt _)) (.cons (opt_dt _) (.cons (opt_dt _) .nil)))))
theorem RRows.dt {K : PySem.W.Frag} {H : Hp} : ∀ {vs : List V} {rs : List Row}, RRows H vs rs -> DtAll K H vs (rs.map rowD)
 | _, _, .nil => .nil
 | _, _, .cons h r => .cons h.dt (RRows.dt r)
def RowOk (r : Row) : Prop := PyData.strOk r.kind = true /\ (∀ s ∈ r.owns, PyData.strOk s = true) /\ (∀ s ∈ r.reads, PyData.strOk s = true) /\ (∀ q, r.into = some q -> PyData.strOk q = true) /\ ∀ q, r.outof = some q -> PyData.strOk q = true
theorem lay_opt (o : Option Str) (h : ∀ q, o = some q -> PyData.strOk q = true) : PyData.canLay0 (optD o) = true /\ PyData.depth (optD o) <= 1 := by
 cases o with
 | none => simp [optD, PyData.canLay0, PyData.depth]
 | some q => simp [optD, PyData.canLay0, PyData.depth, h q rfl]
theorem lay_rows : ∀ rs : List Row, (∀ r ∈ rs, RowOk r) -> PyData.canLayAll0 (rs.map rowD) = true /\ PyData.depthAll (rs.map rowD) <= 4
 | [], _ => by simp [PyData.canLayAll0, PyData.depthAll]
 | r :: rs, h => by
  obtain ⟨a, b, c, d, e⟩ := h r List.mem_cons_self
  obtain ⟨h1, h2⟩ := lay_rows rs fun x hx => h x (List.mem_cons_of_mem _ hx)
  obtain ⟨b1, b2⟩ := lay_strs _ b
  obtain ⟨c1, c2⟩ := lay_strs _ c
  obtain ⟨d1, d2⟩ := lay_opt _ d
  obtain ⟨e1, e2⟩ := lay_opt _ e
  simp [rowD, PyData.canLayAll0, PyData.canLay0, PyData.depthAll, PyData.depth, a, b1, c1, d1, e1, h1]
  omega
theorem shaped_rows {rs : List Row} (h : ∀ r ∈ rs, RowOk r) : SeqAt.shaped (.list (rs.map rowD)) = true := by
 obtain ⟨h1, h2⟩ := lay_rows rs h
 unfold SeqAt.shaped
 simp [PyData.canLay0, PyData.depth, h1]
 omega
theorem shaped_stores {ss : List (Str × Int)} (h : ∀ s ∈ ss, PyData.strOk s.1 = true) : SeqAt.shaped (.list (ss.map storeD)) = true := by
 obtain ⟨h1, h2⟩ := lay_stores ss h
 unfold SeqAt.shaped
 simp [PyData.canLay0, PyData.depth, h1]
 omega
theorem RWs.al {H : Hp} : ∀ {vs us : List V} {es : List Wat}, RWs H vs es -> RWs H us es -> ∀ (i : Nat) (x y : V), vs[i]? = some x -> us[i]? = some y -> Al H 1 x y
 | _, _, _, .nil, .nil, i, x, y, hx, _ => by simp at hx
 | _, _, _, .cons (e := e) a _, .cons b _, 0, x, y, hx, hy => by
  simp at hx hy
  subst hx hy
  refine .tup a b rfl (by simp) fun i x y hx hy => ?_
  rw [hx] at hy
  cases hy
  match i, hx with
  | 0, hx => cases hx; exact .int _ _
  | 1, hx => cases hx; exact .str _ _
  | 2, hx => cases hx; exact .str _ _
  | i + 3, hx => simp at hx
 | _, _, _, .cons _ r, .cons _ r', i + 1, x, y, hx, hy => RWs.al r r' i x y (by simpa using hx) (by simpa using hy)
theorem RWL.al {H : Hp} {vs us : List V} {W : List (List Wat)} (h : RWL H vs W) (h' : RWL H us W) (small : Sm W 10000) : ∀ (i : Nat) (x y : V), vs[i]? = some x -> us[i]? = some y -> Al H 2 x y := fun i x y hx hy => by
 obtain ⟨p, us1, es, rfl, a1, a2, a3⟩ := h.at i x hx
 obtain ⟨p', us2, es', rfl, b1, b2, b3⟩ := h'.at i y hy
 rw [a3] at b3
 cases b3
 have := small _ _ a3
 exact .lst a1 b1 (by rw [a2.len, b2.len]) (by rw [a2.len]; exact this) (a2.al b2)
end Tr
namespace Tr
open PySem PySem.Spec PyProof.Rows L2
theorem srt_sub (l : List Str) : ∀ x ∈ srt l, x ∈ l := by
 unfold srt
 split
 ·rename_i h
  obtain ⟨a, b, _⟩ := Classical.choose_spec h
  exact fun x hx => (b x).mp hx
 ·exact fun x hx => by simp at hx
theorem srtP_sub (l : List Str) : ∀ x ∈ srtP l, x ∈ l := by
 unfold srtP
 split
 ·rename_i h
  exact fun x hx => (Classical.choose_spec h).1.mem_iff.mp hx
 ·exact fun x hx => by simp at hx
theorem row_ok {d : Deed} (hc : ∀ c ∈ cards [d], PyData.strOk c = true) (hq : ∀ q x, d = .put q x \/ d = .get q x -> PyData.strOk q = true) : RowOk (rowV d) := by
 cases d with
 | set x a sg b =>
  refine ⟨show PyData.strOk ("set" : Str) = true by decide +kernel, fun s hs => ?_, fun s hs => ?_, fun q h => (nomatch h), fun q h => (nomatch h)⟩
  ·rw [List.mem_singleton.mp hs]
   exact hc _ (by simp [cards, flats, Deed.flat, Deed.cards, Deed.names])
  ·have := (List.mem_filter.mp (srt_sub _ s hs)).1
   refine hc _ ?_
   rcases List.mem_append.mp this with h | h <;> simp [cards, flats, Deed.flat, Deed.cards, Deed.names, h]
 | put q x =>
  refine ⟨show PyData.strOk ("put" : Str) = true by decide +kernel, fun s hs => ?_, fun s hs => ?_, fun q' h => ?_, fun q h => (nomatch h)⟩
  ·rw [List.mem_singleton.mp hs]
   exact hc _ (by simp [cards, flats, Deed.flat, Deed.cards, Deed.names, Deed.others])
  ·rw [List.mem_singleton.mp hs]
   exact hc _ (by simp [cards, flats, Deed.flat, Deed.cards, Deed.names, Deed.others])
  ·cases h
   exact hq _ x (.inl rfl)
 | get q x =>
  refine ⟨show PyData.strOk ("get" : Str) = true by decide +kernel, fun s hs => ?_, fun s hs => (nomatch hs), fun q' h => (nomatch h), fun q' h => ?_⟩
  ·have := srtP_sub _ s hs
   simp only [List.mem_cons, List.not_mem_nil, or_false] at this
   rcases this with rfl | rfl
   ·exact hc _ (by simp [cards, flats, Deed.flat, Deed.cards, Deed.names, Deed.others])
   ·exact hc _ (by simp [cards, flats, Deed.flat, Deed.cards, Deed.names, Deed.others])
  ·cases h
   exact hq _ x (.inr rfl)
 | give x =>
  refine ⟨show PyData.strOk ("give" : Str) = true by decide +kernel, fun s hs => ?_, fun s hs => ?_, fun q h => (nomatch h), fun q h => (nomatch h)⟩
  ·rw [List.mem_singleton.mp hs]
   exact hc _ (by simp [cards, flats, Deed.flat, Deed.cards, Deed.names, Deed.others])
  ·rw [List.mem_singleton.mp hs]
   exact hc _ (by simp [cards, flats, Deed.flat, Deed.cards, Deed.names, Deed.others])
 | cond x t o => exact ⟨show PyData.strOk ("if" : Str) = true by decide +kernel, fun s hs => hc _ (srt_sub _ s hs), fun s hs => (nomatch hs), fun q h => (nomatch h), fun q h => (nomatch h)⟩
 | whl x b => exact ⟨show PyData.strOk ("while" : Str) = true by decide +kernel, fun s hs => hc _ (srt_sub _ s hs), fun s hs => (nomatch hs), fun q h => (nomatch h), fun q h => (nomatch h)⟩
 | rep n b => exact ⟨show PyData.strOk ("repeat" : Str) = true by decide +kernel, fun s hs => hc _ (srt_sub _ s hs), fun s hs => (nomatch hs), fun q h => (nomatch h), fun q h => (nomatch h)⟩
theorem cards_ok {c1 c2 : Int} {n1 n2 : Nat} : ∀ s ∈ allCards (poolV c1 n1) (poolV c2 n2), PyData.strOk s = true := fun s hs => by
 unfold allCards at hs
 simp only [List.mem_append, List.mem_map, List.mem_singleton] at hs
 refine low_ok ?_
 have l1 : Low (">" : Str) := by unfold Low; decide +kernel
 have l2 : Low ("<" : Str) := by unfold Low; decide +kernel
 rcases hs with ((hs | ⟨q, hq, rfl⟩) | ⟨q, hq, rfl⟩) | rfl
 ·exact pool_low _ _ s hs
 ·exact (pool_low _ _ q hq).app l1
 ·exact (pool_low _ _ q hq).app l2
 ·exact l1
end Tr
namespace Tr
open PySem PySem.Spec PyProof.Rows L2
theorem row_small4 {d : Deed} (h : (cards [d]).length <= 4000) : (rowV d).owns.length <= 4000 /\ (rowV d).reads.length <= 4000 := by
 have nm : ∀ v : Val, v.names.length <= 1 := fun v => by cases v <;> simp [Val.names]
 cases d with
 | set x a sg b =>
  refine ⟨by simp [rowV], ?_⟩
  have h1 := srt_len ((a.names ++ b.names).filter fun y => !decide (y = x))
  have h2 := List.length_filter_le (fun y => !decide (y = x)) (a.names ++ b.names)
  rw [List.length_append] at h2
  have h3 := nm a
  have h4 := nm b
  show (srt _).length <= 4000
  omega
 | put q x => simp [rowV]
 | get q x =>
  have h1 := srtP_len [x, q ++ ("<" : Str)]
  refine ⟨?_, by simp [rowV]⟩
  show (srtP _).length <= 4000
  simp at h1
  omega
 | give x => simp [rowV]
 | cond x t o => exact ⟨Nat.le_trans (srt_len _) h, by simp [rowV]⟩
 | whl x b => exact ⟨Nat.le_trans (srt_len _) h, by simp [rowV]⟩
 | rep n b => exact ⟨Nat.le_trans (srt_len _) h, by simp [rowV]⟩
end Tr
namespace Tr
open PySem PySem.Spec PyProof.Rows L2
theorem numsOf_flen (f : Row -> Option Str) (q : Str) (rs : List Row) : (numsOf f rs q).length = (rs.filter fun r => decide (f r = some q)).length := by
 have : ∀ n, ((rs.zipIdx n).filterMap fun p => if f p.1 = some q then some (p.2 : Int) else none).length = (rs.filter fun r => decide (f r = some q)).length := by
  induction rs with
  | nil => intro n; rfl
  | cons r t ih =>
   intro n
   rw [List.zipIdx_cons, List.filterMap_cons, List.filter_cons]
   by_cases z : f r = some q
   ·simp [z, ih]
   ·simp [z, ih]
 exact this 0
theorem fed_nums {rs : List Row} {i : Nat} {r : Row} {q : Str} (h : Fed rs) (hr : rs[i]? = some r) (ho : r.outof = some q) : (numsOf Row.outof (rs.take i) q).length < (numsOf Row.into rs q).length := by
 have b := h i r q hr ho
 unfold bal at b
 have h1 := numsOf_flen Row.outof q (rs.take i)
 have h2 := numsOf_flen Row.into q (rs.take i)
 have sp : rs = rs.take i ++ r :: rs.drop (i + 1) := by
  rw [<- List.singleton_append, <- List.append_assoc, show rs.take i ++ [r] = rs.take (i + 1) by rw [List.take_add_one, hr]; rfl, List.take_append_drop]
 obtain ⟨hi, _, _, e⟩ := numsOf_split Row.into (rs.take i) r (rs.drop (i + 1)) q
 rw [<- sp] at e
 rw [e, List.length_append]
 omega
def lnOf (kvs : List (Key × V)) (q : Str) : Int := match valV kvs (.inr q) with
 | some (.int n) => n
 | _ => 0
theorem lnOf_at {kvs : List (Key × V)} {q : Str} {n : Int} (h : valV kvs (.inr q) = some (.int n)) : lnOf kvs q = n := by
 unfold lnOf
 rw [h]
end Tr
set_option Elab.async false
set_option maxRecDepth 100000
set_option maxHeartbeats 4000000
namespace K21
open PySem L2 Tr
seal PE PT PW PA PS PSs PG PGs PI PTs PO OpR UnR CallR TruR IxR SlR
local macro_rules | `(tactic| walk_at "rds") => `(tactic| first | assumption | decide | omega)
local macro_rules | `(tactic| walk_at "rd") => `(tactic| repeat (first | refine ⟨_, rfl, ?_⟩ | refine ⟨_, _, rfl, rfl, ?_⟩ | refine ⟨rfl, _, rfl, ?_⟩ | refine ⟨_, _, rfl, rfl, by walk_at "rds", ?_⟩ | refine And.intro (by walk_at "rds") ?_))
local macro_rules | `(tactic| walk_at "yes") => `(tactic| refine ifYes (by decide +kernel) ?_)
local macro_rules | `(tactic| walk_at "no") => `(tactic| refine ifNo (by decide +kernel) ?_)
def top (i : Nat) : Stmt := PySem.Challenge.pw_handflow_k21_waits_of_straight_deeds.main.body.getD i (.Pass ⟨0, 0, 0, 0⟩)
abbrev s_waits_of : Stmt := top 3
abbrev s_waits_behind : Stmt := top 4
abbrev s_waits_for_cards : Stmt := top 5
abbrev s_waits_by : Stmt := top 6
abbrev s_numbers_by_store : Stmt := top 7
abbrev s__law_cell_at : Stmt := top 9
abbrev s__law_mixed : Stmt := top 10
abbrev s__law_letters : Stmt := top 11
abbrev s__law_spelt : Stmt := top 12
abbrev s__law_pool : Stmt := top 13
abbrev s__law_simple : Stmt := top 14
abbrev s__law_opened : Stmt := top 15
abbrev s__law_block : Stmt := top 16
abbrev s__law_cards : Stmt := top 17
abbrev s__law_moves : Stmt := top 18
abbrev s__law_reach : Stmt := top 19
abbrev s__law_length : Stmt := top 20
abbrev s__law_program : Stmt := top 21
abbrev s__law_whole : Stmt := top 22
abbrev s__law_alike : Stmt := top 23
abbrev s__law_row : Stmt := top 24
abbrev s__law_last : Stmt := top 25
abbrev s__law_owner : Stmt := top 26
abbrev s__law_due : Stmt := top 27
abbrev s_law : Stmt := top 28
theorem sc_waits_of : FnScope ["deeds", "stores"] ["deeds", "stores"] (defScope s_waits_of) := ⟨rfl, rfl, rfl, by decide +kernel, rfl, by decide +kernel, by decide +kernel⟩
theorem sc_waits_behind : FnScope ["waits_by_cards", "deeds", "stores", "waits", "puts_by_store", "gets_by_store", "store", "length", "puts", "gets", "put", "get", "count", "awaited"] ["waits_by_cards", "deeds", "stores"] (defScope s_waits_behind) := ⟨rfl, rfl, rfl, by decide +kernel, rfl, by decide +kernel, by decide +kernel⟩
theorem sc_waits_for_cards : FnScope ["deeds", "owners", "waits", "number", "deed", "card"] ["deeds"] (defScope s_waits_for_cards) := ⟨rfl, rfl, rfl, by decide +kernel, rfl, by decide +kernel, by decide +kernel⟩
theorem sc_waits_by : FnScope ["cards", "kind", "owners"] ["cards", "kind", "owners"] (defScope s_waits_by) := ⟨rfl, rfl, rfl, by decide +kernel, rfl, by decide +kernel, by decide +kernel⟩
theorem sc_numbers_by_store : FnScope ["deeds", "place", "numbers", "number", "deed"] ["deeds", "place"] (defScope s_numbers_by_store) := ⟨rfl, rfl, rfl, by decide +kernel, rfl, by decide +kernel, by decide +kernel⟩
theorem sc__law_cell_at : FnScope ["_law_script", "_law_k"] ["_law_script", "_law_k"] (defScope s__law_cell_at) := ⟨rfl, rfl, rfl, by decide +kernel, rfl, by decide +kernel, by decide +kernel⟩
theorem sc__law_mixed : FnScope ["_law_cell", "_law_k", "_law_number"] ["_law_cell", "_law_k"] (defScope s__law_mixed) := ⟨rfl, rfl, rfl, by decide +kernel, rfl, by decide +kernel, by decide +kernel⟩
theorem sc__law_letters : FnScope ["_law_number", "_law_size", "_law_some", "_law_word", "_law_k"] ["_law_number", "_law_size"] (defScope s__law_letters) := ⟨rfl, rfl, rfl, by decide +kernel, rfl, by decide +kernel, by decide +kernel⟩
theorem sc__law_spelt : FnScope ["_law_word", "_law_some"] ["_law_word"] (defScope s__law_spelt) := ⟨rfl, rfl, rfl, by decide +kernel, rfl, by decide +kernel, by decide +kernel⟩
theorem sc__law_pool : FnScope ["_law_cell", "_law_many", "_law_some", "_law_number", "_law_base", "_law_size", "_law_at", "_law_words", "_law_k", "_law_sign", "_law_word"] ["_law_cell", "_law_many"] (defScope s__law_pool) := ⟨rfl, rfl, rfl, by decide +kernel, rfl, by decide +kernel, by decide +kernel⟩
theorem sc__law_simple : FnScope ["_law_number", "_law_names", "_law_rooms", "_law_shut", "_law_kind", "_law_rest", "_law_x", "_law_a", "_law_b"] ["_law_number", "_law_names", "_law_rooms", "_law_shut"] (defScope s__law_simple) := ⟨rfl, rfl, rfl, by decide +kernel, rfl, by decide +kernel, by decide +kernel⟩
theorem sc__law_opened : FnScope ["_law_state", "_law_number", "_law_x", "_law_most", "_law_kind", "_law_rest", "_law_inner", "_law_other", "_law_shut", "_law_times", "_law_now", "_law_many"] ["_law_state", "_law_number", "_law_x", "_law_most"] (defScope s__law_opened) := ⟨rfl, rfl, rfl, by decide +kernel, rfl, by decide +kernel, by decide +kernel⟩
theorem sc__law_block : FnScope ["_law_cells", "_law_names", "_law_rooms", "_law_most", "_law_low", "_law_body", "_law_state", "_law_cell", "_law_number", "_law_kind", "_law_part"] ["_law_cells", "_law_names", "_law_rooms", "_law_most", "_law_low"] (defScope s__law_block) := ⟨rfl, rfl, rfl, by decide +kernel, rfl, by decide +kernel, by decide +kernel⟩
theorem sc__law_cards : FnScope ["_law_block_here", "_law_cards_here", "_law_blocks", "_law_one"] ["_law_block_here"] (defScope s__law_cards) := ⟨rfl, rfl, rfl, by decide +kernel, rfl, by decide +kernel, by decide +kernel⟩
theorem sc__law_moves : FnScope ["_law_block_here", "_law_moves_here", "_law_one", "_law_inner", "_law_k"] ["_law_block_here"] (defScope s__law_moves) := ⟨rfl, rfl, rfl, by decide +kernel, rfl, by decide +kernel, by decide +kernel⟩
theorem sc__law_reach : FnScope ["_law_moves_here", "_law_q", "_law_now", "_law_low", "_law_high", "_law_kind", "_law_store"] ["_law_moves_here", "_law_q"] (defScope s__law_reach) := ⟨rfl, rfl, rfl, by decide +kernel, rfl, by decide +kernel, by decide +kernel⟩
theorem sc__law_length : FnScope ["_law_pick", "_law_peak"] ["_law_pick", "_law_peak"] (defScope s__law_length) := ⟨rfl, rfl, rfl, by decide +kernel, rfl, by decide +kernel, by decide +kernel⟩
theorem sc__law_program : FnScope ["_law_script", "_law_most", "_law_first", "_law_second", "_law_third", "_law_words", "_law_names", "_law_rooms", "_law_body", "_law_moves_here", "_law_front", "_law_stores", "_law_k", "_law_lacking", "_law_peak", "_law_asks"] ["_law_script", "_law_most"] (defScope s__law_program) := ⟨rfl, rfl, rfl, by decide +kernel, rfl, by decide +kernel, by decide +kernel⟩
theorem sc__law_whole : FnScope ["_law_found"] ["_law_found"] (defScope s__law_whole) := ⟨rfl, rfl, rfl, by decide +kernel, rfl, by decide +kernel, by decide +kernel⟩
theorem sc__law_alike : FnScope ["_law_found", "_law_due_here", "_law_k"] ["_law_found", "_law_due_here"] (defScope s__law_alike) := ⟨rfl, rfl, rfl, by decide +kernel, rfl, by decide +kernel, by decide +kernel⟩
theorem sc__law_row : FnScope ["_law_one", "_law_reads"] ["_law_one"] (defScope s__law_row) := ⟨rfl, rfl, rfl, by decide +kernel, rfl, by decide +kernel, by decide +kernel⟩
theorem sc__law_last : FnScope ["_law_program_here", "_law_asks", "_law_stores", "_law_body", "_law_cards_here"] ["_law_program_here"] (defScope s__law_last) := ⟨rfl, rfl, rfl, by decide +kernel, rfl, by decide +kernel, by decide +kernel⟩
theorem sc__law_owner : FnScope ["_law_deeds", "_law_at", "_law_card", "_law_k"] ["_law_deeds", "_law_at", "_law_card"] (defScope s__law_owner) := ⟨rfl, rfl, rfl, by decide +kernel, rfl, by decide +kernel, by decide +kernel⟩
theorem sc__law_due : FnScope ["_law_deeds", "_law_lengths", "_law_at", "_law_row_here", "_law_due_here", "_law_card", "_law_puts", "_law_gets", "_law_back"] ["_law_deeds", "_law_lengths", "_law_at"] (defScope s__law_due) := ⟨rfl, rfl, rfl, by decide +kernel, rfl, by decide +kernel, by decide +kernel⟩
theorem sc_law : FnScope ["_law_script", "_law_program_here", "_law_rows", "_law_handed", "_law_stores", "_law_found", "_law_lengths", "_law_due_here"] ["_law_script"] (defScope s_law) := ⟨rfl, rfl, rfl, by decide +kernel, rfl, by decide +kernel, by decide +kernel⟩
structure Adr where
 waits_of : Addr
 fd_waits_of : FuncData
 waits_behind : Addr
 fd_waits_behind : FuncData
 waits_for_cards : Addr
 fd_waits_for_cards : FuncData
 waits_by : Addr
 fd_waits_by : FuncData
 numbers_by_store : Addr
 fd_numbers_by_store : FuncData
 _law_cell_at : Addr
 fd__law_cell_at : FuncData
 _law_mixed : Addr
 fd__law_mixed : FuncData
 _law_letters : Addr
 fd__law_letters : FuncData
 _law_spelt : Addr
 fd__law_spelt : FuncData
 _law_pool : Addr
 fd__law_pool : FuncData
 _law_simple : Addr
 fd__law_simple : FuncData
 _law_opened : Addr
 fd__law_opened : FuncData
 _law_block : Addr
 fd__law_block : FuncData
 _law_cards : Addr
 fd__law_cards : FuncData
 _law_moves : Addr
 fd__law_moves : FuncData
 _law_reach : Addr
 fd__law_reach : FuncData
 _law_length : Addr
 fd__law_length : FuncData
 _law_program : Addr
 fd__law_program : FuncData
 _law_whole : Addr
 fd__law_whole : FuncData
 _law_alike : Addr
 fd__law_alike : FuncData
 _law_row : Addr
 fd__law_row : FuncData
 _law_last : Addr
 fd__law_last : FuncData
 _law_owner : Addr
 fd__law_owner : FuncData
 _law_due : Addr
 fd__law_due : FuncData
 law : Addr
 fd_law : FuncData
 tk_INTO : Tok
 tk_OUT_OF : Tok
structure Tx (P : Program) (w : World) (K : PySem.W.Frag) (mg : Str -> Option Value) (a : Adr) : Prop where
 F_waits_of : Fun K "waits_of" "waits_of" s_waits_of a.waits_of a.fd_waits_of
 b_waits_of : Binds K a.fd_waits_of ["deeds", "stores"] []
 m_waits_of : mg "waits_of" = some (.ref a.waits_of)
 F_waits_behind : Fun K "waits_behind" "waits_behind" s_waits_behind a.waits_behind a.fd_waits_behind
 b_waits_behind : Binds K a.fd_waits_behind ["waits_by_cards", "deeds", "stores"] []
 m_waits_behind : mg "waits_behind" = some (.ref a.waits_behind)
 F_waits_for_cards : Fun K "waits_for_cards" "waits_for_cards" s_waits_for_cards a.waits_for_cards a.fd_waits_for_cards
 b_waits_for_cards : Binds K a.fd_waits_for_cards ["deeds"] []
 m_waits_for_cards : mg "waits_for_cards" = some (.ref a.waits_for_cards)
 F_waits_by : Fun K "waits_by" "waits_by" s_waits_by a.waits_by a.fd_waits_by
 b_waits_by : Binds K a.fd_waits_by ["cards", "kind", "owners"] []
 m_waits_by : mg "waits_by" = some (.ref a.waits_by)
 F_numbers_by_store : Fun K "numbers_by_store" "numbers_by_store" s_numbers_by_store a.numbers_by_store a.fd_numbers_by_store
 b_numbers_by_store : Binds K a.fd_numbers_by_store ["deeds", "place"] []
 m_numbers_by_store : mg "numbers_by_store" = some (.ref a.numbers_by_store)
 F__law_cell_at : Fun K "_law_cell_at" "_law_cell_at" s__law_cell_at a._law_cell_at a.fd__law_cell_at
 b__law_cell_at : Binds K a.fd__law_cell_at ["_law_script", "_law_k"] []
 m__law_cell_at : mg "_law_cell_at" = some (.ref a._law_cell_at)
 F__law_mixed : Fun K "_law_mixed" "_law_mixed" s__law_mixed a._law_mixed a.fd__law_mixed
 b__law_mixed : Binds K a.fd__law_mixed ["_law_cell", "_law_k"] []
 m__law_mixed : mg "_law_mixed" = some (.ref a._law_mixed)
 F__law_letters : Fun K "_law_letters" "_law_letters" s__law_letters a._law_letters a.fd__law_letters
 b__law_letters : Binds K a.fd__law_letters ["_law_number", "_law_size"] []
 m__law_letters : mg "_law_letters" = some (.ref a._law_letters)
 F__law_spelt : Fun K "_law_spelt" "_law_spelt" s__law_spelt a._law_spelt a.fd__law_spelt
 b__law_spelt : Binds K a.fd__law_spelt ["_law_word"] []
 m__law_spelt : mg "_law_spelt" = some (.ref a._law_spelt)
 F__law_pool : Fun K "_law_pool" "_law_pool" s__law_pool a._law_pool a.fd__law_pool
 b__law_pool : Binds K a.fd__law_pool ["_law_cell", "_law_many"] []
 m__law_pool : mg "_law_pool" = some (.ref a._law_pool)
 F__law_simple : Fun K "_law_simple" "_law_simple" s__law_simple a._law_simple a.fd__law_simple
 b__law_simple : Binds K a.fd__law_simple ["_law_number", "_law_names", "_law_rooms", "_law_shut"] []
 m__law_simple : mg "_law_simple" = some (.ref a._law_simple)
 F__law_opened : Fun K "_law_opened" "_law_opened" s__law_opened a._law_opened a.fd__law_opened
 b__law_opened : Binds K a.fd__law_opened ["_law_state", "_law_number", "_law_x", "_law_most"] []
 m__law_opened : mg "_law_opened" = some (.ref a._law_opened)
 F__law_block : Fun K "_law_block" "_law_block" s__law_block a._law_block a.fd__law_block
 b__law_block : Binds K a.fd__law_block ["_law_cells", "_law_names", "_law_rooms", "_law_most", "_law_low"] []
 m__law_block : mg "_law_block" = some (.ref a._law_block)
 F__law_cards : Fun K "_law_cards" "_law_cards" s__law_cards a._law_cards a.fd__law_cards
 b__law_cards : Binds K a.fd__law_cards ["_law_block_here"] []
 m__law_cards : mg "_law_cards" = some (.ref a._law_cards)
 F__law_moves : Fun K "_law_moves" "_law_moves" s__law_moves a._law_moves a.fd__law_moves
 b__law_moves : Binds K a.fd__law_moves ["_law_block_here"] []
 m__law_moves : mg "_law_moves" = some (.ref a._law_moves)
 F__law_reach : Fun K "_law_reach" "_law_reach" s__law_reach a._law_reach a.fd__law_reach
 b__law_reach : Binds K a.fd__law_reach ["_law_moves_here", "_law_q"] []
 m__law_reach : mg "_law_reach" = some (.ref a._law_reach)
 F__law_length : Fun K "_law_length" "_law_length" s__law_length a._law_length a.fd__law_length
 b__law_length : Binds K a.fd__law_length ["_law_pick", "_law_peak"] []
 m__law_length : mg "_law_length" = some (.ref a._law_length)
 F__law_program : Fun K "_law_program" "_law_program" s__law_program a._law_program a.fd__law_program
 b__law_program : Binds K a.fd__law_program ["_law_script", "_law_most"] []
 m__law_program : mg "_law_program" = some (.ref a._law_program)
 F__law_whole : Fun K "_law_whole" "_law_whole" s__law_whole a._law_whole a.fd__law_whole
 b__law_whole : Binds K a.fd__law_whole ["_law_found"] []
 m__law_whole : mg "_law_whole" = some (.ref a._law_whole)
 F__law_alike : Fun K "_law_alike" "_law_alike" s__law_alike a._law_alike a.fd__law_alike
 b__law_alike : Binds K a.fd__law_alike ["_law_found", "_law_due_here"] []
 m__law_alike : mg "_law_alike" = some (.ref a._law_alike)
 F__law_row : Fun K "_law_row" "_law_row" s__law_row a._law_row a.fd__law_row
 b__law_row : Binds K a.fd__law_row ["_law_one"] []
 m__law_row : mg "_law_row" = some (.ref a._law_row)
 F__law_last : Fun K "_law_last" "_law_last" s__law_last a._law_last a.fd__law_last
 b__law_last : Binds K a.fd__law_last ["_law_program_here"] []
 m__law_last : mg "_law_last" = some (.ref a._law_last)
 F__law_owner : Fun K "_law_owner" "_law_owner" s__law_owner a._law_owner a.fd__law_owner
 b__law_owner : Binds K a.fd__law_owner ["_law_deeds", "_law_at", "_law_card"] []
 m__law_owner : mg "_law_owner" = some (.ref a._law_owner)
 F__law_due : Fun K "_law_due" "_law_due" s__law_due a._law_due a.fd__law_due
 b__law_due : Binds K a.fd__law_due ["_law_deeds", "_law_lengths", "_law_at"] []
 m__law_due : mg "_law_due" = some (.ref a._law_due)
 F_law : Fun K "law" "law" s_law a.law a.fd_law
 b_law : Binds K a.fd_law ["_law_script"] []
 m_law : mg "law" = some (.ref a.law)
 z_bool : mg "bool" = none
 z_dict : mg "dict" = none
 z_enumerate : mg "enumerate" = none
 z_int : mg "int" = none
 z_isinstance : mg "isinstance" = none
 z_len : mg "len" = none
 z_list : mg "list" = none
 z_max : mg "max" = none
 z_min : mg "min" = none
 z_range : mg "range" = none
 z_reversed : mg "reversed" = none
 z_set : mg "set" = none
 z_sorted : mg "sorted" = none
 z_str : mg "str" = none
 z_tuple : mg "tuple" = none
 z_zip : mg "zip" = none
 c_INTO : mg "INTO" = some (.int 3 a.tk_INTO)
 c_OUT_OF : mg "OUT_OF" = some (.int 4 a.tk_OUT_OF)
theorem Tx.r_INTO {P : Program} {w : World} {K : PySem.W.Frag} {mg : Str -> Option Value} {a : Adr} (_ : Tx P w K mg a) : RelV (.int 3) (.int 3 a.tk_INTO) := ⟨_, rfl⟩
theorem Tx.r_OUT_OF {P : Program} {w : World} {K : PySem.W.Frag} {mg : Str -> Option Value} {a : Adr} (_ : Tx P w K mg a) : RelV (.int 4) (.int 4 a.tk_OUT_OF) := ⟨_, rfl⟩
inductive sp_put_card (vs : List V) (H : Hp) (Q : VK) (E : XK) : Prop
 | mk (q : Str) (h0_ : vs = [.str q]) (h1_ : q.length <= 1000) (h2_ : Q (.str (q ++ (">" : Str))) H) : sp_put_card vs H Q E
inductive sp_get_card (vs : List V) (H : Hp) (Q : VK) (E : XK) : Prop
 | mk (q : Str) (h0_ : vs = [.str q]) (h1_ : q.length <= 1000) (h2_ : Q (.str (q ++ ("<" : Str))) H) : sp_get_card vs H Q E
inductive sp_names_in (vs : List V) (H : Hp) (Q : VK) (E : XK) : Prop
 | mk (H0 : Hp) (v : V) (d : Deed) (h0_ : vs = [v]) (h1_ : Same H0 H) (h2_ : RD H0 v d) (h3_ : ∀ H' l, Same H H' -> H l = none -> H' l = some (.lst (d.names.map V.str)) -> Q (.ref l) H') : sp_names_in vs H Q E
inductive sp_blocks_within (vs : List V) (H : Hp) (Q : VK) (E : XK) : Prop
 | mk (H0 : Hp) (v : V) (d : Deed) (h0_ : vs = [v]) (h1_ : Same H0 H) (h2_ : RD H0 v d) (h3_ : ∀ H' l bs, Same H H' -> H l = none -> H' l = some (.lst (bs.map V.ref)) -> RLs H0 bs d.inner -> Q (.ref l) H') : sp_blocks_within vs H Q E
inductive sp_other_cards_in (vs : List V) (H : Hp) (Q : VK) (E : XK) : Prop
 | mk (H0 : Hp) (v : V) (d : Deed) (h0_ : vs = [v]) (h1_ : Same H0 H) (h2_ : RD H0 v d) (h3_ : (∀ k ∈ d.others, k.length <= 1000)) (h4_ : ∀ H' l, Same H H' -> H l = none -> H' l = some (.lst (d.others.map V.str)) -> Q (.ref l) H') : sp_other_cards_in vs H Q E
inductive sp_all_deeds (n : Nat) (vs : List V) (H : Hp) (Q : VK) (E : XK) : Prop
 | mk (H0 : Hp) (b : Addr) (ds : List Deed) (h0_ : vs = [.ref b]) (h1_ : Same H0 H) (h2_ : RL H0 b ds) (h3_ : depths ds < n) (h4_ : (flats ds).length <= 1000) (h5_ : ∀ H' l us, Same H H' -> H l = none -> H' l = some (.lst us) -> RDs H0 us (flats ds) -> Q (.ref l) H') : sp_all_deeds n vs H Q E
inductive sp_touched (vs : List V) (H : Hp) (Q : VK) (E : XK) : Prop
 | mk (H0 : Hp) (b : Addr) (ds : List Deed) (C : List Str) (h0_ : vs = [.ref b]) (h1_ : Same H0 H) (h2_ : RL H0 b ds) (h3_ : depths ds <= 12) (h4_ : (flats ds).length <= 1000) (h5_ : (∀ k ∈ cards ds, k ∈ C)) (h6_ : C.length < 64) (h7_ : (∀ k ∈ C, k.length <= 1000) /\
 ∀ H' l zs, Same H H' -> H l = none -> H' l = some (.lst (zs.map V.str)) -> zs.Nodup -> (∀ k, k ∈ zs ↔ k ∈ cards ds) -> PyProof.Rows.sortedS zs = true -> Q (.ref l) H') : sp_touched vs H Q E
inductive sp__law_cell_at (K : PySem.W.Frag) (vs : List V) (H : Hp) (Q : VK) (E : XK) : Prop
 | mk (l : Addr) (ns : List Int) (k : Int) (h0_ : vs = [.ref l, .int k]) (h1_ : SqL K H l (ns.map V.int)) (h2_ : ns.length <= 1000) (h3_ : 0 <= k) (h4_ : Q (.int (ns.getD k.toNat 0)) H) : sp__law_cell_at K vs H Q E
inductive sp__law_mixed (vs : List V) (H : Hp) (Q : VK) (E : XK) : Prop
 | mk (c k : Int) (h0_ : vs = [.int c, .int k]) (h1_ : 0 <= k) (h2_ : k <= 200) (h3_ : Q (.int (mixed c k)) H) : sp__law_mixed vs H Q E
inductive sp__law_letters (vs : List V) (H : Hp) (Q : VK) (E : XK) : Prop
 | mk (n k : Int) (h0_ : vs = [.int n, .int k]) (h1_ : 0 <= k) (h2_ : k <= 200) (h3_ : Q (.str (lettersV n k.toNat)) H) : sp__law_letters vs H Q E
inductive sp__law_spelt (vs : List V) (H : Hp) (Q : VK) (E : XK) : Prop
 | mk (w : Str) (h0_ : vs = [.str w]) (h1_ : w.length <= 200) (h2_ : ∀ H', Same H H' -> Q (.str (speltV w)) H') : sp__law_spelt vs H Q E
inductive sp__law_pool (vs : List V) (H : Hp) (Q : VK) (E : XK) : Prop
 | mk (c k : Int) (h0_ : vs = [.int c, .int k]) (h1_ : 0 <= k) (h2_ : k <= 50) (h3_ : ∀ H' l, Same H H' -> H l = none -> H' l = some (.lst ((poolV c k.toNat).map V.str)) -> Q (.ref l) H') : sp__law_pool vs H Q E
inductive sp__law_simple (K : PySem.W.Frag) (vs : List V) (H : Hp) (Q : VK) (E : XK) : Prop
 | mk (n : Int) (ln lr : Addr) (names rooms : List Str) (shut : Bool) (h0_ : vs = [.int n, .ref ln, .ref lr, .bl shut]) (h1_ : SqL K H ln (names.map V.str)) (h2_ : SqL K H lr (rooms.map V.str)) (h3_ : 0 < names.length) (h4_ : names.length <= 100) (h5_ : rooms.length <= 100) (h6_ : 0 <= n) (h7_ : n < 2147483648 /\
 ∀ H' p xs, Same H H' -> H p = none -> H' p = some (.tup xs) -> (∀ H0 : Hp, H0 p = some (.tup xs) -> RD H0 (.ref p) (simpleV n names rooms shut)) -> Q (.ref p) H') : sp__law_simple K vs H Q E
inductive sp__law_opened (vs : List V) (H : Hp) (Q : VK) (E : XK) : Prop
 | mk (Hb H0 : Hp) (S s0 s1 s2 s3 : Addr) (x : Fz) (r : List Fz) (n most : Int) (nm : Str) (h0_ : vs = [.ref S, .int n, .str nm, .int most]) (h1_ : ZI Hb H0 H S s0 s1 s2 s3 (x :: r)) (h2_ : (x :: r).length <= 1000) (h3_ : x.f.ds.length <= 1000) (h4_ : 0 <= n) (h5_ : n < 2147483648) (h6_ : 0 <= most) (h7_ : most <= 1000) (h8_ : 0 <= x.f.times) (h9_ : x.f.times <= 100000 /\
 ∀ H' y, ZI Hb H0 H' S s0 s1 s2 s3 (y :: x :: r) -> y.f :: x.f :: r.map (·.f) = openV n nm most (x.f :: r.map (·.f)) -> Q .non H') : sp__law_opened vs H Q E
inductive sp__law_block (K : PySem.W.Frag) (vs : List V) (H : Hp) (Q : VK) (E : XK) : Prop
 | mk (lc ln lr : Addr) (cells : List Int) (names rooms : List Str) (most low : Int) (h0_ : vs = [.ref lc, .ref ln, .ref lr, .int most, .int low]) (h1_ : SqL K H lc (cells.map V.int)) (h2_ : SqL K H ln (names.map V.str)) (h3_ : SqL K H lr (rooms.map V.str)) (h4_ : cells.length <= 100) (h5_ : 0 < names.length) (h6_ : names.length <= 100) (h7_ : rooms.length <= 100) (h8_ : 0 <= most) (h9_ : most <= 1000 /\
 ∀ H' l, Same H H' -> H l = none -> RL H' l (blockV names rooms most low cells) -> Q (.ref l) H') : sp__law_block K vs H Q E
inductive sp_cards_of (vs : List V) (H : Hp) (Q : VK) (E : XK) : Prop
 | mk (p la ls lb : Addr) (asks : List Str) (ss : List (Str × Int)) (ds : List Deed) (us : List V) (C : List Str) (h0_ : vs = [.ref p]) (h1_ : RP H p asks ss ds la ls lb us) (h2_ : depths ds <= 12) (h3_ : (flats ds).length <= 1000) (h4_ : asks.length <= 100) (h5_ : ss.length <= 100) (h6_ : (∀ s ∈ ss, s.1.length <= 1000)) (h7_ : (∀ k ∈ progCards asks ss ds, k ∈ C)) (h8_ : C.length < 64) (h9_ : (∀ k ∈ C, k.length <= 1000) /\
 ∀ H' l zs, Same H H' -> H' l = some (.lst (zs.map V.str)) -> zs.Nodup -> (∀ k, k ∈ zs ↔ k ∈ progCards asks ss ds) -> PyProof.Rows.sortedS zs = true -> Q (.ref l) H') : sp_cards_of vs H Q E
noncomputable def readsV (x : Str) (va vb : Val) : List Str := srt ((va.names ++ vb.names).filter fun y => !decide (y = x))
inductive sp_read_by_set (vs : List V) (H : Hp) (Q : VK) (E : XK) : Prop
 | mk (H0 : Hp) (p : Addr) (x sg : Str) (va vb : Val) (C : List Str) (h0_ : vs = [.ref p]) (h1_ : Same H0 H) (h2_ : H0 p = some (.tup [.str "set", .str x, va.v, .str sg, vb.v])) (h3_ : (∀ k ∈ (Deed.set x va sg vb).names, k ∈ C)) (h4_ : C.length < 64) (h5_ : ∀ H' l, Same H H' -> H' l = some (.lst ((readsV x va vb).map V.str)) -> Q (.ref l) H') : sp_read_by_set vs H Q E
inductive sp_owner_of (vs : List V) (H : Hp) (Q : VK) (E : XK) : Prop
 | mk (kd : Str) (l : Addr) (zs : List Str) (h0_ : vs = [.str kd, .ref l]) (h1_ : H l = some (.lst (zs.map V.str))) (h2_ : ∀ H' v, Same H H' -> RRow H' v ⟨kd, zs, [], none, none⟩ -> Q v H') : sp_owner_of vs H Q E
inductive sp_written_once (vs : List V) (H : Hp) (Q : VK) (E : XK) : Prop
 | mk (H0 : Hp) (v : V) (d : Deed) (C : List Str) (h0_ : vs = [v]) (h1_ : Same H0 H) (h2_ : RD H0 v d) (h3_ : d.depth <= 12) (h4_ : d.flat.length <= 1000) (h5_ : (∀ k ∈ cards [d], k ∈ C)) (h6_ : C.length < 64) (h7_ : (∀ k ∈ C, k.length <= 1000)) (h8_ : (∀ n b, d ≠ .rep n b)) (h9_ : ∀ H' u, Same H H' -> RRow H' u (rowV d) -> Q u H') : sp_written_once vs H Q E
inductive sp_check_gets (vs : List V) (H : Hp) (Q : VK) (E : XK) : Prop
 | mk (l : Addr) (us : List V) (rs : List Row) (h0_ : vs = [.ref l]) (h1_ : H l = some (.lst us)) (h2_ : RRows H us rs) (h3_ : rs.length <= 2000) (h4_ : Fed rs) (h5_ : (∀ r ∈ rs, OneWay r)) (h6_ : ∀ H', Same H H' -> Q .non H') : sp_check_gets vs H Q E
inductive sp_written (vs : List V) (H : Hp) (Q : VK) (E : XK) : Prop
 | mk (H0 : Hp) (b : Addr) (ds : List Deed) (C : List Str) (h0_ : vs = [.ref b]) (h1_ : Same H0 H) (h2_ : RL H0 b ds) (h3_ : depths ds <= 12) (h4_ : (flats ds).length <= 1000) (h5_ : (∀ k ∈ cards ds, k ∈ C)) (h6_ : C.length < 64) (h7_ : (∀ k ∈ C, k.length <= 1000)) (h8_ : NoRep ds) (h9_ : ds.length <= 1000) (h10_ : ∀ H' l us, Same H H' -> H l = none -> H' l = some (.lst us) -> RRows H' us (ds.map rowV) -> Q (.ref l) H') : sp_written vs H Q E
inductive sp_counted (vs : List V) (H : Hp) (Q : VK) (E : XK) : Prop
 | mk (H0 : Hp) (b : Addr) (ds : List Deed) (h0_ : vs = [.ref b]) (h1_ : Same H0 H) (h2_ : RL H0 b ds) (h3_ : NoRep ds) (h4_ : ds.length <= 1000) (h5_ : Q (.int ds.length) H) : sp_counted vs H Q E
inductive sp_deeds_of (vs : List V) (H : Hp) (Q : VK) (E : XK) : Prop
 | mk (p la ls lb : Addr) (asks : List Str) (ss : List (Str × Int)) (ds : List Deed) (us : List V) (C : List Str) (h0_ : vs = [.ref p]) (h1_ : RP H p asks ss ds la ls lb us) (h2_ : depths ds <= 12) (h3_ : (flats ds).length <= 1000) (h4_ : asks.length <= 100) (h5_ : ss.length <= 100) (h6_ : (∀ s ∈ ss, s.1.length <= 1000)) (h7_ : (∀ k ∈ progCards asks ss ds, k ∈ C)) (h8_ : C.length < 64) (h9_ : (∀ k ∈ C, k.length <= 1000)) (h10_ : NoRep ds) (h11_ : ds.length <= 1000) (h12_ : Fed (ds.map rowV) /\
 ∀ H' l us', Same H H' -> H' l = some (.lst us') -> RRows H' us' (ds.map rowV ++ [endRow asks ss ds]) -> Q (.ref l) H') : sp_deeds_of vs H Q E
inductive sp__law_last (vs : List V) (H : Hp) (Q : VK) (E : XK) : Prop
 | mk (p la ls lb : Addr) (asks : List Str) (ss : List (Str × Int)) (ds : List Deed) (us : List V) (C : List Str) (h0_ : vs = [.ref p]) (h1_ : RP H p asks ss ds la ls lb us) (h2_ : depths ds <= 12) (h3_ : (flats ds).length <= 1000) (h4_ : asks.length <= 100) (h5_ : ss.length <= 100) (h6_ : (∀ s ∈ ss, s.1.length <= 1000)) (h7_ : (∀ k ∈ progCards asks ss ds, k ∈ C)) (h8_ : C.length < 64) (h9_ : (∀ k ∈ C, k.length <= 1000)) (h10_ : ∀ H' v, Same H H' -> RRow H' v (endRow asks ss ds) -> Q v H') : sp__law_last vs H Q E
inductive sp__law_whole (vs : List V) (H : Hp) (Q : VK) (E : XK) : Prop
 | mk (i : Int) (h0_ : vs = [.int i]) (h1_ : Q (.bl true) H) : sp__law_whole vs H Q E
inductive sp__law_alike (n : Nat) (vs : List V) (H : Hp) (Q : VK) (E : XK) : Prop
 | mk (x y : V) (m : Nat) (h0_ : vs = [x, y]) (h1_ : m < n) (h2_ : Al H m x y) (h3_ : Q (.bl true) H) : sp__law_alike n vs H Q E
inductive sp__law_length (vs : List V) (H : Hp) (Q : VK) (E : XK) : Prop
 | mk (i j : Int) (h0_ : vs = [.int i, .int j]) (h1_ : Q (.int (lengthV i j)) H) : sp__law_length vs H Q E
inductive sp__law_reach (vs : List V) (H : Hp) (Q : VK) (E : XK) : Prop
 | mk (l : Addr) (us : List V) (ms : List (Str × Str)) (q : Str) (h0_ : vs = [.ref l, .str q]) (h1_ : H l = some (.lst us)) (h2_ : RMs H us ms) (h3_ : ms.length <= 1000) (h4_ : ∀ p, H p = none -> Q (.ref p) (upd H p (.tup [.int (-(reachV q ms).2.1), .int ((reachV q ms).2.2 - (reachV q ms).2.1)]))) : sp__law_reach vs H Q E
inductive sp__law_moves (vs : List V) (H : Hp) (Q : VK) (E : XK) : Prop
 | mk (H0 : Hp) (b : Addr) (ds : List Deed) (h0_ : vs = [.ref b]) (h1_ : Same H0 H) (h2_ : RL H0 b ds) (h3_ : NoRep ds) (h4_ : ds.length <= 1000) (h5_ : ∀ H' l us, Same H H' -> H l = none -> H' l = some (.lst us) -> RMs H' us (movesV ds) -> Q (.ref l) H') : sp__law_moves vs H Q E
def wordsOf (ns : List Int) : List Str := poolV (ns.getD 0 0) (2 + mixed (ns.getD 1 0) 1 % 4).toNat
def namesOf (ns : List Int) : List Str := (wordsOf ns).dropLast
def roomsOf (ns : List Int) : List Str := poolV (if mixed (ns.getD 1 0) 2 % 3 = 0 then ns.getD 0 0 else ns.getD 1 0) (if mixed (ns.getD 1 0) 3 % 5 < 3 then mixed (ns.getD 1 0) 3 % 5 else 3).toNat
def cutI (ns : List Int) (lo hi : Nat) : List Int := (ns.drop (min lo ns.length)).take (min hi ns.length - min lo ns.length)
def bodyV (ns : List Int) : List Deed := blockV (namesOf ns) (roomsOf ns) 0 7 (cutI ns 3 63)
def asksV (ns : List Int) : List Str := asksUp (wordsOf ns) (ns.getD 2 0) (wordsOf ns).length
def movesOf (ns : List Int) : List (Str × Str) := movesV (bodyV ns)
def frontV (ns : List Int) : List Deed := frontUp (roomsOf ns) (namesOf ns) (movesOf ns) (roomsOf ns).length
def storesV (ns : List Int) : List (Str × Int) := storesUp18 (roomsOf ns) (ns.getD 2 0) (movesOf ns) (roomsOf ns).length
inductive sp__law_program (K : PySem.W.Frag) (vs : List V) (H : Hp) (Q : VK) (E : XK) : Prop
 | mk (l : Addr) (ns : List Int) (h0_ : vs = [.ref l, .int 0]) (h1_ : SqL K H l (ns.map V.int)) (h2_ : ns.length <= 63) (h3_ : NoRep (bodyV ns)) (h4_ : (bodyV ns).length <= 60) (h5_ : ∀ H' p la ls lb us, Same H H' -> RP H' p (asksV ns) (storesV ns) (frontV ns ++ bodyV ns) la ls lb us -> Q (.ref p) H') : sp__law_program K vs H Q E
inductive sp_waits_by (vs : List V) (H : Hp) (Q : VK) (E : XK) : Prop
 | mk (p d : Addr) (cs : List Str) (kd : Str) (kvs : List (Key × V)) (ow : Str -> Option Int) (h0_ : vs = [.ref p, .str kd, .ref d]) (h1_ : H p = some (.tup (cs.map V.str))) (h2_ : H d = some (.dK kvs)) (h3_ : Owned kvs ow) (h4_ : cs.length <= 10000) (h5_ : ∀ H' l us, Same H H' -> H l = none -> H' l = some (.lst us) -> RWs H' us (byOf ow kd cs) -> Q (.ref l) H') : sp_waits_by vs H Q E
inductive sp_waits_for_cards (vs : List V) (H : Hp) (Q : VK) (E : XK) : Prop
 | mk (l : Addr) (us : List V) (rs : List Row) (h0_ : vs = [.ref l]) (h1_ : H l = some (.lst us)) (h2_ : RRows H us rs) (h3_ : rs.length <= 1000) (h4_ : (∀ r ∈ rs, r.owns.length <= 4000 /\ r.reads.length <= 4000)) (h5_ : ∀ H' lw ws, Same H H' -> H lw = none -> H' lw = some (.lst ws) -> RWL H' ws (allCardWaits rs rs.length) -> Q (.ref lw) H') : sp_waits_for_cards vs H Q E
inductive sp_numbers_by_store (vs : List V) (H : Hp) (Q : VK) (E : XK) : Prop
 | mk (l : Addr) (us : List V) (rs : List Row) (pl : Int) (f : Row -> Option Str) (h0_ : vs = [.ref l, .int pl]) (h1_ : H l = some (.lst us)) (h2_ : RRows H us rs) (h3_ : rs.length <= 1000) (h4_ : ((pl = 3 /\ f = Row.into) \/ (pl = 4 /\ f = Row.outof))) (h5_ : ∀ H' d kvs, Same H H' -> H' d = some (.dK kvs) -> RN H' kvs (numsOf f rs) -> (∀ (q : Str) (p : Addr), valV kvs (.inr q) = some (.ref p) -> H p = none) -> Q (.ref d) H') : sp_numbers_by_store vs H Q E
inductive sp_waits_behind (vs : List V) (H : Hp) (Q : VK) (E : XK) : Prop
 | mk (lc l ls : Addr) (ws us sv : List V) (W : List (List Wat)) (rs : List Row) (ss : List (Str × Int)) (h0_ : vs = [.ref lc, .ref l, .ref ls]) (h1_ : H lc = some (.lst ws)) (h2_ : RWL H ws W) (h3_ : W.length = rs.length) (h4_ : Sm W 8000) (h5_ : H l = some (.lst us)) (h6_ : RRows H us rs) (h7_ : rs.length <= 1000) (h8_ : H ls = some (.lst sv)) (h9_ : RSs H sv ss) (h10_ : ss.length <= 100) (h11_ : (∀ s ∈ ss, 0 <= s.2)) (h12_ : ∀ H' lw ws', Same H H' -> H' lw = some (.lst ws') -> RWL H' ws' (behindUp rs ss W ss.length) -> Q (.ref lw) H') : sp_waits_behind vs H Q E
inductive sp_waits_of (vs : List V) (H : Hp) (Q : VK) (E : XK) : Prop
 | mk (l ls : Addr) (us sv : List V) (rs : List Row) (ss : List (Str × Int)) (h0_ : vs = [.ref l, .ref ls]) (h1_ : H l = some (.lst us)) (h2_ : RRows H us rs) (h3_ : rs.length <= 1000) (h4_ : (∀ r ∈ rs, r.owns.length <= 4000 /\ r.reads.length <= 4000)) (h5_ : H ls = some (.lst sv)) (h6_ : RSs H sv ss) (h7_ : ss.length <= 100) (h8_ : (∀ s ∈ ss, 0 <= s.2)) (h9_ : ∀ H' lw ws', Same H H' -> H' lw = some (.lst ws') -> RWL H' ws' (behindUp rs ss (allCardWaits rs rs.length) ss.length) -> Q (.ref lw) H') : sp_waits_of vs H Q E
def ownV (o : Option Int) : V := match o with
 | some n => .int n
 | none => .non
inductive sp__law_owner (vs : List V) (H : Hp) (Q : VK) (E : XK) : Prop
 | mk (l : Addr) (us : List V) (rs : List Row) (i : Nat) (c : Str) (h0_ : vs = [.ref l, .int i, .str c]) (h1_ : H l = some (.lst us)) (h2_ : RRows H us rs) (h3_ : i <= rs.length) (h4_ : rs.length <= 1000) (h5_ : Q (ownV (lastOf (rs.take i) c)) H) : sp__law_owner vs H Q E
def thingV (rs : List Row) (i : Nat) (r : Row) : List Wat := match r.outof with
 | some q => [((numsOf Row.into rs q).getD (numsOf Row.outof (rs.take i) q).length 0, "thing", q)]
 | none => []
def backV (rs : List Row) (n : Int) (i : Nat) (q : Str) : Int := ((numsOf Row.into (rs.take i) q).length : Int) - n
def roomV (rs : List Row) (ln : Str -> Int) (i : Nat) (r : Row) : List Wat := match r.into with
 | some q => if 0 <= backV rs (ln q) i q then [(awaited rs.length (numsOf Row.outof rs q) (backV rs (ln q) i q).toNat, "room", q)] else []
 | none => []
def dueV (rs : List Row) (ln : Str -> Int) (i : Nat) (r : Row) : List Wat := cardWaits (rs.take i) r ++ thingV rs i r ++ roomV rs ln i r
inductive sp__law_due (vs : List V) (H : Hp) (Q : VK) (E : XK) : Prop
 | mk (l d : Addr) (us : List V) (rs : List Row) (kvs : List (Key × V)) (ln : Str -> Int) (i : Nat) (r : Row) (h0_ : vs = [.ref l, .ref d, .int i]) (h1_ : H l = some (.lst us)) (h2_ : RRows H us rs) (h3_ : rs.length <= 1000) (h4_ : (∀ r ∈ rs, r.owns.length <= 4000 /\ r.reads.length <= 4000)) (h5_ : H d = some (.dK kvs)) (h6_ : rs[i]? = some r) (h7_ : OneWay r) (h8_ : (∀ q, r.into = some q -> valV kvs (.inr q) = some (.int (ln q)))) (h9_ : (∀ q, r.outof = some q -> (numsOf Row.outof (rs.take i) q).length < (numsOf Row.into rs q).length)) (h10_ : ∀ H' l' us', Same H H' -> H l' = none -> H' l' = some (.lst us') -> RWs H' us' (dueV rs ln i r) -> Q (.ref l') H') : sp__law_due vs H Q E
inductive sp_law (K : PySem.W.Frag) (vs : List V) (H : Hp) (Q : VK) (E : XK) : Prop
 | mk (a : Addr) (ns : List Int) (h0_ : vs = [.ref a]) (h1_ : SqL K H a (ns.map V.int)) (h2_ : ns.length <= 63) (h3_ : (∀ n ∈ ns, Builtin.Int.intBits n <= 2 ^ 20)) (h4_ : Only H) (h5_ : ∀ H', Q (.bl true) H') : sp_law K vs H Q E
theorem ln1 : 1 <= sizeLine := by decide
theorem ln2 : 2 <= sizeLine := by decide
theorem ln3 : 3 <= sizeLine := by decide
theorem ln5 : 5 <= sizeLine := by decide
section
variable {P : Program} {w : World} {K : PySem.W.Frag} {mg : Str -> Option Value} {base : Heap} {a : Adr}
def strsOf (vs : List V) : List V := vs.filter fun v => match v with | .str _ => true | _ => false
theorem deed_few (d : Deed) : d.cards.length <= 3 := by
 cases d with
 | set x a sg b => cases a <;> cases b <;> simp [Deed.cards, Deed.names, Deed.others, Val.names]
 | _ => simp [Deed.cards, Deed.names, Deed.others]
theorem cards_few : ∀ (l : List Deed), (l.flatMap Deed.cards).length <= 3 * l.length
 | [] => by simp
 | d :: r => by
  have h1 := deed_few d
  have h2 := cards_few r
  rw [List.flatMap_cons, List.length_append, List.length_cons]
  omega
def tot : List (List Deed) -> Nat
 | [] => 0
 | b :: r => (flats b).length + tot r
theorem tot_app : ∀ a b : List (List Deed), tot (a ++ b) = tot a + tot b
 | [], b => by simp [tot]
 | x :: a, b => by rw [List.cons_append, tot, tot, tot_app a b]; omega
theorem tot_inner (d : Deed) : (flats [d]).length = 1 + tot d.inner := by
 cases d <;> simp [flats, Deed.flat, Deed.inner, tot] <;> omega
theorem inner_two (d : Deed) : d.inner.length <= 2 := by cases d <;> simp [Deed.inner]
theorem RLs.snoc {H : Hp} : ∀ {st : List Addr} {bds : List (List Deed)}, RLs H st bds -> 0 < st.length -> ∃ st' t bds' dt, st = st' ++ [t] /\ bds = bds' ++ [dt] /\ RLs H st' bds' /\ RL H t dt
 | _, _, .nil, h => absurd h (by simp)
 | _, _, .cons (l := l) (d := d) a .nil, _ => ⟨[], l, [], d, rfl, rfl, .nil, a⟩
 | _, _, .cons (l := l) (d := d) a (.cons b c), _ => by
  obtain ⟨st', t, bds', dt, e1, e2, h1, h2⟩ := RLs.snoc (.cons b c) (by simp)
  exact ⟨l :: st', t, d :: bds', dt, by rw [e1]; rfl, by rw [e2]; rfl, .cons a h1, h2⟩
theorem ok__law_cards (T : Tx P w K mg a) : FnOk P w K mg base CX0 1 a._law_cards a.fd__law_cards ["_law_block_here"] sp_touched := by
 refine T.F__law_cards.ok sc__law_cards (fun vs H Q E h => ?_) (fun cdv A outer s H vs Q E hr h => ?_)
 ·obtain ⟨_, _, _, _, rfl, _⟩ := h
  rfl
 obtain ⟨H0, b, ds, C, rfl, e0, hb, hdp, hfl, hC, h64, hlen, k⟩ := h
 refine ⟨_, (pss_cons (ps_set (i := 1) sc__law_cards.nd rfl (Or.inl rfl) (pe_lstQ pa_nil))
   (pss_cons (ps_set (i := 2) sc__law_cards.nd rfl (Or.inl rfl) (pe_lstQ (pa_cons (pq 0) pa_nil)))
   (pss_cons (ps_while PassesOwn.never (pt_cmpQ qi_gt (pe_callB qc_len rfl T.z_len PySem.boot_len (pa_cons (pq 2) pa_nil)) pe_int (nomark _)) (pss_one (ps_for PassesOwn.never rfl (pi_list (pe_bm0 PySem.F.plainAttrs_list PySem.F.slot_list_pop PySem.F.type_list_pop mt_pop (pq 2))) (pg_name (i := 3) sc__law_cards.nd rfl (Or.inl rfl))
   (pss_one (ps_if (pt_cmpQ qo_eq (pe_ix qx_tup (pq 3) pe_int (fun _ _ => rfl)) pe_str (nomark _)) (pss_one (ps_expr (pe_bmQ PySem.F.plainAttrs_list PySem.F.slot_list_extend PySem.F.type_list_extend mt_extend (pq 1) (pa_cons (pe_comp (k := 1) (Nc := ["_law_x"]) (js := []) (show CompSc (defScope s__law_cards) ["_law_block_here", "_law_cards_here", "_law_blocks", "_law_one"] _ 1 ["_law_x"] [] from CompSc.mk rfl (by decide +kernel) (by decide +kernel) (by decide +kernel) rfl (by decide +kernel)) rfl (pi_tup (pe_tupQ (pa_cons (pe_ix qx_tup (pq 3) pe_int (fun _ _ => rfl)) (pa_cons (pe_ix qx_tup (pq 3) pe_int (fun _ _ => rfl)) (pa_cons (pe_ix qx_tup (pq 3) pe_int (fun _ _ => rfl)) pa_nil))))) (fun _ _ _ _ _ => (pg_name (i := 0) (show List.Nodup (["_law_x"] : List Str) from by decide +kernel) rfl (Or.inl rfl))) (fun _ _ _ _ _ => (pts_one (pt_valQ (pe_callB (qc_isTK (K := K) rfl) rfl T.z_isinstance PyProof.Rows.Boot.«isinstance» (pa_cons (pq 0) (pa_cons (pe_bltn (v := .ty "str") rfl T.z_str PyProof.Rows.Boot.«str» rfl) pa_nil)))))) (fun _ _ _ _ _ => (pq 0))) pa_nil)))) (pss_one (ps_if (PW.pt (pw_or (pt_cmpQ qo_eq (pe_ix qx_tup (pq 3) pe_int (fun _ _ => rfl)) pe_str (nomark _)) (pw_or1 (pt_cmpQ qo_eq (pe_ix qx_tup (pq 3) pe_int (fun _ _ => rfl)) pe_str (nomark _))))) (pss_cons (ps_expr (pe_bmQ PySem.F.plainAttrs_list PySem.F.slot_list_append PySem.F.type_list_append qm_append (pq 1) (pa_cons (pe_ix qx_tup (pq 3) pe_int (fun _ _ => rfl)) pa_nil)))
   (pss_one (ps_expr (pe_bmQ PySem.F.plainAttrs_list PySem.F.slot_list_append PySem.F.type_list_append qm_append (pq 1) (pa_cons (pe_op qo_add_str (pe_ix qx_tup (pq 3) pe_int (fun _ _ => rfl)) (pe_ifExp (pt_cmpQ qo_eq (pe_ix qx_tup (pq 3) pe_int (fun _ _ => rfl)) pe_str (nomark _)) pe_str pe_str)) pa_nil))))) (pss_one (ps_if (pt_cmpQ qo_eq (pe_ix qx_tup (pq 3) pe_int (fun _ _ => rfl)) pe_str (nomark _)) (pss_one (ps_expr (pe_bmQ PySem.F.plainAttrs_list PySem.F.slot_list_append PySem.F.type_list_append qm_append (pq 2) (pa_cons (pe_ix qx_tup (pq 3) pe_int (fun _ _ => rfl)) pa_nil)))) (pss_cons (ps_expr (pe_bmQ PySem.F.plainAttrs_list PySem.F.slot_list_append PySem.F.type_list_append qm_append (pq 1) (pa_cons (pe_ix qx_tup (pq 3) pe_int (fun _ _ => rfl)) pa_nil)))
   (pss_cons (ps_if (pt_cmpQ qo_ne (pe_ix qx_tup (pq 3) pe_int (fun _ _ => rfl)) pe_str (nomark _)) (pss_one (ps_expr (pe_bmQ PySem.F.plainAttrs_list PySem.F.slot_list_append PySem.F.type_list_append qm_append (pq 1) (pa_cons pe_str pa_nil)))) pss_nil)
   (pss_one (ps_expr (pe_bmQ PySem.F.plainAttrs_list PySem.F.slot_list_extend PySem.F.type_list_extend mt_extend (pq 2) (pa_cons (pe_comp (k := 1) (Nc := ["_law_half"]) (js := []) (show CompSc (defScope s__law_cards) ["_law_block_here", "_law_cards_here", "_law_blocks", "_law_one"] _ 1 ["_law_half"] [] from CompSc.mk rfl (by decide +kernel) (by decide +kernel) (by decide +kernel) rfl (by decide +kernel)) rfl (pi_tup (pe_slice sl_tup (pq 3) (po_some pe_int) po_none)) (fun _ _ _ _ _ => (pg_name (i := 0) (show List.Nodup (["_law_half"] : List Str) from by decide +kernel) rfl (Or.inl rfl))) (fun _ _ _ _ _ => pts_nil) (fun _ _ _ _ _ => (pq 0))) pa_nil)))))))))))))))
   (pss_one (ps_ret (pe_callB (call_sorted_of rfl) rfl T.z_sorted PyProof.Rows.Boot.«sorted» (pa_cons (pe_callTy (call_set_of rfl) rfl T.z_set PyProof.Rows.Boot.«set» (pa_cons (pq 1) pa_nil)) pa_nil))))))), ?_⟩
 refine ⟨Nat.zero_le _, fun c hc => ?_⟩
 refine ⟨_, rfl, ln1, fun bl hbl => ?_⟩
 have c0 := Same.none e0 hc
 have blc : bl ≠ c := fun z => by rw [z, upd_same] at hbl; cases hbl
 have hbl' : H bl = none := by rwa [upd_ne blc] at hbl
 have bl0 := Same.none e0 hbl'
 have inC : ∀ q ∈ cards ds, q.length <= 1000 := fun q hq => hlen _ (hC _ hq)
 refine ⟨fun m σ H2 => ∃ (xs : List Str) (st : List Addr) (bds : List (List Deed)) (v : Option V), σ = [some (.ref b), some (.ref c), some (.ref bl), v] /\ Same H H2 /\ H2 c = some (.lst (xs.map V.str)) /\ H2 bl = some (.lst (st.map V.ref)) /\ RLs H0 st bds /\ (∀ q, (q ∈ xs \/ ∃ d ∈ bds, q ∈ cards d) ↔ q ∈ cards ds) /\ xs.length + 3 * tot bds <= 3000 /\ m = 2 * tot bds + bds.length /\ m <= 2001,
  ⟨2 * tot [ds] + 1, [], [b], [ds], _, rfl, Same.over (Same.over (Same.refl H) hc) hbl', by rw [upd_ne (Ne.symm blc), upd_same]; rfl, upd_same, .cons hb .nil, fun q => by simp, by simp [tot]; omega, rfl, by simp [tot]; omega⟩, ?_⟩
 rintro m σ H2 ⟨xs, st, bds, v, rfl, s2, hc2, hb2, hst, hmem, hx, rfl, hm⟩
 refine ⟨_, rfl, bl, _, rfl, .inl (SqL.of hb2), _, _, rfl, rfl, _, rfl, ?_⟩
 refine ite2 (fun cd => ?_) (fun cd => ?_)
 ·have pos : 0 < st.length := by
   have := of_decide_eq_true cd
   rw [List.length_map] at this
   omega
  obtain ⟨st', t, bds', dt, rfl, rfl, hst', ht⟩ := RLs.snoc hst pos
  refine ⟨_, fun σ' H' h => h, ?_⟩
  obtain ⟨ht1, hdt⟩ := ht
  rename_i vs
  refine ⟨_, rfl, .inl ⟨rfl, _, SqL.of hb2⟩, bl, _, .ref t, rfl, rfl, hb2, by simp, ?_⟩
  have e3 : ((st' ++ [t]).map V.ref).dropLast = st'.map V.ref := by simp
  rw [e3]
  have s3 : Same H (upd H2 bl (.lst (st'.map V.ref))) := Same.over s2 hbl'
  have c3 : (upd H2 bl (.lst (st'.map V.ref))) c = some (.lst (xs.map V.str)) := by rw [upd_ne (Ne.symm blc)]; exact hc2
  have b3 : (upd H2 bl (.lst (st'.map V.ref))) bl = some (.lst (st'.map V.ref)) := upd_same
  generalize upd H2 bl (.lst (st'.map V.ref)) = H3 at s3 c3 b3 ⊢
  refine ⟨t, rfl, ⟨_, SqL.of (s3 _ _ (e0 _ _ ht1))⟩, ?_⟩
  have tt1 : tot (bds' ++ [dt]) = tot bds' + (flats dt).length := by rw [tot_app]; simp [tot]
  rw [tt1] at hx hm
  simp only [List.length_append, List.length_cons, List.length_nil] at hm
  refine for_list (K := K) (a := t) (xs := vs) (fun i σ H4 => ∃ (xs2 : List Str) (st2 : List Addr) (bds2 : List (List Deed)) (v : Option V), σ = [some (.ref b), some (.ref c), some (.ref bl), v] /\ Same H H4 /\ H4 c = some (.lst (xs2.map V.str)) /\ H4 bl = some (.lst (st2.map V.ref)) /\ RLs H0 st2 bds2 /\ (∀ q, (q ∈ xs2 \/ (∃ d ∈ bds2, q ∈ cards d) \/ q ∈ cards (dt.drop i)) ↔ q ∈ cards ds) /\
    xs2.length + 3 * (tot bds2 + (flats (dt.drop i)).length) <= 3000 /\ 2 * tot bds2 + bds2.length + 2 * (flats (dt.drop i)).length <= 2 * (tot bds' + (flats dt).length) + bds'.length)
   ⟨xs, st', bds', _, rfl, s3, c3, b3, hst', fun q => ?_, by rw [List.drop_zero]; exact hx, by rw [List.drop_zero]; omega⟩ ?_ ?_ ?_
  ·rw [<- hmem q, List.drop_zero]
   constructor
   ·rintro (h | ⟨d, hd, h⟩ | h)
    ·exact .inl h
    ·exact .inr ⟨d, List.mem_append_left _ hd, h⟩
    ·exact .inr ⟨dt, by simp, h⟩
   ·rintro (h | ⟨d, hd, h⟩)
    ·exact .inl h
    ·rcases List.mem_append.mp hd with hd | hd
     ·exact .inr (.inl ⟨d, hd, h⟩)
     ·rw [List.mem_singleton] at hd
      subst hd
      exact .inr (.inr h)
  ·rintro i σ H4 _ ⟨_, _, _, _, _, s4, _⟩
   exact SqL.of (s4 _ _ (e0 _ _ ht1))
  ·rintro i x σ H4 hxi ⟨xs2, st2, bds2, v, rfl, s4, hc4, hb4, hst2, hmem2, hx2, hm2⟩
   obtain ⟨d, hd, hrd⟩ := hdt.at i x hxi
   have dr : dt.drop i = d :: dt.drop (i + 1) := List.drop_eq_getElem?_toList_append .. |>.trans (by rw [hd]; rfl)
   have cd1 : cards (dt.drop i) = d.cards ++ d.inner.flatMap cards ++ cards (dt.drop (i + 1)) := by
    rw [dr, show d :: dt.drop (i + 1) = [d] ++ dt.drop (i + 1) from rfl, cards_append, cards_one]
   have fl1 : (flats (dt.drop i)).length = 1 + tot d.inner + (flats (dt.drop (i + 1))).length := by
    rw [dr, show d :: dt.drop (i + 1) = [d] ++ dt.drop (i + 1) from rfl, flats_append, List.length_append, tot_inner]
   have i2 := inner_two d
   have dc : ∀ q ∈ d.cards, q.length <= 1000 := fun q hq => inC q ((hmem2 q).mp (.inr (.inr (by rw [cd1]; simp [hq]))))
   have l2 : xs2.length <= 3000 := by omega
   have b2 : st2.length <= 2001 := by rw [hst2.len]; omega
   have next : ∀ (xs3 : List Str) (st3 : List Addr) (H5 : Hp), (∀ q, q ∈ xs3 ↔ q ∈ xs2 \/ q ∈ d.cards) -> xs3.length <= xs2.length + 3 -> Same H H5 -> H5 c = some (.lst (xs3.map V.str)) -> H5 bl = some (.lst (st3.map V.ref)) -> RLs H0 st3 (bds2 ++ d.inner) ->
     ∃ (xs2 : List Str) (st2 : List Addr) (bds2 : List (List Deed)) (v : Option V), [some (V.ref b), some (.ref c), some (.ref bl), some x] = [some (.ref b), some (.ref c), some (.ref bl), v] /\ Same H H5 /\ H5 c = some (.lst (xs2.map V.str)) /\ H5 bl = some (.lst (st2.map V.ref)) /\ RLs H0 st2 bds2 /\ (∀ q, (q ∈ xs2 \/ (∃ d ∈ bds2, q ∈ cards d) \/ q ∈ cards (dt.drop (i + 1))) ↔ q ∈ cards ds) /\
     xs2.length + 3 * (tot bds2 + (flats (dt.drop (i + 1))).length) <= 3000 /\ 2 * tot bds2 + bds2.length + 2 * (flats (dt.drop (i + 1))).length <= 2 * (tot bds' + (flats dt).length) + bds'.length := fun xs3 st3 H5 m3 l3 s5 c5 b5 r5 => by
    refine ⟨xs3, st3, bds2 ++ d.inner, _, rfl, s5, c5, b5, r5, fun q => ?_, by rw [tot_app]; omega, by rw [tot_app, List.length_append]; omega⟩
    rw [<- hmem2 q, m3 q, cd1]
    simp only [List.mem_append, List.mem_flatMap]
    constructor
    ·rintro ((h | h) | ⟨y, hy | hy, h⟩ | h)
     ·exact .inl h
     ·exact .inr (.inr (.inl (.inl h)))
     ·exact .inr (.inl ⟨y, hy, h⟩)
     ·exact .inr (.inr (.inl (.inr ⟨y, hy, h⟩)))
     ·exact .inr (.inr (.inr h))
    ·rintro (h | ⟨y, hy, h⟩ | ((h | ⟨y, hy, h⟩) | h))
     ·exact .inl (.inl h)
     ·exact .inr (.inl ⟨y, .inl hy, h⟩)
     ·exact .inl (.inr h)
     ·exact .inr (.inl ⟨y, .inr hy, h⟩)
     ·exact .inr (.inr h)
   have h5 : ∀ {p : Addr} {o : HO}, H0 p = some o -> ∀ {H5 : Hp}, Same H H5 -> H5 p = some o := fun h _ s5 => s5 _ _ (e0 _ _ h)
   have cn : ∀ {t : Addr}, H4 t = none -> t ≠ c /\ t ≠ bl := fun ht => ⟨(fun z => by rw [z, hc4] at ht; cases ht), (fun z => by rw [z, hb4] at ht; cases ht)⟩
   have ap1 : ∀ (y : Str), xs2.map V.str ++ [V.str y] = (xs2 ++ [y]).map V.str := fun y => by simp
   have ap2 : ∀ (y z : Str), xs2.map V.str ++ [V.str y] ++ [V.str z] = (xs2 ++ [y, z]).map V.str := fun y z => by simp
   have ll : (xs2.map V.str).length <= 3000 := by rw [List.length_map]; exact l2
   have lb : (st2.map V.ref).length <= 2001 := by rw [List.length_map]; exact b2
   cases hrd with
   | set h =>
    rename_i p x va sg vb
    refine ⟨_, rfl, _, _, _, _, rfl, rfl, SqT.of (h5 h s4), rfl, rfl, _, rfl, ?_⟩
    walk_at "yes"
    refine ⟨_, rfl, .inl ⟨rfl, _, SqL.of hc4⟩, _, rfl, _, _, _, _, rfl, rfl, SqT.of (h5 h s4), rfl, _, rfl, _, _, _, _, rfl, rfl, SqT.of (h5 h s4), rfl, _, rfl, _, _, _, _, rfl, rfl, SqT.of (h5 h s4), rfl, ln3, fun t ht => ⟨t, rfl, ⟨_, SqT.of upd_same⟩, ?_⟩⟩
    have nt := cn ht
    have st5 : Same H (upd H4 t (.tup [.str x, va.v, vb.v])) := Same.over s4 (Same.none s4 ht)
    refine comp_tup (K := K) (a := t) (xs := [.str x, va.v, vb.v]) (fun i ys σ H2 => H2 = upd H4 t (.tup [.str x, va.v, vb.v]) /\ (∃ u, σ = [u]) /\ ys = strsOf (([.str x, va.v, vb.v] : List V).take i)) ⟨rfl, ⟨_, rfl⟩, rfl⟩ ?_ ln3 ?_ ?_ ?_
    ·rintro i ys σ H2 hi ⟨_, _, rfl⟩
     refine Nat.le_trans (List.length_filter_le _ _) ?_
     rw [List.length_take]
     omega
    ·rintro i ys σ H2 ⟨rfl, _⟩
     exact SqT.of upd_same
    ·rintro i z ys σ H2 hz ⟨rfl, ⟨u, rfl⟩, rfl⟩
     have hz' : z = .str x \/ z = va.v \/ z = vb.v := by simpa using List.mem_of_getElem? hz
     have kind : (∃ y, z = .str y) \/ ∃ n, z = .int n := by
      rcases hz' with rfl | rfl | rfl
      ·exact .inl ⟨_, rfl⟩
      ·cases va <;> simp [Val.v]
      ·cases vb <;> simp [Val.v]
     rcases kind with ⟨y, rfl⟩ | ⟨n, rfl⟩
     ·refine ⟨_, rfl, _, _, _, true, rfl, .str y, rfl, _, rfl, ?_⟩
      refine iteT ⟨_, rfl, rfl, ⟨_, rfl⟩, ?_⟩
      rw [List.take_add_one, hz]
      simp [strsOf]
     ·refine ⟨_, rfl, _, _, _, false, rfl, .int n, rfl, _, rfl, ?_⟩
      refine iteF ⟨rfl, ⟨_, rfl⟩, ?_⟩
      rw [List.take_add_one, hz]
      simp [strsOf]
    ·rintro ys σ H5 ⟨rfl, _, rfl⟩ D hD
     have c6 : (upd H4 t (.tup [.str x, va.v, vb.v])) c = some (.lst (xs2.map V.str)) := by rw [upd_ne (Ne.symm nt.1)]; exact hc4
     have b6 : (upd H4 t (.tup [.str x, va.v, vb.v])) bl = some (.lst (st2.map V.ref)) := by rw [upd_ne (Ne.symm nt.2)]; exact hb4
     have Dc : D ≠ c := fun z => by rw [z, c6] at hD; cases hD
     have Db : D ≠ bl := fun z => by rw [z, b6] at hD; cases hD
     have en : strsOf (([.str x, va.v, vb.v] : List V).take ([.str x, va.v, vb.v] : List V).length) = (Deed.set x va sg vb).names.map V.str := by cases va <;> cases vb <;> rfl
     rw [en]
     have nf : (Deed.set x va sg vb).names.length <= 3 := by cases va <;> cases vb <;> simp [Deed.names, Val.names]
     have hD' : H D = none := Same.none st5 hD
     refine ⟨c, D, _, _, rfl, rfl, by rw [upd_ne (Ne.symm Dc)]; exact c6, upd_same, len_le_line (m := 3003) (by rw [List.length_map, List.length_map]; omega), ?_⟩
     refine next (xs2 ++ (Deed.set x va sg vb).names) st2 _ (fun q => by simp [Deed.cards, Deed.others]) (by rw [List.length_append]; omega) (Same.over (Same.over st5 hD') hc) ?_ ?_ (by simpa [Deed.inner] using hst2)
     ·rw [upd_same, List.map_append]
     ·rw [upd_ne blc, upd_ne (Ne.symm Db)]
      exact b6
   | put h =>
    rename_i p q x
    refine ⟨_, rfl, _, _, _, _, rfl, rfl, SqT.of (h5 h s4), rfl, rfl, _, rfl, ?_⟩
    walk_at "no"
    refine ⟨_, rfl, _, _, _, _, rfl, rfl, SqT.of (h5 h s4), rfl, rfl, _, rfl, ?_⟩
    walk_at "yes"
    refine iteT ?_
    refine ⟨_, rfl, .inl ⟨rfl, _, SqL.of hc4⟩, _, rfl, _, _, _, _, rfl, rfl, SqT.of (h5 h s4), rfl, c, _, _, rfl, rfl, hc4, len_le_line (m := 3001) (by omega), ?_⟩
    have s5 : Same H (upd H4 c (.lst (xs2.map V.str ++ [V.str x]))) := Same.over s4 hc
    refine ⟨_, rfl, .inl ⟨rfl, _, SqL.of upd_same⟩, _, rfl, _, _, _, _, rfl, rfl, SqT.of (h5 h s5), rfl, _, rfl, _, _, _, _, rfl, rfl, SqT.of (h5 h s5), rfl, rfl, _, rfl, ?_⟩
    walk_at "yes"
    have lq : q.length <= 1000 := by have := dc (q ++ (">" : Str)) (by simp [Deed.cards, Deed.others]); rw [str_len_append] at this; omega
    refine ⟨_, _, rfl, rfl, len_le_line (m := 1001) (by show q.length + 1 <= 1001; omega), c, _, _, rfl, rfl, upd_same, len_le_line (m := 3002) (by rw [List.length_append]; show (xs2.map V.str).length + 1 + 1 <= 3002; omega), ?_⟩
    refine next (xs2 ++ [x, q ++ (">" : Str)]) st2 _ (fun z => by simp [Deed.cards, Deed.names, Deed.others]) (by simp) (Same.over s5 hc) ?_ ?_ (by simpa [Deed.inner] using hst2)
    ·rw [upd_same, ap2]
    ·rw [upd_ne blc, upd_ne blc]
     exact hb4
   | get h =>
    rename_i p q x
    refine ⟨_, rfl, _, _, _, _, rfl, rfl, SqT.of (h5 h s4), rfl, rfl, _, rfl, ?_⟩
    walk_at "no"
    refine ⟨_, rfl, _, _, _, _, rfl, rfl, SqT.of (h5 h s4), rfl, rfl, _, rfl, ?_⟩
    walk_at "no"
    refine ⟨_, rfl, _, _, _, _, rfl, rfl, SqT.of (h5 h s4), rfl, rfl, _, rfl, ?_⟩
    walk_at "yes"
    refine ⟨_, rfl, .inl ⟨rfl, _, SqL.of hc4⟩, _, rfl, _, _, _, _, rfl, rfl, SqT.of (h5 h s4), rfl, c, _, _, rfl, rfl, hc4, len_le_line (m := 3001) (by omega), ?_⟩
    have s5 : Same H (upd H4 c (.lst (xs2.map V.str ++ [V.str x]))) := Same.over s4 hc
    refine ⟨_, rfl, .inl ⟨rfl, _, SqL.of upd_same⟩, _, rfl, _, _, _, _, rfl, rfl, SqT.of (h5 h s5), rfl, _, rfl, _, _, _, _, rfl, rfl, SqT.of (h5 h s5), rfl, rfl, _, rfl, ?_⟩
    walk_at "no"
    have lq : q.length <= 1000 := by have := dc (q ++ ("<" : Str)) (by simp [Deed.cards, Deed.others]); rw [str_len_append] at this; omega
    refine ⟨_, _, rfl, rfl, len_le_line (m := 1001) (by show q.length + 1 <= 1001; omega), c, _, _, rfl, rfl, upd_same, len_le_line (m := 3002) (by rw [List.length_append]; show (xs2.map V.str).length + 1 + 1 <= 3002; omega), ?_⟩
    refine next (xs2 ++ [x, q ++ ("<" : Str)]) st2 _ (fun z => by simp [Deed.cards, Deed.names, Deed.others]) (by simp) (Same.over s5 hc) ?_ ?_ (by simpa [Deed.inner] using hst2)
    ·rw [upd_same, ap2]
    ·rw [upd_ne blc, upd_ne blc]
     exact hb4
   | rep h h1 =>
    rename_i p bb n bs
    refine ⟨_, rfl, _, _, _, _, rfl, rfl, SqT.of (h5 h s4), rfl, rfl, _, rfl, ?_⟩
    walk_at "no"
    refine ⟨_, rfl, _, _, _, _, rfl, rfl, SqT.of (h5 h s4), rfl, rfl, _, rfl, ?_⟩
    walk_at "no"
    refine ⟨_, rfl, _, _, _, _, rfl, rfl, SqT.of (h5 h s4), rfl, rfl, _, rfl, ?_⟩
    walk_at "no"
    refine ⟨_, rfl, _, _, _, _, rfl, rfl, SqT.of (h5 h s4), rfl, rfl, _, rfl, ?_⟩
    walk_at "yes"
    refine ⟨_, rfl, .inl ⟨rfl, _, SqL.of hb4⟩, _, rfl, _, _, _, _, rfl, rfl, SqT.of (h5 h s4), rfl, bl, _, _, rfl, rfl, hb4, len_le_line (m := 2002) (by omega), ?_⟩
    refine next xs2 (st2 ++ [bb]) _ (fun z => by simp [Deed.cards, Deed.names, Deed.others]) (by omega) (Same.over s4 hbl') ?_ ?_ (hst2.app (.cons h1 .nil))
    ·rw [upd_ne (Ne.symm blc)]
     exact hc4
    ·rw [upd_same, List.map_append]
     rfl
   | give h =>
    rename_i p x
    refine ⟨_, rfl, _, _, _, _, rfl, rfl, SqT.of (h5 h s4), rfl, rfl, _, rfl, ?_⟩
    walk_at "no"
    refine ⟨_, rfl, _, _, _, _, rfl, rfl, SqT.of (h5 h s4), rfl, rfl, _, rfl, ?_⟩
    walk_at "no"
    refine ⟨_, rfl, _, _, _, _, rfl, rfl, SqT.of (h5 h s4), rfl, rfl, _, rfl, ?_⟩
    walk_at "no"
    refine ⟨_, rfl, _, _, _, _, rfl, rfl, SqT.of (h5 h s4), rfl, rfl, _, rfl, ?_⟩
    walk_at "no"
    refine ⟨_, rfl, .inl ⟨rfl, _, SqL.of hc4⟩, _, rfl, _, _, _, _, rfl, rfl, SqT.of (h5 h s4), rfl, c, _, _, rfl, rfl, hc4, len_le_line (m := 3001) (by omega), ?_⟩
    have s5 : Same H (upd H4 c (.lst (xs2.map V.str ++ [V.str x]))) := Same.over s4 hc
    refine ⟨_, rfl, _, _, _, _, rfl, rfl, SqT.of (h5 h s5), rfl, rfl, _, rfl, ?_⟩
    walk_at "yes"
    refine ⟨_, rfl, .inl ⟨rfl, _, SqL.of upd_same⟩, c, _, _, rfl, rfl, upd_same, len_le_line (m := 3002) (by rw [List.length_append]; show (xs2.map V.str).length + 1 + 1 <= 3002; omega), ?_⟩
    have s6 : Same H (upd (upd H4 c (.lst (xs2.map V.str ++ [V.str x]))) c (.lst (xs2.map V.str ++ [V.str x] ++ [V.str (">" : Str)]))) := Same.over s5 hc
    have c6 : (upd (upd H4 c (.lst (xs2.map V.str ++ [V.str x]))) c (.lst (xs2.map V.str ++ [V.str x] ++ [V.str (">" : Str)]))) c = some (.lst ((xs2 ++ [x, (">" : Str)]).map V.str)) := by rw [upd_same, ap2]
    have b6 : (upd (upd H4 c (.lst (xs2.map V.str ++ [V.str x]))) c (.lst (xs2.map V.str ++ [V.str x] ++ [V.str (">" : Str)]))) bl = some (.lst (st2.map V.ref)) := by rw [upd_ne blc, upd_ne blc]; exact hb4
    generalize upd (upd H4 c (.lst (xs2.map V.str ++ [V.str x]))) c (.lst (xs2.map V.str ++ [V.str x] ++ [V.str (">" : Str)])) = H6 at s6 c6 b6 ⊢
    refine ⟨_, rfl, .inl ⟨rfl, _, SqL.of b6⟩, _, rfl, _, rfl, _, _, rfl, SqT.of (h5 h s6), (by show ¬ (HT.sIx 2 0 (some 2) = 0 /\ HT.sIx 2 2 none = 2); decide), fun t ht => ⟨t, rfl, ⟨_, SqT.of upd_same⟩, ?_⟩⟩
    have nt1 : t ≠ c := fun z => by rw [z, c6] at ht; cases ht
    have nt2 : t ≠ bl := fun z => by rw [z, b6] at ht; cases ht
    have s7 : Same H (upd H6 t (.tup (([] : List Addr).map V.ref))) := Same.over s6 (Same.none s6 ht)
    refine comp_tup (K := K) (a := t) (xs := ([] : List Addr).map V.ref) (fun i ys σ H2 => H2 = upd H6 t (.tup (([] : List Addr).map V.ref)) /\ (∃ u, σ = [u]) /\ ys = (([] : List Addr).map V.ref).take i) ⟨rfl, ⟨_, rfl⟩, rfl⟩ ?_ (by show 0 <= sizeLine; decide) ?_ ?_ ?_
    ·rintro i ys σ H2 hi ⟨_, _, rfl⟩
     rw [List.length_take]
     omega
    ·rintro i ys σ H2 ⟨rfl, _⟩
     exact SqT.of upd_same
    ·rintro i z ys σ H2 hz ⟨rfl, ⟨u, rfl⟩, rfl⟩
     refine ⟨_, rfl, rfl, ⟨_, rfl⟩, ?_⟩
     rw [List.take_add_one, hz]
     rfl
    ·rintro ys σ H7 ⟨rfl, _, rfl⟩ D hD
     rw [List.take_length]
     have c7 : (upd H6 t (.tup (([] : List Addr).map V.ref))) c = some (.lst ((xs2 ++ [x, (">" : Str)]).map V.str)) := by rw [upd_ne (Ne.symm nt1)]; exact c6
     have b7 : (upd H6 t (.tup (([] : List Addr).map V.ref))) bl = some (.lst (st2.map V.ref)) := by rw [upd_ne (Ne.symm nt2)]; exact b6
     have Dc : D ≠ c := fun z => by rw [z, c7] at hD; cases hD
     have Db : D ≠ bl := fun z => by rw [z, b7] at hD; cases hD
     have hD' : H D = none := Same.none s7 hD
     refine ⟨bl, D, _, _, rfl, rfl, by rw [upd_ne (Ne.symm Db)]; exact b7, upd_same, len_le_line (m := 2100) (by rw [List.length_map, List.length_map]; show st2.length + 0 <= 2100; omega), ?_⟩
     refine next (xs2 ++ [x, (">" : Str)]) (st2 ++ ([] : List Addr)) _ (fun z => by simp [Deed.cards, Deed.names, Deed.others]) (by simp) (Same.over (Same.over s7 hD') hbl') ?_ ?_ (hst2.app .nil)
     ·rw [upd_ne (Ne.symm blc), upd_ne (Ne.symm Dc)]
      exact c7
     ·rw [upd_same, List.map_append]
   | whl h h1 =>
    rename_i p bb x bs
    refine ⟨_, rfl, _, _, _, _, rfl, rfl, SqT.of (h5 h s4), rfl, rfl, _, rfl, ?_⟩
    walk_at "no"
    refine ⟨_, rfl, _, _, _, _, rfl, rfl, SqT.of (h5 h s4), rfl, rfl, _, rfl, ?_⟩
    walk_at "no"
    refine ⟨_, rfl, _, _, _, _, rfl, rfl, SqT.of (h5 h s4), rfl, rfl, _, rfl, ?_⟩
    walk_at "no"
    refine ⟨_, rfl, _, _, _, _, rfl, rfl, SqT.of (h5 h s4), rfl, rfl, _, rfl, ?_⟩
    walk_at "no"
    refine ⟨_, rfl, .inl ⟨rfl, _, SqL.of hc4⟩, _, rfl, _, _, _, _, rfl, rfl, SqT.of (h5 h s4), rfl, c, _, _, rfl, rfl, hc4, len_le_line (m := 3001) (by omega), ?_⟩
    have s5 : Same H (upd H4 c (.lst (xs2.map V.str ++ [V.str x]))) := Same.over s4 hc
    refine ⟨_, rfl, _, _, _, _, rfl, rfl, SqT.of (h5 h s5), rfl, rfl, _, rfl, ?_⟩
    walk_at "yes"
    refine ⟨_, rfl, .inl ⟨rfl, _, SqL.of upd_same⟩, c, _, _, rfl, rfl, upd_same, len_le_line (m := 3002) (by rw [List.length_append]; show (xs2.map V.str).length + 1 + 1 <= 3002; omega), ?_⟩
    have s6 : Same H (upd (upd H4 c (.lst (xs2.map V.str ++ [V.str x]))) c (.lst (xs2.map V.str ++ [V.str x] ++ [V.str (">" : Str)]))) := Same.over s5 hc
    have c6 : (upd (upd H4 c (.lst (xs2.map V.str ++ [V.str x]))) c (.lst (xs2.map V.str ++ [V.str x] ++ [V.str (">" : Str)]))) c = some (.lst ((xs2 ++ [x, (">" : Str)]).map V.str)) := by rw [upd_same, ap2]
    have b6 : (upd (upd H4 c (.lst (xs2.map V.str ++ [V.str x]))) c (.lst (xs2.map V.str ++ [V.str x] ++ [V.str (">" : Str)]))) bl = some (.lst (st2.map V.ref)) := by rw [upd_ne blc, upd_ne blc]; exact hb4
    generalize upd (upd H4 c (.lst (xs2.map V.str ++ [V.str x]))) c (.lst (xs2.map V.str ++ [V.str x] ++ [V.str (">" : Str)])) = H6 at s6 c6 b6 ⊢
    refine ⟨_, rfl, .inl ⟨rfl, _, SqL.of b6⟩, _, rfl, _, rfl, _, _, rfl, SqT.of (h5 h s6), (by show ¬ (HT.sIx 3 0 (some 2) = 0 /\ HT.sIx 3 3 none = 3); decide), fun t ht => ⟨t, rfl, ⟨_, SqT.of upd_same⟩, ?_⟩⟩
    have nt1 : t ≠ c := fun z => by rw [z, c6] at ht; cases ht
    have nt2 : t ≠ bl := fun z => by rw [z, b6] at ht; cases ht
    have s7 : Same H (upd H6 t (.tup (([bb] : List Addr).map V.ref))) := Same.over s6 (Same.none s6 ht)
    refine comp_tup (K := K) (a := t) (xs := ([bb] : List Addr).map V.ref) (fun i ys σ H2 => H2 = upd H6 t (.tup (([bb] : List Addr).map V.ref)) /\ (∃ u, σ = [u]) /\ ys = (([bb] : List Addr).map V.ref).take i) ⟨rfl, ⟨_, rfl⟩, rfl⟩ ?_ (by show 1 <= sizeLine; decide) ?_ ?_ ?_
    ·rintro i ys σ H2 hi ⟨_, _, rfl⟩
     rw [List.length_take]
     omega
    ·rintro i ys σ H2 ⟨rfl, _⟩
     exact SqT.of upd_same
    ·rintro i z ys σ H2 hz ⟨rfl, ⟨u, rfl⟩, rfl⟩
     refine ⟨_, rfl, rfl, ⟨_, rfl⟩, ?_⟩
     rw [List.take_add_one, hz]
     rfl
    ·rintro ys σ H7 ⟨rfl, _, rfl⟩ D hD
     rw [List.take_length]
     have c7 : (upd H6 t (.tup (([bb] : List Addr).map V.ref))) c = some (.lst ((xs2 ++ [x, (">" : Str)]).map V.str)) := by rw [upd_ne (Ne.symm nt1)]; exact c6
     have b7 : (upd H6 t (.tup (([bb] : List Addr).map V.ref))) bl = some (.lst (st2.map V.ref)) := by rw [upd_ne (Ne.symm nt2)]; exact b6
     have Dc : D ≠ c := fun z => by rw [z, c7] at hD; cases hD
     have Db : D ≠ bl := fun z => by rw [z, b7] at hD; cases hD
     have hD' : H D = none := Same.none s7 hD
     refine ⟨bl, D, _, _, rfl, rfl, by rw [upd_ne (Ne.symm Db)]; exact b7, upd_same, len_le_line (m := 2100) (by rw [List.length_map, List.length_map]; show st2.length + 1 <= 2100; omega), ?_⟩
     refine next (xs2 ++ [x, (">" : Str)]) (st2 ++ ([bb] : List Addr)) _ (fun z => by simp [Deed.cards, Deed.names, Deed.others]) (by simp) (Same.over (Same.over s7 hD') hbl') ?_ ?_ (hst2.app (.cons h1 .nil))
     ·rw [upd_ne (Ne.symm blc), upd_ne (Ne.symm Dc)]
      exact c7
     ·rw [upd_same, List.map_append]
   | cond h h1 h2 =>
    rename_i p t1 o1 x ts os
    refine ⟨_, rfl, _, _, _, _, rfl, rfl, SqT.of (h5 h s4), rfl, rfl, _, rfl, ?_⟩
    walk_at "no"
    refine ⟨_, rfl, _, _, _, _, rfl, rfl, SqT.of (h5 h s4), rfl, rfl, _, rfl, ?_⟩
    walk_at "no"
    refine ⟨_, rfl, _, _, _, _, rfl, rfl, SqT.of (h5 h s4), rfl, rfl, _, rfl, ?_⟩
    walk_at "no"
    refine ⟨_, rfl, _, _, _, _, rfl, rfl, SqT.of (h5 h s4), rfl, rfl, _, rfl, ?_⟩
    walk_at "no"
    refine ⟨_, rfl, .inl ⟨rfl, _, SqL.of hc4⟩, _, rfl, _, _, _, _, rfl, rfl, SqT.of (h5 h s4), rfl, c, _, _, rfl, rfl, hc4, len_le_line (m := 3001) (by omega), ?_⟩
    have s5 : Same H (upd H4 c (.lst (xs2.map V.str ++ [V.str x]))) := Same.over s4 hc
    refine ⟨_, rfl, _, _, _, _, rfl, rfl, SqT.of (h5 h s5), rfl, rfl, _, rfl, ?_⟩
    walk_at "no"
    have s6 := s5
    have c6 : (upd H4 c (.lst (xs2.map V.str ++ [V.str x]))) c = some (.lst ((xs2 ++ [x]).map V.str)) := by rw [upd_same, ap1]
    have b6 : (upd H4 c (.lst (xs2.map V.str ++ [V.str x]))) bl = some (.lst (st2.map V.ref)) := by rw [upd_ne blc]; exact hb4
    clear s5
    generalize upd H4 c (.lst (xs2.map V.str ++ [V.str x])) = H6 at s6 c6 b6 ⊢
    refine ⟨_, rfl, .inl ⟨rfl, _, SqL.of b6⟩, _, rfl, _, rfl, _, _, rfl, SqT.of (h5 h s6), (by show ¬ (HT.sIx 4 0 (some 2) = 0 /\ HT.sIx 4 4 none = 4); decide), fun t ht => ⟨t, rfl, ⟨_, SqT.of upd_same⟩, ?_⟩⟩
    have nt1 : t ≠ c := fun z => by rw [z, c6] at ht; cases ht
    have nt2 : t ≠ bl := fun z => by rw [z, b6] at ht; cases ht
    have s7 : Same H (upd H6 t (.tup (([t1, o1] : List Addr).map V.ref))) := Same.over s6 (Same.none s6 ht)
    refine comp_tup (K := K) (a := t) (xs := ([t1, o1] : List Addr).map V.ref) (fun i ys σ H2 => H2 = upd H6 t (.tup (([t1, o1] : List Addr).map V.ref)) /\ (∃ u, σ = [u]) /\ ys = (([t1, o1] : List Addr).map V.ref).take i) ⟨rfl, ⟨_, rfl⟩, rfl⟩ ?_ (by show 2 <= sizeLine; decide) ?_ ?_ ?_
    ·rintro i ys σ H2 hi ⟨_, _, rfl⟩
     rw [List.length_take]
     omega
    ·rintro i ys σ H2 ⟨rfl, _⟩
     exact SqT.of upd_same
    ·rintro i z ys σ H2 hz ⟨rfl, ⟨u, rfl⟩, rfl⟩
     refine ⟨_, rfl, rfl, ⟨_, rfl⟩, ?_⟩
     rw [List.take_add_one, hz]
     rfl
    ·rintro ys σ H7 ⟨rfl, _, rfl⟩ D hD
     rw [List.take_length]
     have c7 : (upd H6 t (.tup (([t1, o1] : List Addr).map V.ref))) c = some (.lst ((xs2 ++ [x]).map V.str)) := by rw [upd_ne (Ne.symm nt1)]; exact c6
     have b7 : (upd H6 t (.tup (([t1, o1] : List Addr).map V.ref))) bl = some (.lst (st2.map V.ref)) := by rw [upd_ne (Ne.symm nt2)]; exact b6
     have Dc : D ≠ c := fun z => by rw [z, c7] at hD; cases hD
     have Db : D ≠ bl := fun z => by rw [z, b7] at hD; cases hD
     have hD' : H D = none := Same.none s7 hD
     refine ⟨bl, D, _, _, rfl, rfl, by rw [upd_ne (Ne.symm Db)]; exact b7, upd_same, len_le_line (m := 2100) (by rw [List.length_map, List.length_map]; show st2.length + 2 <= 2100; omega), ?_⟩
     refine next (xs2 ++ [x]) (st2 ++ ([t1, o1] : List Addr)) _ (fun z => by simp [Deed.cards, Deed.names, Deed.others]) (by simp) (Same.over (Same.over s7 hD') hbl') ?_ ?_ (hst2.app (.cons h1 (.cons h2 .nil)))
     ·rw [upd_ne (Ne.symm blc), upd_ne (Ne.symm Dc)]
      exact c7
     ·rw [upd_same, List.map_append]
  ·rintro σ H4 ⟨xs2, st2, bds2, v, rfl, s4, hc4, hb4, hst2, hmem2, hx2, hm2⟩
   rw [hdt.len, List.drop_length] at hmem2 hx2 hm2
   refine ⟨2 * tot bds2 + bds2.length, by rw [tt1]; simp [flats] at hm2 ⊢; omega, xs2, st2, bds2, _, rfl, s4, hc4, hb4, hst2, fun q => ?_, by simpa [flats] using hx2, rfl, by simp [flats] at hm2; omega⟩
   rw [<- hmem2 q]
   simp [cards, flats]
 ·have z : st.length = 0 := by
   have := of_decide_eq_false (Bool.eq_false_iff.mpr cd)
   rw [List.length_map] at this
   omega
  obtain rfl := List.length_eq_zero_iff.mp z
  cases hst
  have m3 : ∀ q, q ∈ xs ↔ q ∈ cards ds := fun q => by rw [<- hmem q]; simp
  refine ⟨_, rfl, c, xs, rfl, SqL.of hc2, by omega, fun p hp => ?_⟩
  refine ⟨p, xs, C, rfl, upd_same, fun q hq => hC q ((m3 q).mp hq), h64, fun r zs hr' nd hmz so => ?_⟩
  have p0 := Same.none s2 hp
  have r0 : H r = none := by
   refine Same.none s2 ?_
   cases q : H2 r with
   | none => rfl
   | some o =>
    have : r ≠ p := ne_of_none q hp
    rw [upd_ne this, q] at hr'
    cases hr'
  exact k _ r zs (Same.over (Same.over s2 p0) r0) r0 upd_same nd (fun q => (hmz q).trans (m3 q)) so
theorem ok__law_cell_at (T : Tx P w K mg a) : FnOk P w K mg base CX0 1 a._law_cell_at a.fd__law_cell_at ["_law_script", "_law_k"] (sp__law_cell_at K) := by
 refine T.F__law_cell_at.ok sc__law_cell_at (fun vs H Q E h => ?_) (fun cdv A outer s H vs Q E hr h => ?_)
 ·obtain ⟨_, _, _, rfl, _⟩ := h
  rfl
 obtain ⟨l, ns, k, rfl, hl, hn, h0, q⟩ := h
 refine ⟨_, (pss_cons (ps_if (pt_cmpQ qi_lt (pq 1) (pe_callB qc_len rfl T.z_len PySem.boot_len (pa_cons (pq 0) pa_nil)) (nomark _)) (pss_one (ps_ret (pe_ix qx_list (pq 0) (pq 1) (fun _ _ => rfl)))) pss_nil)
   (pss_one (ps_ret pe_int))), ?_⟩
 have len : (ns.map V.int).length = ns.length := List.length_map _
 refine ⟨_, rfl, _, rfl, l, _, rfl, .inl hl, _, _, rfl, rfl, _, rfl, ?_⟩
 refine ite2 (fun c => ?_) (fun c => ?_)
 ·have c := of_decide_eq_true c
  rw [len] at c
  have lt : k.toNat < ns.length := by omega
  have e : atI (ns.map V.int) k = some (.int (ns.getD k.toNat 0)) := by
   have := atI_nat (xs := ns.map V.int) (j := k.toNat) (v := .int (ns.getD k.toNat 0)) (by rw [List.getElem?_map, List.getD_eq_getElem?_getD, List.getElem?_eq_getElem lt]; rfl)
   rwa [Int.toNat_of_nonneg h0] at this
  exact ⟨_, rfl, _, rfl, l, _, _, _, rfl, rfl, hl, e, q⟩
 ·have c : ¬ k < ((ns.map V.int).length : Int) := fun z => c (decide_eq_true z)
  rw [len] at c
  have e : ns.getD k.toNat 0 = 0 := by rw [List.getD_eq_getElem?_getD, List.getElem?_eq_none (by omega)]; rfl
  rw [e] at q
  exact q
theorem ok__law_mixed (T : Tx P w K mg a) : FnOk P w K mg base CX0 1 a._law_mixed a.fd__law_mixed ["_law_cell", "_law_k"] sp__law_mixed := by
 refine T.F__law_mixed.ok sc__law_mixed (fun vs H Q E h => ?_) (fun cdv A outer s H vs Q E hr h => ?_)
 ·obtain ⟨_, _, rfl, _⟩ := h
  rfl
 obtain ⟨c, k, rfl, h0, h1, q⟩ := h
 unfold mixed at q
 refine ⟨_, (pss_cons (ps_set (i := 2) sc__law_mixed.nd rfl (Or.inl rfl) (pe_op qi_mod (pe_op oi_mul (pe_op qi_mod (pq 0) pe_int) (pe_op qi_add pe_int (pe_op oi_mul (pe_op oi_mul pe_int (pq 1)) (pq 1)))) pe_int))
   (pss_one (ps_ret (pe_op qi_mod (pe_op oi_mul (pe_op qi_add (pq 2) (pq 1)) (pe_op qi_add (pq 2) (pe_op oi_mul pe_int (pq 1)))) pe_int)))), ?_⟩
 have kb : Builtin.Int.intBits k <= 64 := intBits_le_64 (by omega) (by omega)
 walk_at "rd"
 refine ⟨IntMulOk.of_right kb, ?_⟩
 walk_at "rd"
 refine ⟨IntMulOk.of_right kb, ?_⟩
 walk_at "rd"
 refine ⟨IntMulOk.of_left (intBits_le_64 (by omega) (by omega)), ?_⟩
 walk_at "rd"
 have n0 := Int.emod_nonneg (c % 2147483647 * (48271 + 1103 * k * k)) (show (2147483629 : Int) ≠ 0 by decide)
 have n1 := Int.emod_lt_of_pos (c % 2147483647 * (48271 + 1103 * k * k)) (show (0 : Int) < 2147483629 by decide)
 generalize c % 2147483647 * (48271 + 1103 * k * k) % 2147483629 = m at n0 n1 q ⊢
 refine ⟨IntMulOk.of_right kb, ?_⟩
 walk_at "rd"
 refine ⟨IntMulOk.of_left (intBits_le_64 (by omega) (by omega)), ?_⟩
 walk_at "rd"
 exact q
theorem alpha_at {j : Int} (h0 : 0 <= j) (h1 : j < 26) : atI letters.cps.toList j = some (alphaAt j) := by
 have lt : j.toNat < letters.cps.toList.length := by
  have : letters.cps.toList.length = 26 := by decide +kernel
  omega
 have := atI_nat (xs := letters.cps.toList) (j := j.toNat) (v := alphaAt j) (by unfold alphaAt; rw [List.getD_eq_getElem?_getD, List.getElem?_eq_getElem lt]; rfl)
 rwa [Int.toNat_of_nonneg h0] at this
theorem letters_len : letters.length <= sizeLine := by decide +kernel
theorem sgn_len (c : Nat) : (sgn c).length = 1 := rfl
theorem lettersV_len (n : Int) : ∀ k : Nat, (lettersV n k).length = k
 | 0 => rfl
 | k + 1 => by rw [lettersV, str_len_append, lettersV_len n k, sgn_len]
theorem ok__law_letters (T : Tx P w K mg a) : FnOk P w K mg base CX0 1 a._law_letters a.fd__law_letters ["_law_number", "_law_size"] sp__law_letters := by
 refine T.F__law_letters.ok sc__law_letters (fun vs H Q E h => ?_) (fun cdv A outer s H vs Q E hr h => ?_)
 ·obtain ⟨_, _, rfl, _⟩ := h
  rfl
 obtain ⟨n, k, rfl, h0, h1, q⟩ := h
 refine ⟨_, (pss_cons (ps_set (i := 2) sc__law_letters.nd rfl (Or.inl rfl) pe_str)
   (pss_cons (ps_set (i := 3) sc__law_letters.nd rfl (Or.inl rfl) pe_str)
   (pss_cons (ps_for PassesOwn.never rfl (pj_range1 rfl T.z_range (pa_cons (pq 1) pa_nil)) (pg_name (i := 4) sc__law_letters.nd rfl (Or.inl rfl))
   (pss_cons (ps_set (i := 3) sc__law_letters.nd rfl (Or.inl rfl) (pe_op qo_add_str (pq 3) (pe_ix ix_str (pq 2) (pe_op qi_mod (pq 0) pe_int) (fun _ _ => rfl))))
   (pss_one (ps_set (i := 0) sc__law_letters.nd rfl (Or.inl rfl) (pe_op qi_fdiv (pq 0) pe_int)))))
   (pss_one (ps_ret (pq 3)))))), ?_⟩
 refine ⟨_, rfl, k, rfl, by omega, by omega, for_range (fun i σ H2 => H2 = H /\ i <= k.toNat /\ ∃ v : Option V, σ = [some (.int (divs n i)), some (.int k), some (.str letters), some (.str (lettersV n i)), v]) ⟨rfl, Nat.zero_le _, _, rfl⟩ ?_ ?_⟩
 ·rintro i σ H2 hi ⟨rfl, hik, v, rfl⟩
  have e := alpha_at (Int.emod_nonneg (divs n i) (show (26 : Int) ≠ 0 by decide)) (Int.emod_lt_of_pos (divs n i) (by decide))
  refine ⟨_, rfl, _, rfl, _, rfl, _, _, rfl, rfl, by decide, letters, _, _, rfl, rfl, letters_len, e, _, _, rfl, rfl, len_le_line (m := 1000) (by rw [lettersV_len]; show i + 1 <= 1000; omega), ?_⟩
  exact ⟨_, rfl, _, _, rfl, rfl, ⟨by decide, by decide⟩, rfl, hi, _, rfl⟩
 ·rintro σ H2 ⟨rfl, _, v, rfl⟩
  exact ⟨_, rfl, q⟩
theorem in_kws {w : Str} : ∀ {ks : List Str}, inV (.str w) (ks.map V.str) = decide (w ∈ ks)
 | [] => rfl
 | k :: ks => by
  show (eqV (.str k) (.str w) || inV (.str w) (ks.map V.str)) = decide (w ∈ k :: ks)
  rw [in_kws]
  show ((k == w) || decide (w ∈ ks)) = _
  by_cases e : k = w
  ·subst e; simp
  ·have e' : ¬ w = k := fun z => e z.symm
   simp [e, e']
theorem kws_all : ∀ w ∈ kws, atI w.cps.toList (-1) = some (w.cps.toList.getLastD 97) /\ Builtin.Str.occurrences letters ⟨#[w.cps.toList.getLastD 97]⟩ 0 letters.length 1 = [w.cps.toList.getLastD 97 - 97] /\ (97 <= w.cps.toList.getLastD 97 /\ w.cps.toList.getLastD 97 <= 122) /\ w.length <= 8 := by decide +kernel
theorem ok__law_spelt (T : Tx P w K mg a) : FnOk P w K mg base CX0 1 a._law_spelt a.fd__law_spelt ["_law_word"] sp__law_spelt := by
 refine T.F__law_spelt.ok sc__law_spelt (fun vs H Q E h => ?_) (fun cdv A outer s H vs Q E hr h => ?_)
 ·obtain ⟨_, rfl, _⟩ := h
  rfl
 obtain ⟨x, rfl, hx, q⟩ := h
 refine ⟨_, (pss_cons (ps_set (i := 1) sc__law_spelt.nd rfl (Or.inl rfl) pe_str)
   (pss_cons (ps_if (pt_cmpQ op_in_seq (pq 0) (pe_tupQ (pa_const rfl)) (by with_unfolding_all rfl)) (pss_one (ps_ret (pe_op qo_add_str (pe_slice sl_str (pq 0) po_none (po_some (pe_un un_neg pe_int))) (pe_ix ix_str (pq 1) (pe_op qi_mod (pe_op qi_add (pe_bmQ PySem.F.plainAttrs_str PySem.F.slot_str_index PySem.F.type_str_index mt_index (pq 1) (pa_cons (pe_ix ix_str (pq 0) (pe_un un_neg pe_int) (fun _ _ => rfl)) pa_nil)) pe_int) pe_int) (fun _ _ => rfl))))) pss_nil)
   (pss_one (ps_ret (pq 0))))), ?_⟩
 refine ⟨_, rfl, (by show 10 <= sizeLine; decide), fun p hp => ?_⟩
 refine ⟨p, kws.map V.str, rfl, .inr (SqT.of upd_same), rfl, rfl, _, rfl, ?_⟩
 have sm := Same.new hp (.tup (kws.map V.str))
 have hz := len_le_line (m := 200) hx
 refine ite2 (fun c => ?_) (fun c => ?_)
 ·have c : inV (.str x) (kws.map V.str) = true := c
  rw [in_kws] at c
  have hk := of_decide_eq_true c
  obtain ⟨k1, k2, k3, k4⟩ := kws_all x hk
  have li : ((x.cps.toList.getLastD 97 - 97 : Nat) : Int) = lastIx x := by unfold lastIx; omega
  have e := alpha_at (j := (((x.cps.toList.getLastD 97 - 97 : Nat) : Int) + 13) % 26) (Int.emod_nonneg _ (by decide)) (Int.emod_lt_of_pos _ (by decide))
  have res := q _ sm
  unfold speltV at res
  rw [if_pos hk, <- li] at res
  refine ⟨_, rfl, _, rfl, _, rfl, x, rfl, hz, ?_⟩
  refine ⟨_, rfl, _, rfl, rfl, ?_⟩
  refine ⟨_, rfl, _, rfl, x, _, _, rfl, rfl, hz, k1, letters, _, _, _, rfl, rfl, k2, ?_⟩
  refine ⟨_, _, rfl, rfl, _, _, rfl, rfl, by decide, letters, _, _, rfl, rfl, letters_len, e, ?_⟩
  refine ⟨_, _, rfl, rfl, len_le_line (m := 1000) ?_, res⟩
  have := Txt.slice_le x none (some (-1))
  show _ + 1 <= 1000
  omega
 ·have c : ¬ inV (.str x) (kws.map V.str) = true := c
  rw [in_kws] at c
  have res := q _ sm
  unfold speltV at res
  rw [if_neg (fun z => c (decide_eq_true z))] at res
  exact ⟨_, rfl, res⟩
theorem mixed_lo (c k : Int) : 0 <= mixed c k := by unfold mixed; exact Int.emod_nonneg _ (by decide)
theorem mixed_hi (c k : Int) : mixed c k < 2147483587 := by unfold mixed; exact Int.emod_lt_of_pos _ (by decide)
theorem slice_len (z : Str) (a b : Option Int) : (Txt.slice z a b).length <= z.length := Txt.slice_le z a b
theorem poolBase_len (c : Int) : (poolBase c).length = 8 := by unfold poolBase; exact lettersV_len _ 8
theorem poolWord_len (c k : Int) : (poolWord c k).length <= 30 := by
 unfold poolWord
 have b := poolBase_len c
 split
 ·have h1 := slice_len (poolBase c) none (some (poolAt c))
  have h2 := slice_len (poolBase c) (some (poolAt c + 1)) (some (poolSize c))
  rw [str_len_append, str_len_append]
  have : (poolSign c k).length = 1 := rfl
  omega
 ·split
  ·have h1 := slice_len (poolBase c) none (some (1 + (mixed c 1 / 24 + k) % 8))
   omega
  ·have h1 := slice_len (poolSign c k ++ lettersV (mixed c (k + 2)) 7) none (some (1 + mixed c (k + 40) % 8))
   rw [str_len_append, lettersV_len] at h1
   have : (poolSign c k).length = 1 := rfl
   omega
theorem poolUp_succ (c : Int) (i : Nat) : poolUp c (i + 1) = poolUp c i ++ [speltV (poolWord c i)] := by
 unfold poolUp
 rw [List.range_succ, List.map_append]
 rfl
theorem poolUp_len (c : Int) (i : Nat) : (poolUp c i).length = i := by unfold poolUp; simp
seal mixed lettersV poolBase poolWord speltV
theorem ok__law_pool (T : Tx P w K mg a) : FnOk P w K mg base CX0 2 a._law_pool a.fd__law_pool ["_law_cell", "_law_many"] sp__law_pool := by
 refine T.F__law_pool.ok sc__law_pool (fun vs H Q E h => ?_) (fun cdv A outer s H vs Q E hr h => ?_)
 ·obtain ⟨_, _, rfl, _⟩ := h
  rfl
 obtain ⟨c, k, rfl, h0, h1, q⟩ := h
 refine ⟨_, (pss_cons (ps_set (i := 2) sc__law_pool.nd rfl (Or.inl rfl) pe_str)
   (pss_cons (ps_set (i := 3) sc__law_pool.nd rfl (Or.inl rfl) (pe_call (ok__law_mixed T) (hr.mono (by decide)) rfl T.m__law_mixed T.F__law_mixed.kp T.b__law_mixed .nil pass0 (pa_cons (pq 0) (pa_cons pe_int pa_nil))))
   (pss_cons (ps_set (i := 4) sc__law_pool.nd rfl (Or.inl rfl) (pe_call (ok__law_letters T) (hr.mono (by decide)) rfl T.m__law_letters T.F__law_letters.kp T.b__law_letters .nil pass0 (pa_cons (pe_op qi_add (pe_op oi_mul (pq 3) (pq 3)) (pq 3)) (pa_cons pe_int pa_nil))))
   (pss_cons (ps_set (i := 5) sc__law_pool.nd rfl (Or.inl rfl) (pe_op qi_add pe_int (pe_op qi_mod (pe_op qi_fdiv (pq 3) pe_int) pe_int)))
   (pss_cons (ps_set (i := 6) sc__law_pool.nd rfl (Or.inl rfl) (pe_op qi_mod (pe_op qi_fdiv (pq 3) pe_int) (pq 5)))
   (pss_cons (ps_set (i := 7) sc__law_pool.nd rfl (Or.inl rfl) (pe_lstQ pa_nil))
   (pss_cons (ps_for PassesOwn.never rfl (pj_range1 rfl T.z_range (pa_cons (pq 1) pa_nil)) (pg_name (i := 8) sc__law_pool.nd rfl (Or.inl rfl))
   (pss_cons (ps_set (i := 9) sc__law_pool.nd rfl (Or.inl rfl) (pe_ix ix_str (pq 2) (pe_op qi_mod (pe_op qi_add (pe_op qi_fdiv (pq 3) pe_int) (pq 8)) pe_int) (fun _ _ => rfl)))
   (pss_cons (ps_if (pt_cmpQ qo_eq (pe_op qi_mod (pq 3) pe_int) pe_int (nomark _)) (pss_one (ps_set (i := 10) sc__law_pool.nd rfl (Or.inl rfl) (pe_op qo_add_str (pe_op qo_add_str (pe_slice sl_str (pq 4) po_none (po_some (pq 6))) (pq 9)) (pe_slice sl_str (pq 4) (po_some (pe_op qi_add (pq 6) pe_int)) (po_some (pq 5)))))) (pss_one (ps_if (pt_cmpQ qo_eq (pe_op qi_mod (pq 3) pe_int) pe_int (nomark _)) (pss_one (ps_set (i := 10) sc__law_pool.nd rfl (Or.inl rfl) (pe_slice sl_str (pq 4) po_none (po_some (pe_op qi_add pe_int (pe_op qi_mod (pe_op qi_add (pe_op qi_fdiv (pq 3) pe_int) (pq 8)) pe_int)))))) (pss_one (ps_set (i := 10) sc__law_pool.nd rfl (Or.inl rfl) (pe_slice sl_str (pe_op qo_add_str (pq 9) (pe_call (ok__law_letters T) (hr.mono (by decide)) rfl T.m__law_letters T.F__law_letters.kp T.b__law_letters .nil pass0 (pa_cons (pe_call (ok__law_mixed T) (hr.mono (by decide)) rfl T.m__law_mixed T.F__law_mixed.kp T.b__law_mixed .nil pass0 (pa_cons (pq 0) (pa_cons (pe_op qi_add (pq 8) pe_int) pa_nil))) (pa_cons pe_int pa_nil)))) po_none (po_some (pe_op qi_add pe_int (pe_op qi_mod (pe_call (ok__law_mixed T) (hr.mono (by decide)) rfl T.m__law_mixed T.F__law_mixed.kp T.b__law_mixed .nil pass0 (pa_cons (pq 0) (pa_cons (pe_op qi_add (pq 8) pe_int) pa_nil))) pe_int)))))))))
   (pss_one (ps_expr (pe_bmQ PySem.F.plainAttrs_list PySem.F.slot_list_append PySem.F.type_list_append qm_append (pq 7) (pa_cons (pe_call (ok__law_spelt T) (hr.mono (by decide)) rfl T.m__law_spelt T.F__law_spelt.kp T.b__law_spelt .nil pass0 (pa_cons (pq 10) pa_nil)) pa_nil)))))))
   (pss_cons (ps_if (pt_cmpQ qo_eq (pe_op qi_mod (pe_op qi_fdiv (pq 3) pe_int) pe_int) pe_int (nomark _)) (pss_one (ps_ret (pe_listrev rfl rfl T.z_list rfl T.z_reversed (pq 7)))) pss_nil)
   (pss_one (ps_ret (pq 7))))))))))), ?_⟩
 have n0 := mixed_lo c 1
 have n1 := mixed_hi c 1
 have nb : Builtin.Int.intBits (mixed c 1) <= 64 := intBits_le_64 (by omega) (by omega)
 refine ⟨_, rfl, c, 1, rfl, by decide, by decide, ?_⟩
 refine ⟨_, rfl, _, rfl, _, _, rfl, rfl, IntMulOk.of_right nb, _, rfl, _, _, rfl, rfl, _, 8, rfl, by decide, by decide, ?_⟩
 have base : lettersV (mixed c 1 * mixed c 1 + mixed c 1) (8 : Int).toNat = poolBase c := by unfold poolBase; rfl
 rw [base]
 refine ⟨_, rfl, _, _, rfl, rfl, ⟨by decide, by decide⟩, _, _, rfl, rfl, by decide, _, _, rfl, rfl, ?_⟩
 have size : 1 + mixed c 1 / 3 % 8 = poolSize c := rfl
 rw [size]
 have sz : 1 <= poolSize c /\ poolSize c <= 8 := by unfold poolSize; omega
 refine ⟨_, rfl, _, _, rfl, rfl, ⟨by decide, by decide⟩, _, rfl, _, _, rfl, rfl, by omega, ?_⟩
 have at' : mixed c 1 / 24 % poolSize c = poolAt c := rfl
 rw [at']
 refine ⟨Nat.zero_le _, fun l hl => ?_⟩
 have bl := poolBase_len c
 have bz : (poolBase c).length <= sizeLine := len_le_line (m := 100) (by omega)
 refine ⟨_, rfl, k, rfl, by omega, by omega, for_range (fun i σ H2 => Same H H2 /\ i <= k.toNat /\ H2 l = some (.lst ((poolUp c i).map V.str)) /\ ∃ v8 v9 v10 : Option V, σ = [some (.int c), some (.int k), some (.str letters), some (.int (mixed c 1)), some (.str (poolBase c)), some (.int (poolSize c)), some (.int (poolAt c)), some (.ref l), v8, v9, v10])
  ⟨Same.new hl _, Nat.zero_le _, upd_same, _, _, _, rfl⟩ ?_ ?_⟩
 ·rintro i σ H2 hi ⟨s2, hik, hl2, v8, v9, v10, rfl⟩
  have e9 := alpha_at (Int.emod_nonneg (mixed c 1 / 192 + (0 + (i : Int))) (show (26 : Int) ≠ 0 by decide)) (Int.emod_lt_of_pos _ (by decide))
  refine ⟨_, rfl, _, rfl, _, _, rfl, rfl, ⟨by decide, by decide⟩, _, rfl, _, _, rfl, rfl, _, _, rfl, rfl, by decide, letters, _, _, rfl, rfl, letters_len, e9, ?_⟩
  have z0 : (0 : Int) + (i : Int) = (i : Int) := by omega
  rw [z0]
  have sg : (⟨#[alphaAt ((mixed c 1 / 192 + (i : Int)) % 26)]⟩ : Str) = poolSign c i := rfl
  have sl : (poolSign c i).length = 1 := rfl
  have pw := poolWord_len c i
  refine ⟨_, rfl, _, _, rfl, rfl, by decide, rfl, _, rfl, ?_⟩
  refine ite2 (fun c1 => ?_) (fun c1 => ?_)
  ·have c1 := int_yes c1
   have h1 := slice_len (poolBase c) none (some (poolAt c))
   have h2 := slice_len (poolBase c) (some (poolAt c + 1)) (some (poolSize c))
   refine ⟨_, rfl, _, rfl, _, rfl, poolBase c, rfl, bz, _, rfl, _, _, rfl, rfl, len_le_line (m := 100) (by rw [sg, sl]; omega), _, rfl, _, rfl, _, _, rfl, rfl, _, rfl, _, rfl, _, rfl, poolBase c, rfl, bz, _, _, rfl, rfl, len_le_line (m := 100) (by rw [str_len_append, sg, sl]; omega), ?_⟩
   have pe : Txt.slice (poolBase c) none (some (poolAt c)) ++ (⟨#[alphaAt ((mixed c 1 / 192 + (i : Int)) % 26)]⟩ : Str) ++ Txt.slice (poolBase c) (some (poolAt c + 1)) (some (poolSize c)) = poolWord c i := by
    rw [sg]
    unfold poolWord
    rw [if_pos c1]
   rw [pe]
   refine ⟨_, rfl, .inl ⟨rfl, _, SqL.of hl2⟩, _, rfl, poolWord c i, rfl, by omega, fun H3 s3 => ?_⟩
   refine ⟨l, _, _, rfl, rfl, s3 _ _ hl2, len_le_line (m := 1000) (by rw [List.length_map, poolUp_len]; omega), ?_⟩
   refine ⟨Same.over (s2.trans s3) hl, hi, ?_, _, _, _, rfl⟩
   rw [upd_same, poolUp_succ, List.map_append]
   rfl
  have c1 := int_no c1
  refine ⟨_, rfl, _, _, rfl, rfl, by decide, rfl, _, rfl, ?_⟩
  refine ite2 (fun c2 => ?_) (fun c2 => ?_)
  ·have c2 := int_yes c2
   refine ⟨_, rfl, _, rfl, _, _, rfl, rfl, ⟨by decide, by decide⟩, _, rfl, _, _, rfl, rfl, _, _, rfl, rfl, by decide, _, _, rfl, rfl, _, rfl, poolBase c, rfl, bz, ?_⟩
   have pe : Txt.slice (poolBase c) none (some (1 + (mixed c 1 / 24 + (i : Int)) % 8)) = poolWord c i := by
    unfold poolWord
    rw [if_neg c1, if_pos c2]
   rw [pe]
   refine ⟨_, rfl, .inl ⟨rfl, _, SqL.of hl2⟩, _, rfl, poolWord c i, rfl, by omega, fun H3 s3 => ?_⟩
   refine ⟨l, _, _, rfl, rfl, s3 _ _ hl2, len_le_line (m := 1000) (by rw [List.length_map, poolUp_len]; omega), ?_⟩
   refine ⟨Same.over (s2.trans s3) hl, hi, ?_, _, _, _, rfl⟩
   rw [upd_same, poolUp_succ, List.map_append]
   rfl
  ·have c2 := int_no c2
   refine ⟨_, rfl, _, rfl, _, rfl, _, _, rfl, rfl, c, _, rfl, by omega, by omega, _, 7, rfl, by decide, by decide, ?_⟩
   have l7 : (lettersV (mixed c ((i : Int) + 2)) (7 : Int).toNat).length = 7 := lettersV_len _ 7
   refine ⟨_, _, rfl, rfl, len_le_line (m := 100) (by rw [sg, sl, l7]; omega), ?_⟩
   refine ⟨_, rfl, _, rfl, _, _, rfl, rfl, c, _, rfl, by omega, by omega, _, _, rfl, rfl, by decide, _, _, rfl, rfl, _, rfl, _, rfl, len_le_line (m := 100) (by rw [str_len_append, sg, sl, l7]; omega), ?_⟩
   have pe : Txt.slice ((⟨#[alphaAt ((mixed c 1 / 192 + (i : Int)) % 26)]⟩ : Str) ++ lettersV (mixed c ((i : Int) + 2)) (7 : Int).toNat) none (some (1 + mixed c ((i : Int) + 40) % 8)) = poolWord c i := by
    rw [sg]
    unfold poolWord
    rw [if_neg c1, if_neg c2]
    rfl
   rw [pe]
   refine ⟨_, rfl, .inl ⟨rfl, _, SqL.of hl2⟩, _, rfl, poolWord c i, rfl, by omega, fun H3 s3 => ?_⟩
   refine ⟨l, _, _, rfl, rfl, s3 _ _ hl2, len_le_line (m := 1000) (by rw [List.length_map, poolUp_len]; omega), ?_⟩
   refine ⟨Same.over (s2.trans s3) hl, hi, ?_, _, _, _, rfl⟩
   rw [upd_same, poolUp_succ, List.map_append]
   rfl
 ·rintro σ H2 ⟨s2, _, hl2, v8, v9, v10, rfl⟩
  have hln : (0 : Int) + k.toNat = k := by omega
  refine ⟨_, rfl, _, _, rfl, rfl, ⟨by decide, by decide⟩, _, _, rfl, rfl, by decide, rfl, _, rfl, ?_⟩
  refine ite2 (fun cc => ?_) (fun cc => ?_)
  ·have cc := int_yes cc
   refine ⟨_, rfl, l, _, rfl, SqL.of hl2, fun r hr' => ?_⟩
   refine q _ r (Same.over s2 (Same.none s2 hr')) (Same.none s2 hr') ?_
   rw [upd_same]
   unfold poolV
   rw [if_pos cc, List.map_reverse]
  ·have cc := int_no cc
   refine ⟨_, rfl, q _ l s2 hl ?_⟩
   unfold poolV
   rw [if_neg cc]
   exact hl2
theorem nth_at {l : List Str} (h : 0 < l.length) (i : Int) : atI (l.map V.str) (i % ((l.map V.str).length : Int)) = some (.str (nth l i)) := by
 have e : ((l.map V.str).length : Int) = (l.length : Int) := by rw [List.length_map]
 rw [e]
 have h1 : 0 <= i % (l.length : Int) := Int.emod_nonneg _ (by omega)
 have h2 : i % (l.length : Int) < l.length := Int.emod_lt_of_pos _ (by omega)
 have lt : (i % (l.length : Int)).toNat < l.length := by omega
 have := atI_nat (xs := l.map V.str) (j := (i % (l.length : Int)).toNat) (v := .str (nth l i)) (by unfold nth; rw [List.getElem?_map, List.getD_eq_getElem?_getD, List.getElem?_eq_getElem lt]; rfl)
 rwa [Int.toNat_of_nonneg h1] at this
theorem sign_at (i : Int) : atI ("+-*/<=&|^" : Str).cps.toList (i % 9) = some (("+-*/<=&|^" : Str).cps.toList.getD (i % 9).toNat 0) := by
 have h1 : 0 <= i % 9 := Int.emod_nonneg _ (by decide)
 have h2 : i % 9 < 9 := Int.emod_lt_of_pos _ (by decide)
 have ln : ("+-*/<=&|^" : Str).cps.toList.length = 9 := by decide +kernel
 have lt : (i % 9).toNat < ("+-*/<=&|^" : Str).cps.toList.length := by omega
 have := atI_nat (xs := ("+-*/<=&|^" : Str).cps.toList) (j := (i % 9).toNat) (v := ("+-*/<=&|^" : Str).cps.toList.getD (i % 9).toNat 0) (by rw [List.getD_eq_getElem?_getD, List.getElem?_eq_getElem lt]; rfl)
 rwa [Int.toNat_of_nonneg h1] at this
theorem in_ints {n : Int} : ∀ {ks : List Int}, inV (.int n) (ks.map V.int) = decide (n ∈ ks)
 | [] => rfl
 | k :: ks => by
  show (eqV (.int k) (.int n) || inV (.int n) (ks.map V.int)) = decide (n ∈ k :: ks)
  rw [in_ints]
  show ((k == n) || decide (n ∈ ks)) = _
  by_cases e : k = n
  ·subst e; simp
  ·have e' : ¬ n = k := fun z => e z.symm
   simp [e, e']
theorem p30 : (10 : Int) ^ (30 : Int).toNat = 1000000000000000000000000000000 := by decide +kernel
def aV (n : Int) (names : List Str) : Val := if n / 14 / 125 % 4 = 0 then .num (n * n * n * 69621 % 1000000000000000000000000000000) else .nm (nth names (n / 14 / 5))
def bV (n : Int) (names : List Str) : Val := if n / 14 / 500 % 3 = 0 then .num (n * n * 48271 % 1000000000000000000000000000000) else .nm (nth names (n / 14 / 25))
abbrev movesK (n : Int) : Prop := n % 14 = 1 \/ n % 14 = 2 \/ n % 14 = 3 \/ n % 14 = 4 \/ n % 14 = 12 \/ n % 14 = 13
abbrev getsK (n : Int) : Prop := n % 14 = 3 \/ n % 14 = 4 \/ n % 14 = 13
theorem moves_in {n : Int} : inV (.int (n % 14)) (([1, 2, 3, 4, 12, 13] : List Int).map V.int) = true ↔ movesK n := by rw [in_ints]; simp [movesK]
theorem gets_in {n : Int} : inV (.int (n % 14)) (([3, 4, 13] : List Int).map V.int) = true ↔ getsK n := by rw [in_ints]; simp [getsK]
theorem simple_give {n : Int} {names rooms : List Str} {shut : Bool} (h : n % 14 = 6) : simpleV n names rooms shut = .give (nth names (n / 14)) := by unfold simpleV; rw [if_pos h]
theorem simple_move {n : Int} {names rooms : List Str} {shut : Bool} (h : movesK n) (h2 : 0 < rooms.length) (h3 : shut = false) : (getsK n -> simpleV n names rooms shut = .get (nth rooms (n / 14 / 5)) (nth names (n / 14))) /\ (¬ getsK n -> simpleV n names rooms shut = .put (nth rooms (n / 14 / 5)) (nth names (n / 14))) := by
 have h6 : ¬ n % 14 = 6 := by unfold movesK at h; omega
 unfold simpleV
 rw [if_neg h6, if_pos ⟨h, h2, h3⟩]
 exact ⟨fun g => by rw [if_pos g], fun g => by rw [if_neg g]⟩
theorem simple_set {n : Int} {names rooms : List Str} {shut : Bool} (h6 : ¬ n % 14 = 6) (h : ¬ (movesK n /\ 0 < rooms.length /\ shut = false)) : simpleV n names rooms shut = .set (nth names (n / 14)) (aV n names) (signAt (n / 14 / 1500)) (bV n names) := by
 unfold simpleV
 rw [if_neg h6, if_neg h]
 rfl
theorem ok__law_simple (T : Tx P w K mg a) : FnOk P w K mg base CX0 1 a._law_simple a.fd__law_simple ["_law_number", "_law_names", "_law_rooms", "_law_shut"] (sp__law_simple K) := by
 refine T.F__law_simple.ok sc__law_simple (fun vs H Q E h => ?_) (fun cdv A outer s H vs Q E hr h => ?_)
 ·obtain ⟨_, _, _, _, _, _, rfl, _⟩ := h
  rfl
 obtain ⟨n, ln, lr, names, rooms, shut, rfl, hn, hro, n0, n1, r1, b0, b1, q⟩ := h
 refine ⟨_, (pss_cons (ps_set (i := 4) sc__law_simple.nd rfl (Or.inl rfl) (pe_op qi_mod (pq 0) pe_int))
   (pss_cons (ps_set (i := 5) sc__law_simple.nd rfl (Or.inl rfl) (pe_op qi_fdiv (pq 0) pe_int))
   (pss_cons (ps_set (i := 6) sc__law_simple.nd rfl (Or.inl rfl) (pe_ix qx_list (pq 1) (pe_op qi_mod (pq 5) (pe_callB qc_len rfl T.z_len PySem.boot_len (pa_cons (pq 1) pa_nil))) (fun _ _ => rfl)))
   (pss_cons (ps_if (pt_cmpQ qo_eq (pq 4) pe_int (nomark _)) (pss_one (ps_ret (pe_tupQ (pa_cons pe_str (pa_cons (pq 6) pa_nil))))) pss_nil)
   (pss_cons (ps_if (PW.pt (pw_and (pt_cmpQ op_in_seq (pq 4) (pe_tupQ (pa_const rfl)) (by with_unfolding_all rfl)) (pw_and (pt_cmpQ qi_gt (pe_callB qc_len rfl T.z_len PySem.boot_len (pa_cons (pq 2) pa_nil)) pe_int (nomark _)) (pw_and1 (pt_not (pt_valQ (pq 3))))))) (pss_one (ps_ret (pe_tupQ (pa_cons (pe_ifExp (pt_cmpQ op_in_seq (pq 4) (pe_tupQ (pa_const rfl)) (by with_unfolding_all rfl)) pe_str pe_str) (pa_cons (pe_ix qx_list (pq 2) (pe_op qi_mod (pe_op qi_fdiv (pq 5) pe_int) (pe_callB qc_len rfl T.z_len PySem.boot_len (pa_cons (pq 2) pa_nil))) (fun _ _ => rfl)) (pa_cons (pq 6) pa_nil)))))) pss_nil)
   (pss_cons (ps_set (i := 7) sc__law_simple.nd rfl (Or.inl rfl) (pe_ix qx_list (pq 1) (pe_op qi_mod (pe_op qi_fdiv (pq 5) pe_int) (pe_callB qc_len rfl T.z_len PySem.boot_len (pa_cons (pq 1) pa_nil))) (fun _ _ => rfl)))
   (pss_cons (ps_set (i := 8) sc__law_simple.nd rfl (Or.inl rfl) (pe_ix qx_list (pq 1) (pe_op qi_mod (pe_op qi_fdiv (pq 5) pe_int) (pe_callB qc_len rfl T.z_len PySem.boot_len (pa_cons (pq 1) pa_nil))) (fun _ _ => rfl)))
   (pss_cons (ps_if (pt_cmpQ qo_eq (pe_op qi_mod (pe_op qi_fdiv (pq 5) pe_int) pe_int) pe_int (nomark _)) (pss_one (ps_set (i := 7) sc__law_simple.nd rfl (Or.inl rfl) (pe_op qi_mod (pe_op oi_mul (pe_op oi_mul (pe_op oi_mul (pq 0) (pq 0)) (pq 0)) pe_int) (pe_op oi_pow pe_int pe_int)))) pss_nil)
   (pss_cons (ps_if (pt_cmpQ qo_eq (pe_op qi_mod (pe_op qi_fdiv (pq 5) pe_int) pe_int) pe_int (nomark _)) (pss_one (ps_set (i := 8) sc__law_simple.nd rfl (Or.inl rfl) (pe_op qi_mod (pe_op oi_mul (pe_op oi_mul (pq 0) (pq 0)) pe_int) (pe_op oi_pow pe_int pe_int)))) pss_nil)
   (pss_one (ps_ret (pe_tupQ (pa_cons pe_str (pa_cons (pq 6) (pa_cons (pq 7) (pa_cons (pe_ix ix_str pe_str (pe_op qi_mod (pe_op qi_fdiv (pq 5) pe_int) pe_int) (fun _ _ => rfl)) (pa_cons (pq 8) pa_nil))))))))))))))))), ?_⟩
 have nl : (names.map V.str).length = names.length := List.length_map _
 have rl : (rooms.map V.str).length = rooms.length := List.length_map _
 have fin : ∀ (H1 : Hp) (p : Addr) (xs : List V), Same H H1 -> H1 p = none -> (∀ H0 : Hp, H0 p = some (.tup xs) -> RD H0 (.ref p) (simpleV n names rooms shut)) -> Q (.ref p) (upd H1 p (.tup xs)) := fun H1 p xs s1 hp hd =>
  q _ p xs (Same.over s1 (Same.none s1 hp)) (Same.none s1 hp) upd_same hd
 refine ⟨_, rfl, _, _, rfl, rfl, by decide, ?_⟩
 refine ⟨_, rfl, _, _, rfl, rfl, ⟨by decide, by decide⟩, ?_⟩
 refine ⟨_, rfl, _, rfl, _, rfl, ln, _, rfl, .inl hn, _, _, rfl, rfl, by omega, ln, _, _, _, rfl, rfl, hn, nth_at n0 _, ?_⟩
 refine ⟨_, rfl, rfl, _, rfl, ?_⟩
 refine ite2 (fun c => ?_) (fun c => ?_)
 ·have c := int_yes c
  exact ⟨_, rfl, ln2, fun p hp => fin H p _ (Same.refl H) hp fun H0 h0 => by rw [simple_give c]; exact .give h0⟩
 have c6 := int_no c
 refine ⟨_, rfl, (by show 6 <= sizeLine; decide), fun t ht => ?_⟩
 refine ⟨t, ([1, 2, 3, 4, 12, 13] : List Int).map V.int, rfl, .inr (SqT.of upd_same), rfl, rfl, _, rfl, ?_⟩
 have s1 : Same H (upd H t (.tup (([1, 2, 3, 4, 12, 13] : List Int).map V.int))) := Same.new ht _
 have hn1 := s1.seq hn
 have hr1 := s1.seq hro
 refine join0' (Pc := ¬ (movesK n /\ 0 < rooms.length /\ shut = false)) (fun c z => c (moves_in.mpr z.1)) ?_ fun c go => ?_
 ·intro nm
  refine iteF ?_
  refine ⟨_, rfl, _, rfl, _, _, rfl, rfl, ⟨by decide, by decide⟩, _, rfl, ln, _, rfl, .inl hn1, _, _, rfl, rfl, by omega, ln, _, _, _, rfl, rfl, hn1, nth_at n0 _, ?_⟩
  refine ⟨_, rfl, _, rfl, _, _, rfl, rfl, ⟨by decide, by decide⟩, _, rfl, ln, _, rfl, .inl hn1, _, _, rfl, rfl, by omega, ln, _, _, _, rfl, rfl, hn1, nth_at n0 _, ?_⟩
  refine ⟨_, rfl, _, _, rfl, rfl, ⟨by decide, by decide⟩, _, _, rfl, rfl, by decide, rfl, _, rfl, ?_⟩
  have nb : Builtin.Int.intBits n <= 64 := intBits_le_64 (by omega) (by omega)
  have nn0 : 0 <= n * n := Int.mul_nonneg b0 b0
  have nn1 : n * n <= 2147483648 * 2147483648 := Int.mul_le_mul (by omega) (by omega) b0 (by decide)
  generalize hv0 : V.str (nth names (n / 14 / 5)) = v0
  refine join1c (P := fun v => v = (aV n names).v) (w := v0) (fun c => ?_) ?_ fun c go => ?_
  ·rw [<- hv0]
   unfold aV
   rw [if_neg (int_no c)]
   rfl
  ·rintro va rfl
   refine ⟨_, rfl, _, _, rfl, rfl, ⟨by decide, by decide⟩, _, _, rfl, rfl, by decide, rfl, _, rfl, ?_⟩
   generalize hv1 : V.str (nth names (n / 14 / 25)) = v1
   refine join1c (P := fun v => v = (bV n names).v) (w := v1) (fun c => ?_) ?_ fun c go => ?_
   ·rw [<- hv1]
    unfold bV
    rw [if_neg (int_no c)]
    rfl
   ·rintro vb rfl
    refine ⟨_, rfl, _, rfl, _, rfl, _, _, rfl, rfl, ⟨by decide, by decide⟩, _, _, rfl, rfl, by decide, _, _, _, rfl, rfl, (by decide +kernel), sign_at _, _, rfl, (by show 5 <= sizeLine; decide), fun p hp => fin _ p _ s1 hp fun H0 h0 => ?_⟩
    rw [simple_set c6 nm]
    exact .set h0
   ·refine ⟨_, rfl, _, rfl, _, _, rfl, rfl, IntMulOk.of_right nb, _, _, rfl, rfl, IntMulOk.of_right (intBits_le_64 (by decide) (by decide)), _, _, rfl, rfl, ⟨by decide, by decide, by decide⟩, _, _, rfl, rfl, by rw [p30]; decide, ?_⟩
    rw [p30]
    refine go _ ?_
    unfold bV
    rw [if_pos (int_yes c)]
    rfl
  ·refine ⟨_, rfl, _, rfl, _, _, rfl, rfl, IntMulOk.of_right nb, _, rfl, _, _, rfl, rfl, IntMulOk.of_right nb, _, _, rfl, rfl, IntMulOk.of_right (intBits_le_64 (by decide) (by decide)), _, _, rfl, rfl, ⟨by decide, by decide, by decide⟩, _, _, rfl, rfl, by rw [p30]; decide, ?_⟩
   rw [p30]
   refine go _ ?_
   unfold aV
   rw [if_pos (int_yes c)]
   rfl
 ·have cm := moves_in.mp c
  refine ⟨_, rfl, lr, _, rfl, .inl hr1, _, _, rfl, rfl, _, rfl, ?_⟩
  refine ite2 (fun c2 => ?_) (fun c2 => ?_)
  ·have c2 : 0 < rooms.length := by
    have := of_decide_eq_true c2
    rw [rl] at this
    omega
   cases shut with
   | true =>
    refine ⟨_, rfl, _, rfl, ?_⟩
    exact go fun z => nomatch z.2.2
   | false =>
    refine ⟨_, rfl, _, rfl, ?_⟩
    refine iteT ?_
    have mv := simple_move (names := names) cm c2 (shut := false) rfl
    refine ⟨_, rfl, (by show 3 <= sizeLine; decide), fun u hu => ?_⟩
    refine ⟨u, ([3, 4, 13] : List Int).map V.int, rfl, .inr (SqT.of upd_same), rfl, rfl, _, rfl, ?_⟩
    have s2 : Same H (upd (upd H t (.tup (([1, 2, 3, 4, 12, 13] : List Int).map V.int))) u (.tup (([3, 4, 13] : List Int).map V.int))) := Same.over s1 (Same.none s1 hu)
    have hr2 := s2.seq hro
    refine ite2 (fun c3 => ?_) (fun c3 => ?_)
    ·refine ⟨_, rfl, _, rfl, _, _, rfl, rfl, ⟨by decide, by decide⟩, _, rfl, lr, _, rfl, .inl hr2, _, _, rfl, rfl, by omega, lr, _, _, _, rfl, rfl, hr2, nth_at c2 _, _, rfl, ln3, fun p hp => fin _ p _ s2 hp fun H0 h0 => ?_⟩
     rw [mv.1 (gets_in.mp c3)]
     exact .get h0
    ·refine ⟨_, rfl, _, rfl, _, _, rfl, rfl, ⟨by decide, by decide⟩, _, rfl, lr, _, rfl, .inl hr2, _, _, rfl, rfl, by omega, lr, _, _, _, rfl, rfl, hr2, nth_at c2 _, _, rfl, ln3, fun p hp => fin _ p _ s2 hp fun H0 h0 => ?_⟩
     rw [mv.2 fun g => c3 (gets_in.mpr g)]
     exact .put h0
  ·exact go fun z => c2 (decide_eq_true (by rw [rl]; have := z.2.1; omega))
theorem ok__law_opened (T : Tx P w K mg a) : FnOk P w K mg base CX0 1 a._law_opened a.fd__law_opened ["_law_state", "_law_number", "_law_x", "_law_most"] sp__law_opened := by
 refine T.F__law_opened.ok sc__law_opened (fun vs H Q E h => ?_) (fun cdv A outer s H vs Q E hr h => ?_)
 ·obtain ⟨_, _, _, _, _, _, _, _, _, _, _, _, rfl, _⟩ := h
  rfl
 obtain ⟨Hb, H0, S, s0, s1, s2, s3, x, r, n, most, nm, rfl, Z, hlen, hdl, n0, n1, m0, m1, t0, t1, q⟩ := h
 refine ⟨_, (pss_cons (ps_set (i := 4) sc__law_opened.nd rfl (Or.inl rfl) (pe_op qi_mod (pq 1) pe_int))
   (pss_cons (ps_set (i := 5) sc__law_opened.nd rfl (Or.inl rfl) (pe_op qi_fdiv (pq 1) pe_int))
   (pss_cons (ps_set (i := 6) sc__law_opened.nd rfl (Or.inl rfl) (pe_lstQ pa_nil))
   (pss_cons (ps_set (i := 7) sc__law_opened.nd rfl (Or.inl rfl) pe_non)
   (pss_cons (ps_set (i := 8) sc__law_opened.nd rfl (Or.inl rfl) pe_bl)
   (pss_cons (ps_set (i := 9) sc__law_opened.nd rfl (Or.inl rfl) pe_int)
   (pss_cons (ps_if (pt_cmpQ qo_eq (pq 4) pe_int (nomark _)) (pss_cons (ps_set (i := 7) sc__law_opened.nd rfl (Or.inl rfl) (pe_lstQ pa_nil))
   (pss_one (ps_expr (pe_bmQ PySem.F.plainAttrs_list PySem.F.slot_list_append PySem.F.type_list_append qm_append (pe_ix qx_list (pe_ix qx_list (pq 0) pe_int (fun _ _ => rfl)) (pe_un un_neg pe_int) (fun _ _ => rfl)) (pa_cons (pe_tupQ (pa_cons pe_str (pa_cons (pq 2) (pa_cons (pq 6) (pa_cons (pq 7) pa_nil))))) pa_nil))))) (pss_one (ps_if (pt_cmpQ qo_eq (pq 4) pe_int (nomark _)) (pss_one (ps_expr (pe_bmQ PySem.F.plainAttrs_list PySem.F.slot_list_append PySem.F.type_list_append qm_append (pe_ix qx_list (pe_ix qx_list (pq 0) pe_int (fun _ _ => rfl)) (pe_un un_neg pe_int) (fun _ _ => rfl)) (pa_cons (pe_tupQ (pa_cons pe_str (pa_cons (pq 2) (pa_cons (pq 6) pa_nil)))) pa_nil)))) (pss_cons (ps_set (i := 10) sc__law_opened.nd rfl (Or.inl rfl) (pe_ix qx_list (pe_ix qx_list (pq 0) pe_int (fun _ _ => rfl)) (pe_un un_neg pe_int) (fun _ _ => rfl)))
   (pss_cons (ps_set (i := 11) sc__law_opened.nd rfl (Or.inl rfl) (pe_op qi_mod (pq 5) pe_int))
   (pss_cons (ps_if (pt_cmpQ qi_gt (pq 10) pe_int (nomark _)) (pss_one (ps_set (i := 11) sc__law_opened.nd rfl (Or.inl rfl) (pe_op qi_mod (pq 5) (pe_op qi_add pe_int (pe_op qi_fdiv (pq 3) (pq 10)))))) pss_nil)
   (pss_cons (ps_expr (pe_bmQ PySem.F.plainAttrs_list PySem.F.slot_list_append PySem.F.type_list_append qm_append (pe_ix qx_list (pe_ix qx_list (pq 0) pe_int (fun _ _ => rfl)) (pe_un un_neg pe_int) (fun _ _ => rfl)) (pa_cons (pe_tupQ (pa_cons pe_str (pa_cons (pq 11) (pa_cons (pq 6) pa_nil)))) pa_nil)))
   (pss_cons (ps_set (i := 8) sc__law_opened.nd rfl (Or.inl rfl) (pe_ix qx_list (pe_ix qx_list (pq 0) pe_int (fun _ _ => rfl)) (pe_un un_neg pe_int) (fun _ _ => rfl)))
   (pss_one (ps_set (i := 9) sc__law_opened.nd rfl (Or.inl rfl) (pe_op oi_mul (pq 10) (pq 11))))))))))))
   (pss_cons (ps_expr (pe_bmQ PySem.F.plainAttrs_list PySem.F.slot_list_append PySem.F.type_list_append qm_append (pe_ix qx_list (pq 0) pe_int (fun _ _ => rfl)) (pa_cons (pq 6) pa_nil)))
   (pss_cons (ps_expr (pe_bmQ PySem.F.plainAttrs_list PySem.F.slot_list_append PySem.F.type_list_append qm_append (pe_ix qx_list (pq 0) pe_int (fun _ _ => rfl)) (pa_cons (pq 7) pa_nil)))
   (pss_cons (ps_expr (pe_bmQ PySem.F.plainAttrs_list PySem.F.slot_list_append PySem.F.type_list_append qm_append (pe_ix qx_list (pq 0) pe_int (fun _ _ => rfl)) (pa_cons (pq 8) pa_nil)))
   (pss_one (ps_expr (pe_bmQ PySem.F.plainAttrs_list PySem.F.slot_list_append PySem.F.type_list_append qm_append (pe_ix qx_list (pq 0) pe_int (fun _ _ => rfl)) (pa_cons (pq 9) pa_nil)))))))))))))), ?_⟩
 obtain ⟨a1, a2, a3, a4, n01, n02, n03, n12, n13, n23⟩ := Z.ss
 have cn := Z.ne (muts_top (x := x) (r := r))
 obtain ⟨x', r', vs, e1, hc, hds⟩ := Z.top
 cases e1
 have lv : vs.length <= 1000 := by rw [hds.len]; exact hdl
 have rlen : ∀ {β : Type} (f : Fz -> β), (((x :: r).map f).reverse).length < sizeLine := fun f => by
  rw [List.length_reverse, List.length_map]
  exact Nat.lt_of_lt_of_le (Nat.lt_succ_of_le hlen) (by decide)
 have lvl : vs.length < sizeLine := Nat.lt_of_lt_of_le (Nat.lt_succ_of_le lv) (by decide)
 refine ⟨_, rfl, _, _, rfl, rfl, by decide, ?_⟩
 refine ⟨_, rfl, _, _, rfl, rfl, ⟨by decide, by decide⟩, ?_⟩
 refine ⟨Nat.zero_le _, fun li hli => ?_⟩
 have lic : li ≠ x.c := fun e => by rw [e, hc] at hli; cases hli
 have s1' : Same H (upd H li (.lst [])) := Same.new hli _
 refine ⟨_, rfl, rfl, _, rfl, ?_⟩
 refine ite2 (fun c7 => ?_) (fun c7 => ?_)
 ·have c7 := int_yes c7
  refine ⟨Nat.zero_le _, fun oe hoe => ?_⟩
  have oel : oe ≠ li := fun e => by rw [e, upd_same] at hoe; cases hoe
  have hoe' : H oe = none := Same.none s1' hoe
  have oec : oe ≠ x.c := fun e => by rw [e, hc] at hoe'; cases hoe'
  have s2' : Same H (upd (upd H li (.lst [])) oe (.lst [])) := Same.over s1' hoe'
  refine ⟨_, rfl, S, _, _, _, rfl, rfl, SqL.of (s2' _ _ Z.cS), rfl, _, rfl, s0, _, _, _, rfl, rfl, SqL.of (s2' _ _ Z.c0), last_rev, .inl ⟨rfl, _, SqL.of (s2' _ _ hc)⟩, _, rfl, _, rfl, _, rfl, (by show 4 <= sizeLine; decide), fun p hp => ?_⟩
  have hp' : H p = none := Same.none s2' hp
  have s3' : Same H (upd (upd (upd H li (.lst [])) oe (.lst [])) p (.tup [.str "if", .str nm, .ref li, .ref oe])) := Same.over s2' hp'
  have pli : p ≠ li := fun e => by rw [e, upd_ne (Ne.symm oel), upd_same] at hp; cases hp
  have poe : p ≠ oe := fun e => by rw [e, upd_same] at hp; cases hp
  have pc : p ≠ x.c := fun e => by rw [e, hc] at hp'; cases hp'
  refine ⟨x.c, _, _, rfl, rfl, s3' _ _ hc, lvl, ?_⟩
  have k4 : ∀ b u, b ≠ x.c -> H b = some u -> (upd (upd (upd (upd H li (.lst [])) oe (.lst [])) p (.tup [.str "if", .str nm, .ref li, .ref oe])) x.c (.lst (vs ++ [.ref p]))) b = some u := fun b u hb h => by rw [upd_ne hb]; exact s3' _ _ h
  have kc4 : (upd (upd (upd (upd H li (.lst [])) oe (.lst [])) p (.tup [.str "if", .str nm, .ref li, .ref oe])) x.c (.lst (vs ++ [.ref p]))) x.c = some (.lst (vs ++ [.ref p])) := upd_same
  have kp4 : (upd (upd (upd (upd H li (.lst [])) oe (.lst [])) p (.tup [.str "if", .str nm, .ref li, .ref oe])) x.c (.lst (vs ++ [.ref p]))) p = some (.tup [.str "if", .str nm, .ref li, .ref oe]) := by rw [upd_ne pc, upd_same]
  have km4 : (upd (upd (upd (upd H li (.lst [])) oe (.lst [])) p (.tup [.str "if", .str nm, .ref li, .ref oe])) x.c (.lst (vs ++ [.ref p]))) li = some (.lst []) /\ (upd (upd (upd (upd H li (.lst [])) oe (.lst [])) p (.tup [.str "if", .str nm, .ref li, .ref oe])) x.c (.lst (vs ++ [.ref p]))) oe = some (.lst []) :=
   ⟨by rw [upd_ne lic, upd_ne (Ne.symm pli), upd_ne (Ne.symm oel), upd_same], by rw [upd_ne oec, upd_ne (Ne.symm poe), upd_same]⟩
  generalize (upd (upd (upd (upd H li (.lst [])) oe (.lst [])) p (.tup [.str "if", .str nm, .ref li, .ref oe])) x.c (.lst (vs ++ [.ref p]))) = H4 at k4 kc4 kp4 km4 ⊢
  have cS4 := k4 _ _ cn.1 Z.cS
  have c04 := k4 _ _ cn.2.1 Z.c0
  have c14 := k4 _ _ cn.2.2.1 Z.c1
  have c24 := k4 _ _ cn.2.2.2.1 Z.c2
  have c34 := k4 _ _ cn.2.2.2.2 Z.c3
  refine ⟨_, rfl, S, _, _, _, rfl, rfl, SqL.of cS4, rfl, .inl ⟨rfl, _, SqL.of c04⟩, _, rfl, s0, _, _, rfl, rfl, c04, rlen _, ?_⟩
  generalize hH5 : upd H4 s0 (.lst (((x :: r).map fun x => V.ref x.c).reverse ++ [.ref li])) = H5
  have cS5 : H5 S = some (.lst [.ref s0, .ref s1, .ref s2, .ref s3]) := by rw [<- hH5, upd_ne a1]; exact cS4
  have c15 : H5 s1 = some (.lst (((x :: r).map Fz.o).reverse)) := by rw [<- hH5, upd_ne (Ne.symm n01)]; exact c14
  have c25 : H5 s2 = some (.lst (((x :: r).map fun x => V.bl x.f.shut).reverse)) := by rw [<- hH5, upd_ne (Ne.symm n02)]; exact c24
  have c35 : H5 s3 = some (.lst (((x :: r).map fun x => V.int x.f.times).reverse)) := by rw [<- hH5, upd_ne (Ne.symm n03)]; exact c34
  refine ⟨_, rfl, S, _, _, _, rfl, rfl, SqL.of cS5, rfl, .inl ⟨rfl, _, SqL.of c15⟩, _, rfl, s1, _, _, rfl, rfl, c15, rlen _, ?_⟩
  generalize hH6 : upd H5 s1 (.lst (((x :: r).map Fz.o).reverse ++ [.ref oe])) = H6
  have cS6 : H6 S = some (.lst [.ref s0, .ref s1, .ref s2, .ref s3]) := by rw [<- hH6, upd_ne a2]; exact cS5
  have c26 : H6 s2 = some (.lst (((x :: r).map fun x => V.bl x.f.shut).reverse)) := by rw [<- hH6, upd_ne (Ne.symm n12)]; exact c25
  have c36 : H6 s3 = some (.lst (((x :: r).map fun x => V.int x.f.times).reverse)) := by rw [<- hH6, upd_ne (Ne.symm n13)]; exact c35
  refine ⟨_, rfl, S, _, _, _, rfl, rfl, SqL.of cS6, rfl, .inl ⟨rfl, _, SqL.of c26⟩, _, rfl, s2, _, _, rfl, rfl, c26, rlen _, ?_⟩
  generalize hH7 : upd H6 s2 (.lst (((x :: r).map fun x => V.bl x.f.shut).reverse ++ [.bl true])) = H7
  have cS7 : H7 S = some (.lst [.ref s0, .ref s1, .ref s2, .ref s3]) := by rw [<- hH7, upd_ne a3]; exact cS6
  have c37 : H7 s3 = some (.lst (((x :: r).map fun x => V.int x.f.times).reverse)) := by rw [<- hH7, upd_ne (Ne.symm n23)]; exact c36
  refine ⟨_, rfl, S, _, _, _, rfl, rfl, SqL.of cS7, rfl, .inl ⟨rfl, _, SqL.of c37⟩, _, rfl, s3, _, _, rfl, rfl, c37, rlen _, ?_⟩
  subst hH7 hH6 hH5
  refine q _ ⟨⟨.ifT nm, [], true, 0⟩, li, p, oe⟩ (open4 (y := ⟨⟨.ifT nm, [], true, 0⟩, li, p, oe⟩) Z hc k4 (fun m hm => ?_) ?_ kp4 (by simp) (by simp) rfl kc4) ?_
  ·simp [Fz.muts] at hm
   rcases hm with rfl | rfl
   ·exact ⟨hli, km4.1⟩
   ·exact ⟨hoe', km4.2⟩
  ·simp [Fz.muts]
   exact Ne.symm oel
  ·unfold openV
   dsimp only
   rw [if_pos c7]
 have c7 := int_no c7
 refine ⟨_, rfl, rfl, _, rfl, ?_⟩
 refine ite2 (fun c8 => ?_) (fun c8 => ?_)
 ·have c8 := int_yes c8
  refine ⟨_, rfl, S, _, _, _, rfl, rfl, SqL.of (s1' _ _ Z.cS), rfl, _, rfl, s0, _, _, _, rfl, rfl, SqL.of (s1' _ _ Z.c0), last_rev, .inl ⟨rfl, _, SqL.of (s1' _ _ hc)⟩, _, rfl, _, rfl, (by show 3 <= sizeLine; decide), fun p hp => ?_⟩
  have hp' : H p = none := Same.none s1' hp
  have s3' : Same H (upd (upd H li (.lst [])) p (.tup [.str "while", .str nm, .ref li])) := Same.over s1' hp'
  have pli : p ≠ li := fun e => by rw [e, upd_same] at hp; cases hp
  have pc : p ≠ x.c := fun e => by rw [e, hc] at hp'; cases hp'
  refine ⟨x.c, _, _, rfl, rfl, s3' _ _ hc, lvl, ?_⟩
  have k4 : ∀ b u, b ≠ x.c -> H b = some u -> (upd (upd (upd H li (.lst [])) p (.tup [.str "while", .str nm, .ref li])) x.c (.lst (vs ++ [.ref p]))) b = some u := fun b u hb h => by rw [upd_ne hb]; exact s3' _ _ h
  have kc4 : (upd (upd (upd H li (.lst [])) p (.tup [.str "while", .str nm, .ref li])) x.c (.lst (vs ++ [.ref p]))) x.c = some (.lst (vs ++ [.ref p])) := upd_same
  have kp4 : (upd (upd (upd H li (.lst [])) p (.tup [.str "while", .str nm, .ref li])) x.c (.lst (vs ++ [.ref p]))) p = some (.tup [.str "while", .str nm, .ref li]) := by rw [upd_ne pc, upd_same]
  have km4 : (upd (upd (upd H li (.lst [])) p (.tup [.str "while", .str nm, .ref li])) x.c (.lst (vs ++ [.ref p]))) li = some (.lst []) := by rw [upd_ne lic, upd_ne (Ne.symm pli), upd_same]
  generalize (upd (upd (upd H li (.lst [])) p (.tup [.str "while", .str nm, .ref li])) x.c (.lst (vs ++ [.ref p]))) = H4 at k4 kc4 kp4 km4 ⊢
  have cS4 := k4 _ _ cn.1 Z.cS
  have c04 := k4 _ _ cn.2.1 Z.c0
  have c14 := k4 _ _ cn.2.2.1 Z.c1
  have c24 := k4 _ _ cn.2.2.2.1 Z.c2
  have c34 := k4 _ _ cn.2.2.2.2 Z.c3
  refine ⟨_, rfl, S, _, _, _, rfl, rfl, SqL.of cS4, rfl, .inl ⟨rfl, _, SqL.of c04⟩, _, rfl, s0, _, _, rfl, rfl, c04, rlen _, ?_⟩
  generalize hH5 : upd H4 s0 (.lst (((x :: r).map fun x => V.ref x.c).reverse ++ [.ref li])) = H5
  have cS5 : H5 S = some (.lst [.ref s0, .ref s1, .ref s2, .ref s3]) := by rw [<- hH5, upd_ne a1]; exact cS4
  have c15 : H5 s1 = some (.lst (((x :: r).map Fz.o).reverse)) := by rw [<- hH5, upd_ne (Ne.symm n01)]; exact c14
  have c25 : H5 s2 = some (.lst (((x :: r).map fun x => V.bl x.f.shut).reverse)) := by rw [<- hH5, upd_ne (Ne.symm n02)]; exact c24
  have c35 : H5 s3 = some (.lst (((x :: r).map fun x => V.int x.f.times).reverse)) := by rw [<- hH5, upd_ne (Ne.symm n03)]; exact c34
  refine ⟨_, rfl, S, _, _, _, rfl, rfl, SqL.of cS5, rfl, .inl ⟨rfl, _, SqL.of c15⟩, _, rfl, s1, _, _, rfl, rfl, c15, rlen _, ?_⟩
  generalize hH6 : upd H5 s1 (.lst (((x :: r).map Fz.o).reverse ++ [.non])) = H6
  have cS6 : H6 S = some (.lst [.ref s0, .ref s1, .ref s2, .ref s3]) := by rw [<- hH6, upd_ne a2]; exact cS5
  have c26 : H6 s2 = some (.lst (((x :: r).map fun x => V.bl x.f.shut).reverse)) := by rw [<- hH6, upd_ne (Ne.symm n12)]; exact c25
  have c36 : H6 s3 = some (.lst (((x :: r).map fun x => V.int x.f.times).reverse)) := by rw [<- hH6, upd_ne (Ne.symm n13)]; exact c35
  refine ⟨_, rfl, S, _, _, _, rfl, rfl, SqL.of cS6, rfl, .inl ⟨rfl, _, SqL.of c26⟩, _, rfl, s2, _, _, rfl, rfl, c26, rlen _, ?_⟩
  generalize hH7 : upd H6 s2 (.lst (((x :: r).map fun x => V.bl x.f.shut).reverse ++ [.bl true])) = H7
  have cS7 : H7 S = some (.lst [.ref s0, .ref s1, .ref s2, .ref s3]) := by rw [<- hH7, upd_ne a3]; exact cS6
  have c37 : H7 s3 = some (.lst (((x :: r).map fun x => V.int x.f.times).reverse)) := by rw [<- hH7, upd_ne (Ne.symm n23)]; exact c36
  refine ⟨_, rfl, S, _, _, _, rfl, rfl, SqL.of cS7, rfl, .inl ⟨rfl, _, SqL.of c37⟩, _, rfl, s3, _, _, rfl, rfl, c37, rlen _, ?_⟩
  subst hH7 hH6 hH5
  refine q _ ⟨⟨.whl nm, [], true, 0⟩, li, p, li⟩ (open4 (y := ⟨⟨.whl nm, [], true, 0⟩, li, p, li⟩) Z hc k4 (fun m hm => ?_) (by simp [Fz.muts]) kp4 (by simp) (by simp) rfl kc4) ?_
  ·simp [Fz.muts] at hm
   subst hm
   exact ⟨hli, km4⟩
  ·unfold openV
   dsimp only
   rw [if_neg c7, if_pos c8]
 have c8 := int_no c8
 refine ⟨_, rfl, S, _, _, _, rfl, rfl, SqL.of (s1' _ _ Z.cS), rfl, _, rfl, s3, _, _, _, rfl, rfl, SqL.of (s1' _ _ Z.c3), last_rev, ?_⟩
 refine ⟨_, rfl, _, _, rfl, rfl, by decide, ?_⟩
 refine ⟨_, rfl, _, _, rfl, rfl, _, rfl, ?_⟩
 generalize hm0 : n / 70 % 100 = mm
 refine join1c (P := fun m => m = manyV n most x.f.times) (w := mm) (fun cc => ?_) ?_ fun cc go => ?_
 ·rw [<- hm0]
  unfold manyV
  rw [if_neg (fun z => cc (decide_eq_true z))]
 ·rintro m rfl
  refine ⟨_, rfl, S, _, _, _, rfl, rfl, SqL.of (s1' _ _ Z.cS), rfl, _, rfl, s0, _, _, _, rfl, rfl, SqL.of (s1' _ _ Z.c0), last_rev, .inl ⟨rfl, _, SqL.of (s1' _ _ hc)⟩, _, rfl, _, rfl, (by show 3 <= sizeLine; decide), fun p hp => ?_⟩
  have hp' : H p = none := Same.none s1' hp
  have s3' : Same H (upd (upd H li (.lst [])) p (.tup [.str "repeat", .int (manyV n most x.f.times), .ref li])) := Same.over s1' hp'
  have pli : p ≠ li := fun e => by rw [e, upd_same] at hp; cases hp
  have pc : p ≠ x.c := fun e => by rw [e, hc] at hp'; cases hp'
  refine ⟨x.c, _, _, rfl, rfl, s3' _ _ hc, lvl, ?_⟩
  have k4 : ∀ b u, b ≠ x.c -> H b = some u -> (upd (upd (upd H li (.lst [])) p (.tup [.str "repeat", .int (manyV n most x.f.times), .ref li])) x.c (.lst (vs ++ [.ref p]))) b = some u := fun b u hb h => by rw [upd_ne hb]; exact s3' _ _ h
  have kc4 : (upd (upd (upd H li (.lst [])) p (.tup [.str "repeat", .int (manyV n most x.f.times), .ref li])) x.c (.lst (vs ++ [.ref p]))) x.c = some (.lst (vs ++ [.ref p])) := upd_same
  have kp4 : (upd (upd (upd H li (.lst [])) p (.tup [.str "repeat", .int (manyV n most x.f.times), .ref li])) x.c (.lst (vs ++ [.ref p]))) p = some (.tup [.str "repeat", .int (manyV n most x.f.times), .ref li]) := by rw [upd_ne pc, upd_same]
  have km4 : (upd (upd (upd H li (.lst [])) p (.tup [.str "repeat", .int (manyV n most x.f.times), .ref li])) x.c (.lst (vs ++ [.ref p]))) li = some (.lst []) := by rw [upd_ne lic, upd_ne (Ne.symm pli), upd_same]
  refine ⟨_, rfl, S, _, _, _, rfl, rfl, SqL.of (k4 _ _ cn.1 Z.cS), rfl, _, rfl, s2, _, _, _, rfl, rfl, SqL.of (k4 _ _ cn.2.2.2.1 Z.c2), last_rev, ?_⟩
  refine ⟨_, rfl, _, rfl, _, _, rfl, rfl, IntMulOk.of_left (intBits_le_64 (by omega) (by omega)), ?_⟩
  generalize (upd (upd (upd H li (.lst [])) p (.tup [.str "repeat", .int (manyV n most x.f.times), .ref li])) x.c (.lst (vs ++ [.ref p]))) = H4 at k4 kc4 kp4 km4 ⊢
  have cS4 := k4 _ _ cn.1 Z.cS
  have c04 := k4 _ _ cn.2.1 Z.c0
  have c14 := k4 _ _ cn.2.2.1 Z.c1
  have c24 := k4 _ _ cn.2.2.2.1 Z.c2
  have c34 := k4 _ _ cn.2.2.2.2 Z.c3
  refine ⟨_, rfl, S, _, _, _, rfl, rfl, SqL.of cS4, rfl, .inl ⟨rfl, _, SqL.of c04⟩, _, rfl, s0, _, _, rfl, rfl, c04, rlen _, ?_⟩
  generalize hH5 : upd H4 s0 (.lst (((x :: r).map fun x => V.ref x.c).reverse ++ [.ref li])) = H5
  have cS5 : H5 S = some (.lst [.ref s0, .ref s1, .ref s2, .ref s3]) := by rw [<- hH5, upd_ne a1]; exact cS4
  have c15 : H5 s1 = some (.lst (((x :: r).map Fz.o).reverse)) := by rw [<- hH5, upd_ne (Ne.symm n01)]; exact c14
  have c25 : H5 s2 = some (.lst (((x :: r).map fun x => V.bl x.f.shut).reverse)) := by rw [<- hH5, upd_ne (Ne.symm n02)]; exact c24
  have c35 : H5 s3 = some (.lst (((x :: r).map fun x => V.int x.f.times).reverse)) := by rw [<- hH5, upd_ne (Ne.symm n03)]; exact c34
  refine ⟨_, rfl, S, _, _, _, rfl, rfl, SqL.of cS5, rfl, .inl ⟨rfl, _, SqL.of c15⟩, _, rfl, s1, _, _, rfl, rfl, c15, rlen _, ?_⟩
  generalize hH6 : upd H5 s1 (.lst (((x :: r).map Fz.o).reverse ++ [.non])) = H6
  have cS6 : H6 S = some (.lst [.ref s0, .ref s1, .ref s2, .ref s3]) := by rw [<- hH6, upd_ne a2]; exact cS5
  have c26 : H6 s2 = some (.lst (((x :: r).map fun x => V.bl x.f.shut).reverse)) := by rw [<- hH6, upd_ne (Ne.symm n12)]; exact c25
  have c36 : H6 s3 = some (.lst (((x :: r).map fun x => V.int x.f.times).reverse)) := by rw [<- hH6, upd_ne (Ne.symm n13)]; exact c35
  refine ⟨_, rfl, S, _, _, _, rfl, rfl, SqL.of cS6, rfl, .inl ⟨rfl, _, SqL.of c26⟩, _, rfl, s2, _, _, rfl, rfl, c26, rlen _, ?_⟩
  generalize hH7 : upd H6 s2 (.lst (((x :: r).map fun x => V.bl x.f.shut).reverse ++ [.bl x.f.shut])) = H7
  have cS7 : H7 S = some (.lst [.ref s0, .ref s1, .ref s2, .ref s3]) := by rw [<- hH7, upd_ne a3]; exact cS6
  have c37 : H7 s3 = some (.lst (((x :: r).map fun x => V.int x.f.times).reverse)) := by rw [<- hH7, upd_ne (Ne.symm n23)]; exact c36
  refine ⟨_, rfl, S, _, _, _, rfl, rfl, SqL.of cS7, rfl, .inl ⟨rfl, _, SqL.of c37⟩, _, rfl, s3, _, _, rfl, rfl, c37, rlen _, ?_⟩
  subst hH7 hH6 hH5
  refine q _ ⟨⟨.rep (manyV n most x.f.times), [], x.f.shut, x.f.times * manyV n most x.f.times⟩, li, p, li⟩ (open4 (y := ⟨⟨.rep (manyV n most x.f.times), [], x.f.shut, x.f.times * manyV n most x.f.times⟩, li, p, li⟩) Z hc k4 (fun m hm => ?_) (by simp [Fz.muts]) kp4 (by simp) (by simp) rfl kc4) ?_
  ·simp [Fz.muts] at hm
   subst hm
   exact ⟨hli, km4⟩
  ·unfold openV
   dsimp only
   rw [if_neg c7, if_neg c8]
 ·have tp : 0 < x.f.times := of_decide_eq_true cc
  refine ⟨_, rfl, _, rfl, _, rfl, _, _, rfl, rfl, ⟨tp, by omega⟩, _, _, rfl, rfl, _, _, rfl, rfl, ?_, ?_⟩
  ·have := Int.ediv_nonneg m0 t0
   omega
  ·refine go _ ?_
   unfold manyV
   rw [if_pos tp]
abbrev c1P (low n most : Int) (len : Nat) (shut : Bool) : Prop := low <= n % 14 /\ n % 14 <= 9 /\ len + 1 <= 12 /\ (n % 14 < 9 \/ 0 < most \/ shut = true)
theorem ok__law_block (T : Tx P w K mg a) : FnOk P w K mg base CX0 2 a._law_block a.fd__law_block ["_law_cells", "_law_names", "_law_rooms", "_law_most", "_law_low"] (sp__law_block K) := by
 refine T.F__law_block.ok sc__law_block (fun vs H Q E h => ?_) (fun cdv A outer s H vs Q E hr h => ?_)
 ·obtain ⟨_, _, _, _, _, _, _, _, rfl, _⟩ := h
  rfl
 obtain ⟨lc, ln, lr, cells, names, rooms, most, low, rfl, hcl, hnm, hrm, lc1, nm0, nm1, rm1, m0, m1, q⟩ := h
 refine ⟨_, (pss_cons (ps_set (i := 5) sc__law_block.nd rfl (Or.inl rfl) (pe_lstQ pa_nil))
   (pss_cons (ps_set (i := 6) sc__law_block.nd rfl (Or.inl rfl) (pe_lstQ (pa_cons (pe_lstQ (pa_cons (pq 5) pa_nil)) (pa_cons (pe_lstQ (pa_cons pe_non pa_nil)) (pa_cons (pe_lstQ (pa_cons pe_bl pa_nil)) (pa_cons (pe_lstQ (pa_cons pe_int pa_nil)) pa_nil))))))
   (pss_cons (ps_for PassesOwn.never rfl (pi_list (pq 0)) (pg_name (i := 7) sc__law_block.nd rfl (Or.inl rfl))
   (pss_cons (ps_set (i := 8) sc__law_block.nd rfl (Or.inl rfl) (pe_call (ok__law_mixed T) (hr.mono (by decide)) rfl T.m__law_mixed T.F__law_mixed.kp T.b__law_mixed .nil pass0 (pa_cons (pq 7) (pa_cons pe_int pa_nil))))
   (pss_cons (ps_set (i := 9) sc__law_block.nd rfl (Or.inl rfl) (pe_op qi_mod (pq 8) pe_int))
   (pss_one (ps_if (PW.pt (pw_and (pt_chain qi_le qi_le (pq 4) (pq 9) pe_int) (pw_and (pt_cmpQ qi_le (pe_callB qc_len rfl T.z_len PySem.boot_len (pa_cons (pe_ix qx_list (pq 6) pe_int (fun _ _ => rfl)) pa_nil)) pe_int (nomark _)) (pw_and1 (PW.pt (pw_or (pt_cmpQ qi_lt (pq 9) pe_int (nomark _)) (pw_or (pt_cmpQ qi_gt (pq 3) pe_int (nomark _)) (pw_or1 (pt_valQ (pe_ix qx_list (pe_ix qx_list (pq 6) pe_int (fun _ _ => rfl)) (pe_un un_neg pe_int) (fun _ _ => rfl))))))))))) (pss_one (ps_expr (pe_call (ok__law_opened T) (hr.mono (by decide)) rfl T.m__law_opened T.F__law_opened.kp T.b__law_opened .nil pass0 (pa_cons (pq 6) (pa_cons (pq 8) (pa_cons (pe_ix qx_list (pq 1) (pe_op qi_mod (pe_op qi_fdiv (pq 8) pe_int) (pe_callB qc_len rfl T.z_len PySem.boot_len (pa_cons (pq 1) pa_nil))) (fun _ _ => rfl)) (pa_cons (pq 3) pa_nil))))))) (pss_one (ps_if (PW.pt (pw_and (pt_cmpQ qo_eq (pq 9) pe_int (nomark _)) (pw_and1 (pt_cmpQ qo_notN (pe_ix qx_list (pe_ix qx_list (pq 6) pe_int (fun _ _ => rfl)) (pe_un un_neg pe_int) (fun _ _ => rfl)) pe_non (nomark _))))) (pss_cons (ps_asg (pe_ix qx_list (pe_ix qx_list (pq 6) pe_int (fun _ _ => rfl)) (pe_un un_neg pe_int) (fun _ _ => rfl)) (pg_sub (pe_ix qx_list (pq 6) pe_int (fun _ _ => rfl)) (pe_un un_neg pe_int) set_list))
   (pss_one (ps_asg pe_non (pg_sub (pe_ix qx_list (pq 6) pe_int (fun _ _ => rfl)) (pe_un un_neg pe_int) set_list)))) (pss_one (ps_if (PW.pt (pw_and (pt_cmpQ qi_ge (pq 9) pe_int (nomark _)) (pw_and1 (pt_cmpQ qi_gt (pe_callB qc_len rfl T.z_len PySem.boot_len (pa_cons (pe_ix qx_list (pq 6) pe_int (fun _ _ => rfl)) pa_nil)) pe_int (nomark _))))) (pss_one (ps_for PassesOwn.never rfl (pi_list (pq 6)) (pg_name (i := 10) sc__law_block.nd rfl (Or.inl rfl))
   (pss_one (ps_expr (pe_bm0 PySem.F.plainAttrs_list PySem.F.slot_list_pop PySem.F.type_list_pop mt_pop (pq 10)))))) (pss_one (ps_expr (pe_bmQ PySem.F.plainAttrs_list PySem.F.slot_list_append PySem.F.type_list_append qm_append (pe_ix qx_list (pe_ix qx_list (pq 6) pe_int (fun _ _ => rfl)) (pe_un un_neg pe_int) (fun _ _ => rfl)) (pa_cons (pe_call (ok__law_simple T) (hr.mono (by decide)) rfl T.m__law_simple T.F__law_simple.kp T.b__law_simple .nil pass0 (pa_cons (pq 8) (pa_cons (pq 1) (pa_cons (pq 2) (pa_cons (pe_ix qx_list (pe_ix qx_list (pq 6) pe_int (fun _ _ => rfl)) (pe_un un_neg pe_int) (fun _ _ => rfl)) pa_nil))))) pa_nil)))))))))))))
   (pss_one (ps_ret (pq 5)))))), ?_⟩
 refine ⟨Nat.zero_le _, fun b hb => ?_⟩
 refine ⟨_, rfl, ln1, fun s0 h0 => ⟨ln1, fun s1 h1 => ⟨ln1, fun s2 h2 => ⟨ln1, fun s3 h3 => ⟨(by show 4 <= sizeLine; decide), fun S hS => ?_⟩⟩⟩⟩⟩
 have sb : Same H (upd H b (.lst [])) := Same.new hb _
 have g0 := Same.none sb h0
 have ss0 : Same H (upd (upd H b (.lst [])) s0 (.lst [.ref b])) := Same.over sb g0
 have g1 := Same.none ss0 h1
 have ss1 : Same H (upd (upd (upd H b (.lst [])) s0 (.lst [.ref b])) s1 (.lst [.non])) := Same.over ss0 g1
 have g2 := Same.none ss1 h2
 have ss2 : Same H (upd (upd (upd (upd H b (.lst [])) s0 (.lst [.ref b])) s1 (.lst [.non])) s2 (.lst [.bl false])) := Same.over ss1 g2
 have g3 := Same.none ss2 h3
 have ss3 : Same H (upd (upd (upd (upd (upd H b (.lst [])) s0 (.lst [.ref b])) s1 (.lst [.non])) s2 (.lst [.bl false])) s3 (.lst [.int 1])) := Same.over ss2 g3
 have gS := Same.none ss3 hS
 have ne : ∀ {X : Hp} {u v : Addr} {o : HO}, (upd X u o) v = none -> v ≠ u := fun h e => by rw [e, upd_same] at h; cases h
 have e0b := ne h0
 have e10 := ne h1
 have e1b : s1 ≠ b := ne (by rw [upd_ne e10] at h1; exact h1)
 have e21 := ne h2
 have h2' : (upd (upd H b (.lst [])) s0 (.lst [.ref b])) s2 = none := by rw [upd_ne e21] at h2; exact h2
 have e20 := ne h2'
 have e2b : s2 ≠ b := ne (by rw [upd_ne e20] at h2'; exact h2')
 have e32 := ne h3
 have h3' : (upd (upd (upd H b (.lst [])) s0 (.lst [.ref b])) s1 (.lst [.non])) s3 = none := by rw [upd_ne e32] at h3; exact h3
 have e31 := ne h3'
 have h3'' : (upd (upd H b (.lst [])) s0 (.lst [.ref b])) s3 = none := by rw [upd_ne e31] at h3'; exact h3'
 have e30 := ne h3''
 have e3b : s3 ≠ b := ne (by rw [upd_ne e30] at h3''; exact h3'')
 have eS3 := ne hS
 have hS' : (upd (upd (upd (upd H b (.lst [])) s0 (.lst [.ref b])) s1 (.lst [.non])) s2 (.lst [.bl false])) S = none := by rw [upd_ne eS3] at hS; exact hS
 have eS2 := ne hS'
 have hS2 : (upd (upd (upd H b (.lst [])) s0 (.lst [.ref b])) s1 (.lst [.non])) S = none := by rw [upd_ne eS2] at hS'; exact hS'
 have eS1 := ne hS2
 have hS1 : (upd (upd H b (.lst [])) s0 (.lst [.ref b])) S = none := by rw [upd_ne eS1] at hS2; exact hS2
 have eS0 := ne hS1
 have eSb : S ≠ b := ne (by rw [upd_ne eS0] at hS1; exact hS1)
 have Z0 : ZI H H (upd (upd (upd (upd (upd (upd H b (.lst [])) s0 (.lst [.ref b])) s1 (.lst [.non])) s2 (.lst [.bl false])) s3 (.lst [.int 1])) S (.lst [.ref s0, .ref s1, .ref s2, .ref s3])) S s0 s1 s2 s3 [⟨⟨.root, [], false, 1⟩, b, b, b⟩] := by
  refine { hb := Same.refl H, h0 := Same.over ss3 gS, fz := ?_, nd := ?_, cS := upd_same, c0 := ?_, c1 := ?_, c2 := ?_, c3 := ?_, zr := ?_ }
  ·intro m hm
   simp [allMuts, Fz.muts] at hm
   rcases hm with rfl | rfl | rfl | rfl | rfl | rfl <;> assumption
  ·simp [allMuts, Fz.muts]
   exact ⟨⟨eS0, eS1, eS2, eS3, eSb⟩, ⟨Ne.symm e10, Ne.symm e20, Ne.symm e30, e0b⟩, ⟨Ne.symm e21, Ne.symm e31, e1b⟩, ⟨Ne.symm e32, e2b⟩, e3b⟩
  ·rw [upd_ne (Ne.symm eS0), upd_ne (Ne.symm e30), upd_ne (Ne.symm e20), upd_ne (Ne.symm e10), upd_same]; rfl
  ·rw [upd_ne (Ne.symm eS1), upd_ne (Ne.symm e31), upd_ne (Ne.symm e21), upd_same]; rfl
  ·rw [upd_ne (Ne.symm eS2), upd_ne (Ne.symm e32), upd_same]; rfl
  ·rw [upd_ne (Ne.symm eS3), upd_same]; rfl
  ·refine ⟨⟨[], ?_, .nil⟩, trivial, .inl ⟨rfl, rfl⟩⟩
   show _ = some (HO.lst ([] ++ []))
   rw [upd_ne (Ne.symm eSb), upd_ne (Ne.symm e3b), upd_ne (Ne.symm e2b), upd_ne (Ne.symm e1b), upd_ne (Ne.symm e0b), upd_same]
   rfl
 generalize upd (upd (upd (upd (upd (upd H b (.lst [])) s0 (.lst [.ref b])) s1 (.lst [.non])) s2 (.lst [.bl false])) s3 (.lst [.int 1])) S (.lst [.ref s0, .ref s1, .ref s2, .ref s3]) = H1 at Z0 ⊢
 refine ⟨_, rfl, lc, rfl, ⟨_, Z0.hbH.seq hcl⟩, ?_⟩
 have lcm : (cells.map V.int).length = cells.length := List.length_map _
 refine for_list (K := K) (a := lc) (xs := cells.map V.int) (fun i σ H2 => ∃ (H0 : Hp) (z : List Fz) (v7 v8 v9 v10 : Option V), σ = [some (.ref lc), some (.ref ln), some (.ref lr), some (.int most), some (.int low), some (.ref b), some (.ref S), v7, v8, v9, v10] /\ ZI H H0 H2 S s0 s1 s2 s3 z /\ z.map (·.f) = statesV names rooms most low (cells.take i) /\ bottom z = b)
  ⟨H, _, _, _, _, _, rfl, Z0, rfl, rfl⟩ ?_ ?_ ?_
 ·rintro i σ H2 _ ⟨H0, z, v7, v8, v9, v10, _, Z, _⟩
  exact Z.hbH.seq hcl
 ·rintro i cv σ H2 hci ⟨H0, z, v7, v8, v9, v10, rfl, Z, hz, hbt⟩
  rw [List.getElem?_map] at hci
  obtain ⟨c, hc, rfl⟩ := Option.map_eq_some_iff.mp hci
  have hi : i < cells.length := by
   rcases Nat.lt_or_ge i cells.length with h | h
   ·exact h
   ·rw [List.getElem?_eq_none h] at hc; cases hc
  obtain ⟨x, r, vs, rfl, hx, hrd⟩ := Z.top
  obtain ⟨ok1, ok2, ok3⟩ := states_ok (names := names) (rooms := rooms) (most := most) (low := low) nm0 (cells.take i) st0 ⟨rfl, by simp [st0, cards, flats], by simp [st0, depths]⟩ (by simp [st0])
  have tok := states_times (names := names) (rooms := rooms) (most := most) (low := low) m0 m1 (cells.take i) st0 (by intro f hf; simp [st0] at hf; subst hf; exact ⟨by decide, by decide⟩)
  have hz' : (cells.take i).foldl (fun st c => stepV names rooms most low st (mixed c 1)) st0 = x.f :: r.map (·.f) := hz.symm
  rw [hz'] at ok1 ok2 ok3 tok
  have zl : (x :: r).length <= 13 := by simpa using ok2
  have cn0 : cnt st0 = 0 := rfl
  have dl : x.f.ds.length <= 1000 := by
   have := top_few (f := x.f) (r := r.map (·.f))
   rw [List.length_take] at ok3
   omega
  have tx := tok x.f List.mem_cons_self
  have n0 := mixed_lo c 1
  have n1 := mixed_hi c 1
  have nxt : statesV names rooms most low (cells.take (i + 1)) = stepV names rooms most low (x.f :: r.map (·.f)) (mixed c 1) := by rw [states_succ hc, <- hz]; rfl
  rw [nxt]
  have rml : (r.map (·.f)).length = r.length := List.length_map _
  have hn2 := Z.hbH.seq hnm
  have hr2 := Z.hbH.seq hrm
  refine ⟨_, rfl, c, 1, rfl, by decide, by decide, ?_⟩
  generalize mixed c 1 = n at n0 n1 ⊢
  refine ⟨_, rfl, _, _, rfl, rfl, by decide, ?_⟩
  have k0 : 0 <= n % 14 := Int.emod_nonneg _ (by decide)
  have l0 : ((((x :: r).map fun x => V.ref x.c).reverse).length : Int) = (r.length : Int) + 1 := by simp
  refine ⟨_, rfl, _, rfl, _, _, rfl, rfl, _, rfl, ?_⟩
  refine join0' (Pc := ¬ c1P low n most r.length x.f.shut) (fun cc z => cc (decide_eq_true z.1)) ?_ fun cc go => ?_
  ·intro nc
   refine ⟨_, rfl, iteF ?_⟩
   try refine iteF ?_
   refine ⟨_, rfl, rfl, _, rfl, ?_⟩
   refine join0' (Pc := (if n % 14 = 10 then x.f.op.ifT? else none) = none) (fun cc => by rw [if_neg (int_no cc)]) ?_ fun cc go => ?_
   ·intro ne
    refine iteF ?_
    refine ⟨_, rfl, _, _, rfl, rfl, _, rfl, ?_⟩
    refine join0' (Pc := ¬ (10 <= n % 14 /\ 0 < r.length)) (fun cc z => cc (decide_eq_true z.1)) ?_ fun cc go => ?_
    ·intro nx
     refine iteF ?_
     refine ⟨_, rfl, S, _, _, _, rfl, rfl, SqL.of Z.cS, rfl, _, rfl, s0, _, _, _, rfl, rfl, SqL.of Z.c0, last_rev, .inl ⟨rfl, _, SqL.of hx⟩, _, rfl, _, rfl, _, rfl, _, rfl, S, _, _, _, rfl, rfl, SqL.of Z.cS, rfl, _, rfl, s2, _, _, _, rfl, rfl, SqL.of Z.c2, last_rev, ?_⟩
     refine ⟨n, ln, lr, names, rooms, x.f.shut, rfl, hn2, hr2, nm0, nm1, rm1, n0, by omega, fun H3 p xs s3' hp hp3 hrd3 => ?_⟩
     have Z3 := Z.same s3'
     have p0 : H0 p = none := Same.none Z.h0 hp
     refine ⟨x.c, _, _, rfl, rfl, s3' _ _ hx, Nat.lt_of_lt_of_le (Nat.lt_succ_of_le (by rw [hrd.len]; exact dl)) (by decide), ?_⟩
     refine ⟨_, _, _, _, _, _, rfl, Z3.push (s3' _ _ hx) hp3 p0 (hrd3 _ upd_same), ?_, ?_⟩
     ·unfold stepV
      dsimp only
      rw [rml, if_neg nc, ne, if_neg nx]
      rfl
     ·rw [<- hbt]
      exact bottom_f rfl
    ·have k10 := of_decide_eq_true cc
     refine ⟨_, rfl, S, _, _, _, rfl, rfl, SqL.of Z.cS, rfl, s0, _, rfl, .inl (SqL.of Z.c0), _, _, rfl, rfl, _, rfl, ?_⟩
     rw [l0]
     refine ite2 (fun cc => ?_) (fun cc => by have h := go fun z => cc (decide_eq_true (by omega)); exact h)
     have r0 : 0 < r.length := by have := of_decide_eq_true cc; omega
     cases r with
     | nil => cases r0
     | cons g r =>
     obtain ⟨q0, q1, q2, q3, n01, n02, n03, n12, n13, n23⟩ := Z.ss
     have F := fun (j : Nat) (H3 : Hp) => (j = 0 /\ H3 = H2)
     refine ⟨_, rfl, S, rfl, ⟨_, SqL.of Z.cS⟩, ?_⟩
     generalize hA1 : upd H2 s0 (.lst (((g :: r).map fun x => V.ref x.c).reverse)) = A1
     generalize hA2 : upd A1 s1 (.lst (((g :: r).map Fz.o).reverse)) = A2
     generalize hA3 : upd A2 s2 (.lst (((g :: r).map fun x => V.bl x.f.shut).reverse)) = A3
     generalize hA4 : upd A3 s3 (.lst (((g :: r).map fun x => V.int x.f.times).reverse)) = A4
     have cS1 : A1 S = some (.lst [.ref s0, .ref s1, .ref s2, .ref s3]) := by rw [<- hA1, upd_ne q0]; exact Z.cS
     have cS2 : A2 S = some (.lst [.ref s0, .ref s1, .ref s2, .ref s3]) := by rw [<- hA2, upd_ne q1]; exact cS1
     have cS3 : A3 S = some (.lst [.ref s0, .ref s1, .ref s2, .ref s3]) := by rw [<- hA3, upd_ne q2]; exact cS2
     have cS4 : A4 S = some (.lst [.ref s0, .ref s1, .ref s2, .ref s3]) := by rw [<- hA4, upd_ne q3]; exact cS3
     have c11 : A1 s1 = some (.lst (((x :: g :: r).map Fz.o).reverse)) := by rw [<- hA1, upd_ne (Ne.symm n01)]; exact Z.c1
     have c22 : A2 s2 = some (.lst (((x :: g :: r).map fun x => V.bl x.f.shut).reverse)) := by rw [<- hA2, upd_ne (Ne.symm n12), <- hA1, upd_ne (Ne.symm n02)]; exact Z.c2
     have c33 : A3 s3 = some (.lst (((x :: g :: r).map fun x => V.int x.f.times).reverse)) := by rw [<- hA3, upd_ne (Ne.symm n23), <- hA2, upd_ne (Ne.symm n13), <- hA1, upd_ne (Ne.symm n03)]; exact Z.c3
     refine for_list (K := K) (a := S) (xs := [.ref s0, .ref s1, .ref s2, .ref s3]) (fun j σ H3 => (∃ v10, σ = [some (.ref lc), some (.ref ln), some (.ref lr), some (.int most), some (.int low), some (.ref b), some (.ref S), some (.int c), some (.int n), some (.int (n % 14)), v10]) /\ ((j = 0 /\ H3 = H2) \/ (j = 1 /\ H3 = A1) \/ (j = 2 /\ H3 = A2) \/ (j = 3 /\ H3 = A3) \/ (j = 4 /\ H3 = A4))) ⟨⟨_, rfl⟩, .inl ⟨rfl, rfl⟩⟩ ?_ ?_ ?_
     ·rintro j σ H3 _ ⟨_, ⟨_, rfl⟩ | ⟨_, rfl⟩ | ⟨_, rfl⟩ | ⟨_, rfl⟩ | ⟨_, rfl⟩⟩
      ·exact SqL.of Z.cS
      ·exact SqL.of cS1
      ·exact SqL.of cS2
      ·exact SqL.of cS3
      ·exact SqL.of cS4
     ·rintro j y σ H3 hy ⟨⟨v, rfl⟩, ⟨rfl, rfl⟩ | ⟨rfl, rfl⟩ | ⟨rfl, rfl⟩ | ⟨rfl, rfl⟩ | ⟨rfl, rfl⟩⟩
      ·simp at hy
       subst hy
       refine ⟨_, rfl, .inl ⟨rfl, _, SqL.of Z.c0⟩, s0, _, _, rfl, rfl, Z.c0, last_get, ⟨_, rfl⟩, .inr (.inl ⟨rfl, ?_⟩)⟩
       rw [drop_rev]
       exact hA1
      ·simp at hy
       subst hy
       refine ⟨_, rfl, .inl ⟨rfl, _, SqL.of c11⟩, s1, _, _, rfl, rfl, c11, last_get, ⟨_, rfl⟩, .inr (.inr (.inl ⟨rfl, ?_⟩))⟩
       rw [drop_rev]
       exact hA2
      ·simp at hy
       subst hy
       refine ⟨_, rfl, .inl ⟨rfl, _, SqL.of c22⟩, s2, _, _, rfl, rfl, c22, last_get, ⟨_, rfl⟩, .inr (.inr (.inr (.inl ⟨rfl, ?_⟩)))⟩
       rw [drop_rev]
       exact hA3
      ·simp at hy
       subst hy
       refine ⟨_, rfl, .inl ⟨rfl, _, SqL.of c33⟩, s3, _, _, rfl, rfl, c33, last_get, ⟨_, rfl⟩, .inr (.inr (.inr (.inr ⟨rfl, ?_⟩)))⟩
       rw [drop_rev]
       exact hA4
      ·simp at hy
     ·rintro σ H3 ⟨⟨v, rfl⟩, hj⟩
      have e4 : H3 = A4 := by
       rcases hj with ⟨j, _⟩ | ⟨j, _⟩ | ⟨j, _⟩ | ⟨j, _⟩ | ⟨_, e⟩
       ·simp at j
       ·simp at j
       ·simp at j
       ·simp at j
       ·exact e
      subst e4
      obtain ⟨H0', Z'⟩ := Z.closed (H' := H3) (fun m u e1 e2 e3 e4 hm => by rw [<- hA4, upd_ne e4, <- hA3, upd_ne e3, <- hA2, upd_ne e2, <- hA1, upd_ne e1]; exact hm)
       (by rw [<- hA4, upd_ne n03, <- hA3, upd_ne n02, <- hA2, upd_ne n01, <- hA1, upd_same]) (by rw [<- hA4, upd_ne n13, <- hA3, upd_ne n12, <- hA2, upd_same]) (by rw [<- hA4, upd_ne n23, <- hA3, upd_same]) (by rw [<- hA4, upd_same])
      refine ⟨H0', _, _, _, _, _, rfl, Z', ?_, ?_⟩
      ·unfold stepV
       dsimp only
       rw [rml, if_neg nc, ne, if_pos ⟨k10, r0⟩]
       rfl
      ·rw [<- hbt]
       exact bottom_f rfl
   ·have c10 := int_yes cc
    refine ⟨_, rfl, S, _, _, _, rfl, rfl, SqL.of Z.cS, rfl, _, rfl, s1, _, _, _, rfl, rfl, SqL.of Z.c1, last_rev, rfl, _, rfl, ?_⟩
    cases hop : x.f.op.ifT? with
    | none =>
     have xo : x.o = .non := by unfold Fz.o; cases q : x.f.op <;> rw [q] at hop <;> first | rfl | cases hop
     rw [xo]
     have h := go (by rw [if_pos c10]; exact hop)
     exact h
    | some nm' =>
     have q : x.f.op = .ifT nm' := by cases q : x.f.op <;> rw [q] at hop <;> simp [Op.ifT?] at hop; rw [hop]
     have xo : x.o = .ref x.e := by unfold Fz.o; rw [q]
     rw [xo]
     refine ifYes (by simp) ?_
     have c0' : H2 s0 = some (.lst ((r.map fun x => V.ref x.c).reverse ++ [.ref x.c])) := by rw [Z.c0]; simp
     have c1' : H2 s1 = some (.lst ((r.map Fz.o).reverse ++ [.ref x.e])) := by rw [Z.c1, List.map_cons, List.reverse_cons, xo]
     have sn := Z.ss
     refine ⟨_, rfl, S, _, _, _, rfl, rfl, SqL.of Z.cS, rfl, _, rfl, s1, _, _, _, rfl, rfl, SqL.of c1', last_at, _, rfl, S, _, _, _, rfl, rfl, SqL.of Z.cS, rfl, _, rfl, s0, _, _, _, rfl, rfl, c0', ix_last, ?_⟩
     rw [set_last]
     have cS3 : (upd H2 s0 (.lst ((r.map fun x => V.ref x.c).reverse ++ [.ref x.e]))) S = some (.lst [.ref s0, .ref s1, .ref s2, .ref s3]) := by rw [upd_ne sn.1]; exact Z.cS
     have c13 : (upd H2 s0 (.lst ((r.map fun x => V.ref x.c).reverse ++ [.ref x.e]))) s1 = some (.lst ((r.map Fz.o).reverse ++ [.ref x.e])) := by rw [upd_ne (Ne.symm sn.2.2.2.2.1)]; exact c1'
     refine ⟨_, rfl, S, _, _, _, rfl, rfl, SqL.of cS3, rfl, _, rfl, s1, _, _, _, rfl, rfl, c13, ix_last, ?_⟩
     rw [set_last]
     refine ⟨_, _, _, _, _, _, rfl, Z.elsed q hx (fun m u e1 e2 hm => by rw [upd_ne e2, upd_ne e1]; exact hm) (by rw [upd_ne sn.2.2.2.2.1, upd_same]) upd_same, ?_, ?_⟩
     ·unfold stepV
      dsimp only
      rw [rml, if_neg nc, if_pos c10, hop]
      rfl
     ·cases r with
      | nil => have := ok1.1; rw [q] at this; cases this
      | cons y r' => exact hbt
  ·have a1 := of_decide_eq_true cc
   refine ⟨_, _, rfl, rfl, _, rfl, ?_⟩
   refine ite2 (fun cc => ?_) (fun cc => by have h := goB (Pc := ¬ c1P low n most r.length x.f.shut) go fun z => cc (decide_eq_true z.2.1); exact h)
   have a2 := of_decide_eq_true cc
   refine ⟨_, rfl, S, _, _, _, rfl, rfl, SqL.of Z.cS, rfl, s0, _, rfl, .inl (SqL.of Z.c0), _, _, rfl, rfl, _, rfl, ?_⟩
   rw [l0]
   refine ite2 (fun cc => ?_) (fun cc => by have h := goB (Pc := ¬ c1P low n most r.length x.f.shut) go fun z => cc (decide_eq_true (by have := z.2.2.1; omega)); exact h)
   have a3 := of_decide_eq_true cc
   refine ⟨_, rfl, _, _, rfl, rfl, _, rfl, ?_⟩
   refine joinT (Pc := n % 14 < 9 \/ 0 < most \/ x.f.shut = true) (fun cc => .inl (of_decide_eq_true cc)) ?_ fun cc yes => ?_
   ·intro pc
    refine iteT ?_
    refine ⟨_, rfl, _, rfl, _, rfl, _, rfl, _, _, rfl, rfl, ⟨by decide, by decide⟩, _, rfl, ln, _, rfl, .inl hn2, _, _, rfl, rfl, (by rw [List.length_map]; omega), ln, _, _, _, rfl, rfl, hn2, nth_at nm0 _, _, rfl, ?_⟩
    refine ⟨H, H0, S, s0, s1, s2, s3, x, r, n, most, nth names (n / 14), rfl, Z, by omega, dl, n0, by omega, m0, m1, tx.1, by omega, fun H' y Z' e => ?_⟩
    refine ⟨H0, y :: x :: r, _, _, _, _, rfl, Z', ?_, hbt⟩
    unfold stepV
    dsimp only
    rw [rml, if_pos ⟨a1, a2, by omega, pc⟩]
    exact e
   ·have a4 : ¬ n % 14 < 9 := fun z => cc (decide_eq_true z)
    refine ⟨_, rfl, _, _, rfl, rfl, _, rfl, ?_⟩
    refine ite2 (fun cc => yes (.inr (.inl (of_decide_eq_true cc)))) (fun cc => ?_)
    have a5 : ¬ 0 < most := fun z => cc (decide_eq_true z)
    refine ⟨_, rfl, S, _, _, _, rfl, rfl, SqL.of Z.cS, rfl, _, rfl, s2, _, _, _, rfl, rfl, SqL.of Z.c2, last_rev, _, rfl, ?_⟩
    cases hsh : x.f.shut with
    | true => exact yes (.inr (.inr hsh))
    | false =>
     have h := goB (Pc := ¬ c1P low n most r.length x.f.shut) go fun z => by
      rcases z.2.2.2 with z | z | z
      ·exact a4 z
      ·exact a5 z
      ·rw [hsh] at z; cases z
     exact h
 ·rintro σ H2 ⟨H0, z, v7, v8, v9, v10, rfl, Z, hz, hbt⟩
  rw [lcm, List.take_length] at hz
  refine ⟨_, rfl, q H2 b Z.hbH hb ?_⟩
  have w := Z.zr.whole Z.h0 (tl := []) (dt := []) .nil
  rw [hbt, hz] at w
  have ne : statesV names rooms most low cells ≠ [] := by
   rw [<- hz]
   intro e
   have := Z.zr
   rw [List.map_eq_nil_iff.mp e] at this
   exact this
  unfold blockV wholeOf
  rw [wh_whole _ _ (by have := List.length_pos_iff.mpr ne; omega)]
  exact w
theorem ok__law_row (T : Tx P w K mg a) : FnOk P w K mg base CX0 2 a._law_row a.fd__law_row ["_law_one"] sp_written_once := by
 refine T.F__law_row.ok sc__law_row (fun vs H Q E h => ?_) (fun cdv A outer s H vs Q E hr h => ?_)
 ·obtain ⟨_, _, _, _, rfl, _⟩ := h
  rfl
 obtain ⟨H0, v, d, C, rfl, e0, hd, hdp, hfl, hC, h64, hlen, hnr, k⟩ := h
 refine ⟨_, (pss_cons (ps_if (pt_cmpQ qo_eq (pe_ix qx_tup (pq 0) pe_int (fun _ _ => rfl)) pe_str (nomark _)) (pss_cons (ps_set (i := 1) sc__law_row.nd rfl (Or.inl rfl) (pe_callB (call_sorted_of rfl) rfl T.z_sorted PyProof.Rows.Boot.«sorted» (pa_cons (pe_callTy (call_set_of rfl) rfl T.z_set PyProof.Rows.Boot.«set» (pa_cons (pe_comp (k := 1) (Nc := ["_law_x", "_law_one"]) (js := [0]) (show CompSc (defScope s__law_row) ["_law_one", "_law_reads"] _ 1 ["_law_x", "_law_one"] [0] from CompSc.mk rfl (by decide +kernel) (by decide +kernel) (by decide +kernel) rfl (by decide +kernel)) rfl (pi_tup (pe_tupQ (pa_cons (pe_ix qx_tup (pq 0) pe_int (fun _ _ => rfl)) (pa_cons (pe_ix qx_tup (pq 0) pe_int (fun _ _ => rfl)) pa_nil)))) (fun _ _ _ _ _ => (pg_name (i := 0) (show List.Nodup (["_law_x", "_law_one"] : List Str) from by decide +kernel) rfl (Or.inl rfl))) (fun _ _ _ _ _ => (pts_one (PW.pt (pw_and (pt_valQ (pe_callB (qc_isTK (K := K) rfl) rfl T.z_isinstance PyProof.Rows.Boot.«isinstance» (pa_cons (pq 0) (pa_cons (pe_bltn (v := .ty "str") rfl T.z_str PyProof.Rows.Boot.«str» rfl) pa_nil)))) (pw_and1 (pt_cmpQ qo_ne (pq 0) (pe_ix (qx_tupK (K := K) rfl) (pq 1) pe_int (fun _ _ => rfl)) (nomark _))))))) (fun _ _ _ _ _ => (pq 0))) pa_nil)) pa_nil)))
   (pss_one (ps_ret (pe_tupQ (pa_cons pe_str (pa_cons (pe_tupQ (pa_cons (pe_ix qx_tup (pq 0) pe_int (fun _ _ => rfl)) pa_nil)) (pa_cons (pe_callTy call_tuple_of rfl T.z_tuple PyProof.Rows.Boot.«tuple» (pa_cons (pq 1) pa_nil)) (pa_cons pe_non (pa_cons pe_non pa_nil))))))))) pss_nil)
   (pss_cons (ps_if (pt_cmpQ qo_eq (pe_ix qx_tup (pq 0) pe_int (fun _ _ => rfl)) pe_str (nomark _)) (pss_one (ps_ret (pe_tupQ (pa_cons pe_str (pa_cons (pe_tupQ (pa_cons (pe_op qo_add_str (pe_ix qx_tup (pq 0) pe_int (fun _ _ => rfl)) pe_str) pa_nil)) (pa_cons (pe_tupQ (pa_cons (pe_ix qx_tup (pq 0) pe_int (fun _ _ => rfl)) pa_nil)) (pa_cons (pe_ix qx_tup (pq 0) pe_int (fun _ _ => rfl)) (pa_cons pe_non pa_nil)))))))) pss_nil)
   (pss_cons (ps_if (pt_cmpQ qo_eq (pe_ix qx_tup (pq 0) pe_int (fun _ _ => rfl)) pe_str (nomark _)) (pss_one (ps_ret (pe_tupQ (pa_cons pe_str (pa_cons (pe_callTy call_tuple_of rfl T.z_tuple PyProof.Rows.Boot.«tuple» (pa_cons (pe_callB (call_sortedL rfl) rfl T.z_sorted PyProof.Rows.Boot.«sorted» (pa_cons (pe_lstQ (pa_cons (pe_op qo_add_str (pe_ix qx_tup (pq 0) pe_int (fun _ _ => rfl)) pe_str) (pa_cons (pe_ix qx_tup (pq 0) pe_int (fun _ _ => rfl)) pa_nil))) pa_nil)) pa_nil)) (pa_cons (pe_tupQ pa_nil) (pa_cons pe_non (pa_cons (pe_ix qx_tup (pq 0) pe_int (fun _ _ => rfl)) pa_nil)))))))) pss_nil)
   (pss_cons (ps_if (pt_cmpQ qo_eq (pe_ix qx_tup (pq 0) pe_int (fun _ _ => rfl)) pe_str (nomark _)) (pss_one (ps_ret (pe_tupQ (pa_cons pe_str (pa_cons (pe_tupQ (pa_cons pe_str pa_nil)) (pa_cons (pe_tupQ (pa_cons (pe_ix qx_tup (pq 0) pe_int (fun _ _ => rfl)) pa_nil)) (pa_cons pe_non (pa_cons pe_non pa_nil)))))))) pss_nil)
   (pss_one (ps_ret (pe_tupQ (pa_cons (pe_ix qx_tup (pq 0) pe_int (fun _ _ => rfl)) (pa_cons (pe_callTy call_tuple_of rfl T.z_tuple PyProof.Rows.Boot.«tuple» (pa_cons (pe_call (ok__law_cards T) (hr.mono (by decide)) rfl T.m__law_cards T.F__law_cards.kp T.b__law_cards .nil pass0 (pa_cons (pe_lstQ (pa_cons (pq 0) pa_nil)) pa_nil)) pa_nil)) (pa_cons (pe_tupQ pa_nil) (pa_cons pe_non (pa_cons pe_non pa_nil)))))))))))), ?_⟩
 have c1 : ∀ q ∈ d.cards, q ∈ C := fun q hq => hC q (by
  unfold cards
  rw [flats, flats, List.append_nil, flat_inner]
  exact List.mem_flatMap.mpr ⟨d, List.mem_cons_self, hq⟩)
 have len1 : ∀ q z : Str, q ++ z ∈ d.others -> q.length <= 1000 := fun q z hq => by
  have := hlen _ (c1 _ (List.mem_append_right _ hq))
  rw [str_len_append] at this
  omega
 have dp : depths [d] <= 12 := by simp only [depths]; omega
 have fl : (flats [d]).length <= 1000 := by rw [flats, flats, List.append_nil]; exact hfl
 have hd' := hd
 cases hd with
 | set h =>
  rename_i p x va sg vb
  refine ⟨_, rfl, _, _, _, _, rfl, rfl, SqT.of (e0 _ _ h), rfl, rfl, _, rfl, ?_⟩
  walk_at "yes"
  refine ⟨_, rfl, _, _, _, _, rfl, rfl, SqT.of (e0 _ _ h), rfl, _, rfl, _, _, _, _, rfl, rfl, SqT.of (e0 _ _ h), rfl, ln2, fun t ht => ⟨t, rfl, ⟨_, SqT.of upd_same⟩, ?_⟩⟩
  have st := Same.new ht (.tup [va.v, vb.v])
  refine comp_tup (K := K) (a := t) (xs := [va.v, vb.v]) (fun i ys σ H2 => H2 = upd H t (.tup [va.v, vb.v]) /\ (∃ u, σ = [u, some (.ref p)]) /\ ys = (textsBut x (([va.v, vb.v] : List V).take i)).map V.str) ⟨rfl, ⟨_, rfl⟩, rfl⟩ ?_ ln2 ?_ ?_ ?_
  ·rintro i ys σ H2 hi ⟨_, _, rfl⟩
   rw [List.length_map]
   refine Nat.le_trans (textsBut_len _ _) ?_
   rw [List.length_take]
   omega
  ·rintro i ys σ H2 ⟨rfl, _⟩
   exact SqT.of upd_same
  ·rintro i z ys σ H2 hz ⟨rfl, ⟨u, rfl⟩, rfl⟩
   have hz' : z = va.v \/ z = vb.v := by simpa using List.mem_of_getElem? hz
   have kind : (∃ y, z = .str y) \/ ∃ n, z = .int n := by
    rcases hz' with rfl | rfl
    ·cases va <;> simp [Val.v]
    ·cases vb <;> simp [Val.v]
   rcases kind with ⟨y, rfl⟩ | ⟨n, rfl⟩
   ·refine ⟨_, rfl, _, _, _, true, rfl, .str y, rfl, _, rfl, ?_⟩
    refine iteT ⟨_, rfl, _, rfl, _, _, _, _, rfl, rfl, SqT.of (st _ _ (e0 _ _ h)), rfl, rfl, _, rfl, ?_⟩
    by_cases e : y = x
    ·subst e
     refine ifNo (by simp) ⟨rfl, ⟨_, rfl⟩, ?_⟩
     rw [List.take_add_one, hz, textsBut_append]
     simp [textsBut]
    ·refine ifYes (by simp [e]) ⟨_, rfl, rfl, ⟨_, rfl⟩, ?_⟩
     rw [List.take_add_one, hz, textsBut_append]
     simp [textsBut, e]
   ·refine ⟨_, rfl, _, _, _, false, rfl, .int n, rfl, _, rfl, ?_⟩
    refine iteF (ifNo rfl ⟨rfl, ⟨_, rfl⟩, ?_⟩)
    rw [List.take_add_one, hz, textsBut_append]
    simp [textsBut]
  rintro ys σ2 H2 ⟨rfl, _, rfl⟩ D hD
  have e2 : ([va.v, vb.v] : List V).take ([va.v, vb.v] : List V).length = [va.v, vb.v] := rfl
  rw [e2, textsBut_vals]
  have sD := Same.new hD (.lst (((va.names ++ vb.names).filter fun y => !decide (y = x)).map V.str))
  have nf : ((va.names ++ vb.names).filter fun y => !decide (y = x)).length < 4000 := Nat.lt_of_le_of_lt (List.length_filter_le _ _) (by cases va <;> cases vb <;> simp [Val.names])
  refine ⟨D, _, rfl, SqL.of upd_same, nf, fun p2 hp2 => ?_⟩
  have s2 := Same.new hp2 (TSetO P w p2 ((va.names ++ vb.names).filter fun y => !decide (y = x)))
  refine ⟨p2, _, C, rfl, upd_same, fun q hq => c1 q (List.mem_append_left _ (List.mem_cons_of_mem _ (List.mem_filter.mp hq).1)), h64, fun p6 zs hp6 nd hm so => ?_⟩
  have s6 := ((st.trans sD).trans s2).trans (Same.new hp6 (.lst (zs.map V.str)))
  refine ⟨_, rfl, _, _, _, _, rfl, rfl, SqT.of (s6 _ _ (e0 _ _ h)), rfl, ln1, fun p7 hp7 => ?_⟩
  have s67 := Same.new hp7 (.tup [V.str x])
  refine ⟨_, rfl, p6, _, rfl, .inl ⟨SqL.of (s67 _ _ upd_same), fun p8 hp8 => ⟨ln5, fun p9 hp9 => ?_⟩⟩⟩
  have s78 := Same.new hp8 (.tup (zs.map V.str))
  have ez := srt_eq nd hm so
  refine k _ _ (((s6.trans s67).trans s78).trans (Same.new hp9 _)) (RRow.new (r := rowV (.set x va sg vb)) (s78 _ _ upd_same) ?_ hp9)
  show _ = some (HO.tup ((srt ((va.names ++ vb.names).filter fun y => !decide (y = x))).map V.str))
  rw [<- ez]
  exact upd_same
 | put h =>
  rename_i p q x
  refine ⟨_, rfl, _, _, _, _, rfl, rfl, SqT.of (e0 _ _ h), rfl, rfl, _, rfl, ?_⟩
  walk_at "no"
  refine ⟨_, rfl, _, _, _, _, rfl, rfl, SqT.of (e0 _ _ h), rfl, rfl, _, rfl, ?_⟩
  walk_at "yes"
  refine ⟨_, rfl, _, _, _, _, rfl, rfl, SqT.of (e0 _ _ h), rfl, _, _, rfl, rfl, len_le_line (m := 1001) (by have := len1 q ">" (by simp [Deed.others]); show q.length + 1 <= 1001; omega), ln1, fun p1 hp1 => ?_⟩
  have s1 := Same.new hp1 (.tup [V.str (q ++ (">" : Str))])
  refine ⟨_, rfl, _, _, _, _, rfl, rfl, SqT.of (s1 _ _ (e0 _ _ h)), rfl, ln1, fun p2 hp2 => ?_⟩
  have s2 := Same.new hp2 (.tup [V.str x])
  refine ⟨_, rfl, _, _, _, _, rfl, rfl, SqT.of (s2 _ _ (s1 _ _ (e0 _ _ h))), rfl, ln5, fun p9 hp9 => ?_⟩
  exact k _ _ ((s1.trans s2).trans (Same.new hp9 _)) (RRow.new (r := rowV (.put q x)) (s2 _ _ upd_same) upd_same hp9)
 | get h =>
  rename_i p q x
  refine ⟨_, rfl, _, _, _, _, rfl, rfl, SqT.of (e0 _ _ h), rfl, rfl, _, rfl, ?_⟩
  walk_at "no"
  refine ⟨_, rfl, _, _, _, _, rfl, rfl, SqT.of (e0 _ _ h), rfl, rfl, _, rfl, ?_⟩
  walk_at "no"
  refine ⟨_, rfl, _, _, _, _, rfl, rfl, SqT.of (e0 _ _ h), rfl, rfl, _, rfl, ?_⟩
  walk_at "yes"
  refine ⟨_, rfl, _, _, _, _, rfl, rfl, SqT.of (e0 _ _ h), rfl, _, _, rfl, rfl, len_le_line (m := 1001) (by have := len1 q "<" (by simp [Deed.others]); show q.length + 1 <= 1001; omega), ?_⟩
  refine ⟨_, rfl, _, _, _, _, rfl, rfl, SqT.of (e0 _ _ h), rfl, ln2, fun p1 hp1 => ?_⟩
  have s1 := Same.new hp1 (.lst [V.str (q ++ ("<" : Str)), V.str x])
  refine ⟨p1, [q ++ ("<" : Str), x], rfl, SqL.of upd_same, by simp, fun p2 zs hp2 pm so => ?_⟩
  have s2 := Same.new hp2 (.lst (zs.map V.str))
  refine ⟨p2, _, rfl, .inl ⟨SqL.of upd_same, fun p3 hp3 => ?_⟩⟩
  have s3 := Same.new hp3 (.tup (zs.map V.str))
  refine ⟨Nat.zero_le _, fun p4 hp4 => ?_⟩
  have s4 := Same.new hp4 (.tup [])
  refine ⟨_, rfl, _, _, _, _, rfl, rfl, SqT.of (s4 _ _ (s3 _ _ (s2 _ _ (s1 _ _ (e0 _ _ h))))), rfl, ln5, fun p9 hp9 => ?_⟩
  have ez := srtP_eq (pm.trans (List.Perm.swap x (q ++ ("<" : Str)) [])) so
  refine k _ _ ((((s1.trans s2).trans s3).trans s4).trans (Same.new hp9 _)) (RRow.new (r := rowV (.get q x)) ?_ upd_same hp9)
  show _ = some (HO.tup ((srtP [x, q ++ ("<" : Str)]).map V.str))
  rw [<- ez]
  exact s4 _ _ upd_same
 | give h =>
  rename_i p x
  refine ⟨_, rfl, _, _, _, _, rfl, rfl, SqT.of (e0 _ _ h), rfl, rfl, _, rfl, ?_⟩
  walk_at "no"
  refine ⟨_, rfl, _, _, _, _, rfl, rfl, SqT.of (e0 _ _ h), rfl, rfl, _, rfl, ?_⟩
  walk_at "no"
  refine ⟨_, rfl, _, _, _, _, rfl, rfl, SqT.of (e0 _ _ h), rfl, rfl, _, rfl, ?_⟩
  walk_at "no"
  refine ⟨_, rfl, _, _, _, _, rfl, rfl, SqT.of (e0 _ _ h), rfl, rfl, _, rfl, ?_⟩
  walk_at "yes"
  refine ⟨ln1, fun p1 hp1 => ?_⟩
  have s1 := Same.new hp1 (.tup [V.str (">" : Str)])
  refine ⟨_, rfl, _, _, _, _, rfl, rfl, SqT.of (s1 _ _ (e0 _ _ h)), rfl, ln1, fun p2 hp2 => ⟨ln5, fun p9 hp9 => ?_⟩⟩
  have s2 := Same.new hp2 (.tup [V.str x])
  exact k _ _ ((s1.trans s2).trans (Same.new hp9 _)) (RRow.new (r := rowV (.give x)) (s2 _ _ upd_same) upd_same hp9)
 | cond h h1 h2 =>
  rename_i p0 _ _ _ _ _
  refine ⟨_, rfl, _, _, _, _, rfl, rfl, SqT.of (e0 _ _ h), rfl, rfl, _, rfl, ?_⟩
  walk_at "no"
  refine ⟨_, rfl, _, _, _, _, rfl, rfl, SqT.of (e0 _ _ h), rfl, rfl, _, rfl, ?_⟩
  walk_at "no"
  refine ⟨_, rfl, _, _, _, _, rfl, rfl, SqT.of (e0 _ _ h), rfl, rfl, _, rfl, ?_⟩
  walk_at "no"
  refine ⟨_, rfl, _, _, _, _, rfl, rfl, SqT.of (e0 _ _ h), rfl, rfl, _, rfl, ?_⟩
  walk_at "no"
  refine ⟨_, rfl, _, _, _, _, rfl, rfl, SqT.of (e0 _ _ h), rfl, _, rfl, ln1, fun p1 hp1 => ?_⟩
  have s2 := Same.new hp1 (.lst [V.ref p0])
  refine ⟨_, p1, _, C, rfl, Same.refl _, .mk upd_same (.cons (RD.same (e0.trans s2) hd') .nil), dp, fl, hC, h64, hlen, fun H3 l zs s3 nl hl nd hm so => ?_⟩
  refine ⟨l, _, rfl, .inl ⟨SqL.of hl, fun l2 hl2 => ⟨Nat.zero_le _, fun pr hpr => ⟨ln5, fun p9 hp9 => ?_⟩⟩⟩⟩
  have ez := srt_eq nd hm so
  have s4 := Same.new hl2 (.tup (zs.map V.str))
  have s5 := Same.new hpr (.tup [])
  refine k _ _ ((((s2.trans s3).trans s4).trans s5).trans (Same.new hp9 _)) ?_
  show RRow _ _ ⟨"if", srt _, [], none, none⟩
  rw [<- ez]
  exact RRow.new (r := ⟨"if", zs, [], none, none⟩) (s5 _ _ upd_same) upd_same hp9
 | whl h h1 =>
  rename_i p0 _ _ _
  refine ⟨_, rfl, _, _, _, _, rfl, rfl, SqT.of (e0 _ _ h), rfl, rfl, _, rfl, ?_⟩
  walk_at "no"
  refine ⟨_, rfl, _, _, _, _, rfl, rfl, SqT.of (e0 _ _ h), rfl, rfl, _, rfl, ?_⟩
  walk_at "no"
  refine ⟨_, rfl, _, _, _, _, rfl, rfl, SqT.of (e0 _ _ h), rfl, rfl, _, rfl, ?_⟩
  walk_at "no"
  refine ⟨_, rfl, _, _, _, _, rfl, rfl, SqT.of (e0 _ _ h), rfl, rfl, _, rfl, ?_⟩
  walk_at "no"
  refine ⟨_, rfl, _, _, _, _, rfl, rfl, SqT.of (e0 _ _ h), rfl, _, rfl, ln1, fun p1 hp1 => ?_⟩
  have s2 := Same.new hp1 (.lst [V.ref p0])
  refine ⟨_, p1, _, C, rfl, Same.refl _, .mk upd_same (.cons (RD.same (e0.trans s2) hd') .nil), dp, fl, hC, h64, hlen, fun H3 l zs s3 nl hl nd hm so => ?_⟩
  refine ⟨l, _, rfl, .inl ⟨SqL.of hl, fun l2 hl2 => ⟨Nat.zero_le _, fun pr hpr => ⟨ln5, fun p9 hp9 => ?_⟩⟩⟩⟩
  have ez := srt_eq nd hm so
  have s4 := Same.new hl2 (.tup (zs.map V.str))
  have s5 := Same.new hpr (.tup [])
  refine k _ _ ((((s2.trans s3).trans s4).trans s5).trans (Same.new hp9 _)) ?_
  show RRow _ _ ⟨"while", srt _, [], none, none⟩
  rw [<- ez]
  exact RRow.new (r := ⟨"while", zs, [], none, none⟩) (s5 _ _ upd_same) upd_same hp9
 | rep h h1 => exact absurd rfl (hnr _ _)
theorem ok__law_last (T : Tx P w K mg a) : FnOk P w K mg base CX0 2 a._law_last a.fd__law_last ["_law_program_here"] sp__law_last := by
 refine T.F__law_last.ok sc__law_last (fun vs H Q E h => ?_) (fun cdv A outer s H vs Q E hr h => ?_)
 ·obtain ⟨_, _, _, _, _, _, _, _, _, rfl, _⟩ := h
  rfl
 obtain ⟨p, la, ls, lb, asks, ss, ds, us, C, rfl, rp, hdp, hfl, ha, hs, hsl, hC, h64, hlen, k⟩ := h
 refine ⟨_, (pss_cons (ps_asg (pq 0) (pg_tup rfl (pgs_cons (pg_name (i := 1) sc__law_last.nd rfl (Or.inl rfl)) (pgs_cons (pg_name (i := 2) sc__law_last.nd rfl (Or.inl rfl)) (pgs_cons (pg_name (i := 3) sc__law_last.nd rfl (Or.inl rfl)) pgs_nil)))))
   (pss_cons (ps_set (i := 4) sc__law_last.nd rfl (Or.inl rfl) (pe_op qo_catS (pe_op qo_catS (pe_op qo_catS (pq 1) (pe_comp (k := 2) (Nc := ["_law_store", "_law_length_here"]) (js := []) (show CompSc (defScope s__law_last) ["_law_program_here", "_law_asks", "_law_stores", "_law_body", "_law_cards_here"] _ 2 ["_law_store", "_law_length_here"] [] from CompSc.mk rfl (by decide +kernel) (by decide +kernel) (by decide +kernel) rfl (by decide +kernel)) rfl (pi_list (pq 2)) (fun _ _ _ _ _ => (pg_tupC 2 rfl (pgs_cons (pg_name (i := 0) (show List.Nodup (["_law_store", "_law_length_here"] : List Str) from by decide +kernel) rfl (Or.inl rfl)) (pgs_cons (pg_name (i := 1) (show List.Nodup (["_law_store", "_law_length_here"] : List Str) from by decide +kernel) rfl (Or.inl rfl)) pgs_nil)))) (fun _ _ _ _ _ => pts_nil) (fun _ _ _ _ _ => (pe_op qo_add_str (pq 0) pe_str)))) (pe_comp (k := 2) (Nc := ["_law_store", "_law_length_here"]) (js := []) (show CompSc (defScope s__law_last) ["_law_program_here", "_law_asks", "_law_stores", "_law_body", "_law_cards_here"] _ 2 ["_law_store", "_law_length_here"] [] from CompSc.mk rfl (by decide +kernel) (by decide +kernel) (by decide +kernel) rfl (by decide +kernel)) rfl (pi_list (pq 2)) (fun _ _ _ _ _ => (pg_tupC 2 rfl (pgs_cons (pg_name (i := 0) (show List.Nodup (["_law_store", "_law_length_here"] : List Str) from by decide +kernel) rfl (Or.inl rfl)) (pgs_cons (pg_name (i := 1) (show List.Nodup (["_law_store", "_law_length_here"] : List Str) from by decide +kernel) rfl (Or.inl rfl)) pgs_nil)))) (fun _ _ _ _ _ => pts_nil) (fun _ _ _ _ _ => (pe_op qo_add_str (pq 0) pe_str)))) (pe_lstQ (pa_cons pe_str pa_nil))))
   (pss_one (ps_ret (pe_tupQ (pa_cons pe_str (pa_cons (pe_callTy call_tuple_of rfl T.z_tuple PyProof.Rows.Boot.«tuple» (pa_cons (pe_callB (call_sorted_of rfl) rfl T.z_sorted PyProof.Rows.Boot.«sorted» (pa_cons (pe_callTy (call_set_of rfl) rfl T.z_set PyProof.Rows.Boot.«set» (pa_cons (pe_op qo_catS (pq 4) (pe_call (ok__law_cards T) (hr.mono (by decide)) rfl T.m__law_cards T.F__law_cards.kp T.b__law_cards .nil pass0 (pa_cons (pq 3) pa_nil))) pa_nil)) pa_nil)) pa_nil)) (pa_cons (pe_tupQ pa_nil) (pa_cons pe_non (pa_cons pe_non pa_nil)))))))))), ?_⟩
 have hcC : ∀ q ∈ cards ds, q ∈ C := fun q hq => hC q (by unfold progCards; simp [hq])
 refine ⟨_, rfl, p, _, rfl, SqT.of rp.top, rfl, _, _, rfl, _, _, rfl, _, _, rfl, rfl, ?_⟩
 have ul := rp.ro.len
 refine ⟨_, rfl, _, rfl, ls, rfl, ⟨_, SqL.of rp.st⟩, ?_⟩
 refine comp_list0 (xs := us) (fun i ys σ H3 => (∃ v v', σ = [v, v']) /\ H3 = H /\ ys = ((ss).take i).map fun s => V.str (s.1 ++ (">" : Str))) ⟨⟨none, none, rfl⟩, rfl, rfl⟩ ?_ (len_le_line (m := 100) (by omega)) ?_ ?_ ?_
 ·rintro i ys σ H3 _ ⟨_, _, rfl⟩
  rw [List.length_map, List.length_take]
  omega
 ·rintro i ys σ H3 ⟨_, rfl, _⟩
  exact SqL.of rp.st
 ·rintro i x ys σ H3 hx ⟨⟨v, v', rfl⟩, rfl, rfl⟩
  obtain ⟨px, q, n, rfl, hi, hpx⟩ := rp.ro.at i x hx
  have qm : q.length <= 1000 := hsl _ (List.mem_of_getElem? hi)
  refine ⟨px, _, rfl, SqT.of hpx, rfl, _, _, rfl, _, _, rfl, rfl, ?_⟩
  refine ⟨_, rfl, _, _, rfl, rfl, len_le_line (m := 1001) (by show q.length + 1 <= 1001; omega), ⟨_, _, rfl⟩, rfl, ?_⟩
  rw [List.take_add_one, hi]
  simp
 rintro ys1 σ3 H3 ⟨_, rfl, rfl⟩ p3 hp3
 rw [ul, List.take_length]
 have s3 : Same H3 (upd H3 p3 (.lst ((ss).map fun s => V.str (s.1 ++ (">" : Str))))) := Same.new hp3 _
 refine ⟨la, p3, _, _, rfl, rfl, SqL.of (s3 _ _ rp.as), SqL.of upd_same, len_le_line (m := 1000) (by rw [List.length_map, List.length_map]; omega), fun p4 hp4 => ?_⟩
 have s4 := s3.trans (Same.new hp4 (.lst ((asks).map V.str ++ (ss).map fun s => V.str (s.1 ++ (">" : Str)))))
 refine ⟨_, rfl, ls, rfl, ⟨_, SqL.of (s4 _ _ rp.st)⟩, ?_⟩
 refine comp_list0 (xs := us) (fun i ys σ H5 => (∃ v v', σ = [v, v']) /\ H5 = upd (upd H3 p3 (.lst ((ss).map fun s => V.str (s.1 ++ (">" : Str))))) p4 (.lst ((asks).map V.str ++ (ss).map fun s => V.str (s.1 ++ (">" : Str)))) /\ ys = ((ss).take i).map fun s => V.str (s.1 ++ ("<" : Str))) ⟨⟨none, none, rfl⟩, rfl, rfl⟩ ?_ (len_le_line (m := 100) (by omega)) ?_ ?_ ?_
 ·rintro i ys σ H5 _ ⟨_, _, rfl⟩
  rw [List.length_map, List.length_take]
  omega
 ·rintro i ys σ H5 ⟨_, rfl, _⟩
  exact SqL.of (s4 _ _ rp.st)
 ·rintro i x ys σ H5 hx ⟨⟨v, v', rfl⟩, rfl, rfl⟩
  obtain ⟨px, q, n, rfl, hi, hpx⟩ := rp.ro.at i x hx
  have qm : q.length <= 1000 := hsl _ (List.mem_of_getElem? hi)
  refine ⟨px, _, rfl, SqT.of (s4 _ _ hpx), rfl, _, _, rfl, _, _, rfl, rfl, ?_⟩
  refine ⟨_, rfl, _, _, rfl, rfl, len_le_line (m := 1001) (by show q.length + 1 <= 1001; omega), ⟨_, _, rfl⟩, rfl, ?_⟩
  rw [List.take_add_one, hi]
  simp
 rintro ys2 σ5 H5 ⟨_, rfl, rfl⟩ p5 hp5
 rw [ul, List.take_length]
 have h4 : (upd (upd H3 p3 (.lst ((ss).map fun s => V.str (s.1 ++ (">" : Str))))) p4 (.lst ((asks).map V.str ++ (ss).map fun s => V.str (s.1 ++ (">" : Str))))) p4 = some (.lst ((asks).map V.str ++ (ss).map fun s => V.str (s.1 ++ (">" : Str)))) := upd_same
 generalize upd (upd H3 p3 (.lst ((ss).map fun s => V.str (s.1 ++ (">" : Str))))) p4 (.lst ((asks).map V.str ++ (ss).map fun s => V.str (s.1 ++ (">" : Str)))) = H4 at s4 h4 hp5 ⊢
 refine ⟨p4, p5, _, _, rfl, rfl, SqL.of (Same.new hp5 _ _ _ h4), SqL.of upd_same, len_le_line (m := 1000) (by rw [List.length_append, List.length_map, List.length_map, List.length_map]; omega), fun p6 hp6 => ?_⟩
 refine ⟨ln1, fun p7 hp7 => ?_⟩
 refine ⟨p6, p7, _, _, rfl, rfl, SqL.of (Same.new hp7 _ _ _ upd_same), SqL.of upd_same, len_le_line (m := 1000) (by rw [List.length_append, List.length_append, List.length_map, List.length_map, List.length_map, List.length_singleton]; omega), fun p8 hp8 => ?_⟩
 have dm : (asks).map V.str ++ ((ss).map fun s => V.str (s.1 ++ (">" : Str))) ++ ((ss).map fun s => V.str (s.1 ++ ("<" : Str))) ++ [V.str (">" : Str)] = (asks ++ ((ss).map fun s => s.1 ++ (">" : Str)) ++ ((ss).map fun s => s.1 ++ ("<" : Str)) ++ [(">" : Str)]).map V.str := by simp [Function.comp_def]
 have dl : (asks ++ ((ss).map fun s => s.1 ++ (">" : Str)) ++ ((ss).map fun s => s.1 ++ ("<" : Str)) ++ [(">" : Str)]).length <= 400 := by
  simp only [List.length_append, List.length_map, List.length_singleton]
  omega
 have mm : ∀ (zs : List Str), (∀ x, x ∈ zs ↔ x ∈ cards (ds)) -> ∀ x, x ∈ asks ++ ((ss).map fun s => s.1 ++ (">" : Str)) ++ ((ss).map fun s => s.1 ++ ("<" : Str)) ++ [(">" : Str)] ++ zs ↔ x ∈ progCards (asks) (ss) (ds) := fun zs hz x => by
  unfold progCards
  simp only [List.mem_append, List.mem_map, List.mem_flatMap, List.mem_cons, List.not_mem_nil, or_false, hz x]
  constructor
  ·rintro ((((h | ⟨s, h, rfl⟩) | ⟨s, h, rfl⟩) | h) | h)
   ·exact .inl (.inl (.inl h))
   ·exact .inr ⟨s, h, .inl rfl⟩
   ·exact .inr ⟨s, h, .inr rfl⟩
   ·exact .inl (.inr h)
   ·exact .inl (.inl (.inr h))
  ·rintro (((h | h) | h) | ⟨s, h, rfl | rfl⟩)
   ·exact .inl (.inl (.inl (.inl h)))
   ·exact .inr h
   ·exact .inl (.inr h)
   ·exact .inl (.inl (.inl (.inr ⟨s, h, rfl⟩)))
   ·exact .inl (.inl (.inr ⟨s, h, rfl⟩))
 rw [dm]
 generalize asks ++ ((ss).map fun s => s.1 ++ (">" : Str)) ++ ((ss).map fun s => s.1 ++ ("<" : Str)) ++ [(">" : Str)] = due at dl mm ⊢
 have s8 : Same H3 (upd (upd (upd (upd H4 p5 (.lst ((ss).map fun s => V.str (s.1 ++ ("<" : Str))))) p6 (.lst ((asks).map V.str ++ ((ss).map fun s => V.str (s.1 ++ (">" : Str))) ++ ((ss).map fun s => V.str (s.1 ++ ("<" : Str)))))) p7 (.lst [V.str (">" : Str)])) p8 (.lst (due.map V.str))) :=
  ((((s4.trans (Same.new hp5 _)).trans (Same.new hp6 _)).trans (Same.new hp7 _)).trans (Same.new hp8 _))
 refine ⟨_, rfl, _, rfl, H3, lb, ds, C, rfl, s8, rp.bo, hdp, hfl, hcC, h64, hlen, fun H9 l9 zs9 s9 n9 h9 nd9 hm9 so9 => ?_⟩
 have h8 := s9 _ _ (upd_same (H := upd (upd (upd H4 p5 (.lst ((ss).map fun s => V.str (s.1 ++ ("<" : Str))))) p6 (.lst ((asks).map V.str ++ ((ss).map fun s => V.str (s.1 ++ (">" : Str))) ++ ((ss).map fun s => V.str (s.1 ++ ("<" : Str)))))) p7 (.lst [V.str (">" : Str)])) (o := .lst (due.map V.str)) (a := p8))
 have s39 := s8.trans s9
 have z9 : zs9.length < 64 := Nat.lt_of_le_of_lt (few_of nd9 fun q hq => hcC q ((hm9 q).mp hq)) h64
 clear s9 s8 hp8 hp7 hp6 hp5 h4 s4
 refine ⟨p8, l9, _, _, rfl, rfl, SqL.of h8, SqL.of h9, len_le_line (m := 1000) (by rw [List.length_map, List.length_map]; omega), fun p10 hp10 => ?_⟩
 rw [<- List.map_append]
 have s10 := s39.trans (Same.new hp10 (.lst ((due ++ zs9).map V.str)))
 refine ⟨p10, _, rfl, SqL.of upd_same, by rw [List.length_append]; omega, fun p11 hp11 => ?_⟩
 have s11 := s10.trans (Same.new hp11 (TSetO P w p11 (due ++ zs9)))
 refine ⟨p11, _, C, rfl, upd_same, fun x hx => hC x ((mm zs9 hm9 x).mp hx), h64, fun ld zs hld nd hm so => ?_⟩
 refine ⟨ld, _, rfl, .inl ⟨SqL.of upd_same, fun lt hlt => ⟨Nat.zero_le _, fun pr hpr => ⟨ln5, fun p9 hp9 => ?_⟩⟩⟩⟩
 have s12 := s11.trans (Same.new hld (.lst (zs.map V.str)))
 have hz : ∀ x, x ∈ zs ↔ x ∈ progCards asks ss ds := fun x => (hm x).trans (mm zs9 hm9 x)
 have s14 := Same.new hlt (.tup (zs.map V.str))
 have s15 := Same.new hpr (.tup [])
 refine k _ _ (((s12.trans s14).trans s15).trans (Same.new hp9 _)) ?_
 unfold endRow
 rw [<- srt_eq nd hz so]
 exact RRow.new (r := ⟨"end", zs, [], none, none⟩) (s15 _ _ upd_same) upd_same hp9
theorem ok__law_whole (T : Tx P w K mg a) : FnOk P w K mg base CX0 1 a._law_whole a.fd__law_whole ["_law_found"] sp__law_whole := by
 refine T.F__law_whole.ok sc__law_whole (fun vs H Q E h => ?_) (fun cdv A outer s H vs Q E hr h => ?_)
 ·obtain ⟨_, rfl, _⟩ := h
  rfl
 obtain ⟨i, rfl, k⟩ := h
 refine ⟨_, (pss_one (ps_ret (pe_and (pe_callB qc_isT rfl T.z_isinstance PyProof.Rows.Boot.«isinstance» (pa_cons (pq 0) (pa_cons (pe_bltn (v := .ty "int") rfl T.z_int PyProof.Rows.Boot.«int» rfl) pa_nil))) (pe_one (pe_not (pe_callB qc_isT rfl T.z_isinstance PyProof.Rows.Boot.«isinstance» (pa_cons (pq 0) (pa_cons (pe_bltn (v := .ty "bool") rfl T.z_bool PyProof.Rows.Boot.«bool» rfl) pa_nil)))))))), ?_⟩
 refine ⟨_, rfl, _, _, _, true, rfl, .int i, rfl, _, rfl, ifYes rfl ?_⟩
 exact ⟨_, rfl, _, _, _, false, rfl, .int i, rfl, _, rfl, k⟩
theorem ok__law_alike (T : Tx P w K mg a) : ∀ n : Nat, FnOk P w K mg base CX0 (n + 3) a._law_alike a.fd__law_alike ["_law_found", "_law_due_here"] (sp__law_alike n) := by
 intro n
 induction n with
 | zero =>
  refine T.F__law_alike.ok sc__law_alike (fun vs H Q E h => ?_) (fun cdv A outer s H vs Q E hr h => ?_)
  ·obtain ⟨_, _, _, rfl, _⟩ := h
   rfl
  obtain ⟨x, y, m, rfl, hm, _⟩ := h
  exact absurd hm (Nat.not_lt_zero _)
 | succ n ih =>
  refine T.F__law_alike.ok sc__law_alike (fun vs H Q E h => ?_) (fun cdv A outer s H vs Q E hr h => ?_)
  ·obtain ⟨_, _, _, rfl, _⟩ := h
   rfl
  obtain ⟨x, y, m, rfl, hm, al, k⟩ := h
  refine ⟨_, (pss_cons (ps_if (pt_cmpQ qo_isN (pq 1) pe_non (nomark _)) (pss_one (ps_ret (pe_cmpR qo_isN (pq 0) pe_non (nomark _)))) pss_nil)
   (pss_cons (ps_if (pt_valQ (pe_callB qc_isT rfl T.z_isinstance PyProof.Rows.Boot.«isinstance» (pa_cons (pq 1) (pa_cons (pe_bltn (v := .ty "str") rfl T.z_str PyProof.Rows.Boot.«str» rfl) pa_nil)))) (pss_one (ps_ret (pe_and (pe_callB qc_isT rfl T.z_isinstance PyProof.Rows.Boot.«isinstance» (pa_cons (pq 0) (pa_cons (pe_bltn (v := .ty "str") rfl T.z_str PyProof.Rows.Boot.«str» rfl) pa_nil))) (pe_one (pe_cmpR qo_eq (pq 0) (pq 1) (nomark _)))))) pss_nil)
   (pss_cons (ps_if (pt_valQ (pe_callB qc_isT rfl T.z_isinstance PyProof.Rows.Boot.«isinstance» (pa_cons (pq 1) (pa_cons (pe_bltn (v := .ty "int") rfl T.z_int PyProof.Rows.Boot.«int» rfl) pa_nil)))) (pss_one (ps_ret (pe_and (pe_call (ok__law_whole T) (hr.mono (by omega)) rfl T.m__law_whole T.F__law_whole.kp T.b__law_whole .nil pass0 (pa_cons (pq 0) pa_nil)) (pe_one (pe_cmpR qo_eq (pq 0) (pq 1) (nomark _)))))) pss_nil)
   (pss_cons (ps_if (PW.pt (pw_and (pt_valQ (pe_callB qc_isT rfl T.z_isinstance PyProof.Rows.Boot.«isinstance» (pa_cons (pq 1) (pa_cons (pe_bltn (v := .ty "tuple") rfl T.z_tuple PyProof.Rows.Boot.«tuple» rfl) pa_nil)))) (pw_and1 (pt_not (pt_valQ (pe_callB qc_isT rfl T.z_isinstance PyProof.Rows.Boot.«isinstance» (pa_cons (pq 0) (pa_cons (pe_bltn (v := .ty "tuple") rfl T.z_tuple PyProof.Rows.Boot.«tuple» rfl) pa_nil)))))))) (pss_one (ps_ret pe_bl)) pss_nil)
   (pss_cons (ps_if (PW.pt (pw_and (pt_valQ (pe_callB qc_isT rfl T.z_isinstance PyProof.Rows.Boot.«isinstance» (pa_cons (pq 1) (pa_cons (pe_bltn (v := .ty "list") rfl T.z_list PyProof.Rows.Boot.«list» rfl) pa_nil)))) (pw_and1 (pt_not (pt_valQ (pe_callB qc_isT rfl T.z_isinstance PyProof.Rows.Boot.«isinstance» (pa_cons (pq 0) (pa_cons (pe_bltn (v := .ty "list") rfl T.z_list PyProof.Rows.Boot.«list» rfl) pa_nil)))))))) (pss_one (ps_ret pe_bl)) pss_nil)
   (pss_cons (ps_if (pt_cmpQ qo_ne (pe_callB qc_len rfl T.z_len PySem.boot_len (pa_cons (pq 0) pa_nil)) (pe_callB qc_len rfl T.z_len PySem.boot_len (pa_cons (pq 1) pa_nil)) (nomark _)) (pss_one (ps_ret pe_bl)) pss_nil)
   (pss_cons (ps_for PassesOwn.never rfl (pj_range1 rfl T.z_range (pa_cons (pe_callB qc_len rfl T.z_len PySem.boot_len (pa_cons (pq 1) pa_nil)) pa_nil)) (pg_name (i := 2) sc__law_alike.nd rfl (Or.inl rfl))
   (pss_one (ps_if (pt_not (pt_valQ (pe_call ih (hr.mono (by omega)) rfl T.m__law_alike T.F__law_alike.kp T.b__law_alike .nil pass0 (pa_cons (pe_ix ix_any (pq 0) (pq 2) (fun _ _ => rfl)) (pa_cons (pe_ix ix_any (pq 1) (pq 2) (fun _ _ => rfl)) pa_nil))))) (pss_one (ps_ret pe_bl)) pss_nil)))
   (pss_one (ps_ret pe_bl))))))))), ?_⟩
  cases al with
  | non =>
   refine ⟨_, rfl, rfl, _, rfl, ?_⟩
   walk_at "yes"
   exact ⟨_, rfl, rfl, k⟩
  | str _ x =>
   refine ⟨_, rfl, rfl, _, rfl, ifNo rfl ?_⟩
   refine ⟨_, rfl, _, _, _, true, rfl, .str x, rfl, _, rfl, ifYes rfl ?_⟩
   refine ⟨_, rfl, _, _, _, true, rfl, .str x, rfl, _, rfl, ifYes rfl ?_⟩
   refine ⟨_, rfl, _, rfl, rfl, ?_⟩
   rw [decide_eq_true rfl]
   exact k
  | int _ i =>
   refine ⟨_, rfl, rfl, _, rfl, ifNo rfl ?_⟩
   refine ⟨_, rfl, _, _, _, false, rfl, .int i, rfl, _, rfl, ifNo rfl ?_⟩
   refine ⟨_, rfl, _, _, _, true, rfl, .int i, rfl, _, rfl, ifYes rfl ?_⟩
   refine ⟨_, rfl, i, rfl, _, rfl, ifYes rfl ?_⟩
   refine ⟨_, rfl, _, rfl, rfl, ?_⟩
   rw [decide_eq_true rfl]
   exact k
  | lst h1 h2 hl hlen hal =>
   rename_i m xa xb xs ys
   refine ⟨_, rfl, rfl, _, rfl, ifNo rfl ?_⟩
   refine ⟨_, rfl, _, _, _, false, rfl, .lst h2, rfl, _, rfl, ifNo rfl ?_⟩
   refine ⟨_, rfl, _, _, _, false, rfl, .lst h2, rfl, _, rfl, ifNo rfl ?_⟩
   refine ⟨_, rfl, _, _, _, false, rfl, .lst h2, rfl, _, rfl, iteF (ifNo rfl ?_)⟩
   refine ⟨_, rfl, _, _, _, true, rfl, .lst h2, rfl, _, rfl, iteT ?_⟩
   refine ⟨_, rfl, _, _, _, true, rfl, .lst h1, rfl, _, rfl, ifNo rfl ?_⟩
   have xl : (ys.length : Int).toNat = ys.length := by simp
   refine ⟨_, rfl, xa, _, rfl, .inl (SqL.of h1), _, rfl, xb, _, rfl, .inl (SqL.of h2), rfl, _, rfl, ?_⟩
   rw [hl]
   refine iteNS rfl ?_
   refine ⟨_, rfl, xb, _, rfl, .inl (SqL.of h2), _, rfl, by omega, by omega, ?_⟩
   refine for_range (fun i σ H2 => H2 = H /\ ∃ v, σ = [some (.ref xa), some (.ref xb), v]) ⟨rfl, _, rfl⟩ ?_ ?_
   ·rintro i σ H2 hi ⟨rfl, v, rfl⟩
    have li : i < ys.length := by simpa using hi
    have li' : i < xs.length := by omega
    have e1 : atI xs (0 + (i : Int)) = some xs[i] := by rw [Int.zero_add]; exact atI_nat (List.getElem?_eq_getElem li')
    have e2 : atI ys (0 + (i : Int)) = some ys[i] := by rw [Int.zero_add]; exact atI_nat (List.getElem?_eq_getElem li)
    refine ⟨_, rfl, _, rfl, .inl ⟨xa, _, _, _, rfl, rfl, SqL.of h1, e1, ?_⟩⟩
    refine ⟨_, rfl, _, rfl, .inl ⟨xb, _, _, _, rfl, rfl, SqL.of h2, e2, ?_⟩⟩
    refine ⟨_, _, m, rfl, by omega, hal i _ _ (List.getElem?_eq_getElem li') (List.getElem?_eq_getElem li), _, rfl, ?_⟩
    exact ifNo rfl ⟨rfl, _, rfl⟩
   ·rintro σ H2 ⟨rfl, v, rfl⟩
    exact k
  | tup h1 h2 hl hlen hal =>
   rename_i m xa xb xs ys
   refine ⟨_, rfl, rfl, _, rfl, ifNo rfl ?_⟩
   refine ⟨_, rfl, _, _, _, false, rfl, .tup h2, rfl, _, rfl, ifNo rfl ?_⟩
   refine ⟨_, rfl, _, _, _, false, rfl, .tup h2, rfl, _, rfl, ifNo rfl ?_⟩
   refine ⟨_, rfl, _, _, _, true, rfl, .tup h2, rfl, _, rfl, iteT ?_⟩
   refine ⟨_, rfl, _, _, _, true, rfl, .tup h1, rfl, _, rfl, ifNo rfl ?_⟩
   refine ⟨_, rfl, _, _, _, false, rfl, .tup h2, rfl, _, rfl, iteF (ifNo rfl ?_)⟩
   have xl : (ys.length : Int).toNat = ys.length := by simp
   refine ⟨_, rfl, xa, _, rfl, .inr (SqT.of h1), _, rfl, xb, _, rfl, .inr (SqT.of h2), rfl, _, rfl, ?_⟩
   rw [hl]
   refine iteNS rfl ?_
   refine ⟨_, rfl, xb, _, rfl, .inr (SqT.of h2), _, rfl, by omega, by omega, ?_⟩
   refine for_range (fun i σ H2 => H2 = H /\ ∃ v, σ = [some (.ref xa), some (.ref xb), v]) ⟨rfl, _, rfl⟩ ?_ ?_
   ·rintro i σ H2 hi ⟨rfl, v, rfl⟩
    have li : i < ys.length := by simpa using hi
    have li' : i < xs.length := by omega
    have e1 : atI xs (0 + (i : Int)) = some xs[i] := by rw [Int.zero_add]; exact atI_nat (List.getElem?_eq_getElem li')
    have e2 : atI ys (0 + (i : Int)) = some ys[i] := by rw [Int.zero_add]; exact atI_nat (List.getElem?_eq_getElem li)
    refine ⟨_, rfl, _, rfl, .inr ⟨xa, _, _, _, rfl, rfl, SqT.of h1, e1, ?_⟩⟩
    refine ⟨_, rfl, _, rfl, .inr ⟨xb, _, _, _, rfl, rfl, SqT.of h2, e2, ?_⟩⟩
    refine ⟨_, _, m, rfl, by omega, hal i _ _ (List.getElem?_eq_getElem li') (List.getElem?_eq_getElem li), _, rfl, ?_⟩
    exact ifNo rfl ⟨rfl, _, rfl⟩
   ·rintro σ H2 ⟨rfl, v, rfl⟩
    exact k
theorem ok__law_length (T : Tx P w K mg a) : FnOk P w K mg base CX0 1 a._law_length a.fd__law_length ["_law_pick", "_law_peak"] sp__law_length := by
 refine T.F__law_length.ok sc__law_length (fun vs H Q E h => ?_) (fun cdv A outer s H vs Q E hr h => ?_)
 ·obtain ⟨_, _, rfl, _⟩ := h
  rfl
 obtain ⟨i, j, rfl, k⟩ := h
 refine ⟨_, (pss_cons (ps_if (pt_cmpQ qo_eq (pe_op qi_mod (pq 0) pe_int) pe_int (nomark _)) (pss_one (ps_ret (pe_op qi_add pe_int (pe_op qi_mod (pe_op qi_fdiv (pq 0) pe_int) pe_int)))) pss_nil)
   (pss_cons (ps_if (pt_cmpQ qo_eq (pe_op qi_mod (pq 0) pe_int) pe_int (nomark _)) (pss_one (ps_ret (pe_op qi_add pe_int (pe_op qi_mod (pe_op qi_fdiv (pq 0) pe_int) pe_int)))) pss_nil)
   (pss_one (ps_ret (pe_op qi_add pe_int (pe_op qi_mod (pe_op qi_fdiv (pq 0) pe_int) (pe_callB (call_max2 rfl) rfl T.z_max PyProof.Rows.Boot.«max» (pa_cons pe_int (pa_cons (pq 1) pa_nil))))))))), ?_⟩
 unfold lengthV at k
 refine ⟨_, rfl, _, _, rfl, rfl, by decide, rfl, _, rfl, ?_⟩
 refine ite2 (fun c => ?_) (fun c => ?_)
 ·rw [if_pos (int_yes c)] at k
  exact ⟨_, rfl, _, _, rfl, rfl, ⟨by decide, by decide⟩, _, _, rfl, rfl, by decide, _, _, rfl, rfl, k⟩
 rw [if_neg (int_no c)] at k
 refine ⟨_, rfl, _, _, rfl, rfl, by decide, rfl, _, rfl, ?_⟩
 refine ite2 (fun c => ?_) (fun c => ?_)
 ·rw [if_pos (int_yes c)] at k
  exact ⟨_, rfl, _, _, rfl, rfl, ⟨by decide, by decide⟩, _, _, rfl, rfl, by decide, _, _, rfl, rfl, k⟩
 rw [if_neg (int_no c)] at k
 refine ⟨_, rfl, _, _, rfl, rfl, ⟨by decide, by decide⟩, _, rfl, 1, j, rfl, _, _, rfl, rfl, ?_, _, _, rfl, rfl, k⟩
 split <;> omega
theorem ok__law_reach (T : Tx P w K mg a) : FnOk P w K mg base CX0 1 a._law_reach a.fd__law_reach ["_law_moves_here", "_law_q"] sp__law_reach := by
 refine T.F__law_reach.ok sc__law_reach (fun vs H Q E h => ?_) (fun cdv A outer s H vs Q E hr h => ?_)
 ·obtain ⟨_, _, _, _, rfl, _⟩ := h
  rfl
 obtain ⟨l, us, ms, q, rfl, hl, hm, hlen, k⟩ := h
 refine ⟨_, (pss_cons (ps_set (i := 2) sc__law_reach.nd rfl (Or.inl rfl) pe_int)
   (pss_cons (ps_set (i := 3) sc__law_reach.nd rfl (Or.inl rfl) pe_int)
   (pss_cons (ps_set (i := 4) sc__law_reach.nd rfl (Or.inl rfl) pe_int)
   (pss_cons (ps_for PassesOwn.never rfl (pi_list (pq 0)) (pg_tup rfl (pgs_cons (pg_name (i := 5) sc__law_reach.nd rfl (Or.inl rfl)) (pgs_cons (pg_name (i := 6) sc__law_reach.nd rfl (Or.inl rfl)) pgs_nil)))
   (pss_one (ps_if (pt_cmpQ qo_eq (pq 6) (pq 1) (nomark _)) (pss_cons (ps_set (i := 2) sc__law_reach.nd rfl (Or.inl rfl) (pe_op qi_add (pq 2) (pe_ifExp (pt_cmpQ qo_eq (pq 5) pe_str (nomark _)) pe_int (pe_un un_neg pe_int))))
   (pss_cons (ps_set (i := 3) sc__law_reach.nd rfl (Or.inl rfl) (pe_callB (call_min2 rfl) rfl T.z_min PyProof.Rows.Boot.«min» (pa_cons (pq 3) (pa_cons (pq 2) pa_nil))))
   (pss_one (ps_set (i := 4) sc__law_reach.nd rfl (Or.inl rfl) (pe_callB (call_max2 rfl) rfl T.z_max PyProof.Rows.Boot.«max» (pa_cons (pq 4) (pa_cons (pq 2) pa_nil))))))) pss_nil)))
   (pss_one (ps_ret (pe_tupQ (pa_cons (pe_un un_neg (pq 3)) (pa_cons (pe_op qi_sub (pq 4) (pq 3)) pa_nil))))))))), ?_⟩
 have ul := hm.len
 refine ⟨_, rfl, l, rfl, ⟨_, SqL.of hl⟩, ?_⟩
 refine for_list (K := K) (a := l) (xs := us) (fun i σ H2 => H2 = H /\ ∃ v v', σ = [some (.ref l), some (.str q), some (.int (reachV q (ms.take i)).1), some (.int (reachV q (ms.take i)).2.1), some (.int (reachV q (ms.take i)).2.2), v, v']) ⟨rfl, _, _, rfl⟩ ?_ ?_ ?_
 ·rintro i σ H2 _ ⟨rfl, _⟩
  exact SqL.of hl
 ·rintro i x σ H2 hx ⟨rfl, v, v', rfl⟩
  obtain ⟨p, m, rfl, hi, hp⟩ := hm.at i x hx
  have tk : ms.take (i + 1) = ms.take i ++ [m] := by rw [List.take_add_one, hi]; rfl
  refine ⟨p, _, rfl, SqT.of hp, rfl, _, _, rfl, _, _, rfl, rfl, ?_⟩
  refine ⟨_, rfl, _, rfl, rfl, _, rfl, ?_⟩
  rw [tk, reach_snoc]
  unfold reachStep reachNow
  by_cases e : m.2 = q
  ·rw [if_pos e]
   refine ifYes (by rw [e]; simp) ?_
   refine ⟨_, rfl, _, rfl, rfl, _, rfl, ?_⟩
   by_cases e2 : m.1 = "put"
   ·simp only [if_pos e2]
    refine ifYes (by rw [e2]; simp) ?_
    exact ⟨_, _, rfl, rfl, _, rfl, _, rfl, _, _, rfl, _, rfl, _, rfl, _, _, rfl, rfl, _, _, rfl⟩
   ·simp only [if_neg e2]
    refine ifNo (by simp [e2]) ?_
    exact ⟨1, rfl, _, _, rfl, rfl, _, rfl, _, rfl, _, _, rfl, _, rfl, _, rfl, _, _, rfl, rfl, _, _, rfl⟩
  ·rw [if_neg e]
   exact ifNo (by simp [e]) ⟨rfl, _, _, rfl⟩
 ·rintro σ H2 ⟨rfl, v, v', rfl⟩
  rw [ul, List.take_length]
  exact ⟨_, rfl, _, rfl, _, rfl, _, rfl, _, _, rfl, rfl, ln2, k⟩
theorem ok__law_moves (T : Tx P w K mg a) : FnOk P w K mg base CX0 1 a._law_moves a.fd__law_moves ["_law_block_here"] sp__law_moves := by
 refine T.F__law_moves.ok sc__law_moves (fun vs H Q E h => ?_) (fun cdv A outer s H vs Q E hr h => ?_)
 ·obtain ⟨_, _, _, rfl, _⟩ := h
  rfl
 obtain ⟨H0, b, ds, rfl, e0, hb, nr, dl, k⟩ := h
 refine ⟨_, (pss_cons (ps_set (i := 1) sc__law_moves.nd rfl (Or.inl rfl) (pe_lstQ pa_nil))
   (pss_cons (ps_for PassesOwn.never rfl (pi_list (pq 0)) (pg_name (i := 2) sc__law_moves.nd rfl (Or.inl rfl))
   (pss_cons (ps_if (PW.pt (pw_or (pt_cmpQ qo_eq (pe_ix qx_tup (pq 2) pe_int (fun _ _ => rfl)) pe_str (nomark _)) (pw_or1 (pt_cmpQ qo_eq (pe_ix qx_tup (pq 2) pe_int (fun _ _ => rfl)) pe_str (nomark _))))) (pss_one (ps_expr (pe_bmQ PySem.F.plainAttrs_list PySem.F.slot_list_append PySem.F.type_list_append qm_append (pq 1) (pa_cons (pe_tupQ (pa_cons (pe_ix qx_tup (pq 2) pe_int (fun _ _ => rfl)) (pa_cons (pe_ix qx_tup (pq 2) pe_int (fun _ _ => rfl)) pa_nil))) pa_nil)))) pss_nil)
   (pss_one (ps_if (PW.pt (pw_and (pt_cmpQ qo_eq (pe_ix qx_tup (pq 2) pe_int (fun _ _ => rfl)) pe_str (nomark _)) (pw_and1 (pt_cmpQ qi_gt (pe_ix qx_tup (pq 2) pe_int (fun _ _ => rfl)) pe_int (nomark _))))) (pss_cons ps_never
   (pss_one ps_never)) pss_nil))))
   (pss_one (ps_ret (pq 1))))), ?_⟩
 obtain ⟨hv, hds⟩ := hb
 rename_i vs
 have vl := hds.len
 refine ⟨Nat.zero_le _, fun c hc => ?_⟩
 have s1 := Same.new hc (.lst [])
 refine ⟨_, rfl, b, rfl, ⟨_, SqL.of (s1 _ _ (e0 _ _ hv))⟩, ?_⟩
 refine for_list (K := K) (a := b) (xs := vs) (fun i σ H2 => ∃ v v' v'' us, σ = [some (.ref b), some (.ref c), v, v', v''] /\ Same H H2 /\ H2 c = some (.lst us) /\ RMs H2 us (movesV (ds.take i)) /\ us.length <= i) ⟨_, _, _, [], rfl, s1, upd_same, .nil, Nat.le_refl _⟩ ?_ ?_ ?_
 ·rintro i σ H2 _ ⟨v, v', v'', us, _, s2, _⟩
  exact SqL.of (s2 _ _ (e0 _ _ hv))
 ·rintro i x σ H2 hx ⟨v, v', v'', us, rfl, s2, h2, hu, ul⟩
  obtain ⟨d, hd, hrd⟩ := hds.at i x hx
  have nrd := nr d (List.mem_of_getElem? hd)
  have tk : movesV (ds.take (i + 1)) = movesV (ds.take i) ++ d.moves := by unfold movesV; rw [List.take_add_one, hd, List.flatMap_append]; simp
  have li : i < ds.length := (List.getElem?_eq_some_iff.mp hd).1
  rw [tk]
  have big : (10000 : Nat) < sizeLine := by decide
  cases hrd with
  | put h =>
   rename_i p q x
   refine ⟨_, rfl, _, _, _, _, rfl, rfl, SqT.of (s2 _ _ (e0 _ _ h)), rfl, rfl, _, rfl, ?_⟩
   refine ifYes (by decide +kernel) (ifYes rfl ?_)
   refine ⟨_, rfl, .inl ⟨rfl, _, SqL.of h2⟩, _, rfl, _, _, _, _, rfl, rfl, SqT.of (s2 _ _ (e0 _ _ h)), rfl, _, rfl, _, _, _, _, rfl, rfl, SqT.of (s2 _ _ (e0 _ _ h)), rfl, ln2, fun p1 hp1 => ?_⟩
   have s3 := Same.new hp1 (.tup [V.str "put", V.str q])
   refine ⟨c, us, .ref p1, rfl, rfl, s3 _ _ h2, by omega, ?_⟩
   have s4 : Same H (upd (upd H2 p1 (.tup [V.str "put", V.str q])) c (.lst (us ++ [.ref p1]))) := Same.over (s2.trans s3) hc
   refine ⟨_, rfl, _, _, _, _, rfl, rfl, SqT.of (s4 _ _ (e0 _ _ h)), rfl, rfl, _, rfl, ifNo (by decide +kernel) (ifNo rfl ?_)⟩
   refine ⟨_, _, _, us ++ [.ref p1], rfl, s4, upd_same, ?_, by rw [List.length_append, List.length_singleton]; omega⟩
   refine ((hu.same s3).off (s3 _ _ h2)).snoc (m := ("put", q)) ?_
   rw [upd_ne (fun z => by rw [z, h2] at hp1; cases hp1)]
   exact upd_same
  | get h =>
   rename_i p q x
   refine ⟨_, rfl, _, _, _, _, rfl, rfl, SqT.of (s2 _ _ (e0 _ _ h)), rfl, rfl, _, rfl, ?_⟩
   refine ifNo (by decide +kernel) ?_
   refine ⟨_, rfl, _, _, _, _, rfl, rfl, SqT.of (s2 _ _ (e0 _ _ h)), rfl, rfl, _, rfl, ?_⟩
   refine ifYes (by decide +kernel) ?_
   refine ⟨_, rfl, .inl ⟨rfl, _, SqL.of h2⟩, _, rfl, _, _, _, _, rfl, rfl, SqT.of (s2 _ _ (e0 _ _ h)), rfl, _, rfl, _, _, _, _, rfl, rfl, SqT.of (s2 _ _ (e0 _ _ h)), rfl, ln2, fun p1 hp1 => ?_⟩
   have s3 := Same.new hp1 (.tup [V.str "get", V.str q])
   refine ⟨c, us, .ref p1, rfl, rfl, s3 _ _ h2, by omega, ?_⟩
   have s4 : Same H (upd (upd H2 p1 (.tup [V.str "get", V.str q])) c (.lst (us ++ [.ref p1]))) := Same.over (s2.trans s3) hc
   refine ⟨_, rfl, _, _, _, _, rfl, rfl, SqT.of (s4 _ _ (e0 _ _ h)), rfl, rfl, _, rfl, ifNo (by decide +kernel) (ifNo rfl ?_)⟩
   refine ⟨_, _, _, us ++ [.ref p1], rfl, s4, upd_same, ?_, by rw [List.length_append, List.length_singleton]; omega⟩
   refine ((hu.same s3).off (s3 _ _ h2)).snoc (m := ("get", q)) ?_
   rw [upd_ne (fun z => by rw [z, h2] at hp1; cases hp1)]
   exact upd_same
  | set h =>
   refine ⟨_, rfl, _, _, _, _, rfl, rfl, SqT.of (s2 _ _ (e0 _ _ h)), rfl, rfl, _, rfl, ?_⟩
   refine ifNo (by decide +kernel) ?_
   refine ⟨_, rfl, _, _, _, _, rfl, rfl, SqT.of (s2 _ _ (e0 _ _ h)), rfl, rfl, _, rfl, ?_⟩
   refine ifNo (by decide +kernel) ?_
   refine ⟨_, rfl, _, _, _, _, rfl, rfl, SqT.of (s2 _ _ (e0 _ _ h)), rfl, rfl, _, rfl, ?_⟩
   refine ifNo (by decide +kernel) (ifNo rfl ?_)
   exact ⟨_, _, _, us, rfl, s2, h2, by simpa [Deed.moves] using hu, by omega⟩
  | give h =>
   refine ⟨_, rfl, _, _, _, _, rfl, rfl, SqT.of (s2 _ _ (e0 _ _ h)), rfl, rfl, _, rfl, ?_⟩
   refine ifNo (by decide +kernel) ?_
   refine ⟨_, rfl, _, _, _, _, rfl, rfl, SqT.of (s2 _ _ (e0 _ _ h)), rfl, rfl, _, rfl, ?_⟩
   refine ifNo (by decide +kernel) ?_
   refine ⟨_, rfl, _, _, _, _, rfl, rfl, SqT.of (s2 _ _ (e0 _ _ h)), rfl, rfl, _, rfl, ?_⟩
   refine ifNo (by decide +kernel) (ifNo rfl ?_)
   exact ⟨_, _, _, us, rfl, s2, h2, by simpa [Deed.moves] using hu, by omega⟩
  | cond h _ _ =>
   refine ⟨_, rfl, _, _, _, _, rfl, rfl, SqT.of (s2 _ _ (e0 _ _ h)), rfl, rfl, _, rfl, ?_⟩
   refine ifNo (by decide +kernel) ?_
   refine ⟨_, rfl, _, _, _, _, rfl, rfl, SqT.of (s2 _ _ (e0 _ _ h)), rfl, rfl, _, rfl, ?_⟩
   refine ifNo (by decide +kernel) ?_
   refine ⟨_, rfl, _, _, _, _, rfl, rfl, SqT.of (s2 _ _ (e0 _ _ h)), rfl, rfl, _, rfl, ?_⟩
   refine ifNo (by decide +kernel) (ifNo rfl ?_)
   exact ⟨_, _, _, us, rfl, s2, h2, by simpa [Deed.moves] using hu, by omega⟩
  | whl h _ =>
   refine ⟨_, rfl, _, _, _, _, rfl, rfl, SqT.of (s2 _ _ (e0 _ _ h)), rfl, rfl, _, rfl, ?_⟩
   refine ifNo (by decide +kernel) ?_
   refine ⟨_, rfl, _, _, _, _, rfl, rfl, SqT.of (s2 _ _ (e0 _ _ h)), rfl, rfl, _, rfl, ?_⟩
   refine ifNo (by decide +kernel) ?_
   refine ⟨_, rfl, _, _, _, _, rfl, rfl, SqT.of (s2 _ _ (e0 _ _ h)), rfl, rfl, _, rfl, ?_⟩
   refine ifNo (by decide +kernel) (ifNo rfl ?_)
   exact ⟨_, _, _, us, rfl, s2, h2, by simpa [Deed.moves] using hu, by omega⟩
  | rep h _ => exact absurd rfl (nrd _ _)
 ·rintro σ H2 ⟨v, v', v'', us, rfl, s2, h2, hu, _⟩
  rw [vl, List.take_length] at hu
  exact ⟨_, rfl, k H2 c us s2 hc h2 hu⟩
theorem poolV_len (c : Int) (n : Nat) : (poolV c n).length = n := by
 unfold poolV
 split
 ·rw [List.length_reverse, poolUp_len]
 ·exact poolUp_len c n
theorem cut_map (ns : List Int) : cutV (ns.map V.int) (some 3) (some 63) = (cutI ns 3 63).map V.int := by
 unfold cutV cutI
 have e1 : HT.sIx (ns.map V.int).length 0 (some 3) = min 3 ns.length := by rw [List.length_map]; exact HT.sIx_nat _ _ 3
 have e2 : HT.sIx (ns.map V.int).length (ns.map V.int).length (some 63) = min 63 ns.length := by rw [List.length_map]; exact HT.sIx_nat _ _ 63
 rw [e1, e2, List.map_take, List.map_drop]
seal poolV
theorem ok__law_program (T : Tx P w K mg a) : FnOk P w K mg base CX0 3 a._law_program a.fd__law_program ["_law_script", "_law_most"] (sp__law_program K) := by
 refine T.F__law_program.ok sc__law_program (fun vs H Q E h => ?_) (fun cdv A outer s H vs Q E hr h => ?_)
 ·obtain ⟨_, _, rfl, _⟩ := h
  rfl
 obtain ⟨l, ns, rfl, hl, h63, nr, bl, q⟩ := h
 refine ⟨_, (pss_cons (ps_set (i := 2) sc__law_program.nd rfl (Or.inl rfl) (pe_call (ok__law_cell_at T) (hr.mono (by decide)) rfl T.m__law_cell_at T.F__law_cell_at.kp T.b__law_cell_at .nil pass0 (pa_cons (pq 0) (pa_cons pe_int pa_nil))))
   (pss_cons (ps_set (i := 3) sc__law_program.nd rfl (Or.inl rfl) (pe_call (ok__law_cell_at T) (hr.mono (by decide)) rfl T.m__law_cell_at T.F__law_cell_at.kp T.b__law_cell_at .nil pass0 (pa_cons (pq 0) (pa_cons pe_int pa_nil))))
   (pss_cons (ps_set (i := 4) sc__law_program.nd rfl (Or.inr rfl) (pe_call (ok__law_cell_at T) (hr.mono (by decide)) rfl T.m__law_cell_at T.F__law_cell_at.kp T.b__law_cell_at .nil pass0 (pa_cons (pq 0) (pa_cons pe_int pa_nil))))
   (pss_cons (ps_set (i := 5) sc__law_program.nd rfl (Or.inr rfl) (pe_call (ok__law_pool T) (hr.mono (by decide)) rfl T.m__law_pool T.F__law_pool.kp T.b__law_pool .nil pass0 (pa_cons (pq 2) (pa_cons (pe_op qi_add pe_int (pe_op qi_mod (pe_call (ok__law_mixed T) (hr.mono (by decide)) rfl T.m__law_mixed T.F__law_mixed.kp T.b__law_mixed .nil pass0 (pa_cons (pq 3) (pa_cons pe_int pa_nil))) pe_int)) pa_nil))))
   (pss_cons (ps_set (i := 6) sc__law_program.nd rfl (Or.inl rfl) (pe_slice sl_list (pq 5) po_none (po_some (pe_un un_neg pe_int))))
   (pss_cons (ps_set (i := 7) sc__law_program.nd rfl (Or.inl rfl) (pe_call (ok__law_pool T) (hr.mono (by decide)) rfl T.m__law_pool T.F__law_pool.kp T.b__law_pool .nil pass0 (pa_cons (pe_ifExp (pt_cmpQ qo_eq (pe_op qi_mod (pe_call (ok__law_mixed T) (hr.mono (by decide)) rfl T.m__law_mixed T.F__law_mixed.kp T.b__law_mixed .nil pass0 (pa_cons (pq 3) (pa_cons pe_int pa_nil))) pe_int) pe_int (nomark _)) (pq 2) (pq 3)) (pa_cons (pe_callB (call_min2 rfl) rfl T.z_min PyProof.Rows.Boot.«min» (pa_cons pe_int (pa_cons (pe_op qi_mod (pe_call (ok__law_mixed T) (hr.mono (by decide)) rfl T.m__law_mixed T.F__law_mixed.kp T.b__law_mixed .nil pass0 (pa_cons (pq 3) (pa_cons pe_int pa_nil))) pe_int) pa_nil))) pa_nil))))
   (pss_cons (ps_set (i := 8) sc__law_program.nd rfl (Or.inl rfl) (pe_call (ok__law_block T) (hr.mono (by decide)) rfl T.m__law_block T.F__law_block.kp T.b__law_block .nil pass0 (pa_cons (pe_slice sl_list (pq 0) (po_some pe_int) (po_some pe_int)) (pa_cons (pq 6) (pa_cons (pq 7) (pa_cons (pq 1) (pa_cons pe_int pa_nil)))))))
   (pss_cons (ps_set (i := 9) sc__law_program.nd rfl (Or.inl rfl) (pe_call (ok__law_moves T) (hr.mono (by decide)) rfl T.m__law_moves T.F__law_moves.kp T.b__law_moves .nil pass0 (pa_cons (pq 8) pa_nil)))
   (pss_cons (ps_set (i := 10) sc__law_program.nd rfl (Or.inl rfl) (pe_lstQ pa_nil))
   (pss_cons (ps_set (i := 11) sc__law_program.nd rfl (Or.inl rfl) (pe_lstQ pa_nil))
   (pss_cons (ps_for PassesOwn.never rfl (pj_range1 rfl T.z_range (pa_cons (pe_callB qc_len rfl T.z_len PySem.boot_len (pa_cons (pq 7) pa_nil)) pa_nil)) (pg_name (i := 12) sc__law_program.nd rfl (Or.inl rfl))
   (pss_cons (ps_asg (pe_call (ok__law_reach T) (hr.mono (by decide)) rfl T.m__law_reach T.F__law_reach.kp T.b__law_reach .nil pass0 (pa_cons (pq 9) (pa_cons (pe_ix qx_list (pq 7) (pq 12) (fun _ _ => rfl)) pa_nil))) (pg_tup rfl (pgs_cons (pg_name (i := 13) sc__law_program.nd rfl (Or.inl rfl)) (pgs_cons (pg_name (i := 14) sc__law_program.nd rfl (Or.inl rfl)) pgs_nil))))
   (pss_cons (ps_expr (pe_bmQ PySem.F.plainAttrs_list PySem.F.slot_list_extend PySem.F.type_list_extend mt_extend (pq 10) (pa_cons (pe_op op_rep (pe_lstQ (pa_cons (pe_tupQ (pa_cons pe_str (pa_cons (pe_ix qx_list (pq 7) (pq 12) (fun _ _ => rfl)) (pa_cons (pe_ix qx_list (pq 6) (pe_op qi_mod (pq 12) (pe_callB qc_len rfl T.z_len PySem.boot_len (pa_cons (pq 6) pa_nil))) (fun _ _ => rfl)) pa_nil)))) pa_nil)) (pq 13)) pa_nil)))
   (pss_one (ps_expr (pe_bmQ PySem.F.plainAttrs_list PySem.F.slot_list_append PySem.F.type_list_append qm_append (pq 11) (pa_cons (pe_tupQ (pa_cons (pe_ix qx_list (pq 7) (pq 12) (fun _ _ => rfl)) (pa_cons (pe_call (ok__law_length T) (hr.mono (by decide)) rfl T.m__law_length T.F__law_length.kp T.b__law_length .nil pass0 (pa_cons (pe_call (ok__law_mixed T) (hr.mono (by decide)) rfl T.m__law_mixed T.F__law_mixed.kp T.b__law_mixed .nil pass0 (pa_cons (pq 4) (pa_cons (pe_op qi_add (pq 12) pe_int) pa_nil))) (pa_cons (pq 14) pa_nil))) pa_nil))) pa_nil)))))))
   (pss_cons (ps_setcomp (i := 15) sc__law_program.nd rfl (Or.inl rfl) (k := 1) (Nc := ["_law_k", "_law_words", "_law_third"]) (js := [5, 4]) (show CompSc (defScope s__law_program) ["_law_script", "_law_most", "_law_first", "_law_second", "_law_third", "_law_words", "_law_names", "_law_rooms", "_law_body", "_law_moves_here", "_law_front", "_law_stores", "_law_k", "_law_lacking", "_law_peak", "_law_asks"] _ 1 ["_law_k", "_law_words", "_law_third"] [5, 4] from CompSc.mk rfl (by decide +kernel) (by decide +kernel) (by decide +kernel) rfl (by decide +kernel)) rfl (pj_range1 rfl T.z_range (pa_cons (pe_callB qc_len rfl T.z_len PySem.boot_len (pa_cons (pq 5) pa_nil)) pa_nil)) (fun _ _ _ _ _ => (pg_name (i := 0) (show List.Nodup (["_law_k", "_law_words", "_law_third"] : List Str) from by decide +kernel) rfl (Or.inl rfl))) (fun _ _ _ _ _ => (pts_one (pt_cmpQ qo_eq (pe_op qi_mod (pe_call (ok__law_mixed T) (hr.mono (by decide)) rfl T.m__law_mixed T.F__law_mixed.kp T.b__law_mixed .nil pass0 (pa_cons (pq 2) (pa_cons (pe_op qi_add (pq 0) pe_int) pa_nil))) pe_int) pe_int (nomark _)))) (fun _ _ _ _ _ => (pe_ix (qx_listK (K := K) rfl) (pq 1) (pq 0) (fun _ _ => rfl))))
   (pss_one (ps_ret (pe_tupQ (pa_cons (pq 15) (pa_cons (pq 11) (pa_cons (pe_op qo_catS (pq 10) (pq 8)) pa_nil)))))))))))))))))), ?_⟩
 have e0 : (0 : Int).toNat = 0 := rfl
 have e1 : (1 : Int).toNat = 1 := rfl
 have e2 : (2 : Int).toNat = 2 := rfl
 refine ⟨_, rfl, l, ns, 0, rfl, hl, by omega, by decide, ?_⟩
 refine ⟨_, rfl, l, ns, 1, rfl, hl, by omega, by decide, ?_⟩
 refine ⟨_, rfl, l, ns, 2, rfl, hl, by omega, by decide, ?_⟩
 rw [e0, e1, e2]
 have a0 := mixed_lo (ns.getD 1 0) 1
 have a3 := mixed_lo (ns.getD 1 0) 3
 have wl : (wordsOf ns).length = (2 + mixed (ns.getD 1 0) 1 % 4).toNat := poolV_len _ _
 have nl : (namesOf ns).length = (wordsOf ns).length - 1 := List.length_dropLast
 have rl : (roomsOf ns).length = (if mixed (ns.getD 1 0) 3 % 5 < 3 then mixed (ns.getD 1 0) 3 % 5 else 3).toNat := poolV_len _ _
 have rl3 : (roomsOf ns).length <= 3 := by rw [rl]; split <;> omega
 have cl : (cutI ns 3 63).length <= 100 := by unfold cutI; rw [List.length_take]; omega
 refine ⟨_, rfl, _, rfl, _, 1, rfl, by decide, by decide, _, _, rfl, rfl, by decide, _, _, rfl, rfl, _, _, rfl, by omega, by omega, fun H2 ln s2 nl2 hl2 => ?_⟩
 have hw2 : H2 ln = some (.lst ((wordsOf ns).map V.str)) := hl2
 refine ⟨_, rfl, _, rfl, _, rfl, ln, _, rfl, SqL.of hw2, fun c2 hc2 => ?_⟩
 rw [cut_last (wordsOf ns) (by omega)]
 have sc2 : Same H2 (upd H2 c2 (.lst ((wordsOf ns).dropLast.map V.str))) := Same.new hc2 _
 have hn2 : (upd H2 c2 (.lst ((wordsOf ns).dropLast.map V.str))) c2 = some (.lst ((namesOf ns).map V.str)) := upd_same
 have s02 := s2.trans sc2
 have hw2 := sc2 _ _ hw2
 generalize upd H2 c2 (.lst ((wordsOf ns).dropLast.map V.str)) = H2' at hn2 s02 hw2 ⊢
 refine ⟨_, rfl, _, 2, rfl, by decide, by decide, _, _, rfl, rfl, by decide, rfl, _, rfl, ?_⟩
 refine ite_varsQ rfl rfl ?_
 refine ⟨_, rfl, _, 3, rfl, by decide, by decide, _, _, rfl, rfl, by decide, 3, _, rfl, _, _, rfl, by split <;> omega, by split <;> omega, fun H3 lr s3 nr3 hr3 => ?_⟩
 have hr3 : H3 lr = some (.lst ((roomsOf ns).map V.str)) := by
  rw [hr3]
  unfold roomsOf
  congr 5
  exact propext ⟨int_yes, fun z => by rw [z]; rfl⟩
 have s03 := s02.trans s3
 have hw3 := s3 _ _ hw2
 have hn3 := s3 _ _ hn2
 refine ⟨_, rfl, _, rfl, _, rfl, l, _, rfl, s03.seq hl, fun c hc => ?_⟩
 rw [cut_map]
 have sc : Same H3 (upd H3 c (.lst ((cutI ns 3 63).map V.int))) := Same.new hc _
 refine ⟨_, rfl, _, rfl, _, rfl, c, c2, lr, cutI ns 3 63, namesOf ns, roomsOf ns, 0, 7, rfl, SqL.of upd_same, SqL.of (sc _ _ hn3), SqL.of (sc _ _ hr3), cl, by omega, by omega, by omega, by decide, by decide, fun H4 b s4 nb hb => ?_⟩
 have s34 := sc.trans s4
 have hw4 := s34 _ _ hw3
 have hn4 := s34 _ _ hn3
 have hr4 := s34 _ _ hr3
 have s04 := s03.trans s34
 refine ⟨_, rfl, H4, b, bodyV ns, rfl, Same.refl _, hb, nr, by omega, fun H5 lm ums s5 nlm hlm hms => ?_⟩
 have ml : (movesOf ns).length <= 60 := by
  have : ∀ ds : List Deed, (movesV ds).length <= ds.length := fun ds => by
   induction ds with
   | nil => exact Nat.le_refl _
   | cons d r ih =>
    have : d.moves.length <= 1 := by cases d <;> simp [Deed.moves]
    unfold movesV at *
    rw [List.flatMap_cons, List.length_append, List.length_cons]
    omega
  exact Nat.le_trans (this _) bl
 refine ⟨Nat.zero_le _, fun cf hcf => ⟨Nat.zero_le _, fun cs hcs => ?_⟩⟩
 have nfs : cf ≠ cs := fun z => by rw [z, upd_same] at hcs; cases hcs
 have s7 : Same H5 (upd (upd H5 cf (.lst [])) cs (.lst [])) := (Same.new hcf _).trans (Same.new hcs _)
 have fs0 : H5 cs = none := Same.none (Same.new hcf _) hcs
 have lro : (((roomsOf ns).map V.str).length : Int).toNat = (roomsOf ns).length := by simp
 have lw : (((wordsOf ns).map V.str).length : Int).toNat = (wordsOf ns).length := by simp
 have lw' : ((wordsOf ns).map V.str).length = (wordsOf ns).length := List.length_map _
 have lr' : ((roomsOf ns).map V.str).length = (roomsOf ns).length := List.length_map _
 have big : (10000 : Nat) < sizeLine := by decide
 refine ⟨_, rfl, lr, _, rfl, .inl (SqL.of (s7 _ _ (s5 _ _ hr4))), _, rfl, by omega, by omega, ?_⟩
 rw [lro]
 refine for_range (fun i σ H6 => ∃ v v' v'' fs ss, σ = [some (.ref l), some (.int 0), some (.int (ns.getD 0 0)), some (.int (ns.getD 1 0)), some (.int (ns.getD 2 0)), some (.ref ln), some (.ref c2), some (.ref lr), some (.ref b), some (.ref lm), some (.ref cf), some (.ref cs), v, v', v'', none] /\ Same H5 H6 /\ H6 cf = some (.lst fs) /\ RPs H6 fs (frontM (roomsOf ns) (namesOf ns) (movesOf ns) i) /\ H6 cs = some (.lst ss) /\ RSs H6 ss (storesUp18 (roomsOf ns) (ns.getD 2 0) (movesOf ns) i)) ⟨_, _, _, [], [], rfl, s7, by rw [upd_ne nfs]; exact upd_same, .nil, upd_same, .nil⟩ ?_ ?_
 ·rintro i σ H6 hi ⟨v, v', v'', fs, ss, rfl, s6, hf, rf, hs, rs⟩
  rw [Int.zero_add]
  have e : atI ((roomsOf ns).map V.str) (i : Int) = some (.str ((roomsOf ns).getD i (">" : Str))) := at_str hi
  have en : atI ((namesOf ns).map V.str) ((i : Int) % (((namesOf ns).map V.str).length : Int)) = some (.str (nth (namesOf ns) (i : Int))) := nth_at (by omega) _
  have nl' : ((namesOf ns).map V.str).length = (namesOf ns).length := List.length_map _
  have fl := rf.len
  have sl := rs.len
  rw [storesUp18_len] at sl
  have fm : (frontM (roomsOf ns) (namesOf ns) (movesOf ns) i).length <= 200 := by
   have h1 := frontUp_len (roomsOf ns) (namesOf ns) (movesOf ns) i
   rw [<- frontM_eq, List.length_map] at h1
   have : i * (movesOf ns).length <= 3 * 60 := Nat.mul_le_mul (by omega) ml
   omega
  have lk := lack_le ((roomsOf ns).getD i (">" : Str)) (movesOf ns)
  have lkb := reach_bounds ((roomsOf ns).getD i (">" : Str)) (movesOf ns)
  refine ⟨_, rfl, _, rfl, _, rfl, lr, _, _, _, rfl, rfl, SqL.of (s6 _ _ (s5 _ _ hr4)), e, lm, ums, movesOf ns, _, rfl, s6 _ _ hlm, hms.same s6, by omega, fun pr hpr => ⟨pr, _, rfl, SqT.of upd_same, rfl, _, _, rfl, _, _, rfl, rfl, ?_⟩⟩
  have s67 := Same.new hpr (.tup [.int (-(reachV ((roomsOf ns).getD i (">" : Str)) (movesOf ns)).2.1), .int ((reachV ((roomsOf ns).getD i (">" : Str)) (movesOf ns)).2.2 - (reachV ((roomsOf ns).getD i (">" : Str)) (movesOf ns)).2.1)])
  have s57 := s6.trans s67
  have hr7 := s57 _ _ (s5 _ _ hr4)
  have hn7 := s57 _ _ (s5 _ _ hn4)
  have hf7 := s67 _ _ hf
  have hs7 := s67 _ _ hs
  have rf7 := rf.same s67
  have rs7 := rs.same s67
  generalize upd H6 pr (.tup [.int (-(reachV ((roomsOf ns).getD i (">" : Str)) (movesOf ns)).2.1), .int ((reachV ((roomsOf ns).getD i (">" : Str)) (movesOf ns)).2.2 - (reachV ((roomsOf ns).getD i (">" : Str)) (movesOf ns)).2.1)]) = H7 at s57 hr7 hn7 hf7 hs7 rf7 rs7 ⊢
  clear s67 hf hs rf rs
  refine ⟨_, rfl, .inl ⟨rfl, _, SqL.of hf7⟩, _, rfl, _, rfl, lr, _, _, _, rfl, rfl, SqL.of hr7, e, _, rfl, _, rfl, _, rfl, c2, _, rfl, .inl (SqL.of hn7), _, _, rfl, rfl, by omega, c2, _, _, _, rfl, rfl, SqL.of hn7, en, ln3, fun pt hpt => ⟨ln1, fun pl hpl => ?_⟩⟩
  have st := Same.new hpt (.tup [.str "put", .str ((roomsOf ns).getD i (">" : Str)), .str (nth (namesOf ns) (i : Int))])
  have sl8 := Same.new hpl (.lst [.ref pt])
  refine ⟨_, rfl, pl, _, _, rfl, rfl, upd_same, by omega, by omega, by show 1 * lackV _ _ <= _; omega, fun pq hpq => ?_⟩
  rw [flat_rep]
  have s9 := (st.trans sl8).trans (Same.new hpq (.lst (List.replicate (-(reachV ((roomsOf ns).getD i (">" : Str)) (movesOf ns)).2.1).toNat (.ref pt))))
  refine ⟨cf, pq, _, _, rfl, rfl, s9 _ _ hf7, upd_same, len_le_line (m := 9000) (by rw [List.length_replicate]; show fs.length + lackV _ _ <= _; omega), ?_⟩
  have pt9 := (sl8.trans (Same.new hpq (.lst (List.replicate (-(reachV ((roomsOf ns).getD i (">" : Str)) (movesOf ns)).2.1).toNat (.ref pt))))) _ _ (upd_same (H := H7) (a := pt) (o := .tup [.str "put", .str ((roomsOf ns).getD i (">" : Str)), .str (nth (namesOf ns) (i : Int))]))
  have s510 := Same.over (o := .lst (fs ++ List.replicate (-(reachV ((roomsOf ns).getD i (">" : Str)) (movesOf ns)).2.1).toNat (.ref pt))) (s57.trans s9) hcf
  have rf10 : RPs _ _ (frontM (roomsOf ns) (namesOf ns) (movesOf ns) (i + 1)) := ((rf7.same s9).app (RPs.rep (m := ((roomsOf ns).getD i (">" : Str), nth (namesOf ns) (i : Int))) pt9 (lackV ((roomsOf ns).getD i (">" : Str)) (movesOf ns)))).off (o := .lst (fs ++ List.replicate (-(reachV ((roomsOf ns).getD i (">" : Str)) (movesOf ns)).2.1).toNat (.ref pt))) (s9 _ _ hf7)
  have rs10 := (rs7.same s9).off (o := .lst (fs ++ List.replicate (-(reachV ((roomsOf ns).getD i (">" : Str)) (movesOf ns)).2.1).toNat (.ref pt))) (s9 _ _ hf7)
  have hs10 := (upd_ne (H := (upd (upd (upd H7 pt (.tup [.str "put", .str ((roomsOf ns).getD i (">" : Str)), .str (nth (namesOf ns) (i : Int))])) pl (.lst [.ref pt])) pq (.lst (List.replicate (-(reachV ((roomsOf ns).getD i (">" : Str)) (movesOf ns)).2.1).toNat (.ref pt))))) (o := .lst (fs ++ List.replicate (-(reachV ((roomsOf ns).getD i (">" : Str)) (movesOf ns)).2.1).toNat (.ref pt))) (Ne.symm nfs)).trans (s9 _ _ hs7)
  have hf10 := upd_same (H := (upd (upd (upd H7 pt (.tup [.str "put", .str ((roomsOf ns).getD i (">" : Str)), .str (nth (namesOf ns) (i : Int))])) pl (.lst [.ref pt])) pq (.lst (List.replicate (-(reachV ((roomsOf ns).getD i (">" : Str)) (movesOf ns)).2.1).toNat (.ref pt))))) (a := cf) (o := .lst (fs ++ List.replicate (-(reachV ((roomsOf ns).getD i (">" : Str)) (movesOf ns)).2.1).toNat (.ref pt)))
  generalize upd (upd (upd (upd H7 pt (.tup [.str "put", .str ((roomsOf ns).getD i (">" : Str)), .str (nth (namesOf ns) (i : Int))])) pl (.lst [.ref pt])) pq (.lst (List.replicate (-(reachV ((roomsOf ns).getD i (">" : Str)) (movesOf ns)).2.1).toNat (.ref pt)))) cf (.lst (fs ++ List.replicate (-(reachV ((roomsOf ns).getD i (">" : Str)) (movesOf ns)).2.1).toNat (.ref pt))) = H10 at s510 rf10 rs10 hs10 hf10 ⊢
  refine ⟨_, rfl, .inl ⟨rfl, _, SqL.of hs10⟩, _, rfl, _, rfl, lr, _, _, _, rfl, rfl, SqL.of (s510 _ _ (s5 _ _ hr4)), e, _, rfl, _, rfl, _, _, rfl, rfl, _, _, rfl, by omega, by omega, _, rfl, _, _, rfl, ln2, fun pz hpz => ?_⟩
  refine ⟨cs, ss, .ref pz, rfl, rfl, Same.new hpz _ _ _ hs10, by omega, ?_⟩
  refine ⟨_, _, _, _, ss ++ [.ref pz], rfl, Same.over (s510.trans (Same.new hpz _)) fs0, ?_, (rf10.same (Same.new hpz _)).off (Same.new hpz _ _ _ hs10), upd_same, ?_⟩
  ·rw [upd_ne nfs]
   exact Same.new hpz _ _ _ hf10
  ·exact ((rs10.same (Same.new hpz _)).snoc upd_same).off (Same.new hpz _ _ _ hs10)
 ·rintro σ H6 ⟨v, v', v'', fs, ss, rfl, s6, hf, rf, hs, rs⟩
  refine ⟨_, rfl, ln, _, rfl, .inl (SqL.of (s6 _ _ (s5 _ _ hw4))), _, rfl, by omega, by omega, ?_⟩
  rw [lw]
  refine comp_range (fun i ys σ H9 => (∃ v, σ = [v, some (.ref ln), some (.int (ns.getD 2 0))]) /\ Same H6 H9 /\ ys = (asksUp (wordsOf ns) (ns.getD 2 0) i).map V.str) ⟨⟨none, rfl⟩, Same.refl _, rfl⟩ ?_ (len_le_line (m := 100) (by omega)) ?_ ?_
  ·rintro i ys σ H9 _ ⟨_, _, rfl⟩
   rw [List.length_map]
   exact asksUp_len _ _ _
  ·rintro i ys σ H9 hi ⟨⟨v, rfl⟩, s9, rfl⟩
   refine ⟨_, rfl, _, rfl, _, _, rfl, rfl, _, _, rfl, by omega, by omega, _, _, rfl, rfl, by decide, rfl, _, rfl, ?_⟩
   refine ite2 (fun cc => ?_) (fun cc => ?_)
   ·have cc := int_yes cc
    refine ⟨_, rfl, _, rfl, ln, _, _, _, rfl, rfl, SqL.of (s9 _ _ (s6 _ _ (s5 _ _ hw4))), at_str hi, ⟨_, rfl⟩, s9, ?_⟩
    rw [asksUp, if_pos cc]
    simp
   ·have cc := int_no cc
    refine ⟨⟨_, rfl⟩, s9, ?_⟩
    rw [asksUp, if_neg cc]
    simp
  rintro ys σ9 H9 ⟨_, s9, rfl⟩ la hla
  have s10 := s9.trans (Same.new hla (.lst ((asksUp (wordsOf ns) (ns.getD 2 0) (wordsOf ns).length).map V.str)))
  obtain ⟨hv, hds⟩ := hb
  rename_i bvs
  have sb : Same H4 (upd H9 la (.lst ((asksUp (wordsOf ns) (ns.getD 2 0) (wordsOf ns).length).map V.str))) := s5.trans (s6.trans s10)
  have bv : bvs.length = (bodyV ns).length := hds.len
  have fl := rf.len
  have fm : (frontM (roomsOf ns) (namesOf ns) (movesOf ns) (roomsOf ns).length).length <= 200 := by
   have h1 := frontUp_len (roomsOf ns) (namesOf ns) (movesOf ns) (roomsOf ns).length
   rw [<- frontM_eq, List.length_map] at h1
   have : (roomsOf ns).length * (movesOf ns).length <= 3 * 60 := Nat.mul_le_mul rl3 ml
   omega
  refine ⟨_, rfl, _, rfl, _, rfl, _, rfl, cf, b, _, _, rfl, rfl, SqL.of (s10 _ _ hf), SqL.of (sb _ _ hv), len_le_line (m := 9000) (by omega), fun pb hpb => ⟨ln3, fun p hp => ?_⟩⟩
  have s11 := Same.new hpb (.lst (fs ++ bvs))
  have s12 := Same.new hp (.tup [.ref la, .ref cs, .ref pb])
  have s112 := s11.trans s12
  refine q _ p la cs pb ss ((s04.trans sb).trans s112) ⟨upd_same, s112 _ _ upd_same, s112 _ _ (s10 _ _ hs), rs.same (s10.trans s112), .mk (s12 _ _ upd_same) (RDs.app ?_ (RDs.same (sb.trans s112) hds))⟩
  have := (rf.same (s10.trans s112)).rds
  rw [frontM_eq] at this
  exact this
theorem ok_waits_by (T : Tx P w K mg a) : FnOk P w K mg base CX0 1 a.waits_by a.fd_waits_by ["cards", "kind", "owners"] sp_waits_by := by
 refine T.F_waits_by.ok sc_waits_by (fun vs H Q E h => ?_) (fun cdv A outer s H vs Q E hr h => ?_)
 ·obtain ⟨_, _, _, _, _, _, rfl, _⟩ := h
  rfl
 obtain ⟨p, d, cs, kd, kvs, ow, rfl, hp, hd, ho, hl, k⟩ := h
 refine ⟨_, (pss_one (ps_ret (pe_comp (k := 1) (Nc := ["card", "kind", "owners"]) (js := [1, 2]) (show CompSc (defScope s_waits_by) ["cards", "kind", "owners"] _ 1 ["card", "kind", "owners"] [1, 2] from CompSc.mk rfl (by decide +kernel) (by decide +kernel) (by decide +kernel) rfl (by decide +kernel)) rfl (pi_tup (pq 0)) (fun _ _ _ _ _ => (pg_name (i := 0) (show List.Nodup (["card", "kind", "owners"] : List Str) from by decide +kernel) rfl (Or.inl rfl))) (fun _ _ _ _ _ => (pts_one (pt_cmpQ op_in_dk (pq 0) (pq 2) (by with_unfolding_all rfl)))) (fun _ _ _ _ _ => (pe_tupQ (pa_cons (pe_ix ix_dk (pq 2) (pq 0) (fun _ _ => rfl)) (pa_cons (pq 1) (pa_cons (pq 0) pa_nil)))))))), ?_⟩
 have big : (10000 : Nat) < sizeLine := by decide
 refine ⟨_, rfl, p, rfl, ⟨_, SqT.of hp⟩, ?_⟩
 refine comp_tup (K := K) (a := p) (xs := cs.map V.str) (fun i ys σ H2 => Same H H2 /\ (∃ u, σ = [u, some (.str kd), some (.ref d)]) /\ RWs H2 ys (byOf ow kd (cs.take i))) ⟨Same.refl _, ⟨_, rfl⟩, .nil⟩ ?_ (by rw [List.length_map]; omega) ?_ ?_ ?_
 ·rintro i ys σ H2 _ ⟨_, _, h2⟩
  have := byOf_len ow kd (cs.take i)
  rw [h2.len]
  rw [List.length_take] at this
  omega
 ·rintro i ys σ H2 ⟨s2, _⟩
  exact SqT.of (s2 _ _ hp)
 ·rintro i x ys σ H2 hx ⟨s2, ⟨u, rfl⟩, h2⟩
  rw [List.getElem?_map] at hx
  cases e : cs[i]? with
  | none => rw [e] at hx; cases hx
  | some c =>
   rw [e] at hx
   obtain rfl : V.str c = x := Option.some.inj hx
   have tk : cs.take (i + 1) = cs.take i ++ [c] := by rw [List.take_add_one, e]; rfl
   rw [tk, byOf_snoc]
   have hv := ho c
   refine ⟨_, rfl, _, rfl, d, kvs, .inr c, rfl, s2 _ _ hd, rfl, ?_⟩
   cases eo : ow c with
   | none =>
    rw [eo] at hv
    have hv' : valV kvs (.inr c) = none := hv
    rw [hv']
    refine ⟨_, rfl, ?_⟩
    rw [if_neg (show ¬ (none : Option V).isSome = true from fun h => nomatch h)]
    exact ⟨s2, ⟨_, rfl⟩, by rw [Option.map_none, Option.toList_none, List.append_nil]; exact h2⟩
   | some n =>
    rw [eo] at hv
    have hv' : valV kvs (.inr c) = some (.int n) := hv
    rw [hv']
    refine ⟨_, rfl, ?_⟩
    rw [if_pos (show (some (V.int n)).isSome = true from rfl)]
    refine ⟨_, rfl, _, rfl, d, kvs, .inr c, .int n, rfl, s2 _ _ hd, rfl, hv', ?_⟩
    refine ⟨_, rfl, _, rfl, ln3, fun q hq => ?_⟩
    exact ⟨s2.trans (Same.new hq _), ⟨_, rfl⟩, (h2.same (Same.new hq _)).snoc (e := (n, kd, c)) upd_same⟩
 ·rintro ys σ H2 ⟨s2, _, h2⟩ l hl2
  rw [List.length_map, List.take_length] at h2
  exact k _ l ys (s2.trans (Same.new hl2 _)) (s2.free hl2) upd_same (h2.same (Same.new hl2 _))
theorem ok_waits_for_cards (T : Tx P w K mg a) : FnOk P w K mg base CX0 2 a.waits_for_cards a.fd_waits_for_cards ["deeds"] sp_waits_for_cards := by
 refine T.F_waits_for_cards.ok sc_waits_for_cards (fun vs H Q E h => ?_) (fun cdv A outer s H vs Q E hr h => ?_)
 ·obtain ⟨_, _, _, rfl, _⟩ := h
  rfl
 obtain ⟨l, us, rs, rfl, hl, hrs, hlen, small, k⟩ := h
 refine ⟨_, (pss_cons (ps_set (i := 1) sc_waits_for_cards.nd rfl (Or.inl rfl) pe_dnewK)
   (pss_cons (ps_set (i := 2) sc_waits_for_cards.nd rfl (Or.inl rfl) (pe_lstQ pa_nil))
   (pss_cons (ps_for PassesOwn.never rfl (pi_enum rfl T.z_enumerate (pa_cons (pq 0) pa_nil)) (pg_tup rfl (pgs_cons (pg_name (i := 3) sc_waits_for_cards.nd rfl (Or.inl rfl)) (pgs_cons (pg_name (i := 4) sc_waits_for_cards.nd rfl (Or.inl rfl)) pgs_nil)))
   (pss_cons (ps_expr (pe_bmQ PySem.F.plainAttrs_list PySem.F.slot_list_append PySem.F.type_list_append qm_append (pq 2) (pa_cons (pe_op qo_catS (pe_call (ok_waits_by T) (hr.mono (by decide)) rfl T.m_waits_by T.F_waits_by.kp T.b_waits_by .nil pass0 (pa_cons (pe_ix qx_tup (pq 4) pe_int (fun _ _ => rfl)) (pa_cons pe_str (pa_cons (pq 1) pa_nil)))) (pe_call (ok_waits_by T) (hr.mono (by decide)) rfl T.m_waits_by T.F_waits_by.kp T.b_waits_by .nil pass0 (pa_cons (pe_ix qx_tup (pq 4) pe_int (fun _ _ => rfl)) (pa_cons pe_str (pa_cons (pq 1) pa_nil))))) pa_nil)))
   (pss_one (ps_for PassesOwn.never rfl (pi_tup (pe_ix qx_tup (pq 4) pe_int (fun _ _ => rfl))) (pg_name (i := 5) sc_waits_for_cards.nd rfl (Or.inl rfl))
   (pss_one (ps_dput (hr.one) (pq 1) (pq 5) (pq 3) rfl))))))
   (pss_one (ps_ret (pq 2)))))), ?_⟩
 have big : (4000000 : Nat) < sizeLine := by decide
 intro d hd
 refine ⟨Nat.zero_le _, fun lw hlw => ?_⟩
 have s1 : Same H (upd H d (.dK [])) := Same.new hd _
 have s2 := s1.trans (Same.new hlw (.lst []))
 have hd1 : (upd (upd H d (.dK [])) lw (.lst [])) d = some (.dK []) := Same.new hlw _ _ _ upd_same
 have flw : H lw = none := s1.free hlw
 refine ⟨_, rfl, l, us, rfl, SqL.of (s2 _ _ hl), ?_⟩
 refine for_enum (K := K) (l := l) (xs := us) (fun i σ H2 => ∃ v3 v4 v5 kvs ws, σ = [some (.ref l), some (.ref d), some (.ref lw), v3, v4, v5] /\ Same H H2 /\ H2 d = some (.dK kvs) /\ H2 lw = some (.lst ws) /\ RWL H2 ws (allCardWaits rs i) /\ (∀ v ∈ ws, v ≠ .ref lw) /\ Owned kvs (lastOf (rs.take i)) /\ kvs.length <= 4000 * i) ⟨_, _, _, [], [], rfl, s2, hd1, upd_same, .nil, (fun v hv => nomatch hv), fun c => rfl, Nat.zero_le _⟩ ?_ ?_ ?_
 ·rintro i σ H2 ⟨_, _, _, _, _, _, s3, _⟩
  exact SqL.of (s3 _ _ hl)
 ·rintro i x σ H2 pt hx ⟨v3, v4, v5, kvs, ws, rfl, s3, hd2, hw2, hrw, nel, own, kl⟩ hpt
  obtain ⟨r, hr', px, po, pr, rfl, h1, h2, h3⟩ := hrs.at i x hx
  have lt : i < rs.length := (List.getElem?_eq_some_iff.mp hr').1
  have st : Same H2 (upd H2 pt (.tup [.int i, .ref px])) := Same.new hpt _
  have hpt3 : (upd H2 pt (.tup [.int i, .ref px])) pt = some (.tup [.int i, .ref px]) := upd_same
  have s4 := s3.trans st
  have hd3 := st _ _ hd2
  have hw3 := st _ _ hw2
  have hrw3 := hrw.same st
  generalize upd H2 pt (.tup [.int i, .ref px]) = H3 at s4 hd3 hw3 hrw3 hpt3 ⊢
  obtain ⟨so, sr⟩ := small r (List.mem_of_getElem? hr')
  refine ⟨pt, _, rfl, SqT.of hpt3, rfl, _, _, rfl, _, _, rfl, rfl, ?_⟩
  have h1' := s4 _ _ h1
  refine ⟨_, rfl, .inl ⟨rfl, _, SqL.of hw3⟩, ?_⟩
  refine ⟨_, rfl, px, _, _, _, rfl, rfl, SqT.of h1', rfl, ?_⟩
  refine ⟨_, rfl, po, d, r.owns, "card", kvs, lastOf (rs.take i), rfl, s4 _ _ h2, hd3, own, by omega, fun H4 l1 u1 s5 f1 e1 w1 => ?_⟩
  refine ⟨_, rfl, px, _, _, _, rfl, rfl, SqT.of (s5 _ _ h1'), rfl, ?_⟩
  refine ⟨_, rfl, pr, d, r.reads, "copy", kvs, lastOf (rs.take i), rfl, s5 _ _ (s4 _ _ h3), s5 _ _ hd3, own, by omega, fun H5 l2 u2 s6 f2 e2 w2 => ?_⟩
  have n1 := byOf_len (lastOf (rs.take i)) "card" r.owns
  have n2 := byOf_len (lastOf (rs.take i)) "copy" r.reads
  refine ⟨l1, l2, u1, u2, rfl, rfl, SqL.of (s6 _ _ e1), SqL.of e2, by rw [w1.len, w2.len]; omega, fun l3 f3 => ?_⟩
  have s36 := (s5.trans s6).trans (Same.new f3 (.lst (u1 ++ u2)))
  have w3 : RWs (upd H5 l3 (.lst (u1 ++ u2))) (u1 ++ u2) (cardWaits (rs.take i) r) := (RWs.app w2 (w1.same s6)).same (Same.new f3 _)
  have e3 : (upd H5 l3 (.lst (u1 ++ u2))) l3 = some (.lst (u1 ++ u2)) := upd_same
  have n3 : l3 ≠ lw := fun z => by rw [z, (s5.trans s6) _ _ hw3] at f3; cases f3
  generalize upd H5 l3 (.lst (u1 ++ u2)) = H6 at s36 w3 e3 ⊢
  have hw6 := s36 _ _ hw3
  have hd6 := s36 _ _ hd3
  have nd : d ≠ lw := fun z => by rw [z, hw6] at hd6; cases hd6
  have wl := hrw.len
  rw [allCardWaits_len rs i (by omega)] at wl
  refine ⟨lw, ws, _, rfl, rfl, hw6, by omega, ?_⟩
  have s7 : Same H (upd H6 lw (.lst (ws ++ [.ref l3]))) := Same.over (s4.trans s36) flw
  have hw7 : (upd H6 lw (.lst (ws ++ [.ref l3]))) lw = some (.lst (ws ++ [.ref l3])) := upd_same
  have hd7 : (upd H6 lw (.lst (ws ++ [.ref l3]))) d = some (.dK kvs) := by rw [upd_ne nd]; exact hd6
  have nel' : ∀ v ∈ ws ++ [V.ref l3], v ≠ .ref lw := fun v hv => by
   rcases List.mem_append.mp hv with q | q
   ·exact nel v q
   ·rw [List.mem_singleton.mp q]
    exact fun z => n3 (V.ref.inj z)
  have rw7 : RWL (upd H6 lw (.lst (ws ++ [.ref l3]))) (ws ++ [.ref l3]) (allCardWaits rs (i + 1)) := by
   rw [allCardWaits, hr']
   exact ((hrw3.same s36).snoc e3 w3).off hw6 nel'
  generalize upd H6 lw (.lst (ws ++ [.ref l3])) = H7 at s7 hw7 hd7 rw7 ⊢
  refine ⟨_, rfl, px, _, _, _, rfl, rfl, SqT.of (s7 _ _ h1), rfl, ?_⟩
  refine ⟨po, rfl, ⟨_, SqT.of (s7 _ _ h2)⟩, ?_⟩
  refine for_tup (K := K) (a := po) (xs := r.owns.map V.str) (fun j σ H8 => ∃ v5 kvs', σ = [some (.ref l), some (.ref d), some (.ref lw), some (.int i), some (.ref px), v5] /\ Same H H8 /\ H8 d = some (.dK kvs') /\ H8 lw = some (.lst (ws ++ [.ref l3])) /\ RWL H8 (ws ++ [.ref l3]) (allCardWaits rs (i + 1)) /\ Owned kvs' (owning (lastOf (rs.take i)) i (r.owns.take j)) /\ kvs'.length <= kvs.length + j) ⟨_, kvs, rfl, s7, hd7, hw7, rw7, fun c => by rw [own c]; rfl, Nat.le_refl _⟩ ?_ ?_ ?_
  ·rintro j σ H8 _ ⟨_, _, _, s8, _⟩
   exact SqT.of (s8 _ _ h2)
  ·rintro j x σ H8 hx ⟨v5, kvs', rfl, s8, hd8, hw8, rw8, own8, kl8⟩
   rw [List.getElem?_map] at hx
   cases e : r.owns[j]? with
   | none => rw [e] at hx; cases hx
   | some c =>
    rw [e] at hx
    obtain rfl : V.str c = x := Option.some.inj hx
    have jl := (List.getElem?_eq_some_iff.mp e).1
    refine ⟨_, rfl, _, rfl, _, rfl, d, _, rfl, DPut.k (k := .inr c) hd8 (by omega), ?_⟩
    refine ⟨_, _, rfl, Same.over s8 hd, upd_same, ?_, rw8.offD hd8, ?_, ?_⟩
    ·rw [upd_ne (Ne.symm nd)]
     exact hw8
    ·rw [List.take_add_one, e]
     exact own8.put
    ·have := length_putK kvs' (.inr c) (.int i)
     omega
  ·rintro σ H8 ⟨v5, kvs', rfl, s8, hd8, hw8, rw8, own8, kl8⟩
   rw [List.length_map] at own8 kl8
   rw [List.take_length] at own8
   refine ⟨_, _, _, kvs', _, rfl, s8, hd8, hw8, rw8, nel', fun c => ?_, by omega⟩
   rw [own8 c, List.take_add_one, hr']
   show _ = Option.map V.int (lastOf (rs.take i ++ [r]) c)
   rw [lastOf_snoc, List.length_take, Nat.min_eq_left (by omega)]
   rfl
 ·rintro σ H2 ⟨v3, v4, v5, kvs, ws, rfl, s3, hd2, hw2, hrw, nel, own, kl⟩
  rw [hrs.len] at hrw
  exact ⟨_, rfl, k _ _ _ s3 flw hw2 hrw⟩
theorem ok_numbers_by_store (T : Tx P w K mg a) : FnOk P w K mg base CX0 1 a.numbers_by_store a.fd_numbers_by_store ["deeds", "place"] sp_numbers_by_store := by
 refine T.F_numbers_by_store.ok sc_numbers_by_store (fun vs H Q E h => ?_) (fun cdv A outer s H vs Q E hr h => ?_)
 ·obtain ⟨_, _, _, _, _, rfl, _⟩ := h
  rfl
 obtain ⟨l, us, rs, pl, f, rfl, hl, hrs, hlen, hf, k⟩ := h
 refine ⟨_, (pss_cons (ps_set (i := 2) sc_numbers_by_store.nd rfl (Or.inl rfl) pe_dnewK)
   (pss_cons (ps_for PassesOwn.never rfl (pi_enum rfl T.z_enumerate (pa_cons (pq 0) pa_nil)) (pg_tup rfl (pgs_cons (pg_name (i := 3) sc_numbers_by_store.nd rfl (Or.inl rfl)) (pgs_cons (pg_name (i := 4) sc_numbers_by_store.nd rfl (Or.inl rfl)) pgs_nil)))
   (pss_one (ps_if (pt_cmpQ qo_notN (pe_ix qx_tup (pq 4) (pq 1) (fun _ _ => rfl)) pe_non (nomark _)) (pss_one (ps_expr (pe_bmQ PySem.F.plainAttrs_list PySem.F.slot_list_append PySem.F.type_list_append qm_append (pe_dsetd (pq 2) (pe_ix qx_tup (pq 4) (pq 1) (fun _ _ => rfl)) (pe_lstQ pa_nil) ⟨rfl, rfl, rfl, rfl⟩) (pa_cons (pq 3) pa_nil)))) pss_nil)))
   (pss_one (ps_ret (pq 2))))), ?_⟩
 have big : (4000000 : Nat) < sizeLine := by decide
 intro d hd
 have s1 : Same H (upd H d (.dK [])) := Same.new hd _
 refine ⟨_, rfl, l, us, rfl, SqL.of (s1 _ _ hl), ?_⟩
 refine for_enum (K := K) (l := l) (xs := us) (fun i σ H2 => ∃ v3 v4 kvs, σ = [some (.ref l), some (.int pl), some (.ref d), v3, v4] /\ Same H H2 /\ H2 d = some (.dK kvs) /\ RN H2 kvs (numsOf f (rs.take i)) /\ (∀ (q : Str) (p : Addr), valV kvs (.inr q) = some (.ref p) -> H p = none) /\ kvs.length <= i) ⟨_, _, [], rfl, s1, upd_same, ⟨fun q => .inl ⟨rfl, rfl⟩, fun _ _ _ h => nomatch h⟩, (fun _ _ h => nomatch h), Nat.le_refl _⟩ ?_ ?_ ?_
 ·rintro i σ H2 ⟨_, _, _, _, s3, _⟩
  exact SqL.of (s3 _ _ hl)
 ·rintro i x σ H2 pt hx ⟨v3, v4, kvs, rfl, s3, hd2, rn, fr, kl⟩ hpt
  obtain ⟨r, hr', px, po, pr, rfl, h1, h2, h3⟩ := hrs.at i x hx
  have lt : i < rs.length := (List.getElem?_eq_some_iff.mp hr').1
  have st : Same H2 (upd H2 pt (.tup [.int i, .ref px])) := Same.new hpt _
  have hpt3 : (upd H2 pt (.tup [.int i, .ref px])) pt = some (.tup [.int i, .ref px]) := upd_same
  have s4 := s3.trans st
  have hd3 := st _ _ hd2
  have rn3 := rn.same st
  generalize upd H2 pt (.tup [.int i, .ref px]) = H3 at s4 hd3 rn3 hpt3 ⊢
  have tk : rs.take (i + 1) = rs.take i ++ [r] := by rw [List.take_add_one, hr']; rfl
  have il : (rs.take i).length = i := by rw [List.length_take]; omega
  have hat : atI [V.str r.kind, .ref po, .ref pr, optV r.into, optV r.outof] pl = some (optV (f r)) := by
   rcases hf with ⟨rfl, rfl⟩ | ⟨rfl, rfl⟩ <;> rfl
  have ns := numsOf_snoc f (rs.take i) r
  rw [il] at ns
  refine ⟨pt, _, rfl, SqT.of hpt3, rfl, _, _, rfl, _, _, rfl, rfl, ?_⟩
  refine ⟨_, rfl, _, rfl, px, _, pl, _, rfl, rfl, SqT.of (s4 _ _ h1), hat, ?_⟩
  cases ef : f r with
  | none =>
   refine ⟨rfl, _, rfl, ifNo rfl ?_⟩
   refine ⟨_, _, kvs, rfl, s4, hd3, rn3.eq fun q => ?_, fr, by omega⟩
   rw [tk, ns, ef]
   simp
  | some q =>
   refine ⟨rfl, _, rfl, ifYes rfl ?_⟩
   have e1 : numsOf f (rs.take (i + 1)) q = numsOf f (rs.take i) q ++ [(i : Int)] := by rw [tk, ns, ef, if_pos rfl]
   have e2 : ∀ q', q' ≠ q -> numsOf f (rs.take (i + 1)) q' = numsOf f (rs.take i) q' := fun q' z => by rw [tk, ns, ef, if_neg (fun y => z (Option.some.inj y).symm), List.append_nil]
   refine ⟨_, rfl, d, rfl, .inl ⟨kvs, .inl hd3⟩, ?_⟩
   refine ⟨_, rfl, _, rfl, px, _, pl, _, rfl, rfl, SqT.of (s4 _ _ h1), hat, ?_⟩
   rw [ef]
   refine ⟨Nat.zero_le _, fun l0 f0 => ?_⟩
   have s5 : Same H3 (upd H3 l0 (.lst [])) := Same.new f0 _
   refine ⟨kvs, .inr q, s5 _ _ hd3, rfl, by omega, fun v hv => ?_, fun hv => ?_⟩
   ·rcases rn3.at_ q with ⟨b, _⟩ | ⟨p, b, c⟩
    ·rw [b] at hv; cases hv
    ·rw [b] at hv
     cases hv
     have nl := numsOf_len f (rs.take i) q
     rw [il] at nl
     refine ⟨.inl ⟨rfl, _, SqL.of (s5 _ _ c)⟩, _, rfl, p, _, _, rfl, rfl, s5 _ _ c, by rw [List.length_map]; omega, ?_⟩
     have np : p ≠ d := fun y => by rw [y, hd3] at c; cases c
     refine ⟨_, _, kvs, rfl, Same.over (s4.trans s5) (fr q p b), ?_, (rn3.same s5).old b e1 e2, fr, by omega⟩
     rw [upd_ne (Ne.symm np)]
     exact s5 _ _ hd3
   ·have nl0 : l0 ≠ d := fun y => by rw [y, hd3] at f0; cases f0
    have h0 : (upd (upd H3 l0 (.lst [])) d (.dK (putK kvs (.inr q) (.ref l0)))) l0 = some (.lst []) := by rw [upd_ne nl0]; exact upd_same
    refine ⟨.inl ⟨rfl, _, SqL.of h0⟩, _, rfl, l0, _, _, rfl, rfl, h0, by show 0 < sizeLine; decide, ?_⟩
    have m0 : numsOf f (rs.take i) q = [] := by
     rcases rn3.at_ q with ⟨_, b⟩ | ⟨p, b, _⟩
     ·exact b
     ·rw [b] at hv; cases hv
    rw [m0] at e1
    have kp := length_putK kvs (.inr q) (.ref l0)
    refine ⟨_, _, _, rfl, Same.over (Same.over (s4.trans s5) hd) (s4.free f0), ?_, rn3.new hd3 f0 hv e1 e2, fun q' p hp => ?_, by omega⟩
    ·rw [upd_ne (Ne.symm nl0)]
     exact upd_same
    ·rw [valV_put] at hp
     split at hp
     ·cases hp
      exact s4.free f0
     ·exact fr q' p hp
 ·rintro σ H2 ⟨v3, v4, kvs, rfl, s3, hd2, rn, fr, kl⟩
  rw [hrs.len, List.take_length] at rn
  exact ⟨_, rfl, k _ _ _ s3 hd2 rn fr⟩
theorem ok_waits_behind (T : Tx P w K mg a) : FnOk P w K mg base CX0 2 a.waits_behind a.fd_waits_behind ["waits_by_cards", "deeds", "stores"] sp_waits_behind := by
 refine T.F_waits_behind.ok sc_waits_behind (fun vs H Q E h => ?_) (fun cdv A outer s H vs Q E hr h => ?_)
 ·obtain ⟨_, _, _, _, _, _, _, _, _, rfl, _⟩ := h
  rfl
 obtain ⟨lc, l, ls, ws, us, sv, W, rs, ss, rfl, hlc, hws, wlen, sm, hl, hrs, hlen, hls, hsv, slen, spos, k⟩ := h
 refine ⟨_, (pss_cons (ps_setcomp (i := 3) sc_waits_behind.nd rfl (Or.inl rfl) (k := 1) (Nc := ["row"]) (js := []) (show CompSc (defScope s_waits_behind) ["waits_by_cards", "deeds", "stores", "waits", "puts_by_store", "gets_by_store", "store", "length", "puts", "gets", "put", "get", "count", "awaited"] _ 1 ["row"] [] from CompSc.mk rfl (by decide +kernel) (by decide +kernel) (by decide +kernel) rfl (by decide +kernel)) rfl (pi_list (pq 0)) (fun _ _ _ _ _ => (pg_name (i := 0) (show List.Nodup (["row"] : List Str) from by decide +kernel) rfl (Or.inl rfl))) (fun _ _ _ _ _ => pts_nil) (fun _ _ _ _ _ => (pe_callTy (qc_listK (K := K) rfl) rfl T.z_list PyProof.Rows.Boot.«list» (pa_cons (pq 0) pa_nil))))
   (pss_cons (ps_set (i := 4) sc_waits_behind.nd rfl (Or.inl rfl) (pe_call (ok_numbers_by_store T) (hr.mono (by decide)) rfl T.m_numbers_by_store T.F_numbers_by_store.kp T.b_numbers_by_store .nil pass0 (pa_cons (pq 1) (pa_cons (pe_glob rfl T.c_INTO T.r_INTO) pa_nil))))
   (pss_cons (ps_set (i := 5) sc_waits_behind.nd rfl (Or.inl rfl) (pe_call (ok_numbers_by_store T) (hr.mono (by decide)) rfl T.m_numbers_by_store T.F_numbers_by_store.kp T.b_numbers_by_store .nil pass0 (pa_cons (pq 1) (pa_cons (pe_glob rfl T.c_OUT_OF T.r_OUT_OF) pa_nil))))
   (pss_cons (ps_for PassesOwn.never rfl (pi_list (pq 2)) (pg_tup rfl (pgs_cons (pg_name (i := 6) sc_waits_behind.nd rfl (Or.inl rfl)) (pgs_cons (pg_name (i := 7) sc_waits_behind.nd rfl (Or.inl rfl)) pgs_nil)))
   (pss_cons (ps_set (i := 8) sc_waits_behind.nd rfl (Or.inl rfl) (pe_dget2 hr.one (pq 4) (pq 6) (pe_lstQ pa_nil) ⟨rfl, rfl, rfl, rfl⟩))
   (pss_cons (ps_set (i := 9) sc_waits_behind.nd rfl (Or.inl rfl) (pe_dget2 hr.one (pq 5) (pq 6) (pe_lstQ pa_nil) ⟨rfl, rfl, rfl, rfl⟩))
   (pss_cons (ps_for PassesOwn.never rfl (pi_zip rfl T.z_zip (pa_cons (pq 8) (pa_cons (pq 9) pa_nil))) (pg_tup rfl (pgs_cons (pg_name (i := 10) sc_waits_behind.nd rfl (Or.inl rfl)) (pgs_cons (pg_name (i := 11) sc_waits_behind.nd rfl (Or.inl rfl)) pgs_nil)))
   (pss_one (ps_expr (pe_bmQ PySem.F.plainAttrs_list PySem.F.slot_list_append PySem.F.type_list_append qm_append (pe_ix qx_list (pq 3) (pq 11) (fun _ _ => rfl)) (pa_cons (pe_tupQ (pa_cons (pq 10) (pa_cons pe_str (pa_cons (pq 6) pa_nil)))) pa_nil)))))
   (pss_one (ps_for PassesOwn.never rfl (pi_enum rfl T.z_enumerate (pa_cons (pe_slice sl_list (pq 8) (po_some (pq 7)) po_none) pa_nil)) (pg_tup rfl (pgs_cons (pg_name (i := 12) sc_waits_behind.nd rfl (Or.inl rfl)) (pgs_cons (pg_name (i := 10) sc_waits_behind.nd rfl (Or.inl rfl)) pgs_nil)))
   (pss_cons (ps_set (i := 13) sc_waits_behind.nd rfl (Or.inl rfl) (pe_ifExp (pt_cmpQ qi_lt (pq 12) (pe_callB qc_len rfl T.z_len PySem.boot_len (pa_cons (pq 9) pa_nil)) (nomark _)) (pe_ix qx_list (pq 9) (pq 12) (fun _ _ => rfl)) (pe_op qi_sub (pe_callB qc_len rfl T.z_len PySem.boot_len (pa_cons (pq 1) pa_nil)) pe_int)))
   (pss_one (ps_expr (pe_bmQ PySem.F.plainAttrs_list PySem.F.slot_list_append PySem.F.type_list_append qm_append (pe_ix qx_list (pq 3) (pq 10) (fun _ _ => rfl)) (pa_cons (pe_tupQ (pa_cons (pq 13) (pa_cons pe_str (pa_cons (pq 6) pa_nil)))) pa_nil)))))))))))
   (pss_one (ps_ret (pq 3))))))), ?_⟩
 have big : (4000000 : Nat) < sizeLine := by decide
 have wl := hws.len
 refine ⟨_, rfl, lc, rfl, ⟨_, SqL.of hlc⟩, ?_⟩
 refine comp_list0 (xs := ws) (fun i ys σ H2 => (∃ v, σ = [v]) /\ Same H H2 /\ ∃ as, ys = as.map V.ref /\ RWM H2 as (W.take i) /\ ∀ p ∈ as, H p = none) ⟨⟨none, rfl⟩, Same.refl _, [], rfl, ⟨List.nodup_nil, rfl, fun i p es h => by simp at h⟩, fun p hp => nomatch hp⟩ ?_ (by omega) ?_ ?_ ?_
 ·rintro i ys σ H2 hi ⟨_, _, as, rfl, rm, _⟩
  rw [List.length_map, rm.len, List.length_take]
  omega
 ·rintro i ys σ H2 ⟨_, s2, _⟩
  exact SqL.of (s2 _ _ hlc)
 ·rintro i x ys σ H2 hx ⟨⟨v, rfl⟩, s2, as, rfl, rm, fr⟩
  obtain ⟨p, us', es, rfl, h1, h2, h3⟩ := hws.at i x hx
  refine ⟨_, rfl, p, us', rfl, .inl (SqL.of (s2 _ _ h1)), fun q hq => ?_⟩
  refine ⟨⟨_, rfl⟩, s2.trans (Same.new hq _), as ++ [q], by simp, ?_, fun p' hp' => ?_⟩
  ·rw [List.take_add_one, h3]
   exact rm.push hq (h2.same s2)
  ·rcases List.mem_append.mp hp' with m | m
   ·exact fr p' m
   ·rw [List.mem_singleton.mp m]
    exact s2.free hq
 rintro ys σ2 H2 ⟨_, s2, as, rfl, rm, fr⟩ lw hlw
 rw [wl, List.take_length] at rm
 have s3 : Same H2 (upd H2 lw (.lst (as.map V.ref))) := Same.new hlw _
 have hw3 : (upd H2 lw (.lst (as.map V.ref))) lw = some (.lst (as.map V.ref)) := upd_same
 have flw : H lw = none := s2.free hlw
 have nlw : lw ∉ as := fun m => by
  obtain ⟨u, e⟩ := rm.there m
  rw [hlw] at e
  cases e
 have rm3 := rm.same s3
 have sH3 := s2.trans s3
 generalize upd H2 lw (.lst (as.map V.ref)) = H3 at s3 hw3 rm3 sH3 ⊢
 refine ⟨_, rfl, l, us, rs, 3, Row.into, rfl, sH3 _ _ hl, hrs.same sH3, hlen, .inl ⟨rfl, rfl⟩, fun H4 dp kvs1 s4 hdp rn1 fr1 => ?_⟩
 refine ⟨_, rfl, l, us, rs, 4, Row.outof, rfl, s4 _ _ (sH3 _ _ hl), (hrs.same sH3).same s4, hlen, .inr ⟨rfl, rfl⟩, fun H5 dg kvs2 s5 hdg rn2 fr2 => ?_⟩
 have s35 := s4.trans s5
 have rm5 := rm3.same s35
 have sm5 := sm
 have SH : Same H (cutH as H5) := cutH_over (sH3.trans s35) fr
 have kw5 : cutH as H5 lw = some (.lst (as.map V.ref)) := cutH_at (s35 _ _ hw3) nlw
 have ndk : ∀ (p : Addr) (kvs : List (Key × V)), H5 p = some (.dK kvs) -> p ∉ as := fun p kvs hp m => by
  obtain ⟨u, e⟩ := rm5.there m
  rw [hp] at e
  cases e
 have kp5 : cutH as H5 dp = some (.dK kvs1) := cutH_at (s5 _ _ hdp) (ndk _ _ (s5 _ _ hdp))
 have kg5 : cutH as H5 dg = some (.dK kvs2) := cutH_at hdg (ndk _ _ hdg)
 have nin : ∀ p, H3 p = none -> p ∉ as := fun p hp m => by
  obtain ⟨u, e⟩ := rm3.there m
  rw [hp] at e
  cases e
 have rp5 : RN (cutH as H5) kvs1 (numsOf Row.into rs) := (rn1.same s5).cut fun q p h => nin p (fr1 q p h)
 have rg5 : RN (cutH as H5) kvs2 (numsOf Row.outof rs) := rn2.cut fun q p h => nin p (s4.free (fr2 q p h))
 have off : ∀ p ∈ as, cutH as H5 p = none := fun p m => cutH_no m
 have sB5 : Same (cutH as H5) H5 := cutH_same as H5
 generalize cutH as H5 = Hb at SH kw5 kp5 kg5 rp5 rg5 off sB5
 refine ⟨_, rfl, ls, rfl, ⟨_, SqL.of (sB5 _ _ (SH _ _ hls))⟩, ?_⟩
 refine for_list (K := K) (a := ls) (xs := sv) (fun j σ H6 => ∃ v6 v7 v8 v9 v10 v11 v12 v13, σ = [some (.ref lc), some (.ref l), some (.ref ls), some (.ref lw), some (.ref dp), some (.ref dg), v6, v7, v8, v9, v10, v11, v12, v13] /\ Same Hb H6 /\ RWM H6 as (behindUp rs ss W j) /\ Sm (behindUp rs ss W j) (8000 + 2000 * j)) ⟨_, _, _, _, _, _, _, _, rfl, sB5, rm5, sm5⟩ ?_ ?_ ?_
 ·rintro j σ H6 _ ⟨_, _, _, _, _, _, _, _, _, s6, _⟩
  exact SqL.of (s6 _ _ (SH _ _ hls))
 ·rintro j x σ H6 hx ⟨v6, v7, v8, v9, v10, v11, v12, v13, rfl, s6, rm6, sm6⟩
  obtain ⟨ps, q, n, rfl, hs, hps⟩ := hsv.at j x hx
  have n0 : 0 <= n := spos _ (List.mem_of_getElem? hs)
  have jl := (List.getElem?_eq_some_iff.mp hs).1
  refine ⟨ps, _, rfl, SqT.of (s6 _ _ (SH _ _ hps)), rfl, _, _, rfl, _, _, rfl, rfl, ?_⟩
  refine ⟨_, rfl, dp, rfl, .inl ⟨kvs1, .inl (s6 _ _ kp5)⟩, _, rfl, Nat.zero_le _, fun l1 f1 => ?_⟩
  have t7 : Same H6 (upd H6 l1 (.lst [])) := Same.new f1 _
  have g1 : (upd H6 l1 (.lst [])) l1 = some (.lst []) := upd_same
  generalize upd H6 l1 (.lst []) = H7 at t7 g1 ⊢
  refine ⟨_, DGet.k (k := .inr q) (t7 _ _ (s6 _ _ kp5)), ?_⟩
  have gone : ∀ (x : Addr), H6 x = none -> x ∉ as := fun x hx m => by
   obtain ⟨u, e⟩ := rm6.there m
   rw [hx] at e
   cases e
  have held : ∀ (x : Addr) (o : HO), Hb x = some o -> x ∉ as := fun x o hx m => by
   rw [off x m] at hx
   cases hx
  obtain ⟨pp, e1, h1, n1⟩ : ∃ pp, (valV kvs1 (.inr q)).getD (.ref l1) = .ref pp /\ H7 pp = some (.lst ((numsOf Row.into rs q).map V.int)) /\ pp ∉ as := by
   rcases rp5.at_ q with ⟨b, c⟩ | ⟨p, b, c⟩
   ·rw [b, c]
    exact ⟨l1, rfl, g1, gone _ f1⟩
   ·rw [b]
    exact ⟨p, rfl, t7 _ _ (s6 _ _ c), held _ _ c⟩
  rw [e1]
  refine ⟨_, rfl, dg, rfl, .inl ⟨kvs2, .inl (t7 _ _ (s6 _ _ kg5))⟩, _, rfl, Nat.zero_le _, fun l2 f2 => ?_⟩
  have t8 : Same H7 (upd H7 l2 (.lst [])) := Same.new f2 _
  have g2 : (upd H7 l2 (.lst [])) l2 = some (.lst []) := upd_same
  generalize upd H7 l2 (.lst []) = H8 at t8 g2 ⊢
  refine ⟨_, DGet.k (k := .inr q) (t8 _ _ (t7 _ _ (s6 _ _ kg5))), ?_⟩
  obtain ⟨gg, e2, h2, n2⟩ : ∃ gg, (valV kvs2 (.inr q)).getD (.ref l2) = .ref gg /\ H8 gg = some (.lst ((numsOf Row.outof rs q).map V.int)) /\ gg ∉ as := by
   rcases rg5.at_ q with ⟨b, c⟩ | ⟨p, b, c⟩
   ·rw [b, c]
    exact ⟨l2, rfl, g2, gone _ (t7.free f2)⟩
   ·rw [b]
    exact ⟨p, rfl, t8 _ _ (t7 _ _ (s6 _ _ c)), held _ _ c⟩
  rw [e2]
  have s8 := (s6.trans t7).trans t8
  have rm8 := rm6.same (t7.trans t8)
  have hs' : ss.getD j ("", 0) = (q, n) := by rw [List.getD_eq_getElem?_getD, hs]; rfl
  have fin : ∀ W', W' = behindOne rs (q, n) (behindUp rs ss W j) -> W' = behindUp rs ss W (j + 1) := fun W' e => by rw [e, behindUp, hs']
  have ml : ∀ (f : Row -> Option Str), (numsOf f rs q).length <= 1000 := fun f => Nat.le_trans (numsOf_len f rs q) hlen
  have mi := ml Row.into
  have mo := ml Row.outof
  have mem1 : ∀ (k : Nat) (x : Int), (numsOf Row.into rs q)[k]? = some x -> 0 <= x /\ x.toNat < as.length := fun k x hx => by
   obtain ⟨a1, a2, _⟩ := numsOf_mem hx
   exact ⟨a1, by rw [rm.len, wlen]; exact a2⟩
  have mem2 : ∀ (k : Nat) (x : Int), (numsOf Row.outof rs q)[k]? = some x -> 0 <= x /\ x.toNat < as.length := fun k x hx => by
   obtain ⟨a1, a2, _⟩ := numsOf_mem hx
   exact ⟨a1, by rw [rm.len, wlen]; exact a2⟩
  unfold behindOne at fin
  generalize behindUp rs ss W j = Wj at rm8 sm6 fin
  generalize numsOf Row.into rs q = ips at h1 fin mi mem1
  generalize numsOf Row.outof rs q = igs at h2 fin mo mem2
  have sC := cutH_same as H8
  have SC : Same Hb (cutH as H8) := cutH_over s8 off
  have kp8 : cutH as H8 pp = some (.lst (ips.map V.int)) := cutH_at (t8 _ _ h1) n1
  have kg8 : cutH as H8 gg = some (.lst (igs.map V.int)) := cutH_at h2 n2
  have offC : ∀ p ∈ as, cutH as H8 p = none := fun p m => cutH_no m
  generalize cutH as H8 = Hc at sC SC kp8 kg8 offC
  have step : ∀ (H9 : Hp) (Wk : List (List Wat)) (B : Nat) (g : Int), Same Hc H9 -> RWM H9 as Wk -> Sm Wk B -> B <= 300000 -> 0 <= g -> g.toNat < as.length -> ∃ p us, atI (as.map V.ref) g = some (.ref p) /\ p ∈ as /\ H9 p = some (.lst us) /\ us.length < sizeLine /\ ∀ (t : Addr) (e : Wat) (H10 : Hp), Same H9 H10 -> H10 t = some (watV e) -> RWM (upd H10 p (.lst (us ++ [.ref t]))) as (addAt Wk g.toNat e) /\ Same Hc (upd H10 p (.lst (us ++ [.ref t]))) := by
   intro H9 Wk B g s9 rm9 sm9 b9 g0 gl
   have hp : as[g.toNat]? = some as[g.toNat] := List.getElem?_eq_getElem gl
   have gw : g.toNat < Wk.length := by rw [<- rm9.len]; exact gl
   have hw : Wk[g.toNat]? = some Wk[g.toNat] := List.getElem?_eq_getElem gw
   obtain ⟨us', c, d⟩ := rm9.at_ _ _ _ hp hw
   have ll := sm9 _ _ hw
   refine ⟨as[g.toNat], us', atI_pos g0 (by rw [List.getElem?_map, hp]; rfl), List.getElem_mem gl, c, by rw [d.len]; omega, fun t e H10 s10 ht => ⟨(rm9.same s10).add hp (s10 _ _ c) ht, Same.over (s9.trans s10) (offC _ (List.getElem_mem gl))⟩⟩
  have kwC : Hc lw = some (.lst (as.map V.ref)) := SC _ _ kw5
  refine ⟨_, rfl, _, rfl, false, false, pp, gg, _, _, rfl, SqL.of (t8 _ _ h1), SqL.of h2, ?_⟩
  refine for_zip (K := K) (b1 := false) (b2 := false) (l1 := pp) (l2 := gg) (xs := ips.map V.int) (ys := igs.map V.int) (fun k σ H9 => ∃ v10 v11 v12 v13, σ = [some (.ref lc), some (.ref l), some (.ref ls), some (.ref lw), some (.ref dp), some (.ref dg), some (.str q), some (.int n), some (.ref pp), some (.ref gg), v10, v11, v12, v13] /\ Same Hc H9 /\ RWM H9 as (thingsW q ips igs Wj k) /\ Sm (thingsW q ips igs Wj k) (8000 + 2000 * j + k) /\ k <= 1000) ⟨_, _, _, _, rfl, sC, rm8, sm6, Nat.zero_le _⟩ ?_ ?_ ?_
  ·rintro k σ H9 ⟨_, _, _, _, _, s9, _⟩
   exact ⟨SqL.of (s9 _ _ kp8), SqL.of (s9 _ _ kg8)⟩
  ·rintro k x y σ H9 pt hx hy ⟨v10, v11, v12, v13, rfl, s9, rm9, sm9, kb⟩ hpt
   rw [List.getElem?_map] at hx hy
   cases ex : ips[k]? with
   | none => rw [ex] at hx; cases hx
   | some pv =>
   cases ey : igs[k]? with
   | none => rw [ey] at hy; cases hy
   | some gv =>
   rw [ex] at hx
   rw [ey] at hy
   obtain rfl : V.int pv = x := Option.some.inj hx
   obtain rfl : V.int gv = y := Option.some.inj hy
   obtain ⟨g0, gl⟩ := mem2 k gv ey
   have kl := (List.getElem?_eq_some_iff.mp ex).1
   obtain ⟨p, us', ea, _, hp, ul, add⟩ := step H9 _ _ gv s9 rm9 sm9 (by omega) g0 gl
   have tp : Same H9 (upd H9 pt (.tup [.int pv, .int gv])) := Same.new hpt _
   have hpt3 : (upd H9 pt (.tup [.int pv, .int gv])) pt = some (.tup [.int pv, .int gv]) := upd_same
   generalize upd H9 pt (.tup [.int pv, .int gv]) = H10 at tp hpt3 ⊢
   refine ⟨pt, _, rfl, SqT.of hpt3, rfl, _, _, rfl, _, _, rfl, rfl, ?_⟩
   refine ⟨_, rfl, _, rfl, lw, _, _, _, rfl, rfl, SqL.of (tp _ _ (s9 _ _ kwC)), ea, ?_⟩
   refine ⟨.inl ⟨rfl, _, SqL.of (tp _ _ hp)⟩, _, rfl, _, rfl, ln3, fun t ft => ?_⟩
   refine ⟨p, us', _, rfl, rfl, Same.new ft _ _ _ (tp _ _ hp), ul, ?_⟩
   obtain ⟨r1, r2⟩ := add t (pv, "thing", q) _ (tp.trans (Same.new ft _)) upd_same
   have et : thingsW q ips igs Wj (k + 1) = addAt (thingsW q ips igs Wj k) gv.toNat (pv, "thing", q) := by rw [thingsW, List.getD_eq_getElem?_getD, ey, List.getD_eq_getElem?_getD, ex]; rfl
   refine ⟨_, _, _, _, rfl, r2, by rw [et]; exact r1, by rw [et]; exact sm9.add, by omega⟩
  ·rintro σ H9 ⟨v10, v11, v12, v13, rfl, s9, rm9, sm9, kb⟩
   rw [List.length_map, List.length_map] at rm9 sm9
   generalize thingsW q ips igs Wj (min ips.length igs.length) = W9 at rm9 sm9 fin
   refine ⟨_, rfl, _, rfl, ?_⟩
   refine ⟨n, rfl, pp, _, rfl, SqL.of (s9 _ _ kp8), fun lx fx => ?_⟩
   rw [cut_ints ips n0]
   have nlx : lx ∉ as := fun m => by
    obtain ⟨u, e⟩ := rm9.there m
    rw [fx] at e
    cases e
   have tx : Same H9 (upd H9 lx (.lst ((ips.drop n.toNat).map V.int))) := Same.new fx _
   have hlx : (upd H9 lx (.lst ((ips.drop n.toNat).map V.int))) lx = some (.lst ((ips.drop n.toNat).map V.int)) := upd_same
   have mem3 : ∀ (k : Nat) (x : Int), (ips.drop n.toNat)[k]? = some x -> 0 <= x /\ x.toNat < as.length := fun k x hx => mem1 _ x (by rw [List.getElem?_drop] at hx; exact hx)
   have mc : (ips.drop n.toNat).length <= 1000 := by rw [List.length_drop]; omega
   generalize ips.drop n.toNat = ics at tx hlx mem3 mc fin ⊢
   have rmx := rm9.same tx
   have sx := s9.trans tx
   generalize upd H9 lx (.lst (ics.map V.int)) = Hx at tx hlx rmx sx ⊢
   refine ⟨lx, _, rfl, SqL.of hlx, ?_⟩
   refine for_enum (K := K) (l := lx) (xs := ics.map V.int) (fun k σ H10 => ∃ v10 v12 v13, σ = [some (.ref lc), some (.ref l), some (.ref ls), some (.ref lw), some (.ref dp), some (.ref dg), some (.str q), some (.int n), some (.ref pp), some (.ref gg), v10, v11, v12, v13] /\ Same Hc H10 /\ H10 lx = some (.lst (ics.map V.int)) /\ RWM H10 as (roomsW q rs.length ics igs W9 k) /\ Sm (roomsW q rs.length ics igs W9 k) (8000 + 2000 * j + 1000 + k) /\ k <= 1000) ⟨_, _, _, rfl, sx, hlx, rmx, sm9.mono (by omega), Nat.zero_le _⟩ ?_ ?_ ?_
   ·rintro k σ H10 ⟨_, _, _, _, _, h10, _⟩
    exact SqL.of h10
   ·rintro k x σ H10 pt hx ⟨v10, v12, v13, rfl, s10, hx10, rm10, sm10, kb⟩ hpt
    rw [List.getElem?_map] at hx
    cases ex : ics[k]? with
    | none => rw [ex] at hx; cases hx
    | some pv =>
    rw [ex] at hx
    obtain rfl : V.int pv = x := Option.some.inj hx
    obtain ⟨g0, gl⟩ := mem3 k pv ex
    have kl := (List.getElem?_eq_some_iff.mp ex).1
    obtain ⟨p, us', ea, pa, hp, ul, add⟩ := step H10 _ _ pv s10 rm10 sm10 (by omega) g0 gl
    have tp : Same H10 (upd H10 pt (.tup [.int k, .int pv])) := Same.new hpt _
    have hpt3 : (upd H10 pt (.tup [.int k, .int pv])) pt = some (.tup [.int k, .int pv]) := upd_same
    generalize upd H10 pt (.tup [.int k, .int pv]) = H11 at tp hpt3 ⊢
    refine ⟨pt, _, rfl, SqT.of hpt3, rfl, _, _, rfl, _, _, rfl, rfl, ?_⟩
    have gk : H11 gg = some (.lst (igs.map V.int)) := tp _ _ (s10 _ _ kg8)
    have lk : H11 l = some (.lst us) := tp _ _ (s10 _ _ (SC _ _ (SH _ _ hl)))
    have er : ∀ aw : Int, aw = awaited rs.length igs k -> roomsW q rs.length ics igs W9 (k + 1) = addAt (roomsW q rs.length ics igs W9 k) pv.toNat (aw, "room", q) := fun aw e => by rw [roomsW, List.getD_eq_getElem?_getD, ex, e]; rfl
    have ul2 := hrs.len
    have fin2 : ∀ (aw : Int) (t : Addr), H11 t = none -> aw = awaited rs.length igs k -> Same Hc (upd (upd H11 t (watV (aw, "room", q))) p (.lst (us' ++ [.ref t]))) /\ (upd (upd H11 t (watV (aw, "room", q))) p (.lst (us' ++ [.ref t]))) lx = some (.lst (ics.map V.int)) /\ RWM (upd (upd H11 t (watV (aw, "room", q))) p (.lst (us' ++ [.ref t]))) as (roomsW q rs.length ics igs W9 (k + 1)) /\ Sm (roomsW q rs.length ics igs W9 (k + 1)) (8000 + 2000 * j + 1000 + (k + 1)) := fun aw t ft e => by
     obtain ⟨r1, r2⟩ := add t (aw, "room", q) _ (tp.trans (Same.new ft _)) upd_same
     refine ⟨r2, ?_, by rw [er aw e]; exact r1, by rw [er aw e]; exact sm10.add⟩
     have npx : lx ≠ p := fun y => nlx (by rw [y]; exact pa)
     rw [upd_ne npx]
     exact Same.new ft _ _ _ (tp _ _ hx10)
    refine ⟨_, rfl, _, rfl, gg, _, rfl, .inl (SqL.of gk), _, _, rfl, rfl, _, rfl, ?_⟩
    rw [List.length_map]
    by_cases z : k < igs.length
    ·refine ifYes (decide_eq_true (by omega)) ?_
     refine ⟨_, rfl, _, rfl, gg, _, k, .int igs[k], rfl, rfl, SqL.of gk, atI_nat (by rw [List.getElem?_map, List.getElem?_eq_getElem z]; rfl), ?_⟩
     refine ⟨_, rfl, _, rfl, lw, _, _, _, rfl, rfl, SqL.of (tp _ _ (s10 _ _ kwC)), ea, .inl ⟨rfl, _, SqL.of (tp _ _ hp)⟩, _, rfl, _, rfl, ln3, fun t ft => ?_⟩
     refine ⟨p, us', _, rfl, rfl, Same.new ft _ _ _ (tp _ _ hp), ul, ?_⟩
     obtain ⟨a1, a2, a3, a4⟩ := fin2 igs[k] t ft (by unfold awaited; rw [if_pos z, List.getD_eq_getElem?_getD, List.getElem?_eq_getElem z]; rfl)
     exact ⟨_, _, _, rfl, a1, a2, a3, a4, by omega⟩
    ·refine ifNo (decide_eq_false (by omega)) ?_
     refine ⟨_, rfl, l, _, rfl, .inl (SqL.of lk), _, _, rfl, rfl, ?_⟩
     refine ⟨_, rfl, _, rfl, lw, _, _, _, rfl, rfl, SqL.of (tp _ _ (s10 _ _ kwC)), ea, .inl ⟨rfl, _, SqL.of (tp _ _ hp)⟩, _, rfl, _, rfl, ln3, fun t ft => ?_⟩
     refine ⟨p, us', _, rfl, rfl, Same.new ft _ _ _ (tp _ _ hp), ul, ?_⟩
     obtain ⟨a1, a2, a3, a4⟩ := fin2 ((us.length : Int) - 1) t ft (by unfold awaited; rw [if_neg z, ul2])
     exact ⟨_, _, _, rfl, a1, a2, a3, a4, by omega⟩
   ·rintro σ H10 ⟨v10, v12, v13, rfl, s10, hx10, rm10, sm10, kb⟩
    rw [List.length_map] at rm10 sm10
    have fe := fin _ rfl
    rw [fe] at rm10 sm10
    exact ⟨_, _, _, _, _, _, _, _, rfl, SC.trans s10, rm10, sm10.mono (by omega)⟩
 ·rintro σ H6 ⟨v6, v7, v8, v9, v10, v11, v12, v13, rfl, s6, rm6, sm6⟩
  rw [hsv.len] at rm6
  exact ⟨_, rfl, k _ _ _ (SH.trans s6) (s6 _ _ kw5) rm6.rwl⟩
theorem ok_waits_of (T : Tx P w K mg a) : FnOk P w K mg base CX0 3 a.waits_of a.fd_waits_of ["deeds", "stores"] sp_waits_of := by
 refine T.F_waits_of.ok sc_waits_of (fun vs H Q E h => ?_) (fun cdv A outer s H vs Q E hr h => ?_)
 ·obtain ⟨_, _, _, _, _, _, rfl, _⟩ := h
  rfl
 obtain ⟨l, ls, us, sv, rs, ss, rfl, hl, hrs, hlen, small, hls, hsv, slen, spos, k⟩ := h
 refine ⟨_, (pss_one (ps_ret (pe_call (ok_waits_behind T) (hr.mono (by decide)) rfl T.m_waits_behind T.F_waits_behind.kp T.b_waits_behind .nil pass0 (pa_cons (pe_call (ok_waits_for_cards T) (hr.mono (by decide)) rfl T.m_waits_for_cards T.F_waits_for_cards.kp T.b_waits_for_cards .nil pass0 (pa_cons (pq 0) pa_nil)) (pa_cons (pq 0) (pa_cons (pq 1) pa_nil)))))), ?_⟩
 refine ⟨_, rfl, l, us, rs, rfl, hl, hrs, hlen, small, fun H1 lw ws s1 _ hw rw1 => ?_⟩
 refine ⟨_, rfl, _, rfl, lw, l, ls, ws, us, sv, _, rs, ss, rfl, hw, rw1, allCardWaits_len rs _ (Nat.le_refl _), allCardWaits_sm small _, s1 _ _ hl, hrs.same s1, hlen, s1 _ _ hls, hsv.same s1, slen, spos, fun H2 l2 w2 s2 h2 r2 => ?_⟩
 exact k _ _ _ (s1.trans s2) h2 r2
theorem ok__law_owner (T : Tx P w K mg a) : FnOk P w K mg base CX0 1 a._law_owner a.fd__law_owner ["_law_deeds", "_law_at", "_law_card"] sp__law_owner := by
 refine T.F__law_owner.ok sc__law_owner (fun vs H Q E h => ?_) (fun cdv A outer s H vs Q E hr h => ?_)
 ·obtain ⟨_, _, _, _, _, rfl, _⟩ := h
  rfl
 obtain ⟨l, us, rs, i, c, rfl, hl, hrs, hi, hlen, k⟩ := h
 refine ⟨_, (pss_cons (ps_set (i := 3) sc__law_owner.nd rfl (Or.inl rfl) (pe_op qi_sub (pq 1) pe_int))
   (pss_cons (ps_while PassesOwn.never (pt_cmpQ qi_ge (pq 3) pe_int (nomark _)) (pss_cons (ps_if (pt_cmpQ op_in_seq (pq 2) (pe_ix qx_tup (pe_ix qx_list (pq 0) (pq 3) (fun _ _ => rfl)) pe_int (fun _ _ => rfl)) (by with_unfolding_all rfl)) (pss_one (ps_ret (pq 3))) pss_nil)
   (pss_one (ps_set (i := 3) sc__law_owner.nd rfl (Or.inl rfl) (pe_op qi_sub (pq 3) pe_int)))))
   (pss_one (ps_ret pe_non)))), ?_⟩
 refine ⟨_, rfl, _, _, rfl, rfl, ?_⟩
 refine ⟨fun m σ H2 => H2 = H /\ m <= i /\ σ = [some (.ref l), some (.int i), some (.str c), some (.int ((m : Int) - 1))] /\ lastOf (rs.take m) c = lastOf (rs.take i) c, ⟨i, rfl, Nat.le_refl _, rfl, rfl⟩, ?_⟩
 rintro m σ H2 ⟨rfl, hm, rfl, hlast⟩
 refine ⟨_, rfl, _, _, rfl, rfl, _, rfl, ?_⟩
 cases m with
 | zero =>
  refine ifNo (by decide) ?_
  rw [<- hlast] at k
  exact k
 | succ m =>
  refine ifYes (decide_eq_true (by omega)) ?_
  have lt : m < rs.length := by omega
  have ul := hrs.len
  obtain ⟨r, hr', px, po, pr, e0, h1, h2, h3⟩ := hrs.at m us[m] (List.getElem?_eq_getElem (by omega))
  have tk : rs.take (m + 1) = rs.take m ++ [r] := by rw [List.take_add_one, hr']; rfl
  have em : ((m + 1 : Nat) : Int) - 1 = (m : Int) := by omega
  rw [em]
  rw [tk, lastOf_snoc, List.length_take, Nat.min_eq_left (by omega)] at hlast
  refine ⟨fun σ' H' => H' = H2 /\ σ' = [some (.ref l), some (.int i), some (.str c), some (.int ((m : Int) - 1))] /\ lastOf (rs.take m) c = lastOf (rs.take i) c, fun σ' H' h => ⟨m, Nat.lt_succ_self _, h.1, by omega, h.2.1, h.2.2⟩, ?_⟩
  refine ⟨_, rfl, _, rfl, _, rfl, l, us, (m : Int), .ref px, rfl, rfl, SqL.of hl, atI_nat (by rw [List.getElem?_eq_getElem (by omega), e0]), ?_⟩
  refine ⟨px, _, 1, _, rfl, rfl, SqT.of h1, rfl, po, _, rfl, .inr (SqT.of h2), rfl, flat_strs _, _, rfl, ?_⟩
  by_cases z : c ∈ r.owns
  ·refine ifYes ((inV_strs c r.owns).trans (decide_eq_true z)) ?_
   rw [if_pos z] at hlast
   rw [<- hlast] at k
   exact ⟨_, rfl, k⟩
  ·refine ifNo ((inV_strs c r.owns).trans (decide_eq_false z)) ?_
   rw [if_neg z] at hlast
   exact ⟨_, rfl, _, _, rfl, rfl, rfl, rfl, hlast⟩
theorem comp_nums {H : Hp} {px l : Addr} {us xs : List V} {rs : List Row} {q : Str} {pl tl : Int} {f : Row -> Option Str} {m : Nat} {Fin : List V -> Hp -> Prop} {v : Option V} (hl : H l = some (.lst us)) (hrs : RRows H us rs) (hlen : rs.length <= 1000) (hf : (pl = 3 /\ f = Row.into) \/ (pl = 4 /\ f = Row.outof)) (hpx : H px = some (.tup xs)) (hq : atI xs tl = some (.str q)) (hm : m <= rs.length) (hd : Fin ((numsOf f (rs.take m) q).map V.int) H) :
  ∃ W : Nat -> Nat -> List V -> St -> Hp -> Prop, (∃ n, W 0 n [] [v, some (.ref px), some (.ref l)] H) /\ CompTurns (Itr 0 m) (gName 0) (qTest (tOp qEq (tOp (qIxT K) (tOp (qIxL K) (qVar 2) (qVar 0)) (tC (.int pl))) (tOp (qIxT K) (qVar 1) (tC (.int tl))))) (qVar 0) Fin W := by
 have big : (4000000 : Nat) < sizeLine := by decide
 have ul := hrs.len
 refine comp_range (fun k ys σ H2 => H2 = H /\ (∃ v, σ = [v, some (.ref px), some (.ref l)]) /\ ys = (numsOf f (rs.take k) q).map V.int) ⟨rfl, ⟨_, rfl⟩, rfl⟩ ?_ (by omega) ?_ ?_
 ·rintro k ys σ H2 _ ⟨_, _, rfl⟩
  have := numsOf_len f (rs.take k) q
  rw [List.length_take] at this
  rw [List.length_map]
  omega
 ·rintro k ys σ H2 lt ⟨rfl, ⟨v, rfl⟩, rfl⟩
  obtain ⟨r, hr', pk, po, pr, e0, h1, h2, h3⟩ := hrs.at k us[k] (List.getElem?_eq_getElem (by omega))
  have tk : rs.take (k + 1) = rs.take k ++ [r] := by rw [List.take_add_one, hr']; rfl
  have hat : atI [V.str r.kind, .ref po, .ref pr, optV r.into, optV r.outof] pl = some (optV (f r)) := by
   rcases hf with ⟨rfl, rfl⟩ | ⟨rfl, rfl⟩ <;> rfl
  have sc : scal (optV (f r)) (.str q) = true := by cases f r <;> rfl
  rw [tk, numsOf_snoc, List.length_take, Nat.min_eq_left (by omega)]
  refine ⟨_, rfl, _, rfl, l, us, (k : Int), .ref pk, rfl, rfl, SqL.of hl, atI_nat (by rw [List.getElem?_eq_getElem (by omega), e0]), pk, _, pl, _, rfl, rfl, SqT.of h1, hat, _, rfl, px, xs, tl, _, rfl, rfl, SqT.of hpx, hq, sc, _, rfl, ?_⟩
  by_cases z : f r = some q
  ·refine ifE (by rw [z]; rfl) ?_
   refine ⟨_, rfl, rfl, ⟨_, rfl⟩, ?_⟩
   rw [if_pos z, List.map_append]
   rfl
  ·refine ifN (fun y => z ?_) ?_
   ·cases e : f r with
    | none => rw [e] at y; cases y
    | some q' => rw [e] at y; cases y; rfl
   ·exact ⟨rfl, ⟨_, rfl⟩, by rw [if_neg z, List.append_nil]⟩
 ·rintro ys σ H2 ⟨rfl, _, rfl⟩
  exact hd
theorem ok__law_due (T : Tx P w K mg a) : FnOk P w K mg base CX0 2 a._law_due a.fd__law_due ["_law_deeds", "_law_lengths", "_law_at"] sp__law_due := by
 refine T.F__law_due.ok sc__law_due (fun vs H Q E h => ?_) (fun cdv A outer s H vs Q E hr h => ?_)
 ·obtain ⟨_, _, _, _, _, _, _, _, rfl, _⟩ := h
  rfl
 obtain ⟨l, d, us, rs, kvs, ln, i, r, rfl, hl, hrs, hlen, small, hd, hr', one, hln, hfed, k⟩ := h
 refine ⟨_, (pss_cons (ps_set (i := 3) sc__law_due.nd rfl (Or.inr rfl) (pe_ix qx_list (pq 0) (pq 2) (fun _ _ => rfl)))
   (pss_cons (ps_set (i := 4) sc__law_due.nd rfl (Or.inl rfl) (pe_lstQ pa_nil))
   (pss_cons (ps_for PassesOwn.never rfl (pi_tup (pe_ix qx_tup (pq 3) pe_int (fun _ _ => rfl))) (pg_name (i := 5) sc__law_due.nd rfl (Or.inl rfl))
   (pss_one (ps_if (pt_cmpQ qo_notN (pe_call (ok__law_owner T) (hr.mono (by decide)) rfl T.m__law_owner T.F__law_owner.kp T.b__law_owner .nil pass0 (pa_cons (pq 0) (pa_cons (pq 2) (pa_cons (pq 5) pa_nil)))) pe_non (nomark _)) (pss_one (ps_expr (pe_bmQ PySem.F.plainAttrs_list PySem.F.slot_list_append PySem.F.type_list_append qm_append (pq 4) (pa_cons (pe_tupQ (pa_cons (pe_call (ok__law_owner T) (hr.mono (by decide)) rfl T.m__law_owner T.F__law_owner.kp T.b__law_owner .nil pass0 (pa_cons (pq 0) (pa_cons (pq 2) (pa_cons (pq 5) pa_nil)))) (pa_cons pe_str (pa_cons (pq 5) pa_nil)))) pa_nil)))) pss_nil)))
   (pss_cons (ps_for PassesOwn.never rfl (pi_tup (pe_ix qx_tup (pq 3) pe_int (fun _ _ => rfl))) (pg_name (i := 5) sc__law_due.nd rfl (Or.inl rfl))
   (pss_one (ps_if (pt_cmpQ qo_notN (pe_call (ok__law_owner T) (hr.mono (by decide)) rfl T.m__law_owner T.F__law_owner.kp T.b__law_owner .nil pass0 (pa_cons (pq 0) (pa_cons (pq 2) (pa_cons (pq 5) pa_nil)))) pe_non (nomark _)) (pss_one (ps_expr (pe_bmQ PySem.F.plainAttrs_list PySem.F.slot_list_append PySem.F.type_list_append qm_append (pq 4) (pa_cons (pe_tupQ (pa_cons (pe_call (ok__law_owner T) (hr.mono (by decide)) rfl T.m__law_owner T.F__law_owner.kp T.b__law_owner .nil pass0 (pa_cons (pq 0) (pa_cons (pq 2) (pa_cons (pq 5) pa_nil)))) (pa_cons pe_str (pa_cons (pq 5) pa_nil)))) pa_nil)))) pss_nil)))
   (pss_cons (ps_if (pt_cmpQ qo_notN (pe_ix qx_tup (pq 3) pe_int (fun _ _ => rfl)) pe_non (nomark _)) (pss_cons (ps_setcomp (i := 6) sc__law_due.nd rfl (Or.inl rfl) (k := 1) (Nc := ["_law_k", "_law_row_here", "_law_deeds"]) (js := [3, 0]) (show CompSc (defScope s__law_due) ["_law_deeds", "_law_lengths", "_law_at", "_law_row_here", "_law_due_here", "_law_card", "_law_puts", "_law_gets", "_law_back"] _ 1 ["_law_k", "_law_row_here", "_law_deeds"] [3, 0] from CompSc.mk rfl (by decide +kernel) (by decide +kernel) (by decide +kernel) rfl (by decide +kernel)) rfl (pj_range1 rfl T.z_range (pa_cons (pe_callB qc_len rfl T.z_len PySem.boot_len (pa_cons (pq 0) pa_nil)) pa_nil)) (fun _ _ _ _ _ => (pg_name (i := 0) (show List.Nodup (["_law_k", "_law_row_here", "_law_deeds"] : List Str) from by decide +kernel) rfl (Or.inl rfl))) (fun _ _ _ _ _ => (pts_one (pt_cmpQ qo_eq (pe_ix (qx_tupK (K := K) rfl) (pe_ix (qx_listK (K := K) rfl) (pq 2) (pq 0) (fun _ _ => rfl)) pe_int (fun _ _ => rfl)) (pe_ix (qx_tupK (K := K) rfl) (pq 1) pe_int (fun _ _ => rfl)) (nomark _)))) (fun _ _ _ _ _ => (pq 0)))
   (pss_one (ps_expr (pe_bmQ PySem.F.plainAttrs_list PySem.F.slot_list_append PySem.F.type_list_append qm_append (pq 4) (pa_cons (pe_tupQ (pa_cons (pe_ix qx_list (pq 6) (pe_callB qc_len rfl T.z_len PySem.boot_len (pa_cons (pe_comp (k := 1) (Nc := ["_law_k", "_law_row_here", "_law_deeds"]) (js := [3, 0]) (show CompSc (defScope s__law_due) ["_law_deeds", "_law_lengths", "_law_at", "_law_row_here", "_law_due_here", "_law_card", "_law_puts", "_law_gets", "_law_back"] _ 1 ["_law_k", "_law_row_here", "_law_deeds"] [3, 0] from CompSc.mk rfl (by decide +kernel) (by decide +kernel) (by decide +kernel) rfl (by decide +kernel)) rfl (pj_range1 rfl T.z_range (pa_cons (pq 2) pa_nil)) (fun _ _ _ _ _ => (pg_name (i := 0) (show List.Nodup (["_law_k", "_law_row_here", "_law_deeds"] : List Str) from by decide +kernel) rfl (Or.inl rfl))) (fun _ _ _ _ _ => (pts_one (pt_cmpQ qo_eq (pe_ix (qx_tupK (K := K) rfl) (pe_ix (qx_listK (K := K) rfl) (pq 2) (pq 0) (fun _ _ => rfl)) pe_int (fun _ _ => rfl)) (pe_ix (qx_tupK (K := K) rfl) (pq 1) pe_int (fun _ _ => rfl)) (nomark _)))) (fun _ _ _ _ _ => (pq 0))) pa_nil)) (fun _ _ => rfl)) (pa_cons pe_str (pa_cons (pe_ix qx_tup (pq 3) pe_int (fun _ _ => rfl)) pa_nil)))) pa_nil))))) pss_nil)
   (pss_cons (ps_if (pt_cmpQ qo_notN (pe_ix qx_tup (pq 3) pe_int (fun _ _ => rfl)) pe_non (nomark _)) (pss_cons (ps_setcomp (i := 7) sc__law_due.nd rfl (Or.inl rfl) (k := 1) (Nc := ["_law_k", "_law_row_here", "_law_deeds"]) (js := [3, 0]) (show CompSc (defScope s__law_due) ["_law_deeds", "_law_lengths", "_law_at", "_law_row_here", "_law_due_here", "_law_card", "_law_puts", "_law_gets", "_law_back"] _ 1 ["_law_k", "_law_row_here", "_law_deeds"] [3, 0] from CompSc.mk rfl (by decide +kernel) (by decide +kernel) (by decide +kernel) rfl (by decide +kernel)) rfl (pj_range1 rfl T.z_range (pa_cons (pe_callB qc_len rfl T.z_len PySem.boot_len (pa_cons (pq 0) pa_nil)) pa_nil)) (fun _ _ _ _ _ => (pg_name (i := 0) (show List.Nodup (["_law_k", "_law_row_here", "_law_deeds"] : List Str) from by decide +kernel) rfl (Or.inl rfl))) (fun _ _ _ _ _ => (pts_one (pt_cmpQ qo_eq (pe_ix (qx_tupK (K := K) rfl) (pe_ix (qx_listK (K := K) rfl) (pq 2) (pq 0) (fun _ _ => rfl)) pe_int (fun _ _ => rfl)) (pe_ix (qx_tupK (K := K) rfl) (pq 1) pe_int (fun _ _ => rfl)) (nomark _)))) (fun _ _ _ _ _ => (pq 0)))
   (pss_cons (ps_set (i := 8) sc__law_due.nd rfl (Or.inl rfl) (pe_op qi_sub (pe_callB qc_len rfl T.z_len PySem.boot_len (pa_cons (pe_comp (k := 1) (Nc := ["_law_k", "_law_row_here", "_law_deeds"]) (js := [3, 0]) (show CompSc (defScope s__law_due) ["_law_deeds", "_law_lengths", "_law_at", "_law_row_here", "_law_due_here", "_law_card", "_law_puts", "_law_gets", "_law_back"] _ 1 ["_law_k", "_law_row_here", "_law_deeds"] [3, 0] from CompSc.mk rfl (by decide +kernel) (by decide +kernel) (by decide +kernel) rfl (by decide +kernel)) rfl (pj_range1 rfl T.z_range (pa_cons (pq 2) pa_nil)) (fun _ _ _ _ _ => (pg_name (i := 0) (show List.Nodup (["_law_k", "_law_row_here", "_law_deeds"] : List Str) from by decide +kernel) rfl (Or.inl rfl))) (fun _ _ _ _ _ => (pts_one (pt_cmpQ qo_eq (pe_ix (qx_tupK (K := K) rfl) (pe_ix (qx_listK (K := K) rfl) (pq 2) (pq 0) (fun _ _ => rfl)) pe_int (fun _ _ => rfl)) (pe_ix (qx_tupK (K := K) rfl) (pq 1) pe_int (fun _ _ => rfl)) (nomark _)))) (fun _ _ _ _ _ => (pq 0))) pa_nil)) (pe_dget hr.one (pq 1) (pe_ix qx_tup (pq 3) pe_int (fun _ _ => rfl)) (fun _ _ => rfl))))
   (pss_one (ps_if (pt_cmpQ qi_ge (pq 8) pe_int (nomark _)) (pss_one (ps_expr (pe_bmQ PySem.F.plainAttrs_list PySem.F.slot_list_append PySem.F.type_list_append qm_append (pq 4) (pa_cons (pe_tupQ (pa_cons (pe_ifExp (pt_cmpQ qi_lt (pq 8) (pe_callB qc_len rfl T.z_len PySem.boot_len (pa_cons (pq 7) pa_nil)) (nomark _)) (pe_ix qx_list (pq 7) (pq 8) (fun _ _ => rfl)) (pe_op qi_sub (pe_callB qc_len rfl T.z_len PySem.boot_len (pa_cons (pq 0) pa_nil)) pe_int)) (pa_cons pe_str (pa_cons (pe_ix qx_tup (pq 3) pe_int (fun _ _ => rfl)) pa_nil)))) pa_nil)))) pss_nil)))) pss_nil)
   (pss_one (ps_ret (pq 4))))))))), ?_⟩
 have big : (4000000 : Nat) < sizeLine := by decide
 have lt : i < rs.length := (List.getElem?_eq_some_iff.mp hr').1
 have ul := hrs.len
 obtain ⟨so, sr⟩ := small r (List.mem_of_getElem? hr')
 obtain ⟨r0, hr0, px, po, pr, e0, h1, h2, h3⟩ := hrs.at i us[i] (List.getElem?_eq_getElem (by omega))
 rw [hr'] at hr0
 cases hr0
 refine ⟨_, rfl, _, rfl, l, us, (i : Int), .ref px, rfl, rfl, SqL.of hl, atI_nat (by rw [List.getElem?_eq_getElem (by omega), e0]), ?_⟩
 refine ⟨Nat.zero_le _, fun ld fd => ?_⟩
 have s1 : Same H (upd H ld (.lst [])) := Same.new fd _
 refine ⟨_, rfl, px, _, 1, _, rfl, rfl, SqT.of (s1 _ _ h1), rfl, po, rfl, ⟨_, SqT.of (s1 _ _ h2)⟩, ?_⟩
 refine for_tup (K := K) (a := po) (xs := r.owns.map V.str) (fun j σ H2 => ∃ v5 v6 v7 v8 ys, σ = [some (.ref l), some (.ref d), some (.int i), some (.ref px), some (.ref ld), v5, v6, v7, v8] /\ Same H H2 /\ H2 ld = some (.lst ys) /\ RWs H2 ys (byOf (lastOf (rs.take i)) "card" (r.owns.take j))) ?h0 ?hl ?hs ?hd
 case hl =>
  rintro j σ H2 _ ⟨_, _, _, _, _, _, s2, _⟩
  exact SqT.of (s2 _ _ h2)
 case hs =>
  rintro j x σ H2 hx ⟨v5, v6, v7, v8, ys, rfl, s2, hld, w2⟩
  rw [List.getElem?_map] at hx
  cases e : r.owns[j]? with
  | none => rw [e] at hx; cases hx
  | some c =>
  rw [e] at hx
  obtain rfl : V.str c = x := Option.some.inj hx
  have jl := (List.getElem?_eq_some_iff.mp e).1
  have tk : r.owns.take (j + 1) = r.owns.take j ++ [c] := by rw [List.take_add_one, e]; rfl
  rw [tk, byOf_snoc]
  have yl := w2.len
  have b1 := byOf_len (lastOf (rs.take i)) "card" r.owns
  have b2 := byOf_len (lastOf (rs.take i)) "card" (r.owns.take j)
  rw [List.length_take] at b2
  refine ⟨_, rfl, _, rfl, _, rfl, l, us, rs, i, c, rfl, s2 _ _ hl, hrs.same s2, by omega, hlen, ?_⟩
  cases eo : lastOf (rs.take i) c with
  | none =>
   refine ⟨rfl, _, rfl, ifNo rfl ?_⟩
   refine ⟨_, _, _, _, ys, rfl, s2, hld, ?_⟩
   rw [Option.map_none, Option.toList_none, List.append_nil]
   exact w2
  | some n =>
   refine ⟨rfl, _, rfl, ifYes rfl ?_⟩
   refine ⟨_, rfl, .inl ⟨rfl, _, SqL.of hld⟩, ?_⟩
   refine ⟨_, rfl, _, rfl, _, rfl, l, us, rs, i, c, rfl, s2 _ _ hl, hrs.same s2, by omega, hlen, ?_⟩
   rw [eo]
   refine ⟨_, rfl, ln3, fun t ft => ?_⟩
   refine ⟨ld, ys, _, rfl, rfl, Same.new ft _ _ _ hld, by omega, ?_⟩
   refine ⟨_, _, _, _, _, rfl, Same.over (s2.trans (Same.new ft _)) fd, upd_same, ?_⟩
   have w3 := ((w2.same (Same.new ft (watV (n, "card", c)))).snoc (e := (n, "card", c)) upd_same).off (o := .lst (ys ++ [.ref t])) (Same.new ft _ _ _ hld)
   rw [Option.map_some, Option.toList_some]
   exact w3
 case h0 => exact ⟨_, _, _, _, [], rfl, s1, upd_same, .nil⟩
 case hd =>
 rintro σ H2 ⟨v5, v6, v7, v8, ys, rfl, s2, hld, w2⟩
 rw [List.length_map, List.take_length] at w2
 refine ⟨_, rfl, px, _, 2, _, rfl, rfl, SqT.of (s2 _ _ h1), rfl, pr, rfl, ⟨_, SqT.of (s2 _ _ h3)⟩, ?_⟩
 refine for_tup (K := K) (a := pr) (xs := r.reads.map V.str) (fun j σ H2 => ∃ v5 v6 v7 v8 ys, σ = [some (.ref l), some (.ref d), some (.int i), some (.ref px), some (.ref ld), v5, v6, v7, v8] /\ Same H H2 /\ H2 ld = some (.lst ys) /\ RWs H2 ys (byOf (lastOf (rs.take i)) "card" r.owns ++ byOf (lastOf (rs.take i)) "copy" (r.reads.take j))) ?h0 ?hl ?hs ?hd
 case hl =>
  rintro j σ H2 _ ⟨_, _, _, _, _, _, s2, _⟩
  exact SqT.of (s2 _ _ h3)
 case hs =>
  rintro j x σ H2 hx ⟨v5, v6, v7, v8, ys, rfl, s2, hld, w2⟩
  rw [List.getElem?_map] at hx
  cases e : r.reads[j]? with
  | none => rw [e] at hx; cases hx
  | some c =>
  rw [e] at hx
  obtain rfl : V.str c = x := Option.some.inj hx
  have jl := (List.getElem?_eq_some_iff.mp e).1
  have tk : r.reads.take (j + 1) = r.reads.take j ++ [c] := by rw [List.take_add_one, e]; rfl
  rw [tk, byOf_snoc]
  have yl := w2.len
  have b1 := byOf_len (lastOf (rs.take i)) "card" r.owns
  have b2 := byOf_len (lastOf (rs.take i)) "copy" (r.reads.take j)
  rw [List.length_take] at b2
  refine ⟨_, rfl, _, rfl, _, rfl, l, us, rs, i, c, rfl, s2 _ _ hl, hrs.same s2, by omega, hlen, ?_⟩
  cases eo : lastOf (rs.take i) c with
  | none =>
   refine ⟨rfl, _, rfl, ifNo rfl ?_⟩
   refine ⟨_, _, _, _, ys, rfl, s2, hld, ?_⟩
   rw [Option.map_none, Option.toList_none, List.append_nil]
   exact w2
  | some n =>
   refine ⟨rfl, _, rfl, ifYes rfl ?_⟩
   refine ⟨_, rfl, .inl ⟨rfl, _, SqL.of hld⟩, ?_⟩
   refine ⟨_, rfl, _, rfl, _, rfl, l, us, rs, i, c, rfl, s2 _ _ hl, hrs.same s2, by omega, hlen, ?_⟩
   rw [eo]
   refine ⟨_, rfl, ln3, fun t ft => ?_⟩
   refine ⟨ld, ys, _, rfl, rfl, Same.new ft _ _ _ hld, by rw [List.length_append] at yl; omega, ?_⟩
   refine ⟨_, _, _, _, _, rfl, Same.over (s2.trans (Same.new ft _)) fd, upd_same, ?_⟩
   have w3 := ((w2.same (Same.new ft (watV (n, "copy", c)))).snoc (e := (n, "copy", c)) upd_same).off (o := .lst (ys ++ [.ref t])) (Same.new ft _ _ _ hld)
   rw [Option.map_some, Option.toList_some, <- List.append_assoc]
   exact w3
 case h0 => exact ⟨_, _, _, _, ys, rfl, s2, hld, by simpa [byOf] using w2⟩
 case hd =>
 clear w2 hld s2
 rintro σ H3 ⟨v5, v6, v7, v8, ys, rfl, s3, hld, w3⟩
 rw [List.length_map, List.take_length] at w3
 have w3' : RWs H3 ys (cardWaits (rs.take i) r) := w3
 clear w3
 refine ⟨_, rfl, px, _, 4, _, rfl, rfl, SqT.of (s3 _ _ h1), rfl, ?_⟩
 have cw1 := byOf_len (lastOf (rs.take i)) "card" r.owns
 have cw2 := byOf_len (lastOf (rs.take i)) "copy" r.reads
 have cw : ys.length <= 8000 := by
  rw [w3'.len]
  unfold cardWaits
  rw [List.length_append]
  omega
 have il : (rs.take i).length = i := by rw [List.length_take]; omega
 cases eo : r.outof with
 | none =>
  refine ⟨rfl, _, rfl, ifNo rfl ?_⟩
  refine ⟨_, rfl, px, _, 3, _, rfl, rfl, SqT.of (s3 _ _ h1), rfl, ?_⟩
  cases ei : r.into with
  | none =>
   refine ⟨rfl, _, rfl, ifNo rfl ?_⟩
   refine ⟨_, rfl, k _ _ _ s3 fd hld ?_⟩
   have : dueV rs ln i r = cardWaits (rs.take i) r := by unfold dueV thingV roomV; rw [eo, ei]; simp
   rw [this]
   exact w3'
  | some q =>
   rw [eo, ei] at h1
   refine ⟨rfl, _, rfl, ifYes rfl ?_⟩
   refine ⟨_, rfl, l, _, rfl, .inl (SqL.of (s3 _ _ hl)), _, rfl, by omega, by omega, ?_⟩
   rw [ul, Int.toNat_natCast]
   refine comp_nums (f := Row.outof) (q := q) (s3 _ _ hl) (hrs.same s3) hlen (.inr ⟨rfl, rfl⟩) (s3 _ _ h1) rfl (Nat.le_refl _) ?_
   rw [List.take_length]
   intro lg fg
   have t4 : Same H3 (upd H3 lg (.lst ((numsOf Row.outof rs q).map V.int))) := Same.new fg _
   have hlg : (upd H3 lg (.lst ((numsOf Row.outof rs q).map V.int))) lg = some (.lst ((numsOf Row.outof rs q).map V.int)) := upd_same
   generalize upd H3 lg (.lst ((numsOf Row.outof rs q).map V.int)) = H4 at t4 hlg ⊢
   have s4 := s3.trans t4
   refine ⟨_, rfl, _, rfl, by omega, by omega, ?_⟩
   rw [Int.toNat_natCast]
   refine comp_nums (f := Row.into) (q := q) (s4 _ _ hl) (hrs.same s4) hlen (.inl ⟨rfl, rfl⟩) (s4 _ _ h1) rfl (by omega) ?_
   intro lb fb
   have t5 : Same H4 (upd H4 lb (.lst ((numsOf Row.into (rs.take i) q).map V.int))) := Same.new fb _
   have hlb : (upd H4 lb (.lst ((numsOf Row.into (rs.take i) q).map V.int))) lb = some (.lst ((numsOf Row.into (rs.take i) q).map V.int)) := upd_same
   generalize upd H4 lb (.lst ((numsOf Row.into (rs.take i) q).map V.int)) = H5 at t5 hlb ⊢
   have s5 := s4.trans t5
   have hv := hln q ei
   refine ⟨lb, _, rfl, .inl (SqL.of hlb), ?_⟩
   refine ⟨_, rfl, _, rfl, px, _, 3, _, rfl, rfl, SqT.of (s5 _ _ h1), rfl, d, .int (ln q), rfl, by have g := DGet.k (k := .inr q) (s5 _ _ hd); rw [hv] at g; exact g, _, _, rfl, rfl, ?_⟩
   rw [List.length_map]
   have eb : ((numsOf Row.into (rs.take i) q).length : Int) - ln q = backV rs (ln q) i q := rfl
   rw [eb]
   have ed : dueV rs ln i r = cardWaits (rs.take i) r ++ (if 0 <= backV rs (ln q) i q then ([(awaited rs.length (numsOf Row.outof rs q) (backV rs (ln q) i q).toNat, "room", q)] : List Wat) else []) := by unfold dueV thingV roomV; rw [eo, ei]; simp
   rw [ed] at k
   generalize backV rs (ln q) i q = bk at k ⊢
   have hg5 := t5 _ _ hlg
   have hd5 := t5 _ _ (t4 _ _ hld)
   have w5 := w3'.same (t4.trans t5)
   generalize numsOf Row.outof rs q = gs at k hg5
   refine ⟨_, rfl, _, _, rfl, rfl, _, rfl, ?_⟩
   by_cases z : 0 <= bk
   ·rw [if_pos z] at k
    refine ifYes (decide_eq_true z) ?_
    refine ⟨_, rfl, .inl ⟨rfl, _, SqL.of hd5⟩, ?_⟩
    refine ⟨_, rfl, _, rfl, lg, _, rfl, .inl (SqL.of hg5), _, _, rfl, rfl, _, rfl, ?_⟩
    rw [List.length_map]
    by_cases y : bk.toNat < gs.length
    ·refine ifYes (decide_eq_true (by omega)) ?_
     refine ⟨_, rfl, _, rfl, lg, _, bk, .int gs[bk.toNat], rfl, rfl, SqL.of hg5, atI_pos z (by rw [List.getElem?_map, List.getElem?_eq_getElem y]; rfl), ?_⟩
     refine ⟨_, rfl, px, _, 3, _, rfl, rfl, SqT.of (s5 _ _ h1), rfl, ln3, fun t ft => ?_⟩
     refine ⟨ld, ys, _, rfl, rfl, Same.new ft _ _ _ hd5, by omega, ?_⟩
     refine ⟨_, rfl, k _ _ _ (Same.over (s5.trans (Same.new ft _)) fd) fd upd_same ?_⟩
     have ea : awaited rs.length gs bk.toNat = gs[bk.toNat] := by unfold awaited; rw [if_pos y, List.getD_eq_getElem?_getD, List.getElem?_eq_getElem y]; rfl
     rw [ea]
     exact ((w5.same (Same.new ft _)).snoc (e := (gs[bk.toNat], "room", q)) upd_same).off (Same.new ft _ _ _ hd5)
    ·refine ifNo (decide_eq_false (by omega)) ?_
     refine ⟨_, rfl, l, _, rfl, .inl (SqL.of (s5 _ _ hl)), _, _, rfl, rfl, ?_⟩
     refine ⟨_, rfl, px, _, 3, _, rfl, rfl, SqT.of (s5 _ _ h1), rfl, ln3, fun t ft => ?_⟩
     refine ⟨ld, ys, _, rfl, rfl, Same.new ft _ _ _ hd5, by omega, ?_⟩
     refine ⟨_, rfl, k _ _ _ (Same.over (s5.trans (Same.new ft _)) fd) fd upd_same ?_⟩
     have ea : awaited rs.length gs bk.toNat = (us.length : Int) - 1 := by unfold awaited; rw [if_neg y, ul]
     rw [ea]
     exact ((w5.same (Same.new ft _)).snoc (e := ((us.length : Int) - 1, "room", q)) upd_same).off (Same.new ft _ _ _ hd5)
   ·rw [if_neg z, List.append_nil] at k
    refine ifNo (decide_eq_false z) ?_
    exact ⟨_, rfl, k _ _ _ s5 fd hd5 w5⟩
 | some q =>
  have ei : r.into = none := by
   rcases one with h | h
   ·exact h
   ·rw [eo] at h; cases h
  rw [eo, ei] at h1
  refine ⟨rfl, _, rfl, ifYes rfl ?_⟩
  refine ⟨_, rfl, l, _, rfl, .inl (SqL.of (s3 _ _ hl)), _, rfl, by omega, by omega, ?_⟩
  rw [ul, Int.toNat_natCast]
  refine comp_nums (f := Row.into) (q := q) (s3 _ _ hl) (hrs.same s3) hlen (.inl ⟨rfl, rfl⟩) (s3 _ _ h1) rfl (Nat.le_refl _) ?_
  rw [List.take_length]
  intro lg fg
  have t4 : Same H3 (upd H3 lg (.lst ((numsOf Row.into rs q).map V.int))) := Same.new fg _
  have hlg : (upd H3 lg (.lst ((numsOf Row.into rs q).map V.int))) lg = some (.lst ((numsOf Row.into rs q).map V.int)) := upd_same
  generalize upd H3 lg (.lst ((numsOf Row.into rs q).map V.int)) = H4 at t4 hlg ⊢
  have s4 := s3.trans t4
  refine ⟨_, rfl, .inl ⟨rfl, _, SqL.of (t4 _ _ hld)⟩, ?_⟩
  refine ⟨_, rfl, _, rfl, _, rfl, by omega, by omega, ?_⟩
  rw [Int.toNat_natCast]
  refine comp_nums (f := Row.outof) (q := q) (s4 _ _ hl) (hrs.same s4) hlen (.inr ⟨rfl, rfl⟩) (s4 _ _ h1) rfl (by omega) ?_
  intro lb fb
  have t5 : Same H4 (upd H4 lb (.lst ((numsOf Row.outof (rs.take i) q).map V.int))) := Same.new fb _
  have hlb : (upd H4 lb (.lst ((numsOf Row.outof (rs.take i) q).map V.int))) lb = some (.lst ((numsOf Row.outof (rs.take i) q).map V.int)) := upd_same
  generalize upd H4 lb (.lst ((numsOf Row.outof (rs.take i) q).map V.int)) = H5 at t5 hlb ⊢
  have s5 := s4.trans t5
  have fe := hfed q eo
  have hd5 := t5 _ _ (t4 _ _ hld)
  have hg5 := t5 _ _ hlg
  have w5 := w3'.same (t4.trans t5)
  refine ⟨lb, _, rfl, .inl (SqL.of hlb), ?_⟩
  rw [List.length_map]
  have ed : dueV rs ln i r = cardWaits (rs.take i) r ++ ([((numsOf Row.into rs q)[(numsOf Row.outof (rs.take i) q).length], "thing", q)] : List Wat) := by
   unfold dueV thingV roomV
   rw [eo, ei, List.append_nil]
   congr 1
   show [((numsOf Row.into rs q).getD (numsOf Row.outof (rs.take i) q).length 0, Str.ofString "thing", q)] = _
   rw [List.getD_eq_getElem?_getD, List.getElem?_eq_getElem fe]
   rfl
  rw [ed] at k
  refine ⟨lg, _, ((numsOf Row.outof (rs.take i) q).length : Int), .int ((numsOf Row.into rs q)[(numsOf Row.outof (rs.take i) q).length]), rfl, rfl, SqL.of hg5, atI_nat (by rw [List.getElem?_map, List.getElem?_eq_getElem fe]; rfl), ?_⟩
  refine ⟨_, rfl, px, _, 4, _, rfl, rfl, SqT.of (s5 _ _ h1), rfl, ln3, fun t ft => ?_⟩
  refine ⟨ld, ys, _, rfl, rfl, Same.new ft _ _ _ hd5, by omega, ?_⟩
  have s6 := Same.over (o := .lst (ys ++ [.ref t])) (s5.trans (Same.new ft (watV ((numsOf Row.into rs q)[(numsOf Row.outof (rs.take i) q).length], "thing", q)))) fd
  refine ⟨_, rfl, px, _, 3, _, rfl, rfl, SqT.of (s6 _ _ h1), rfl, rfl, _, rfl, ifNo rfl ?_⟩
  exact ⟨_, rfl, k _ _ _ s6 fd upd_same (((w5.same (Same.new ft _)).snoc (e := ((numsOf Row.into rs q)[(numsOf Row.outof (rs.take i) q).length], "thing", q)) upd_same).off (Same.new ft _ _ _ hd5))⟩
theorem due_at {rs : List Row} {ss : List (Str × Int)} {ln : Str -> Int} {i : Nat} {r : Row} (h : rs[i]? = some r) (one : OneWay r) (nd : (ss.map (·.1)).Nodup) (pos : ∀ s ∈ ss, 0 <= s.2) (hln : ∀ s ∈ ss, ln s.1 = s.2) (h1 : ∀ q, r.into = some q -> ∃ n, (q, n) ∈ ss) (h2 : ∀ q, r.outof = some q -> ∃ n, (q, n) ∈ ss) (fed : ∀ q, r.outof = some q -> (numsOf Row.outof (rs.take i) q).length < (numsOf Row.into rs q).length) :
  (behindUp rs ss (allCardWaits rs rs.length) ss.length)[i]? = some (dueV rs ln i r) := by
 rw [behindUp_at h _ fed _ (Nat.le_refl _), List.take_length, allCardWaits_at h _ (List.getElem?_eq_some_iff.mp h).1 (Nat.le_refl _)]
 show some (_ ++ _) = _
 congr 1
 unfold dueV
 rw [List.append_assoc]
 congr 1
 cases eo : r.outof with
 | none =>
  have e1 : thingV rs i r = [] := by unfold thingV; rw [eo]
  rw [e1, List.nil_append]
  cases ei : r.into with
  | none =>
   have e2 : roomV rs ln i r = [] := by unfold roomV; rw [ei]
   rw [e2, List.flatMap_eq_nil_iff]
   intro s _
   unfold thingFor roomFor
   rw [eo, ei]
   simp
  | some q =>
   obtain ⟨n, m⟩ := h1 q ei
   rw [flat_one_of nd m fun s _ hs => by
    unfold thingFor roomFor
    rw [eo, ei]
    simp [Ne.symm hs]]
   have n0 := pos _ m
   have el := hln _ m
   unfold thingFor roomFor roomV backV
   rw [eo, ei]
   show ([] : List Wat) ++ (if some q = some q /\ n.toNat <= (numsOf Row.into (rs.take i) q).length then _ else _) = (if 0 <= ((numsOf Row.into (rs.take i) q).length : Int) - ln q then _ else _)
   have el' : ln q = n := el
   rw [List.nil_append, el']
   have n0' : 0 <= n := n0
   by_cases z : n.toNat <= (numsOf Row.into (rs.take i) q).length
   ·rw [if_pos ⟨rfl, z⟩, if_pos (by omega), show (((numsOf Row.into (rs.take i) q).length : Int) - n).toNat = (numsOf Row.into (rs.take i) q).length - n.toNat by omega]
   ·rw [if_neg (fun y => z y.2), if_neg (by omega)]
 | some q =>
  have ei : r.into = none := by
   rcases one with h | h
   ·exact h
   ·rw [eo] at h; cases h
  have e2 : roomV rs ln i r = [] := by unfold roomV; rw [ei]
  rw [e2, List.append_nil]
  obtain ⟨n, m⟩ := h2 q eo
  rw [flat_one_of nd m fun s _ hs => by
   unfold thingFor roomFor
   rw [eo, ei]
   simp [Ne.symm hs]]
  unfold thingFor roomFor thingV
  rw [eo, ei]
  simp
end
theorem ok_law (T : Tx P w K mg a) : FnOk P w K mg base CX0 21 a.law a.fd_law ["_law_script"] (sp_law K) := by
 refine T.F_law.ok sc_law (fun vs H Q E h => ?_) (fun cdv A outer s H vs Q E hr h => ?_)
 ·obtain ⟨_, _, rfl, _⟩ := h
  rfl
 obtain ⟨l, ns, rfl, hS, h63, hbits, _, k⟩ := h
 refine ⟨_, (pss_cons (ps_set (i := 1) sc_law.nd rfl (Or.inl rfl) (pe_call (ok__law_program T) (hr.mono (by decide)) rfl T.m__law_program T.F__law_program.kp T.b__law_program .nil pass0 (pa_cons (pq 0) (pa_cons pe_int pa_nil))))
   (pss_cons (ps_set (i := 2) sc_law.nd rfl (Or.inr rfl) (pe_comp (k := 1) (Nc := ["_law_one"]) (js := []) (show CompSc (defScope s_law) ["_law_script", "_law_program_here", "_law_rows", "_law_handed", "_law_stores", "_law_found", "_law_lengths", "_law_due_here"] _ 1 ["_law_one"] [] from CompSc.mk rfl (by decide +kernel) (by decide +kernel) (by decide +kernel) rfl (by decide +kernel)) rfl (pi_list (pe_ix qx_tup (pq 1) pe_int (fun _ _ => rfl))) (fun _ _ _ _ _ => (pg_name (i := 0) (show List.Nodup (["_law_one"] : List Str) from by decide +kernel) rfl (Or.inl rfl))) (fun _ _ _ _ _ => pts_nil) (fun _ _ _ _ _ => (pe_call (ok__law_row T) (hr.mono (by decide)) rfl T.m__law_row T.F__law_row.kp T.b__law_row .nil pass0 (pa_cons (pq 0) pa_nil)))))
   (pss_cons (ps_expr (pe_bmQ PySem.F.plainAttrs_list PySem.F.slot_list_append PySem.F.type_list_append qm_append (pq 2) (pa_cons (pe_call (ok__law_last T) (hr.mono (by decide)) rfl T.m__law_last T.F__law_last.kp T.b__law_last .nil pass0 (pa_cons (pq 1) pa_nil)) pa_nil)))
   (pss_cons (ps_set (i := 3) sc_law.nd rfl (Or.inl rfl) (pe_callTy qc_list rfl T.z_list PyProof.Rows.Boot.«list» (pa_cons (pq 2) pa_nil)))
   (pss_cons (ps_set (i := 4) sc_law.nd rfl (Or.inl rfl) (pe_callTy qc_list rfl T.z_list PyProof.Rows.Boot.«list» (pa_cons (pe_ix qx_tup (pq 1) pe_int (fun _ _ => rfl)) pa_nil)))
   (pss_cons (ps_set (i := 5) sc_law.nd rfl (Or.inl rfl) (pe_call (ok_waits_of T) (hr.mono (by decide)) rfl T.m_waits_of T.F_waits_of.kp T.b_waits_of .nil pass0 (pa_cons (pq 3) (pa_cons (pq 4) pa_nil))))
   (pss_cons (ps_set (i := 6) sc_law.nd rfl (Or.inr rfl) (pe_callTy (call_dict_of rfl) rfl T.z_dict PyProof.Rows.Boot.«dict» (pa_cons (pe_ix qx_tup (pq 1) pe_int (fun _ _ => rfl)) pa_nil)))
   (pss_cons (ps_setcomp (i := 7) sc_law.nd rfl (Or.inl rfl) (k := 1) (Nc := ["_law_at", "_law_rows", "_law_lengths"]) (js := [2, 6]) (show CompSc (defScope s_law) ["_law_script", "_law_program_here", "_law_rows", "_law_handed", "_law_stores", "_law_found", "_law_lengths", "_law_due_here"] _ 1 ["_law_at", "_law_rows", "_law_lengths"] [2, 6] from CompSc.mk rfl (by decide +kernel) (by decide +kernel) (by decide +kernel) rfl (by decide +kernel)) rfl (pj_range1 rfl T.z_range (pa_cons (pe_callB qc_len rfl T.z_len PySem.boot_len (pa_cons (pq 2) pa_nil)) pa_nil)) (fun _ _ _ _ _ => (pg_name (i := 0) (show List.Nodup (["_law_at", "_law_rows", "_law_lengths"] : List Str) from by decide +kernel) rfl (Or.inl rfl))) (fun _ _ _ _ _ => pts_nil) (fun _ _ _ _ _ => (pe_call (ok__law_due T) (hr.mono (by decide)) rfl T.m__law_due T.F__law_due.kp T.b__law_due .nil pass0 (pa_cons (pq 1) (pa_cons (pq 2) (pa_cons (pq 0) pa_nil))))))
   (pss_one (ps_ret (pe_and (pe_call (ok__law_alike T 4) (hr.mono (by decide)) rfl T.m__law_alike T.F__law_alike.kp T.b__law_alike .nil pass0 (pa_cons (pq 5) (pa_cons (pq 7) pa_nil))) (pe_and (pe_cmpR (op_eqD hr.units) (pq 3) (pq 2) (nomark _)) (pe_one (pe_cmpR (op_eqD hr.units) (pq 4) (pe_ix qx_tup (pq 1) pe_int (fun _ _ => rfl)) (nomark _))))))))))))))), ?_⟩
 have wl : (wordsOf ns).length = (2 + mixed (ns.getD 1 0) 1 % 4).toNat := poolV_len _ _
 have nl : (namesOf ns).length = (wordsOf ns).length - 1 := List.length_dropLast
 have rl : (roomsOf ns).length = (if mixed (ns.getD 1 0) 3 % 5 < 3 then mixed (ns.getD 1 0) 3 % 5 else 3).toNat := poolV_len _ _
 have rl3 : (roomsOf ns).length <= 3 := by rw [rl]; split <;> omega
 have nm0 : 0 < (namesOf ns).length := by omega
 obtain ⟨bk0, bd, bk3⟩ := block_ok (rooms := roomsOf ns) (most := 0) (low := 7) nm0 (cutI ns 3 63)
 have tx0 := block_texts (rooms := roomsOf ns) (most := 0) (low := 7) nm0 (cutI ns 3 63)
 have sub : ∀ x ∈ namesOf ns, x ∈ wordsOf ns := fun x hx => (List.dropLast_sublist _).subset hx
 have cl : (cutI ns 3 63).length <= 60 := by unfold cutI; rw [List.length_take]; omega
 have nr : NoRep (bodyV ns) := block_norep (by decide) nm0 _
 have bl : (bodyV ns).length <= 60 := Nat.le_trans (len_flats _) (Nat.le_trans bk3 cl)
 have ml : (movesOf ns).length <= 60 := by
  have : ∀ ds : List Deed, (movesV ds).length <= ds.length := fun ds => by
   induction ds with
   | nil => exact Nat.le_refl _
   | cons d r ih =>
    have : d.moves.length <= 1 := by cases d <;> simp [Deed.moves]
    unfold movesV at *
    rw [List.flatMap_cons, List.length_append, List.length_cons]
    omega
  exact Nat.le_trans (this _) bl
 have fr := front_all (roomsOf ns) (namesOf ns) (movesOf ns) nm0 _ (Nat.le_refl _)
 have fl : (frontV ns).length <= 180 := by
  have h1 := frontUp_len (roomsOf ns) (namesOf ns) (movesOf ns) (roomsOf ns).length
  have : (roomsOf ns).length * (movesOf ns).length <= 3 * 60 := Nat.mul_le_mul rl3 ml
  unfold frontV
  omega
 obtain ⟨ff, _, fd⟩ := puts_flat (ds := frontV ns) fun d hd => by
  obtain ⟨q, x, e, _⟩ := fr d hd
  exact ⟨q, x, e⟩
 have hdp : depths (frontV ns ++ bodyV ns) <= 12 := by rw [depths_append, depths_zero fd, Nat.zero_max]; exact bd
 have hfl : (flats (frontV ns ++ bodyV ns)).length <= 1000 := by
  rw [flats_append, List.length_append, ff]
  have : (flats (bodyV ns)).length <= 60 := Nat.le_trans bk3 cl
  omega
 have bk1 : ∀ x ∈ cards (frontV ns ++ bodyV ns), x ∈ allCards (wordsOf ns) (roomsOf ns) := fun x hx => by
  rw [cards_append, List.mem_append] at hx
  rcases hx with hx | hx
  ·unfold cards at hx
   rw [ff] at hx
   obtain ⟨d, hd, hx⟩ := List.mem_flatMap.mp hx
   obtain ⟨q, y, rfl, hq, hy⟩ := fr d hd
   simp only [Deed.cards, Deed.names, Deed.others, List.cons_append, List.nil_append, List.mem_cons, List.not_mem_nil, or_false] at hx
   unfold allCards
   simp only [List.mem_append, List.mem_map]
   rcases hx with rfl | rfl
   ·exact .inl (.inl (.inl (sub _ hy)))
   ·exact .inl (.inl (.inr ⟨_, hq, rfl⟩))
  ·exact allCards_sub sub x (bk0 x hx)
 have tx : Texts (allTexts (wordsOf ns) (roomsOf ns)) (frontV ns ++ bodyV ns) := by
  refine Texts.app (fun d hd s hs => ?_) fun d hd s hs => allTexts_sub sub s (tx0 d hd s hs)
  rw [ff] at hd
  obtain ⟨q, y, rfl, hq, hy⟩ := fr d hd
  simp only [Deed.strs, List.mem_cons, List.not_mem_nil, or_false] at hs
  unfold allTexts
  simp only [List.mem_append]
  rcases hs with rfl | rfl
  ·exact .inl (.inr hq)
  ·exact .inl (.inl (sub _ hy))
 have nrA : NoRep (frontV ns ++ bodyV ns) := (front_norep _ _ _ _).app nr
 have dlen : (frontV ns ++ bodyV ns).length <= 240 := by rw [List.length_append]; omega
 have fed : Fed ((frontV ns ++ bodyV ns).map rowV) := fed_of (block_gets _)
 have c64 : (allCards (wordsOf ns) (roomsOf ns)).length < 64 := by rw [allCards_few]; omega
 have csh : ∀ q ∈ allCards (wordsOf ns) (roomsOf ns), q.length <= 1000 := allCards_short
 have tok : ∀ s ∈ allTexts (wordsOf ns) (roomsOf ns), PyData.strOk s = true := texts_ok
 have am : ∀ x ∈ asksV ns, x ∈ wordsOf ns := asksUp_mem (Nat.le_refl _)
 have sm : ∀ s ∈ storesV ns, s.1 ∈ roomsOf ns := storesUp18_mem (Nat.le_refl _)
 have al : (asksV ns).length <= 5 := Nat.le_trans (asksUp_len _ _ _) (by omega)
 have sl : (storesV ns).length = (roomsOf ns).length := storesUp18_len _ _ _ _
 have ssh : ∀ s ∈ storesV ns, s.1.length <= 1000 := fun s hs => Nat.le_trans (pool_short _ _ _ (sm s hs)) (by decide)
 have shp : SeqAt.shaped (progD (asksV ns) (storesV ns) (frontV ns ++ bodyV ns)) = true :=
  shaped_prog tok (fun s hs => tok s (by unfold allTexts; simp [am s hs])) (fun s hs => tok s.1 (by unfold allTexts; simp [sm s hs])) tx hdp
 have eqr : PyData.eqv (progD (asksV ns) (storesV ns) (frontV ns ++ bodyV ns)) (progD (asksV ns) (storesV ns) (frontV ns ++ bodyV ns)) = true := SeqAt.eqv_refl _ (SeqAt.canLay_of_shaped shp)
 have pc : ∀ x ∈ progCards (asksV ns) (storesV ns) (frontV ns ++ bodyV ns), x ∈ allCards (wordsOf ns) (roomsOf ns) := prog_cards_in am sm bk1
 have cfew : ∀ ds : List Deed, (flats ds).length <= 1000 -> (cards ds).length <= 3000 := fun ds h => by
  have := cards_few (flats ds)
  unfold cards
  omega
 have small : ∀ r ∈ (frontV ns ++ bodyV ns).map rowV ++ [endRow (asksV ns) (storesV ns) (frontV ns ++ bodyV ns)], r.owns.length <= 10000 /\ r.reads.length <= 10000 := fun r hr => by
  rcases List.mem_append.mp hr with hr | hr
  ·obtain ⟨d, hd, rfl⟩ := List.mem_map.mp hr
   obtain ⟨i, hi, e⟩ := List.mem_iff_getElem.mp hd
   have hd' : (frontV ns ++ bodyV ns)[i]? = some d := by rw [List.getElem?_eq_getElem hi, e]
   have f1 := (flat_one hd').1
   refine row_small (Nat.le_trans (cfew [d] ?_) (by decide))
   rw [flats, flats, List.append_nil]
   omega
  ·rw [List.mem_singleton.mp hr]
   refine ⟨Nat.le_trans (srt_len _) ?_, by simp [endRow]⟩
   have := cfew _ hfl
   have e2 : ((storesV ns).flatMap fun s => [s.1 ++ (">" : Str), s.1 ++ ("<" : Str)]).length = 2 * (storesV ns).length := by
    induction storesV ns with
    | nil => rfl
    | cons x r ih => rw [List.flatMap_cons, List.length_append, ih, List.length_cons]; simp; omega
   unfold progCards
   rw [List.length_append, List.length_append, List.length_append, e2, List.length_singleton]
   omega
 have nd : ((storesV ns).map (·.1)).Nodup := by
  unfold storesV
  rw [stores_names _ _ _ _ (Nat.le_refl _), List.take_length]
  exact pool_nodup _ (by split <;> omega)
 have spos : ∀ s ∈ storesV ns, 0 <= s.2 := stores_pos _ _ _ _
 have bputs := block_puts (names := namesOf ns) (rooms := roomsOf ns) (most := 0) (low := 7) (cutI ns 3 63)
 have bgets := block_gets (names := namesOf ns) (rooms := roomsOf ns) (most := 0) (low := 7) (cutI ns 3 63)
 have inR : ∀ d ∈ frontV ns ++ bodyV ns, ∀ q x, d = .put q x \/ d = .get q x -> q ∈ roomsOf ns := fun d hd q x e => by
  rcases List.mem_append.mp hd with m | m
  ·obtain ⟨q', y, e', hq, _⟩ := fr d m
   rcases e with e | e
   ·rw [e'] at e; cases e; exact hq
   ·rw [e'] at e; cases e
  ·rcases e with rfl | rfl
   ·exact bputs q x m
   ·exact bgets q x m
 have named : ∀ q ∈ roomsOf ns, ∃ n, (q, n) ∈ storesV ns := fun q hq => by
  have : q ∈ (storesV ns).map (·.1) := by
   unfold storesV
   rw [stores_names _ _ _ _ (Nat.le_refl _), List.take_length]
   exact hq
  obtain ⟨s, hs, e⟩ := List.mem_map.mp this
  exact ⟨s.2, by rw [<- e]; exact hs⟩
 have rok : ∀ r ∈ (frontV ns ++ bodyV ns).map rowV ++ [endRow (asksV ns) (storesV ns) (frontV ns ++ bodyV ns)], RowOk r := fun r hr => by
  rcases List.mem_append.mp hr with hr | hr
  ·obtain ⟨d, hd, rfl⟩ := List.mem_map.mp hr
   obtain ⟨i, hi, e⟩ := List.mem_iff_getElem.mp hd
   have hd' : (frontV ns ++ bodyV ns)[i]? = some d := by rw [List.getElem?_eq_getElem hi, e]
   exact row_ok (fun c hc => cards_ok _ (bk1 c (cards_here hd' c hc))) fun q x h => tok q (by unfold allTexts; simp [inR d hd q x h])
  ·rw [List.mem_singleton.mp hr]
   exact ⟨show PyData.strOk ("end" : Str) = true by decide +kernel, fun s hs => cards_ok _ (pc s (srt_sub _ s hs)), fun s hs => (nomatch hs), fun q h => (nomatch h), fun q h => (nomatch h)⟩
 have oneA : ∀ r ∈ (frontV ns ++ bodyV ns).map rowV ++ [endRow (asksV ns) (storesV ns) (frontV ns ++ bodyV ns)], OneWay r := fun r hr => by
  rcases List.mem_append.mp hr with hr | hr
  ·obtain ⟨d, hd, rfl⟩ := List.mem_map.mp hr
   exact row_one d
  ·rw [List.mem_singleton.mp hr]
   exact .inl rfl
 have small4 : ∀ r ∈ (frontV ns ++ bodyV ns).map rowV ++ [endRow (asksV ns) (storesV ns) (frontV ns ++ bodyV ns)], r.owns.length <= 4000 /\ r.reads.length <= 4000 := fun r hr => by
  rcases List.mem_append.mp hr with hr | hr
  ·obtain ⟨d, hd, rfl⟩ := List.mem_map.mp hr
   obtain ⟨i, hi, e⟩ := List.mem_iff_getElem.mp hd
   have hd' : (frontV ns ++ bodyV ns)[i]? = some d := by rw [List.getElem?_eq_getElem hi, e]
   have f1 := (flat_one hd').1
   refine row_small4 (Nat.le_trans (cfew [d] ?_) (by decide))
   rw [flats, flats, List.append_nil]
   omega
  ·rw [List.mem_singleton.mp hr]
   refine ⟨Nat.le_trans (srt_len _) ?_, by simp [endRow]⟩
   have := cfew _ hfl
   have e2 : ((storesV ns).flatMap fun s => [s.1 ++ (">" : Str), s.1 ++ ("<" : Str)]).length = 2 * (storesV ns).length := by
    induction storesV ns with
    | nil => rfl
    | cons x r ih => rw [List.flatMap_cons, List.length_append, ih, List.length_cons]; simp; omega
   unfold progCards
   rw [List.length_append, List.length_append, List.length_append, e2, List.length_singleton]
   omega
 have fedA : Fed ((frontV ns ++ bodyV ns).map rowV ++ [endRow (asksV ns) (storesV ns) (frontV ns ++ bodyV ns)]) := fed.snoc rfl
 have inS : ∀ r ∈ (frontV ns ++ bodyV ns).map rowV ++ [endRow (asksV ns) (storesV ns) (frontV ns ++ bodyV ns)], ∀ q, (r.into = some q \/ r.outof = some q) -> ∃ n, (q, n) ∈ storesV ns := fun r hr q e => by
  rcases List.mem_append.mp hr with hr | hr
  ·obtain ⟨d, hd, rfl⟩ := List.mem_map.mp hr
   refine named q ?_
   cases d with
   | put q' x =>
    rcases e with e | e
    ·cases e; exact inR _ hd _ x (.inl rfl)
    ·cases e
   | get q' x =>
    rcases e with e | e
    ·cases e
    ·cases e; exact inR _ hd _ x (.inr rfl)
   | _ => rcases e with e | e <;> cases e
  ·rw [List.mem_singleton.mp hr] at e
   rcases e with e | e <;> cases e
 generalize erows : (frontV ns ++ bodyV ns).map rowV ++ [endRow (asksV ns) (storesV ns) (frontV ns ++ bodyV ns)] = rows at *
 refine ⟨_, rfl, l, ns, rfl, hS, h63, nr, bl, fun H1 p la ls lb us s1 rp => ?_⟩
 refine ⟨_, rfl, p, _, _, _, rfl, rfl, SqT.of rp.top, rfl, lb, rfl, ?_⟩
 have rb := rp.bo
 obtain ⟨hv, hds⟩ := rb
 rename_i vs
 have vl : vs.length = (frontV ns ++ bodyV ns).length := hds.len
 have big : (4000000 : Nat) < sizeLine := by decide
 refine ⟨⟨_, SqL.of hv⟩, ?_⟩
 refine comp_list0 (xs := vs) (fun i ys σ H3 => (∃ v, σ = [v]) /\ Same H1 H3 /\ RRows H3 ys (((frontV ns ++ bodyV ns).take i).map rowV)) ⟨⟨none, rfl⟩, Same.refl _, .nil⟩ ?_ (len_le_line (m := 1000) (by omega)) ?_ ?_ ?_
 ·rintro i ys σ H3 _ ⟨_, _, hr3⟩
  rw [hr3.len, List.length_map, List.length_take]
  omega
 ·rintro i ys σ H3 ⟨_, s3, _⟩
  exact SqL.of (s3 _ _ hv)
 ·rintro i x ys σ H3 hx ⟨⟨v, rfl⟩, s3, hr3⟩
  obtain ⟨d, hd, hrd⟩ := hds.at i x hx
  have dp := depth_one hd
  obtain ⟨f1, _⟩ := flat_one hd
  refine ⟨_, rfl, H1, _, d, allCards (wordsOf ns) (roomsOf ns), rfl, s3, hrd, by omega, by omega, fun q hq => bk1 q (cards_here hd q hq), c64, csh, nrA d (List.mem_of_getElem? hd), fun H4 u s4 hu => ⟨⟨_, rfl⟩, s3.trans s4, ?_⟩⟩
  rw [List.take_add_one, hd, List.map_append]
  exact (hr3.same s4).snoc hu
 rintro ys σ3 H3 ⟨_, s3, hr3⟩ ld hld
 rw [vl, List.take_length] at hr3
 have yl := hr3.len
 rw [List.length_map] at yl
 have s4 := Same.new hld (.lst ys)
 refine ⟨_, rfl, .inl ⟨rfl, _, SqL.of upd_same⟩, _, rfl, p, la, ls, lb, asksV ns, storesV ns, frontV ns ++ bodyV ns, us, allCards (wordsOf ns) (roomsOf ns), rfl, (rp.same s3).same s4, hdp, hfl, by omega, by omega, ssh, pc, c64, csh, fun H5 v s5 hv5 => ?_⟩
 refine ⟨ld, ys, v, rfl, rfl, s5 _ _ upd_same, by omega, ?_⟩
 have s45 : Same H3 (upd H5 ld (.lst (ys ++ [v]))) := Same.over (s4.trans s5) hld
 have hrows : RRows (upd H5 ld (.lst (ys ++ [v]))) (ys ++ [v]) rows := by
  rw [<- erows]
  exact (((hr3.same s4).same s5).off (s5 _ _ upd_same)).snoc (hv5.off (s5 _ _ upd_same))
 have hld6 : (upd H5 ld (.lst (ys ++ [v]))) ld = some (.lst (ys ++ [v])) := upd_same
 have s36 := s3.trans s45
 have rl6 : rows.length <= 241 := by rw [<- erows, List.length_append, List.length_map, List.length_singleton]; omega
 have rp6 := rp.same s36
 generalize upd H5 ld (.lst (ys ++ [v])) = H6 at hrows hld6 rp6 ⊢
 generalize ys ++ [v] = rv at hrows hld6 ⊢
 clear s36 s45 hv5 hr3
 refine ⟨_, rfl, ld, _, rfl, .inl (SqL.of hld6), fun lh fh => ?_⟩
 have t7 := Same.new fh (.lst rv)
 have hlh : (upd H6 lh (.lst rv)) lh = some (.lst rv) := upd_same
 generalize upd H6 lh (.lst rv) = H7 at t7 hlh ⊢
 refine ⟨_, rfl, p, _, _, _, rfl, rfl, SqT.of (t7 _ _ rp6.top), rfl, ls, _, rfl, .inl (SqL.of (t7 _ _ rp6.st)), fun l8 f8 => ?_⟩
 have t8 := Same.new f8 (.lst us)
 have hl8 : (upd H7 l8 (.lst us)) l8 = some (.lst us) := upd_same
 generalize upd H7 l8 (.lst us) = H8 at t8 hl8 ⊢
 have t68 := t7.trans t8
 refine ⟨_, rfl, _, rfl, lh, l8, rv, us, rows, storesV ns, rfl, t8 _ _ hlh, hrows.same t68, by omega, small4, hl8, rp6.ro.same t68, by omega, spos, fun H9 lw ws t9 hw rw9 => ?_⟩
 have t69 := t68.trans t9
 refine ⟨_, rfl, p, _, _, _, rfl, rfl, SqT.of (t69 _ _ rp6.top), rfl, ?_⟩
 refine ⟨ls, us, storeKs (storesV ns), rfl, t69 _ _ rp6.st, by rw [rp6.ro.len]; simp [storeKs], by simp [storeKs]; omega, fun i x hx => ?_, fun dl fl => ?_⟩
 ·unfold storeKs at hx
  rw [List.getElem?_map] at hx
  cases e : (storesV ns)[i]? with
  | none => rw [e] at hx; cases hx
  | some st =>
   rw [e] at hx
   have ex : ((Sum.inr st.1 : Key), V.int st.2) = x := Option.some.inj hx
   subst ex
   have il := (List.getElem?_eq_some_iff.mp e).1
   have ul := rp6.ro.len
   obtain ⟨pt, q, n, ev, es, hp⟩ := rp6.ro.at i us[i] (List.getElem?_eq_getElem (by omega))
   rw [e] at es
   cases es
   exact ⟨pt, by rw [List.getElem?_eq_getElem (by omega), ev], t69 _ _ hp⟩
 have t10 := Same.new fl (.dK (putAll (storeKs (storesV ns))))
 have hdl : (upd H9 dl (.dK (putAll (storeKs (storesV ns))))) dl = some (.dK (putAll (storeKs (storesV ns)))) := upd_same
 have kat : ∀ q n, (q, n) ∈ storesV ns -> valV (putAll (storeKs (storesV ns))) (.inr q) = some (.int n) := fun q n h => storeKs_at nd h
 generalize putAll (storeKs (storesV ns)) = kvs at t10 hdl kat ⊢
 generalize upd H9 dl (.dK kvs) = H10 at t10 hdl ⊢
 have t610 := t69.trans t10
 have rvl := hrows.len
 refine ⟨_, rfl, ld, _, rfl, .inl (SqL.of (t610 _ _ hld6)), _, rfl, by omega, by omega, ?_⟩
 rw [rvl, Int.toNat_natCast]
 have dat : ∀ (i : Nat) (r : Row), rows[i]? = some r -> (behindUp rows (storesV ns) (allCardWaits rows rows.length) (storesV ns).length)[i]? = some (dueV rows (lnOf kvs) i r) := fun i r h =>
  due_at h (oneA r (List.mem_of_getElem? h)) nd spos (fun st hs => lnOf_at (kat st.1 st.2 hs)) (fun q e => inS r (List.mem_of_getElem? h) q (.inl e)) (fun q e => inS r (List.mem_of_getElem? h) q (.inr e)) fun q e => fed_nums fedA h e
 have wlen : (behindUp rows (storesV ns) (allCardWaits rows rows.length) (storesV ns).length).length = rows.length := by rw [behindUp_len, allCardWaits_len _ _ (Nat.le_refl _)]
 generalize behindUp rows (storesV ns) (allCardWaits rows rows.length) (storesV ns).length = W at rw9 dat wlen
 refine comp_range0 (fun k ys σ H11 => (∃ v, σ = [v, some (.ref ld), some (.ref dl)]) /\ Same H10 H11 /\ RWL H11 ys (W.take k)) ⟨⟨none, rfl⟩, Same.refl _, .nil⟩ ?_ (by omega) ?_ ?_
 ·rintro k ys σ H11 _ ⟨_, _, h⟩
  rw [h.len, List.length_take]
  omega
 ·rintro k ys σ H11 lt ⟨⟨v, rfl⟩, s11, w11⟩
  have hr' : rows[k]? = some rows[k] := List.getElem?_eq_getElem lt
  have hm := List.mem_of_getElem? hr'
  have t611 := t610.trans s11
  refine ⟨_, rfl, _, rfl, _, rfl, ld, dl, rv, rows, kvs, lnOf kvs, k, rows[k], rfl, t611 _ _ hld6, hrows.same t611, by omega, small4, s11 _ _ hdl, hr', oneA _ hm, fun q e => ?_, fun q e => fed_nums fedA hr' e, fun H12 l12 u12 s12 f12 h12 w12 => ?_⟩
  ·obtain ⟨n, hn⟩ := inS _ hm q (.inl e)
   rw [kat q n hn, lnOf_at (kat q n hn)]
  ·refine ⟨⟨_, rfl⟩, s11.trans s12, ?_⟩
   rw [List.take_add_one, dat k _ hr']
   exact (w11.same s12).snoc h12 w12
 rintro ws2 σ11 H11 ⟨_, s11, w11⟩ lx fx
 rw [<- wlen, List.take_length] at w11
 have s12 := s11.trans (Same.new fx (.lst ws2))
 have w12 := w11.same (Same.new fx (.lst ws2))
 have hlx : (upd H11 lx (.lst ws2)) lx = some (.lst ws2) := upd_same
 generalize upd H11 lx (.lst ws2) = H12 at s12 w12 hlx ⊢
 have rw12 := (rw9.same t10).same s12
 have hw12 := s12 _ _ (t10 _ _ hw)
 have smW : Sm W 10000 := fun i es h => by
  have il := (List.getElem?_eq_some_iff.mp h).1
  have hr' : rows[i]? = some rows[i] := List.getElem?_eq_getElem (by omega)
  rw [dat i _ hr'] at h
  cases h
  obtain ⟨a1, a2⟩ := small4 _ (List.mem_of_getElem? hr')
  have b1 := byOf_len (lastOf (rows.take i)) "card" rows[i].owns
  have b2 := byOf_len (lastOf (rows.take i)) "copy" rows[i].reads
  have b3 : (thingV rows i rows[i]).length <= 1 := by unfold thingV; split <;> simp
  have b4 : (roomV rows (lnOf kvs) i rows[i]).length <= 1 := by
   unfold roomV
   split
   ·split <;> simp
   ·simp
  unfold dueV cardWaits
  rw [List.length_append, List.length_append, List.length_append]
  omega
 have t612 := t610.trans s12
 have srows : SeqAt.shaped (.list (rows.map rowD)) = true := shaped_rows rok
 have erow : PyData.eqv (.list (rows.map rowD)) (.list (rows.map rowD)) = true := SeqAt.eqv_refl _ (SeqAt.canLay_of_shaped srows)
 have sst : SeqAt.shaped (.list ((storesV ns).map storeD)) = true := shaped_stores fun st hs => tok st.1 (by unfold allTexts; simp [sm st hs])
 have est : PyData.eqv (.list ((storesV ns).map storeD)) (.list ((storesV ns).map storeD)) = true := SeqAt.eqv_refl _ (SeqAt.canLay_of_shaped sst)
 have rows12 := hrows.same t612
 have ro12 := rp6.ro.same t612
 have t712 := ((t8.trans t9).trans t10).trans s12
 have t812 := (t9.trans t10).trans s12
 refine ⟨_, rfl, _, rfl, _, _, 3, rfl, by decide, .lst hw12 hlx (by rw [rw12.len, w12.len]) (by rw [rw12.len]; omega) (rw12.al w12 smW), ?_⟩
 refine ⟨_, rfl, ifYes rfl ?_⟩
 refine ⟨_, rfl, _, rfl, _, _, .lst (SqL.of (t712 _ _ hlh)) rows12.dt, .lst (SqL.of (t612 _ _ hld6)) rows12.dt, srows, srows, ?_⟩
 rw [erow]
 refine ⟨_, rfl, ifYes rfl ?_⟩
 refine ⟨_, rfl, _, rfl, p, _, _, _, rfl, rfl, SqT.of (t612 _ _ rp6.top), rfl, _, _, .lst (SqL.of (t812 _ _ hl8)) ro12.dt, .lst (SqL.of (t612 _ _ rp6.st)) ro12.dt, sst, sst, ?_⟩
 rw [est]
 exact k _
theorem all_mk {l : PySem.W.OpenLaw} {w : World} {K : PySem.W.Frag} {h : Heap} {mg : Str -> Option Value} {fa : Addr} (X : K.In h) (G : h.Ns mainGlobals mg) (hfa : mg "law" = some (.ref fa))
  {f0 : Addr} {od0 an0 : Option Addr} {sl0 : Array (Option Value)} {oc0 kV0 dc0 pm0 cd0 ct0 : Value}
  (a0 : PySem.W.nsIn K mainGlobals "waits_of" = some (some (.ref f0)))
  (l0 : K.lookup f0 = some ⟨oc0, od0, .func (PySem.W.fnOf "waits_of" "waits_of" (defArgs s_waits_of) (defBody s_waits_of) (defScope s_waits_of) .none kV0 dc0 pm0 an0 cd0 ct0), sl0⟩)
  (c0 : PySem.W.codeIn K cd0 "waits_of" = true)
  (k0 : PySem.W.keepIn K (.ref f0) = true)
  {f1 : Addr} {od1 an1 : Option Addr} {sl1 : Array (Option Value)} {oc1 kV1 dc1 pm1 cd1 ct1 : Value}
  (a1 : PySem.W.nsIn K mainGlobals "waits_behind" = some (some (.ref f1)))
  (l1 : K.lookup f1 = some ⟨oc1, od1, .func (PySem.W.fnOf "waits_behind" "waits_behind" (defArgs s_waits_behind) (defBody s_waits_behind) (defScope s_waits_behind) .none kV1 dc1 pm1 an1 cd1 ct1), sl1⟩)
  (c1 : PySem.W.codeIn K cd1 "waits_behind" = true)
  (k1 : PySem.W.keepIn K (.ref f1) = true)
  {f2 : Addr} {od2 an2 : Option Addr} {sl2 : Array (Option Value)} {oc2 kV2 dc2 pm2 cd2 ct2 : Value}
  (a2 : PySem.W.nsIn K mainGlobals "waits_for_cards" = some (some (.ref f2)))
  (l2 : K.lookup f2 = some ⟨oc2, od2, .func (PySem.W.fnOf "waits_for_cards" "waits_for_cards" (defArgs s_waits_for_cards) (defBody s_waits_for_cards) (defScope s_waits_for_cards) .none kV2 dc2 pm2 an2 cd2 ct2), sl2⟩)
  (c2 : PySem.W.codeIn K cd2 "waits_for_cards" = true)
  (k2 : PySem.W.keepIn K (.ref f2) = true)
  {f3 : Addr} {od3 an3 : Option Addr} {sl3 : Array (Option Value)} {oc3 kV3 dc3 pm3 cd3 ct3 : Value}
  (a3 : PySem.W.nsIn K mainGlobals "waits_by" = some (some (.ref f3)))
  (l3 : K.lookup f3 = some ⟨oc3, od3, .func (PySem.W.fnOf "waits_by" "waits_by" (defArgs s_waits_by) (defBody s_waits_by) (defScope s_waits_by) .none kV3 dc3 pm3 an3 cd3 ct3), sl3⟩)
  (c3 : PySem.W.codeIn K cd3 "waits_by" = true)
  (k3 : PySem.W.keepIn K (.ref f3) = true)
  {f4 : Addr} {od4 an4 : Option Addr} {sl4 : Array (Option Value)} {oc4 kV4 dc4 pm4 cd4 ct4 : Value}
  (a4 : PySem.W.nsIn K mainGlobals "numbers_by_store" = some (some (.ref f4)))
  (l4 : K.lookup f4 = some ⟨oc4, od4, .func (PySem.W.fnOf "numbers_by_store" "numbers_by_store" (defArgs s_numbers_by_store) (defBody s_numbers_by_store) (defScope s_numbers_by_store) .none kV4 dc4 pm4 an4 cd4 ct4), sl4⟩)
  (c4 : PySem.W.codeIn K cd4 "numbers_by_store" = true)
  (k4 : PySem.W.keepIn K (.ref f4) = true)
  {f5 : Addr} {od5 an5 : Option Addr} {sl5 : Array (Option Value)} {oc5 kV5 dc5 pm5 cd5 ct5 : Value}
  (a5 : PySem.W.nsIn K mainGlobals "_law_cell_at" = some (some (.ref f5)))
  (l5 : K.lookup f5 = some ⟨oc5, od5, .func (PySem.W.fnOf "_law_cell_at" "_law_cell_at" (defArgs s__law_cell_at) (defBody s__law_cell_at) (defScope s__law_cell_at) .none kV5 dc5 pm5 an5 cd5 ct5), sl5⟩)
  (c5 : PySem.W.codeIn K cd5 "_law_cell_at" = true)
  (k5 : PySem.W.keepIn K (.ref f5) = true)
  {f6 : Addr} {od6 an6 : Option Addr} {sl6 : Array (Option Value)} {oc6 kV6 dc6 pm6 cd6 ct6 : Value}
  (a6 : PySem.W.nsIn K mainGlobals "_law_mixed" = some (some (.ref f6)))
  (l6 : K.lookup f6 = some ⟨oc6, od6, .func (PySem.W.fnOf "_law_mixed" "_law_mixed" (defArgs s__law_mixed) (defBody s__law_mixed) (defScope s__law_mixed) .none kV6 dc6 pm6 an6 cd6 ct6), sl6⟩)
  (c6 : PySem.W.codeIn K cd6 "_law_mixed" = true)
  (k6 : PySem.W.keepIn K (.ref f6) = true)
  {f7 : Addr} {od7 an7 : Option Addr} {sl7 : Array (Option Value)} {oc7 kV7 dc7 pm7 cd7 ct7 : Value}
  (a7 : PySem.W.nsIn K mainGlobals "_law_letters" = some (some (.ref f7)))
  (l7 : K.lookup f7 = some ⟨oc7, od7, .func (PySem.W.fnOf "_law_letters" "_law_letters" (defArgs s__law_letters) (defBody s__law_letters) (defScope s__law_letters) .none kV7 dc7 pm7 an7 cd7 ct7), sl7⟩)
  (c7 : PySem.W.codeIn K cd7 "_law_letters" = true)
  (k7 : PySem.W.keepIn K (.ref f7) = true)
  {f8 : Addr} {od8 an8 : Option Addr} {sl8 : Array (Option Value)} {oc8 kV8 dc8 pm8 cd8 ct8 : Value}
  (a8 : PySem.W.nsIn K mainGlobals "_law_spelt" = some (some (.ref f8)))
  (l8 : K.lookup f8 = some ⟨oc8, od8, .func (PySem.W.fnOf "_law_spelt" "_law_spelt" (defArgs s__law_spelt) (defBody s__law_spelt) (defScope s__law_spelt) .none kV8 dc8 pm8 an8 cd8 ct8), sl8⟩)
  (c8 : PySem.W.codeIn K cd8 "_law_spelt" = true)
  (k8 : PySem.W.keepIn K (.ref f8) = true)
  {f9 : Addr} {od9 an9 : Option Addr} {sl9 : Array (Option Value)} {oc9 kV9 dc9 pm9 cd9 ct9 : Value}
  (a9 : PySem.W.nsIn K mainGlobals "_law_pool" = some (some (.ref f9)))
  (l9 : K.lookup f9 = some ⟨oc9, od9, .func (PySem.W.fnOf "_law_pool" "_law_pool" (defArgs s__law_pool) (defBody s__law_pool) (defScope s__law_pool) .none kV9 dc9 pm9 an9 cd9 ct9), sl9⟩)
  (c9 : PySem.W.codeIn K cd9 "_law_pool" = true)
  (k9 : PySem.W.keepIn K (.ref f9) = true)
  {f10 : Addr} {od10 an10 : Option Addr} {sl10 : Array (Option Value)} {oc10 kV10 dc10 pm10 cd10 ct10 : Value}
  (a10 : PySem.W.nsIn K mainGlobals "_law_simple" = some (some (.ref f10)))
  (l10 : K.lookup f10 = some ⟨oc10, od10, .func (PySem.W.fnOf "_law_simple" "_law_simple" (defArgs s__law_simple) (defBody s__law_simple) (defScope s__law_simple) .none kV10 dc10 pm10 an10 cd10 ct10), sl10⟩)
  (c10 : PySem.W.codeIn K cd10 "_law_simple" = true)
  (k10 : PySem.W.keepIn K (.ref f10) = true)
  {f11 : Addr} {od11 an11 : Option Addr} {sl11 : Array (Option Value)} {oc11 kV11 dc11 pm11 cd11 ct11 : Value}
  (a11 : PySem.W.nsIn K mainGlobals "_law_opened" = some (some (.ref f11)))
  (l11 : K.lookup f11 = some ⟨oc11, od11, .func (PySem.W.fnOf "_law_opened" "_law_opened" (defArgs s__law_opened) (defBody s__law_opened) (defScope s__law_opened) .none kV11 dc11 pm11 an11 cd11 ct11), sl11⟩)
  (c11 : PySem.W.codeIn K cd11 "_law_opened" = true)
  (k11 : PySem.W.keepIn K (.ref f11) = true)
  {f12 : Addr} {od12 an12 : Option Addr} {sl12 : Array (Option Value)} {oc12 kV12 dc12 pm12 cd12 ct12 : Value}
  (a12 : PySem.W.nsIn K mainGlobals "_law_block" = some (some (.ref f12)))
  (l12 : K.lookup f12 = some ⟨oc12, od12, .func (PySem.W.fnOf "_law_block" "_law_block" (defArgs s__law_block) (defBody s__law_block) (defScope s__law_block) .none kV12 dc12 pm12 an12 cd12 ct12), sl12⟩)
  (c12 : PySem.W.codeIn K cd12 "_law_block" = true)
  (k12 : PySem.W.keepIn K (.ref f12) = true)
  {f13 : Addr} {od13 an13 : Option Addr} {sl13 : Array (Option Value)} {oc13 kV13 dc13 pm13 cd13 ct13 : Value}
  (a13 : PySem.W.nsIn K mainGlobals "_law_cards" = some (some (.ref f13)))
  (l13 : K.lookup f13 = some ⟨oc13, od13, .func (PySem.W.fnOf "_law_cards" "_law_cards" (defArgs s__law_cards) (defBody s__law_cards) (defScope s__law_cards) .none kV13 dc13 pm13 an13 cd13 ct13), sl13⟩)
  (c13 : PySem.W.codeIn K cd13 "_law_cards" = true)
  (k13 : PySem.W.keepIn K (.ref f13) = true)
  {f14 : Addr} {od14 an14 : Option Addr} {sl14 : Array (Option Value)} {oc14 kV14 dc14 pm14 cd14 ct14 : Value}
  (a14 : PySem.W.nsIn K mainGlobals "_law_moves" = some (some (.ref f14)))
  (l14 : K.lookup f14 = some ⟨oc14, od14, .func (PySem.W.fnOf "_law_moves" "_law_moves" (defArgs s__law_moves) (defBody s__law_moves) (defScope s__law_moves) .none kV14 dc14 pm14 an14 cd14 ct14), sl14⟩)
  (c14 : PySem.W.codeIn K cd14 "_law_moves" = true)
  (k14 : PySem.W.keepIn K (.ref f14) = true)
  {f15 : Addr} {od15 an15 : Option Addr} {sl15 : Array (Option Value)} {oc15 kV15 dc15 pm15 cd15 ct15 : Value}
  (a15 : PySem.W.nsIn K mainGlobals "_law_reach" = some (some (.ref f15)))
  (l15 : K.lookup f15 = some ⟨oc15, od15, .func (PySem.W.fnOf "_law_reach" "_law_reach" (defArgs s__law_reach) (defBody s__law_reach) (defScope s__law_reach) .none kV15 dc15 pm15 an15 cd15 ct15), sl15⟩)
  (c15 : PySem.W.codeIn K cd15 "_law_reach" = true)
  (k15 : PySem.W.keepIn K (.ref f15) = true)
  {f16 : Addr} {od16 an16 : Option Addr} {sl16 : Array (Option Value)} {oc16 kV16 dc16 pm16 cd16 ct16 : Value}
  (a16 : PySem.W.nsIn K mainGlobals "_law_length" = some (some (.ref f16)))
  (l16 : K.lookup f16 = some ⟨oc16, od16, .func (PySem.W.fnOf "_law_length" "_law_length" (defArgs s__law_length) (defBody s__law_length) (defScope s__law_length) .none kV16 dc16 pm16 an16 cd16 ct16), sl16⟩)
  (c16 : PySem.W.codeIn K cd16 "_law_length" = true)
  (k16 : PySem.W.keepIn K (.ref f16) = true)
  {f17 : Addr} {od17 an17 : Option Addr} {sl17 : Array (Option Value)} {oc17 kV17 dc17 pm17 cd17 ct17 : Value}
  (a17 : PySem.W.nsIn K mainGlobals "_law_program" = some (some (.ref f17)))
  (l17 : K.lookup f17 = some ⟨oc17, od17, .func (PySem.W.fnOf "_law_program" "_law_program" (defArgs s__law_program) (defBody s__law_program) (defScope s__law_program) .none kV17 dc17 pm17 an17 cd17 ct17), sl17⟩)
  (c17 : PySem.W.codeIn K cd17 "_law_program" = true)
  (k17 : PySem.W.keepIn K (.ref f17) = true)
  {f18 : Addr} {od18 an18 : Option Addr} {sl18 : Array (Option Value)} {oc18 kV18 dc18 pm18 cd18 ct18 : Value}
  (a18 : PySem.W.nsIn K mainGlobals "_law_whole" = some (some (.ref f18)))
  (l18 : K.lookup f18 = some ⟨oc18, od18, .func (PySem.W.fnOf "_law_whole" "_law_whole" (defArgs s__law_whole) (defBody s__law_whole) (defScope s__law_whole) .none kV18 dc18 pm18 an18 cd18 ct18), sl18⟩)
  (c18 : PySem.W.codeIn K cd18 "_law_whole" = true)
  (k18 : PySem.W.keepIn K (.ref f18) = true)
  {f19 : Addr} {od19 an19 : Option Addr} {sl19 : Array (Option Value)} {oc19 kV19 dc19 pm19 cd19 ct19 : Value}
  (a19 : PySem.W.nsIn K mainGlobals "_law_alike" = some (some (.ref f19)))
  (l19 : K.lookup f19 = some ⟨oc19, od19, .func (PySem.W.fnOf "_law_alike" "_law_alike" (defArgs s__law_alike) (defBody s__law_alike) (defScope s__law_alike) .none kV19 dc19 pm19 an19 cd19 ct19), sl19⟩)
  (c19 : PySem.W.codeIn K cd19 "_law_alike" = true)
  (k19 : PySem.W.keepIn K (.ref f19) = true)
  {f20 : Addr} {od20 an20 : Option Addr} {sl20 : Array (Option Value)} {oc20 kV20 dc20 pm20 cd20 ct20 : Value}
  (a20 : PySem.W.nsIn K mainGlobals "_law_row" = some (some (.ref f20)))
  (l20 : K.lookup f20 = some ⟨oc20, od20, .func (PySem.W.fnOf "_law_row" "_law_row" (defArgs s__law_row) (defBody s__law_row) (defScope s__law_row) .none kV20 dc20 pm20 an20 cd20 ct20), sl20⟩)
  (c20 : PySem.W.codeIn K cd20 "_law_row" = true)
  (k20 : PySem.W.keepIn K (.ref f20) = true)
  {f21 : Addr} {od21 an21 : Option Addr} {sl21 : Array (Option Value)} {oc21 kV21 dc21 pm21 cd21 ct21 : Value}
  (a21 : PySem.W.nsIn K mainGlobals "_law_last" = some (some (.ref f21)))
  (l21 : K.lookup f21 = some ⟨oc21, od21, .func (PySem.W.fnOf "_law_last" "_law_last" (defArgs s__law_last) (defBody s__law_last) (defScope s__law_last) .none kV21 dc21 pm21 an21 cd21 ct21), sl21⟩)
  (c21 : PySem.W.codeIn K cd21 "_law_last" = true)
  (k21 : PySem.W.keepIn K (.ref f21) = true)
  {f22 : Addr} {od22 an22 : Option Addr} {sl22 : Array (Option Value)} {oc22 kV22 dc22 pm22 cd22 ct22 : Value}
  (a22 : PySem.W.nsIn K mainGlobals "_law_owner" = some (some (.ref f22)))
  (l22 : K.lookup f22 = some ⟨oc22, od22, .func (PySem.W.fnOf "_law_owner" "_law_owner" (defArgs s__law_owner) (defBody s__law_owner) (defScope s__law_owner) .none kV22 dc22 pm22 an22 cd22 ct22), sl22⟩)
  (c22 : PySem.W.codeIn K cd22 "_law_owner" = true)
  (k22 : PySem.W.keepIn K (.ref f22) = true)
  {f23 : Addr} {od23 an23 : Option Addr} {sl23 : Array (Option Value)} {oc23 kV23 dc23 pm23 cd23 ct23 : Value}
  (a23 : PySem.W.nsIn K mainGlobals "_law_due" = some (some (.ref f23)))
  (l23 : K.lookup f23 = some ⟨oc23, od23, .func (PySem.W.fnOf "_law_due" "_law_due" (defArgs s__law_due) (defBody s__law_due) (defScope s__law_due) .none kV23 dc23 pm23 an23 cd23 ct23), sl23⟩)
  (c23 : PySem.W.codeIn K cd23 "_law_due" = true)
  (k23 : PySem.W.keepIn K (.ref f23) = true)
  {f24 : Addr} {od24 an24 : Option Addr} {sl24 : Array (Option Value)} {oc24 kV24 dc24 pm24 cd24 ct24 : Value}
  (a24 : PySem.W.nsIn K mainGlobals "law" = some (some (.ref f24)))
  (l24 : K.lookup f24 = some ⟨oc24, od24, .func (PySem.W.fnOf "law" "law" (defArgs s_law) (defBody s_law) (defScope s_law) .none kV24 dc24 pm24 an24 cd24 ct24), sl24⟩)
  (c24 : PySem.W.codeIn K cd24 "law" = true)
  (k24 : PySem.W.keepIn K (.ref f24) = true)
  (z_bool : PySem.W.nsIn K mainGlobals "bool" = some none)
  (z_dict : PySem.W.nsIn K mainGlobals "dict" = some none)
  (z_enumerate : PySem.W.nsIn K mainGlobals "enumerate" = some none)
  (z_int : PySem.W.nsIn K mainGlobals "int" = some none)
  (z_isinstance : PySem.W.nsIn K mainGlobals "isinstance" = some none)
  (z_len : PySem.W.nsIn K mainGlobals "len" = some none)
  (z_list : PySem.W.nsIn K mainGlobals "list" = some none)
  (z_max : PySem.W.nsIn K mainGlobals "max" = some none)
  (z_min : PySem.W.nsIn K mainGlobals "min" = some none)
  (z_range : PySem.W.nsIn K mainGlobals "range" = some none)
  (z_reversed : PySem.W.nsIn K mainGlobals "reversed" = some none)
  (z_set : PySem.W.nsIn K mainGlobals "set" = some none)
  (z_sorted : PySem.W.nsIn K mainGlobals "sorted" = some none)
  (z_str : PySem.W.nsIn K mainGlobals "str" = some none)
  (z_tuple : PySem.W.nsIn K mainGlobals "tuple" = some none)
  (z_zip : PySem.W.nsIn K mainGlobals "zip" = some none)
  {tk_INTO : Tok} (c_INTO : PySem.W.nsIn K mainGlobals "INTO" = some (some (.int 3 tk_INTO)))
  {tk_OUT_OF : Tok} (c_OUT_OF : PySem.W.nsIn K mainGlobals "OUT_OF" = some (some (.int 4 tk_OUT_OF))) :
  ∃ fd : FuncData, (∀ (s : Shared) (v : Value), BindsTo s fd ⟨[v], []⟩ [("_law_script", v)]) /\ ∀ base : Heap, K.In base -> base.Ns mainGlobals mg -> FnOk l.prog w K mg base CX0 21 fa fd ["_law_script"] (sp_law K) := by
 have e := hfa.symm.trans (PySem.W.mg_of X G a24)
 cases e
 have F0 := fun_mk (st := s_waits_of) l0 c0 k0
 have b0 := F0.binds (ps := ["deeds", "stores"]) fun _ _ _ _ _ _ us hl => match us, hl with | [_, _], _ => rfl
 have F1 := fun_mk (st := s_waits_behind) l1 c1 k1
 have b1 := F1.binds (ps := ["waits_by_cards", "deeds", "stores"]) fun _ _ _ _ _ _ us hl => match us, hl with | [_, _, _], _ => rfl
 have F2 := fun_mk (st := s_waits_for_cards) l2 c2 k2
 have b2 := F2.binds (ps := ["deeds"]) fun _ _ _ _ _ _ us hl => match us, hl with | [_], _ => rfl
 have F3 := fun_mk (st := s_waits_by) l3 c3 k3
 have b3 := F3.binds (ps := ["cards", "kind", "owners"]) fun _ _ _ _ _ _ us hl => match us, hl with | [_, _, _], _ => rfl
 have F4 := fun_mk (st := s_numbers_by_store) l4 c4 k4
 have b4 := F4.binds (ps := ["deeds", "place"]) fun _ _ _ _ _ _ us hl => match us, hl with | [_, _], _ => rfl
 have F5 := fun_mk (st := s__law_cell_at) l5 c5 k5
 have b5 := F5.binds (ps := ["_law_script", "_law_k"]) fun _ _ _ _ _ _ us hl => match us, hl with | [_, _], _ => rfl
 have F6 := fun_mk (st := s__law_mixed) l6 c6 k6
 have b6 := F6.binds (ps := ["_law_cell", "_law_k"]) fun _ _ _ _ _ _ us hl => match us, hl with | [_, _], _ => rfl
 have F7 := fun_mk (st := s__law_letters) l7 c7 k7
 have b7 := F7.binds (ps := ["_law_number", "_law_size"]) fun _ _ _ _ _ _ us hl => match us, hl with | [_, _], _ => rfl
 have F8 := fun_mk (st := s__law_spelt) l8 c8 k8
 have b8 := F8.binds (ps := ["_law_word"]) fun _ _ _ _ _ _ us hl => match us, hl with | [_], _ => rfl
 have F9 := fun_mk (st := s__law_pool) l9 c9 k9
 have b9 := F9.binds (ps := ["_law_cell", "_law_many"]) fun _ _ _ _ _ _ us hl => match us, hl with | [_, _], _ => rfl
 have F10 := fun_mk (st := s__law_simple) l10 c10 k10
 have b10 := F10.binds (ps := ["_law_number", "_law_names", "_law_rooms", "_law_shut"]) fun _ _ _ _ _ _ us hl => match us, hl with | [_, _, _, _], _ => rfl
 have F11 := fun_mk (st := s__law_opened) l11 c11 k11
 have b11 := F11.binds (ps := ["_law_state", "_law_number", "_law_x", "_law_most"]) fun _ _ _ _ _ _ us hl => match us, hl with | [_, _, _, _], _ => rfl
 have F12 := fun_mk (st := s__law_block) l12 c12 k12
 have b12 := F12.binds (ps := ["_law_cells", "_law_names", "_law_rooms", "_law_most", "_law_low"]) fun _ _ _ _ _ _ us hl => match us, hl with | [_, _, _, _, _], _ => rfl
 have F13 := fun_mk (st := s__law_cards) l13 c13 k13
 have b13 := F13.binds (ps := ["_law_block_here"]) fun _ _ _ _ _ _ us hl => match us, hl with | [_], _ => rfl
 have F14 := fun_mk (st := s__law_moves) l14 c14 k14
 have b14 := F14.binds (ps := ["_law_block_here"]) fun _ _ _ _ _ _ us hl => match us, hl with | [_], _ => rfl
 have F15 := fun_mk (st := s__law_reach) l15 c15 k15
 have b15 := F15.binds (ps := ["_law_moves_here", "_law_q"]) fun _ _ _ _ _ _ us hl => match us, hl with | [_, _], _ => rfl
 have F16 := fun_mk (st := s__law_length) l16 c16 k16
 have b16 := F16.binds (ps := ["_law_pick", "_law_peak"]) fun _ _ _ _ _ _ us hl => match us, hl with | [_, _], _ => rfl
 have F17 := fun_mk (st := s__law_program) l17 c17 k17
 have b17 := F17.binds (ps := ["_law_script", "_law_most"]) fun _ _ _ _ _ _ us hl => match us, hl with | [_, _], _ => rfl
 have F18 := fun_mk (st := s__law_whole) l18 c18 k18
 have b18 := F18.binds (ps := ["_law_found"]) fun _ _ _ _ _ _ us hl => match us, hl with | [_], _ => rfl
 have F19 := fun_mk (st := s__law_alike) l19 c19 k19
 have b19 := F19.binds (ps := ["_law_found", "_law_due_here"]) fun _ _ _ _ _ _ us hl => match us, hl with | [_, _], _ => rfl
 have F20 := fun_mk (st := s__law_row) l20 c20 k20
 have b20 := F20.binds (ps := ["_law_one"]) fun _ _ _ _ _ _ us hl => match us, hl with | [_], _ => rfl
 have F21 := fun_mk (st := s__law_last) l21 c21 k21
 have b21 := F21.binds (ps := ["_law_program_here"]) fun _ _ _ _ _ _ us hl => match us, hl with | [_], _ => rfl
 have F22 := fun_mk (st := s__law_owner) l22 c22 k22
 have b22 := F22.binds (ps := ["_law_deeds", "_law_at", "_law_card"]) fun _ _ _ _ _ _ us hl => match us, hl with | [_, _, _], _ => rfl
 have F23 := fun_mk (st := s__law_due) l23 c23 k23
 have b23 := F23.binds (ps := ["_law_deeds", "_law_lengths", "_law_at"]) fun _ _ _ _ _ _ us hl => match us, hl with | [_, _, _], _ => rfl
 have F24 := fun_mk (st := s_law) l24 c24 k24
 have b24 := F24.binds (ps := ["_law_script"]) fun _ _ _ _ _ _ us hl => match us, hl with | [_], _ => rfl
 have T : Tx l.prog w K mg (Adr.mk f0 (PySem.W.fnOf "waits_of" "waits_of" (defArgs s_waits_of) (defBody s_waits_of) (defScope s_waits_of) .none kV0 dc0 pm0 an0 cd0 ct0) f1 (PySem.W.fnOf "waits_behind" "waits_behind" (defArgs s_waits_behind) (defBody s_waits_behind) (defScope s_waits_behind) .none kV1 dc1 pm1 an1 cd1 ct1) f2 (PySem.W.fnOf "waits_for_cards" "waits_for_cards" (defArgs s_waits_for_cards) (defBody s_waits_for_cards) (defScope s_waits_for_cards) .none kV2 dc2 pm2 an2 cd2 ct2) f3 (PySem.W.fnOf "waits_by" "waits_by" (defArgs s_waits_by) (defBody s_waits_by) (defScope s_waits_by) .none kV3 dc3 pm3 an3 cd3 ct3) f4 (PySem.W.fnOf "numbers_by_store" "numbers_by_store" (defArgs s_numbers_by_store) (defBody s_numbers_by_store) (defScope s_numbers_by_store) .none kV4 dc4 pm4 an4 cd4 ct4) f5 (PySem.W.fnOf "_law_cell_at" "_law_cell_at" (defArgs s__law_cell_at) (defBody s__law_cell_at) (defScope s__law_cell_at) .none kV5 dc5 pm5 an5 cd5 ct5) f6 (PySem.W.fnOf "_law_mixed" "_law_mixed" (defArgs s__law_mixed) (defBody s__law_mixed) (defScope s__law_mixed) .none kV6 dc6 pm6 an6 cd6 ct6) f7 (PySem.W.fnOf "_law_letters" "_law_letters" (defArgs s__law_letters) (defBody s__law_letters) (defScope s__law_letters) .none kV7 dc7 pm7 an7 cd7 ct7) f8 (PySem.W.fnOf "_law_spelt" "_law_spelt" (defArgs s__law_spelt) (defBody s__law_spelt) (defScope s__law_spelt) .none kV8 dc8 pm8 an8 cd8 ct8) f9 (PySem.W.fnOf "_law_pool" "_law_pool" (defArgs s__law_pool) (defBody s__law_pool) (defScope s__law_pool) .none kV9 dc9 pm9 an9 cd9 ct9) f10 (PySem.W.fnOf "_law_simple" "_law_simple" (defArgs s__law_simple) (defBody s__law_simple) (defScope s__law_simple) .none kV10 dc10 pm10 an10 cd10 ct10) f11 (PySem.W.fnOf "_law_opened" "_law_opened" (defArgs s__law_opened) (defBody s__law_opened) (defScope s__law_opened) .none kV11 dc11 pm11 an11 cd11 ct11) f12 (PySem.W.fnOf "_law_block" "_law_block" (defArgs s__law_block) (defBody s__law_block) (defScope s__law_block) .none kV12 dc12 pm12 an12 cd12 ct12) f13 (PySem.W.fnOf "_law_cards" "_law_cards" (defArgs s__law_cards) (defBody s__law_cards) (defScope s__law_cards) .none kV13 dc13 pm13 an13 cd13 ct13) f14 (PySem.W.fnOf "_law_moves" "_law_moves" (defArgs s__law_moves) (defBody s__law_moves) (defScope s__law_moves) .none kV14 dc14 pm14 an14 cd14 ct14) f15 (PySem.W.fnOf "_law_reach" "_law_reach" (defArgs s__law_reach) (defBody s__law_reach) (defScope s__law_reach) .none kV15 dc15 pm15 an15 cd15 ct15) f16 (PySem.W.fnOf "_law_length" "_law_length" (defArgs s__law_length) (defBody s__law_length) (defScope s__law_length) .none kV16 dc16 pm16 an16 cd16 ct16) f17 (PySem.W.fnOf "_law_program" "_law_program" (defArgs s__law_program) (defBody s__law_program) (defScope s__law_program) .none kV17 dc17 pm17 an17 cd17 ct17) f18 (PySem.W.fnOf "_law_whole" "_law_whole" (defArgs s__law_whole) (defBody s__law_whole) (defScope s__law_whole) .none kV18 dc18 pm18 an18 cd18 ct18) f19 (PySem.W.fnOf "_law_alike" "_law_alike" (defArgs s__law_alike) (defBody s__law_alike) (defScope s__law_alike) .none kV19 dc19 pm19 an19 cd19 ct19) f20 (PySem.W.fnOf "_law_row" "_law_row" (defArgs s__law_row) (defBody s__law_row) (defScope s__law_row) .none kV20 dc20 pm20 an20 cd20 ct20) f21 (PySem.W.fnOf "_law_last" "_law_last" (defArgs s__law_last) (defBody s__law_last) (defScope s__law_last) .none kV21 dc21 pm21 an21 cd21 ct21) f22 (PySem.W.fnOf "_law_owner" "_law_owner" (defArgs s__law_owner) (defBody s__law_owner) (defScope s__law_owner) .none kV22 dc22 pm22 an22 cd22 ct22) f23 (PySem.W.fnOf "_law_due" "_law_due" (defArgs s__law_due) (defBody s__law_due) (defScope s__law_due) .none kV23 dc23 pm23 an23 cd23 ct23) fa (PySem.W.fnOf "law" "law" (defArgs s_law) (defBody s_law) (defScope s_law) .none kV24 dc24 pm24 an24 cd24 ct24) tk_INTO tk_OUT_OF) := Tx.mk F0 b0 (PySem.W.mg_of X G a0) F1 b1 (PySem.W.mg_of X G a1) F2 b2 (PySem.W.mg_of X G a2) F3 b3 (PySem.W.mg_of X G a3) F4 b4 (PySem.W.mg_of X G a4) F5 b5 (PySem.W.mg_of X G a5) F6 b6 (PySem.W.mg_of X G a6) F7 b7 (PySem.W.mg_of X G a7) F8 b8 (PySem.W.mg_of X G a8) F9 b9 (PySem.W.mg_of X G a9) F10 b10 (PySem.W.mg_of X G a10) F11 b11 (PySem.W.mg_of X G a11) F12 b12 (PySem.W.mg_of X G a12) F13 b13 (PySem.W.mg_of X G a13) F14 b14 (PySem.W.mg_of X G a14) F15 b15 (PySem.W.mg_of X G a15) F16 b16 (PySem.W.mg_of X G a16) F17 b17 (PySem.W.mg_of X G a17) F18 b18 (PySem.W.mg_of X G a18) F19 b19 (PySem.W.mg_of X G a19) F20 b20 (PySem.W.mg_of X G a20) F21 b21 (PySem.W.mg_of X G a21) F22 b22 (PySem.W.mg_of X G a22) F23 b23 (PySem.W.mg_of X G a23) F24 b24 (PySem.W.mg_of X G a24) (PySem.W.mg_none_of X G z_bool) (PySem.W.mg_none_of X G z_dict) (PySem.W.mg_none_of X G z_enumerate) (PySem.W.mg_none_of X G z_int) (PySem.W.mg_none_of X G z_isinstance) (PySem.W.mg_none_of X G z_len) (PySem.W.mg_none_of X G z_list) (PySem.W.mg_none_of X G z_max) (PySem.W.mg_none_of X G z_min) (PySem.W.mg_none_of X G z_range) (PySem.W.mg_none_of X G z_reversed) (PySem.W.mg_none_of X G z_set) (PySem.W.mg_none_of X G z_sorted) (PySem.W.mg_none_of X G z_str) (PySem.W.mg_none_of X G z_tuple) (PySem.W.mg_none_of X G z_zip) (PySem.W.mg_of X G c_INTO) (PySem.W.mg_of X G c_OUT_OF)
 exact ⟨PySem.W.fnOf "law" "law" (defArgs s_law) (defBody s_law) (defScope s_law) .none kV24 dc24 pm24 an24 cd24 ct24, fun s v => .of_eq rfl, fun base _ _ => ok_law T⟩
theorem walk {l : PySem.W.OpenLaw} {q : Program} {loose : List Str} {XP : (Str -> Option Value) -> Heap -> Prop} {YP : World -> Heap -> Prop} {d : DefRec} {K : Params -> PySem.W.Frag} (hn : l.most = some 63) (hdf : d.params.defaults = [])
  (hY : ∀ (w : World) (h : Heap), YP w h -> (K w.params).In h)
  (F : ∀ (w : World) (mg : Str -> Option Value) (fa : Addr) (h : Heap), (K w.params).In h -> h.Ns mainGlobals mg -> mg d.name = some (.ref fa) ->
   ∃ fd : FuncData, (∀ (s : Shared) (u : Value), BindsTo s fd ⟨[u], []⟩ [("_law_script", u)]) /\ ∀ base : Heap, (K w.params).In base -> base.Ns mainGlobals mg -> FnOk l.prog w (K w.params) mg base CX0 21 fa fd ["_law_script"] (sp_law (K w.params))) :
  PySem.W.WalkO q loose XP YP l.row.toRowW d [] (fun f vs => PySem.call f vs) :=
 L2.walk_ofB (n := 63) (k := 21) (x := "_law_script") (CX := fun _ => CX0) (sp := fun w => sp_law (K w.params)) hn (by decide) hdf ⟨rfl, by decide, by decide⟩ hY F (fun _ _ a ns hl hb hO hS => ⟨a, ns, rfl, hS, hl, hb, hO, fun _ => rfl⟩) fun _ _ _ _ _ z => z
noncomputable def defPos (s : Stmt) : Pos := match s with
 | .FunctionDef _ _ _ _ _ _ _ _ _ p => p
 | _ => ⟨0, 0, 0, 0⟩
abbrev vs (x : String) (t : Nat) : Value := .str (Str.ofString x) t
abbrev de (P : Params) (x : String) (t : Nat) (v : Value) : DictEntry := ⟨PyData.keyHash P (Str.ofString x), vs x t, v⟩
noncomputable def hk : Params -> PySem.W.Frag := fun P =>
 (nat_lit 2, Obj.mk .none none (Data.dict #[]) #[]) ::
 (nat_lit 3, Obj.mk (.type "dict") none (Data.dict #[de P "__name__" 165 (vs "law_handflow_k21_waits_of_straight_deeds" 236), de P "__doc__" 166 .none, de P "__package__" 167 .none, de P "__loader__" 168 (.builtin "__main__.__loader__#opaque"), de P "__spec__" 169 .none, de P "__annotations__" 170 (.ref 6), de P "__builtins__" 171 (.ref 4), de P "__file__" 173 (vs "/claim/cut.py" 172), de P "__cached__" 174 .none, de P "INTO" 190 (.int 3 189), de P "OUT_OF" 192 (.int 4 191), de P "waits_of" 200 (.ref 21), de P "waits_behind" 206 (.ref 26), de P "waits_for_cards" 218 (.ref 33), de P "waits_by" 224 (.ref 38), de P "numbers_by_store" 235 (.ref 45), de P "_law_cell_at" 245 (.ref 52), de P "_law_mixed" 254 (.ref 59), de P "_law_letters" 265 (.ref 66), de P "_law_spelt" 273 (.ref 73), de P "_law_pool" 290 (.ref 80), de P "_law_simple" 305 (.ref 87), de P "_law_opened" 323 (.ref 94), de P "_law_block" 340 (.ref 101), de P "_law_cards" 346 (.ref 106), de P "_law_moves" 357 (.ref 113), de P "_law_reach" 370 (.ref 120), de P "_law_length" 378 (.ref 127), de P "_law_program" 384 (.ref 132), de P "_law_whole" 391 (.ref 139), de P "_law_alike" 400 (.ref 146), de P "_law_row" 406 (.ref 151), de P "_law_last" 412 (.ref 156), de P "_law_owner" 422 (.ref 163), de P "_law_due" 428 (.ref 168), de P "law" 434 (.ref 173)] 36) #[]) ::
 (nat_lit 20, Obj.mk (.type "code") none (Data.fields #[vs "waits_of" 193, vs "waits_of" 194, vs "/claim/cut.py" 195, .int 4 0, .int 2 0, .int 0 0, .int 0 0, .int 3 0, .ref 15, .bool true, .int 181 0, .ref 16, .none, .ref 17, .ref 18, .ref 19, .int 198 0, .int 4 0, vs "/claim/cut.py" 199]) #[]) ::
 (nat_lit 21, Obj.mk (.type "function") none (.func (PySem.W.fnOf "waits_of" "waits_of" (defArgs (top 3)) (defBody (top 3)) (defScope (top 3)) .none .none .none (vs "handflow.waits" 187) none (.ref 20) .none)) #[]) ::
 (nat_lit 25, Obj.mk (.type "code") none (Data.fields #[vs "waits_behind" 201, vs "waits_behind" 202, vs "/claim/cut.py" 203, .int 6 0, .int 3 0, .int 0 0, .int 0 0, .int 3 0, .ref 22, .bool true, .int 181 0, .ref 23, .none, .none, .none, .ref 24, .int 204 0, .int 6 0, vs "/claim/cut.py" 205]) #[]) ::
 (nat_lit 26, Obj.mk (.type "function") none (.func (PySem.W.fnOf "waits_behind" "waits_behind" (defArgs (top 4)) (defBody (top 4)) (defScope (top 4)) .none .none .none (vs "handflow.waits" 187) none (.ref 25) .none)) #[]) ::
 (nat_lit 32, Obj.mk (.type "code") none (Data.fields #[vs "waits_for_cards" 207, vs "waits_for_cards" 208, vs "/claim/cut.py" 209, .int 19 0, .int 1 0, .int 0 0, .int 0 0, .int 3 0, .ref 27, .bool true, .int 181 0, .ref 28, .none, .ref 29, .ref 30, .ref 31, .int 216 0, .int 19 0, vs "/claim/cut.py" 217]) #[]) ::
 (nat_lit 33, Obj.mk (.type "function") none (.func (PySem.W.fnOf "waits_for_cards" "waits_for_cards" (defArgs (top 5)) (defBody (top 5)) (defScope (top 5)) .none .none .none (vs "handflow.waits" 187) none (.ref 32) .none)) #[]) ::
 (nat_lit 37, Obj.mk (.type "code") none (Data.fields #[vs "waits_by" 219, vs "waits_by" 220, vs "/claim/cut.py" 221, .int 27 0, .int 3 0, .int 0 0, .int 0 0, .int 3 0, .ref 34, .bool true, .int 181 0, .ref 35, .none, .none, .none, .ref 36, .int 222 0, .int 27 0, vs "/claim/cut.py" 223]) #[]) ::
 (nat_lit 38, Obj.mk (.type "function") none (.func (PySem.W.fnOf "waits_by" "waits_by" (defArgs (top 6)) (defBody (top 6)) (defScope (top 6)) .none .none .none (vs "handflow.waits" 187) none (.ref 37) .none)) #[]) ::
 (nat_lit 44, Obj.mk (.type "code") none (Data.fields #[vs "numbers_by_store" 225, vs "numbers_by_store" 226, vs "/claim/cut.py" 227, .int 29 0, .int 2 0, .int 0 0, .int 0 0, .int 3 0, .ref 39, .bool true, .int 181 0, .ref 40, .none, .ref 41, .ref 42, .ref 43, .int 233 0, .int 29 0, vs "/claim/cut.py" 234]) #[]) ::
 (nat_lit 45, Obj.mk (.type "function") none (.func (PySem.W.fnOf "numbers_by_store" "numbers_by_store" (defArgs (top 7)) (defBody (top 7)) (defScope (top 7)) .none .none .none (vs "handflow.waits" 187) none (.ref 44) .none)) #[]) ::
 (nat_lit 51, Obj.mk (.type "code") none (Data.fields #[vs "_law_cell_at" 238, vs "_law_cell_at" 239, vs "/claim/cut.py" 240, .int 36 0, .int 2 0, .int 0 0, .int 0 0, .int 3 0, .ref 46, .bool true, .int 181 0, .ref 47, .none, .ref 48, .ref 49, .ref 50, .int 243 0, .int 36 0, vs "/claim/cut.py" 244]) #[]) ::
 (nat_lit 52, Obj.mk (.type "function") none (.func (PySem.W.fnOf "_law_cell_at" "_law_cell_at" (defArgs (top 9)) (defBody (top 9)) (defScope (top 9)) .none .none .none (vs "law_handflow_k21_waits_of_straight_deeds" 236) none (.ref 51) .none)) #[]) ::
 (nat_lit 58, Obj.mk (.type "code") none (Data.fields #[vs "_law_mixed" 246, vs "_law_mixed" 247, vs "/claim/cut.py" 248, .int 40 0, .int 2 0, .int 0 0, .int 0 0, .int 3 0, .ref 53, .bool true, .int 181 0, .ref 54, .none, .ref 55, .ref 56, .ref 57, .int 252 0, .int 40 0, vs "/claim/cut.py" 253]) #[]) ::
 (nat_lit 59, Obj.mk (.type "function") none (.func (PySem.W.fnOf "_law_mixed" "_law_mixed" (defArgs (top 10)) (defBody (top 10)) (defScope (top 10)) .none .none .none (vs "law_handflow_k21_waits_of_straight_deeds" 236) none (.ref 58) .none)) #[]) ::
 (nat_lit 65, Obj.mk (.type "code") none (Data.fields #[vs "_law_letters" 255, vs "_law_letters" 256, vs "/claim/cut.py" 257, .int 43 0, .int 2 0, .int 0 0, .int 0 0, .int 3 0, .ref 60, .bool true, .int 181 0, .ref 61, .none, .ref 62, .ref 63, .ref 64, .int 263 0, .int 43 0, vs "/claim/cut.py" 264]) #[]) ::
 (nat_lit 66, Obj.mk (.type "function") none (.func (PySem.W.fnOf "_law_letters" "_law_letters" (defArgs (top 11)) (defBody (top 11)) (defScope (top 11)) .none .none .none (vs "law_handflow_k21_waits_of_straight_deeds" 236) none (.ref 65) .none)) #[]) ::
 (nat_lit 72, Obj.mk (.type "code") none (Data.fields #[vs "_law_spelt" 266, vs "_law_spelt" 267, vs "/claim/cut.py" 268, .int 50 0, .int 1 0, .int 0 0, .int 0 0, .int 3 0, .ref 67, .bool true, .int 181 0, .ref 68, .none, .ref 69, .ref 70, .ref 71, .int 271 0, .int 50 0, vs "/claim/cut.py" 272]) #[]) ::
 (nat_lit 73, Obj.mk (.type "function") none (.func (PySem.W.fnOf "_law_spelt" "_law_spelt" (defArgs (top 12)) (defBody (top 12)) (defScope (top 12)) .none .none .none (vs "law_handflow_k21_waits_of_straight_deeds" 236) none (.ref 72) .none)) #[]) ::
 (nat_lit 79, Obj.mk (.type "code") none (Data.fields #[vs "_law_pool" 274, vs "_law_pool" 275, vs "/claim/cut.py" 276, .int 55 0, .int 2 0, .int 0 0, .int 0 0, .int 3 0, .ref 74, .bool true, .int 181 0, .ref 75, .none, .ref 76, .ref 77, .ref 78, .int 288 0, .int 55 0, vs "/claim/cut.py" 289]) #[]) ::
 (nat_lit 80, Obj.mk (.type "function") none (.func (PySem.W.fnOf "_law_pool" "_law_pool" (defArgs (top 13)) (defBody (top 13)) (defScope (top 13)) .none .none .none (vs "law_handflow_k21_waits_of_straight_deeds" 236) none (.ref 79) .none)) #[]) ::
 (nat_lit 86, Obj.mk (.type "code") none (Data.fields #[vs "_law_simple" 291, vs "_law_simple" 292, vs "/claim/cut.py" 293, .int 74 0, .int 4 0, .int 0 0, .int 0 0, .int 3 0, .ref 81, .bool true, .int 181 0, .ref 82, .none, .ref 83, .ref 84, .ref 85, .int 303 0, .int 74 0, vs "/claim/cut.py" 304]) #[]) ::
 (nat_lit 87, Obj.mk (.type "function") none (.func (PySem.W.fnOf "_law_simple" "_law_simple" (defArgs (top 14)) (defBody (top 14)) (defScope (top 14)) .none .none .none (vs "law_handflow_k21_waits_of_straight_deeds" 236) none (.ref 86) .none)) #[]) ::
 (nat_lit 93, Obj.mk (.type "code") none (Data.fields #[vs "_law_opened" 306, vs "_law_opened" 307, vs "/claim/cut.py" 308, .int 89 0, .int 4 0, .int 0 0, .int 0 0, .int 3 0, .ref 88, .bool true, .int 181 0, .ref 89, .none, .ref 90, .ref 91, .ref 92, .int 321 0, .int 89 0, vs "/claim/cut.py" 322]) #[]) ::
 (nat_lit 94, Obj.mk (.type "function") none (.func (PySem.W.fnOf "_law_opened" "_law_opened" (defArgs (top 15)) (defBody (top 15)) (defScope (top 15)) .none .none .none (vs "law_handflow_k21_waits_of_straight_deeds" 236) none (.ref 93) .none)) #[]) ::
 (nat_lit 100, Obj.mk (.type "code") none (Data.fields #[vs "_law_block" 324, vs "_law_block" 325, vs "/claim/cut.py" 326, .int 113 0, .int 5 0, .int 0 0, .int 0 0, .int 3 0, .ref 95, .bool true, .int 181 0, .ref 96, .none, .ref 97, .ref 98, .ref 99, .int 338 0, .int 113 0, vs "/claim/cut.py" 339]) #[]) ::
 (nat_lit 101, Obj.mk (.type "function") none (.func (PySem.W.fnOf "_law_block" "_law_block" (defArgs (top 16)) (defBody (top 16)) (defScope (top 16)) .none .none .none (vs "law_handflow_k21_waits_of_straight_deeds" 236) none (.ref 100) .none)) #[]) ::
 (nat_lit 105, Obj.mk (.type "code") none (Data.fields #[vs "_law_cards" 341, vs "_law_cards" 342, vs "/claim/cut.py" 343, .int 130 0, .int 1 0, .int 0 0, .int 0 0, .int 3 0, .ref 102, .bool true, .int 181 0, .ref 103, .none, .none, .none, .ref 104, .int 344 0, .int 130 0, vs "/claim/cut.py" 345]) #[]) ::
 (nat_lit 106, Obj.mk (.type "function") none (.func (PySem.W.fnOf "_law_cards" "_law_cards" (defArgs (top 17)) (defBody (top 17)) (defScope (top 17)) .none .none .none (vs "law_handflow_k21_waits_of_straight_deeds" 236) none (.ref 105) .none)) #[]) ::
 (nat_lit 112, Obj.mk (.type "code") none (Data.fields #[vs "_law_moves" 347, vs "_law_moves" 348, vs "/claim/cut.py" 349, .int 148 0, .int 1 0, .int 0 0, .int 0 0, .int 3 0, .ref 107, .bool true, .int 181 0, .ref 108, .none, .ref 109, .ref 110, .ref 111, .int 355 0, .int 148 0, vs "/claim/cut.py" 356]) #[]) ::
 (nat_lit 113, Obj.mk (.type "function") none (.func (PySem.W.fnOf "_law_moves" "_law_moves" (defArgs (top 18)) (defBody (top 18)) (defScope (top 18)) .none .none .none (vs "law_handflow_k21_waits_of_straight_deeds" 236) none (.ref 112) .none)) #[]) ::
 (nat_lit 119, Obj.mk (.type "code") none (Data.fields #[vs "_law_reach" 358, vs "_law_reach" 359, vs "/claim/cut.py" 360, .int 158 0, .int 2 0, .int 0 0, .int 0 0, .int 3 0, .ref 114, .bool true, .int 181 0, .ref 115, .none, .ref 116, .ref 117, .ref 118, .int 368 0, .int 158 0, vs "/claim/cut.py" 369]) #[]) ::
 (nat_lit 120, Obj.mk (.type "function") none (.func (PySem.W.fnOf "_law_reach" "_law_reach" (defArgs (top 19)) (defBody (top 19)) (defScope (top 19)) .none .none .none (vs "law_handflow_k21_waits_of_straight_deeds" 236) none (.ref 119) .none)) #[]) ::
 (nat_lit 126, Obj.mk (.type "code") none (Data.fields #[vs "_law_length" 371, vs "_law_length" 372, vs "/claim/cut.py" 373, .int 168 0, .int 2 0, .int 0 0, .int 0 0, .int 3 0, .ref 121, .bool true, .int 181 0, .ref 122, .none, .ref 123, .ref 124, .ref 125, .int 376 0, .int 168 0, vs "/claim/cut.py" 377]) #[]) ::
 (nat_lit 127, Obj.mk (.type "function") none (.func (PySem.W.fnOf "_law_length" "_law_length" (defArgs (top 20)) (defBody (top 20)) (defScope (top 20)) .none .none .none (vs "law_handflow_k21_waits_of_straight_deeds" 236) none (.ref 126) .none)) #[]) ::
 (nat_lit 131, Obj.mk (.type "code") none (Data.fields #[vs "_law_program" 379, vs "_law_program" 380, vs "/claim/cut.py" 381, .int 174 0, .int 2 0, .int 0 0, .int 0 0, .int 3 0, .ref 128, .bool true, .int 181 0, .ref 129, .none, .none, .none, .ref 130, .int 382 0, .int 174 0, vs "/claim/cut.py" 383]) #[]) ::
 (nat_lit 132, Obj.mk (.type "function") none (.func (PySem.W.fnOf "_law_program" "_law_program" (defArgs (top 21)) (defBody (top 21)) (defScope (top 21)) .none .none .none (vs "law_handflow_k21_waits_of_straight_deeds" 236) none (.ref 131) .none)) #[]) ::
 (nat_lit 138, Obj.mk (.type "code") none (Data.fields #[vs "_law_whole" 385, vs "_law_whole" 386, vs "/claim/cut.py" 387, .int 191 0, .int 1 0, .int 0 0, .int 0 0, .int 3 0, .ref 133, .bool true, .int 181 0, .ref 134, .none, .ref 135, .ref 136, .ref 137, .int 389 0, .int 191 0, vs "/claim/cut.py" 390]) #[]) ::
 (nat_lit 139, Obj.mk (.type "function") none (.func (PySem.W.fnOf "_law_whole" "_law_whole" (defArgs (top 22)) (defBody (top 22)) (defScope (top 22)) .none .none .none (vs "law_handflow_k21_waits_of_straight_deeds" 236) none (.ref 138) .none)) #[]) ::
 (nat_lit 145, Obj.mk (.type "code") none (Data.fields #[vs "_law_alike" 392, vs "_law_alike" 393, vs "/claim/cut.py" 394, .int 193 0, .int 2 0, .int 0 0, .int 0 0, .int 3 0, .ref 140, .bool true, .int 181 0, .ref 141, .none, .ref 142, .ref 143, .ref 144, .int 398 0, .int 193 0, vs "/claim/cut.py" 399]) #[]) ::
 (nat_lit 146, Obj.mk (.type "function") none (.func (PySem.W.fnOf "_law_alike" "_law_alike" (defArgs (top 23)) (defBody (top 23)) (defScope (top 23)) .none .none .none (vs "law_handflow_k21_waits_of_straight_deeds" 236) none (.ref 145) .none)) #[]) ::
 (nat_lit 150, Obj.mk (.type "code") none (Data.fields #[vs "_law_row" 401, vs "_law_row" 402, vs "/claim/cut.py" 403, .int 210 0, .int 1 0, .int 0 0, .int 0 0, .int 3 0, .ref 147, .bool true, .int 181 0, .ref 148, .none, .none, .none, .ref 149, .int 404 0, .int 210 0, vs "/claim/cut.py" 405]) #[]) ::
 (nat_lit 151, Obj.mk (.type "function") none (.func (PySem.W.fnOf "_law_row" "_law_row" (defArgs (top 24)) (defBody (top 24)) (defScope (top 24)) .none .none .none (vs "law_handflow_k21_waits_of_straight_deeds" 236) none (.ref 150) .none)) #[]) ::
 (nat_lit 155, Obj.mk (.type "code") none (Data.fields #[vs "_law_last" 407, vs "_law_last" 408, vs "/claim/cut.py" 409, .int 221 0, .int 1 0, .int 0 0, .int 0 0, .int 3 0, .ref 152, .bool true, .int 181 0, .ref 153, .none, .none, .none, .ref 154, .int 410 0, .int 221 0, vs "/claim/cut.py" 411]) #[]) ::
 (nat_lit 156, Obj.mk (.type "function") none (.func (PySem.W.fnOf "_law_last" "_law_last" (defArgs (top 25)) (defBody (top 25)) (defScope (top 25)) .none .none .none (vs "law_handflow_k21_waits_of_straight_deeds" 236) none (.ref 155) .none)) #[]) ::
 (nat_lit 162, Obj.mk (.type "code") none (Data.fields #[vs "_law_owner" 413, vs "_law_owner" 414, vs "/claim/cut.py" 415, .int 225 0, .int 3 0, .int 0 0, .int 0 0, .int 3 0, .ref 157, .bool true, .int 181 0, .ref 158, .none, .ref 159, .ref 160, .ref 161, .int 420 0, .int 225 0, vs "/claim/cut.py" 421]) #[]) ::
 (nat_lit 163, Obj.mk (.type "function") none (.func (PySem.W.fnOf "_law_owner" "_law_owner" (defArgs (top 26)) (defBody (top 26)) (defScope (top 26)) .none .none .none (vs "law_handflow_k21_waits_of_straight_deeds" 236) none (.ref 162) .none)) #[]) ::
 (nat_lit 167, Obj.mk (.type "code") none (Data.fields #[vs "_law_due" 423, vs "_law_due" 424, vs "/claim/cut.py" 425, .int 232 0, .int 3 0, .int 0 0, .int 0 0, .int 3 0, .ref 164, .bool true, .int 181 0, .ref 165, .none, .none, .none, .ref 166, .int 426 0, .int 232 0, vs "/claim/cut.py" 427]) #[]) ::
 (nat_lit 168, Obj.mk (.type "function") none (.func (PySem.W.fnOf "_law_due" "_law_due" (defArgs (top 27)) (defBody (top 27)) (defScope (top 27)) .none .none .none (vs "law_handflow_k21_waits_of_straight_deeds" 236) none (.ref 167) .none)) #[]) ::
 (nat_lit 172, Obj.mk (.type "code") none (Data.fields #[vs "law" 429, vs "law" 430, vs "/claim/cut.py" 431, .int 250 0, .int 1 0, .int 0 0, .int 0 0, .int 3 0, .ref 169, .bool true, .int 181 0, .ref 170, .none, .none, .none, .ref 171, .int 432 0, .int 250 0, vs "/claim/cut.py" 433]) #[]) ::
 (nat_lit 173, Obj.mk (.type "function") none (.func (PySem.W.fnOf "law" "law" (defArgs (top 28)) (defBody (top 28)) (defScope (top 28)) .none .none .none (vs "law_handflow_k21_waits_of_straight_deeds" 236) none (.ref 172) .none)) #[]) ::
 []
noncomputable def hks : List Addr := [2, 3, 20, 21, 25, 26, 32, 33, 37, 38, 44, 45, 51, 52, 58, 59, 65, 66, 72, 73, 79, 80, 86, 87, 93, 94, 100, 101, 105, 106, 112, 113, 119, 120, 126, 127, 131, 132, 138, 139, 145, 146, 150, 151, 155, 156, 162, 163, 167, 168, 172, 173]
theorem hk_as : ∀ P, hks = (hk P).map (·.1) := fun _ => by kernel_rfl
noncomputable def vw : Program := PySem.W.view PySem.Challenge.pw_handflow_k21_waits_of_straight_deeds [1, 2, 3, 4, 5, 6, 7, 9, 10, 11, 12, 13, 14, 15, 16, 17, 18, 19, 20, 21, 22, 23, 24, 25, 26, 27, 28]
noncomputable def hkH : PySem.W.Hook := PySem.W.kHook hk hks hk_as
noncomputable def xt (s : Shared) : Bool := PySem.W.xlAt vw [] s && PySem.W.recOk (PySem.W.RowW.records (PySem.W.OpenRow.toRowW (PySem.W.OpenLaw.row PySem.Challenge.rw_handflow_k21_waits_of_straight_deeds))) s
noncomputable def dlaw : PySem.DefRec := ⟨"law", defArgs s_law, defBody s_law, defScope s_law, defPos s_law⟩
set_option maxHeartbeats 0 in
theorem left : PySem.W.LeftO PySem.Challenge.pw_handflow_k21_waits_of_straight_deeds vw [] xt hkH.obs hkH.val 1746 := fun w => by kernel_rfl
set_option maxHeartbeats 0 in
theorem said : PySem.W.OpenLaw.wellSaid PySem.Challenge.rw_handflow_k21_waits_of_straight_deeds = true := by kernel_rfl
end K21
open PySem PySem.W PyProof.Rows
set_option maxRecDepth 100000 in
set_option maxHeartbeats 0 in
theorem PySem.Challenge.cw_handflow_k21_waits_of_straight_deeds_holds : PySem.Challenge.rw_handflow_k21_waits_of_straight_deeds.Holds := by
 w_on; refine holds_law K21.said fun said => ?_
 refine holds_open (q := K21.vw) (loose := []) (Xt := K21.xt) (XP := XL K21.vw []) (Yf := Hook.obs K21.hkH) (Ya := Hook.val K21.hkH) (YP := Hook.says K21.hkH) (d := K21.dlaw) (kwd := []) (N := 1746) K21.left (Hook.of K21.hkH) (Hook.keeps K21.hkH) (fun s e => xl_of s (Bool.and_eq_true_iff.mp e).1) XL.keeps (by kernel_rfl) (by kernel_rfl) (by kernel_rfl) (fun s e => recFacts_of (Bool.and_eq_true_iff.mp e).2) (by rfl) (by first | assumption | decide +kernel) (by decide +kernel) ⟨rfl, rfl, rfl, rfl, rfl, by decide +kernel⟩ ?hw ?hc
 (case hw => w_witness2)
 refine K21.walk (l := PySem.Challenge.rw_handflow_k21_waits_of_straight_deeds) rfl (by kernel_rfl) (K := K21.hk) (fun w h Y => PySem.W.kIn_of (K := K21.hk) (as := K21.hks) (e := K21.hk_as) Y) ?F
 case F =>
  k_fill
  intro w mg fa h KX G hmg
  refine' K21.all_mk KX G hmg ?a0 ?l0 ?c0 ?k0 ?a1 ?l1 ?c1 ?k1 ?a2 ?l2 ?c2 ?k2 ?a3 ?l3 ?c3 ?k3 ?a4 ?l4 ?c4 ?k4 ?a5 ?l5 ?c5 ?k5 ?a6 ?l6 ?c6 ?k6 ?a7 ?l7 ?c7 ?k7 ?a8 ?l8 ?c8 ?k8 ?a9 ?l9 ?c9 ?k9 ?a10 ?l10 ?c10 ?k10 ?a11 ?l11 ?c11 ?k11 ?a12 ?l12 ?c12 ?k12 ?a13 ?l13 ?c13 ?k13 ?a14 ?l14 ?c14 ?k14 ?a15 ?l15 ?c15 ?k15 ?a16 ?l16 ?c16 ?k16 ?a17 ?l17 ?c17 ?k17 ?a18 ?l18 ?c18 ?k18 ?a19 ?l19 ?c19 ?k19 ?a20 ?l20 ?c20 ?k20 ?a21 ?l21 ?c21 ?k21 ?a22 ?l22 ?c22 ?k22 ?a23 ?l23 ?c23 ?k23 ?a24 ?l24 ?c24 ?k24 ?z_bool ?z_dict ?z_enumerate ?z_int ?z_isinstance ?z_len ?z_list ?z_max ?z_min ?z_range ?z_reversed ?z_set ?z_sorted ?z_str ?z_tuple ?z_zip ?c_INTO ?c_OUT_OF
  (case a0 => k_is)
  (case l0 => k_is)
  (case c0 => k_is)
  (case k0 => k_is)
  (case a1 => k_is)
  (case l1 => k_is)
  (case c1 => k_is)
  (case k1 => k_is)
  (case a2 => k_is)
  (case l2 => k_is)
  (case c2 => k_is)
  (case k2 => k_is)
  (case a3 => k_is)
  (case l3 => k_is)
  (case c3 => k_is)
  (case k3 => k_is)
  (case a4 => k_is)
  (case l4 => k_is)
  (case c4 => k_is)
  (case k4 => k_is)
  (case a5 => k_is)
  (case l5 => k_is)
  (case c5 => k_is)
  (case k5 => k_is)
  (case a6 => k_is)
  (case l6 => k_is)
  (case c6 => k_is)
  (case k6 => k_is)
  (case a7 => k_is)
  (case l7 => k_is)
  (case c7 => k_is)
  (case k7 => k_is)
  (case a8 => k_is)
  (case l8 => k_is)
  (case c8 => k_is)
  (case k8 => k_is)
  (case a9 => k_is)
  (case l9 => k_is)
  (case c9 => k_is)
  (case k9 => k_is)
  (case a10 => k_is)
  (case l10 => k_is)
  (case c10 => k_is)
  (case k10 => k_is)
  (case a11 => k_is)
  (case l11 => k_is)
  (case c11 => k_is)
  (case k11 => k_is)
  (case a12 => k_is)
  (case l12 => k_is)
  (case c12 => k_is)
  (case k12 => k_is)
  (case a13 => k_is)
  (case l13 => k_is)
  (case c13 => k_is)
  (case k13 => k_is)
  (case a14 => k_is)
  (case l14 => k_is)
  (case c14 => k_is)
  (case k14 => k_is)
  (case a15 => k_is)
  (case l15 => k_is)
  (case c15 => k_is)
  (case k15 => k_is)
  (case a16 => k_is)
  (case l16 => k_is)
  (case c16 => k_is)
  (case k16 => k_is)
  (case a17 => k_is)
  (case l17 => k_is)
  (case c17 => k_is)
  (case k17 => k_is)
  (case a18 => k_is)
  (case l18 => k_is)
  (case c18 => k_is)
  (case k18 => k_is)
  (case a19 => k_is)
  (case l19 => k_is)
  (case c19 => k_is)
  (case k19 => k_is)
  (case a20 => k_is)
  (case l20 => k_is)
  (case c20 => k_is)
  (case k20 => k_is)
  (case a21 => k_is)
  (case l21 => k_is)
  (case c21 => k_is)
  (case k21 => k_is)
  (case a22 => k_is)
  (case l22 => k_is)
  (case c22 => k_is)
  (case k22 => k_is)
  (case a23 => k_is)
  (case l23 => k_is)
  (case c23 => k_is)
  (case k23 => k_is)
  (case a24 => k_is)
  (case l24 => k_is)
  (case c24 => k_is)
  (case k24 => k_is)
  (case z_bool => k_is)
  (case z_dict => k_is)
  (case z_enumerate => k_is)
  (case z_int => k_is)
  (case z_isinstance => k_is)
  (case z_len => k_is)
  (case z_list => k_is)
  (case z_max => k_is)
  (case z_min => k_is)
  (case z_range => k_is)
  (case z_reversed => k_is)
  (case z_set => k_is)
  (case z_sorted => k_is)
  (case z_str => k_is)
  (case z_tuple => k_is)
  (case z_zip => k_is)
  (case c_INTO => k_is)
  (case c_OUT_OF => k_is)
