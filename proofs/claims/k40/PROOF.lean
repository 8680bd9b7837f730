import PyProof.Rows.All
import Wide.All
import OpenK.AllK
import Wide.FinOn
import Lean
import PyProof.EqAt
import PyProof.EqKinds
import PyProof.TupleCall
import PySem.Challenge.RW_handflow_k40_made
set_option Elab.async false
set_option linter.all false
set_option maxRecDepth 100000
namespace L2
open PySem PySem.Spec PyProof.Rows
abbrev Key := Sum Int Str
def keyIs : Key → Value → Bool
  | .inl k, v => Value.isInt k v
  | .inr x, v => Value.isStrOf x v
def keyH (w : World) : Key → Int
  | .inl k => hashInt k
  | .inr x => hashStr w x
theorem keyIs_shape : ∀ {k : Key} {v : Value}, keyIs k v = true → (∃ i t, k = Sum.inl i ∧ v = Value.int i t) ∨ (∃ x t, k = Sum.inr x ∧ v = Value.str x t)
  | .inl i, v, h => by
    obtain ⟨t, e⟩ := Value.isInt_shape (k := i) (v := v) h
    exact .inl ⟨i, t, rfl, e⟩
  | .inr x, v, h => by
    obtain ⟨t, e⟩ := Value.isStrOf_shape (x := x) (v := v) h
    exact .inr ⟨x, t, rfl, e⟩
theorem key_ll (a b : Int) : decide ((Sum.inl a : Key) = Sum.inl b) = (a == b) := by
  by_cases e : a = b
  · subst e; simp
  · have h : ¬ (Sum.inl a : Key) = Sum.inl b := fun q => e (Sum.inl.inj q)
    rw [decide_eq_false h]
    exact (beq_eq_false_iff_ne.mpr e).symm
theorem key_rr (a b : Str) : decide ((Sum.inr a : Key) = Sum.inr b) = decide (a = b) := by
  by_cases e : a = b
  · subst e; simp
  · have h : ¬ (Sum.inr a : Key) = Sum.inr b := fun q => e (Sum.inr.inj q)
    rw [decide_eq_false h, decide_eq_false e]
theorem key_lr (a : Int) (b : Str) : decide ((Sum.inl a : Key) = Sum.inr b) = false := decide_eq_false (fun q => nomatch q)
theorem key_rl (a : Str) (b : Int) : decide ((Sum.inr a : Key) = Sum.inl b) = false := decide_eq_false (fun q => nomatch q)
def mixKind (prog : Program) (w : World) : PySem.KeyKind prog w Key where
  is := keyIs
  hash := keyH w
  inj := fun v a b ha hb => by
    rcases keyIs_shape ha with ⟨i, t, rfl, rfl⟩ | ⟨x, t, rfl, rfl⟩
    · rcases keyIs_shape hb with ⟨j, u, rfl, e⟩ | ⟨y, u, rfl, e⟩
      · injection e with e1 _; rw [e1]
      · exact nomatch e
    · rcases keyIs_shape hb with ⟨j, u, rfl, e⟩ | ⟨y, u, rfl, e⟩
      · exact nomatch e
      · injection e with e1 _; rw [e1]
  byValue := fun k v h => by
    rcases keyIs_shape h with ⟨i, t, rfl, rfl⟩ | ⟨x, t, rfl, rfl⟩ <;> rfl
  pyHash := fun hv h => by
    rcases keyIs_shape hv with ⟨i, t, rfl, rfl⟩ | ⟨x, t, rfl, rfl⟩
    · exact wpAny_pyHash_int h
    · exact wpAny_pyHash_str h
  eqBool := fun hu hv h => by
    rcases keyIs_shape hu with ⟨i, t, rfl, rfl⟩ | ⟨x, t, rfl, rfl⟩
    · rcases keyIs_shape hv with ⟨j, u, rfl, rfl⟩ | ⟨y, u, rfl, rfl⟩
      · rw [key_ll] at h; exact wpAny_eqBool_int h
      · rw [key_lr] at h; exact SeqAt.EqAt.int_str i t y u _ _ _ _ h
    · rcases keyIs_shape hv with ⟨j, u, rfl, rfl⟩ | ⟨y, u, rfl, rfl⟩
      · rw [key_rl] at h; exact SeqAt.EqAt.str_int x t j u _ _ _ _ h
      · rw [key_rr] at h; exact wpAny_eqBool_str h
  «strs» := fun k x t v h => by
    rcases keyIs_shape h with ⟨i, u, rfl, e⟩ | ⟨y, u, rfl, e⟩
    · exact nomatch e
    · injection e with e1 _
      subst e1
      cases v <;> rfl
end L2
namespace L2
open PySem PySem.Spec PyProof.Rows
inductive V where
  | non | bl (b : Bool) | int (i : Int) | str (x : Str) | byt (b : Array UInt8) | flt (b : UInt64) | ref (a : Addr) | ty (n : String)
  deriving DecidableEq
def RelV : V → Value → Prop
  | .non, u => u = Value.none
  | .bl b, u => u = Value.bool b
  | .int i, u => ∃ t, u = Value.int i t
  | .str x, u => ∃ t, u = Value.str x t
  | .byt b, u => ∃ t, u = Value.bytes b t
  | .flt b, u => ∃ t, u = Value.float b t
  | .ref a, u => u = Value.ref a
  | .ty n, u => u = Value.type n
abbrev Vals : List V → List Value → Prop := Paired RelV
theorem Vals.length {xs : List V} {us : List Value} (r : Vals xs us) : xs.length = us.length := Paired.length r
theorem Vals.get : ∀ {xs : List V} {us : List Value} {i : Nat} {x : V}, Vals xs us → xs[i]? = some x → ∃ u, us[i]? = some u ∧ RelV x u
  | _, _, _, _, .nil, e => by simp at e
  | _, _, 0, _, .cons r _, e => by simp at e; subst e; exact ⟨_, rfl, r⟩
  | _, _, i + 1, x, .cons _ t, e => by
    obtain ⟨u, h1, h2⟩ := Vals.get (i := i) (x := x) t (by simpa using e)
    exact ⟨u, by simpa using h1, h2⟩
theorem Vals.set {x : V} {u : Value} (r : RelV x u) : ∀ {xs : List V} {us : List Value} (i : Nat), Vals xs us → Vals (xs.set i x) (us.set i u)
  | _, _, _, .nil => .nil
  | _, _, 0, .cons _ t => .cons r t
  | _, _, i + 1, .cons q t => .cons q (Vals.set r i t)
theorem Vals.append : ∀ {xs ys : List V} {us ws : List Value}, Vals xs us → Vals ys ws → Vals (xs ++ ys) (us ++ ws)
  | _, _, _, _, .nil, s => s
  | _, _, _, _, .cons r t, s => .cons r (Vals.append t s)
theorem Vals.take : ∀ {xs : List V} {us : List Value} (n : Nat), Vals xs us → Vals (xs.take n) (us.take n)
  | _, _, 0, _ => .nil
  | _, _, _ + 1, .nil => .nil
  | _, _, n + 1, .cons r t => .cons r (Vals.take n t)
theorem Vals.drop : ∀ {xs : List V} {us : List Value} (n : Nat), Vals xs us → Vals (xs.drop n) (us.drop n)
  | _, _, 0, r => r
  | _, _, _ + 1, .nil => .nil
  | _, _, n + 1, .cons _ t => Vals.drop n t
theorem Vals.none_of : ∀ {xs : List V} {us : List Value} {i : Nat}, Vals xs us → xs[i]? = none → us[i]? = none := fun {xs us i} r e => by
  have h1 := r.length
  have h2 : xs.length ≤ i := List.getElem?_eq_none_iff.mp e
  exact List.getElem?_eq_none_iff.mpr (by omega)
def RelO : Option V → Option Value → Prop
  | some v, some u => RelV v u
  | none, none => True
  | _, _ => False
def KV {κ : Type} : List (κ × V) → List (κ × Value) → Prop := Paired fun (p : κ × V) (q : κ × Value) => p.1 = q.1 ∧ RelV p.2 q.2
def kV : Key → V
  | .inl i => .int i
  | .inr x => .str x
inductive HO where
  | lst (xs : List V)
  | tup (xs : List V)
  | dK (kvs : List (Key × V)) | dT (kvs : List (List Key × V))
  | set (S : Int → Bool) (n : Nat)
  | ins (C dx : Addr) (fs : List (Str × V))
  | own (x : Addr)
  | xd (fs : List (Str × V))
  | met (f x : Addr)
  | rng (lo hi : Int)
  | frz (o : Obj) (u : HO)
  | tbl (ps : Array Value)
  | ext (φ : Heap → Prop)
abbrev Hp := Addr → Option HO
def upd (H : Hp) (a : Addr) (o : HO) : Hp := fun b => if b = a then some o else H b
theorem upd_same {H : Hp} {a : Addr} {o : HO} : upd H a o a = some o := by unfold upd; rw [if_pos rfl]
theorem upd_ne {H : Hp} {a b : Addr} {o : HO} (h : b ≠ a) : upd H a o b = H b := by unfold upd; rw [if_neg h]
theorem ne_of {H : Hp} {a b : Addr} {o u : HO} (h : H a = some o) (h' : H b = some u) (d : o ≠ u) : a ≠ b := by
  intro e; subst e; rw [h] at h'; exact d (Option.some.inj h')
theorem ne_of_none {H : Hp} {a b : Addr} {o : HO} (h : H a = some o) (h' : H b = none) : a ≠ b := by
  intro e; subst e; rw [h] at h'; cases h'
section
variable (P : Program) (w : World)
def ObjOk (H : Hp) (h : Heap) (a : Addr) : HO → Prop
  | .lst xs => xs.length ≤ sizeLine ∧ ∃ (its : List Value) (n : Nat), Vals xs its ∧ h.get? a = some { cls := .type "list", data := .seq its.toArray n }
  | .tup xs => xs.length ≤ sizeLine ∧ ∃ its : List Value, Vals xs its ∧ IsTup h a its.toArray
  | .dK kvs => kvs.length ≤ sizeLine ∧ (a == sysModules) = false ∧ ∃ vs, KV kvs vs ∧ h.DictOf (mixKind P w) a vs
  | .dT kvs => kvs.length ≤ sizeLine ∧ (a == sysModules) = false ∧ ∃ xs : List (List Key × Addr × Value),
      Paired (fun (p : List Key × V) (q : List Key × Addr × Value) => p.1 = q.1 ∧ H q.2.1 = some (.tup (p.1.map kV)) ∧ RelV p.2 q.2.2) kvs xs ∧
      ∃ o es ep, h.get? a = some o ∧ o.ExactDict ∧ o.data = .dict es ep ∧ es.toList = xs.map (entryOfKey (tupleKind (mixKind P w))) ∧ (xs.map (·.1)).Nodup
  | .set S n => h.SetOf (intKind P w) a S n
  | .ins C dx fs => H dx = some (.own a) ∧ fs.length ≤ 1000 ∧ dx ≠ a ∧ h.get? a = some (PySem.W.instObj C dx) ∧
      ∃ mA, h.Ns1 dx mA ∧ (∀ f, RelO (fs.lookup f) (mA f)) ∧ PySem.Within mA (fs.map (·.1))
  | .own _ => ∃ o, h.get? a = some o
  | .xd fs => ∃ mA, h.Ns1 a mA ∧ ∀ f, RelO (fs.lookup f) (mA f)
  | .rng lo hi => ∃ t u v, h.get? a = some { cls := .type "range", data := .fields #[.int lo t, .int hi u, .int 1 v] }
  | .frz o u => h.get? a = some o ∧ ObjOk H h a u
  | .tbl ps => h.get? a = some { cls := .none, data := .fields ps }
  | .met f x => h.get? a = some (PySem.W.methodObj (.ref f) (.ref x))
  | .ext φ => φ h ∧ (∃ o, h.get? a = some o) ∧ ∀ h1 h2 : Heap, φ h1 → (∀ o, h1.get? a = some o → h2.get? a = some o) → φ h2
def HOk (H : Hp) (h : Heap) : Prop := ∀ a o, H a = some o → ObjOk P w H h a o
end
section
variable {P : Program} {w : World} {H H' : Hp} {h h' : Heap} {a : Addr} {o : HO}
theorem ObjOk.lt (x : ObjOk P w H h a o) : a < h.objs.size := by
  cases o with
  | lst xs => obtain ⟨_, _, _, _, e⟩ := x; exact Heap.lt_size e
  | tup xs => obtain ⟨_, _, _, p⟩ := x; exact p.lt
  | dK kvs => obtain ⟨_, _, _, _, o, _, _, e, _⟩ := x; exact Heap.lt_size e
  | dT kvs => obtain ⟨_, _, _, _, o, _, _, e, _⟩ := x; exact Heap.lt_size e
  | set S n => obtain ⟨o, _, _, _, e, _⟩ := x; exact Heap.lt_size e
  | ins C dx fs => obtain ⟨_, _, _, e, _⟩ := x; exact Heap.lt_size e
  | own y => obtain ⟨_, e⟩ := x; exact Heap.lt_size e
  | xd fs => obtain ⟨_, ⟨_, _, _, e, _⟩, _⟩ := x; exact Heap.lt_size e
  | rng lo hi => obtain ⟨_, _, _, e⟩ := x; exact Heap.lt_size e
  | frz ob u => obtain ⟨e, _⟩ := x; exact Heap.lt_size e
  | tbl ps => exact Heap.lt_size (show h.get? a = some _ from x)
  | met f y => exact Heap.lt_size (show h.get? a = some _ from x)
  | ext φ => obtain ⟨_, ⟨_, e⟩, _⟩ := x; exact Heap.lt_size e
theorem Paired.mapP {α β : Type} {F G : α → β → Prop} : ∀ {l₁ : List α} {l₂ : List β}, Paired F l₁ l₂ → (∀ a b, F a b → G a b) → Paired G l₁ l₂
  | _, _, .nil, _ => .nil
  | _, _, .cons r t, f => .cons (f _ _ r) (Paired.mapP t f)
theorem ObjOk.stay (x : ObjOk P w H h a o) (k : ∀ b u, (b = a ∨ H b = some (.own a)) → h.get? b = some u → h'.get? b = some u)
    (ho : ∀ b, H b = some (.own a) → H' b = some (.own a)) (ht : ∀ b xs, H b = some (.tup xs) → H' b = some (.tup xs)) : ObjOk P w H' h' a o := by
  induction o with
  | lst xs => obtain ⟨z, its, n, r, e⟩ := x; exact ⟨z, its, n, r, k _ _ (.inl rfl) e⟩
  | tup xs => obtain ⟨z, its, r, ob, e, c⟩ := x; exact ⟨z, its, r, ob, k _ _ (.inl rfl) e, c⟩
  | dK kvs => obtain ⟨z, y, vs, r, ob, es, ep, e, c⟩ := x; exact ⟨z, y, vs, r, ob, es, ep, k _ _ (.inl rfl) e, c⟩
  | dT kvs =>
    obtain ⟨z, y, xs, r, ob, es, ep, e, c⟩ := x
    exact ⟨z, y, xs, Paired.mapP r fun p q z => ⟨z.1, ht _ _ z.2.1, z.2.2⟩, ob, es, ep, k _ _ (.inl rfl) e, c⟩
  | set S n => obtain ⟨ob, es, ep, t, e, c⟩ := x; exact ⟨ob, es, ep, t, k _ _ (.inl rfl) e, c⟩
  | ins C dx fs =>
    obtain ⟨d, z, ne, e, mA, ⟨od, es, ep, e2, c⟩, r⟩ := x
    exact ⟨ho _ d, z, ne, k _ _ (.inl rfl) e, mA, ⟨od, es, ep, k _ _ (.inr d) e2, c⟩, r⟩
  | own y => obtain ⟨ob, e⟩ := x; exact ⟨ob, k _ _ (.inl rfl) e⟩
  | xd fs => obtain ⟨mA, ⟨od, es, ep, e, c⟩, r⟩ := x; exact ⟨mA, ⟨od, es, ep, k _ _ (.inl rfl) e, c⟩, r⟩
  | rng lo hi => obtain ⟨t, u, v, e⟩ := x; exact ⟨t, u, v, k _ _ (.inl rfl) e⟩
  | frz ob u ih => obtain ⟨e, q⟩ := x; exact ⟨k _ _ (.inl rfl) e, ih q⟩
  | tbl ps =>
    have e : h.get? a = some { cls := .none, data := .fields ps } := x
    show h'.get? a = some { cls := .none, data := .fields ps }
    exact k a _ (.inl rfl) e
  | met f y =>
    have e : h.get? a = some (PySem.W.methodObj (.ref f) (.ref y)) := x
    show h'.get? a = some (PySem.W.methodObj (.ref f) (.ref y))
    exact k a _ (.inl rfl) e
  | ext φ => obtain ⟨p, ⟨o, e⟩, st⟩ := x; exact ⟨st _ _ p fun o q => k _ _ (.inl rfl) q, ⟨o, k _ _ (.inl rfl) e⟩, st⟩
theorem HOk.lt (x : HOk P w H h) (e : H a = some o) : a < h.objs.size := (x a o e).lt
theorem HOk.fresh (x : HOk P w H h) (e : h.objs.size ≤ a) : H a = none := by
  cases q : H a with
  | none => rfl
  | some u => exact absurd (Nat.lt_of_lt_of_le (x.lt q) e) (Nat.lt_irrefl _)
theorem HOk.kept (x : HOk P w H h) (k : ∀ b u, h.get? b = some u → h'.get? b = some u) : HOk P w H h' := fun a o e =>
  (x a o e).stay (fun b u _ q => k b u q) (fun _ q => q) fun _ _ q => q
theorem HOk.laid (x : HOk P w H h) (k : ∀ b u, h.get? b = some u → h'.get? b = some u) (hp : h.objs.size ≤ a) (new : ObjOk P w (upd H a o) h' a o) : HOk P w (upd H a o) h' := fun b u e => by
  have hn := x.fresh hp
  by_cases hb : b = a
  · subst hb; rw [upd_same] at e; cases e; exact new
  · rw [upd_ne hb] at e
    exact (x b u e).stay (fun c v _ q => k c v q) (fun c q => by rw [upd_ne (ne_of_none q hn)]; exact q) fun c xs q => by rw [upd_ne (ne_of_none q hn)]; exact q
end
def Rd (H : Hp) (a : Addr) (u : HO) : Prop := H a = some u ∨ ∃ o, H a = some (.frz o u)
theorem Rd.of {H : Hp} {a : Addr} {u : HO} (h : H a = some u) : Rd H a u := .inl h
theorem Rd.ok {P : Program} {w : World} {H : Hp} {h : Heap} {a : Addr} {u : HO} (r : Rd H a u) (x : HOk P w H h) : ObjOk P w H h a u := by
  rcases r with r | ⟨o, r⟩
  · exact x a u r
  · obtain ⟨_, q⟩ := x a _ r
    exact q
def Mut : Option HO → Prop
  | some (.lst _) => True
  | some (.dK _) => True
  | some (.dT _) => True
  | some (.set _ _) => True
  | some (.ins _ _ _) => True
  | some (.ext _) => True
  | _ => False
section
variable {P : Program} {w : World} {H : Hp} {h h' : Heap} {x e : Addr} {o' : HO}
theorem HOk.write (ok : HOk P w H h) (mu : Mut (H x)) (he : e = x ∨ H e = some (.own x)) (k : ∀ b u, b ≠ e → h.get? b = some u → h'.get? b = some u) (heo : ∃ u, h'.get? e = some u)
    (new : ObjOk P w (upd H x o') h' x o') : HOk P w (upd H x o') h' := fun b u q => by
  have nown : ∀ c y, H c = some (.own y) → c ≠ x := fun c y r z => by subst z; rw [r] at mu; exact mu
  have ntup : ∀ c xs, H c = some (.tup xs) → c ≠ x := fun c xs r z => by subst z; rw [r] at mu; exact mu
  by_cases hb : b = x
  · subst hb; rw [upd_same] at q; cases q; exact new
  · rw [upd_ne hb] at q
    by_cases hbe : b = e
    · have q' : H b = some (.own x) := by
        rcases he with z | z
        · exact absurd (hbe.trans z) hb
        · rw [hbe]; exact z
      rw [q] at q'; cases q'
      obtain ⟨v, hv⟩ := heo
      exact ⟨v, by rw [hbe]; exact hv⟩
    · refine (ok b u q).stay (fun c v hc r => k c v ?_ r) (fun c r => by rw [upd_ne (nown c b r)]; exact r) fun c xs r => by rw [upd_ne (ntup c xs r)]; exact r
      rcases hc with rfl | hc
      · exact hbe
      · rintro rfl
        rcases he with z | z
        · exact nown c b hc z
        · rw [hc] at z; cases z; exact hb rfl
end
structure Un (fs ex : List Addr) (H H' : Hp) (h h' : Heap) : Prop where
  keep : ∀ b o, h.get? b = some o → H b = none → b ∉ fs → b ∉ ex → h'.get? b = some o
  slot : ∀ b o, h.get? b = some o → H b = none → b ∈ fs → b ∉ ex → ∃ sl, h'.get? b = some { o with slots := sl }
  free : ∀ b o, h.get? b = some o → H b = none → b ∉ ex → H' b = none
  there : ∀ b o, h.get? b = some o → b ∉ ex → ∃ o', h'.get? b = some o'
  tups : ∀ b xs, H b = some (.tup xs) → H' b = some (.tup xs)
  frzs : ∀ b o u, H b = some (.frz o u) → H' b = some (.frz o u)
  tbls : ∀ b ps, H b = some (.tbl ps) → ∃ more, H' b = some (.tbl (ps ++ more))
section
variable {fs fs' ex ex' : List Addr} {H H1 H2 : Hp} {h h1 h2 h' : Heap} {a x e : Addr} {o : HO}
theorem Un.any (u : Un fs ex H H1 h h1) {b : Addr} {ob : Obj} (q : h.get? b = some ob) (n : H b = none) (hx : b ∉ ex) : ∃ sl, h1.get? b = some { ob with slots := sl } := by
  by_cases hb : b ∈ fs
  · exact u.slot b ob q n hb hx
  · exact ⟨ob.slots, u.keep b ob q n hb hx⟩
theorem Un.trans (a : Un fs ex H H1 h h1) (b : Un fs ex H1 H2 h1 h2) : Un fs ex H H2 h h2 where
  keep := fun c ob q n hc hx => b.keep c ob (a.keep c ob q n hc hx) (a.free c ob q n hx) hc hx
  slot := fun c ob q n hc hx => by
    obtain ⟨sl, e1⟩ := a.slot c ob q n hc hx
    obtain ⟨sl', e2⟩ := b.slot c _ e1 (a.free c ob q n hx) hc hx
    exact ⟨sl', e2⟩
  free := fun c ob q n hx => by
    obtain ⟨o', e1⟩ := a.there c ob q hx
    exact b.free c o' e1 (a.free c ob q n hx) hx
  there := fun c ob q hx => by
    obtain ⟨o', e1⟩ := a.there c ob q hx
    exact b.there c o' e1 hx
  tups := fun c xs q => b.tups c xs (a.tups c xs q)
  frzs := fun c ob xs q => b.frzs c ob xs (a.frzs c ob xs q)
  tbls := fun c ps q => by
    obtain ⟨m1, e1⟩ := a.tbls c ps q
    obtain ⟨m2, e2⟩ := b.tbls c _ e1
    exact ⟨m1 ++ m2, by rw [e2, Array.append_assoc]⟩
theorem Un.kept (k : ∀ b u, h.get? b = some u → h'.get? b = some u) : Un fs ex H H h h' :=
  ⟨fun b ob q _ _ _ => k b ob q, fun b ob q _ _ _ => ⟨ob.slots, k b ob q⟩, fun _ _ _ n _ => n, fun b ob q _ => ⟨ob, k b ob q⟩, fun _ _ q => q, fun _ _ _ q => q, fun _ ps q => ⟨#[], by rw [q]; simp⟩⟩
theorem Un.refl : Un fs ex H H h h := Un.kept fun _ _ q => q
theorem Un.laid (k : ∀ b u, h.get? b = some u → h'.get? b = some u) (hp : h.objs.size ≤ a) (hn : H a = none) : Un fs ex H (upd H a o) h h' where
  keep := fun b u q _ _ _ => k b u q
  slot := fun b u q _ _ _ => ⟨u.slots, k b u q⟩
  free := fun b u q n _ => by rw [upd_ne (Nat.ne_of_lt (Nat.lt_of_lt_of_le (Heap.lt_size q) hp))]; exact n
  there := fun b u q _ => ⟨u, k b u q⟩
  tups := fun b xs q => by rw [upd_ne (ne_of_none q hn)]; exact q
  frzs := fun b u xs q => by rw [upd_ne (ne_of_none q hn)]; exact q
  tbls := fun b ps q => ⟨#[], by rw [upd_ne (ne_of_none q hn), q]; simp⟩
theorem Un.write (mu : Mut (H x)) (he : e = x ∨ H e = some (.own x)) (k : ∀ b u, b ≠ e → h.get? b = some u → h'.get? b = some u) (heo : ∃ u, h'.get? e = some u) : Un fs ex H (upd H x o) h h' := by
  have hx : ∀ b, H b = none → b ≠ x := fun b n z => by subst z; rw [n] at mu; exact mu
  have hb : ∀ b, H b = none → b ≠ e := fun b n z => by
    subst z
    rcases he with r | r
    · exact hx b n r
    · rw [n] at r; cases r
  have hm : ∀ b u, H b = some u → ¬ Mut (some u) → b ≠ x := fun b u q nm z => by subst z; rw [q] at mu; exact nm mu
  refine ⟨fun b u q n _ _ => k b u (hb b n) q, fun b u q n _ _ => ⟨u.slots, k b u (hb b n) q⟩, fun b u q n _ => by rw [upd_ne (hx b n)]; exact n, fun b u q _ => ?_,
    fun b xs q => by rw [upd_ne (hm b _ q fun z => z)]; exact q, fun b u xs q => by rw [upd_ne (hm b _ q fun z => z)]; exact q, fun b ps q => ⟨#[], by rw [upd_ne (hm b _ q fun z => z), q]; simp⟩⟩
  by_cases hbe : b = e
  · subst hbe; exact heo
  · exact ⟨u, k b u hbe q⟩
theorem Un.mono (u : Un fs ex H H1 h h1) (hs : ∀ b ∈ fs, b ∈ fs') (hx : ∀ b ∈ ex, b ∈ ex') : Un fs' ex' H H1 h h1 :=
  ⟨fun b ob q n hb he => u.keep b ob q n (fun z => hb (hs b z)) fun z => he (hx b z), fun _ _ q n _ he => u.any q n fun z => he (hx _ z), fun b ob q n he => u.free b ob q n fun z => he (hx b z), fun b ob q he => u.there b ob q fun z => he (hx b z), u.tups, u.frzs, u.tbls⟩
end
def trk (h : Heap) (H : Hp) : List Addr := (List.range h.objs.size).filter fun a => (H a).isSome
def hidT (h : Heap) (H : Hp) : Heap := PySem.W.hideAll h (trk h H)
theorem hidT_size (h : Heap) (H : Hp) : (hidT h H).objs.size = h.objs.size := PySem.W.hideAll_size _ _
theorem hidT_get {h : Heap} {H : Hp} {b : Addr} {o : Obj} (e : h.get? b = some o) (n : H b = none) : (hidT h H).get? b = some o :=
  PySem.W.hideAll_get _ e fun hm => by
    have q : (H b).isSome = true := (List.mem_filter.mp hm).2
    rw [n] at q; simp at q
theorem of_hidT {h : Heap} {H : Hp} {b : Addr} {o : Obj} (e : (hidT h H).get? b = some o) : h.get? b = some o ∧ H b = none := by
  have e' : h.get? b = some o := PySem.W.of_hideAll (trk h H) e
  refine ⟨e', ?_⟩
  cases q : H b with
  | none => rfl
  | some x =>
    have hm : b ∈ trk h H := List.mem_filter.mpr ⟨List.mem_range.mpr (Heap.lt_size e'), by simp [q]⟩
    have z : (hidT h H).get? b = none := PySem.W.hideAll_none (trk h H) hm
    rw [z] at e; cases e
def allNews (g h : Heap) (L : Addr) : List (Addr × Obj) := (List.range h.objs.size).filterMap fun a => if a = L ∨ (g.get? a).isSome = true then none else (h.get? a).map fun o => (a, o)
def rest (g h : Heap) (L d : Addr) : List (Addr × Obj) := (allNews g h L).filter fun p => decide (p.1 ≠ d)
end L2
namespace L2
open PySem PySem.Spec PyProof.Rows
structure Mod (K : PySem.W.Frag) (mg : Str → Option Value) (base : Heap) : Prop where
  kin : K.In base
  glob : base.Ns mainGlobals mg
  blt : ∃ mb, base.Ns builtinsNs mb ∧ ∀ x : Str, x ≠ "__name__" → mb x = bootBuiltins x
  nolimit : base.NoLimit
structure Cx where
  prog : Program
  w : World
  K : PySem.W.Frag
  mg : Str → Option Value
  base : Heap
  A : Around
  N : List Str
  s₀ : Shared
  H₀ : Hp
  env : Env
  outer : List Env
  stack : List Env
  ex : List Addr
  fn : Str → Bool
  calm : Bool
  pn : List (Addr × Obj)
  xe : Value → Shared → Prop
def frs (l : List Env) : List Addr := l.filterMap (·.frame)
abbrev Cx.fs (X : Cx) : List Addr := frs X.outer
def Vis (sc : Scope) (x : Str) : Prop := sc.names.lookup x = some .local ∨ sc.names.lookup x = some .cell ∨ sc.names.lookup x = some .free
def Loc (sc : Scope) (x : Str) : Prop := sc.names.lookup x = some .local ∨ sc.names.lookup x = some .cell
def Look (env : Env) (h : Heap) (m : Str → Option Value) (x : Str) (u : Value) : Prop :=
  (env.kindOf x = some .local ∧ m x = some u) ∨ ((env.kindOf x = some .cell ∨ env.kindOf x = some .free) ∧ ∃ c, env.cells.lookup x = some c ∧ h.IsCell c (some u))
structure Cx.Ok (X : Cx) : Prop where
  mod : Mod X.K X.mg X.base
  kind : X.env.scope.kind = .function
  glob : X.env.globals = mainGlobals
  blt : X.env.builtins = builtinsNs
  above : X.s₀.heap.objs.size ≤ X.env.locals
  inj : ∀ x y c, X.env.cells.lookup x = some c → X.env.cells.lookup y = some c → x = y
  has : ∀ x, (X.env.kindOf x = some .cell ∨ X.env.kindOf x = some .free) → ∃ c, X.env.cells.lookup x = some c
  cab : ∀ x c, X.fn x = true → X.env.cells.lookup x = some c → X.s₀.heap.objs.size ≤ c
  hd : X.calm = true → X.A.handled = none
  frames : X.A.frames = some X.stack
  stk : X.stack = X.outer ∨ (X.stack = X.env :: X.outer ∧ X.env.frame = some X.env.locals)
  exf : ∀ b ∈ X.ex, b ≠ X.env.locals ∧ ∀ x c, X.env.cells.lookup x = some c → c ≠ b
  bs : ∀ b o, X.base.get? b = some o → X.s₀.heap.get? b = some o ∧ X.H₀ b = none
  bsz : X.base.objs.size ≤ X.s₀.heap.objs.size
  noex : ∀ b o, X.base.get? b = some o → b ∉ X.ex
  exfs : ∀ b ∈ X.ex, b ∉ X.fs
  funs : X.s₀.heap.FunFrames X.base X.outer
  frf : ∀ b ∈ X.fs, X.H₀ b = none
structure Inv (X : Cx) (pins : List (Addr × Obj)) (σ : List (Option V)) (H : Hp) (s : Shared) : Prop where
  ok : X.Ok
  os : s.os = X.s₀.os
  bare : AllBare s.gens
  base : Un X.fs X.ex X.H₀ H X.s₀.heap s.heap
  loc : ∃ m, s.heap.Ns X.env.locals m ∧ ∀ (i : Nat) (x : Str) (v : V), X.N[i]? = some x → σ[i]? = some (some v) → Vis X.env.scope x → ∃ u, RelV v u ∧ Look X.env s.heap m x u
  cell : ∀ x c, X.env.cells.lookup x = some c → ∃ v, s.heap.IsCell c v
  free : H X.env.locals = none
  freeC : ∀ x c, X.env.cells.lookup x = some c → H c = none
  pin : ∀ p ∈ X.pn ++ pins, s.heap.get? p.1 = some p.2 ∧ H p.1 = none ∧ p.1 ≠ X.env.locals ∧ p.1 ∉ X.fs ∧ ∀ v, p.2.data ≠ .cell v
  hok : HOk X.prog X.w H s.heap
  len : σ.length = X.N.length
section
variable {X : Cx} {pins : List (Addr × Obj)} {σ : List (Option V)} {H H' : Hp} {s : Shared} {h' : Heap}
theorem Cx.Ok.nofr (ok : X.Ok) {b : Addr} {o : Obj} (e : X.base.get? b = some o) : b ∉ X.fs := fun hb => by
  have := (ok.funs.mem hb).1
  rw [e] at this; cases this
theorem Inv.bs (I : Inv X pins σ H s) : ∀ b o, X.base.get? b = some o → s.heap.get? b = some o ∧ H b = none := fun b o e =>
  ⟨I.base.keep b o (I.ok.bs b o e).1 (I.ok.bs b o e).2 (I.ok.nofr e) (I.ok.noex b o e), I.base.free b o (I.ok.bs b o e).1 (I.ok.bs b o e).2 (I.ok.noex b o e)⟩
theorem Inv.bk (I : Inv X pins σ H s) : ∀ b o, X.base.get? b = some o → s.heap.get? b = some o := fun b o e => (I.bs b o e).1
theorem Inv.mod (I : Inv X pins σ H s) : Mod X.K X.mg X.base := I.ok.mod
theorem Inv.kIn (I : Inv X pins σ H s) : X.K.In s.heap := I.ok.mod.kin.keeps I.bk
theorem Inv.nolimit (I : Inv X pins σ H s) : s.heap.NoLimit := I.ok.mod.nolimit.keeps I.bk
theorem Inv.fr (I : Inv X pins σ H s) : ∃ m, Fr X.base X.env.locals s.heap m :=
  let ⟨m, hn, _⟩ := I.loc
  ⟨m, hn, I.bk, Nat.le_trans I.ok.bsz I.ok.above⟩
theorem Inv.lt (I : Inv X pins σ H s) : X.env.locals < s.heap.objs.size := let ⟨_, hn, _⟩ := I.loc; hn.lt
theorem Inv.sz (I : Inv X pins σ H s) : X.s₀.heap.objs.size ≤ s.heap.objs.size := Nat.le_trans I.ok.above (Nat.le_of_lt I.lt)
theorem Inv.nofs (I : Inv X pins σ H s) {a : Addr} (h : s.heap.objs.size ≤ a) : a ∉ X.fs := fun hb => by
  obtain ⟨_, o, ho, _⟩ := I.ok.funs.mem hb
  exact absurd (Nat.lt_of_lt_of_le (Heap.lt_size ho) (Nat.le_trans I.sz h)) (Nat.lt_irrefl _)
theorem Inv.cne (I : Inv X pins σ H s) : ∀ x c, X.env.cells.lookup x = some c → c ≠ X.env.locals := fun x c e z => by
  obtain ⟨v, o, ho, hd⟩ := I.cell x c e
  obtain ⟨m, ⟨o', es, ep, ho', hd', _⟩, _⟩ := I.loc
  rw [z, ho'] at ho; cases ho; rw [hd'] at hd; cases hd
theorem Inv.funs (I : Inv X pins σ H s) : s.heap.FunFrames X.base X.outer := by
  have all : ∀ (l : List Env), (∀ b ∈ frs l, b ∈ X.fs) → X.s₀.heap.FunFrames X.base l → s.heap.FunFrames X.base l := by
    intro l
    induction l with
    | nil => intro _ _; trivial
    | cons env r ih =>
      intro hs hl
      obtain ⟨hk, ⟨L, o, hf, hn, ho, hd⟩, hr⟩ := hl
      have hL : L ∈ X.fs := hs L (by unfold frs; rw [List.filterMap_cons, hf]; exact List.mem_cons_self)
      obtain ⟨sl, e⟩ := I.base.slot L o ho (I.ok.frf L hL) hL fun z => I.ok.exfs L z hL
      exact ⟨hk, ⟨L, _, hf, hn, e, hd⟩, ih (fun b hb => hs b (by unfold frs; rw [List.filterMap_cons, hf]; exact List.mem_cons_of_mem _ hb)) hr⟩
  exact all X.outer (fun _ hb => hb) I.ok.funs
theorem Inv.stack (I : Inv X pins σ H s) : s.heap.FunFrames X.base X.stack := by
  rcases I.ok.stk with e | ⟨e, hf⟩
  · rw [e]; exact I.funs
  · rw [e]
    obtain ⟨m, hn, _⟩ := I.loc
    refine .cons (by rw [I.ok.kind]; decide) hf hn ?_ I.funs
    exact Heap.get?_none_of_le (Nat.le_trans I.ok.bsz I.ok.above)
theorem Inv.stkSub (I : Inv X pins σ H s) : ∀ b ∈ frs X.stack, b ∈ X.env.locals :: X.fs := fun b hb => by
  rcases I.ok.stk with e | ⟨e, hf⟩
  · rw [e] at hb; exact List.mem_cons_of_mem _ hb
  · rw [e] at hb
    unfold frs at hb
    rw [List.filterMap_cons, hf] at hb
    exact hb
theorem Inv.stkFree (I : Inv X pins σ H s) : ∀ b ∈ frs X.stack, H b = none := fun b hb => by
  rcases List.mem_cons.mp (I.stkSub b hb) with e | hb
  · rw [e]; exact I.free
  · obtain ⟨_, o, ho, _⟩ := I.ok.funs.mem hb
    exact I.base.free b o ho (I.ok.frf b hb) fun z => I.ok.exfs b z hb
theorem Inv.step {g' : Array GenState} {t' : Nat} {d' : Drawn} {ch : List Addr} (I : Inv X pins σ H s)
    (hch : ∀ b ∈ ch, (b ∈ X.ex ∨ X.s₀.heap.objs.size ≤ b) ∧ b ≠ X.env.locals ∧ (∀ x c, X.env.cells.lookup x = some c → c ≠ b) ∧ ∀ p ∈ X.pn ++ pins, p.1 ≠ b)
    (keep : ∀ b o, b ≠ X.env.locals → b ∉ X.fs → b ∉ ch → s.heap.get? b = some o → H b = none → h'.get? b = some o)
    (slot : ∀ b o, b ≠ X.env.locals → b ∈ X.fs → b ∉ ch → s.heap.get? b = some o → H b = none → ∃ sl, h'.get? b = some { o with slots := sl }) (free : ∀ b o, b ∉ ch → s.heap.get? b = some o → H b = none → H' b = none)
    (there : ∀ b o, b ∉ ch → s.heap.get? b = some o → ∃ o', h'.get? b = some o')
    (tups : ∀ b xs, H b = some (.tup xs) → H' b = some (.tup xs)) (frzs : ∀ b o u, H b = some (.frz o u) → H' b = some (.frz o u)) (tbls : ∀ b ps, H b = some (.tbl ps) → ∃ more, H' b = some (.tbl (ps ++ more)))
    (ns : ∀ m, s.heap.Ns X.env.locals m → h'.Ns X.env.locals m) (hok : HOk X.prog X.w H' h') (hg : AllBare g') :
    Inv X pins σ H' { s with heap := h', gens := g', drawn := d', toks := t' } := by
  have neL : ∀ b o, X.s₀.heap.get? b = some o → b ≠ X.env.locals := fun b o e => Nat.ne_of_lt (Nat.lt_of_lt_of_le (Heap.lt_size e) I.ok.above)
  have neC : ∀ b o, X.s₀.heap.get? b = some o → b ∉ X.ex → b ∉ ch := fun b o e hx hb => by
    rcases (hch b hb).1 with z | z
    · exact hx z
    · exact absurd (Nat.lt_of_lt_of_le (Heap.lt_size e) z) (Nat.lt_irrefl _)
  have cellK : ∀ x c, X.env.cells.lookup x = some c → ∀ v, s.heap.IsCell c v → h'.IsCell c v := fun x c e v ⟨o, ho, hd⟩ => by
    have nch : c ∉ ch := fun z => (hch c z).2.2.1 x c e rfl
    by_cases hc : c ∈ X.fs
    · obtain ⟨sl, q⟩ := slot c o (I.cne x c e) hc nch ho (I.freeC x c e)
      exact ⟨_, q, hd⟩
    · exact ⟨o, keep c o (I.cne x c e) hc nch ho (I.freeC x c e), hd⟩
  refine ⟨I.ok, I.os, hg, ⟨fun b o e n hb hx => ?_, fun b o e n hb hx => ?_, fun b o e n hx => ?_, fun b o e hx => ?_, fun b xs e => tups b xs (I.base.tups b xs e), fun b o xs e => frzs b o xs (I.base.frzs b o xs e), fun b ps e => ?_⟩, ?_, fun x c e => ?_, ?_, fun x c e => ?_, fun p hp => ?_, hok, I.len⟩
  · exact keep b o (neL b o e) hb (neC b o e hx) (I.base.keep b o e n hb hx) (I.base.free b o e n hx)
  · obtain ⟨sl, e1⟩ := I.base.slot b o e n hb hx
    obtain ⟨sl', e2⟩ := slot b _ (neL b o e) hb (neC b o e hx) e1 (I.base.free b o e n hx)
    exact ⟨sl', e2⟩
  · obtain ⟨o', e1⟩ := I.base.there b o e hx
    exact free b o' (neC b o e hx) e1 (I.base.free b o e n hx)
  · obtain ⟨o', e1⟩ := I.base.there b o e hx
    exact there b o' (neC b o e hx) e1
  · obtain ⟨m1, e1⟩ := I.base.tbls b ps e
    obtain ⟨m2, e2⟩ := tbls b _ e1
    exact ⟨m1 ++ m2, by rw [e2, Array.append_assoc]⟩
  · obtain ⟨m, hn, hl⟩ := I.loc
    refine ⟨m, ns m hn, fun i x v e1 e2 e3 => ?_⟩
    obtain ⟨u, r, l⟩ := hl i x v e1 e2 e3
    refine ⟨u, r, ?_⟩
    rcases l with l | ⟨k, c, e, z⟩
    · exact .inl l
    · exact .inr ⟨k, c, e, cellK x c e _ z⟩
  · obtain ⟨v, z⟩ := I.cell x c e
    exact ⟨v, cellK x c e v z⟩
  · obtain ⟨m, ⟨o, _, _, ho, _⟩, _⟩ := I.loc
    exact free _ o (fun z => (hch _ z).2.1 rfl) ho I.free
  · obtain ⟨v, o, ho, hd⟩ := I.cell x c e
    exact free c o (fun z => (hch c z).2.2.1 x c e rfl) ho (I.freeC x c e)
  · obtain ⟨e, n, ne, nf, d⟩ := I.pin p hp
    have nch : p.1 ∉ ch := fun z => (hch p.1 z).2.2.2 p hp rfl
    exact ⟨keep p.1 p.2 ne nf nch e n, free p.1 p.2 nch e n, ne, nf, d⟩
theorem Inv.un {t' : Nat} (I : Inv X pins σ H s) (u : Un X.fs [] H H' s.heap h') (hok : HOk X.prog X.w H' h') : Inv X pins σ H' { s with heap := h', toks := t' } := by
  obtain ⟨m, ⟨o, es, ep, ho, r⟩, _⟩ := id I.loc
  obtain ⟨sl, hL⟩ := u.any ho I.free (by simp)
  exact I.step (g' := s.gens) (d' := s.drawn) (ch := []) (fun _ z => nomatch z) (fun b o _ hb _ e n => u.keep b o e n hb (by simp)) (fun b o _ hb _ e n => u.slot b o e n hb (by simp)) (fun b o _ e n => u.free b o e n (by simp)) (fun b o _ e => u.there b o e (by simp)) u.tups u.frzs u.tbls (fun m' hm => by
    obtain ⟨o', es', ep', ho', r'⟩ := hm
    rw [ho] at ho'; cases ho'
    exact ⟨_, es', ep', hL, r'⟩) hok I.bare
theorem Inv.call {g' : Array GenState} {t' : Nat} {d' : Drawn} {ch : List Addr} (I : Inv X pins σ H s) (u : Un (frs X.stack) ch H H' s.heap h') (hok : HOk X.prog X.w H' h') (hg : AllBare g')
    (hch : ∀ b ∈ ch, (b ∈ X.ex ∨ X.s₀.heap.objs.size ≤ b) ∧ b ≠ X.env.locals ∧ (∀ x c, X.env.cells.lookup x = some c → c ≠ b) ∧ ∀ p ∈ X.pn ++ pins, p.1 ≠ b) :
    Inv X pins σ H' { s with heap := h', gens := g', drawn := d', toks := t' } := by
  obtain ⟨m, ⟨o, es, ep, ho, r⟩, _⟩ := id I.loc
  obtain ⟨sl, hL⟩ := u.any ho I.free fun z => (hch _ z).2.1 rfl
  exact I.step (ch := ch) hch (fun b o hL hb hc e n => u.keep b o e n (fun z => (List.mem_cons.mp (I.stkSub b z)).elim hL hb) hc) (fun b o _ _ hc e n => u.any e n hc) (fun b o hc e n => u.free b o e n hc) (fun b o hc e => u.there b o e hc) u.tups u.frzs u.tbls (fun m' hm => by
    obtain ⟨o', es', ep', ho', r'⟩ := hm
    rw [ho] at ho'; cases ho'
    exact ⟨_, es', ep', hL, r'⟩) hok hg
theorem Inv.turned {t' : Nat} {it : Addr} (I : Inv X pins σ H s) (k : ∀ b o, b ≠ it → s.heap.get? b = some o → h'.get? b = some o) (hn : H it = none) (hL : it ≠ X.env.locals)
    (h1 : it ∈ X.ex ∨ X.s₀.heap.objs.size ≤ it) (h2 : ∀ x c, X.env.cells.lookup x = some c → c ≠ it) (h3 : ∀ p ∈ X.pn ++ pins, p.1 ≠ it) : Inv X pins σ H { s with heap := h', toks := t' } := by
  have nit : ∀ b u, H b = some u → b ≠ it := fun b u e z => by rw [z, hn] at e; cases e
  refine I.step (g' := s.gens) (d' := s.drawn) (ch := [it]) (fun b hb => ?_) (fun b o _ _ hc e _ => k b o (fun z => hc (by simp [z])) e) (fun b o _ _ hc e _ => ⟨o.slots, k b o (fun z => hc (by simp [z])) e⟩) (fun _ _ _ _ n => n)
    (fun b o hc e => ⟨o, k b o (fun z => hc (by simp [z])) e⟩) (fun _ _ e => e) (fun _ _ _ e => e) (fun b ps e => ⟨#[], by rw [e]; simp⟩) (fun m hm => ?_) (fun b u e => ?_) I.bare
  · have e : b = it := by simpa using hb
    subst e
    exact ⟨h1, hL, h2, h3⟩
  · obtain ⟨o, es, ep, ho, r⟩ := hm
    exact ⟨o, es, ep, k _ o (Ne.symm hL) ho, r⟩
  · refine (I.hok b u e).stay (fun c v hc q => k c v ?_ q) (fun _ q => q) fun _ _ q => q
    rcases hc with z | z
    · rw [z]; exact nit b u e
    · exact nit c _ z
theorem Inv.tok (I : Inv X pins σ H s) (t : Nat) : Inv X pins σ H { s with toks := t } := I.un (h' := s.heap) (t' := t) Un.refl I.hok
theorem Inv.kept {t' : Nat} (I : Inv X pins σ H s) (k : ∀ b u, s.heap.get? b = some u → h'.get? b = some u) : Inv X pins σ H { s with heap := h', toks := t' } := I.un (Un.kept k) (I.hok.kept k)
theorem Inv.laid {a : Addr} {o : HO} {t' : Nat} (I : Inv X pins σ H s) (k : ∀ b u, s.heap.get? b = some u → h'.get? b = some u) (hp : s.heap.objs.size ≤ a) (new : ObjOk X.prog X.w (upd H a o) h' a o) :
    Inv X pins σ (upd H a o) { s with heap := h', toks := t' } := I.un (Un.laid k hp (I.hok.fresh hp)) (I.hok.laid k hp new)
theorem Inv.write {x e : Addr} {o : HO} {t' : Nat} (I : Inv X pins σ H s) (mu : Mut (H x)) (he : e = x ∨ H e = some (.own x)) (k : ∀ b u, b ≠ e → s.heap.get? b = some u → h'.get? b = some u) (heo : ∃ u, h'.get? e = some u)
    (new : ObjOk X.prog X.w (upd H x o) h' x o) : Inv X pins σ (upd H x o) { s with heap := h', toks := t' } := I.un (Un.write mu he k heo) (I.hok.write mu he k heo new)
theorem Inv.pins_of {pins' : List (Addr × Obj)} (I : Inv X pins σ H s) (h : ∀ p ∈ pins', s.heap.get? p.1 = some p.2 ∧ H p.1 = none ∧ p.1 ≠ X.env.locals ∧ p.1 ∉ X.fs ∧ ∀ v, p.2.data ≠ .cell v) : Inv X pins' σ H s :=
  ⟨I.ok, I.os, I.bare, I.base, I.loc, I.cell, I.free, I.freeC, fun p hp => (List.mem_append.mp hp).elim (fun z => I.pin p (List.mem_append_left _ z)) (h p), I.hok, I.len⟩
theorem nodup_ix {N : List Str} (hN : N.Nodup) {i j : Nat} {x : Str} (a : N[i]? = some x) (b : N[j]? = some x) : i = j := by
  obtain ⟨h1, e1⟩ := List.getElem?_eq_some_iff.mp a
  obtain ⟨h2, e2⟩ := List.getElem?_eq_some_iff.mp b
  exact (List.getElem_inj hN).mp (e1.trans e2.symm)
theorem store_ok2 {M : Model} {A : Around} {E : Value → Shared → Prop} {i : Nat} {x : Str} {v : V} {u : Value} {Q : Unit → Shared → Prop} (I : Inv X pins σ H s) (hN : X.N.Nodup) (hi : X.N[i]? = some x) (hx : Loc X.env.scope x) (r : RelV v u)
    (h : ∀ s', Inv X pins (σ.set i (some v)) H s' → (∃ a, Heap.SameBut a s.heap s'.heap ∧ (a = X.env.locals ∨ X.env.cells.lookup x = some a)) → Q () s') (hf : X.fn x = true ∨ X.env.scope.names.lookup x = some .local := by first | exact .inl rfl | exact .inr rfl | assumption) : wpAny M A (storeName X.env x u) Q E s := by
  obtain ⟨m, hn, hl⟩ := id I.loc
  have hcls : (X.env.scope.kind == .class || (X.env.scope.kind == .module && X.env.locals != X.env.globals)) = false := by rw [I.ok.kind]; rfl
  have hiσ : i < σ.length := by rw [I.len]; exact (List.getElem?_eq_some_iff.mp hi).1
  have cne := I.cne
  have tracked : ∀ {a : Addr} {h' : Heap}, (∃ o, s.heap.get? a = some o ∧ H a = none) → Heap.SameBut a s.heap h' → HOk X.prog X.w H h' := fun {a h'} ha hs b ob e => by
    obtain ⟨_, _, hfree⟩ := ha
    refine (I.hok b ob e).stay (fun c w' hc q => (hs.2 c ?_).trans q) (fun _ q => q) fun _ _ q => q
    rintro rfl
    rcases hc with rfl | hc
    · rw [hfree] at e; cases e
    · rw [hfree] at hc; cases hc
  rcases hx with hk | hk
  · refine wpAny_storeName_local hk hn (fun h' hn' hs => ?_) hcls
    obtain ⟨oL, _, _, hoL, _⟩ := id hn
    refine h _ ⟨I.ok, I.os, I.bare, ⟨fun b o e n hb hx => ?_, fun b o e n hb hx => ?_, I.base.free, fun b o e hx => ?_, I.base.tups, I.base.frzs, I.base.tbls⟩, ⟨_, hn', fun j y v' e1 e2 e3 => ?_⟩, fun y c e => ?_, I.free, I.freeC, fun p hp => ?_, tracked ⟨oL, hoL, I.free⟩ hs, by simpa using I.len⟩ ⟨_, hs, .inl rfl⟩
    · exact (hs.2 b (Nat.ne_of_lt (Nat.lt_of_lt_of_le (Heap.lt_size e) I.ok.above))).trans (I.base.keep b o e n hb hx)
    · obtain ⟨sl, e1⟩ := I.base.slot b o e n hb hx
      exact ⟨sl, (hs.2 b (Nat.ne_of_lt (Nat.lt_of_lt_of_le (Heap.lt_size e) I.ok.above))).trans e1⟩
    · obtain ⟨o', e1⟩ := I.base.there b o e hx
      exact ⟨o', (hs.2 b (Nat.ne_of_lt (Nat.lt_of_lt_of_le (Heap.lt_size e) I.ok.above))).trans e1⟩
    · by_cases hj : j = i
      · subst hj
        rw [hi] at e1; cases e1
        rw [List.getElem?_set_self hiσ] at e2
        cases e2
        exact ⟨u, r, .inl ⟨hk, by simp⟩⟩
      · rw [List.getElem?_set_ne (Ne.symm hj)] at e2
        obtain ⟨u', r', q⟩ := hl j y v' e1 e2 e3
        refine ⟨u', r', ?_⟩
        rcases q with ⟨k, e⟩ | ⟨k, c, e, z⟩
        · refine .inl ⟨k, ?_⟩
          have : y ≠ x := fun e => hj (nodup_ix hN e1 (e ▸ hi))
          simp [this, e]
        · exact .inr ⟨k, c, e, z.sameBut hs (cne y c e)⟩
    · obtain ⟨w', z⟩ := I.cell y c e
      exact ⟨w', z.sameBut hs (cne y c e)⟩
    · obtain ⟨e, n, ne, nf, d⟩ := I.pin p hp
      exact ⟨(hs.2 p.1 ne).trans e, n, ne, nf, d⟩
  · have hfn : X.fn x = true := by
      rcases hf with z | z
      · exact z
      · rw [z] at hk; cases hk
    obtain ⟨c, hc⟩ := I.ok.has x (.inl hk)
    obtain ⟨w', z⟩ := I.cell x c hc
    refine wpAny_storeName_cell I.ok.kind hk hc z (fun h' hc' hs => ?_)
    obtain ⟨oc, hoc, hocd⟩ := id z
    refine h { s with heap := h' } ⟨I.ok, I.os, I.bare, ⟨fun b o e n hb hx => ?_, fun b o e n hb hx => ?_, I.base.free, fun b o e hx => ?_, I.base.tups, I.base.frzs, I.base.tbls⟩, ⟨m, hn.sameBut hs (Ne.symm (cne x c hc)), fun j y v' e1 e2 e3 => ?_⟩, fun y c' e => ?_, I.free, I.freeC, fun p hp => ?_, tracked ⟨oc, hoc, I.freeC x c hc⟩ hs, by simpa using I.len⟩ ⟨c, hs, .inr hc⟩
    · exact (hs.2 b (Nat.ne_of_lt (Nat.lt_of_lt_of_le (Heap.lt_size e) (I.ok.cab x c hfn hc)))).trans (I.base.keep b o e n hb hx)
    · obtain ⟨sl, e1⟩ := I.base.slot b o e n hb hx
      exact ⟨sl, (hs.2 b (Nat.ne_of_lt (Nat.lt_of_lt_of_le (Heap.lt_size e) (I.ok.cab x c hfn hc)))).trans e1⟩
    · obtain ⟨o', e1⟩ := I.base.there b o e hx
      exact ⟨o', (hs.2 b (Nat.ne_of_lt (Nat.lt_of_lt_of_le (Heap.lt_size e) (I.ok.cab x c hfn hc)))).trans e1⟩
    · by_cases hj : j = i
      · subst hj
        rw [hi] at e1; cases e1
        rw [List.getElem?_set_self hiσ] at e2
        cases e2
        exact ⟨u, r, .inr ⟨.inl hk, c, hc, hc'⟩⟩
      · rw [List.getElem?_set_ne (Ne.symm hj)] at e2
        obtain ⟨u', r', q⟩ := hl j y v' e1 e2 e3
        refine ⟨u', r', ?_⟩
        rcases q with q | ⟨k, c', e, z'⟩
        · exact .inl q
        · refine .inr ⟨k, c', e, z'.sameBut hs ?_⟩
          rintro rfl
          exact hj (nodup_ix hN e1 (I.ok.inj _ _ _ e hc ▸ hi))
    · by_cases hcc : c' = c
      · subst hcc; exact ⟨_, hc'⟩
      · obtain ⟨w2, z2⟩ := I.cell y c' e
        exact ⟨w2, z2.sameBut hs hcc⟩
    · obtain ⟨e, n, ne, nf, d⟩ := I.pin p hp
      refine ⟨(hs.2 p.1 ?_).trans e, n, ne, nf, d⟩
      intro q
      rw [q, hoc] at e
      have q' : oc = p.2 := Option.some.inj e
      exact d w' (by rw [← q']; exact hocd)
theorem store_ok {M : Model} {A : Around} {E : Value → Shared → Prop} {i : Nat} {x : Str} {v : V} {u : Value} {Q : Unit → Shared → Prop} (I : Inv X pins σ H s) (hN : X.N.Nodup) (hi : X.N[i]? = some x) (hx : Loc X.env.scope x) (r : RelV v u)
    (h : ∀ s', Inv X pins (σ.set i (some v)) H s' → Q () s') (hf : X.fn x = true ∨ X.env.scope.names.lookup x = some .local := by first | exact .inl rfl | exact .inr rfl | assumption) : wpAny M A (storeName X.env x u) Q E s :=
  store_ok2 I hN hi hx r (fun s' I' _ => h s' I') hf
theorem Inv.call' {s' : Shared} {ch : List Addr} (I : Inv X pins σ H s) (ho : s'.os = s.os) (u : Un (frs X.stack) ch H H' s.heap s'.heap) (hok : HOk X.prog X.w H' s'.heap) (hg : AllBare s'.gens)
    (hch : ∀ b ∈ ch, (b ∈ X.ex ∨ X.s₀.heap.objs.size ≤ b) ∧ b ≠ X.env.locals ∧ (∀ x c, X.env.cells.lookup x = some c → c ≠ b) ∧ ∀ p ∈ X.pn ++ pins, p.1 ≠ b) : Inv X pins σ H' s' := by
  obtain ⟨h', g', d', t', o'⟩ := s'
  have e : o' = s.os := ho
  subst e
  exact I.call (g' := g') (t' := t') (d' := d') u hok hg hch
end
abbrev XK := Value → Option Addr → Hp → Prop
abbrev St := List (Option V)
abbrev VK := V → Hp → Prop
abbrev TE := St → Hp → VK → Prop
abbrev TT := St → Hp → (Bool → Hp → Prop) → Prop
abbrev TA := St → Hp → (List V → Hp → Prop) → Prop
structure Ends where
  nx : St → Hp → Prop
  rt : VK
  bk : St → Hp → Prop := fun _ _ => False
  ct : St → Hp → Prop := fun _ _ => False
abbrev TS := Ends → St → Hp → Prop
def EP (X : Cx) (pins : List (Addr × Obj)) (σ : St) (Q : VK) (u : Value) (s' : Shared) : Prop := ∃ v H', Inv X pins σ H' s' ∧ RelV v u ∧ Q v H'
def TP (X : Cx) (pins : List (Addr × Obj)) (σ : St) (Q : Bool → Hp → Prop) (b : Bool) (s' : Shared) : Prop := ∃ H', Inv X pins σ H' s' ∧ Q b H'
def AP (X : Cx) (pins : List (Addr × Obj)) (σ : St) (Q : List V → Hp → Prop) (us : List Value) (s' : Shared) : Prop := ∃ vs H', Inv X pins σ H' s' ∧ Vals vs us ∧ Q vs H'
def SP (X : Cx) (pins : List (Addr × Obj)) (D : Ends) (f : Flow) (s' : Shared) : Prop :=
  match f with
  | .next => ∃ σ' H', Inv X pins σ' H' s' ∧ D.nx σ' H'
  | .brk => ∃ σ' H', Inv X pins σ' H' s' ∧ D.bk σ' H'
  | .cont => ∃ σ' H', Inv X pins σ' H' s' ∧ D.ct σ' H'
  | .ret u => ∃ v σ' H', Inv X pins σ' H' s' ∧ RelV v u ∧ D.rt v H'
def PE (X : Cx) (e : Expr) (t : TE) : Prop :=
  ∀ (pins : List (Addr × Obj)) (s : Shared) (σ : St) (H : Hp) (Q : VK), Inv X pins σ H s → t σ H Q → wpAny (model X.prog X.w) X.A (eval e X.env) (EP X pins σ Q) X.xe s
def PT (X : Cx) (e : Expr) (t : TT) : Prop :=
  ∀ (pins : List (Addr × Obj)) (s : Shared) (σ : St) (H : Hp) (Q : Bool → Hp → Prop), Inv X pins σ H s → t σ H Q → wpAny (model X.prog X.w) X.A (isTrue e X.env (eval e X.env)) (TP X pins σ Q) X.xe s
def PW (X : Cx) (e : Expr) (t : TT) : Prop :=
  ∀ (whole : Sem Value) (pins : List (Addr × Obj)) (s : Shared) (σ : St) (H : Hp) (Q : Bool → Hp → Prop), Inv X pins σ H s → t σ H Q → wpAny (model X.prog X.w) X.A (isTrue e X.env whole) (TP X pins σ Q) X.xe s
theorem PW.pt {X : Cx} {e : Expr} {t : TT} (h : PW X e t) : PT X e t := h _
def PA (X : Cx) (es : List Expr) (t : TA) : Prop :=
  ∀ (pos : Pos) (pins : List (Addr × Obj)) (s : Shared) (σ : St) (H : Hp) (Q : List V → Hp → Prop), Inv X pins σ H s → t σ H Q → wpAny (model X.prog X.w) X.A (spliced (backTo pos (starEach es X.env))) (AP X pins σ Q) X.xe s
def PS (X : Cx) (st : Stmt) (t : TS) : Prop :=
  ∀ (pins : List (Addr × Obj)) (s : Shared) (σ : St) (H : Hp) (D : Ends), Inv X pins σ H s → t D σ H → wpAny (model X.prog X.w) X.A (exec st X.env) (SP X pins D) X.xe s
def PSs (X : Cx) (st : List Stmt) (t : TS) : Prop :=
  ∀ (pins : List (Addr × Obj)) (s : Shared) (σ : St) (H : Hp) (D : Ends), Inv X pins σ H s → t D σ H → wpAny (model X.prog X.w) X.A (execs st X.env) (SP X pins D) X.xe s
theorem thn {α : Type} {t : Sem α} {Q Q' : α → Shared → Prop} {M : Model} {A : Around} {E : Value → Shared → Prop} {s : Shared} (h : wpAny M A t Q E s) (hQ : ∀ a s, Q a s → Q' a s) : wpAny M A t Q' E s := wpAny_mono h hQ fun _ _ x => x
end L2
namespace L2
open PySem PySem.Spec PyProof.Rows
section
variable {X : Cx}
def tVar (i : Nat) : TE := fun σ H Q => ∃ v, σ[i]? = some (some v) ∧ Q v H
def tC (v : V) : TE := fun _ H Q => Q v H
theorem pe_var {i : Nat} {x : Str} {pos : Pos} (hN : X.N[i]? = some x) (hv : Vis X.env.scope x) (hd : (x == ("__debug__" : Str)) = false := by decide) (hcd : (x == ("__classdict__" : Str)) = false := by decide) : PE X (.Name x pos) (tVar i) := by
  intro pins s σ H Q I h
  obtain ⟨v, e, h⟩ := h
  obtain ⟨m, hn, hl⟩ := I.loc
  obtain ⟨u, r, l⟩ := hl i x v hN e hv
  have fin : EP X pins σ Q u s := ⟨v, H, I, r, h⟩
  rcases l with ⟨hk, hm⟩ | ⟨hk, c, hc, hcell⟩
  · exact wpAny_Name (wpAny_loadName_local I.ok.kind hk hn hm fin) hd
  · rcases hk with hk | hk
    · exact wpAny_Name (wpAny_loadName_cell I.ok.kind hk hc hcell fin) hd
    · exact wpAny_Name (wpAny_loadName_free I.ok.kind hk hc hcell fin hcd) hd
theorem pe_int {i j pos} : PE X (.Constant (.int i) j pos) (tC (.int i)) := fun _ _ _ H _ I h => wpAny_Constant_int ⟨.int i, H, I.tok _, ⟨_, rfl⟩, h⟩
theorem pe_bl {b j pos} : PE X (.Constant (.bool b) j pos) (tC (.bl b)) := fun _ _ _ H _ I h => Constant_bool ⟨.bl b, H, I, rfl, h⟩
theorem pe_non {j pos} : PE X (.Constant .none j pos) (tC .non) := fun _ _ _ H _ I h => Constant_none ⟨.non, H, I, rfl, h⟩
theorem pe_str {x j pos} : PE X (.Constant (.str x) j pos) (tC (.str x)) := fun _ _ _ H _ I h => Calls.Constant_str ⟨.str x, H, I.tok _, ⟨_, rfl⟩, h⟩
def Gl (X : Cx) (x : Str) : Prop := X.env.kindOf x = some .globalImplicit
theorem ld_glob {E : Value → Shared → Prop} {pins : List (Addr × Obj)} {s : Shared} {σ : St} {H : Hp} {x : Str} {u : Value} {pos : Pos} {Q : Value → Shared → Prop} (I : Inv X pins σ H s) (hg : Gl X x) (hm : X.mg x = some u) (h : Q u s)
    (hd : (x == ("__debug__" : Str)) = false := by decide) : wpAny (model X.prog X.w) X.A (eval (.Name x pos) X.env) Q E s :=
  Calls.Name_function_global I.ok.kind hg (Calls.loadGlobal_global (by rw [I.ok.glob]; exact I.mod.glob.keeps I.bk) hm h) hd
theorem ld_blt {E : Value → Shared → Prop} {pins : List (Addr × Obj)} {s : Shared} {σ : St} {H : Hp} {x : Str} {u : Value} {pos : Pos} {Q : Value → Shared → Prop} (I : Inv X pins σ H s) (hg : Gl X x) (hm : X.mg x = none) (hv : bootBuiltins x = some u) (h : Q u s)
    (hn : x ≠ "__name__" := by decide) (hd : (x == ("__debug__" : Str)) = false := by decide) : wpAny (model X.prog X.w) X.A (eval (.Name x pos) X.env) Q E s := by
  obtain ⟨mb, h1, h2⟩ := I.mod.blt
  exact Calls.Name_function_global I.ok.kind hg (Calls.loadGlobal_builtin (by rw [I.ok.glob]; exact I.mod.glob.keeps I.bk) hm (by rw [I.ok.blt]; exact h1.keeps I.bk) ((h2 x hn).trans hv) h) hd
theorem pe_glob {x : Str} {v : V} {u : Value} {pos : Pos} (hg : Gl X x) (hm : X.mg x = some u) (r : RelV v u) (hd : (x == ("__debug__" : Str)) = false := by decide) : PE X (.Name x pos) (tC v) :=
  fun _ _ _ H _ I h => ld_glob I hg hm ⟨v, H, I, r, h⟩ hd
theorem pe_bltn {x : Str} {v : V} {u : Value} {pos : Pos} (hg : Gl X x) (hm : X.mg x = none) (hv : bootBuiltins x = some u) (r : RelV v u) (hn : x ≠ "__name__" := by decide) (hd : (x == ("__debug__" : Str)) = false := by decide) : PE X (.Name x pos) (tC v) :=
  fun _ _ _ H _ I h => ld_blt I hg hm hv ⟨v, H, I, r, h⟩ hn hd
variable {a b : Expr} {ta tb : TE} {pos : Pos}
def tB (t : TE) : TT := fun σ H Q => t σ H fun x H1 => ∃ c, x = .bl c ∧ Q c H1
theorem pt_val {e : Expr} {t : TE} (h : PE X e t) (he : ∀ whole, isTrue e X.env whole = (do let v ← whole; standAt e.pos; holding [v] (truthy v)) := by intro _; rfl) : PT X e (tB t) := by
  intro pins s σ H Q I hw
  refine isTrue_plain (thn (h pins s σ H _ I hw) fun v s1 ⟨x, H1, I1, r1, q1⟩ => ?_) (he _)
  obtain ⟨d, rfl, q⟩ := q1
  cases r1
  exact wpAny_truthy_bool ⟨H1, I1, q⟩
variable {tA tB' : TT} {rest : List Expr}
def tAnd (t u : TT) : TT := fun σ H Q => t σ H fun c H1 => if c = true then u σ H1 Q else Q false H1
def tOr (t u : TT) : TT := fun σ H Q => t σ H fun c H1 => if c = true then Q true H1 else u σ H1 Q
def tNot (t : TT) : TT := fun σ H Q => t σ H fun c H1 => Q (!c) H1
theorem pw_and1 (ha : PT X a tA) : PW X (.BoolOp .And [a] pos) tA := by
  intro wh pins s σ H Q I h
  refine isTrue_and (thn (ha pins s σ H Q I h) fun c s1 e => ?_)
  cases c with
  | true => exact isTrue_and_nil e
  | false => exact e
theorem pw_or1 (ha : PT X a tA) : PW X (.BoolOp .Or [a] pos) tA := by
  intro wh pins s σ H Q I h
  refine isTrue_or (thn (ha pins s σ H Q I h) fun c s1 e => ?_)
  cases c with
  | false => exact isTrue_or_nil e
  | true => exact e
theorem pw_and (ha : PT X a tA) (hb : PW X (.BoolOp .And (b :: rest) pos) tB') : PW X (.BoolOp .And (a :: b :: rest) pos) (tAnd tA tB') := by
  intro wh pins s σ H Q I h
  refine isTrue_and (thn (ha pins s σ H _ I h) fun c s1 ⟨H1, I1, q1⟩ => ?_)
  cases c with
  | true => exact hb wh pins s1 σ H1 Q I1 q1
  | false => exact ⟨H1, I1, q1⟩
theorem pw_or (ha : PT X a tA) (hb : PW X (.BoolOp .Or (b :: rest) pos) tB') : PW X (.BoolOp .Or (a :: b :: rest) pos) (tOr tA tB') := by
  intro wh pins s σ H Q I h
  refine isTrue_or (thn (ha pins s σ H _ I h) fun c s1 ⟨H1, I1, q1⟩ => ?_)
  cases c with
  | true => exact ⟨H1, I1, q1⟩
  | false => exact hb wh pins s1 σ H1 Q I1 q1
theorem pt_not (ha : PT X a tA) : PT X (.UnaryOp .Not a pos) (tNot tA) := by
  intro pins s σ H Q I h
  exact isTrue_not (ha pins s σ H (fun c H1 => Q (!c) H1) I h)
def tAndV (ta tb : TE) : TE := fun σ H Q => ta σ H fun x H1 => ∃ c, x = .bl c ∧ if c = true then tb σ H1 Q else Q (.bl false) H1
def tNotV (ta : TE) : TE := fun σ H Q => ta σ H fun x H1 => ∃ c, x = .bl c ∧ Q (.bl (!c)) H1
theorem pe_one {op} {t : TE} (h : PE X a t) : PE X (.BoolOp op [a] pos) t := fun pins s σ H Q I hw => BoolOp_one (h pins s σ H Q I hw)
theorem pe_and (ha : PE X a ta) (hb : PE X (.BoolOp .And (b :: rest) pos) tb) : PE X (.BoolOp .And (a :: b :: rest) pos) (tAndV ta tb) := by
  intro pins s σ H Q I h
  refine BoolOp_and (thn (ha pins s σ H _ I h) fun v s1 ⟨x, H1, I1, r1, q1⟩ => ?_)
  obtain ⟨c, rfl, q1⟩ := q1
  cases r1
  refine wpAny_truthy_bool ?_
  cases c with
  | true => exact hb pins s1 σ H1 Q I1 q1
  | false => exact ⟨.bl false, H1, I1, rfl, q1⟩
theorem pe_not (ha : PE X a ta) : PE X (.UnaryOp .Not a pos) (tNotV ta) := by
  intro pins s σ H Q I h
  refine UnaryOp_ (thn (ha pins s σ H _ I h) fun v s1 ⟨x, H1, I1, r1, q1⟩ => ?_)
  obtain ⟨c, rfl, q1⟩ := q1
  cases r1
  exact not_of (wpAny_truthy_bool ⟨.bl (!c), H1, I1, rfl, q1⟩)
def tIf (t : TT) (ta tb : TE) : TE := fun σ H Q => t σ H fun c H1 => if c = true then ta σ H1 Q else tb σ H1 Q
theorem pe_ifExp {c : Expr} (hc : PT X c tA) (ha : PE X a ta) (hb : PE X b tb) : PE X (.IfExp c a b pos) (tIf tA ta tb) := by
  intro pins s σ H Q I h
  refine wpAny_IfExp (thn (hc pins s σ H _ I h) fun d s1 ⟨H1, I1, q1⟩ => ?_)
  cases d with
  | true => exact ha pins s1 σ H1 Q I1 q1
  | false => exact hb pins s1 σ H1 Q I1 q1
end
end L2
namespace L2
open PySem PySem.Spec PyProof.Rows
def SqL (K : PySem.W.Frag) (H : Hp) (a : Addr) (xs : List V) : Prop :=
  Rd H a (.lst xs) ∨
    ∃ (o : Obj) (its : Array Value) (n : Nat), K.lookup a = some o ∧ o.cls = .type "list" ∧ o.dict = none ∧ o.data = .seq its n ∧ its.size ≤ sizeLine ∧ Vals xs its.toList
def SqT (K : PySem.W.Frag) (H : Hp) (a : Addr) (xs : List V) : Prop :=
  Rd H a (.tup xs) ∨
    ∃ (o : Obj) (its : Array Value) (n : Nat), K.lookup a = some o ∧ o.cls = .type "tuple" ∧ o.data = .seq its n ∧ its.size ≤ sizeLine ∧ Vals xs its.toList
def absV : Value → Option V
  | .none => some .non
  | .bool b => some (.bl b)
  | .int i _ => some (.int i)
  | .str x _ => some (.str x)
  | .bytes b _ => some (.byt b)
  | .float b _ => some (.flt b)
  | .ref a => some (.ref a)
  | .type n => some (.ty n)
  | _ => none
theorem RelV.abs {x : V} {u : Value} (r : RelV x u) : absV u = some x := by
  cases x with
  | non => cases r; rfl
  | bl _ => cases r; rfl
  | int _ => obtain ⟨t, rfl⟩ := r; rfl
  | str _ => obtain ⟨t, rfl⟩ := r; rfl
  | byt _ => obtain ⟨t, rfl⟩ := r; rfl
  | flt _ => obtain ⟨t, rfl⟩ := r; rfl
  | ref _ => cases r; rfl
  | ty _ => cases r; rfl
theorem RelV.inj {x y : V} {u : Value} (r : RelV x u) (q : RelV y u) : x = y := Option.some.inj (r.abs.symm.trans q.abs)
theorem Vals.inj : ∀ {xs ys : List V} {us : List Value}, Vals xs us → Vals ys us → xs = ys
  | _, _, _, .nil, .nil => rfl
  | _, _, _, .cons r t, .cons r' t' => by rw [r.inj r', Vals.inj t t']
section
variable {X : Cx} {pins : List (Addr × Obj)} {σ : St} {H : Hp} {s : Shared} {a : Addr} {xs ys : List V}
theorem SqL.of {K : PySem.W.Frag} (h : H a = some (.lst xs)) : SqL K H a xs := .inl (.inl h)
theorem SqT.of {K : PySem.W.Frag} (h : H a = some (.tup xs)) : SqT K H a xs := .inl (.inl h)
theorem Inv.list (I : Inv X pins σ H s) (h : SqL X.K H a xs) : ∃ its : List Value, Vals xs its ∧ PlainL s.heap a its.toArray ∧ xs.length ≤ sizeLine := by
  rcases h with h | ⟨o, its, n, hk, hc, hd, hs, hz, r⟩
  · obtain ⟨z, its, n, r, e⟩ := h.ok I.hok
    exact ⟨its, r, ⟨_, n, e, rfl, rfl, rfl⟩, z⟩
  · refine ⟨its.toList, r, ⟨o, n, I.kIn a o hk, hc, hd, by simpa using hs⟩, ?_⟩
    have e := r.length
    simp only [Array.length_toList] at e
    omega
theorem Inv.tuple (I : Inv X pins σ H s) (h : SqT X.K H a xs) : ∃ its : List Value, Vals xs its ∧ IsTup s.heap a its.toArray ∧ xs.length ≤ sizeLine := by
  rcases h with h | ⟨o, its, n, hk, hc, hs, hz, r⟩
  · obtain ⟨z, its, r, p⟩ := h.ok I.hok
    exact ⟨its, r, p, z⟩
  · refine ⟨its.toList, r, ⟨o, I.kIn a o hk, hc, n, by simpa using hs⟩, ?_⟩
    have e := r.length
    simp only [Array.length_toList] at e
    omega
theorem Inv.list_inj (I : Inv X pins σ H s) (h : SqL X.K H a xs) (h' : SqL X.K H a ys) : xs = ys := by
  obtain ⟨its, r, ⟨o, n, e, _, _, d⟩, _⟩ := I.list h
  obtain ⟨its', r', ⟨o', n', e', _, _, d'⟩, _⟩ := I.list h'
  rw [e] at e'; cases e'
  rw [d] at d'
  injection d' with d1 _
  have : its = its' := by simpa using congrArg Array.toList d1
  subst this
  exact r.inj r'
theorem Inv.tuple_inj (I : Inv X pins σ H s) (h : SqT X.K H a xs) (h' : SqT X.K H a ys) : xs = ys := by
  obtain ⟨its, r, ⟨o, e, _, n, d⟩, _⟩ := I.tuple h
  obtain ⟨its', r', ⟨o', e', _, n', d'⟩, _⟩ := I.tuple h'
  rw [e] at e'; cases e'
  rw [d] at d'
  injection d' with d1 _
  have : its = its' := by simpa using congrArg Array.toList d1
  subst this
  exact r.inj r'
end
abbrev Cx.wish (X : Cx) (E : Value → Shared → Prop) : Cx := { X with xe := E }
abbrev Cx.nox (X : Cx) : Cx := X.wish fun _ _ => False
theorem Cx.Ok.wish {X : Cx} (ok : X.Ok) (E : Value → Shared → Prop) : (X.wish E).Ok :=
  ⟨ok.mod, ok.kind, ok.glob, ok.blt, ok.above, ok.inj, ok.has, ok.cab, ok.hd, ok.frames, ok.stk, ok.exf, ok.bs, ok.bsz, ok.noex, ok.exfs, ok.funs, ok.frf⟩
theorem Cx.Ok.unwish {X : Cx} {E : Value → Shared → Prop} (ok : (X.wish E).Ok) : X.Ok :=
  ⟨ok.mod, ok.kind, ok.glob, ok.blt, ok.above, ok.inj, ok.has, ok.cab, ok.hd, ok.frames, ok.stk, ok.exf, ok.bs, ok.bsz, ok.noex, ok.exfs, ok.funs, ok.frf⟩
section
variable {X : Cx} {pins : List (Addr × Obj)} {σ : St} {H : Hp} {s : Shared} {E : Value → Shared → Prop}
theorem Inv.wish (I : Inv X pins σ H s) (E : Value → Shared → Prop) : Inv (X.wish E) pins σ H s := ⟨I.ok.wish E, I.os, I.bare, I.base, I.loc, I.cell, I.free, I.freeC, I.pin, I.hok, I.len⟩
theorem Inv.unwish (I : Inv (X.wish E) pins σ H s) : Inv X pins σ H s := ⟨I.ok.unwish, I.os, I.bare, I.base, I.loc, I.cell, I.free, I.freeC, I.pin, I.hok, I.len⟩
theorem SP.unwish {D : Ends} {f : Flow} {s' : Shared} (h : SP (X.wish E) pins D f s') : SP X pins D f s' := by
  cases f with
  | next => obtain ⟨σ', H', I, q⟩ := h; exact ⟨σ', H', I.unwish, q⟩
  | brk => obtain ⟨σ', H', I, q⟩ := h; exact ⟨σ', H', I.unwish, q⟩
  | cont => obtain ⟨σ', H', I, q⟩ := h; exact ⟨σ', H', I.unwish, q⟩
  | ret u => obtain ⟨v, σ', H', I, r, q⟩ := h; exact ⟨v, σ', H', I.unwish, r, q⟩
theorem PE.nox {e : Expr} {t : TE} (h : PE X.nox e t) : PE X e t := fun pins s σ H Q I hw =>
  wpAny_mono (h pins s σ H Q (I.wish _) hw) (fun _ _ ⟨v, H', I', r, q⟩ => ⟨v, H', I'.unwish, r, q⟩) fun _ _ z => False.elim z
theorem PT.nox {e : Expr} {t : TT} (h : PT X.nox e t) : PT X e t := fun pins s σ H Q I hw =>
  wpAny_mono (h pins s σ H Q (I.wish _) hw) (fun _ _ ⟨H', I', q⟩ => ⟨H', I'.unwish, q⟩) fun _ _ z => False.elim z
theorem PSs.nox {st : List Stmt} {t : TS} (h : PSs X.nox st t) : PSs X st t := fun pins s σ H D I hw =>
  wpAny_mono (h pins s σ H D (I.wish _) hw) (fun _ _ q => q.unwish) fun _ _ z => False.elim z
end
section
variable {X : Cx} {st : Stmt} {rest : List Stmt} {t u : TS} {e : Expr} {te : TE} {pos : Pos}
def tNext : TS := fun D σ H => D.nx σ H
def tSeq (t u : TS) : TS := fun D σ H => t { D with nx := u D } σ H
theorem pss_nil : PSs X [] tNext := fun _ _ σ H _ I h => wpAny_execs_nil ⟨σ, H, I, h⟩
theorem pss_cons (h1 : PS X st t) (h2 : PSs X rest u) : PSs X (st :: rest) (tSeq t u) := by
  intro pins s σ H D I h
  refine wpAny_execs_cons (thn (h1 pins s σ H { D with nx := u D } I h) fun f s1 q => ?_)
  cases f with
  | next =>
    obtain ⟨σ', H', I', q⟩ := q
    exact h2 pins s1 σ' H' D I' q
  | ret v => exact q
  | brk => exact q
  | cont => exact q
theorem pss_one (h1 : PS X st t) : PSs X [st] t := by
  intro pins s σ H D I h
  refine wpAny_execs_cons (thn (h1 pins s σ H D I h) fun f s1 q => ?_)
  cases f with
  | next => exact wpAny_execs_nil q
  | ret v => exact q
  | brk => exact q
  | cont => exact q
theorem Inv.quiet {pins : List (Addr × Obj)} {σ : St} {H : Hp} {s : Shared} (I : Inv X pins σ H s) : interactive X.env = false := by simp [interactive, I.ok.kind]
def tDrop (te : TE) : TS := fun D σ H => te σ H fun _ H1 => D.nx σ H1
theorem ps_expr (he : PE X e te) (hs : swapsWith e none pos.line X.env = pure false := by rfl) : PS X (.Expr e pos) (tDrop te) := by
  intro pins s σ H D I h
  exact wpAny_Expr_any (thn (he pins s σ H _ I h) fun v s1 ⟨x, H1, I1, r1, q1⟩ => ⟨σ, H1, I1, q1⟩) I.quiet hs
def tRet (te : TE) : TS := fun D σ H => te σ H D.rt
theorem ps_ret (he : PE X e te) : PS X (.Return (some e) pos) (tRet te) := by
  intro pins s σ H D I h
  exact wpAny_Return_some (thn (he pins s σ H _ I h) fun v s1 ⟨x, H1, I1, r1, q1⟩ => ⟨x, σ, H1, I1, r1, q1⟩)
def tIfS (c : TT) (t u : TS) : TS := fun D σ H => c σ H fun b H1 => if b = true then t D σ H1 else u D σ H1
theorem ps_if {c : Expr} {a b : List Stmt} {tc : TT} (hc : PT X c tc) (ha : PSs X a t) (hb : PSs X b u) : PS X (.If c a b pos) (tIfS tc t u) := by
  intro pins s σ H D I h
  refine wpAny_If (thn (hc pins s σ H _ I h) fun d s1 ⟨H1, I1, q1⟩ => ?_)
  cases d with
  | true => exact ha pins s1 σ H1 D I1 q1
  | false => exact hb pins s1 σ H1 D I1 q1
end
abbrev TG := V → St → Hp → (St → Hp → Prop) → Prop
abbrev TGs := List V → St → Hp → (St → Hp → Prop) → Prop
def PG (X : Cx) (target : Expr) (t : TG) : Prop :=
  ∀ (pins : List (Addr × Obj)) (s : Shared) (σ : St) (H : Hp) (v : V) (u : Value) (Q : St → Hp → Prop), Inv X pins σ H s → RelV v u → t v σ H Q →
    wpAny (model X.prog X.w) X.A (assign target X.env u) (fun _ s' => ∃ σ' H', Inv X pins σ' H' s' ∧ Q σ' H') X.xe s
def PGs (X : Cx) (ts : List Expr) (t : TGs) : Prop :=
  ∀ (pins : List (Addr × Obj)) (s : Shared) (σ : St) (H : Hp) (vs : List V) (us : List Value) (Q : St → Hp → Prop), Inv X pins σ H s → Vals vs us → t vs σ H Q →
    wpAny (model X.prog X.w) X.A (assignInOrder ((assignEach ts X.env).map (·.2)) us) (fun _ s' => ∃ σ' H', Inv X pins σ' H' s' ∧ Q σ' H') X.xe s
section
variable {X : Cx} {pos : Pos}
def gName (i : Nat) : TG := fun v σ H Q => Q (σ.set i (some v)) H
theorem pg_name {i : Nat} {x : Str} (hN : X.N.Nodup) (hi : X.N[i]? = some x) (hx : Loc X.env.scope x) (hf : X.fn x = true ∨ X.env.scope.names.lookup x = some .local := by first | exact .inl rfl | exact .inr rfl | assumption) : PG X (.Name x pos) (gName i) := by
  intro pins s σ H v u Q I r h
  exact wpAny_assign_Name (store_ok I hN hi hx r (fun s' I' => ⟨_, H, I', h⟩) hf)
def gNil : TGs := fun vs σ H Q => vs = [] ∧ Q σ H
def gCons (t : TG) (u : TGs) : TGs := fun vs σ H Q => ∃ v r, vs = v :: r ∧ t v σ H fun σ' H' => u r σ' H' Q
theorem pgs_nil : PGs X [] gNil := by
  intro pins s σ H vs us Q I r h
  obtain ⟨e, h⟩ := h
  subst e
  cases r
  exact assignInOrder_nil ⟨σ, H, I, h⟩
theorem pgs_cons {e : Expr} {es : List Expr} {t : TG} {u : TGs} (h1 : PG X e t) (h2 : PGs X es u)
    (hs : (assignEach (e :: es) X.env).map (·.2) = assign e X.env :: (assignEach es X.env).map (·.2) := by rfl) : PGs X (e :: es) (gCons t u) := by
  intro pins s σ H vs us Q I r h
  obtain ⟨v, vr, e1, h⟩ := h
  subst e1
  cases r with
  | cons r rr =>
    rw [hs]
    refine assignInOrder_cons (thn (h1 pins s σ H _ _ _ I r h) fun _ s1 ⟨σ1, H1, I1, q1⟩ => ?_)
    exact h2 pins s1 σ1 H1 _ _ Q I1 rr q1
def gTup (K : PySem.W.Frag) (n : Nat) (t : TGs) : TG := fun v σ H Q => ∃ a xs, v = .ref a ∧ SqT K H a xs ∧ xs.length = n ∧ t xs σ H Q
theorem pg_tup {es : List Expr} {k : Nat} {t : TGs} {n : Nat} (hc : X.calm = true) (h : PGs X es t)
    (hn : (assignEach es X.env).length = n := by rfl) (hst : (assignEach es X.env).findIdx? (·.1) = none := by rfl) : PG X (.Tuple es k pos) (gTup X.K n t) := by
  intro pins s σ H v u Q I r hw
  obtain ⟨a, xs, e1, hq, hl, hw⟩ := hw
  subst e1
  cases r
  obtain ⟨its, rv, ht, hz⟩ := I.tuple hq
  refine assign_Tuple_tuple (I.ok.hd hc) ht (by simp [hn, ← hl, rv.length]) hst fun h' hx => ?_
  have I1 : Inv X pins σ H { s with heap := h' } := I.kept (t' := s.toks) fun b o e => hx b o (Nat.ne_of_lt (Heap.lt_size e)) e
  exact h pins _ σ H xs _ Q I1 (by simpa using rv) hw
def tAsg (te : TE) (g : TG) : TS := fun D σ H => te σ H fun x H1 => g x σ H1 D.nx
theorem ps_set {i : Nat} {x : Str} {e : Expr} {te : TE} {pos' : Pos} (hN : X.N.Nodup) (hi : X.N[i]? = some x) (hx : Loc X.env.scope x) (he : PE X e te) (hs : swapsWith e (some (.Name x pos')) pos.line X.env = pure false := by rfl) (hf : X.fn x = true ∨ X.env.scope.names.lookup x = some .local := by first | exact .inl rfl | exact .inr rfl | assumption) :
    PS X (.Assign [.Name x pos'] e pos) (tAsg te (gName i)) := by
  intro pins s σ H D I h
  refine wpAny_Assign_Name (thn (he pins s σ H _ I h) fun v s1 ⟨y, H1, I1, r1, q1⟩ => ?_) hs
  exact store_ok I1 hN hi hx r1 (fun s2 I2 => ⟨_, H1, I2, q1⟩) hf
end
section
variable {X : Cx} {pos : Pos}
end
structure It where
  go : Nat → Hp → Prop
  yld : Nat → Hp → V → Hp → Prop
  stop : Nat → Hp → Prop
def FpOk (X : Cx) (pins : List (Addr × Obj)) (H : Hp) (b : Addr) : Prop :=
  H b = none ∧ b ≠ X.env.locals ∧ b ∉ X.fs ∧ (b ∈ X.ex ∨ X.s₀.heap.objs.size ≤ b) ∧ (∀ x c, X.env.cells.lookup x = some c → c ≠ b) ∧ ∀ p ∈ X.pn ++ pins, p.1 ≠ b
theorem Inv.fpOk {X : Cx} {pins : List (Addr × Obj)} {σ : St} {H H' : Hp} {s : Shared} {b : Addr} (I : Inv X pins σ H s) (hb : s.heap.objs.size ≤ b) (hn : H' b = none) : FpOk X pins H' b := by
  refine ⟨hn, Nat.ne_of_gt (Nat.lt_of_lt_of_le I.lt hb), I.nofs hb, .inr (Nat.le_trans I.sz hb), fun x c e z => ?_, fun p hp z => ?_⟩
  · obtain ⟨v, q⟩ := I.cell x c e
    exact absurd (Nat.lt_of_lt_of_le q.lt (by rw [z]; exact hb)) (Nat.lt_irrefl _)
  · exact absurd (Nat.lt_of_lt_of_le (Heap.lt_size (I.pin p hp).1) (by rw [z]; exact hb)) (Nat.lt_irrefl _)
structure Turn (P : Program) (w : World) (K : PySem.W.Frag) (tg : Expr) (J : It) (fp : List Addr) (it : Addr) (tn : Nat → Heap → Prop) : Prop where
  mem : it ∈ fp
  obj : ∀ i h, tn i h → ∀ b ∈ fp, ∃ o, h.get? b = some o ∧ ∀ v, o.data ≠ .cell v
  keep : ∀ i h h', tn i h → (∀ b ∈ fp, ∀ o, h.get? b = some o → h'.get? b = some o) → tn i h'
  item : ∀ (X : Cx), X.prog = P → X.w = w → X.K = K → X.calm = true → ∀ (i : Nat) (pins : List (Addr × Obj)) (s : Shared) (σ : St) (H : Hp) (E : Value → Shared → Prop), Inv X pins σ H s → (∀ b ∈ fp, FpOk X pins H b) → tn i s.heap → J.go i H →
    wpAny (model P w) X.A (pyNext (.ref it)) (fun r s1 => ∃ u, r = some u ∧
      wpAny (model P w) X.A (letOwnedTupleGo tg (.ref it) u) (fun _ s2 => ∃ x H', Inv X pins σ H' s2 ∧ RelV x u ∧ J.yld i H x H' ∧ tn (i + 1) s2.heap ∧ ∀ b ∈ fp, H' b = none) E s1) E s
  done : ∀ (X : Cx), X.prog = P → X.w = w → X.K = K → X.calm = true → ∀ (i : Nat) (pins : List (Addr × Obj)) (s : Shared) (σ : St) (H : Hp) (E : Value → Shared → Prop), Inv X pins σ H s → (∀ b ∈ fp, FpOk X pins H b) → tn i s.heap → J.stop i H →
    wpAny (model P w) X.A (pyNext (.ref it)) (fun r s1 => r = none ∧ Inv X pins σ H s1) E s
  self : ∀ (A : Around) (i : Nat) (s : Shared) (Q : Value → Shared → Prop) (E : Value → Shared → Prop), tn i s.heap → Q (.ref it) s → wpAny (model P w) A (pyIter (.ref it)) Q E s
abbrev TI := St → Hp → (It → Hp → Prop) → Prop
def PIE (X : Cx) (pins : List (Addr × Obj)) (σ : St) (tg : Expr) (R : It → Hp → Prop) (itv : Value) (s2 : Shared) : Prop :=
  ∃ (it : Addr) (fp : List Addr) (tn : Nat → Heap → Prop) (J : It) (H' : Hp), itv = .ref it ∧ Inv X pins σ H' s2 ∧ Turn X.prog X.w X.K tg J fp it tn ∧ tn 0 s2.heap ∧ (∀ b ∈ fp, FpOk X pins H' b) ∧ R J H'
def PI (X : Cx) (tg iter : Expr) (wi : TI) : Prop :=
  ∀ (pins : List (Addr × Obj)) (s : Shared) (σ : St) (H : Hp) (R : It → Hp → Prop), Inv X pins σ H s → wi σ H R →
    wpAny (model X.prog X.w) X.A (eval iter X.env) (fun v s1 => wpAny (model X.prog X.w) X.A (pyIter v) (PIE X pins σ tg R) X.xe s1) X.xe s
theorem go_of {M : Model} {A : Around} {E : Value → Shared → Prop} {s : Shared} {tg : Expr} {it : Addr} {u : Value} {o : Obj} {n : String} {vs : Array Value} {Q : Unit → Shared → Prop} (ho : s.heap.get? it = some o) (hc : o.cls = .type n) (hd : o.data = .fields vs)
    (hn : ["enumerate", "zip", "dict_itemiterator", "dict_reverseitemiterator", "odict_iterator", "itertools.zip_longest", "itertools.pairwise"].contains n = false) (hQ : Q () s) : wpAny M A (letOwnedTupleGo tg (.ref it) u) Q E s := by
  unfold letOwnedTupleGo
  cases tg <;> first
    | exact wpAny_pure hQ
    | (cases u <;> first
        | exact wpAny_pure hQ
        | (refine wpAny_bind (wpAny_load ho ?_)
           rw [hc, hd]
           show wpAny M A (if (["enumerate", "zip", "dict_itemiterator", "dict_reverseitemiterator", "odict_iterator", "itertools.zip_longest", "itertools.pairwise"].contains n && vs[0]? == some (rawInt _)) = true then _ else _) Q E s
           rw [if_neg (by intro h; rw [hn, Bool.false_and] at h; cases h)]
           exact wpAny_pure hQ))
def Itr (lo : Int) (n : Nat) : It := ⟨fun i _ => i < n, fun i H x H' => H' = H ∧ x = .int (lo + i), fun i _ => n ≤ i⟩
theorem turn_range {P : Program} {w : World} {K : PySem.W.Frag} {tg : Expr} (it : Addr) (lo : Int) (n : Nat) : Turn P w K tg (Itr lo n) [it] it (fun i h => IsRangeIter h it (lo + (i : Nat) * 1) ((n : Int) - (i : Nat)) 1) where
  mem := by simp
  obj := fun i h st b hb => by
    have e : b = it := by simpa using hb
    subst e
    exact ⟨_, st, fun v z => by
      have z' : Data.fields _ = Data.cell v := z
      cases z'⟩
  keep := fun i h h' st k => k it (by simp) _ st
  item := by
    intro X hP hw hK hc i pins s σ H E I hf st hg
    subst hP hw hK
    obtain ⟨f0, f1, f2, f3, f4, f5⟩ := hf it (by simp)
    have W := Walks.range (prog := X.prog) (w := X.w) (I.ok.hd hc) it lo 1 n
    refine W.item i s _ _ hg st fun v h' tk hv st' kk => ?_
    obtain ⟨t, rfl⟩ := hv
    have I1 : Inv X pins σ H { s with heap := h', toks := tk } := I.turned (fun b o hb e => kk b o (by simpa using hb) e) f0 f1 f3 f4 f5
    refine ⟨_, rfl, go_of (s := { s with heap := h', toks := tk }) (n := "range_iterator") st' rfl rfl (by decide) ⟨.int (lo + i), H, I1, ⟨t, ?_⟩, ⟨rfl, rfl⟩, st', fun b hb => (hf b hb).1⟩⟩
    rw [Int.mul_one]
  done := by
    intro X hP hw hK hc i pins s σ H E I hf st hg
    subst hP hw hK
    obtain ⟨f0, f1, f2, f3, f4, f5⟩ := hf it (by simp)
    exact wpAny_pyNext_range_end (I.ok.hd hc) st (by have : n ≤ i := hg; omega) fun h' eb => ⟨rfl, I.turned (t' := s.toks) (fun b o hb e => eb b o hb e) f0 f1 f3 f4 f5⟩
  self := fun _ _ _ _ _ st h => wpAny_pyIter_rangeiter st h
end L2
namespace L2
open PySem PySem.Spec PyProof.Rows
section
variable {X : Cx} {tg : Expr}
theorem range_it {pins : List (Addr × Obj)} {σ : St} {H : Hp} {s : Shared} {R : It → Hp → Prop} {E : Value → Shared → Prop} {lo hi : Int} {t u v : Tok} {tk : Nat} (I : Inv X pins σ H s) (h1 : -(2 ^ 62) ≤ lo) (h2 : lo < 2 ^ 62) (h3 : -(2 ^ 62) ≤ hi) (h4 : hi < 2 ^ 62)
    (q : R (Itr lo (hi - lo).toNat) H) : wpAny (model X.prog X.w) X.A (pyIter (.ref s.heap.objs.size)) (PIE X pins σ tg R) E { s with heap := s.heap.push { cls := .type "range", data := .fields #[.int lo t, .int hi u, .int 1 v] }, toks := tk } := by
  refine wpAny_pyIter_range (IsRange.new ..) (small_one h1 h2 h3 h4) ?_
  have I1 : Inv X pins σ H { s with heap := s.heap.push { cls := .type "range", data := .fields #[.int lo t, .int hi u, .int 1 v] }, toks := tk } := I.kept fun b o e => Heap.get?_push_of_some _ e
  refine ⟨(s.heap.push { cls := .type "range", data := .fields #[.int lo t, .int hi u, .int 1 v] }).objs.size, [(s.heap.push { cls := .type "range", data := .fields #[.int lo t, .int hi u, .int 1 v] }).objs.size], _, _, H, rfl,
    I1.kept (t' := tk) fun b o e => Heap.get?_push_of_some _ e, turn_range _ lo (hi - lo).toNat, ?_, fun b hb => ?_, q⟩
  · have e1 : lo + ((0 : Nat) : Int) * 1 = lo := by simp
    have e2 : (((hi - lo).toNat : Nat) : Int) - ((0 : Nat) : Int) = Builtin.Range.rangeSize lo hi 1 := by rw [rangeSize_one]; split <;> omega
    show IsRangeIter _ _ (lo + ((0 : Nat) : Int) * 1) ((((hi - lo).toNat : Nat) : Int) - ((0 : Nat) : Int)) 1
    rw [e1, e2]
    exact Heap.get?_push_size _ rfl
  · have e : b = (s.heap.push { cls := .type "range", data := .fields #[.int lo t, .int hi u, .int 1 v] }).objs.size := by simpa using hb
    subst e
    exact I1.fpOk (Nat.le_refl _) (I1.hok.fresh (Nat.le_refl _))
def iRng1 (ta : TA) : TI := fun σ H R => ta σ H fun vs H1 => ∃ j : Int, vs = [.int j] ∧ -(2 ^ 62) ≤ j ∧ j < 2 ^ 62 ∧ R (Itr 0 j.toNat) H1
theorem pi_range1 {a : Expr} {ta : TA} {p pos : Pos} (hg : Gl X "range") (hm : X.mg "range" = none) (ha : PA X [a] ta) (hs : starEach [a] X.env = [(false, eval a X.env)] := by rfl) : PI X tg (.Call (.Name "range" p) [a] [] pos) (iRng1 ta) := by
  intro pins s σ H R I h
  refine Call_ (ld_blt I hg hm boot_range (PyProof.Rows.callWith_type1 (thn (ha pos pins s σ H _ I h) fun us s1 ⟨vs, H1, I1, r1, q1⟩ => ?_) hs rfl))
  obtain ⟨j, e, q1, q2, q⟩ := q1
  subst e
  cases r1 with
  | cons r rr =>
    cases rr
    obtain ⟨t, rfl⟩ := r
    exact call_range_1 (range_it I1 (by omega) (by omega) q1 q2 (by simpa using q))
def tFor (wi : TI) (g : TG) (tb : TS) : TS := fun D σ H => wi σ H fun J H1 => ∃ W : Nat → Nat → St → Hp → Prop, (∃ m, W 0 m σ H1) ∧ ∀ i m σ H, W i m σ H →
  (J.stop i H ∧ D.nx σ H) ∨ (J.go i H ∧ ∃ N : St → Hp → Prop, (∀ σ' H', N σ' H' → ∃ m', m' < m ∧ W (i + 1) m' σ' H') ∧ ∀ x H', J.yld i H x H' → g x σ H' fun σ2 H2 => tb { D with nx := N, ct := N, bk := D.nx } σ2 H2)
def pinsAt (fp : List Addr) (h : Heap) : List (Addr × Obj) := fp.filterMap fun b => (h.get? b).map fun o => (b, o)
theorem mem_pinsAt {fp : List Addr} {h : Heap} {b : Addr} {o : Obj} (hb : b ∈ fp) (e : h.get? b = some o) : (b, o) ∈ pinsAt fp h := List.mem_filterMap.mpr ⟨b, hb, by rw [e]; rfl⟩
theorem of_pinsAt {fp : List Addr} {h : Heap} {p : Addr × Obj} (hp : p ∈ pinsAt fp h) : p.1 ∈ fp ∧ h.get? p.1 = some p.2 := by
  obtain ⟨b, hb, e⟩ := List.mem_filterMap.mp hp
  cases q : h.get? b with
  | none => rw [q] at e; cases e
  | some o =>
    rw [q] at e
    have e' : (b, o) = p := Option.some.inj e
    subst e'
    exact ⟨hb, q⟩
theorem Inv.pinned {pins : List (Addr × Obj)} {σ : St} {H : Hp} {s : Shared} {fp : List Addr} (I : Inv X pins σ H s) (hf : ∀ b ∈ fp, FpOk X pins H b) (ho : ∀ b ∈ fp, ∃ o, s.heap.get? b = some o ∧ ∀ v, o.data ≠ .cell v) : Inv X (pins ++ pinsAt fp s.heap) σ H s :=
  I.pins_of fun p hp => (List.mem_append.mp hp).elim (fun z => I.pin p (List.mem_append_right _ z)) fun z => by
    obtain ⟨hb, e⟩ := of_pinsAt z
    obtain ⟨f0, f1, f2, _⟩ := hf p.1 hb
    obtain ⟨o, e', d⟩ := ho p.1 hb
    rw [e] at e'; cases e'
    exact ⟨e, f0, f1, f2, d⟩
theorem Inv.unpinned {pins pl : List (Addr × Obj)} {σ : St} {H : Hp} {s : Shared} (I : Inv X (pins ++ pl) σ H s) : Inv X pins σ H s := I.pins_of fun p hp => I.pin p (List.mem_append_right _ (List.mem_append_left _ hp))
theorem ps_for {iter : Expr} {body : List Stmt} {wi : TI} {g : TG} {tb : TS} {pos : Pos} (hp : PassesOwn (model X.prog X.w) X.A X.env X.xe) (hc : X.calm = true) (hi : PI X tg iter wi) (hg : PG X tg g) (hb : PSs X body tb)
    (hs : ∀ x, foldedSetIterable iter X.env x = pure x := by intro _; rfl) : PS X (.For tg iter body [] pos) (tFor wi g tb) := by
  intro pins s σ H D I h
  refine wpAny_For (thn (hi pins s σ H _ I h) fun v s1 h1 => thn h1 fun itv s2 h2 => ?_) hs
  obtain ⟨it, fp, tn, J, H2, e, I2, T, st2, f2, W, ⟨m0, w0⟩, turn⟩ := h2
  subst e
  have stat : ∀ {H' : Hp}, (∀ b ∈ fp, H' b = none) → ∀ b ∈ fp, FpOk X pins H' b := fun hn b hb => ⟨hn b hb, (f2 b hb).2⟩
  refine codeAny_forLoop_any (fun n s' => ∃ i σ' H', Inv X pins σ' H' s' ∧ tn i s'.heap ∧ (∀ b ∈ fp, H' b = none) ∧ W i n σ' H') ?_ m0 ⟨0, σ, H2, I2, st2, fun b hb => (f2 b hb).1, w0⟩
  rintro n s3 ⟨i, σ3, H3, I3, st3, fr3, w3⟩
  rcases turn i n σ3 H3 w3 with ⟨stop, qn⟩ | ⟨go, N, hN, step⟩
  · refine wpAny_passesOwn hp (thn (T.done X rfl rfl rfl hc i pins s3 σ3 H3 X.xe I3 (stat fr3) st3 stop) fun r s4 ⟨hr, I4⟩ => ?_)
    subst hr
    exact wpAny_execs_nil ⟨σ3, H3, I4, qn⟩
  · refine wpAny_passesOwn hp (thn (T.item X rfl rfl rfl hc i pins s3 σ3 H3 X.xe I3 (stat fr3) st3 go) fun r s4 ⟨u, hr, h4⟩ => ?_)
    subst hr
    refine wpAny_passesOwn hp (thn h4 fun _ s5 ⟨x, H5, I5, r5, y5, st5, fr5⟩ => ?_)
    have I5' := I5.pinned (stat fr5) (T.obj _ _ st5)
    refine wpAny_passesOwn hp (thn (hg _ s5 σ3 H5 x u _ I5' r5 (step x H5 y5)) fun _ s6 ⟨σ6, H6, I6, q6⟩ => ?_)
    refine wpAny_passesOwn hp (thn (hb _ s6 σ6 H6 _ I6 q6) fun f s7 q7 => ?_)
    have again : ∀ {σ7 : St} {H7 : Hp}, Inv X (pins ++ pinsAt fp s5.heap) σ7 H7 s7 → N σ7 H7 → ∃ m, m < n ∧ ∃ i σ' H', Inv X pins σ' H' s7 ∧ tn i s7.heap ∧ (∀ b ∈ fp, H' b = none) ∧ W i m σ' H' := fun {σ7 H7} I7 n7 => by
      obtain ⟨m', hm, w7⟩ := hN σ7 H7 n7
      refine ⟨m', hm, i + 1, σ7, H7, I7.unpinned, T.keep _ _ _ st5 fun b hb o e => (I7.pin (b, o) (List.mem_append_right _ (List.mem_append_right _ (mem_pinsAt hb e)))).1, fun b hb => ?_, w7⟩
      obtain ⟨o, e, d⟩ := T.obj _ _ st5 b hb
      exact (I7.pin (b, o) (List.mem_append_right _ (List.mem_append_right _ (mem_pinsAt hb e)))).2.1
    cases f with
    | next => obtain ⟨σ7, H7, I7, n7⟩ := q7; exact again I7 n7
    | cont => obtain ⟨σ7, H7, I7, n7⟩ := q7; exact again I7 n7
    | brk => obtain ⟨σ7, H7, I7, q7⟩ := q7; exact ⟨σ7, H7, I7.unpinned, q7⟩
    | ret v => obtain ⟨x7, σ7, H7, I7, r7, q7⟩ := q7; exact ⟨x7, σ7, H7, I7.unpinned, r7, q7⟩
end
theorem for_range {lo : Int} {n : Nat} {g : TG} {tb : TS} {D : Ends} {σ : St} {H : Hp} (Pv : Nat → St → Hp → Prop) (h0 : Pv 0 σ H)
    (hs : ∀ i σ H, i < n → Pv i σ H → g (.int (lo + i)) σ H fun σ2 H2 => tb { D with nx := Pv (i + 1), ct := Pv (i + 1), bk := D.nx } σ2 H2) (hd : ∀ σ H, Pv n σ H → D.nx σ H) :
    ∃ W : Nat → Nat → St → Hp → Prop, (∃ m, W 0 m σ H) ∧ ∀ i m σ H, W i m σ H →
      ((Itr lo n).stop i H ∧ D.nx σ H) ∨ ((Itr lo n).go i H ∧ ∃ N : St → Hp → Prop, (∀ σ' H', N σ' H' → ∃ m', m' < m ∧ W (i + 1) m' σ' H') ∧ ∀ x H', (Itr lo n).yld i H x H' → g x σ H' fun σ2 H2 => tb { D with nx := N, ct := N, bk := D.nx } σ2 H2) := by
  refine ⟨fun i m σ H => m = n - i ∧ i ≤ n ∧ Pv i σ H, ⟨n, by simp, Nat.zero_le _, h0⟩, ?_⟩
  rintro i m σ H ⟨rfl, hi, p⟩
  by_cases hlt : i < n
  · refine .inr ⟨hlt, Pv (i + 1), fun σ' H' p' => ⟨n - (i + 1), by omega, rfl, hlt, p'⟩, fun x H' y => ?_⟩
    obtain ⟨e, y⟩ := y
    subst e y
    exact hs i σ _ hlt p
  · have e : i = n := by omega
    subst e
    exact .inl ⟨Nat.le_refl _, hd σ H p⟩
end L2
namespace L2
open PySem PySem.Spec PyProof.Rows
abbrev R2 := V → V → Hp → VK → Prop
def OpR (X : Cx) (f : Value → Value → Sem Value) (r : R2) : Prop :=
  ∀ (pins : List (Addr × Obj)) (s : Shared) (σ : St) (H : Hp) (x y : V) (v u : Value) (Q : VK), Inv X pins σ H s → RelV x v → RelV y u → r x y H Q →
    wpAny (model X.prog X.w) X.A (f v u) (EP X pins σ Q) X.xe s
def UnR (X : Cx) (f : Value → Sem Value) (r : V → Hp → VK → Prop) : Prop :=
  ∀ (pins : List (Addr × Obj)) (s : Shared) (σ : St) (H : Hp) (x : V) (v : Value) (Q : VK), Inv X pins σ H s → RelV x v → r x H Q →
    wpAny (model X.prog X.w) X.A (f v) (EP X pins σ Q) X.xe s
def CallR (X : Cx) (f : Value) (r : List V → Hp → VK → Prop) : Prop :=
  ∀ (pins : List (Addr × Obj)) (s : Shared) (σ : St) (H : Hp) (xs : List V) (us : List Value) (Q : VK), Inv X pins σ H s → Vals xs us → r xs H Q →
    wpAny (model X.prog X.w) X.A (call f us) (EP X pins σ Q) X.xe s
def TruR (X : Cx) (r : V → Hp → (Bool → Hp → Prop) → Prop) : Prop :=
  ∀ (pins : List (Addr × Obj)) (s : Shared) (σ : St) (H : Hp) (x : V) (v : Value) (Q : Bool → Hp → Prop), Inv X pins σ H s → RelV x v → r x H Q →
    wpAny (model X.prog X.w) X.A (truthy v) (TP X pins σ Q) X.xe s
def tOp (r : R2) (ta tb : TE) : TE := fun σ H Q => ta σ H fun x H1 => tb σ H1 fun y H2 => r x y H2 Q
def rI (C : Int → Int → Prop) (g : Int → Int → V) : R2 := fun x y H Q => ∃ i j, x = .int i ∧ y = .int j ∧ C i j ∧ Q (g i j) H
def rI0 (g : Int → Int → V) : R2 := fun x y H Q => ∃ i j, x = .int i ∧ y = .int j ∧ Q (g i j) H
section
variable {X : Cx} {a b c : Expr} {ta tb tc : TE} {pos : Pos}
theorem binT (ha : PE X a ta) (hb : PE X b tb) {pins : List (Addr × Obj)} {s : Shared} {σ : St} {H : Hp} {R : V → V → Hp → Prop} (I : Inv X pins σ H s)
    (h : ta σ H fun x H1 => tb σ H1 fun y H2 => R x y H2) {Q : Value → Shared → Prop} {f : Value → Value → Sem Value}
    (hf : ∀ v u s2 x y H2, Inv X pins σ H2 s2 → RelV x v → RelV y u → R x y H2 → wpAny (model X.prog X.w) X.A (f v u) Q X.xe s2) :
    wpAny (model X.prog X.w) X.A (eval a X.env) (fun v s₁ => wpAny (model X.prog X.w) X.A (eval b X.env) (fun u s₂ => wpAny (model X.prog X.w) X.A (f v u) Q X.xe s₂) X.xe s₁) X.xe s := by
  refine thn (ha pins s σ H _ I h) fun v s1 ⟨x, H1, I1, r1, q1⟩ => ?_
  refine thn (hb pins s1 σ H1 _ I1 q1) fun u s2 ⟨y, H2, I2, r2, q2⟩ => ?_
  exact hf v u s2 x y H2 I2 r1 r2 q2
theorem pe_op {op : Operator} {r : R2} (ho : OpR X (binaryOp op) r) (ha : PE X a ta) (hb : PE X b tb) : PE X (.BinOp a op b pos) (tOp r ta tb) := by
  intro pins s σ H Q I h
  exact wpAny_BinOp (binT ha hb I h fun v u s2 x y H2 I2 rx ry q => ho pins s2 σ H2 x y v u Q I2 rx ry q)
theorem opI {f : Value → Value → Sem Value} {C : Int → Int → Prop} {g : Int → Int → Int}
    (rule : ∀ (i j : Int) (t u : Tok) (s : Shared) (Q : Value → Shared → Prop) (E : Value → Shared → Prop), C i j → Q (.int (g i j) s.toks) { s with toks := s.toks + 1 } → wpAny (model X.prog X.w) X.A (f (.int i t) (.int j u)) Q E s) :
    OpR X f (rI C fun i j => .int (g i j)) := by
  intro pins s σ H x y v u Q I rx ry h
  obtain ⟨i, j, rfl, rfl, hc, q⟩ := h
  obtain ⟨t, rfl⟩ := rx
  obtain ⟨t', rfl⟩ := ry
  exact rule i j t t' s _ _ hc ⟨.int (g i j), H, I.tok _, ⟨_, rfl⟩, q⟩
theorem opI0 {f : Value → Value → Sem Value} {g : Int → Int → Int}
    (rule : ∀ (i j : Int) (t u : Tok) (s : Shared) (Q : Value → Shared → Prop) (E : Value → Shared → Prop), Q (.int (g i j) s.toks) { s with toks := s.toks + 1 } → wpAny (model X.prog X.w) X.A (f (.int i t) (.int j u)) Q E s) :
    OpR X f (rI0 fun i j => .int (g i j)) := by
  intro pins s σ H x y v u Q I rx ry h
  obtain ⟨i, j, rfl, rfl, q⟩ := h
  obtain ⟨t, rfl⟩ := rx
  obtain ⟨t', rfl⟩ := ry
  exact rule i j t t' s _ _ ⟨.int (g i j), H, I.tok _, ⟨_, rfl⟩, q⟩
theorem opB0 {f : Value → Value → Sem Value} {g : Int → Int → Bool}
    (rule : ∀ (i j : Int) (t u : Tok) (s : Shared) (Q : Value → Shared → Prop) (E : Value → Shared → Prop), Q (.bool (g i j)) s → wpAny (model X.prog X.w) X.A (f (.int i t) (.int j u)) Q E s) :
    OpR X f (rI0 fun i j => .bl (g i j)) := by
  intro pins s σ H x y v u Q I rx ry h
  obtain ⟨i, j, rfl, rfl, q⟩ := h
  obtain ⟨t, rfl⟩ := rx
  obtain ⟨t', rfl⟩ := ry
  exact rule i j t t' s _ _ ⟨.bl (g i j), H, I, rfl, q⟩
def CDiv (i j : Int) : Prop := 0 < j ∧ j < 1073741824
def CPow (i j : Int) : Prop := 0 ≤ j ∧ j ≤ 1000000 ∧ i.natAbs < 2 ^ 64
def CMul (i j : Int) : Prop := (-(2 ^ 64) < i ∧ i < 2 ^ 64) ∨ (-(2 ^ 64) < j ∧ j < 2 ^ 64)
theorem CMul.ok {i j : Int} (h : CMul i j) : IntMulOk i j := by
  rcases h with ⟨h1, h2⟩ | ⟨h1, h2⟩
  · exact .of_left (intBits_le_64 h1 h2)
  · exact .of_right (intBits_le_64 h1 h2)
theorem op_add : OpR X (binaryOp .Add) (rI0 fun i j => .int (i + j)) := opI0 fun _ _ _ _ _ _ _ q => add_int q
theorem op_sub : OpR X (binaryOp .Sub) (rI0 fun i j => .int (i - j)) := opI0 fun _ _ _ _ _ _ _ q => sub_int q
theorem op_fdiv : OpR X (binaryOp .FloorDiv) (rI CDiv fun i j => .int (i / j)) := opI fun i j _ _ _ _ _ hc q => by
  have h1 : (0 : Int) < j := hc.1
  have h2 : j < 1073741824 := hc.2
  exact floordiv_int (by omega) (by rw [Int.fdiv_eq_ediv_of_nonneg i (by omega)]; exact q) (.inl (PyProof.noPylong_small (by omega)))
theorem op_mod : OpR X (binaryOp .Mod) (rI (fun _ j => 0 < j) fun i j => .int (i % j)) := opI fun i j _ _ _ _ _ hc q => by
  have h1 : (0 : Int) < j := hc
  exact mod_int' (by omega) (by rw [Int.fmod_eq_emod_of_nonneg i (by omega)]; exact q)
theorem op_pow : OpR X (binaryOp .Pow) (rI CPow fun i j => .int (i ^ j.toNat)) := opI fun _ _ _ _ _ _ _ hc q => pow_int_small hc.1 hc.2.1 hc.2.2 q
theorem op_and : OpR X (binaryOp .BitAnd) (rI0 fun i j => .int (Builtin.bitAnd i j)) := opI0 fun _ _ _ _ _ _ _ q => and_int q
theorem op_or : OpR X (binaryOp .BitOr) (rI0 fun i j => .int (Builtin.bitOr i j)) := opI0 fun _ _ _ _ _ _ _ q => or_int q
theorem op_xor : OpR X (binaryOp .BitXor) (rI0 fun i j => .int (Builtin.bitXor i j)) := opI0 fun _ _ _ _ _ _ _ q => xor_int q
end
def scal : V → V → Bool
  | .non, .non => true | .non, .int _ => true | .int _, .non => true | .non, .bl _ => true | .bl _, .non => true | .non, .str _ => true | .str _, .non => true
  | .int _, .int _ => true | .bl _, .bl _ => true | .str _, .str _ => true | .byt _, .byt _ => true
  | .int _, .str _ => true | .str _, .int _ => true | .bl _, .str _ => true | .str _, .bl _ => true
  | _, _ => false
def rEq : R2 := fun x y H Q => scal x y = true ∧ Q (.bl (decide (x = y))) H
def rNe : R2 := fun x y H Q => scal x y = true ∧ Q (.bl (!decide (x = y))) H
theorem dec_int {i j : Int} : decide (V.int i = V.int j) = (i == j) := by
  rw [Bool.eq_iff_iff]
  simp
theorem dec_bl {i j : Bool} : decide (V.bl i = V.bl j) = (i == j) := by
  rw [Bool.eq_iff_iff]
  simp
theorem dec_str {i j : Str} : decide (V.str i = V.str j) = (i == j) := by
  rw [Bool.eq_iff_iff]
  simp
theorem dec_byt {i j : Array UInt8} : decide (V.byt i = V.byt j) = (i.toList == j.toList) := by
  rw [Bool.eq_iff_iff]
  cases i
  cases j
  simp
section
variable {X : Cx} {a b c : Expr} {ta tb tc : TE} {pos : Pos}
theorem fin_bl {pins : List (Addr × Obj)} {σ : St} {H : Hp} {s : Shared} {Q : VK} {k k' : Bool} (I : Inv X pins σ H s) (q : Q (.bl k) H) (e : k = k') : EP X pins σ Q (.bool k') s := by
  subst e
  exact ⟨.bl k, H, I, rfl, q⟩
theorem op_eq : OpR X (compareOp .Eq) rEq := by
  intro pins s σ H x y v u Q I rx ry h
  obtain ⟨hs, q⟩ := h
  cases x with
  | non =>
    cases rx
    cases y with
    | non => cases ry; exact PySem.EqNone.eq_none_none (fin_bl I q (by simp))
    | bl j => cases ry; exact PySem.EqNone.eq_none_bool (fin_bl I q (by simp))
    | int j => obtain ⟨t', rfl⟩ := ry; exact PySem.EqNone.eq_none_int (fin_bl I q (by simp))
    | str j => obtain ⟨t', rfl⟩ := ry; exact PySem.EqNone.eq_none_str (fin_bl I q (by simp))
    | _ => exact absurd (show false = true from hs) Bool.false_ne_true
  | bl i =>
    cases rx
    cases y with
    | non => cases ry; exact PySem.EqNone.eq_bool_none (fin_bl I q (by simp))
    | bl j => cases ry; exact eq_bool (fin_bl I q dec_bl)
    | str j => obtain ⟨t', rfl⟩ := ry; exact PySem.EqMixed.eq_bool_str (fin_bl I q (by simp))
    | _ => exact absurd (show false = true from hs) Bool.false_ne_true
  | int i =>
    obtain ⟨t, rfl⟩ := rx
    cases y with
    | non => cases ry; exact PySem.EqNone.eq_int_none (fin_bl I q (by simp))
    | int j => obtain ⟨t', rfl⟩ := ry; exact eq_int (fin_bl I q dec_int)
    | str j => obtain ⟨t', rfl⟩ := ry; exact PySem.EqMixed.eq_int_str (fin_bl I q (by simp))
    | _ => exact absurd (show false = true from hs) Bool.false_ne_true
  | str i =>
    obtain ⟨t, rfl⟩ := rx
    cases y with
    | non => cases ry; exact PySem.EqNone.eq_str_none (fin_bl I q (by simp))
    | bl j => cases ry; exact PySem.EqMixed.eq_str_bool (fin_bl I q (by simp))
    | int j => obtain ⟨t', rfl⟩ := ry; exact PySem.EqMixed.eq_str_int (fin_bl I q (by simp))
    | str j => obtain ⟨t', rfl⟩ := ry; exact eq_str (fin_bl I q dec_str)
    | _ => exact absurd (show false = true from hs) Bool.false_ne_true
  | byt i =>
    obtain ⟨t, rfl⟩ := rx
    cases y with
    | byt j => obtain ⟨t', rfl⟩ := ry; exact PySem.W.eq_bytes (fin_bl I q dec_byt)
    | _ => exact absurd (show false = true from hs) Bool.false_ne_true
  | _ => cases y <;> exact absurd (show false = true from hs) Bool.false_ne_true
theorem op_ne : OpR X (compareOp .NotEq) rNe := by
  intro pins s σ H x y v u Q I rx ry h
  obtain ⟨hs, q⟩ := h
  cases x with
  | non =>
    cases rx
    cases y with
    | non => cases ry; exact PySem.EqNone.ne_none_none (fin_bl I q (by simp))
    | bl j => cases ry; exact PySem.EqNone.ne_none_bool (fin_bl I q (by simp))
    | int j => obtain ⟨t', rfl⟩ := ry; exact PySem.EqNone.ne_none_int (fin_bl I q (by simp))
    | str j => obtain ⟨t', rfl⟩ := ry; exact PySem.EqNone.ne_none_str (fin_bl I q (by simp))
    | _ => exact absurd (show false = true from hs) Bool.false_ne_true
  | bl i =>
    cases rx
    cases y with
    | non => cases ry; exact PySem.EqNone.ne_bool_none (fin_bl I q (by simp))
    | bl j => cases ry; exact ne_bool (fin_bl I q (congrArg not dec_bl))
    | str j => obtain ⟨t', rfl⟩ := ry; exact PySem.EqMixed.ne_bool_str (fin_bl I q (by simp))
    | _ => exact absurd (show false = true from hs) Bool.false_ne_true
  | int i =>
    obtain ⟨t, rfl⟩ := rx
    cases y with
    | non => cases ry; exact PySem.EqNone.ne_int_none (fin_bl I q (by simp))
    | int j => obtain ⟨t', rfl⟩ := ry; exact ne_int (fin_bl I q (congrArg not dec_int))
    | str j => obtain ⟨t', rfl⟩ := ry; exact PySem.EqMixed.ne_int_str (fin_bl I q (by simp))
    | _ => exact absurd (show false = true from hs) Bool.false_ne_true
  | str i =>
    obtain ⟨t, rfl⟩ := rx
    cases y with
    | non => cases ry; exact PySem.EqNone.ne_str_none (fin_bl I q (by simp))
    | bl j => cases ry; exact PySem.EqMixed.ne_str_bool (fin_bl I q (by simp))
    | int j => obtain ⟨t', rfl⟩ := ry; exact PySem.EqMixed.ne_str_int (fin_bl I q (by simp))
    | str j => obtain ⟨t', rfl⟩ := ry; exact ne_str (fin_bl I q (congrArg not dec_str))
    | _ => exact absurd (show false = true from hs) Bool.false_ne_true
  | byt i =>
    obtain ⟨t, rfl⟩ := rx
    cases y with
    | byt j => obtain ⟨t', rfl⟩ := ry; exact PySem.W.ne_bytes (fin_bl I q (congrArg not dec_byt))
    | _ => exact absurd (show false = true from hs) Bool.false_ne_true
  | _ => cases y <;> exact absurd (show false = true from hs) Bool.false_ne_true
theorem op_lt : OpR X (compareOp .Lt) (rI0 fun i j => .bl (decide (i < j))) := opB0 fun _ _ _ _ _ _ _ q => lt_int q
theorem op_isN : OpR X (compareOp .Is) (fun x y H Q => y = .non ∧ Q (.bl (decide (x = .non))) H) := by
  intro pins s σ H x y v u Q I rx ry h
  obtain ⟨rfl, q⟩ := h
  cases ry
  refine is_none_gen (fin_bl I q ?_)
  cases x <;> first
    | (cases rx; rfl)
    | (obtain ⟨t, rfl⟩ := rx; rfl)
theorem nomark (b : Expr) {op : CmpOp} (h : op ≠ .In := by decide) (h2 : op ≠ .NotIn := by decide) : behindInMarks op b = false := by
  have e1 : (op == CmpOp.In) = false := by cases op <;> first | rfl | exact absurd rfl h
  have e2 : (op == CmpOp.NotIn) = false := by cases op <;> first | rfl | exact absurd rfl h2
  cases b <;> simp [behindInMarks, e1, e2]
theorem pe_cmpR {op : CmpOp} {r : R2} (ho : OpR X (compareOp op) r) (ha : PE X a ta) (hb : PE X b tb) (hm : behindInMarks op b = false) : PE X (.Compare a [op] [b] pos) (tOp r ta tb) := by
  intro pins s σ H Q I h
  exact wpAny_Compare1 (binT ha hb I h fun v u s2 x y H2 I2 rx ry q => ho pins s2 σ H2 x y v u Q I2 rx ry q) hm
def tTest (t : TE) : TT := fun σ H Q => t σ H fun x H' => ∃ k, x = .bl k ∧ Q k H'
theorem pt_cmpR {op : CmpOp} {r : R2} (ho : OpR X (compareOp op) r) (ha : PE X a ta) (hb : PE X b tb) (hm : behindInMarks op b = false) : PT X (.Compare a [op] [b] pos) (tTest (tOp r ta tb)) := by
  intro pins s σ H Q I h
  refine wpAny_isTrue_Compare1 (thn (ha pins s σ H _ I h) fun v s1 ⟨x, H1, I1, r1, q1⟩ => thn (hb pins s1 σ H1 _ I1 q1) fun u s2 ⟨y, H2, I2, r2, q2⟩ =>
    thn (ho pins s2 σ H2 x y v u _ I2 r1 r2 q2) fun c s3 ⟨z, H3, I3, r3, k, e, q3⟩ => ?_) hm
  subst e
  cases r3
  exact wpAny_truthy_bool ⟨H3, I3, q3⟩
theorem line63 : (sizeLine : Nat) < 2 ^ 63 := by rw [sizeLine_eq]; decide
theorem vals1 {x : V} {us : List Value} (r : Vals [x] us) : ∃ u, us = [u] ∧ RelV x u := by
  cases r with
  | cons r1 r2 => cases r2; exact ⟨_, rfl, r1⟩
theorem vals2 {x y : V} {us : List Value} (r : Vals [x, y] us) : ∃ u w', us = [u, w'] ∧ RelV x u ∧ RelV y w' := by
  cases r with
  | cons r1 r2 =>
    cases r2 with
    | cons r3 r4 => cases r4; exact ⟨_, _, rfl, r1, r3⟩
end
end L2
namespace L2
open PySem PySem.Spec PyProof.Rows
structure ObjM (h : Heap) (x dx C : Addr) (mA : Str → Option Value) : Prop where
  obj : h.get? x = some (PySem.W.instObj C dx)
  ns : h.Ns1 dx mA
  ne : dx ≠ x
theorem lookIn_ns {h : Heap} {dx : Addr} {mA : Str → Option Value} (n : h.Ns1 dx mA) : ∃ od, h.get? dx = some od ∧ ∀ name, PySem.W.lookIn name od = some (mA name) := by
  obtain ⟨o, es, ep, ho, hd, hk, _, hm⟩ := n
  refine ⟨o, ho, fun name => ?_⟩
  have e := hm name
  unfold nsFind findBy at e
  rw [← Array.find?_toList] at e
  unfold PySem.W.lookIn
  rw [hd]
  dsimp only
  split
  · rename_i y q
    rw [q] at e
    exact congrArg some e
  · rename_i q
    rw [q] at e
    have a : es.toList.any (·.refKey) = false := by
      rw [List.any_eq_false]
      intro y hy
      obtain ⟨z, t, hkey⟩ := hk y (Array.mem_toList_iff.mp hy)
      simp [DictEntry.refKey, hkey]
    have a' : ¬ es.toList.any (·.refKey) = true := by rw [a]; exact Bool.false_ne_true
    rw [if_neg a']
    exact congrArg some e
theorem ObjM.look {h : Heap} {x dx C : Addr} {mA : Str → Option Value} (I : ObjM h x dx C mA) : ∃ od, PySem.W.InstAt h x (PySem.W.instObj C dx) C (some od) ∧ ∀ name, PySem.W.lookIn name od = some (mA name) :=
  let ⟨od, ho, hl⟩ := lookIn_ns I.ns
  ⟨od, ⟨I.obj, rfl, rfl, ho⟩, hl⟩
section
variable {prog : Program} {w : World} {A : Around} {E : Value → Shared → Prop} {s : Shared} {K : PySem.W.Frag} {x dx C f : Addr} {mA : Str → Option Value} {name : Str} {v : Value}
theorem get_map {expr : Bool} {Q : Value → Shared → Prop} (X : K.In s.heap) (I : ObjM s.heap x dx C mA) (hg : PySem.W.plainGet K C name = true) (hh : PySem.W.hasDictIn K C = true)
    (ha : PySem.W.findIn K (.ref C) name = some none) (hv : mA name = some v) (hv' : PySem.W.handedIn v = true) (h : Q v { s with toks := s.toks + 1 }) :
    wpAny (model prog w) A (getAttr (.ref x) name expr) Q E s := by
  obtain ⟨od, J, hl⟩ := I.look
  exact PySem.W.get_value X J (PySem.W.plainGet_of hg).1 (PySem.W.findObj_own hh ha rfl (by rw [hl, hv])) hv' h
theorem get_meth {pl : Sem Bool} {Q : Value × List Value → Shared → Prop} (X : K.In s.heap) (I : ObjM s.heap x dx C mA) (hg : PySem.W.plainGet K C name = true)
    (hf : PySem.W.findIn K (.ref C) name = some (some (.ref f))) (ht : PySem.W.isFn K (.ref f) = true) (hv : mA name = none) (h : Q (.ref f, [.ref x]) s) :
    wpAny (model prog w) A (getMethod (.ref x) name pl) Q E s := by
  obtain ⟨od, J, hl⟩ := I.look
  exact PySem.W.method_fn X J (PySem.W.plainGet_of hg).1 (PySem.W.plainGet_of hg).2 hf (beq_iff_eq.mp ht) (by show (PySem.W.lookIn name od).map (·.isSome) = some false; rw [hl, hv]; rfl) h
theorem set_map {ns : List Str} {Q : Unit → Shared → Prop} (X : K.In s.heap) (I : ObjM s.heap x dx C mA)
    (hs : PySem.W.findIn K (.ref C) "__setattr__" = some (some (.builtin "object.__setattr__"))) (hp : PySem.W.plainOver K C = true) (ht : PySem.W.takerIn K C name = some none) (hh : PySem.W.hasDictIn K C = true)
    (hw : PySem.Within mA ns) (hsz : ns.length ≤ sizeLine)
    (h : ∀ h', ObjM h' x dx C (fun y => if y = name then some v else mA y) → Heap.SameBut dx s.heap h' → Q () { s with heap := h', toks := s.toks + 2 }) :
    wpAny (model prog w) A (setAttr (.ref x) name v) Q E s := by
  obtain ⟨od, J, hl⟩ := I.look
  refine PySem.W.set_plain X J hs (PySem.W.osa_open (s := { s with toks := s.toks + 1 }) (r := none) X J hp ht fun b => ?_)
  obtain ⟨cd, hc, hd'⟩ := PySem.W.any_some hh
  have hx : s.heap.get? x = some ⟨.ref C, some dx, .plain, #[]⟩ := I.obj
  refine wpAny_bind (wpAny_pure (wpAny_bind (wpAny_bind (wpAny_loadPart hx (wpAny_bind (PySem.W.Looks.here (s := { s with toks := s.toks + 1 }) (PySem.W.looks_clsIn X hc) ?_))))))
  rw [hd']
  refine wpAny_pure (a := some dx) (wpAny_bind (wpAny_pure (wpAny_bind ?_)))
  refine wpAny_nsSet1 (s := { s with toks := s.toks + 1 }) I.ns fun h' hn2 hs2 => ?_
  obtain ⟨oD, esD, epD, hoD, hdD, hcD⟩ := hn2.count (PySem.Within.cons name v hw)
  refine wpAny_bind (wpAny_lookBehind hoD (by rw [hdD]; exact pastItsLine_dict (Nat.le_trans hcD (by rw [List.length_cons]; omega))) ?_)
  exact wpAny_pure (h _ ⟨(hs2.2 _ (Ne.symm I.ne)).trans I.obj, hn2, I.ne⟩ hs2)
theorem make_map {R : Result → Shared → Prop} {vs : List Value} {kw : List (Str × Value)} (X : K.In s.heap) (hm : PySem.W.makesIn K C = true)
    (hi : PySem.W.findIn K (.ref C) "__init__" = some (some (.ref f))) (hf : PySem.W.typeIn K (.ref f) = some (.type "function"))
    (h : codeAny (model prog w) (A.under (.builtin "type.__call__" ⟨.ref C :: vs, kw⟩)) (.call (.ref f) ⟨.ref (s.heap.objs.size + 1) :: vs, kw⟩) (PySem.W.InitBack (s.heap.objs.size + 1) R)
      { s with heap := (s.heap.push PySem.W.emptyDict).push (PySem.W.instObj C s.heap.objs.size) }) :
    codeAny (model prog w) A (.call (.ref C) ⟨vs, kw⟩) R s := by
  obtain ⟨hh, g, d, t, os⟩ := s
  exact PySem.W.make_core (PySem.W.makes_of X hm) (PySem.W.looks_findIn X hi) (fun self => PySem.W.bind_fn X self hf) (.inl rfl) h
end
def putF (f : Str) (v : V) : List (Str × V) → List (Str × V)
  | [] => [(f, v)]
  | (g, x) :: r => if g = f then (g, v) :: r else (g, x) :: putF f v r
theorem lookup_putF (f g : Str) (v : V) : ∀ fs : List (Str × V), (putF f v fs).lookup g = if g = f then some v else fs.lookup g
  | [] => by
    show List.lookup g [(f, v)] = _
    by_cases h : g = f
    · have hb : (g == f) = true := beq_iff_eq.mpr h
      simp only [List.lookup, hb, if_pos h]
    · have hb : (g == f) = false := beq_eq_false_iff_ne.mpr h
      simp only [List.lookup, hb, if_neg h]
  | (k, x) :: r => by
    have ih := lookup_putF f g v r
    rw [show putF f v ((k, x) :: r) = (if k = f then (k, v) :: r else (k, x) :: putF f v r) from rfl]
    by_cases hk : k = f
    · rw [if_pos hk]
      by_cases h : g = k
      · have hb : (g == k) = true := beq_iff_eq.mpr h
        simp only [List.lookup, hb, if_pos (h.trans hk)]
      · have hb : (g == k) = false := beq_eq_false_iff_ne.mpr h
        simp only [List.lookup, hb, if_neg (fun e : g = f => h (e.trans hk.symm))]
    · rw [if_neg hk]
      by_cases h : g = k
      · have hb : (g == k) = true := beq_iff_eq.mpr h
        simp only [List.lookup, hb, if_neg (fun e : g = f => hk (h.symm.trans e))]
      · have hb : (g == k) = false := beq_eq_false_iff_ne.mpr h
        simp only [List.lookup, hb]
        exact ih
theorem keys_putF (f : Str) (v : V) : ∀ fs : List (Str × V), f ∈ (putF f v fs).map (·.1) ∧ ∀ g, g ∈ fs.map (·.1) → g ∈ (putF f v fs).map (·.1)
  | [] => ⟨by simp [putF], fun g h => by simp at h⟩
  | (k, x) :: r => by
    obtain ⟨i1, i2⟩ := keys_putF f v r
    rw [show putF f v ((k, x) :: r) = (if k = f then (k, v) :: r else (k, x) :: putF f v r) from rfl]
    by_cases hk : k = f
    · rw [if_pos hk]
      subst hk
      exact ⟨by simp, fun g h => by simpa using h⟩
    · rw [if_neg hk]
      refine ⟨?_, fun g h => ?_⟩
      · rw [List.map_cons]
        exact List.mem_cons_of_mem _ i1
      · rw [List.map_cons] at h ⊢
        rcases List.mem_cons.mp h with e | e
        · exact List.mem_cons.mpr (.inl e)
        · exact List.mem_cons_of_mem _ (i2 g e)
theorem length_putF (f : Str) (v : V) : ∀ fs : List (Str × V), (putF f v fs).length ≤ fs.length + 1
  | [] => by simp [putF]
  | (k, x) :: r => by
    have ih := length_putF f v r
    rw [show putF f v ((k, x) :: r) = (if k = f then (k, v) :: r else (k, x) :: putF f v r) from rfl]
    by_cases hk : k = f
    · rw [if_pos hk, List.length_cons, List.length_cons]; omega
    · rw [if_neg hk, List.length_cons, List.length_cons]; omega
theorem RelO.some_of {v : V} {o : Option Value} (r : RelO (some v) o) : ∃ u, o = some u ∧ RelV v u := by
  cases o with
  | none => exact (show False from r).elim
  | some u => exact ⟨u, rfl, r⟩
theorem RelO.none_of {o : Option Value} (r : RelO none o) : o = none := by
  cases o with
  | none => rfl
  | some u => exact (show False from r).elim
theorem handed_of {v : V} {u : Value} (r : RelV v u) : PySem.W.handedIn u = true := by
  cases v with
  | non => cases (show u = Value.none from r); rfl
  | bl b => cases (show u = Value.bool b from r); rfl
  | int i => obtain ⟨t, e⟩ := (show ∃ t, u = Value.int i t from r); cases e; rfl
  | str x => obtain ⟨t, e⟩ := (show ∃ t, u = Value.str x t from r); cases e; rfl
  | byt b => obtain ⟨t, e⟩ := (show ∃ t, u = Value.bytes b t from r); cases e; rfl
  | flt b => obtain ⟨t, e⟩ := (show ∃ t, u = Value.float b t from r); cases e; rfl
  | ref a => cases (show u = Value.ref a from r); rfl
  | ty n => cases (show u = Value.type n from r); rfl
section
variable {P : Program} {w : World} {H H' : Hp} {h h' : Heap} {a C dx : Addr} {fs fs' : List (Str × V)}
theorem ins_get (hok : HOk P w H h) (e : H a = some (.ins C dx fs)) : ∃ mA, ObjM h a dx C mA ∧ (∀ f, RelO (fs.lookup f) (mA f)) ∧ PySem.Within mA (fs.map (·.1)) ∧ fs.length ≤ 1000 ∧ H dx = some (.own a) := by
  obtain ⟨d, z, ne, ob, mA, n, r, q⟩ := (show ObjOk P w H h a (.ins C dx fs) from hok a _ e)
  exact ⟨mA, ⟨ob, n, ne⟩, r, q, z, d⟩
end
structure Cls (K : PySem.W.Frag) (C : Addr) : Prop where
  pg : PySem.W.plainGet K C Str.empty = true
  hd : PySem.W.hasDictIn K C = true
  po : PySem.W.plainOver K C = true
  sa : PySem.W.findIn K (.ref C) "__setattr__" = some (some (.builtin "object.__setattr__"))
theorem Cls.get {K : PySem.W.Frag} {C : Addr} (c : Cls K C) (f : Str) : PySem.W.plainGet K C f = true := c.pg
def NoAttr (K : PySem.W.Frag) (C : Addr) (f : Str) : Prop := PySem.W.findIn K (.ref C) f = some none
theorem NoAttr.taker {K : PySem.W.Frag} {C : Addr} {f : Str} (n : NoAttr K C f) : PySem.W.takerIn K C f = some none := by
  unfold PySem.W.takerIn
  rw [show PySem.W.findIn K (.ref C) f = some none from n]
  rfl
structure Meth (K : PySem.W.Frag) (C : Addr) (m : Str) (f : Addr) : Prop where
  at_ : PySem.W.findIn K (.ref C) m = some (some (.ref f))
  fn : PySem.W.isFn K (.ref f) = true
  kp : PySem.W.keepIn K (.ref f) = true
section
variable {X : Cx} {pins : List (Addr × Obj)} {σ : St} {H : Hp} {s : Shared} {a C dx : Addr} {fs : List (Str × V)} {f : Str} {v : V} {A : Around} {E : Value → Shared → Prop}
theorem getattr_ok {b : Bool} {Q : Value → Shared → Prop} (I : Inv X pins σ H s) (e : H a = some (.ins C dx fs)) (c : Cls X.K C) (n : NoAttr X.K C f) (l : fs.lookup f = some v)
    (h : ∀ u s', Inv X pins σ H s' → RelV v u → Q u s') : wpAny (model X.prog X.w) A (getAttr (.ref a) f b) Q E s := by
  obtain ⟨mA, O, r, _, _, _⟩ := ins_get I.hok e
  obtain ⟨u, hu, ru⟩ := RelO.some_of (v := v) (o := mA f) (by rw [← l]; exact r f)
  exact get_map I.kIn O (c.get f) c.hd n hu (handed_of ru) (h u _ (I.tok _) ru)
theorem getmeth_ok {m : Str} {g : Addr} {pl : Sem Bool} {Q : Value × List Value → Shared → Prop} (I : Inv X pins σ H s) (e : H a = some (.ins C dx fs)) (c : Cls X.K C) (k : Meth X.K C m g) (l : fs.lookup m = none)
    (h : Q (.ref g, [.ref a]) s) : wpAny (model X.prog X.w) A (getMethod (.ref a) m pl) Q E s := by
  obtain ⟨mA, O, r, _, _, _⟩ := ins_get I.hok e
  have hn : mA m = none := RelO.none_of (by rw [← l]; exact r m)
  exact get_meth I.kIn O (c.get m) k.at_ k.fn hn h
theorem setattr_ok {y : V} {u : Value} {Q : Unit → Shared → Prop} (I : Inv X pins σ H s) (e : H a = some (.ins C dx fs)) (c : Cls X.K C) (n : NoAttr X.K C f) (hl : fs.length < 1000) (ry : RelV y u)
    (h : ∀ s', Inv X pins σ (upd H a (.ins C dx (putF f y fs))) s' → Q () s') : wpAny (model X.prog X.w) A (setAttr (.ref a) f u) Q E s := by
  obtain ⟨mA, O, r, wi, _, ho⟩ := ins_get I.hok e
  have hz : (fs.map (·.1)).length ≤ sizeLine := by rw [List.length_map, sizeLine_eq]; omega
  refine set_map I.kIn O c.sa c.po n.taker c.hd wi hz fun h' O' sb => h _ ?_
  have hd : ∃ o, h'.get? dx = some o := let ⟨o, _, _, e', _⟩ := O'.ns; ⟨o, e'⟩
  refine I.write (x := a) (e := dx) (by rw [e]; exact True.intro) (.inr ho) (fun b q hb z => (sb.2 b hb).trans z) hd ?_
  refine ⟨by rw [upd_ne O.ne]; exact ho, ?_, O.ne, O'.obj, _, O'.ns, fun g => ?_, fun g hg => ?_⟩
  · have := length_putF f y fs; omega
  · show RelO ((putF f y fs).lookup g) (if g = f then some u else mA g)
    rw [lookup_putF]
    by_cases q : g = f
    · rw [if_pos q, if_pos q]; exact ry
    · rw [if_neg q, if_neg q]; exact r g
  · by_cases q : g = f
    · rw [q]; exact (keys_putF f y fs).1
    · refine (keys_putF f y fs).2 g (wi g fun z => hg ?_)
      show (if g = f then some u else mA g) = none
      rw [if_neg q]; exact z
theorem Inv.made (I : Inv X pins σ H s) : Inv X pins σ (upd (upd H s.heap.objs.size (.own (s.heap.objs.size + 1))) (s.heap.objs.size + 1) (.ins C s.heap.objs.size []))
    { s with heap := (s.heap.push PySem.W.emptyDict).push (PySem.W.instObj C s.heap.objs.size) } := by
  have e1 : (s.heap.push PySem.W.emptyDict).get? s.heap.objs.size = some PySem.W.emptyDict := Heap.get?_push_size s.heap rfl
  have e2 : ((s.heap.push PySem.W.emptyDict).push (PySem.W.instObj C s.heap.objs.size)).get? (s.heap.objs.size + 1) = some (PySem.W.instObj C s.heap.objs.size) := by
    have := Heap.get?_push_size (s.heap.push PySem.W.emptyDict) (o := PySem.W.instObj C s.heap.objs.size) rfl
    rwa [Heap.size_push] at this
  have e3 : (s.heap.push PySem.W.emptyDict).Ns s.heap.objs.size (fun _ => none) := ⟨PySem.W.emptyDict, #[], _, e1, rfl, (fun e he => absurd he (by simp)), fun _ => rfl⟩
  have I1 := I.laid (a := s.heap.objs.size) (o := .own (s.heap.objs.size + 1)) (h' := s.heap.push PySem.W.emptyDict) (t' := s.toks) (fun b u q => Heap.get?_push_of_some _ q) (Nat.le_refl _) ⟨_, e1⟩
  refine I1.laid (a := s.heap.objs.size + 1) (o := .ins C s.heap.objs.size []) (t' := s.toks) (fun b u q => Heap.get?_push_of_some _ q) (Nat.le_of_eq (Heap.size_push _ _)) ?_
  have ne : s.heap.objs.size ≠ s.heap.objs.size + 1 := Nat.ne_of_lt (Nat.lt_succ_self _)
  refine ⟨by rw [upd_ne ne, upd_same], Nat.zero_le _, ne, e2, fun _ => none, (Heap.Ns1.of_empty e3).at fun o q => Heap.get?_push_of_some _ q, fun _ => True.intro, fun y hy => absurd rfl hy⟩
theorem attr_of {prog : Program} {w : World} {env : Env} {e : Expr} {f : Str} {pos : Pos} {s : Shared} {Q : Value → Shared → Prop} (hb : attributeBase e f env (eval e env) = eval e env)
    (h : wpAny (model prog w) A (eval e env) (fun o s₁ => wpAny (model prog w) A (getAttr o f true) Q E s₁) E s) : wpAny (model prog w) A (eval (.Attribute e f pos) env) Q E s :=
  Attribute_any_ h (by rw [arm_eval_Attribute, hb])
end
def tFld (K : PySem.W.Frag) (ta : TE) (f : Str) : TE := fun σ H Q => ta σ H fun x H1 => ∃ a C dx fs v, x = .ref a ∧ H1 a = some (.ins C dx fs) ∧ Cls K C ∧ NoAttr K C f ∧ fs.lookup f = some v ∧ Q v H1
def sFld (K : PySem.W.Frag) (ta tv : TE) (f : Str) : TS := fun D σ H => tv σ H fun y H1 => ta σ H1 fun x H2 => ∃ a C dx fs, x = .ref a ∧ H2 a = some (.ins C dx fs) ∧ Cls K C ∧ NoAttr K C f ∧ fs.length < 1000 ∧
  D.nx σ (upd H2 a (.ins C dx (putF f y fs)))
section
variable {X : Cx} {o e value : Expr} {f : Str} {pos pos' tpos : Pos} {ta tv : TE}
theorem pe_fld (he : PE X e ta) (hb : attributeBase e f X.env (eval e X.env) = eval e X.env) : PE X (.Attribute e f pos) (tFld X.K ta f) := by
  intro pins s σ H Q I h
  refine attr_of hb (thn (he pins s σ H _ I h) fun u s1 ⟨x, H1, I1, rx, a, C, dx, fs, v, ex, ea, c, n, l, q⟩ => ?_)
  subst ex
  obtain rfl : u = Value.ref a := rx
  exact getattr_ok I1 ea c n l fun u' s2 I2 ru => ⟨v, H1, I2, ru, q⟩
theorem ps_fld (ha : PE X o ta) (hv : PE X value tv) (hs : swapsWith value (some (.Attribute o f pos')) pos.line X.env = pure false) : PS X (.Assign [.Attribute o f pos'] value pos) (sFld X.K ta tv f) := by
  intro pins s σ H D I h
  refine plainObj_wpAny_Assign_Attribute (thn (hv pins s σ H _ I h) fun u s1 ⟨y, H1, I1, ry, q⟩ => thn (ha pins s1 σ H1 _ I1 q) fun ov s2 ⟨x, H2, I2, rx, a, C, dx, fs, ex, ea, c, n, l, q2⟩ => ?_) hs
  subst ex
  obtain rfl : ov = Value.ref a := rx
  exact setattr_ok I2 ea c n l ry fun s3 I3 => ⟨σ, _, I3, q2⟩
end
section
variable {X : Cx} {pins : List (Addr × Obj)} {σ : St} {H : Hp} {s : Shared} {A : Around} {E : Value → Shared → Prop} {Q : Value → Shared → Prop} {c : Value} {b : Bool}
inductive TyOf (K : PySem.W.Frag) (H : Hp) : V → Value → Prop where
  | non : TyOf K H .non (.type "NoneType")
  | bl (x : Bool) : TyOf K H (.bl x) (.type "bool")
  | int (i : Int) : TyOf K H (.int i) (.type "int")
  | str (x : Str) : TyOf K H (.str x) (.type "str")
  | flt (x : UInt64) : TyOf K H (.flt x) (.type "float")
  | lst {a : Addr} {xs : List V} (e : H a = some (.lst xs)) : TyOf K H (.ref a) (.type "list")
  | frz {a : Addr} {o : Obj} {xs : List V} (e : H a = some (.frz o (.lst xs))) : TyOf K H (.ref a) (.type "list")
  | tup {a : Addr} {xs : List V} (e : H a = some (.tup xs)) : TyOf K H (.ref a) (.type "tuple")
  | dK {a : Addr} {kvs : List (Key × V)} (e : H a = some (.dK kvs)) : TyOf K H (.ref a) (.type "dict")
  | dT {a : Addr} {kvs : List (List Key × V)} (e : H a = some (.dT kvs)) : TyOf K H (.ref a) (.type "dict")
  | ins {a C dx : Addr} {fs : List (Str × V)} (e : H a = some (.ins C dx fs)) (cl : Cls K C) (ha : PySem.W.findIn K (.ref C) "__class__" = some (some (.builtin "object.__class__")))
      (hn : PySem.W.specialIn K (.builtin "object.__class__") "__get__" = some (some (.builtin "getset_descriptor.__get__"))) (htk : PySem.W.takesIn K (.builtin "object.__class__") = some true)
      (hm : PySem.W.mroIn K C (.type "object") = some true) : TyOf K H (.ref a) (.ref C)
theorem isinst_ok {x : V} {u t : Value} (I : Inv X pins σ H s) (rx : RelV x u) (ty : TyOf X.K H x t) (e : PySem.W.kitOne X.K t c = some b) (h : ∀ tk, Q (.bool b) { s with toks := tk }) :
    wpAny (model X.prog X.w) A (call (.builtin "isinstance") [u, c]) Q E s := by
  cases ty with
  | non => cases (show u = Value.none from rx); exact PySem.W.kia_one PySem.W.kitx_none I.kIn True.intro e (fun z => nomatch z) h
  | bl y => cases (show u = Value.bool y from rx); exact PySem.W.kia_one PySem.W.kitx_bool I.kIn True.intro e (fun z => nomatch z) h
  | int i => obtain ⟨t, q⟩ := (show ∃ t, u = Value.int i t from rx); cases q; exact PySem.W.kia_one PySem.W.kitx_int I.kIn True.intro e (fun z => nomatch z) h
  | str y => obtain ⟨t, q⟩ := (show ∃ t, u = Value.str y t from rx); cases q; exact PySem.W.kia_one PySem.W.kitx_str I.kIn True.intro e (fun z => nomatch z) h
  | flt y => obtain ⟨t, q⟩ := (show ∃ t, u = Value.float y t from rx); cases q; exact PySem.W.kia_one PySem.W.kitx_float I.kIn True.intro e (fun z => nomatch z) h
  | @lst a xs ea =>
    cases (show u = Value.ref a from rx)
    obtain ⟨_, _, n, _, h1⟩ := (show ObjOk X.prog X.w H s.heap a (.lst xs) from I.hok a _ ea)
    exact PySem.W.kia_one PySem.W.kitx_list I.kIn ⟨_, h1, rfl⟩ e (fun z => nomatch z) h
  | @frz a ob xs ea =>
    cases (show u = Value.ref a from rx)
    obtain ⟨_, _, _, n, _, h1⟩ := (show ObjOk X.prog X.w H s.heap a (.frz ob (.lst xs)) from I.hok a _ ea)
    exact PySem.W.kia_one PySem.W.kitx_list I.kIn ⟨_, h1, rfl⟩ e (fun z => nomatch z) h
  | @tup a xs ea =>
    cases (show u = Value.ref a from rx)
    obtain ⟨_, _, _, p⟩ := (show ObjOk X.prog X.w H s.heap a (.tup xs) from I.hok a _ ea)
    obtain ⟨o, h1, h2, _⟩ := p
    exact PySem.W.kia_one PySem.W.kitx_tuple I.kIn ⟨o, h1, h2⟩ e (fun z => nomatch z) h
  | @dK a kvs ea =>
    cases (show u = Value.ref a from rx)
    obtain ⟨_, _, vs, _, p⟩ := (show ObjOk X.prog X.w H s.heap a (.dK kvs) from I.hok a _ ea)
    obtain ⟨o, es, ep, h1, h2, _⟩ := p
    exact PySem.W.kia_one PySem.W.kitx_dict I.kIn ⟨o, h1, h2.1⟩ e (fun z => nomatch z) h
  | @dT a kvs ea =>
    cases (show u = Value.ref a from rx)
    obtain ⟨_, _, xs, _, o, es, ep, h1, h2, _⟩ := (show ObjOk X.prog X.w H s.heap a (.dT kvs) from I.hok a _ ea)
    exact PySem.W.kia_one PySem.W.kitx_dict I.kIn ⟨o, h1, h2.1⟩ e (fun z => nomatch z) h
  | @ins a C dx fs ea cl ha hn htk hm =>
    cases (show u = Value.ref a from rx)
    obtain ⟨mA, O, _⟩ := ins_get I.hok ea
    obtain ⟨od, J, _⟩ := O.look
    exact PySem.W.kia_one (PySem.W.kitx_own (cl.get _) cl.hd ha hn htk hm) I.kIn J e (fun z => nomatch z) h
end
end L2
namespace L2
open PySem PySem.Spec PyProof.Rows
structure Room (k : Nat) (A : Around) : Prop where
  hd : A.handled = none
  dp : A.depth + 3 * k + 5 < recursionLimit
  un : A.units + 16 * k + 200 < cLine
theorem Room.mono {j k : Nat} {A : Around} (r : Room k A) (h : j ≤ k) : Room j A := ⟨r.hd, by have := r.dp; omega, by have := r.un; omega⟩
theorem Room.deeper {k : Nat} {A : Around} (r : Room (k + 1) A) (env : Env) : Room k (A.deeper env) :=
  ⟨r.hd, by have := r.dp; show A.depth + 1 + 3 * k + 5 < _; omega, by have := r.un; show A.units + 3 + 16 * k + 200 < _; omega⟩
theorem Room.in1 {k : Nat} {A : Around} (r : Room (k + 1) A) : Room k A.in1 :=
  ⟨r.hd, by have := r.dp; show A.depth + 3 * k + 5 < _; omega, by have := r.un; show A.units + 1 + 16 * k + 200 < _; omega⟩
theorem make_depth {A : Around} {C : Addr} {us : List Value} {kw : List (Str × Value)} : (A.under (.builtin "type.__call__" ⟨.ref C :: us, kw⟩)).depth = A.depth + 1 := by
  first | rfl | simp [Around.under, Code.weight, Code.isCreation, Code.isGuard, Code.isCaller, Code.frames, Code.isFrame, guardIds]
theorem make_units {A : Around} {C : Addr} {us : List Value} {kw : List (Str × Value)} : (A.under (.builtin "type.__call__" ⟨.ref C :: us, kw⟩)).units = A.units + 1 := by
  first | rfl | simp [Around.under, Code.cUnits, Code.frames, Code.isFrame]
theorem Room.make {k : Nat} {A : Around} (r : Room (k + 1) A) (C : Addr) (us : List Value) (kw : List (Str × Value)) : Room k (A.under (.builtin "type.__call__" ⟨.ref C :: us, kw⟩)) :=
  ⟨r.hd, by have := r.dp; rw [make_depth]; omega, by have := r.un; rw [make_units]; omega⟩
theorem Room.depth {k : Nat} {A : Around} (r : Room k A) : A.depth < recursionLimit := by have := r.dp; omega
theorem Room.units {k : Nat} {A : Around} (r : Room k A) : A.units + 64 < cLine := by have := r.un; omega
def tNil : TA := fun _ H Q => Q [] H
def tCons (ta : TE) (tr : TA) : TA := fun σ H Q => ta σ H fun x H1 => tr σ H1 fun xs H2 => Q (x :: xs) H2
section
variable {X : Cx} {e : Expr} {es : List Expr} {te : TE} {t : TA} {pos : Pos}
theorem pa_nil : PA X [] tNil := fun _ _ _ _ H Q I h => Calls.spliced_nil ⟨[], H, I, .nil, h⟩
theorem pa_cons (ha : PE X e te) (hr : PA X es t) (hs : starEach (e :: es) X.env = (false, eval e X.env) :: starEach es X.env := by rfl) : PA X (e :: es) (tCons te t) := by
  intro pos pins s σ H Q I h
  rw [hs]
  show wpAny _ _ (spliced ((false, eval e X.env) :: backTo pos (starEach es X.env))) _ _ s
  refine Calls.spliced_cons (thn (ha pins s σ H _ I h) fun u s1 ⟨x, H1, I1, r1, q1⟩ => ?_)
  exact thn (hr pos pins s1 σ H1 _ I1 q1) fun us s2 ⟨xs, H2, I2, r2, q2⟩ => ⟨x :: xs, H2, I2, .cons r1 r2, q2⟩
def tTup (t : TA) : TE := fun σ H Q => t σ H fun xs H1 => xs.length ≤ sizeLine ∧ ∀ p, H1 p = none → Q (.ref p) (upd H1 p (.tup xs))
def tLst (t : TA) : TE := fun σ H Q => t σ H fun xs H1 => xs.length ≤ sizeLine ∧ ∀ p, H1 p = none → Q (.ref p) (upd H1 p (.lst xs))
theorem pe_tup {x1} (h : PA X es t) : PE X (.Tuple es x1 pos) (tTup t) := by
  intro pins s σ H Q I hq
  refine wpAny_Tuple_spliced (thn (h pos pins s σ H _ I hq) fun us s1 ⟨xs, H1, I1, r, z, q⟩ => ⟨by rw [← r.length]; exact z, ?_⟩)
  have hf : H1 s1.heap.objs.size = none := I1.hok.fresh (Nat.le_refl _)
  refine ⟨.ref s1.heap.objs.size, upd H1 s1.heap.objs.size (.tup xs), I1.laid (t' := s1.toks) (fun b u e => Heap.get?_push_of_some _ e) (Nat.le_refl _) ?_, rfl, q _ hf⟩
  exact ⟨z, us, r, ⟨_, Heap.get?_push_size _ rfl, rfl, _, rfl⟩⟩
theorem pe_lst (h : PA X es t) : PE X (.List es pos) (tLst t) := by
  intro pins s σ H Q I hq
  refine wpAny_List_spliced (thn (h pos pins s σ H _ I hq) fun us s1 ⟨xs, H1, I1, r, z, q⟩ => ⟨by rw [← r.length]; exact z, ?_⟩)
  have hf : H1 s1.heap.objs.size = none := I1.hok.fresh (Nat.le_refl _)
  refine ⟨.ref s1.heap.objs.size, upd H1 s1.heap.objs.size (.lst xs), I1.laid (t' := s1.toks) (fun b u e => Heap.get?_push_of_some _ e) (Nat.le_refl _) ?_, rfl, q _ hf⟩
  exact ⟨z, us, 0, r, Heap.get?_push_size _ rfl⟩
end
abbrev Sp := List V → Hp → VK → XK → Prop
abbrev CXT := List Env → Hp → Shared → XK → Value → Shared → Prop
structure Env0 (P : Program) (w : World) (K : PySem.W.Frag) (mg : Str → Option Value) (base : Heap) (A : Around) (outer : List Env) (s : Shared) (H : Hp) : Prop where
  frames : A.frames = some outer
  mod : Mod K mg base
  bs : ∀ b o, base.get? b = some o → s.heap.get? b = some o ∧ H b = none
  bsz : base.objs.size ≤ s.heap.objs.size
  funs : s.heap.FunFrames base outer
  frf : ∀ b ∈ frs outer, H b = none
  hok : HOk P w H s.heap
  bare : AllBare s.gens
def CE (outer : List Env) (P : Program) (w : World) (H : Hp) (s : Shared) (Q : VK) (u : Value) (s' : Shared) : Prop :=
  ∃ v H', s'.os = s.os ∧ AllBare s'.gens ∧ Un (frs outer) [] H H' s.heap s'.heap ∧ HOk P w H' s'.heap ∧ RelV v u ∧ Q v H'
def CR (CX : CXT) (outer : List Env) (P : Program) (w : World) (H : Hp) (s : Shared) (Q : VK) (E : XK) (r : Result) (s' : Shared) : Prop :=
  match r with
  | .ok (.ret u) => CE outer P w H s Q u s'
  | .ok _ => False
  | .error e => CX outer H s E e s'
structure FnOk (P : Program) (w : World) (K : PySem.W.Frag) (mg : Str → Option Value) (base : Heap) (CX : CXT) (k : Nat) (f : Addr) (fd : FuncData) (ps : List Str) (sp : Sp) : Prop where
  len : ∀ vs H Q E, sp vs H Q E → vs.length = ps.length
  run : ∀ (A : Around) (outer : List Env) (s : Shared) (H : Hp) (args : Args) (us : List Value) (vs : List V) (Q : VK) (E : XK), Room k A → Env0 P w K mg base A outer s H → BindsTo s fd args (ps.zip us) → Vals vs us → sp vs H Q E →
    codeAny (model P w) A (.call (.ref f) args) (CR CX outer P w H s Q E) s
theorem FnOk.mono {P : Program} {w : World} {K : PySem.W.Frag} {mg : Str → Option Value} {base : Heap} {CX : CXT} {j k : Nat} {f : Addr} {fd : FuncData} {ps : List Str} {sp : Sp} (F : FnOk P w K mg base CX j f fd ps sp) (h : j ≤ k) :
    FnOk P w K mg base CX k f fd ps sp := ⟨F.len, fun A outer s H args us vs Q E hr => F.run A outer s H args us vs Q E (hr.mono h)⟩
theorem Env0.make {P : Program} {w : World} {K : PySem.W.Frag} {mg : Str → Option Value} {base : Heap} {A : Around} {outer : List Env} {s : Shared} {H : Hp} (e : Env0 P w K mg base A outer s H) (C : Addr) (us : List Value) (kw : List (Str × Value)) :
    Env0 P w K mg base (A.under (.builtin "type.__call__" ⟨.ref C :: us, kw⟩)) outer s H := ⟨by first | exact e.frames | (simpa [Around.under, Code.envs, Code.isFrame, pushEnvs] using e.frames), e.mod, e.bs, e.bsz, e.funs, e.frf, e.hok, e.bare⟩
theorem Env0.in1 {P : Program} {w : World} {K : PySem.W.Frag} {mg : Str → Option Value} {base : Heap} {A : Around} {outer : List Env} {s : Shared} {H : Hp} (e : Env0 P w K mg base A outer s H) :
    Env0 P w K mg base A.in1 outer s H := ⟨e.frames, e.mod, e.bs, e.bsz, e.funs, e.frf, e.hok, e.bare⟩
section
variable {X : Cx} {pins : List (Addr × Obj)} {σ : St} {H : Hp} {s s' : Shared}
theorem Inv.env0 (I : Inv X pins σ H s) : Env0 X.prog X.w X.K X.mg X.base X.A X.stack s H :=
  ⟨I.ok.frames, I.ok.mod, I.bs, Nat.le_trans I.ok.bsz I.sz, I.stack, I.stkFree, I.hok, I.bare⟩
theorem Inv.after {Q : VK} {u : Value} (I : Inv X pins σ H s) (h : CE X.stack X.prog X.w H s Q u s') : EP X pins σ Q u s' := by
  obtain ⟨v, H', os, bare, un, hok, r, q⟩ := h
  obtain ⟨hh, g, d, t, os'⟩ := s'
  obtain rfl : os' = s.os := os
  exact ⟨v, H', I.call (h' := hh) (g' := g) (d' := d) (t' := t) (ch := []) un hok bare (fun b z => absurd z (by simp)), r, q⟩
end
def tCall (sp : Sp) (dvs : List V) (E : XK) (t : TA) : TE := fun σ H Q => t σ H fun vs H1 => sp (vs ++ dvs) H1 Q E
def tMake (C : Addr) (sp : Sp) (dvs : List V) (E : XK) (t : TA) : TE := fun σ H Q => t σ H fun vs H1 => ∀ x dx, H1 x = none → H1 dx = none → dx ≠ x →
  sp (.ref x :: (vs ++ dvs)) (upd (upd H1 dx (.own x)) x (.ins C dx [])) (fun v H2 => v = .non ∧ Q (.ref x) H2) E
def Binds (K : PySem.W.Frag) (fd : FuncData) (ps : List Str) (ds : List Value) : Prop :=
  ∀ (s : Shared) (us : List Value), K.In s.heap → (us ++ ds).length = ps.length → BindsTo s fd ⟨us, []⟩ (ps.zip (us ++ ds))
theorem Binds.all {K : PySem.W.Frag} {fd : FuncData} {ps : List Str} (h : ∀ us : List Value, us.length = ps.length → bindArgs fd ⟨us, []⟩ = pure (ps.zip us)) : Binds K fd ps [] := fun s us _ hl => by
  rw [List.append_nil] at hl ⊢
  exact .of_eq (h us hl)
def Passes (CX : CXT) (X : Cx) (E : XK) : Prop := ∀ (pins : List (Addr × Obj)) (σ : St) (H : Hp) (s : Shared) (e : Value) (s' : Shared), Inv X pins σ H s → CX X.stack H s E e s' → X.xe e s'
section
variable {X : Cx} {CX : CXT} {k : Nat} {f C : Addr} {fd : FuncData} {ps : List Str} {sp : Sp} {dvs : List V} {ds : List Value} {E : XK} {x m : Str} {p pos apos : Pos} {e o : Expr} {es : List Expr} {ta : TE} {t : TA}
theorem run_fn {pins : List (Addr × Obj)} {σ : St} {H : Hp} {s : Shared} {Q : VK} {us : List Value} {vs : List V} (F : FnOk X.prog X.w X.K X.mg X.base CX k f fd ps sp) (hr : Room k X.A) (hb : Binds X.K fd ps ds) (hd : Vals dvs ds) (hx : Passes CX X E)
    (I : Inv X pins σ H s) (r : Vals vs us) (h : sp (vs ++ dvs) H Q E) : wpAny (model X.prog X.w) X.A (call (.ref f) us) (EP X pins σ Q) X.xe s := by
  have r2 : Vals (vs ++ dvs) (us ++ ds) := r.append hd
  have hl : (us ++ ds).length = ps.length := by rw [← r2.length]; exact F.len _ _ _ _ h
  refine wpAny_call (codeAny_mono (F.run X.A X.stack s H ⟨us, []⟩ (us ++ ds) (vs ++ dvs) Q E hr I.env0 (hb s us I.kIn hl) r2 h) fun r s' hq => ?_)
  cases r with
  | error e => exact hx pins σ H s e s' I hq
  | ok fl =>
    cases fl with
    | ret u => exact I.after hq
    | next => exact False.elim hq
    | brk => exact False.elim hq
    | cont => exact False.elim hq
theorem pe_call (F : FnOk X.prog X.w X.K X.mg X.base CX k f fd ps sp) (hr : Room k X.A) (hg : Gl X x) (hm : X.mg x = some (.ref f)) (hk : PySem.W.keepIn X.K (.ref f) = true) (hb : Binds X.K fd ps ds) (hd : Vals dvs ds) (hx : Passes CX X E)
    (ha : PA X (e :: es) t) (hdb : (x == ("__debug__" : Str)) = false := by decide) (he : starEach (e :: es) X.env = (false, eval e X.env) :: starEach es X.env := by rfl) (hpl : (backTo pos (starEach es X.env)).any (·.1) = false := by rfl) :
    PE X (.Call (.Name x p) (e :: es) [] pos) (tCall sp dvs E t) := by
  intro pins s σ H Q I h
  refine wpAny_Call_Name_kw (ld_glob I hg hm ?_ hdb)
  refine PySem.W.callWith_K (h₀ := X.base) I.ok.mod.kin hk (thn (ha pos pins s σ H _ I h) fun us s1 ⟨vs, H1, I1, r, q⟩ => ⟨I1.kIn, ?_⟩) he hpl
  exact run_fn F hr hb hd hx I1 r q
structure Mk (K : PySem.W.Frag) (C f : Addr) : Prop where
  makes : PySem.W.makesIn K C = true
  init : PySem.W.findIn K (.ref C) "__init__" = some (some (.ref f))
  fn : PySem.W.isFn K (.ref f) = true
  kp : PySem.W.keepIn K (.ref C) = true
theorem run_make {pins : List (Addr × Obj)} {σ : St} {H : Hp} {s : Shared} {Q : VK} {us : List Value} {vs : List V} (M : Mk X.K C f) (F : FnOk X.prog X.w X.K X.mg X.base CX k f fd ps sp) (hr : Room (k + 1) X.A) (hb : Binds X.K fd ps ds) (hd : Vals dvs ds)
    (hx : Passes CX X E) (I : Inv X pins σ H s) (r : Vals vs us)
    (h : ∀ x dx, H x = none → H dx = none → dx ≠ x → sp (.ref x :: (vs ++ dvs)) (upd (upd H dx (.own x)) x (.ins C dx [])) (fun v H2 => v = .non ∧ Q (.ref x) H2) E) :
    wpAny (model X.prog X.w) X.A (call (.ref C) us) (EP X pins σ Q) X.xe s := by
  have hq := h (s.heap.objs.size + 1) s.heap.objs.size (I.hok.fresh (Nat.le_succ _)) (I.hok.fresh (Nat.le_refl _)) (Nat.ne_of_lt (Nat.lt_succ_self _))
  have I2 := Inv.made (C := C) I
  have r2 : Vals (V.ref (s.heap.objs.size + 1) :: (vs ++ dvs)) (Value.ref (s.heap.objs.size + 1) :: (us ++ ds)) := .cons rfl (r.append hd)
  have hl : (Value.ref (s.heap.objs.size + 1) :: us ++ ds).length = ps.length := by
    have e := r2.length
    rw [F.len _ _ _ _ hq] at e
    exact e.symm
  refine wpAny_call (make_map (f := f) I.kIn M.makes M.init (beq_iff_eq.mp M.fn) (codeAny_mono (F.run _ X.stack _ _ ⟨Value.ref (s.heap.objs.size + 1) :: us, []⟩ (Value.ref (s.heap.objs.size + 1) :: (us ++ ds)) _ _ E (hr.make C us [])
    (I2.env0.make C us []) (hb _ (Value.ref (s.heap.objs.size + 1) :: us) I2.kIn hl) r2 hq) fun r s' hq' => ?_))
  cases r with
  | error e => exact hx pins σ _ _ e s' I2 hq'
  | ok fl =>
    cases fl with
    | ret u =>
      obtain ⟨v, H', I3, rv, ev, q3⟩ := I2.after hq'
      subst ev
      exact ⟨rv, ⟨V.ref (s.heap.objs.size + 1), H', I3, rfl, q3⟩⟩
    | next => exact False.elim hq'
    | brk => exact False.elim hq'
    | cont => exact False.elim hq'
theorem pe_make (M : Mk X.K C f) (F : FnOk X.prog X.w X.K X.mg X.base CX k f fd ps sp) (hr : Room (k + 1) X.A) (hg : Gl X x) (hm : X.mg x = some (.ref C)) (hb : Binds X.K fd ps ds) (hd : Vals dvs ds) (hx : Passes CX X E)
    (ha : PA X (e :: es) t) (hdb : (x == ("__debug__" : Str)) = false := by decide) (he : starEach (e :: es) X.env = (false, eval e X.env) :: starEach es X.env := by rfl) (hpl : (backTo pos (starEach es X.env)).any (·.1) = false := by rfl) :
    PE X (.Call (.Name x p) (e :: es) [] pos) (tMake C sp dvs E t) := by
  intro pins s σ H Q I h
  refine wpAny_Call_Name_kw (ld_glob I hg hm ?_ hdb)
  refine PySem.W.callWith_K (h₀ := X.base) I.ok.mod.kin M.kp (thn (ha pos pins s σ H _ I h) fun us s1 ⟨vs, H1, I1, r, q⟩ => ⟨I1.kIn, ?_⟩) he hpl
  exact run_make M F hr hb hd hx I1 r q
end
section
variable {X : Cx} {CX : CXT} {k : Nat} {f C : Addr} {fd : FuncData} {ps ks : List Str} {sp : Sp} {E : XK} {x m : Str} {p pos apos kpos : Pos} {e o : Expr} {es : List Expr} {kws : List Keyword} {te ta : TE} {t tk : TA} {nm : Option Str}
variable {g : List Value → List Value → List Value} {gV : List V → List V → List V}
end
structure FnScope (N P : List Str) (sc : Scope) : Prop where
  kind : sc.kind = .function
  co : sc.isCoroutine = false
  gen : sc.isGenerator = false
  nd : N.Nodup
  pre : N.take P.length = P
  par : ∀ x ∈ P, sc.names.lookup x = some .local ∨ sc.names.lookup x = some .cell
  nofree : ∀ y ∈ sc.names, y.2 ≠ .free
theorem bindL_out {kindOf : Str → Option NameKind} {x : Str} : ∀ {binds : List (Str × Value)} {m : Str → Option Value}, (∀ v, (x, v) ∉ binds) → bindL kindOf binds m x = m x
  | [], _, _ => rfl
  | (n, v) :: r, m, h => by
    unfold bindL
    rw [bindL_out fun w hw => h w (List.mem_cons_of_mem _ hw)]
    split
    · have : x ≠ n := by rintro rfl; exact h v List.mem_cons_self
      simp [this]
    · rfl
theorem bindC_out {kindOf : Str → Option NameKind} {x : Str} : ∀ {binds : List (Str × Value)} {m : Str → Option Value}, (∀ v, (x, v) ∉ binds) → bindC kindOf binds m x = m x
  | [], _, _ => rfl
  | (n, v) :: r, m, h => by
    unfold bindC
    rw [bindC_out fun w hw => h w (List.mem_cons_of_mem _ hw)]
    split
    · rfl
    · have : x ≠ n := by rintro rfl; exact h v List.mem_cons_self
      simp [this]
theorem bindL_get {kindOf : Str → Option NameKind} {x : Str} {v : Value} : ∀ {P : List Str} {vs : List Value} {i : Nat} {m : Str → Option Value}, P.Nodup → P[i]? = some x → vs[i]? = some v → kindOf x = some .local →
    bindL kindOf (P.zip vs) m x = some v
  | [], _, _, _, _, h, _, _ => by simp at h
  | _ :: _, [], _, _, _, _, h, _ => by simp at h
  | p :: P, w :: vs, 0, m, nd, h1, h2, hk => by
    simp at h1 h2; subst h1; subst h2
    show bindL kindOf ((p, w) :: P.zip vs) m p = _
    unfold bindL
    rw [bindL_out fun v hv => (List.nodup_cons.mp nd).1 (List.of_mem_zip hv).1, if_pos hk]
    simp
  | p :: P, w :: vs, i + 1, m, nd, h1, h2, hk => by
    show bindL kindOf ((p, w) :: P.zip vs) m x = _
    unfold bindL
    exact bindL_get (i := i) (List.nodup_cons.mp nd).2 (by simpa using h1) (by simpa using h2) hk
theorem bindC_get {kindOf : Str → Option NameKind} {x : Str} {v : Value} : ∀ {P : List Str} {vs : List Value} {i : Nat} {m : Str → Option Value}, P.Nodup → P[i]? = some x → vs[i]? = some v → kindOf x ≠ some .local →
    bindC kindOf (P.zip vs) m x = some v
  | [], _, _, _, _, h, _, _ => by simp at h
  | _ :: _, [], _, _, _, _, h, _ => by simp at h
  | p :: P, w :: vs, 0, m, nd, h1, h2, hk => by
    simp at h1 h2; subst h1; subst h2
    show bindC kindOf ((p, w) :: P.zip vs) m p = _
    unfold bindC
    rw [bindC_out fun v hv => (List.nodup_cons.mp nd).1 (List.of_mem_zip hv).1, if_neg hk]
    simp
  | p :: P, w :: vs, i + 1, m, nd, h1, h2, hk => by
    show bindC kindOf ((p, w) :: P.zip vs) m x = _
    unfold bindC
    exact bindC_get (i := i) (List.nodup_cons.mp nd).2 (by simpa using h1) (by simpa using h2) hk
def start (N : List Str) (vs : List V) : St := vs.map some ++ List.replicate (N.length - vs.length) none
def cxOf (CX : CXT) (P : Program) (w : World) (K : PySem.W.Frag) (mg : Str → Option Value) (base : Heap) (N : List Str) (qual : Str) (scope : Scope) (f : Addr) (cd : Value) (A : Around) (outer : List Env) (s : Shared) (H : Hp) (E : XK) : Cx where
  prog := P
  w := w
  K := K
  mg := mg
  base := base
  A := A.deeper (envOfC qual scope s.heap.objs.size f cd)
  N := N
  s₀ := s
  H₀ := H
  env := envOfC qual scope s.heap.objs.size f cd
  outer := outer
  stack := envOfC qual scope s.heap.objs.size f cd :: outer
  ex := []
  calm := true
  fn := fun _ => true
  pn := []
  xe := fun e s' => wpAny (model P w) (A.deeper (envOfC qual scope s.heap.objs.size f cd)) (leaving (envOfC qual scope s.heap.objs.size f cd) e) (fun _ s'' => CX outer H s E e s'') (fun e' s'' => CX outer H s E e' s'') s'
theorem cell_has {sc : Scope} {n : Nat} {x : Str} (h : sc.names.lookup x = some .cell) : ∃ c, (cellsFrom n sc.names []).lookup x = some c := by
  have q := PySem.W.cellsFrom_some sc.names n [] (.inl h)
  exact Option.isSome_iff_exists.mp q
theorem inv_start {CX : CXT} {P : Program} {w : World} {K : PySem.W.Frag} {mg : Str → Option Value} {base : Heap} {N ps : List Str} {qual : Str} {scope : Scope} {f : Addr} {cd : Value} {A : Around} {outer : List Env} {s s1 : Shared} {H : Hp} {E : XK} {us : List Value} {vs : List V}
    (S : FnScope N ps scope) (hd : A.handled = none) (e0 : Env0 P w K mg base A outer s H) (hl : vs.length = ps.length) (r : Vals vs us)
    (x : InCallC s s.heap.objs.size (bindL (envOfC qual scope s.heap.objs.size f cd).kindOf (ps.zip us) fun _ => none) (cellsFrom (s.heap.objs.size + 1) scope.names []) (bindC (envOfC qual scope s.heap.objs.size f cd).kindOf (ps.zip us) fun _ => none) s1) :
    Inv (cxOf CX P w K mg base N qual scope f cd A outer s H E) [] (start N vs) H s1 := by
  have hpl : ps.length ≤ N.length := by have := congrArg List.length S.pre; rw [List.length_take] at this; omega
  obtain ⟨h1, tk, rfl, hk⟩ := x.done
  have noA : ∀ b : Addr, b ∉ (cxOf CX P w K mg base N qual scope f cd A outer s H E).ex := fun b z => absurd (show b ∈ ([] : List Addr) from z) (by simp)
  refine ⟨⟨e0.mod, S.kind, rfl, rfl, Nat.le_refl _, fun y z c h1 h2 => ?_, fun y hy => ?_, fun y c _ h => ?_, fun _ => hd, Around.frames_deeper e0.frames, .inr ⟨rfl, rfl⟩, fun b z => absurd z (noA b), e0.bs, e0.bsz, fun b _ _ => noA b, fun b z => absurd z (noA b), e0.funs, e0.frf⟩,
    rfl, e0.bare, Un.kept hk, ⟨_, x.toInCall.ns, fun i y v h1 h2 h3 => ?_⟩, fun y c h => ⟨_, x.cell y c h⟩, e0.hok.fresh (Nat.le_refl _), fun y c h => ?_, fun p hp => absurd (show p ∈ ([] : List (Addr × Obj)) from hp) (by simp), e0.hok.kept hk, ?_⟩
  · exact name_of_addr x.apart (PySem.mem_of_lookup h1) (PySem.mem_of_lookup h2)
  · have hy : scope.names.lookup y = some .cell ∨ scope.names.lookup y = some .free := hy
    rcases hy with hy | hy
    · exact cell_has hy
    · exact absurd rfl (S.nofree _ (PySem.mem_of_lookup hy))
  · exact Nat.le_of_lt (x.above y c (PySem.mem_of_lookup h))
  · have hi : i < vs.length := by
      unfold start at h2
      by_cases hi : i < vs.length
      · exact hi
      · rw [List.getElem?_append_right (by simpa using hi)] at h2
        rw [List.getElem?_replicate] at h2
        split at h2 <;> cases h2
    have ha : vs[i]? = some v := by
      unfold start at h2
      rw [List.getElem?_append_left (by simpa using hi), List.getElem?_map] at h2
      cases e : vs[i]? with
      | none => rw [e] at h2; cases h2
      | some a => rw [e] at h2; cases h2; rfl
    obtain ⟨u, hu, rv⟩ := r.get ha
    have hp : ps[i]? = some y := by
      rw [← S.pre, List.getElem?_take_of_lt (by omega)]; exact h1
    have ndP : ps.Nodup := by rw [← S.pre]; exact S.nd.sublist (List.take_sublist _ _)
    refine ⟨u, rv, ?_⟩
    rcases S.par y (List.mem_of_getElem? hp) with k | k
    · exact .inl ⟨k, bindL_get ndP hp hu k⟩
    · obtain ⟨c, e⟩ := cell_has (n := s.heap.objs.size + 1) k
      refine .inr ⟨.inl k, c, e, ?_⟩
      have q := x.cell y c e
      rw [bindC_get ndP hp hu (by show scope.names.lookup y ≠ _; rw [k]; decide)] at q
      exact q
  · exact e0.hok.fresh (Nat.le_of_lt (x.above y c (PySem.mem_of_lookup h)))
  · unfold start
    show _ = N.length
    rw [List.length_append, List.length_map, List.length_replicate]
    omega
theorem fn_of {CX : CXT} {P : Program} {w : World} {K : PySem.W.Frag} {mg : Str → Option Value} {base : Heap} {k : Nat} {f : Addr} {name qual : Str} {params : Arguments} {body : List Stmt} {scope : Scope} {dV kV doc pm cdv ct oc : Value} {an od : Option Addr}
    {osl : Array (Option Value)} {N ps : List Str} {sp : Sp} (lk : K.lookup f = some ⟨oc, od, .func (PySem.W.fnOf name qual params body scope dV kV doc pm an cdv ct), osl⟩) (hcd : PySem.W.codeIn K cdv qual = true) (S : FnScope N ps scope)
    (len : ∀ vs H Q E, sp vs H Q E → vs.length = ps.length)
    (hbody : ∀ (A : Around) (outer : List Env) (s : Shared) (H : Hp) (vs : List V) (Q : VK) (E : XK), Room k (A.deeper (envOfC qual scope s.heap.objs.size f cdv)) → sp vs H Q E →
      ∃ t, PSs (cxOf CX P w K mg base N qual scope f cdv A outer s H E) body t ∧ t { nx := fun _ H' => Q .non H', rt := Q } (start N vs) H) :
    FnOk P w K mg base CX (k + 1) f (PySem.W.fnOf name qual params body scope dV kV doc pm an cdv ct) ps sp := by
  refine ⟨len, fun A outer s H args us vs Q E hr e0 hb r hsp => ?_⟩
  have hl := len _ _ _ _ hsp
  have KX : K.In s.heap := e0.mod.kin.keeps fun b o e => (e0.bs b o e).1
  have lim : s.heap.NoLimit := e0.mod.nolimit.keeps fun b o e => (e0.bs b o e).1
  have hkind : ∀ y ∈ ps.zip us, scope.names.lookup y.1 = some .local ∨ (scope.names.lookup y.1 = some .cell ∧ ((cellsFrom (s.heap.objs.size + 1) scope.names []).lookup y.1).isSome = true) := fun ⟨n, v⟩ hy => by
    rcases S.par n (List.of_mem_zip hy).1 with q | q
    · exact .inl q
    · exact .inr ⟨q, PySem.W.cellsFrom_some _ _ _ (.inl q)⟩
  refine codeAny_call_function hr.depth (KX _ _ lk) rfl S.co S.gen rfl (PySem.W.codeRec_of KX hcd) (hb _ _ _ _ ?_)
  refine wpAny_newFunctionEnv_cells S.kind hkind fun env he s1 x => ?_
  subst he
  refine ⟨lim.keeps x.toInCall.keep, codeAny_func ?_⟩
  obtain ⟨t, ht, hq⟩ := hbody A outer s H vs Q E (hr.deeper _) hsp
  have I : Inv (cxOf CX P w K mg base N qual scope f cdv A outer s H E) [] (start N vs) H s1 := inv_start S hr.hd e0 hl r x
  refine wpAny_mono (ht [] s1 (start N vs) H _ I hq) (fun fl s' hs => ?_) fun e s' hs => hs
  have fin : ∀ {σ' : St} {H' : Hp} {v : V} {u : Value}, Inv (cxOf CX P w K mg base N qual scope f cdv A outer s H E) [] σ' H' s' → RelV v u → Q v H' → CE outer P w H s Q u s' :=
    fun {σ' H' v u} J rv q => ⟨v, H', J.os, J.bare, J.base, J.hok, rv, q⟩
  cases fl with
  | ret u =>
    obtain ⟨v, σ', H', J, rv, q⟩ := hs
    exact fin J rv q
  | next =>
    obtain ⟨σ', H', J, q⟩ := hs
    exact fin (v := V.non) (u := Value.none) J rfl q
  | brk =>
    obtain ⟨_, _, _, q⟩ := hs
    exact False.elim q
  | cont =>
    obtain ⟨_, _, _, q⟩ := hs
    exact False.elim q
end L2
namespace L2
open PySem PySem.Spec PyProof.Rows
section
variable {X : Cx} {x : Str} {p pos : Pos} {e : Expr} {es : List Expr} {t : TA} {id T : String} {r : List V → Hp → VK → Prop}
def tCB (r : List V → Hp → VK → Prop) (t : TA) : TE := fun σ H Q => t σ H fun vs H1 => r vs H1 Q
theorem pe_callB (hc : CallR X (.builtin id) r) (hg : Gl X x) (hm : X.mg x = none) (hv : bootBuiltins x = some (.builtin id)) (ha : PA X (e :: es) t) (hn : x ≠ "__name__" := by decide) (hdb : (x == ("__debug__" : Str)) = false := by decide)
    (he : starEach (e :: es) X.env = (false, eval e X.env) :: starEach es X.env := by rfl) (hpl : (backTo pos (starEach es X.env)).any (·.1) = false := by rfl) : PE X (.Call (.Name x p) (e :: es) [] pos) (tCB r t) := by
  intro pins s σ H Q I h
  refine wpAny_Call_Name_kw (ld_blt I hg hm hv ?_ hn hdb)
  exact PyProof.Rows.callWith_builtin1 (thn (ha pos pins s σ H _ I h) fun us s1 ⟨vs, H1, I1, r1, q1⟩ => hc pins s1 σ H1 vs us Q I1 r1 q1) he hpl
theorem pe_callTy (hc : CallR X (.type T) r) (hg : Gl X x) (hm : X.mg x = none) (hv : bootBuiltins x = some (.type T)) (ha : PA X (e :: es) t) (hn : x ≠ "__name__" := by decide) (hdb : (x == ("__debug__" : Str)) = false := by decide)
    (he : starEach (e :: es) X.env = (false, eval e X.env) :: starEach es X.env := by rfl) (hpl : (backTo pos (starEach es X.env)).any (·.1) = false := by rfl) : PE X (.Call (.Name x p) (e :: es) [] pos) (tCB r t) := by
  intro pins s σ H Q I h
  refine wpAny_Call_Name_kw (ld_blt I hg hm hv ?_ hn hdb)
  exact PyProof.Rows.callWith_type1 (thn (ha pos pins s σ H _ I h) fun us s1 ⟨vs, H1, I1, r1, q1⟩ => hc pins s1 σ H1 vs us Q I1 r1 q1) he hpl
end
end L2
namespace HT
open PySem PyProof.Rows
section
open PySem.SeqAt
open PySem.AutoSeq1 (wpAny_loadPart')
open PySem.MeetsSeq PySem.MeetsSeq2 PySem.MeetsSeq3
end
section
variable {prog : Program} {w : World} {A : Around} {E : Value → Shared → Prop} {s : Shared}
def sIx (n d : Nat) : Option Int → Nat
  | none => d
  | some v => if v < 0 then (v + (n : Int)).toNat else min v.toNat n
theorem sIx_nat (n d k : Nat) : sIx n d (some (k : Int)) = min k n := by
  show (if (k : Int) < 0 then ((k : Int) + (n : Int)).toNat else min (k : Int).toNat n) = min k n
  rw [if_neg (by omega), Int.toNat_natCast]
theorem sIx_le (n d : Nat) (hd : d ≤ n) (o : Option Int) : sIx n d o ≤ n := by
  cases o with
  | none => exact hd
  | some v =>
    show (if v < 0 then (v + (n : Int)).toNat else min v.toNat n) ≤ n
    by_cases hv : v < 0
    · rw [if_pos hv]; omega
    · rw [if_neg hv]; exact Nat.min_le_right _ _
theorem clip_eq (v : Int) (n d : Nat) : (if v < 0 then max (v + (n : Int)) 0 else min v (n : Int)) = ((sIx n d (some v) : Nat) : Int) := by
  show (if v < 0 then max (v + (n : Int)) 0 else min v (n : Int)) = (((if v < 0 then (v + (n : Int)).toNat else min v.toNat n) : Nat) : Int)
  by_cases hv : v < 0
  · simp only [if_pos hv]; omega
  · simp only [if_neg hv]; omega
theorem adjust_gen (lo hi : Option Int) (n : Nat) : Builtin.Slice.sliceAdjust lo hi 1 (n : Int) = (((sIx n 0 lo : Nat) : Int), ((sIx n n hi : Nat) : Int)) := by
  have h1 : ¬ ((1 : Int) < 0) := by omega
  unfold Builtin.Slice.sliceAdjust
  simp only [h1, if_false]
  refine Prod.ext ?_ ?_
  · cases lo with
    | none => rfl
    | some v => exact clip_eq v n 0
  · cases hi with
    | none => rfl
    | some v => exact clip_eq v n n
theorem places_gen (i j : Nat) : Builtin.Slice.slicePlaces (i : Int) (j : Int) 1 = j - i := by
  unfold Builtin.Slice.slicePlaces
  have h1 : (1 : Int) > 0 := by omega
  simp only [h1, if_true, Int.ediv_one]
  split <;> omega
theorem slicePart_ {v : Value} {o : Option Int} {Q : Option Int → Shared → Prop} (p : IsPart v o) (h : Q o s) : wpAny (model prog w) A (Builtin.Slice.slicePartIndex v) Q E s := by
  cases p with
  | none => exact slicePart_none h
  | int i t => exact slicePart_int h
theorem sliceApplied_gen {sl : Addr} {vl vu : Value} {lo hi : Option Int} {n : Nat} {Q : Int × Int × Nat → Shared → Prop} (hs : s.heap.IsSliceOf sl vl vu .none) (pl : IsPart vl lo) (pu : IsPart vu hi)
    (h : Q (((sIx n 0 lo : Nat) : Int), 1, sIx n n hi - sIx n 0 lo) s) : wpAny (model prog w) A (Builtin.Slice.sliceApplied (.ref sl) (pure (n : Int))) Q E s := by
  obtain ⟨os, hos, hcs, hds⟩ := id hs
  unfold Builtin.Slice.sliceApplied Builtin.Slice.sliceFields
  refine wpAny_bind (wpAny_bind (wpAny_field hos hds (x := vl) rfl (wpAny_bind (wpAny_field hos hds (x := vu) rfl (wpAny_bind (wpAny_field hos hds (x := .none) rfl (wpAny_pure ?_)))))))
  refine wpAny_bind (slicePart_none ?_)
  show wpAny _ _ (if ((1 : Int) == 0) = true then _ else _) _ _ s
  rw [if_neg (by decide)]
  refine wpAny_bind (slicePart_ pl (wpAny_bind (slicePart_ pu (wpAny_bind (wpAny_pure ?_)))))
  show wpAny _ _ (match Builtin.Slice.sliceAdjust lo hi 1 (n : Int) with | (lo, hi) => pure (lo, (1 : Int), Builtin.Slice.slicePlaces lo hi 1)) _ _ s
  rw [adjust_gen lo hi n]
  show wpAny _ _ (pure (((sIx n 0 lo : Nat) : Int), (1 : Int), Builtin.Slice.slicePlaces ((sIx n 0 lo : Nat) : Int) ((sIx n n hi : Nat) : Int) 1)) _ _ s
  rw [places_gen]
  exact wpAny_pure h
theorem pick_gen (xs : Array Value) (i k : Nat) : ((List.range k).filterMap fun (m : Nat) => xs[((i : Int) + (m : Int) * 1).toNat]?).toArray = ((xs.toList.drop i).take k).toArray := by
  have e : (fun (m : Nat) => xs[((i : Int) + (m : Int) * 1).toNat]?) = fun m => xs[i + m]? := by
    funext m
    have : ((i : Int) + (m : Int) * 1).toNat = i + m := by omega
    rw [this]
  rw [e]
  have := pick_run xs i k
  rw [List.filterMap_map] at this
  have e2 : ((fun x => xs[x]?) ∘ fun x => i + x) = fun m => xs[i + m]? := rfl
  rw [e2] at this
  rw [this]
theorem getItem_tuple_cut {t sl : Addr} {items : Array Value} {vl vu : Value} {lo hi : Option Int} {Q : Value → Shared → Prop} (ht : IsTup s.heap t items) (hs : s.heap.IsSliceOf sl vl vu .none) (pl : IsPart vl lo) (pu : IsPart vu hi)
    (hw : ¬ (sIx items.size 0 lo = 0 ∧ sIx items.size items.size hi = items.size))
    (h : Q (.ref s.heap.objs.size) { s with heap := s.heap.push { cls := .type "tuple", data := .seq ((items.toList.drop (sIx items.size 0 lo)).take (sIx items.size items.size hi - sIx items.size 0 lo)).toArray } })
    (hsz : items.size ≤ sizeLine) : wpAny (model prog w) A (getItem (.ref t) (.ref sl)) Q E s := by
  have htake : sizeOk (.seq ((items.toList.drop (sIx items.size 0 lo)).take (sIx items.size items.size hi - sIx items.size 0 lo)).toArray) := by
    show ((items.toList.drop (sIx items.size 0 lo)).take (sIx items.size items.size hi - sIx items.size 0 lo)).toArray.size ≤ sizeLine
    rw [List.size_toArray, List.length_take, List.length_drop, Array.length_toList]
    omega
  have hj : sIx items.size items.size hi ≤ items.size := sIx_le _ _ (Nat.le_refl _) hi
  obtain ⟨os, hos, hcs, hds⟩ := id hs
  have hTs : s.TypeIs (.ref sl) "slice" := ⟨os, hos, hcs⟩
  unfold getItem
  try with_reducible refine wpAny_holding ?_
  first | refine wpAny_bind (wpAny_pure ?_) | skip
  refine wpAny_bind (wpAny_sequenceKey ht.typeIs (by decide) ?_)
  refine wpAny_bind (wpAny_callSpecial?_slot (name := Str.ofString "__getitem__") ht.typeIs PyProof.Rows.slot_tuple_getitem
    (wpAny_call_entry PyProof.Rows.slot_tuple_getitem ht.typeIs entry_tuple_getitem ?_ (args_tuple_getitem _ _)))
  show wpAny _ _ (Builtin.Tuple.tupleItemsOf (.ref t) >>= _) _ _ s
  refine wpAny_bind (tupleItemsOf_ ht ?_)
  refine wpAny_bind (wpAny_typeOf hTs ?_)
  rw [if_pos (by decide)]
  refine wpAny_bind (sliceApplied_gen hs pl pu ?_)
  have hno : ¬ ((((sIx items.size 0 lo : Nat) : Int) == 0 && (1 : Int) == 1 && (sIx items.size items.size hi - sIx items.size 0 lo) == items.size) = true) := by
    intro q
    rw [Bool.and_eq_true, Bool.and_eq_true] at q
    have q1 : ((sIx items.size 0 lo : Nat) : Int) = 0 := eq_of_beq q.1.1
    have q2 : sIx items.size items.size hi - sIx items.size 0 lo = items.size := eq_of_beq q.2
    exact hw ⟨by omega, by omega⟩
  show wpAny _ _ (if (((sIx items.size 0 lo : Nat) : Int) == 0 && (1 : Int) == 1 && (sIx items.size items.size hi - sIx items.size 0 lo) == items.size) = true then _ else _) _ _ s
  rw [if_neg hno, pick_gen]
  first
    | exact wpAny_bind (m := Builtin.Tuple.tupleExact _) (wpAny_newObj_type (wpAny_pure ⟨_, rfl, wpAny_pure h⟩) htake)
    | exact wpAny_bind (m := Builtin.Tuple.tupleExact _) (wpAny_newObj_type (wpAny_bind (wpAny_pure (wpAny_pure ⟨_, rfl, wpAny_pure h⟩))) htake)
    | exact wpAny_bind (wpAny_bind (m := Builtin.Tuple.tupleExact _) (wpAny_newObj_type (wpAny_pure (wpAny_pure ⟨_, rfl, wpAny_pure h⟩)) htake))
    | exact wpAny_bind (wpAny_bind (m := Builtin.Tuple.tupleExact _) (wpAny_newObj_type (wpAny_pure ⟨_, rfl, wpAny_pure h⟩) htake))
end
end HT
namespace L2
open PySem PySem.Spec PyProof.Rows
abbrev TO := St → Hp → (Option Int → Hp → Prop) → Prop
def PO (X : Cx) (e : Option Expr) (t : TO) : Prop :=
  ∀ (pins : List (Addr × Obj)) (s : Shared) (σ : St) (H : Hp) (Q : Option Int → Hp → Prop), Inv X pins σ H s → t σ H Q →
    wpAny (model X.prog X.w) X.A (evalPart e X.env) (fun u s' => ∃ o H', Inv X pins σ H' s' ∧ IsPart u o ∧ Q o H') X.xe s
def tNoPart : TO := fun _ H Q => Q none H
def tPart (t : TE) : TO := fun σ H Q => t σ H fun x H1 => ∃ i, x = .int i ∧ Q (some i) H1
section
variable {X : Cx} {e : Expr} {te : TE} {lo hi : Option Expr} {tl th : TO} {pos p2 : Pos}
theorem po_none : PO X none tNoPart := by
  intro pins s σ H Q I h
  rw [evalPart_none]
  exact wpAny_pure ⟨none, H, I, .none, h⟩
theorem po_some (h : PE X e te) : PO X (some e) (tPart te) := by
  intro pins s σ H Q I hw
  rw [evalPart_some]
  refine thn (h pins s σ H _ I hw) fun u s1 ⟨x, H1, I1, r1, q1⟩ => ?_
  obtain ⟨i, rfl, q⟩ := q1
  obtain ⟨t, rfl⟩ := r1
  exact ⟨some i, H1, I1, .int i t, q⟩
def SlR (X : Cx) (r : V → Option Int → Option Int → Hp → VK → Prop) : Prop :=
  ∀ (pins : List (Addr × Obj)) (s : Shared) (σ : St) (H : Hp) (x : V) (v vl vu : Value) (lo hi : Option Int) (sl : Addr) (Q : VK), Inv X pins σ H s → RelV x v → s.heap.IsSliceOf sl vl vu .none → IsPart vl lo → IsPart vu hi → r x lo hi H Q →
    ∃ T id, typeLookup (.type T) "__getitem__" = pure (some (.builtin id)) ∧ s.TypeIs v T ∧ wpAny (model X.prog X.w) X.A (getItem v (.ref sl)) (EP X pins σ Q) X.xe s
def tSl (r : V → Option Int → Option Int → Hp → VK → Prop) (te : TE) (tl th : TO) : TE := fun σ H Q => te σ H fun x H1 => tl σ H1 fun l H2 => th σ H2 fun u H3 => r x l u H3 Q
theorem pe_slice {r : V → Option Int → Option Int → Hp → VK → Prop} (hr : SlR X r) (he : PE X e te) (hl : PO X lo tl) (hu : PO X hi th) : PE X (.Subscript e (.Slice lo hi none p2) pos) (tSl r te tl th) := by
  intro pins s σ H Q I h
  refine Subscript_ (thn (he pins s σ H _ I h) fun v s1 ⟨x, H1, I1, r1, q1⟩ => ?_)
  refine wpAny_Slice (thn (hl pins s1 σ H1 _ I1 q1) fun vl s2 ⟨l, H2, I2, pl, q2⟩ => thn (hu pins s2 σ H2 _ I2 q2) fun vu s3 ⟨u, H3, I3, pu, q3⟩ => ?_)
  rw [evalPart_none]
  refine wpAny_pure ?_
  have I4 : Inv X pins σ H3 { s3 with heap := s3.heap.push { cls := .type "slice", data := .fields #[vl, vu, .none] } } := I3.kept (t' := s3.toks) fun b ob q => Heap.get?_push_of_some _ q
  obtain ⟨T, id, hT, ht, hg⟩ := hr pins { s3 with heap := s3.heap.push { cls := .type "slice", data := .fields #[vl, vu, .none] } } σ H3 x v vl vu l u s3.heap.objs.size Q I4 r1 (Heap.IsSliceOf.new ..) pl pu q3
  show wpAny (model X.prog X.w) X.A (subscriptTail e (.Slice lo hi none p2) v (.ref s3.heap.objs.size)) (EP X pins σ Q) X.xe { s3 with heap := s3.heap.push { cls := .type "slice", data := .fields #[vl, vu, .none] } }
  exact tail_any (ops := [.ref s3.heap.objs.size, v]) ht hT hg (by with_unfolding_all rfl)
def cutV (xs : List V) (lo hi : Option Int) : List V := (xs.drop (HT.sIx xs.length 0 lo)).take (HT.sIx xs.length xs.length hi - HT.sIx xs.length 0 lo)
theorem cutV_length (xs : List V) (lo hi : Option Int) : (cutV xs lo hi).length ≤ xs.length := by
  unfold cutV
  rw [List.length_take, List.length_drop]
  omega
def rSlT (K : PySem.W.Frag) : V → Option Int → Option Int → Hp → VK → Prop := fun x lo hi H Q => ∃ a xs, x = .ref a ∧ SqT K H a xs ∧
  ¬ (HT.sIx xs.length 0 lo = 0 ∧ HT.sIx xs.length xs.length hi = xs.length) ∧ ∀ p, H p = none → Q (.ref p) (upd H p (.tup (cutV xs lo hi)))
theorem sl_tup : SlR X (rSlT X.K) := by
  intro pins s σ H x v vl vu lo hi sl Q I rx hs pl pu h
  obtain ⟨a, xs, rfl, hx, hw, q⟩ := h
  cases rx
  obtain ⟨its, r, ht, hz⟩ := I.tuple hx
  have hlen : its.toArray.size = xs.length := by rw [List.size_toArray]; exact r.length.symm
  refine ⟨"tuple", _, PyProof.Rows.slot_tuple_getitem.lookup, ht.typeIs, ?_⟩
  refine HT.getItem_tuple_cut ht hs pl pu (by rw [hlen]; exact hw) ?_ (by rw [hlen]; exact hz)
  rw [hlen]
  refine ⟨.ref s.heap.objs.size, _, I.laid (t' := s.toks) (o := .tup (cutV xs lo hi)) (fun b ob q => Heap.get?_push_of_some _ q) (Nat.le_refl _) ?_, rfl, q _ (I.hok.fresh (Nat.le_refl _))⟩
  exact ⟨Nat.le_trans (cutV_length xs lo hi) hz, _, (r.drop (HT.sIx xs.length 0 lo)).take (HT.sIx xs.length xs.length hi - HT.sIx xs.length 0 lo), IsTup.new _ _⟩
end
end L2
namespace L2
open PySem PySem.Spec PyProof.Rows
def ixN (n : Nat) (i : Int) : Option Nat := if 0 ≤ i then (if i < n then some i.toNat else none) else if -(n : Int) ≤ i then some (i + n).toNat else none
def atI {α : Type} (xs : List α) (i : Int) : Option α := (ixN xs.length i).bind fun j => xs[j]?
theorem ixN_seq {n : Nat} {i : Int} {j : Nat} (h : ixN n i = some j) : seqIndex? i n = some j ∧ j < n ∧ -(n : Int) ≤ i ∧ i < n := by
  unfold ixN at h
  by_cases h0 : 0 ≤ i
  · rw [if_pos h0] at h
    by_cases h1 : i < n
    · rw [if_pos h1] at h
      have e : i.toNat = j := Option.some.inj h
      exact ⟨by rw [seqIndex_of h0 h1, e], by omega, by omega, h1⟩
    · rw [if_neg h1] at h; cases h
  · rw [if_neg h0] at h
    by_cases h1 : -(n : Int) ≤ i
    · rw [if_pos h1] at h
      have e : (i + n).toNat = j := Option.some.inj h
      exact ⟨by rw [seqIndex_neg (by omega) h1, e], by omega, h1, by omega⟩
    · rw [if_neg h1] at h; cases h
theorem atI_get {α : Type} {xs : List α} {i : Int} {v : α} (h : atI xs i = some v) : ∃ j, seqIndex? i xs.length = some j ∧ xs[j]? = some v ∧ j < xs.length ∧ -(xs.length : Int) ≤ i ∧ i < xs.length := by
  unfold atI at h
  cases e : ixN xs.length i with
  | none => rw [e] at h; cases h
  | some j =>
    rw [e] at h
    obtain ⟨h1, h2, h3, h4⟩ := ixN_seq e
    exact ⟨j, h1, h, h2, h3, h4⟩
theorem atI_nat {α : Type} {xs : List α} {j : Nat} {v : α} (h : xs[j]? = some v) : atI xs (j : Int) = some v := by
  have hj : j < xs.length := (List.getElem?_eq_some_iff.mp h).1
  have e : ixN xs.length (j : Int) = some j := by
    unfold ixN
    rw [if_pos (by omega), if_pos (by omega)]; simp
  unfold atI; rw [e]; exact h
def PlainIx (b : Expr) : Prop := ∀ o i, subscripted b false o i = operate [o, i] (getItem o i)
def IxR (X : Cx) (r : R2) : Prop :=
  ∀ (value slice : Expr) (pins : List (Addr × Obj)) (s : Shared) (σ : St) (H : Hp) (x y : V) (v u : Value) (Q : VK), Inv X pins σ H s → RelV x v → RelV y u → r x y H Q →
    subscripted slice false v u = operate [v, u] (getItem v u) → wpAny (model X.prog X.w) X.A (subscriptTail value slice v u) (EP X pins σ Q) X.xe s
def MtR (X : Cx) (id : String) (r : V → List V → Hp → VK → Prop) : Prop :=
  ∀ (pins : List (Addr × Obj)) (s : Shared) (σ : St) (H : Hp) (x : V) (xs : List V) (v : Value) (us : List Value) (Q : VK), Inv X pins σ H s → RelV x v → Vals xs us → r x xs H Q →
    wpAny (model X.prog X.w) X.A (call (.builtin id) (v :: us)) (EP X pins σ Q) X.xe s
section
variable {X : Cx} {a b : Expr} {ta tb : TE} {pos : Pos}
theorem pe_ix {r : R2} (hr : IxR X r) (ha : PE X a ta) (hb : PE X b tb) (hs : PlainIx b) : PE X (.Subscript a b pos) (tOp r ta tb) := by
  intro pins s σ H Q I h
  exact Subscript_ (binT ha hb I h fun v u s2 x y H2 I2 rx ry q => hr a b pins s2 σ H2 x y v u Q I2 rx ry q (hs _ _))
def rIxL (K : PySem.W.Frag) : R2 := fun x y H Q => ∃ p xs i v, x = .ref p ∧ y = .int i ∧ SqL K H p xs ∧ atI xs i = some v ∧ Q v H
def rIxT (K : PySem.W.Frag) : R2 := fun x y H Q => ∃ p xs i v, x = .ref p ∧ y = .int i ∧ SqT K H p xs ∧ atI xs i = some v ∧ Q v H
def rIxS : R2 := fun x y H Q => ∃ z i c, x = .str z ∧ y = .int i ∧ z.length ≤ sizeLine ∧ atI z.cps.toList i = some c ∧ Q (.str ⟨#[c]⟩) H
theorem ix_list : IxR X (rIxL X.K) := by
  intro value slice pins s σ H x y v u Q I rx ry h hs
  obtain ⟨p, xs, i, z, rfl, rfl, hq, he, q⟩ := h
  cases rx
  obtain ⟨t, rfl⟩ := ry
  obtain ⟨its, r, pl, hz⟩ := I.list hq
  obtain ⟨j, h1, h2, h3, h4, h5⟩ := atI_get he
  obtain ⟨w, ew, rw'⟩ := r.get h2
  have hl := r.length
  have hn := line63
  have fin : EP X pins σ Q w s := ⟨z, H, I, rw', q⟩
  by_cases h0 : 0 ≤ i
  · have hj : i.toNat = j := by
      rw [seqIndex_of h0 h5] at h1
      exact Option.some.inj h1
    exact item_listR pl.isList h0 (by omega) (by rw [hj]; simpa using ew) fin hs
  · have hj : (i + (its.toArray.size : Int)).toNat = j := by
      rw [seqIndex_neg (by omega) h4] at h1
      rw [List.size_toArray, ← hl]
      exact Option.some.inj h1
    exact subscriptTail_builtinR (x := w) pl.isList.typeIs slot_list_getitem.lookup
      (wpAny_getItem_list_neg (Q := fun r s' => r = w ∧ EP X pins σ Q r s') pl.isList (by omega) (by rw [List.size_toArray] <;> omega) (by omega) (by rw [hj]; simpa using ew) ⟨rfl, fin⟩) hs
theorem ix_tup : IxR X (rIxT X.K) := by
  intro value slice pins s σ H x y v u Q I rx ry h hs
  obtain ⟨p, xs, i, z, rfl, rfl, hq, he, q⟩ := h
  cases rx
  obtain ⟨t, rfl⟩ := ry
  obtain ⟨its, r, pl, hz⟩ := I.tuple hq
  obtain ⟨j, h1, h2, h3, h4, h5⟩ := atI_get he
  obtain ⟨w, ew, rw'⟩ := r.get h2
  have hl := r.length
  have hn := line63
  have fin : EP X pins σ Q w s := ⟨z, H, I, rw', q⟩
  exact subscriptTail_builtinR (x := w) pl.typeIs slot_tuple_getitem.lookup
    (getItem_tuple (j := j) (Q := fun r s' => r = w ∧ EP X pins σ Q r s') pl (by omega) (by omega) (by rw [List.size_toArray, ← hl]; exact h1) (by simpa using ew) ⟨rfl, fin⟩) hs
theorem ix_str : IxR X rIxS := by
  intro value slice pins s σ H x y v u Q I rx ry h hs
  obtain ⟨z, i, c, rfl, rfl, hz, he, q⟩ := h
  obtain ⟨t, rfl⟩ := rx
  obtain ⟨t', rfl⟩ := ry
  obtain ⟨j, h1, h2, h3, h4, h5⟩ := atI_get he
  have hl : z.cps.toList.length = z.length := by simp [Str.length]
  rw [hl] at h1 h4 h5
  have hn := line63
  exact tail_any (typeIs_str s z t) slot_str_getitem.lookup (getItem_str (c := c) (by
    have e1 : decide (i < -(2 ^ 63 : Int)) = false := decide_eq_false (by omega)
    have e2 : decide (i ≥ 2 ^ 63) = false := decide_eq_false (by omega)
    rw [e1, e2, Bool.or_false]) (by rw [h1]; simpa using h2) ⟨.str ⟨#[c]⟩, H, I.tok _, ⟨_, rfl⟩, q⟩) hs
theorem Inv.lst {pins : List (Addr × Obj)} {σ : St} {H : Hp} {s : Shared} {p : Addr} {xs : List V} (I : Inv X pins σ H s) (h : H p = some (.lst xs)) :
    ∃ (its : List Value) (n : Nat), Vals xs its ∧ s.heap.get? p = some { cls := .type "list", data := .seq its.toArray n } ∧ xs.length ≤ sizeLine := by
  obtain ⟨z, its, n, r, e⟩ := I.hok p _ h
  exact ⟨its, n, r, e, z⟩
theorem slice_bounds (lo hi : Option Int) (n : Nat) : (sliceBounds lo hi none n).1 = ((HT.sIx n 0 lo : Nat) : Int) ∧ (sliceBounds lo hi none n).2.1 = ((HT.sIx n n hi : Nat) : Int) ∧ (sliceBounds lo hi none n).2.2 = 1 := by
  refine ⟨?_, ?_, rfl⟩
  · cases lo with
    | none => simp [sliceBounds, HT.sIx]
    | some i =>
      simp only [sliceBounds, HT.sIx, Option.getD_none, show (1 : Int) > 0 by decide, if_true]
      by_cases h : i < 0
      · simp only [h, if_true] <;> omega
      · simp only [h, if_false] <;> omega
  · cases hi with
    | none => simp [sliceBounds, HT.sIx]
    | some i =>
      simp only [sliceBounds, HT.sIx, Option.getD_none, show (1 : Int) > 0 by decide, if_true]
      by_cases h : i < 0
      · simp only [h, if_true] <;> omega
      · simp only [h, if_false] <;> omega
theorem slicePick_cut (its : List Value) (lo hi : Option Int) : slicePick its.toArray lo hi none = ((its.drop (HT.sIx its.length 0 lo)).take (HT.sIx its.length its.length hi - HT.sIx its.length 0 lo)).toArray := by
  obtain ⟨h1, h2, h3⟩ := slice_bounds lo hi its.toArray.size
  unfold slicePick
  rw [h1, h2, h3]
  simp only [sliceRange_one, pick_run, List.size_toArray] <;> rfl
def rSlL (K : PySem.W.Frag) : V → Option Int → Option Int → Hp → VK → Prop := fun x lo hi H Q => ∃ a xs, x = .ref a ∧ SqL K H a xs ∧ ∀ p, H p = none → Q (.ref p) (upd H p (.lst (cutV xs lo hi)))
theorem sl_list : SlR X (rSlL X.K) := by
  intro pins s σ H x v vl vu lo hi sl Q I rx hs pl pu h
  obtain ⟨a, xs, rfl, hx, q⟩ := h
  cases rx
  obtain ⟨its, r, ht, hz⟩ := I.list hx
  have hlen := r.length
  refine ⟨"list", _, slot_list_getitem.lookup, ht.isList.typeIs, ?_⟩
  refine wpAny_getItem_list_slice ht.isList hs pl pu .none (by simp) ?_ (by rw [List.size_toArray] <;> omega)
  rw [slicePick_cut, ← hlen]
  refine ⟨.ref s.heap.objs.size, _, I.laid (t' := s.toks) (o := .lst (cutV xs lo hi)) (fun b ob q => Heap.get?_push_of_some _ q) (Nat.le_refl _) ?_, rfl, q _ (I.hok.fresh (Nat.le_refl _))⟩
  exact ⟨Nat.le_trans (cutV_length xs lo hi) hz, _, 0, (r.drop (HT.sIx xs.length 0 lo)).take (HT.sIx xs.length xs.length hi - HT.sIx xs.length 0 lo), Heap.get?_push_size _ rfl⟩
theorem call_len_seq : CallR X (.builtin "len") (fun xs H Q => ∃ p ys, xs = [.ref p] ∧ (SqL X.K H p ys ∨ SqT X.K H p ys) ∧ Q (.int ys.length) H) := by
  intro pins s σ H xs us Q I r h
  obtain ⟨p, ys, rfl, hq, q⟩ := h
  obtain ⟨u, rfl, rx⟩ := vals1 r
  cases rx
  have hn := line63
  rcases hq with hq | hq
  · obtain ⟨its, r', pl, hz⟩ := I.list hq
    have hlen := r'.length
    exact Calls.call_len_list pl.isList (by simp only [List.size_toArray] <;> omega) ⟨.int ys.length, H, I.tok _, ⟨s.toks + 1, by rw [List.size_toArray, hlen]⟩, q⟩
  · obtain ⟨its, r', pl, hz⟩ := I.tuple hq
    have hlen := r'.length
    exact len_tuple pl (by simp only [List.size_toArray] <;> omega) ⟨.int ys.length, H, I.tok _, ⟨s.toks + 1, by rw [List.size_toArray, hlen]⟩, q⟩
theorem call_list_of : CallR X (.type "list") (fun xs H Q => ∃ p ys, xs = [.ref p] ∧ (SqL X.K H p ys ∨ SqT X.K H p ys) ∧ ∀ l, H l = none → Q (.ref l) (upd H l (.lst ys))) := by
  intro pins s σ H xs us Q I r h
  obtain ⟨p, ys, rfl, hq, q⟩ := h
  obtain ⟨u, rfl, rx⟩ := vals1 r
  cases rx
  have fin : ∀ (its : List Value), Vals ys its → ys.length ≤ sizeLine → ∀ (h' : Heap) (c' : Nat), (∀ b o', s.heap.get? b = some o' → h'.get? b = some o') →
      h'.get? s.heap.objs.size = some { cls := .type "list", dict := none, data := .seq its.toArray c', slots := #[] } → EP X pins σ Q (.ref s.heap.objs.size) { s with heap := h' } := fun its r' hz h' c' kp e =>
    ⟨.ref s.heap.objs.size, _, I.laid (t' := s.toks) kp (Nat.le_refl _) (show ObjOk X.prog X.w _ h' _ (.lst ys) from ⟨hz, its, c', r', e⟩), rfl, q _ (I.hok.fresh (Nat.le_refl _))⟩
  rcases hq with hq | hq
  · obtain ⟨its, r', pl, hz⟩ := I.list hq
    have hlen := r'.length
    obtain ⟨o, ho, hc, n, hd⟩ := pl.isList
    exact call_list_seq p (.inl rfl) ho hc hd (fun h' c' kp e => fin its r' hz h' c' kp e) (by simp only [List.size_toArray] <;> omega)
  · obtain ⟨its, r', pl, hz⟩ := I.tuple hq
    have hlen := r'.length
    obtain ⟨o, ho, hc, n, hd⟩ := pl
    exact call_list_seq p (.inr rfl) ho hc hd (fun h' c' kp e => fin its r' hz h' c' kp e) (by simp only [List.size_toArray] <;> omega)
theorem call_tuple_of : CallR X (.type "tuple") (fun xs H Q => ∃ p ys, xs = [.ref p] ∧ ((SqL X.K H p ys ∧ ∀ l, H l = none → Q (.ref l) (upd H l (.tup ys))) ∨ (SqT X.K H p ys ∧ Q (.ref p) H))) := by
  intro pins s σ H xs us Q I r h
  obtain ⟨p, ys, rfl, h⟩ := h
  obtain ⟨u, rfl, rx⟩ := vals1 r
  cases rx
  rcases h with ⟨hq, q⟩ | ⟨hq, q⟩
  · obtain ⟨its, r', pl, hz⟩ := I.list hq
    have hlen := r'.length
    refine call_tuple_list pl.isList (fun h' kp => ?_) (by simp only [List.size_toArray] <;> omega)
    have I1 : Inv X pins σ H { s with heap := h' } := I.kept (t' := s.toks) kp
    have I2 : Inv X pins σ (upd H h'.objs.size (.tup ys)) { s with heap := h'.push { cls := .type "tuple", data := .seq its.toArray } } :=
      I1.laid (t' := s.toks) (fun b o e => Heap.get?_push_of_some _ e) (Nat.le_refl _) (show ObjOk X.prog X.w _ _ _ (.tup ys) from ⟨hz, its, r', IsTup.new _ _⟩)
    exact ⟨.ref h'.objs.size, _, I2, rfl, q _ (I1.hok.fresh (Nat.le_refl _))⟩
  · obtain ⟨its, r', pl, hz⟩ := I.tuple hq
    exact call_tuple_same pl ⟨.ref p, H, I, rfl, q⟩
def tyV (K : PySem.W.Frag) (T : String) (x : V) (H : Hp) : Prop := match x with
  | .str _ => T = "str"
  | .int _ => T = "int"
  | .ref p => (T = "list" ∧ ∃ xs, SqL K H p xs) ∨ (T = "tuple" ∧ ∃ o, K.lookup p = some o ∧ o.cls = .type "tuple" ∧ o.dict = none) ∨
      (T = "dict" ∧ ((∃ kvs, H p = some (.dK kvs)) ∨ ∃ kvs, H p = some (.dT kvs))) ∨ (T = "set" ∧ ∃ S n, H p = some (.set S n))
  | _ => False
theorem tyV_is {pins : List (Addr × Obj)} {σ : St} {H : Hp} {s : Shared} {T : String} {x : V} {v : Value} (I : Inv X pins σ H s) (r : RelV x v) (ty : tyV X.K T x H) :
    s.TypeIs v T ∧ ∀ a, v = .ref a → ∃ ob, s.heap.get? a = some ob ∧ ob.dict = none := by
  cases x with
  | str z =>
    obtain ⟨t, rfl⟩ := r
    cases (show T = "str" from ty)
    exact ⟨typeIs_str s z t, fun _ e => nomatch e⟩
  | int i =>
    obtain ⟨t, rfl⟩ := r
    cases (show T = "int" from ty)
    exact ⟨typeIs_int s i t, fun _ e => nomatch e⟩
  | ref p =>
    cases r
    rcases ty with ⟨rfl, xs, hq⟩ | ⟨rfl, o, hk, hc, hd⟩ | ⟨rfl, hk⟩ | ⟨rfl, S, n, hk⟩
    · obtain ⟨its, _, pl, _⟩ := I.list hq
      refine ⟨pl.isList.typeIs, fun a e => ?_⟩
      cases e
      obtain ⟨o, n, e, c, hd, _⟩ := pl
      exact ⟨o, e, hd⟩
    · refine ⟨⟨o, I.kIn p o hk, hc⟩, fun a e => ?_⟩
      cases e
      exact ⟨o, I.kIn _ o hk, hd⟩
    · have z : ∃ o, s.heap.get? p = some o ∧ o.ExactDict := by
        rcases hk with ⟨kvs, hk⟩ | ⟨kvs, hk⟩
        · obtain ⟨_, _, _, _, o, _, _, e, ex, _⟩ := I.hok p _ hk
          exact ⟨o, e, ex⟩
        · obtain ⟨_, _, _, _, o, _, _, e, ex, _⟩ := I.hok p _ hk
          exact ⟨o, e, ex⟩
      obtain ⟨o, e, ex⟩ := z
      refine ⟨⟨o, e, ex.1⟩, fun a e2 => ?_⟩
      cases e2
      exact ⟨o, e, ex.2.1⟩
    · obtain ⟨o, _, _, _, e, ex, _⟩ := I.hok p _ hk
      refine ⟨⟨o, e, ex.1⟩, fun a e2 => ?_⟩
      cases e2
      exact ⟨o, e, ex.2.1⟩
  | _ => exact False.elim ty
def tBM (K : PySem.W.Frag) (T : String) (r : V → List V → Hp → VK → Prop) (to : TE) (t : TA) : TE := fun σ H Q => to σ H fun x H1 => tyV K T x H1 ∧ t σ H1 fun xs H2 => r x xs H2 Q
variable {o e : Expr} {es : List Expr} {to : TE} {t : TA} {name : Str} {apos cpos : Pos} {T id : String} {r : V → List V → Hp → VK → Prop}
theorem pe_bm (pa : PlainAttrs T) (slot : Slot T name id) (hty : typeOf (.builtin id) = pure (.type "method_descriptor")) (hm : MtR X id r) (ho : PE X o to) (ha : PA X (e :: es) t)
    (hbase : attributeBase o name X.env (eval o X.env) = eval o X.env := by rfl)
    (hfew : ((backTo cpos (starEach (e :: es) X.env)).all (fun x => !x.1) && (backToKw cpos (keywordEach [] X.env)).all (fun x => x.1.isSome)
      && decide ((e :: es).length + ([] : List Keyword).length + (if ([] : List Keyword).isEmpty then 0 else 1) < 30)) = true := by rfl)
    (hline : (apos.endLine == cpos.line) = true := by rfl) (hs : starEach (e :: es) X.env = (false, eval e X.env) :: starEach es X.env := by rfl) (hplain : (backTo cpos (starEach es X.env)).any (·.1) = false := by rfl) :
    PE X (.Call (.Attribute o name apos) (e :: es) [] cpos) (tBM X.K T r to t) := by
  intro pins s σ H Q I h
  refine wpAny_Call_method_late hbase hfew hline rfl (thn (ho pins s σ H _ I h) fun v s1 ⟨x, H1, I1, r1, ty, q1⟩ => ?_)
  obtain ⟨h1, h2⟩ := tyV_is I1 r1 ty
  refine ⟨T, id, pa, slot, hty, h1, h2, ?_⟩
  have hA := ha cpos pins s1 σ H1 _ I1 q1
  rw [hs] at hA ⊢
  refine Calls.callWith_builtin (by show (false || (backTo cpos (starEach es X.env)).any (·.1)) = false; rw [hplain] <;> rfl) (Calls.evalArgs_plain ?_)
  exact thn hA fun us s2 ⟨vs, H2, I2, r2, q2⟩ => hm pins s2 σ H2 x vs v us Q I2 r1 r2 q2
end
end L2
namespace L2
open PySem PySem.Spec PyProof.Rows
def MtM (X : Cx) (id : String) (r : V → List V → Hp → VK → Prop) : Prop :=
  ∀ (pins : List (Addr × Obj)) (s : Shared) (σ : St) (H : Hp) (x : V) (xs : List V) (v : Value) (us : List Value) (Q : VK), Inv X pins σ H s → RelV x v → Vals xs us → r x xs H Q →
    wpAny (model X.prog X.w) X.A (call (.builtin id) (v :: us)) (EP X pins σ Q) X.xe s
theorem Vals.one : ∀ {x : V} {us : List Value}, Vals [x] us → ∃ u, us = [u] ∧ RelV x u
  | _, _, .cons r .nil => ⟨_, rfl, r⟩
theorem Vals.zero : ∀ {us : List Value}, Vals [] us → us = []
  | _, .nil => rfl
theorem Vals.reverse {xs : List V} {us : List Value} (h : Vals xs us) : Vals xs.reverse us.reverse := by
  induction h with
  | nil => exact .nil
  | cons r t ih => rw [List.reverse_cons, List.reverse_cons]; exact Vals.append ih (.cons r .nil)
theorem Vals.rep {xs : List V} {us : List Value} (h : Vals xs us) : ∀ k : Nat, Vals (List.replicate k xs).flatten (List.replicate k us).flatten
  | 0 => .nil
  | k + 1 => by
    rw [List.replicate_succ, List.replicate_succ, List.flatten_cons, List.flatten_cons]
    exact Vals.append h (Vals.rep h k)
section
variable {X : Cx} {pins : List (Addr × Obj)} {σ : St} {H : Hp} {s : Shared} {l b : Addr} {xs ys zs : List V}
theorem Inv.lset {its its' : List Value} {n : Nat} {f : Array Value → Array Value} {t' : Nat} (I : Inv X pins σ H s) (hH : H l = some (.lst xs))
    (e : s.heap.get? l = some { cls := .type "list", data := .seq its.toArray n }) (hf : f its.toArray = its'.toArray) (hv : Vals ys its') (hz : ys.length ≤ sizeLine) :
    Inv X pins σ (upd H l (.lst ys)) { s with heap := s.heap.update l (Obj.mapSeq f), toks := t' } := by
  have q := PySem.IsL.update e f
  rw [hf] at q
  refine I.write (x := l) (e := l) (by rw [hH]; exact trivial) (.inl rfl) (fun b' u hb hu => (Heap.get?_update_other s.heap (Obj.mapSeq f) (Ne.symm hb)).trans hu) ⟨_, q⟩ ?_
  exact ⟨hz, its', _, hv, q⟩
theorem Inv.lnew {its : List Value} {t' : Nat} (I : Inv X pins σ H s) (hv : Vals ys its) (hz : ys.length ≤ sizeLine) :
    Inv X pins σ (upd H s.heap.objs.size (.lst ys)) { s with heap := s.heap.push { cls := .type "list", data := .seq its.toArray }, toks := t' } :=
  I.laid (fun _ _ q => Heap.get?_push_of_some _ q) (Nat.le_refl _) ⟨hz, its, 0, hv, Heap.get?_push_size _ rfl⟩
theorem Inv.fresh (I : Inv X pins σ H s) : H s.heap.objs.size = none := I.hok.fresh (Nat.le_refl _)
theorem Inv.lstM (I : Inv X pins σ H s) (hH : H l = some (.lst xs)) : xs.length ≤ sizeLine ∧ ∃ (its : List Value) (n : Nat), Vals xs its ∧ xs.length = its.length ∧ s.heap.get? l = some { cls := .type "list", data := .seq its.toArray n } := by
  obtain ⟨z, its, n, r, e⟩ := I.hok l _ hH
  exact ⟨z, its, n, r, r.length, e⟩
end
section
variable {X : Cx}
def rAppend : V → List V → Hp → VK → Prop := fun x vs H Q => ∃ l xs y, x = .ref l ∧ vs = [y] ∧ H l = some (.lst xs) ∧ xs.length < sizeLine ∧ Q .non (upd H l (.lst (xs ++ [y])))
theorem mt_append : MtM X "list.append" rAppend := by
  intro pins s σ H x vs v us Q I rx rv h
  obtain ⟨l, xs, y, rfl, rfl, hH, hz, q⟩ := h
  cases rx
  obtain ⟨u, rfl, ru⟩ := rv.one
  obtain ⟨z, its, n, r, hl, e⟩ := I.lstM hH
  refine call_meets F.slot_list_append ⟨_, e, rfl⟩ F.entry_list_append (F.args_list_append_2 _ _) (PySem.list_append l its.toArray n u (by rw [List.size_toArray]; omega)) ⟨e, ?_⟩
  refine ⟨.non, _, I.lset (its' := its ++ [u]) hH e (by simp) (r.append (.cons ru .nil)) ?_, rfl, q⟩
  rw [List.length_append, List.length_singleton]
  omega
end
section
variable {prog : Program} {w : World} {A : Around} {E : Value → Shared → Prop} {s : Shared}
set_option maxRecDepth 100000 in
end
section
variable {X : Cx}
end
end L2
namespace L2
open PySem PySem.Spec PyProof.Rows
section
variable {κ : Type} [DecidableEq κ]
def valV (kvs : List (κ × V)) (k : κ) : Option V := (kvs.find? fun kv => decide (kv.1 = k)).map (·.2)
def putK (kvs : List (κ × V)) (k : κ) (v : V) : List (κ × V) :=
  if (kvs.any fun kv => decide (kv.1 = k)) = true then kvs.map (fun kv => if kv.1 = k then (kv.1, v) else kv) else kvs ++ [(k, v)]
def dropK (kvs : List (κ × V)) (k : κ) : List (κ × V) := kvs.filter fun kv => decide (kv.1 ≠ k)
theorem valV_pos {p : κ × V} {r : List (κ × V)} {k : κ} (e : p.1 = k) : valV (p :: r) k = some p.2 := by simp [valV, List.find?_cons, e]
theorem valV_neg {p : κ × V} {r : List (κ × V)} {k : κ} (e : ¬ p.1 = k) : valV (p :: r) k = valV r k := by simp [valV, List.find?_cons, e]
theorem valV_any (k : κ) : ∀ kvs : List (κ × V), (kvs.any fun kv => decide (kv.1 = k)) = (valV kvs k).isSome
  | [] => rfl
  | p :: r => by
    rw [List.any_cons]
    by_cases e : p.1 = k
    · simp only [valV_pos e, decide_eq_true e, Bool.true_or, Option.isSome_some]
    · rw [valV_neg e, decide_eq_false e, Bool.false_or]; exact valV_any k r
theorem RelO.isSome_eq {o : Option V} {u : Option Value} (r : RelO o u) : o.isSome = u.isSome := by
  cases o with
  | none => cases u with
    | none => rfl
    | some _ => exact (show False from r).elim
  | some _ => cases u with
    | none => exact (show False from r).elim
    | some _ => rfl
theorem RelO.getD {o : Option V} {u : Option Value} {d : V} {d' : Value} (r : RelO o u) (rd : RelV d d') : RelV (o.getD d) (u.getD d') := by
  cases o with
  | none => cases u with
    | none => exact rd
    | some _ => exact (show False from r).elim
  | some _ => cases u with
    | none => exact (show False from r).elim
    | some _ => exact r
theorem KV.val {kvs : List (κ × V)} {vs : List (κ × Value)} (r : KV kvs vs) (k : κ) : RelO (valV kvs k) (valueAt vs k) := by
  unfold KV at r
  induction r with
  | nil => exact True.intro
  | @cons p q ps qs h t ih =>
    obtain ⟨h1, h2⟩ := h
    by_cases e : p.1 = k
    · have e' : q.1 = k := h1.symm.trans e
      have b : valueAt (q :: qs) k = some q.2 := by simp [valueAt, List.find?_cons, e']
      rw [valV_pos e, b]; exact h2
    · have e' : ¬ q.1 = k := fun z => e (h1.trans z)
      have b : valueAt (q :: qs) k = valueAt qs k := by simp [valueAt, List.find?_cons, e']
      rw [valV_neg e, b]; exact ih
theorem KV.any {kvs : List (κ × V)} {vs : List (κ × Value)} (r : KV kvs vs) (k : κ) : (kvs.any fun kv => decide (kv.1 = k)) = vs.any fun kv => decide (kv.1 = k) := by
  unfold KV at r
  induction r with
  | nil => rfl
  | cons h t ih => rw [List.any_cons, List.any_cons, ih, h.1]
theorem KV.repl {kvs : List (κ × V)} {vs : List (κ × Value)} (r : KV kvs vs) (k : κ) {y : V} {u : Value} (ry : RelV y u) :
    KV (kvs.map fun kv => if kv.1 = k then (kv.1, y) else kv) (vs.map fun kv => if kv.1 = k then (kv.1, u) else kv) := by
  unfold KV at r ⊢
  induction r with
  | nil => exact .nil
  | @cons p q ps qs h t ih =>
    rw [List.map_cons, List.map_cons]
    refine .cons ?_ ih
    obtain ⟨h1, h2⟩ := h
    by_cases e : p.1 = k
    · rw [if_pos e, if_pos (h1.symm.trans e)]; exact ⟨h1, ry⟩
    · rw [if_neg e, if_neg (fun z => e (h1.trans z))]; exact ⟨h1, h2⟩
theorem KV.put {kvs : List (κ × V)} {vs : List (κ × Value)} (r : KV kvs vs) (k : κ) {y : V} {u : Value} (ry : RelV y u) : KV (putK kvs k y) (stored vs k u) := by
  unfold putK stored
  rw [r.any k]
  by_cases e : (vs.any fun kv => decide (kv.1 = k)) = true
  · rw [if_pos e, if_pos e]; exact r.repl k ry
  · rw [if_neg e, if_neg e]; exact Paired.snoc r ⟨rfl, ry⟩
theorem KV.drop {kvs : List (κ × V)} {vs : List (κ × Value)} (r : KV kvs vs) (k : κ) : KV (dropK kvs k) (without vs k) := by
  unfold KV at r ⊢
  unfold dropK without
  induction r with
  | nil => exact .nil
  | @cons p q ps qs h t ih =>
    obtain ⟨h1, h2⟩ := h
    rw [List.filter_cons, List.filter_cons]
    by_cases e : p.1 = k
    · have a : ¬ decide (p.1 ≠ k) = true := by simp [e]
      have b : ¬ decide (q.1 ≠ k) = true := by simp [h1.symm.trans e]
      rw [if_neg a, if_neg b]; exact ih
    · have e' : ¬ q.1 = k := fun z => e (h1.trans z)
      have a : decide (p.1 ≠ k) = true := by simp [e]
      have b : decide (q.1 ≠ k) = true := by simp [e']
      rw [if_pos a, if_pos b]; exact .cons ⟨h1, h2⟩ ih
theorem KV.length {kvs : List (κ × V)} {vs : List (κ × Value)} (r : KV kvs vs) : kvs.length = vs.length := Paired.length r
end
abbrev KT (H : Hp) : List (List Key × V) → List (List Key × Addr × Value) → Prop := Paired fun p q => p.1 = q.1 ∧ H q.2.1 = some (.tup (p.1.map kV)) ∧ RelV p.2 q.2.2
theorem KT.val {H : Hp} {kvs : List (List Key × V)} {xs : List (List Key × Addr × Value)} (r : KT H kvs xs) (k : List Key) : RelO (valV kvs k) ((atKey xs k).map (·.2)) := by
  induction r with
  | nil => exact True.intro
  | @cons p q ps qs h t ih =>
    obtain ⟨h1, _, h2⟩ := h
    by_cases e : p.1 = k
    · have e' : q.1 = k := h1.symm.trans e
      have b : atKey (q :: qs) k = some q.2 := by simp [atKey, List.find?_cons, e']
      rw [valV_pos e, b]; exact h2
    · have e' : ¬ q.1 = k := fun z => e (h1.trans z)
      have b : atKey (q :: qs) k = atKey qs k := by simp [atKey, List.find?_cons, e']
      rw [valV_neg e, b]; exact ih
theorem KT.repl {H : Hp} {kvs : List (List Key × V)} {xs : List (List Key × Addr × Value)} (r : KT H kvs xs) (k : List Key) {y : V} {u : Value} (ry : RelV y u) :
    KT H (kvs.map fun kv => if kv.1 = k then (kv.1, y) else kv) (xs.map (putAt k u)) := by
  induction r with
  | nil => exact .nil
  | @cons p q ps qs h t ih =>
    rw [List.map_cons, List.map_cons]
    refine .cons ?_ ih
    obtain ⟨h1, h2, h3⟩ := h
    unfold putAt
    by_cases e : p.1 = k
    · rw [if_pos e, if_pos (h1.symm.trans e)]; exact ⟨h1, h2, ry⟩
    · rw [if_neg e, if_neg (fun z => e (h1.trans z))]; exact ⟨h1, h2, h3⟩
theorem KT.put {H : Hp} {kvs : List (List Key × V)} {xs : List (List Key × Addr × Value)} (r : KT H kvs xs) (k : List Key) {b : Addr} {y : V} {u : Value} (hb : H b = some (.tup (k.map kV))) (ry : RelV y u) :
    KT H (putK kvs k y) (storedH xs k b u) := by
  have e : (kvs.any fun kv => decide (kv.1 = k)) = (atKey xs k).isSome := by
    rw [valV_any, (r.val k).isSome_eq, Option.isSome_map]
  unfold putK storedH
  rw [e]
  by_cases q : (atKey xs k).isSome = true
  · rw [if_pos q, if_pos q]; exact r.repl k ry
  · rw [if_neg q, if_neg q]; exact Paired.snoc r ⟨rfl, hb, ry⟩
theorem KT.keeps {H H' : Hp} {kvs : List (List Key × V)} {xs : List (List Key × Addr × Value)} (r : KT H kvs xs) (ht : ∀ b ys, H b = some (.tup ys) → H' b = some (.tup ys)) : KT H' kvs xs :=
  Paired.mapP r fun _ _ z => ⟨z.1, ht _ _ z.2.1, z.2.2⟩
section
variable {P : Program} {w : World} {H : Hp} {h : Heap} {a : Addr}
end
def DGet (H : Hp) (a : Addr) (y : V) (r : Option V) : Prop :=
  (∃ kvs k, Rd H a (.dK kvs) ∧ y = kV k ∧ r = valV kvs k) ∨ ∃ kvs k b, Rd H a (.dT kvs) ∧ y = .ref b ∧ H b = some (.tup (k.map kV)) ∧ r = valV kvs k
def DPut (H : Hp) (a : Addr) (y v : V) (H' : Hp) : Prop :=
  (∃ kvs k, H a = some (.dK kvs) ∧ y = kV k ∧ kvs.length < sizeLine ∧ H' = upd H a (.dK (putK kvs k v))) ∨
  ∃ kvs k b, H a = some (.dT kvs) ∧ y = .ref b ∧ H b = some (.tup (k.map kV)) ∧ kvs.length < sizeLine ∧ H' = upd H a (.dT (putK kvs k v))
theorem DGet.k {H : Hp} {a : Addr} {kvs : List (Key × V)} {k : Key} (e : H a = some (.dK kvs)) : DGet H a (kV k) (valV kvs k) := .inl ⟨kvs, k, .inl e, rfl, rfl⟩
theorem DGet.t {H : Hp} {a b : Addr} {kvs : List (List Key × V)} {k : List Key} (e : H a = some (.dT kvs)) (eb : H b = some (.tup (k.map kV))) : DGet H a (.ref b) (valV kvs k) := .inr ⟨kvs, k, b, .inl e, rfl, eb, rfl⟩
theorem DPut.k {H : Hp} {a : Addr} {kvs : List (Key × V)} {k : Key} {v : V} (e : H a = some (.dK kvs)) (hl : kvs.length < sizeLine) : DPut H a (kV k) v (upd H a (.dK (putK kvs k v))) := .inl ⟨kvs, k, e, rfl, hl, rfl⟩
theorem DPut.t {H : Hp} {a b : Addr} {kvs : List (List Key × V)} {k : List Key} {v : V} (e : H a = some (.dT kvs)) (eb : H b = some (.tup (k.map kV))) (hl : kvs.length < sizeLine) :
    DPut H a (.ref b) v (upd H a (.dT (putK kvs k v))) := .inr ⟨kvs, k, b, e, rfl, eb, hl, rfl⟩
section
variable {X : Cx} {pins : List (Addr × Obj)} {σ : St} {H : Hp} {s : Shared} {a : Addr} {y v : V} {u r : Value} {o : Option V} {A : Around} {E : Value → Shared → Prop}
theorem Inv.big (I : Inv X pins σ H s) : sysModules < s.heap.objs.size := by
  have h : mainGlobals < s.heap.objs.size := (I.mod.glob.keeps I.bk).lt
  exact Nat.lt_trans (by decide) h
end
section
variable {X : Cx} {pins : List (Addr × Obj)} {σ : St} {H : Hp} {s : Shared} {a : Addr} {kvs : List (Key × V)} {k : Key} {u : Value} {A : Around} {E : Value → Shared → Prop}
end
section
variable {X : Cx} {o i e value : Expr} {pos pos' tpos : Pos} {td ty tv : TE}
end
section
variable {X : Cx} {pos : Pos}
end
def mergeK (kvs more : List (Key × V)) : List (Key × V) := more.foldl (fun acc kv => putK acc kv.1 kv.2) kvs
theorem KV.merge : ∀ {more : List (Key × V)} {rs : List (Key × Value)} {kvs : List (Key × V)} {vs : List (Key × Value)}, KV more rs → KV kvs vs → KV (mergeK kvs more) (merged vs rs) := by
  intro more rs kvs vs r
  unfold KV at r
  induction r generalizing kvs vs with
  | nil => intro q; exact q
  | @cons p q ps qs h t ih =>
    intro r0
    have e : KV (putK kvs p.1 p.2) (stored vs q.1 q.2) := by
      have := r0.put p.1 h.2
      rw [← h.1]; exact this
    exact ih e
section
variable {X : Cx} {pins : List (Addr × Obj)} {σ : St} {H : Hp} {s : Shared} {a : Addr} {y d : V} {u r : Value} {o : Option V} {A : Around} {E : Value → Shared → Prop}
end
section
variable {X : Cx} {o e f : Expr} {apos cpos : Pos} {td ty tx : TE}
end
section
variable {X : Cx} {pins : List (Addr × Obj)} {σ : St} {H : Hp} {s : Shared} {a : Addr} {kvs : List (Key × V)} {A : Around} {E : Value → Shared → Prop}
end
section
variable {X : Cx} {pins : List (Addr × Obj)} {σ : St} {H : Hp} {s : Shared} {a : Addr} {y : V} {u : Value} {A : Around} {E : Value → Shared → Prop}
end
end L2
namespace Att
open PySem PySem.W PySem.Calls PyProof.Rows
theorem ints_of_wellAll {P : Params} {h : Heap} : ∀ (ns : List Int) (vs : List Value), WellAll P h vs (ns.map WData.int) → IntsAre vs ns := by
  intro ns
  induction ns with
  | nil =>
    intro vs w
    rw [List.map_nil] at w
    cases w
    exact .nil
  | cons n ns ih =>
    intro vs w
    rw [List.map_cons] at w
    cases w with
    | cons a b =>
      cases a
      exact .cons _ _ (ih _ b)
theorem script_of {l : OpenLaw} {n : Nat} (hn : l.most = some n) {P : Params} {h : Heap} {args : List WData} {vals : List Value}
    (hpre : l.row.toRowW.claim.pre args = true) (hwl : WellAll P h vals args) :
    ∃ a vs ns, vals = [Value.ref a] ∧ args = [WData.list (ns.map WData.int)] ∧ h.get? a = some { cls := .type "list", data := .seq vs.toArray } ∧ IntsAre vs ns ∧ ns.length ≤ n := by
  have hsh : WShape.hasAll [] args [.list .int] = true := (pre_splitW hpre).1
  have hc : l.pre.holds [] { args := args } = true := (pre_splitW hpre).2
  obtain ⟨d, r, rfl, h1, h2⟩ := hasAllW_cons hsh
  obtain rfl := hasAllW_nil h2
  obtain ⟨xs, rfl, h3⟩ := hasW_list h1
  obtain ⟨ns, rfl⟩ := items_int h3
  have hlen : ns.length ≤ n := by
    unfold OpenLaw.pre at hc
    have h4 : (WTm.not (.lt (.lit (.int (n : Int))) (.len (.arg 0)))).holds [] { args := [.list (ns.map .int)] } = true := by
      have h4 := (holds_andW hc).1
      rw [hn] at h4
      exact h4
    have h5 := condW_of h4 (w_not (w_lt w_lit (w_len_list (w_arg rfl))))
    rw [List.length_map] at h5
    refine Nat.le_of_not_lt fun q => ?_
    have q' : (n : Int) < ((ns.length : Nat) : Int) := by omega
    first
      | (rw [decide_eq_true q'] at h5; exact absurd h5 (by decide))
      | (simp at h5; omega)
  cases hwl with
  | cons w1 w2 =>
    cases w2
    cases w1 with
    | list ho hall => exact ⟨_, _, ns, rfl, rfl, ho, ints_of_wellAll ns _ hall, hlen⟩
theorem post_true (l : OpenLaw) (args : List WData) : l.row.toRowW.claim.post args (.bool true) args = true :=
  postW_of (r := l.row.toRowW) (X := (true == true))
    (show WShape.has [] (.bool true) .bool = true by first | rfl | decide | simp [WShape.has, WShape.arms, WShape.armsAll])
    (show (WTm.eq .res (.lit (.bool true))).value [] { args := args, res := some (.bool true), after := args } = some (.bool (true == true)) from w_eq_bool (w_res rfl) w_lit) rfl
section
variable {prog : Program} {w : World} {A : Around} {E : Value → Shared → Prop} {s : Shared} {K : Frag}
end
end Att
namespace L2
open PySem PySem.Spec PyProof.Rows
theorem vals_ints : ∀ {vs : List Value} {ns : List Int}, IntsAre vs ns → Vals (ns.map V.int) vs
  | _, _, .nil => .nil
  | _, _, .cons n t h => .cons ⟨t, rfl⟩ (vals_ints h)
def Only (H : Hp) : Prop := ∀ b, H b = none ∨ ∃ o xs, H b = some (.frz o (.lst xs))
theorem law_call {P : Program} {w : World} {K : PySem.W.Frag} {mg mb : Str → Option Value} {CX : CXT} {k : Nat} {fa a : Addr} {fd : FuncData} {x : Str} {sp : Sp} {s₁ : Shared} {vs : List Value} {ns : List Int}
    (KX : K.In s₁.heap) (hns : s₁.heap.Ns mainGlobals mg) (hb : s₁.heap.Ns builtinsNs mb) (hbb : ∀ x : Str, x ≠ "__name__" → mb x = bootBuiltins x) (hlim : s₁.heap.NoLimit) (hg : s₁.gens = #[])
    (ha : s₁.heap.get? a = some { cls := .type "list", data := .seq vs.toArray }) (hi : IntsAre vs ns) (hl : ns.length ≤ sizeLine) (hr : Room k callerA)
    (F : ∀ base : Heap, K.In base → base.Ns mainGlobals mg → FnOk P w K mg base CX k fa fd [x] sp) (hbind : ∀ (s : Shared) (u : Value), BindsTo s fd ⟨[u], []⟩ [(x, u)])
    (hsp : ∀ H : Hp, Only H → SqL K H a (ns.map V.int) → sp [.ref a] H (fun v _ => v = .bl true) fun _ _ _ => False)
    (hCX : ∀ H e s', CX [] H s₁ (fun _ _ _ => False) e s' → False) :
    codeAny (model P w) callerA (.call (.ref fa) ⟨[.ref a], []⟩) (fun r s' => r = .ok (.ret (.bool true)) ∧ OldK s₁.heap s'.heap ∧ s'.os = s₁.os ∧ AllBare s'.gens) s₁ := by
  have rv := vals_ints hi
  have lenV := hi.length
  have core : ∀ H : Hp, Only H → SqL K H a (ns.map V.int) → HOk P w H s₁.heap → (∀ b, H b ≠ none → b = a) → (H a ≠ none → K.lookup a = none) →
      codeAny (model P w) callerA (.call (.ref fa) ⟨[.ref a], []⟩) (fun r s' => r = .ok (.ret (.bool true)) ∧ OldK s₁.heap s'.heap ∧ s'.os = s₁.os ∧ AllBare s'.gens) s₁ := by
    intro H hO hS hok hA hK
    have base_of : ∀ {b : Addr} {o : Obj}, s₁.heap.get? b = some o → H b = none → (hidT s₁.heap H).get? b = some o := fun e n => hidT_get e n
    have noA : ∀ {b : Addr} {o : Obj} {es : Array DictEntry} {ep : Nat}, s₁.heap.get? b = some o → o.data = .dict es ep → H b = none := fun {b o es ep} e d => by
      cases q : H b with
      | none => rfl
      | some u =>
        have e' : b = a := hA b (by rw [q]; simp)
        subst e'
        rw [ha] at e; cases e
        have d' : Data.seq vs.toArray _ = Data.dict es ep := d
        cases d'
    have nsK : ∀ {b : Addr} {m : Str → Option Value}, s₁.heap.Ns b m → (hidT s₁.heap H).Ns b m := fun {b m} ⟨o, es, ep, e, d, r⟩ => ⟨o, es, ep, base_of e (noA e d), d, r⟩
    have hKb : K.In (hidT s₁.heap H) := fun b o e => base_of (KX b o e) (by
      cases q : H b with
      | none => rfl
      | some u =>
        have e' : b = a := hA b (by rw [q]; simp)
        subst e'
        rw [hK (by rw [q]; simp)] at e; cases e)
    have hM : Mod K mg (hidT s₁.heap H) := ⟨hKb, nsK hns, ⟨mb, nsK hb, hbb⟩, let ⟨mc, h1, h2⟩ := hlim; ⟨mc, nsK h1, h2⟩⟩
    have e0 : Env0 P w K mg (hidT s₁.heap H) callerA [] s₁ H := ⟨rfl, hM, fun b o e => of_hidT e, Nat.le_of_eq (hidT_size _ _), trivial, fun b hb => absurd (show b ∈ ([] : List Addr) from hb) (by simp), hok, .of_eq hg⟩
    refine codeAny_mono ((F _ hKb (nsK hns)).run callerA [] s₁ H ⟨[.ref a], []⟩ [.ref a] [.ref a] _ _ hr e0 (hbind s₁ (.ref a)) (.cons rfl .nil) (hsp H hO hS)) fun r s' h => ?_
    cases r with
    | error e => exact (hCX H e s' h).elim
    | ok fl =>
      cases fl with
      | next => exact False.elim h
      | brk => exact False.elim h
      | cont => exact False.elim h
      | ret u =>
        obtain ⟨v, H', os, bare, un, hok', r', q⟩ := h
        have q' : v = .bl true := q
        subst q'
        obtain rfl : u = Value.bool true := r'
        refine ⟨rfl, OldK.of_keep fun b o e => ?_, os, bare⟩
        cases q : H b with
        | none => exact un.keep b o e q (by intro z; exact absurd (show b ∈ ([] : List Addr) from z) (by simp)) (by simp)
        | some u =>
          rcases hO b with z | ⟨ob, xs, z⟩
          · rw [q] at z; cases z
          · have z2 := un.frzs b ob _ z
            obtain ⟨e1, _⟩ := hok b _ z
            obtain ⟨e2, _⟩ := hok' b _ z2
            rw [e] at e1; cases e1
            exact e2
  cases hk : K.lookup a with
  | some o =>
    have e := KX a o hk
    rw [ha] at e
    cases e
    refine core (fun _ => none) (fun _ => .inl rfl) (.inr ⟨_, vs.toArray, _, hk, rfl, rfl, rfl, by rw [List.size_toArray, lenV]; exact hl, by simpa using rv⟩) (fun b u z => by have z' : (none : Option HO) = some u := z; cases z') (fun b z => absurd rfl z) fun z => absurd rfl z
  | none =>
    refine core (fun b => if b = a then some (.frz { cls := .type "list", data := .seq vs.toArray } (.lst (ns.map V.int))) else none) (fun b => ?_) (.inl (.inr ⟨{ cls := .type "list", data := .seq vs.toArray }, if_pos rfl⟩)) (fun b u z => ?_) (fun b z => ?_) fun _ => hk
    · by_cases hb : b = a
      · exact .inr ⟨_, _, if_pos hb⟩
      · exact .inl (if_neg hb)
    · by_cases hb : b = a
      · have z' := (if_pos hb).symm.trans z
        cases z'
        subst hb
        exact ⟨ha, by rw [List.length_map]; exact hl, vs, _, rv, ha⟩
      · have z' := (if_neg hb).symm.trans z
        cases z'
    · by_cases hb : b = a
      · exact hb
      · exact absurd (if_neg hb) z
end L2
namespace L2
open PySem PySem.Spec PyProof.Rows
end L2
namespace L2
open PySem PySem.Spec PyProof.Rows
def inClass (s : Stmt) (j : Nat) : Stmt := match s with
  | .ClassDef _ _ _ body _ _ _ _ _ _ _ => body.getD j (.Pass ⟨0, 0, 0, 0⟩)
  | _ => .Pass ⟨0, 0, 0, 0⟩
def defArgs (s : Stmt) : Arguments := match s with
  | .FunctionDef _ a _ _ _ _ _ _ _ _ => a
  | _ => { posonlyargs := [], args := [], vararg := none, kwonlyargs := [], kw_defaults := [], kwarg := none, defaults := [] }
def defBody (s : Stmt) : List Stmt := match s with
  | .FunctionDef _ _ b _ _ _ _ _ _ _ => b
  | _ => []
def defScope (s : Stmt) : Scope := match s with
  | .FunctionDef _ _ _ _ _ _ sc _ _ _ => sc
  | _ => { kind := .function, names := [], isGenerator := false, isCoroutine := false }
abbrev CX0 : CXT := fun _ _ _ _ _ _ => False
abbrev E0 : XK := fun _ _ _ => False
theorem pass0 {X : Cx} : Passes CX0 X E0 := fun _ _ _ _ _ _ _ h => h.elim
structure Fun (K : PySem.W.Frag) (x qual : Str) (st : Stmt) (f : Addr) (fd : FuncData) : Prop where
  ex : ∃ (oc : Value) (od : Option Addr) (kV doc pm : Value) (an : Option Addr) (cdv ct : Value) (osl : Array (Option Value)),
    fd = PySem.W.fnOf x qual (defArgs st) (defBody st) (defScope st) .none kV doc pm an cdv ct ∧ K.lookup f = some ⟨oc, od, .func fd, osl⟩ ∧ PySem.W.codeIn K cdv qual = true
  kp : PySem.W.keepIn K (.ref f) = true
section
variable {P : Program} {w : World} {K : PySem.W.Frag} {mg : Str → Option Value} {base : Heap}
theorem Fun.ok {x qual : Str} {st : Stmt} {f : Addr} {fd : FuncData} {N ps : List Str} {k : Nat} {sp : Sp} (F : Fun K x qual st f fd) (S : FnScope N ps (defScope st)) (len : ∀ vs H Q E, sp vs H Q E → vs.length = ps.length)
    (hbody : ∀ (cdv : Value) (A : Around) (outer : List Env) (s : Shared) (H : Hp) (vs : List V) (Q : VK) (E : XK), Room k (A.deeper (envOfC qual (defScope st) s.heap.objs.size f cdv)) → sp vs H Q E →
      ∃ t, PSs (cxOf CX0 P w K mg base N qual (defScope st) f cdv A outer s H E).nox (defBody st) t ∧ t { nx := fun _ H' => Q .non H', rt := Q } (start N vs) H) : FnOk P w K mg base CX0 (k + 1) f fd ps sp := by
  obtain ⟨oc, od, kV, doc, pm, an, cdv, ct, osl, rfl, lk, hcd⟩ := F.ex
  refine fn_of lk hcd S len fun A outer s H vs Q E hr hsp => ?_
  obtain ⟨t, h, q⟩ := hbody cdv A outer s H vs Q E hr hsp
  exact ⟨t, h.nox, q⟩
theorem Fun.binds {x qual : Str} {st : Stmt} {f : Addr} {fd : FuncData} {ps : List Str} (F : Fun K x qual st f fd)
    (h : ∀ (kV doc pm : Value) (an : Option Addr) (cdv ct : Value) (us : List Value), us.length = ps.length → bindArgs (PySem.W.fnOf x qual (defArgs st) (defBody st) (defScope st) .none kV doc pm an cdv ct) ⟨us, []⟩ = pure (ps.zip us)) : Binds K fd ps [] := by
  obtain ⟨oc, od, kV, doc, pm, an, cdv, ct, osl, rfl, lk, hcd⟩ := F.ex
  exact .all (h kV doc pm an cdv ct)
theorem fun_mk {x qual : Str} {st : Stmt} {f : Addr} {oc : Value} {od an : Option Addr} {osl : Array (Option Value)} {kV doc pm cdv ct : Value} (l : K.lookup f = some ⟨oc, od, .func (PySem.W.fnOf x qual (defArgs st) (defBody st) (defScope st) .none kV doc pm an cdv ct), osl⟩)
    (c : PySem.W.codeIn K cdv qual = true) (k : PySem.W.keepIn K (.ref f) = true) : Fun K x qual st f (PySem.W.fnOf x qual (defArgs st) (defBody st) (defScope st) .none kV doc pm an cdv ct) := ⟨⟨oc, od, kV, doc, pm, an, cdv, ct, osl, rfl, l, c⟩, k⟩
end
section
variable {X : Cx}
end
theorem iteF {A B : Prop} (h : B) : if false = true then A else B := by
  rw [if_neg Bool.false_ne_true]
  exact h
theorem iteT {A B : Prop} (h : A) : if true = true then A else B := by
  rw [if_pos rfl]
  exact h
theorem ite2 {c A B : Prop} [Decidable c] (h1 : c → A) (h2 : ¬ c → B) : if c then A else B := by
  by_cases h : c
  · rw [if_pos h]
    exact h1 h
  · rw [if_neg h]
    exact h2 h
theorem iteNS {c A B : Prop} [Decidable c] (hc : c) (h : B) : if (!decide c) = true then A else B := by
  rw [decide_eq_true hc]
  exact iteF h
def Same (H H' : Hp) : Prop := ∀ b o, H b = some o → H' b = some o
theorem Same.refl (H : Hp) : Same H H := fun _ _ h => h
theorem Same.trans {H H1 H2 : Hp} (a : Same H H1) (b : Same H1 H2) : Same H H2 := fun c o h => b c o (a c o h)
theorem Same.free {H H' : Hp} (e : Same H H') {l : Addr} (h : H' l = Option.none) : H l = Option.none := by
  cases q : H l with
  | none => rfl
  | some o =>
    rw [e l o q] at h
    cases h
theorem Same.seq {K : PySem.W.Frag} {H H' : Hp} {a : Addr} {xs : List V} (e : Same H H') (h : SqL K H a xs) : SqL K H' a xs := by
  rcases h with (h | ⟨o, h⟩) | h
  · exact .inl (.inl (e _ _ h))
  · exact .inl (.inr ⟨o, e _ _ h⟩)
  · exact .inr h
end L2
namespace L2
open PySem PySem.Spec PyProof.Rows
section
variable {X : Cx}
end
section
variable {κ : Type} [DecidableEq κ]
end
end L2
namespace L2
open PySem PySem.Spec PyProof.Rows
def freeCells (cells : List (Str × Addr)) : List (Str × NameKind) → List (Str × Addr) → List (Str × Addr)
  | [], acc => acc
  | (n, k) :: r, acc => freeCells cells r (if k == .free then (match cells.lookup n with | some c => (n, c) :: acc | none => acc) else acc)
theorem closureFor_eq {scope : Scope} {env : Env} (h : ∀ y ∈ scope.names, y.2 = .free → ∃ c, env.cells.lookup y.1 = some c) : closureFor scope env = pure (freeCells env.cells scope.names []) := by
  simp only [closureFor]
  generalize ([] : List (Str × Addr)) = acc
  revert h
  generalize scope.names = l
  intro h
  induction l generalizing acc with
  | nil => simp [freeCells]
  | cons x r ih =>
    obtain ⟨n, k⟩ := x
    rw [List.forIn_cons]
    have hr : ∀ y ∈ r, y.2 = NameKind.free → ∃ c, env.cells.lookup y.1 = some c := fun y hy => h y (List.mem_cons_of_mem _ hy)
    by_cases hk : k = .free
    · subst hk
      obtain ⟨c, e⟩ := h (n, .free) List.mem_cons_self rfl
      have e' : List.lookup n env.cells = some c := e
      have e2 : cellOf env n = pure c := by unfold cellOf; rw [e']
      simp only [beq_self_eq_true, if_true, e2, pure_bind, freeCells, e']
      exact ih _ hr
    · have hb : (k == NameKind.free) = false := by simpa using hk
      simp only [hb, Bool.false_eq_true, if_false, pure_bind, freeCells]
      exact ih _ hr
theorem freeCells_mem (cells : List (Str × Addr)) : ∀ (l : List (Str × NameKind)) (acc : List (Str × Addr)) (p : Str × Addr), p ∈ freeCells cells l acc → p ∈ acc ∨ (p.1, NameKind.free) ∈ l ∧ cells.lookup p.1 = some p.2
  | [], _, _, h => .inl h
  | (n, k) :: r, acc, p, h => by
    have h' : p ∈ freeCells cells r (if k == .free then (match cells.lookup n with | some c => (n, c) :: acc | none => acc) else acc) := h
    rcases freeCells_mem cells r _ p h' with q | ⟨q1, q2⟩
    · by_cases hk : k = .free
      · subst hk
        simp only [beq_self_eq_true, if_true] at q
        cases e : cells.lookup n with
        | none => rw [e] at q; exact .inl q
        | some c =>
          rw [e] at q
          rcases List.mem_cons.mp q with rfl | q
          · exact .inr ⟨List.mem_cons_self, e⟩
          · exact .inl q
      · have hb : (k == NameKind.free) = false := by simpa using hk
        simp only [hb, Bool.false_eq_true, if_false] at q
        exact .inl q
    · exact .inr ⟨List.mem_cons_of_mem _ q1, q2⟩
theorem lookup_some_of_mem {α β : Type} [BEq α] [LawfulBEq α] {x : α} : ∀ {l : List (α × β)} {c : β}, (x, c) ∈ l → ∃ d, l.lookup x = some d
  | (a, b) :: r, c, h => by
    by_cases e : x = a
    · subst e; exact ⟨b, by simp⟩
    · rcases List.mem_cons.mp h with q | q
      · cases q; exact absurd rfl e
      · obtain ⟨d, hd⟩ := lookup_some_of_mem q
        refine ⟨d, ?_⟩
        have e' : (x == a) = false := by simpa using e
        simp only [List.lookup_cons, e']
        exact hd
theorem freeCells_has (cells : List (Str × Addr)) (x : Str) (c : Addr) (e : cells.lookup x = some c) : ∀ (l : List (Str × NameKind)) (acc : List (Str × Addr)), ((x, NameKind.free) ∈ l ∨ (x, c) ∈ acc) → (x, c) ∈ freeCells cells l acc
  | [], _, h => h.elim (fun q => nomatch q) id
  | (n, k) :: r, acc, h => by
    refine freeCells_has cells x c e r _ ?_
    rcases h with h | h
    · rcases List.mem_cons.mp h with q | q
      · cases q
        refine .inr ?_
        rw [e]
        exact List.mem_cons_self
      · exact .inl q
    · refine .inr ?_
      by_cases hk : (k == NameKind.free) = true
      · rw [if_pos hk]
        cases cells.lookup n with
        | none => exact h
        | some _ => exact List.mem_cons_of_mem _ h
      · rw [if_neg hk]; exact h
theorem freeCells_look {cells : List (Str × Addr)} {names : List (Str × NameKind)} {x : Str} {c : Addr} (h : (freeCells cells names []).lookup x = some c) : cells.lookup x = some c := by
  have hm := PySem.mem_of_lookup h
  rcases freeCells_mem cells names [] _ hm with q | ⟨_, q⟩
  · exact nomatch q
  · exact q
theorem freeCells_ex {cells : List (Str × Addr)} {names : List (Str × NameKind)} {x : Str} {c : Addr} (hm : (x, NameKind.free) ∈ names) (e : cells.lookup x = some c) : (freeCells cells names []).lookup x = some c := by
  obtain ⟨d, hd⟩ := lookup_some_of_mem (freeCells_has cells x c e names [] (.inl hm))
  have := freeCells_look hd
  rw [e] at this
  rw [hd, this]
theorem relabel_look {scope : Scope} {env : Env} {x : Str} {k : NameKind} (h : (relabel scope env).names.lookup x = some k) : ∃ k', scope.names.lookup x = some k' ∧ (k' = k ∨ (k' = .free ∧ k = .cell)) := by
  have go : ∀ (l : List (Str × NameKind)), (l.map fun (n, k) => if (k == NameKind.free && env.scope.kind == .function && env.kindOf n == some .cell) then (n, NameKind.cell) else (n, k)).lookup x = some k → ∃ k', l.lookup x = some k' ∧ (k' = k ∨ (k' = .free ∧ k = .cell)) := by
    intro l
    induction l with
    | nil => intro h; simp at h
    | cons p r ih =>
      obtain ⟨n, kk⟩ := p
      intro h
      simp only [List.map_cons] at h
      by_cases hx : x = n
      · subst hx
        by_cases hc : (kk == NameKind.free && env.scope.kind == .function && env.kindOf x == some .cell) = true
        · rw [if_pos hc] at h
          simp at h
          have : kk = .free := by
            simp only [Bool.and_eq_true, beq_iff_eq] at hc
            exact hc.1.1
          exact ⟨kk, by simp, .inr ⟨this, h.symm⟩⟩
        · rw [if_neg hc] at h
          simp at h
          exact ⟨kk, by simp, .inl h⟩
      · have e' : (x == n) = false := by simpa using hx
        have : ∀ b : Bool, (if b = true then (n, NameKind.cell) else (n, kk)).1 = n := fun b => by cases b <;> rfl
        rw [List.lookup_cons, this, e'] at h
        obtain ⟨k', h1, h2⟩ := ih h
        exact ⟨k', by rw [List.lookup_cons, e']; exact h1, h2⟩
  exact go scope.names h
theorem relabel_free {scope : Scope} {env : Env} {x : Str} (h : scope.names.lookup x = some .free) : (relabel scope env).names.lookup x = some .cell ∨ (relabel scope env).names.lookup x = some .free := by
  have go : ∀ (l : List (Str × NameKind)), l.lookup x = some .free → (l.map fun (n, k) => if (k == NameKind.free && env.scope.kind == .function && env.kindOf n == some .cell) then (n, NameKind.cell) else (n, k)).lookup x = some .cell ∨ (l.map fun (n, k) => if (k == NameKind.free && env.scope.kind == .function && env.kindOf n == some .cell) then (n, NameKind.cell) else (n, k)).lookup x = some .free := by
    intro l
    induction l with
    | nil => intro h; simp at h
    | cons p r ih =>
      obtain ⟨n, kk⟩ := p
      intro h
      simp only [List.map_cons]
      by_cases hx : x = n
      · subst hx
        simp at h
        by_cases hc : (kk == NameKind.free && env.scope.kind == .function && env.kindOf x == some .cell) = true
        · rw [if_pos hc]; simp
        · rw [if_neg hc]; simp [h]
      · have e' : (x == n) = false := by simpa using hx
        have t : ∀ b : Bool, (if b = true then (n, NameKind.cell) else (n, kk)).1 = n := fun b => by cases b <;> rfl
        rw [List.lookup_cons, e'] at h
        rw [List.lookup_cons, t, e']
        exact ih h
  exact go scope.names h
section
variable {prog : Program} {w : World} {A : Around} {R : Result → Shared → Prop} {s : Shared}
theorem compLoop_go {elt target iter : Expr} {ifs : List Expr} {scope : Scope} {pos : Pos} {it acc : Value} {env : Env} (I : Nat → Shared → Prop)
    (turn : ∀ n s, I n s → wpAny (model prog w) A (pyNext it) (fun r s₁ => match r with
      | none => R (.ok .next) s₁
      | some v => wpAny (model prog w) A (letOwnedTupleGo target it v) (fun _ s₁' => wpAny (model prog w) A (assign target env v) (fun _ s₂ =>
          wpAny (model prog w) A (forIn ifs true fun c r => if r = true then do let ok ← isTrue c env (eval c env); pure (ForInStep.yield ok) else pure (ForInStep.yield r)) (fun ok s₃ =>
            if ok = true then wpAny (model prog w) A (eval elt env) (fun x s₄ =>
              wpAny (model prog w) A (call (.builtin "list.append") [acc, x]) (fun _ s₅ => ∃ m, m < n ∧ I m s₅) (fun _ _ => False) s₄) (fun _ _ => False) s₃
            else ∃ m, m < n ∧ I m s₃) (fun _ _ => False) s₂) (fun _ _ => False) s₁') (fun _ _ => False) s₁) (fun _ _ => False) s)
    (n : Nat) (h : I n s) :
    codeAny (model prog w) A (.compLoop (.ListComp elt [⟨target, iter, ifs, 0⟩] scope pos) 0 it acc env) R s := by
  refine codeAny_loop rfl I (fun n s hI => ?_) n h
  show wpAny _ A ((compTurn (.ListComp elt [⟨target, iter, ifs, 0⟩] scope pos) 0 it acc env).onRaise (fun x => do noteFrame x env; theTreesLotGoes x)) _ _ s
  refine wpAny_noted ?_
  rw [compTurn_list]
  refine wpAny_bind (wpAny_standAt (wpAny_bind (wpAny_mono (turn n s hI) (fun r s₁ h₁ => ?_) fun _ _ h' => h'.elim)))
  cases r with
  | none => exact wpAny_pure h₁
  | some v =>
    refine wpAny_bind (wpAny_mono h₁ (fun _ s₁' h₁' => ?_) fun _ _ h' => h'.elim)
    refine wpAny_bind (wpAny_mono h₁' (fun _ s₂ h₂ => wpAny_bind (wpAny_mono h₂ (fun ok s₃ h₃ => ?_) fun _ _ h' => h'.elim)) fun _ _ h' => h'.elim)
    cases ok with
    | false => exact wpAny_pure ⟨rfl, h₃⟩
    | true =>
      exact wpAny_bind (wpAny_bind (wpAny_mono h₃ (fun x s₄ h₄ => wpAny_bind (wpAny_mono h₄ (fun _ s₅ h₅ => wpAny_pure (wpAny_pure ⟨rfl, h₅⟩)) fun _ _ h' => h'.elim)) fun _ _ h' => h'.elim))
end
structure CompSc (esc : Scope) (N : List Str) (scope : Scope) (k : Nat) (Nc : List Str) (js : List Nat) : Prop where
  kind : scope.kind = .function
  cell : ∀ y ∈ scope.names, y.2 ≠ .cell
  names : ∀ y ∈ scope.names, y.2 = .local → scope.names.lookup y.1 = some .local
  free : ∀ y ∈ scope.names, y.2 = .free → esc.names.lookup y.1 = some .cell ∨ esc.names.lookup y.1 = some .free
  len : Nc.length = k + js.length
  out : ∀ p ∈ (Nc.drop k).zip js, N[p.2]? = some p.1 ∧ scope.names.lookup p.1 = some .free
def compSt (k : Nat) (js : List Nat) (σ : St) : St := List.replicate k none ++ js.map fun j => (σ[j]?).join
def Cx.comp (X : Cx) (pins : List (Addr × Obj)) (Nc : List Str) (scope : Scope) (fp : List Addr) (s : Shared) (H : Hp) (C : Addr) : Cx :=
  { X with N := Nc, s₀ := s, H₀ := H, env := compEnvC scope (freeCells X.env.cells scope.names []) C X.env, outer := X.stack, stack := X.stack, ex := fp, fn := fun _ => false, pn := X.pn ++ pins, xe := fun _ _ => False }
section
variable {X : Cx} {pins : List (Addr × Obj)} {σ : St} {H : Hp} {s : Shared} {scope : Scope} {Nc : List Str} {js : List Nat} {k : Nat}
theorem CompSc.some (S : CompSc X.env.scope X.N scope k Nc js) (I : Inv X pins σ H s) : ∀ y ∈ scope.names, y.2 = .free → ∃ c, X.env.cells.lookup y.1 = some c := fun y hy hk => I.ok.has y.1 (S.free y hy hk)
theorem CompSc.clos (S : CompSc X.env.scope X.N scope k Nc js) (I : Inv X pins σ H s) : closureFor scope X.env = pure (freeCells X.env.cells scope.names []) := closureFor_eq (S.some I)
theorem comp_ok (S : CompSc X.env.scope X.N scope k Nc js) (I : Inv X pins σ H s) {fp : List Addr} (hf : ∀ b ∈ fp, FpOk X pins H b) (hlt : ∀ b ∈ fp, b < s.heap.objs.size) {C : Addr} (hC : s.heap.objs.size ≤ C) : (X.comp pins Nc scope fp s H C).Ok := by
  have ltC : ∀ b, b < s.heap.objs.size → b ≠ C := fun b hb => Nat.ne_of_lt (Nat.lt_of_lt_of_le hb hC)
  have notstk : ∀ b ∈ fp, b ∉ frs X.stack := fun b hb z => by
    rcases List.mem_cons.mp (I.stkSub b z) with e | e
    · exact (hf b hb).2.1 e
    · exact (hf b hb).2.2.1 e
  refine ⟨I.ok.mod, S.kind, I.ok.glob, I.ok.blt, hC, fun x y c h1 h2 => I.ok.inj x y c (freeCells_look h1) (freeCells_look h2), fun x hx => ?_, fun x c h => ?_, I.ok.hd, I.ok.frames, .inl rfl, fun b hb => ⟨?_, fun x c e => (hf b hb).2.2.2.2.1 x c (freeCells_look e)⟩,
    fun b o e => ⟨(I.bs b o e).1, (I.bs b o e).2⟩, Nat.le_trans I.ok.bsz I.sz, fun b o e hb => ?_, notstk, I.stack, I.stkFree⟩
  · have hx' : (relabel scope X.env).names.lookup x = some .cell ∨ (relabel scope X.env).names.lookup x = some .free := hx
    have hfree : (x, NameKind.free) ∈ scope.names := by
      rcases hx' with h | h
      · obtain ⟨k', h1, h2⟩ := relabel_look h
        rcases h2 with rfl | ⟨rfl, _⟩
        · exact absurd rfl (S.cell _ (PySem.mem_of_lookup h1))
        · exact PySem.mem_of_lookup h1
      · obtain ⟨k', h1, h2⟩ := relabel_look h
        rcases h2 with rfl | ⟨rfl, _⟩
        · exact PySem.mem_of_lookup h1
        · exact PySem.mem_of_lookup h1
    obtain ⟨c, hc⟩ := S.some I (x, .free) hfree rfl
    exact ⟨c, freeCells_ex hfree hc⟩
  · exact absurd (show false = true from h) Bool.false_ne_true
  · exact ltC b (hlt b hb)
  · rcases (hf b hb).2.2.2.1 with q | q
    · exact I.ok.noex b o e q
    · exact absurd (Nat.lt_of_lt_of_le (Heap.lt_size e) (Nat.le_trans I.ok.bsz q)) (Nat.lt_irrefl _)
theorem comp_inv (S : CompSc X.env.scope X.N scope k Nc js) (I : Inv X pins σ H s) {fp : List Addr} (hf : ∀ b ∈ fp, FpOk X pins H b) (hlt : ∀ b ∈ fp, b < s.heap.objs.size) {C : Addr} (hC : s.heap.objs.size ≤ C) {s1 : Shared}
    (os : s1.os = s.os) (bare : AllBare s1.gens) (kept : ∀ b o, s.heap.get? b = some o → s1.heap.get? b = some o) (ns : ∃ m, s1.heap.Ns C m) : Inv (X.comp pins Nc scope fp s H C) [] (compSt k js σ) H s1 := by
  have ltC : ∀ b, b < s.heap.objs.size → b ≠ C := fun b hb => Nat.ne_of_lt (Nat.lt_of_lt_of_le hb hC)
  refine ⟨comp_ok S I hf hlt hC, os, bare, Un.kept kept, ?_, fun x c e => ?_, I.hok.fresh hC, fun x c e => I.freeC x c (freeCells_look e), fun p hp => ?_, I.hok.kept kept, ?_⟩
  · obtain ⟨mc, hns⟩ := ns
    refine ⟨mc, hns, fun i x v e1 e2 e3 => ?_⟩
    have e1' : Nc[i]? = some x := e1
    by_cases hi : i < k
    · unfold compSt at e2
      rw [List.getElem?_append_left (by simpa using hi), List.getElem?_replicate, if_pos hi] at e2
      cases e2
    · obtain ⟨i', rfl⟩ : ∃ i', i = k + i' := ⟨i - k, by omega⟩
      unfold compSt at e2
      rw [List.getElem?_append_right (by simp), List.length_replicate, Nat.add_sub_cancel_left, List.getElem?_map] at e2
      cases ej : js[i']? with
      | none => rw [ej] at e2; cases e2
      | some j =>
        rw [ej] at e2
        have e2' : (σ[j]?).join = some v := Option.some.inj e2
        have e4 : σ[j]? = some (some v) := by
          cases q : σ[j]? with
          | none => rw [q] at e2'; cases e2'
          | some z => rw [q] at e2'; cases z with
            | none => cases e2'
            | some z => cases e2'; rfl
        have hm : (x, j) ∈ (Nc.drop k).zip js := List.mem_of_getElem? (i := i') (List.getElem?_zip_eq_some.mpr ⟨by rw [List.getElem?_drop]; exact e1', ej⟩)
        obtain ⟨hN, hfr⟩ := S.out _ hm
        have hfm : (x, NameKind.free) ∈ scope.names := PySem.mem_of_lookup hfr
        have hk := S.free _ hfm rfl
        obtain ⟨m, hn, hl⟩ := I.loc
        obtain ⟨u, r, l⟩ := hl j x v hN e4 (.inr hk)
        refine ⟨u, r, ?_⟩
        rcases l with ⟨hk', _⟩ | ⟨_, c, hc, o, ho, hd⟩
        · have hk'' : X.env.scope.names.lookup x = some .local := hk'
          rcases hk with hk | hk
          · rw [hk] at hk''; cases hk''
          · rw [hk] at hk''; cases hk''
        · exact .inr ⟨relabel_free hfr, c, freeCells_ex hfm hc, o, kept _ _ ho, hd⟩
  · obtain ⟨v, o, ho, hd⟩ := I.cell x c (freeCells_look e)
    exact ⟨v, o, kept _ _ ho, hd⟩
  · have hp' : p ∈ X.pn ++ pins := by
      rcases List.mem_append.mp hp with z | z
      · exact z
      · exact nomatch z
    obtain ⟨e, n, ne, nf, d⟩ := I.pin p hp'
    refine ⟨kept _ _ e, n, ltC _ (Heap.lt_size e), fun z => ?_, d⟩
    rcases List.mem_cons.mp (I.stkSub _ z) with q | q
    · exact ne q
    · exact nf q
  · show (compSt k js σ).length = Nc.length
    unfold compSt
    rw [List.length_append, List.length_replicate, List.length_map, S.len]
theorem comp_back (I : Inv X pins σ H s) {fp : List Addr} (hf : ∀ b ∈ fp, FpOk X pins H b) {C D : Addr} (hDs : s.heap.objs.size ≤ D) {pins' : List (Addr × Obj)} {σ' : St} {H' : Hp} {s' : Shared} {ys : List V} {its : List Value} {n : Nat}
    (J : Inv (X.comp pins Nc scope fp s H C) pins' σ' H' s') (hD : H' D = none) (hz : ys.length ≤ sizeLine) (hv : Vals ys its) (ho : s'.heap.get? D = some { cls := .type "list", data := .seq its.toArray n }) :
    Inv X pins σ (upd H' D (.lst ys)) s' := by
  have B : Un (frs X.stack) fp H H' s.heap s'.heap := J.base
  have neD : ∀ b o, s.heap.get? b = some o → b ≠ D := fun b o e => Nat.ne_of_lt (Nat.lt_of_lt_of_le (Heap.lt_size e) hDs)
  refine I.call' (ch := fp) J.os ⟨B.keep, B.slot, fun b o e n hx => ?_, B.there, fun b xs e => ?_, fun b o u e => ?_, fun b ps e => ?_⟩ (fun b o e => ?_) J.bare fun b hb => ⟨(hf b hb).2.2.2.1, (hf b hb).2.1, (hf b hb).2.2.2.2.1, (hf b hb).2.2.2.2.2⟩
  · rw [upd_ne (neD b o e)]; exact B.free b o e n hx
  · rw [upd_ne (ne_of_none (B.tups b xs e) hD)]; exact B.tups b xs e
  · rw [upd_ne (ne_of_none (B.frzs b o u e) hD)]; exact B.frzs b o u e
  · obtain ⟨more, q⟩ := B.tbls b ps e
    exact ⟨more, by rw [upd_ne (ne_of_none q hD)]; exact q⟩
  · by_cases hb : b = D
    · subst hb
      rw [upd_same] at e
      cases e
      exact ⟨hz, its, n, hv, ho⟩
    · rw [upd_ne hb] at e
      exact (J.hok b o e).stay (fun c v _ q => q) (fun c q => by rw [upd_ne (ne_of_none q hD)]; exact q) fun c xs q => by rw [upd_ne (ne_of_none q hD)]; exact q
end
def PTs (Y : Cx) (ifs : List Expr) (t : TT) : Prop :=
  ∀ (pins : List (Addr × Obj)) (s : Shared) (σ : St) (H : Hp) (Q : Bool → Hp → Prop), Inv Y pins σ H s → t σ H Q →
    wpAny (model Y.prog Y.w) Y.A (forIn ifs true fun c r => if r = true then do let ok ← isTrue c Y.env (eval c Y.env); pure (ForInStep.yield ok) else pure (ForInStep.yield r)) (TP Y pins σ Q) Y.xe s
def tYes : TT := fun _ H Q => Q true H
theorem pts_nil {Y : Cx} : PTs Y [] tYes := fun _ _ _ H _ I h => wpAny_tests_nil ⟨H, I, h⟩
def CompTurns (J : It) (g : TG) (tt : TT) (te : TE) (Fin : List V → Hp → Prop) (W : Nat → Nat → List V → St → Hp → Prop) : Prop :=
  ∀ i m ys σ H, W i m ys σ H → (J.stop i H ∧ ys.length ≤ sizeLine ∧ Fin ys H) ∨ (J.go i H ∧ ys.length < sizeLine ∧ ∃ N : List V → St → Hp → Prop, (∀ ys' σ' H', N ys' σ' H' → ∃ m', m' < m ∧ W (i + 1) m' ys' σ' H') ∧
    ∀ x H', J.yld i H x H' → g x σ H' fun σ2 H2 => tt σ2 H2 fun b H3 => if b = true then te σ2 H3 fun y H4 => N (ys ++ [y]) σ2 H4 else N ys σ2 H3)
section
variable {X : Cx} {pins : List (Addr × Obj)} {σ : St} {H : Hp} {s : Shared} {scope : Scope} {Nc : List Str} {js : List Nat} {k : Nat} {tg iter elt : Expr} {ifs : List Expr} {pos : Pos} {g : TG} {tt : TT} {te : TE}
theorem comp_block {J : It} {fp : List Addr} {it : Addr} {tn : Nat → Heap → Prop} {Fin : List V → Hp → Prop} {W : Nat → Nat → List V → St → Hp → Prop} {RR : Value → Addr → Result → Shared → Prop} {E : Value → Shared → Prop} {m0 : Nat}
    (S : CompSc X.env.scope X.N scope k Nc js) (hc : X.calm = true) (I : Inv X pins σ H s) (T : Turn X.prog X.w X.K tg J fp it tn) (st : tn 0 s.heap) (hf : ∀ b ∈ fp, FpOk X pins H b)
    (hg : ∀ pins fp s H C, PG (X.comp pins Nc scope fp s H C) tg g) (ht : ∀ pins fp s H C, PTs (X.comp pins Nc scope fp s H C) ifs tt) (he : ∀ pins fp s H C, PE (X.comp pins Nc scope fp s H C) elt te)
    (w0 : W 0 m0 [] (compSt k js σ) H) (turn : CompTurns J g tt te Fin W)
    (hRR : ∀ D C s' ys H', Inv X pins σ (upd H' D (.lst ys)) s' → FpOk X pins (upd H' D (.lst ys)) C → (∃ m, s'.heap.Ns C m) → H' D = none → Fin ys H' → RR (.ref D) C (.ok .next) s') :
    wpAny (model X.prog X.w) X.A (newList []) (fun acc s₃ => wpAny (model X.prog X.w) X.A (newFunctionEnv scope X.env.globals (freeCells X.env.cells scope.names []) [] X.env.qual none .none (some X.env)) (fun cenv s₄ =>
      codeAny (model X.prog X.w) X.A (.compStart (.ListComp elt [⟨tg, iter, ifs, 0⟩] scope pos) 0 (.ref it) acc { cenv with scope := relabel scope X.env }) (RR acc cenv.locals) s₄) E s₃) E s := by
  refine wpAny_newObj_type (wpAny_newFunctionEnv S.cell (by intro y hy; simp at hy) (fun h₁ hns₁ hsb₁ => ?_) S.kind)
  dsimp only at hns₁ hsb₁ ⊢
  generalize hH2 : s.heap.push { cls := .type "list", dict := none, data := .seq ([] : List Value).toArray } = H2 at hns₁ hsb₁ ⊢
  have hC : H2.objs.size = s.heap.objs.size + 1 := by rw [← hH2, Heap.size_push]
  have hCle : s.heap.objs.size ≤ H2.objs.size := by rw [hC]; exact Nat.le_succ _
  have hDC : s.heap.objs.size ≠ H2.objs.size := by rw [hC]; exact Nat.ne_of_lt (Nat.lt_succ_self _)
  have old : ∀ b o, s.heap.get? b = some o → h₁.get? b = some o := fun b o e =>
    hsb₁.extBut b o (Nat.ne_of_lt (Nat.lt_of_lt_of_le (Heap.lt_size e) hCle)) (Heap.get?_push_of_some _ (hH2 ▸ Heap.get?_push_of_some _ e))
  have hacc : h₁.get? s.heap.objs.size = some { cls := .type "list", data := .seq ([] : List Value).toArray 0 } := hsb₁.extBut _ _ hDC (Heap.get?_push_of_some _ (hH2 ▸ Heap.get?_push_size _ rfl))
  have hob : ∀ b ∈ fp, ∃ o, s.heap.get? b = some o := fun b hb => let ⟨o, e, _⟩ := T.obj 0 _ st b hb; ⟨o, e⟩
  have hlt : ∀ b ∈ fp, b < s.heap.objs.size := fun b hb => let ⟨_, e⟩ := hob b hb; Heap.lt_size e
  have notstk : ∀ b ∈ fp, b ∉ frs X.stack := fun b hb z => by
    rcases List.mem_cons.mp (I.stkSub b z) with e | e
    · exact (hf b hb).2.1 e
    · exact (hf b hb).2.2.1 e
  have hDstk : s.heap.objs.size ∉ frs X.stack := fun z => by
    rcases List.mem_cons.mp (I.stkSub _ z) with e | e
    · have := I.lt
      rw [← e] at this
      exact Nat.lt_irrefl _ this
    · exact I.nofs (Nat.le_refl _) e
  let dpin : List Value → Nat → List (Addr × Obj) := fun its n => [(s.heap.objs.size, { cls := .type "list", data := .seq its.toArray n })]
  have fpok : ∀ {H' : Hp} {its : List Value} {n : Nat}, (∀ b ∈ fp, H' b = none) → ∀ b ∈ fp, FpOk (X.comp pins Nc scope fp s H H2.objs.size) (dpin its n) H' b := fun {H' its n} hn b hb =>
    ⟨hn b hb, Nat.ne_of_lt (Nat.lt_of_lt_of_le (hlt b hb) hCle), notstk b hb, .inl hb, fun x c e => (hf b hb).2.2.2.2.1 x c (freeCells_look e), fun p hp z => by
      rcases List.mem_append.mp hp with q | q
      · exact (hf b hb).2.2.2.2.2 p q z
      · have e : p = (s.heap.objs.size, _) := List.mem_singleton.mp q
        rw [e] at z
        exact absurd (hlt b hb) (by rw [← z]; exact Nat.lt_irrefl _)⟩
  have loop : ∀ s₃ : Shared, s₃ = { s with heap := h₁, toks := s.toks + ([] : List (Str × Value)).length } →
      codeAny (model X.prog X.w) X.A (.compLoop (.ListComp elt [⟨tg, iter, ifs, 0⟩] scope pos) 0 (.ref it) (.ref s.heap.objs.size) (compEnvC scope (freeCells X.env.cells scope.names []) H2.objs.size X.env)) (RR (.ref s.heap.objs.size) H2.objs.size) s₃ := by
    rintro s₃ rfl
    refine compLoop_go (fun n s' => ∃ i ys its nn σc H', Inv (X.comp pins Nc scope fp s H H2.objs.size) [] σc H' s' ∧ tn i s'.heap ∧ (∀ b ∈ fp, H' b = none) ∧ H' s.heap.objs.size = none ∧ Vals ys its ∧
      s'.heap.get? s.heap.objs.size = some { cls := .type "list", data := .seq its.toArray nn } ∧ W i n ys σc H') ?_ m0 ?_
    · rintro n s3 ⟨i, ys, its, nn, σ3, H3, I3, st3, fr3, hD3, hv3, ho3, w3⟩
      have I3' : Inv (X.comp pins Nc scope fp s H H2.objs.size) (dpin its nn) σ3 H3 s3 := I3.pins_of fun p hp => by
        have e : p = (s.heap.objs.size, _) := List.mem_singleton.mp hp
        subst e
        exact ⟨ho3, hD3, hDC, hDstk, fun v z => by cases z⟩
      rcases turn i n ys σ3 H3 w3 with ⟨stop, hz, fin⟩ | ⟨go, hz, N, hN, step⟩
      · refine thn (T.done (X.comp pins Nc scope fp s H H2.objs.size) rfl rfl rfl hc i (dpin its nn) s3 σ3 H3 (fun _ _ => False) I3' (fpok fr3) st3 stop) fun r s4 ⟨hr, I4⟩ => ?_
        subst hr
        have ho4 := (I4.pin _ (List.mem_append_right _ (List.mem_singleton.mpr rfl))).1
        obtain ⟨m4, hn4, _⟩ := I4.loc
        refine hRR _ _ s4 ys H3 (comp_back I hf (Nat.le_refl _) I4 hD3 hz hv3 ho4) (I.fpOk hCle ?_) ⟨m4, hn4⟩ hD3 fin
        rw [upd_ne (Ne.symm hDC)]
        exact I4.free
      · refine thn (T.item (X.comp pins Nc scope fp s H H2.objs.size) rfl rfl rfl hc i (dpin its nn) s3 σ3 H3 (fun _ _ => False) I3' (fpok fr3) st3 go) fun r s4 ⟨u, hr, h4⟩ => ?_
        subst hr
        refine thn h4 fun _ s5 ⟨x, H5, I5, r5, y5, st5, fr5⟩ => ?_
        have I5' := I5.pinned (fpok fr5) (T.obj _ _ st5)
        refine thn (hg pins fp s H H2.objs.size _ s5 σ3 H5 x u _ I5' r5 (step x H5 y5)) fun _ s6 ⟨σ6, H6, I6, q6⟩ => ?_
        refine thn (ht pins fp s H H2.objs.size _ s6 σ6 H6 _ I6 q6) fun ok s7 ⟨H7, I7, q7⟩ => ?_
        have keepIt : ∀ {σ' : St} {H' : Hp} {s' : Shared}, Inv (X.comp pins Nc scope fp s H H2.objs.size) (dpin its nn ++ pinsAt fp s5.heap) σ' H' s' →
            s'.heap.get? s.heap.objs.size = some { cls := .type "list", data := .seq its.toArray nn } ∧ H' s.heap.objs.size = none ∧ (∀ b ∈ fp, H' b = none) ∧ (∀ b ∈ fp, ∀ o, s5.heap.get? b = some o → s'.heap.get? b = some o) := fun {σ' H' s'} J => by
          have p1 := J.pin (s.heap.objs.size, _) (List.mem_append_right _ (List.mem_append_left _ (List.mem_singleton.mpr rfl)))
          refine ⟨p1.1, p1.2.1, fun b hb => ?_, fun b hb o e => (J.pin (b, o) (List.mem_append_right _ (List.mem_append_right _ (mem_pinsAt hb e)))).1⟩
          obtain ⟨o, e, _⟩ := T.obj _ _ st5 b hb
          exact (J.pin (b, o) (List.mem_append_right _ (List.mem_append_right _ (mem_pinsAt hb e)))).2.1
        cases ok with
        | true =>
          rw [if_pos rfl] at q7 ⊢
          refine thn (he pins fp s H H2.objs.size _ s7 σ6 H7 _ I7 q7) fun y s8 ⟨v, H8, I8, r8, q8⟩ => ?_
          obtain ⟨ho8, hD8, fr8, k8⟩ := keepIt I8
          refine append_at (hsz := by have := hv3.length; show its.toArray.size ≤ sizeLine; rw [List.size_toArray, ← this]; exact Nat.le_of_lt hz) ho8 fun h9 hs9 ho9 => ?_
          obtain ⟨m', hm', w9⟩ := hN _ _ _ q8
          have I8u : Inv (X.comp pins Nc scope fp s H H2.objs.size) [] σ6 H8 s8 := I8.pins_of fun p hp => nomatch hp
          have I9 : Inv (X.comp pins Nc scope fp s H H2.objs.size) [] σ6 H8 { s8 with heap := h9 } := I8u.turned (t' := s8.toks) (it := s.heap.objs.size) (fun b o hb e => (hs9.2 b hb).trans e) hD8 hDC (.inr (Nat.le_refl _)) (fun x c e z => by
            obtain ⟨v, q⟩ := I.cell x c (freeCells_look e)
            exact absurd q.lt (by rw [z]; exact Nat.lt_irrefl _)) fun p hp z => by
              have hp' : p ∈ X.pn ++ pins := by
                rcases List.mem_append.mp hp with q | q
                · exact q
                · exact nomatch q
              exact absurd (Heap.lt_size (I.pin p hp').1) (by rw [z]; exact Nat.lt_irrefl _)
          refine ⟨m', hm', i + 1, ys ++ [v], its ++ [y], nn + 1, σ6, H8, I9, T.keep _ _ _ st5 fun b hb o e => (hs9.2 b (Nat.ne_of_lt (hlt b hb))).trans (k8 b hb o e), fr8, hD8, hv3.append (.cons r8 .nil), ?_, w9⟩
          show h9.get? s.heap.objs.size = _
          rw [ho9]
          simp
        | false =>
          rw [if_neg Bool.false_ne_true] at q7 ⊢
          obtain ⟨ho8, hD8, fr8, k8⟩ := keepIt I7
          obtain ⟨m', hm', w9⟩ := hN _ _ _ q7
          exact ⟨m', hm', i + 1, ys, its, nn, σ6, H7, I7.pins_of fun p hp => (nomatch hp), T.keep _ _ _ st5 k8, fr8, hD8, hv3, ho8, w9⟩
    · exact ⟨0, [], [], 0, _, H, comp_inv S I hf hlt hCle rfl I.bare old ⟨_, hns₁⟩, T.keep _ _ _ st fun b _ o e => old b o e, fun b hb => (hf b hb).1, I.hok.fresh (Nat.le_refl _), .nil, hacc, w0⟩
  exact codeAny_compStart_list (loop _ rfl) (T.self X.A 0 _ _ _ (T.keep _ _ _ st fun b _ o e => old b o e) (loop _ rfl))
def tComp (wi : TI) (k : Nat) (js : List Nat) (g : TG) (tt : TT) (te : TE) : TE := fun σ H Q => wi σ H fun J H1 => ∃ W : Nat → Nat → List V → St → Hp → Prop, (∃ m, W 0 m [] (compSt k js σ) H1) ∧
  CompTurns J g tt te (fun ys H => ∀ D, H D = none → Q (.ref D) (upd H D (.lst ys))) W
theorem pe_comp {wi : TI} (S : CompSc X.env.scope X.N scope k Nc js) (hc : X.calm = true) (hi : PI X tg iter wi)
    (hg : ∀ pins fp s H C, PG (X.comp pins Nc scope fp s H C) tg g) (ht : ∀ pins fp s H C, PTs (X.comp pins Nc scope fp s H C) ifs tt) (he : ∀ pins fp s H C, PE (X.comp pins Nc scope fp s H C) elt te)
    (hs : ∀ x, foldedSetIterable iter X.env x = pure x := by intro _; rfl) : PE X (.ListComp elt [⟨tg, iter, ifs, 0⟩] scope pos) (tComp wi k js g tt te) := by
  intro pins s σ H Q I h
  rw [eval_ListComp]
  refine wpAny_comprehension_free (use := none) rfl hs (S.clos I) S.kind S.names (thn (hi pins s σ H _ I h) fun xv s1 h1 => thn h1 fun itv s2 h2 => ?_)
  obtain ⟨it, fp, tn, J, H2, e, I2, T, st2, f2, W, ⟨m0, w0⟩, turn⟩ := h2
  subst e
  refine comp_block (RR := fun acc C => compPost (model X.prog X.w) X.A X.xe none (EP X pins σ Q) acc C) S hc I2 T st2 f2 hg ht he w0 turn fun D C s' ys H' I' fC ns hD fin => ?_
  obtain ⟨m, hn⟩ := ns
  exact ⟨m, hn, fun h' hs' => ⟨.ref D, _, I'.turned (t' := s'.toks) (fun b o hb e => (hs'.2 b hb).trans e) fC.1 fC.2.1 fC.2.2.2.1 fC.2.2.2.2.1 fC.2.2.2.2.2, rfl, fin D hD⟩⟩
theorem ps_setcomp {wi : TI} {i : Nat} {x : Str} {px spos : Pos} (hN : X.N.Nodup) (hi' : X.N[i]? = some x) (hx : Loc X.env.scope x) (S : CompSc X.env.scope X.N scope k Nc js) (hc : X.calm = true) (hi : PI X tg iter wi)
    (hg : ∀ pins fp s H C, PG (X.comp pins Nc scope fp s H C) tg g) (ht : ∀ pins fp s H C, PTs (X.comp pins Nc scope fp s H C) ifs tt) (he : ∀ pins fp s H C, PE (X.comp pins Nc scope fp s H C) elt te)
    (hsw : swapsWith (.ListComp elt [⟨tg, iter, ifs, 0⟩] scope pos) (some (.Name x px)) spos.line X.env = pure true := by rfl)
    (hs : ∀ x, foldedSetIterable iter X.env x = pure x := by intro _; rfl) (hf : X.fn x = true ∨ X.env.scope.names.lookup x = some .local := by first | exact .inl rfl | exact .inr rfl | assumption) :
    PS X (.Assign [.Name x px] (.ListComp elt [⟨tg, iter, ifs, 0⟩] scope pos) spos) (tAsg (tComp wi k js g tt te) (gName i)) := by
  intro pins s σ H D I h
  rw [exec_Assign_Name_used _ _ _ _ hsw]
  refine wpAny_bind (wpAny_standAt (wpAny_bind ?_))
  show wpAny _ X.A (do let _ ← comprehension (.ListComp elt [⟨tg, iter, ifs, 0⟩] scope pos) scope X.env _ (newList []) false (eval iter X.env) (some (assign (.Name x px) X.env))) _ _ s
  refine wpAny_bind (wpAny_mono (wpAny_comprehension_free (use := some (assign (.Name x px) X.env)) (Q := fun _ s' => SP X pins D .next s') rfl hs (S.clos I) S.kind S.names
    (thn (hi pins s σ H _ I h) fun xv s1 h1 => thn h1 fun itv s2 h2 => ?_)) (fun _ s' hq => wpAny_pure (wpAny_pure hq)) fun _ _ e => e)
  obtain ⟨it, fp, tn, J, H2, e, I2, T, st2, f2, W, ⟨m0, w0⟩, turn⟩ := h2
  subst e
  refine comp_block (RR := fun acc C => compPost (model X.prog X.w) X.A X.xe (some (assign (.Name x px) X.env)) (fun _ s' => SP X pins D .next s') acc C) S hc I2 T st2 f2 hg ht he w0 turn fun A C s' ys H' I' fC ns hD fin => ?_
  obtain ⟨m, hn⟩ := ns
  show wpAny _ X.A (assign (.Name x px) X.env (.ref A)) _ _ _
  refine wpAny_assign_Name (store_ok2 I' hN hi' hx (v := .ref A) rfl (fun s'' I'' ⟨a, sb, ha⟩ => ?_) hf)
  have hCa : C ≠ a := by
    rcases ha with ha | ha
    · rw [ha]; exact fC.2.1
    · exact fun z => fC.2.2.2.2.1 x a ha z.symm
  exact ⟨m, hn.sameBut sb hCa, fun h' hs' => ⟨_, _, I''.turned (t' := s''.toks) (fun b o hb e => (hs'.2 b hb).trans e) fC.1 fC.2.1 fC.2.2.2.1 fC.2.2.2.2.1 fC.2.2.2.2.2, fin A hD⟩⟩
end
end L2
namespace L2
open PySem PySem.Spec PyProof.Rows
section
variable {X : Cx} {tg : Expr}
theorem op_mulB : OpR X (binaryOp .Mult) (rI IntMulOk fun i j => .int (i * j)) := opI fun _ _ _ _ _ _ _ hc q => mul_int q hc
theorem call_isT : CallR X (.builtin "isinstance") (fun xs H Q => ∃ x t T b, xs = [x, .ty T] ∧ TyOf X.K H x t ∧ PySem.W.kitOne X.K t (.type T) = some b ∧ Q (.bl b) H) := by
  intro pins s σ H xs us Q I r h
  obtain ⟨x, t, T, b, rfl, ty, e, q⟩ := h
  obtain ⟨u, c, rfl, ru, rc⟩ := vals2 r
  have ec : c = .type T := rc
  subst ec
  exact isinst_ok I ru ty e fun tk => ⟨.bl b, H, I.tok tk, rfl, q⟩
theorem call_isC : CallR X (.builtin "isinstance") (fun xs H Q => ∃ x t C b, xs = [x, .ref C] ∧ TyOf X.K H x t ∧ PySem.W.kitOne X.K t (.ref C) = some b ∧ Q (.bl b) H) := by
  intro pins s σ H xs us Q I r h
  obtain ⟨x, t, C, b, rfl, ty, e, q⟩ := h
  obtain ⟨u, c, rfl, ru, rc⟩ := vals2 r
  have ec : c = .ref C := rc
  subst ec
  exact isinst_ok I ru ty e fun tk => ⟨.bl b, H, I.tok tk, rfl, q⟩
def rCatS (K : PySem.W.Frag) : R2 := fun x y H Q => ∃ l b xs zs, x = .ref l ∧ y = .ref b ∧ SqL K H l xs ∧ SqL K H b zs ∧ xs.length + zs.length ≤ sizeLine ∧ ∀ p, H p = none → Q (.ref p) (upd H p (.lst (xs ++ zs)))
theorem op_catS : OpR X (binaryOp .Add) (rCatS X.K) := by
  intro pins s σ H x y v u Q I rx ry h
  obtain ⟨l, b, xs, zs, rfl, rfl, hH, hB, hz, q⟩ := h
  cases rx
  cases ry
  obtain ⟨its, r, pl, z1⟩ := I.list hH
  obtain ⟨its2, r2, pl2, z2⟩ := I.list hB
  have hl1 := r.length
  have hl2 := r2.length
  obtain ⟨⟨cls, dd, data, sl⟩, n, ho, hc, _, hd⟩ := pl
  obtain ⟨⟨cls2, dd2, data2, sl2⟩, n2, ho2, hc2, _, hd2⟩ := pl2
  simp only at hc hd hc2 hd2
  subst hc hd hc2 hd2
  refine concat_meets ⟨_, ho, rfl⟩ ⟨_, ho2, rfl⟩ noFill_list_add seq_list_add PySem.F.slot_list_add PySem.F.entry_list_add (PySem.F.args_list_add_2 _ _) (list_addW l b its.toArray its2.toArray n n2 dd dd2 sl sl2 (by rw [List.size_toArray, List.size_toArray]; omega)) ⟨ho, ho2, ?_⟩
  have ea : its.toArray ++ its2.toArray = (its ++ its2).toArray := by simp
  rw [ea]
  exact ⟨.ref _, _, I.lnew (t' := s.toks) (r.append r2) (by rw [List.length_append]; omega), rfl, q _ I.fresh⟩
end
end L2
namespace L2
open PySem PySem.Spec PyProof.Rows
section
variable {X : Cx}
end
end L2
namespace L2
open PySem PySem.Spec PyProof.Rows
theorem yes_eq {te : TE} {N N' : V → St → Hp → Prop} {M : St → Hp → Prop} : (fun (σ2 : St) (H2 : Hp) => tYes σ2 H2 fun b H3 => if b = true then te σ2 H3 fun y H4 => N y σ2 H4 else M σ2 H3) = fun σ2 H2 => te σ2 H2 fun y H4 => N y σ2 H4 := by
  funext σ2 H2
  unfold tYes
  dsimp only
  rw [if_pos rfl]
end L2
namespace L2
open PySem PySem.Spec PyProof.Rows
end L2
namespace L2
open PySem PySem.Spec PyProof.Rows
section
variable {X : Cx}
theorem oi_add : OpR X (binaryOp .Add) (fun x y H Q => ∃ i j, x = .int i ∧ y = .int j ∧ Q (.int (i + j)) H) := op_add
theorem oi_sub : OpR X (binaryOp .Sub) (fun x y H Q => ∃ i j, x = .int i ∧ y = .int j ∧ Q (.int (i - j)) H) := op_sub
theorem oi_mul : OpR X (binaryOp .Mult) (fun x y H Q => ∃ i j, x = .int i ∧ y = .int j ∧ IntMulOk i j ∧ Q (.int (i * j)) H) := op_mulB
theorem oi_fdiv : OpR X (binaryOp .FloorDiv) (fun x y H Q => ∃ i j, x = .int i ∧ y = .int j ∧ (0 < j ∧ j < 1073741824) ∧ Q (.int (i / j)) H) := op_fdiv
theorem oi_mod : OpR X (binaryOp .Mod) (fun x y H Q => ∃ i j, x = .int i ∧ y = .int j ∧ 0 < j ∧ Q (.int (i % j)) H) := op_mod
theorem oi_pow : OpR X (binaryOp .Pow) (fun x y H Q => ∃ i j, x = .int i ∧ y = .int j ∧ (0 ≤ j ∧ j ≤ 1000000 ∧ i.natAbs < 2 ^ 64) ∧ Q (.int (i ^ j.toNat)) H) := op_pow
theorem oi_lt : OpR X (compareOp .Lt) (fun x y H Q => ∃ i j, x = .int i ∧ y = .int j ∧ Q (.bl (decide (i < j))) H) := op_lt
end
end L2
namespace Att
open PySem PySem.W PySem.Calls PyProof.Rows
theorem script_bits {ns : List Int} (h : WData.layableAll [WData.list (ns.map WData.int)] = true) : ∀ n ∈ ns, Builtin.Int.intBits n ≤ 2 ^ 20 := fun n hn => by
  have h1 := layableW_arg h _ (List.mem_singleton.mpr rfl)
  have h2 := layableW_item h1 (WData.int n) (List.mem_map.mpr ⟨n, hn, rfl⟩)
  exact PyData.bits_of_layable (layable0_of_all (lay0_int h2))
theorem attach_callB {l : OpenLaw} {n : Nat} {q : Program} {loose : List Str} {XP : (Str → Option Value) → Heap → Prop} {YP : World → Heap → Prop} {d : DefRec}
    (hn : l.most = some n) (hdf : d.params.defaults = [])
    (call : ∀ (w : World) (s₀ s₁ : Shared) (mg mb : Str → Option Value) (fa : Addr) (o : Obj) (pm cd doc : Value) (a : Addr) (vs : List Value) (ns : List Int),
      Ground q loose [] XP w s₀ mg mb s₁.heap → YP w s₁.heap →
      s₁.heap.get? fa = some o → o.data = .func (docDef d.name d.params d.body d.scope pm cd doc) → s₁.heap.CodeRec cd d.name → mg d.name = some (.ref fa) →
      s₁.heap.get? a = some { cls := .type "list", data := .seq vs.toArray } → IntsAre vs ns → ns.length ≤ n → (∀ k ∈ ns, Builtin.Int.intBits k ≤ 2 ^ 20) → s₁.gens = #[] →
      codeAny (model l.prog w) callerA (.call (.ref fa) ⟨[.ref a], []⟩) (fun r s' => r = .ok (.ret (.bool true)) ∧ OldK s₁.heap s'.heap ∧ s'.os = s₁.os ∧ AllBare s'.gens) s₁) :
    WalkO q loose XP YP l.row.toRowW d [] (fun f vs => PySem.call f vs) := by
  intro w s₀ s₁ mg mb G Y fa o pm cd doc dV kV ho hd hcd hD hmg hg args vals as hpre hlay hrd hwl hlo
  obtain rfl : dV = .none := Dflts.none hD hdf
  obtain rfl : kV = .none := Dflts.noKw hD
  obtain ⟨a, vs, ns, rfl, rfl, hobj, hints, hlen⟩ := script_of hn hpre hwl
  refine enter_call (codeAny_mono (call w s₀ s₁ mg mb fa o pm cd doc a vs ns G Y ho (fd_plain hd) hcd hmg hobj hints hlen (script_bits hlay) hg) fun r s' hq => ?_)
  obtain ⟨rfl, h2, h3, h4⟩ := hq
  exact ⟨.inl ⟨.bool true, .bool true, [], rfl, fun _ => rfl, .bool true, post_true l _, fun _ => ⟨List.Pairwise.nil, fun _ hm => (nomatch hm)⟩⟩, h2, h3, h4⟩
end Att
namespace L2
open PySem PySem.Spec PyProof.Rows
theorem walk_ofB {l : PySem.W.OpenLaw} {n k : Nat} {q : Program} {loose : List Str} {XP : (Str → Option Value) → Heap → Prop} {YP : World → Heap → Prop} {d : DefRec} {K : Params → PySem.W.Frag} {CX : World → CXT} {sp : World → Sp} {x : Str}
    (hn : l.most = some n) (hn2 : n ≤ sizeLine) (hdf : d.params.defaults = []) (hr : Room k callerA)
    (hY : ∀ (w : World) (h : Heap), YP w h → (K w.params).In h)
    (F : ∀ (w : World) (mg : Str → Option Value) (fa : Addr) (h : Heap), (K w.params).In h → h.Ns mainGlobals mg → mg d.name = some (.ref fa) →
      ∃ fd : FuncData, (∀ (s : Shared) (u : Value), BindsTo s fd ⟨[u], []⟩ [(x, u)]) ∧
        ∀ base : Heap, (K w.params).In base → base.Ns mainGlobals mg → FnOk l.prog w (K w.params) mg base (CX w) k fa fd [x] (sp w))
    (hsp : ∀ (w : World) (H : Hp) (a : Addr) (ns : List Int), ns.length ≤ n → (∀ k ∈ ns, Builtin.Int.intBits k ≤ 2 ^ 20) → Only H → SqL (K w.params) H a (ns.map V.int) → sp w [.ref a] H (fun v _ => v = .bl true) fun _ _ _ => False)
    (hCX : ∀ (w : World) (H : Hp) (s : Shared) (e : Value) (s' : Shared), CX w [] H s (fun _ _ _ => False) e s' → False) :
    PySem.W.WalkO q loose XP YP l.row.toRowW d [] (fun f vs => PySem.call f vs) := by
  refine Att.attach_callB hn hdf fun w s₀ s₁ mg mb fa o pm cd doc a vs ns G Y ho hd hcd hmg hobj hints hlen hbits hg => ?_
  have KX := hY w _ Y
  obtain ⟨fd, hb, hF⟩ := F w mg fa _ KX G.T.g hmg
  exact law_call KX G.T.g G.T.b G.T.builtins G.T.nolimit hg hobj hints (Nat.le_trans hlen hn2) hr hF hb (fun H hO hS => hsp w H a ns hlen hbits hO hS) fun H e s' => hCX w H s₁ e s'
theorem Same.new {H : Hp} {p : Addr} (h : H p = none) (o : HO) : Same H (upd H p o) := fun b u q => by rw [upd_ne (ne_of_none q h)]; exact q
theorem Same.tup {K : PySem.W.Frag} {H H' : Hp} {a : Addr} {xs : List V} (e : Same H H') (h : SqT K H a xs) : SqT K H' a xs := by
  rcases h with (h | ⟨o, h⟩) | h
  · exact .inl (.inl (e _ _ h))
  · exact .inl (.inr ⟨o, e _ _ h⟩)
  · exact .inr h
theorem join2 {α β : Type} {P R : α → β → Prop} {c A : Prop} {inst : Decidable c} (w : α) (z : β) (hw : P w z) (rest : ∀ w z, P w z → R w z) (h : c → (∀ w z, P w z → R w z) → A) : if c then A else R w z := by
  by_cases hc : c
  · rw [if_pos hc]; exact h hc rest
  · rw [if_neg hc]; exact rest w z hw
theorem join2' {α β : Type} {P R : α → β → Prop} {c A B : Prop} {inst : Decidable c} {w : α} {z : β} (hw : P w z) (rest : ∀ w z, P w z → R w z) (h : c → (∀ w z, P w z → R w z) → A) (e : B = R w z := by rfl) : @ite Prop c inst A B := by
  subst e
  exact join2 w z hw rest h
theorem len_le_line {n m : Nat} (h : n ≤ m) (hm : m ≤ 1000000 := by decide) : n ≤ sizeLine := Nat.le_trans h (Nat.le_trans hm (by rw [sizeLine_eq]; decide))
end L2
namespace L2
open PySem PySem.Spec PyProof.Rows
theorem log_lt {i : Int} (h : i.natAbs < 2 ^ 1000) : i.natAbs.log2 < 1920 := by
  by_cases h0 : i.natAbs = 0
  · rw [h0]; decide
  · exact Nat.lt_trans ((Nat.log2_lt h0).mpr h) (by decide)
end L2
namespace L2
open PySem PySem.Spec PyProof.Rows
def SIt (h : Heap) : Bool → Addr → Addr → Nat → Prop
  | false, it, l, k => h.IsListIter it l k
  | true, it, l, k => h.IsTupleIter it l k
def SSq (h : Heap) : Bool → Addr → Array Value → Prop
  | false, l, xs => h.IsList l xs
  | true, l, xs => h.IsTuple l xs
theorem SIt.obj {h : Heap} : ∀ {b : Bool} {it l : Addr} {k : Nat}, SIt h b it l k → ∃ o, h.get? it = some o ∧ ∃ vs, o.data = .fields vs
  | false, _, _, _, ⟨o, e, _, d⟩ => ⟨o, e, _, d⟩
  | true, _, _, _, ⟨o, e, _, d⟩ => ⟨o, e, _, d⟩
theorem SIt.keep {h h' : Heap} : ∀ {b : Bool} {it l : Addr} {k : Nat}, SIt h b it l k → (∀ o, h.get? it = some o → h'.get? it = some o) → SIt h' b it l k
  | false, _, _, _, ⟨o, e, r⟩, f => ⟨o, f o e, r⟩
  | true, _, _, _, ⟨o, e, r⟩, f => ⟨o, f o e, r⟩
theorem SSq.keep {h h' : Heap} : ∀ {b : Bool} {l : Addr} {xs : Array Value}, SSq h b l xs → (∀ o, h.get? l = some o → h'.get? l = some o) → SSq h' b l xs
  | false, _, _, ⟨o, e, r⟩, f => ⟨o, f o e, r⟩
  | true, _, _, ⟨o, e, r⟩, f => ⟨o, f o e, r⟩
theorem SSq.obj {h : Heap} : ∀ {b : Bool} {l : Addr} {xs : Array Value}, SSq h b l xs → ∃ o, h.get? l = some o ∧ ∃ n, o.data = .seq xs n
  | false, _, _, ⟨o, e, _, n, d⟩ => ⟨o, e, n, d⟩
  | true, _, _, ⟨o, e, _, n, d⟩ => ⟨o, e, n, d⟩
section
variable {prog : Program} {w : World} {A : Around} {E : Value → Shared → Prop} {s : Shared}
theorem nxt_tup_item {it t : Addr} {k : Nat} {xs : Array Value} {x : Value} {Q : Value → Shared → Prop} (hi : s.heap.IsTupleIter it t k) (ht : s.heap.IsTuple t xs) (hx : xs[k]? = some x)
    (q : ∀ g, g.IsTupleIter it t (k + 1) → Heap.SameBut it s.heap g → Q x { s with heap := g }) : wpAny (model prog w) A (Builtin.SmallTypes.nextOf (.ref it)) Q E s := by
  obtain ⟨o, e, c, d⟩ := id hi
  obtain ⟨ot, et, _, nt, dt⟩ := ht
  unfold Builtin.SmallTypes.nextOf
  refine wpAny_bind (wpAny_callSpecial?_slot (name := Str.ofString "__next__") hi.typeIs PySem.F.slot_tuple_iterator_next (wpAny_call_entry PySem.F.slot_tuple_iterator_next hi.typeIs PySem.F.entry_tuple_iterator_next ?_ (PySem.F.args_tuple_iterator_next_1 _)))
  show wpAny _ _ (field (.ref it) 0 >>= _) _ _ _; refine wpAny_bind (wpAny_field e d (x := .ref t) rfl ?_)
  show wpAny _ _ (if (Value.ref t == Value.none) = true then _ else _) _ _ _; rw [if_neg (show ¬ (Value.ref t == Value.none) = true from Bool.false_ne_true)]
  show wpAny _ _ (field (.ref it) 1 >>= _) _ _ _; refine wpAny_bind (wpAny_field e d (x := .int k 0) rfl ?_)
  show wpAny _ _ (seqItems? (.ref t) >>= _) _ _ _; refine wpAny_bind (wpAny_seqItems et dt ?_)
  simp only [Int.toNat_natCast, hx]; refine wpAny_bind (wpAny_setField e d (by simp) (wpAny_pure ⟨x, rfl, wpAny_pure (q _ ?_ (Heap.SameBut.update ..))⟩))
  exact ⟨_, Heap.get?_update_self _ e (Obj.isFreed_of_fields (Obj.data_mapFields d _)), (Obj.cls_mapFields ..).trans c, by rw [Obj.data_mapFields d]; simp [rawInt]⟩
theorem nxt_tup_end {it t : Addr} {k : Nat} {xs : Array Value} {Q : Value → Shared → Prop} (hh : A.handled = none) (hi : s.heap.IsTupleIter it t k) (ht : s.heap.IsTuple t xs) (hx : xs[k]? = none)
    (q : ∀ g x, Heap.ExtBut it s.heap g → (∃ o, g.get? x = some o ∧ o.cls = .type "StopIteration") → E (.ref x) { s with heap := g }) : wpAny (model prog w) A (Builtin.SmallTypes.nextOf (.ref it)) Q E s := by
  obtain ⟨o, e, c, d⟩ := id hi
  obtain ⟨ot, et, _, nt, dt⟩ := ht
  unfold Builtin.SmallTypes.nextOf
  refine wpAny_bind (wpAny_callSpecial?_slot (name := Str.ofString "__next__") hi.typeIs PySem.F.slot_tuple_iterator_next (wpAny_call_entry PySem.F.slot_tuple_iterator_next hi.typeIs PySem.F.entry_tuple_iterator_next ?_ (PySem.F.args_tuple_iterator_next_1 _)))
  show wpAny _ _ (field (.ref it) 0 >>= _) _ _ _; refine wpAny_bind (wpAny_field e d (x := .ref t) rfl ?_)
  show wpAny _ _ (if (Value.ref t == Value.none) = true then _ else _) _ _ _; rw [if_neg (show ¬ (Value.ref t == Value.none) = true from Bool.false_ne_true)]
  show wpAny _ _ (field (.ref it) 1 >>= _) _ _ _; refine wpAny_bind (wpAny_field e d (x := .int k 0) rfl ?_)
  show wpAny _ _ (seqItems? (.ref t) >>= _) _ _ _; refine wpAny_bind (wpAny_seqItems et dt ?_)
  simp only [Int.toNat_natCast, hx]; refine wpAny_bind (wpAny_rule (wpAny_bind (wpAny_setField e d (by simp) ?_)))
  show wpAny _ _ (newExc (.type "StopIteration") [] >>= _) _ _ _; refine wpAny_bind ?_; simp only [newExc, newTuple]; refine wpAny_bind (wpAny_newObj_type ?_ (by size_fits))
  refine wpAny_bind (m := firstArgMember _ _) (wpAny_of_eq (a := Value.none) (by first | rfl | (simp only [firstArgMember]; rfl)) (wpAny_newObj_type ?_ (by size_fits)))
  simp only [raiseNew]; refine wpAny_bind (wpAny_handled ?_); first | rw [show A.in1.handled = none from hh] | rw [hh]
  refine wpAny_bind (wpAny_pure (wpAny_throw (q _ _ (((Heap.SameBut.update ..).extBut.push _).push _) ⟨_, Heap.get?_push_size _ rfl, rfl⟩)))
theorem nxt_item {it l : Addr} {k : Nat} {xs : Array Value} {x : Value} {Q : Value → Shared → Prop} : ∀ {b : Bool}, SIt s.heap b it l k → SSq s.heap b l xs → xs[k]? = some x →
    (∀ g, SIt g b it l (k + 1) → Heap.SameBut it s.heap g → Q x { s with heap := g }) → wpAny (model prog w) A (Builtin.SmallTypes.nextOf (.ref it)) Q E s
  | false, a, c, d, q => wpAny_nextOf_list_item a c d q
  | true, a, c, d, q => nxt_tup_item a c d q
theorem nxt_end {it l : Addr} {k : Nat} {xs : Array Value} {Q : Value → Shared → Prop} (hh : A.handled = none) : ∀ {b : Bool}, SIt s.heap b it l k → SSq s.heap b l xs → xs[k]? = none →
    (∀ g x, Heap.ExtBut it s.heap g → (∃ o, g.get? x = some o ∧ o.cls = .type "StopIteration") → E (.ref x) { s with heap := g }) → wpAny (model prog w) A (Builtin.SmallTypes.nextOf (.ref it)) Q E s
  | false, a, c, d, q => wpAny_nextOf_list_end hh a c d q
  | true, a, c, d, q => nxt_tup_end hh a c d q
structure ZAp (z TI TO i1 i2 l1 l2 : Addr) : Prop where
  a : TI ≠ z ∧ TO ≠ z ∧ i1 ≠ z ∧ i2 ≠ z ∧ TI ≠ TO ∧ TI ≠ i1 ∧ TI ≠ i2 ∧ TO ≠ i1 ∧ TO ≠ i2 ∧ i1 ≠ i2
  l : ∀ c, c = l1 ∨ c = l2 → c ≠ z ∧ c ≠ TO ∧ c ≠ i1 ∧ c ≠ i2 ∧ c ≠ TI
theorem zipN_item {z TI TO i1 i2 l1 l2 : Addr} {b1 b2 : Bool} {k1 k2 : Nat} {xs ys : Array Value} {x y a b : Value} {Q : Value → Shared → Prop} (D : ZAp z TI TO i1 i2 l1 l2)
    (hz : IsZip s.heap z TI TO .none) (hI : IsPair s.heap TI (.ref i1) (.ref i2)) (hO : IsPair s.heap TO a b) (t1 : SIt s.heap b1 i1 l1 k1) (t2 : SIt s.heap b2 i2 l2 k2) (q1 : SSq s.heap b1 l1 xs) (q2 : SSq s.heap b2 l2 ys) (ex : xs[k1]? = some x) (ey : ys[k2]? = some y)
    (q : ∀ g, IsZip g z TI TO (rawInt s.heap.objs.size) → IsPair g TO x y → SIt g b1 i1 l1 (k1 + 1) → SIt g b2 i2 l2 (k2 + 1) → IsPair g s.heap.objs.size x y → (∀ c o, c ≠ z → c ≠ TO → c ≠ i1 → c ≠ i2 → s.heap.get? c = some o → g.get? c = some o) → Q (.ref s.heap.objs.size) { s with heap := g }) :
    wpAny (model prog w) A (Builtin.«zip.__next__» ⟨[.ref z], []⟩) (fun fin s' => ∃ v, fin = .done (.ret v) ∧ Q v s') E s := by
  obtain ⟨⟨nIz, nOz, n1z, n2z, nIO, nI1, nI2, nO1, nO2, n12⟩, lne⟩ := D
  obtain ⟨m1z, m1O, m11, m12, m1I⟩ := lne l1 (.inl rfl)
  obtain ⟨m2z, m2O, m21, m22, m2I⟩ := lne l2 (.inr rfl)
  show wpAny _ _ (field (.ref z) 2 >>= _) _ _ _; refine wpAny_bind (wpAny_field hz rfl (x := .bool false) rfl ?_)
  show wpAny _ _ (field (.ref z) 3 >>= _) _ _ _; refine wpAny_bind (wpAny_field hz rfl (x := .ref TI) rfl (wpAny_bind (wpAny_seqItems hI rfl ?_)))
  show wpAny _ _ (Builtin.SmallTypes.ownedTupleIsFree (.ref z) >>= _) _ _ _; refine wpAny_bind ?_; unfold Builtin.SmallTypes.ownedTupleIsFree
  refine wpAny_bind (wpAny_field hz rfl (x := .none) rfl (wpAny_pure ?_)); simp only [if_true]
  refine wpAny_bind (wpAny_rule (wpAny_bind (wpAny_field hz rfl (x := .ref TO) rfl (wpAny_bind (wpAny_setField_rec hz (by simp) fun g1 z1 s1 => ?_)))))
  replace z1 : IsZip g1 z TI TO .ellipsis := z1
  refine wpAny_bind ?_; simp only [List.zipIdx_cons, List.zipIdx_nil, List.forIn_cons, List.forIn_nil]; refine wpAny_bind (wpAny_bind (wpAny_onRaise ?_))
  show wpAny _ _ (Builtin.SmallTypes.nextOf (.ref i1) >>= _) _ _ _
  refine wpAny_bind (nxt_item (b := b1) (t1.keep fun o e => s1.extBut _ _ n1z e) (q1.keep fun o e => s1.extBut _ _ m1z e) ex fun g2 u1 s2 => wpAny_pure ?_)
  have o2 : IsPair g2 TO a b := s2.extBut _ _ nO1 (s1.extBut _ _ nOz hO)
  refine wpAny_bind (wpAny_seqItems o2 rfl (wpAny_bind (wpAny_updateSeq_pair o2 fun g3 o3 s3 => wpAny_bind (wpAny_letGo (wpAny_pure ?_)))))
  replace o3 : IsPair g3 TO x b := o3
  refine wpAny_bind (wpAny_bind (wpAny_onRaise ?_)); show wpAny _ _ (Builtin.SmallTypes.nextOf (.ref i2) >>= _) _ _ _
  refine wpAny_bind (nxt_item (b := b2) (t2.keep fun o e => s3.extBut _ _ nO2.symm (s2.extBut _ _ n12.symm (s1.extBut _ _ n2z e))) (q2.keep fun o e => s3.extBut _ _ m2O (s2.extBut _ _ m21 (s1.extBut _ _ m2z e))) ey fun g4 u2 s4 => wpAny_pure ?_)
  have o4 : IsPair g4 TO x b := s4.extBut _ _ nO2 o3
  refine wpAny_bind (wpAny_seqItems o4 rfl (wpAny_bind (wpAny_updateSeq_pair o4 fun g5 o5 s5 => wpAny_bind (wpAny_letGo (wpAny_pure (wpAny_pure ?_))))))
  replace o5 : IsPair g5 TO x y := o5
  refine wpAny_bind (wpAny_seqItems o5 rfl (wpAny_bind (wpAny_newTuple ?_)))
  have sz : g5.objs.size = s.heap.objs.size := by rw [s5.1, s4.1, s3.1, s2.1, s1.1]
  have z5 : IsZip g5 z TI TO .ellipsis := s5.extBut _ _ nOz.symm (s4.extBut _ _ n2z.symm (s3.extBut _ _ nOz.symm (s2.extBut _ _ n1z.symm z1)))
  have k5 : ∀ c o, c ≠ z → c ≠ TO → c ≠ i1 → c ≠ i2 → s.heap.get? c = some o → g5.get? c = some o := fun c o h1 h2 h3 h4 e => s5.extBut _ _ h2 (s4.extBut _ _ h4 (s3.extBut _ _ h2 (s2.extBut _ _ h3 (s1.extBut _ _ h1 e))))
  have v1 : SIt g5 b1 i1 l1 (k1 + 1) := u1.keep fun o e => s5.extBut _ _ nO1.symm (s4.extBut _ _ n12 (s3.extBut _ _ nO1.symm e))
  have v2 : SIt g5 b2 i2 l2 (k2 + 1) := u2.keep fun o e => s5.extBut _ _ nO2.symm e
  have zlt : z < g5.objs.size := Heap.lt_size z5
  show wpAny _ _ (Builtin.SmallTypes.ownedTupleHandOut (.ref z) (.ref g5.objs.size) >>= _) _ _ _; refine wpAny_bind ?_; unfold Builtin.SmallTypes.ownedTupleHandOut
  have z6 : IsZip (g5.push { cls := .type "tuple", data := .seq #[x, y] }) z TI TO .ellipsis := Heap.get?_push_of_some _ z5
  refine wpAny_bind (wpAny_setField_rec z6 (by simp) fun g7 z7 s7 => ?_)
  replace z7 : IsZip g7 z TI TO (rawInt g5.objs.size) := z7
  refine wpAny_setField_rec z7 (by simp) fun g8 z8 s8 => ?_
  replace z8 : IsZip g8 z TI TO (rawInt g5.objs.size) := z8
  have up : ∀ c o, c ≠ z → g5.get? c = some o → g8.get? c = some o := fun c o h1 e => s8.extBut _ _ h1 (s7.extBut _ _ h1 (Heap.get?_push_of_some _ e))
  have t8 : IsPair g8 g5.objs.size x y := s8.extBut _ _ (Nat.ne_of_gt zlt) (s7.extBut _ _ (Nat.ne_of_gt zlt) (Heap.get?_push_size _ rfl))
  rw [sz] at z8 t8
  refine wpAny_pure ⟨_, rfl, ?_⟩
  show Q (.ref g5.objs.size) _
  rw [sz]
  exact q g8 z8 (up _ _ nOz o5) (v1.keep fun o e => up _ o n1z e) (v2.keep fun o e => up _ o n2z e) t8 fun c o h1 h2 h3 h4 e => up c o h1 (k5 c o h1 h2 h3 h4 e)
theorem zipN_end {z TI TO i1 i2 l1 l2 : Addr} {b1 b2 : Bool} {k1 k2 : Nat} {xs ys : Array Value} {a b : Value} {Q : Fin → Shared → Prop} (hh : A.handled = none) (D : ZAp z TI TO i1 i2 l1 l2)
    (hz : IsZip s.heap z TI TO .none) (hI : IsPair s.heap TI (.ref i1) (.ref i2)) (hO : IsPair s.heap TO a b) (t1 : SIt s.heap b1 i1 l1 k1) (t2 : SIt s.heap b2 i2 l2 k2) (q1 : SSq s.heap b1 l1 xs) (q2 : SSq s.heap b2 l2 ys) (hend : xs[k1]? = none ∨ ys[k2]? = none)
    (q : ∀ g e, (∀ c o, c ≠ z → c ≠ TO → c ≠ i1 → c ≠ i2 → s.heap.get? c = some o → g.get? c = some o) → (∃ o, g.get? e = some o ∧ o.cls = .type "StopIteration") → E (.ref e) { s with heap := g }) :
    wpAny (model prog w) A (Builtin.«zip.__next__» ⟨[.ref z], []⟩) Q E s := by
  obtain ⟨⟨nIz, nOz, n1z, n2z, nIO, nI1, nI2, nO1, nO2, n12⟩, lne⟩ := D
  obtain ⟨m1z, m1O, m11, m12, m1I⟩ := lne l1 (.inl rfl)
  obtain ⟨m2z, m2O, m21, m22, m2I⟩ := lne l2 (.inr rfl)
  show wpAny _ _ (field (.ref z) 2 >>= _) _ _ _; refine wpAny_bind (wpAny_field hz rfl (x := .bool false) rfl ?_)
  show wpAny _ _ (field (.ref z) 3 >>= _) _ _ _; refine wpAny_bind (wpAny_field hz rfl (x := .ref TI) rfl (wpAny_bind (wpAny_seqItems hI rfl ?_)))
  show wpAny _ _ (Builtin.SmallTypes.ownedTupleIsFree (.ref z) >>= _) _ _ _; refine wpAny_bind ?_; unfold Builtin.SmallTypes.ownedTupleIsFree
  refine wpAny_bind (wpAny_field hz rfl (x := .none) rfl (wpAny_pure ?_)); simp only [if_true]
  refine wpAny_bind (wpAny_rule (wpAny_bind (wpAny_field hz rfl (x := .ref TO) rfl (wpAny_bind (wpAny_setField_rec hz (by simp) fun g1 z1 s1 => ?_)))))
  replace z1 : IsZip g1 z TI TO .ellipsis := z1
  refine wpAny_bind ?_; simp only [List.zipIdx_cons, List.zipIdx_nil, List.forIn_cons, List.forIn_nil]; refine wpAny_bind (wpAny_bind (wpAny_onRaise ?_))
  show wpAny _ _ (Builtin.SmallTypes.nextOf (.ref i1) >>= _) _ _ _
  cases ex : xs[k1]? with
  | none =>
    refine wpAny_bind (nxt_end (b := b1) hh (t1.keep fun o e => s1.extBut _ _ n1z e) (q1.keep fun o e => s1.extBut _ _ m1z e) ex fun g2 v s2 hv => ?_)
    obtain ⟨ov, ev, cv⟩ := hv
    have z2 : IsZip g2 z TI TO .ellipsis := s2 _ _ n1z.symm z1
    have nv : v ≠ z := fun h => by subst h; rw [z2] at ev; cases ev; simp at cv
    exact wpAny_setField_rec z2 (by simp) fun g3 _ s3 => q g3 v (fun c o h1 _ h3 _ e => s3.extBut _ _ h1 (s2 _ _ h3 (s1.extBut _ _ h1 e))) ⟨ov, s3.extBut _ _ nv ev, cv⟩
  | some x =>
    have ey : ys[k2]? = none := by rcases hend with h | h; rw [ex] at h; cases h; exact h
    refine wpAny_bind (nxt_item (b := b1) (t1.keep fun o e => s1.extBut _ _ n1z e) (q1.keep fun o e => s1.extBut _ _ m1z e) ex fun g2 u1 s2 => wpAny_pure ?_)
    have o2 : IsPair g2 TO a b := s2.extBut _ _ nO1 (s1.extBut _ _ nOz hO)
    refine wpAny_bind (wpAny_seqItems o2 rfl (wpAny_bind (wpAny_updateSeq_pair o2 fun g3 o3 s3 => wpAny_bind (wpAny_letGo (wpAny_pure ?_)))))
    refine wpAny_bind (wpAny_bind (wpAny_onRaise ?_)); show wpAny _ _ (Builtin.SmallTypes.nextOf (.ref i2) >>= _) _ _ _
    refine wpAny_bind (nxt_end (b := b2) hh (t2.keep fun o e => s3.extBut _ _ nO2.symm (s2.extBut _ _ n12.symm (s1.extBut _ _ n2z e))) (q2.keep fun o e => s3.extBut _ _ m2O (s2.extBut _ _ m21 (s1.extBut _ _ m2z e))) ey fun g4 v s4 hv => ?_)
    obtain ⟨ov, ev, cv⟩ := hv
    have z4 : IsZip g4 z TI TO .ellipsis := s4 _ _ n2z.symm (s3.extBut _ _ nOz.symm (s2.extBut _ _ n1z.symm z1))
    have nv : v ≠ z := fun h => by subst h; rw [z4] at ev; cases ev; simp at cv
    exact wpAny_setField_rec z4 (by simp) fun g5 _ s5 => q g5 v (fun c o h1 h2 h3 h4 e => s5.extBut _ _ h1 (s4 _ _ h4 (s3.extBut _ _ h2 (s2.extBut _ _ h3 (s1.extBut _ _ h1 e))))) ⟨ov, s5.extBut _ _ nv ev, cv⟩
end
end L2
namespace L2
open PySem PySem.Spec PyProof.Rows
section
variable {X : Cx} {pins : List (Addr × Obj)} {σ : St} {H : Hp} {s : Shared} {h' : Heap}
theorem Inv.turnedL {t' : Nat} {ch : List Addr} (I : Inv X pins σ H s) (k : ∀ b o, b ∉ ch → s.heap.get? b = some o → h'.get? b = some o) (hf : ∀ b ∈ ch, FpOk X pins H b) : Inv X pins σ H { s with heap := h', toks := t' } := by
  have nit : ∀ b u, H b = some u → b ∉ ch := fun b u e z => by rw [(hf b z).1] at e; cases e
  have hL : X.env.locals ∉ ch := fun z => (hf _ z).2.1 rfl
  refine I.step (g' := s.gens) (d' := s.drawn) (ch := ch) (fun b hb => ⟨(hf b hb).2.2.2.1, (hf b hb).2.1, (hf b hb).2.2.2.2.1, (hf b hb).2.2.2.2.2⟩) (fun b o _ _ hc e _ => k b o hc e) (fun b o _ _ hc e _ => ⟨o.slots, k b o hc e⟩) (fun _ _ _ _ n => n)
    (fun b o hc e => ⟨o, k b o hc e⟩) (fun _ _ e => e) (fun _ _ _ e => e) (fun b ps e => ⟨#[], by rw [e]; simp⟩) (fun m hm => ?_) (fun b u e => ?_) I.bare
  · obtain ⟨o, es, ep, ho, r⟩ := hm
    exact ⟨o, es, ep, k _ o hL ho, r⟩
  · refine (I.hok b u e).stay (fun c v hc q => k c v ?_ q) (fun _ q => q) fun _ _ q => q
    rcases hc with z | z
    · rw [z]; exact nit b u e
    · exact nit c _ z
theorem Inv.track {T : Addr} {o : HO} (I : Inv X pins σ H s) (f : FpOk X pins H T) (hs : X.s₀.heap.objs.size ≤ T) (new : ObjOk X.prog X.w (upd H T o) s.heap T o) : Inv X pins σ (upd H T o) s := by
  obtain ⟨f0, f1, f2, _, f4, f5⟩ := f
  have old : ∀ b u, X.s₀.heap.get? b = some u → b ≠ T := fun b u e => Nat.ne_of_lt (Nat.lt_of_lt_of_le (Heap.lt_size e) hs)
  refine ⟨I.ok, I.os, I.bare, ⟨I.base.keep, I.base.slot, fun b u e n hx => ?_, I.base.there, fun b xs e => ?_, fun b u v e => ?_, fun b ps e => ?_⟩, I.loc, I.cell, ?_, fun x c e => ?_, fun p hp => ?_, fun b u e => ?_, I.len⟩
  · rw [upd_ne (old b u e)]; exact I.base.free b u e n hx
  · rw [upd_ne (ne_of_none (I.base.tups b xs e) f0)]; exact I.base.tups b xs e
  · rw [upd_ne (ne_of_none (I.base.frzs b u v e) f0)]; exact I.base.frzs b u v e
  · obtain ⟨more, q⟩ := I.base.tbls b ps e
    exact ⟨more, by rw [upd_ne (ne_of_none q f0)]; exact q⟩
  · rw [upd_ne (Ne.symm f1)]; exact I.free
  · rw [upd_ne (f4 x c e)]; exact I.freeC x c e
  · obtain ⟨e, n, ne, nf, d⟩ := I.pin p hp
    exact ⟨e, by rw [upd_ne (f5 p hp)]; exact n, ne, nf, d⟩
  · by_cases hb : b = T
    · subst hb
      rw [upd_same] at e
      cases e
      exact new
    · rw [upd_ne hb] at e
      exact (I.hok b u e).stay (fun c v _ q => q) (fun c q => by rw [upd_ne (ne_of_none q f0)]; exact q) fun c xs q => by rw [upd_ne (ne_of_none q f0)]; exact q
end
def SqB (K : PySem.W.Frag) (H : Hp) : Bool → Addr → List V → Prop
  | false, a, xs => SqL K H a xs
  | true, a, xs => SqT K H a xs
theorem SqB.at {X : Cx} {pins : List (Addr × Obj)} {σ : St} {H : Hp} {s : Shared} (I : Inv X pins σ H s) : ∀ {b : Bool} {a : Addr} {xs : List V}, SqB X.K H b a xs → ∃ its : List Value, Vals xs its ∧ SSq s.heap b a its.toArray ∧ xs.length ≤ sizeLine
  | false, _, _, h => let ⟨its, r, p, z⟩ := I.list h; ⟨its, r, p.isList, z⟩
  | true, _, _, h => let ⟨its, r, p, z⟩ := I.tuple h; ⟨its, r, p, z⟩
theorem SqB.inj {X : Cx} {pins : List (Addr × Obj)} {σ : St} {H : Hp} {s : Shared} (I : Inv X pins σ H s) : ∀ {b : Bool} {a : Addr} {xs ys : List V}, SqB X.K H b a xs → SqB X.K H b a ys → xs = ys
  | false, _, _, _, h, h' => I.list_inj h h'
  | true, _, _, _, h, h' => I.tuple_inj h h'
def Itz (K : PySem.W.Frag) (b1 b2 : Bool) (l1 l2 : Addr) : It :=
  ⟨fun i H => ∃ xs ys x y, SqB K H b1 l1 xs ∧ SqB K H b2 l2 ys ∧ xs[i]? = some x ∧ ys[i]? = some y,
   fun i H v H' => ∃ p x y, H p = none ∧ v = .ref p ∧ H' = upd H p (.tup [x, y]) ∧ (∀ xs, SqB K H b1 l1 xs → xs[i]? = some x) ∧ ∀ ys, SqB K H b2 l2 ys → ys[i]? = some y,
   fun i H => ∃ xs ys, SqB K H b1 l1 xs ∧ SqB K H b2 l2 ys ∧ (xs.length ≤ i ∨ ys.length ≤ i)⟩
section
variable {prog : Program} {w : World} {A : Around} {E : Value → Shared → Prop} {s : Shared}
theorem zipP_item {z TI TO i1 i2 l1 l2 : Addr} {b1 b2 : Bool} {k1 k2 : Nat} {xs ys : Array Value} {x y a b : Value} {Q : Option Value → Shared → Prop} (D : ZAp z TI TO i1 i2 l1 l2)
    (hz : IsZip s.heap z TI TO .none) (hI : IsPair s.heap TI (.ref i1) (.ref i2)) (hO : IsPair s.heap TO a b) (t1 : SIt s.heap b1 i1 l1 k1) (t2 : SIt s.heap b2 i2 l2 k2) (q1 : SSq s.heap b1 l1 xs) (q2 : SSq s.heap b2 l2 ys) (ex : xs[k1]? = some x) (ey : ys[k2]? = some y)
    (q : ∀ g, IsZip g z TI TO (rawInt s.heap.objs.size) → IsPair g TO x y → SIt g b1 i1 l1 (k1 + 1) → SIt g b2 i2 l2 (k2 + 1) → IsPair g s.heap.objs.size x y → (∀ c o, c ≠ z → c ≠ TO → c ≠ i1 → c ≠ i2 → s.heap.get? c = some o → g.get? c = some o) → Q (some (.ref s.heap.objs.size)) { s with heap := g }) :
    wpAny (model prog w) A (pyNext (.ref z)) Q E s := by
  have ty : s.TypeIs (.ref z) "zip" := ⟨_, hz, rfl⟩
  unfold pyNext
  exact wpAny_bind (wpAny_attempt (wpAny_callSpecial?_slot (name := Str.ofString "__next__") ty PySem.F.slot_zip_next (wpAny_call_entry PySem.F.slot_zip_next ty PySem.F.entry_zip_next (zipN_item D hz hI hO t1 t2 q1 q2 ex ey fun g a1 a2 a3 a4 a5 a6 => wpAny_pure (q g a1 a2 a3 a4 a5 a6)) (PySem.F.args_zip_next_1 _))))
theorem zipP_end {z TI TO i1 i2 l1 l2 : Addr} {b1 b2 : Bool} {k1 k2 : Nat} {xs ys : Array Value} {a b : Value} {Q : Option Value → Shared → Prop} (hh : A.handled = none) (D : ZAp z TI TO i1 i2 l1 l2)
    (hz : IsZip s.heap z TI TO .none) (hI : IsPair s.heap TI (.ref i1) (.ref i2)) (hO : IsPair s.heap TO a b) (t1 : SIt s.heap b1 i1 l1 k1) (t2 : SIt s.heap b2 i2 l2 k2) (q1 : SSq s.heap b1 l1 xs) (q2 : SSq s.heap b2 l2 ys) (hend : xs[k1]? = none ∨ ys[k2]? = none)
    (q : ∀ g, (∀ c o, c ≠ z → c ≠ TO → c ≠ i1 → c ≠ i2 → s.heap.get? c = some o → g.get? c = some o) → Q none { s with heap := g }) : wpAny (model prog w) A (pyNext (.ref z)) Q E s := by
  have ty : s.TypeIs (.ref z) "zip" := ⟨_, hz, rfl⟩
  unfold pyNext
  refine wpAny_bind (wpAny_attempt (wpAny_callSpecial?_slot (name := Str.ofString "__next__") ty PySem.F.slot_zip_next (wpAny_call_entry PySem.F.slot_zip_next ty PySem.F.entry_zip_next (zipN_end hh D hz hI hO t1 t2 q1 q2 hend fun g e hk he => ?_) (PySem.F.args_zip_next_1 _))))
  obtain ⟨o, ho, hc⟩ := he
  exact wpAny_bind (wpAny_isInstance (T := "StopIteration") (b := true) ⟨o, ho, hc⟩ isSubtype_stop (wpAny_pure (q _ hk)))
end
theorem turn_zip {P : Program} {w : World} {K : PySem.W.Frag} {elts : List Expr} {kk : Nat} {tp : Pos} {b1 b2 : Bool} (z TI TO i1 i2 l1 l2 : Addr) (D : ZAp z TI TO i1 i2 l1 l2) :
    Turn P w K (.Tuple elts kk tp) (Itz K b1 b2 l1 l2) [z, TI, TO, i1, i2] z (fun i h => IsZip h z TI TO .none ∧ IsPair h TI (.ref i1) (.ref i2) ∧ (∃ a b, IsPair h TO a b) ∧ SIt h b1 i1 l1 i ∧ SIt h b2 i2 l2 i) where
  mem := by simp
  obj := fun i h st b hb => by
    obtain ⟨hz, hI, ⟨a, c, hO⟩, t1, t2⟩ := st
    simp only [List.mem_cons, List.not_mem_nil, or_false] at hb
    rcases hb with rfl | rfl | rfl | rfl | rfl
    · exact ⟨_, hz, fun v q => by cases q⟩
    · exact ⟨_, hI, fun v q => by cases q⟩
    · exact ⟨_, hO, fun v q => by cases q⟩
    · obtain ⟨o, e, vs, d⟩ := t1.obj
      exact ⟨o, e, fun v q => by rw [d] at q; cases q⟩
    · obtain ⟨o, e, vs, d⟩ := t2.obj
      exact ⟨o, e, fun v q => by rw [d] at q; cases q⟩
  keep := fun i h h' st k => by
    obtain ⟨hz, hI, ⟨a, c, hO⟩, t1, t2⟩ := st
    exact ⟨k z (by simp) _ hz, k TI (by simp) _ hI, ⟨a, c, k TO (by simp) _ hO⟩, t1.keep fun o e => k i1 (by simp) o e, t2.keep fun o e => k i2 (by simp) o e⟩
  item := by
    intro X hP hw hK hc i pins s σ H E I hf st hg
    subst hP hw hK
    obtain ⟨hz, hI, ⟨a, c, hO⟩, t1, t2⟩ := st
    obtain ⟨xs, ys, x, y, hx, hy, ex, ey⟩ := hg
    obtain ⟨its, rv, q1, z1⟩ := SqB.at I hx
    obtain ⟨jts, rw', q2, z2⟩ := SqB.at I hy
    obtain ⟨u, hu, ru⟩ := rv.get ex
    obtain ⟨v, hv, rv'⟩ := rw'.get ey
    refine zipP_item D hz hI hO t1 t2 q1 q2 (x := u) (y := v) (by simpa using hu) (by simpa using hv) fun g a1 a2 a3 a4 a5 a6 => ⟨_, rfl, ?_⟩
    refine wpAny_letOwnedTupleGo_zip a1 fun g' a1' sb => ?_
    obtain ⟨⟨nIz, nOz, n1z, n2z, nIO, nI1, nI2, nO1, nO2, n12⟩, lne⟩ := id D
    have hT : ∀ b ∈ [z, TI, TO, i1, i2], s.heap.objs.size ≠ b := fun b hb => by
      have : ∃ o, s.heap.get? b = some o := by
        simp only [List.mem_cons, List.not_mem_nil, or_false] at hb
        rcases hb with rfl | rfl | rfl | rfl | rfl
        · exact ⟨_, hz⟩
        · exact ⟨_, hI⟩
        · exact ⟨_, hO⟩
        · obtain ⟨o, e, _⟩ := t1.obj; exact ⟨o, e⟩
        · obtain ⟨o, e, _⟩ := t2.obj; exact ⟨o, e⟩
      obtain ⟨o, e⟩ := this
      exact Nat.ne_of_gt (Heap.lt_size e)
    have kk : ∀ b o, b ∉ [z, TI, TO, i1, i2] → s.heap.get? b = some o → g'.get? b = some o := fun b o hb e => by
      simp only [List.mem_cons, List.not_mem_nil, or_false, not_or] at hb
      exact sb.extBut _ _ hb.1 (a6 b o hb.1 hb.2.2.1 hb.2.2.2.1 hb.2.2.2.2 e)
    have I1 : Inv X pins σ H { s with heap := g' } := I.turnedL (t' := s.toks) kk hf
    have pT : IsPair g' s.heap.objs.size u v := sb.extBut _ _ (hT z (by simp)) a5
    have fT : FpOk X pins H s.heap.objs.size := I.fpOk (Nat.le_refl _) (I.hok.fresh (Nat.le_refl _))
    have I2 : Inv X pins σ (upd H s.heap.objs.size (.tup [x, y])) { s with heap := g' } := I1.track fT I.sz ⟨by show 2 ≤ sizeLine; decide, [u, v], .cons ru (.cons rv' .nil), ⟨_, pT, rfl, _, rfl⟩⟩
    refine ⟨.ref s.heap.objs.size, _, I2, rfl, ⟨_, x, y, I.hok.fresh (Nat.le_refl _), rfl, rfl, fun xs' h => by rw [SqB.inj I h hx]; exact ex, fun ys' h => by rw [SqB.inj I h hy]; exact ey⟩, ?_, fun b hb => ?_⟩
    · exact ⟨a1', sb.extBut _ _ nIz (a6 TI _ nIz nIO nI1 nI2 hI), ⟨u, v, sb.extBut _ _ nOz a2⟩, a3.keep fun o e => sb.extBut _ _ n1z e, a4.keep fun o e => sb.extBut _ _ n2z e⟩
    · rw [upd_ne (Ne.symm (hT b hb))]
      exact (hf b hb).1
  done := by
    intro X hP hw hK hc i pins s σ H E I hf st hg
    subst hP hw hK
    obtain ⟨hz, hI, ⟨a, c, hO⟩, t1, t2⟩ := st
    obtain ⟨xs, ys, hx, hy, hend⟩ := hg
    obtain ⟨its, rv, q1, z1⟩ := SqB.at I hx
    obtain ⟨jts, rw', q2, z2⟩ := SqB.at I hy
    have e1 := rv.length
    have e2 := rw'.length
    refine zipP_end (I.ok.hd hc) D hz hI hO t1 t2 q1 q2 (by
      rcases hend with h | h
      · exact .inl (by simp; omega)
      · exact .inr (by simp; omega)) fun g k => ⟨rfl, I.turnedL (t' := s.toks) (ch := [z, TI, TO, i1, i2]) (fun b o hb e => ?_) hf⟩
    simp only [List.mem_cons, List.not_mem_nil, or_false, not_or] at hb
    exact k b o hb.1 hb.2.2.1 hb.2.2.2.1 hb.2.2.2.2 e
  self := fun _ _ _ _ _ st h => wpAny_pyIter_zip st.1 h
end L2
namespace L2
open PySem PySem.Spec PyProof.Rows
def itObj (b : Bool) (l : Addr) : Obj := { cls := .type (if b = true then "tuple_iterator" else "list_iterator"), data := .fields #[.ref l, .int 0 0] }
theorem SIt.new {h : Heap} : ∀ {b : Bool} {it l : Addr}, h.get? it = some (itObj b l) → SIt h b it l 0
  | false, _, _, e => ⟨_, e, rfl, rfl⟩
  | true, _, _, e => ⟨_, e, rfl, rfl⟩
def zg2 (h : Heap) (b1 b2 : Bool) (l1 l2 : Addr) : Heap := (h.push (itObj b1 l1)).push (itObj b2 l2)
def zg3 (h : Heap) (b1 b2 : Bool) (l1 l2 : Addr) : Heap := (zg2 h b1 b2 l1 l2).push { cls := .type "tuple", data := .seq #[.ref h.objs.size, .ref (h.push (itObj b1 l1)).objs.size] }
def zg4 (h : Heap) (b1 b2 : Bool) (l1 l2 : Addr) : Heap := (zg3 h b1 b2 l1 l2).push { cls := .type "tuple", data := .seq #[.none, .none] }
def zg5 (h : Heap) (b1 b2 : Bool) (l1 l2 : Addr) : Heap := (zg4 h b1 b2 l1 l2).push { cls := .type "zip", data := .fields #[.none, .bool false, .bool false, .ref (zg2 h b1 b2 l1 l2).objs.size, .ref (zg3 h b1 b2 l1 l2).objs.size] }
theorem iterB {prog : Program} {w : World} {A : Around} {E : Value → Shared → Prop} {s : Shared} {l : Addr} {xs : Array Value} {Q : Value → Shared → Prop} : ∀ {b : Bool}, SSq s.heap b l xs → Q (.ref s.heap.objs.size) { s with heap := s.heap.push (itObj b l) } → wpAny (model prog w) A (pyIter (.ref l)) Q E s
  | false, h, q => wpAny_pyIter_list h q
  | true, h, q => wpAny_pyIter_tuple h q
theorem SSq.push {h : Heap} {b : Bool} {l : Addr} {xs : Array Value} (x : SSq h b l xs) (o : Obj) : SSq (h.push o) b l xs := x.keep fun _ e => Heap.get?_push_of_some _ e
set_option maxHeartbeats 8000000 in
theorem zip_new (b1 b2 : Bool) (l1 l2 : Addr) (xs ys : Array Value) :
    Meets (Builtin.«zip.__new__» ⟨[.type "zip", .ref l1, .ref l2], []⟩) (fun _ R s => SSq s.heap b1 l1 xs ∧ SSq s.heap b2 l2 ys ∧ R (.ok (.ret (.ref (zg4 s.heap b1 b2 l1 l2).objs.size))) { s with heap := zg5 s.heap b1 b2 l1 l2 }) :=
  .of_wp fun prog w A R s h => by
    obtain ⟨hp, g, d, tk, os⟩ := s
    obtain ⟨h1, h2, h⟩ := h
    have hsub := PySem.sub_zip
    have e1 : SSq (Shared.heap ⟨hp, g, d, tk, os⟩) b1 l1 xs := h1
    have e2 : SSq (Shared.heap ⟨hp.push (itObj b1 l1), g, d, tk, os⟩) b2 l2 ys := SSq.push h2 _
    wp_walk using iterB e1, iterB e2
    exact ⟨_, rfl, h⟩
section
variable {prog : Program} {w : World} {A : Around} {E : Value → Shared → Prop} {s : Shared}
theorem call_zipB {b1 b2 : Bool} {l1 l2 : Addr} {xs ys : Array Value} {Q : Value → Shared → Prop} (h1 : SSq s.heap b1 l1 xs) (h2 : SSq s.heap b2 l2 ys)
    (h : ∀ g n, n = s.heap.objs.size → IsZip g (n + 4) (n + 2) (n + 3) .none → IsPair g (n + 2) (.ref n) (.ref (n + 1)) → IsPair g (n + 3) .none .none → SIt g b1 n l1 0 → SIt g b2 (n + 1) l2 0 →
      (∀ c o, s.heap.get? c = some o → g.get? c = some o) → Q (.ref (n + 4)) { s with heap := g }) : wpAny (model prog w) A (call (.type "zip") [.ref l1, .ref l2]) Q E s := by
  refine callType_new PySem.F.called_zip (by decide) (PySem.F.typeCall_zip_2 _ _) (PySem.F.newCall_zip_2 _ _) (fun obj => PySem.F.args_object_init_3 obj _ _) PySem.F.entry_zip_new (zip_new b1 b2 l1 l2 xs ys) ⟨h1, h2, ?_⟩
  have e1 : (s.heap.push (itObj b1 l1)).objs.size = s.heap.objs.size + 1 := Heap.size_push ..
  have e2 : (zg2 s.heap b1 b2 l1 l2).objs.size = s.heap.objs.size + 2 := by unfold zg2; rw [Heap.size_push, e1]
  have e3 : (zg3 s.heap b1 b2 l1 l2).objs.size = s.heap.objs.size + 3 := by unfold zg3; rw [Heap.size_push, e2]
  have e4 : (zg4 s.heap b1 b2 l1 l2).objs.size = s.heap.objs.size + 4 := by unfold zg4; rw [Heap.size_push, e3]
  have p : ∀ {c : Addr} {o : Obj}, (zg4 s.heap b1 b2 l1 l2).get? c = some o → (zg5 s.heap b1 b2 l1 l2).get? c = some o := fun q => Heap.get?_push_of_some _ q
  have p4 : ∀ {c : Addr} {o : Obj}, (zg3 s.heap b1 b2 l1 l2).get? c = some o → (zg4 s.heap b1 b2 l1 l2).get? c = some o := fun q => Heap.get?_push_of_some _ q
  have p3 : ∀ {c : Addr} {o : Obj}, (zg2 s.heap b1 b2 l1 l2).get? c = some o → (zg3 s.heap b1 b2 l1 l2).get? c = some o := fun q => Heap.get?_push_of_some _ q
  have p2 : ∀ {c : Addr} {o : Obj}, (s.heap.push (itObj b1 l1)).get? c = some o → (zg2 s.heap b1 b2 l1 l2).get? c = some o := fun q => Heap.get?_push_of_some _ q
  have g5 : (zg5 s.heap b1 b2 l1 l2).get? (zg4 s.heap b1 b2 l1 l2).objs.size = some _ := Heap.get?_push_size _ rfl
  have g4 : (zg5 s.heap b1 b2 l1 l2).get? (zg3 s.heap b1 b2 l1 l2).objs.size = some _ := p (Heap.get?_push_size _ rfl)
  have g3 : (zg5 s.heap b1 b2 l1 l2).get? (zg2 s.heap b1 b2 l1 l2).objs.size = some _ := p (p4 (Heap.get?_push_size _ rfl))
  have g2 : (zg5 s.heap b1 b2 l1 l2).get? (s.heap.push (itObj b1 l1)).objs.size = some _ := p (p4 (p3 (Heap.get?_push_size _ rfl)))
  have g1 : (zg5 s.heap b1 b2 l1 l2).get? s.heap.objs.size = some _ := p (p4 (p3 (p2 (Heap.get?_push_size _ rfl))))
  show _ ∧ _
  rw [e2, e3, e4] at g5
  rw [e1, e2] at g3
  rw [e3] at g4
  rw [e1] at g2
  rw [e4]
  exact ⟨⟨_, g5, rfl⟩, h _ _ rfl g5 g3 g4 (SIt.new g1) (SIt.new g2) fun c o x => p (p4 (p3 (p2 (Heap.get?_push_of_some _ x))))⟩
end
section
variable {X : Cx}
def iZip (K : PySem.W.Frag) (ta : TA) : TI := fun σ H R => ta σ H fun vs H1 => ∃ b1 b2 l1 l2 xs ys, vs = [.ref l1, .ref l2] ∧ SqB K H1 b1 l1 xs ∧ SqB K H1 b2 l2 ys ∧ R (Itz K b1 b2 l1 l2) H1
theorem pi_zip {a b : Expr} {ta : TA} {p pos tp : Pos} {elts : List Expr} {kk : Nat} (hg : Gl X "zip") (hm : X.mg "zip" = none) (ha : PA X [a, b] ta) (hs : starEach [a, b] X.env = [(false, eval a X.env), (false, eval b X.env)] := by rfl) (hs2 : starEach [b] X.env = [(false, eval b X.env)] := by rfl) :
    PI X (.Tuple elts kk tp) (.Call (.Name "zip" p) [a, b] [] pos) (iZip X.K ta) := by
  intro pins s σ H R I h
  refine Call_ (ld_blt I hg hm PyProof.Rows.Boot.«zip» (PyProof.Rows.callWith_type1 (thn (ha pos pins s σ H _ I h) fun us s1 ⟨vs, H1, I1, r1, q1⟩ => ?_) (by rw [hs, hs2]) (by rw [hs2]; rfl)))
  obtain ⟨b1, b2, l1, l2, xs, ys, rfl, hx, hy, q⟩ := q1
  obtain ⟨u, u', rfl, ru, ru'⟩ := vals2 r1
  cases ru
  cases ru'
  obtain ⟨its, rv, s1', z1⟩ := SqB.at I1 hx
  obtain ⟨jts, rw', s2', z2⟩ := SqB.at I1 hy
  refine call_zipB s1' s2' fun g n hn a1 a2 a3 a4 a5 k => ?_
  have lt : ∀ c, c = l1 ∨ c = l2 → c < n := fun c hc => by
    rw [hn]
    rcases hc with rfl | rfl
    · obtain ⟨o, e, _⟩ := s1'.obj; exact Heap.lt_size e
    · obtain ⟨o, e, _⟩ := s2'.obj; exact Heap.lt_size e
  refine wpAny_pyIter_zip a1 ⟨n + 4, [n + 4, n + 2, n + 3, n, n + 1], _, _, H1, rfl, I1.kept (t' := s1.toks) k, turn_zip (n + 4) (n + 2) (n + 3) n (n + 1) l1 l2 ⟨?_, fun c hc => ?_⟩, ⟨a1, a2, ⟨_, _, a3⟩, a4, a5⟩, fun b hb => ?_, q⟩
  · have e : ∀ i j : Nat, i ≠ j → n + i ≠ n + j := fun i j h z => h (Nat.add_left_cancel z)
    exact ⟨e 2 4 (by decide), e 3 4 (by decide), e 0 4 (by decide), e 1 4 (by decide), e 2 3 (by decide), e 2 0 (by decide), e 2 1 (by decide), e 3 0 (by decide), e 3 1 (by decide), e 0 1 (by decide)⟩
  · have q := lt c hc
    have e : ∀ i : Nat, c ≠ n + i := fun i => Nat.ne_of_lt (Nat.lt_of_lt_of_le q (Nat.le_add_right _ _))
    exact ⟨e 4, e 3, e 0, e 1, e 2⟩
  · have e : ∀ i : Nat, FpOk X pins H1 (n + i) := fun i => I1.fpOk (by rw [hn]; exact Nat.le_add_right _ _) (I1.hok.fresh (by rw [hn]; exact Nat.le_add_right _ _))
    simp only [List.mem_cons, List.not_mem_nil, or_false] at hb
    rcases hb with rfl | rfl | rfl | rfl | rfl
    · exact e 4
    · exact e 2
    · exact e 3
    · exact e 0
    · exact e 1
end
end L2
namespace L2
open PySem PySem.Spec PyProof.Rows
open PySem.Builtin.Str in
section
variable {X : Cx}
end
@[irreducible] def rStrAny : List V → Hp → VK → Prop := fun xs H Q => (∃ z : Str, xs = [.str z] ∧ Q (.str z) H) ∨ ∃ i : Int, xs = [.int i] ∧ i.natAbs.log2 < 1920 ∧ Q (.str (toString i)) H
section
variable {X : Cx}
end
mutual
inductive Dt (K : PySem.W.Frag) (H : Hp) : V → PyData → Prop
  | non : Dt K H .non .none
  | bl (b : Bool) : Dt K H (.bl b) (.bool b)
  | int (i : Int) : Dt K H (.int i) (.int i)
  | str (x : Str) : Dt K H (.str x) (.str x)
  | lst {a : Addr} {xs : List V} {ds : List PyData} : SqL K H a xs → DtAll K H xs ds → Dt K H (.ref a) (.list ds)
  | tup {a : Addr} {xs : List V} {ds : List PyData} : SqT K H a xs → DtAll K H xs ds → Dt K H (.ref a) (.tuple ds)
inductive DtAll (K : PySem.W.Frag) (H : Hp) : List V → List PyData → Prop
  | nil : DtAll K H [] []
  | cons {v : V} {vs : List V} {d : PyData} {ds : List PyData} : Dt K H v d → DtAll K H vs ds → DtAll K H (v :: vs) (d :: ds)
end
section
variable {X : Cx} {pins : List (Addr × Obj)} {σ : St} {H : Hp} {s : Shared}
mutual
theorem Dt.reads (I : Inv X pins σ H s) : ∀ {v : V} {d : PyData}, Dt X.K H v d → ∀ {u : Value}, RelV v u → ∃ as, Reads s.heap u d as
  | _, _, .non, _, r => by cases r; exact ⟨_, .none⟩
  | _, _, .bl b, _, r => by cases r; exact ⟨_, .bool b⟩
  | _, _, .int i, _, r => by obtain ⟨t, rfl⟩ := r; exact ⟨_, .int i t⟩
  | _, _, .str x, _, r => by obtain ⟨t, rfl⟩ := r; exact ⟨_, .str x t⟩
  | _, _, .lst hq ha, _, r => by
    cases r
    obtain ⟨its, rv, ⟨o, n, e, c, _, d⟩, _⟩ := I.list hq
    obtain ⟨as, z⟩ := DtAll.reads I ha rv
    exact ⟨_, .list e c d (by simpa using z)⟩
  | _, _, .tup hq ha, _, r => by
    cases r
    obtain ⟨its, rv, ⟨o, e, c, n, d⟩, _⟩ := I.tuple hq
    obtain ⟨as, z⟩ := DtAll.reads I ha rv
    exact ⟨_, .tuple e c d (by simpa using z)⟩
theorem DtAll.reads (I : Inv X pins σ H s) : ∀ {vs : List V} {ds : List PyData}, DtAll X.K H vs ds → ∀ {us : List Value}, Vals vs us → ∃ as, ReadsAll s.heap us ds as
  | _, _, .nil, _, r => by cases r; exact ⟨_, .nil⟩
  | _, _, .cons h t, _, r => by
    cases r with
    | cons r1 r2 =>
      obtain ⟨as, z⟩ := Dt.reads I h r1
      obtain ⟨bs, z'⟩ := DtAll.reads I t r2
      exact ⟨_, .cons z z'⟩
end
end
section
variable {X : Cx}
theorem op_eqD (hu : X.A.units + 64 < cLine) : OpR X (compareOp .Eq) (fun x y H Q => ∃ d e, Dt X.K H x d ∧ Dt X.K H y e ∧ SeqAt.shaped d = true ∧ SeqAt.shaped e = true ∧ Q (.bl (PyData.eqv d e)) H) := by
  intro pins s σ H x y v u Q I rx ry h
  obtain ⟨d, e, h1, h2, s1, s2, q⟩ := h
  obtain ⟨as, r1⟩ := h1.reads I rx
  obtain ⟨bs, r2⟩ := h2.reads I ry
  exact eq_dataH r1 r2 s1 s2 hu ⟨.bl _, H, I, rfl, q⟩
theorem op_neD (hu : X.A.units + 64 < cLine) : OpR X (compareOp .NotEq) (fun x y H Q => ∃ d e, Dt X.K H x d ∧ Dt X.K H y e ∧ SeqAt.shaped d = true ∧ SeqAt.shaped e = true ∧ Q (.bl (!PyData.eqv d e)) H) := by
  intro pins s σ H x y v u Q I rx ry h
  obtain ⟨d, e, h1, h2, s1, s2, q⟩ := h
  obtain ⟨as, r1⟩ := h1.reads I rx
  obtain ⟨bs, r2⟩ := h2.reads I ry
  exact ne_dataH r1 r2 s1 s2 hu ⟨.bl _, H, I, rfl, q⟩
end
theorem comp_zip {K : PySem.W.Frag} {b1 b2 : Bool} {l1 l2 : Addr} {xs zs : List V} {g : TG} {tt : TT} {te : TE} {Fin : List V → Hp → Prop} {σ : St} {H : Hp} (Pv : Nat → List V → St → Hp → Prop) (h0 : Pv 0 [] σ H) (hz : ∀ i ys σ H, Pv i ys σ H → ys.length ≤ i) (hx : xs.length ≤ sizeLine) (hl : ∀ i ys σ H, Pv i ys σ H → SqB K H b1 l1 xs ∧ SqB K H b2 l2 zs)
    (hs : ∀ i x z ys σ H p, xs[i]? = some x → zs[i]? = some z → Pv i ys σ H → H p = none → g (.ref p) σ (upd H p (.tup [x, z])) fun σ2 H2 => tt σ2 H2 fun b H3 => if b = true then te σ2 H3 fun y H4 => Pv (i + 1) (ys ++ [y]) σ2 H4 else Pv (i + 1) ys σ2 H3)
    (hd : ∀ ys σ H, Pv (min xs.length zs.length) ys σ H → Fin ys H) : ∃ W : Nat → Nat → List V → St → Hp → Prop, (∃ m, W 0 m [] σ H) ∧ CompTurns (Itz K b1 b2 l1 l2) g tt te Fin W := by
  refine ⟨fun i m ys σ H => m = min xs.length zs.length - i ∧ i ≤ min xs.length zs.length ∧ Pv i ys σ H, ⟨_, rfl, Nat.zero_le _, h0⟩, ?_⟩
  rintro i m ys σ H ⟨rfl, hi, p⟩
  have hl' := hz i ys σ H p
  obtain ⟨q1, q2⟩ := hl i ys σ H p
  by_cases hlt : i < min xs.length zs.length
  · have h1 : i < xs.length := by omega
    have h2 : i < zs.length := by omega
    refine .inr ⟨⟨xs, zs, xs[i], zs[i], q1, q2, by simp [h1], by simp [h2]⟩, by omega, Pv (i + 1), fun ys' σ' H' p' => ⟨_, by omega, rfl, hlt, p'⟩, fun v H' y => ?_⟩
    obtain ⟨a, x, y, hn, rfl, rfl, e1, e2⟩ := y
    exact hs i x y ys σ H a (e1 xs q1) (e2 zs q2) p hn
  · have e : i = min xs.length zs.length := by omega
    subst e
    exact .inl ⟨⟨xs, zs, q1, q2, by omega⟩, by omega, hd ys σ H p⟩
end L2
namespace L2
open PySem PySem.Spec PyProof.Rows
section
variable {X : Cx} {tg : Expr}
end
def KD (P : Program) (w : World) (K : PySem.W.Frag) (a : Addr) (kvs : List (Key × V)) : Prop := ∀ h : Heap, K.In h → (a == sysModules) = false ∧ ∃ vs, KV kvs vs ∧ h.DictOf (mixKind P w) a vs
theorem kd_pairs {P : Program} {w : World} : ∀ {rows : List (Str × Tok × V × Value)}, Pairs (mixKind P w) (rows.map fun r => ⟨hashStr w r.1, .str r.1 r.2.1, r.2.2.2⟩) (rows.map fun r => ((Sum.inr r.1 : Key), r.2.2.2))
  | [] => .nil
  | r :: rs => .cons (by show Value.isStrOf r.1 (.str r.1 r.2.1) = true; simp [Value.isStrOf]) rfl kd_pairs
theorem kd_rel : ∀ {rows : List (Str × Tok × V × Value)}, (∀ r ∈ rows, RelV r.2.2.1 r.2.2.2) → KV (rows.map fun r => ((Sum.inr r.1 : Key), r.2.2.1)) (rows.map fun r => ((Sum.inr r.1 : Key), r.2.2.2))
  | [], _ => .nil
  | r :: rs, h => .cons ⟨rfl, h r List.mem_cons_self⟩ (kd_rel fun q hq => h q (List.mem_cons_of_mem _ hq))
theorem KD.mk {P : Program} {w : World} {K : PySem.W.Frag} {a : Addr} {es : Array DictEntry} {n : Nat} (rows : List (Str × Tok × V × Value)) (lk : K.lookup a = some ⟨.type "dict", none, .dict es n, #[]⟩) (hne : (a == sysModules) = false)
    (hes : es.toList = rows.map fun r => ⟨hashStr w r.1, .str r.1 r.2.1, r.2.2.2⟩) (hr : ∀ r ∈ rows, RelV r.2.2.1 r.2.2.2) (nd : (rows.map (·.1)).Nodup) : KD P w K a (rows.map fun r => ((Sum.inr r.1 : Key), r.2.2.1)) := fun h hK => by
  refine ⟨hne, _, kd_rel hr, _, es, n, hK a _ lk, ⟨rfl, rfl, rfl⟩, rfl, fun e he => ?_, by rw [hes]; exact kd_pairs, ?_⟩
  · have he' : e ∈ es.toList := by simpa using he
    rw [hes] at he'
    obtain ⟨r, _, rfl⟩ := List.mem_map.mp he'
    exact ⟨.inr r.1, by show Value.isStrOf r.1 (.str r.1 r.2.1) = true; simp [Value.isStrOf], rfl⟩
  · rw [List.map_map]
    have e : ((fun x : Key × Value => x.1) ∘ fun r : Str × Tok × V × Value => ((Sum.inr r.1 : Key), r.2.2.2)) = (fun x : Str => (Sum.inr x : Key)) ∘ (fun r : Str × Tok × V × Value => r.1) := rfl
    rw [e, ← List.map_map]
    exact List.Pairwise.map _ (fun a b h q => h (Sum.inr.inj q)) nd
section
variable {X : Cx}
end
end L2
namespace L2
open PySem PySem.Spec PyProof.Rows PySem.NumText
theorem pg_tupC {X : Cx} {pins : List (Addr × Obj)} {Nc : List Str} {scope : Scope} {fp : List Addr} {s : Shared} {H : Hp} {C : Addr} {es : List Expr} {k : Nat} {t : TGs} {pos : Pos} (n : Nat) (hc : X.calm = true) (h : PGs (X.comp pins Nc scope fp s H C) es t)
    (hn : (assignEach es (X.comp pins Nc scope fp s H C).env).length = n := by rfl) (hst : (assignEach es (X.comp pins Nc scope fp s H C).env).findIdx? (·.1) = none := by rfl) : PG (X.comp pins Nc scope fp s H C) (.Tuple es k pos) (gTup X.K n t) :=
  pg_tup (X := X.comp pins Nc scope fp s H C) hc h hn hst
end L2
namespace L2
open PySem PySem.Spec PyProof.Rows
section
variable {X : Cx}
theorem oi_fdivW : OpR X (binaryOp .FloorDiv) (fun x y H Q => ∃ i j, x = .int i ∧ y = .int j ∧ (0 < j ∧ j.natAbs.log2 < 9000) ∧ Q (.int (i / j)) H) := by
  have z : OpR X (binaryOp .FloorDiv) (rI (fun _ j => 0 < j ∧ j.natAbs.log2 < 9000) fun i j => .int (i / j)) := opI fun i j _ _ _ _ _ hc q => by
    have h1 : (0 : Int) < j := hc.1
    exact floordiv_int (by omega) (by rw [Int.fdiv_eq_ediv_of_nonneg i (by omega)]; exact q) (.inl (PyProof.noPylong_of_log2 hc.2))
  exact z
theorem oi_and : OpR X (binaryOp .BitAnd) (fun x y H Q => ∃ i j, x = .int i ∧ y = .int j ∧ Q (.int (Builtin.bitAnd i j)) H) := op_and
theorem oi_or : OpR X (binaryOp .BitOr) (fun x y H Q => ∃ i j, x = .int i ∧ y = .int j ∧ Q (.int (Builtin.bitOr i j)) H) := op_or
theorem oi_xor : OpR X (binaryOp .BitXor) (fun x y H Q => ∃ i j, x = .int i ∧ y = .int j ∧ Q (.int (Builtin.bitXor i j)) H) := op_xor
end
end L2
namespace L2
open PySem PySem.Spec PyProof.Rows
theorem str_yes {x y : Str} (c : decide (V.str x = V.str y) = true) : x = y := by injection (of_decide_eq_true c)
theorem str_no {x y : Str} (c : ¬ decide (V.str x = V.str y) = true) : ¬ x = y := fun e => c (decide_eq_true (by rw [e]))
theorem int_yes {x y : Int} (c : decide (V.int x = V.int y) = true) : x = y := by injection (of_decide_eq_true c)
theorem int_no {x y : Int} (c : ¬ decide (V.int x = V.int y) = true) : ¬ x = y := fun e => c (decide_eq_true (by rw [e]))
end L2
namespace L2
open PySem
def txt (v : Value) : Str := match v with | .str x _ => x | _ => ""
structure TxtTab (P : Program) (w : World) (es : Array (Int × Value)) (t : SetTable) (ys : List Str) : Prop where
  el : ElemsOf (strKind P w) es.toList
  nd : (es.toList.map fun e => txt e.2).Nodup
  mem : ∀ k, k ∈ (es.toList.map fun e => txt e.2) ↔ k ∈ ys
  few : es.size < scanBound
  fit : t.fits es.size = true
  led : t.led = !w.params.followText "set-order"
  pl : 0 < es.size → t.plain = false
def setObj (es : Array (Int × Value)) (ep : Nat) (t : SetTable) : Obj := { cls := .type "set", dict := none, data := .set es ep t }
section
variable {P : Program} {w : World} {A : Around} {E : Value → Shared → Prop} {s : Shared}
end
end L2
namespace L2
open PySem
section
variable {P : Program} {w : World} {A : Around} {E : Value → Shared → Prop} {s : Shared}
end
end L2
namespace L2
open PySem
section
variable {P : Program} {w : World} {A : Around} {E : Value → Shared → Prop} {s : Shared}
end
end L2
namespace L2
open PySem
section
variable {P : Program} {w : World} {A : Around} {E : Value → Shared → Prop} {s : Shared}
end
end L2
namespace L2
open PySem
section
variable {P : Program} {w : World} {A : Around} {E : Value → Shared → Prop} {s : Shared}
end
end L2
namespace L2
open PySem
section
variable {P : Program} {w : World} {A : Around} {E : Value → Shared → Prop} {s : Shared}
set_option maxHeartbeats 3200000 in
end
end L2
namespace L2
open PySem PySem.Spec PyProof.Rows
def TSetO (P : Program) (w : World) (a : Addr) (ys : List Str) : HO := .ext fun h => ∃ es ep t, h.get? a = some (setObj es ep t) ∧ TxtTab P w es t ys
theorem TSetO.ok {P : Program} {w : World} {H : Hp} {h : Heap} {a : Addr} {ys : List Str} {es : Array (Int × Value)} {ep : Nat} {t : SetTable} (e : h.get? a = some (setObj es ep t)) (T : TxtTab P w es t ys) : ObjOk P w H h a (TSetO P w a ys) :=
  ⟨⟨es, ep, t, e, T⟩, ⟨_, e⟩, fun h1 h2 ⟨es, ep, t, q, T⟩ k => ⟨es, ep, t, k _ q, T⟩⟩
section
variable {X : Cx}
end
end L2
namespace L2
open PySem
theorem lri_nolen : typeLookup (.type "list_reverseiterator") "__len__" = pure none := by rw [typeLookup_type, builtinLookup_eq_fast]; kernel_rfl
theorem lri_hint : typeLookup (.type "list_reverseiterator") "__length_hint__" = pure (some (.builtin "list_reverseiterator.__length_hint__")) := by rw [typeLookup_type, builtinLookup_eq_fast]; kernel_rfl
section
variable {P : Program} {w : World} {A : Around} {E : Value → Shared → Prop} {s : Shared}
theorem list_of_rev {I l : Addr} {items : Array Value} {Q : Value → Shared → Prop} (hh : A.handled = none) (hne : l ≠ I) (hI : s.heap.IsRevIter I l ((items.size : Int) - 1)) (hl : s.heap.IsList l items) (hz : items.size ≤ sizeLine)
    (h : ∀ h' tk c', (∀ b o, b ≠ I → s.heap.get? b = some o → h'.get? b = some o) → h'.get? s.heap.objs.size = some { cls := .type "list", data := .seq items.toList.reverse.toArray c' } → Q (.ref s.heap.objs.size) { s with heap := h', toks := tk }) :
    wpAny (model P w) A (call (.type "list") [.ref I]) Q E s := by
  obtain ⟨oI, gI, cI, dI⟩ := id hI
  obtain ⟨oL, gL, _⟩ := id hl
  have lI := Heap.lt_size gI
  have lL := Heap.lt_size gL
  refine callType_codes (Q₁ := fun ob s1 => ob = .ref s.heap.objs.size ∧ s1 = { s with heap := s.heap.push { cls := .type "list", data := .seq #[] } }) F.called_list (F.typeCall_list_1 _) F.entry_list_init (code_list_new _ ⟨rfl, rfl⟩) fun ob s1 h1 => ?_
  obtain ⟨rfl, rfl⟩ := h1
  have hS : (s.heap.push { cls := .type "list", data := .seq #[] }).get? s.heap.objs.size = some { cls := .type "list", data := .seq #[] } := Heap.get?_push_size _ rfl
  refine ⟨⟨_, hS, rfl⟩, F.args_list_init_2 _ _, ?_⟩
  show wpAny _ _ (do let old ← Builtin.List.listItems (.ref s.heap.objs.size); Builtin.List.listUpdate (.ref s.heap.objs.size) (fun _ => #[]); letGo old.toList.reverse; Builtin.List.listExtendWith (.ref s.heap.objs.size) (.ref I) .none) _ _ _
  refine wpAny_bind ?_
  unfold Builtin.List.listItems
  refine wpAny_bind (wpAny_seqItems hS rfl (wpAny_pure ?_))
  refine wpAny_bind ?_
  show wpAny _ _ (updateSeq s.heap.objs.size (fun _ => #[])) _ _ _
  refine wpAny_updateSeq hS rfl ?_
  have hS2 := Heap.get?_update_self (Obj.mapSeq (fun _ => (#[] : Array Value))) hS rfl
  have oth : ∀ b o, b ≠ s.heap.objs.size → s.heap.get? b = some o → ((s.heap.push { cls := .type "list", data := .seq #[] }).update s.heap.objs.size (Obj.mapSeq (fun _ => (#[] : Array Value)))).get? b = some o :=
    fun b o hb e => (Heap.get?_update_other _ _ (Ne.symm hb)).trans (Heap.get?_push_of_some _ e)
  refine wpAny_bind (wpAny_letGo ?_)
  have nI : I ≠ s.heap.objs.size := Nat.ne_of_lt lI
  have nL : l ≠ s.heap.objs.size := Nat.ne_of_lt lL
  have hI2 := hI.at fun o e => oth I o nI e
  have hl2 := hl.at fun o e => oth l o nL e
  have ty := hI2.typeIs (s := { s with heap := (s.heap.push { cls := .type "list", data := .seq #[] }).update s.heap.objs.size (Obj.mapSeq (fun _ => (#[] : Array Value))) })
  unfold Builtin.List.listExtendWith
  refine wpAny_bind (wpAny_typeOf ty ?_)
  have h1 : Builtin.List.listSameRef (.ref s.heap.objs.size) (.ref I) = false := by simp [Builtin.List.listSameRef, Ne.symm nI]
  rw [if_neg (by rw [h1]; decide)]
  refine wpAny_bind (wpAny_pyIter_revIter hI2 ?_)
  refine wpAny_bind (wpAny_holding ?_)
  unfold Builtin.List.listLengthHint
  refine wpAny_bind (wpAny_specialOf ty lri_nolen ?_)
  show wpAny _ _ (specialOf (Value.ref I) (Str.ofString "__length_hint__") >>= _) _ _ _
  refine wpAny_bind (wpAny_specialOf ty lri_hint ?_)
  (generalize hid : ("list_reverseiterator.__length_hint__" : String) = id0; (fail_if_success (clear hid id0)); wp_delta; rw [show splitId id0 = some ("list_reverseiterator", "__length_hint__") from by subst hid; decide +kernel]; subst hid)
  refine wpAny_bind (wpAny_isInstance (b := true) ty (by rw [isSubtype_type]; kernel_rfl) ?_)
  refine wpAny_pure ?_
  rw [if_neg (by decide)]
  have W := (Walks.listRev (prog := P) (w := w) (A := A.in1.in1) (by simp [hh]) I l hne items).toS
  have notin : s.heap.objs.size ∉ [I, l] := by simp [Ne.symm nI, Ne.symm nL]
  refine wpAny_pure ⟨plainId_quiet F.plain_extend_loop _, codeAny_extend_loopS W hz _ notin _ items.size 0 _ _ _ rfl (Nat.zero_le _) ⟨Nat.zero_le _, by simpa using hI2, hl2⟩ hS2 (ItemsOf.nil _) fun s' acc c' hm hS' hacc => ?_⟩
  refine ⟨rfl, ?_⟩
  obtain ⟨h', g', d', tk', os'⟩ := s'
  have eg : g' = s.gens := hm.gens
  have ed : d' = s.drawn := hm.drawn
  have eo : os' = s.os := hm.os
  subst eg ed eo
  have ea : acc = items.toList.reverse.toArray := by
    refine Array.ext (by simp [hacc.1]) fun i h1 h2 => ?_
    have q := hacc.2 i _ (Array.getElem?_eq_getElem h1)
    change items[items.size - 1 - i]? = some acc[i] at q
    have lt : items.size - 1 - i < items.size := by have := hacc.1; omega
    rw [Array.getElem?_eq_getElem lt] at q
    simp only [List.getElem_toArray, List.getElem_reverse, Array.getElem_toList, Array.length_toList]
    exact (Option.some.inj q).symm
  subst ea
  refine h h' tk' c' (fun b o hb e => ?_) hS'
  · have nb : b ≠ s.heap.objs.size := Nat.ne_of_lt (Heap.lt_size e)
    exact hm.heap b o (by simp [nb, hb]) (oth b o nb e)
end
end L2
namespace L2
open PySem PySem.Spec PyProof.Rows
section
variable {X : Cx}
theorem Vals.rev : ∀ {xs : List V} {us : List Value}, Vals xs us → Vals xs.reverse us.reverse
  | _, _, .nil => .nil
  | _, _, .cons r t => by
    rw [List.reverse_cons, List.reverse_cons]
    exact Vals.append (Vals.rev t) (.cons r .nil)
def tListRev (K : PySem.W.Frag) (te : TE) : TE := fun σ H Q => te σ H fun x H1 => ∃ p ys, x = .ref p ∧ SqL K H1 p ys ∧ ∀ l, H1 l = none → Q (.ref l) (upd H1 l (.lst ys.reverse))
theorem pe_listrev {e : Expr} {te : TE} {p1 p2 pos1 pos2 : Pos} (hc : X.calm = true) (hg : Gl X "list") (hm : X.mg "list" = none) (hg2 : Gl X "reversed") (hm2 : X.mg "reversed" = none) (he : PE X e te)
    (hs : starEach [e] X.env = [(false, eval e X.env)] := by rfl) (hs2 : starEach [.Call (.Name "reversed" p2) [e] [] pos2] X.env = [(false, eval (.Call (.Name "reversed" p2) [e] [] pos2) X.env)] := by rfl) :
    PE X (.Call (.Name "list" p1) [.Call (.Name "reversed" p2) [e] [] pos2] [] pos1) (tListRev X.K te) := by
  intro pins s σ H Q I h
  refine wpAny_Call_Name_kw (ld_blt I hg hm PyProof.Rows.Boot.«list» ?_)
  refine PyProof.Rows.callWith_type1 ?_ (by rw [hs2]; rfl) rfl
  rw [hs2]
  show wpAny _ _ (spliced ((false, eval (.Call (.Name "reversed" p2) [e] [] pos2) X.env) :: backTo pos1 [])) _ _ s
  refine Calls.spliced_cons ?_
  refine wpAny_Call_Name_kw (ld_blt I hg2 hm2 PyProof.Rows.Boot.«reversed» ?_)
  refine PyProof.Rows.callWith_type1 ?_ (by rw [hs]; rfl) rfl
  rw [hs]
  show wpAny _ _ (spliced ((false, eval e X.env) :: backTo pos2 [])) _ _ s
  refine Calls.spliced_cons (thn (he pins s σ H _ I h) fun u s1 ⟨x, H1, I1, r1, q1⟩ => ?_)
  refine Calls.spliced_nil ?_
  obtain ⟨p, ys, rfl, hq, q⟩ := q1
  cases r1
  obtain ⟨its, rv, pl, hz⟩ := I1.list hq
  have hlen := rv.length
  have hl := pl.isList
  obtain ⟨oL, gL, _⟩ := id hl
  have lp := Heap.lt_size gL
  refine call_reversed_list hl ?_
  refine Calls.spliced_nil ?_
  have I2 : Inv X pins σ H1 { s1 with heap := s1.heap.push (revObj p ((its.toArray.size : Int) - 1)) } := I1.kept (t' := s1.toks) fun b o e => Heap.get?_push_of_some _ e
  have hI : (s1.heap.push (revObj p ((its.toArray.size : Int) - 1))).IsRevIter s1.heap.objs.size p ((its.toArray.size : Int) - 1) := ⟨_, Heap.get?_push_size _ rfl, rfl, rfl⟩
  refine list_of_rev (s := { s1 with heap := s1.heap.push (revObj p ((its.toArray.size : Int) - 1)) }) (I1.ok.hd hc) (Nat.ne_of_lt lp) hI (hl.at fun o e => Heap.get?_push_of_some _ e) (by simp only [List.size_toArray]; omega) fun h' tk c' kp gl => ?_
  have kp1 : ∀ b o, s1.heap.get? b = some o → h'.get? b = some o := fun b o e => kp b o (Nat.ne_of_lt (Heap.lt_size e)) (Heap.get?_push_of_some _ e)
  have sz : (s1.heap.push (revObj p ((its.toArray.size : Int) - 1))).objs.size = s1.heap.objs.size + 1 := Heap.size_push ..
  have J := I1.laid (t' := tk) (h' := h') (a := (s1.heap.push (revObj p ((its.toArray.size : Int) - 1))).objs.size) (o := .lst ys.reverse) kp1 (by rw [sz]; exact Nat.le_succ _) ⟨by rw [List.length_reverse]; exact hz, its.reverse, c', rv.rev, by simpa using gl⟩
  exact ⟨.ref (s1.heap.push (revObj p ((its.toArray.size : Int) - 1))).objs.size, _, J, rfl, q _ (I1.hok.fresh (by rw [sz]; exact Nat.le_succ _))⟩
end
end L2
namespace L2
open PySem PySem.Spec PyProof.Rows
theorem ifYes {b : Bool} {A B : Prop} (h : b = true) (x : A) : if b = true then A else B := by rw [if_pos h]; exact x
theorem ifNo {b : Bool} {A B : Prop} (h : b = false) (x : B) : if b = true then A else B := by rw [if_neg (by rw [h]; decide)]; exact x
theorem str_ne {x y : Str} (h : (x == y) = false) : V.str x ≠ V.str y := fun e => by
  injection e with e
  subst e
  simp at h
end L2
namespace L2
open PySem PySem.Spec PyProof.Rows
end L2
namespace Tr
open PySem PySem.Spec PyProof.Rows L2
set_option linter.all false
inductive Val
  | num (n : Int)
  | nm (x : Str)
inductive Deed
  | set (x : Str) (a : Val) (sg : Str) (b : Val)
  | put (q x : Str)
  | get (q x : Str)
  | give (x : Str)
  | cond (x : Str) (t o : List Deed)
  | whl (x : Str) (b : List Deed)
  | rep (n : Int) (b : List Deed)
def Val.names : Val → List Str
  | .num _ => []
  | .nm x => [x]
def Deed.names : Deed → List Str
  | .set x a _ b => x :: (a.names ++ b.names)
  | .put _ x | .get _ x | .give x | .cond x _ _ | .whl x _ => [x]
  | .rep _ _ => []
def Deed.inner : Deed → List (List Deed)
  | .cond _ t o => [t, o]
  | .whl _ b | .rep _ b => [b]
  | _ => []
def Deed.others : Deed → List Str
  | .put q _ => [q ++ (">" : Str)]
  | .get q _ => [q ++ ("<" : Str)]
  | .give _ | .whl _ _ => [(">" : Str)]
  | _ => []
mutual
def Deed.flat : Deed → List Deed
  | .cond x t o => .cond x t o :: (flats t ++ flats o)
  | .whl x b => .whl x b :: flats b
  | .rep n b => .rep n b :: flats b
  | .set x a sg b => [.set x a sg b]
  | .put q x => [.put q x]
  | .get q x => [.get q x]
  | .give x => [.give x]
def flats : List Deed → List Deed
  | [] => []
  | d :: r => d.flat ++ flats r
end
mutual
def Deed.depth : Deed → Nat
  | .cond _ t o => max (depths t) (depths o) + 1
  | .whl _ b => depths b + 1
  | .rep _ b => depths b + 1
  | _ => 0
def depths : List Deed → Nat
  | [] => 0
  | d :: r => max d.depth (depths r)
end
def Deed.cards (d : Deed) : List Str := d.names ++ d.others
def cards (b : List Deed) : List Str := (flats b).flatMap Deed.cards
theorem flats_append : ∀ (a b : List Deed), flats (a ++ b) = flats a ++ flats b
  | [], b => rfl
  | d :: a, b => by rw [List.cons_append, flats, flats, flats_append a b, List.append_assoc]
theorem cards_append (a b : List Deed) : cards (a ++ b) = cards a ++ cards b := by unfold cards; rw [flats_append, List.flatMap_append]
theorem depths_append : ∀ (a b : List Deed), depths (a ++ b) = max (depths a) (depths b)
  | [], b => by rw [List.nil_append, depths, Nat.zero_max]
  | d :: a, b => by rw [List.cons_append, depths, depths, depths_append a b, Nat.max_assoc]
theorem flat_inner (d : Deed) : d.flat = d :: d.inner.flatMap flats := by
  cases d <;> simp [Deed.flat, Deed.inner]
inductive Op
  | root
  | ifT (x : Str)
  | ifO (x : Str) (t : List Deed)
  | whl (x : Str)
  | rep (n : Int)
structure Fr where
  op : Op
  ds : List Deed
  shut : Bool
  times : Int
def Fr.deed (f : Fr) : Deed := match f.op with
  | .root => .rep 0 f.ds
  | .ifT x => .cond x f.ds []
  | .ifO x t => .cond x t f.ds
  | .whl x => .whl x f.ds
  | .rep n => .rep n f.ds
def Fr.add (g : Fr) (d : Deed) : Fr := { g with ds := g.ds ++ [d] }
def Op.extra : Op → List Deed
  | .ifO _ t => t
  | _ => []
def Op.nms : Op → List Str
  | .ifT x | .ifO x _ | .whl x => [x]
  | _ => []
def Op.one : Op → Nat
  | .root => 0
  | _ => 1
def StOk (C : List Str) : List Fr → Prop
  | [] => False
  | [f] => f.op = .root ∧ (∀ k ∈ cards f.ds, k ∈ C) ∧ depths f.ds ≤ 12
  | f :: g :: r => f.op ≠ .root ∧ (∀ k ∈ f.op.nms, k ∈ C) ∧ (∀ k ∈ cards f.ds, k ∈ C) ∧ (∀ k ∈ cards f.op.extra, k ∈ C) ∧ depths f.ds + (r.length + 1) ≤ 12 ∧ depths f.op.extra + (r.length + 1) ≤ 12 ∧ StOk C (g :: r)
theorem StOk.add {C : List Str} {g : Fr} {r : List Fr} {d : Deed} (h : StOk C (g :: r)) (h1 : ∀ k ∈ cards [d], k ∈ C) (h2 : depths [d] + r.length ≤ 12) : StOk C (g.add d :: r) := by
  have hc : (∀ k ∈ cards g.ds, k ∈ C) → ∀ k ∈ cards (g.add d).ds, k ∈ C := fun z k hk => by
    unfold Fr.add at hk
    rw [cards_append, List.mem_append] at hk
    exact hk.elim (z k) (h1 k)
  have hd : depths (g.add d).ds = max (depths g.ds) (depths [d]) := by unfold Fr.add; rw [depths_append]
  cases r with
  | nil => exact ⟨h.1, hc h.2.1, by rw [hd]; have := h.2.2; simp at h2; omega⟩
  | cons g' r' =>
    obtain ⟨a1, a2, a3, a4, a5, a6, a7⟩ := h
    simp only [List.length_cons] at h2
    exact ⟨a1, a2, hc a3, a4, by rw [hd]; omega, a6, a7⟩
def kws : List Str := ["ask", "store", "put", "get", "give", "if", "else", "while", "repeat", "end"]
def manyV (n most times : Int) : Int := if 0 < times then n / 70 % (1 + most / times) else n / 70 % 100
def Val.v : Val → V
  | .num n => .int n
  | .nm x => .str x
mutual
inductive RD (H : Hp) : V → Deed → Prop
  | set {p : Addr} {x : Str} {a : Val} {sg : Str} {b : Val} : H p = some (.tup [.str "set", .str x, a.v, .str sg, b.v]) → RD H (.ref p) (.set x a sg b)
  | put {p : Addr} {q x : Str} : H p = some (.tup [.str "put", .str q, .str x]) → RD H (.ref p) (.put q x)
  | get {p : Addr} {q x : Str} : H p = some (.tup [.str "get", .str q, .str x]) → RD H (.ref p) (.get q x)
  | give {p : Addr} {x : Str} : H p = some (.tup [.str "give", .str x]) → RD H (.ref p) (.give x)
  | cond {p t o : Addr} {x : Str} {ts os : List Deed} : H p = some (.tup [.str "if", .str x, .ref t, .ref o]) → RL H t ts → RL H o os → RD H (.ref p) (.cond x ts os)
  | whl {p b : Addr} {x : Str} {bs : List Deed} : H p = some (.tup [.str "while", .str x, .ref b]) → RL H b bs → RD H (.ref p) (.whl x bs)
  | rep {p b : Addr} {n : Int} {bs : List Deed} : H p = some (.tup [.str "repeat", .int n, .ref b]) → RL H b bs → RD H (.ref p) (.rep n bs)
inductive RL (H : Hp) : Addr → List Deed → Prop
  | mk {l : Addr} {vs : List V} {ds : List Deed} : H l = some (.lst vs) → RDs H vs ds → RL H l ds
inductive RDs (H : Hp) : List V → List Deed → Prop
  | nil : RDs H [] []
  | cons {v : V} {vs : List V} {d : Deed} {ds : List Deed} : RD H v d → RDs H vs ds → RDs H (v :: vs) (d :: ds)
end
mutual
theorem RD.same {H H' : Hp} (e : Same H H') : ∀ {v : V} {d : Deed}, RD H v d → RD H' v d
  | _, _, .set h => .set (e _ _ h)
  | _, _, .put h => .put (e _ _ h)
  | _, _, .get h => .get (e _ _ h)
  | _, _, .give h => .give (e _ _ h)
  | _, _, .cond h a b => .cond (e _ _ h) (RL.same e a) (RL.same e b)
  | _, _, .whl h a => .whl (e _ _ h) (RL.same e a)
  | _, _, .rep h a => .rep (e _ _ h) (RL.same e a)
theorem RL.same {H H' : Hp} (e : Same H H') : ∀ {l : Addr} {ds : List Deed}, RL H l ds → RL H' l ds
  | _, _, .mk h a => .mk (e _ _ h) (RDs.same e a)
theorem RDs.same {H H' : Hp} (e : Same H H') : ∀ {vs : List V} {ds : List Deed}, RDs H vs ds → RDs H' vs ds
  | _, _, .nil => .nil
  | _, _, .cons a b => .cons (RD.same e a) (RDs.same e b)
end
theorem RDs.app {H : Hp} : ∀ {us vs : List V} {a b : List Deed}, RDs H us a → RDs H vs b → RDs H (us ++ vs) (a ++ b)
  | _, _, _, _, .nil, h => h
  | _, _, _, _, .cons x r, h => .cons x (RDs.app r h)
theorem RDs.len {H : Hp} : ∀ {vs : List V} {ds : List Deed}, RDs H vs ds → vs.length = ds.length
  | _, _, .nil => rfl
  | _, _, .cons _ r => by rw [List.length_cons, List.length_cons, RDs.len r]
theorem RDs.at {H : Hp} : ∀ {vs : List V} {ds : List Deed}, RDs H vs ds → ∀ (i : Nat) (v : V), vs[i]? = some v → ∃ d, ds[i]? = some d ∧ RD H v d
  | _, _, .nil, i, v, h => by simp at h
  | _, _, .cons x r, 0, v, h => by simp at h; subst h; exact ⟨_, rfl, x⟩
  | _, _, .cons x r, i + 1, v, h => by
    simp only [List.getElem?_cons_succ] at h ⊢
    exact RDs.at r i v h
mutual
def Deed.data : Deed → PyData
  | .set x a sg b => .tuple [.str "set", .str x, (match a with | .num n => .int n | .nm y => .str y), .str sg, (match b with | .num n => .int n | .nm y => .str y)]
  | .put q x => .tuple [.str "put", .str q, .str x]
  | .get q x => .tuple [.str "get", .str q, .str x]
  | .give x => .tuple [.str "give", .str x]
  | .cond x t o => .tuple [.str "if", .str x, .list (datas t), .list (datas o)]
  | .whl x b => .tuple [.str "while", .str x, .list (datas b)]
  | .rep n b => .tuple [.str "repeat", .int n, .list (datas b)]
def datas : List Deed → List PyData
  | [] => []
  | d :: r => d.data :: datas r
end
theorem val_dt {K : PySem.W.Frag} {H : Hp} : ∀ a : Val, Dt K H a.v (match a with | .num n => .int n | .nm y => .str y)
  | .num n => .int n
  | .nm x => .str x
mutual
theorem RD.dt {K : PySem.W.Frag} {H : Hp} : ∀ {v : V} {d : Deed}, RD H v d → Dt K H v d.data
  | _, _, .set (a := a) (b := b) h => .tup (SqT.of h) (.cons (.str _) (.cons (.str _) (.cons (val_dt a) (.cons (.str _) (.cons (val_dt b) .nil)))))
  | _, _, .put h => .tup (SqT.of h) (.cons (.str _) (.cons (.str _) (.cons (.str _) .nil)))
  | _, _, .get h => .tup (SqT.of h) (.cons (.str _) (.cons (.str _) (.cons (.str _) .nil)))
  | _, _, .give h => .tup (SqT.of h) (.cons (.str _) (.cons (.str _) .nil))
  | _, _, .cond h a b => .tup (SqT.of h) (.cons (.str _) (.cons (.str _) (.cons (RL.dt a) (.cons (RL.dt b) .nil))))
  | _, _, .whl h a => .tup (SqT.of h) (.cons (.str _) (.cons (.str _) (.cons (RL.dt a) .nil)))
  | _, _, .rep h a => .tup (SqT.of h) (.cons (.str _) (.cons (.int _) (.cons (RL.dt a) .nil)))
theorem RL.dt {K : PySem.W.Frag} {H : Hp} : ∀ {l : Addr} {ds : List Deed}, RL H l ds → Dt K H (.ref l) (.list (datas ds))
  | _, _, .mk h a => .lst (SqL.of h) (RDs.dt a)
theorem RDs.dt {K : PySem.W.Frag} {H : Hp} : ∀ {vs : List V} {ds : List Deed}, RDs H vs ds → DtAll K H vs (datas ds)
  | _, _, .nil => .nil
  | _, _, .cons a b => .cons (RD.dt a) (RDs.dt b)
end
inductive RLs (H : Hp) : List Addr → List (List Deed) → Prop
  | nil : RLs H [] []
  | cons {l : Addr} {ls : List Addr} {d : List Deed} {ds : List (List Deed)} : RL H l d → RLs H ls ds → RLs H (l :: ls) (d :: ds)
theorem RLs.same {H H' : Hp} (e : Same H H') : ∀ {ls : List Addr} {ds : List (List Deed)}, RLs H ls ds → RLs H' ls ds
  | _, _, .nil => .nil
  | _, _, .cons a b => .cons (RL.same e a) (RLs.same e b)
theorem RLs.app {H : Hp} : ∀ {us vs : List Addr} {a b : List (List Deed)}, RLs H us a → RLs H vs b → RLs H (us ++ vs) (a ++ b)
  | _, _, _, _, .nil, h => h
  | _, _, _, _, .cons x r, h => .cons x (RLs.app r h)
theorem RLs.len {H : Hp} : ∀ {ls : List Addr} {ds : List (List Deed)}, RLs H ls ds → ls.length = ds.length
  | _, _, .nil => rfl
  | _, _, .cons _ r => by rw [List.length_cons, List.length_cons, RLs.len r]
theorem RLs.at {H : Hp} : ∀ {ls : List Addr} {ds : List (List Deed)}, RLs H ls ds → ∀ (i : Nat) (l : Addr), ls[i]? = some l → ∃ d, ds[i]? = some d ∧ RL H l d
  | _, _, .nil, i, v, h => by simp at h
  | _, _, .cons x r, 0, v, h => by simp at h; subst h; exact ⟨_, rfl, x⟩
  | _, _, .cons x r, i + 1, v, h => by
    simp only [List.getElem?_cons_succ] at h ⊢
    exact RLs.at r i v h
end Tr
namespace Tr
open PySem PySem.Spec PyProof.Rows L2
set_option linter.all false
theorem Same.over {H0 H : Hp} {f : Addr} {o : HO} (h : Same H0 H) (hf : H0 f = none) : Same H0 (upd H f o) := fun b u q => by
  rw [upd_ne (ne_of_none q hf)]
  exact h b u q
theorem Same.none {H0 H : Hp} {f : Addr} (h : Same H0 H) (hf : H f = none) : H0 f = none := by
  cases q : H0 f with
  | none => rfl
  | some o => rw [h _ _ q] at hf; cases hf
structure Fz where
  f : Fr
  c : Addr
  p : Addr
  e : Addr
def Fz.tupV (x : Fz) : List V := match x.f.op with
  | .root => []
  | .ifT n => [.str "if", .str n, .ref x.c, .ref x.e]
  | .ifO n _ => [.str "if", .str n, .ref x.e, .ref x.c]
  | .whl n => [.str "while", .str n, .ref x.c]
  | .rep n => [.str "repeat", .int n, .ref x.c]
def Fz.o (x : Fz) : V := match x.f.op with
  | .ifT _ => .ref x.e
  | _ => .non
def Fz.muts (x : Fz) : List Addr := match x.f.op with
  | .ifT _ => [x.c, x.e]
  | _ => [x.c]
def Fz.side (x : Fz) (H0 H : Hp) : Prop := match x.f.op with
  | .ifT _ => H x.e = some (.lst [])
  | .ifO _ t => RL H0 x.e t
  | _ => True
def ZR (H0 H : Hp) : List Fz → List V → Prop
  | [], _ => False
  | x :: r, tl => (∃ vs, H x.c = some (.lst (vs ++ tl)) ∧ RDs H0 vs x.f.ds) ∧ x.side H0 H ∧ ((x.f.op = .root ∧ r = []) ∨ (x.f.op ≠ .root ∧ H x.p = some (.tup x.tupV) ∧ ZR H0 H r [.ref x.p]))
theorem Fz.c_mem (x : Fz) : x.c ∈ x.muts := by unfold Fz.muts; split <;> simp
theorem ZR.frame {H0 H H' : Hp} : ∀ {z : List Fz} {tl : List V}, ZR H0 H z tl → (∀ m ∈ z.flatMap Fz.muts, H' m = H m) → (∀ p xs, H p = some (.tup xs) → H' p = some (.tup xs)) → ZR H0 H' z tl
  | [], _, h, _, _ => h
  | x :: r, tl, ⟨⟨vs, h1, h2⟩, h3, h4⟩, hm, ht => by
    have mx : ∀ m ∈ x.muts, H' m = H m := fun m hm' => hm m (by simp [hm'])
    have mr : ∀ m ∈ r.flatMap Fz.muts, H' m = H m := fun m hm' => hm m (by rw [List.flatMap_cons]; exact List.mem_append_right _ hm')
    refine ⟨⟨vs, by rw [mx _ x.c_mem]; exact h1, h2⟩, ?_, ?_⟩
    · unfold Fz.side at h3 ⊢
      split
      · rename_i e
        rw [e] at h3
        rw [mx x.e (by unfold Fz.muts; rw [e]; simp)]
        exact h3
      · rename_i e
        rw [e] at h3
        exact h3
      · trivial
    · rcases h4 with h4 | ⟨h4, h5, h6⟩
      · exact .inl h4
      · exact .inr ⟨h4, ht _ _ h5, ZR.frame h6 mr ht⟩
theorem ZR.grow {H0 H0' H : Hp} (e : Same H0 H0') : ∀ {z : List Fz} {tl : List V}, ZR H0 H z tl → ZR H0' H z tl
  | [], _, h => h
  | x :: r, tl, ⟨⟨vs, h1, h2⟩, h3, h4⟩ => by
    refine ⟨⟨vs, h1, h2.same e⟩, ?_, ?_⟩
    · unfold Fz.side at h3 ⊢
      revert h3
      cases x.f.op <;> intro h3 <;> first | exact h3 | exact RL.same e h3
    · rcases h4 with h4 | ⟨h4, h5, h6⟩
      · exact .inl h4
      · exact .inr ⟨h4, h5, ZR.grow e h6⟩
def wh : List Fr → List Deed → List Deed
  | [], _ => []
  | [f], dt => f.ds ++ dt
  | f :: g :: r, dt => wh (g :: r) [({ f with ds := f.ds ++ dt } : Fr).deed]
def bottom : List Fz → Addr
  | [] => 0
  | [x] => x.c
  | _ :: y :: r => bottom (y :: r)
theorem ZR.whole {H0 H : Hp} (e : Same H0 H) : ∀ {z : List Fz} {tl : List V} {dt : List Deed}, ZR H0 H z tl → RDs H tl dt → RL H (bottom z) (wh (z.map (·.f)) dt)
  | [], _, _, h, _ => h.elim
  | [x], tl, dt, ⟨⟨vs, h1, h2⟩, _, _⟩, ht => .mk h1 ((h2.same e).app ht)
  | x :: y :: r, tl, dt, ⟨⟨vs, h1, h2⟩, h3, h4⟩, ht => by
    rcases h4 with ⟨_, h4⟩ | ⟨h4, h5, h6⟩
    · cases h4
    refine ZR.whole (z := y :: r) e h6 (.cons ?_ .nil)
    have hl : RL H x.c (x.f.ds ++ dt) := .mk h1 ((h2.same e).app ht)
    unfold Fz.tupV at h5
    unfold Fz.side at h3
    unfold Fr.deed
    cases q : x.f.op with
    | root => exact absurd q h4
    | ifT n =>
      rw [q] at h5 h3
      exact .cond h5 hl (.mk h3 .nil)
    | ifO n t =>
      rw [q] at h5 h3
      exact .cond h5 (RL.same e h3) hl
    | whl n =>
      rw [q] at h5
      exact .whl h5 hl
    | rep n =>
      rw [q] at h5
      exact .rep h5 hl
def allMuts (S s0 s1 s2 s3 : Addr) (z : List Fz) : List Addr := S :: s0 :: s1 :: s2 :: s3 :: z.flatMap Fz.muts
structure ZI (Hb H0 H : Hp) (S s0 s1 s2 s3 : Addr) (z : List Fz) : Prop where
  hb : Same Hb H0
  h0 : Same H0 H
  fz : ∀ m ∈ allMuts S s0 s1 s2 s3 z, H0 m = none
  nd : (allMuts S s0 s1 s2 s3 z).Nodup
  cS : H S = some (.lst [.ref s0, .ref s1, .ref s2, .ref s3])
  c0 : H s0 = some (.lst ((z.map fun x => V.ref x.c).reverse))
  c1 : H s1 = some (.lst ((z.map Fz.o).reverse))
  c2 : H s2 = some (.lst ((z.map fun x => V.bl x.f.shut).reverse))
  c3 : H s3 = some (.lst ((z.map fun x => V.int x.f.times).reverse))
  zr : ZR H0 H z []
section
variable {Hb H0 H H1 : Hp} {S s0 s1 s2 s3 : Addr} {z : List Fz}
theorem ZI.top (Z : ZI Hb H0 H S s0 s1 s2 s3 z) : ∃ x r vs, z = x :: r ∧ H x.c = some (.lst vs) ∧ RDs H0 vs x.f.ds := by
  have := Z.zr
  match z, this with
  | x :: r, ⟨⟨vs, h1, h2⟩, _⟩ => exact ⟨x, r, vs, rfl, by simpa using h1, h2⟩
theorem ZR.lsts {tl : List V} : ∀ {z : List Fz}, ZR H0 H z tl → ∀ m ∈ z.flatMap Fz.muts, ∃ vs, H m = some (.lst vs) := by
  intro z
  induction z generalizing tl with
  | nil => intro h; exact h.elim
  | cons x r ih =>
    rintro ⟨⟨vs, h1, _⟩, h3, h4⟩ m hm
    rw [List.flatMap_cons] at hm
    rcases List.mem_append.mp hm with hm | hm
    · unfold Fz.muts at hm
      unfold Fz.side at h3
      split at hm <;> rename_i q
      · rw [q] at h3
        simp at hm
        rcases hm with rfl | rfl
        · exact ⟨_, h1⟩
        · exact ⟨_, h3⟩
      · simp at hm
        subst hm
        exact ⟨_, h1⟩
    · rcases h4 with ⟨_, h4⟩ | ⟨_, _, h6⟩
      · subst h4; simp at hm
      · exact ih h6 m hm
theorem ZI.lsts (Z : ZI Hb H0 H S s0 s1 s2 s3 z) : ∀ m ∈ allMuts S s0 s1 s2 s3 z, ∃ vs, H m = some (.lst vs) := by
  intro m hm
  unfold allMuts at hm
  simp only [List.mem_cons] at hm
  rcases hm with rfl | rfl | rfl | rfl | rfl | hm
  · exact ⟨_, Z.cS⟩
  · exact ⟨_, Z.c0⟩
  · exact ⟨_, Z.c1⟩
  · exact ⟨_, Z.c2⟩
  · exact ⟨_, Z.c3⟩
  · exact Z.zr.lsts m hm
theorem ZI.same (Z : ZI Hb H0 H S s0 s1 s2 s3 z) (e : Same H H1) : ZI Hb H0 H1 S s0 s1 s2 s3 z where
  hb := Z.hb
  h0 := Z.h0.trans e
  fz := Z.fz
  nd := Z.nd
  cS := e _ _ Z.cS
  c0 := e _ _ Z.c0
  c1 := e _ _ Z.c1
  c2 := e _ _ Z.c2
  c3 := e _ _ Z.c3
  zr := Z.zr.frame (fun m hm => by obtain ⟨vs, h⟩ := Z.zr.lsts m hm; rw [h]; exact e _ _ h) fun p xs h => e _ _ h
end
end Tr
namespace Tr
open PySem PySem.Spec PyProof.Rows L2
set_option linter.all false
section
variable {Hb H0 H H1 : Hp} {S s0 s1 s2 s3 : Addr} {z : List Fz}
theorem ZI.ne (Z : ZI Hb H0 H S s0 s1 s2 s3 z) {m : Addr} (hm : m ∈ z.flatMap Fz.muts) : S ≠ m ∧ s0 ≠ m ∧ s1 ≠ m ∧ s2 ≠ m ∧ s3 ≠ m := by
  have nd := Z.nd
  unfold allMuts at nd
  simp only [List.nodup_cons, List.mem_cons, not_or] at nd
  obtain ⟨⟨_, _, _, _, n0⟩, ⟨_, _, _, n1⟩, ⟨_, _, n2⟩, ⟨_, n3⟩, n4, _⟩ := nd
  exact ⟨(fun e => n0 (e ▸ hm)), (fun e => n1 (e ▸ hm)), (fun e => n2 (e ▸ hm)), (fun e => n3 (e ▸ hm)), (fun e => n4 (e ▸ hm))⟩
theorem ZI.ss (Z : ZI Hb H0 H S s0 s1 s2 s3 z) : S ≠ s0 ∧ S ≠ s1 ∧ S ≠ s2 ∧ S ≠ s3 ∧ s0 ≠ s1 ∧ s0 ≠ s2 ∧ s0 ≠ s3 ∧ s1 ≠ s2 ∧ s1 ≠ s3 ∧ s2 ≠ s3 := by
  have nd := Z.nd
  unfold allMuts at nd
  simp only [List.nodup_cons, List.mem_cons, not_or] at nd
  obtain ⟨⟨a1, a2, a3, a4, _⟩, ⟨b1, b2, b3, _⟩, ⟨c1, c2, _⟩, ⟨d1, _⟩, _⟩ := nd
  exact ⟨a1, a2, a3, a4, b1, b2, b3, c1, c2, d1⟩
theorem ZI.ndz (Z : ZI Hb H0 H S s0 s1 s2 s3 z) : (z.flatMap Fz.muts).Nodup := by
  have nd := Z.nd
  unfold allMuts at nd
  simp only [List.nodup_cons] at nd
  exact nd.2.2.2.2.2
theorem ZI.fzz (Z : ZI Hb H0 H S s0 s1 s2 s3 z) {m : Addr} (hm : m ∈ z.flatMap Fz.muts) : H0 m = none := Z.fz m (by unfold allMuts; simp [hm])
theorem tup_lst {p m : Addr} {xs vs : List V} (h1 : H p = some (.tup xs)) (h2 : H m = some (.lst vs)) : p ≠ m := ne_of h1 h2 (by intro z; cases z)
theorem muts_top {x : Fz} {r : List Fz} : x.c ∈ (x :: r).flatMap Fz.muts := by rw [List.flatMap_cons]; exact List.mem_append_left _ x.c_mem
theorem c_rest {x : Fz} {r : List Fz} (nd : ((x :: r).flatMap Fz.muts).Nodup) {m : Addr} (h : m ∈ r.flatMap Fz.muts) : m ≠ x.c := by
  rw [List.flatMap_cons] at nd
  intro e
  exact (List.nodup_append.mp nd).2.2 x.c x.c_mem m h e.symm
theorem side_e {x : Fz} {r : List Fz} (nd : ((x :: r).flatMap Fz.muts).Nodup) {n : Str} (q : x.f.op = .ifT n) : x.e ≠ x.c ∧ x.e ∈ x.muts ∧ ∀ m ∈ r.flatMap Fz.muts, m ≠ x.e := by
  rw [List.flatMap_cons] at nd
  have h := List.nodup_append.mp nd
  have e : x.muts = [x.c, x.e] := by unfold Fz.muts; rw [q]
  rw [e] at h
  refine ⟨?_, by rw [e]; simp, fun m hm z => h.2.2 x.e (by simp) m hm z.symm⟩
  have := h.1
  simp at this
  exact fun z => this z.symm
theorem ZR.rest {x : Fz} {r : List Fz} {tl : List V} {o : HO} (zr : ZR H0 H (x :: r) tl) (nd : ((x :: r).flatMap Fz.muts).Nodup) {vs : List V} (hc : H x.c = some (.lst vs)) :
    x.side H0 (upd H x.c o) ∧ ((x.f.op = .root ∧ r = []) ∨ (x.f.op ≠ .root ∧ (upd H x.c o) x.p = some (.tup x.tupV) ∧ ZR H0 (upd H x.c o) r [.ref x.p])) := by
  obtain ⟨_, h3, h4⟩ := zr
  refine ⟨?_, ?_⟩
  · unfold Fz.side at h3 ⊢
    cases q : x.f.op with
    | ifT n =>
      rw [q] at h3
      show (upd H x.c o) x.e = some (.lst [])
      rw [upd_ne (side_e nd q).1]
      exact h3
    | ifO n t => rw [q] at h3; exact h3
    | root => trivial
    | whl n => trivial
    | rep n => trivial
  · rcases h4 with h4 | ⟨h4, h5, h6⟩
    · exact .inl h4
    · refine .inr ⟨h4, by rw [upd_ne (tup_lst h5 hc)]; exact h5, h6.frame (fun m hm => upd_ne (c_rest nd hm)) fun p xs h => by rw [upd_ne (tup_lst h hc)]; exact h⟩
theorem ZI.push {x : Fz} {r : List Fz} {vs xs : List V} {p : Addr} {d : Deed} (Z : ZI Hb H0 H S s0 s1 s2 s3 (x :: r)) (hc : H x.c = some (.lst vs)) (hp : H p = some (.tup xs)) (hp0 : H0 p = none) (hd : RD (upd H0 p (.tup xs)) (.ref p) d) :
    ZI Hb (upd H0 p (.tup xs)) (upd H x.c (.lst (vs ++ [.ref p]))) S s0 s1 s2 s3 ({ x with f := x.f.add d } :: r) := by
  have n := Z.ne (muts_top (x := x) (r := r))
  have pc := tup_lst hp hc
  have cz : H0 x.c = none := Z.fzz muts_top
  have g : Same H0 (upd H0 p (.tup xs)) := Same.new hp0 _
  have rest := (Z.zr.rest (o := .lst (vs ++ [.ref p])) Z.ndz hc)
  refine { hb := Z.hb.trans g, h0 := ?_, fz := ?_, nd := Z.nd, cS := ?_, c0 := ?_, c1 := ?_, c2 := ?_, c3 := ?_, zr := ?_ }
  · intro b u q
    by_cases e : b = p
    · subst e
      rw [upd_same] at q
      cases q
      rw [upd_ne pc]
      exact hp
    · rw [upd_ne e] at q
      rw [upd_ne (ne_of_none q cz)]
      exact Z.h0 _ _ q
  · intro m hm
    obtain ⟨ws, hw⟩ := Z.lsts m hm
    rw [upd_ne (Ne.symm (tup_lst hp hw))]
    exact Z.fz m hm
  · rw [upd_ne n.1]; exact Z.cS
  · rw [upd_ne n.2.1]; exact Z.c0
  · rw [upd_ne n.2.2.1]; exact Z.c1
  · rw [upd_ne n.2.2.2.1]; exact Z.c2
  · rw [upd_ne n.2.2.2.2]; exact Z.c3
  · obtain ⟨⟨vs', h1, h2⟩, _, _⟩ := Z.zr
    rw [List.append_nil, hc] at h1
    cases h1
    refine ⟨⟨vs ++ [.ref p], by rw [List.append_nil]; exact upd_same, (h2.same g).app (.cons hd .nil)⟩, ?_, ?_⟩
    · have q := rest.1
      unfold Fz.side at q ⊢
      dsimp only [Fr.add]
      revert q
      cases x.f.op <;> intro q <;> first | exact q | exact RL.same g q
    · rcases rest.2 with h4 | ⟨h4, h5, h6⟩
      · exact .inl h4
      · exact .inr ⟨h4, h5, h6.grow g⟩
end
end Tr
namespace Tr
open PySem PySem.Spec PyProof.Rows L2
set_option linter.all false
section
variable {Hb H0 H H' : Hp} {S s0 s1 s2 s3 : Addr} {z : List Fz}
end
end Tr
namespace Tr
open PySem PySem.Spec PyProof.Rows L2
set_option linter.all false
section
variable {Hb H0 H H4 : Hp} {S s0 s1 s2 s3 : Addr}
end
end Tr
namespace Tr
open PySem PySem.Spec PyProof.Rows L2
set_option linter.all false
end Tr
namespace Tr
open L2
end Tr
namespace Tr
end Tr
namespace Tr
open PySem PySem.Spec PyProof.Rows L2
set_option linter.all false
def Deed.strs : Deed → List Str
  | .set x a sg b => x :: sg :: (a.names ++ b.names)
  | .put q x | .get q x => [q, x]
  | .give x | .cond x _ _ | .whl x _ => [x]
  | .rep _ _ => []
def Texts (D : List Str) (ds : List Deed) : Prop := ∀ d ∈ flats ds, ∀ s ∈ d.strs, s ∈ D
def FrT (D : List Str) (f : Fr) : Prop := Texts D f.ds ∧ Texts D f.op.extra ∧ ∀ s ∈ f.op.nms, s ∈ D
theorem Texts.nil {D : List Str} : Texts D [] := fun d h => by simp [flats] at h
theorem Texts.app {D : List Str} {a b : List Deed} (h1 : Texts D a) (h2 : Texts D b) : Texts D (a ++ b) := fun d h => by
  rw [flats_append, List.mem_append] at h
  exact h.elim (h1 d) (h2 d)
theorem Texts.one {D : List Str} {d : Deed} (h : ∀ s ∈ d.strs, s ∈ D) (hi : ∀ b ∈ d.inner, Texts D b) : Texts D [d] := fun e he => by
  rw [flats, flats, List.append_nil, flat_inner, List.mem_cons, List.mem_flatMap] at he
  rcases he with rfl | ⟨b, hb, he⟩
  · exact h
  · exact hi b hb e he
theorem FrT.deed {D : List Str} {f : Fr} (h : FrT D f) : Texts D [f.deed] := by
  obtain ⟨h1, h2, h3⟩ := h
  unfold Fr.deed
  cases q : f.op <;> rw [q] at h2 h3
  · exact .one (by simp [Deed.strs]) (by simpa [Deed.inner] using h1)
  · exact .one (by simpa [Deed.strs, Op.nms] using h3) (by simpa [Deed.inner] using ⟨h1, Texts.nil⟩)
  · exact .one (by simpa [Deed.strs, Op.nms] using h3) (by simpa [Deed.inner] using ⟨h2, h1⟩)
  · exact .one (by simpa [Deed.strs, Op.nms] using h3) (by simpa [Deed.inner] using h1)
  · exact .one (by simp [Deed.strs]) (by simpa [Deed.inner] using h1)
theorem FrT.add {D : List Str} {g : Fr} {d : Deed} (h : FrT D g) (hd : Texts D [d]) : FrT D (g.add d) := ⟨h.1.app hd, h.2.1, h.2.2⟩
end Tr
namespace Tr
open PySem PySem.Spec PyProof.Rows L2
set_option linter.all false
def Low (x : Str) : Prop := ∀ c ∈ x.cps.toList, c < 128
theorem Low.app {x y : Str} (h1 : Low x) (h2 : Low y) : Low (x ++ y) := fun c hc => by
  have e : (x ++ y).cps.toList = x.cps.toList ++ y.cps.toList := by
    show (x.cps ++ y.cps).toList = _
    simp
  rw [e, List.mem_append] at hc
  exact hc.elim (h1 c) (h2 c)
theorem Low.slice {x : Str} (h : Low x) (a b : Option Int) : Low (Txt.slice x a b) := fun c hc => by
  unfold Txt.slice at hc
  split at hc
  · exact h c hc
  · simp only [List.mem_filterMap] at hc
    obtain ⟨i, _, hi⟩ := hc
    have := Array.mem_of_getElem? hi
    exact h c (by simpa using this)
end Tr
namespace L2
open PySem PySem.Spec PyProof.Rows
theorem comp_range {n : Nat} {g : TG} {tt : TT} {te : TE} {Fin : List V → Hp → Prop} {σ : St} {H : Hp} (Pv : Nat → List V → St → Hp → Prop) (h0 : Pv 0 [] σ H) (hz : ∀ i ys σ H, i ≤ n → Pv i ys σ H → ys.length ≤ i) (hx : n ≤ sizeLine)
    (hs : ∀ i ys σ H, i < n → Pv i ys σ H → g (.int i) σ H fun σ2 H2 => tt σ2 H2 fun b H3 => if b = true then te σ2 H3 fun y H4 => Pv (i + 1) (ys ++ [y]) σ2 H4 else Pv (i + 1) ys σ2 H3)
    (hd : ∀ ys σ H, Pv n ys σ H → Fin ys H) : ∃ W : Nat → Nat → List V → St → Hp → Prop, (∃ m, W 0 m [] σ H) ∧ CompTurns (Itr 0 n) g tt te Fin W := by
  refine ⟨fun i m ys σ H => m = n - i ∧ i ≤ n ∧ Pv i ys σ H, ⟨_, rfl, Nat.zero_le _, h0⟩, ?_⟩
  rintro i m ys σ H ⟨rfl, hi, p⟩
  have few := hz i ys σ H hi p
  by_cases lt : i < n
  · refine .inr ⟨lt, by omega, Pv (i + 1), fun ys' σ' H' p' => ⟨_, by omega, rfl, lt, p'⟩, fun v H' y => ?_⟩
    obtain ⟨e, y⟩ := y
    rw [Int.zero_add] at y
    subst e y
    exact hs i ys σ _ lt p
  · obtain rfl : i = n := by omega
    exact .inl ⟨Nat.le_refl _, by omega, hd ys σ H p⟩
theorem comp_range0 {n : Nat} {g : TG} {te : TE} {Fin : List V → Hp → Prop} {σ : St} {H : Hp} (Pv : Nat → List V → St → Hp → Prop) (h0 : Pv 0 [] σ H) (hz : ∀ i ys σ H, i ≤ n → Pv i ys σ H → ys.length ≤ i) (hx : n ≤ sizeLine)
    (hs : ∀ i ys σ H, i < n → Pv i ys σ H → g (.int i) σ H fun σ2 H2 => te σ2 H2 fun y H4 => Pv (i + 1) (ys ++ [y]) σ2 H4)
    (hd : ∀ ys σ H, Pv n ys σ H → Fin ys H) : ∃ W : Nat → Nat → List V → St → Hp → Prop, (∃ m, W 0 m [] σ H) ∧ CompTurns (Itr 0 n) g tYes te Fin W :=
  comp_range Pv h0 hz hx (fun i ys σ H lt p => by
    rw [yes_eq (N' := fun _ _ _ => True)]
    exact hs i ys σ H lt p) hd
end L2
namespace Tr
open PySem PySem.Spec PyProof.Rows L2
inductive RSs (H : Hp) : List V → List (Str × Int) → Prop
  | nil : RSs H [] []
  | cons {p : Addr} {vs : List V} {q : Str} {n : Int} {ss : List (Str × Int)} : H p = some (.tup [.str q, .int n]) → RSs H vs ss → RSs H (.ref p :: vs) ((q, n) :: ss)
theorem RSs.same {H H' : Hp} (e : Same H H') : ∀ {vs : List V} {ss : List (Str × Int)}, RSs H vs ss → RSs H' vs ss
  | _, _, .nil => .nil
  | _, _, .cons h r => .cons (e _ _ h) (RSs.same e r)
theorem RSs.snoc {H : Hp} {p : Addr} {q : Str} {n : Int} (h : H p = some (.tup [.str q, .int n])) : ∀ {vs : List V} {ss : List (Str × Int)}, RSs H vs ss → RSs H (vs ++ [.ref p]) (ss ++ [(q, n)])
  | _, _, .nil => .cons h .nil
  | _, _, .cons h' r => .cons h' (RSs.snoc h r)
theorem RSs.len {H : Hp} : ∀ {vs : List V} {ss : List (Str × Int)}, RSs H vs ss → vs.length = ss.length
  | _, _, .nil => rfl
  | _, _, .cons _ r => congrArg (· + 1) (RSs.len r)
theorem RSs.at {H : Hp} : ∀ {vs : List V} {ss : List (Str × Int)}, RSs H vs ss → ∀ (i : Nat) (v : V), vs[i]? = some v → ∃ p q n, v = .ref p ∧ ss[i]? = some (q, n) ∧ H p = some (.tup [.str q, .int n])
  | _, _, .nil, i, v, h => by simp at h
  | _, _, .cons (p := p) (q := q) (n := n) h' r, 0, v, h => by
    simp at h
    exact ⟨p, q, n, h.symm, rfl, h'⟩
  | _, _, .cons h' r, i + 1, v, h => RSs.at r i v (by simpa using h)
def storeD (s : Str × Int) : PyData := .tuple [.str s.1, .int s.2]
theorem RSs.dt {K : PySem.W.Frag} {H : Hp} : ∀ {vs : List V} {ss : List (Str × Int)}, RSs H vs ss → DtAll K H vs (ss.map storeD)
  | _, _, .nil => .nil
  | _, _, .cons h r => .cons (.tup (SqT.of h) (.cons (.str _) (.cons (.int _) .nil))) (RSs.dt r)
theorem strs_dt {K : PySem.W.Frag} {H : Hp} : ∀ xs : List Str, DtAll K H (xs.map V.str) (xs.map PyData.str)
  | [] => .nil
  | x :: r => .cons (.str x) (strs_dt r)
def progD (asks : List Str) (ss : List (Str × Int)) (ds : List Deed) : PyData := .tuple [.list (asks.map PyData.str), .list (ss.map storeD), .list (datas ds)]
structure RP (H : Hp) (p : Addr) (asks : List Str) (ss : List (Str × Int)) (ds : List Deed) (la ls lb : Addr) (us : List V) : Prop where
  top : H p = some (.tup [.ref la, .ref ls, .ref lb])
  as : H la = some (.lst (asks.map V.str))
  st : H ls = some (.lst us)
  ro : RSs H us ss
  bo : RL H lb ds
theorem RP.same {H H' : Hp} {p : Addr} {asks : List Str} {ss : List (Str × Int)} {ds : List Deed} {la ls lb : Addr} {us : List V} (e : Same H H') (h : RP H p asks ss ds la ls lb us) : RP H' p asks ss ds la ls lb us :=
  ⟨e _ _ h.top, e _ _ h.as, e _ _ h.st, h.ro.same e, RL.same e h.bo⟩
theorem RP.dt3 {K : PySem.W.Frag} {H : Hp} {p : Addr} {asks : List Str} {ss : List (Str × Int)} {ds : List Deed} {la ls lb : Addr} {us : List V} (h : RP H p asks ss ds la ls lb us) : DtAll K H [.ref la, .ref ls, .ref lb] [.list (asks.map PyData.str), .list (ss.map storeD), .list (datas ds)] :=
  .cons (.lst (SqL.of h.as) (strs_dt _)) (.cons (.lst (SqL.of h.st) h.ro.dt) (.cons (RL.dt h.bo) .nil))
theorem RP.dt {K : PySem.W.Frag} {H : Hp} {p : Addr} {asks : List Str} {ss : List (Str × Int)} {ds : List Deed} {la ls lb : Addr} {us : List V} (h : RP H p asks ss ds la ls lb us) : Dt K H (.ref p) (progD asks ss ds) := .tup (SqT.of h.top) h.dt3
end Tr
namespace L2
open PySem
section
variable {P : Program} {w : World} {A : Around} {E : Value → Shared → Prop} {s : Shared}
end
end L2
namespace L2
open PySem
section
variable {P : Program} {w : World} {A : Around} {E : Value → Shared → Prop} {s : Shared}
set_option maxHeartbeats 3200000 in
end
end L2
namespace L2
open PySem PySem.Spec PyProof.Rows
section
variable {X : Cx}
end
end L2
namespace L2
open PySem PySem.Spec PyProof.Rows
section
variable {X : Cx}
end
end L2
namespace L2
open PySem PySem.Spec PyProof.Rows
def Ite (K : PySem.W.Frag) (l : Addr) : It :=
  ⟨fun i H => ∃ xs x, SqL K H l xs ∧ xs[i]? = some x,
   fun i H v H' => ∃ p x, H p = none ∧ v = .ref p ∧ H' = upd H p (.tup [.int i, x]) ∧ ∀ xs, SqL K H l xs → xs[i]? = some x,
   fun i H => ∃ xs, SqL K H l xs ∧ xs.length ≤ i⟩
theorem turn_enum {P : Program} {w : World} {K : PySem.W.Frag} {elts : List Expr} {kk : Nat} {tp : Pos} (e it l : Addr) (ne : e ≠ it) :
    Turn P w K (.Tuple elts kk tp) (Ite K l) [e, it] e (fun i h => (∃ old, IsEnum h e it i old) ∧ h.IsListIter it l i) where
  mem := by simp
  obj := fun i h st b hb => by
    obtain ⟨⟨old, he⟩, o, eo, c, d⟩ := st
    simp only [List.mem_cons, List.not_mem_nil, or_false] at hb
    rcases hb with rfl | rfl
    · exact ⟨_, he, fun v q => by cases q⟩
    · exact ⟨o, eo, fun v q => by rw [d] at q; cases q⟩
  keep := fun i h h' st k => by
    obtain ⟨⟨old, he⟩, o, eo, r⟩ := st
    exact ⟨⟨old, k e (by simp) _ he⟩, o, k it (by simp) o eo, r⟩
  item := by
    intro X hP hw hK hc i pins s σ H E I hf st hg
    subst hP hw hK
    obtain ⟨⟨old, he⟩, hit⟩ := st
    obtain ⟨xs, x, hx, ex⟩ := hg
    obtain ⟨its, rv, pl, z1⟩ := I.list hx
    obtain ⟨u, hu, ru⟩ := rv.get ex
    refine wpAny_pyNext_enum_item he hit pl.isList (x := u) (by simpa using hu) ne fun g a1 a2 a3 a4 a5 => ⟨_, rfl, ?_⟩
    refine wpAny_letOwnedTupleGo_enum a1 fun g' a1' sb => ?_
    have hT : ∀ b ∈ [e, it], s.heap.objs.size ≠ b := fun b hb => by
      simp only [List.mem_cons, List.not_mem_nil, or_false] at hb
      rcases hb with rfl | rfl
      · exact Nat.ne_of_gt (Heap.lt_size he)
      · obtain ⟨o, eo, _⟩ := hit
        exact Nat.ne_of_gt (Heap.lt_size eo)
    have ky : ∀ b o, b ∉ [e, it] → s.heap.get? b = some o → g'.get? b = some o := fun b o hb q => by
      simp only [List.mem_cons, List.not_mem_nil, or_false, not_or] at hb
      exact sb.extBut _ _ hb.1 (a5 b o hb.1 hb.2 q)
    have I1 : Inv X pins σ H { s with heap := g', toks := s.toks + 1 } := I.turnedL (t' := s.toks + 1) ky hf
    have pT := sb.extBut _ _ (hT e (by simp)) a3
    have fT : FpOk X pins H s.heap.objs.size := I.fpOk (Nat.le_refl _) (I.hok.fresh (Nat.le_refl _))
    have I2 : Inv X pins σ (upd H s.heap.objs.size (.tup [.int i, x])) { s with heap := g', toks := s.toks + 1 } := I1.track fT I.sz ⟨by show 2 ≤ sizeLine; decide, [.int i s.toks, u], .cons ⟨_, rfl⟩ (.cons ru .nil), ⟨_, pT, rfl, _, rfl⟩⟩
    refine ⟨.ref s.heap.objs.size, _, I2, rfl, ⟨_, x, I.hok.fresh (Nat.le_refl _), rfl, rfl, fun xs' h => by rw [I.list_inj h hx]; exact ex⟩, ⟨⟨u, a1'⟩, ?_⟩, fun b hb => ?_⟩
    · obtain ⟨o, eo, r⟩ := a2
      exact ⟨o, sb.extBut _ _ (Ne.symm ne) eo, r⟩
    · rw [upd_ne (Ne.symm (hT b hb))]
      exact (hf b hb).1
  done := by
    intro X hP hw hK hc i pins s σ H E I hf st hg
    subst hP hw hK
    obtain ⟨⟨old, he⟩, hit⟩ := st
    obtain ⟨xs, hx, hend⟩ := hg
    obtain ⟨its, rv, pl, z1⟩ := I.list hx
    have e1 := rv.length
    refine wpAny_pyNext_enum_end (I.ok.hd hc) he hit pl.isList (by simp; omega) fun g k => ⟨rfl, I.turnedL (t' := s.toks) (ch := [e, it]) (fun b o hb q => ?_) hf⟩
    simp only [List.mem_cons, List.not_mem_nil, or_false, not_or] at hb
    exact k b o hb.2 q
  self := fun _ _ _ _ _ st h => by
    obtain ⟨⟨old, he⟩, _⟩ := st
    exact wpAny_pyIter_enum he h
section
variable {X : Cx}
def iEnum (K : PySem.W.Frag) (ta : TA) : TI := fun σ H R => ta σ H fun vs H1 => ∃ l xs, vs = [.ref l] ∧ SqL K H1 l xs ∧ R (Ite K l) H1
theorem pi_enum {a : Expr} {ta : TA} {p pos tp : Pos} {elts : List Expr} {kk : Nat} (hg : Gl X "enumerate") (hm : X.mg "enumerate" = none) (ha : PA X [a] ta) (hs : starEach [a] X.env = [(false, eval a X.env)] := by rfl) :
    PI X (.Tuple elts kk tp) (.Call (.Name "enumerate" p) [a] [] pos) (iEnum X.K ta) := by
  intro pins s σ H R I h
  refine Call_ (ld_blt I hg hm PyProof.Rows.Boot.«enumerate» (PyProof.Rows.callWith_type1 (thn (ha pos pins s σ H _ I h) fun us s1 ⟨vs, H1, I1, r1, q1⟩ => ?_) (by rw [hs]; rfl) (by rfl)))
  obtain ⟨l, xs, rfl, hx, q⟩ := q1
  obtain ⟨u, rfl, ru⟩ := vals1 r1
  cases ru
  obtain ⟨its, rv, pl, z1⟩ := I1.list hx
  refine call_enumerate_list pl.isList fun g a1 a2 a3 k => ?_
  refine wpAny_pyIter_enum a1 ⟨s1.heap.objs.size + 1, [s1.heap.objs.size + 1, s1.heap.objs.size], _, _, H1, rfl, I1.kept (t' := s1.toks) k, turn_enum _ _ l (Nat.succ_ne_self _), ⟨⟨_, a1⟩, a2⟩, fun b hb => ?_, q⟩
  simp only [List.mem_cons, List.not_mem_nil, or_false] at hb
  rcases hb with rfl | rfl
  · exact I1.fpOk (Nat.le_succ _) (I1.hok.fresh (Nat.le_succ _))
  · exact I1.fpOk (Nat.le_refl _) (I1.hok.fresh (Nat.le_refl _))
end
theorem for_enum {K : PySem.W.Frag} {l : Addr} {xs : List V} {g : TG} {tb : TS} {D : Ends} {σ : St} {H : Hp} (Pv : Nat → St → Hp → Prop) (h0 : Pv 0 σ H) (hl : ∀ i σ H, Pv i σ H → SqL K H l xs)
    (hs : ∀ i x σ H p, xs[i]? = some x → Pv i σ H → H p = none → g (.ref p) σ (upd H p (.tup [.int i, x])) fun σ2 H2 => tb { D with nx := Pv (i + 1), ct := Pv (i + 1), bk := D.nx } σ2 H2)
    (hd : ∀ σ H, Pv xs.length σ H → D.nx σ H) :
    ∃ W : Nat → Nat → St → Hp → Prop, (∃ m, W 0 m σ H) ∧ ∀ i m σ H, W i m σ H →
      ((Ite K l).stop i H ∧ D.nx σ H) ∨ ((Ite K l).go i H ∧ ∃ N : St → Hp → Prop, (∀ σ' H', N σ' H' → ∃ m', m' < m ∧ W (i + 1) m' σ' H') ∧ ∀ x H', (Ite K l).yld i H x H' → g x σ H' fun σ2 H2 => tb { D with nx := N, ct := N, bk := D.nx } σ2 H2) := by
  refine ⟨fun i m σ H => m = xs.length - i ∧ i ≤ xs.length ∧ Pv i σ H, ⟨_, rfl, Nat.zero_le _, h0⟩, ?_⟩
  rintro i m σ H ⟨rfl, hi, p⟩
  have q := hl i σ H p
  by_cases lt : i < xs.length
  · refine .inr ⟨⟨xs, xs[i], q, by simp [lt]⟩, Pv (i + 1), fun σ' H' p' => ⟨_, by omega, rfl, lt, p'⟩, fun v H' y => ?_⟩
    obtain ⟨a, x, hn, rfl, rfl, e1⟩ := y
    exact hs i x σ H a (e1 xs q) p hn
  · obtain rfl : i = xs.length := by omega
    exact .inl ⟨⟨xs, q, Nat.le_refl _⟩, hd σ H p⟩
end L2
namespace L2
theorem Room.one {n : Nat} {A : PySem.Around} (h : Room n A) : A.units + 1 < PySem.cLine := by
  have := h.units
  omega
end L2
namespace Tr
open PySem PySem.Spec PyProof.Rows L2
structure Row where
  kind : Str
  owns : List Str
  reads : List Str
  into : Option Str
  outof : Option Str
def optV : Option Str → V
  | none => .non
  | some q => .str q
def RRow (H : Hp) (v : V) (r : Row) : Prop := ∃ p po pr, v = .ref p ∧ H p = some (.tup [.str r.kind, .ref po, .ref pr, optV r.into, optV r.outof]) ∧ H po = some (.tup (r.owns.map V.str)) ∧ H pr = some (.tup (r.reads.map V.str))
theorem RRow.same {H H' : Hp} {v : V} {r : Row} (e : Same H H') (h : RRow H v r) : RRow H' v r := by
  obtain ⟨p, po, pr, rfl, h1, h2, h3⟩ := h
  exact ⟨p, po, pr, rfl, e _ _ h1, e _ _ h2, e _ _ h3⟩
inductive RRows (H : Hp) : List V → List Row → Prop
  | nil : RRows H [] []
  | cons {v : V} {vs : List V} {r : Row} {rs : List Row} : RRow H v r → RRows H vs rs → RRows H (v :: vs) (r :: rs)
theorem RRows.same {H H' : Hp} (e : Same H H') : ∀ {vs : List V} {rs : List Row}, RRows H vs rs → RRows H' vs rs
  | _, _, .nil => .nil
  | _, _, .cons h r => .cons (h.same e) (RRows.same e r)
theorem RRows.snoc {H : Hp} {v : V} {r : Row} (h : RRow H v r) : ∀ {vs : List V} {rs : List Row}, RRows H vs rs → RRows H (vs ++ [v]) (rs ++ [r])
  | _, _, .nil => .cons h .nil
  | _, _, .cons h' t => .cons h' (RRows.snoc h t)
theorem RRows.len {H : Hp} : ∀ {vs : List V} {rs : List Row}, RRows H vs rs → vs.length = rs.length
  | _, _, .nil => rfl
  | _, _, .cons _ t => congrArg (· + 1) (RRows.len t)
theorem RRows.at {H : Hp} : ∀ {vs : List V} {rs : List Row}, RRows H vs rs → ∀ (i : Nat) (v : V), vs[i]? = some v → ∃ r, rs[i]? = some r ∧ RRow H v r
  | _, _, .nil, i, v, h => by simp at h
  | _, _, .cons (r := r) h' t, 0, v, h => by
    simp at h
    subst h
    exact ⟨r, rfl, h'⟩
  | _, _, .cons h' t, i + 1, v, h => RRows.at t i v (by simpa using h)
theorem RRow.new {H : Hp} {p po pr : Addr} {r : Row} (h1 : H po = some (.tup (r.owns.map V.str))) (h2 : H pr = some (.tup (r.reads.map V.str))) (hp : H p = none) : RRow (upd H p (.tup [.str r.kind, .ref po, .ref pr, optV r.into, optV r.outof])) (.ref p) r :=
  ⟨p, po, pr, rfl, upd_same, Same.new hp _ _ _ h1, Same.new hp _ _ _ h2⟩
end Tr
namespace Tr
open PySem PySem.Spec PyProof.Rows L2
def bal (rs : List Row) (q : Str) : Int := ((rs.filter fun r => decide (r.into = some q)).length : Int) - ((rs.filter fun r => decide (r.outof = some q)).length : Int)
def Fed (rs : List Row) : Prop := ∀ i r q, rs[i]? = some r → r.outof = some q → 0 < bal (rs.take i) q
end Tr
namespace Tr
open PySem PySem.Spec PyProof.Rows L2
def NoRep (ds : List Deed) : Prop := ∀ d ∈ ds, ∀ n b, d ≠ .rep n b
theorem Fed.snoc {rs : List Row} {r : Row} (h : Fed rs) (hr : r.outof = none) : Fed (rs ++ [r]) := fun i r' q hi ho => by
  by_cases lt : i < rs.length
  · rw [List.getElem?_append_left lt] at hi
    rw [List.take_append_of_le_length (Nat.le_of_lt lt)]
    exact h i r' q hi ho
  · rw [List.getElem?_append_right (Nat.not_lt.mp lt)] at hi
    have : r' = r := by
      cases e : i - rs.length with
      | zero => rw [e] at hi; exact (Option.some.inj hi).symm
      | succ n => rw [e] at hi; simp at hi
    rw [this, hr] at ho
    cases ho
def Deed.word : Deed → Str
  | .set .. => "set"
  | .put .. => "put"
  | .get .. => "get"
  | .give .. => "give"
  | .cond .. => "if"
  | .whl .. => "while"
  | .rep .. => "repeat"
theorem RD.tuple {H : Hp} {v : V} {d : Deed} (h : RD H v d) : ∃ p r, v = .ref p ∧ H p = some (.tup (.str d.word :: r)) := by
  cases h with
  | set h => exact ⟨_, _, rfl, h⟩
  | put h => exact ⟨_, _, rfl, h⟩
  | get h => exact ⟨_, _, rfl, h⟩
  | give h => exact ⟨_, _, rfl, h⟩
  | cond h _ _ => exact ⟨_, _, rfl, h⟩
  | whl h _ => exact ⟨_, _, rfl, h⟩
  | rep h _ => exact ⟨_, _, rfl, h⟩
theorem at0 {α : Type} {v : α} {r : List α} : atI (v :: r) (0 : Int) = some v := atI_nat (j := 0) rfl
theorem flat_one {ds : List Deed} {i : Nat} {d : Deed} (h : ds[i]? = some d) : d.flat.length ≤ (flats ds).length ∧ ∀ e ∈ d.flat, e ∈ flats ds := by
  have sp : ds = ds.take i ++ ([d] ++ ds.drop (i + 1)) := by
    rw [← List.append_assoc, show ds.take i ++ [d] = ds.take (i + 1) by rw [List.take_add_one, h]; rfl, List.take_append_drop]
  have e : flats ds = flats (ds.take i) ++ (d.flat ++ flats (ds.drop (i + 1))) := by
    conv => lhs; rw [sp]
    rw [flats_append, flats_append, flats, flats, List.append_nil]
  rw [e]
  refine ⟨by simp only [List.length_append]; omega, fun x hx => by simp [hx]⟩
end Tr
namespace Tr
open PySem PySem.Spec PyProof.Rows L2
end Tr
namespace L2
open PySem PySem.Spec PyProof.Rows
theorem ix_any {X : Cx} : IxR X (fun x y H Q => rIxL X.K x y H Q ∨ rIxT X.K x y H Q) := by
  intro value slice pins s σ H x y v u Q I rx ry h hs
  rcases h with h | h
  · exact ix_list value slice pins s σ H x y v u Q I rx ry h hs
  · exact ix_tup value slice pins s σ H x y v u Q I rx ry h hs
inductive Al (H : Hp) : Nat → V → V → Prop
  | non (n : Nat) : Al H n .non .non
  | str (n : Nat) (x : Str) : Al H n (.str x) (.str x)
  | int (n : Nat) (i : Int) : Al H n (.int i) (.int i)
  | lst {n : Nat} {a b : Addr} {xs ys : List V} : H a = some (.lst xs) → H b = some (.lst ys) → xs.length = ys.length → xs.length ≤ 10000 → (∀ (i : Nat) (x y : V), xs[i]? = some x → ys[i]? = some y → Al H n x y) → Al H (n + 1) (.ref a) (.ref b)
  | tup {n : Nat} {a b : Addr} {xs ys : List V} : H a = some (.tup xs) → H b = some (.tup ys) → xs.length = ys.length → xs.length ≤ 10000 → (∀ (i : Nat) (x y : V), xs[i]? = some x → ys[i]? = some y → Al H n x y) → Al H (n + 1) (.ref a) (.ref b)
theorem Al.strs {H : Hp} {n : Nat} (zs : List Str) : ∀ (i : Nat) (x y : V), (zs.map V.str)[i]? = some x → (zs.map V.str)[i]? = some y → Al H n x y := fun i x y hx hy => by
  rw [hx] at hy
  cases hy
  rw [List.getElem?_map] at hx
  cases e : zs[i]? with
  | none => rw [e] at hx; cases hx
  | some z => rw [e] at hx; cases hx; exact .str _ z
end L2
namespace Tr
open PySem PySem.Spec PyProof.Rows L2
theorem RRow.al {H : Hp} {v u : V} {r : Row} (h : RRow H v r) (h' : RRow H u r) (lo : r.owns.length ≤ 10000) (lr : r.reads.length ≤ 10000) : Al H 2 v u := by
  obtain ⟨p, po, pr, rfl, h1, h2, h3⟩ := h
  obtain ⟨p', po', pr', rfl, h1', h2', h3'⟩ := h'
  refine .tup h1 h1' rfl (by simp) fun i x y hx hy => ?_
  have op : ∀ o : Option Str, Al H 1 (optV o) (optV o) := fun o => by cases o <;> constructor
  match i, hx, hy with
  | 0, hx, hy => cases hx; cases hy; exact .str _ _
  | 1, hx, hy => cases hx; cases hy; exact .tup h2 h2' rfl (by rw [List.length_map]; exact lo) (Al.strs _)
  | 2, hx, hy => cases hx; cases hy; exact .tup h3 h3' rfl (by rw [List.length_map]; exact lr) (Al.strs _)
  | 3, hx, hy => cases hx; cases hy; exact op _
  | 4, hx, hy => cases hx; cases hy; exact op _
  | i + 5, hx, hy => simp at hx
theorem RRows.al {H : Hp} {vs us : List V} {rs : List Row} (h : RRows H vs rs) (h' : RRows H us rs) (hl : ∀ r ∈ rs, r.owns.length ≤ 10000 ∧ r.reads.length ≤ 10000) : ∀ (i : Nat) (x y : V), vs[i]? = some x → us[i]? = some y → Al H 2 x y := fun i x y hx hy => by
  obtain ⟨r, hr, h1⟩ := h.at i x hx
  obtain ⟨r', hr', h2⟩ := h'.at i y hy
  rw [hr] at hr'
  cases hr'
  obtain ⟨a, b⟩ := hl r (List.mem_of_getElem? hr)
  exact h1.al h2 a b
end Tr
namespace Tr
open PySem PySem.Spec PyProof.Rows L2
inductive RMs (H : Hp) : List V → List (Str × Str) → Prop
  | nil : RMs H [] []
  | cons {p : Addr} {vs : List V} {m : Str × Str} {ms : List (Str × Str)} : H p = some (.tup [.str m.1, .str m.2]) → RMs H vs ms → RMs H (.ref p :: vs) (m :: ms)
theorem RMs.same {H H' : Hp} (e : Same H H') : ∀ {vs : List V} {ms : List (Str × Str)}, RMs H vs ms → RMs H' vs ms
  | _, _, .nil => .nil
  | _, _, .cons h r => .cons (e _ _ h) (RMs.same e r)
theorem RMs.snoc {H : Hp} {p : Addr} {m : Str × Str} (h : H p = some (.tup [.str m.1, .str m.2])) : ∀ {vs : List V} {ms : List (Str × Str)}, RMs H vs ms → RMs H (vs ++ [.ref p]) (ms ++ [m])
  | _, _, .nil => .cons h .nil
  | _, _, .cons h' r => .cons h' (RMs.snoc h r)
theorem RMs.len {H : Hp} : ∀ {vs : List V} {ms : List (Str × Str)}, RMs H vs ms → vs.length = ms.length
  | _, _, .nil => rfl
  | _, _, .cons _ r => congrArg (· + 1) (RMs.len r)
theorem RMs.at {H : Hp} : ∀ {vs : List V} {ms : List (Str × Str)}, RMs H vs ms → ∀ (i : Nat) (v : V), vs[i]? = some v → ∃ p m, v = .ref p ∧ ms[i]? = some m ∧ H p = some (.tup [.str m.1, .str m.2])
  | _, _, .nil, i, v, h => by simp at h
  | _, _, .cons (p := p) (m := m) h' r, 0, v, h => by
    simp at h
    exact ⟨p, m, h.symm, rfl, h'⟩
  | _, _, .cons h' r, i + 1, v, h => RMs.at r i v (by simpa using h)
end Tr
namespace Tr
open PySem PySem.Spec PyProof.Rows L2
theorem RDs.rep {H : Hp} {v : V} {d : Deed} (h : RD H v d) : ∀ n : Nat, RDs H (List.replicate n v) (List.replicate n d)
  | 0 => .nil
  | n + 1 => .cons h (RDs.rep h n)
end Tr
namespace Tr
open PySem PySem.Spec PyProof.Rows L2
inductive RPs (H : Hp) : List V → List (Str × Str) → Prop
  | nil : RPs H [] []
  | cons {p : Addr} {vs : List V} {m : Str × Str} {ms : List (Str × Str)} : H p = some (.tup [.str "put", .str m.1, .str m.2]) → RPs H vs ms → RPs H (.ref p :: vs) (m :: ms)
theorem RPs.same {H H' : Hp} (e : Same H H') : ∀ {vs : List V} {ms : List (Str × Str)}, RPs H vs ms → RPs H' vs ms
  | _, _, .nil => .nil
  | _, _, .cons h r => .cons (e _ _ h) (RPs.same e r)
theorem RPs.app {H : Hp} : ∀ {us vs : List V} {a b : List (Str × Str)}, RPs H us a → RPs H vs b → RPs H (us ++ vs) (a ++ b)
  | _, _, _, _, .nil, h => h
  | _, _, _, _, .cons x r, h => .cons x (RPs.app r h)
theorem RPs.rep {H : Hp} {p : Addr} {m : Str × Str} (h : H p = some (.tup [.str "put", .str m.1, .str m.2])) : ∀ n : Nat, RPs H (List.replicate n (.ref p)) (List.replicate n m)
  | 0 => .nil
  | n + 1 => .cons h (RPs.rep h n)
theorem RPs.len {H : Hp} : ∀ {vs : List V} {ms : List (Str × Str)}, RPs H vs ms → vs.length = ms.length
  | _, _, .nil => rfl
  | _, _, .cons _ r => congrArg (· + 1) (RPs.len r)
theorem RPs.rds {H : Hp} : ∀ {vs : List V} {ms : List (Str × Str)}, RPs H vs ms → RDs H vs (ms.map fun m => .put m.1 m.2)
  | _, _, .nil => .nil
  | _, _, .cons h r => .cons (.put h) (RPs.rds r)
end Tr
namespace Tr
open PySem PySem.Spec PyProof.Rows L2
def OpOk (o : Op) : Prop := (∃ x, o = .ifT x) ∨ (∃ x t, o = .ifO x t) ∨ ∃ x, o = .whl x
theorem OpOk.deed {f : Fr} (h : OpOk f.op) : ∀ n b, f.deed ≠ .rep n b := fun n b z => by
  unfold Fr.deed at z
  rcases h with ⟨x, e⟩ | ⟨x, t, e⟩ | ⟨x, e⟩ <;> rw [e] at z <;> cases z
theorem NoRep.app {a b : List Deed} (h1 : NoRep a) (h2 : NoRep b) : NoRep (a ++ b) := fun d hd => (List.mem_append.mp hd).elim (h1 d) (h2 d)
theorem NoRep.one {d : Deed} (h : ∀ n b, d ≠ .rep n b) : NoRep [d] := fun e he => by rw [List.mem_singleton.mp he]; exact h
end Tr
namespace Tr
open PySem PySem.Spec PyProof.Rows L2
end Tr
namespace Tr
open PySem PySem.Spec PyProof.Rows L2
end Tr
namespace Tr
open PySem PySem.Spec PyProof.Rows L2
end Tr
namespace Tr
open PySem
end Tr
namespace Tr
open PySem
def AllD (Pd : Deed → Prop) (ds : List Deed) : Prop := ∀ d ∈ flats ds, Pd d
theorem AllD.app {Pd : Deed → Prop} {a b : List Deed} (h1 : AllD Pd a) (h2 : AllD Pd b) : AllD Pd (a ++ b) := fun d h => by
  rw [flats_append, List.mem_append] at h
  exact h.elim (h1 d) (h2 d)
theorem AllD.nil {Pd : Deed → Prop} : AllD Pd [] := fun d h => by simp [flats] at h
theorem AllD.one {Pd : Deed → Prop} {d : Deed} (h : Pd d) (hi : ∀ b ∈ d.inner, AllD Pd b) : AllD Pd [d] := fun e he => by
  rw [flats, flats, List.append_nil, flat_inner, List.mem_cons, List.mem_flatMap] at he
  rcases he with rfl | ⟨b, hb, he⟩
  · exact h
  · exact hi b hb e he
def OpRep (o : Op) : Prop := ∀ n, o = .rep n → 0 ≤ n ∧ n ≤ 99
def FrA (Pd : Deed → Prop) (f : Fr) : Prop := AllD Pd f.ds ∧ AllD Pd f.op.extra ∧ OpRep f.op
structure PdOk (Pd : Deed → Prop) : Prop where
  cond : ∀ x t o, Pd (.cond x t o)
  whl : ∀ x b, Pd (.whl x b)
  rep : ∀ n b, 0 ≤ n → n ≤ 99 → Pd (.rep n b)
theorem FrA.deed {Pd : Deed → Prop} (hp : PdOk Pd) {f : Fr} (h : FrA Pd f) : AllD Pd [f.deed] := by
  obtain ⟨h1, h2, h3⟩ := h
  unfold Fr.deed
  cases q : f.op <;> rw [q] at h2 h3
  · exact .one (hp.rep _ _ (by decide) (by decide)) (by simpa [Deed.inner] using h1)
  · exact .one (hp.cond _ _ _) (by simpa [Deed.inner] using ⟨h1, AllD.nil⟩)
  · exact .one (hp.cond _ _ _) (by simpa [Deed.inner] using ⟨h2, h1⟩)
  · exact .one (hp.whl _ _) (by simpa [Deed.inner] using h1)
  · exact .one (hp.rep _ _ (h3 _ rfl).1 (h3 _ rfl).2) (by simpa [Deed.inner] using h1)
def TRel (f g : Fr) : Prop := match f.op with
  | .root => False
  | .rep n => f.times = g.times * n
  | _ => f.times = 0
def TR (most : Int) : List Fr → Prop
  | [] => False
  | [f] => f.op = .root ∧ f.times = 1
  | f :: g :: r => TRel f g ∧ 0 ≤ f.times ∧ f.times ≤ most ∧ TR most (g :: r)
theorem TR.same {most : Int} {f f' : Fr} {r : List Fr} (e1 : f'.op = f.op) (e2 : f'.times = f.times) (h : TR most (f :: r)) : TR most (f' :: r) := by
  cases r with
  | nil => exact ⟨e1.trans h.1, e2.trans h.2⟩
  | cons g r =>
    obtain ⟨a, b, c, d⟩ := h
    refine ⟨?_, by rw [e2]; exact b, by rw [e2]; exact c, d⟩
    unfold TRel at a ⊢
    rw [e1, e2]
    exact a
theorem many_ok {n most t : Int} (h0 : 0 ≤ most) (h1 : most ≤ 98) (ht : 0 ≤ t) : 0 ≤ manyV n most t ∧ manyV n most t ≤ 99 ∧ 0 ≤ t * manyV n most t ∧ t * manyV n most t ≤ most := by
  unfold manyV
  by_cases tp : 0 < t
  · rw [if_pos tp]
    have q0 : 0 ≤ most / t := Int.ediv_nonneg h0 ht
    have q1 : most / t ≤ most := Int.ediv_le_self _ h0
    have e0 : 0 ≤ n / 70 % (1 + most / t) := Int.emod_nonneg _ (by omega)
    have e1 : n / 70 % (1 + most / t) < 1 + most / t := Int.emod_lt_of_pos _ (by omega)
    have m1 : t * (n / 70 % (1 + most / t)) ≤ t * (most / t) := Int.mul_le_mul_of_nonneg_left (by omega) ht
    have m2 : t * (most / t) ≤ most := Int.mul_ediv_self_le (by omega)
    exact ⟨e0, by omega, Int.mul_nonneg ht e0, by omega⟩
  · rw [if_neg tp]
    obtain rfl : t = 0 := by omega
    exact ⟨Int.emod_nonneg _ (by decide), by omega, by simp, by simpa using h0⟩
structure Wt where
  g : Int
  e : Deed → Int
mutual
def Wt.d (w : Wt) : Deed → Int
  | .rep n b => w.g + n * (Wt.l w b + w.g)
  | .cond _ _ _ => w.g
  | .whl _ _ => w.g
  | .set x a sg b => w.e (.set x a sg b)
  | .put q x => w.e (.put q x)
  | .get q x => w.e (.get q x)
  | .give x => w.e (.give x)
def Wt.l (w : Wt) : List Deed → Int
  | [] => 0
  | d :: r => Wt.d w d + Wt.l w r
end
theorem Wt.l_append (w : Wt) : ∀ (a b : List Deed), w.l (a ++ b) = w.l a + w.l b
  | [], b => by simp [Wt.l]
  | d :: a, b => by rw [List.cons_append, Wt.l, Wt.l, Wt.l_append w a b]; omega
def Wt.m (w : Wt) : List Fr → Int
  | [] => 0
  | [f] => f.times * w.l f.ds
  | f :: g :: r => f.times * w.l f.ds + (g.times * w.g + match f.op with | .rep _ => f.times * w.g | _ => 0) + Wt.m w (g :: r)
theorem Wt.deed (w : Wt) {f g : Fr} (h : TRel f g) : g.times * w.d f.deed = f.times * w.l f.ds + (g.times * w.g + match f.op with | .rep _ => f.times * w.g | _ => 0) := by
  unfold TRel at h
  unfold Fr.deed
  cases q : f.op <;> rw [q] at h <;> simp only [Wt.d] at h ⊢
  · rw [h]; simp
  · rw [h]; simp
  · rw [h]; simp
  · rw [h, Int.mul_add, Int.mul_add, Int.mul_add, ← Int.mul_assoc, ← Int.mul_assoc]; omega
theorem Wt.wh (w : Wt) {most : Int} : ∀ (f : Fr) (r : List Fr) (dt : List Deed), TR most (f :: r) → w.l (wh (f :: r) dt) = w.m (f :: r) + f.times * w.l dt
  | f, [], dt, h => by
    rw [Tr.wh, Wt.l_append, Wt.m, h.2]
    omega
  | f, g :: r, dt, h => by
    rw [Tr.wh, Wt.wh w g r _ h.2.2.2]
    have := Wt.deed w (f := { f with ds := f.ds ++ dt }) (g := g) h.1
    simp only [Wt.l, Int.add_zero]
    rw [this, Wt.l_append, Int.mul_add, Wt.m]
    dsimp only
    omega
end Tr
namespace Tr
open PySem PySem.Spec PyProof.Rows L2
theorem RRows.app {H : Hp} : ∀ {us vs : List V} {a b : List Row}, RRows H us a → RRows H vs b → RRows H (us ++ vs) (a ++ b)
  | _, _, _, _, .nil, h => h
  | _, _, _, _, .cons x r, h => .cons x (RRows.app r h)
theorem RMs.app {H : Hp} : ∀ {us vs : List V} {a b : List (Str × Str)}, RMs H us a → RMs H vs b → RMs H (us ++ vs) (a ++ b)
  | _, _, _, _, .nil, h => h
  | _, _, _, _, .cons x r, h => .cons x (RMs.app r h)
theorem AllD.at {Pd : Deed → Prop} {ds : List Deed} {i : Nat} {d : Deed} (h : AllD Pd ds) (hi : ds[i]? = some d) : AllD Pd [d] := fun e he => h e (by
  rw [flats, flats, List.append_nil] at he
  exact (flat_one hi).2 e he)
theorem AllD.rep {Pd : Deed → Prop} {n : Int} {b : List Deed} (h : AllD Pd [.rep n b]) : Pd (.rep n b) ∧ AllD Pd b :=
  ⟨h _ (by simp [flats, Deed.flat]), fun e he => h e (by simp [flats, Deed.flat, he])⟩
end Tr
namespace L2
open PySem PySem.Spec PyProof.Rows
structure CMeth (K : PySem.W.Frag) (C : Addr) (m : Str) (f : Addr) : Prop where
  ga : PySem.W.specialIn K (.ref C) "__getattribute__" = some (some (.builtin "type.__getattribute__"))
  rd : PySem.W.readsIn K C (.type "type") = true
  fc : PySem.W.findCls K (.ref C) (.type "type") m = some (.val (.ref f))
  kp : PySem.W.keepIn K (.ref f) = true
section
variable {X : Cx} {CX : CXT} {k : Nat} {f C : Addr} {fd : FuncData} {ps : List Str} {sp : Sp} {E : XK} {x m : Str} {p pos apos : Pos} {e o : Expr} {es : List Expr} {t : TA} {te ta : TE} {ds : List Value} {dvs : List V}
theorem pe_cmeth {pl : Sem Bool} (hg : Gl X x) (hmg : X.mg x = some (.ref C)) (c : CMeth X.K C m f) (F : FnOk X.prog X.w X.K X.mg X.base CX k f fd ps sp) (hr : Room k X.A) (hb : Binds X.K fd ps ds) (hd : Vals dvs ds) (hx : Passes CX X E) (ha : PA X (e :: es) t) (hdb : (x == ("__debug__" : Str)) = false := by decide)
    (hst : starEach (e :: es) X.env = (false, eval e X.env) :: starEach es X.env := by rfl) (hpl : (backTo pos (starEach es X.env)).any (·.1) = false := by rfl)
    (ht : eval (.Call (.Attribute (.Name x p) m apos) (e :: es) [] pos) X.env = (do
      let ov ← eval (.Name x p) X.env
      standAt apos.atName
      let (f, first) ← holding [ov] (getMethod ov m pl)
      callWith pos f first (backTo pos (starEach (e :: es) X.env)) (backToKw pos (keywordEach [] X.env))) := by rfl) :
    PE X (.Call (.Attribute (.Name x p) m apos) (e :: es) [] pos) (tCall sp dvs E t) := by
  intro pins s σ H Q I h
  refine PySem.W.methodCall_KW (pl := pl) (ld_glob I hg hmg ?_ hdb) ht
  refine PySem.W.method_cls I.kIn c.ga (PySem.W.cls_value I.kIn c.rd c.fc rfl ?_)
  have I2 : Inv X pins σ H { s with toks := s.toks + 1 } := I.tok _
  refine PySem.W.callWith_K (first := []) (h₀ := X.base) I.ok.mod.kin c.kp (thn (ha pos pins _ σ H _ I2 h) fun us s2 ⟨vs, H2, I3, r, q2⟩ => ⟨I3.kIn, ?_⟩) hst hpl
  exact run_fn (us := us) (vs := vs) F hr hb hd hx I3 r q2
def MethAt (X : Cx) (C : Addr) (m : Str) (sp : Sp) : Prop := ∃ (k : Nat) (f : Addr) (fd : FuncData) (ps : List Str), Cls X.K C ∧ Meth X.K C m f ∧ FnOk X.prog X.w X.K X.mg X.base CX0 k f fd ps sp ∧ Room k X.A ∧ Binds X.K fd ps []
def tMethV (X : Cx) (m : Str) (ta : TE) (t : TA) : TE := fun σ H Q => ta σ H fun x H1 => ∃ a C dx fs sp, x = .ref a ∧ H1 a = some (.ins C dx fs) ∧ fs.lookup m = none ∧ MethAt X C m sp ∧ t σ H1 fun vs H2 => sp (x :: vs) H2 Q E0
theorem pe_methV {pl : Sem Bool} (he : PE X o ta) (ha : PA X (e :: es) t)
    (hst : starEach (e :: es) X.env = (false, eval e X.env) :: starEach es X.env := by rfl) (hpl : (backTo pos (starEach es X.env)).any (·.1) = false := by rfl)
    (ht : eval (.Call (.Attribute o m apos) (e :: es) [] pos) X.env = (do
      let ov ← eval o X.env
      standAt apos.atName
      let (f, first) ← holding [ov] (getMethod ov m pl)
      callWith pos f first (backTo pos (starEach (e :: es) X.env)) (backToKw pos (keywordEach [] X.env))) := by rfl) :
    PE X (.Call (.Attribute o m apos) (e :: es) [] pos) (tMethV X m ta t) := by
  intro pins s σ H Q I h
  refine PySem.W.methodCall_KW (pl := pl) (thn (he pins s σ H _ I h) fun u s1 ⟨x, H1, I1, rx, a, C, dx, fs, sp, ex, ea, l, ⟨k, f, fd, ps, c, hm, F, hr, hb⟩, q⟩ => ?_) ht
  subst ex
  obtain rfl : u = Value.ref a := rx
  refine getmeth_ok I1 ea c hm l ?_
  refine PySem.W.callWith_K (first := [.ref a]) (h₀ := X.base) I.ok.mod.kin hm.kp (thn (ha pos pins s1 σ H1 _ I1 q) fun us s2 ⟨vs, H2, I2, r, q2⟩ => ⟨I2.kIn, ?_⟩) hst hpl
  exact run_fn (us := .ref a :: us) (vs := .ref a :: vs) (dvs := []) F hr hb .nil pass0 I2 (.cons rfl r) (by rw [List.append_nil]; exact q2)
end
structure IsK (K : PySem.W.Frag) (C : Addr) : Prop where
  ha : PySem.W.findIn K (.ref C) "__class__" = some (some (.builtin "object.__class__"))
  hn : PySem.W.specialIn K (.builtin "object.__class__") "__get__" = some (some (.builtin "getset_descriptor.__get__"))
  htk : PySem.W.takesIn K (.builtin "object.__class__") = some true
  hm : PySem.W.mroIn K C (.type "object") = some true
theorem IsK.ty {K : PySem.W.Frag} {H : Hp} {a C dx : Addr} {fs : List (Str × V)} (i : IsK K C) (c : Cls K C) (e : H a = some (.ins C dx fs)) : TyOf K H (.ref a) (.ref C) := .ins e c i.ha i.hn i.htk i.hm
theorem putF_new {f : Str} {v : V} : ∀ {fs : List (Str × V)} (ks : List Str), fs.map (·.1) = ks → (ks.all fun g => !decide (g = f)) = true → putF f v fs = fs ++ [(f, v)]
  | [], _, _, _ => rfl
  | (g, x) :: r, ks, e, h => by
    subst e
    simp only [List.map_cons, List.all_cons, Bool.and_eq_true, Bool.not_eq_true', decide_eq_false_iff_not] at h
    rw [putF, if_neg h.1, putF_new (r.map (·.1)) rfl h.2]
    rfl
theorem upd_twice {H : Hp} {p : Addr} {o o' : HO} : upd (upd H p o) p o' = upd H p o' := by
  funext b
  by_cases e : b = p
  · subst e
    rw [upd_same, upd_same]
  · rw [upd_ne e, upd_ne e, upd_ne e]
theorem lookup_hit {k : Str} {v : V} {r : List (Str × V)} : List.lookup k ((k, v) :: r) = some v := by simp [List.lookup]
theorem lookup_miss {k g : Str} {v : V} {r : List (Str × V)} (h : (k == g) = false) : List.lookup k ((g, v) :: r) = List.lookup k r := by simp [List.lookup, h]
end L2
namespace L2
open PySem PySem.Spec PyProof.Rows
theorem atI_pos {α : Type} {xs : List α} {i : Int} {v : α} (h : 0 ≤ i) (e : xs[i.toNat]? = some v) : atI xs i = some v := by
  have := atI_nat (xs := xs) (j := i.toNat) (v := v) e
  rwa [Int.toNat_of_nonneg h] at this
inductive AlB (H : Hp) : Nat → V → V → Prop
  | non (n : Nat) : AlB H n .non .non
  | bl (n : Nat) (x : Bool) : AlB H n (.bl x) (.bl x)
  | str (n : Nat) (x : Str) : AlB H n (.str x) (.str x)
  | int (n : Nat) (i : Int) : AlB H n (.int i) (.int i)
  | lst {n : Nat} {a b : Addr} {xs ys : List V} : H a = some (.lst xs) → H b = some (.lst ys) → xs.length = ys.length → xs.length ≤ 10000 → (∀ (i : Nat) (x y : V), xs[i]? = some x → ys[i]? = some y → AlB H n x y) → AlB H (n + 1) (.ref a) (.ref b)
  | tup {n : Nat} {a b : Addr} {xs ys : List V} : H a = some (.tup xs) → H b = some (.tup ys) → xs.length = ys.length → xs.length ≤ 10000 → (∀ (i : Nat) (x y : V), xs[i]? = some x → ys[i]? = some y → AlB H n x y) → AlB H (n + 1) (.ref a) (.ref b)
end L2
namespace L2
open PySem PySem.Spec PyProof.Rows
theorem CompSc.own {esc : Scope} {N : List Str} {scope : Scope} {k : Nat} {Nc : List Str} (h1 : scope.kind = .function) (h2 : ∀ y ∈ scope.names, y.2 ≠ NameKind.cell) (h3 : ∀ y ∈ scope.names, y.2 = NameKind.local → scope.names.lookup y.1 = Option.some NameKind.local) (h4 : ∀ y ∈ scope.names, y.2 ≠ NameKind.free) (h5 : Nc.length = k) : CompSc esc N scope k Nc [] :=
  ⟨h1, h2, h3, fun y hy h => absurd h (h4 y hy), by rw [h5]; rfl, fun p hp => by simp at hp⟩
def grow (H0 H H' : Hp) : Hp := fun b => match H b with
  | none => H' b
  | some _ => H0 b
end L2
namespace L2
open PySem PySem.Spec PyProof.Rows
inductive qVar (i : Nat) (σ : St) (H : Hp) (Q : VK) : Prop
  | mk (v : V) (h : σ[i]? = some (some v)) (q : Q v H) : qVar i σ H Q
theorem qVar_eq (i : Nat) : qVar i = tVar i := by
  funext σ H Q
  exact propext ⟨fun ⟨v, h, q⟩ => ⟨v, h, q⟩, fun ⟨v, h, q⟩ => ⟨v, h, q⟩⟩
inductive qB (x : V) (H : Hp) (Q : Bool → Hp → Prop) : Prop
  | mk (k : Bool) (h : x = .bl k) (q : Q k H) : qB x H Q
theorem qB_eq (Q : Bool → Hp → Prop) : (fun x H => qB x H Q) = fun x H => ∃ k, x = V.bl k ∧ Q k H := by
  funext x H
  exact propext ⟨fun ⟨v, h, q⟩ => ⟨v, h, q⟩, fun ⟨v, h, q⟩ => ⟨v, h, q⟩⟩
def qTest (t : TE) : TT := fun σ H Q => t σ H fun x H' => qB x H' Q
theorem qTest_eq (t : TE) : qTest t = tTest t := by
  funext σ H Q
  unfold qTest tTest
  rw [qB_eq]
theorem qTest_eqB (t : TE) : qTest t = tB t := by
  funext σ H Q
  unfold qTest tB
  rw [qB_eq]
inductive qAdd (x y : V) (H : Hp) (Q : VK) : Prop
  | mk (i j : Int) (h1 : x = .int i) (h2 : y = .int j) (q : Q (.int (i + j)) H) : qAdd x y H Q
inductive qSub (x y : V) (H : Hp) (Q : VK) : Prop
  | mk (i j : Int) (h1 : x = .int i) (h2 : y = .int j) (q : Q (.int (i - j)) H) : qSub x y H Q
inductive qFdiv (x y : V) (H : Hp) (Q : VK) : Prop
  | mk (i j : Int) (h1 : x = .int i) (h2 : y = .int j) (c : 0 < j ∧ j < 1073741824) (q : Q (.int (i / j)) H) : qFdiv x y H Q
inductive qMod (x y : V) (H : Hp) (Q : VK) : Prop
  | mk (i j : Int) (h1 : x = .int i) (h2 : y = .int j) (c : 0 < j) (q : Q (.int (i % j)) H) : qMod x y H Q
inductive qLt (x y : V) (H : Hp) (Q : VK) : Prop
  | mk (i j : Int) (h1 : x = .int i) (h2 : y = .int j) (q : Q (.bl (decide (i < j))) H) : qLt x y H Q
inductive qEq (x y : V) (H : Hp) (Q : VK) : Prop
  | mk (c : scal x y = true) (q : Q (.bl (decide (x = y))) H) : qEq x y H Q
inductive qNe (x y : V) (H : Hp) (Q : VK) : Prop
  | mk (c : scal x y = true) (q : Q (.bl (!decide (x = y))) H) : qNe x y H Q
inductive qIsN (x y : V) (H : Hp) (Q : VK) : Prop
  | mk (c : y = .non) (q : Q (.bl (decide (x = .non))) H) : qIsN x y H Q
inductive qIxL (K : PySem.W.Frag) (x y : V) (H : Hp) (Q : VK) : Prop
  | mk (p : Addr) (xs : List V) (i : Int) (v : V) (h1 : x = .ref p) (h2 : y = .int i) (h3 : SqL K H p xs) (h4 : atI xs i = some v) (q : Q v H) : qIxL K x y H Q
inductive qIxT (K : PySem.W.Frag) (x y : V) (H : Hp) (Q : VK) : Prop
  | mk (p : Addr) (xs : List V) (i : Int) (v : V) (h1 : x = .ref p) (h2 : y = .int i) (h3 : SqT K H p xs) (h4 : atI xs i = some v) (q : Q v H) : qIxT K x y H Q
inductive qLen (K : PySem.W.Frag) (xs : List V) (H : Hp) (Q : VK) : Prop
  | mk (p : Addr) (ys : List V) (h1 : xs = [.ref p]) (h2 : SqL K H p ys ∨ SqT K H p ys) (q : Q (.int ys.length) H) : qLen K xs H Q
inductive qIsT (K : PySem.W.Frag) (xs : List V) (H : Hp) (Q : VK) : Prop
  | mk (x : V) (t : Value) (T : String) (b : Bool) (h1 : xs = [x, .ty T]) (h2 : TyOf K H x t) (h3 : PySem.W.kitOne K t (.type T) = some b) (q : Q (.bl b) H) : qIsT K xs H Q
inductive qIsC (K : PySem.W.Frag) (xs : List V) (H : Hp) (Q : VK) : Prop
  | mk (x : V) (t : Value) (C : Addr) (b : Bool) (h1 : xs = [x, .ref C]) (h2 : TyOf K H x t) (h3 : PySem.W.kitOne K t (.ref C) = some b) (q : Q (.bl b) H) : qIsC K xs H Q
inductive qListOf (K : PySem.W.Frag) (xs : List V) (H : Hp) (Q : VK) : Prop
  | mk (p : Addr) (ys : List V) (h1 : xs = [.ref p]) (h2 : SqL K H p ys ∨ SqT K H p ys) (q : ∀ l, H l = none → Q (.ref l) (upd H l (.lst ys))) : qListOf K xs H Q
inductive qAppend (x : V) (vs : List V) (H : Hp) (Q : VK) : Prop
  | mk (l : Addr) (xs : List V) (y : V) (h1 : x = .ref l) (h2 : vs = [y]) (h3 : H l = some (.lst xs)) (h4 : xs.length < sizeLine) (q : Q .non (upd H l (.lst (xs ++ [y])))) : qAppend x vs H Q
inductive qCatS (K : PySem.W.Frag) (x y : V) (H : Hp) (Q : VK) : Prop
  | mk (l b : Addr) (xs zs : List V) (h1 : x = .ref l) (h2 : y = .ref b) (h3 : SqL K H l xs) (h4 : SqL K H b zs) (h5 : xs.length + zs.length ≤ sizeLine) (q : ∀ p, H p = none → Q (.ref p) (upd H p (.lst (xs ++ zs)))) : qCatS K x y H Q
inductive qAnd (A B : Prop) : Prop
  | mk (h : A) (q : B) : qAnd A B
theorem qAnd_eq (A B : Prop) : qAnd A B = (A ∧ B) := propext ⟨fun ⟨a, b⟩ => ⟨a, b⟩, fun ⟨a, b⟩ => ⟨a, b⟩⟩
section
variable {X : Cx}
theorem pq (i : Nat) {x : Str} {pos : Pos} (hN : X.N[i]? = some x := by rfl) (hv : Vis X.env.scope x := by first | exact Or.inl rfl | exact Or.inr (Or.inl rfl) | exact Or.inr (Or.inr rfl)) (hd : (x == ("__debug__" : Str)) = false := by decide)
    (hcd : (x == ("__classdict__" : Str)) = false := by decide) : PE X (.Name x pos) (qVar i) := by
  rw [qVar_eq]
  exact pe_var hN hv hd hcd
theorem pt_cmpQ {op : CmpOp} {r : R2} {a b : Expr} {ta tb : TE} {pos : Pos} (ho : OpR X (compareOp op) r) (ha : PE X a ta) (hb : PE X b tb) (hm : behindInMarks op b = false) : PT X (.Compare a [op] [b] pos) (qTest (tOp r ta tb)) := by
  rw [qTest_eq]
  exact pt_cmpR ho ha hb hm
theorem pt_valQ {e : Expr} {t : TE} (h : PE X e t) (he : ∀ whole, isTrue e X.env whole = (do let v ← whole; standAt e.pos; holding [v] (truthy v)) := by intro _; rfl) : PT X e (qTest t) := by
  rw [qTest_eqB]
  exact pt_val h he
theorem OpR.as {f : Value → Value → Sem Value} {r r' : R2} (h : OpR X f r) (e : ∀ x y H Q, r' x y H Q → r x y H Q) : OpR X f r' := fun pins s σ H x y v u Q I rx ry q => h pins s σ H x y v u Q I rx ry (e _ _ _ _ q)
theorem CallR.as {f : Value} {r r' : List V → Hp → VK → Prop} (h : CallR X f r) (e : ∀ x H Q, r' x H Q → r x H Q) : CallR X f r' := fun pins s σ H x u Q I rx q => h pins s σ H x u Q I rx (e _ _ _ q)
theorem IxR.as {r r' : R2} (h : IxR X r) (e : ∀ x y H Q, r' x y H Q → r x y H Q) : IxR X r' := fun a b pins s σ H x y v u Q I rx ry q => h a b pins s σ H x y v u Q I rx ry (e _ _ _ _ q)
theorem qi_add : OpR X (binaryOp .Add) qAdd := oi_add.as fun _ _ _ _ ⟨i, j, a, b, q⟩ => ⟨i, j, a, b, q⟩
theorem qi_sub : OpR X (binaryOp .Sub) qSub := oi_sub.as fun _ _ _ _ ⟨i, j, a, b, q⟩ => ⟨i, j, a, b, q⟩
theorem qi_fdiv : OpR X (binaryOp .FloorDiv) qFdiv := oi_fdiv.as fun _ _ _ _ ⟨i, j, a, b, c, q⟩ => ⟨i, j, a, b, c, q⟩
theorem qi_mod : OpR X (binaryOp .Mod) qMod := oi_mod.as fun _ _ _ _ ⟨i, j, a, b, c, q⟩ => ⟨i, j, a, b, c, q⟩
theorem qi_lt : OpR X (compareOp .Lt) qLt := oi_lt.as fun _ _ _ _ ⟨i, j, a, b, q⟩ => ⟨i, j, a, b, q⟩
theorem qo_eq : OpR X (compareOp .Eq) qEq := op_eq.as fun _ _ _ _ ⟨c, q⟩ => ⟨c, q⟩
theorem qo_ne : OpR X (compareOp .NotEq) qNe := op_ne.as fun _ _ _ _ ⟨c, q⟩ => ⟨c, q⟩
theorem qo_isN : OpR X (compareOp .Is) qIsN := op_isN.as fun _ _ _ _ ⟨c, q⟩ => ⟨c, q⟩
theorem qo_catS : OpR X (binaryOp .Add) (qCatS X.K) := op_catS.as fun _ _ _ _ ⟨l, b, xs, zs, h1, h2, h3, h4, h5, q⟩ => ⟨l, b, xs, zs, h1, h2, h3, h4, h5, q⟩
theorem qx_list : IxR X (qIxL X.K) := ix_list.as fun _ _ _ _ ⟨p, xs, i, v, a, b, c, d, q⟩ => ⟨p, xs, i, v, a, b, c, d, q⟩
theorem qx_tup : IxR X (qIxT X.K) := ix_tup.as fun _ _ _ _ ⟨p, xs, i, v, a, b, c, d, q⟩ => ⟨p, xs, i, v, a, b, c, d, q⟩
theorem qx_listK {K : PySem.W.Frag} (e : X.K = K) : IxR X (qIxL K) := by
  subst e
  exact qx_list
theorem qx_tupK {K : PySem.W.Frag} (e : X.K = K) : IxR X (qIxT K) := by
  subst e
  exact qx_tup
theorem qc_len : CallR X (.builtin "len") (qLen X.K) := call_len_seq.as fun _ _ _ ⟨p, ys, a, b, q⟩ => ⟨p, ys, a, b, q⟩
theorem qc_isT : CallR X (.builtin "isinstance") (qIsT X.K) := call_isT.as fun _ _ _ ⟨x, t, T, b, h1, h2, h3, q⟩ => ⟨x, t, T, b, h1, h2, h3, q⟩
theorem qc_isC : CallR X (.builtin "isinstance") (qIsC X.K) := call_isC.as fun _ _ _ ⟨x, t, T, b, h1, h2, h3, q⟩ => ⟨x, t, T, b, h1, h2, h3, q⟩
theorem qc_list : CallR X (.type "list") (qListOf X.K) := call_list_of.as fun _ _ _ ⟨p, ys, a, b, q⟩ => ⟨p, ys, a, b, q⟩
theorem qm_append : MtM X "list.append" qAppend := fun pins s σ H x xs v us Q I rx rv ⟨l, ys, y, h1, h2, h3, h4, q⟩ => mt_append pins s σ H x xs v us Q I rx rv ⟨l, ys, y, h1, h2, h3, h4, q⟩
inductive qFldR (K : PySem.W.Frag) (f : Str) (x : V) (H : Hp) (Q : VK) : Prop
  | mk (a C dx : Addr) (fs : List (Str × V)) (v : V) (h1 : x = .ref a) (h2 : H a = some (.ins C dx fs)) (h3 : Cls K C) (h4 : NoAttr K C f) (h5 : fs.lookup f = some v) (q : Q v H) : qFldR K f x H Q
def qFld (K : PySem.W.Frag) (ta : TE) (f : Str) : TE := fun σ H Q => ta σ H fun x H1 => qFldR K f x H1 Q
theorem qFld_eq (K : PySem.W.Frag) (ta : TE) (f : Str) : qFld K ta f = tFld K ta f := by
  funext σ H Q
  unfold qFld tFld
  have : (fun x H1 => qFldR K f x H1 Q) = fun x H1 => ∃ a C dx fs v, x = V.ref a ∧ H1 a = some (.ins C dx fs) ∧ Cls K C ∧ NoAttr K C f ∧ fs.lookup f = some v ∧ Q v H1 := by
    funext x H1
    exact propext ⟨fun ⟨a, C, dx, fs, v, h1, h2, h3, h4, h5, q⟩ => ⟨a, C, dx, fs, v, h1, h2, h3, h4, h5, q⟩, fun ⟨a, C, dx, fs, v, h1, h2, h3, h4, h5, q⟩ => ⟨a, C, dx, fs, v, h1, h2, h3, h4, h5, q⟩⟩
  rw [this]
theorem pe_fldQ {e : Expr} {ta : TE} {f : Str} {pos : Pos} (he : PE X e ta) (hb : attributeBase e f X.env (eval e X.env) = eval e X.env) : PE X (.Attribute e f pos) (qFld X.K ta f) := by
  rw [qFld_eq]
  exact pe_fld he hb
def qTup (t : TA) : TE := fun σ H Q => t σ H fun xs H1 => qAnd (xs.length ≤ sizeLine) (∀ p, H1 p = none → Q (.ref p) (upd H1 p (.tup xs)))
def qLst (t : TA) : TE := fun σ H Q => t σ H fun xs H1 => qAnd (xs.length ≤ sizeLine) (∀ p, H1 p = none → Q (.ref p) (upd H1 p (.lst xs)))
theorem qTup_eq (t : TA) : qTup t = tTup t := by
  funext σ H Q
  unfold qTup tTup
  simp only [qAnd_eq]
theorem qLst_eq (t : TA) : qLst t = tLst t := by
  funext σ H Q
  unfold qLst tLst
  simp only [qAnd_eq]
theorem pe_tupQ {x1} {es : List Expr} {t : TA} {pos : Pos} (h : PA X es t) : PE X (.Tuple es x1 pos) (qTup t) := by
  rw [qTup_eq]
  exact pe_tup h
theorem pe_lstQ {es : List Expr} {t : TA} {pos : Pos} (h : PA X es t) : PE X (.List es pos) (qLst t) := by
  rw [qLst_eq]
  exact pe_lst h
inductive qRng (vs : List V) (H : Hp) (R : It → Hp → Prop) : Prop
  | mk (j : Int) (h : vs = [.int j]) (h1 : -(2 ^ 62) ≤ j) (h2 : j < 2 ^ 62) (q : R (Itr 0 j.toNat) H) : qRng vs H R
def jRng1 (ta : TA) : TI := fun σ H R => ta σ H fun vs H1 => qRng vs H1 R
theorem jRng1_eq (ta : TA) : jRng1 ta = iRng1 ta := by
  funext σ H R
  unfold jRng1 iRng1
  have : (fun vs H1 => qRng vs H1 R) = fun vs H1 => ∃ j : Int, vs = [V.int j] ∧ -(2 ^ 62) ≤ j ∧ j < 2 ^ 62 ∧ R (Itr 0 j.toNat) H1 := by
    funext vs H1
    exact propext ⟨fun ⟨j, h, h1, h2, q⟩ => ⟨j, h, h1, h2, q⟩, fun ⟨j, h, h1, h2, q⟩ => ⟨j, h, h1, h2, q⟩⟩
  rw [this]
theorem pj_range1 {tg a : Expr} {ta : TA} {p pos : Pos} (hg : Gl X "range") (hm : X.mg "range" = none) (ha : PA X [a] ta) (hs : starEach [a] X.env = [(false, eval a X.env)] := by rfl) : PI X tg (.Call (.Name "range" p) [a] [] pos) (jRng1 ta) := by
  rw [jRng1_eq]
  exact pi_range1 hg hm ha hs
def qBM (K : PySem.W.Frag) (T : String) (r : V → List V → Hp → VK → Prop) (to : TE) (t : TA) : TE := fun σ H Q => to σ H fun x H1 => qAnd (tyV K T x H1) (t σ H1 fun xs H2 => r x xs H2 Q)
theorem qBM_eq (K : PySem.W.Frag) (T : String) (r : V → List V → Hp → VK → Prop) (to : TE) (t : TA) : qBM K T r to t = tBM K T r to t := by
  funext σ H Q
  unfold qBM tBM
  simp only [qAnd_eq]
theorem pe_bmQ {o e : Expr} {es : List Expr} {to : TE} {t : TA} {name : Str} {apos cpos : Pos} {T id : String} {r : V → List V → Hp → VK → Prop} (pa : PlainAttrs T) (slot : Slot T name id) (hty : typeOf (.builtin id) = pure (.type "method_descriptor")) (hm : MtR X id r) (ho : PE X o to) (ha : PA X (e :: es) t)
    (hbase : attributeBase o name X.env (eval o X.env) = eval o X.env := by rfl)
    (hfew : ((backTo cpos (starEach (e :: es) X.env)).all (fun x => !x.1) && (backToKw cpos (keywordEach [] X.env)).all (fun x => x.1.isSome)
      && decide ((e :: es).length + ([] : List Keyword).length + (if ([] : List Keyword).isEmpty then 0 else 1) < 30)) = true := by rfl)
    (hline : (apos.endLine == cpos.line) = true := by rfl) (hs : starEach (e :: es) X.env = (false, eval e X.env) :: starEach es X.env := by rfl) (hplain : (backTo cpos (starEach es X.env)).any (·.1) = false := by rfl) :
    PE X (.Call (.Attribute o name apos) (e :: es) [] cpos) (qBM X.K T r to t) := by
  rw [qBM_eq]
  exact pe_bm pa slot hty hm ho ha hbase hfew hline hs hplain
end
end L2
namespace L2
open PySem PySem.Spec PyProof.Rows
abbrev ZipOut (h : Heap) (z TI TO t : Addr) (f : Bool) : Prop := h.get? z = some { cls := .type "zip", dict := none, data := .fields #[rawInt t, .bool f, .bool false, .ref TI, .ref TO], slots := #[] }
section
variable {prog : Program} {w : World} {A : Around} {E : Value → Shared → Prop} {s : Shared}
theorem zipO_free {z TI TO t : Addr} {f : Bool} {ot : Obj} {Q : Bool → Shared → Prop} (hz : ZipOut s.heap z TI TO t f) (ht : s.heap.get? t = some ot)
    (q : ∀ g, ZipOut g z TI TO t true → Heap.SameBut z s.heap g → Q false { s with heap := g }) : wpAny (model prog w) A (Builtin.SmallTypes.ownedTupleIsFree (.ref z)) Q E s := by
  unfold Builtin.SmallTypes.ownedTupleIsFree
  refine wpAny_bind (wpAny_field hz rfl (x := rawInt t) rfl ?_)
  show wpAny _ _ (loadIfAlive ((t : Int).toNat) >>= _) _ _ _
  rw [Int.toNat_natCast]
  refine wpAny_bind (PySem.W.kdx_alive ht ?_)
  simp only [Option.isNone_some, Bool.false_eq_true, if_false]
  refine wpAny_bind (wpAny_field hz rfl (x := .bool f) rfl ?_)
  cases f with
  | true =>
    rw [if_neg (show ¬ ((Value.bool true != Value.bool true) = true) from Bool.false_ne_true)]
    exact wpAny_pure (q _ hz (Heap.SameBut.refl _ _))
  | false =>
    rw [if_pos (show (Value.bool false != Value.bool true) = true from rfl)]
    refine wpAny_bind (wpAny_setField_rec hz (by simp) fun h₃ he₃ hs₃ => ?_)
    exact wpAny_pure (q _ he₃ hs₃)
theorem zipO_item {z TI TO i1 i2 l1 l2 t : Addr} {f b1 b2 : Bool} {ot : Obj} {k1 k2 : Nat} {xs ys : Array Value} {x y : Value} {Q : Value → Shared → Prop} (D : ZAp z TI TO i1 i2 l1 l2)
    (hz : ZipOut s.heap z TI TO t f) (ht : s.heap.get? t = some ot) (hI : IsPair s.heap TI (.ref i1) (.ref i2)) (t1 : SIt s.heap b1 i1 l1 k1) (t2 : SIt s.heap b2 i2 l2 k2) (q1 : SSq s.heap b1 l1 xs) (q2 : SSq s.heap b2 l2 ys) (ex : xs[k1]? = some x) (ey : ys[k2]? = some y)
    (q : ∀ g, ZipOut g z TI TO t true → SIt g b1 i1 l1 (k1 + 1) → SIt g b2 i2 l2 (k2 + 1) → IsPair g s.heap.objs.size x y → (∀ c o, c ≠ z → c ≠ i1 → c ≠ i2 → s.heap.get? c = some o → g.get? c = some o) → Q (.ref s.heap.objs.size) { s with heap := g }) :
    wpAny (model prog w) A (Builtin.«zip.__next__» ⟨[.ref z], []⟩) (fun fin s' => ∃ v, fin = .done (.ret v) ∧ Q v s') E s := by
  obtain ⟨⟨nIz, nOz, n1z, n2z, nIO, nI1, nI2, nO1, nO2, n12⟩, lne⟩ := D
  obtain ⟨m1z, m1O, m11, m12, m1I⟩ := lne l1 (.inl rfl)
  obtain ⟨m2z, m2O, m21, m22, m2I⟩ := lne l2 (.inr rfl)
  show wpAny _ _ (field (.ref z) 2 >>= _) _ _ _; refine wpAny_bind (wpAny_field hz rfl (x := .bool false) rfl ?_)
  show wpAny _ _ (field (.ref z) 3 >>= _) _ _ _; refine wpAny_bind (wpAny_field hz rfl (x := .ref TI) rfl (wpAny_bind (wpAny_seqItems hI rfl ?_)))
  show wpAny _ _ (Builtin.SmallTypes.ownedTupleIsFree (.ref z) >>= _) _ _ _
  refine wpAny_bind (zipO_free hz ht fun g1 z1 s1 => ?_)
  simp only [Bool.false_eq_true, if_false]
  simp only [List.forIn_toArray, List.forIn_cons, List.forIn_nil]
  refine wpAny_bind (wpAny_bind (wpAny_bind (wpAny_holding ?_)))
  show wpAny _ _ (Builtin.SmallTypes.nextOf (.ref i1) >>= _) _ _ _
  refine wpAny_bind (nxt_item (b := b1) (t1.keep fun o e => s1.extBut _ _ n1z e) (q1.keep fun o e => s1.extBut _ _ m1z e) ex fun g2 u1 s2 => wpAny_pure ?_)
  refine wpAny_pure ?_
  refine wpAny_bind (wpAny_bind (wpAny_holding ?_))
  show wpAny _ _ (Builtin.SmallTypes.nextOf (.ref i2) >>= _) _ _ _
  refine wpAny_bind (nxt_item (b := b2) (t2.keep fun o e => s2.extBut _ _ n12.symm (s1.extBut _ _ n2z e)) (q2.keep fun o e => s2.extBut _ _ m21 (s1.extBut _ _ m2z e)) ey fun g4 u2 s4 => wpAny_pure ?_)
  refine wpAny_pure (wpAny_pure ?_)
  have sz : g4.objs.size = s.heap.objs.size := by rw [s4.1, s2.1, s1.1]
  refine wpAny_bind (wpAny_newTuple (hsz := (by show 2 ≤ sizeLine; decide)) ?_)
  refine wpAny_pure ⟨_, rfl, ?_⟩
  show Q (.ref g4.objs.size) _
  have tp : IsPair (g4.push { cls := .type "tuple", data := .seq #[x, y] }) g4.objs.size x y := Heap.get?_push_size _ rfl
  rw [sz] at tp ⊢
  have z4 : ZipOut g4 z TI TO t true := s4.extBut _ _ n2z.symm (s2.extBut _ _ n1z.symm z1)
  exact q _ (Heap.get?_push_of_some _ z4) (u1.keep fun o e => Heap.get?_push_of_some _ (s4.extBut _ _ n12 e)) (u2.keep fun o e => Heap.get?_push_of_some _ e) tp fun c o h1 h2 h3 e => Heap.get?_push_of_some _ (s4.extBut _ _ h3 (s2.extBut _ _ h2 (s1.extBut _ _ h1 e)))
theorem zipO_end {z TI TO i1 i2 l1 l2 t : Addr} {f b1 b2 : Bool} {ot : Obj} {k1 k2 : Nat} {xs ys : Array Value} {Q : Fin → Shared → Prop} (hh : A.handled = none) (D : ZAp z TI TO i1 i2 l1 l2)
    (hz : ZipOut s.heap z TI TO t f) (ht : s.heap.get? t = some ot) (hI : IsPair s.heap TI (.ref i1) (.ref i2)) (t1 : SIt s.heap b1 i1 l1 k1) (t2 : SIt s.heap b2 i2 l2 k2) (q1 : SSq s.heap b1 l1 xs) (q2 : SSq s.heap b2 l2 ys) (hend : xs[k1]? = none ∨ ys[k2]? = none)
    (q : ∀ g e, (∀ c o, c ≠ z → c ≠ i1 → c ≠ i2 → s.heap.get? c = some o → g.get? c = some o) → (∃ o, g.get? e = some o ∧ o.cls = .type "StopIteration") → E (.ref e) { s with heap := g }) :
    wpAny (model prog w) A (Builtin.«zip.__next__» ⟨[.ref z], []⟩) Q E s := by
  obtain ⟨⟨nIz, nOz, n1z, n2z, nIO, nI1, nI2, nO1, nO2, n12⟩, lne⟩ := D
  obtain ⟨m1z, m1O, m11, m12, m1I⟩ := lne l1 (.inl rfl)
  obtain ⟨m2z, m2O, m21, m22, m2I⟩ := lne l2 (.inr rfl)
  show wpAny _ _ (field (.ref z) 2 >>= _) _ _ _; refine wpAny_bind (wpAny_field hz rfl (x := .bool false) rfl ?_)
  show wpAny _ _ (field (.ref z) 3 >>= _) _ _ _; refine wpAny_bind (wpAny_field hz rfl (x := .ref TI) rfl (wpAny_bind (wpAny_seqItems hI rfl ?_)))
  show wpAny _ _ (Builtin.SmallTypes.ownedTupleIsFree (.ref z) >>= _) _ _ _
  refine wpAny_bind (zipO_free hz ht fun g1 z1 s1 => ?_)
  simp only [Bool.false_eq_true, if_false]
  simp only [List.forIn_toArray, List.forIn_cons, List.forIn_nil]
  refine wpAny_bind (wpAny_bind (wpAny_bind (wpAny_holding ?_)))
  show wpAny _ _ (Builtin.SmallTypes.nextOf (.ref i1) >>= _) _ _ _
  cases ex : xs[k1]? with
  | none =>
    refine wpAny_bind (nxt_end (b := b1) hh (t1.keep fun o e => s1.extBut _ _ n1z e) (q1.keep fun o e => s1.extBut _ _ m1z e) ex fun g2 v s2 hv => ?_)
    exact q _ _ (fun c o h1 h2 _ e => s2 _ _ h2 (s1.extBut _ _ h1 e)) hv
  | some x =>
    have ey : ys[k2]? = none := by rcases hend with h | h; rw [ex] at h; cases h; exact h
    refine wpAny_bind (nxt_item (b := b1) (t1.keep fun o e => s1.extBut _ _ n1z e) (q1.keep fun o e => s1.extBut _ _ m1z e) ex fun g2 u1 s2 => wpAny_pure ?_)
    refine wpAny_pure ?_
    refine wpAny_bind (wpAny_bind (wpAny_holding ?_))
    show wpAny _ _ (Builtin.SmallTypes.nextOf (.ref i2) >>= _) _ _ _
    refine wpAny_bind (nxt_end (b := b2) hh (t2.keep fun o e => s2.extBut _ _ n12.symm (s1.extBut _ _ n2z e)) (q2.keep fun o e => s2.extBut _ _ m21 (s1.extBut _ _ m2z e)) ey fun g4 v s4 hv => ?_)
    exact q _ _ (fun c o h1 h2 h3 e => s4 _ _ h3 (s2.extBut _ _ h2 (s1.extBut _ _ h1 e))) hv
theorem outInj {h : Heap} {z TI TO t t' : Addr} {f f' : Bool} (a : ZipOut h z TI TO t f) (b : ZipOut h z TI TO t' f') : t = t' := by
  have e := a.symm.trans b
  simp only [Option.some.injEq, Obj.mk.injEq, Data.fields.injEq, true_and, and_true] at e
  have e2 := congrArg Array.toList e
  simp only [List.cons.injEq] at e2
  have e3 := e2.1
  unfold rawInt at e3
  injection e3 with e3 _
  exact Int.ofNat.inj e3
inductive ZSt (h : Heap) (z TI TO i1 i2 : Addr) : Nat → Prop
  | first {a b : Value} : IsZip h z TI TO .none → IsPair h TO a b → ZSt h z TI TO i1 i2 0
  | more {t : Addr} {f : Bool} {ot : Obj} {k : Nat} : ZipOut h z TI TO t f → h.get? t = some ot → t ≠ z ∧ t ≠ i1 ∧ t ≠ i2 → ZSt h z TI TO i1 i2 (k + 1)
theorem zipS_item {z TI TO i1 i2 l1 l2 : Addr} {b1 b2 : Bool} {k : Nat} {xs ys : Array Value} {x y : Value} {Q : Option Value → Shared → Prop} (D : ZAp z TI TO i1 i2 l1 l2)
    (hz : ZSt s.heap z TI TO i1 i2 k) (hI : IsPair s.heap TI (.ref i1) (.ref i2)) (t1 : SIt s.heap b1 i1 l1 k) (t2 : SIt s.heap b2 i2 l2 k) (q1 : SSq s.heap b1 l1 xs) (q2 : SSq s.heap b2 l2 ys) (ex : xs[k]? = some x) (ey : ys[k]? = some y)
    (q : ∀ g, ZSt g z TI TO i1 i2 (k + 1) → SIt g b1 i1 l1 (k + 1) → SIt g b2 i2 l2 (k + 1) → IsPair g s.heap.objs.size x y → (∀ c o, c ≠ z → c ≠ TO → c ≠ i1 → c ≠ i2 → s.heap.get? c = some o → g.get? c = some o) → (∀ t f, ZipOut g z TI TO t f → t = s.heap.objs.size ∨ ∃ f', ZipOut s.heap z TI TO t f') → Q (some (.ref s.heap.objs.size)) { s with heap := g }) :
    wpAny (model prog w) A (pyNext (.ref z)) Q E s := by
  cases hz with
  | first hz hO =>
    refine zipP_item D hz hI hO t1 t2 q1 q2 ex ey fun g a1 a2 a3 a4 a5 a6 => q g (.more a1 a5 ?_) a3 a4 a5 a6 fun t f h => .inl (outInj h a1)
    obtain ⟨o1, e1, _⟩ := t1.obj
    obtain ⟨o2, e2, _⟩ := t2.obj
    exact ⟨Nat.ne_of_gt (Heap.lt_size hz), Nat.ne_of_gt (Heap.lt_size e1), Nat.ne_of_gt (Heap.lt_size e2)⟩
  | @more t0 f0 ot0 k0 hz ht nt =>
    have ty : s.TypeIs (.ref z) "zip" := ⟨_, hz, rfl⟩
    unfold pyNext
    refine wpAny_bind (wpAny_attempt (wpAny_callSpecial?_slot (name := Str.ofString "__next__") ty PySem.F.slot_zip_next (wpAny_call_entry PySem.F.slot_zip_next ty PySem.F.entry_zip_next (zipO_item D hz ht hI t1 t2 q1 q2 ex ey fun g a1 a3 a4 a5 a6 => wpAny_pure (q g ?_ a3 a4 a5 (fun c o h1 _ h3 h4 e => a6 c o h1 h3 h4 e) fun t' f' h => .inr ⟨f0, by rw [outInj h a1]; exact hz⟩)) (PySem.F.args_zip_next_1 _))))
    exact .more a1 (a6 _ _ nt.1 nt.2.1 nt.2.2 ht) nt
theorem zipS_end {z TI TO i1 i2 l1 l2 : Addr} {b1 b2 : Bool} {k : Nat} {xs ys : Array Value} {Q : Option Value → Shared → Prop} (hh : A.handled = none) (D : ZAp z TI TO i1 i2 l1 l2)
    (hz : ZSt s.heap z TI TO i1 i2 k) (hI : IsPair s.heap TI (.ref i1) (.ref i2)) (t1 : SIt s.heap b1 i1 l1 k) (t2 : SIt s.heap b2 i2 l2 k) (q1 : SSq s.heap b1 l1 xs) (q2 : SSq s.heap b2 l2 ys) (hend : xs[k]? = none ∨ ys[k]? = none)
    (q : ∀ g, (∀ c o, c ≠ z → c ≠ TO → c ≠ i1 → c ≠ i2 → s.heap.get? c = some o → g.get? c = some o) → Q none { s with heap := g }) : wpAny (model prog w) A (pyNext (.ref z)) Q E s := by
  cases hz with
  | first hz hO => exact zipP_end hh D hz hI hO t1 t2 q1 q2 hend q
  | more hz ht nt =>
    have ty : s.TypeIs (.ref z) "zip" := ⟨_, hz, rfl⟩
    unfold pyNext
    refine wpAny_bind (wpAny_attempt (wpAny_callSpecial?_slot (name := Str.ofString "__next__") ty PySem.F.slot_zip_next (wpAny_call_entry PySem.F.slot_zip_next ty PySem.F.entry_zip_next (zipO_end hh D hz ht hI t1 t2 q1 q2 hend fun g e hk he => ?_) (PySem.F.args_zip_next_1 _))))
    obtain ⟨o, ho, hc⟩ := he
    exact wpAny_bind (wpAny_isInstance (T := "StopIteration") (b := true) ⟨o, ho, hc⟩ isSubtype_stop (wpAny_pure (q _ fun c o h1 _ h3 h4 e => hk c o h1 h3 h4 e)))
theorem ZSt.obj {h : Heap} {z TI TO i1 i2 : Addr} {k : Nat} (hz : ZSt h z TI TO i1 i2 k) : ∃ o, h.get? z = some o ∧ o.cls = .type "zip" := by
  cases hz with
  | first h _ => exact ⟨_, h, rfl⟩
  | more h _ _ => exact ⟨_, h, rfl⟩
theorem ZSt.keep {h h' : Heap} {z TI TO i1 i2 S : Addr} {k : Nat} (hz : ZSt h z TI TO i1 i2 k) (e : ∀ b o, b ≠ S → h.get? b = some o → h'.get? b = some o) (nz : z ≠ S) (nO : TO ≠ S) (nt : ∀ t f, ZipOut h z TI TO t f → t ≠ S) : ZSt h' z TI TO i1 i2 k := by
  cases hz with
  | first h hO => exact .first (e _ _ nz h) (e _ _ nO hO)
  | more h ht n => exact .more (e _ _ nz h) (e _ _ (nt _ _ h) ht) n
structure ZGot (n0 : Nat) (h : Heap) (xs ys : Array Value) (av : List Addr) (acc : Array Value) (k : Nat) : Prop where
  n : acc.size = k
  at_ : ∀ (j : Nat) (v : Value), acc[j]? = some v → ∃ (t : Addr) (x y : Value), v = Value.ref t ∧ xs[j]? = some x ∧ ys[j]? = some y ∧ IsPair h t x y ∧ t ∉ av ∧ n0 ≤ t
  inc : ∀ (i j : Nat) (t t' : Addr), i < j → acc[i]? = some (.ref t) → acc[j]? = some (.ref t') → t < t'
theorem ZGot.keep {n0 : Nat} {h h' : Heap} {xs ys : Array Value} {av : List Addr} {acc : Array Value} {k : Nat} (g : ZGot n0 h xs ys av acc k) (e : ∀ b o, b ∉ av → h.get? b = some o → h'.get? b = some o) : ZGot n0 h' xs ys av acc k :=
  ⟨g.n, fun j v hj => let ⟨t, x, y, a, b, c, d, n, m⟩ := g.at_ j v hj; ⟨t, x, y, a, b, c, e _ _ n d, n, m⟩, g.inc⟩
theorem zip_fill {n0 : Nat} {z TI TO i1 i2 l1 l2 S : Addr} {b1 b2 : Bool} {xs ys : Array Value} {res : Value} {n : Nat} {R : Result → Shared → Prop} (hh : A.handled = none) (D : ZAp z TI TO i1 i2 l1 l2) (hS : S ∉ [z, TI, TO, i1, i2, l1, l2]) (hn : n = min xs.size ys.size) (hsz : n ≤ sizeLine) (hO : TO < n0) :
    ∀ (m k : Nat) (s : Shared) (acc : Array Value) (c : Nat), n - k = m → k ≤ n → ZSt s.heap z TI TO i1 i2 k → (∀ t f, ZipOut s.heap z TI TO t f → t ≠ S) → IsPair s.heap TI (.ref i1) (.ref i2) → n0 ≤ s.heap.objs.size → SIt s.heap b1 i1 l1 k → SIt s.heap b2 i2 l2 k → SSq s.heap b1 l1 xs → SSq s.heap b2 l2 ys →
    s.heap.get? S = some { cls := .type "list", dict := none, data := .seq acc c, slots := #[] } → ZGot n0 s.heap xs ys [S, z, TI, TO, i1, i2] acc k →
    (∀ h' tk acc' c', (∀ b o, b ∉ [S, z, TO, i1, i2] → s.heap.get? b = some o → h'.get? b = some o) → h'.get? S = some { cls := .type "list", dict := none, data := .seq acc' c', slots := #[] } → ZGot n0 h' xs ys [S, z, TI, TO, i1, i2] acc' n → R (.ok (.ret res)) { s with heap := h', toks := tk }) →
    codeAny (model prog w) A (.builtin "list.extend.loop" ⟨[.ref S, .ref z, res], []⟩) R s := by
  simp only [List.mem_cons, List.not_mem_nil, or_false, not_or] at hS
  obtain ⟨nSz, nSI, nSO, nS1, nS2, nSl1, nSl2⟩ := hS
  obtain ⟨⟨nIz, nOz, n1z, n2z, nIO, nI1, nI2, nO1, nO2, n12⟩, lne⟩ := id D
  obtain ⟨m1z, m1O, m11, m12, m1I⟩ := lne l1 (.inl rfl)
  obtain ⟨m2z, m2O, m21, m22, m2I⟩ := lne l2 (.inr rfl)
  intro m
  induction m with
  | zero =>
    intro k s acc c hk hi hz nt hI hn0 t1 t2 q1 q2 hl hg hR
    have hkn : k = n := by omega
    subst hkn
    refine codeAny_builtin F.entry_extend_loop ?_
    rw [Around.under_plainId F.plain_extend_loop _]
    show wpAny _ A.in1 (pyNext (.ref z) >>= _) _ _ s
    refine wpAny_bind (zipS_end (by simpa using hh) D hz hI t1 t2 q1 q2 (by
      by_cases h : xs.size ≤ k
      · exact .inl (Array.getElem?_eq_none h)
      · exact .inr (Array.getElem?_eq_none (by omega))) fun g hk => ?_)
    refine wpAny_pure (hR g s.toks acc c (fun b o hb e => ?_) (hk S _ nSz nSO nS1 nS2 hl) (hg.keep fun b o hb e => ?_))
    · simp only [List.mem_cons, List.not_mem_nil, or_false, not_or] at hb
      exact hk b o hb.2.1 hb.2.2.1 hb.2.2.2.1 hb.2.2.2.2 e
    · simp only [List.mem_cons, List.not_mem_nil, or_false, not_or] at hb
      exact hk b o hb.2.1 hb.2.2.2.1 hb.2.2.2.2.1 hb.2.2.2.2.2 e
  | succ m ih =>
    intro k s acc c hk hi hz nt hI hn0 t1 t2 q1 q2 hl hg hR
    have hlt : k < n := by omega
    have kx : k < xs.size := by omega
    have ky : k < ys.size := by omega
    refine codeAny_builtin F.entry_extend_loop ?_
    rw [Around.under_plainId F.plain_extend_loop _]
    show wpAny _ A.in1 (pyNext (.ref z) >>= _) _ _ s
    refine wpAny_bind (zipS_item D hz hI t1 t2 q1 q2 (Array.getElem?_eq_getElem kx) (Array.getElem?_eq_getElem ky) fun g a1 a3 a4 a5 a6 a7 => ?_)
    have hl' := a6 S _ nSz nSO nS1 nS2 hl
    have big : ∀ b o, s.heap.get? b = some o → s.heap.objs.size ≠ b := fun b o e => Nat.ne_of_gt (Heap.lt_size e)
    have oth : ∀ b o, b ≠ S → g.get? b = some o → (g.update S (Obj.mapSeq (·.push (.ref s.heap.objs.size)))).get? b = some o := fun b o hb e => (Heap.get?_update_other _ _ (Ne.symm hb)).trans e
    have nt' : ∀ t f, ZipOut g z TI TO t f → t ≠ S := fun t f h => by
      rcases a7 t f h with rfl | ⟨f', h'⟩
      · exact big _ _ hl
      · exact nt t f' h'
    obtain ⟨oz, ez, _⟩ := hz.obj
    obtain ⟨o1, e1, _⟩ := t1.obj
    obtain ⟨o2, e2, _⟩ := t2.obj
    show wpAny _ A.in1 (updateSeq S (·.push (.ref s.heap.objs.size)) >>= _) _ _ _
    refine wpAny_bind (wpAny_updateSeq hl' rfl (wpAny_pure ⟨plainId_quiet F.plain_extend_loop _, ih (k + 1) { s with heap := g.update S (Obj.mapSeq (·.push (.ref s.heap.objs.size))) } (acc.push (.ref s.heap.objs.size)) _ (by omega) hlt ?_ ?_ ?_ ?_ ?_ ?_ ?_ ?_ (Heap.get?_update_self _ hl' rfl) ?_ fun h' tk acc' c' kp hl'' hg' => ?_⟩) (by rw [hg.n]; omega) (by show (acc.push _).size ≤ sizeLine + 1; rw [Array.size_push, hg.n]; omega))
    · exact a1.keep oth (Ne.symm nSz) (Ne.symm nSO) nt'
    · exact fun t f h => nt' t f ((Heap.get?_update_other _ _ nSz).symm.trans h)
    · exact oth _ _ (Ne.symm nSI) (a6 _ _ nIz nIO nI1 nI2 hI)
    · exact Nat.le_trans hn0 (Nat.le_of_lt (Heap.lt_size (oth _ _ (big _ _ hl) a5)))
    · exact a3.keep fun o e => oth _ _ (Ne.symm nS1) e
    · exact a4.keep fun o e => oth _ _ (Ne.symm nS2) e
    · exact q1.keep fun o e => oth _ _ (Ne.symm nSl1) (a6 _ _ m1z m1O m11 m12 e)
    · exact q2.keep fun o e => oth _ _ (Ne.symm nSl2) (a6 _ _ m2z m2O m21 m22 e)
    · have old : ∀ (j : Nat) (t : Addr), acc[j]? = some (.ref t) → t < s.heap.objs.size := fun j t hj => by
        obtain ⟨t', x, y, a, _, _, d, _⟩ := hg.at_ j _ hj
        cases a
        exact Heap.lt_size d
      refine ⟨by rw [Array.size_push, hg.n], fun j v hj => ?_, fun i j t t' lt hi hj => ?_⟩
      rotate_left
      · rw [Array.getElem?_push] at hi hj
        split at hj
        · rename_i ej
          cases hj
          rw [if_neg (by omega)] at hi
          exact old i t hi
        · split at hi
          · rename_i ei
            have := (Array.getElem?_eq_some_iff.mp hj).1
            omega
          · exact hg.inc i j t t' lt hi hj
      rw [Array.getElem?_push] at hj
      split at hj
      · rename_i ej
        rw [hg.n] at ej
        cases hj
        subst ej
        refine ⟨_, _, _, rfl, Array.getElem?_eq_getElem kx, Array.getElem?_eq_getElem ky, oth _ _ (big _ _ hl) a5, ?_⟩
        simp only [List.mem_cons, List.not_mem_nil, or_false, not_or]
        exact ⟨⟨big _ _ hl, big _ _ ez, big _ _ hI, Nat.ne_of_gt (Nat.lt_of_lt_of_le hO hn0), big _ _ e1, big _ _ e2⟩, hn0⟩
      · obtain ⟨t, x, y, a, b, c', d, n, m⟩ := hg.at_ j v hj
        refine ⟨t, x, y, a, b, c', ?_, n, m⟩
        simp only [List.mem_cons, List.not_mem_nil, or_false, not_or] at n
        exact oth _ _ n.1 (a6 _ _ n.2.1 n.2.2.2.1 n.2.2.2.2.1 n.2.2.2.2.2 d)
    · refine hR h' tk acc' c' (fun b o hb e => kp b o hb ?_) hl'' hg'
      simp only [List.mem_cons, List.not_mem_nil, or_false, not_or] at hb
      exact oth _ _ hb.1 (a6 _ _ hb.2.1 hb.2.2.1 hb.2.2.2.1 hb.2.2.2.2 e)
theorem zip_nolen : typeLookup (.type "zip") "__len__" = pure none := by rw [typeLookup_type, builtinLookup_eq_fast]; kernel_rfl
theorem zip_nohint : typeLookup (.type "zip") "__length_hint__" = pure none := by rw [typeLookup_type, builtinLookup_eq_fast]; kernel_rfl
theorem list_of_zip {z TI TO i1 i2 l1 l2 : Addr} {b1 b2 : Bool} {xs ys : Array Value} {n n0 : Nat} {Q : Value → Shared → Prop} (hh : A.handled = none) (D : ZAp z TI TO i1 i2 l1 l2) (hn : n = min xs.size ys.size) (hsz : n ≤ sizeLine) (hO : TO < n0) (hn0 : n0 ≤ s.heap.objs.size)
    (hz : IsZip s.heap z TI TO .none) (hTO : IsPair s.heap TO .none .none) (hI : IsPair s.heap TI (.ref i1) (.ref i2)) (t1 : SIt s.heap b1 i1 l1 0) (t2 : SIt s.heap b2 i2 l2 0) (q1 : SSq s.heap b1 l1 xs) (q2 : SSq s.heap b2 l2 ys)
    (h : ∀ h' tk acc c', (∀ b o, b ∉ [z, TO, i1, i2] → s.heap.get? b = some o → h'.get? b = some o) → h'.get? s.heap.objs.size = some { cls := .type "list", data := .seq acc c' } → ZGot n0 h' xs ys [s.heap.objs.size, z, TI, TO, i1, i2] acc n → Q (.ref s.heap.objs.size) { s with heap := h', toks := tk }) :
    wpAny (model prog w) A (call (.type "list") [.ref z]) Q E s := by
  refine callType_codes (Q₁ := fun ob s1 => ob = .ref s.heap.objs.size ∧ s1 = { s with heap := s.heap.push { cls := .type "list", data := .seq #[] } }) F.called_list (F.typeCall_list_1 _) F.entry_list_init (code_list_new _ ⟨rfl, rfl⟩) fun ob s1 h1 => ?_
  obtain ⟨rfl, rfl⟩ := h1
  have hS : (s.heap.push { cls := .type "list", data := .seq #[] }).get? s.heap.objs.size = some { cls := .type "list", data := .seq #[] } := Heap.get?_push_size _ rfl
  refine ⟨⟨_, hS, rfl⟩, F.args_list_init_2 _ _, ?_⟩
  show wpAny _ _ (do let old ← Builtin.List.listItems (.ref s.heap.objs.size); Builtin.List.listUpdate (.ref s.heap.objs.size) (fun _ => #[]); letGo old.toList.reverse; Builtin.List.listExtendWith (.ref s.heap.objs.size) (.ref z) .none) _ _ _
  refine wpAny_bind ?_
  unfold Builtin.List.listItems
  refine wpAny_bind (wpAny_seqItems hS rfl (wpAny_pure ?_))
  refine wpAny_bind ?_
  show wpAny _ _ (updateSeq s.heap.objs.size (fun _ => #[])) _ _ _
  refine wpAny_updateSeq hS rfl ?_
  have hS2 := Heap.get?_update_self (Obj.mapSeq (fun _ => (#[] : Array Value))) hS rfl
  refine wpAny_bind (wpAny_letGo ?_)
  have oth : ∀ b o, b ≠ s.heap.objs.size → s.heap.get? b = some o → ((s.heap.push { cls := .type "list", data := .seq #[] }).update s.heap.objs.size (Obj.mapSeq (fun _ => (#[] : Array Value)))).get? b = some o :=
    fun b o hb e => (Heap.get?_update_other _ _ (Ne.symm hb)).trans (Heap.get?_push_of_some _ e)
  have nb : ∀ b o, s.heap.get? b = some o → b ≠ s.heap.objs.size := fun b o e => Nat.ne_of_lt (Heap.lt_size e)
  obtain ⟨o1, e1, _⟩ := t1.obj
  obtain ⟨o2, e2, _⟩ := t2.obj
  obtain ⟨o3, e3, _⟩ := q1.obj
  obtain ⟨o4, e4, _⟩ := q2.obj
  have hz2 := oth _ _ (nb _ _ hz) hz
  have hO2 := oth _ _ (nb _ _ hTO) hTO
  have hI2 := oth _ _ (nb _ _ hI) hI
  have t12 := t1.keep fun o e => oth _ _ (nb _ _ e1) e
  have t22 := t2.keep fun o e => oth _ _ (nb _ _ e2) e
  have q12 := q1.keep fun o e => oth _ _ (nb _ _ e3) e
  have q22 := q2.keep fun o e => oth _ _ (nb _ _ e4) e
  have bigger : n0 ≤ ((s.heap.push { cls := .type "list", data := .seq #[] }).update s.heap.objs.size (Obj.mapSeq (fun _ => (#[] : Array Value)))).objs.size := Nat.le_trans hn0 (Nat.le_of_lt (Heap.lt_size hS2))
  generalize (s.heap.push { cls := .type "list", data := .seq #[] }).update s.heap.objs.size (Obj.mapSeq (fun _ => (#[] : Array Value))) = g0 at hz2 hO2 hI2 t12 t22 q12 q22 hS2 oth bigger ⊢
  have ty : Shared.TypeIs { s with heap := g0 } (.ref z) "zip" := ⟨_, hz2, rfl⟩
  have nz := nb _ _ hz
  unfold Builtin.List.listExtendWith
  refine wpAny_bind (wpAny_typeOf ty ?_)
  have h1 : Builtin.List.listSameRef (.ref s.heap.objs.size) (.ref z) = false := by simp [Builtin.List.listSameRef, Ne.symm nz]
  have h2 : (Value.type "zip" == Value.type "list") = false := by decide
  have h3 : (Value.type "zip" == Value.type "tuple") = false := by decide
  simp only [h1, h2, h3, Bool.or_false, Bool.false_eq_true, if_false]
  refine wpAny_bind (wpAny_pyIter_zip hz2 ?_)
  refine wpAny_bind (wpAny_holding ?_)
  unfold Builtin.List.listLengthHint
  refine wpAny_bind (wpAny_specialOf ty zip_nolen ?_)
  show wpAny _ _ (specialOf (Value.ref z) (Str.ofString "__length_hint__") >>= _) _ _ _
  refine wpAny_bind (wpAny_specialOf ty zip_nohint ?_)
  refine wpAny_pure ?_
  show wpAny _ _ (rule "list.extend.makes-room" >>= fun _ => Builtin.List.listTouch (.ref s.heap.objs.size) >>= fun _ =>
    again (.builtin "list.extend.loop" ⟨[.ref s.heap.objs.size, .ref z, .none], []⟩)) _ _ _
  refine wpAny_bind (wpAny_rule ?_)
  refine wpAny_bind ?_
  show wpAny _ _ (updateSeq s.heap.objs.size (·.push .none) >>= fun _ => updateSeq s.heap.objs.size (·.pop)) _ _ _
  refine wpAny_bind (wpAny_updateSeq hS2 rfl ?_)
  have hS3 := Heap.get?_update_self (Obj.mapSeq (·.push Value.none)) hS2 rfl
  refine wpAny_updateSeq (hz := by seq_fits) hS3 rfl ?_
  have hS4 := Heap.get?_update_self (Obj.mapSeq (·.pop)) hS3 rfl
  have oth2 : ∀ b o, b ≠ s.heap.objs.size → g0.get? b = some o → ((g0.update s.heap.objs.size (Obj.mapSeq (·.push Value.none))).update s.heap.objs.size (Obj.mapSeq (·.pop))).get? b = some o :=
    fun b o hb e => (Heap.get?_update_other _ _ (Ne.symm hb)).trans ((Heap.get?_update_other _ _ (Ne.symm hb)).trans e)
  have big2 : n0 ≤ ((g0.update s.heap.objs.size (Obj.mapSeq (·.push Value.none))).update s.heap.objs.size (Obj.mapSeq (·.pop))).objs.size := Nat.le_trans hn0 (Nat.le_of_lt (Heap.lt_size hS4))
  have notin : s.heap.objs.size ∉ [z, TI, TO, i1, i2, l1, l2] := by
    simp only [List.mem_cons, List.not_mem_nil, or_false, not_or]
    exact ⟨Ne.symm nz, Ne.symm (nb _ _ hI), Ne.symm (nb _ _ hTO), Ne.symm (nb _ _ e1), Ne.symm (nb _ _ e2), Ne.symm (nb _ _ e3), Ne.symm (nb _ _ e4)⟩
  refine wpAny_pure ⟨plainId_quiet F.plain_extend_loop _, zip_fill (n0 := n0) (by simpa using hh) D notin hn hsz hO n 0 _ _ _ (Nat.sub_zero n) (Nat.zero_le _) (.first (oth2 _ _ nz hz2) (oth2 _ _ (nb _ _ hTO) hO2)) (fun t f hf => ?_) (oth2 _ _ (nb _ _ hI) hI2) big2 (t12.keep fun o e => oth2 _ _ (nb _ _ e1) e) (t22.keep fun o e => oth2 _ _ (nb _ _ e2) e) (q12.keep fun o e => oth2 _ _ (nb _ _ e3) e) (q22.keep fun o e => oth2 _ _ (nb _ _ e4) e) hS4 ⟨rfl, fun j v hj => by simp [Array.pop] at hj, fun i j t t' _ hi _ => by simp [Array.pop] at hi⟩ fun h' tk acc c' kp hl hg => ⟨rfl, ?_⟩⟩
  · have := (oth2 _ _ nz hz2).symm.trans hf
    simp [rawInt] at this
  · refine h h' tk acc c' (fun b o hb e => ?_) hl hg
    refine kp b o ?_ (oth2 _ _ (nb _ _ e) (oth _ _ (nb _ _ e) e))
    simp only [List.mem_cons, List.not_mem_nil, or_false, not_or] at hb ⊢
    exact ⟨nb _ _ e, hb⟩
end
end L2
namespace L2
open PySem PySem.Spec PyProof.Rows
section
variable {X : Cx} {pins : List (Addr × Obj)} {σ : St}
theorem track_pairs {H0 : Hp} {s0 s : Shared} (I0 : Inv X pins σ H0 s0) : ∀ (ts : List Addr) (ps : List (V × V)) (H : Hp), Inv X pins σ H s → ts.length = ps.length → ts.Pairwise (· < ·) → (∀ t ∈ ts, s0.heap.objs.size ≤ t ∧ H t = none) →
    (∀ (j : Nat) (t : Addr) (p : V × V), ts[j]? = some t → ps[j]? = some p → ∃ u v, RelV p.1 u ∧ RelV p.2 v ∧ IsPair s.heap t u v) →
    ∃ H', Inv X pins σ H' s ∧ Same H H' ∧ (∀ b, b ∉ ts → H' b = H b) ∧ ∀ (j : Nat) (t : Addr) (p : V × V), ts[j]? = some t → ps[j]? = some p → H' t = some (.tup [p.1, p.2])
  | [], _, H, I, _, _, _, _ => ⟨H, I, Same.refl _, fun _ _ => rfl, fun j t p h => by simp at h⟩
  | t :: ts, [], _, _, hl, _, _, _ => by simp at hl
  | t :: ts, p :: ps, H, I, hl, pw, fr, ob => by
    obtain ⟨u, v, ru, rv, pT⟩ := ob 0 t p rfl rfl
    obtain ⟨ht, hn⟩ := fr t List.mem_cons_self
    obtain ⟨pw1, pw2⟩ := List.pairwise_cons.mp pw
    have I2 : Inv X pins σ (upd H t (.tup [p.1, p.2])) s := I.track (I0.fpOk ht hn) (Nat.le_trans I0.sz ht) ⟨by show 2 ≤ sizeLine; decide, [u, v], .cons ru (.cons rv .nil), ⟨_, pT, rfl, _, rfl⟩⟩
    obtain ⟨H', I3, s3, o3, a3⟩ := track_pairs I0 ts ps _ I2 (by simpa using hl) pw2 (fun t' ht' => ⟨(fr t' (List.mem_cons_of_mem _ ht')).1, by rw [upd_ne (Nat.ne_of_gt (pw1 t' ht'))]; exact (fr t' (List.mem_cons_of_mem _ ht')).2⟩) fun j t' p' h1 h2 => ob (j + 1) t' p' (by simpa using h1) (by simpa using h2)
    refine ⟨H', I3, (Same.new hn _).trans s3, fun b hb => ?_, fun j t' p' h1 h2 => ?_⟩
    · have nb : b ≠ t := fun z => hb (by rw [z]; exact List.mem_cons_self)
      rw [o3 b fun z => hb (List.mem_cons_of_mem _ z), upd_ne nb]
    · cases j with
      | zero =>
        simp at h1 h2
        subst h1
        subst h2
        exact s3 _ _ upd_same
      | succ j => exact a3 j t' p' (by simpa using h1) (by simpa using h2)
theorem refs_of : ∀ vs : List Value, (∀ v ∈ vs, ∃ t, v = .ref t) → ∃ ts : List Addr, vs = ts.map Value.ref
  | [], _ => ⟨[], rfl⟩
  | v :: vs, h => by
    obtain ⟨t, rfl⟩ := h v List.mem_cons_self
    obtain ⟨ts, e⟩ := refs_of vs fun v hv => h v (List.mem_cons_of_mem _ hv)
    exact ⟨t :: ts, by rw [e]; rfl⟩
def tListZip (K : PySem.W.Frag) (ta : TA) : TE := fun σ H Q => ta σ H fun vs H1 => ∃ b1 b2 l1 l2 xs ys, vs = [.ref l1, .ref l2] ∧ SqB K H1 b1 l1 xs ∧ SqB K H1 b2 l2 ys ∧
  ∀ H' l (ts : List Addr), Same H1 H' → H1 l = none → H' l = some (.lst (ts.map V.ref)) → ts.length = min xs.length ys.length → (∀ (j : Nat) (t : Addr) (x y : V), ts[j]? = some t → xs[j]? = some x → ys[j]? = some y → H' t = some (.tup [x, y]) ∧ H1 t = none) → Q (.ref l) H'
theorem pe_listzip {a b : Expr} {ta : TA} {p1 p2 pos1 pos2 : Pos} (hc : X.calm = true) (hg : Gl X "list") (hm : X.mg "list" = none) (hg2 : Gl X "zip") (hm2 : X.mg "zip" = none) (ha : PA X [a, b] ta)
    (hs : starEach [a, b] X.env = [(false, eval a X.env), (false, eval b X.env)] := by rfl) (hs2 : starEach [b] X.env = [(false, eval b X.env)] := by rfl)
    (hs3 : starEach [.Call (.Name "zip" p2) [a, b] [] pos2] X.env = [(false, eval (.Call (.Name "zip" p2) [a, b] [] pos2) X.env)] := by rfl) :
    PE X (.Call (.Name "list" p1) [.Call (.Name "zip" p2) [a, b] [] pos2] [] pos1) (tListZip X.K ta) := by
  intro pins s σ H Q I h
  refine wpAny_Call_Name_kw (ld_blt I hg hm PyProof.Rows.Boot.«list» ?_)
  refine PyProof.Rows.callWith_type1 ?_ (by rw [hs3]; rfl) rfl
  rw [hs3]
  show wpAny _ _ (spliced ((false, eval (.Call (.Name "zip" p2) [a, b] [] pos2) X.env) :: backTo pos1 [])) _ _ s
  refine Calls.spliced_cons ?_
  refine Call_ (ld_blt I hg2 hm2 PyProof.Rows.Boot.«zip» (PyProof.Rows.callWith_type1 (thn (ha pos2 pins s σ H _ I h) fun us s1 ⟨vs, H1, I1, r1, q1⟩ => ?_) (by rw [hs, hs2]) (by rw [hs2]; rfl)))
  obtain ⟨b1, b2, l1, l2, xs, ys, rfl, hx, hy, q⟩ := q1
  obtain ⟨u, u', rfl, ru, ru'⟩ := vals2 r1
  cases ru
  cases ru'
  obtain ⟨its, rv, s1', z1⟩ := SqB.at I1 hx
  obtain ⟨jts, rw', s2', z2⟩ := SqB.at I1 hy
  have len1 := rv.length
  have len2 := rw'.length
  refine call_zipB s1' s2' fun g n hn a1 a2 a3 a4 a5 k => ?_
  have lt : ∀ c, c = l1 ∨ c = l2 → c < n := fun c hc => by
    rw [hn]
    rcases hc with rfl | rfl
    · obtain ⟨o, e, _⟩ := s1'.obj; exact Heap.lt_size e
    · obtain ⟨o, e, _⟩ := s2'.obj; exact Heap.lt_size e
  have D : ZAp (n + 4) (n + 2) (n + 3) n (n + 1) l1 l2 := by
    refine ⟨?_, fun c hc => ?_⟩
    · have e : ∀ i j : Nat, i ≠ j → n + i ≠ n + j := fun i j h z => h (Nat.add_left_cancel z)
      exact ⟨e 2 4 (by decide), e 3 4 (by decide), e 0 4 (by decide), e 1 4 (by decide), e 2 3 (by decide), e 2 0 (by decide), e 2 1 (by decide), e 3 0 (by decide), e 3 1 (by decide), e 0 1 (by decide)⟩
    · have q := lt c hc
      have e : ∀ i : Nat, c ≠ n + i := fun i => Nat.ne_of_lt (Nat.lt_of_lt_of_le q (Nat.le_add_right _ _))
      exact ⟨e 4, e 3, e 0, e 1, e 2⟩
  refine Calls.spliced_nil ?_
  have gsz : n + 5 ≤ g.objs.size := Heap.lt_size a1
  refine list_of_zip (n := min xs.length ys.length) (n0 := n + 5) (s := { s1 with heap := g }) (I1.ok.hd hc) D (by simp only [List.size_toArray]; omega) (by omega) (Nat.lt_add_of_pos_right (by decide) : n + 3 < n + 3 + 2) gsz a1 a3 a2 a4 a5 (s1'.keep fun o e => k _ _ e) (s2'.keep fun o e => k _ _ e) fun h' tk acc c' kp gl zg => ?_
  have keep : ∀ b o, s1.heap.get? b = some o → h'.get? b = some o := fun b o e => by
    have lb : b < n := by rw [hn]; exact Heap.lt_size e
    refine kp b o ?_ (k b o e)
    simp only [List.mem_cons, List.not_mem_nil, or_false, not_or]
    refine ⟨?_, ?_, ?_, ?_⟩ <;> intro z <;> rw [z] at lb
    · exact absurd lb (Nat.not_lt.mpr (Nat.le_add_right _ _))
    · exact absurd lb (Nat.not_lt.mpr (Nat.le_add_right _ _))
    · exact absurd lb (Nat.lt_irrefl _)
    · exact absurd lb (Nat.not_lt.mpr (Nat.le_add_right _ _))
  have J : Inv X pins σ H1 { s1 with heap := h', toks := tk } := I1.kept keep
  obtain ⟨ts, ets⟩ := refs_of acc.toList fun v hv => by
    obtain ⟨j, hj, ej⟩ := List.mem_iff_getElem.mp hv
    obtain ⟨t, x, y, e, _⟩ := zg.at_ j v (by rw [← Array.getElem?_toList, List.getElem?_eq_getElem hj, ej])
    exact ⟨t, e⟩
  have tl : ts.length = min xs.length ys.length := by
    have := congrArg List.length ets
    rw [List.length_map, Array.length_toList, zg.n] at this
    exact this.symm
  have at_ : ∀ (j : Nat) (t : Addr), ts[j]? = some t → acc[j]? = some (.ref t) := fun j t h => by
    rw [← Array.getElem?_toList, ets, List.getElem?_map, h]
    rfl
  have info : ∀ (j : Nat) (t : Addr), ts[j]? = some t → ∃ u v, its[j]? = some u ∧ jts[j]? = some v ∧ IsPair h' t u v ∧ t ∉ [g.objs.size, n + 4, n + 2, n + 3, n, n + 1] ∧ n + 5 ≤ t := fun j t h => by
    obtain ⟨t', u, v, e, e1, e2, pp, na, nn⟩ := zg.at_ j _ (at_ j t h)
    cases e
    exact ⟨u, v, by simpa using e1, by simpa using e2, pp, na, nn⟩
  have mem : ∀ t ∈ ts, ∃ j : Nat, ts[j]? = some t := fun t ht => by
    obtain ⟨j, hj, ej⟩ := List.mem_iff_getElem.mp ht
    exact ⟨j, by rw [List.getElem?_eq_getElem hj, ej]⟩
  have old : ∀ t ∈ ts, s1.heap.objs.size ≤ t := fun t ht => by
    obtain ⟨j, hj⟩ := mem t ht
    obtain ⟨_, _, _, _, _, _, nn⟩ := info j t hj
    rw [← hn]
    omega
  have pw : ts.Pairwise (· < ·) := List.pairwise_iff_getElem.mpr fun i j hi hj lt => zg.inc i j _ _ lt (at_ i _ (List.getElem?_eq_getElem hi)) (at_ j _ (List.getElem?_eq_getElem hj))
  have zl : (xs.zip ys).length = min xs.length ys.length := List.length_zip
  have zat : ∀ (j : Nat) (x y : V), xs[j]? = some x → ys[j]? = some y → (xs.zip ys)[j]? = some (x, y) := fun j x y h1 h2 => List.getElem?_zip_eq_some.mpr ⟨h1, h2⟩
  obtain ⟨H', I3, s3, o3, a3⟩ := track_pairs (s := { s1 with heap := h', toks := tk }) I1 ts (xs.zip ys) H1 J (by rw [tl, zl]) pw (fun t ht => ⟨old t ht, I1.hok.fresh (old t ht)⟩) fun j t p h1 h2 => by
    obtain ⟨h3, h4⟩ := List.getElem?_zip_eq_some.mp h2
    obtain ⟨u, v, e1, e2, pp, _⟩ := info j t h1
    obtain ⟨u', hu, ru⟩ := rv.get h3
    obtain ⟨v', hv, rv'⟩ := rw'.get h4
    rw [e1] at hu
    rw [e2] at hv
    cases hu
    cases hv
    exact ⟨u, v, ru, rv', pp⟩
  have lL : s1.heap.objs.size ≤ g.objs.size := by rw [← hn]; omega
  have nL : g.objs.size ∉ ts := fun hm => by
    obtain ⟨j, hj⟩ := mem _ hm
    obtain ⟨_, _, _, _, _, na, _⟩ := info j _ hj
    exact na (by simp)
  have fL : H1 g.objs.size = none := I1.hok.fresh lL
  have hL : H' g.objs.size = none := by rw [o3 _ nL]; exact fL
  have vr : ∀ ts : List Addr, Vals (ts.map V.ref) (ts.map Value.ref) := fun ts => by
    induction ts with
    | nil => exact .nil
    | cons t ts ih => exact .cons rfl ih
  have I4 : Inv X pins σ (upd H' g.objs.size (.lst (ts.map V.ref))) { s1 with heap := h', toks := tk } := I3.track (I1.fpOk lL hL) (Nat.le_trans I1.sz lL) ⟨by rw [List.length_map, tl]; omega, ts.map Value.ref, c', vr ts, by rw [← ets]; simpa using gl⟩
  refine ⟨.ref g.objs.size, _, I4, rfl, q _ g.objs.size ts (s3.trans (Same.new hL _)) fL upd_same tl fun j t x y h1 h2 h3 => ⟨?_, I1.hok.fresh (old t (List.mem_of_getElem? h1))⟩⟩
  exact Same.new hL _ _ _ (a3 j t (x, y) h1 (zat j x y h2 h3))
end
end L2
namespace L2
open PySem PySem.Spec PyProof.Rows
theorem comp_zip0 {K : PySem.W.Frag} {b1 b2 : Bool} {l1 l2 : Addr} {xs zs : List V} {g : TG} {te : TE} {Fin : List V → Hp → Prop} {σ : St} {H : Hp} (Pv : Nat → List V → St → Hp → Prop) (h0 : Pv 0 [] σ H) (hz : ∀ i ys σ H, Pv i ys σ H → ys.length ≤ i) (hx : xs.length ≤ sizeLine) (hl : ∀ i ys σ H, Pv i ys σ H → SqB K H b1 l1 xs ∧ SqB K H b2 l2 zs)
    (hs : ∀ i x z ys σ H p, xs[i]? = some x → zs[i]? = some z → Pv i ys σ H → H p = none → g (.ref p) σ (upd H p (.tup [x, z])) fun σ2 H2 => te σ2 H2 fun y H4 => Pv (i + 1) (ys ++ [y]) σ2 H4)
    (hd : ∀ ys σ H, Pv (min xs.length zs.length) ys σ H → Fin ys H) : ∃ W : Nat → Nat → List V → St → Hp → Prop, (∃ m, W 0 m [] σ H) ∧ CompTurns (Itz K b1 b2 l1 l2) g tYes te Fin W :=
  comp_zip Pv h0 hz hx hl (fun i x z ys σ H p h1 h2 h3 h4 => by
    rw [yes_eq (N' := fun _ _ _ => True)]
    exact hs i x z ys σ H p h1 h2 h3 h4) hd
end L2
set_option Elab.async false
set_option maxRecDepth 100000
set_option maxHeartbeats 4000000
namespace K40
open PySem L2 Tr
seal PE PT PW PA PS PSs PG PGs PI PTs PO OpR UnR CallR TruR IxR SlR
local macro_rules | `(tactic| walk_at "rds") => `(tactic| first | assumption | decide | omega)
local macro_rules | `(tactic| walk_at "rd") => `(tactic| repeat (first | refine ⟨_, rfl, ?_⟩ | refine ⟨_, _, rfl, rfl, ?_⟩ | refine ⟨rfl, _, rfl, ?_⟩ | refine ⟨_, _, rfl, rfl, by walk_at "rds", ?_⟩ | refine And.intro (by walk_at "rds") ?_))
local macro_rules | `(tactic| walk_at "yes") => `(tactic| refine ifYes (by decide +kernel) ?_)
local macro_rules | `(tactic| walk_at "no") => `(tactic| refine ifNo (by decide +kernel) ?_)
def top (i : Nat) : Stmt := PySem.Challenge.pw_handflow_k40_made.main.body.getD i (.Pass ⟨0, 0, 0, 0⟩)
abbrev s_done : Stmt := top 3
abbrev s_reckoned : Stmt := top 4
abbrev s_Part___init__ : Stmt := inClass (top 6) 0
abbrev s_Pass___init__ : Stmt := inClass (top 7) 0
abbrev s_Pass_made : Stmt := inClass (top 7) 1
abbrev s_Work___init__ : Stmt := inClass (top 8) 0
abbrev s_Work_made : Stmt := inClass (top 8) 1
abbrev s_Choose___init__ : Stmt := inClass (top 9) 0
abbrev s_Choose_made : Stmt := inClass (top 9) 1
abbrev s_Merge___init__ : Stmt := inClass (top 10) 0
abbrev s_Merge_made : Stmt := inClass (top 10) 2
abbrev s_on_side : Stmt := top 11
abbrev s_part_of : Stmt := top 12
abbrev s__law_mixed : Stmt := top 14
abbrev s__law_number : Stmt := top 15
abbrev s__law_sign : Stmt := top 16
abbrev s__law_alike : Stmt := top 17
abbrev s__law_lines : Stmt := top 18
abbrev s__law_side : Stmt := top 19
abbrev s__law_row : Stmt := top 20
abbrev s__law_number_at : Stmt := top 21
abbrev s__law_makes : Stmt := top 22
abbrev s__law_things : Stmt := top 23
abbrev s__law_kind : Stmt := top 24
abbrev s_law : Stmt := top 25
theorem sc_done : FnScope ["sign", "a", "b"] ["sign", "a", "b"] (defScope s_done) := ⟨rfl, rfl, rfl, by decide +kernel, rfl, by decide +kernel, by decide +kernel⟩
theorem sc_reckoned : FnScope ["sign", "a", "b"] ["sign", "a", "b"] (defScope s_reckoned) := ⟨rfl, rfl, rfl, by decide +kernel, rfl, by decide +kernel, by decide +kernel⟩
theorem sc_Part___init__ : FnScope ["self", "ins"] ["self", "ins"] (defScope s_Part___init__) := ⟨rfl, rfl, rfl, by decide +kernel, rfl, by decide +kernel, by decide +kernel⟩
theorem sc_Pass___init__ : FnScope ["self", "ins", "outs", "route"] ["self", "ins", "outs", "route"] (defScope s_Pass___init__) := ⟨rfl, rfl, rfl, by decide +kernel, rfl, by decide +kernel, by decide +kernel⟩
theorem sc_Pass_made : FnScope ["self", "things"] ["self", "things"] (defScope s_Pass_made) := ⟨rfl, rfl, rfl, by decide +kernel, rfl, by decide +kernel, by decide +kernel⟩
theorem sc_Work___init__ : FnScope ["self", "ins", "out", "sign", "sides"] ["self", "ins", "out", "sign", "sides"] (defScope s_Work___init__) := ⟨rfl, rfl, rfl, by decide +kernel, rfl, by decide +kernel, by decide +kernel⟩
theorem sc_Work_made : FnScope ["self", "things", "left", "right"] ["self", "things"] (defScope s_Work_made) := ⟨rfl, rfl, rfl, by decide +kernel, rfl, by decide +kernel, by decide +kernel⟩
theorem sc_Choose___init__ : FnScope ["self", "ins", "which", "ones", "noughts", "told"] ["self", "ins", "which", "ones", "noughts", "told"] (defScope s_Choose___init__) := ⟨rfl, rfl, rfl, by decide +kernel, rfl, by decide +kernel, by decide +kernel⟩
theorem sc_Choose_made : FnScope ["self", "things"] ["self", "things"] (defScope s_Choose_made) := ⟨rfl, rfl, rfl, by decide +kernel, rfl, by decide +kernel, by decide +kernel⟩
theorem sc_Merge___init__ : FnScope ["self", "told", "ones", "noughts", "outs"] ["self", "told", "ones", "noughts", "outs"] (defScope s_Merge___init__) := ⟨rfl, rfl, rfl, by decide +kernel, rfl, by decide +kernel, by decide +kernel⟩
theorem sc_Merge_made : FnScope ["self", "things"] ["self", "things"] (defScope s_Merge_made) := ⟨rfl, rfl, rfl, by decide +kernel, rfl, by decide +kernel, by decide +kernel⟩
theorem sc_on_side : FnScope ["side", "things"] ["side", "things"] (defScope s_on_side) := ⟨rfl, rfl, rfl, by decide +kernel, rfl, by decide +kernel, by decide +kernel⟩
theorem sc_part_of : FnScope ["row", "kind"] ["row"] (defScope s_part_of) := ⟨rfl, rfl, rfl, by decide +kernel, rfl, by decide +kernel, by decide +kernel⟩
theorem sc__law_mixed : FnScope ["_law_cell", "_law_k", "_law_m"] ["_law_cell", "_law_k"] (defScope s__law_mixed) := ⟨rfl, rfl, rfl, by decide +kernel, rfl, by decide +kernel, by decide +kernel⟩
theorem sc__law_number : FnScope ["_law_cell", "_law_way", "_law_c"] ["_law_cell", "_law_way"] (defScope s__law_number) := ⟨rfl, rfl, rfl, by decide +kernel, rfl, by decide +kernel, by decide +kernel⟩
theorem sc__law_sign : FnScope ["_law_sign_here", "_law_a", "_law_b"] ["_law_sign_here", "_law_a", "_law_b"] (defScope s__law_sign) := ⟨rfl, rfl, rfl, by decide +kernel, rfl, by decide +kernel, by decide +kernel⟩
theorem sc__law_alike : FnScope ["_law_found", "_law_due", "_law_k"] ["_law_found", "_law_due"] (defScope s__law_alike) := ⟨rfl, rfl, rfl, by decide +kernel, rfl, by decide +kernel, by decide +kernel⟩
theorem sc__law_lines : FnScope ["_law_m", "_law_many", "_law_span", "_law_start", "_law_step", "_law_row_here"] ["_law_m", "_law_many", "_law_span"] (defScope s__law_lines) := ⟨rfl, rfl, rfl, by decide +kernel, rfl, by decide +kernel, by decide +kernel⟩
theorem sc__law_side : FnScope ["_law_way", "_law_width", "_law_cell"] ["_law_way", "_law_width", "_law_cell"] (defScope s__law_side) := ⟨rfl, rfl, rfl, by decide +kernel, rfl, by decide +kernel, by decide +kernel⟩
theorem sc__law_row : FnScope ["_law_cell", "_law_k", "_law_span", "_law_m", "_law_n", "_law_w", "_law_outs", "_law_at", "_law_route", "_law_left", "_law_right"] ["_law_cell", "_law_k", "_law_span"] (defScope s__law_row) := ⟨rfl, rfl, rfl, by decide +kernel, rfl, by decide +kernel, by decide +kernel⟩
theorem sc__law_number_at : FnScope ["_law_side_here", "_law_things_here"] ["_law_side_here", "_law_things_here"] (defScope s__law_number_at) := ⟨rfl, rfl, rfl, by decide +kernel, rfl, by decide +kernel, by decide +kernel⟩
theorem sc__law_makes : FnScope ["_law_row_here", "_law_things_here", "_law_a"] ["_law_row_here", "_law_things_here"] (defScope s__law_makes) := ⟨rfl, rfl, rfl, by decide +kernel, rfl, by decide +kernel, by decide +kernel⟩
theorem sc__law_things : FnScope ["_law_row_here", "_law_cell", "_law_k", "_law_many", "_law_out", "_law_j", "_law_m"] ["_law_row_here", "_law_cell", "_law_k"] (defScope s__law_things) := ⟨rfl, rfl, rfl, by decide +kernel, rfl, by decide +kernel, by decide +kernel⟩
theorem sc__law_kind : FnScope ["_law_part", "_law_word", "_law_kinds"] ["_law_part", "_law_word"] (defScope s__law_kind) := ⟨rfl, rfl, rfl, by decide +kernel, rfl, by decide +kernel, by decide +kernel⟩
theorem sc_law : FnScope ["_law_script", "_law_cells", "_law_k", "_law_cell", "_law_row_here", "_law_part", "_law_things_here", "_law_others", "_law_handed", "_law_before", "_law_behind"] ["_law_script"] (defScope s_law) := ⟨rfl, rfl, rfl, by decide +kernel, rfl, by decide +kernel, by decide +kernel⟩
structure Adr where
  done : Addr
  fd_done : FuncData
  reckoned : Addr
  fd_reckoned : FuncData
  Part___init__ : Addr
  fd_Part___init__ : FuncData
  Pass___init__ : Addr
  fd_Pass___init__ : FuncData
  Pass_made : Addr
  fd_Pass_made : FuncData
  Work___init__ : Addr
  fd_Work___init__ : FuncData
  Work_made : Addr
  fd_Work_made : FuncData
  Choose___init__ : Addr
  fd_Choose___init__ : FuncData
  Choose_made : Addr
  fd_Choose_made : FuncData
  Merge___init__ : Addr
  fd_Merge___init__ : FuncData
  Merge_made : Addr
  fd_Merge_made : FuncData
  on_side : Addr
  fd_on_side : FuncData
  part_of : Addr
  fd_part_of : FuncData
  _law_mixed : Addr
  fd__law_mixed : FuncData
  _law_number : Addr
  fd__law_number : FuncData
  _law_sign : Addr
  fd__law_sign : FuncData
  _law_alike : Addr
  fd__law_alike : FuncData
  _law_lines : Addr
  fd__law_lines : FuncData
  _law_side : Addr
  fd__law_side : FuncData
  _law_row : Addr
  fd__law_row : FuncData
  _law_number_at : Addr
  fd__law_number_at : FuncData
  _law_makes : Addr
  fd__law_makes : FuncData
  _law_things : Addr
  fd__law_things : FuncData
  _law_kind : Addr
  fd__law_kind : FuncData
  law : Addr
  fd_law : FuncData
  tk_WHEEL : Tok
  C_Part : Addr
  C_Pass : Addr
  C_Work : Addr
  C_Choose : Addr
  C_Merge : Addr
structure Tx (P : Program) (w : World) (K : PySem.W.Frag) (mg : Str → Option Value) (a : Adr) : Prop where
  F_done : Fun K "done" "done" s_done a.done a.fd_done
  b_done : Binds K a.fd_done ["sign", "a", "b"] []
  m_done : mg "done" = some (.ref a.done)
  F_reckoned : Fun K "reckoned" "reckoned" s_reckoned a.reckoned a.fd_reckoned
  b_reckoned : Binds K a.fd_reckoned ["sign", "a", "b"] []
  m_reckoned : mg "reckoned" = some (.ref a.reckoned)
  F_Part___init__ : Fun K "__init__" "Part.__init__" s_Part___init__ a.Part___init__ a.fd_Part___init__
  b_Part___init__ : Binds K a.fd_Part___init__ ["self", "ins"] []
  F_Pass___init__ : Fun K "__init__" "Pass.__init__" s_Pass___init__ a.Pass___init__ a.fd_Pass___init__
  b_Pass___init__ : Binds K a.fd_Pass___init__ ["self", "ins", "outs", "route"] []
  F_Pass_made : Fun K "made" "Pass.made" s_Pass_made a.Pass_made a.fd_Pass_made
  b_Pass_made : Binds K a.fd_Pass_made ["self", "things"] []
  F_Work___init__ : Fun K "__init__" "Work.__init__" s_Work___init__ a.Work___init__ a.fd_Work___init__
  b_Work___init__ : Binds K a.fd_Work___init__ ["self", "ins", "out", "sign", "sides"] []
  F_Work_made : Fun K "made" "Work.made" s_Work_made a.Work_made a.fd_Work_made
  b_Work_made : Binds K a.fd_Work_made ["self", "things"] []
  F_Choose___init__ : Fun K "__init__" "Choose.__init__" s_Choose___init__ a.Choose___init__ a.fd_Choose___init__
  b_Choose___init__ : Binds K a.fd_Choose___init__ ["self", "ins", "which", "ones", "noughts", "told"] []
  F_Choose_made : Fun K "made" "Choose.made" s_Choose_made a.Choose_made a.fd_Choose_made
  b_Choose_made : Binds K a.fd_Choose_made ["self", "things"] []
  F_Merge___init__ : Fun K "__init__" "Merge.__init__" s_Merge___init__ a.Merge___init__ a.fd_Merge___init__
  b_Merge___init__ : Binds K a.fd_Merge___init__ ["self", "told", "ones", "noughts", "outs"] []
  F_Merge_made : Fun K "made" "Merge.made" s_Merge_made a.Merge_made a.fd_Merge_made
  b_Merge_made : Binds K a.fd_Merge_made ["self", "things"] []
  F_on_side : Fun K "on_side" "on_side" s_on_side a.on_side a.fd_on_side
  b_on_side : Binds K a.fd_on_side ["side", "things"] []
  m_on_side : mg "on_side" = some (.ref a.on_side)
  F_part_of : Fun K "part_of" "part_of" s_part_of a.part_of a.fd_part_of
  b_part_of : Binds K a.fd_part_of ["row"] []
  m_part_of : mg "part_of" = some (.ref a.part_of)
  F__law_mixed : Fun K "_law_mixed" "_law_mixed" s__law_mixed a._law_mixed a.fd__law_mixed
  b__law_mixed : Binds K a.fd__law_mixed ["_law_cell", "_law_k"] []
  m__law_mixed : mg "_law_mixed" = some (.ref a._law_mixed)
  F__law_number : Fun K "_law_number" "_law_number" s__law_number a._law_number a.fd__law_number
  b__law_number : Binds K a.fd__law_number ["_law_cell", "_law_way"] []
  m__law_number : mg "_law_number" = some (.ref a._law_number)
  F__law_sign : Fun K "_law_sign" "_law_sign" s__law_sign a._law_sign a.fd__law_sign
  b__law_sign : Binds K a.fd__law_sign ["_law_sign_here", "_law_a", "_law_b"] []
  m__law_sign : mg "_law_sign" = some (.ref a._law_sign)
  F__law_alike : Fun K "_law_alike" "_law_alike" s__law_alike a._law_alike a.fd__law_alike
  b__law_alike : Binds K a.fd__law_alike ["_law_found", "_law_due"] []
  m__law_alike : mg "_law_alike" = some (.ref a._law_alike)
  F__law_lines : Fun K "_law_lines" "_law_lines" s__law_lines a._law_lines a.fd__law_lines
  b__law_lines : Binds K a.fd__law_lines ["_law_m", "_law_many", "_law_span"] []
  m__law_lines : mg "_law_lines" = some (.ref a._law_lines)
  F__law_side : Fun K "_law_side" "_law_side" s__law_side a._law_side a.fd__law_side
  b__law_side : Binds K a.fd__law_side ["_law_way", "_law_width", "_law_cell"] []
  m__law_side : mg "_law_side" = some (.ref a._law_side)
  F__law_row : Fun K "_law_row" "_law_row" s__law_row a._law_row a.fd__law_row
  b__law_row : Binds K a.fd__law_row ["_law_cell", "_law_k", "_law_span"] []
  m__law_row : mg "_law_row" = some (.ref a._law_row)
  F__law_number_at : Fun K "_law_number_at" "_law_number_at" s__law_number_at a._law_number_at a.fd__law_number_at
  b__law_number_at : Binds K a.fd__law_number_at ["_law_side_here", "_law_things_here"] []
  m__law_number_at : mg "_law_number_at" = some (.ref a._law_number_at)
  F__law_makes : Fun K "_law_makes" "_law_makes" s__law_makes a._law_makes a.fd__law_makes
  b__law_makes : Binds K a.fd__law_makes ["_law_row_here", "_law_things_here"] []
  m__law_makes : mg "_law_makes" = some (.ref a._law_makes)
  F__law_things : Fun K "_law_things" "_law_things" s__law_things a._law_things a.fd__law_things
  b__law_things : Binds K a.fd__law_things ["_law_row_here", "_law_cell", "_law_k"] []
  m__law_things : mg "_law_things" = some (.ref a._law_things)
  F__law_kind : Fun K "_law_kind" "_law_kind" s__law_kind a._law_kind a.fd__law_kind
  b__law_kind : Binds K a.fd__law_kind ["_law_part", "_law_word"] []
  m__law_kind : mg "_law_kind" = some (.ref a._law_kind)
  F_law : Fun K "law" "law" s_law a.law a.fd_law
  b_law : Binds K a.fd_law ["_law_script"] []
  m_law : mg "law" = some (.ref a.law)
  z_bool : mg "bool" = none
  z_enumerate : mg "enumerate" = none
  z_int : mg "int" = none
  z_isinstance : mg "isinstance" = none
  z_len : mg "len" = none
  z_list : mg "list" = none
  z_range : mg "range" = none
  z_reversed : mg "reversed" = none
  z_str : mg "str" = none
  z_tuple : mg "tuple" = none
  z_zip : mg "zip" = none
  c_WHEEL : mg "WHEEL" = some (.int 1000000000000000000000000000000 a.tk_WHEEL)
  m_Part : mg "Part" = some (.ref a.C_Part)
  cl_Part : Cls K a.C_Part
  k_Part : Mk K a.C_Part a.Part___init__
  nf_Part_ins : NoAttr K a.C_Part "ins"
  m_Pass : mg "Pass" = some (.ref a.C_Pass)
  cl_Pass : Cls K a.C_Pass
  k_Pass : Mk K a.C_Pass a.Pass___init__
  mt_Pass_made : Meth K a.C_Pass "made" a.Pass_made
  nf_Pass_ins : NoAttr K a.C_Pass "ins"
  nf_Pass_outs : NoAttr K a.C_Pass "outs"
  nf_Pass_route : NoAttr K a.C_Pass "route"
  m_Work : mg "Work" = some (.ref a.C_Work)
  cl_Work : Cls K a.C_Work
  k_Work : Mk K a.C_Work a.Work___init__
  mt_Work_made : Meth K a.C_Work "made" a.Work_made
  nf_Work_ins : NoAttr K a.C_Work "ins"
  nf_Work_out : NoAttr K a.C_Work "out"
  nf_Work_sign : NoAttr K a.C_Work "sign"
  nf_Work_sides : NoAttr K a.C_Work "sides"
  m_Choose : mg "Choose" = some (.ref a.C_Choose)
  cl_Choose : Cls K a.C_Choose
  k_Choose : Mk K a.C_Choose a.Choose___init__
  mt_Choose_made : Meth K a.C_Choose "made" a.Choose_made
  nf_Choose_ins : NoAttr K a.C_Choose "ins"
  nf_Choose_which : NoAttr K a.C_Choose "which"
  nf_Choose_ones : NoAttr K a.C_Choose "ones"
  nf_Choose_noughts : NoAttr K a.C_Choose "noughts"
  nf_Choose_told : NoAttr K a.C_Choose "told"
  m_Merge : mg "Merge" = some (.ref a.C_Merge)
  cl_Merge : Cls K a.C_Merge
  k_Merge : Mk K a.C_Merge a.Merge___init__
  mt_Merge_made : Meth K a.C_Merge "made" a.Merge_made
  nf_Merge_ins : NoAttr K a.C_Merge "ins"
  nf_Merge_ones : NoAttr K a.C_Merge "ones"
  nf_Merge_noughts : NoAttr K a.C_Merge "noughts"
  nf_Merge_outs : NoAttr K a.C_Merge "outs"
  cm_Part___init__ : CMeth K a.C_Part "__init__" a.Part___init__
  is_Choose : IsK K a.C_Choose
  is_Merge : IsK K a.C_Merge
  is_Pass : IsK K a.C_Pass
  is_Work : IsK K a.C_Work
  ki_Pass_Pass : PySem.W.kitOne K (.ref a.C_Pass) (.ref a.C_Pass) = some true
  ki_Pass_Work : PySem.W.kitOne K (.ref a.C_Pass) (.ref a.C_Work) = some false
  ki_Pass_Choose : PySem.W.kitOne K (.ref a.C_Pass) (.ref a.C_Choose) = some false
  ki_Pass_Merge : PySem.W.kitOne K (.ref a.C_Pass) (.ref a.C_Merge) = some false
  ki_Pass_Part : PySem.W.kitOne K (.ref a.C_Pass) (.ref a.C_Part) = some true
  ki_Work_Pass : PySem.W.kitOne K (.ref a.C_Work) (.ref a.C_Pass) = some false
  ki_Work_Work : PySem.W.kitOne K (.ref a.C_Work) (.ref a.C_Work) = some true
  ki_Work_Choose : PySem.W.kitOne K (.ref a.C_Work) (.ref a.C_Choose) = some false
  ki_Work_Merge : PySem.W.kitOne K (.ref a.C_Work) (.ref a.C_Merge) = some false
  ki_Work_Part : PySem.W.kitOne K (.ref a.C_Work) (.ref a.C_Part) = some true
  ki_Choose_Pass : PySem.W.kitOne K (.ref a.C_Choose) (.ref a.C_Pass) = some false
  ki_Choose_Work : PySem.W.kitOne K (.ref a.C_Choose) (.ref a.C_Work) = some false
  ki_Choose_Choose : PySem.W.kitOne K (.ref a.C_Choose) (.ref a.C_Choose) = some true
  ki_Choose_Merge : PySem.W.kitOne K (.ref a.C_Choose) (.ref a.C_Merge) = some false
  ki_Choose_Part : PySem.W.kitOne K (.ref a.C_Choose) (.ref a.C_Part) = some true
  ki_Merge_Pass : PySem.W.kitOne K (.ref a.C_Merge) (.ref a.C_Pass) = some false
  ki_Merge_Work : PySem.W.kitOne K (.ref a.C_Merge) (.ref a.C_Work) = some false
  ki_Merge_Choose : PySem.W.kitOne K (.ref a.C_Merge) (.ref a.C_Choose) = some false
  ki_Merge_Merge : PySem.W.kitOne K (.ref a.C_Merge) (.ref a.C_Merge) = some true
  ki_Merge_Part : PySem.W.kitOne K (.ref a.C_Merge) (.ref a.C_Part) = some true
theorem Tx.r_WHEEL {P : Program} {w : World} {K : PySem.W.Frag} {mg : Str → Option Value} {a : Adr} (_ : Tx P w K mg a) : RelV (.int 1000000000000000000000000000000) (.int 1000000000000000000000000000000 a.tk_WHEEL) := ⟨_, rfl⟩
theorem p30 : (10 : Int) ^ (30 : Int).toNat = 1000000000000000000000000000000 := by decide +kernel
theorem p60 : (10 : Int) ^ (60 : Int).toNat = 1000000000000000000000000000000000000000000000000000000000000 := by decide +kernel
structure OnW (x : Int) : Prop where
  lo : 0 ≤ x
  hi : x < 1000000000000000000000000000000
def reck (sg : Str) (a b : Int) : Int :=
  if sg = "+" then a + b else if sg = "-" then a - b else if sg = "*" then a * b else if sg = "&" then Builtin.bitAnd a b else if sg = "|" then Builtin.bitOr a b else Builtin.bitXor a b
def doneV (sg : Str) (a b : Int) : Int :=
  if sg = "/" then (if b = 0 then 0 else a / b) else if sg = "<" then (if a < b then 1 else 0) else if sg = "=" then (if a = b then 1 else 0) else reck sg a b % 1000000000000000000000000000000
inductive sp_reckoned (vs : List V) (H : Hp) (Q : VK) (E : XK) : Prop
  | mk (sg : Str) (a b : Int) (h0_ : vs = [.str sg, .int a, .int b]) (h1_ : OnW a) (h2_ : OnW b) (h3_ : Q (.int (reck sg a b)) H) : sp_reckoned vs H Q E
inductive sp_done (vs : List V) (H : Hp) (Q : VK) (E : XK) : Prop
  | mk (sg : Str) (a b : Int) (h0_ : vs = [.str sg, .int a, .int b]) (h1_ : OnW a) (h2_ : OnW b) (h3_ : Q (.int (doneV sg a b)) H) : sp_done vs H Q E
inductive sp__law_sign (vs : List V) (H : Hp) (Q : VK) (E : XK) : Prop
  | mk (sg : Str) (a b : Int) (h0_ : vs = [.str sg, .int a, .int b]) (h1_ : OnW a) (h2_ : OnW b) (h3_ : Q (.int (doneV sg a b)) H) : sp__law_sign vs H Q E
theorem wh_bits {x : Int} (h : OnW x) : Builtin.Int.intBits x ≤ 2 ^ 20 := Nat.le_trans ((PySem.intBits_le_iff (m := 100)).mpr (by have := h.lo; have := h.hi; omega)) (by decide)
theorem wh_log {x : Int} (h : OnW x) : x.natAbs.log2 < 9000 := Nat.lt_trans (log_lt (by have := h.lo; have := h.hi; omega)) (by decide)
inductive sp__law_mixed (vs : List V) (H : Hp) (Q : VK) (E : XK) : Prop
  | mk (c k : Int) (h0_ : vs = [.int c, .int k]) (h1_ : (0 ≤ k ∧ k ≤ 2000)) (h2_ : ∀ m : Int, 0 ≤ m → m < 2147483647 → Q (.int m) H) : sp__law_mixed vs H Q E
inductive sp__law_number (vs : List V) (H : Hp) (Q : VK) (E : XK) : Prop
  | mk (c k : Int) (h0_ : vs = [.int c, .int k]) (h1_ : (0 ≤ k ∧ k ≤ 2147483647)) (h2_ : ∀ m : Int, OnW m → Q (.int m) H) : sp__law_number vs H Q E
inductive sp__law_alike (n : Nat) (vs : List V) (H : Hp) (Q : VK) (E : XK) : Prop
  | mk (x y : V) (m : Nat) (h0_ : vs = [x, y]) (h1_ : m < n) (h2_ : AlB H m x y) (h3_ : Q (.bl true) H) : sp__law_alike n vs H Q E
inductive sp__law_lines (vs : List V) (H : Hp) (Q : VK) (E : XK) : Prop
  | mk (m n : Int) (h0_ : vs = [.int m, .int n, .int 1000]) (h1_ : (0 ≤ m ∧ m < 2147483647)) (h2_ : (0 ≤ n ∧ n ≤ 16)) (h3_ : ∀ H' l (xs : List Int), Same H H' → H' l = some (.lst (xs.map V.int)) → (xs.length : Int) = n → Q (.ref l) H') : sp__law_lines vs H Q E
inductive Sd
  | num (n : Int)
  | thing (i : Int)
inductive RS (H : Hp) : V → Sd → Prop
  | num {p : Addr} {n : Int} : H p = some (.tup [.str "is", .int n]) → RS H (.ref p) (.num n)
  | thing {p : Addr} {i : Int} : H p = some (.tup [.str "in", .int i]) → RS H (.ref p) (.thing i)
theorem RS.same {H H' : Hp} (e : Same H H') {v : V} {r : Sd} (h : RS H v r) : RS H' v r := by
  cases h with
  | num a => exact .num (e _ _ a)
  | thing a => exact .thing (e _ _ a)
def Sd.ok (w : Nat) : Sd → Prop
  | .num n => OnW n
  | .thing i => 0 ≤ i ∧ i < w
def Sd.worth (xs : List Int) : Sd → Int
  | .num n => n
  | .thing i => xs.getD i.toNat 0
inductive sp__law_side (vs : List V) (H : Hp) (Q : VK) (E : XK) : Prop
  | mk (i j c : Int) (h0_ : vs = [.int i, .int j, .int c]) (h1_ : (0 ≤ i ∧ i ≤ 2000)) (h2_ : 0 < j) (h3_ : ∀ H' v (s : Sd), Same H H' → RS H' v s → s.ok j.toNat → Q v H') : sp__law_side vs H Q E
inductive PR
  | pass (ins outs route : List Int)
  | work (ins : List Int) (out : Int) (sg : Str) (l r : Sd)
  | choose (ins : List Int) (which : Int) (ones noughts : List Int) (told : Int)
  | merge (told : Int) (ones noughts outs : List Int)
def PR.wide : PR → Nat
  | .pass ins _ _ => ins.length
  | .work ins _ _ _ _ => ins.length
  | .choose ins _ _ _ _ => ins.length
  | .merge _ _ _ outs => 1 + outs.length
def PR.ok : PR → Prop
  | .pass ins outs route => outs.length = route.length ∧ outs.length ≤ 100 ∧ ins.length ≤ 100 ∧ ∀ r ∈ route, 0 ≤ r ∧ r < ins.length
  | .work ins _ _ l r => ins.length ≤ 100 ∧ l.ok ins.length ∧ r.ok ins.length
  | .choose ins which ones noughts _ => 0 ≤ which ∧ which < ins.length ∧ ones.length = ins.length ∧ noughts.length = ins.length ∧ ins.length ≤ 100
  | .merge _ _ _ outs => outs.length ≤ 99
def PR.made (xs : List Int) : PR → List (Int × Int)
  | .pass _ outs route => outs.zip (route.map fun r => xs.getD r.toNat 0)
  | .work _ out sg l r => [(out, doneV sg (l.worth xs) (r.worth xs))]
  | .choose _ which ones noughts told => if xs.getD which.toNat 0 = 0 then noughts.zip xs ++ [(told, 0)] else ones.zip xs ++ [(told, 1)]
  | .merge _ _ _ outs => outs.zip xs.tail
def PR.kind : PR → Nat
  | .pass .. => 0
  | .work .. => 1
  | .choose .. => 2
  | .merge .. => 3
def PR.word : PR → Str
  | .pass .. => "pass"
  | .work .. => "work"
  | .choose .. => "choose"
  | .merge .. => "merge"
inductive RR (H : Hp) : V → PR → Prop
  | pass {p t0 t1 t2 : Addr} {ins outs route : List Int} : H p = some (.tup [.str "pass", .ref t0, .ref t1, .ref t2]) → H t0 = some (.tup (ins.map V.int)) → H t1 = some (.tup (outs.map V.int)) → H t2 = some (.tup (route.map V.int)) → RR H (.ref p) (.pass ins outs route)
  | work {p t0 : Addr} {ins : List Int} {out : Int} {sg : Str} {sa sb : V} {l r : Sd} : H p = some (.tup [.str "work", .ref t0, .int out, .str sg, sa, sb]) → H t0 = some (.tup (ins.map V.int)) → RS H sa l → RS H sb r → RR H (.ref p) (.work ins out sg l r)
  | choose {p t0 t1 t2 : Addr} {ins ones noughts : List Int} {which told : Int} : H p = some (.tup [.str "choose", .ref t0, .int which, .ref t1, .ref t2, .int told]) → H t0 = some (.tup (ins.map V.int)) → H t1 = some (.tup (ones.map V.int)) → H t2 = some (.tup (noughts.map V.int)) → RR H (.ref p) (.choose ins which ones noughts told)
  | merge {p t1 t2 t3 : Addr} {told : Int} {ones noughts outs : List Int} : H p = some (.tup [.str "merge", .int told, .ref t1, .ref t2, .ref t3]) → H t1 = some (.tup (ones.map V.int)) → H t2 = some (.tup (noughts.map V.int)) → H t3 = some (.tup (outs.map V.int)) → RR H (.ref p) (.merge told ones noughts outs)
theorem RR.same {H H' : Hp} (e : Same H H') {v : V} {r : PR} (h : RR H v r) : RR H' v r := by
  cases h with
  | pass a b c d => exact .pass (e _ _ a) (e _ _ b) (e _ _ c) (e _ _ d)
  | work a b c d => exact .work (e _ _ a) (e _ _ b) (c.same e) (d.same e)
  | choose a b c d => exact .choose (e _ _ a) (e _ _ b) (e _ _ c) (e _ _ d)
  | merge a b c d => exact .merge (e _ _ a) (e _ _ b) (e _ _ c) (e _ _ d)
theorem RR.word {H : Hp} {v : V} {r : PR} (h : RR H v r) : ∃ p rest, v = .ref p ∧ H p = some (.tup (.str r.word :: rest)) := by
  cases h with
  | pass a _ _ _ => exact ⟨_, _, rfl, a⟩
  | work a _ _ _ => exact ⟨_, _, rfl, a⟩
  | choose a _ _ _ => exact ⟨_, _, rfl, a⟩
  | merge a _ _ _ => exact ⟨_, _, rfl, a⟩
inductive sp__law_row (vs : List V) (H : Hp) (Q : VK) (E : XK) : Prop
  | mk (c k : Int) (h0_ : vs = [.int c, .int k, .int 1000]) (h1_ : (0 ≤ k ∧ k ≤ 1000)) (h2_ : ∀ H' v r, Same H H' → RR H' v r → r.ok → Q v H') : sp__law_row vs H Q E
inductive RPt (a : Adr) (H : Hp) : V → PR → Prop
  | pass {p dx t1 t2 : Addr} {u : V} {ins outs route : List Int} : H p = some (.ins a.C_Pass dx [("ins", u), ("outs", .ref t1), ("route", .ref t2)]) → H t1 = some (.tup (outs.map V.int)) → H t2 = some (.tup (route.map V.int)) → RPt a H (.ref p) (.pass ins outs route)
  | work {p dx ts : Addr} {u : V} {ins : List Int} {out : Int} {sg : Str} {sa sb : V} {l r : Sd} : H p = some (.ins a.C_Work dx [("ins", u), ("out", .int out), ("sign", .str sg), ("sides", .ref ts)]) → H ts = some (.tup [sa, sb]) → RS H sa l → RS H sb r → RPt a H (.ref p) (.work ins out sg l r)
  | choose {p dx t1 t2 : Addr} {u : V} {ins ones noughts : List Int} {which told : Int} : H p = some (.ins a.C_Choose dx [("ins", u), ("which", .int which), ("ones", .ref t1), ("noughts", .ref t2), ("told", .int told)]) → H t1 = some (.tup (ones.map V.int)) → H t2 = some (.tup (noughts.map V.int)) → RPt a H (.ref p) (.choose ins which ones noughts told)
  | merge {p dx t3 : Addr} {u x y : V} {told : Int} {ones noughts outs : List Int} : H p = some (.ins a.C_Merge dx [("ins", u), ("ones", x), ("noughts", y), ("outs", .ref t3)]) → H t3 = some (.tup (outs.map V.int)) → RPt a H (.ref p) (.merge told ones noughts outs)
theorem RPt.same {a : Adr} {H H' : Hp} (e : Same H H') {v : V} {r : PR} (h : RPt a H v r) : RPt a H' v r := by
  cases h with
  | pass a b c => exact .pass (e _ _ a) (e _ _ b) (e _ _ c)
  | work a b c d => exact .work (e _ _ a) (e _ _ b) (c.same e) (d.same e)
  | choose a b c => exact .choose (e _ _ a) (e _ _ b) (e _ _ c)
  | merge a b => exact .merge (e _ _ a) (e _ _ b)
inductive RPs (H : Hp) : List V → List (Int × Int) → Prop
  | nil : RPs H [] []
  | cons {p : Addr} {vs : List V} {x : Int × Int} {xs : List (Int × Int)} : H p = some (.tup [.int x.1, .int x.2]) → RPs H vs xs → RPs H (.ref p :: vs) (x :: xs)
theorem RPs.same {H H' : Hp} (e : Same H H') : ∀ {vs : List V} {xs : List (Int × Int)}, RPs H vs xs → RPs H' vs xs
  | _, _, .nil => .nil
  | _, _, .cons a r => .cons (e _ _ a) (RPs.same e r)
theorem RPs.len {H : Hp} : ∀ {vs : List V} {xs : List (Int × Int)}, RPs H vs xs → vs.length = xs.length
  | _, _, .nil => rfl
  | _, _, .cons _ r => congrArg (· + 1) (RPs.len r)
theorem RPs.app {H : Hp} : ∀ {vs us : List V} {xs ys : List (Int × Int)}, RPs H vs xs → RPs H us ys → RPs H (vs ++ us) (xs ++ ys)
  | _, _, _, _, .nil, h => h
  | _, _, _, _, .cons a r, h => .cons a (RPs.app r h)
theorem RPs.snoc {H : Hp} {p : Addr} {x : Int × Int} (a : H p = some (.tup [.int x.1, .int x.2])) {vs : List V} {xs : List (Int × Int)} (h : RPs H vs xs) : RPs H (vs ++ [.ref p]) (xs ++ [x]) := h.app (.cons a .nil)
theorem RPs.zip {H : Hp} : ∀ {ts : List Addr} {xs ys : List Int}, ts.length = min xs.length ys.length → (∀ (j : Nat) (t : Addr) (x y : V), ts[j]? = some t → (xs.map V.int)[j]? = some x → (ys.map V.int)[j]? = some y → H t = some (.tup [x, y])) → RPs H (ts.map V.ref) (xs.zip ys)
  | [], [], _, _, _ => by simp; exact .nil
  | [], _ :: _, [], _, _ => .nil
  | [], _ :: _, _ :: _, h, _ => by simp at h
  | _ :: _, [], _, h, _ => by simp at h
  | _ :: _, _ :: _, [], h, _ => by simp at h
  | t :: ts, x :: xs, y :: ys, h, at_ => by
    refine .cons (at_ 0 t _ _ rfl rfl rfl) (RPs.zip (by simp at h; omega) fun j t' x' y' h1 h2 h3 => at_ (j + 1) t' x' y' (by simpa using h1) (by simpa using h2) (by simpa using h3))
theorem RPs.alb {H : Hp} {n : Nat} : ∀ {us vs : List V} {xs : List (Int × Int)}, RPs H us xs → RPs H vs xs → ∀ (i : Nat) (x y : V), us[i]? = some x → vs[i]? = some y → AlB H (n + 1) x y
  | _, _, _, .nil, .nil, i, x, y, hx, _ => by simp at hx
  | _, _, _, .cons (x := z) h1 r1, .cons h2 r2, 0, x, y, hx, hy => by
    simp at hx hy
    subst hx
    subst hy
    refine .tup h1 h2 rfl (by simp) fun i x y hx hy => ?_
    match i, hx, hy with
    | 0, hx, hy => cases hx; cases hy; exact .int _ _
    | 1, hx, hy => cases hx; cases hy; exact .int _ _
    | i + 2, hx, hy => simp at hx
  | _, _, _, .cons h1 r1, .cons h2 r2, i + 1, x, y, hx, hy => RPs.alb r1 r2 i x y (by simpa using hx) (by simpa using hy)
inductive sp_Part___init__ (a : Adr) (vs : List V) (H : Hp) (Q : VK) (E : XK) : Prop
  | mk (p C dx : Addr) (u : V) (h0_ : vs = [.ref p, u]) (h1_ : H p = some (.ins C dx [])) (h2_ : (C = a.C_Pass ∨ C = a.C_Work ∨ C = a.C_Choose ∨ C = a.C_Merge)) (h3_ : Q .non (upd H p (.ins C dx [("ins", u)]))) : sp_Part___init__ a vs H Q E
inductive sp_Pass___init__ (a : Adr) (vs : List V) (H : Hp) (Q : VK) (E : XK) : Prop
  | mk (p dx : Addr) (u v x : V) (h0_ : vs = [.ref p, u, v, x]) (h1_ : H p = some (.ins a.C_Pass dx [])) (h2_ : Q .non (upd H p (.ins a.C_Pass dx [("ins", u), ("outs", v), ("route", x)]))) : sp_Pass___init__ a vs H Q E
inductive sp_Work___init__ (a : Adr) (vs : List V) (H : Hp) (Q : VK) (E : XK) : Prop
  | mk (p dx : Addr) (u v x y : V) (h0_ : vs = [.ref p, u, v, x, y]) (h1_ : H p = some (.ins a.C_Work dx [])) (h2_ : Q .non (upd H p (.ins a.C_Work dx [("ins", u), ("out", v), ("sign", x), ("sides", y)]))) : sp_Work___init__ a vs H Q E
inductive sp_Choose___init__ (a : Adr) (vs : List V) (H : Hp) (Q : VK) (E : XK) : Prop
  | mk (p dx : Addr) (u v x y z : V) (h0_ : vs = [.ref p, u, v, x, y, z]) (h1_ : H p = some (.ins a.C_Choose dx [])) (h2_ : Q .non (upd H p (.ins a.C_Choose dx [("ins", u), ("which", v), ("ones", x), ("noughts", y), ("told", z)]))) : sp_Choose___init__ a vs H Q E
inductive sp_Merge___init__ (a : Adr) (vs : List V) (H : Hp) (Q : VK) (E : XK) : Prop
  | mk (p dx : Addr) (u v x y : V) (h0_ : vs = [.ref p, u, v, x, y]) (h1_ : H p = some (.ins a.C_Merge dx [])) (h2_ : ∀ t, H t = none → Q .non (upd (upd H t (.tup [u])) p (.ins a.C_Merge dx [("ins", .ref t), ("ones", v), ("noughts", x), ("outs", y)]))) : sp_Merge___init__ a vs H Q E
inductive sp_on_side (vs : List V) (H : Hp) (Q : VK) (E : XK) : Prop
  | mk (v : V) (l : Addr) (s : Sd) (xs : List Int) (h0_ : vs = [v, .ref l]) (h1_ : RS H v s) (h2_ : s.ok xs.length) (h3_ : H l = some (.lst (xs.map V.int))) (h4_ : Q (.int (s.worth xs)) H) : sp_on_side vs H Q E
inductive sp__law_number_at (vs : List V) (H : Hp) (Q : VK) (E : XK) : Prop
  | mk (v : V) (l : Addr) (s : Sd) (xs : List Int) (h0_ : vs = [v, .ref l]) (h1_ : RS H v s) (h2_ : s.ok xs.length) (h3_ : H l = some (.lst (xs.map V.int))) (h4_ : Q (.int (s.worth xs)) H) : sp__law_number_at vs H Q E
inductive sp_made (a : Adr) (n : Nat) (vs : List V) (H : Hp) (Q : VK) (E : XK) : Prop
  | mk (v : V) (l : Addr) (r : PR) (xs : List Int) (h0_ : vs = [v, .ref l]) (h1_ : r.kind = n) (h2_ : RPt a H v r) (h3_ : r.ok) (h4_ : H l = some (.lst (xs.map V.int))) (h5_ : xs.length = r.wide) (h6_ : (∀ x ∈ xs, OnW x)) (h7_ : ∀ H' l' us, Same H H' → H' l' = some (.lst us) → RPs H' us (r.made xs) → Q (.ref l') H') : sp_made a n vs H Q E
inductive sp_part_of (a : Adr) (vs : List V) (H : Hp) (Q : VK) (E : XK) : Prop
  | mk (v : V) (r : PR) (h0_ : vs = [v]) (h1_ : RR H v r) (h2_ : ∀ H' p, Same H H' → RPt a H' (.ref p) r → Q (.ref p) H') : sp_part_of a vs H Q E
inductive sp__law_makes (vs : List V) (H : Hp) (Q : VK) (E : XK) : Prop
  | mk (v : V) (l : Addr) (r : PR) (xs : List Int) (h0_ : vs = [v, .ref l]) (h1_ : RR H v r) (h2_ : r.ok) (h3_ : H l = some (.lst (xs.map V.int))) (h4_ : xs.length = r.wide) (h5_ : (∀ x ∈ xs, OnW x)) (h6_ : ∀ H' l' us, Same H H' → H' l' = some (.lst us) → RPs H' us (r.made xs) → Q (.ref l') H') : sp__law_makes vs H Q E
inductive sp__law_things (vs : List V) (H : Hp) (Q : VK) (E : XK) : Prop
  | mk (v : V) (r : PR) (c k : Int) (h0_ : vs = [v, .int c, .int k]) (h1_ : RR H v r) (h2_ : r.ok) (h3_ : (0 ≤ k ∧ k ≤ 1000)) (h4_ : ∀ H' l (xs : List Int), Same H H' → H' l = some (.lst (xs.map V.int)) → xs.length = r.wide → (∀ x ∈ xs, OnW x) → Q (.ref l) H') : sp__law_things vs H Q E
inductive sp__law_kind (a : Adr) (vs : List V) (H : Hp) (Q : VK) (E : XK) : Prop
  | mk (v : V) (r : PR) (h0_ : vs = [v, .str r.word]) (h1_ : RPt a H v r) (h2_ : ∀ H', Same H H' → Q (.bl true) H') : sp__law_kind a vs H Q E
inductive sp_law (K : PySem.W.Frag) (vs : List V) (H : Hp) (Q : VK) (E : XK) : Prop
  | mk (a : Addr) (ns : List Int) (h0_ : vs = [.ref a]) (h1_ : SqL K H a (ns.map V.int)) (h2_ : ns.length ≤ 63) (h3_ : (∀ n ∈ ns, Builtin.Int.intBits n ≤ 2 ^ 20)) (h4_ : Only H) (h5_ : ∀ H', Q (.bl true) H') : sp_law K vs H Q E
theorem ln0 : 0 ≤ sizeLine := Nat.zero_le _
theorem ln1 : 1 ≤ sizeLine := by decide
theorem ln2 : 2 ≤ sizeLine := by decide
theorem ln4 : 4 ≤ sizeLine := by decide
theorem ln5 : 5 ≤ sizeLine := by decide
theorem ln6 : 6 ≤ sizeLine := by decide
section
variable {P : Program} {w : World} {K : PySem.W.Frag} {mg : Str → Option Value} {base : Heap} {a : Adr}
theorem ok_Part___init__ (T : Tx P w K mg a) : FnOk P w K mg base CX0 1 a.Part___init__ a.fd_Part___init__ ["self", "ins"] (sp_Part___init__ a) := by
  refine T.F_Part___init__.ok sc_Part___init__ (fun vs H Q E h => ?_) (fun cdv A outer s H vs Q E hr h => ?_)
  · obtain ⟨_, _, _, _, rfl, _⟩ := h
    rfl
  obtain ⟨p, C, dx, u, rfl, hp, hC, k⟩ := h
  refine ⟨_, (pss_one (ps_fld (pq 0) (pq 1) rfl)), ?_⟩
  have cn : Cls K C ∧ NoAttr K C "ins" := by
    rcases hC with rfl | rfl | rfl | rfl
    · exact ⟨T.cl_Pass, T.nf_Pass_ins⟩
    · exact ⟨T.cl_Work, T.nf_Work_ins⟩
    · exact ⟨T.cl_Choose, T.nf_Choose_ins⟩
    · exact ⟨T.cl_Merge, T.nf_Merge_ins⟩
  exact ⟨_, rfl, _, rfl, p, C, dx, [], rfl, hp, cn.1, cn.2, by simp, k⟩
theorem ok_Pass___init__ (T : Tx P w K mg a) : FnOk P w K mg base CX0 2 a.Pass___init__ a.fd_Pass___init__ ["self", "ins", "outs", "route"] (sp_Pass___init__ a) := by
  refine T.F_Pass___init__.ok sc_Pass___init__ (fun vs H Q E h => ?_) (fun cdv A outer s H vs Q E hr h => ?_)
  · obtain ⟨_, _, _, _, _, rfl, _⟩ := h
    rfl
  obtain ⟨p, dx, u, v, x, rfl, hp, k⟩ := h
  refine ⟨_, (pss_cons (ps_expr (pe_cmeth rfl T.m_Part T.cm_Part___init__ (ok_Part___init__ T) (hr.mono (by decide)) T.b_Part___init__ .nil pass0 (pa_cons (pq 0) (pa_cons (pq 1) pa_nil))))
      (pss_cons (ps_fld (pq 0) (pq 2) rfl)
      (pss_one (ps_fld (pq 0) (pq 3) rfl)))), ?_⟩
  refine ⟨_, rfl, _, rfl, p, a.C_Pass, dx, u, rfl, hp, .inl rfl, ?_⟩
  refine ⟨_, rfl, _, rfl, p, a.C_Pass, dx, _, rfl, upd_same, T.cl_Pass, T.nf_Pass_outs, by simp, ?_⟩
  rw [putF_new ["ins"] rfl (by decide +kernel)]
  refine ⟨_, rfl, _, rfl, p, a.C_Pass, dx, _, rfl, upd_same, T.cl_Pass, T.nf_Pass_route, by simp, ?_⟩
  rw [putF_new ["ins", "outs"] rfl (by decide +kernel), upd_twice, upd_twice]
  exact k
theorem ok_Work___init__ (T : Tx P w K mg a) : FnOk P w K mg base CX0 2 a.Work___init__ a.fd_Work___init__ ["self", "ins", "out", "sign", "sides"] (sp_Work___init__ a) := by
  refine T.F_Work___init__.ok sc_Work___init__ (fun vs H Q E h => ?_) (fun cdv A outer s H vs Q E hr h => ?_)
  · obtain ⟨_, _, _, _, _, _, rfl, _⟩ := h
    rfl
  obtain ⟨p, dx, u, v, x, y, rfl, hp, k⟩ := h
  refine ⟨_, (pss_cons (ps_expr (pe_cmeth rfl T.m_Part T.cm_Part___init__ (ok_Part___init__ T) (hr.mono (by decide)) T.b_Part___init__ .nil pass0 (pa_cons (pq 0) (pa_cons (pq 1) pa_nil))))
      (pss_cons (ps_fld (pq 0) (pq 2) rfl)
      (pss_cons (ps_fld (pq 0) (pq 3) rfl)
      (pss_one (ps_fld (pq 0) (pq 4) rfl))))), ?_⟩
  refine ⟨_, rfl, _, rfl, p, a.C_Work, dx, u, rfl, hp, .inr (.inl rfl), ?_⟩
  refine ⟨_, rfl, _, rfl, p, a.C_Work, dx, _, rfl, upd_same, T.cl_Work, T.nf_Work_out, by simp, ?_⟩
  rw [putF_new ["ins"] rfl (by decide +kernel)]
  refine ⟨_, rfl, _, rfl, p, a.C_Work, dx, _, rfl, upd_same, T.cl_Work, T.nf_Work_sign, by simp, ?_⟩
  rw [putF_new ["ins", "out"] rfl (by decide +kernel)]
  refine ⟨_, rfl, _, rfl, p, a.C_Work, dx, _, rfl, upd_same, T.cl_Work, T.nf_Work_sides, by simp, ?_⟩
  rw [putF_new ["ins", "out", "sign"] rfl (by decide +kernel), upd_twice, upd_twice, upd_twice]
  exact k
theorem ok_Choose___init__ (T : Tx P w K mg a) : FnOk P w K mg base CX0 2 a.Choose___init__ a.fd_Choose___init__ ["self", "ins", "which", "ones", "noughts", "told"] (sp_Choose___init__ a) := by
  refine T.F_Choose___init__.ok sc_Choose___init__ (fun vs H Q E h => ?_) (fun cdv A outer s H vs Q E hr h => ?_)
  · obtain ⟨_, _, _, _, _, _, _, rfl, _⟩ := h
    rfl
  obtain ⟨p, dx, u, v, x, y, z, rfl, hp, k⟩ := h
  refine ⟨_, (pss_cons (ps_expr (pe_cmeth rfl T.m_Part T.cm_Part___init__ (ok_Part___init__ T) (hr.mono (by decide)) T.b_Part___init__ .nil pass0 (pa_cons (pq 0) (pa_cons (pq 1) pa_nil))))
      (pss_cons (ps_fld (pq 0) (pq 2) rfl)
      (pss_cons (ps_fld (pq 0) (pq 3) rfl)
      (pss_cons (ps_fld (pq 0) (pq 4) rfl)
      (pss_one (ps_fld (pq 0) (pq 5) rfl)))))), ?_⟩
  refine ⟨_, rfl, _, rfl, p, a.C_Choose, dx, u, rfl, hp, .inr (.inr (.inl rfl)), ?_⟩
  refine ⟨_, rfl, _, rfl, p, a.C_Choose, dx, _, rfl, upd_same, T.cl_Choose, T.nf_Choose_which, by simp, ?_⟩
  rw [putF_new ["ins"] rfl (by decide +kernel)]
  refine ⟨_, rfl, _, rfl, p, a.C_Choose, dx, _, rfl, upd_same, T.cl_Choose, T.nf_Choose_ones, by simp, ?_⟩
  rw [putF_new ["ins", "which"] rfl (by decide +kernel)]
  refine ⟨_, rfl, _, rfl, p, a.C_Choose, dx, _, rfl, upd_same, T.cl_Choose, T.nf_Choose_noughts, by simp, ?_⟩
  rw [putF_new ["ins", "which", "ones"] rfl (by decide +kernel)]
  refine ⟨_, rfl, _, rfl, p, a.C_Choose, dx, _, rfl, upd_same, T.cl_Choose, T.nf_Choose_told, by simp, ?_⟩
  rw [putF_new ["ins", "which", "ones", "noughts"] rfl (by decide +kernel), upd_twice, upd_twice, upd_twice, upd_twice]
  exact k
theorem ok_Merge___init__ (T : Tx P w K mg a) : FnOk P w K mg base CX0 2 a.Merge___init__ a.fd_Merge___init__ ["self", "told", "ones", "noughts", "outs"] (sp_Merge___init__ a) := by
  refine T.F_Merge___init__.ok sc_Merge___init__ (fun vs H Q E h => ?_) (fun cdv A outer s H vs Q E hr h => ?_)
  · obtain ⟨_, _, _, _, _, _, rfl, _⟩ := h
    rfl
  obtain ⟨p, dx, u, v, x, y, rfl, hp, k⟩ := h
  refine ⟨_, (pss_cons (ps_expr (pe_cmeth rfl T.m_Part T.cm_Part___init__ (ok_Part___init__ T) (hr.mono (by decide)) T.b_Part___init__ .nil pass0 (pa_cons (pq 0) (pa_cons (pe_tupQ (pa_cons (pq 1) pa_nil)) pa_nil))))
      (pss_cons (ps_fld (pq 0) (pq 2) rfl)
      (pss_cons (ps_fld (pq 0) (pq 3) rfl)
      (pss_one (ps_fld (pq 0) (pq 4) rfl))))), ?_⟩
  refine ⟨_, rfl, _, rfl, ln1, fun t ht => ?_⟩
  have ne : p ≠ t := fun z => by rw [z, ht] at hp; cases hp
  refine ⟨p, a.C_Merge, dx, .ref t, rfl, by rw [upd_ne ne]; exact hp, .inr (.inr (.inr rfl)), ?_⟩
  refine ⟨_, rfl, _, rfl, p, a.C_Merge, dx, _, rfl, upd_same, T.cl_Merge, T.nf_Merge_ones, by simp, ?_⟩
  rw [putF_new ["ins"] rfl (by decide +kernel)]
  refine ⟨_, rfl, _, rfl, p, a.C_Merge, dx, _, rfl, upd_same, T.cl_Merge, T.nf_Merge_noughts, by simp, ?_⟩
  rw [putF_new ["ins", "ones"] rfl (by decide +kernel)]
  refine ⟨_, rfl, _, rfl, p, a.C_Merge, dx, _, rfl, upd_same, T.cl_Merge, T.nf_Merge_outs, by simp, ?_⟩
  rw [putF_new ["ins", "ones", "noughts"] rfl (by decide +kernel), upd_twice, upd_twice, upd_twice]
  exact k t ht
theorem ok_reckoned (T : Tx P w K mg a) : FnOk P w K mg base CX0 1 a.reckoned a.fd_reckoned ["sign", "a", "b"] sp_reckoned := by
  refine T.F_reckoned.ok sc_reckoned (fun vs H Q E h => ?_) (fun cdv A outer s H vs Q E hr h => ?_)
  · obtain ⟨_, _, _, rfl, _⟩ := h
    rfl
  obtain ⟨sg, x, y, rfl, hx, hy, k⟩ := h
  refine ⟨_, (pss_cons (ps_if (pt_cmpQ qo_eq (pq 0) pe_str (nomark _)) (pss_one (ps_ret (pe_op qi_add (pq 1) (pq 2)))) pss_nil)
      (pss_cons (ps_if (pt_cmpQ qo_eq (pq 0) pe_str (nomark _)) (pss_one (ps_ret (pe_op qi_sub (pq 1) (pq 2)))) pss_nil)
      (pss_cons (ps_if (pt_cmpQ qo_eq (pq 0) pe_str (nomark _)) (pss_one (ps_ret (pe_op oi_mul (pq 1) (pq 2)))) pss_nil)
      (pss_cons (ps_if (pt_cmpQ qo_eq (pq 0) pe_str (nomark _)) (pss_one (ps_ret (pe_op oi_and (pq 1) (pq 2)))) pss_nil)
      (pss_cons (ps_if (pt_cmpQ qo_eq (pq 0) pe_str (nomark _)) (pss_one (ps_ret (pe_op oi_or (pq 1) (pq 2)))) pss_nil)
      (pss_one (ps_ret (pe_op oi_xor (pq 1) (pq 2))))))))), ?_⟩
  unfold reck at k
  walk_at "rd"
  refine ite2 (fun c => ?_) (fun c => ?_)
  · rw [if_pos (str_yes c)] at k
    walk_at "rd"
    exact k
  rw [if_neg (str_no c)] at k
  walk_at "rd"
  refine ite2 (fun c => ?_) (fun c => ?_)
  · rw [if_pos (str_yes c)] at k
    walk_at "rd"
    exact k
  rw [if_neg (str_no c)] at k
  walk_at "rd"
  refine ite2 (fun c => ?_) (fun c => ?_)
  · rw [if_pos (str_yes c)] at k
    walk_at "rd"
    exact ⟨IntMulOk.of_bits (wh_bits hx) (wh_bits hy), k⟩
  rw [if_neg (str_no c)] at k
  walk_at "rd"
  refine ite2 (fun c => ?_) (fun c => ?_)
  · rw [if_pos (str_yes c)] at k
    walk_at "rd"
    exact k
  rw [if_neg (str_no c)] at k
  walk_at "rd"
  refine ite2 (fun c => ?_) (fun c => ?_)
  · rw [if_pos (str_yes c)] at k
    walk_at "rd"
    exact k
  rw [if_neg (str_no c)] at k
  walk_at "rd"
  exact k
theorem ok_done (T : Tx P w K mg a) : FnOk P w K mg base CX0 2 a.done a.fd_done ["sign", "a", "b"] sp_done := by
  refine T.F_done.ok sc_done (fun vs H Q E h => ?_) (fun cdv A outer s H vs Q E hr h => ?_)
  · obtain ⟨_, _, _, rfl, _⟩ := h
    rfl
  obtain ⟨sg, x, y, rfl, hx, hy, k⟩ := h
  refine ⟨_, (pss_cons (ps_if (pt_cmpQ qo_eq (pq 0) pe_str (nomark _)) (pss_one (ps_ret (pe_ifExp (pt_cmpQ qo_eq (pq 2) pe_int (nomark _)) pe_int (pe_op oi_fdivW (pq 1) (pq 2))))) pss_nil)
      (pss_cons (ps_if (pt_cmpQ qo_eq (pq 0) pe_str (nomark _)) (pss_one (ps_ret (pe_ifExp (pt_cmpQ qi_lt (pq 1) (pq 2) (nomark _)) pe_int pe_int))) pss_nil)
      (pss_cons (ps_if (pt_cmpQ qo_eq (pq 0) pe_str (nomark _)) (pss_one (ps_ret (pe_ifExp (pt_cmpQ qo_eq (pq 1) (pq 2) (nomark _)) pe_int pe_int))) pss_nil)
      (pss_one (ps_ret (pe_op qi_mod (pe_call (ok_reckoned T) (hr.mono (by decide)) rfl T.m_reckoned T.F_reckoned.kp T.b_reckoned .nil pass0 (pa_cons (pq 0) (pa_cons (pq 1) (pa_cons (pq 2) pa_nil)))) (pe_glob rfl T.c_WHEEL T.r_WHEEL))))))), ?_⟩
  unfold doneV at k
  walk_at "rd"
  refine ite2 (fun c => ?_) (fun c => ?_)
  · rw [if_pos (str_yes c)] at k
    walk_at "rd"
    refine ite2 (fun c => ?_) (fun c => ?_)
    · rw [if_pos (int_yes c)] at k
      exact k
    · have c' := int_no c
      rw [if_neg c'] at k
      walk_at "rd"
      exact ⟨⟨by have := hy.lo; omega, wh_log hy⟩, k⟩
  rw [if_neg (str_no c)] at k
  walk_at "rd"
  refine ite2 (fun c => ?_) (fun c => ?_)
  · rw [if_pos (str_yes c)] at k
    walk_at "rd"
    refine ite2 (fun c => ?_) (fun c => ?_)
    · rw [if_pos (of_decide_eq_true c)] at k
      exact k
    · rw [if_neg (fun z => c (decide_eq_true z))] at k
      exact k
  rw [if_neg (str_no c)] at k
  walk_at "rd"
  refine ite2 (fun c => ?_) (fun c => ?_)
  · rw [if_pos (str_yes c)] at k
    walk_at "rd"
    refine ite2 (fun c => ?_) (fun c => ?_)
    · rw [if_pos (int_yes c)] at k
      exact k
    · rw [if_neg (int_no c)] at k
      exact k
  rw [if_neg (str_no c)] at k
  walk_at "rd"
  refine ⟨sg, x, y, rfl, hx, hy, ?_⟩
  walk_at "rd"
  exact k
theorem sign_at (i : Int) : atI ("+-*/<=&|^" : Str).cps.toList (i % 9) = some (("+-*/<=&|^" : Str).cps.toList.getD (i % 9).toNat 0) := by
  have h1 : 0 ≤ i % 9 := Int.emod_nonneg _ (by decide)
  have h2 : i % 9 < 9 := Int.emod_lt_of_pos _ (by decide)
  have ln : ("+-*/<=&|^" : Str).cps.toList.length = 9 := by decide +kernel
  have lt : (i % 9).toNat < ("+-*/<=&|^" : Str).cps.toList.length := by omega
  have := atI_nat (xs := ("+-*/<=&|^" : Str).cps.toList) (j := (i % 9).toNat) (v := ("+-*/<=&|^" : Str).cps.toList.getD (i % 9).toNat 0) (by rw [List.getD_eq_getElem?_getD, List.getElem?_eq_getElem lt]; rfl)
  rwa [Int.toNat_of_nonneg h1] at this
theorem ok__law_mixed (T : Tx P w K mg a) : FnOk P w K mg base CX0 1 a._law_mixed a.fd__law_mixed ["_law_cell", "_law_k"] sp__law_mixed := by
  refine T.F__law_mixed.ok sc__law_mixed (fun vs H Q E h => ?_) (fun cdv A outer s H vs Q E hr h => ?_)
  · obtain ⟨_, _, rfl, _⟩ := h
    rfl
  obtain ⟨c, k, rfl, hk, q⟩ := h
  refine ⟨_, (pss_cons (ps_set (i := 2) sc__law_mixed.nd rfl (Or.inl rfl) (pe_op qi_mod (pe_op qi_add (pe_op oi_mul (pe_op qi_mod (pq 0) pe_int) pe_int) (pe_op oi_mul (pe_op qi_add (pe_op qi_add (pe_op oi_mul (pq 1) (pq 1)) (pe_op oi_mul pe_int (pq 1))) pe_int) pe_int)) pe_int))
      (pss_one (ps_ret (pe_op qi_mod (pe_op oi_mul (pq 2) (pq 2)) pe_int)))), ?_⟩
  have kb : Builtin.Int.intBits k ≤ 64 := intBits_le_64 (by omega) (by omega)
  walk_at "rd"
  refine ⟨IntMulOk.of_right (intBits_le_64 (by decide) (by decide)), ?_⟩
  walk_at "rd"
  refine ⟨IntMulOk.of_right kb, ?_⟩
  walk_at "rd"
  refine ⟨IntMulOk.of_right kb, ?_⟩
  walk_at "rd"
  refine ⟨IntMulOk.of_right (intBits_le_64 (by decide) (by decide)), ?_⟩
  walk_at "rd"
  have m0 := Int.emod_nonneg (c % 2147483647 * 48271 + (k * k + 3 * k + 7) * 69621) (show (2147483647 : Int) ≠ 0 by decide)
  have m1 := Int.emod_lt_of_pos (c % 2147483647 * 48271 + (k * k + 3 * k + 7) * 69621) (show (0 : Int) < 2147483647 by decide)
  generalize (c % 2147483647 * 48271 + (k * k + 3 * k + 7) * 69621) % 2147483647 = m at m0 m1 ⊢
  refine ⟨IntMulOk.of_right (intBits_le_64 (by omega) (by omega)), ?_⟩
  walk_at "rd"
  exact q _ (Int.emod_nonneg _ (by decide)) (Int.emod_lt_of_pos _ (by decide))
theorem ok__law_lines (T : Tx P w K mg a) : FnOk P w K mg base CX0 1 a._law_lines a.fd__law_lines ["_law_m", "_law_many", "_law_span"] sp__law_lines := by
  refine T.F__law_lines.ok sc__law_lines (fun vs H Q E h => ?_) (fun cdv A outer s H vs Q E hr h => ?_)
  · obtain ⟨_, _, rfl, _⟩ := h
    rfl
  obtain ⟨m, n, rfl, hm, hn, k⟩ := h
  refine ⟨_, (pss_cons (ps_set (i := 3) sc__law_lines.nd rfl (Or.inr rfl) (pe_op qi_mod (pe_op qi_fdiv (pq 0) pe_int) (pq 2)))
      (pss_cons (ps_set (i := 4) sc__law_lines.nd rfl (Or.inr rfl) (pe_op qi_add pe_int (pe_op qi_mod (pq 0) (pe_op qi_add (pe_op qi_fdiv (pq 2) pe_int) pe_int))))
      (pss_cons (ps_setcomp (i := 5) sc__law_lines.nd rfl (Or.inl rfl) (k := 1) (Nc := ["_law_k", "_law_start", "_law_step"]) (js := [3, 4]) (show CompSc (defScope s__law_lines) ["_law_m", "_law_many", "_law_span", "_law_start", "_law_step", "_law_row_here"] _ 1 ["_law_k", "_law_start", "_law_step"] [3, 4] from CompSc.mk rfl (by decide +kernel) (by decide +kernel) (by decide +kernel) rfl (by decide +kernel)) rfl (pj_range1 rfl T.z_range (pa_cons (pq 1) pa_nil)) (fun _ _ _ _ _ => (pg_name (i := 0) (show List.Nodup (["_law_k", "_law_start", "_law_step"] : List Str) from by decide +kernel) rfl (Or.inl rfl))) (fun _ _ _ _ _ => pts_nil) (fun _ _ _ _ _ => (pe_op qi_add (pq 1) (pe_op oi_mul (pq 2) (pq 0)))))
      (pss_cons (ps_if (pt_cmpQ qo_eq (pe_op qi_mod (pe_op qi_fdiv (pq 0) pe_int) pe_int) pe_int (nomark _)) (pss_one (ps_set (i := 5) sc__law_lines.nd rfl (Or.inl rfl) (pe_listrev rfl rfl T.z_list rfl T.z_reversed (pq 5)))) pss_nil)
      (pss_one (ps_ret (pq 5))))))), ?_⟩
  refine ⟨_, rfl, _, _, rfl, rfl, ⟨by decide, by decide⟩, _, rfl, _, _, rfl, rfl, by decide, ?_⟩
  have a0 : 0 ≤ m / 5 % 1000 ∧ m / 5 % 1000 < 1000 := by omega
  generalize m / 5 % 1000 = st at a0 ⊢
  refine ⟨_, rfl, _, rfl, _, _, rfl, rfl, ⟨by decide, by decide⟩, _, _, rfl, rfl, _, _, rfl, rfl, by decide, _, _, rfl, rfl, ?_⟩
  have a1 : 1 ≤ 1 + m % ((1000 : Int) / 200 + 2) ∧ 1 + m % ((1000 : Int) / 200 + 2) ≤ 7 := by
    have : (1000 : Int) / 200 + 2 = 7 := by decide
    rw [this]
    omega
  generalize 1 + m % ((1000 : Int) / 200 + 2) = sp at a1 ⊢
  refine ⟨_, rfl, _, rfl, by omega, by omega, ?_⟩
  refine comp_range0 (fun i ys σ H3 => (∃ v, σ = [v, some (.int st), some (.int sp)]) ∧ H3 = H ∧ ∃ xs : List Int, ys = xs.map V.int ∧ xs.length = i) ⟨⟨none, rfl⟩, rfl, [], rfl, rfl⟩ ?_ (len_le_line (m := 100) (by omega)) ?_ ?_
  · rintro i ys σ H3 _ ⟨_, _, xs, rfl, h⟩
    rw [List.length_map, h]
    exact Nat.le_refl _
  · rintro i ys σ H3 hi ⟨⟨v, rfl⟩, rfl, xs, rfl, hl⟩
    refine ⟨_, rfl, _, rfl, _, rfl, _, _, rfl, rfl, IntMulOk.of_left (intBits_le_64 (by omega) (by omega)), _, _, rfl, rfl, ⟨_, rfl⟩, rfl, xs ++ [st + sp * i], by rw [List.map_append]; rfl, by rw [List.length_append, hl]; rfl⟩
  rintro ys σ3 H3 ⟨_, rfl, xs, rfl, hl⟩ l hl3
  refine ⟨_, rfl, _, _, rfl, rfl, ⟨by decide, by decide⟩, _, _, rfl, rfl, by decide, rfl, _, rfl, ?_⟩
  refine ite2 (fun c => ?_) (fun c => ?_)
  · refine ⟨_, rfl, l, _, rfl, SqL.of upd_same, fun l2 hl2 => ⟨_, rfl, ?_⟩⟩
    refine k _ l2 xs.reverse ((Same.new hl3 _).trans (Same.new hl2 _)) (by rw [upd_same, List.map_reverse]) (by rw [List.length_reverse, hl]; omega)
  · exact ⟨_, rfl, k _ l xs (Same.new hl3 _) upd_same (by rw [hl]; omega)⟩
local macro_rules | `(tactic| walk_at "rds") => `(tactic| ((show (0 : Int) < _); (simp only [p30, p60]); decide))
theorem ok__law_number (T : Tx P w K mg a) : FnOk P w K mg base CX0 1 a._law_number a.fd__law_number ["_law_cell", "_law_way"] sp__law_number := by
  refine T.F__law_number.ok sc__law_number (fun vs H Q E h => ?_) (fun cdv A outer s H vs Q E hr h => ?_)
  · obtain ⟨_, _, rfl, _⟩ := h
    rfl
  obtain ⟨c, k, rfl, hk, q⟩ := h
  refine ⟨_, (pss_cons (ps_set (i := 2) sc__law_number.nd rfl (Or.inl rfl) (pe_op qi_mod (pq 0) (pe_op oi_pow pe_int pe_int)))
      (pss_cons (ps_if (pt_cmpQ qo_eq (pe_op qi_mod (pq 1) pe_int) pe_int (nomark _)) (pss_one (ps_ret (pe_op qi_mod (pq 2) pe_int))) pss_nil)
      (pss_cons (ps_if (pt_cmpQ qo_eq (pe_op qi_mod (pq 1) pe_int) pe_int (nomark _)) (pss_one (ps_ret (pe_op qi_sub (pe_op qi_sub (pe_op oi_pow pe_int pe_int) pe_int) (pe_op qi_mod (pq 2) pe_int)))) pss_nil)
      (pss_cons (ps_if (pt_cmpQ qo_eq (pe_op qi_mod (pq 1) pe_int) pe_int (nomark _)) (pss_one (ps_ret (pe_op qi_mod (pq 2) (pe_op oi_pow pe_int pe_int)))) pss_nil)
      (pss_one (ps_ret (pe_op qi_mod (pe_op oi_mul (pe_op oi_mul (pe_op qi_add (pq 2) pe_int) (pe_op qi_add (pe_op oi_mul (pq 1) (pq 1)) pe_int)) pe_int) (pe_op oi_pow pe_int pe_int)))))))), ?_⟩
  walk_at "rd"
  have m0 := Int.emod_nonneg c (show (10 : Int) ^ (60 : Int).toNat ≠ 0 by rw [p60]; decide)
  have m1 := Int.emod_lt_of_pos c (show (0 : Int) < (10 : Int) ^ (60 : Int).toNat by rw [p60]; decide)
  generalize c % (10 : Int) ^ (60 : Int).toNat = m at m0 m1 ⊢
  rw [p60] at m1
  refine ite2 (fun _ => ?_) (fun _ => ?_)
  · walk_at "rd"
    exact q _ ⟨by omega, by omega⟩
  walk_at "rd"
  refine ite2 (fun _ => ?_) (fun _ => ?_)
  · walk_at "rd"
    rw [p30]
    exact q _ ⟨by omega, by omega⟩
  walk_at "rd"
  refine ite2 (fun _ => ?_) (fun _ => ?_)
  · walk_at "rd"
    rw [p30]
    exact q _ ⟨by omega, by omega⟩
  walk_at "rd"
  refine ⟨IntMulOk.of_right (intBits_le_64 (by omega) (by omega)), ?_⟩
  have k2 : 0 ≤ k * k := Int.mul_nonneg hk.1 hk.1
  have k3 : k * k ≤ 2147483647 * 2147483647 := Int.mul_le_mul hk.2 hk.2 hk.1 (by decide)
  generalize k * k = y at k2 k3
  walk_at "rd"
  have b1 : Builtin.Int.intBits (m + 1) ≤ 2 ^ 20 := Nat.le_trans ((PySem.intBits_le_iff (m := 250)).mpr (by omega)) (by decide)
  have b2 : Builtin.Int.intBits (y + 11) ≤ 2 ^ 20 := Nat.le_trans ((PySem.intBits_le_iff (m := 250)).mpr (by omega)) (by decide)
  refine ⟨IntMulOk.of_bits b1 b2, ?_⟩
  have y2 : 0 ≤ (m + 1) * (y + 11) := Int.mul_nonneg (by omega) (by omega)
  have y3 : (m + 1) * (y + 11) ≤ 1000000000000000000000000000000000000000000000000000000000000 * 5000000000000000000 := Int.mul_le_mul (by omega) (by omega) (by omega) (by decide)
  generalize (m + 1) * (y + 11) = z at y2 y3 ⊢
  walk_at "rd"
  refine ⟨IntMulOk.of_bits (Nat.le_trans ((PySem.intBits_le_iff (m := 400)).mpr (by omega)) (by decide)) (by decide +kernel), ?_⟩
  walk_at "rd"
  rw [p30]
  exact q _ ⟨Int.emod_nonneg _ (by decide), Int.emod_lt_of_pos _ (by decide)⟩
theorem ok__law_side (T : Tx P w K mg a) : FnOk P w K mg base CX0 2 a._law_side a.fd__law_side ["_law_way", "_law_width", "_law_cell"] sp__law_side := by
  refine T.F__law_side.ok sc__law_side (fun vs H Q E h => ?_) (fun cdv A outer s H vs Q E hr h => ?_)
  · obtain ⟨_, _, _, rfl, _⟩ := h
    rfl
  obtain ⟨i, j, c, rfl, hi, hj, k⟩ := h
  refine ⟨_, (pss_cons (ps_if (pt_cmpQ qo_eq (pe_op qi_mod (pq 0) pe_int) pe_int (nomark _)) (pss_one (ps_ret (pe_tupQ (pa_cons pe_str (pa_cons (pe_call (ok__law_number T) (hr.mono (by decide)) rfl T.m__law_number T.F__law_number.kp T.b__law_number .nil pass0 (pa_cons (pq 2) (pa_cons (pe_op qi_fdiv (pq 0) pe_int) pa_nil))) pa_nil))))) pss_nil)
      (pss_one (ps_ret (pe_tupQ (pa_cons pe_str (pa_cons (pe_op qi_mod (pe_op qi_fdiv (pq 0) pe_int) (pq 1)) pa_nil)))))), ?_⟩
  refine ⟨_, rfl, _, _, rfl, rfl, by decide, rfl, _, rfl, ?_⟩
  refine ite2 (fun _ => ?_) (fun _ => ?_)
  · refine ⟨_, rfl, _, rfl, _, _, rfl, rfl, ⟨by decide, by decide⟩, _, _, rfl, ⟨by omega, by omega⟩, fun m hm => ⟨ln2, fun p hp => k _ _ (.num m) (Same.new hp _) (.num upd_same) hm⟩⟩
  · exact ⟨_, rfl, _, _, rfl, rfl, ⟨by decide, by decide⟩, _, rfl, _, _, rfl, rfl, hj, ln2, fun p hp => k _ _ (.thing (i / 3 % j)) (Same.new hp _) (.thing upd_same) ⟨Int.emod_nonneg _ (by omega), by have := Int.emod_lt_of_pos (i / 3) hj; omega⟩⟩
theorem cut_ints (xs : List Int) (lo hi : Option Int) : ∃ ys : List Int, cutV (xs.map V.int) lo hi = ys.map V.int ∧ (∀ y ∈ ys, y ∈ xs) ∧ ys.length ≤ xs.length := by
  unfold cutV
  rw [← List.map_drop, ← List.map_take]
  refine ⟨_, rfl, fun y hy => List.mem_of_mem_drop (List.mem_of_mem_take hy), ?_⟩
  rw [List.length_take, List.length_drop]
  omega
theorem cut_front (xs : List Int) {n : Int} (h0 : 0 ≤ n) (h1 : n ≤ xs.length) : cutV (xs.map V.int) none (some n) = (xs.take n.toNat).map V.int := by
  unfold cutV
  have e1 : HT.sIx (xs.map V.int).length 0 none = 0 := rfl
  have e2 : HT.sIx (xs.map V.int).length (xs.map V.int).length (some n) = n.toNat := by
    have := HT.sIx_nat (xs.map V.int).length (xs.map V.int).length n.toNat
    rw [Int.toNat_of_nonneg h0] at this
    rw [this, List.length_map]
    omega
  rw [e1, e2, List.drop_zero, Nat.sub_zero, List.map_take]
theorem cut_mid (xs : List Int) {n m : Int} (h0 : 0 ≤ n) (h1 : n ≤ m) (h2 : m ≤ xs.length) : ∃ ys : List Int, cutV (xs.map V.int) (some n) (some m) = ys.map V.int ∧ (ys.length : Int) = m - n := by
  unfold cutV
  have e1 : HT.sIx (xs.map V.int).length 0 (some n) = n.toNat := by
    have := HT.sIx_nat (xs.map V.int).length 0 n.toNat
    rw [Int.toNat_of_nonneg h0] at this
    rw [this, List.length_map]
    omega
  have e2 : HT.sIx (xs.map V.int).length (xs.map V.int).length (some m) = m.toNat := by
    have := HT.sIx_nat (xs.map V.int).length (xs.map V.int).length m.toNat
    rw [Int.toNat_of_nonneg (by omega)] at this
    rw [this, List.length_map]
    omega
  rw [e1, e2, ← List.map_drop, ← List.map_take]
  refine ⟨_, rfl, ?_⟩
  rw [List.length_take, List.length_drop]
  omega
theorem cut_back (xs : List Int) {n : Int} (h0 : 0 ≤ n) (h2 : n ≤ xs.length) : ∃ ys : List Int, cutV (xs.map V.int) (some n) none = ys.map V.int ∧ (ys.length : Int) = xs.length - n := by
  unfold cutV
  have e1 : HT.sIx (xs.map V.int).length 0 (some n) = n.toNat := by
    have := HT.sIx_nat (xs.map V.int).length 0 n.toNat
    rw [Int.toNat_of_nonneg h0] at this
    rw [this, List.length_map]
    omega
  have e2 : HT.sIx (xs.map V.int).length (xs.map V.int).length none = (xs.map V.int).length := rfl
  rw [e1, e2, ← List.map_drop, List.length_map, ← List.map_take]
  refine ⟨_, rfl, ?_⟩
  rw [List.length_take, List.length_drop]
  omega
theorem ok__law_row (T : Tx P w K mg a) : FnOk P w K mg base CX0 3 a._law_row a.fd__law_row ["_law_cell", "_law_k", "_law_span"] sp__law_row := by
  refine T.F__law_row.ok sc__law_row (fun vs H Q E h => ?_) (fun cdv A outer s H vs Q E hr h => ?_)
  · obtain ⟨_, _, rfl, _⟩ := h
    rfl
  obtain ⟨c, k, rfl, hk, q⟩ := h
  refine ⟨_, (pss_cons (ps_set (i := 3) sc__law_row.nd rfl (Or.inl rfl) (pe_call (ok__law_mixed T) (hr.mono (by decide)) rfl T.m__law_mixed T.F__law_mixed.kp T.b__law_mixed .nil pass0 (pa_cons (pq 0) (pa_cons (pq 1) pa_nil))))
      (pss_cons (ps_set (i := 4) sc__law_row.nd rfl (Or.inl rfl) (pe_call (ok__law_mixed T) (hr.mono (by decide)) rfl T.m__law_mixed T.F__law_mixed.kp T.b__law_mixed .nil pass0 (pa_cons (pq 0) (pa_cons (pe_op qi_add (pq 1) pe_int) pa_nil))))
      (pss_cons (ps_set (i := 5) sc__law_row.nd rfl (Or.inr rfl) (pe_op qi_add pe_int (pe_op qi_mod (pe_op qi_fdiv (pq 3) pe_int) pe_int)))
      (pss_cons (ps_if (pt_cmpQ qo_eq (pe_op qi_mod (pq 3) pe_int) pe_int (nomark _)) (pss_cons (ps_set (i := 6) sc__law_row.nd rfl (Or.inl rfl) (pe_op qi_mod (pe_op qi_fdiv (pq 3) pe_int) pe_int))
      (pss_cons (ps_set (i := 7) sc__law_row.nd rfl (Or.inl rfl) (pe_call (ok__law_lines T) (hr.mono (by decide)) rfl T.m__law_lines T.F__law_lines.kp T.b__law_lines .nil pass0 (pa_cons (pq 4) (pa_cons (pe_op qi_add (pq 5) (pq 6)) (pa_cons (pq 2) pa_nil)))))
      (pss_cons (ps_set (i := 8) sc__law_row.nd rfl (Or.inl rfl) (pe_callTy call_tuple_of rfl T.z_tuple PyProof.Rows.Boot.«tuple» (pa_cons (pe_comp (k := 1) (Nc := ["_law_j", "_law_w", "_law_cell", "_law_k"]) (js := [5, 0, 1]) (show CompSc (defScope s__law_row) ["_law_cell", "_law_k", "_law_span", "_law_m", "_law_n", "_law_w", "_law_outs", "_law_at", "_law_route", "_law_left", "_law_right"] _ 1 ["_law_j", "_law_w", "_law_cell", "_law_k"] [5, 0, 1] from CompSc.mk rfl (by decide +kernel) (by decide +kernel) (by decide +kernel) rfl (by decide +kernel)) rfl (pj_range1 rfl T.z_range (pa_cons (pq 6) pa_nil)) (fun _ _ _ _ _ => (pg_name (i := 0) (show List.Nodup (["_law_j", "_law_w", "_law_cell", "_law_k"] : List Str) from by decide +kernel) rfl (Or.inl rfl))) (fun _ _ _ _ _ => pts_nil) (fun _ _ _ _ _ => (pe_op qi_mod (pe_call (ok__law_mixed T) (hr.mono (by decide)) rfl T.m__law_mixed T.F__law_mixed.kp T.b__law_mixed .nil pass0 (pa_cons (pq 2) (pa_cons (pe_op qi_add (pe_op qi_add (pq 3) pe_int) (pq 0)) pa_nil))) (pq 1)))) pa_nil)))
      (pss_one (ps_ret (pe_tupQ (pa_cons pe_str (pa_cons (pe_callTy call_tuple_of rfl T.z_tuple PyProof.Rows.Boot.«tuple» (pa_cons (pe_slice sl_list (pq 7) po_none (po_some (pq 5))) pa_nil)) (pa_cons (pe_callTy call_tuple_of rfl T.z_tuple PyProof.Rows.Boot.«tuple» (pa_cons (pe_slice sl_list (pq 7) (po_some (pq 5)) po_none) pa_nil)) (pa_cons (pq 8) pa_nil)))))))))) pss_nil)
      (pss_cons (ps_if (pt_cmpQ qo_eq (pe_op qi_mod (pq 3) pe_int) pe_int (nomark _)) (pss_cons (ps_set (i := 7) sc__law_row.nd rfl (Or.inl rfl) (pe_call (ok__law_lines T) (hr.mono (by decide)) rfl T.m__law_lines T.F__law_lines.kp T.b__law_lines .nil pass0 (pa_cons (pq 4) (pa_cons (pe_op qi_add (pq 5) pe_int) (pa_cons (pq 2) pa_nil)))))
      (pss_cons (ps_set (i := 9) sc__law_row.nd rfl (Or.inl rfl) (pe_call (ok__law_side T) (hr.mono (by decide)) rfl T.m__law_side T.F__law_side.kp T.b__law_side .nil pass0 (pa_cons (pe_op qi_mod (pe_op qi_fdiv (pq 3) pe_int) pe_int) (pa_cons (pq 5) (pa_cons (pq 0) pa_nil)))))
      (pss_cons (ps_set (i := 10) sc__law_row.nd rfl (Or.inl rfl) (pe_call (ok__law_side T) (hr.mono (by decide)) rfl T.m__law_side T.F__law_side.kp T.b__law_side .nil pass0 (pa_cons (pe_op qi_mod (pe_op qi_fdiv (pq 3) pe_int) pe_int) (pa_cons (pq 5) (pa_cons (pq 0) pa_nil)))))
      (pss_one (ps_ret (pe_tupQ (pa_cons pe_str (pa_cons (pe_callTy call_tuple_of rfl T.z_tuple PyProof.Rows.Boot.«tuple» (pa_cons (pe_slice sl_list (pq 7) po_none (po_some (pq 5))) pa_nil)) (pa_cons (pe_ix qx_list (pq 7) (pq 5) (fun _ _ => rfl)) (pa_cons (pe_ix ix_str pe_str (pe_op qi_mod (pq 4) pe_int) (fun _ _ => rfl)) (pa_cons (pq 9) (pa_cons (pq 10) pa_nil)))))))))))) pss_nil)
      (pss_cons (ps_set (i := 7) sc__law_row.nd rfl (Or.inl rfl) (pe_call (ok__law_lines T) (hr.mono (by decide)) rfl T.m__law_lines T.F__law_lines.kp T.b__law_lines .nil pass0 (pa_cons (pq 4) (pa_cons (pe_op qi_add (pe_op oi_mul pe_int (pq 5)) pe_int) (pa_cons (pq 2) pa_nil)))))
      (pss_cons (ps_if (pt_cmpQ qo_eq (pe_op qi_mod (pq 3) pe_int) pe_int (nomark _)) (pss_one (ps_ret (pe_tupQ (pa_cons pe_str (pa_cons (pe_callTy call_tuple_of rfl T.z_tuple PyProof.Rows.Boot.«tuple» (pa_cons (pe_slice sl_list (pq 7) po_none (po_some (pq 5))) pa_nil)) (pa_cons (pe_op qi_mod (pe_op qi_fdiv (pq 3) pe_int) (pq 5)) (pa_cons (pe_callTy call_tuple_of rfl T.z_tuple PyProof.Rows.Boot.«tuple» (pa_cons (pe_slice sl_list (pq 7) (po_some (pq 5)) (po_some (pe_op oi_mul pe_int (pq 5)))) pa_nil)) (pa_cons (pe_callTy call_tuple_of rfl T.z_tuple PyProof.Rows.Boot.«tuple» (pa_cons (pe_slice sl_list (pq 7) (po_some (pe_op oi_mul pe_int (pq 5))) (po_some (pe_op oi_mul pe_int (pq 5)))) pa_nil)) (pa_cons (pe_ix qx_list (pq 7) (pe_op oi_mul pe_int (pq 5)) (fun _ _ => rfl)) pa_nil))))))))) pss_nil)
      (pss_one (ps_ret (pe_tupQ (pa_cons pe_str (pa_cons (pe_ix qx_list (pq 7) (pe_op oi_mul pe_int (pq 5)) (fun _ _ => rfl)) (pa_cons (pe_callTy call_tuple_of rfl T.z_tuple PyProof.Rows.Boot.«tuple» (pa_cons (pe_slice sl_list (pq 7) po_none (po_some (pq 5))) pa_nil)) (pa_cons (pe_callTy call_tuple_of rfl T.z_tuple PyProof.Rows.Boot.«tuple» (pa_cons (pe_slice sl_list (pq 7) (po_some (pq 5)) (po_some (pe_op oi_mul pe_int (pq 5)))) pa_nil)) (pa_cons (pe_callTy call_tuple_of rfl T.z_tuple PyProof.Rows.Boot.«tuple» (pa_cons (pe_slice sl_list (pq 7) (po_some (pe_op oi_mul pe_int (pq 5))) (po_some (pe_op oi_mul pe_int (pq 5)))) pa_nil)) pa_nil))))))))))))))), ?_⟩
  refine ⟨_, rfl, _, rfl, _, _, rfl, ⟨by omega, by omega⟩, fun m m0 m1 => ?_⟩
  refine ⟨_, rfl, _, rfl, _, _, rfl, rfl, _, _, rfl, ⟨by omega, by omega⟩, fun n n0 n1 => ?_⟩
  refine ⟨_, rfl, _, _, rfl, rfl, ⟨by decide, by decide⟩, _, _, rfl, rfl, by decide, _, _, rfl, rfl, ?_⟩
  have w0 : 1 ≤ 1 + m / 4 % 5 ∧ 1 + m / 4 % 5 ≤ 5 := by omega
  generalize 1 + m / 4 % 5 = wd at w0 ⊢
  have wb : Builtin.Int.intBits wd ≤ 64 := intBits_le_64 (by omega) (by omega)
  have tk : ∀ xs : List Int, wd ≤ xs.length → (xs.take wd.toNat).length = wd.toNat := fun xs hl => by rw [List.length_take]; omega
  refine ⟨_, rfl, _, _, rfl, rfl, by decide, rfl, _, rfl, ?_⟩
  refine ite2 (fun _ => ?_) (fun _ => ?_)
  · refine ⟨_, rfl, _, _, rfl, rfl, ⟨by decide, by decide⟩, _, _, rfl, rfl, by decide, ?_⟩
    have o0 : 0 ≤ m / 20 % 6 ∧ m / 20 % 6 < 6 := by omega
    generalize m / 20 % 6 = os at o0 ⊢
    refine ⟨_, rfl, _, rfl, _, rfl, _, _, rfl, rfl, _, rfl, _, _, rfl, ⟨n0, n1⟩, ⟨by omega, by omega⟩, fun H1 l xs s1 h1 xl => ?_⟩
    refine ⟨_, rfl, _, rfl, by omega, by omega, ?_⟩
    refine comp_range0 (fun i ys σ H3 => (∃ v, σ = [v, some (.int wd), some (.int c), some (.int k)]) ∧ H3 = H1 ∧ ∃ rs : List Int, ys = rs.map V.int ∧ rs.length = i ∧ ∀ r ∈ rs, 0 ≤ r ∧ r < wd) ⟨⟨none, rfl⟩, rfl, [], rfl, rfl, by simp⟩ ?_ (len_le_line (m := 100) (by omega)) ?_ ?_
    · rintro i ys σ H3 _ ⟨_, _, rs, rfl, h, _⟩
      rw [List.length_map]
      exact Nat.le_of_eq h
    · rintro i ys σ H3 hi ⟨⟨v, rfl⟩, rfl, rs, rfl, hl, hrs⟩
      refine ⟨_, rfl, _, rfl, _, _, rfl, rfl, _, rfl, _, _, rfl, rfl, _, _, rfl, ⟨by omega, by omega⟩, fun mm _ _ => ⟨_, rfl, _, _, rfl, rfl, by omega, ⟨_, rfl⟩, rfl, rs ++ [mm % wd], by rw [List.map_append]; rfl, by rw [List.length_append, hl]; rfl, fun r hr => ?_⟩⟩
      rcases List.mem_append.mp hr with hr | hr
      · exact hrs r hr
      · rw [List.mem_singleton.mp hr]
        exact ⟨Int.emod_nonneg _ (by omega), Int.emod_lt_of_pos _ (by omega)⟩
    rintro ys σ3 H3 ⟨_, rfl, rs, rfl, hl, hrs⟩ lr hlr
    refine ⟨lr, _, rfl, .inl ⟨SqL.of upd_same, fun tr htr => ?_⟩⟩
    have s2 := (Same.new hlr (.lst (rs.map V.int))).trans (Same.new htr (.tup (rs.map V.int)))
    have htr2 : (upd (upd H3 lr (.lst (rs.map V.int))) tr (.tup (rs.map V.int))) tr = some (.tup (rs.map V.int)) := upd_same
    refine ⟨_, rfl, _, rfl, _, rfl, l, _, rfl, SqL.of (s2 _ _ h1), fun c1 hc1 => ?_⟩
    rw [cut_front xs (by omega) (by omega)]
    refine ⟨c1, _, rfl, .inl ⟨SqL.of upd_same, fun t1 ht1 => ?_⟩⟩
    have s3 := (Same.new hc1 (.lst ((xs.take wd.toNat).map V.int))).trans (Same.new ht1 (.tup ((xs.take wd.toNat).map V.int)))
    obtain ⟨os', eo, ol⟩ := cut_back xs (n := wd) (by omega) (by omega)
    refine ⟨_, rfl, _, rfl, _, rfl, l, _, rfl, SqL.of (s3 _ _ (s2 _ _ h1)), fun c2 hc2 => ?_⟩
    rw [eo]
    refine ⟨c2, _, rfl, .inl ⟨SqL.of upd_same, fun t2 ht2 => ?_⟩⟩
    have s4 := (Same.new hc2 (.lst (os'.map V.int))).trans (Same.new ht2 (.tup (os'.map V.int)))
    refine ⟨_, rfl, ln4, fun p hp => ?_⟩
    have s5 := Same.new hp (.tup [.str "pass", .ref t1, .ref t2, .ref tr])
    refine q _ _ (.pass (xs.take wd.toNat) os' rs) ((s1.trans s2).trans ((s3.trans s4).trans s5)) (.pass upd_same (s5 _ _ (s4 _ _ upd_same)) (s5 _ _ upd_same) (s5 _ _ (s4 _ _ (s3 _ _ htr2)))) ⟨by omega, by omega, by rw [tk xs (by omega)]; omega, fun r hr => ?_⟩
    have := hrs r hr
    rw [tk xs (by omega)]
    omega
  refine ⟨_, rfl, _, _, rfl, rfl, by decide, rfl, _, rfl, ?_⟩
  refine ite2 (fun _ => ?_) (fun _ => ?_)
  · refine ⟨_, rfl, _, rfl, _, _, rfl, rfl, _, rfl, _, _, rfl, ⟨n0, n1⟩, ⟨by omega, by omega⟩, fun H1 l xs s1 h1 xl => ?_⟩
    refine ⟨_, rfl, _, _, rfl, rfl, ⟨by decide, by decide⟩, _, _, rfl, rfl, by decide, _, rfl, _, rfl, _, _, _, rfl, ⟨by omega, by omega⟩, by omega, fun H2 v2 sd2 s2 r2 k2 => ?_⟩
    refine ⟨_, rfl, _, _, rfl, rfl, ⟨by decide, by decide⟩, _, _, rfl, rfl, by decide, _, rfl, _, rfl, _, _, _, rfl, ⟨by omega, by omega⟩, by omega, fun H3 v3 sd3 s3 r3 k3 => ?_⟩
    have s13 := s2.trans s3
    refine ⟨_, rfl, _, rfl, _, rfl, l, _, rfl, SqL.of (s13 _ _ h1), fun c1 hc1 => ?_⟩
    rw [cut_front xs (by omega) (by omega)]
    refine ⟨c1, _, rfl, .inl ⟨SqL.of upd_same, fun t1 ht1 => ?_⟩⟩
    have s4 := (Same.new hc1 (.lst ((xs.take wd.toNat).map V.int))).trans (Same.new ht1 (.tup ((xs.take wd.toNat).map V.int)))
    have lt : wd.toNat < xs.length := by omega
    have ew : atI (xs.map V.int) wd = some (.int xs[wd.toNat]) := atI_pos (by omega) (by rw [List.getElem?_map, List.getElem?_eq_getElem lt]; rfl)
    refine ⟨_, rfl, _, rfl, l, _, _, _, rfl, rfl, SqL.of (s4 _ _ (s13 _ _ h1)), ew, ?_⟩
    refine ⟨_, rfl, _, _, rfl, rfl, by decide, _, _, _, rfl, rfl, by decide, sign_at n, ?_⟩
    refine ⟨_, rfl, _, rfl, ln6, fun p hp => ?_⟩
    have s5 := Same.new hp (.tup [.str "work", .ref t1, .int xs[wd.toNat], .str ⟨#[("+-*/<=&|^" : Str).cps.toList.getD (n % 9).toNat 0]⟩, v2, v3])
    refine q _ _ (.work (xs.take wd.toNat) xs[wd.toNat] _ sd2 sd3) ((s1.trans s13).trans (s4.trans s5)) (.work upd_same (s5 _ _ upd_same) (((r2.same s3).same s4).same s5) ((r3.same s4).same s5)) ?_
    rw [PR.ok, tk xs (by omega)]
    exact ⟨by omega, k2, k3⟩
  refine ⟨_, rfl, _, rfl, _, _, rfl, rfl, IntMulOk.of_right wb, _, _, rfl, rfl, _, rfl, _, _, rfl, ⟨n0, n1⟩, ⟨by omega, by omega⟩, fun H1 l xs s1 h1 xl => ?_⟩
  have lt3 : (3 * wd).toNat < xs.length := by omega
  have e3 : atI (xs.map V.int) (3 * wd) = some (.int xs[(3 * wd).toNat]) := atI_pos (by omega) (by rw [List.getElem?_map, List.getElem?_eq_getElem lt3]; rfl)
  obtain ⟨ys2, ey2, yl2⟩ := cut_mid xs (n := wd) (m := 2 * wd) (by omega) (by omega) (by omega)
  obtain ⟨ys3, ey3, yl3⟩ := cut_mid xs (n := 2 * wd) (m := 3 * wd) (by omega) (by omega) (by omega)
  refine ⟨_, rfl, _, _, rfl, rfl, by decide, rfl, _, rfl, ?_⟩
  refine ite2 (fun _ => ?_) (fun _ => ?_)
  · refine ⟨_, rfl, _, rfl, _, rfl, l, _, rfl, SqL.of h1, fun c1 hc1 => ?_⟩
    rw [cut_front xs (by omega) (by omega)]
    refine ⟨c1, _, rfl, .inl ⟨SqL.of upd_same, fun t1 ht1 => ?_⟩⟩
    have s2 := (Same.new hc1 (.lst ((xs.take wd.toNat).map V.int))).trans (Same.new ht1 (.tup ((xs.take wd.toNat).map V.int)))
    refine ⟨_, rfl, _, _, rfl, rfl, ⟨by decide, by decide⟩, _, rfl, _, _, rfl, rfl, by omega, ?_⟩
    refine ⟨_, rfl, _, rfl, _, rfl, _, rfl, _, _, rfl, rfl, IntMulOk.of_right wb, _, rfl, l, _, rfl, SqL.of (s2 _ _ h1), fun c2 hc2 => ?_⟩
    rw [ey2]
    refine ⟨c2, _, rfl, .inl ⟨SqL.of upd_same, fun t2 ht2 => ?_⟩⟩
    have s3 := (Same.new hc2 (.lst (ys2.map V.int))).trans (Same.new ht2 (.tup (ys2.map V.int)))
    refine ⟨_, rfl, _, rfl, _, _, rfl, rfl, IntMulOk.of_right wb, _, rfl, _, rfl, _, _, rfl, rfl, IntMulOk.of_right wb, _, rfl, l, _, rfl, SqL.of (s3 _ _ (s2 _ _ h1)), fun c3 hc3 => ?_⟩
    rw [ey3]
    refine ⟨c3, _, rfl, .inl ⟨SqL.of upd_same, fun t3 ht3 => ?_⟩⟩
    have s4 := (Same.new hc3 (.lst (ys3.map V.int))).trans (Same.new ht3 (.tup (ys3.map V.int)))
    refine ⟨_, rfl, _, rfl, _, _, rfl, rfl, IntMulOk.of_right wb, l, _, _, _, rfl, rfl, SqL.of (s4 _ _ (s3 _ _ (s2 _ _ h1))), e3, ln6, fun p hp => ?_⟩
    have s5 := Same.new hp (.tup [.str "choose", .ref t1, .int (m / 20 % wd), .ref t2, .ref t3, .int xs[(3 * wd).toNat]])
    refine q _ _ (.choose (xs.take wd.toNat) (m / 20 % wd) ys2 ys3 xs[(3 * wd).toNat]) (s1.trans (s2.trans (s3.trans (s4.trans s5)))) (.choose upd_same (s5 _ _ (s4 _ _ (s3 _ _ upd_same))) (s5 _ _ (s4 _ _ upd_same)) (s5 _ _ upd_same)) ?_
    rw [PR.ok, tk xs (by omega)]
    have := Int.emod_lt_of_pos (m / 20) (show 0 < wd by omega)
    exact ⟨Int.emod_nonneg _ (by omega), by omega, by omega, by omega, by omega⟩
  refine ⟨_, rfl, _, rfl, _, _, rfl, rfl, IntMulOk.of_right wb, l, _, _, _, rfl, rfl, SqL.of h1, e3, ?_⟩
  refine ⟨_, rfl, _, rfl, _, rfl, l, _, rfl, SqL.of h1, fun c1 hc1 => ?_⟩
  rw [cut_front xs (by omega) (by omega)]
  refine ⟨c1, _, rfl, .inl ⟨SqL.of upd_same, fun t1 ht1 => ?_⟩⟩
  have s2 := (Same.new hc1 (.lst ((xs.take wd.toNat).map V.int))).trans (Same.new ht1 (.tup ((xs.take wd.toNat).map V.int)))
  refine ⟨_, rfl, _, rfl, _, rfl, _, rfl, _, _, rfl, rfl, IntMulOk.of_right wb, _, rfl, l, _, rfl, SqL.of (s2 _ _ h1), fun c2 hc2 => ?_⟩
  rw [ey2]
  refine ⟨c2, _, rfl, .inl ⟨SqL.of upd_same, fun t2 ht2 => ?_⟩⟩
  have s3 := (Same.new hc2 (.lst (ys2.map V.int))).trans (Same.new ht2 (.tup (ys2.map V.int)))
  refine ⟨_, rfl, _, rfl, _, _, rfl, rfl, IntMulOk.of_right wb, _, rfl, _, rfl, _, _, rfl, rfl, IntMulOk.of_right wb, _, rfl, l, _, rfl, SqL.of (s3 _ _ (s2 _ _ h1)), fun c3 hc3 => ?_⟩
  rw [ey3]
  refine ⟨c3, _, rfl, .inl ⟨SqL.of upd_same, fun t3 ht3 => ?_⟩⟩
  have s4 := (Same.new hc3 (.lst (ys3.map V.int))).trans (Same.new ht3 (.tup (ys3.map V.int)))
  refine ⟨ln5, fun p hp => ?_⟩
  have s5 := Same.new hp (.tup [.str "merge", .int xs[(3 * wd).toNat], .ref t1, .ref t2, .ref t3])
  refine q _ _ (.merge xs[(3 * wd).toNat] (xs.take wd.toNat) ys2 ys3) (s1.trans (s2.trans (s3.trans (s4.trans s5)))) (.merge upd_same (s5 _ _ (s4 _ _ (s3 _ _ upd_same))) (s5 _ _ (s4 _ _ upd_same)) (s5 _ _ upd_same)) ?_
  rw [PR.ok]
  omega
theorem ok__law_alike (T : Tx P w K mg a) : ∀ n : Nat, FnOk P w K mg base CX0 (n + 3) a._law_alike a.fd__law_alike ["_law_found", "_law_due"] (sp__law_alike n) := by
  intro n
  induction n with
  | zero =>
    refine T.F__law_alike.ok sc__law_alike (fun vs H Q E h => ?_) (fun cdv A outer s H vs Q E hr h => ?_)
    · obtain ⟨_, _, _, rfl, _⟩ := h
      rfl
    obtain ⟨x, y, m, rfl, hm, _⟩ := h
    exact absurd hm (Nat.not_lt_zero _)
  | succ n ih =>
    refine T.F__law_alike.ok sc__law_alike (fun vs H Q E h => ?_) (fun cdv A outer s H vs Q E hr h => ?_)
    · obtain ⟨_, _, _, rfl, _⟩ := h
      rfl
    obtain ⟨x, y, m, rfl, hm, al, k⟩ := h
    refine ⟨_, (pss_cons (ps_if (pt_cmpQ qo_isN (pq 1) pe_non (nomark _)) (pss_one (ps_ret (pe_cmpR qo_isN (pq 0) pe_non (nomark _)))) pss_nil)
      (pss_cons (ps_if (pt_valQ (pe_callB qc_isT rfl T.z_isinstance PyProof.Rows.Boot.«isinstance» (pa_cons (pq 1) (pa_cons (pe_bltn (v := .ty "bool") rfl T.z_bool PyProof.Rows.Boot.«bool» rfl) pa_nil)))) (pss_one (ps_ret (pe_and (pe_callB qc_isT rfl T.z_isinstance PyProof.Rows.Boot.«isinstance» (pa_cons (pq 0) (pa_cons (pe_bltn (v := .ty "bool") rfl T.z_bool PyProof.Rows.Boot.«bool» rfl) pa_nil))) (pe_one (pe_cmpR qo_eq (pq 0) (pq 1) (nomark _)))))) pss_nil)
      (pss_cons (ps_if (pt_valQ (pe_callB qc_isT rfl T.z_isinstance PyProof.Rows.Boot.«isinstance» (pa_cons (pq 1) (pa_cons (pe_bltn (v := .ty "int") rfl T.z_int PyProof.Rows.Boot.«int» rfl) pa_nil)))) (pss_one (ps_ret (pe_and (pe_callB qc_isT rfl T.z_isinstance PyProof.Rows.Boot.«isinstance» (pa_cons (pq 0) (pa_cons (pe_bltn (v := .ty "int") rfl T.z_int PyProof.Rows.Boot.«int» rfl) pa_nil))) (pe_and (pe_not (pe_callB qc_isT rfl T.z_isinstance PyProof.Rows.Boot.«isinstance» (pa_cons (pq 0) (pa_cons (pe_bltn (v := .ty "bool") rfl T.z_bool PyProof.Rows.Boot.«bool» rfl) pa_nil)))) (pe_one (pe_cmpR qo_eq (pq 0) (pq 1) (nomark _))))))) pss_nil)
      (pss_cons (ps_if (pt_valQ (pe_callB qc_isT rfl T.z_isinstance PyProof.Rows.Boot.«isinstance» (pa_cons (pq 1) (pa_cons (pe_bltn (v := .ty "str") rfl T.z_str PyProof.Rows.Boot.«str» rfl) pa_nil)))) (pss_one (ps_ret (pe_and (pe_callB qc_isT rfl T.z_isinstance PyProof.Rows.Boot.«isinstance» (pa_cons (pq 0) (pa_cons (pe_bltn (v := .ty "str") rfl T.z_str PyProof.Rows.Boot.«str» rfl) pa_nil))) (pe_one (pe_cmpR qo_eq (pq 0) (pq 1) (nomark _)))))) pss_nil)
      (pss_cons (ps_if (PW.pt (pw_and (pt_valQ (pe_callB qc_isT rfl T.z_isinstance PyProof.Rows.Boot.«isinstance» (pa_cons (pq 1) (pa_cons (pe_bltn (v := .ty "tuple") rfl T.z_tuple PyProof.Rows.Boot.«tuple» rfl) pa_nil)))) (pw_and1 (pt_not (pt_valQ (pe_callB qc_isT rfl T.z_isinstance PyProof.Rows.Boot.«isinstance» (pa_cons (pq 0) (pa_cons (pe_bltn (v := .ty "tuple") rfl T.z_tuple PyProof.Rows.Boot.«tuple» rfl) pa_nil)))))))) (pss_one (ps_ret pe_bl)) pss_nil)
      (pss_cons (ps_if (PW.pt (pw_and (pt_valQ (pe_callB qc_isT rfl T.z_isinstance PyProof.Rows.Boot.«isinstance» (pa_cons (pq 1) (pa_cons (pe_bltn (v := .ty "list") rfl T.z_list PyProof.Rows.Boot.«list» rfl) pa_nil)))) (pw_and1 (pt_not (pt_valQ (pe_callB qc_isT rfl T.z_isinstance PyProof.Rows.Boot.«isinstance» (pa_cons (pq 0) (pa_cons (pe_bltn (v := .ty "list") rfl T.z_list PyProof.Rows.Boot.«list» rfl) pa_nil)))))))) (pss_one (ps_ret pe_bl)) pss_nil)
      (pss_cons (ps_if (pt_cmpQ qo_ne (pe_callB qc_len rfl T.z_len PySem.boot_len (pa_cons (pq 0) pa_nil)) (pe_callB qc_len rfl T.z_len PySem.boot_len (pa_cons (pq 1) pa_nil)) (nomark _)) (pss_one (ps_ret pe_bl)) pss_nil)
      (pss_cons (ps_for PassesOwn.never rfl (pj_range1 rfl T.z_range (pa_cons (pe_callB qc_len rfl T.z_len PySem.boot_len (pa_cons (pq 1) pa_nil)) pa_nil)) (pg_name (i := 2) sc__law_alike.nd rfl (Or.inl rfl))
      (pss_one (ps_if (pt_not (pt_valQ (pe_call ih (hr.mono (by omega)) rfl T.m__law_alike T.F__law_alike.kp T.b__law_alike .nil pass0 (pa_cons (pe_ix ix_any (pq 0) (pq 2) (fun _ _ => rfl)) (pa_cons (pe_ix ix_any (pq 1) (pq 2) (fun _ _ => rfl)) pa_nil))))) (pss_one (ps_ret pe_bl)) pss_nil)))
      (pss_one (ps_ret pe_bl)))))))))), ?_⟩
    cases al with
    | non =>
      refine ⟨_, rfl, rfl, _, rfl, ?_⟩
      walk_at "yes"
      exact ⟨_, rfl, rfl, k⟩
    | bl _ x =>
      refine ⟨_, rfl, rfl, _, rfl, ifNo rfl ?_⟩
      refine ⟨_, rfl, _, _, _, true, rfl, .bl x, rfl, _, rfl, ifYes rfl ?_⟩
      refine ⟨_, rfl, _, _, _, true, rfl, .bl x, rfl, _, rfl, ifYes rfl ?_⟩
      refine ⟨_, rfl, _, rfl, rfl, ?_⟩
      rw [decide_eq_true rfl]
      exact k
    | int _ i =>
      refine ⟨_, rfl, rfl, _, rfl, ifNo rfl ?_⟩
      refine ⟨_, rfl, _, _, _, false, rfl, .int i, rfl, _, rfl, ifNo rfl ?_⟩
      refine ⟨_, rfl, _, _, _, true, rfl, .int i, rfl, _, rfl, ifYes rfl ?_⟩
      refine ⟨_, rfl, _, _, _, true, rfl, .int i, rfl, _, rfl, ifYes rfl ?_⟩
      refine ⟨_, rfl, _, _, _, false, rfl, .int i, rfl, _, rfl, _, rfl, ifYes rfl ?_⟩
      refine ⟨_, rfl, _, rfl, rfl, ?_⟩
      rw [decide_eq_true rfl]
      exact k
    | str _ x =>
      refine ⟨_, rfl, rfl, _, rfl, ifNo rfl ?_⟩
      refine ⟨_, rfl, _, _, _, false, rfl, .str x, rfl, _, rfl, ifNo rfl ?_⟩
      refine ⟨_, rfl, _, _, _, false, rfl, .str x, rfl, _, rfl, ifNo rfl ?_⟩
      refine ⟨_, rfl, _, _, _, true, rfl, .str x, rfl, _, rfl, ifYes rfl ?_⟩
      refine ⟨_, rfl, _, _, _, true, rfl, .str x, rfl, _, rfl, ifYes rfl ?_⟩
      refine ⟨_, rfl, _, rfl, rfl, ?_⟩
      rw [decide_eq_true rfl]
      exact k
    | lst h1 h2 hl hlen hal =>
      rename_i m xa xb xs ys
      refine ⟨_, rfl, rfl, _, rfl, ifNo rfl ?_⟩
      refine ⟨_, rfl, _, _, _, false, rfl, .lst h2, rfl, _, rfl, ifNo rfl ?_⟩
      refine ⟨_, rfl, _, _, _, false, rfl, .lst h2, rfl, _, rfl, ifNo rfl ?_⟩
      refine ⟨_, rfl, _, _, _, false, rfl, .lst h2, rfl, _, rfl, ifNo rfl ?_⟩
      refine ⟨_, rfl, _, _, _, false, rfl, .lst h2, rfl, _, rfl, iteF (ifNo rfl ?_)⟩
      refine ⟨_, rfl, _, _, _, true, rfl, .lst h2, rfl, _, rfl, iteT ?_⟩
      refine ⟨_, rfl, _, _, _, true, rfl, .lst h1, rfl, _, rfl, ifNo rfl ?_⟩
      have xl : (ys.length : Int).toNat = ys.length := by simp
      refine ⟨_, rfl, xa, _, rfl, .inl (SqL.of h1), _, rfl, xb, _, rfl, .inl (SqL.of h2), rfl, _, rfl, ?_⟩
      rw [hl]
      refine iteNS rfl ?_
      refine ⟨_, rfl, xb, _, rfl, .inl (SqL.of h2), _, rfl, by omega, by omega, ?_⟩
      refine for_range (fun i σ H2 => H2 = H ∧ ∃ v, σ = [some (.ref xa), some (.ref xb), v]) ⟨rfl, _, rfl⟩ ?_ ?_
      · rintro i σ H2 hi ⟨rfl, v, rfl⟩
        have li : i < ys.length := by simpa using hi
        have li' : i < xs.length := by omega
        have e1 : atI xs (0 + (i : Int)) = some xs[i] := by rw [Int.zero_add]; exact atI_nat (List.getElem?_eq_getElem li')
        have e2 : atI ys (0 + (i : Int)) = some ys[i] := by rw [Int.zero_add]; exact atI_nat (List.getElem?_eq_getElem li)
        refine ⟨_, rfl, _, rfl, .inl ⟨xa, _, _, _, rfl, rfl, SqL.of h1, e1, ?_⟩⟩
        refine ⟨_, rfl, _, rfl, .inl ⟨xb, _, _, _, rfl, rfl, SqL.of h2, e2, ?_⟩⟩
        refine ⟨_, _, m, rfl, by omega, hal i _ _ (List.getElem?_eq_getElem li') (List.getElem?_eq_getElem li), _, rfl, ?_⟩
        exact ifNo rfl ⟨rfl, _, rfl⟩
      · rintro σ H2 ⟨rfl, v, rfl⟩
        exact k
    | tup h1 h2 hl hlen hal =>
      rename_i m xa xb xs ys
      refine ⟨_, rfl, rfl, _, rfl, ifNo rfl ?_⟩
      refine ⟨_, rfl, _, _, _, false, rfl, .tup h2, rfl, _, rfl, ifNo rfl ?_⟩
      refine ⟨_, rfl, _, _, _, false, rfl, .tup h2, rfl, _, rfl, ifNo rfl ?_⟩
      refine ⟨_, rfl, _, _, _, false, rfl, .tup h2, rfl, _, rfl, ifNo rfl ?_⟩
      refine ⟨_, rfl, _, _, _, true, rfl, .tup h2, rfl, _, rfl, iteT ?_⟩
      refine ⟨_, rfl, _, _, _, true, rfl, .tup h1, rfl, _, rfl, ifNo rfl ?_⟩
      refine ⟨_, rfl, _, _, _, false, rfl, .tup h2, rfl, _, rfl, iteF (ifNo rfl ?_)⟩
      have xl : (ys.length : Int).toNat = ys.length := by simp
      refine ⟨_, rfl, xa, _, rfl, .inr (SqT.of h1), _, rfl, xb, _, rfl, .inr (SqT.of h2), rfl, _, rfl, ?_⟩
      rw [hl]
      refine iteNS rfl ?_
      refine ⟨_, rfl, xb, _, rfl, .inr (SqT.of h2), _, rfl, by omega, by omega, ?_⟩
      refine for_range (fun i σ H2 => H2 = H ∧ ∃ v, σ = [some (.ref xa), some (.ref xb), v]) ⟨rfl, _, rfl⟩ ?_ ?_
      · rintro i σ H2 hi ⟨rfl, v, rfl⟩
        have li : i < ys.length := by simpa using hi
        have li' : i < xs.length := by omega
        have e1 : atI xs (0 + (i : Int)) = some xs[i] := by rw [Int.zero_add]; exact atI_nat (List.getElem?_eq_getElem li')
        have e2 : atI ys (0 + (i : Int)) = some ys[i] := by rw [Int.zero_add]; exact atI_nat (List.getElem?_eq_getElem li)
        refine ⟨_, rfl, _, rfl, .inr ⟨xa, _, _, _, rfl, rfl, SqT.of h1, e1, ?_⟩⟩
        refine ⟨_, rfl, _, rfl, .inr ⟨xb, _, _, _, rfl, rfl, SqT.of h2, e2, ?_⟩⟩
        refine ⟨_, _, m, rfl, by omega, hal i _ _ (List.getElem?_eq_getElem li') (List.getElem?_eq_getElem li), _, rfl, ?_⟩
        exact ifNo rfl ⟨rfl, _, rfl⟩
      · rintro σ H2 ⟨rfl, v, rfl⟩
        exact k
theorem ok__law_sign (T : Tx P w K mg a) : FnOk P w K mg base CX0 1 a._law_sign a.fd__law_sign ["_law_sign_here", "_law_a", "_law_b"] sp__law_sign := by
  refine T.F__law_sign.ok sc__law_sign (fun vs H Q E h => ?_) (fun cdv A outer s H vs Q E hr h => ?_)
  · obtain ⟨_, _, _, rfl, _⟩ := h
    rfl
  obtain ⟨sg, x, y, rfl, hx, hy, k⟩ := h
  refine ⟨_, (pss_cons (ps_if (pt_cmpQ qo_eq (pq 0) pe_str (nomark _)) (pss_one (ps_ret (pe_op qi_mod (pe_op qi_add (pq 1) (pq 2)) (pe_op oi_pow pe_int pe_int)))) pss_nil)
      (pss_cons (ps_if (pt_cmpQ qo_eq (pq 0) pe_str (nomark _)) (pss_one (ps_ret (pe_op qi_mod (pe_op qi_sub (pq 1) (pq 2)) (pe_op oi_pow pe_int pe_int)))) pss_nil)
      (pss_cons (ps_if (pt_cmpQ qo_eq (pq 0) pe_str (nomark _)) (pss_one (ps_ret (pe_op qi_mod (pe_op oi_mul (pq 1) (pq 2)) (pe_op oi_pow pe_int pe_int)))) pss_nil)
      (pss_cons (ps_if (pt_cmpQ qo_eq (pq 0) pe_str (nomark _)) (pss_one (ps_ret (pe_ifExp (pt_cmpQ qo_ne (pq 2) pe_int (nomark _)) (pe_op oi_fdivW (pq 1) (pq 2)) pe_int))) pss_nil)
      (pss_cons (ps_if (pt_cmpQ qo_eq (pq 0) pe_str (nomark _)) (pss_one (ps_ret (pe_ifExp (pt_cmpQ qi_lt (pq 1) (pq 2) (nomark _)) pe_int pe_int))) pss_nil)
      (pss_cons (ps_if (pt_cmpQ qo_eq (pq 0) pe_str (nomark _)) (pss_one (ps_ret (pe_ifExp (pt_cmpQ qo_eq (pq 1) (pq 2) (nomark _)) pe_int pe_int))) pss_nil)
      (pss_cons (ps_if (pt_cmpQ qo_eq (pq 0) pe_str (nomark _)) (pss_one (ps_ret (pe_op qi_mod (pe_op oi_and (pq 1) (pq 2)) (pe_op oi_pow pe_int pe_int)))) pss_nil)
      (pss_cons (ps_if (pt_cmpQ qo_eq (pq 0) pe_str (nomark _)) (pss_one (ps_ret (pe_op qi_mod (pe_op oi_or (pq 1) (pq 2)) (pe_op oi_pow pe_int pe_int)))) pss_nil)
      (pss_one (ps_ret (pe_op qi_mod (pe_op oi_xor (pq 1) (pq 2)) (pe_op oi_pow pe_int pe_int)))))))))))), ?_⟩
  have pw : (0 : Int) < (10 : Int) ^ (30 : Int).toNat := by rw [p30]; decide
  refine ⟨_, rfl, rfl, _, rfl, ite2 (fun c => ?_) (fun c1 => ?_)⟩
  · have e : doneV sg x y = (x + y) % (10 : Int) ^ (30 : Int).toNat := by rw [str_yes c, p30]; rfl
    rw [e] at k
    exact ⟨_, rfl, _, rfl, _, _, rfl, rfl, _, _, rfl, rfl, ⟨by decide, by decide, by decide⟩, _, _, rfl, rfl, pw, k⟩
  refine ⟨_, rfl, rfl, _, rfl, ite2 (fun c => ?_) (fun c2 => ?_)⟩
  · have e : doneV sg x y = (x - y) % (10 : Int) ^ (30 : Int).toNat := by rw [str_yes c, p30]; rfl
    rw [e] at k
    exact ⟨_, rfl, _, rfl, _, _, rfl, rfl, _, _, rfl, rfl, ⟨by decide, by decide, by decide⟩, _, _, rfl, rfl, pw, k⟩
  refine ⟨_, rfl, rfl, _, rfl, ite2 (fun c => ?_) (fun c3 => ?_)⟩
  · have e : doneV sg x y = (x * y) % (10 : Int) ^ (30 : Int).toNat := by rw [str_yes c, p30]; rfl
    rw [e] at k
    exact ⟨_, rfl, _, rfl, _, _, rfl, rfl, IntMulOk.of_bits (wh_bits hx) (wh_bits hy), _, _, rfl, rfl, ⟨by decide, by decide, by decide⟩, _, _, rfl, rfl, pw, k⟩
  refine ⟨_, rfl, rfl, _, rfl, ite2 (fun c => ?_) (fun c4 => ?_)⟩
  · have e : doneV sg x y = if y = 0 then 0 else x / y := by rw [str_yes c]; rfl
    rw [e] at k
    refine ⟨_, rfl, rfl, _, rfl, ite2 (fun cz => ?_) (fun cz => ?_)⟩
    · have ne : y ≠ 0 := fun z => by rw [z] at cz; exact absurd cz (by decide)
      rw [if_neg ne] at k
      exact ⟨_, rfl, _, rfl, _, _, rfl, rfl, ⟨by have := hy.lo; omega, wh_log hy⟩, k⟩
    · have ez : y = 0 := by
        by_cases z : y = 0
        · exact z
        · refine absurd ?_ cz
          rw [decide_eq_false (fun q => z (V.int.inj q))]
          rfl
      rw [if_pos ez] at k
      exact k
  refine ⟨_, rfl, rfl, _, rfl, ite2 (fun c => ?_) (fun c5 => ?_)⟩
  · have e : doneV sg x y = if x < y then 1 else 0 := by rw [str_yes c]; rfl
    rw [e] at k
    refine ⟨_, rfl, _, rfl, _, _, rfl, rfl, _, rfl, ite2 (fun c => ?_) (fun c => ?_)⟩
    · rw [if_pos (of_decide_eq_true c)] at k
      exact k
    · rw [if_neg (fun z => c (decide_eq_true z))] at k
      exact k
  refine ⟨_, rfl, rfl, _, rfl, ite2 (fun c => ?_) (fun c6 => ?_)⟩
  · have e : doneV sg x y = if x = y then 1 else 0 := by rw [str_yes c]; rfl
    rw [e] at k
    refine ⟨_, rfl, _, rfl, rfl, _, rfl, ite2 (fun c => ?_) (fun c => ?_)⟩
    · rw [if_pos (int_yes c)] at k
      exact k
    · rw [if_neg (int_no c)] at k
      exact k
  refine ⟨_, rfl, rfl, _, rfl, ite2 (fun c => ?_) (fun c7 => ?_)⟩
  · have e : doneV sg x y = Builtin.bitAnd x y % (10 : Int) ^ (30 : Int).toNat := by rw [str_yes c, p30]; rfl
    rw [e] at k
    exact ⟨_, rfl, _, rfl, _, _, rfl, rfl, _, _, rfl, rfl, ⟨by decide, by decide, by decide⟩, _, _, rfl, rfl, pw, k⟩
  refine ⟨_, rfl, rfl, _, rfl, ite2 (fun c => ?_) (fun c8 => ?_)⟩
  · have e : doneV sg x y = Builtin.bitOr x y % (10 : Int) ^ (30 : Int).toNat := by rw [str_yes c, p30]; rfl
    rw [e] at k
    exact ⟨_, rfl, _, rfl, _, _, rfl, rfl, _, _, rfl, rfl, ⟨by decide, by decide, by decide⟩, _, _, rfl, rfl, pw, k⟩
  have e : doneV sg x y = Builtin.bitXor x y % (10 : Int) ^ (30 : Int).toNat := by
    unfold doneV reck
    rw [if_neg (str_no c4), if_neg (str_no c5), if_neg (str_no c6), if_neg (str_no c1), if_neg (str_no c2), if_neg (str_no c3), if_neg (str_no c7), if_neg (str_no c8), p30]
  rw [e] at k
  exact ⟨_, rfl, _, rfl, _, _, rfl, rfl, _, _, rfl, rfl, ⟨by decide, by decide, by decide⟩, _, _, rfl, rfl, pw, k⟩
theorem worth_at {xs : List Int} {i : Int} (h0 : 0 ≤ i) (h1 : i < xs.length) : atI (xs.map V.int) i = some (.int (xs.getD i.toNat 0)) := by
  have lt : i.toNat < xs.length := by omega
  exact atI_pos h0 (by rw [List.getElem?_map, List.getElem?_eq_getElem lt, List.getD_eq_getElem?_getD, List.getElem?_eq_getElem lt]; rfl)
theorem worth_on {s : Sd} {xs : List Int} (h : s.ok xs.length) (on : ∀ x ∈ xs, OnW x) : OnW (s.worth xs) := by
  cases s with
  | num n => exact h
  | thing i =>
    obtain ⟨h0, h1⟩ := h
    have lt : i.toNat < xs.length := by omega
    show OnW (xs.getD i.toNat 0)
    rw [List.getD_eq_getElem?_getD, List.getElem?_eq_getElem lt]
    exact on _ (List.getElem_mem lt)
theorem ok_on_side (T : Tx P w K mg a) : FnOk P w K mg base CX0 1 a.on_side a.fd_on_side ["side", "things"] sp_on_side := by
  refine T.F_on_side.ok sc_on_side (fun vs H Q E h => ?_) (fun cdv A outer s H vs Q E hr h => ?_)
  · obtain ⟨_, _, _, _, rfl, _⟩ := h
    rfl
  obtain ⟨v, l, sd, xs, rfl, hs, ok, hl, k⟩ := h
  refine ⟨_, (pss_one (ps_ret (pe_ifExp (pt_cmpQ qo_eq (pe_ix qx_tup (pq 0) pe_int (fun _ _ => rfl)) pe_str (nomark _)) (pe_ix qx_list (pq 1) (pe_ix qx_tup (pq 0) pe_int (fun _ _ => rfl)) (fun _ _ => rfl)) (pe_ix qx_tup (pq 0) pe_int (fun _ _ => rfl))))), ?_⟩
  cases hs with
  | num h => exact ⟨_, rfl, _, _, _, _, rfl, rfl, SqT.of h, rfl, rfl, _, rfl, ifNo (by decide +kernel) ⟨_, rfl, _, _, _, _, rfl, rfl, SqT.of h, rfl, k⟩⟩
  | thing h => exact ⟨_, rfl, _, _, _, _, rfl, rfl, SqT.of h, rfl, rfl, _, rfl, ifYes (by decide +kernel) ⟨_, rfl, _, rfl, _, _, _, _, rfl, rfl, SqT.of h, rfl, l, _, _, _, rfl, rfl, SqL.of hl, worth_at ok.1 ok.2, k⟩⟩
theorem ok__law_number_at (T : Tx P w K mg a) : FnOk P w K mg base CX0 1 a._law_number_at a.fd__law_number_at ["_law_side_here", "_law_things_here"] sp__law_number_at := by
  refine T.F__law_number_at.ok sc__law_number_at (fun vs H Q E h => ?_) (fun cdv A outer s H vs Q E hr h => ?_)
  · obtain ⟨_, _, _, _, rfl, _⟩ := h
    rfl
  obtain ⟨v, l, sd, xs, rfl, hs, ok, hl, k⟩ := h
  refine ⟨_, (pss_cons (ps_if (pt_cmpQ qo_eq (pe_ix qx_tup (pq 0) pe_int (fun _ _ => rfl)) pe_str (nomark _)) (pss_one (ps_ret (pe_ix qx_list (pq 1) (pe_ix qx_tup (pq 0) pe_int (fun _ _ => rfl)) (fun _ _ => rfl)))) pss_nil)
      (pss_one (ps_ret (pe_ix qx_tup (pq 0) pe_int (fun _ _ => rfl))))), ?_⟩
  cases hs with
  | num h => exact ⟨_, rfl, _, _, _, _, rfl, rfl, SqT.of h, rfl, rfl, _, rfl, ifNo (by decide +kernel) ⟨_, rfl, _, _, _, _, rfl, rfl, SqT.of h, rfl, k⟩⟩
  | thing h => exact ⟨_, rfl, _, _, _, _, rfl, rfl, SqT.of h, rfl, rfl, _, rfl, ifYes (by decide +kernel) ⟨_, rfl, _, rfl, _, _, _, _, rfl, rfl, SqT.of h, rfl, l, _, _, _, rfl, rfl, SqL.of hl, worth_at ok.1 ok.2, k⟩⟩
theorem lf2 {k1 k2 : Str} {u v : V} {r : List (Str × V)} (h : (k2 == k1) = false) : List.lookup k2 ((k1, u) :: (k2, v) :: r) = some v := (lookup_miss h).trans lookup_hit
theorem lf3 {k1 k2 k3 : Str} {u v x : V} {r : List (Str × V)} (h : (k3 == k1) = false) (h' : (k3 == k2) = false) : List.lookup k3 ((k1, u) :: (k2, v) :: (k3, x) :: r) = some x := (lookup_miss h).trans (lf2 h')
theorem lf4 {k1 k2 k3 k4 : Str} {u v x y : V} {r : List (Str × V)} (h : (k4 == k1) = false) (h' : (k4 == k2) = false) (h2 : (k4 == k3) = false) : List.lookup k4 ((k1, u) :: (k2, v) :: (k3, x) :: (k4, y) :: r) = some y := (lookup_miss h).trans (lf3 h' h2)
theorem lf5 {k1 k2 k3 k4 k5 : Str} {u v x y z : V} {r : List (Str × V)} (h : (k5 == k1) = false) (h' : (k5 == k2) = false) (h2 : (k5 == k3) = false) (h3 : (k5 == k4) = false) : List.lookup k5 ((k1, u) :: (k2, v) :: (k3, x) :: (k4, y) :: (k5, z) :: r) = some z := (lookup_miss h).trans (lf4 h' h2 h3)
theorem ok_Work_made (T : Tx P w K mg a) : FnOk P w K mg base CX0 3 a.Work_made a.fd_Work_made ["self", "things"] (sp_made a 1) := by
  refine T.F_Work_made.ok sc_Work_made (fun vs H Q E h => ?_) (fun cdv A outer s H vs Q E hr h => ?_)
  · obtain ⟨_, _, _, _, rfl, _⟩ := h
    rfl
  obtain ⟨v, l, r, xs, rfl, kd, hp, ok, hl, wide, on, k⟩ := h
  refine ⟨_, (pss_cons (ps_set (i := 2) sc_Work_made.nd rfl (Or.inl rfl) (pe_call (ok_on_side T) (hr.mono (by decide)) rfl T.m_on_side T.F_on_side.kp T.b_on_side .nil pass0 (pa_cons (pe_ix qx_tup (pe_fldQ (pq 0) rfl) pe_int (fun _ _ => rfl)) (pa_cons (pq 1) pa_nil))))
      (pss_cons (ps_set (i := 3) sc_Work_made.nd rfl (Or.inl rfl) (pe_call (ok_on_side T) (hr.mono (by decide)) rfl T.m_on_side T.F_on_side.kp T.b_on_side .nil pass0 (pa_cons (pe_ix qx_tup (pe_fldQ (pq 0) rfl) pe_int (fun _ _ => rfl)) (pa_cons (pq 1) pa_nil))))
      (pss_one (ps_ret (pe_lstQ (pa_cons (pe_tupQ (pa_cons (pe_fldQ (pq 0) rfl) (pa_cons (pe_call (ok_done T) (hr.mono (by decide)) rfl T.m_done T.F_done.kp T.b_done .nil pass0 (pa_cons (pe_fldQ (pq 0) rfl) (pa_cons (pq 2) (pa_cons (pq 3) pa_nil)))) pa_nil))) pa_nil)))))), ?_⟩
  cases hp with
  | pass _ _ _ => simp [PR.kind] at kd
  | choose _ _ _ => simp [PR.kind] at kd
  | merge _ _ => simp [PR.kind] at kd
  | work h1 h2 h3 h4 =>
    rename_i p dx ts u ins out sg sa sb sl sr
    obtain ⟨_, o1, o2⟩ := ok
    change xs.length = ins.length at wide
    rw [← wide] at o1 o2
    refine ⟨_, rfl, p, _, _, _, _, rfl, h1, T.cl_Work, T.nf_Work_sides, lf4 (by decide +kernel) (by decide +kernel) (by decide +kernel), ts, _, _, _, rfl, rfl, SqT.of h2, rfl, _, rfl, sa, l, sl, xs, rfl, h3, o1, hl, ?_⟩
    refine ⟨_, rfl, p, _, _, _, _, rfl, h1, T.cl_Work, T.nf_Work_sides, lf4 (by decide +kernel) (by decide +kernel) (by decide +kernel), ts, _, _, _, rfl, rfl, SqT.of h2, rfl, _, rfl, sb, l, sr, xs, rfl, h4, o2, hl, ?_⟩
    refine ⟨_, rfl, p, _, _, _, _, rfl, h1, T.cl_Work, T.nf_Work_out, lf2 (by decide +kernel), _, rfl, p, _, _, _, _, rfl, h1, T.cl_Work, T.nf_Work_sign, lf3 (by decide +kernel) (by decide +kernel), _, rfl, _, rfl, sg, _, _, rfl, worth_on o1 on, worth_on o2 on, ln2, fun t ht => ⟨ln1, fun l' hl' => ?_⟩⟩
    exact k _ l' _ ((Same.new ht _).trans (Same.new hl' _)) upd_same (.cons (Same.new hl' _ _ _ upd_same) .nil)
theorem ok_Pass_made (T : Tx P w K mg a) : FnOk P w K mg base CX0 1 a.Pass_made a.fd_Pass_made ["self", "things"] (sp_made a 0) := by
  refine T.F_Pass_made.ok sc_Pass_made (fun vs H Q E h => ?_) (fun cdv A outer s H vs Q E hr h => ?_)
  · obtain ⟨_, _, _, _, rfl, _⟩ := h
    rfl
  obtain ⟨v, l, r, xs, rfl, kd, hp, ok, hl, wide, on, k⟩ := h
  refine ⟨_, (pss_one (ps_ret (pe_comp (k := 2) (Nc := ["line", "place", "things"]) (js := [1]) (show CompSc (defScope s_Pass_made) ["self", "things"] _ 2 ["line", "place", "things"] [1] from CompSc.mk rfl (by decide +kernel) (by decide +kernel) (by decide +kernel) rfl (by decide +kernel)) rfl (pi_zip rfl T.z_zip (pa_cons (pe_fldQ (pq 0) rfl) (pa_cons (pe_fldQ (pq 0) rfl) pa_nil))) (fun _ _ _ _ _ => (pg_tupC 2 rfl (pgs_cons (pg_name (i := 0) (show List.Nodup (["line", "place", "things"] : List Str) from by decide +kernel) rfl (Or.inl rfl)) (pgs_cons (pg_name (i := 1) (show List.Nodup (["line", "place", "things"] : List Str) from by decide +kernel) rfl (Or.inl rfl)) pgs_nil)))) (fun _ _ _ _ _ => pts_nil) (fun _ _ _ _ _ => (pe_tupQ (pa_cons (pq 0) (pa_cons (pe_ix (qx_listK (K := K) rfl) (pq 2) (pq 1) (fun _ _ => rfl)) pa_nil))))))), ?_⟩
  cases hp with
  | work _ _ _ _ => simp [PR.kind] at kd
  | choose _ _ _ => simp [PR.kind] at kd
  | merge _ _ => simp [PR.kind] at kd
  | pass h1 h2 h3 =>
    rename_i p dx t1 t2 u ins outs route
    obtain ⟨o1, o2, o3, o4⟩ := ok
    change xs.length = ins.length at wide
    refine ⟨_, rfl, p, _, _, _, _, rfl, h1, T.cl_Pass, T.nf_Pass_outs, lf2 (by decide +kernel), _, rfl, p, _, _, _, _, rfl, h1, T.cl_Pass, T.nf_Pass_route, lf3 (by decide +kernel) (by decide +kernel), true, true, t1, t2, _, _, rfl, SqT.of h2, SqT.of h3, ?_⟩
    have lz : (outs.zip (route.map fun r => xs.getD r.toNat 0)).length = outs.length := by rw [List.length_zip, List.length_map]; omega
    refine comp_zip0 (K := K) (b1 := true) (b2 := true) (l1 := t1) (l2 := t2) (xs := outs.map V.int) (zs := route.map V.int) (fun i ys σ H3 => (∃ v v', σ = [v, v', some (.ref l)]) ∧ Same H H3 ∧ RPs H3 ys ((outs.zip (route.map fun r => xs.getD r.toNat 0)).take i)) ⟨⟨none, none, rfl⟩, Same.refl _, .nil⟩ ?_ (len_le_line (m := 1000) (by rw [List.length_map]; omega)) ?_ ?_ ?_
    · rintro i ys σ H3 ⟨_, _, r3⟩
      rw [r3.len, List.length_take]
      omega
    · rintro i ys σ H3 ⟨_, s3, _⟩
      exact ⟨SqT.of (s3 _ _ h2), SqT.of (s3 _ _ h3)⟩
    · rintro i x z ys σ H3 pt hx hz ⟨⟨v, v', rfl⟩, s3, r3⟩ hpt
      rw [List.getElem?_map] at hx hz
      obtain ⟨x, hx', rfl⟩ := Option.map_eq_some_iff.mp hx
      obtain ⟨z, hz', rfl⟩ := Option.map_eq_some_iff.mp hz
      have zo := o4 z (List.mem_of_getElem? hz')
      have s4 := s3.trans (Same.new hpt (.tup [.int x, .int z]))
      refine ⟨pt, _, rfl, SqT.of upd_same, rfl, _, _, rfl, _, _, rfl, rfl, ?_⟩
      refine ⟨_, rfl, _, rfl, _, rfl, l, _, _, _, rfl, rfl, SqL.of (s4 _ _ hl), worth_at zo.1 (by omega), ln2, fun t ht => ⟨⟨_, _, rfl⟩, s4.trans (Same.new ht _), ?_⟩⟩
      have e : (outs.zip (route.map fun r => xs.getD r.toNat 0))[i]? = some (x, xs.getD z.toNat 0) := List.getElem?_zip_eq_some.mpr ⟨hx', by rw [List.getElem?_map, hz']; rfl⟩
      rw [List.take_add_one, e]
      exact RPs.snoc (x := (x, xs.getD z.toNat 0)) upd_same ((r3.same (Same.new hpt _)).same (Same.new ht _))
    rintro ys σ3 H3 ⟨_, s3, r3⟩ l' hl'
    rw [List.length_map, List.length_map, ← o1, Nat.min_self, ← lz, List.take_length] at r3
    exact k _ l' ys (s3.trans (Same.new hl' _)) upd_same (r3.same (Same.new hl' _))
theorem ok_Choose_made (T : Tx P w K mg a) : FnOk P w K mg base CX0 1 a.Choose_made a.fd_Choose_made ["self", "things"] (sp_made a 2) := by
  refine T.F_Choose_made.ok sc_Choose_made (fun vs H Q E h => ?_) (fun cdv A outer s H vs Q E hr h => ?_)
  · obtain ⟨_, _, _, _, rfl, _⟩ := h
    rfl
  obtain ⟨v, l, r, xs, rfl, kd, hp, ok, hl, wide, on, k⟩ := h
  refine ⟨_, (pss_cons (ps_if (pt_cmpQ qo_eq (pe_ix qx_list (pq 1) (pe_fldQ (pq 0) rfl) (fun _ _ => rfl)) pe_int (nomark _)) (pss_one (ps_ret (pe_op qo_catS (pe_listzip rfl rfl T.z_list rfl T.z_zip (pa_cons (pe_fldQ (pq 0) rfl) (pa_cons (pq 1) pa_nil))) (pe_lstQ (pa_cons (pe_tupQ (pa_cons (pe_fldQ (pq 0) rfl) (pa_cons pe_int pa_nil))) pa_nil))))) pss_nil)
      (pss_one (ps_ret (pe_op qo_catS (pe_listzip rfl rfl T.z_list rfl T.z_zip (pa_cons (pe_fldQ (pq 0) rfl) (pa_cons (pq 1) pa_nil))) (pe_lstQ (pa_cons (pe_tupQ (pa_cons (pe_fldQ (pq 0) rfl) (pa_cons pe_int pa_nil))) pa_nil)))))), ?_⟩
  cases hp with
  | work _ _ _ _ => simp [PR.kind] at kd
  | pass _ _ _ => simp [PR.kind] at kd
  | merge _ _ => simp [PR.kind] at kd
  | choose h1 h2 h3 =>
    rename_i p dx t1 t2 u ins ones noughts which told
    obtain ⟨o1, o2, o3, o4, o5⟩ := ok
    change xs.length = ins.length at wide
    refine ⟨_, rfl, _, rfl, p, _, _, _, _, rfl, h1, T.cl_Choose, T.nf_Choose_which, lf2 (by decide +kernel), l, _, _, _, rfl, rfl, SqL.of hl, worth_at o1 (by omega), rfl, _, rfl, ?_⟩
    have km : PR.made xs (.choose ins which ones noughts told) = if xs.getD which.toNat 0 = 0 then noughts.zip xs ++ [(told, 0)] else ones.zip xs ++ [(told, 1)] := rfl
    rw [km] at k
    refine ite2 (fun c => ?_) (fun c => ?_)
    · rw [if_pos (int_yes c)] at k
      refine ⟨_, rfl, p, _, _, _, _, rfl, h1, T.cl_Choose, T.nf_Choose_noughts, lf4 (by decide +kernel) (by decide +kernel) (by decide +kernel), _, rfl, true, false, t2, l, _, _, rfl, SqT.of h3, SqL.of hl, fun H3 lz ts s3 nl hz tl at_ => ?_⟩
      have rz := RPs.zip (H := H3) (ts := ts) (xs := noughts) (ys := xs) (by rw [tl, List.length_map, List.length_map]) fun j t x y a b c => (at_ j t x y a b c).1
      refine ⟨_, rfl, p, _, _, _, _, rfl, s3 _ _ h1, T.cl_Choose, T.nf_Choose_told, lf5 (by decide +kernel) (by decide +kernel) (by decide +kernel) (by decide +kernel), ln2, fun t4 ht4 => ⟨ln1, fun l4 hl4 => ?_⟩⟩
      have s4 := (Same.new ht4 (.tup [.int told, .int 0])).trans (Same.new hl4 (.lst [.ref t4]))
      refine ⟨lz, l4, _, _, rfl, rfl, SqL.of (s4 _ _ hz), SqL.of upd_same, len_le_line (m := 1000) (by rw [List.length_map, tl, List.length_map, List.length_map, List.length_singleton]; omega), fun l5 hl5 => ?_⟩
      have s5 := Same.new hl5 (.lst (ts.map V.ref ++ [.ref t4]))
      exact k _ l5 _ (s3.trans (s4.trans s5)) upd_same (RPs.same s5 (RPs.snoc (x := (told, 0)) (Same.new hl4 _ _ _ upd_same) (rz.same s4)))
    · rw [if_neg (int_no c)] at k
      refine ⟨_, rfl, p, _, _, _, _, rfl, h1, T.cl_Choose, T.nf_Choose_ones, lf3 (by decide +kernel) (by decide +kernel), _, rfl, true, false, t1, l, _, _, rfl, SqT.of h2, SqL.of hl, fun H3 lz ts s3 nl hz tl at_ => ?_⟩
      have rz := RPs.zip (H := H3) (ts := ts) (xs := ones) (ys := xs) (by rw [tl, List.length_map, List.length_map]) fun j t x y a b c => (at_ j t x y a b c).1
      refine ⟨_, rfl, p, _, _, _, _, rfl, s3 _ _ h1, T.cl_Choose, T.nf_Choose_told, lf5 (by decide +kernel) (by decide +kernel) (by decide +kernel) (by decide +kernel), ln2, fun t4 ht4 => ⟨ln1, fun l4 hl4 => ?_⟩⟩
      have s4 := (Same.new ht4 (.tup [.int told, .int 1])).trans (Same.new hl4 (.lst [.ref t4]))
      refine ⟨lz, l4, _, _, rfl, rfl, SqL.of (s4 _ _ hz), SqL.of upd_same, len_le_line (m := 1000) (by rw [List.length_map, tl, List.length_map, List.length_map, List.length_singleton]; omega), fun l5 hl5 => ?_⟩
      have s5 := Same.new hl5 (.lst (ts.map V.ref ++ [.ref t4]))
      exact k _ l5 _ (s3.trans (s4.trans s5)) upd_same (RPs.same s5 (RPs.snoc (x := (told, 1)) (Same.new hl4 _ _ _ upd_same) (rz.same s4)))
theorem ok_Merge_made (T : Tx P w K mg a) : FnOk P w K mg base CX0 1 a.Merge_made a.fd_Merge_made ["self", "things"] (sp_made a 3) := by
  refine T.F_Merge_made.ok sc_Merge_made (fun vs H Q E h => ?_) (fun cdv A outer s H vs Q E hr h => ?_)
  · obtain ⟨_, _, _, _, rfl, _⟩ := h
    rfl
  obtain ⟨v, l, r, xs, rfl, kd, hp, ok, hl, wide, on, k⟩ := h
  refine ⟨_, (pss_one (ps_ret (pe_listzip rfl rfl T.z_list rfl T.z_zip (pa_cons (pe_fldQ (pq 0) rfl) (pa_cons (pe_slice sl_list (pq 1) (po_some pe_int) po_none) pa_nil))))), ?_⟩
  cases hp with
  | work _ _ _ _ => simp [PR.kind] at kd
  | pass _ _ _ => simp [PR.kind] at kd
  | choose _ _ _ => simp [PR.kind] at kd
  | merge h1 h2 =>
    rename_i p dx t3 u x y told ones noughts outs
    change xs.length = 1 + outs.length at wide
    refine ⟨_, rfl, p, _, _, _, _, rfl, h1, T.cl_Merge, T.nf_Merge_outs, lf4 (by decide +kernel) (by decide +kernel) (by decide +kernel), _, rfl, _, rfl, l, _, rfl, SqL.of hl, fun lc hlc => ?_⟩
    have ec : cutV (xs.map V.int) (some 1) none = xs.tail.map V.int := by
      unfold cutV
      have e1 : HT.sIx (xs.map V.int).length 0 (some 1) = 1 := by
        have := HT.sIx_nat (xs.map V.int).length 0 1
        rw [show ((1 : Nat) : Int) = 1 from rfl] at this
        rw [this, List.length_map]
        omega
      have e2 : HT.sIx (xs.map V.int).length (xs.map V.int).length none = (xs.map V.int).length := rfl
      rw [e1, e2, List.drop_one, ← List.map_tail, List.take_of_length_le (by rw [List.length_map, List.length_map, List.length_tail]; omega)]
    rw [ec]
    refine ⟨true, false, t3, lc, _, _, rfl, SqT.of (Same.new hlc _ _ _ h2), SqL.of upd_same, fun H3 lz ts s3 nl hz tl at_ => ?_⟩
    have rz := RPs.zip (H := H3) (ts := ts) (xs := outs) (ys := xs.tail) (by rw [tl, List.length_map, List.length_map]) fun j t x y a b c => (at_ j t x y a b c).1
    exact k _ lz _ ((Same.new hlc _).trans s3) hz rz
theorem ok_part_of (T : Tx P w K mg a) : FnOk P w K mg base CX0 4 a.part_of a.fd_part_of ["row"] (sp_part_of a) := by
  refine T.F_part_of.ok sc_part_of (fun vs H Q E h => ?_) (fun cdv A outer s H vs Q E hr h => ?_)
  · obtain ⟨_, _, rfl, _⟩ := h
    rfl
  obtain ⟨v, r, rfl, hr', k⟩ := h
  refine ⟨_, (pss_cons (ps_set (i := 1) sc_part_of.nd rfl (Or.inl rfl) (pe_ix qx_tup (pq 0) pe_int (fun _ _ => rfl)))
      (pss_cons (ps_if (pt_cmpQ qo_eq (pq 1) pe_str (nomark _)) (pss_one (ps_ret (pe_make T.k_Pass (ok_Pass___init__ T) (hr.mono (by decide)) rfl T.m_Pass T.b_Pass___init__ .nil pass0 (pa_cons (pe_ix qx_tup (pq 0) pe_int (fun _ _ => rfl)) (pa_cons (pe_ix qx_tup (pq 0) pe_int (fun _ _ => rfl)) (pa_cons (pe_ix qx_tup (pq 0) pe_int (fun _ _ => rfl)) pa_nil)))))) pss_nil)
      (pss_cons (ps_if (pt_cmpQ qo_eq (pq 1) pe_str (nomark _)) (pss_one (ps_ret (pe_make T.k_Work (ok_Work___init__ T) (hr.mono (by decide)) rfl T.m_Work T.b_Work___init__ .nil pass0 (pa_cons (pe_ix qx_tup (pq 0) pe_int (fun _ _ => rfl)) (pa_cons (pe_ix qx_tup (pq 0) pe_int (fun _ _ => rfl)) (pa_cons (pe_ix qx_tup (pq 0) pe_int (fun _ _ => rfl)) (pa_cons (pe_slice sl_tup (pq 0) (po_some pe_int) po_none) pa_nil))))))) pss_nil)
      (pss_cons (ps_if (pt_cmpQ qo_eq (pq 1) pe_str (nomark _)) (pss_one (ps_ret (pe_make T.k_Choose (ok_Choose___init__ T) (hr.mono (by decide)) rfl T.m_Choose T.b_Choose___init__ .nil pass0 (pa_cons (pe_ix qx_tup (pq 0) pe_int (fun _ _ => rfl)) (pa_cons (pe_ix qx_tup (pq 0) pe_int (fun _ _ => rfl)) (pa_cons (pe_ix qx_tup (pq 0) pe_int (fun _ _ => rfl)) (pa_cons (pe_ix qx_tup (pq 0) pe_int (fun _ _ => rfl)) (pa_cons (pe_ix qx_tup (pq 0) pe_int (fun _ _ => rfl)) pa_nil)))))))) pss_nil)
      (pss_one (ps_ret (pe_make T.k_Merge (ok_Merge___init__ T) (hr.mono (by decide)) rfl T.m_Merge T.b_Merge___init__ .nil pass0 (pa_cons (pe_ix qx_tup (pq 0) pe_int (fun _ _ => rfl)) (pa_cons (pe_ix qx_tup (pq 0) pe_int (fun _ _ => rfl)) (pa_cons (pe_ix qx_tup (pq 0) pe_int (fun _ _ => rfl)) (pa_cons (pe_ix qx_tup (pq 0) pe_int (fun _ _ => rfl)) pa_nil))))))))))), ?_⟩
  have over : ∀ (H1 : Hp) (o dx : Addr) (u u' u2 : HO), H1 o = none → H1 dx = none → Same H1 (upd (upd (upd H1 dx u) o u') o u2) := fun H1 o dx u u' u2 ho hd b ob hb => by
    have n1 : b ≠ o := fun z => by rw [z, ho] at hb; cases hb
    have n2 : b ≠ dx := fun z => by rw [z, hd] at hb; cases hb
    rw [upd_ne n1, upd_ne n1, upd_ne n2]
    exact hb
  cases hr' with
  | pass h1 h2 h3 h4 =>
    rename_i p t0 t1 t2 ins outs route
    refine ⟨_, rfl, p, _, _, _, rfl, rfl, SqT.of h1, rfl, ?_⟩
    refine ⟨_, rfl, rfl, _, rfl, ifYes (by decide +kernel) ?_⟩
    refine ⟨_, rfl, p, _, _, _, rfl, rfl, SqT.of h1, rfl, _, rfl, p, _, _, _, rfl, rfl, SqT.of h1, rfl, _, rfl, p, _, _, _, rfl, rfl, SqT.of h1, rfl, fun o dx ho hd nd => ?_⟩
    exact ⟨o, dx, _, _, _, rfl, upd_same, rfl, k _ _ (over _ _ _ _ _ _ ho hd) (.pass upd_same (over _ _ _ _ _ _ ho hd _ _ h3) (over _ _ _ _ _ _ ho hd _ _ h4))⟩
  | work h1 h2 h3 h4 =>
    rename_i p t0 ins out sg sa sb sl sr
    refine ⟨_, rfl, p, _, _, _, rfl, rfl, SqT.of h1, rfl, ?_⟩
    refine ⟨_, rfl, rfl, _, rfl, ifNo (by decide +kernel) ?_⟩
    refine ⟨_, rfl, rfl, _, rfl, ifYes (by decide +kernel) ?_⟩
    refine ⟨_, rfl, p, _, _, _, rfl, rfl, SqT.of h1, rfl, _, rfl, p, _, _, _, rfl, rfl, SqT.of h1, rfl, _, rfl, p, _, _, _, rfl, rfl, SqT.of h1, rfl, _, rfl, _, rfl, p, _, rfl, SqT.of h1, ?_, fun tt htt => ?_⟩
    · rintro ⟨z, _⟩
      exact absurd z (by show ¬ (HT.sIx 6 0 (some 4) = 0); decide)
    intro o dx ho hd nd
    have s2 := (Same.new htt (.tup (cutV [V.str "work", .ref t0, .int out, .str sg, sa, sb] (some 4) none)))
    exact ⟨o, dx, _, _, _, _, rfl, upd_same, rfl, k _ _ (s2.trans (over _ _ _ _ _ _ ho hd)) (.work upd_same (over _ _ _ _ _ _ ho hd _ _ upd_same) ((h3.same s2).same (over _ _ _ _ _ _ ho hd)) ((h4.same s2).same (over _ _ _ _ _ _ ho hd)))⟩
  | choose h1 h2 h3 h4 =>
    rename_i p t0 t1 t2 ins ones noughts which told
    refine ⟨_, rfl, p, _, _, _, rfl, rfl, SqT.of h1, rfl, ?_⟩
    refine ⟨_, rfl, rfl, _, rfl, ifNo (by decide +kernel) ?_⟩
    refine ⟨_, rfl, rfl, _, rfl, ifNo (by decide +kernel) ?_⟩
    refine ⟨_, rfl, rfl, _, rfl, ifYes (by decide +kernel) ?_⟩
    refine ⟨_, rfl, p, _, _, _, rfl, rfl, SqT.of h1, rfl, _, rfl, p, _, _, _, rfl, rfl, SqT.of h1, rfl, _, rfl, p, _, _, _, rfl, rfl, SqT.of h1, rfl, _, rfl, p, _, _, _, rfl, rfl, SqT.of h1, rfl, _, rfl, p, _, _, _, rfl, rfl, SqT.of h1, rfl, fun o dx ho hd nd => ?_⟩
    exact ⟨o, dx, _, _, _, _, _, rfl, upd_same, rfl, k _ _ (over _ _ _ _ _ _ ho hd) (.choose upd_same (over _ _ _ _ _ _ ho hd _ _ h3) (over _ _ _ _ _ _ ho hd _ _ h4))⟩
  | merge h1 h2 h3 h4 =>
    rename_i p ta tb tc told ones noughts outs
    refine ⟨_, rfl, p, _, _, _, rfl, rfl, SqT.of h1, rfl, ?_⟩
    refine ⟨_, rfl, rfl, _, rfl, ifNo (by decide +kernel) ?_⟩
    refine ⟨_, rfl, rfl, _, rfl, ifNo (by decide +kernel) ?_⟩
    refine ⟨_, rfl, rfl, _, rfl, ifNo (by decide +kernel) ?_⟩
    refine ⟨_, rfl, p, _, _, _, rfl, rfl, SqT.of h1, rfl, _, rfl, p, _, _, _, rfl, rfl, SqT.of h1, rfl, _, rfl, p, _, _, _, rfl, rfl, SqT.of h1, rfl, _, rfl, p, _, _, _, rfl, rfl, SqT.of h1, rfl, fun o dx ho hd nd => ?_⟩
    refine ⟨o, dx, _, _, _, _, rfl, upd_same, fun tt htt => ⟨rfl, ?_⟩⟩
    have nto : tt ≠ o := fun z => by rw [z, upd_same] at htt; cases htt
    have ntd : tt ≠ dx := fun z => by rw [upd_ne nto, z, upd_same] at htt; cases htt
    have ht0 : H tt = none := by rw [upd_ne nto, upd_ne ntd] at htt; exact htt
    have sm : Same H (upd (upd (upd (upd H dx (.own o)) o (.ins a.C_Merge dx [])) tt (.tup [.int told])) o (.ins a.C_Merge dx [("ins", .ref tt), ("ones", .ref ta), ("noughts", .ref tb), ("outs", .ref tc)])) := fun b ob hb => by
      have n1 : b ≠ o := fun z => by rw [z, ho] at hb; cases hb
      have n2 : b ≠ dx := fun z => by rw [z, hd] at hb; cases hb
      have n3 : b ≠ tt := fun z => by rw [z, ht0] at hb; cases hb
      rw [upd_ne n1, upd_ne n3, upd_ne n1, upd_ne n2]
      exact hb
    exact k _ _ sm (.merge upd_same (sm _ _ h4))
theorem at_map {xs : List Int} {i : Nat} (h : i < xs.length) : atI (xs.map V.int) (i : Int) = some (.int xs[i]) := atI_nat (by rw [List.getElem?_map, List.getElem?_eq_getElem h]; rfl)
theorem ok__law_makes (T : Tx P w K mg a) : FnOk P w K mg base CX0 3 a._law_makes a.fd__law_makes ["_law_row_here", "_law_things_here"] sp__law_makes := by
  refine T.F__law_makes.ok sc__law_makes (fun vs H Q E h => ?_) (fun cdv A outer s H vs Q E hr h => ?_)
  · obtain ⟨_, _, _, _, rfl, _⟩ := h
    rfl
  obtain ⟨v, l, r, xs, rfl, hrow, ok, hl, wide, on, k⟩ := h
  refine ⟨_, (pss_cons (ps_if (pt_cmpQ qo_eq (pe_ix qx_tup (pq 0) pe_int (fun _ _ => rfl)) pe_str (nomark _)) (pss_one (ps_ret (pe_comp (k := 1) (Nc := ["_law_k", "_law_things_here", "_law_row_here"]) (js := [1, 0]) (show CompSc (defScope s__law_makes) ["_law_row_here", "_law_things_here", "_law_a"] _ 1 ["_law_k", "_law_things_here", "_law_row_here"] [1, 0] from CompSc.mk rfl (by decide +kernel) (by decide +kernel) (by decide +kernel) rfl (by decide +kernel)) rfl (pj_range1 rfl T.z_range (pa_cons (pe_callB qc_len rfl T.z_len PySem.boot_len (pa_cons (pe_ix qx_tup (pq 0) pe_int (fun _ _ => rfl)) pa_nil)) pa_nil)) (fun _ _ _ _ _ => (pg_name (i := 0) (show List.Nodup (["_law_k", "_law_things_here", "_law_row_here"] : List Str) from by decide +kernel) rfl (Or.inl rfl))) (fun _ _ _ _ _ => pts_nil) (fun _ _ _ _ _ => (pe_tupQ (pa_cons (pe_ix (qx_tupK (K := K) rfl) (pe_ix (qx_tupK (K := K) rfl) (pq 2) pe_int (fun _ _ => rfl)) (pq 0) (fun _ _ => rfl)) (pa_cons (pe_ix (qx_listK (K := K) rfl) (pq 1) (pe_ix (qx_tupK (K := K) rfl) (pe_ix (qx_tupK (K := K) rfl) (pq 2) pe_int (fun _ _ => rfl)) (pq 0) (fun _ _ => rfl)) (fun _ _ => rfl)) pa_nil))))))) pss_nil)
      (pss_cons (ps_if (pt_cmpQ qo_eq (pe_ix qx_tup (pq 0) pe_int (fun _ _ => rfl)) pe_str (nomark _)) (pss_cons (ps_set (i := 2) sc__law_makes.nd rfl (Or.inl rfl) (pe_call (ok__law_number_at T) (hr.mono (by decide)) rfl T.m__law_number_at T.F__law_number_at.kp T.b__law_number_at .nil pass0 (pa_cons (pe_ix qx_tup (pq 0) pe_int (fun _ _ => rfl)) (pa_cons (pq 1) pa_nil))))
      (pss_one (ps_ret (pe_lstQ (pa_cons (pe_tupQ (pa_cons (pe_ix qx_tup (pq 0) pe_int (fun _ _ => rfl)) (pa_cons (pe_call (ok__law_sign T) (hr.mono (by decide)) rfl T.m__law_sign T.F__law_sign.kp T.b__law_sign .nil pass0 (pa_cons (pe_ix qx_tup (pq 0) pe_int (fun _ _ => rfl)) (pa_cons (pq 2) (pa_cons (pe_call (ok__law_number_at T) (hr.mono (by decide)) rfl T.m__law_number_at T.F__law_number_at.kp T.b__law_number_at .nil pass0 (pa_cons (pe_ix qx_tup (pq 0) pe_int (fun _ _ => rfl)) (pa_cons (pq 1) pa_nil))) pa_nil)))) pa_nil))) pa_nil))))) pss_nil)
      (pss_cons (ps_if (pt_cmpQ qo_eq (pe_ix qx_tup (pq 0) pe_int (fun _ _ => rfl)) pe_str (nomark _)) (pss_one (ps_ret (pe_comp (k := 1) (Nc := ["_law_k", "_law_things_here", "_law_row_here"]) (js := [1, 0]) (show CompSc (defScope s__law_makes) ["_law_row_here", "_law_things_here", "_law_a"] _ 1 ["_law_k", "_law_things_here", "_law_row_here"] [1, 0] from CompSc.mk rfl (by decide +kernel) (by decide +kernel) (by decide +kernel) rfl (by decide +kernel)) rfl (pj_range1 rfl T.z_range (pa_cons (pe_callB qc_len rfl T.z_len PySem.boot_len (pa_cons (pe_ix qx_tup (pq 0) pe_int (fun _ _ => rfl)) pa_nil)) pa_nil)) (fun _ _ _ _ _ => (pg_name (i := 0) (show List.Nodup (["_law_k", "_law_things_here", "_law_row_here"] : List Str) from by decide +kernel) rfl (Or.inl rfl))) (fun _ _ _ _ _ => pts_nil) (fun _ _ _ _ _ => (pe_tupQ (pa_cons (pe_ix (qx_tupK (K := K) rfl) (pe_ix (qx_tupK (K := K) rfl) (pq 2) pe_int (fun _ _ => rfl)) (pq 0) (fun _ _ => rfl)) (pa_cons (pe_ix (qx_listK (K := K) rfl) (pq 1) (pe_op qi_add pe_int (pq 0)) (fun _ _ => rfl)) pa_nil))))))) pss_nil)
      (pss_cons (ps_if (pt_cmpQ qo_eq (pe_ix qx_list (pq 1) (pe_ix qx_tup (pq 0) pe_int (fun _ _ => rfl)) (fun _ _ => rfl)) pe_int (nomark _)) (pss_one (ps_ret (pe_op qo_catS (pe_comp (k := 1) (Nc := ["_law_k", "_law_things_here", "_law_row_here"]) (js := [1, 0]) (show CompSc (defScope s__law_makes) ["_law_row_here", "_law_things_here", "_law_a"] _ 1 ["_law_k", "_law_things_here", "_law_row_here"] [1, 0] from CompSc.mk rfl (by decide +kernel) (by decide +kernel) (by decide +kernel) rfl (by decide +kernel)) rfl (pj_range1 rfl T.z_range (pa_cons (pe_callB qc_len rfl T.z_len PySem.boot_len (pa_cons (pq 1) pa_nil)) pa_nil)) (fun _ _ _ _ _ => (pg_name (i := 0) (show List.Nodup (["_law_k", "_law_things_here", "_law_row_here"] : List Str) from by decide +kernel) rfl (Or.inl rfl))) (fun _ _ _ _ _ => pts_nil) (fun _ _ _ _ _ => (pe_tupQ (pa_cons (pe_ix (qx_tupK (K := K) rfl) (pe_ix (qx_tupK (K := K) rfl) (pq 2) pe_int (fun _ _ => rfl)) (pq 0) (fun _ _ => rfl)) (pa_cons (pe_ix (qx_listK (K := K) rfl) (pq 1) (pq 0) (fun _ _ => rfl)) pa_nil))))) (pe_lstQ (pa_cons (pe_tupQ (pa_cons (pe_ix qx_tup (pq 0) pe_int (fun _ _ => rfl)) (pa_cons pe_int pa_nil))) pa_nil))))) pss_nil)
      (pss_one (ps_ret (pe_op qo_catS (pe_comp (k := 1) (Nc := ["_law_k", "_law_things_here", "_law_row_here"]) (js := [1, 0]) (show CompSc (defScope s__law_makes) ["_law_row_here", "_law_things_here", "_law_a"] _ 1 ["_law_k", "_law_things_here", "_law_row_here"] [1, 0] from CompSc.mk rfl (by decide +kernel) (by decide +kernel) (by decide +kernel) rfl (by decide +kernel)) rfl (pj_range1 rfl T.z_range (pa_cons (pe_callB qc_len rfl T.z_len PySem.boot_len (pa_cons (pq 1) pa_nil)) pa_nil)) (fun _ _ _ _ _ => (pg_name (i := 0) (show List.Nodup (["_law_k", "_law_things_here", "_law_row_here"] : List Str) from by decide +kernel) rfl (Or.inl rfl))) (fun _ _ _ _ _ => pts_nil) (fun _ _ _ _ _ => (pe_tupQ (pa_cons (pe_ix (qx_tupK (K := K) rfl) (pe_ix (qx_tupK (K := K) rfl) (pq 2) pe_int (fun _ _ => rfl)) (pq 0) (fun _ _ => rfl)) (pa_cons (pe_ix (qx_listK (K := K) rfl) (pq 1) (pq 0) (fun _ _ => rfl)) pa_nil))))) (pe_lstQ (pa_cons (pe_tupQ (pa_cons (pe_ix qx_tup (pq 0) pe_int (fun _ _ => rfl)) (pa_cons pe_int pa_nil))) pa_nil))))))))), ?_⟩
  cases hrow with
  | pass h1 h2 h3 h4 =>
    rename_i p t0 t1 t2 ins outs route
    obtain ⟨o1, o2, o3, o4⟩ := ok
    change xs.length = ins.length at wide
    refine ⟨_, rfl, p, _, _, _, rfl, rfl, SqT.of h1, rfl, rfl, _, rfl, ifYes (by decide +kernel) ?_⟩
    refine ⟨_, rfl, p, _, _, _, rfl, rfl, SqT.of h1, rfl, t1, _, rfl, .inr (SqT.of h3), _, rfl, by rw [List.length_map]; omega, by rw [List.length_map]; omega, ?_⟩
    have nn : (((outs.map V.int).length : Nat) : Int).toNat = outs.length := by rw [List.length_map]; omega
    have lz : (outs.zip (route.map fun r => xs.getD r.toNat 0)).length = outs.length := by rw [List.length_zip, List.length_map]; omega
    refine comp_range0 (fun i ys σ H3 => (∃ v, σ = [v, some (.ref l), some (.ref p)]) ∧ Same H H3 ∧ RPs H3 ys ((outs.zip (route.map fun r => xs.getD r.toNat 0)).take i)) ⟨⟨none, rfl⟩, Same.refl _, .nil⟩ ?_ (len_le_line (m := 100) (by rw [nn]; omega)) ?_ ?_
    · rintro i ys σ H3 _ ⟨_, _, r3⟩
      rw [r3.len, List.length_take]
      omega
    · rintro i ys σ H3 hi ⟨⟨v, rfl⟩, s3, r3⟩
      rw [nn] at hi
      have hi2 : i < route.length := by omega
      have zo := o4 route[i] (List.getElem_mem hi2)
      refine ⟨_, rfl, p, _, _, _, rfl, rfl, SqT.of (s3 _ _ h1), rfl, _, rfl, t1, _, _, _, rfl, rfl, SqT.of (s3 _ _ h3), at_map hi, ?_⟩
      refine ⟨_, rfl, _, rfl, p, _, _, _, rfl, rfl, SqT.of (s3 _ _ h1), rfl, _, rfl, t2, _, _, _, rfl, rfl, SqT.of (s3 _ _ h4), at_map hi2, l, _, _, _, rfl, rfl, SqL.of (s3 _ _ hl), worth_at zo.1 (by omega), ln2, fun t ht => ⟨⟨_, rfl⟩, s3.trans (Same.new ht _), ?_⟩⟩
      have e : (outs.zip (route.map fun r => xs.getD r.toNat 0))[i]? = some (outs[i], xs.getD route[i].toNat 0) := List.getElem?_zip_eq_some.mpr ⟨List.getElem?_eq_getElem hi, by rw [List.getElem?_map, List.getElem?_eq_getElem hi2]; rfl⟩
      rw [List.take_add_one, e]
      exact RPs.snoc (x := (outs[i], xs.getD route[i].toNat 0)) upd_same (r3.same (Same.new ht _))
    rintro ys σ3 H3 ⟨_, s3, r3⟩ l' hl'
    rw [nn, ← lz, List.take_length] at r3
    exact k _ l' ys (s3.trans (Same.new hl' _)) upd_same (r3.same (Same.new hl' _))
  | work h1 h2 h3 h4 =>
    rename_i p t0 ins out sg sa sb sl sr
    obtain ⟨_, o1, o2⟩ := ok
    change xs.length = ins.length at wide
    rw [← wide] at o1 o2
    refine ⟨_, rfl, p, _, _, _, rfl, rfl, SqT.of h1, rfl, rfl, _, rfl, ifNo (by decide +kernel) ?_⟩
    refine ⟨_, rfl, p, _, _, _, rfl, rfl, SqT.of h1, rfl, rfl, _, rfl, ifYes (by decide +kernel) ?_⟩
    refine ⟨_, rfl, p, _, _, _, rfl, rfl, SqT.of h1, rfl, _, rfl, sa, l, sl, xs, rfl, h3, o1, hl, ?_⟩
    refine ⟨_, rfl, p, _, _, _, rfl, rfl, SqT.of h1, rfl, _, rfl, p, _, _, _, rfl, rfl, SqT.of h1, rfl, _, rfl, _, rfl, p, _, _, _, rfl, rfl, SqT.of h1, rfl, _, rfl, sb, l, sr, xs, rfl, h4, o2, hl, sg, _, _, rfl, worth_on o1 on, worth_on o2 on, ln2, fun t ht => ⟨ln1, fun l' hl' => ?_⟩⟩
    exact k _ l' _ ((Same.new ht _).trans (Same.new hl' _)) upd_same (.cons (Same.new hl' _ _ _ upd_same) .nil)
  | merge h1 h2 h3 h4 =>
    rename_i p t1 t2 t3 told ones noughts outs
    change outs.length ≤ 99 at ok
    change xs.length = 1 + outs.length at wide
    refine ⟨_, rfl, p, _, _, _, rfl, rfl, SqT.of h1, rfl, rfl, _, rfl, ifNo (by decide +kernel) ?_⟩
    refine ⟨_, rfl, p, _, _, _, rfl, rfl, SqT.of h1, rfl, rfl, _, rfl, ifNo (by decide +kernel) ?_⟩
    refine ⟨_, rfl, p, _, _, _, rfl, rfl, SqT.of h1, rfl, rfl, _, rfl, ifYes (by decide +kernel) ?_⟩
    refine ⟨_, rfl, p, _, _, _, rfl, rfl, SqT.of h1, rfl, t3, _, rfl, .inr (SqT.of h4), _, rfl, by rw [List.length_map]; omega, by rw [List.length_map]; omega, ?_⟩
    have nn : (((outs.map V.int).length : Nat) : Int).toNat = outs.length := by rw [List.length_map]; omega
    have lz : (outs.zip xs.tail).length = outs.length := by rw [List.length_zip, List.length_tail]; omega
    refine comp_range0 (fun i ys σ H3 => (∃ v, σ = [v, some (.ref l), some (.ref p)]) ∧ Same H H3 ∧ RPs H3 ys ((outs.zip xs.tail).take i)) ⟨⟨none, rfl⟩, Same.refl _, .nil⟩ ?_ (len_le_line (m := 100) (by rw [nn]; omega)) ?_ ?_
    · rintro i ys σ H3 _ ⟨_, _, r3⟩
      rw [r3.len, List.length_take]
      omega
    · rintro i ys σ H3 hi ⟨⟨v, rfl⟩, s3, r3⟩
      rw [nn] at hi
      have hi2 : 1 + i < xs.length := by omega
      have e2 : atI (xs.map V.int) (1 + (i : Int)) = some (.int xs[1 + i]) := by
        have := at_map (xs := xs) hi2
        rw [Int.natCast_add] at this
        exact this
      refine ⟨_, rfl, p, _, _, _, rfl, rfl, SqT.of (s3 _ _ h1), rfl, _, rfl, t3, _, _, _, rfl, rfl, SqT.of (s3 _ _ h4), at_map hi, ?_⟩
      refine ⟨_, rfl, _, rfl, _, _, rfl, rfl, l, _, _, _, rfl, rfl, SqL.of (s3 _ _ hl), e2, ln2, fun t ht => ⟨⟨_, rfl⟩, s3.trans (Same.new ht _), ?_⟩⟩
      have e : (outs.zip xs.tail)[i]? = some (outs[i], xs[1 + i]) := List.getElem?_zip_eq_some.mpr ⟨List.getElem?_eq_getElem hi, by rw [List.getElem?_tail, Nat.add_comm i 1]; exact List.getElem?_eq_getElem hi2⟩
      rw [List.take_add_one, e]
      exact RPs.snoc (x := (outs[i], xs[1 + i])) upd_same (r3.same (Same.new ht _))
    rintro ys σ3 H3 ⟨_, s3, r3⟩ l' hl'
    rw [nn, ← lz, List.take_length] at r3
    exact k _ l' ys (s3.trans (Same.new hl' _)) upd_same (r3.same (Same.new hl' _))
  | choose h1 h2 h3 h4 =>
    rename_i p t0 t1 t2 ins ones noughts which told
    obtain ⟨o1, o2, o3, o4, o5⟩ := ok
    change xs.length = ins.length at wide
    refine ⟨_, rfl, p, _, _, _, rfl, rfl, SqT.of h1, rfl, rfl, _, rfl, ifNo (by decide +kernel) ?_⟩
    refine ⟨_, rfl, p, _, _, _, rfl, rfl, SqT.of h1, rfl, rfl, _, rfl, ifNo (by decide +kernel) ?_⟩
    refine ⟨_, rfl, p, _, _, _, rfl, rfl, SqT.of h1, rfl, rfl, _, rfl, ifNo (by decide +kernel) ?_⟩
    refine ⟨_, rfl, _, rfl, p, _, _, _, rfl, rfl, SqT.of h1, rfl, l, _, _, _, rfl, rfl, SqL.of hl, worth_at o1 (by omega), rfl, _, rfl, ?_⟩
    have nn : (((xs.map V.int).length : Nat) : Int).toNat = xs.length := by rw [List.length_map]; omega
    have km : PR.made xs (.choose ins which ones noughts told) = if xs.getD which.toNat 0 = 0 then noughts.zip xs ++ [(told, 0)] else ones.zip xs ++ [(told, 1)] := rfl
    rw [km] at k
    refine ite2 (fun c => ?_) (fun c => ?_)
    · rw [if_pos (int_yes c)] at k
      refine ⟨_, rfl, l, _, rfl, .inl (SqL.of hl), _, rfl, by rw [List.length_map]; omega, by rw [List.length_map]; omega, ?_⟩
      have lz : (noughts.zip xs).length = xs.length := by rw [List.length_zip]; omega
      refine comp_range0 (fun i ys σ H3 => (∃ v, σ = [v, some (.ref l), some (.ref p)]) ∧ Same H H3 ∧ RPs H3 ys ((noughts.zip xs).take i)) ⟨⟨none, rfl⟩, Same.refl _, .nil⟩ ?_ (len_le_line (m := 100) (by rw [nn]; omega)) ?_ ?_
      · rintro i ys σ H3 _ ⟨_, _, r3⟩
        rw [r3.len, List.length_take]
        omega
      · rintro i ys σ H3 hi ⟨⟨v, rfl⟩, s3, r3⟩
        rw [nn] at hi
        have hi2 : i < noughts.length := by omega
        refine ⟨_, rfl, p, _, _, _, rfl, rfl, SqT.of (s3 _ _ h1), rfl, _, rfl, t2, _, _, _, rfl, rfl, SqT.of (s3 _ _ h4), at_map hi2, ?_⟩
        refine ⟨_, rfl, _, rfl, l, _, _, _, rfl, rfl, SqL.of (s3 _ _ hl), at_map hi, ln2, fun t ht => ⟨⟨_, rfl⟩, s3.trans (Same.new ht _), ?_⟩⟩
        have e : (noughts.zip xs)[i]? = some (noughts[i], xs[i]) := List.getElem?_zip_eq_some.mpr ⟨List.getElem?_eq_getElem hi2, List.getElem?_eq_getElem hi⟩
        rw [List.take_add_one, e]
        exact RPs.snoc (x := (noughts[i], xs[i])) upd_same (r3.same (Same.new ht _))
      rintro ys σ3 H3 ⟨_, s3, r3⟩ lz' hlz
      rw [nn, ← lz, List.take_length] at r3
      have s4 := Same.new hlz (.lst ys)
      refine ⟨_, rfl, p, _, _, _, rfl, rfl, SqT.of (s4 _ _ (s3 _ _ h1)), rfl, ln2, fun t4 ht4 => ⟨ln1, fun l4 hl4 => ?_⟩⟩
      have s5 := (Same.new ht4 (.tup [.int told, .int 0])).trans (Same.new hl4 (.lst [.ref t4]))
      refine ⟨lz', l4, ys, _, rfl, rfl, SqL.of (s5 _ _ upd_same), SqL.of upd_same, len_le_line (m := 1000) (by rw [r3.len, lz, List.length_singleton]; omega), fun l5 hl5 => ?_⟩
      have s6 := Same.new hl5 (.lst (ys ++ [.ref t4]))
      exact k _ l5 _ (s3.trans (s4.trans (s5.trans s6))) upd_same (RPs.same s6 (RPs.snoc (x := (told, 0)) (Same.new hl4 _ _ _ upd_same) ((r3.same s4).same s5)))
    · rw [if_neg (int_no c)] at k
      refine ⟨_, rfl, l, _, rfl, .inl (SqL.of hl), _, rfl, by rw [List.length_map]; omega, by rw [List.length_map]; omega, ?_⟩
      have lz : (ones.zip xs).length = xs.length := by rw [List.length_zip]; omega
      refine comp_range0 (fun i ys σ H3 => (∃ v, σ = [v, some (.ref l), some (.ref p)]) ∧ Same H H3 ∧ RPs H3 ys ((ones.zip xs).take i)) ⟨⟨none, rfl⟩, Same.refl _, .nil⟩ ?_ (len_le_line (m := 100) (by rw [nn]; omega)) ?_ ?_
      · rintro i ys σ H3 _ ⟨_, _, r3⟩
        rw [r3.len, List.length_take]
        omega
      · rintro i ys σ H3 hi ⟨⟨v, rfl⟩, s3, r3⟩
        rw [nn] at hi
        have hi2 : i < ones.length := by omega
        refine ⟨_, rfl, p, _, _, _, rfl, rfl, SqT.of (s3 _ _ h1), rfl, _, rfl, t1, _, _, _, rfl, rfl, SqT.of (s3 _ _ h3), at_map hi2, ?_⟩
        refine ⟨_, rfl, _, rfl, l, _, _, _, rfl, rfl, SqL.of (s3 _ _ hl), at_map hi, ln2, fun t ht => ⟨⟨_, rfl⟩, s3.trans (Same.new ht _), ?_⟩⟩
        have e : (ones.zip xs)[i]? = some (ones[i], xs[i]) := List.getElem?_zip_eq_some.mpr ⟨List.getElem?_eq_getElem hi2, List.getElem?_eq_getElem hi⟩
        rw [List.take_add_one, e]
        exact RPs.snoc (x := (ones[i], xs[i])) upd_same (r3.same (Same.new ht _))
      rintro ys σ3 H3 ⟨_, s3, r3⟩ lz' hlz
      rw [nn, ← lz, List.take_length] at r3
      have s4 := Same.new hlz (.lst ys)
      refine ⟨_, rfl, p, _, _, _, rfl, rfl, SqT.of (s4 _ _ (s3 _ _ h1)), rfl, ln2, fun t4 ht4 => ⟨ln1, fun l4 hl4 => ?_⟩⟩
      have s5 := (Same.new ht4 (.tup [.int told, .int 1])).trans (Same.new hl4 (.lst [.ref t4]))
      refine ⟨lz', l4, ys, _, rfl, rfl, SqL.of (s5 _ _ upd_same), SqL.of upd_same, len_le_line (m := 1000) (by rw [r3.len, lz, List.length_singleton]; omega), fun l5 hl5 => ?_⟩
      have s6 := Same.new hl5 (.lst (ys ++ [.ref t4]))
      exact k _ l5 _ (s3.trans (s4.trans (s5.trans s6))) upd_same (RPs.same s6 (RPs.snoc (x := (told, 1)) (Same.new hl4 _ _ _ upd_same) ((r3.same s4).same s5)))
theorem many_ok {H : Hp} {v : V} {r : PR} {σ : St} {Q : VK} (h : RR H v r) (hv : σ[0]? = some (some v)) (q : Q (.int r.wide) H) :
    tIf (qTest (tOp qNe (tOp (qIxT K) (qVar 0) (tC (.int 0))) (tC (.str "merge")))) (tCB (qLen K) (tCons (tOp (qIxT K) (qVar 0) (tC (.int 1))) tNil)) (tOp qAdd (tC (.int 1)) (tCB (qLen K) (tCons (tOp (qIxT K) (qVar 0) (tC (.int 4))) tNil))) σ H Q := by
  cases h with
  | pass h1 h2 _ _ =>
    refine ⟨_, hv, _, _, _, _, rfl, rfl, SqT.of h1, rfl, rfl, _, rfl, ifYes (by decide +kernel) ⟨_, hv, _, _, _, _, rfl, rfl, SqT.of h1, rfl, _, _, rfl, .inr (SqT.of h2), ?_⟩⟩
    rw [List.length_map]
    exact q
  | work h1 h2 _ _ =>
    refine ⟨_, hv, _, _, _, _, rfl, rfl, SqT.of h1, rfl, rfl, _, rfl, ifYes (by decide +kernel) ⟨_, hv, _, _, _, _, rfl, rfl, SqT.of h1, rfl, _, _, rfl, .inr (SqT.of h2), ?_⟩⟩
    rw [List.length_map]
    exact q
  | choose h1 h2 _ _ =>
    refine ⟨_, hv, _, _, _, _, rfl, rfl, SqT.of h1, rfl, rfl, _, rfl, ifYes (by decide +kernel) ⟨_, hv, _, _, _, _, rfl, rfl, SqT.of h1, rfl, _, _, rfl, .inr (SqT.of h2), ?_⟩⟩
    rw [List.length_map]
    exact q
  | merge h1 _ _ h4 =>
    refine ⟨_, hv, _, _, _, _, rfl, rfl, SqT.of h1, rfl, rfl, _, rfl, ifNo (by decide +kernel) ⟨_, hv, _, _, _, _, rfl, rfl, SqT.of h1, rfl, _, _, rfl, .inr (SqT.of h4), _, _, rfl, rfl, ?_⟩⟩
    rw [List.length_map]
    exact q
theorem ok__law_things (T : Tx P w K mg a) : FnOk P w K mg base CX0 2 a._law_things a.fd__law_things ["_law_row_here", "_law_cell", "_law_k"] sp__law_things := by
  refine T.F__law_things.ok sc__law_things (fun vs H Q E h => ?_) (fun cdv A outer s H vs Q E hr h => ?_)
  · obtain ⟨_, _, _, _, rfl, _⟩ := h
    rfl
  obtain ⟨v, r, c, k, rfl, hrow, ok, hk, q⟩ := h
  refine ⟨_, (pss_cons (ps_set (i := 3) sc__law_things.nd rfl (Or.inl rfl) (pe_ifExp (pt_cmpQ qo_ne (pe_ix qx_tup (pq 0) pe_int (fun _ _ => rfl)) pe_str (nomark _)) (pe_callB qc_len rfl T.z_len PySem.boot_len (pa_cons (pe_ix qx_tup (pq 0) pe_int (fun _ _ => rfl)) pa_nil)) (pe_op qi_add pe_int (pe_callB qc_len rfl T.z_len PySem.boot_len (pa_cons (pe_ix qx_tup (pq 0) pe_int (fun _ _ => rfl)) pa_nil)))))
      (pss_cons (ps_set (i := 4) sc__law_things.nd rfl (Or.inl rfl) (pe_lstQ pa_nil))
      (pss_cons (ps_for PassesOwn.never rfl (pj_range1 rfl T.z_range (pa_cons (pq 3) pa_nil)) (pg_name (i := 5) sc__law_things.nd rfl (Or.inl rfl))
      (pss_cons (ps_set (i := 6) sc__law_things.nd rfl (Or.inl rfl) (pe_call (ok__law_mixed T) (hr.mono (by decide)) rfl T.m__law_mixed T.F__law_mixed.kp T.b__law_mixed .nil pass0 (pa_cons (pq 1) (pa_cons (pe_op qi_add (pe_op qi_add (pq 2) pe_int) (pq 5)) pa_nil))))
      (pss_one (ps_expr (pe_bmQ PySem.F.plainAttrs_list PySem.F.slot_list_append PySem.F.type_list_append qm_append (pq 4) (pa_cons (pe_ifExp (pt_cmpQ qo_eq (pe_op qi_mod (pq 6) pe_int) pe_int (nomark _)) (pe_call (ok__law_number T) (hr.mono (by decide)) rfl T.m__law_number T.F__law_number.kp T.b__law_number .nil pass0 (pa_cons (pq 1) (pa_cons (pe_op qi_fdiv (pq 6) pe_int) pa_nil))) (pe_op qi_sub (pe_op qi_mod (pq 6) pe_int) pe_int)) pa_nil))))))
      (pss_one (ps_ret (pq 4)))))), ?_⟩
  have w100 : r.wide ≤ 100 := by
    cases r with
    | pass _ _ _ => exact ok.2.2.1
    | work _ _ _ _ _ => exact ok.1
    | choose _ _ _ _ _ => exact ok.2.2.2.2
    | merge _ _ _ outs => have : outs.length ≤ 99 := ok; show 1 + outs.length ≤ 100; omega
  refine many_ok hrow rfl ?_
  refine ⟨ln0, fun lo hlo => ?_⟩
  have ho : (upd H lo (.lst [])) lo = some (.lst []) := upd_same
  have so : Same H (upd H lo (.lst [])) := Same.new hlo _
  generalize upd H lo (.lst []) = H1 at ho so ⊢
  refine ⟨_, rfl, _, rfl, by omega, by omega, ?_⟩
  refine for_range (fun i σ H2 => ∃ z1 z2, σ = [some v, some (.int c), some (.int k), some (.int r.wide), some (.ref lo), z1, z2] ∧ Same H H2 ∧ ∃ xs : List Int, H2 lo = some (.lst (xs.map V.int)) ∧ xs.length = i ∧ ∀ x ∈ xs, OnW x) ⟨_, _, rfl, so, [], ho, rfl, by simp⟩ ?_ ?_
  · rintro i σ H2 hi ⟨z1, z2, rfl, s2, xs, h2, xl, on⟩
    have hi' : i < r.wide := by simpa using hi
    refine ⟨_, rfl, _, rfl, _, _, rfl, rfl, _, rfl, _, _, rfl, rfl, c, _, rfl, ⟨by omega, by omega⟩, fun m m0 m1 => ?_⟩
    have more : ∀ x : Int, OnW x → ∃ z1 z2, [some v, some (.int c), some (.int k), some (.int r.wide), some (.ref lo), some (V.int (0 + (i : Int))), some (.int m)] = [some v, some (.int c), some (.int k), some (.int r.wide), some (.ref lo), z1, z2] ∧ Same H (upd H2 lo (.lst (xs.map V.int ++ [.int x]))) ∧ ∃ ys : List Int, (upd H2 lo (.lst (xs.map V.int ++ [.int x]))) lo = some (.lst (ys.map V.int)) ∧ ys.length = i + 1 ∧ ∀ y ∈ ys, OnW y := fun x hx => by
      refine ⟨_, _, rfl, Same.over s2 hlo, xs ++ [x], by rw [upd_same, List.map_append]; rfl, by rw [List.length_append, xl]; rfl, fun y hy => ?_⟩
      rcases List.mem_append.mp hy with hy | hy
      · exact on y hy
      · rw [List.mem_singleton.mp hy]
        exact hx
    have len : (xs.map V.int).length < sizeLine := len_le_line (m := 1000) (by rw [List.length_map, xl]; omega)
    refine ⟨_, rfl, .inl ⟨rfl, _, SqL.of h2⟩, _, rfl, _, _, rfl, rfl, by decide, rfl, _, rfl, ite2 (fun cc => ?_) (fun cc => ?_)⟩
    · exact ⟨_, rfl, _, rfl, _, _, rfl, rfl, ⟨by decide, by decide⟩, c, _, rfl, ⟨by omega, by omega⟩, fun x hx => ⟨lo, _, _, rfl, rfl, h2, len, more x hx⟩⟩
    · have := int_no cc
      exact ⟨_, rfl, _, _, rfl, rfl, by decide, _, _, rfl, rfl, lo, _, _, rfl, rfl, h2, len, more _ ⟨by omega, by omega⟩⟩
  · rintro σ H2 ⟨z1, z2, rfl, s2, xs, h2, xl, on⟩
    exact ⟨_, rfl, q _ lo xs s2 h2 (by rw [xl]; simp) on⟩
theorem ok__law_kind (T : Tx P w K mg a) : FnOk P w K mg base CX0 1 a._law_kind a.fd__law_kind ["_law_part", "_law_word"] (sp__law_kind a) := by
  refine T.F__law_kind.ok sc__law_kind (fun vs H Q E h => ?_) (fun cdv A outer s H vs Q E hr h => ?_)
  · obtain ⟨_, _, rfl, _⟩ := h
    rfl
  obtain ⟨v, r, rfl, hp, k⟩ := h
  refine ⟨_, (pss_cons (ps_set (i := 2) sc__law_kind.nd rfl (Or.inl rfl) (pe_lstQ (pa_cons (pe_callB qc_isC rfl T.z_isinstance PyProof.Rows.Boot.«isinstance» (pa_cons (pq 0) (pa_cons (pe_glob (v := .ref a.C_Pass) rfl T.m_Pass rfl) pa_nil))) (pa_cons (pe_callB qc_isC rfl T.z_isinstance PyProof.Rows.Boot.«isinstance» (pa_cons (pq 0) (pa_cons (pe_glob (v := .ref a.C_Work) rfl T.m_Work rfl) pa_nil))) (pa_cons (pe_callB qc_isC rfl T.z_isinstance PyProof.Rows.Boot.«isinstance» (pa_cons (pq 0) (pa_cons (pe_glob (v := .ref a.C_Choose) rfl T.m_Choose rfl) pa_nil))) (pa_cons (pe_callB qc_isC rfl T.z_isinstance PyProof.Rows.Boot.«isinstance» (pa_cons (pq 0) (pa_cons (pe_glob (v := .ref a.C_Merge) rfl T.m_Merge rfl) pa_nil))) pa_nil))))))
      (pss_one (ps_ret (pe_and (pe_callB qc_isC rfl T.z_isinstance PyProof.Rows.Boot.«isinstance» (pa_cons (pq 0) (pa_cons (pe_glob (v := .ref a.C_Part) rfl T.m_Part rfl) pa_nil))) (pe_one (pe_cmpR (op_eqD hr.units) (pq 2) (pe_lstQ (pa_cons (pe_cmpR qo_eq (pq 1) pe_str (nomark _)) (pa_cons (pe_cmpR qo_eq (pq 1) pe_str (nomark _)) (pa_cons (pe_cmpR qo_eq (pq 1) pe_str (nomark _)) (pa_cons (pe_cmpR qo_eq (pq 1) pe_str (nomark _)) pa_nil))))) (nomark _))))))), ?_⟩
  have kinds : ∃ p C dx fs b1 b2 b3 b4, v = .ref p ∧ H p = some (.ins C dx fs) ∧ Cls K C ∧ IsK K C ∧ PySem.W.kitOne K (.ref C) (.ref a.C_Pass) = some b1 ∧ PySem.W.kitOne K (.ref C) (.ref a.C_Work) = some b2 ∧ PySem.W.kitOne K (.ref C) (.ref a.C_Choose) = some b3 ∧ PySem.W.kitOne K (.ref C) (.ref a.C_Merge) = some b4 ∧ PySem.W.kitOne K (.ref C) (.ref a.C_Part) = some true ∧
      decide (V.str r.word = V.str "pass") = b1 ∧ decide (V.str r.word = V.str "work") = b2 ∧ decide (V.str r.word = V.str "choose") = b3 ∧ decide (V.str r.word = V.str "merge") = b4 := by
    cases hp with
    | pass h1 _ _ => exact ⟨_, _, _, _, true, false, false, false, rfl, h1, T.cl_Pass, T.is_Pass, T.ki_Pass_Pass, T.ki_Pass_Work, T.ki_Pass_Choose, T.ki_Pass_Merge, T.ki_Pass_Part, decide_eq_true rfl, decide_eq_false (str_ne (x := "pass") (y := "work") (by decide +kernel)), decide_eq_false (str_ne (x := "pass") (y := "choose") (by decide +kernel)), decide_eq_false (str_ne (x := "pass") (y := "merge") (by decide +kernel))⟩
    | work h1 _ _ _ => exact ⟨_, _, _, _, false, true, false, false, rfl, h1, T.cl_Work, T.is_Work, T.ki_Work_Pass, T.ki_Work_Work, T.ki_Work_Choose, T.ki_Work_Merge, T.ki_Work_Part, decide_eq_false (str_ne (x := "work") (y := "pass") (by decide +kernel)), decide_eq_true rfl, decide_eq_false (str_ne (x := "work") (y := "choose") (by decide +kernel)), decide_eq_false (str_ne (x := "work") (y := "merge") (by decide +kernel))⟩
    | choose h1 _ _ => exact ⟨_, _, _, _, false, false, true, false, rfl, h1, T.cl_Choose, T.is_Choose, T.ki_Choose_Pass, T.ki_Choose_Work, T.ki_Choose_Choose, T.ki_Choose_Merge, T.ki_Choose_Part, decide_eq_false (str_ne (x := "choose") (y := "pass") (by decide +kernel)), decide_eq_false (str_ne (x := "choose") (y := "work") (by decide +kernel)), decide_eq_true rfl, decide_eq_false (str_ne (x := "choose") (y := "merge") (by decide +kernel))⟩
    | merge h1 _ => exact ⟨_, _, _, _, false, false, false, true, rfl, h1, T.cl_Merge, T.is_Merge, T.ki_Merge_Pass, T.ki_Merge_Work, T.ki_Merge_Choose, T.ki_Merge_Merge, T.ki_Merge_Part, decide_eq_false (str_ne (x := "merge") (y := "pass") (by decide +kernel)), decide_eq_false (str_ne (x := "merge") (y := "work") (by decide +kernel)), decide_eq_false (str_ne (x := "merge") (y := "choose") (by decide +kernel)), decide_eq_true rfl⟩
  obtain ⟨p, C, dx, fs, b1, b2, b3, b4, rfl, h1, cl, ik, k1, k2, k3, k4, k5, e1, e2, e3, e4⟩ := kinds
  refine ⟨_, rfl, _, _, _, b1, rfl, ik.ty cl h1, k1, _, rfl, _, _, _, b2, rfl, ik.ty cl h1, k2, _, rfl, _, _, _, b3, rfl, ik.ty cl h1, k3, _, rfl, _, _, _, b4, rfl, ik.ty cl h1, k4, ln4, fun lk hlk => ?_⟩
  have s1 := Same.new hlk (.lst [.bl b1, .bl b2, .bl b3, .bl b4])
  refine ⟨_, rfl, _, _, _, true, rfl, ik.ty cl (s1 _ _ h1), k5, _, rfl, ifYes rfl ?_⟩
  refine ⟨_, rfl, _, rfl, rfl, _, rfl, rfl, _, rfl, rfl, _, rfl, rfl, ln4, fun l2 hl2 => ?_⟩
  rw [e1, e2, e3, e4]
  have s2 := Same.new hl2 (.lst [.bl b1, .bl b2, .bl b3, .bl b4])
  have sh : SeqAt.shaped (.list [.bool b1, .bool b2, .bool b3, .bool b4]) = true := by cases b1 <;> cases b2 <;> cases b3 <;> cases b4 <;> decide +kernel
  refine ⟨_, _, .lst (SqL.of (s2 _ _ upd_same)) (.cons (.bl b1) (.cons (.bl b2) (.cons (.bl b3) (.cons (.bl b4) .nil)))), .lst (SqL.of upd_same) (.cons (.bl b1) (.cons (.bl b2) (.cons (.bl b3) (.cons (.bl b4) .nil)))), sh, sh, ?_⟩
  rw [SeqAt.eqv_refl _ (SeqAt.canLay_of_shaped sh)]
  exact k _ (s1.trans s2)
theorem dt_ints {K : PySem.W.Frag} {H : Hp} : ∀ xs : List Int, DtAll K H (xs.map V.int) (xs.map PyData.int)
  | [] => .nil
  | x :: r => .cons (.int x) (dt_ints r)
theorem ints_lay : ∀ xs : List Int, PyData.canLayAll0 (xs.map PyData.int) = true
  | [] => by simp [PyData.canLayAll0]
  | x :: r => by simp [PyData.canLayAll0, PyData.canLay0, ints_lay r]
theorem ints_depth : ∀ xs : List Int, PyData.depthAll (xs.map PyData.int) ≤ 1
  | [] => by simp [PyData.depthAll]
  | x :: r => by
    have := ints_depth r
    simp [PyData.depthAll, PyData.depth]
    omega
theorem two_shaped (xs ys : List Int) : SeqAt.shaped (.list [.list (xs.map PyData.int), .list (ys.map PyData.int)]) = true := by
  have h1 := ints_lay xs
  have h2 := ints_lay ys
  have h3 := ints_depth xs
  have h4 := ints_depth ys
  unfold SeqAt.shaped
  simp [PyData.canLay0, PyData.canLayAll0, PyData.depth, PyData.depthAll, h1, h2]
  omega
theorem meth_at (T : Tx P w K mg a) {H : Hp} {v : V} {r : PR} (h : RPt a H v r) {X : Cx} (e1 : X.prog = P) (e2 : X.w = w) (e3 : X.K = K) (e4 : X.mg = mg) (hr : Room 3 X.A) : ∃ p C dx fs, v = .ref p ∧ H p = some (.ins C dx fs) ∧ List.lookup ("made" : Str) fs = none ∧ MethAt X C "made" (sp_made a r.kind) := by
  subst e1 e2 e3 e4
  cases h with
  | pass h1 _ _ => exact ⟨_, _, _, _, rfl, h1, by rw [lookup_miss (by decide +kernel), lookup_miss (by decide +kernel), lookup_miss (by decide +kernel)]; rfl, 1, _, _, _, T.cl_Pass, T.mt_Pass_made, ok_Pass_made T, hr.mono (by decide), T.b_Pass_made⟩
  | work h1 _ _ _ => exact ⟨_, _, _, _, rfl, h1, by rw [lookup_miss (by decide +kernel), lookup_miss (by decide +kernel), lookup_miss (by decide +kernel), lookup_miss (by decide +kernel)]; rfl, 3, _, _, _, T.cl_Work, T.mt_Work_made, ok_Work_made T, hr.mono (by decide), T.b_Work_made⟩
  | choose h1 _ _ => exact ⟨_, _, _, _, rfl, h1, by rw [lookup_miss (by decide +kernel), lookup_miss (by decide +kernel), lookup_miss (by decide +kernel), lookup_miss (by decide +kernel), lookup_miss (by decide +kernel)]; rfl, 1, _, _, _, T.cl_Choose, T.mt_Choose_made, ok_Choose_made T, hr.mono (by decide), T.b_Choose_made⟩
  | merge h1 _ => exact ⟨_, _, _, _, rfl, h1, by rw [lookup_miss (by decide +kernel), lookup_miss (by decide +kernel), lookup_miss (by decide +kernel), lookup_miss (by decide +kernel)]; rfl, 1, _, _, _, T.cl_Merge, T.mt_Merge_made, ok_Merge_made T, hr.mono (by decide), T.b_Merge_made⟩
theorem made_few {r : PR} (ok : r.ok) (xs : List Int) : (r.made xs).length ≤ 10000 := by
  cases r with
  | pass ins outs route => obtain ⟨_, h, _⟩ := ok; show (outs.zip _).length ≤ _; rw [List.length_zip]; omega
  | work ins out sg l r => show 1 ≤ 10000; decide
  | choose ins which ones noughts told =>
    obtain ⟨_, _, h1, h2, h3⟩ := ok
    show (if xs.getD which.toNat 0 = 0 then noughts.zip xs ++ [(told, 0)] else ones.zip xs ++ [(told, 1)]).length ≤ _
    split <;> rw [List.length_append, List.length_zip, List.length_singleton] <;> omega
  | merge told ones noughts outs => have : outs.length ≤ 99 := ok; show (outs.zip _).length ≤ _; rw [List.length_zip]; omega
theorem ok_law (T : Tx P w K mg a) : FnOk P w K mg base CX0 9 a.law a.fd_law ["_law_script"] (sp_law K) := by
  refine T.F_law.ok sc_law (fun vs H Q E h => ?_) (fun cdv A outer s H vs Q E hr h => ?_)
  · obtain ⟨_, _, rfl, _⟩ := h
    rfl
  obtain ⟨l, ns, rfl, hS, h63, hbits, _, k⟩ := h
  refine ⟨_, (pss_cons (ps_set (i := 1) sc_law.nd rfl (Or.inl rfl) (pe_callTy qc_list rfl T.z_list PyProof.Rows.Boot.«list» (pa_cons (pq 0) pa_nil)))
      (pss_cons (ps_if (pt_cmpQ qo_eq (pe_callB qc_len rfl T.z_len PySem.boot_len (pa_cons (pq 1) pa_nil)) pe_int (nomark _)) (pss_one (ps_set (i := 1) sc_law.nd rfl (Or.inl rfl) (pe_lstQ (pa_cons pe_int pa_nil)))) pss_nil)
      (pss_cons (ps_for PassesOwn.never rfl (pi_enum rfl T.z_enumerate (pa_cons (pq 1) pa_nil)) (pg_tup rfl (pgs_cons (pg_name (i := 2) sc_law.nd rfl (Or.inl rfl)) (pgs_cons (pg_name (i := 3) sc_law.nd rfl (Or.inl rfl)) pgs_nil)))
      (pss_cons (ps_set (i := 4) sc_law.nd rfl (Or.inl rfl) (pe_call (ok__law_row T) (hr.mono (by decide)) rfl T.m__law_row T.F__law_row.kp T.b__law_row .nil pass0 (pa_cons (pq 3) (pa_cons (pq 2) (pa_cons pe_int pa_nil)))))
      (pss_cons (ps_set (i := 5) sc_law.nd rfl (Or.inl rfl) (pe_call (ok_part_of T) (hr.mono (by decide)) rfl T.m_part_of T.F_part_of.kp T.b_part_of .nil pass0 (pa_cons (pq 4) pa_nil)))
      (pss_cons (ps_if (pt_not (pt_valQ (pe_call (ok__law_kind T) (hr.mono (by decide)) rfl T.m__law_kind T.F__law_kind.kp T.b__law_kind .nil pass0 (pa_cons (pq 5) (pa_cons (pe_ix qx_tup (pq 4) pe_int (fun _ _ => rfl)) pa_nil))))) (pss_one (ps_ret pe_bl)) pss_nil)
      (pss_cons (ps_set (i := 6) sc_law.nd rfl (Or.inl rfl) (pe_call (ok__law_things T) (hr.mono (by decide)) rfl T.m__law_things T.F__law_things.kp T.b__law_things .nil pass0 (pa_cons (pq 4) (pa_cons (pq 3) (pa_cons (pq 2) pa_nil)))))
      (pss_cons (ps_set (i := 7) sc_law.nd rfl (Or.inl rfl) (pe_call (ok__law_things T) (hr.mono (by decide)) rfl T.m__law_things T.F__law_things.kp T.b__law_things .nil pass0 (pa_cons (pq 4) (pa_cons (pq 3) (pa_cons (pe_op qi_add (pq 2) pe_int) pa_nil)))))
      (pss_cons (ps_set (i := 8) sc_law.nd rfl (Or.inl rfl) (pe_lstQ (pa_cons (pe_callTy qc_list rfl T.z_list PyProof.Rows.Boot.«list» (pa_cons (pq 6) pa_nil)) (pa_cons (pe_callTy qc_list rfl T.z_list PyProof.Rows.Boot.«list» (pa_cons (pq 7) pa_nil)) pa_nil))))
      (pss_cons (ps_set (i := 9) sc_law.nd rfl (Or.inl rfl) (pe_methV (pq 5) (pa_cons (pe_ix qx_list (pq 8) pe_int (fun _ _ => rfl)) pa_nil)))
      (pss_cons (ps_set (i := 10) sc_law.nd rfl (Or.inl rfl) (pe_methV (pq 5) (pa_cons (pe_ix qx_list (pq 8) pe_int (fun _ _ => rfl)) pa_nil)))
      (pss_cons (ps_if (PW.pt (pw_or (pt_not (pt_valQ (pe_call (ok__law_alike T 4) (hr.mono (by decide)) rfl T.m__law_alike T.F__law_alike.kp T.b__law_alike .nil pass0 (pa_cons (pq 9) (pa_cons (pe_call (ok__law_makes T) (hr.mono (by decide)) rfl T.m__law_makes T.F__law_makes.kp T.b__law_makes .nil pass0 (pa_cons (pq 4) (pa_cons (pq 6) pa_nil))) pa_nil))))) (pw_or1 (pt_not (pt_valQ (pe_call (ok__law_alike T 4) (hr.mono (by decide)) rfl T.m__law_alike T.F__law_alike.kp T.b__law_alike .nil pass0 (pa_cons (pq 10) (pa_cons (pe_call (ok__law_makes T) (hr.mono (by decide)) rfl T.m__law_makes T.F__law_makes.kp T.b__law_makes .nil pass0 (pa_cons (pq 4) (pa_cons (pq 7) pa_nil))) pa_nil)))))))) (pss_one (ps_ret pe_bl)) pss_nil)
      (pss_one (ps_if (pt_cmpQ (op_neD hr.units) (pq 8) (pe_lstQ (pa_cons (pq 6) (pa_cons (pq 7) pa_nil))) (nomark _)) (pss_one (ps_ret pe_bl)) pss_nil))))))))))))
      (pss_one (ps_ret pe_bl))))), ?_⟩
  refine ⟨_, rfl, l, _, rfl, .inl hS, fun lc hlc => ?_⟩
  refine ⟨_, rfl, lc, _, rfl, .inl (SqL.of upd_same), rfl, _, rfl, ?_⟩
  have hc0 : (upd H lc (.lst (ns.map V.int))) lc = some (.lst (ns.map V.int)) := upd_same
  generalize upd H lc (.lst (ns.map V.int)) = H0 at hc0 ⊢
  refine join2' (w := lc) (z := H0) (P := fun lc Hc => ∃ ms : List Int, Hc lc = some (.lst (ms.map V.int)) ∧ ms.length ≤ 63) ⟨ns, hc0, h63⟩ ?_ (fun _ go => ?_)
  rotate_left
  · exact ⟨ln1, fun l1 hl1 => go l1 _ ⟨[0], upd_same, by decide⟩⟩
  rintro lc Hc ⟨ms, hc, hm⟩
  refine ⟨_, rfl, lc, (ms.map V.int), rfl, SqL.of hc, ?_⟩
  refine for_enum (K := K) (l := lc) (xs := (ms.map V.int)) (fun i σ H2 => ∃ z2 z3 z4 z5 z6 z7 z8 z9 z10, σ = [some (.ref l), some (.ref lc), z2, z3, z4, z5, z6, z7, z8, z9, z10] ∧ Same Hc H2) ⟨_, _, _, _, _, _, _, _, _, rfl, Same.refl _⟩ ?_ ?_ ?_
  · rintro i σ H2 ⟨_, _, _, _, _, _, _, _, _, _, s2⟩
    exact SqL.of (s2 _ _ hc)
  · rintro i x σ H2 pt hx ⟨z2, z3, z4, z5, z6, z7, z8, z9, z10, rfl, s2⟩ hpt
    have hx' : ∃ n : Int, x = .int n := by
      rw [List.getElem?_map] at hx
      obtain ⟨n, _, rfl⟩ := Option.map_eq_some_iff.mp hx
      exact ⟨n, rfl⟩
    obtain ⟨n, rfl⟩ := hx'
    have lt : i < (ms.map V.int).length := (List.getElem?_eq_some_iff.mp hx).1
    rw [List.length_map] at lt
    have s3 := s2.trans (Same.new hpt (.tup [.int i, .int n]))
    refine ⟨pt, _, rfl, SqT.of upd_same, rfl, _, _, rfl, _, _, rfl, rfl, ?_⟩
    generalize upd H2 pt (.tup [.int i, .int n]) = H3 at s3 ⊢
    refine ⟨_, rfl, _, rfl, n, i, rfl, ⟨by omega, by omega⟩, fun H4 v r s4 rr4 ok => ?_⟩
    refine ⟨_, rfl, v, r, rfl, rr4, fun H5 p s5 rp5 => ?_⟩
    obtain ⟨pr, rest, rfl, hw⟩ := (rr4.same s5).word
    refine ⟨_, rfl, _, rfl, pr, _, _, _, rfl, rfl, SqT.of hw, at0, .ref p, r, rfl, rp5, fun H6 s6 => ⟨_, rfl, ifNo rfl ?_⟩⟩
    have rr6 := (rr4.same s5).same s6
    refine ⟨_, rfl, _, rfl, _, rfl, _, r, n, i, rfl, rr6, ok, ⟨by omega, by omega⟩, fun H7 l7 xs s7 h7 x7 o7 => ?_⟩
    refine ⟨_, rfl, _, rfl, _, rfl, _, _, rfl, rfl, _, r, n, _, rfl, rr6.same s7, ok, ⟨by omega, by omega⟩, fun H8 l8 ys s8 h8 y8 o8 => ?_⟩
    refine ⟨_, rfl, l7, _, rfl, .inl (SqL.of (s8 _ _ h7)), fun l9 h9 => ?_⟩
    have s9 := Same.new h9 (.lst (xs.map V.int))
    refine ⟨_, rfl, l8, _, rfl, .inl (SqL.of (s9 _ _ h8)), fun l10 h10 => ⟨ln2, fun lh hlh => ?_⟩⟩
    have s10 := Same.new h10 (.lst (ys.map V.int))
    have s11 := Same.new hlh (.lst [.ref l9, .ref l10])
    have hl9 : (upd (upd (upd H8 l9 (.lst (xs.map V.int))) l10 (.lst (ys.map V.int))) lh (.lst [.ref l9, .ref l10])) l9 = some (.lst (xs.map V.int)) := s11 _ _ (s10 _ _ upd_same)
    have hl10 : (upd (upd (upd H8 l9 (.lst (xs.map V.int))) l10 (.lst (ys.map V.int))) lh (.lst [.ref l9, .ref l10])) l10 = some (.lst (ys.map V.int)) := s11 _ _ upd_same
    have hhh : (upd (upd (upd H8 l9 (.lst (xs.map V.int))) l10 (.lst (ys.map V.int))) lh (.lst [.ref l9, .ref l10])) lh = some (.lst [.ref l9, .ref l10]) := upd_same
    have s811 := s9.trans (s10.trans s11)
    generalize upd (upd (upd H8 l9 (.lst (xs.map V.int))) l10 (.lst (ys.map V.int))) lh (.lst [.ref l9, .ref l10]) = Hk at hl9 hl10 hhh s811 ⊢
    have s5k := s6.trans (s7.trans (s8.trans s811))
    have rpk := rp5.same s5k
    have rrk := (rr4.same s5).same s5k
    have h7k := s811 _ _ (s8 _ _ h7)
    have h8k := s811 _ _ h8
    have skk : Same Hc Hk := s3.trans (s4.trans (s5.trans s5k))
    obtain ⟨_, C, dx, fs, ep, hpC, lk, ma⟩ := meth_at T rpk (X := (cxOf CX0 P w K mg base ["_law_script", "_law_cells", "_law_k", "_law_cell", "_law_row_here", "_law_part", "_law_things_here", "_law_others", "_law_handed", "_law_before", "_law_behind"] "law" (defScope s_law) a.law cdv A outer s H E).nox) rfl rfl rfl rfl (hr.mono (by decide))
    cases ep
    refine ⟨_, rfl, p, C, dx, fs, sp_made a r.kind, rfl, hpC, lk, ma, _, rfl, lh, _, _, _, rfl, rfl, SqL.of hhh, rfl, .ref p, l9, r, xs, rfl, rfl, rpk, ok, hl9, x7, o7, fun Hm lm us sm hm' rm => ?_⟩
    obtain ⟨_, C2, dx2, fs2, ep2, hpC2, lk2, ma2⟩ := meth_at T (rpk.same sm) (X := (cxOf CX0 P w K mg base ["_law_script", "_law_cells", "_law_k", "_law_cell", "_law_row_here", "_law_part", "_law_things_here", "_law_others", "_law_handed", "_law_before", "_law_behind"] "law" (defScope s_law) a.law cdv A outer s H E).nox) rfl rfl rfl rfl (hr.mono (by decide))
    cases ep2
    refine ⟨_, rfl, p, C2, dx2, fs2, sp_made a r.kind, rfl, hpC2, lk2, ma2, _, rfl, lh, _, _, _, rfl, rfl, SqL.of (sm _ _ hhh), rfl, .ref p, l10, r, ys, rfl, rfl, rpk.same sm, ok, sm _ _ hl10, y8, o8, fun Hn ln' us2 sn hn' rn => ?_⟩
    have smn := sm.trans sn
    refine ⟨_, rfl, _, rfl, _, rfl, _, l7, r, xs, rfl, rrk.same smn, ok, smn _ _ h7k, x7, o7, fun Ho lo us3 so ho' ro => ?_⟩
    have f1 := made_few ok xs
    have f2 := made_few ok ys
    refine ⟨_, _, 2, rfl, by decide, .lst (so _ _ (sn _ _ hm')) ho' (by rw [rm.len, ro.len]) (by rw [rm.len]; exact f1) (RPs.alb ((rm.same sn).same so) ro), _, rfl, ifNo rfl ?_⟩
    have smo := smn.trans so
    refine ⟨_, rfl, _, rfl, _, rfl, _, l8, r, ys, rfl, rrk.same smo, ok, smo _ _ h8k, y8, o8, fun Hq lq us4 sq hq' rq => ?_⟩
    refine ⟨_, _, 2, rfl, by decide, .lst (sq _ _ (so _ _ hn')) hq' (by rw [rn.len, rq.len]) (by rw [rn.len]; exact f2) (RPs.alb ((rn.same so).same sq) rq), _, rfl, ifNo rfl ?_⟩
    have smq := smo.trans sq
    refine ⟨_, rfl, _, rfl, _, rfl, ln2, fun le hle => ?_⟩
    have sl := Same.new hle (.lst [.ref l7, .ref l8])
    have sml := smq.trans sl
    refine ⟨_, _, .lst (SqL.of (sml _ _ hhh)) (.cons (.lst (SqL.of (sml _ _ hl9)) (dt_ints xs)) (.cons (.lst (SqL.of (sml _ _ hl10)) (dt_ints ys)) .nil)), .lst (SqL.of upd_same) (.cons (.lst (SqL.of (sml _ _ h7k)) (dt_ints xs)) (.cons (.lst (SqL.of (sml _ _ h8k)) (dt_ints ys)) .nil)), two_shaped xs ys, two_shaped xs ys, _, rfl, ifNo (by rw [SeqAt.eqv_refl _ (SeqAt.canLay_of_shaped (two_shaped xs ys))]; rfl) ?_⟩
    exact ⟨_, _, _, _, _, _, _, _, _, rfl, skk.trans sml⟩
  · rintro σ H2 ⟨_, _, _, _, _, _, _, _, _, rfl, s2⟩
    exact k _
end
theorem all_mk {l : PySem.W.OpenLaw} {w : World} {K : PySem.W.Frag} {h : Heap} {mg : Str → Option Value} {fa : Addr} (X : K.In h) (G : h.Ns mainGlobals mg) (hfa : mg "law" = some (.ref fa))
    {c_Part : Addr}
    (ac_Part : PySem.W.nsIn K mainGlobals "Part" = some (some (.ref c_Part)))
    (p1_Part : PySem.W.plainGet K c_Part Str.empty = true)
    (p2_Part : PySem.W.hasDictIn K c_Part = true)
    (p3_Part : PySem.W.plainOver K c_Part = true)
    (p4_Part : PySem.W.findIn K (.ref c_Part) "__setattr__" = some (some (.builtin "object.__setattr__")))
    (p5_Part : PySem.W.makesIn K c_Part = true)
    (p6_Part : PySem.W.keepIn K (.ref c_Part) = true)
    (nf_Part_ins : PySem.W.findIn K (.ref c_Part) "ins" = some none)
    {c_Pass : Addr}
    (ac_Pass : PySem.W.nsIn K mainGlobals "Pass" = some (some (.ref c_Pass)))
    (p1_Pass : PySem.W.plainGet K c_Pass Str.empty = true)
    (p2_Pass : PySem.W.hasDictIn K c_Pass = true)
    (p3_Pass : PySem.W.plainOver K c_Pass = true)
    (p4_Pass : PySem.W.findIn K (.ref c_Pass) "__setattr__" = some (some (.builtin "object.__setattr__")))
    (p5_Pass : PySem.W.makesIn K c_Pass = true)
    (p6_Pass : PySem.W.keepIn K (.ref c_Pass) = true)
    (nf_Pass_ins : PySem.W.findIn K (.ref c_Pass) "ins" = some none)
    (nf_Pass_outs : PySem.W.findIn K (.ref c_Pass) "outs" = some none)
    (nf_Pass_route : PySem.W.findIn K (.ref c_Pass) "route" = some none)
    {c_Work : Addr}
    (ac_Work : PySem.W.nsIn K mainGlobals "Work" = some (some (.ref c_Work)))
    (p1_Work : PySem.W.plainGet K c_Work Str.empty = true)
    (p2_Work : PySem.W.hasDictIn K c_Work = true)
    (p3_Work : PySem.W.plainOver K c_Work = true)
    (p4_Work : PySem.W.findIn K (.ref c_Work) "__setattr__" = some (some (.builtin "object.__setattr__")))
    (p5_Work : PySem.W.makesIn K c_Work = true)
    (p6_Work : PySem.W.keepIn K (.ref c_Work) = true)
    (nf_Work_ins : PySem.W.findIn K (.ref c_Work) "ins" = some none)
    (nf_Work_out : PySem.W.findIn K (.ref c_Work) "out" = some none)
    (nf_Work_sign : PySem.W.findIn K (.ref c_Work) "sign" = some none)
    (nf_Work_sides : PySem.W.findIn K (.ref c_Work) "sides" = some none)
    {c_Choose : Addr}
    (ac_Choose : PySem.W.nsIn K mainGlobals "Choose" = some (some (.ref c_Choose)))
    (p1_Choose : PySem.W.plainGet K c_Choose Str.empty = true)
    (p2_Choose : PySem.W.hasDictIn K c_Choose = true)
    (p3_Choose : PySem.W.plainOver K c_Choose = true)
    (p4_Choose : PySem.W.findIn K (.ref c_Choose) "__setattr__" = some (some (.builtin "object.__setattr__")))
    (p5_Choose : PySem.W.makesIn K c_Choose = true)
    (p6_Choose : PySem.W.keepIn K (.ref c_Choose) = true)
    (nf_Choose_ins : PySem.W.findIn K (.ref c_Choose) "ins" = some none)
    (nf_Choose_which : PySem.W.findIn K (.ref c_Choose) "which" = some none)
    (nf_Choose_ones : PySem.W.findIn K (.ref c_Choose) "ones" = some none)
    (nf_Choose_noughts : PySem.W.findIn K (.ref c_Choose) "noughts" = some none)
    (nf_Choose_told : PySem.W.findIn K (.ref c_Choose) "told" = some none)
    {c_Merge : Addr}
    (ac_Merge : PySem.W.nsIn K mainGlobals "Merge" = some (some (.ref c_Merge)))
    (p1_Merge : PySem.W.plainGet K c_Merge Str.empty = true)
    (p2_Merge : PySem.W.hasDictIn K c_Merge = true)
    (p3_Merge : PySem.W.plainOver K c_Merge = true)
    (p4_Merge : PySem.W.findIn K (.ref c_Merge) "__setattr__" = some (some (.builtin "object.__setattr__")))
    (p5_Merge : PySem.W.makesIn K c_Merge = true)
    (p6_Merge : PySem.W.keepIn K (.ref c_Merge) = true)
    (nf_Merge_ins : PySem.W.findIn K (.ref c_Merge) "ins" = some none)
    (nf_Merge_ones : PySem.W.findIn K (.ref c_Merge) "ones" = some none)
    (nf_Merge_noughts : PySem.W.findIn K (.ref c_Merge) "noughts" = some none)
    (nf_Merge_outs : PySem.W.findIn K (.ref c_Merge) "outs" = some none)
    (i1_Choose : PySem.W.findIn K (.ref c_Choose) "__class__" = some (some (.builtin "object.__class__")))
    (i2_Choose : PySem.W.specialIn K (.builtin "object.__class__") "__get__" = some (some (.builtin "getset_descriptor.__get__")))
    (i3_Choose : PySem.W.takesIn K (.builtin "object.__class__") = some true)
    (i4_Choose : PySem.W.mroIn K c_Choose (.type "object") = some true)
    (i1_Merge : PySem.W.findIn K (.ref c_Merge) "__class__" = some (some (.builtin "object.__class__")))
    (i2_Merge : PySem.W.specialIn K (.builtin "object.__class__") "__get__" = some (some (.builtin "getset_descriptor.__get__")))
    (i3_Merge : PySem.W.takesIn K (.builtin "object.__class__") = some true)
    (i4_Merge : PySem.W.mroIn K c_Merge (.type "object") = some true)
    (i1_Pass : PySem.W.findIn K (.ref c_Pass) "__class__" = some (some (.builtin "object.__class__")))
    (i2_Pass : PySem.W.specialIn K (.builtin "object.__class__") "__get__" = some (some (.builtin "getset_descriptor.__get__")))
    (i3_Pass : PySem.W.takesIn K (.builtin "object.__class__") = some true)
    (i4_Pass : PySem.W.mroIn K c_Pass (.type "object") = some true)
    (i1_Work : PySem.W.findIn K (.ref c_Work) "__class__" = some (some (.builtin "object.__class__")))
    (i2_Work : PySem.W.specialIn K (.builtin "object.__class__") "__get__" = some (some (.builtin "getset_descriptor.__get__")))
    (i3_Work : PySem.W.takesIn K (.builtin "object.__class__") = some true)
    (i4_Work : PySem.W.mroIn K c_Work (.type "object") = some true)
    (ki_Pass_Pass : PySem.W.kitOne K (.ref c_Pass) (.ref c_Pass) = some true)
    (ki_Pass_Work : PySem.W.kitOne K (.ref c_Pass) (.ref c_Work) = some false)
    (ki_Pass_Choose : PySem.W.kitOne K (.ref c_Pass) (.ref c_Choose) = some false)
    (ki_Pass_Merge : PySem.W.kitOne K (.ref c_Pass) (.ref c_Merge) = some false)
    (ki_Pass_Part : PySem.W.kitOne K (.ref c_Pass) (.ref c_Part) = some true)
    (ki_Work_Pass : PySem.W.kitOne K (.ref c_Work) (.ref c_Pass) = some false)
    (ki_Work_Work : PySem.W.kitOne K (.ref c_Work) (.ref c_Work) = some true)
    (ki_Work_Choose : PySem.W.kitOne K (.ref c_Work) (.ref c_Choose) = some false)
    (ki_Work_Merge : PySem.W.kitOne K (.ref c_Work) (.ref c_Merge) = some false)
    (ki_Work_Part : PySem.W.kitOne K (.ref c_Work) (.ref c_Part) = some true)
    (ki_Choose_Pass : PySem.W.kitOne K (.ref c_Choose) (.ref c_Pass) = some false)
    (ki_Choose_Work : PySem.W.kitOne K (.ref c_Choose) (.ref c_Work) = some false)
    (ki_Choose_Choose : PySem.W.kitOne K (.ref c_Choose) (.ref c_Choose) = some true)
    (ki_Choose_Merge : PySem.W.kitOne K (.ref c_Choose) (.ref c_Merge) = some false)
    (ki_Choose_Part : PySem.W.kitOne K (.ref c_Choose) (.ref c_Part) = some true)
    (ki_Merge_Pass : PySem.W.kitOne K (.ref c_Merge) (.ref c_Pass) = some false)
    (ki_Merge_Work : PySem.W.kitOne K (.ref c_Merge) (.ref c_Work) = some false)
    (ki_Merge_Choose : PySem.W.kitOne K (.ref c_Merge) (.ref c_Choose) = some false)
    (ki_Merge_Merge : PySem.W.kitOne K (.ref c_Merge) (.ref c_Merge) = some true)
    (ki_Merge_Part : PySem.W.kitOne K (.ref c_Merge) (.ref c_Part) = some true)
    {f0 : Addr} {od0 an0 : Option Addr} {sl0 : Array (Option Value)} {oc0 kV0 dc0 pm0 cd0 ct0 : Value}
    (a0 : PySem.W.nsIn K mainGlobals "done" = some (some (.ref f0)))
    (l0 : K.lookup f0 = some ⟨oc0, od0, .func (PySem.W.fnOf "done" "done" (defArgs s_done) (defBody s_done) (defScope s_done) .none kV0 dc0 pm0 an0 cd0 ct0), sl0⟩)
    (c0 : PySem.W.codeIn K cd0 "done" = true)
    (k0 : PySem.W.keepIn K (.ref f0) = true)
    {f1 : Addr} {od1 an1 : Option Addr} {sl1 : Array (Option Value)} {oc1 kV1 dc1 pm1 cd1 ct1 : Value}
    (a1 : PySem.W.nsIn K mainGlobals "reckoned" = some (some (.ref f1)))
    (l1 : K.lookup f1 = some ⟨oc1, od1, .func (PySem.W.fnOf "reckoned" "reckoned" (defArgs s_reckoned) (defBody s_reckoned) (defScope s_reckoned) .none kV1 dc1 pm1 an1 cd1 ct1), sl1⟩)
    (c1 : PySem.W.codeIn K cd1 "reckoned" = true)
    (k1 : PySem.W.keepIn K (.ref f1) = true)
    {f2 : Addr} {od2 an2 : Option Addr} {sl2 : Array (Option Value)} {oc2 kV2 dc2 pm2 cd2 ct2 : Value}
    (q2 : PySem.W.findIn K (.ref c_Part) "__init__" = some (some (.ref f2)))
    (fn2 : PySem.W.isFn K (.ref f2) = true)
    (l2 : K.lookup f2 = some ⟨oc2, od2, .func (PySem.W.fnOf "__init__" "Part.__init__" (defArgs s_Part___init__) (defBody s_Part___init__) (defScope s_Part___init__) .none kV2 dc2 pm2 an2 cd2 ct2), sl2⟩)
    (c2 : PySem.W.codeIn K cd2 "Part.__init__" = true)
    (k2 : PySem.W.keepIn K (.ref f2) = true)
    {f3 : Addr} {od3 an3 : Option Addr} {sl3 : Array (Option Value)} {oc3 kV3 dc3 pm3 cd3 ct3 : Value}
    (q3 : PySem.W.findIn K (.ref c_Pass) "__init__" = some (some (.ref f3)))
    (fn3 : PySem.W.isFn K (.ref f3) = true)
    (l3 : K.lookup f3 = some ⟨oc3, od3, .func (PySem.W.fnOf "__init__" "Pass.__init__" (defArgs s_Pass___init__) (defBody s_Pass___init__) (defScope s_Pass___init__) .none kV3 dc3 pm3 an3 cd3 ct3), sl3⟩)
    (c3 : PySem.W.codeIn K cd3 "Pass.__init__" = true)
    (k3 : PySem.W.keepIn K (.ref f3) = true)
    {f4 : Addr} {od4 an4 : Option Addr} {sl4 : Array (Option Value)} {oc4 kV4 dc4 pm4 cd4 ct4 : Value}
    (q4 : PySem.W.findIn K (.ref c_Pass) "made" = some (some (.ref f4)))
    (fn4 : PySem.W.isFn K (.ref f4) = true)
    (l4 : K.lookup f4 = some ⟨oc4, od4, .func (PySem.W.fnOf "made" "Pass.made" (defArgs s_Pass_made) (defBody s_Pass_made) (defScope s_Pass_made) .none kV4 dc4 pm4 an4 cd4 ct4), sl4⟩)
    (c4 : PySem.W.codeIn K cd4 "Pass.made" = true)
    (k4 : PySem.W.keepIn K (.ref f4) = true)
    {f5 : Addr} {od5 an5 : Option Addr} {sl5 : Array (Option Value)} {oc5 kV5 dc5 pm5 cd5 ct5 : Value}
    (q5 : PySem.W.findIn K (.ref c_Work) "__init__" = some (some (.ref f5)))
    (fn5 : PySem.W.isFn K (.ref f5) = true)
    (l5 : K.lookup f5 = some ⟨oc5, od5, .func (PySem.W.fnOf "__init__" "Work.__init__" (defArgs s_Work___init__) (defBody s_Work___init__) (defScope s_Work___init__) .none kV5 dc5 pm5 an5 cd5 ct5), sl5⟩)
    (c5 : PySem.W.codeIn K cd5 "Work.__init__" = true)
    (k5 : PySem.W.keepIn K (.ref f5) = true)
    {f6 : Addr} {od6 an6 : Option Addr} {sl6 : Array (Option Value)} {oc6 kV6 dc6 pm6 cd6 ct6 : Value}
    (q6 : PySem.W.findIn K (.ref c_Work) "made" = some (some (.ref f6)))
    (fn6 : PySem.W.isFn K (.ref f6) = true)
    (l6 : K.lookup f6 = some ⟨oc6, od6, .func (PySem.W.fnOf "made" "Work.made" (defArgs s_Work_made) (defBody s_Work_made) (defScope s_Work_made) .none kV6 dc6 pm6 an6 cd6 ct6), sl6⟩)
    (c6 : PySem.W.codeIn K cd6 "Work.made" = true)
    (k6 : PySem.W.keepIn K (.ref f6) = true)
    {f7 : Addr} {od7 an7 : Option Addr} {sl7 : Array (Option Value)} {oc7 kV7 dc7 pm7 cd7 ct7 : Value}
    (q7 : PySem.W.findIn K (.ref c_Choose) "__init__" = some (some (.ref f7)))
    (fn7 : PySem.W.isFn K (.ref f7) = true)
    (l7 : K.lookup f7 = some ⟨oc7, od7, .func (PySem.W.fnOf "__init__" "Choose.__init__" (defArgs s_Choose___init__) (defBody s_Choose___init__) (defScope s_Choose___init__) .none kV7 dc7 pm7 an7 cd7 ct7), sl7⟩)
    (c7 : PySem.W.codeIn K cd7 "Choose.__init__" = true)
    (k7 : PySem.W.keepIn K (.ref f7) = true)
    {f8 : Addr} {od8 an8 : Option Addr} {sl8 : Array (Option Value)} {oc8 kV8 dc8 pm8 cd8 ct8 : Value}
    (q8 : PySem.W.findIn K (.ref c_Choose) "made" = some (some (.ref f8)))
    (fn8 : PySem.W.isFn K (.ref f8) = true)
    (l8 : K.lookup f8 = some ⟨oc8, od8, .func (PySem.W.fnOf "made" "Choose.made" (defArgs s_Choose_made) (defBody s_Choose_made) (defScope s_Choose_made) .none kV8 dc8 pm8 an8 cd8 ct8), sl8⟩)
    (c8 : PySem.W.codeIn K cd8 "Choose.made" = true)
    (k8 : PySem.W.keepIn K (.ref f8) = true)
    {f9 : Addr} {od9 an9 : Option Addr} {sl9 : Array (Option Value)} {oc9 kV9 dc9 pm9 cd9 ct9 : Value}
    (q9 : PySem.W.findIn K (.ref c_Merge) "__init__" = some (some (.ref f9)))
    (fn9 : PySem.W.isFn K (.ref f9) = true)
    (l9 : K.lookup f9 = some ⟨oc9, od9, .func (PySem.W.fnOf "__init__" "Merge.__init__" (defArgs s_Merge___init__) (defBody s_Merge___init__) (defScope s_Merge___init__) .none kV9 dc9 pm9 an9 cd9 ct9), sl9⟩)
    (c9 : PySem.W.codeIn K cd9 "Merge.__init__" = true)
    (k9 : PySem.W.keepIn K (.ref f9) = true)
    {f10 : Addr} {od10 an10 : Option Addr} {sl10 : Array (Option Value)} {oc10 kV10 dc10 pm10 cd10 ct10 : Value}
    (q10 : PySem.W.findIn K (.ref c_Merge) "made" = some (some (.ref f10)))
    (fn10 : PySem.W.isFn K (.ref f10) = true)
    (l10 : K.lookup f10 = some ⟨oc10, od10, .func (PySem.W.fnOf "made" "Merge.made" (defArgs s_Merge_made) (defBody s_Merge_made) (defScope s_Merge_made) .none kV10 dc10 pm10 an10 cd10 ct10), sl10⟩)
    (c10 : PySem.W.codeIn K cd10 "Merge.made" = true)
    (k10 : PySem.W.keepIn K (.ref f10) = true)
    {f11 : Addr} {od11 an11 : Option Addr} {sl11 : Array (Option Value)} {oc11 kV11 dc11 pm11 cd11 ct11 : Value}
    (a11 : PySem.W.nsIn K mainGlobals "on_side" = some (some (.ref f11)))
    (l11 : K.lookup f11 = some ⟨oc11, od11, .func (PySem.W.fnOf "on_side" "on_side" (defArgs s_on_side) (defBody s_on_side) (defScope s_on_side) .none kV11 dc11 pm11 an11 cd11 ct11), sl11⟩)
    (c11 : PySem.W.codeIn K cd11 "on_side" = true)
    (k11 : PySem.W.keepIn K (.ref f11) = true)
    {f12 : Addr} {od12 an12 : Option Addr} {sl12 : Array (Option Value)} {oc12 kV12 dc12 pm12 cd12 ct12 : Value}
    (a12 : PySem.W.nsIn K mainGlobals "part_of" = some (some (.ref f12)))
    (l12 : K.lookup f12 = some ⟨oc12, od12, .func (PySem.W.fnOf "part_of" "part_of" (defArgs s_part_of) (defBody s_part_of) (defScope s_part_of) .none kV12 dc12 pm12 an12 cd12 ct12), sl12⟩)
    (c12 : PySem.W.codeIn K cd12 "part_of" = true)
    (k12 : PySem.W.keepIn K (.ref f12) = true)
    {f13 : Addr} {od13 an13 : Option Addr} {sl13 : Array (Option Value)} {oc13 kV13 dc13 pm13 cd13 ct13 : Value}
    (a13 : PySem.W.nsIn K mainGlobals "_law_mixed" = some (some (.ref f13)))
    (l13 : K.lookup f13 = some ⟨oc13, od13, .func (PySem.W.fnOf "_law_mixed" "_law_mixed" (defArgs s__law_mixed) (defBody s__law_mixed) (defScope s__law_mixed) .none kV13 dc13 pm13 an13 cd13 ct13), sl13⟩)
    (c13 : PySem.W.codeIn K cd13 "_law_mixed" = true)
    (k13 : PySem.W.keepIn K (.ref f13) = true)
    {f14 : Addr} {od14 an14 : Option Addr} {sl14 : Array (Option Value)} {oc14 kV14 dc14 pm14 cd14 ct14 : Value}
    (a14 : PySem.W.nsIn K mainGlobals "_law_number" = some (some (.ref f14)))
    (l14 : K.lookup f14 = some ⟨oc14, od14, .func (PySem.W.fnOf "_law_number" "_law_number" (defArgs s__law_number) (defBody s__law_number) (defScope s__law_number) .none kV14 dc14 pm14 an14 cd14 ct14), sl14⟩)
    (c14 : PySem.W.codeIn K cd14 "_law_number" = true)
    (k14 : PySem.W.keepIn K (.ref f14) = true)
    {f15 : Addr} {od15 an15 : Option Addr} {sl15 : Array (Option Value)} {oc15 kV15 dc15 pm15 cd15 ct15 : Value}
    (a15 : PySem.W.nsIn K mainGlobals "_law_sign" = some (some (.ref f15)))
    (l15 : K.lookup f15 = some ⟨oc15, od15, .func (PySem.W.fnOf "_law_sign" "_law_sign" (defArgs s__law_sign) (defBody s__law_sign) (defScope s__law_sign) .none kV15 dc15 pm15 an15 cd15 ct15), sl15⟩)
    (c15 : PySem.W.codeIn K cd15 "_law_sign" = true)
    (k15 : PySem.W.keepIn K (.ref f15) = true)
    {f16 : Addr} {od16 an16 : Option Addr} {sl16 : Array (Option Value)} {oc16 kV16 dc16 pm16 cd16 ct16 : Value}
    (a16 : PySem.W.nsIn K mainGlobals "_law_alike" = some (some (.ref f16)))
    (l16 : K.lookup f16 = some ⟨oc16, od16, .func (PySem.W.fnOf "_law_alike" "_law_alike" (defArgs s__law_alike) (defBody s__law_alike) (defScope s__law_alike) .none kV16 dc16 pm16 an16 cd16 ct16), sl16⟩)
    (c16 : PySem.W.codeIn K cd16 "_law_alike" = true)
    (k16 : PySem.W.keepIn K (.ref f16) = true)
    {f17 : Addr} {od17 an17 : Option Addr} {sl17 : Array (Option Value)} {oc17 kV17 dc17 pm17 cd17 ct17 : Value}
    (a17 : PySem.W.nsIn K mainGlobals "_law_lines" = some (some (.ref f17)))
    (l17 : K.lookup f17 = some ⟨oc17, od17, .func (PySem.W.fnOf "_law_lines" "_law_lines" (defArgs s__law_lines) (defBody s__law_lines) (defScope s__law_lines) .none kV17 dc17 pm17 an17 cd17 ct17), sl17⟩)
    (c17 : PySem.W.codeIn K cd17 "_law_lines" = true)
    (k17 : PySem.W.keepIn K (.ref f17) = true)
    {f18 : Addr} {od18 an18 : Option Addr} {sl18 : Array (Option Value)} {oc18 kV18 dc18 pm18 cd18 ct18 : Value}
    (a18 : PySem.W.nsIn K mainGlobals "_law_side" = some (some (.ref f18)))
    (l18 : K.lookup f18 = some ⟨oc18, od18, .func (PySem.W.fnOf "_law_side" "_law_side" (defArgs s__law_side) (defBody s__law_side) (defScope s__law_side) .none kV18 dc18 pm18 an18 cd18 ct18), sl18⟩)
    (c18 : PySem.W.codeIn K cd18 "_law_side" = true)
    (k18 : PySem.W.keepIn K (.ref f18) = true)
    {f19 : Addr} {od19 an19 : Option Addr} {sl19 : Array (Option Value)} {oc19 kV19 dc19 pm19 cd19 ct19 : Value}
    (a19 : PySem.W.nsIn K mainGlobals "_law_row" = some (some (.ref f19)))
    (l19 : K.lookup f19 = some ⟨oc19, od19, .func (PySem.W.fnOf "_law_row" "_law_row" (defArgs s__law_row) (defBody s__law_row) (defScope s__law_row) .none kV19 dc19 pm19 an19 cd19 ct19), sl19⟩)
    (c19 : PySem.W.codeIn K cd19 "_law_row" = true)
    (k19 : PySem.W.keepIn K (.ref f19) = true)
    {f20 : Addr} {od20 an20 : Option Addr} {sl20 : Array (Option Value)} {oc20 kV20 dc20 pm20 cd20 ct20 : Value}
    (a20 : PySem.W.nsIn K mainGlobals "_law_number_at" = some (some (.ref f20)))
    (l20 : K.lookup f20 = some ⟨oc20, od20, .func (PySem.W.fnOf "_law_number_at" "_law_number_at" (defArgs s__law_number_at) (defBody s__law_number_at) (defScope s__law_number_at) .none kV20 dc20 pm20 an20 cd20 ct20), sl20⟩)
    (c20 : PySem.W.codeIn K cd20 "_law_number_at" = true)
    (k20 : PySem.W.keepIn K (.ref f20) = true)
    {f21 : Addr} {od21 an21 : Option Addr} {sl21 : Array (Option Value)} {oc21 kV21 dc21 pm21 cd21 ct21 : Value}
    (a21 : PySem.W.nsIn K mainGlobals "_law_makes" = some (some (.ref f21)))
    (l21 : K.lookup f21 = some ⟨oc21, od21, .func (PySem.W.fnOf "_law_makes" "_law_makes" (defArgs s__law_makes) (defBody s__law_makes) (defScope s__law_makes) .none kV21 dc21 pm21 an21 cd21 ct21), sl21⟩)
    (c21 : PySem.W.codeIn K cd21 "_law_makes" = true)
    (k21 : PySem.W.keepIn K (.ref f21) = true)
    {f22 : Addr} {od22 an22 : Option Addr} {sl22 : Array (Option Value)} {oc22 kV22 dc22 pm22 cd22 ct22 : Value}
    (a22 : PySem.W.nsIn K mainGlobals "_law_things" = some (some (.ref f22)))
    (l22 : K.lookup f22 = some ⟨oc22, od22, .func (PySem.W.fnOf "_law_things" "_law_things" (defArgs s__law_things) (defBody s__law_things) (defScope s__law_things) .none kV22 dc22 pm22 an22 cd22 ct22), sl22⟩)
    (c22 : PySem.W.codeIn K cd22 "_law_things" = true)
    (k22 : PySem.W.keepIn K (.ref f22) = true)
    {f23 : Addr} {od23 an23 : Option Addr} {sl23 : Array (Option Value)} {oc23 kV23 dc23 pm23 cd23 ct23 : Value}
    (a23 : PySem.W.nsIn K mainGlobals "_law_kind" = some (some (.ref f23)))
    (l23 : K.lookup f23 = some ⟨oc23, od23, .func (PySem.W.fnOf "_law_kind" "_law_kind" (defArgs s__law_kind) (defBody s__law_kind) (defScope s__law_kind) .none kV23 dc23 pm23 an23 cd23 ct23), sl23⟩)
    (c23 : PySem.W.codeIn K cd23 "_law_kind" = true)
    (k23 : PySem.W.keepIn K (.ref f23) = true)
    {f24 : Addr} {od24 an24 : Option Addr} {sl24 : Array (Option Value)} {oc24 kV24 dc24 pm24 cd24 ct24 : Value}
    (a24 : PySem.W.nsIn K mainGlobals "law" = some (some (.ref f24)))
    (l24 : K.lookup f24 = some ⟨oc24, od24, .func (PySem.W.fnOf "law" "law" (defArgs s_law) (defBody s_law) (defScope s_law) .none kV24 dc24 pm24 an24 cd24 ct24), sl24⟩)
    (c24 : PySem.W.codeIn K cd24 "law" = true)
    (k24 : PySem.W.keepIn K (.ref f24) = true)
    (g1_Part___init__ : PySem.W.specialIn K (.ref c_Part) "__getattribute__" = some (some (.builtin "type.__getattribute__")))
    (g2_Part___init__ : PySem.W.readsIn K c_Part (.type "type") = true)
    (g3_Part___init__ : PySem.W.findCls K (.ref c_Part) (.type "type") "__init__" = some (.val (.ref f2)))
    (z_bool : PySem.W.nsIn K mainGlobals "bool" = some none)
    (z_enumerate : PySem.W.nsIn K mainGlobals "enumerate" = some none)
    (z_int : PySem.W.nsIn K mainGlobals "int" = some none)
    (z_isinstance : PySem.W.nsIn K mainGlobals "isinstance" = some none)
    (z_len : PySem.W.nsIn K mainGlobals "len" = some none)
    (z_list : PySem.W.nsIn K mainGlobals "list" = some none)
    (z_range : PySem.W.nsIn K mainGlobals "range" = some none)
    (z_reversed : PySem.W.nsIn K mainGlobals "reversed" = some none)
    (z_str : PySem.W.nsIn K mainGlobals "str" = some none)
    (z_tuple : PySem.W.nsIn K mainGlobals "tuple" = some none)
    (z_zip : PySem.W.nsIn K mainGlobals "zip" = some none)
    {tk_WHEEL : Tok} (c_WHEEL : PySem.W.nsIn K mainGlobals "WHEEL" = some (some (.int 1000000000000000000000000000000 tk_WHEEL))) :
    ∃ fd : FuncData, (∀ (s : Shared) (v : Value), BindsTo s fd ⟨[v], []⟩ [("_law_script", v)]) ∧ ∀ base : Heap, K.In base → base.Ns mainGlobals mg → FnOk l.prog w K mg base CX0 9 fa fd ["_law_script"] (sp_law K) := by
  have e := hfa.symm.trans (PySem.W.mg_of X G a24)
  cases e
  have F0 := fun_mk (st := s_done) l0 c0 k0
  have b0 := F0.binds (ps := ["sign", "a", "b"]) fun _ _ _ _ _ _ us hl => match us, hl with | [_, _, _], _ => rfl
  have F1 := fun_mk (st := s_reckoned) l1 c1 k1
  have b1 := F1.binds (ps := ["sign", "a", "b"]) fun _ _ _ _ _ _ us hl => match us, hl with | [_, _, _], _ => rfl
  have F2 := fun_mk (st := s_Part___init__) l2 c2 k2
  have b2 := F2.binds (ps := ["self", "ins"]) fun _ _ _ _ _ _ us hl => match us, hl with | [_, _], _ => rfl
  have F3 := fun_mk (st := s_Pass___init__) l3 c3 k3
  have b3 := F3.binds (ps := ["self", "ins", "outs", "route"]) fun _ _ _ _ _ _ us hl => match us, hl with | [_, _, _, _], _ => rfl
  have F4 := fun_mk (st := s_Pass_made) l4 c4 k4
  have b4 := F4.binds (ps := ["self", "things"]) fun _ _ _ _ _ _ us hl => match us, hl with | [_, _], _ => rfl
  have F5 := fun_mk (st := s_Work___init__) l5 c5 k5
  have b5 := F5.binds (ps := ["self", "ins", "out", "sign", "sides"]) fun _ _ _ _ _ _ us hl => match us, hl with | [_, _, _, _, _], _ => rfl
  have F6 := fun_mk (st := s_Work_made) l6 c6 k6
  have b6 := F6.binds (ps := ["self", "things"]) fun _ _ _ _ _ _ us hl => match us, hl with | [_, _], _ => rfl
  have F7 := fun_mk (st := s_Choose___init__) l7 c7 k7
  have b7 := F7.binds (ps := ["self", "ins", "which", "ones", "noughts", "told"]) fun _ _ _ _ _ _ us hl => match us, hl with | [_, _, _, _, _, _], _ => rfl
  have F8 := fun_mk (st := s_Choose_made) l8 c8 k8
  have b8 := F8.binds (ps := ["self", "things"]) fun _ _ _ _ _ _ us hl => match us, hl with | [_, _], _ => rfl
  have F9 := fun_mk (st := s_Merge___init__) l9 c9 k9
  have b9 := F9.binds (ps := ["self", "told", "ones", "noughts", "outs"]) fun _ _ _ _ _ _ us hl => match us, hl with | [_, _, _, _, _], _ => rfl
  have F10 := fun_mk (st := s_Merge_made) l10 c10 k10
  have b10 := F10.binds (ps := ["self", "things"]) fun _ _ _ _ _ _ us hl => match us, hl with | [_, _], _ => rfl
  have F11 := fun_mk (st := s_on_side) l11 c11 k11
  have b11 := F11.binds (ps := ["side", "things"]) fun _ _ _ _ _ _ us hl => match us, hl with | [_, _], _ => rfl
  have F12 := fun_mk (st := s_part_of) l12 c12 k12
  have b12 := F12.binds (ps := ["row"]) fun _ _ _ _ _ _ us hl => match us, hl with | [_], _ => rfl
  have F13 := fun_mk (st := s__law_mixed) l13 c13 k13
  have b13 := F13.binds (ps := ["_law_cell", "_law_k"]) fun _ _ _ _ _ _ us hl => match us, hl with | [_, _], _ => rfl
  have F14 := fun_mk (st := s__law_number) l14 c14 k14
  have b14 := F14.binds (ps := ["_law_cell", "_law_way"]) fun _ _ _ _ _ _ us hl => match us, hl with | [_, _], _ => rfl
  have F15 := fun_mk (st := s__law_sign) l15 c15 k15
  have b15 := F15.binds (ps := ["_law_sign_here", "_law_a", "_law_b"]) fun _ _ _ _ _ _ us hl => match us, hl with | [_, _, _], _ => rfl
  have F16 := fun_mk (st := s__law_alike) l16 c16 k16
  have b16 := F16.binds (ps := ["_law_found", "_law_due"]) fun _ _ _ _ _ _ us hl => match us, hl with | [_, _], _ => rfl
  have F17 := fun_mk (st := s__law_lines) l17 c17 k17
  have b17 := F17.binds (ps := ["_law_m", "_law_many", "_law_span"]) fun _ _ _ _ _ _ us hl => match us, hl with | [_, _, _], _ => rfl
  have F18 := fun_mk (st := s__law_side) l18 c18 k18
  have b18 := F18.binds (ps := ["_law_way", "_law_width", "_law_cell"]) fun _ _ _ _ _ _ us hl => match us, hl with | [_, _, _], _ => rfl
  have F19 := fun_mk (st := s__law_row) l19 c19 k19
  have b19 := F19.binds (ps := ["_law_cell", "_law_k", "_law_span"]) fun _ _ _ _ _ _ us hl => match us, hl with | [_, _, _], _ => rfl
  have F20 := fun_mk (st := s__law_number_at) l20 c20 k20
  have b20 := F20.binds (ps := ["_law_side_here", "_law_things_here"]) fun _ _ _ _ _ _ us hl => match us, hl with | [_, _], _ => rfl
  have F21 := fun_mk (st := s__law_makes) l21 c21 k21
  have b21 := F21.binds (ps := ["_law_row_here", "_law_things_here"]) fun _ _ _ _ _ _ us hl => match us, hl with | [_, _], _ => rfl
  have F22 := fun_mk (st := s__law_things) l22 c22 k22
  have b22 := F22.binds (ps := ["_law_row_here", "_law_cell", "_law_k"]) fun _ _ _ _ _ _ us hl => match us, hl with | [_, _, _], _ => rfl
  have F23 := fun_mk (st := s__law_kind) l23 c23 k23
  have b23 := F23.binds (ps := ["_law_part", "_law_word"]) fun _ _ _ _ _ _ us hl => match us, hl with | [_, _], _ => rfl
  have F24 := fun_mk (st := s_law) l24 c24 k24
  have b24 := F24.binds (ps := ["_law_script"]) fun _ _ _ _ _ _ us hl => match us, hl with | [_], _ => rfl
  have T : Tx l.prog w K mg (Adr.mk f0 (PySem.W.fnOf "done" "done" (defArgs s_done) (defBody s_done) (defScope s_done) .none kV0 dc0 pm0 an0 cd0 ct0) f1 (PySem.W.fnOf "reckoned" "reckoned" (defArgs s_reckoned) (defBody s_reckoned) (defScope s_reckoned) .none kV1 dc1 pm1 an1 cd1 ct1) f2 (PySem.W.fnOf "__init__" "Part.__init__" (defArgs s_Part___init__) (defBody s_Part___init__) (defScope s_Part___init__) .none kV2 dc2 pm2 an2 cd2 ct2) f3 (PySem.W.fnOf "__init__" "Pass.__init__" (defArgs s_Pass___init__) (defBody s_Pass___init__) (defScope s_Pass___init__) .none kV3 dc3 pm3 an3 cd3 ct3) f4 (PySem.W.fnOf "made" "Pass.made" (defArgs s_Pass_made) (defBody s_Pass_made) (defScope s_Pass_made) .none kV4 dc4 pm4 an4 cd4 ct4) f5 (PySem.W.fnOf "__init__" "Work.__init__" (defArgs s_Work___init__) (defBody s_Work___init__) (defScope s_Work___init__) .none kV5 dc5 pm5 an5 cd5 ct5) f6 (PySem.W.fnOf "made" "Work.made" (defArgs s_Work_made) (defBody s_Work_made) (defScope s_Work_made) .none kV6 dc6 pm6 an6 cd6 ct6) f7 (PySem.W.fnOf "__init__" "Choose.__init__" (defArgs s_Choose___init__) (defBody s_Choose___init__) (defScope s_Choose___init__) .none kV7 dc7 pm7 an7 cd7 ct7) f8 (PySem.W.fnOf "made" "Choose.made" (defArgs s_Choose_made) (defBody s_Choose_made) (defScope s_Choose_made) .none kV8 dc8 pm8 an8 cd8 ct8) f9 (PySem.W.fnOf "__init__" "Merge.__init__" (defArgs s_Merge___init__) (defBody s_Merge___init__) (defScope s_Merge___init__) .none kV9 dc9 pm9 an9 cd9 ct9) f10 (PySem.W.fnOf "made" "Merge.made" (defArgs s_Merge_made) (defBody s_Merge_made) (defScope s_Merge_made) .none kV10 dc10 pm10 an10 cd10 ct10) f11 (PySem.W.fnOf "on_side" "on_side" (defArgs s_on_side) (defBody s_on_side) (defScope s_on_side) .none kV11 dc11 pm11 an11 cd11 ct11) f12 (PySem.W.fnOf "part_of" "part_of" (defArgs s_part_of) (defBody s_part_of) (defScope s_part_of) .none kV12 dc12 pm12 an12 cd12 ct12) f13 (PySem.W.fnOf "_law_mixed" "_law_mixed" (defArgs s__law_mixed) (defBody s__law_mixed) (defScope s__law_mixed) .none kV13 dc13 pm13 an13 cd13 ct13) f14 (PySem.W.fnOf "_law_number" "_law_number" (defArgs s__law_number) (defBody s__law_number) (defScope s__law_number) .none kV14 dc14 pm14 an14 cd14 ct14) f15 (PySem.W.fnOf "_law_sign" "_law_sign" (defArgs s__law_sign) (defBody s__law_sign) (defScope s__law_sign) .none kV15 dc15 pm15 an15 cd15 ct15) f16 (PySem.W.fnOf "_law_alike" "_law_alike" (defArgs s__law_alike) (defBody s__law_alike) (defScope s__law_alike) .none kV16 dc16 pm16 an16 cd16 ct16) f17 (PySem.W.fnOf "_law_lines" "_law_lines" (defArgs s__law_lines) (defBody s__law_lines) (defScope s__law_lines) .none kV17 dc17 pm17 an17 cd17 ct17) f18 (PySem.W.fnOf "_law_side" "_law_side" (defArgs s__law_side) (defBody s__law_side) (defScope s__law_side) .none kV18 dc18 pm18 an18 cd18 ct18) f19 (PySem.W.fnOf "_law_row" "_law_row" (defArgs s__law_row) (defBody s__law_row) (defScope s__law_row) .none kV19 dc19 pm19 an19 cd19 ct19) f20 (PySem.W.fnOf "_law_number_at" "_law_number_at" (defArgs s__law_number_at) (defBody s__law_number_at) (defScope s__law_number_at) .none kV20 dc20 pm20 an20 cd20 ct20) f21 (PySem.W.fnOf "_law_makes" "_law_makes" (defArgs s__law_makes) (defBody s__law_makes) (defScope s__law_makes) .none kV21 dc21 pm21 an21 cd21 ct21) f22 (PySem.W.fnOf "_law_things" "_law_things" (defArgs s__law_things) (defBody s__law_things) (defScope s__law_things) .none kV22 dc22 pm22 an22 cd22 ct22) f23 (PySem.W.fnOf "_law_kind" "_law_kind" (defArgs s__law_kind) (defBody s__law_kind) (defScope s__law_kind) .none kV23 dc23 pm23 an23 cd23 ct23) fa (PySem.W.fnOf "law" "law" (defArgs s_law) (defBody s_law) (defScope s_law) .none kV24 dc24 pm24 an24 cd24 ct24) tk_WHEEL c_Part c_Pass c_Work c_Choose c_Merge) := Tx.mk F0 b0 (PySem.W.mg_of X G a0) F1 b1 (PySem.W.mg_of X G a1) F2 b2 F3 b3 F4 b4 F5 b5 F6 b6 F7 b7 F8 b8 F9 b9 F10 b10 F11 b11 (PySem.W.mg_of X G a11) F12 b12 (PySem.W.mg_of X G a12) F13 b13 (PySem.W.mg_of X G a13) F14 b14 (PySem.W.mg_of X G a14) F15 b15 (PySem.W.mg_of X G a15) F16 b16 (PySem.W.mg_of X G a16) F17 b17 (PySem.W.mg_of X G a17) F18 b18 (PySem.W.mg_of X G a18) F19 b19 (PySem.W.mg_of X G a19) F20 b20 (PySem.W.mg_of X G a20) F21 b21 (PySem.W.mg_of X G a21) F22 b22 (PySem.W.mg_of X G a22) F23 b23 (PySem.W.mg_of X G a23) F24 b24 (PySem.W.mg_of X G a24) (PySem.W.mg_none_of X G z_bool) (PySem.W.mg_none_of X G z_enumerate) (PySem.W.mg_none_of X G z_int) (PySem.W.mg_none_of X G z_isinstance) (PySem.W.mg_none_of X G z_len) (PySem.W.mg_none_of X G z_list) (PySem.W.mg_none_of X G z_range) (PySem.W.mg_none_of X G z_reversed) (PySem.W.mg_none_of X G z_str) (PySem.W.mg_none_of X G z_tuple) (PySem.W.mg_none_of X G z_zip) (PySem.W.mg_of X G c_WHEEL) (PySem.W.mg_of X G ac_Part) (Cls.mk p1_Part p2_Part p3_Part p4_Part) (Mk.mk p5_Part q2 fn2 p6_Part) nf_Part_ins (PySem.W.mg_of X G ac_Pass) (Cls.mk p1_Pass p2_Pass p3_Pass p4_Pass) (Mk.mk p5_Pass q3 fn3 p6_Pass) (Meth.mk q4 fn4 k4) nf_Pass_ins nf_Pass_outs nf_Pass_route (PySem.W.mg_of X G ac_Work) (Cls.mk p1_Work p2_Work p3_Work p4_Work) (Mk.mk p5_Work q5 fn5 p6_Work) (Meth.mk q6 fn6 k6) nf_Work_ins nf_Work_out nf_Work_sign nf_Work_sides (PySem.W.mg_of X G ac_Choose) (Cls.mk p1_Choose p2_Choose p3_Choose p4_Choose) (Mk.mk p5_Choose q7 fn7 p6_Choose) (Meth.mk q8 fn8 k8) nf_Choose_ins nf_Choose_which nf_Choose_ones nf_Choose_noughts nf_Choose_told (PySem.W.mg_of X G ac_Merge) (Cls.mk p1_Merge p2_Merge p3_Merge p4_Merge) (Mk.mk p5_Merge q9 fn9 p6_Merge) (Meth.mk q10 fn10 k10) nf_Merge_ins nf_Merge_ones nf_Merge_noughts nf_Merge_outs (CMeth.mk g1_Part___init__ g2_Part___init__ g3_Part___init__ k2) (IsK.mk i1_Choose i2_Choose i3_Choose i4_Choose) (IsK.mk i1_Merge i2_Merge i3_Merge i4_Merge) (IsK.mk i1_Pass i2_Pass i3_Pass i4_Pass) (IsK.mk i1_Work i2_Work i3_Work i4_Work) ki_Pass_Pass ki_Pass_Work ki_Pass_Choose ki_Pass_Merge ki_Pass_Part ki_Work_Pass ki_Work_Work ki_Work_Choose ki_Work_Merge ki_Work_Part ki_Choose_Pass ki_Choose_Work ki_Choose_Choose ki_Choose_Merge ki_Choose_Part ki_Merge_Pass ki_Merge_Work ki_Merge_Choose ki_Merge_Merge ki_Merge_Part
  exact ⟨PySem.W.fnOf "law" "law" (defArgs s_law) (defBody s_law) (defScope s_law) .none kV24 dc24 pm24 an24 cd24 ct24, fun s v => .of_eq rfl, fun base _ _ => ok_law T⟩
theorem walk {l : PySem.W.OpenLaw} {q : Program} {loose : List Str} {XP : (Str → Option Value) → Heap → Prop} {YP : World → Heap → Prop} {d : DefRec} {K : Params → PySem.W.Frag} (hn : l.most = some 63) (hdf : d.params.defaults = [])
    (hY : ∀ (w : World) (h : Heap), YP w h → (K w.params).In h)
    (F : ∀ (w : World) (mg : Str → Option Value) (fa : Addr) (h : Heap), (K w.params).In h → h.Ns mainGlobals mg → mg d.name = some (.ref fa) →
      ∃ fd : FuncData, (∀ (s : Shared) (u : Value), BindsTo s fd ⟨[u], []⟩ [("_law_script", u)]) ∧ ∀ base : Heap, (K w.params).In base → base.Ns mainGlobals mg → FnOk l.prog w (K w.params) mg base CX0 9 fa fd ["_law_script"] (sp_law (K w.params))) :
    PySem.W.WalkO q loose XP YP l.row.toRowW d [] (fun f vs => PySem.call f vs) :=
  L2.walk_ofB (n := 63) (k := 9) (x := "_law_script") (CX := fun _ => CX0) (sp := fun w => sp_law (K w.params)) hn (by decide) hdf ⟨rfl, by decide, by decide⟩ hY F (fun _ _ a ns hl hb hO hS => ⟨a, ns, rfl, hS, hl, hb, hO, fun _ => rfl⟩) fun _ _ _ _ _ z => z
end K40
open PySem PySem.W PyProof.Rows
set_option maxRecDepth 100000 in
set_option maxHeartbeats 0 in
theorem PySem.Challenge.cw_handflow_k40_made_holds : PySem.Challenge.rw_handflow_k40_made.Holds := by
  w_on; o_law; k_head; (case hw => w_witness2)
  k_fill
  refine K40.walk (l := PySem.Challenge.rw_handflow_k40_made) rfl rfl (fun w h Y => PySem.W.kIn_of Y) ?F
  case F =>
    intro w mg fa h KX G hmg
    refine' K40.all_mk KX G hmg ?ac_Part ?p1_Part ?p2_Part ?p3_Part ?p4_Part ?p5_Part ?p6_Part ?nf_Part_ins ?ac_Pass ?p1_Pass ?p2_Pass ?p3_Pass ?p4_Pass ?p5_Pass ?p6_Pass ?nf_Pass_ins ?nf_Pass_outs ?nf_Pass_route ?ac_Work ?p1_Work ?p2_Work ?p3_Work ?p4_Work ?p5_Work ?p6_Work ?nf_Work_ins ?nf_Work_out ?nf_Work_sign ?nf_Work_sides ?ac_Choose ?p1_Choose ?p2_Choose ?p3_Choose ?p4_Choose ?p5_Choose ?p6_Choose ?nf_Choose_ins ?nf_Choose_which ?nf_Choose_ones ?nf_Choose_noughts ?nf_Choose_told ?ac_Merge ?p1_Merge ?p2_Merge ?p3_Merge ?p4_Merge ?p5_Merge ?p6_Merge ?nf_Merge_ins ?nf_Merge_ones ?nf_Merge_noughts ?nf_Merge_outs ?i1_Choose ?i2_Choose ?i3_Choose ?i4_Choose ?i1_Merge ?i2_Merge ?i3_Merge ?i4_Merge ?i1_Pass ?i2_Pass ?i3_Pass ?i4_Pass ?i1_Work ?i2_Work ?i3_Work ?i4_Work ?ki_Pass_Pass ?ki_Pass_Work ?ki_Pass_Choose ?ki_Pass_Merge ?ki_Pass_Part ?ki_Work_Pass ?ki_Work_Work ?ki_Work_Choose ?ki_Work_Merge ?ki_Work_Part ?ki_Choose_Pass ?ki_Choose_Work ?ki_Choose_Choose ?ki_Choose_Merge ?ki_Choose_Part ?ki_Merge_Pass ?ki_Merge_Work ?ki_Merge_Choose ?ki_Merge_Merge ?ki_Merge_Part ?a0 ?l0 ?c0 ?k0 ?a1 ?l1 ?c1 ?k1 ?q2 ?fn2 ?l2 ?c2 ?k2 ?q3 ?fn3 ?l3 ?c3 ?k3 ?q4 ?fn4 ?l4 ?c4 ?k4 ?q5 ?fn5 ?l5 ?c5 ?k5 ?q6 ?fn6 ?l6 ?c6 ?k6 ?q7 ?fn7 ?l7 ?c7 ?k7 ?q8 ?fn8 ?l8 ?c8 ?k8 ?q9 ?fn9 ?l9 ?c9 ?k9 ?q10 ?fn10 ?l10 ?c10 ?k10 ?a11 ?l11 ?c11 ?k11 ?a12 ?l12 ?c12 ?k12 ?a13 ?l13 ?c13 ?k13 ?a14 ?l14 ?c14 ?k14 ?a15 ?l15 ?c15 ?k15 ?a16 ?l16 ?c16 ?k16 ?a17 ?l17 ?c17 ?k17 ?a18 ?l18 ?c18 ?k18 ?a19 ?l19 ?c19 ?k19 ?a20 ?l20 ?c20 ?k20 ?a21 ?l21 ?c21 ?k21 ?a22 ?l22 ?c22 ?k22 ?a23 ?l23 ?c23 ?k23 ?a24 ?l24 ?c24 ?k24 ?g1_Part___init__ ?g2_Part___init__ ?g3_Part___init__ ?z_bool ?z_enumerate ?z_int ?z_isinstance ?z_len ?z_list ?z_range ?z_reversed ?z_str ?z_tuple ?z_zip ?c_WHEEL
    (case ac_Part => k_is)
    (case p1_Part => k_is)
    (case p2_Part => k_is)
    (case p3_Part => k_is)
    (case p4_Part => k_is)
    (case p5_Part => k_is)
    (case p6_Part => k_is)
    (case nf_Part_ins => k_is)
    (case ac_Pass => k_is)
    (case p1_Pass => k_is)
    (case p2_Pass => k_is)
    (case p3_Pass => k_is)
    (case p4_Pass => k_is)
    (case p5_Pass => k_is)
    (case p6_Pass => k_is)
    (case nf_Pass_ins => k_is)
    (case nf_Pass_outs => k_is)
    (case nf_Pass_route => k_is)
    (case ac_Work => k_is)
    (case p1_Work => k_is)
    (case p2_Work => k_is)
    (case p3_Work => k_is)
    (case p4_Work => k_is)
    (case p5_Work => k_is)
    (case p6_Work => k_is)
    (case nf_Work_ins => k_is)
    (case nf_Work_out => k_is)
    (case nf_Work_sign => k_is)
    (case nf_Work_sides => k_is)
    (case ac_Choose => k_is)
    (case p1_Choose => k_is)
    (case p2_Choose => k_is)
    (case p3_Choose => k_is)
    (case p4_Choose => k_is)
    (case p5_Choose => k_is)
    (case p6_Choose => k_is)
    (case nf_Choose_ins => k_is)
    (case nf_Choose_which => k_is)
    (case nf_Choose_ones => k_is)
    (case nf_Choose_noughts => k_is)
    (case nf_Choose_told => k_is)
    (case ac_Merge => k_is)
    (case p1_Merge => k_is)
    (case p2_Merge => k_is)
    (case p3_Merge => k_is)
    (case p4_Merge => k_is)
    (case p5_Merge => k_is)
    (case p6_Merge => k_is)
    (case nf_Merge_ins => k_is)
    (case nf_Merge_ones => k_is)
    (case nf_Merge_noughts => k_is)
    (case nf_Merge_outs => k_is)
    (case i1_Choose => k_is)
    (case i2_Choose => k_is)
    (case i3_Choose => k_is)
    (case i4_Choose => k_is)
    (case i1_Merge => k_is)
    (case i2_Merge => k_is)
    (case i3_Merge => k_is)
    (case i4_Merge => k_is)
    (case i1_Pass => k_is)
    (case i2_Pass => k_is)
    (case i3_Pass => k_is)
    (case i4_Pass => k_is)
    (case i1_Work => k_is)
    (case i2_Work => k_is)
    (case i3_Work => k_is)
    (case i4_Work => k_is)
    (case ki_Pass_Pass => kit_is)
    (case ki_Pass_Work => kit_is)
    (case ki_Pass_Choose => kit_is)
    (case ki_Pass_Merge => kit_is)
    (case ki_Pass_Part => kit_is)
    (case ki_Work_Pass => kit_is)
    (case ki_Work_Work => kit_is)
    (case ki_Work_Choose => kit_is)
    (case ki_Work_Merge => kit_is)
    (case ki_Work_Part => kit_is)
    (case ki_Choose_Pass => kit_is)
    (case ki_Choose_Work => kit_is)
    (case ki_Choose_Choose => kit_is)
    (case ki_Choose_Merge => kit_is)
    (case ki_Choose_Part => kit_is)
    (case ki_Merge_Pass => kit_is)
    (case ki_Merge_Work => kit_is)
    (case ki_Merge_Choose => kit_is)
    (case ki_Merge_Merge => kit_is)
    (case ki_Merge_Part => kit_is)
    (case a0 => k_is)
    (case l0 => k_is)
    (case c0 => k_is)
    (case k0 => k_is)
    (case a1 => k_is)
    (case l1 => k_is)
    (case c1 => k_is)
    (case k1 => k_is)
    (case q2 => k_is)
    (case fn2 => k_is)
    (case l2 => k_is)
    (case c2 => k_is)
    (case k2 => k_is)
    (case q3 => k_is)
    (case fn3 => k_is)
    (case l3 => k_is)
    (case c3 => k_is)
    (case k3 => k_is)
    (case q4 => k_is)
    (case fn4 => k_is)
    (case l4 => k_is)
    (case c4 => k_is)
    (case k4 => k_is)
    (case q5 => k_is)
    (case fn5 => k_is)
    (case l5 => k_is)
    (case c5 => k_is)
    (case k5 => k_is)
    (case q6 => k_is)
    (case fn6 => k_is)
    (case l6 => k_is)
    (case c6 => k_is)
    (case k6 => k_is)
    (case q7 => k_is)
    (case fn7 => k_is)
    (case l7 => k_is)
    (case c7 => k_is)
    (case k7 => k_is)
    (case q8 => k_is)
    (case fn8 => k_is)
    (case l8 => k_is)
    (case c8 => k_is)
    (case k8 => k_is)
    (case q9 => k_is)
    (case fn9 => k_is)
    (case l9 => k_is)
    (case c9 => k_is)
    (case k9 => k_is)
    (case q10 => k_is)
    (case fn10 => k_is)
    (case l10 => k_is)
    (case c10 => k_is)
    (case k10 => k_is)
    (case a11 => k_is)
    (case l11 => k_is)
    (case c11 => k_is)
    (case k11 => k_is)
    (case a12 => k_is)
    (case l12 => k_is)
    (case c12 => k_is)
    (case k12 => k_is)
    (case a13 => k_is)
    (case l13 => k_is)
    (case c13 => k_is)
    (case k13 => k_is)
    (case a14 => k_is)
    (case l14 => k_is)
    (case c14 => k_is)
    (case k14 => k_is)
    (case a15 => k_is)
    (case l15 => k_is)
    (case c15 => k_is)
    (case k15 => k_is)
    (case a16 => k_is)
    (case l16 => k_is)
    (case c16 => k_is)
    (case k16 => k_is)
    (case a17 => k_is)
    (case l17 => k_is)
    (case c17 => k_is)
    (case k17 => k_is)
    (case a18 => k_is)
    (case l18 => k_is)
    (case c18 => k_is)
    (case k18 => k_is)
    (case a19 => k_is)
    (case l19 => k_is)
    (case c19 => k_is)
    (case k19 => k_is)
    (case a20 => k_is)
    (case l20 => k_is)
    (case c20 => k_is)
    (case k20 => k_is)
    (case a21 => k_is)
    (case l21 => k_is)
    (case c21 => k_is)
    (case k21 => k_is)
    (case a22 => k_is)
    (case l22 => k_is)
    (case c22 => k_is)
    (case k22 => k_is)
    (case a23 => k_is)
    (case l23 => k_is)
    (case c23 => k_is)
    (case k23 => k_is)
    (case a24 => k_is)
    (case l24 => k_is)
    (case c24 => k_is)
    (case k24 => k_is)
    (case g1_Part___init__ => k_is)
    (case g2_Part___init__ => k_is)
    (case g3_Part___init__ => k_is)
    (case z_bool => k_is)
    (case z_enumerate => k_is)
    (case z_int => k_is)
    (case z_isinstance => k_is)
    (case z_len => k_is)
    (case z_list => k_is)
    (case z_range => k_is)
    (case z_reversed => k_is)
    (case z_str => k_is)
    (case z_tuple => k_is)
    (case z_zip => k_is)
    (case c_WHEEL => k_is)
